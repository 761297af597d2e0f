import PyProof.Rows.All
import Wide.All
import OpenK.AllK
import Wide.FinOn
import Lean
import PyProof.EqAt
import PyProof.EqKinds
import PyProof.TupleCall
import PySem.Challenge.RW_ringmeet_k21_machines_known
set_option Elab.async false
set_option compiler.extract_closed false
set_option linter.all false
set_option maxRecDepth 100000
set_option maxHeartbeats 4000000
open List renaming getElem?_eq_some_iff → gE1, getElem?_append_left → gL1, getElem?_eq_getElem → gG1, mem_of_getElem? → gM1, getElem?_set_ne → gS1, length_append → lA1, length_map → lM1, getElem?_cons_succ → gC1, mem_cons_of_mem → mC1, mem_cons_self → mS1, getElem?_map → gP1, getElem?_append_right → gR1, size_toArray → sT1, map_cons → mP1, length_cons → lC1, length_replicate → lR1, mem_append_right → mA1
open Option renaming bind_eq_some_iff → oB1, map_eq_some_iff → oM1, bind_some → oS1, map_some → oP1
open Nat renaming le_refl → nR1, lt_of_lt_of_le → nL1, ne_of_lt → nN1, ne_of_gt → nG1
open Bool renaming and_eq_true → bA1, false_eq_true → bF1
open Array renaming getElem?_eq_getElem → aG1, getElem?_toList → aT1
open PySem.W renaming Frag → Fg1, nsIn → wN1, keepIn → wK1, codeIn → wC1, fnOf → wF1, mg_of → wM1
open PySem.Heap renaming get?_push_of_some → hP1, get?_push_size → hS1, size_push → hZ1, get?_update_ne → hU1, get?_update_self → hW1
open PySem renaming wpAny_bind → wB1, wpAny_pure → wP1, wpAny_setField_rec → wS1, wpAny_newObj_type → wO1, codeAny_builtin → wD1, wpAny_call_entry → wE1
section
namespace L2
open PySem PySem.Spec PyProof.Rows
noncomputable abbrev Key:=Sum Int Str
noncomputable def keyIs:Key->Value->Bool
 | .inl k,v=>Value.isInt k v
 | .inr x,v=>Value.isStrOf x v
noncomputable def keyH (w:World):Key->Int
 | .inl k=>hashInt k
 | .inr x=>hashStr w x
theorem keyIs_shape:∀ {k:Key} {v:Value},keyIs k v=true->(∃ i t,k=Sum.inl i/\v=Value.int i t)\/(∃ x t,k=Sum.inr x/\v=Value.str x t)
 | .inl i,v,h=>by
  obtain ⟨t,e⟩:=Value.isInt_shape (k:=i) (v:=v) h;exact .inl ⟨i,t,rfl,e⟩
 | .inr x,v,h=>by
  obtain ⟨t,e⟩:=Value.isStrOf_shape (x:=x) (v:=v) h;exact .inr ⟨x,t,rfl,e⟩
theorem keyIs_int (i:Int)(t:Tok):keyIs (.inl i) (.int i t)=true:=by simp [keyIs,Value.isInt]
theorem keyIs_str (x:Str)(t:Tok):keyIs (.inr x) (.str x t)=true:=by simp [keyIs,Value.isStrOf]
theorem key_ll (a b:Int):decide ((Sum.inl a:Key)=Sum.inl b)=(a == b):=by
 by_cases e:a=b
 ·subst e;simp
 ·have h:¬ (Sum.inl a:Key)=Sum.inl b:=fun q=>e (Sum.inl.inj q);rw [decide_eq_false h];exact (beq_eq_false_iff_ne.mpr e).symm
theorem key_rr (a b:Str):decide ((Sum.inr a:Key)=Sum.inr b)=decide (a=b):=by
 by_cases e:a=b
 ·subst e;simp
 ·have h:¬ (Sum.inr a:Key)=Sum.inr b:=fun q=>e (Sum.inr.inj q);rw [decide_eq_false h,decide_eq_false e]
theorem key_lr (a:Int)(b:Str):decide ((Sum.inl a:Key)=Sum.inr b)=false:=decide_eq_false (fun q=>nomatch q)
theorem key_rl (a:Str)(b:Int):decide ((Sum.inr a:Key)=Sum.inl b)=false:=decide_eq_false (fun q=>nomatch q)
noncomputable def mixKind (prog:Program)(w:World):PySem.KeyKind prog w Key where
 is:=keyIs
 hash:=keyH w
 inj:=fun v a b ha hb=>by
  rcases keyIs_shape ha with ⟨i,t,rfl,rfl⟩ | ⟨x,t,rfl,rfl⟩
  ·rcases keyIs_shape hb with ⟨j,u,rfl,e⟩ | ⟨y,u,rfl,e⟩
   ·injection e with e1 _;rw [e1]
   ·exact nomatch e
  ·rcases keyIs_shape hb with ⟨j,u,rfl,e⟩ | ⟨y,u,rfl,e⟩
   ·exact nomatch e
   ·injection e with e1 _;rw [e1]
 byValue:=fun k v h=>by
  rcases keyIs_shape h with ⟨i,t,rfl,rfl⟩ | ⟨x,t,rfl,rfl⟩<;>rfl
 pyHash:=fun hv h=>by
  rcases keyIs_shape hv with ⟨i,t,rfl,rfl⟩ | ⟨x,t,rfl,rfl⟩
  ·exact wpAny_pyHash_int h
  ·exact wpAny_pyHash_str h
 eqBool:=fun hu hv h=>by
  rcases keyIs_shape hu with ⟨i,t,rfl,rfl⟩ | ⟨x,t,rfl,rfl⟩
  ·rcases keyIs_shape hv with ⟨j,u,rfl,rfl⟩ | ⟨y,u,rfl,rfl⟩
   ·rw [key_ll] at h;exact wpAny_eqBool_int h
   ·rw [key_lr] at h;exact SeqAt.EqAt.int_str i t y u _ _ _ _ h
  ·rcases keyIs_shape hv with ⟨j,u,rfl,rfl⟩ | ⟨y,u,rfl,rfl⟩
   ·rw [key_rl] at h;exact SeqAt.EqAt.str_int x t j u _ _ _ _ h
   ·rw [key_rr] at h;exact wpAny_eqBool_str h
 «strs» :=fun k x t v h=>by
  rcases keyIs_shape h with ⟨i,u,rfl,e⟩ | ⟨y,u,rfl,e⟩
  ·exact nomatch e
  ·injection e with e1 _;subst e1;cases v<;>rfl
theorem mixKind_int (prog:Program)(w:World)(i:Int)(t:Tok):(mixKind prog w).is (.inl i) (.int i t)=true:=keyIs_int i t
theorem mixKind_str (prog:Program)(w:World)(x:Str)(t:Tok):(mixKind prog w).is (.inr x) (.str x t)=true:=keyIs_str x t
end L2
namespace L2
open PySem PySem.Spec PyProof.Rows
inductive V where
 | non | bl (b:Bool) | int (i:Int) | str (x:Str) | byt (b:Array UInt8) | flt (b:UInt64) | ref (a:Addr) | ty (n:String)
 deriving DecidableEq
noncomputable def RelV:V->Value->Prop
 | .non,u=>u=Value.none
 | .bl b,u=>u=Value.bool b
 | .int i,u=>∃ t,u=Value.int i t
 | .str x,u=>∃ t,u=Value.str x t
 | .byt b,u=>∃ t,u=Value.bytes b t
 | .flt b,u=>∃ t,u=Value.float b t
 | .ref a,u=>u=Value.ref a
 | .ty n,u=>u=Value.type n
noncomputable abbrev Vals:List V->List Value->Prop:=Paired RelV
theorem Vals.length {xs:List V}{us:List Value}(r:Vals xs us):xs.length=us.length:=Paired.length r
theorem Vals.get:∀ {xs:List V} {us:List Value} {i:Nat} {x:V},Vals xs us->xs[i]? = some x -> ∃ u,us[i]? = some u/\RelV x u:=by
 intro xs us i x h e
 induction h generalizing i with
 | nil=>cases e
 | cons r t ih=>cases i with
  | zero=>cases e;exact ⟨_,rfl,r⟩
  | succ i=>exact ih (i:=i) e
theorem Vals.set {x:V}{u:Value}(r:RelV x u):∀ {xs:List V} {us:List Value} (i:Nat),Vals xs us->Vals (xs.set i x) (us.set i u):=by
 intro xs us i h
 induction h generalizing i with
 | nil=>exact .nil
 | cons q t ih=>cases i with
  | zero=>exact .cons r t
  | succ i=>exact .cons q (ih i)
theorem Vals.append:∀ {xs ys:List V} {us ws:List Value},Vals xs us->Vals ys ws->Vals (xs++ys) (us++ws):=by
 intro xs ys us ws h s
 induction h with
 | nil=>exact s
 | cons r t ih=>exact .cons r ih
theorem Vals.take:∀ {xs:List V} {us:List Value} (n:Nat),Vals xs us->Vals (xs.take n) (us.take n):=by
 intro xs us n h
 induction h generalizing n with
 | nil=>rw [List.take_nil,List.take_nil];exact .nil
 | cons r t ih=>cases n with
  | zero=>exact .nil
  | succ n=>exact .cons r (ih n)
theorem Vals.drop:∀ {xs:List V} {us:List Value} (n:Nat),Vals xs us->Vals (xs.drop n) (us.drop n):=by
 intro xs us n h
 induction h generalizing n with
 | nil=>rw [List.drop_nil,List.drop_nil];exact .nil
 | cons r t ih=>cases n with
  | zero=>exact .cons r t
  | succ n=>exact ih n
noncomputable def RelO:Option V->Option Value->Prop
 | some v,some u=>RelV v u
 | none,none=>True
 | _,_=>False
noncomputable def KV {κ:Type}:List (κ×V)->List (κ×Value)->Prop:=Paired fun (p:κ×V) (q:κ×Value)=>p.1=q.1/\RelV p.2 q.2
noncomputable def kV:Key->V
 | .inl i=>.int i
 | .inr x=>.str x
inductive HO where
 /-- a list -/
 | lst (xs:List V)
 /-- a tuple (never changes) -/
 | tup (xs:List V)
 /-- a dict whose keys are ints and texts; one whose keys are tuples of ints and texts (the empty one is both) -/
 | dK (kvs:List (Key×V)) | dT (kvs:List (List Key×V))
 /-- a set of ints: its members, its size -/
 | set (S:Int->Bool) (n:Nat)
 /-- an instance of the class at C, its dict at dx, its attributes -/
 | ins (C dx:Addr) (fs:List (Str×V))
 /-- the dict of the instance at x -/
 | own (x:Addr)
 /-- the dict of an exception -/
 | xd (fs:List (Str×V))
 /-- a bound method, f of x -/
 | met (f x:Addr)
 /-- a range object lo, lo + 1, .. below hi -/
 | rng (lo hi:Int)
 /-- a thing that is known to the object (the script; a dict while a loop walks it): read, never written while it is so -/
 | frz (o:Obj) (u:HO)
 /-- a code object's table -/
 | tbl (ps:Array Value)
 /-- any other thing, by what is true of its one object (a def of one's own: SetO a S n := HO.ext fun h => ..) -/
 | ext (φ:Heap->Prop)
noncomputable abbrev Hp:=Addr->Option HO
noncomputable def upd (H:Hp)(a:Addr)(o:HO):Hp:=fun b=>if b=a then some o else H b
theorem upd_same {H:Hp}{a:Addr}{o:HO}:upd H a o a=some o:=by unfold upd;rw [if_pos rfl]
theorem upd_ne {H:Hp}{a b:Addr}{o:HO}(h:b≠a):upd H a o b=H b:=by unfold upd;rw [if_neg h]
theorem ne_of {H:Hp}{a b:Addr}{o u:HO}(h:H a=some o)(h':H b=some u)(d:o≠u):a≠b:=by
 intro e;subst e;rw [h] at h';exact d (Option.some.inj h')
theorem ne_of_none {H:Hp}{a b:Addr}{o:HO}(h:H a=some o)(h':H b=none):a≠b:=by
 intro e;subst e;rw [h] at h';cases h'
section
variable (P:Program) (w:World)
noncomputable def ObjOk (H:Hp)(h:Heap)(a:Addr):HO->Prop
 | .lst xs=>xs.length<=sizeLine /\ ∃ (its:List Value) (n:Nat),Vals xs its/\h.get? a=some {cls:=.type "list",data:=.seq its.toArray n}
 | .tup xs=>xs.length<=sizeLine /\ ∃ its:List Value,Vals xs its/\IsTup h a its.toArray
 | .dK kvs=>kvs.length<=sizeLine/\(a == sysModules)=false /\ ∃ vs,KV kvs vs/\h.DictOf (mixKind P w) a vs
 | .dT kvs=>kvs.length<=sizeLine/\(a == sysModules)=false /\ ∃ xs:List (List Key×Addr×Value),
   Paired (fun (p:List Key×V) (q:List Key×Addr×Value)=>p.1=q.1/\H q.2.1=some (.tup (p.1.map kV))/\RelV p.2 q.2.2) kvs xs /\
   ∃ o es ep,h.get? a=some o/\o.ExactDict/\o.data = .dict es ep/\es.toList=xs.map (entryOfKey (tupleKind (mixKind P w)))/\(xs.map (·.1)).Nodup
 | .set S n=>h.SetOf (intKind P w) a S n
 | .ins C dx fs=>H dx=some (.own a)/\fs.length<=1000/\dx≠a/\h.get? a=some (PySem.W.instObj C dx) /\
   ∃ mA,h.Ns1 dx mA/\(∀ f,RelO (fs.lookup f) (mA f))/\PySem.Within mA (fs.map (·.1))
 | .own _=>∃ o,h.get? a=some o
 | .xd fs=>∃ mA,h.Ns1 a mA /\ ∀ f,RelO (fs.lookup f) (mA f)
 | .rng lo hi=>∃ t u v,h.get? a=some {cls:=.type "range",data:=.fields #[.int lo t,.int hi u,.int 1 v]}
 | .frz o u=>h.get? a=some o/\ObjOk H h a u
 | .tbl ps=>h.get? a=some {cls:=.none,data:=.fields ps}
 | .met f x=>h.get? a=some (PySem.W.methodObj (.ref f) (.ref x))
 | .ext φ=>φ h/\(∃ o,h.get? a=some o) /\ ∀ h1 h2:Heap,φ h1->(∀ o,h1.get? a=some o->h2.get? a=some o)->φ h2
noncomputable def HOk (H:Hp)(h:Heap):Prop:=∀ a o,H a=some o->ObjOk P w H h a o
end
section
variable {P:Program} {w:World} {H H':Hp} {h h':Heap} {a:Addr} {o:HO}
theorem ObjOk.lt (x:ObjOk P w H h a o):a<h.objs.size:=by
 cases o with
 | lst xs=>obtain ⟨_,_,_,_,e⟩:=x;exact Heap.lt_size e
 | tup xs=>obtain ⟨_,_,_,p⟩:=x;exact p.lt
 | dK kvs=>obtain ⟨_,_,_,_,o,_,_,e,_⟩:=x;exact Heap.lt_size e
 | dT kvs=>obtain ⟨_,_,_,_,o,_,_,e,_⟩:=x;exact Heap.lt_size e
 | set S n=>obtain ⟨o,_,_,_,e,_⟩:=x;exact Heap.lt_size e
 | ins C dx fs=>obtain ⟨_,_,_,e,_⟩:=x;exact Heap.lt_size e
 | own y=>obtain ⟨_,e⟩:=x;exact Heap.lt_size e
 | xd fs=>obtain ⟨_,⟨_,_,_,e,_⟩,_⟩:=x;exact Heap.lt_size e
 | rng lo hi=>obtain ⟨_,_,_,e⟩:=x;exact Heap.lt_size e
 | frz ob u=>obtain ⟨e,_⟩:=x;exact Heap.lt_size e
 | tbl ps=>exact Heap.lt_size (show h.get? a=some _ from x)
 | met f y=>exact Heap.lt_size (show h.get? a=some _ from x)
 | ext φ=>obtain ⟨_,⟨_,e⟩,_⟩:=x;exact Heap.lt_size e
theorem Paired.mapP {α β:Type}{F G:α->β->Prop}:∀ {l₁:List α} {l₂:List β},Paired F l₁ l₂->(∀ a b,F a b->G a b)->Paired G l₁ l₂:=by
 intro a b h f
 induction h with
 | nil=>exact .nil
 | cons r t ih=>exact .cons (f _ _ r) ih
theorem ObjOk.stay (x:ObjOk P w H h a o)(k:∀ b u,(b=a\/H b=some (.own a))->h.get? b=some u->h'.get? b=some u)
  (ho:∀ b,H b=some (.own a)->H' b=some (.own a)) (ht:∀ b xs,H b=some (.tup xs)->H' b=some (.tup xs)):ObjOk P w H' h' a o:=by
 induction o with
 | lst xs=>obtain ⟨z,its,n,r,e⟩:=x;exact ⟨z,its,n,r,k _ _ (.inl rfl) e⟩
 | tup xs=>obtain ⟨z,its,r,ob,e,c⟩:=x;exact ⟨z,its,r,ob,k _ _ (.inl rfl) e,c⟩
 | dK kvs=>obtain ⟨z,y,vs,r,ob,es,ep,e,c⟩:=x;exact ⟨z,y,vs,r,ob,es,ep,k _ _ (.inl rfl) e,c⟩
 | dT kvs=>
  obtain ⟨z,y,xs,r,ob,es,ep,e,c⟩:=x;exact ⟨z,y,xs,Paired.mapP r fun p q z=>⟨z.1,ht _ _ z.2.1,z.2.2⟩,ob,es,ep,k _ _ (.inl rfl) e,c⟩
 | set S n=>obtain ⟨ob,es,ep,t,e,c⟩:=x;exact ⟨ob,es,ep,t,k _ _ (.inl rfl) e,c⟩
 | ins C dx fs=>
  obtain ⟨d,z,ne,e,mA,⟨od,es,ep,e2,c⟩,r⟩:=x;exact ⟨ho _ d,z,ne,k _ _ (.inl rfl) e,mA,⟨od,es,ep,k _ _ (.inr d) e2,c⟩,r⟩
 | own y=>obtain ⟨ob,e⟩:=x;exact ⟨ob,k _ _ (.inl rfl) e⟩
 | xd fs=>obtain ⟨mA,⟨od,es,ep,e,c⟩,r⟩:=x;exact ⟨mA,⟨od,es,ep,k _ _ (.inl rfl) e,c⟩,r⟩
 | rng lo hi=>obtain ⟨t,u,v,e⟩:=x;exact ⟨t,u,v,k _ _ (.inl rfl) e⟩
 | frz ob u ih=>obtain ⟨e,q⟩:=x;exact ⟨k _ _ (.inl rfl) e,ih q⟩
 | tbl ps=>
  have e:h.get? a=some {cls:=.none,data:=.fields ps}:=x;show h'.get? a=some {cls:=.none,data:=.fields ps};exact k a _ (.inl rfl) e
 | met f y=>
  have e:h.get? a=some (PySem.W.methodObj (.ref f) (.ref y)):=x;show h'.get? a=some (PySem.W.methodObj (.ref f) (.ref y));exact k a _ (.inl rfl) e
 | ext φ=>obtain ⟨p,⟨o,e⟩,st⟩:=x;exact ⟨st _ _ p fun o q=>k _ _ (.inl rfl) q,⟨o,k _ _ (.inl rfl) e⟩,st⟩
theorem HOk.lt (x:HOk P w H h)(e:H a=some o):a<h.objs.size:=(x a o e).lt
theorem HOk.fresh (x:HOk P w H h)(e:h.objs.size<=a):H a=none:=by
 cases q:H a with
 | none=>rfl
 | some u=>exact absurd (nL1 (x.lt q) e) (Nat.lt_irrefl _)
theorem HOk.kept (x:HOk P w H h)(k:∀ b u,h.get? b=some u->h'.get? b=some u):HOk P w H h':=fun a o e=>
 (x a o e).stay (fun b u _ q=>k b u q) (fun _ q=>q) fun _ _ q=>q
theorem HOk.laid (x:HOk P w H h)(k:∀ b u,h.get? b=some u->h'.get? b=some u)(hp:h.objs.size<=a)(new:ObjOk P w (upd H a o) h' a o):HOk P w (upd H a o) h':=fun b u e=>by
 have hn:=x.fresh hp;by_cases hb:b=a
 ·subst hb;rw [upd_same] at e;cases e;exact new
 ·rw [upd_ne hb] at e;exact (x b u e).stay (fun c v _ q=>k c v q) (fun c q=>by rw [upd_ne (ne_of_none q hn)];exact q) fun c xs q=>by rw [upd_ne (ne_of_none q hn)];exact q
end
noncomputable def Rd (H:Hp)(a:Addr)(u:HO):Prop:=H a=some u \/ ∃ o,H a=some (.frz o u)
theorem Rd.ok {P:Program}{w:World}{H:Hp}{h:Heap}{a:Addr}{u:HO}(r:Rd H a u)(x:HOk P w H h):ObjOk P w H h a u:=by
 rcases r with r | ⟨o,r⟩
 ·exact x a u r
 ·obtain ⟨_,q⟩:=x a _ r;exact q
noncomputable def Mut:Option HO->Prop
 | some (.lst _)=>True
 | some (.dK _)=>True
 | some (.dT _)=>True
 | some (.set _ _)=>True
 | some (.ins _ _ _)=>True
 | some (.ext _)=>True
 | _=>False
section
variable {P:Program} {w:World} {H:Hp} {h h':Heap} {x e:Addr} {o':HO}
theorem HOk.write (ok:HOk P w H h)(mu:Mut (H x))(he:e=x\/H e=some (.own x))(k:∀ b u,b≠e->h.get? b=some u->h'.get? b=some u)(heo:∃ u,h'.get? e=some u)
  (new:ObjOk P w (upd H x o') h' x o'):HOk P w (upd H x o') h':=fun b u q=>by
 have nown:∀ c y,H c=some (.own y)->c≠x:=fun c y r z=>by subst z;rw [r] at mu;exact mu
 have ntup:∀ c xs,H c=some (.tup xs)->c≠x:=fun c xs r z=>by subst z;rw [r] at mu;exact mu
 by_cases hb:b=x
 ·subst hb;rw [upd_same] at q;cases q;exact new
 ·rw [upd_ne hb] at q;by_cases hbe:b=e
  ·have q':H b=some (.own x):=by
    rcases he with z | z
    ·exact absurd (hbe.trans z) hb
    ·rw [hbe];exact z
   rw [q] at q';cases q';obtain ⟨v,hv⟩:=heo;exact ⟨v,by rw [hbe];exact hv⟩
  ·refine (ok b u q).stay (fun c v hc r=>k c v ?_ r) (fun c r=>by rw [upd_ne (nown c b r)];exact r) fun c xs r=>by rw [upd_ne (ntup c xs r)];exact r
   rcases hc with rfl | hc
   ·exact hbe
   ·rintro rfl;rcases he with z | z
    ·exact nown c b hc z
    ·rw [hc] at z;cases z;exact hb rfl
end
structure Un (fs ex:List Addr)(H H':Hp)(h h':Heap):Prop where
 keep:∀ b o,h.get? b=some o->H b=none->b∉fs->b∉ex->h'.get? b=some o
 slot:∀ b o,h.get? b=some o->H b=none->b∈fs->b∉ex -> ∃ sl,h'.get? b=some {o with slots:=sl}
 free:∀ b o,h.get? b=some o->H b=none->b∉ex->H' b=none
 there:∀ b o,h.get? b=some o->b∉ex -> ∃ o',h'.get? b=some o'
 tups:∀ b xs,H b=some (.tup xs)->H' b=some (.tup xs)
 frzs:∀ b o u,H b=some (.frz o u)->H' b=some (.frz o u)
 tbls:∀ b ps,H b=some (.tbl ps) -> ∃ more,H' b=some (.tbl (ps++more))
section
variable {fs fs' ex ex':List Addr} {H H1 H2:Hp} {h h1 h2 h':Heap} {a x e:Addr} {o:HO}
theorem Un.any (u:Un fs ex H H1 h h1){b:Addr}{ob:Obj}(q:h.get? b=some ob)(n:H b=none)(hx:b∉ex):∃ sl,h1.get? b=some {ob with slots:=sl}:=by
 by_cases hb:b∈fs
 ·exact u.slot b ob q n hb hx
 ·exact ⟨ob.slots,u.keep b ob q n hb hx⟩
theorem Un.trans (a:Un fs ex H H1 h h1)(b:Un fs ex H1 H2 h1 h2):Un fs ex H H2 h h2 where
 keep:=fun c ob q n hc hx=>b.keep c ob (a.keep c ob q n hc hx) (a.free c ob q n hx) hc hx
 slot:=fun c ob q n hc hx=>by
  obtain ⟨sl,e1⟩:=a.slot c ob q n hc hx;obtain ⟨sl',e2⟩:=b.slot c _ e1 (a.free c ob q n hx) hc hx;exact ⟨sl',e2⟩
 free:=fun c ob q n hx=>by
  obtain ⟨o',e1⟩:=a.there c ob q hx;exact b.free c o' e1 (a.free c ob q n hx) hx
 there:=fun c ob q hx=>by
  obtain ⟨o',e1⟩:=a.there c ob q hx;exact b.there c o' e1 hx
 tups:=fun c xs q=>b.tups c xs (a.tups c xs q)
 frzs:=fun c ob xs q=>b.frzs c ob xs (a.frzs c ob xs q)
 tbls:=fun c ps q=>by
  obtain ⟨m1,e1⟩:=a.tbls c ps q;obtain ⟨m2,e2⟩:=b.tbls c _ e1;exact ⟨m1++m2,by rw [e2,Array.append_assoc]⟩
theorem Un.kept (k:∀ b u,h.get? b=some u->h'.get? b=some u):Un fs ex H H h h':=
 ⟨fun b ob q _ _ _=>k b ob q,fun b ob q _ _ _=>⟨ob.slots,k b ob q⟩,fun _ _ _ n _=>n,fun b ob q _=>⟨ob,k b ob q⟩,fun _ _ q=>q,fun _ _ _ q=>q,fun _ ps q=>⟨#[],by rw [q];simp⟩⟩
theorem Un.refl:Un fs ex H H h h:=Un.kept fun _ _ q=>q
theorem Un.laid (k:∀ b u,h.get? b=some u->h'.get? b=some u)(hp:h.objs.size<=a)(hn:H a=none):Un fs ex H (upd H a o) h h' where
 keep:=fun b u q _ _ _=>k b u q
 slot:=fun b u q _ _ _=>⟨u.slots,k b u q⟩
 free:=fun b u q n _=>by rw [upd_ne (nN1 (nL1 (Heap.lt_size q) hp))];exact n
 there:=fun b u q _=>⟨u,k b u q⟩
 tups:=fun b xs q=>by rw [upd_ne (ne_of_none q hn)];exact q
 frzs:=fun b u xs q=>by rw [upd_ne (ne_of_none q hn)];exact q
 tbls:=fun b ps q=>⟨#[],by rw [upd_ne (ne_of_none q hn),q];simp⟩
theorem Un.write (mu:Mut (H x))(he:e=x\/H e=some (.own x))(k:∀ b u,b≠e->h.get? b=some u->h'.get? b=some u)(heo:∃ u,h'.get? e=some u):Un fs ex H (upd H x o) h h':=by
 have hx:∀ b,H b=none->b≠x:=fun b n z=>by subst z;rw [n] at mu;exact mu
 have hb:∀ b,H b=none->b≠e:=fun b n z=>by
  subst z;rcases he with r | r
  ·exact hx b n r
  ·rw [n] at r;cases r
 have hm:∀ b u,H b=some u -> ¬ Mut (some u)->b≠x:=fun b u q nm z=>by subst z;rw [q] at mu;exact nm mu
 refine ⟨fun b u q n _ _=>k b u (hb b n) q,fun b u q n _ _=>⟨u.slots,k b u (hb b n) q⟩,fun b u q n _=>by rw [upd_ne (hx b n)];exact n,fun b u q _=>?_,
  fun b xs q=>by rw [upd_ne (hm b _ q fun z=>z)];exact q,fun b u xs q=>by rw [upd_ne (hm b _ q fun z=>z)];exact q,fun b ps q=>⟨#[],by rw [upd_ne (hm b _ q fun z=>z),q];simp⟩⟩
 by_cases hbe:b=e
 ·subst hbe;exact heo
 ·exact ⟨u,k b u hbe q⟩
theorem Un.mono (u:Un fs ex H H1 h h1)(hs:∀ b∈fs,b∈fs')(hx:∀ b∈ex,b∈ex'):Un fs' ex' H H1 h h1:=
 ⟨fun b ob q n hb he=>u.keep b ob q n (fun z=>hb (hs b z)) fun z=>he (hx b z),fun _ _ q n _ he=>u.any q n fun z=>he (hx _ z),fun b ob q n he=>u.free b ob q n fun z=>he (hx b z),fun b ob q he=>u.there b ob q fun z=>he (hx b z),u.tups,u.frzs,u.tbls⟩
end
noncomputable def trk (h:Heap)(H:Hp):List Addr:=(List.range h.objs.size).filter fun a=>(H a).isSome
noncomputable def hidT (h:Heap)(H:Hp):Heap:=PySem.W.hideAll h (trk h H)
theorem hidT_size (h:Heap)(H:Hp):(hidT h H).objs.size=h.objs.size:=PySem.W.hideAll_size _ _
theorem hidT_get {h:Heap}{H:Hp}{b:Addr}{o:Obj}(e:h.get? b=some o)(n:H b=none):(hidT h H).get? b=some o:=
 PySem.W.hideAll_get _ e fun hm=>by
  have q:(H b).isSome=true:=(List.mem_filter.mp hm).2;rw [n] at q;simp at q
theorem of_hidT {h:Heap}{H:Hp}{b:Addr}{o:Obj}(e:(hidT h H).get? b=some o):h.get? b=some o/\H b=none:=by
 have e':h.get? b=some o:=PySem.W.of_hideAll (trk h H) e;refine ⟨e',?_⟩;cases q:H b with
 | none=>rfl
 | some x=>
  have hm:b∈trk h H:=List.mem_filter.mpr ⟨List.mem_range.mpr (Heap.lt_size e'),by simp [q]⟩;have z:(hidT h H).get? b=none:=PySem.W.hideAll_none (trk h H) hm;rw [z] at e;cases e
noncomputable def allNews (g h:Heap)(L:Addr):List (Addr×Obj):=(List.range h.objs.size).filterMap fun a=>if a=L\/(g.get? a).isSome=true then none else (h.get? a).map fun o=>(a,o)
noncomputable def rest (g h:Heap)(L d:Addr):List (Addr×Obj):=(allNews g h L).filter fun p=>decide (p.1≠d)
end L2
namespace L2
open PySem PySem.Spec PyProof.Rows
structure Mod (K:Fg1)(mg:Str->Option Value)(base:Heap):Prop where
 kin:K.In base
 glob:base.Ns mainGlobals mg
 blt:∃ mb,base.Ns builtinsNs mb /\ ∀ x:Str,x≠"__name__"->mb x=bootBuiltins x
 nolimit:base.NoLimit
structure Cx where
 prog:Program
 w:World
 K:Fg1
 mg:Str->Option Value
 base:Heap
 A:Around
 N:List Str
 s₀:Shared
 H₀:Hp
 env:Env
 outer:List Env
 stack:List Env
 ex:List Addr
 fn:Str->Bool
 calm:Bool
 pn:List (Addr×Obj)
 xe:Value->Shared->Prop
noncomputable def frs (l:List Env):List Addr:=l.filterMap (·.frame)
noncomputable abbrev Cx.fs (X:Cx):List Addr:=frs X.outer
noncomputable def Vis (sc:Scope)(x:Str):Prop:=sc.names.lookup x=some .local\/sc.names.lookup x=some .cell\/sc.names.lookup x=some .free
noncomputable def Loc (sc:Scope)(x:Str):Prop:=sc.names.lookup x=some .local\/sc.names.lookup x=some .cell
noncomputable def Look (env:Env)(h:Heap)(m:Str->Option Value)(x:Str)(u:Value):Prop:=
 (env.kindOf x=some .local/\m x=some u)\/((env.kindOf x=some .cell\/env.kindOf x=some .free) /\ ∃ c,env.cells.lookup x=some c/\h.IsCell c (some u))
structure Cx.Ok (X:Cx):Prop where
 mod:Mod X.K X.mg X.base
 kind:X.env.scope.kind = .function
 glob:X.env.globals=mainGlobals
 blt:X.env.builtins=builtinsNs
 above:X.s₀.heap.objs.size<=X.env.locals
 inj:∀ x y c,X.env.cells.lookup x=some c->X.env.cells.lookup y=some c->x=y
 has:∀ x,(X.env.kindOf x=some .cell\/X.env.kindOf x=some .free) -> ∃ c,X.env.cells.lookup x=some c
 cab:∀ x c,X.fn x=true->X.env.cells.lookup x=some c->X.s₀.heap.objs.size<=c
 hd:X.calm=true->X.A.handled=none
 frames:X.A.frames=some X.stack
 stk:X.stack=X.outer\/(X.stack=X.env::X.outer/\X.env.frame=some X.env.locals)
 exf:∀ b∈X.ex,b≠X.env.locals /\ ∀ x c,X.env.cells.lookup x=some c->c≠b
 bs:∀ b o,X.base.get? b=some o->X.s₀.heap.get? b=some o/\X.H₀ b=none
 bsz:X.base.objs.size<=X.s₀.heap.objs.size
 noex:∀ b o,X.base.get? b=some o->b∉X.ex
 exfs:∀ b∈X.ex,b∉X.fs
 funs:X.s₀.heap.FunFrames X.base X.outer
 frf:∀ b∈X.fs,X.H₀ b=none
structure Inv (X:Cx)(pins:List (Addr×Obj))(σ:List (Option V))(H:Hp)(s:Shared):Prop where
 ok:X.Ok
 os:s.os=X.s₀.os
 bare:AllBare s.gens
 base:Un X.fs X.ex X.H₀ H X.s₀.heap s.heap
 loc:∃ m,s.heap.Ns X.env.locals m /\ ∀ (i:Nat) (x:Str) (v:V),X.N[i]? = some x->σ[i]? = some (some v)->Vis X.env.scope x -> ∃ u,RelV v u/\Look X.env s.heap m x u
 cell:∀ x c,X.env.cells.lookup x=some c -> ∃ v,s.heap.IsCell c v
 free:H X.env.locals=none
 freeC:∀ x c,X.env.cells.lookup x=some c->H c=none
 pin:∀ p∈X.pn++pins,s.heap.get? p.1=some p.2/\H p.1=none/\p.1≠X.env.locals/\p.1∉X.fs /\ ∀ v,p.2.data ≠ .cell v
 hok:HOk X.prog X.w H s.heap
 len:σ.length=X.N.length
section
variable {X:Cx} {pins:List (Addr×Obj)} {σ:List (Option V)} {H H':Hp} {s:Shared} {h':Heap}
theorem Cx.Ok.nofr (ok:X.Ok){b:Addr}{o:Obj}(e:X.base.get? b=some o):b∉X.fs:=fun hb=>by
 have:=(ok.funs.mem hb).1;rw [e] at this;cases this
theorem Inv.bs (I:Inv X pins σ H s):∀ b o,X.base.get? b=some o->s.heap.get? b=some o/\H b=none:=fun b o e=>
 ⟨I.base.keep b o (I.ok.bs b o e).1 (I.ok.bs b o e).2 (I.ok.nofr e) (I.ok.noex b o e),I.base.free b o (I.ok.bs b o e).1 (I.ok.bs b o e).2 (I.ok.noex b o e)⟩
theorem Inv.bk (I:Inv X pins σ H s):∀ b o,X.base.get? b=some o->s.heap.get? b=some o:=fun b o e=>(I.bs b o e).1
theorem Inv.mod (I:Inv X pins σ H s):Mod X.K X.mg X.base:=I.ok.mod
theorem Inv.kIn (I:Inv X pins σ H s):X.K.In s.heap:=I.ok.mod.kin.keeps I.bk
theorem Inv.lt (I:Inv X pins σ H s):X.env.locals<s.heap.objs.size:=let ⟨_,hn,_⟩:=I.loc;hn.lt
theorem Inv.sz (I:Inv X pins σ H s):X.s₀.heap.objs.size<=s.heap.objs.size:=Nat.le_trans I.ok.above (Nat.le_of_lt I.lt)
theorem Inv.nofs (I:Inv X pins σ H s){a:Addr}(h:s.heap.objs.size<=a):a∉X.fs:=fun hb=>by
 obtain ⟨_,o,ho,_⟩:=I.ok.funs.mem hb;exact absurd (nL1 (Heap.lt_size ho) (Nat.le_trans I.sz h)) (Nat.lt_irrefl _)
theorem Inv.cne (I:Inv X pins σ H s):∀ x c,X.env.cells.lookup x=some c->c≠X.env.locals:=fun x c e z=>by
 obtain ⟨v,o,ho,hd⟩:=I.cell x c e;obtain ⟨m,⟨o',es,ep,ho',hd',_⟩,_⟩:=I.loc;rw [z,ho'] at ho;cases ho;rw [hd'] at hd;cases hd
theorem Inv.funs (I:Inv X pins σ H s):s.heap.FunFrames X.base X.outer:=by
 have all:∀ (l:List Env),(∀ b∈frs l,b∈X.fs)->X.s₀.heap.FunFrames X.base l->s.heap.FunFrames X.base l:=by
  intro l
  induction l with
  | nil=>intro _ _;trivial
  | cons env r ih=>
   intro hs hl;obtain ⟨hk,⟨L,o,hf,hn,ho,hd⟩,hr⟩:=hl;have hL:L∈X.fs:=hs L (by unfold frs;rw [List.filterMap_cons,hf];exact mS1);obtain ⟨sl,e⟩:=I.base.slot L o ho (I.ok.frf L hL) hL fun z=>I.ok.exfs L z hL;exact ⟨hk,⟨L,_,hf,hn,e,hd⟩,ih (fun b hb=>hs b (by unfold frs;rw [List.filterMap_cons,hf];exact mC1 _ hb)) hr⟩
 exact all X.outer (fun _ hb=>hb) I.ok.funs
theorem Inv.stack (I:Inv X pins σ H s):s.heap.FunFrames X.base X.stack:=by
 rcases I.ok.stk with e | ⟨e,hf⟩
 ·rw [e];exact I.funs
 ·rw [e];obtain ⟨m,hn,_⟩:=I.loc;refine .cons (by rw [I.ok.kind];decide) hf hn ?_ I.funs;exact Heap.get?_none_of_le (Nat.le_trans I.ok.bsz I.ok.above)
theorem Inv.stkSub (I:Inv X pins σ H s):∀ b∈frs X.stack,b∈X.env.locals::X.fs:=fun b hb=>by
 rcases I.ok.stk with e | ⟨e,hf⟩
 ·rw [e] at hb;exact mC1 _ hb
 ·rw [e] at hb;unfold frs at hb;rw [List.filterMap_cons,hf] at hb;exact hb
theorem Inv.stkFree (I:Inv X pins σ H s):∀ b∈frs X.stack,H b=none:=fun b hb=>by
 rcases List.mem_cons.mp (I.stkSub b hb) with e | hb
 ·rw [e];exact I.free
 ·obtain ⟨_,o,ho,_⟩:=I.ok.funs.mem hb;exact I.base.free b o ho (I.ok.frf b hb) fun z=>I.ok.exfs b z hb
theorem Inv.step {g':Array GenState}{t':Nat}{d':Drawn}{ch:List Addr}(I:Inv X pins σ H s)
  (hch:∀ b∈ch,(b∈X.ex\/X.s₀.heap.objs.size<=b)/\b≠X.env.locals/\(∀ x c,X.env.cells.lookup x=some c->c≠b) /\ ∀ p∈X.pn++pins,p.1≠b)
  (keep:∀ b o,b≠X.env.locals->b∉X.fs->b∉ch->s.heap.get? b=some o->H b=none->h'.get? b=some o)
  (slot:∀ b o,b≠X.env.locals->b∈X.fs->b∉ch->s.heap.get? b=some o->H b=none -> ∃ sl,h'.get? b=some {o with slots:=sl}) (free:∀ b o,b∉ch->s.heap.get? b=some o->H b=none->H' b=none)
  (there:∀ b o,b∉ch->s.heap.get? b=some o -> ∃ o',h'.get? b=some o')
  (tups:∀ b xs,H b=some (.tup xs)->H' b=some (.tup xs)) (frzs:∀ b o u,H b=some (.frz o u)->H' b=some (.frz o u)) (tbls:∀ b ps,H b=some (.tbl ps) -> ∃ more,H' b=some (.tbl (ps++more)))
  (ns:∀ m,s.heap.Ns X.env.locals m->h'.Ns X.env.locals m) (hok:HOk X.prog X.w H' h') (hg:AllBare g'):
  Inv X pins σ H' {s with heap:=h',gens:=g',drawn:=d',toks:=t'}:=by
 have neL:∀ b o,X.s₀.heap.get? b=some o->b≠X.env.locals:=fun b o e=>nN1 (nL1 (Heap.lt_size e) I.ok.above);have neC:∀ b o,X.s₀.heap.get? b=some o->b∉X.ex->b∉ch:=fun b o e hx hb=>by
  rcases (hch b hb).1 with z | z
  ·exact hx z
  ·exact absurd (nL1 (Heap.lt_size e) z) (Nat.lt_irrefl _)
 have cellK:∀ x c,X.env.cells.lookup x=some c -> ∀ v,s.heap.IsCell c v->h'.IsCell c v:=fun x c e v ⟨o,ho,hd⟩=>by
  have nch:c∉ch:=fun z=>(hch c z).2.2.1 x c e rfl;by_cases hc:c∈X.fs
  ·obtain ⟨sl,q⟩:=slot c o (I.cne x c e) hc nch ho (I.freeC x c e);exact ⟨_,q,hd⟩
  ·exact ⟨o,keep c o (I.cne x c e) hc nch ho (I.freeC x c e),hd⟩
 refine ⟨I.ok,I.os,hg,⟨fun b o e n hb hx=>?_,fun b o e n hb hx=>?_,fun b o e n hx=>?_,fun b o e hx=>?_,fun b xs e=>tups b xs (I.base.tups b xs e),fun b o xs e=>frzs b o xs (I.base.frzs b o xs e),fun b ps e=>?_⟩,?_,fun x c e=>?_,?_,fun x c e=>?_,fun p hp=>?_,hok,I.len⟩
 ·exact keep b o (neL b o e) hb (neC b o e hx) (I.base.keep b o e n hb hx) (I.base.free b o e n hx)
 ·obtain ⟨sl,e1⟩:=I.base.slot b o e n hb hx;obtain ⟨sl',e2⟩:=slot b _ (neL b o e) hb (neC b o e hx) e1 (I.base.free b o e n hx);exact ⟨sl',e2⟩
 ·obtain ⟨o',e1⟩:=I.base.there b o e hx;exact free b o' (neC b o e hx) e1 (I.base.free b o e n hx)
 ·obtain ⟨o',e1⟩:=I.base.there b o e hx;exact there b o' (neC b o e hx) e1
 ·obtain ⟨m1,e1⟩:=I.base.tbls b ps e;obtain ⟨m2,e2⟩:=tbls b _ e1;exact ⟨m1++m2,by rw [e2,Array.append_assoc]⟩
 ·obtain ⟨m,hn,hl⟩:=I.loc;refine ⟨m,ns m hn,fun i x v e1 e2 e3=>?_⟩;obtain ⟨u,r,l⟩:=hl i x v e1 e2 e3;refine ⟨u,r,?_⟩;rcases l with l | ⟨k,c,e,z⟩
  ·exact .inl l
  ·exact .inr ⟨k,c,e,cellK x c e _ z⟩
 ·obtain ⟨v,z⟩:=I.cell x c e;exact ⟨v,cellK x c e v z⟩
 ·obtain ⟨m,⟨o,_,_,ho,_⟩,_⟩:=I.loc;exact free _ o (fun z=>(hch _ z).2.1 rfl) ho I.free
 ·obtain ⟨v,o,ho,hd⟩:=I.cell x c e;exact free c o (fun z=>(hch c z).2.2.1 x c e rfl) ho (I.freeC x c e)
 ·obtain ⟨e,n,ne,nf,d⟩:=I.pin p hp;have nch:p.1∉ch:=fun z=>(hch p.1 z).2.2.2 p hp rfl;exact ⟨keep p.1 p.2 ne nf nch e n,free p.1 p.2 nch e n,ne,nf,d⟩
theorem Inv.un {t':Nat}(I:Inv X pins σ H s)(u:Un X.fs [] H H' s.heap h')(hok:HOk X.prog X.w H' h'):Inv X pins σ H' {s with heap:=h',toks:=t'}:=by
 obtain ⟨m,⟨o,es,ep,ho,r⟩,_⟩:=id I.loc;obtain ⟨sl,hL⟩:=u.any ho I.free (by simp);exact I.step (g':=s.gens) (d':=s.drawn) (ch:=[]) (fun _ z=>nomatch z) (fun b o _ hb _ e n=>u.keep b o e n hb (by simp)) (fun b o _ hb _ e n=>u.slot b o e n hb (by simp)) (fun b o _ e n=>u.free b o e n (by simp)) (fun b o _ e=>u.there b o e (by simp)) u.tups u.frzs u.tbls (fun m' hm=>by
  obtain ⟨o',es',ep',ho',r'⟩:=hm;rw [ho] at ho';cases ho';exact ⟨_,es',ep',hL,r'⟩) hok I.bare
theorem Inv.call {g':Array GenState}{t':Nat}{d':Drawn}{ch:List Addr}(I:Inv X pins σ H s)(u:Un (frs X.stack) ch H H' s.heap h')(hok:HOk X.prog X.w H' h')(hg:AllBare g')
  (hch:∀ b∈ch,(b∈X.ex\/X.s₀.heap.objs.size<=b)/\b≠X.env.locals/\(∀ x c,X.env.cells.lookup x=some c->c≠b) /\ ∀ p∈X.pn++pins,p.1≠b):
  Inv X pins σ H' {s with heap:=h',gens:=g',drawn:=d',toks:=t'}:=by
 obtain ⟨m,⟨o,es,ep,ho,r⟩,_⟩:=id I.loc;obtain ⟨sl,hL⟩:=u.any ho I.free fun z=>(hch _ z).2.1 rfl;exact I.step (ch:=ch) hch (fun b o hL hb hc e n=>u.keep b o e n (fun z=>(List.mem_cons.mp (I.stkSub b z)).elim hL hb) hc) (fun b o _ _ hc e n=>u.any e n hc) (fun b o hc e n=>u.free b o e n hc) (fun b o hc e=>u.there b o e hc) u.tups u.frzs u.tbls (fun m' hm=>by
  obtain ⟨o',es',ep',ho',r'⟩:=hm;rw [ho] at ho';cases ho';exact ⟨_,es',ep',hL,r'⟩) hok hg
theorem Inv.turned {t':Nat}{it:Addr}(I:Inv X pins σ H s)(k:∀ b o,b≠it->s.heap.get? b=some o->h'.get? b=some o)(hn:H it=none)(hL:it≠X.env.locals)
  (h1:it∈X.ex\/X.s₀.heap.objs.size<=it) (h2:∀ x c,X.env.cells.lookup x=some c->c≠it) (h3:∀ p∈X.pn++pins,p.1≠it):Inv X pins σ H {s with heap:=h',toks:=t'}:=by
 have nit:∀ b u,H b=some u->b≠it:=fun b u e z=>by rw [z,hn] at e;cases e
 refine I.step (g':=s.gens) (d':=s.drawn) (ch:=[it]) (fun b hb=>?_) (fun b o _ _ hc e _=>k b o (fun z=>hc (by simp [z])) e) (fun b o _ _ hc e _=>⟨o.slots,k b o (fun z=>hc (by simp [z])) e⟩) (fun _ _ _ _ n=>n)
  (fun b o hc e=>⟨o,k b o (fun z=>hc (by simp [z])) e⟩) (fun _ _ e=>e) (fun _ _ _ e=>e) (fun b ps e=>⟨#[],by rw [e];simp⟩) (fun m hm=>?_) (fun b u e=>?_) I.bare
 ·have e:b=it:=by simpa using hb
  subst e;exact ⟨h1,hL,h2,h3⟩
 ·obtain ⟨o,es,ep,ho,r⟩:=hm;exact ⟨o,es,ep,k _ o (Ne.symm hL) ho,r⟩
 ·refine (I.hok b u e).stay (fun c v hc q=>k c v ?_ q) (fun _ q=>q) fun _ _ q=>q;rcases hc with z | z
  ·rw [z];exact nit b u e
  ·exact nit c _ z
theorem Inv.tok (I:Inv X pins σ H s)(t:Nat):Inv X pins σ H {s with toks:=t}:=I.un (h':=s.heap) (t':=t) Un.refl I.hok
theorem Inv.kept {t':Nat}(I:Inv X pins σ H s)(k:∀ b u,s.heap.get? b=some u->h'.get? b=some u):Inv X pins σ H {s with heap:=h',toks:=t'}:=I.un (Un.kept k) (I.hok.kept k)
theorem Inv.laid {a:Addr}{o:HO}{t':Nat}(I:Inv X pins σ H s)(k:∀ b u,s.heap.get? b=some u->h'.get? b=some u)(hp:s.heap.objs.size<=a)(new:ObjOk X.prog X.w (upd H a o) h' a o):
  Inv X pins σ (upd H a o) {s with heap:=h',toks:=t'}:=I.un (Un.laid k hp (I.hok.fresh hp)) (I.hok.laid k hp new)
theorem Inv.write {x e:Addr}{o:HO}{t':Nat}(I:Inv X pins σ H s)(mu:Mut (H x))(he:e=x\/H e=some (.own x))(k:∀ b u,b≠e->s.heap.get? b=some u->h'.get? b=some u)(heo:∃ u,h'.get? e=some u)
  (new:ObjOk X.prog X.w (upd H x o) h' x o):Inv X pins σ (upd H x o) {s with heap:=h',toks:=t'}:=I.un (Un.write mu he k heo) (I.hok.write mu he k heo new)
theorem Inv.pins_of {pins':List (Addr×Obj)}(I:Inv X pins σ H s)(h:∀ p∈pins',s.heap.get? p.1=some p.2/\H p.1=none/\p.1≠X.env.locals/\p.1∉X.fs /\ ∀ v,p.2.data ≠ .cell v):Inv X pins' σ H s:=
 ⟨I.ok,I.os,I.bare,I.base,I.loc,I.cell,I.free,I.freeC,fun p hp=>(List.mem_append.mp hp).elim (fun z=>I.pin p (List.mem_append_left _ z)) (h p),I.hok,I.len⟩
theorem nodup_ix {N:List Str}(hN:N.Nodup){i j:Nat}{x:Str}(a:N[i]? = some x)(b:N[j]? = some x):i=j:=by
 obtain ⟨h1,e1⟩:=gE1.mp a;obtain ⟨h2,e2⟩:=gE1.mp b;exact (List.getElem_inj hN).mp (e1.trans e2.symm)
theorem store_ok2 {M:Model}{A:Around}{E:Value->Shared->Prop}{i:Nat}{x:Str}{v:V}{u:Value}{Q:Unit->Shared->Prop}(I:Inv X pins σ H s)(hN:X.N.Nodup)(hi:X.N[i]? = some x)(hx:Loc X.env.scope x)(r:RelV v u)
  (h:∀ s',Inv X pins (σ.set i (some v)) H s'->(∃ a,Heap.SameBut a s.heap s'.heap/\(a=X.env.locals\/X.env.cells.lookup x=some a))->Q () s') (hf:X.fn x=true\/X.env.scope.names.lookup x=some .local:=by first | exact .inl rfl | exact .inr rfl | assumption):wpAny M A (storeName X.env x u) Q E s:=by
 obtain ⟨m,hn,hl⟩:=id I.loc;have hcls:(X.env.scope.kind == .class||(X.env.scope.kind == .module&&X.env.locals != X.env.globals))=false:=by rw [I.ok.kind];rfl
 have hiσ:i<σ.length:=by rw [I.len];exact (gE1.mp hi).1
 have cne:=I.cne;have tracked:∀ {a:Addr} {h':Heap},(∃ o,s.heap.get? a=some o/\H a=none)->Heap.SameBut a s.heap h'->HOk X.prog X.w H h':=fun {a h'} ha hs b ob e=>by
  obtain ⟨_,_,hfree⟩:=ha;refine (I.hok b ob e).stay (fun c w' hc q=>(hs.2 c ?_).trans q) (fun _ q=>q) fun _ _ q=>q;rintro rfl;rcases hc with rfl | hc
  ·rw [hfree] at e;cases e
  ·rw [hfree] at hc;cases hc
 rcases hx with hk | hk
 ·refine wpAny_storeName_local hk hn (fun h' hn' hs=>?_) hcls;obtain ⟨oL,_,_,hoL,_⟩:=id hn;refine h _ ⟨I.ok,I.os,I.bare,⟨fun b o e n hb hx=>?_,fun b o e n hb hx=>?_,I.base.free,fun b o e hx=>?_,I.base.tups,I.base.frzs,I.base.tbls⟩,⟨_,hn',fun j y v' e1 e2 e3=>?_⟩,fun y c e=>?_,I.free,I.freeC,fun p hp=>?_,tracked ⟨oL,hoL,I.free⟩ hs,by simpa using I.len⟩ ⟨_,hs,.inl rfl⟩
  ·exact (hs.2 b (nN1 (nL1 (Heap.lt_size e) I.ok.above))).trans (I.base.keep b o e n hb hx)
  ·obtain ⟨sl,e1⟩:=I.base.slot b o e n hb hx;exact ⟨sl,(hs.2 b (nN1 (nL1 (Heap.lt_size e) I.ok.above))).trans e1⟩
  ·obtain ⟨o',e1⟩:=I.base.there b o e hx;exact ⟨o',(hs.2 b (nN1 (nL1 (Heap.lt_size e) I.ok.above))).trans e1⟩
  ·by_cases hj:j=i
   ·subst hj;rw [hi] at e1;cases e1;rw [List.getElem?_set_self hiσ] at e2;cases e2;exact ⟨u,r,.inl ⟨hk,by simp⟩⟩
   ·rw [gS1 (Ne.symm hj)] at e2;obtain ⟨u',r',q⟩:=hl j y v' e1 e2 e3;refine ⟨u',r',?_⟩;rcases q with ⟨k,e⟩ | ⟨k,c,e,z⟩
    ·refine .inl ⟨k,?_⟩;have:y≠x:=fun e=>hj (nodup_ix hN e1 (e ▸ hi));simp [this,e]
    ·exact .inr ⟨k,c,e,z.sameBut hs (cne y c e)⟩
  ·obtain ⟨w',z⟩:=I.cell y c e;exact ⟨w',z.sameBut hs (cne y c e)⟩
  ·obtain ⟨e,n,ne,nf,d⟩:=I.pin p hp;exact ⟨(hs.2 p.1 ne).trans e,n,ne,nf,d⟩
 ·have hfn:X.fn x=true:=by
   rcases hf with z | z
   ·exact z
   ·rw [z] at hk;cases hk
  obtain ⟨c,hc⟩:=I.ok.has x (.inl hk);obtain ⟨w',z⟩:=I.cell x c hc;refine wpAny_storeName_cell I.ok.kind hk hc z (fun h' hc' hs=>?_);obtain ⟨oc,hoc,hocd⟩:=id z;refine h {s with heap:=h'} ⟨I.ok,I.os,I.bare,⟨fun b o e n hb hx=>?_,fun b o e n hb hx=>?_,I.base.free,fun b o e hx=>?_,I.base.tups,I.base.frzs,I.base.tbls⟩,⟨m,hn.sameBut hs (Ne.symm (cne x c hc)),fun j y v' e1 e2 e3=>?_⟩,fun y c' e=>?_,I.free,I.freeC,fun p hp=>?_,tracked ⟨oc,hoc,I.freeC x c hc⟩ hs,by simpa using I.len⟩ ⟨c,hs,.inr hc⟩
  ·exact (hs.2 b (nN1 (nL1 (Heap.lt_size e) (I.ok.cab x c hfn hc)))).trans (I.base.keep b o e n hb hx)
  ·obtain ⟨sl,e1⟩:=I.base.slot b o e n hb hx;exact ⟨sl,(hs.2 b (nN1 (nL1 (Heap.lt_size e) (I.ok.cab x c hfn hc)))).trans e1⟩
  ·obtain ⟨o',e1⟩:=I.base.there b o e hx;exact ⟨o',(hs.2 b (nN1 (nL1 (Heap.lt_size e) (I.ok.cab x c hfn hc)))).trans e1⟩
  ·by_cases hj:j=i
   ·subst hj;rw [hi] at e1;cases e1;rw [List.getElem?_set_self hiσ] at e2;cases e2;exact ⟨u,r,.inr ⟨.inl hk,c,hc,hc'⟩⟩
   ·rw [gS1 (Ne.symm hj)] at e2;obtain ⟨u',r',q⟩:=hl j y v' e1 e2 e3;refine ⟨u',r',?_⟩;rcases q with q | ⟨k,c',e,z'⟩
    ·exact .inl q
    ·refine .inr ⟨k,c',e,z'.sameBut hs ?_⟩;rintro rfl;exact hj (nodup_ix hN e1 (I.ok.inj _ _ _ e hc ▸ hi))
  ·by_cases hcc:c'=c
   ·subst hcc;exact ⟨_,hc'⟩
   ·obtain ⟨w2,z2⟩:=I.cell y c' e;exact ⟨w2,z2.sameBut hs hcc⟩
  ·obtain ⟨e,n,ne,nf,d⟩:=I.pin p hp;refine ⟨(hs.2 p.1 ?_).trans e,n,ne,nf,d⟩;intro q;rw [q,hoc] at e;have q':oc=p.2:=Option.some.inj e;exact d w' (by rw [<- q'];exact hocd)
theorem store_ok {M:Model}{A:Around}{E:Value->Shared->Prop}{i:Nat}{x:Str}{v:V}{u:Value}{Q:Unit->Shared->Prop}(I:Inv X pins σ H s)(hN:X.N.Nodup)(hi:X.N[i]? = some x)(hx:Loc X.env.scope x)(r:RelV v u)
  (h:∀ s',Inv X pins (σ.set i (some v)) H s'->Q () s') (hf:X.fn x=true\/X.env.scope.names.lookup x=some .local:=by first | exact .inl rfl | exact .inr rfl | assumption):wpAny M A (storeName X.env x u) Q E s:=
 store_ok2 I hN hi hx r (fun s' I' _=>h s' I') hf
theorem Inv.call' {s':Shared}{ch:List Addr}(I:Inv X pins σ H s)(ho:s'.os=s.os)(u:Un (frs X.stack) ch H H' s.heap s'.heap)(hok:HOk X.prog X.w H' s'.heap)(hg:AllBare s'.gens)
  (hch:∀ b∈ch,(b∈X.ex\/X.s₀.heap.objs.size<=b)/\b≠X.env.locals/\(∀ x c,X.env.cells.lookup x=some c->c≠b) /\ ∀ p∈X.pn++pins,p.1≠b):Inv X pins σ H' s':=by
 obtain ⟨h',g',d',t',o'⟩:=s';have e:o'=s.os:=ho;subst e;exact I.call (g':=g') (t':=t') (d':=d') u hok hg hch
end
noncomputable abbrev XK:=Value->Option Addr->Hp->Prop
noncomputable abbrev St:=List (Option V)
noncomputable abbrev VK:=V->Hp->Prop
noncomputable abbrev TE:=St->Hp->VK->Prop
noncomputable abbrev TT:=St->Hp->(Bool->Hp->Prop)->Prop
noncomputable abbrev TA:=St->Hp->(List V->Hp->Prop)->Prop
structure Ends where
 nx:St->Hp->Prop
 rt:VK
 bk:St->Hp->Prop:=fun _ _=>False
 ct:St->Hp->Prop:=fun _ _=>False
noncomputable abbrev TS:=Ends->St->Hp->Prop
noncomputable def EP (X:Cx)(pins:List (Addr×Obj))(σ:St)(Q:VK)(u:Value)(s':Shared):Prop:=∃ v H',Inv X pins σ H' s'/\RelV v u/\Q v H'
noncomputable def TP (X:Cx)(pins:List (Addr×Obj))(σ:St)(Q:Bool->Hp->Prop)(b:Bool)(s':Shared):Prop:=∃ H',Inv X pins σ H' s'/\Q b H'
noncomputable def AP (X:Cx)(pins:List (Addr×Obj))(σ:St)(Q:List V->Hp->Prop)(us:List Value)(s':Shared):Prop:=∃ vs H',Inv X pins σ H' s'/\Vals vs us/\Q vs H'
noncomputable def SP (X:Cx)(pins:List (Addr×Obj))(D:Ends)(f:Flow)(s':Shared):Prop:=
 match f with
 | .next=>∃ σ' H',Inv X pins σ' H' s'/\D.nx σ' H'
 | .brk=>∃ σ' H',Inv X pins σ' H' s'/\D.bk σ' H'
 | .cont=>∃ σ' H',Inv X pins σ' H' s'/\D.ct σ' H'
 | .ret u=>∃ v σ' H',Inv X pins σ' H' s'/\RelV v u/\D.rt v H'
noncomputable def PE (X:Cx)(e:Expr)(t:TE):Prop:=
 ∀ (pins:List (Addr×Obj)) (s:Shared) (σ:St) (H:Hp) (Q:VK),Inv X pins σ H s->t σ H Q->wpAny (model X.prog X.w) X.A (eval e X.env) (EP X pins σ Q) X.xe s
noncomputable def PT (X:Cx)(e:Expr)(t:TT):Prop:=
 ∀ (pins:List (Addr×Obj)) (s:Shared) (σ:St) (H:Hp) (Q:Bool->Hp->Prop),Inv X pins σ H s->t σ H Q->wpAny (model X.prog X.w) X.A (isTrue e X.env (eval e X.env)) (TP X pins σ Q) X.xe s
noncomputable def PW (X:Cx)(e:Expr)(t:TT):Prop:=
 ∀ (whole:Sem Value) (pins:List (Addr×Obj)) (s:Shared) (σ:St) (H:Hp) (Q:Bool->Hp->Prop),Inv X pins σ H s->t σ H Q->wpAny (model X.prog X.w) X.A (isTrue e X.env whole) (TP X pins σ Q) X.xe s
theorem PW.pt {X:Cx}{e:Expr}{t:TT}(h:PW X e t):PT X e t:=h _
noncomputable def PA (X:Cx)(es:List Expr)(t:TA):Prop:=
 ∀ (pos:Pos) (pins:List (Addr×Obj)) (s:Shared) (σ:St) (H:Hp) (Q:List V->Hp->Prop),Inv X pins σ H s->t σ H Q->wpAny (model X.prog X.w) X.A (spliced (backTo pos (starEach es X.env))) (AP X pins σ Q) X.xe s
noncomputable def PS (X:Cx)(st:Stmt)(t:TS):Prop:=
 ∀ (pins:List (Addr×Obj)) (s:Shared) (σ:St) (H:Hp) (D:Ends),Inv X pins σ H s->t D σ H->wpAny (model X.prog X.w) X.A (exec st X.env) (SP X pins D) X.xe s
noncomputable def PSs (X:Cx)(st:List Stmt)(t:TS):Prop:=
 ∀ (pins:List (Addr×Obj)) (s:Shared) (σ:St) (H:Hp) (D:Ends),Inv X pins σ H s->t D σ H->wpAny (model X.prog X.w) X.A (execs st X.env) (SP X pins D) X.xe s
theorem thn {α:Type}{t:Sem α}{Q Q':α->Shared->Prop}{M:Model}{A:Around}{E:Value->Shared->Prop}{s:Shared}(h:wpAny M A t Q E s)(hQ:∀ a s,Q a s->Q' a s):wpAny M A t Q' E s:=wpAny_mono h hQ fun _ _ x=>x
end L2
namespace L2
open PySem PySem.Spec PyProof.Rows
section
variable {X:Cx}
theorem bin {a b:Expr}{ta tb:TE}(ha:PE X a ta)(hb:PE X b tb){pins:List (Addr×Obj)}{s:Shared}{σ:St}{H:Hp}{R:V->V->Hp->Prop}(I:Inv X pins σ H s)(h:ta σ H fun x H1=>tb σ H1 fun y H2=>R x y H2)
  {α:Type} {Q:α->Shared->Prop} {f:Value->Value->Sem α}
  (hf:∀ v u s2 x y H2,Inv X pins σ H2 s2->RelV x v->RelV y u->R x y H2->wpAny (model X.prog X.w) X.A (f v u) Q X.xe s2):
  wpAny (model X.prog X.w) X.A (eval a X.env) (fun v s₁=>wpAny (model X.prog X.w) X.A (eval b X.env) (fun u s₂=>wpAny (model X.prog X.w) X.A (f v u) Q X.xe s₂) X.xe s₁) X.xe s:=by
 refine thn (ha pins s σ H _ I h) fun v s1 ⟨x,H1,I1,r1,q1⟩=>?_;refine thn (hb pins s1 σ H1 _ I1 q1) fun u s2 ⟨y,H2,I2,r2,q2⟩=>?_;exact hf v u s2 x y H2 I2 r1 r2 q2
noncomputable def tVar (i:Nat):TE:=fun σ H Q=>∃ v,σ[i]? = some (some v)/\Q v H
noncomputable def tC (v:V):TE:=fun _ H Q=>Q v H
theorem pe_var {i:Nat}{x:Str}{pos:Pos}(hN:X.N[i]? = some x)(hv:Vis X.env.scope x)(hd:(x == ("__debug__":Str))=false:=by decide)(hcd:(x == ("__classdict__":Str))=false:=by decide):PE X (.Name x pos) (tVar i):=by
 intro pins s σ H Q I h;obtain ⟨v,e,h⟩:=h;obtain ⟨m,hn,hl⟩:=I.loc;obtain ⟨u,r,l⟩:=hl i x v hN e hv;have fin:EP X pins σ Q u s:=⟨v,H,I,r,h⟩;rcases l with ⟨hk,hm⟩ | ⟨hk,c,hc,hcell⟩
 ·exact wpAny_Name (wpAny_loadName_local I.ok.kind hk hn hm fin) hd
 ·rcases hk with hk | hk
  ·exact wpAny_Name (wpAny_loadName_cell I.ok.kind hk hc hcell fin) hd
  ·exact wpAny_Name (wpAny_loadName_free I.ok.kind hk hc hcell fin hcd) hd
theorem pe_int {i j pos}:PE X (.Constant (.int i) j pos) (tC (.int i)):=fun _ _ _ H _ I h=>wpAny_Constant_int ⟨.int i,H,I.tok _,⟨_,rfl⟩,h⟩
theorem pe_bl {b j pos}:PE X (.Constant (.bool b) j pos) (tC (.bl b)):=fun _ _ _ H _ I h=>Constant_bool ⟨.bl b,H,I,rfl,h⟩
theorem pe_non {j pos}:PE X (.Constant .none j pos) (tC .non):=fun _ _ _ H _ I h=>Constant_none ⟨.non,H,I,rfl,h⟩
theorem pe_str {x j pos}:PE X (.Constant (.str x) j pos) (tC (.str x)):=fun _ _ _ H _ I h=>Calls.Constant_str ⟨.str x,H,I.tok _,⟨_,rfl⟩,h⟩
noncomputable def Gl (X:Cx)(x:Str):Prop:=X.env.kindOf x=some .globalImplicit
theorem ld_glob {E:Value->Shared->Prop}{pins:List (Addr×Obj)}{s:Shared}{σ:St}{H:Hp}{x:Str}{u:Value}{pos:Pos}{Q:Value->Shared->Prop}(I:Inv X pins σ H s)(hg:Gl X x)(hm:X.mg x=some u)(h:Q u s)
  (hd:(x == ("__debug__":Str))=false:=by decide):wpAny (model X.prog X.w) X.A (eval (.Name x pos) X.env) Q E s:=
 Calls.Name_function_global I.ok.kind hg (Calls.loadGlobal_global (by rw [I.ok.glob];exact I.mod.glob.keeps I.bk) hm h) hd
theorem ld_blt {E:Value->Shared->Prop}{pins:List (Addr×Obj)}{s:Shared}{σ:St}{H:Hp}{x:Str}{u:Value}{pos:Pos}{Q:Value->Shared->Prop}(I:Inv X pins σ H s)(hg:Gl X x)(hm:X.mg x=none)(hv:bootBuiltins x=some u)(h:Q u s)
  (hn:x≠"__name__":=by decide) (hd:(x == ("__debug__":Str))=false:=by decide):wpAny (model X.prog X.w) X.A (eval (.Name x pos) X.env) Q E s:=by
 obtain ⟨mb,h1,h2⟩:=I.mod.blt;exact Calls.Name_function_global I.ok.kind hg (Calls.loadGlobal_builtin (by rw [I.ok.glob];exact I.mod.glob.keeps I.bk) hm (by rw [I.ok.blt];exact h1.keeps I.bk) ((h2 x hn).trans hv) h) hd
theorem pe_glob {x:Str}{v:V}{u:Value}{pos:Pos}(hg:Gl X x)(hm:X.mg x=some u)(r:RelV v u)(hd:(x == ("__debug__":Str))=false:=by decide):PE X (.Name x pos) (tC v):=
 fun _ _ _ H _ I h=>ld_glob I hg hm ⟨v,H,I,r,h⟩ hd
theorem pe_bltn {x:Str}{v:V}{u:Value}{pos:Pos}(hg:Gl X x)(hm:X.mg x=none)(hv:bootBuiltins x=some u)(r:RelV v u)(hn:x≠"__name__":=by decide)(hd:(x == ("__debug__":Str))=false:=by decide):PE X (.Name x pos) (tC v):=
 fun _ _ _ H _ I h=>ld_blt I hg hm hv ⟨v,H,I,r,h⟩ hn hd
variable {a b:Expr} {ta tb:TE} {pos:Pos}
noncomputable def tB (t:TE):TT:=fun σ H Q=>t σ H fun x H1=>∃ c,x = .bl c/\Q c H1
variable {tA tB':TT} {rest:List Expr}
noncomputable def tAnd (t u:TT):TT:=fun σ H Q=>t σ H fun c H1=>if c=true then u σ H1 Q else Q false H1
noncomputable def tOr (t u:TT):TT:=fun σ H Q=>t σ H fun c H1=>if c=true then Q true H1 else u σ H1 Q
noncomputable def tNot (t:TT):TT:=fun σ H Q=>t σ H fun c H1=>Q (!c) H1
theorem pw_and1 (ha:PT X a tA):PW X (.BoolOp .And [a] pos) tA:=by
 intro wh pins s σ H Q I h;refine isTrue_and (thn (ha pins s σ H Q I h) fun c s1 e=>?_);cases c with
 | true=>exact isTrue_and_nil e
 | false=>exact e
theorem pw_or1 (ha:PT X a tA):PW X (.BoolOp .Or [a] pos) tA:=by
 intro wh pins s σ H Q I h;refine isTrue_or (thn (ha pins s σ H Q I h) fun c s1 e=>?_);cases c with
 | false=>exact isTrue_or_nil e
 | true=>exact e
theorem pw_and (ha:PT X a tA)(hb:PW X (.BoolOp .And (b::rest) pos) tB'):PW X (.BoolOp .And (a::b::rest) pos) (tAnd tA tB'):=by
 intro wh pins s σ H Q I h;refine isTrue_and (thn (ha pins s σ H _ I h) fun c s1 ⟨H1,I1,q1⟩=>?_);cases c with
 | true=>exact hb wh pins s1 σ H1 Q I1 q1
 | false=>exact ⟨H1,I1,q1⟩
theorem pw_or (ha:PT X a tA)(hb:PW X (.BoolOp .Or (b::rest) pos) tB'):PW X (.BoolOp .Or (a::b::rest) pos) (tOr tA tB'):=by
 intro wh pins s σ H Q I h;refine isTrue_or (thn (ha pins s σ H _ I h) fun c s1 ⟨H1,I1,q1⟩=>?_);cases c with
 | true=>exact ⟨H1,I1,q1⟩
 | false=>exact hb wh pins s1 σ H1 Q I1 q1
theorem pt_not (ha:PT X a tA):PT X (.UnaryOp .Not a pos) (tNot tA):=by
 intro pins s σ H Q I h;exact isTrue_not (ha pins s σ H (fun c H1=>Q (!c) H1) I h)
noncomputable def tAndV (ta tb:TE):TE:=fun σ H Q=>ta σ H fun x H1=>∃ c,x = .bl c/\if c=true then tb σ H1 Q else Q (.bl false) H1
noncomputable def tNotV (ta:TE):TE:=fun σ H Q=>ta σ H fun x H1=>∃ c,x = .bl c/\Q (.bl (!c)) H1
theorem pe_one {op}{t:TE}(h:PE X a t):PE X (.BoolOp op [a] pos) t:=fun pins s σ H Q I hw=>BoolOp_one (h pins s σ H Q I hw)
theorem pe_and (ha:PE X a ta)(hb:PE X (.BoolOp .And (b::rest) pos) tb):PE X (.BoolOp .And (a::b::rest) pos) (tAndV ta tb):=by
 intro pins s σ H Q I h;refine BoolOp_and (thn (ha pins s σ H _ I h) fun v s1 ⟨x,H1,I1,r1,q1⟩=>?_);obtain ⟨c,rfl,q1⟩:=q1;cases r1;refine wpAny_truthy_bool ?_;cases c with
 | true=>exact hb pins s1 σ H1 Q I1 q1
 | false=>exact ⟨.bl false,H1,I1,rfl,q1⟩
theorem pe_not (ha:PE X a ta):PE X (.UnaryOp .Not a pos) (tNotV ta):=by
 intro pins s σ H Q I h;refine UnaryOp_ (thn (ha pins s σ H _ I h) fun v s1 ⟨x,H1,I1,r1,q1⟩=>?_);obtain ⟨c,rfl,q1⟩:=q1;cases r1;exact not_of (wpAny_truthy_bool ⟨.bl (!c),H1,I1,rfl,q1⟩)
noncomputable def tIf (t:TT)(ta tb:TE):TE:=fun σ H Q=>t σ H fun c H1=>if c=true then ta σ H1 Q else tb σ H1 Q
theorem pe_ifExp {c:Expr}(hc:PT X c tA)(ha:PE X a ta)(hb:PE X b tb):PE X (.IfExp c a b pos) (tIf tA ta tb):=by
 intro pins s σ H Q I h;refine wpAny_IfExp (thn (hc pins s σ H _ I h) fun d s1 ⟨H1,I1,q1⟩=>?_);cases d with
 | true=>exact ha pins s1 σ H1 Q I1 q1
 | false=>exact hb pins s1 σ H1 Q I1 q1
end
end L2
namespace L2
open PySem PySem.Spec PyProof.Rows
noncomputable def SqL (K:Fg1)(H:Hp)(a:Addr)(xs:List V):Prop:=
 Rd H a (.lst xs) \/
  ∃ (o:Obj) (its:Array Value) (n:Nat),K.lookup a=some o/\o.cls = .type "list"/\o.dict=none/\o.data = .seq its n/\its.size<=sizeLine/\Vals xs its.toList
noncomputable def SqT (K:Fg1)(H:Hp)(a:Addr)(xs:List V):Prop:=
 Rd H a (.tup xs) \/
  ∃ (o:Obj) (its:Array Value) (n:Nat),K.lookup a=some o/\o.cls = .type "tuple"/\o.data = .seq its n/\its.size<=sizeLine/\Vals xs its.toList
noncomputable def absV:Value->Option V
 | .none=>some .non
 | .bool b=>some (.bl b)
 | .int i _=>some (.int i)
 | .str x _=>some (.str x)
 | .bytes b _=>some (.byt b)
 | .float b _=>some (.flt b)
 | .ref a=>some (.ref a)
 | .type n=>some (.ty n)
 | _=>none
theorem RelV.abs {x:V}{u:Value}(r:RelV x u):absV u=some x:=by
 cases x with
 | non=>cases r;rfl
 | bl _=>cases r;rfl
 | int _=>obtain ⟨t,rfl⟩:=r;rfl
 | str _=>obtain ⟨t,rfl⟩:=r;rfl
 | byt _=>obtain ⟨t,rfl⟩:=r;rfl
 | flt _=>obtain ⟨t,rfl⟩:=r;rfl
 | ref _=>cases r;rfl
 | ty _=>cases r;rfl
theorem RelV.inj {x y:V}{u:Value}(r:RelV x u)(q:RelV y u):x=y:=Option.some.inj (r.abs.symm.trans q.abs)
theorem Vals.inj:∀ {xs ys:List V} {us:List Value},Vals xs us->Vals ys us->xs=ys:=by
 intro xs ys us h g
 induction h generalizing ys with
 | nil=>cases g;rfl
 | cons r t ih=>cases g with
  | cons r' t'=>rw [r.inj r',ih t']
section
variable {X:Cx} {pins:List (Addr×Obj)} {σ:St} {H:Hp} {s:Shared} {a:Addr} {xs ys:List V}
theorem SqL.of {K:Fg1}(h:H a=some (.lst xs)):SqL K H a xs:=.inl (.inl h)
theorem SqT.of {K:Fg1}(h:H a=some (.tup xs)):SqT K H a xs:=.inl (.inl h)
theorem Inv.list (I:Inv X pins σ H s)(h:SqL X.K H a xs):∃ its:List Value,Vals xs its/\PlainL s.heap a its.toArray/\xs.length<=sizeLine:=by
 rcases h with h | ⟨o,its,n,hk,hc,hd,hs,hz,r⟩
 ·obtain ⟨z,its,n,r,e⟩:=h.ok I.hok;exact ⟨its,r,⟨_,n,e,rfl,rfl,rfl⟩,z⟩
 ·refine ⟨its.toList,r,⟨o,n,I.kIn a o hk,hc,hd,by simpa using hs⟩,?_⟩;have e:=r.length;simp only [Array.length_toList] at e;lia
theorem Inv.tuple (I:Inv X pins σ H s)(h:SqT X.K H a xs):∃ its:List Value,Vals xs its/\IsTup s.heap a its.toArray/\xs.length<=sizeLine:=by
 rcases h with h | ⟨o,its,n,hk,hc,hs,hz,r⟩
 ·obtain ⟨z,its,r,p⟩:=h.ok I.hok;exact ⟨its,r,p,z⟩
 ·refine ⟨its.toList,r,⟨o,I.kIn a o hk,hc,n,by simpa using hs⟩,?_⟩;have e:=r.length;simp only [Array.length_toList] at e;lia
theorem Inv.list_inj (I:Inv X pins σ H s)(h:SqL X.K H a xs)(h':SqL X.K H a ys):xs=ys:=by
 obtain ⟨its,r,⟨o,n,e,_,_,d⟩,_⟩:=I.list h;obtain ⟨its',r',⟨o',n',e',_,_,d'⟩,_⟩:=I.list h';rw [e] at e';cases e';rw [d] at d';injection d' with d1 _;have:its=its':=by simpa using congrArg Array.toList d1
 subst this;exact r.inj r'
theorem Inv.tuple_inj (I:Inv X pins σ H s)(h:SqT X.K H a xs)(h':SqT X.K H a ys):xs=ys:=by
 obtain ⟨its,r,⟨o,e,_,n,d⟩,_⟩:=I.tuple h;obtain ⟨its',r',⟨o',e',_,n',d'⟩,_⟩:=I.tuple h';rw [e] at e';cases e';rw [d] at d';injection d' with d1 _;have:its=its':=by simpa using congrArg Array.toList d1
 subst this;exact r.inj r'
end
noncomputable abbrev Cx.wish (X:Cx)(E:Value->Shared->Prop):Cx:={X with xe:=E}
noncomputable abbrev Cx.nox (X:Cx):Cx:=X.wish fun _ _=>False
theorem Cx.Ok.wish {X:Cx}(ok:X.Ok)(E:Value->Shared->Prop):(X.wish E).Ok:=
 ⟨ok.mod,ok.kind,ok.glob,ok.blt,ok.above,ok.inj,ok.has,ok.cab,ok.hd,ok.frames,ok.stk,ok.exf,ok.bs,ok.bsz,ok.noex,ok.exfs,ok.funs,ok.frf⟩
theorem Cx.Ok.unwish {X:Cx}{E:Value->Shared->Prop}(ok:(X.wish E).Ok):X.Ok:=
 ⟨ok.mod,ok.kind,ok.glob,ok.blt,ok.above,ok.inj,ok.has,ok.cab,ok.hd,ok.frames,ok.stk,ok.exf,ok.bs,ok.bsz,ok.noex,ok.exfs,ok.funs,ok.frf⟩
section
variable {X:Cx} {pins:List (Addr×Obj)} {σ:St} {H:Hp} {s:Shared} {E:Value->Shared->Prop}
theorem Inv.wish (I:Inv X pins σ H s)(E:Value->Shared->Prop):Inv (X.wish E) pins σ H s:=⟨I.ok.wish E,I.os,I.bare,I.base,I.loc,I.cell,I.free,I.freeC,I.pin,I.hok,I.len⟩
theorem Inv.unwish (I:Inv (X.wish E) pins σ H s):Inv X pins σ H s:=⟨I.ok.unwish,I.os,I.bare,I.base,I.loc,I.cell,I.free,I.freeC,I.pin,I.hok,I.len⟩
theorem SP.unwish {D:Ends}{f:Flow}{s':Shared}(h:SP (X.wish E) pins D f s'):SP X pins D f s':=by
 cases f with
 | next=>obtain ⟨σ',H',I,q⟩:=h;exact ⟨σ',H',I.unwish,q⟩
 | brk=>obtain ⟨σ',H',I,q⟩:=h;exact ⟨σ',H',I.unwish,q⟩
 | cont=>obtain ⟨σ',H',I,q⟩:=h;exact ⟨σ',H',I.unwish,q⟩
 | ret u=>obtain ⟨v,σ',H',I,r,q⟩:=h;exact ⟨v,σ',H',I.unwish,r,q⟩
theorem PSs.nox {st:List Stmt}{t:TS}(h:PSs X.nox st t):PSs X st t:=fun pins s σ H D I hw=>
 wpAny_mono (h pins s σ H D (I.wish _) hw) (fun _ _ q=>q.unwish) fun _ _ z=>False.elim z
end
section
variable {X:Cx} {st:Stmt} {rest:List Stmt} {t u:TS} {e:Expr} {te:TE} {pos:Pos}
noncomputable def tNext:TS:=fun D σ H=>D.nx σ H
noncomputable def tSeq (t u:TS):TS:=fun D σ H=>t {D with nx:=u D} σ H
theorem pss_nil:PSs X [] tNext:=fun _ _ σ H _ I h=>wpAny_execs_nil ⟨σ,H,I,h⟩
theorem pss_cons (h1:PS X st t)(h2:PSs X rest u):PSs X (st::rest) (tSeq t u):=by
 intro pins s σ H D I h;refine wpAny_execs_cons (thn (h1 pins s σ H {D with nx:=u D} I h) fun f s1 q=>?_);cases f with
 | next=>
  obtain ⟨σ',H',I',q⟩:=q;exact h2 pins s1 σ' H' D I' q
 | ret v=>exact q
 | brk=>exact q
 | cont=>exact q
theorem pss_one (h1:PS X st t):PSs X [st] t:=by
 intro pins s σ H D I h;refine wpAny_execs_cons (thn (h1 pins s σ H D I h) fun f s1 q=>?_);cases f with
 | next=>exact wpAny_execs_nil q
 | ret v=>exact q
 | brk=>exact q
 | cont=>exact q
theorem Inv.quiet {pins:List (Addr×Obj)}{σ:St}{H:Hp}{s:Shared}(I:Inv X pins σ H s):interactive X.env=false:=by simp [interactive,I.ok.kind]
noncomputable def tDrop (te:TE):TS:=fun D σ H=>te σ H fun _ H1=>D.nx σ H1
theorem ps_expr (he:PE X e te)(hs:swapsWith e none pos.line X.env=pure false:=by rfl):PS X (.Expr e pos) (tDrop te):=by
 intro pins s σ H D I h;exact wpAny_Expr_any (thn (he pins s σ H _ I h) fun v s1 ⟨x,H1,I1,r1,q1⟩=>⟨σ,H1,I1,q1⟩) I.quiet hs
noncomputable def tRet (te:TE):TS:=fun D σ H=>te σ H D.rt
theorem ps_ret (he:PE X e te):PS X (.Return (some e) pos) (tRet te):=by
 intro pins s σ H D I h;exact wpAny_Return_some (thn (he pins s σ H _ I h) fun v s1 ⟨x,H1,I1,r1,q1⟩=>⟨x,σ,H1,I1,r1,q1⟩)
noncomputable def tIfS (c:TT)(t u:TS):TS:=fun D σ H=>c σ H fun b H1=>if b=true then t D σ H1 else u D σ H1
theorem ps_if {c:Expr}{a b:List Stmt}{tc:TT}(hc:PT X c tc)(ha:PSs X a t)(hb:PSs X b u):PS X (.If c a b pos) (tIfS tc t u):=by
 intro pins s σ H D I h;refine wpAny_If (thn (hc pins s σ H _ I h) fun d s1 ⟨H1,I1,q1⟩=>?_);cases d with
 | true=>exact ha pins s1 σ H1 D I1 q1
 | false=>exact hb pins s1 σ H1 D I1 q1
end
noncomputable abbrev TG:=V->St->Hp->(St->Hp->Prop)->Prop
noncomputable abbrev TGs:=List V->St->Hp->(St->Hp->Prop)->Prop
noncomputable def PG (X:Cx)(target:Expr)(t:TG):Prop:=
 ∀ (pins:List (Addr×Obj)) (s:Shared) (σ:St) (H:Hp) (v:V) (u:Value) (Q:St->Hp->Prop),Inv X pins σ H s->RelV v u->t v σ H Q ->
  wpAny (model X.prog X.w) X.A (assign target X.env u) (fun _ s'=>∃ σ' H',Inv X pins σ' H' s'/\Q σ' H') X.xe s
noncomputable def PGs (X:Cx)(ts:List Expr)(t:TGs):Prop:=
 ∀ (pins:List (Addr×Obj)) (s:Shared) (σ:St) (H:Hp) (vs:List V) (us:List Value) (Q:St->Hp->Prop),Inv X pins σ H s->Vals vs us->t vs σ H Q ->
  wpAny (model X.prog X.w) X.A (assignInOrder ((assignEach ts X.env).map (·.2)) us) (fun _ s'=>∃ σ' H',Inv X pins σ' H' s'/\Q σ' H') X.xe s
noncomputable abbrev TSet:=V->V->V->Hp->(Hp->Prop)->Prop
noncomputable def PSet (X:Cx)(t:TSet):Prop:=
 ∀ (pins:List (Addr×Obj)) (s:Shared) (σ:St) (H:Hp) (o i v:V) (ov iv u:Value) (Q:Hp->Prop),Inv X pins σ H s->RelV o ov->RelV i iv->RelV v u->t o i v H Q ->
  wpAny (model X.prog X.w) X.A (setItem ov iv u) (fun _ s'=>∃ H',Inv X pins σ H' s'/\Q H') X.xe s
section
variable {X:Cx} {pos:Pos}
noncomputable def gName (i:Nat):TG:=fun v σ H Q=>Q (σ.set i (some v)) H
theorem pg_name {i:Nat}{x:Str}(hN:X.N.Nodup)(hi:X.N[i]? = some x)(hx:Loc X.env.scope x)(hf:X.fn x=true\/X.env.scope.names.lookup x=some .local:=by first | exact .inl rfl | exact .inr rfl | assumption):PG X (.Name x pos) (gName i):=by
 intro pins s σ H v u Q I r h;exact wpAny_assign_Name (store_ok I hN hi hx r (fun s' I'=>⟨_,H,I',h⟩) hf)
noncomputable def gNil:TGs:=fun vs σ H Q=>vs=[]/\Q σ H
noncomputable def gCons (t:TG)(u:TGs):TGs:=fun vs σ H Q=>∃ v r,vs=v::r/\t v σ H fun σ' H'=>u r σ' H' Q
theorem pgs_nil:PGs X [] gNil:=by
 intro pins s σ H vs us Q I r h;obtain ⟨e,h⟩:=h;subst e;cases r;exact assignInOrder_nil ⟨σ,H,I,h⟩
theorem pgs_cons {e:Expr}{es:List Expr}{t:TG}{u:TGs}(h1:PG X e t)(h2:PGs X es u)
  (hs:(assignEach (e::es) X.env).map (·.2)=assign e X.env::(assignEach es X.env).map (·.2):=by rfl):PGs X (e::es) (gCons t u):=by
 intro pins s σ H vs us Q I r h;obtain ⟨v,vr,e1,h⟩:=h;subst e1;cases r with
 | cons r rr=>
  rw [hs];refine assignInOrder_cons (thn (h1 pins s σ H _ _ _ I r h) fun _ s1 ⟨σ1,H1,I1,q1⟩=>?_);exact h2 pins s1 σ1 H1 _ _ Q I1 rr q1
noncomputable def gTup (K:Fg1)(n:Nat)(t:TGs):TG:=fun v σ H Q=>∃ a xs,v = .ref a/\SqT K H a xs/\xs.length=n/\t xs σ H Q
theorem pg_tup {es:List Expr}{k:Nat}{t:TGs}{n:Nat}(hc:X.calm=true)(h:PGs X es t)
  (hn:(assignEach es X.env).length=n:=by rfl) (hst:(assignEach es X.env).findIdx? (·.1)=none:=by rfl):PG X (.Tuple es k pos) (gTup X.K n t):=by
 intro pins s σ H v u Q I r hw;obtain ⟨a,xs,e1,hq,hl,hw⟩:=hw;subst e1;cases r;obtain ⟨its,rv,ht,hz⟩:=I.tuple hq;refine assign_Tuple_tuple (I.ok.hd hc) ht (by simp [hn,<- hl,rv.length]) hst fun h' hx=>?_;have I1:Inv X pins σ H {s with heap:=h'}:=I.kept (t':=s.toks) fun b o e=>hx b o (nN1 (Heap.lt_size e)) e;exact h pins _ σ H xs _ Q I1 (by simpa using rv) hw
noncomputable def gSub (to ti:TE)(t:TSet):TG:=fun v σ H Q=>to σ H fun o H1=>ti σ H1 fun i H2=>t o i v H2 fun H3=>Q σ H3
theorem pg_sub {o i:Expr}{to ti:TE}{t:TSet}(ho:PE X o to)(hi:PE X i ti)(hs:PSet X t)
  (ha:∀ v,assign (.Subscript o i pos) X.env v=(do
   let ov<-holding [v] (eval o X.env)
   let iv<-holding [v,ov] (eval i X.env)
   standAt pos
   holding [v,ov,iv] (setItem ov iv v)
   release [v,ov,iv] []):=by intro _;rfl):PG X (.Subscript o i pos) (gSub to ti t):=by
 intro pins s σ H v u Q I r h;rw [ha];refine wB1 (wpAny_holding (thn (ho pins s σ H _ I h) fun ov s1 ⟨x,H1,I1,r1,q1⟩=>?_));refine wB1 (wpAny_holding (thn (hi pins s1 σ H1 _ I1 q1) fun iv s2 ⟨y,H2,I2,r2,q2⟩=>?_));refine wB1 (wpAny_standAt (wB1 (wpAny_holding (thn (hs pins s2 σ H2 x y v ov iv u _ I2 r1 r2 r q2) fun _ s3 ⟨H3,I3,q3⟩=>?_))));exact wpAny_release ⟨σ,H3,I3,q3⟩
noncomputable def tAsg (te:TE)(g:TG):TS:=fun D σ H=>te σ H fun x H1=>g x σ H1 D.nx
theorem ps_asg {tg e:Expr}{te:TE}{g:TG}(he:PE X e te)(hg:PG X tg g)(hs:swapsWithSole [tg] e pos.line X.env=pure false:=by rfl)(hw:swappedStores [tg] e X.env=pure none:=by rfl)
  (h1:(assignEach [tg] X.env).map (·.2)=[assign tg X.env]:=by rfl):PS X (.Assign [tg] e pos) (tAsg te g):=by
 intro pins s σ H D I h;refine wpAny_Assign_stores (thn (he pins s σ H _ I h) fun v s1 ⟨x,H1,I1,r1,q1⟩=>?_) hs hw;rw [h1];exact thn (hg pins s1 σ H1 x v _ I1 r1 q1) fun _ s2 q=>q
theorem ps_set {i:Nat}{x:Str}{e:Expr}{te:TE}{pos':Pos}(hN:X.N.Nodup)(hi:X.N[i]? = some x)(hx:Loc X.env.scope x)(he:PE X e te)(hs:swapsWith e (some (.Name x pos')) pos.line X.env=pure false:=by rfl)(hf:X.fn x=true\/X.env.scope.names.lookup x=some .local:=by first | exact .inl rfl | exact .inr rfl | assumption):
  PS X (.Assign [.Name x pos'] e pos) (tAsg te (gName i)):=by
 intro pins s σ H D I h;refine wpAny_Assign_Name (thn (he pins s σ H _ I h) fun v s1 ⟨y,H1,I1,r1,q1⟩=>?_) hs;exact store_ok I1 hN hi hx r1 (fun s2 I2=>⟨_,H1,I2,q1⟩) hf
end
structure It where
 go:Nat->Hp->Prop
 yld:Nat->Hp->V->Hp->Prop
 stop:Nat->Hp->Prop
noncomputable def FpOk (X:Cx)(pins:List (Addr×Obj))(H:Hp)(b:Addr):Prop:=
 H b=none/\b≠X.env.locals/\b∉X.fs/\(b∈X.ex\/X.s₀.heap.objs.size<=b)/\(∀ x c,X.env.cells.lookup x=some c->c≠b) /\ ∀ p∈X.pn++pins,p.1≠b
theorem Inv.fpOk {X:Cx}{pins:List (Addr×Obj)}{σ:St}{H H':Hp}{s:Shared}{b:Addr}(I:Inv X pins σ H s)(hb:s.heap.objs.size<=b)(hn:H' b=none):FpOk X pins H' b:=by
 refine ⟨hn,nG1 (nL1 I.lt hb),I.nofs hb,.inr (Nat.le_trans I.sz hb),fun x c e z=>?_,fun p hp z=>?_⟩
 ·obtain ⟨v,q⟩:=I.cell x c e;exact absurd (nL1 q.lt (by rw [z];exact hb)) (Nat.lt_irrefl _)
 ·exact absurd (nL1 (Heap.lt_size (I.pin p hp).1) (by rw [z];exact hb)) (Nat.lt_irrefl _)
structure Turn (P:Program)(w:World)(K:Fg1)(tg:Expr)(J:It)(fp:List Addr)(it:Addr)(tn:Nat->Heap->Prop):Prop where
 mem:it∈fp
 obj:∀ i h,tn i h -> ∀ b∈fp,∃ o,h.get? b=some o /\ ∀ v,o.data ≠ .cell v
 keep:∀ i h h',tn i h->(∀ b∈fp,∀ o,h.get? b=some o->h'.get? b=some o)->tn i h'
 item:∀ (X:Cx),X.prog=P->X.w=w->X.K=K->X.calm=true -> ∀ (i:Nat) (pins:List (Addr×Obj)) (s:Shared) (σ:St) (H:Hp) (E:Value->Shared->Prop),Inv X pins σ H s->(∀ b∈fp,FpOk X pins H b)->tn i s.heap->J.go i H ->
  wpAny (model P w) X.A (pyNext (.ref it)) (fun r s1=>∃ u,r=some u /\
   wpAny (model P w) X.A (letOwnedTupleGo tg (.ref it) u) (fun _ s2=>∃ x H',Inv X pins σ H' s2/\RelV x u/\J.yld i H x H'/\tn (i+1) s2.heap /\ ∀ b∈fp,H' b=none) E s1) E s
 done:∀ (X:Cx),X.prog=P->X.w=w->X.K=K->X.calm=true -> ∀ (i:Nat) (pins:List (Addr×Obj)) (s:Shared) (σ:St) (H:Hp) (E:Value->Shared->Prop),Inv X pins σ H s->(∀ b∈fp,FpOk X pins H b)->tn i s.heap->J.stop i H ->
  wpAny (model P w) X.A (pyNext (.ref it)) (fun r s1=>r=none/\Inv X pins σ H s1) E s
 self:∀ (A:Around) (i:Nat) (s:Shared) (Q:Value->Shared->Prop) (E:Value->Shared->Prop),tn i s.heap->Q (.ref it) s->wpAny (model P w) A (pyIter (.ref it)) Q E s
noncomputable abbrev TI:=St->Hp->(It->Hp->Prop)->Prop
noncomputable def PIE (X:Cx)(pins:List (Addr×Obj))(σ:St)(tg:Expr)(R:It->Hp->Prop)(itv:Value)(s2:Shared):Prop:=
 ∃ (it:Addr) (fp:List Addr) (tn:Nat->Heap->Prop) (J:It) (H':Hp),itv = .ref it/\Inv X pins σ H' s2/\Turn X.prog X.w X.K tg J fp it tn/\tn 0 s2.heap/\(∀ b∈fp,FpOk X pins H' b)/\R J H'
noncomputable def PI (X:Cx)(tg iter:Expr)(wi:TI):Prop:=
 ∀ (pins:List (Addr×Obj)) (s:Shared) (σ:St) (H:Hp) (R:It->Hp->Prop),Inv X pins σ H s->wi σ H R ->
  wpAny (model X.prog X.w) X.A (eval iter X.env) (fun v s1=>wpAny (model X.prog X.w) X.A (pyIter v) (PIE X pins σ tg R) X.xe s1) X.xe s
theorem go_of {M:Model}{A:Around}{E:Value->Shared->Prop}{s:Shared}{tg:Expr}{it:Addr}{u:Value}{o:Obj}{n:String}{vs:Array Value}{Q:Unit->Shared->Prop}(ho:s.heap.get? it=some o)(hc:o.cls = .type n)(hd:o.data = .fields vs)
   (hn:["enumerate","zip","dict_itemiterator","dict_reverseitemiterator","odict_iterator","itertools.zip_longest","itertools.pairwise"].contains n=false) (hQ:Q () s):wpAny M A (letOwnedTupleGo tg (.ref it) u) Q E s:=by
 unfold letOwnedTupleGo;cases tg <;> first
   | exact wP1 hQ
   | (cases u<;>first
       | exact wP1 hQ
       | (refine wB1 (wpAny_load ho ?_)
          rw [hc,hd];show wpAny M A (if (["enumerate","zip","dict_itemiterator","dict_reverseitemiterator","odict_iterator","itertools.zip_longest","itertools.pairwise"].contains n&&vs[0]? == some (rawInt _))=true then _ else _) Q E s;rw [if_neg (by intro h;rw [hn,Bool.false_and] at h;cases h)];exact wP1 hQ))
noncomputable def Itl (K:Fg1)(a:Addr):It:=
 ⟨fun i H=>∃ xs x,SqL K H a xs/\xs[i]? = some x,fun i H x H'=>H'=H /\ ∀ xs,SqL K H a xs->xs[i]? = some x,fun i H=>∃ xs,SqL K H a xs/\xs.length<=i⟩
noncomputable def Itt (K:Fg1)(a:Addr):It:=
 ⟨fun i H=>∃ xs x,SqT K H a xs/\xs[i]? = some x,fun i H x H'=>H'=H /\ ∀ xs,SqT K H a xs->xs[i]? = some x,fun i H=>∃ xs,SqT K H a xs/\xs.length<=i⟩
noncomputable def Itr (lo:Int)(n:Nat):It:=⟨fun i _=>i<n,fun i H x H'=>H'=H/\x = .int (lo+i),fun i _=>n<=i⟩
theorem turn_list {P:Program}{w:World}{K:Fg1}{tg:Expr}(a it:Addr):Turn P w K tg (Itl K a) [it] it (fun i h=>h.IsListIter it a i) where
 mem:=by simp
 obj:=fun i h st b hb=>by
  have e:b=it:=by simpa using hb
  subst e;obtain ⟨o,e,c,d⟩:=st;exact ⟨o,e,fun v z=>by rw [d] at z;cases z⟩
 keep:=fun i h h' st k=>st.at fun o e=>k it (by simp) o e
 item:=by
  intro X hP hw hK hc i pins s σ H E I hf st hg;subst hP hw hK;obtain ⟨xs,x,hq,hx⟩:=hg;obtain ⟨its,rv,p,hz⟩:=I.list hq;obtain ⟨u,hu,ru⟩:=rv.get hx;obtain ⟨f0,f1,f2,f3,f4,f5⟩:=hf it (by simp);refine wpAny_pyNext_list_item st p.isList (x:=u) (by simpa using hu) fun h' st' sb=>?_;have I1:Inv X pins σ H {s with heap:=h'}:=I.turned (t':=s.toks) (fun b o hb e=>(sb.2 b hb).trans e) f0 f1 f3 f4 f5;obtain ⟨o,e,c,d⟩:=id st';exact ⟨u,rfl,go_of (s:={s with heap:=h'}) e c d (by decide) ⟨x,H,I1,ru,⟨rfl,fun ys hy=>by rw [I.list_inj hy hq];exact hx⟩,st',fun b hb=>(hf b hb).1⟩⟩
 done:=by
  intro X hP hw hK hc i pins s σ H E I hf st hg;subst hP hw hK;obtain ⟨xs,hq,hx⟩:=hg;obtain ⟨its,rv,p,hz⟩:=I.list hq;obtain ⟨f0,f1,f2,f3,f4,f5⟩:=hf it (by simp);have hl:=rv.length;exact wpAny_pyNext_list_end (I.ok.hd hc) st p.isList (by simp;lia) fun h' eb=>⟨rfl,I.turned (t':=s.toks) (fun b o hb e=>eb b o hb e) f0 f1 f3 f4 f5⟩
 self:=fun _ _ _ _ _ st h=>wpAny_pyIter_listiter st h
theorem turn_tuple {P:Program}{w:World}{K:Fg1}{tg:Expr}(a it:Addr):Turn P w K tg (Itt K a) [it] it (fun i h=>h.IsTupleIter it a i) where
 mem:=by simp
 obj:=fun i h st b hb=>by
  have e:b=it:=by simpa using hb
  subst e;obtain ⟨o,e,c,d⟩:=st;exact ⟨o,e,fun v z=>by rw [d] at z;cases z⟩
 keep:=fun i h h' st k=>st.at fun o e=>k it (by simp) o e
 item:=by
  intro X hP hw hK hc i pins s σ H E I hf st hg;subst hP hw hK;obtain ⟨xs,x,hq,hx⟩:=hg;obtain ⟨its,rv,p,hz⟩:=I.tuple hq;obtain ⟨u,hu,ru⟩:=rv.get hx;obtain ⟨f0,f1,f2,f3,f4,f5⟩:=hf it (by simp);refine wpAny_pyNext_tuple_item st (show s.heap.IsTuple a its.toArray from p) (x:=u) (by simpa using hu) fun h' st' sb=>?_;have I1:Inv X pins σ H {s with heap:=h'}:=I.turned (t':=s.toks) (fun b o hb e=>(sb.2 b hb).trans e) f0 f1 f3 f4 f5;obtain ⟨o,e,c,d⟩:=id st';exact ⟨u,rfl,go_of (s:={s with heap:=h'}) e c d (by decide) ⟨x,H,I1,ru,⟨rfl,fun ys hy=>by rw [I.tuple_inj hy hq];exact hx⟩,st',fun b hb=>(hf b hb).1⟩⟩
 done:=by
  intro X hP hw hK hc i pins s σ H E I hf st hg;subst hP hw hK;obtain ⟨xs,hq,hx⟩:=hg;obtain ⟨its,rv,p,hz⟩:=I.tuple hq;obtain ⟨f0,f1,f2,f3,f4,f5⟩:=hf it (by simp);have hl:=rv.length;exact wpAny_pyNext_tuple_end (I.ok.hd hc) st (show s.heap.IsTuple a its.toArray from p) (by simp;lia) fun h' eb=>⟨rfl,I.turned (t':=s.toks) (fun b o hb e=>eb b o hb e) f0 f1 f3 f4 f5⟩
 self:=fun _ _ _ _ _ st h=>wpAny_pyIter_tupleiter st h
theorem turn_range {P:Program}{w:World}{K:Fg1}{tg:Expr}(it:Addr)(lo:Int)(n:Nat):Turn P w K tg (Itr lo n) [it] it (fun i h=>IsRangeIter h it (lo+(i:Nat)*1) ((n:Int)-(i:Nat)) 1) where
 mem:=by simp
 obj:=fun i h st b hb=>by
  have e:b=it:=by simpa using hb
  subst e;exact ⟨_,st,fun v z=>by
   have z':Data.fields _=Data.cell v:=z;cases z'⟩
 keep:=fun i h h' st k=>k it (by simp) _ st
 item:=by
  intro X hP hw hK hc i pins s σ H E I hf st hg;subst hP hw hK;obtain ⟨f0,f1,f2,f3,f4,f5⟩:=hf it (by simp);have W:=Walks.range (prog:=X.prog) (w:=X.w) (I.ok.hd hc) it lo 1 n;refine W.item i s _ _ hg st fun v h' tk hv st' kk=>?_;obtain ⟨t,rfl⟩:=hv;have I1:Inv X pins σ H {s with heap:=h',toks:=tk}:=I.turned (fun b o hb e=>kk b o (by simpa using hb) e) f0 f1 f3 f4 f5;refine ⟨_,rfl,go_of (s:={s with heap:=h',toks:=tk}) (n:="range_iterator") st' rfl rfl (by decide) ⟨.int (lo+i),H,I1,⟨t,?_⟩,⟨rfl,rfl⟩,st',fun b hb=>(hf b hb).1⟩⟩;rw [Int.mul_one]
 done:=by
  intro X hP hw hK hc i pins s σ H E I hf st hg;subst hP hw hK;obtain ⟨f0,f1,f2,f3,f4,f5⟩:=hf it (by simp);exact wpAny_pyNext_range_end (I.ok.hd hc) st (by have:n<=i:=hg;lia) fun h' eb=>⟨rfl,I.turned (t':=s.toks) (fun b o hb e=>eb b o hb e) f0 f1 f3 f4 f5⟩
 self:=fun _ _ _ _ _ st h=>wpAny_pyIter_rangeiter st h
end L2
namespace L2
open PySem PySem.Spec PyProof.Rows
section
variable {X:Cx} {tg:Expr}
noncomputable def iList (K:Fg1)(tl:TE):TI:=fun σ H R=>tl σ H fun x H1=>∃ a,x = .ref a/\(∃ xs,SqL K H1 a xs)/\R (Itl K a) H1
noncomputable def iTup (K:Fg1)(tl:TE):TI:=fun σ H R=>tl σ H fun x H1=>∃ a,x = .ref a/\(∃ xs,SqT K H1 a xs)/\R (Itt K a) H1
theorem pi_list {l:Expr}{tl:TE}(hl:PE X l tl):PI X tg l (iList X.K tl):=by
 intro pins s σ H R I h;refine thn (hl pins s σ H _ I h) fun v s1 ⟨x,H1,I1,r1,q1⟩=>?_;obtain ⟨a,e,⟨xs,hq⟩,q⟩:=q1;subst e;cases r1;obtain ⟨its,rv,p,hz⟩:=I1.list hq;refine wpAny_pyIter_list p.isList ?_;refine ⟨s1.heap.objs.size,[s1.heap.objs.size],_,_,H1,rfl,I1.kept (t':=s1.toks) fun b o e=>hP1 _ e,turn_list a _,⟨_,hS1 _ rfl,rfl,rfl⟩,fun b hb=>?_,q⟩;have e:b=s1.heap.objs.size:=by simpa using hb
 subst e;exact I1.fpOk (nR1 _) (I1.hok.fresh (nR1 _))
theorem pi_tup {l:Expr}{tl:TE}(hl:PE X l tl):PI X tg l (iTup X.K tl):=by
 intro pins s σ H R I h;refine thn (hl pins s σ H _ I h) fun v s1 ⟨x,H1,I1,r1,q1⟩=>?_;obtain ⟨a,e,⟨xs,hq⟩,q⟩:=q1;subst e;cases r1;obtain ⟨its,rv,p,hz⟩:=I1.tuple hq;refine wpAny_pyIter_tuple (show s1.heap.IsTuple a its.toArray from p) ?_;refine ⟨s1.heap.objs.size,[s1.heap.objs.size],_,_,H1,rfl,I1.kept (t':=s1.toks) fun b o e=>hP1 _ e,turn_tuple a _,⟨_,hS1 _ rfl,rfl,rfl⟩,fun b hb=>?_,q⟩;have e:b=s1.heap.objs.size:=by simpa using hb
 subst e;exact I1.fpOk (nR1 _) (I1.hok.fresh (nR1 _))
theorem range_it {pins:List (Addr×Obj)}{σ:St}{H:Hp}{s:Shared}{R:It->Hp->Prop}{E:Value->Shared->Prop}{lo hi:Int}{t u v:Tok}{tk:Nat}(I:Inv X pins σ H s)(h1: -(2^62)<=lo)(h2:lo<2^62)(h3: -(2^62)<=hi)(h4:hi<2^62)
  (q:R (Itr lo (hi-lo).toNat) H):wpAny (model X.prog X.w) X.A (pyIter (.ref s.heap.objs.size)) (PIE X pins σ tg R) E {s with heap:=s.heap.push {cls:=.type "range",data:=.fields #[.int lo t,.int hi u,.int 1 v]},toks:=tk}:=by
 refine wpAny_pyIter_range (IsRange.new ..) (small_one h1 h2 h3 h4) ?_;have I1:Inv X pins σ H {s with heap:=s.heap.push {cls:=.type "range",data:=.fields #[.int lo t,.int hi u,.int 1 v]},toks:=tk}:=I.kept fun b o e=>hP1 _ e;refine ⟨(s.heap.push {cls:=.type "range",data:=.fields #[.int lo t,.int hi u,.int 1 v]}).objs.size,[(s.heap.push {cls:=.type "range",data:=.fields #[.int lo t,.int hi u,.int 1 v]}).objs.size],_,_,H,rfl,
  I1.kept (t':=tk) fun b o e=>hP1 _ e,turn_range _ lo (hi-lo).toNat,?_,fun b hb=>?_,q⟩
 ·have e1:lo+((0:Nat):Int)*1=lo:=by simp
  have e2:(((hi-lo).toNat:Nat):Int)-((0:Nat):Int)=Builtin.Range.rangeSize lo hi 1:=by rw [rangeSize_one];split<;>lia
  show IsRangeIter _ _ (lo+((0:Nat):Int)*1) ((((hi-lo).toNat:Nat):Int)-((0:Nat):Int)) 1;rw [e1,e2];exact hS1 _ rfl
 ·have e:b=(s.heap.push {cls:=.type "range",data:=.fields #[.int lo t,.int hi u,.int 1 v]}).objs.size:=by simpa using hb
  subst e;exact I1.fpOk (nR1 _) (I1.hok.fresh (nR1 _))
noncomputable def iRng1 (ta:TA):TI:=fun σ H R=>ta σ H fun vs H1=>∃ j:Int,vs=[.int j] /\ -(2^62)<=j/\j<2^62/\R (Itr 0 j.toNat) H1
theorem pi_range1 {a:Expr}{ta:TA}{p pos:Pos}(hg:Gl X "range")(hm:X.mg "range"=none)(ha:PA X [a] ta)(hs:starEach [a] X.env=[(false,eval a X.env)]:=by rfl):PI X tg (.Call (.Name "range" p) [a] [] pos) (iRng1 ta):=by
 intro pins s σ H R I h;refine Call_ (ld_blt I hg hm boot_range (PyProof.Rows.callWith_type1 (thn (ha pos pins s σ H _ I h) fun us s1 ⟨vs,H1,I1,r1,q1⟩=>?_) hs rfl));obtain ⟨j,e,q1,q2,q⟩:=q1;subst e;cases r1 with
 | cons r rr=>
  cases rr;obtain ⟨t,rfl⟩:=r;exact call_range_1 (range_it I1 (by lia) (by lia) q1 q2 (by simpa using q))
noncomputable def tFor (wi:TI)(g:TG)(tb:TS):TS:=fun D σ H=>wi σ H fun J H1=>∃ W:Nat->Nat->St->Hp->Prop,(∃ m,W 0 m σ H1) /\ ∀ i m σ H,W i m σ H ->
 (J.stop i H/\D.nx σ H)\/(J.go i H /\ ∃ N:St->Hp->Prop,(∀ σ' H',N σ' H' -> ∃ m',m'<m/\W (i+1) m' σ' H') /\ ∀ x H',J.yld i H x H'->g x σ H' fun σ2 H2=>tb {D with nx:=N,ct:=N,bk:=D.nx} σ2 H2)
noncomputable def pinsAt (fp:List Addr)(h:Heap):List (Addr×Obj):=fp.filterMap fun b=>(h.get? b).map fun o=>(b,o)
theorem mem_pinsAt {fp:List Addr}{h:Heap}{b:Addr}{o:Obj}(hb:b∈fp)(e:h.get? b=some o):(b,o)∈pinsAt fp h:=List.mem_filterMap.mpr ⟨b,hb,by rw [e];rfl⟩
theorem of_pinsAt {fp:List Addr}{h:Heap}{p:Addr×Obj}(hp:p∈pinsAt fp h):p.1∈fp/\h.get? p.1=some p.2:=by
 obtain ⟨b,hb,e⟩:=List.mem_filterMap.mp hp;cases q:h.get? b with
 | none=>rw [q] at e;cases e
 | some o=>
  rw [q] at e;have e':(b,o)=p:=Option.some.inj e;subst e';exact ⟨hb,q⟩
theorem Inv.pinned {pins:List (Addr×Obj)}{σ:St}{H:Hp}{s:Shared}{fp:List Addr}(I:Inv X pins σ H s)(hf:∀ b∈fp,FpOk X pins H b)(ho:∀ b∈fp,∃ o,s.heap.get? b=some o /\ ∀ v,o.data ≠ .cell v):Inv X (pins++pinsAt fp s.heap) σ H s:=
 I.pins_of fun p hp=>(List.mem_append.mp hp).elim (fun z=>I.pin p (mA1 _ z)) fun z=>by
  obtain ⟨hb,e⟩:=of_pinsAt z;obtain ⟨f0,f1,f2,_⟩:=hf p.1 hb;obtain ⟨o,e',d⟩:=ho p.1 hb;rw [e] at e';cases e';exact ⟨e,f0,f1,f2,d⟩
theorem Inv.unpinned {pins pl:List (Addr×Obj)}{σ:St}{H:Hp}{s:Shared}(I:Inv X (pins++pl) σ H s):Inv X pins σ H s:=I.pins_of fun p hp=>I.pin p (mA1 _ (List.mem_append_left _ hp))
theorem ps_for {iter:Expr}{body:List Stmt}{wi:TI}{g:TG}{tb:TS}{pos:Pos}(hp:PassesOwn (model X.prog X.w) X.A X.env X.xe)(hc:X.calm=true)(hi:PI X tg iter wi)(hg:PG X tg g)(hb:PSs X body tb)
  (hs:∀ x,foldedSetIterable iter X.env x=pure x:=by intro _;rfl):PS X (.For tg iter body [] pos) (tFor wi g tb):=by
 intro pins s σ H D I h;refine wpAny_For (thn (hi pins s σ H _ I h) fun v s1 h1=>thn h1 fun itv s2 h2=>?_) hs;obtain ⟨it,fp,tn,J,H2,e,I2,T,st2,f2,W,⟨m0,w0⟩,turn⟩:=h2;subst e
 -- what stays true of the iterator's objects through the loop
 have stat:∀ {H':Hp},(∀ b∈fp,H' b=none) -> ∀ b∈fp,FpOk X pins H' b:=fun hn b hb=>⟨hn b hb,(f2 b hb).2⟩;refine codeAny_forLoop_any (fun n s'=>∃ i σ' H',Inv X pins σ' H' s'/\tn i s'.heap/\(∀ b∈fp,H' b=none)/\W i n σ' H') ?_ m0 ⟨0,σ,H2,I2,st2,fun b hb=>(f2 b hb).1,w0⟩;rintro n s3 ⟨i,σ3,H3,I3,st3,fr3,w3⟩;rcases turn i n σ3 H3 w3 with ⟨stop,qn⟩ | ⟨go,N,hN,step⟩
 ·refine wpAny_passesOwn hp (thn (T.done X rfl rfl rfl hc i pins s3 σ3 H3 X.xe I3 (stat fr3) st3 stop) fun r s4 ⟨hr,I4⟩=>?_);subst hr;exact wpAny_execs_nil ⟨σ3,H3,I4,qn⟩
 ·refine wpAny_passesOwn hp (thn (T.item X rfl rfl rfl hc i pins s3 σ3 H3 X.xe I3 (stat fr3) st3 go) fun r s4 ⟨u,hr,h4⟩=>?_);subst hr;refine wpAny_passesOwn hp (thn h4 fun _ s5 ⟨x,H5,I5,r5,y5,st5,fr5⟩=>?_);have I5':=I5.pinned (stat fr5) (T.obj _ _ st5);refine wpAny_passesOwn hp (thn (hg _ s5 σ3 H5 x u _ I5' r5 (step x H5 y5)) fun _ s6 ⟨σ6,H6,I6,q6⟩=>?_);refine wpAny_passesOwn hp (thn (hb _ s6 σ6 H6 _ I6 q6) fun f s7 q7=>?_);have again:∀ {σ7:St} {H7:Hp},Inv X (pins++pinsAt fp s5.heap) σ7 H7 s7->N σ7 H7 -> ∃ m,m<n /\ ∃ i σ' H',Inv X pins σ' H' s7/\tn i s7.heap/\(∀ b∈fp,H' b=none)/\W i m σ' H':=fun {σ7 H7} I7 n7=>by
   obtain ⟨m',hm,w7⟩:=hN σ7 H7 n7;refine ⟨m',hm,i+1,σ7,H7,I7.unpinned,T.keep _ _ _ st5 fun b hb o e=>(I7.pin (b,o) (mA1 _ (mA1 _ (mem_pinsAt hb e)))).1,fun b hb=>?_,w7⟩;obtain ⟨o,e,d⟩:=T.obj _ _ st5 b hb;exact (I7.pin (b,o) (mA1 _ (mA1 _ (mem_pinsAt hb e)))).2.1
  cases f with
  | next=>obtain ⟨σ7,H7,I7,n7⟩:=q7;exact again I7 n7
  | cont=>obtain ⟨σ7,H7,I7,n7⟩:=q7;exact again I7 n7
  | brk=>obtain ⟨σ7,H7,I7,q7⟩:=q7;exact ⟨σ7,H7,I7.unpinned,q7⟩
  | ret v=>obtain ⟨x7,σ7,H7,I7,r7,q7⟩:=q7;exact ⟨x7,σ7,H7,I7.unpinned,r7,q7⟩
end
end L2
namespace L2
open PySem PySem.Spec PyProof.Rows
noncomputable abbrev R2:=V->V->Hp->VK->Prop
noncomputable def OpR (X:Cx)(f:Value->Value->Sem Value)(r:R2):Prop:=
 ∀ (pins:List (Addr×Obj)) (s:Shared) (σ:St) (H:Hp) (x y:V) (v u:Value) (Q:VK),Inv X pins σ H s->RelV x v->RelV y u->r x y H Q ->
  wpAny (model X.prog X.w) X.A (f v u) (EP X pins σ Q) X.xe s
noncomputable def UnR (X:Cx)(f:Value->Sem Value)(r:V->Hp->VK->Prop):Prop:=
 ∀ (pins:List (Addr×Obj)) (s:Shared) (σ:St) (H:Hp) (x:V) (v:Value) (Q:VK),Inv X pins σ H s->RelV x v->r x H Q ->
  wpAny (model X.prog X.w) X.A (f v) (EP X pins σ Q) X.xe s
noncomputable def CallR (X:Cx)(f:Value)(r:List V->Hp->VK->Prop):Prop:=
 ∀ (pins:List (Addr×Obj)) (s:Shared) (σ:St) (H:Hp) (xs:List V) (us:List Value) (Q:VK),Inv X pins σ H s->Vals xs us->r xs H Q ->
  wpAny (model X.prog X.w) X.A (call f us) (EP X pins σ Q) X.xe s
noncomputable def TruR (X:Cx)(r:V->Hp->(Bool->Hp->Prop)->Prop):Prop:=
 ∀ (pins:List (Addr×Obj)) (s:Shared) (σ:St) (H:Hp) (x:V) (v:Value) (Q:Bool->Hp->Prop),Inv X pins σ H s->RelV x v->r x H Q ->
  wpAny (model X.prog X.w) X.A (truthy v) (TP X pins σ Q) X.xe s
noncomputable def tOp (r:R2)(ta tb:TE):TE:=fun σ H Q=>ta σ H fun x H1=>tb σ H1 fun y H2=>r x y H2 Q
noncomputable def tUn (r:V->Hp->VK->Prop)(ta:TE):TE:=fun σ H Q=>ta σ H fun x H1=>r x H1 Q
noncomputable def rI (C:Int->Int->Prop)(g:Int->Int->V):R2:=fun x y H Q=>∃ i j,x = .int i/\y = .int j/\C i j/\Q (g i j) H
noncomputable def rI0 (g:Int->Int->V):R2:=fun x y H Q=>∃ i j,x = .int i/\y = .int j/\Q (g i j) H
noncomputable def rU (g:Int->V):V->Hp->VK->Prop:=fun x H Q=>∃ i,x = .int i/\Q (g i) H
section
variable {X:Cx} {a b c:Expr} {ta tb tc:TE} {pos:Pos}
theorem binT (ha:PE X a ta)(hb:PE X b tb){pins:List (Addr×Obj)}{s:Shared}{σ:St}{H:Hp}{R:V->V->Hp->Prop}(I:Inv X pins σ H s)
  (h:ta σ H fun x H1=>tb σ H1 fun y H2=>R x y H2) {Q:Value->Shared->Prop} {f:Value->Value->Sem Value}
  (hf:∀ v u s2 x y H2,Inv X pins σ H2 s2->RelV x v->RelV y u->R x y H2->wpAny (model X.prog X.w) X.A (f v u) Q X.xe s2):
  wpAny (model X.prog X.w) X.A (eval a X.env) (fun v s₁=>wpAny (model X.prog X.w) X.A (eval b X.env) (fun u s₂=>wpAny (model X.prog X.w) X.A (f v u) Q X.xe s₂) X.xe s₁) X.xe s:=by
 refine thn (ha pins s σ H _ I h) fun v s1 ⟨x,H1,I1,r1,q1⟩=>?_;refine thn (hb pins s1 σ H1 _ I1 q1) fun u s2 ⟨y,H2,I2,r2,q2⟩=>?_;exact hf v u s2 x y H2 I2 r1 r2 q2
theorem pe_op {op:Operator}{r:R2}(ho:OpR X (binaryOp op) r)(ha:PE X a ta)(hb:PE X b tb):PE X (.BinOp a op b pos) (tOp r ta tb):=by
 intro pins s σ H Q I h;exact wpAny_BinOp (binT ha hb I h fun v u s2 x y H2 I2 rx ry q=>ho pins s2 σ H2 x y v u Q I2 rx ry q)
theorem pe_un {op:UnaryOp}{r:V->Hp->VK->Prop}(ho:UnR X (unaryOp op) r)(ha:PE X a ta):PE X (.UnaryOp op a pos) (tUn r ta):=by
 intro pins s σ H Q I h;exact UnaryOp_ (thn (ha pins s σ H _ I h) fun v s1 ⟨x,H1,I1,r1,q1⟩=>ho pins s1 σ H1 x v Q I1 r1 q1)
theorem opI {f:Value->Value->Sem Value}{C:Int->Int->Prop}{g:Int->Int->Int}
  (rule:∀ (i j:Int) (t u:Tok) (s:Shared) (Q:Value->Shared->Prop) (E:Value->Shared->Prop),C i j->Q (.int (g i j) s.toks) {s with toks:=s.toks+1}->wpAny (model X.prog X.w) X.A (f (.int i t) (.int j u)) Q E s):
  OpR X f (rI C fun i j=>.int (g i j)):=by
 intro pins s σ H x y v u Q I rx ry h;obtain ⟨i,j,rfl,rfl,hc,q⟩:=h;obtain ⟨t,rfl⟩:=rx;obtain ⟨t',rfl⟩:=ry;exact rule i j t t' s _ _ hc ⟨.int (g i j),H,I.tok _,⟨_,rfl⟩,q⟩
theorem opI0 {f:Value->Value->Sem Value}{g:Int->Int->Int}
  (rule:∀ (i j:Int) (t u:Tok) (s:Shared) (Q:Value->Shared->Prop) (E:Value->Shared->Prop),Q (.int (g i j) s.toks) {s with toks:=s.toks+1}->wpAny (model X.prog X.w) X.A (f (.int i t) (.int j u)) Q E s):
  OpR X f (rI0 fun i j=>.int (g i j)):=by
 intro pins s σ H x y v u Q I rx ry h;obtain ⟨i,j,rfl,rfl,q⟩:=h;obtain ⟨t,rfl⟩:=rx;obtain ⟨t',rfl⟩:=ry;exact rule i j t t' s _ _ ⟨.int (g i j),H,I.tok _,⟨_,rfl⟩,q⟩
theorem opB0 {f:Value->Value->Sem Value}{g:Int->Int->Bool}
  (rule:∀ (i j:Int) (t u:Tok) (s:Shared) (Q:Value->Shared->Prop) (E:Value->Shared->Prop),Q (.bool (g i j)) s->wpAny (model X.prog X.w) X.A (f (.int i t) (.int j u)) Q E s):
  OpR X f (rI0 fun i j=>.bl (g i j)):=by
 intro pins s σ H x y v u Q I rx ry h;obtain ⟨i,j,rfl,rfl,q⟩:=h;obtain ⟨t,rfl⟩:=rx;obtain ⟨t',rfl⟩:=ry;exact rule i j t t' s _ _ ⟨.bl (g i j),H,I,rfl,q⟩
noncomputable def CDiv (i j:Int):Prop:=0<j/\j<1073741824
noncomputable def CPow (i j:Int):Prop:=0<=j/\j<=1000000/\i.natAbs<2^64
theorem op_add:OpR X (binaryOp .Add) (rI0 fun i j=>.int (i+j)):=opI0 fun _ _ _ _ _ _ _ q=>add_int q
theorem op_sub:OpR X (binaryOp .Sub) (rI0 fun i j=>.int (i-j)):=opI0 fun _ _ _ _ _ _ _ q=>sub_int q
theorem op_fdiv:OpR X (binaryOp .FloorDiv) (rI CDiv fun i j=>.int (i/j)):=opI fun i j _ _ _ _ _ hc q=>by
 have h1:(0:Int)<j:=hc.1;have h2:j<1073741824:=hc.2;exact floordiv_int (by lia) (by rw [Int.fdiv_eq_ediv_of_nonneg i (by lia)];exact q) (.inl (PyProof.noPylong_small (by lia)))
theorem op_mod:OpR X (binaryOp .Mod) (rI (fun _ j=>0<j) fun i j=>.int (i%j)):=opI fun i j _ _ _ _ _ hc q=>by
 have h1:(0:Int)<j:=hc;exact mod_int' (by lia) (by rw [Int.fmod_eq_emod_of_nonneg i (by lia)];exact q)
theorem op_pow:OpR X (binaryOp .Pow) (rI CPow fun i j=>.int (i^j.toNat)):=opI fun _ _ _ _ _ _ _ hc q=>pow_int_small hc.1 hc.2.1 hc.2.2 q
theorem unI {f:Value->Sem Value}{g:Int->Int}
  (rule:∀ (i:Int) (t:Tok) (s:Shared) (Q:Value->Shared->Prop) (E:Value->Shared->Prop),Q (.int (g i) s.toks) {s with toks:=s.toks+1}->wpAny (model X.prog X.w) X.A (f (.int i t)) Q E s):
  UnR X f (rU fun i=>.int (g i)):=by
 intro pins s σ H x v Q I rx h;obtain ⟨i,rfl,q⟩:=h;obtain ⟨t,rfl⟩:=rx;exact rule i t s _ _ ⟨.int (g i),H,I.tok _,⟨_,rfl⟩,q⟩
theorem un_neg:UnR X (unaryOp .USub) (rU fun i=>.int (-i)):=unI fun _ _ _ _ _ q=>neg_int q
theorem fin_bl {pins:List (Addr×Obj)}{σ:St}{H:Hp}{s:Shared}{Q:VK}{k k':Bool}(I:Inv X pins σ H s)(q:Q (.bl k) H)(e:k=k'):EP X pins σ Q (.bool k') s:=by
 subst e;exact ⟨.bl k,H,I,rfl,q⟩
theorem op_le:OpR X (compareOp .LtE) (rI0 fun i j=>.bl (decide (i<=j))):=opB0 fun _ _ _ _ _ _ _ q=>le_int q
theorem op_gt:OpR X (compareOp .Gt) (rI0 fun i j=>.bl (decide (j<i))):=opB0 fun _ _ _ _ _ _ _ q=>gt_int q
theorem op_ge:OpR X (compareOp .GtE) (rI0 fun i j=>.bl (decide (j<=i))):=opB0 fun _ _ _ _ _ _ _ q=>ge_int q
theorem op_isN:OpR X (compareOp .Is) (fun x y H Q=>y = .non/\Q (.bl (decide (x = .non))) H):=by
 intro pins s σ H x y v u Q I rx ry h;obtain ⟨rfl,q⟩:=h;cases ry;refine is_none_gen (fin_bl I q ?_);cases x<;>first
  | (cases rx;rfl)
  | (obtain ⟨t,rfl⟩:=rx;rfl)
theorem op_notN:OpR X (compareOp .IsNot) (fun x y H Q=>y = .non/\Q (.bl (!decide (x = .non))) H):=by
 intro pins s σ H x y v u Q I rx ry h;obtain ⟨rfl,q⟩:=h;cases ry;refine isnot_none_gen (fin_bl I q ?_);cases x<;>first
  | (cases rx;rfl)
  | (obtain ⟨t,rfl⟩:=rx;rfl)
theorem nomark (b:Expr){op:CmpOp}(h:op ≠ .In:=by decide)(h2:op ≠ .NotIn:=by decide):behindInMarks op b=false:=by
 have e1:(op == CmpOp.In)=false:=by cases op<;>first | rfl | exact absurd rfl h
 have e2:(op == CmpOp.NotIn)=false:=by cases op<;>first | rfl | exact absurd rfl h2
 cases b<;>simp [behindInMarks,e1,e2]
theorem pe_cmpR {op:CmpOp}{r:R2}(ho:OpR X (compareOp op) r)(ha:PE X a ta)(hb:PE X b tb)(hm:behindInMarks op b=false):PE X (.Compare a [op] [b] pos) (tOp r ta tb):=by
 intro pins s σ H Q I h;exact wpAny_Compare1 (binT ha hb I h fun v u s2 x y H2 I2 rx ry q=>ho pins s2 σ H2 x y v u Q I2 rx ry q) hm
noncomputable def tTest (t:TE):TT:=fun σ H Q=>t σ H fun x H'=>∃ k,x = .bl k/\Q k H'
theorem pt_cmpR {op:CmpOp}{r:R2}(ho:OpR X (compareOp op) r)(ha:PE X a ta)(hb:PE X b tb)(hm:behindInMarks op b=false):PT X (.Compare a [op] [b] pos) (tTest (tOp r ta tb)):=by
 intro pins s σ H Q I h;refine wpAny_isTrue_Compare1 (thn (ha pins s σ H _ I h) fun v s1 ⟨x,H1,I1,r1,q1⟩=>thn (hb pins s1 σ H1 _ I1 q1) fun u s2 ⟨y,H2,I2,r2,q2⟩=>
  thn (ho pins s2 σ H2 x y v u _ I2 r1 r2 q2) fun c s3 ⟨z,H3,I3,r3,k,e,q3⟩=>?_) hm
 subst e;cases r3;exact wpAny_truthy_bool ⟨H3,I3,q3⟩
noncomputable def tChain (r r':R2)(ta tb tc:TE):TE:=fun σ H Q=>ta σ H fun x H1=>tb σ H1 fun y H2=>r x y H2 fun z H3=>∃ k,z = .bl k /\
 (if k=true then tc σ H3 fun w' H4=>r' y w' H4 Q else Q (.bl false) H3)
theorem pe_chain {op op':CmpOp}{r r':R2}(ho:OpR X (compareOp op) r)(ho':OpR X (compareOp op') r')(ha:PE X a ta)(hb:PE X b tb)(hc:PE X c tc)
  (hm:lastMarks [op,op'] [b,c]=false:=by with_unfolding_all rfl):PE X (.Compare a [op,op'] [b,c] pos) (tChain r r' ta tb tc):=by
 intro pins s σ H Q I h;refine Compare_chain (thn (ha pins s σ H _ I h) fun v s1 ⟨x,H1,I1,r1,q1⟩=>chain_link (thn (hb pins s1 σ H1 _ I1 q1) fun u s2 ⟨y,H2,I2,r2,q2⟩=>
  thn (ho pins s2 σ H2 x y v u _ I2 r1 r2 q2) fun d s3 ⟨z,H3,I3,r3,k,e,q3⟩=>?_)) hm
 subst e;cases r3;refine wpAny_truthy_bool ?_;cases k with
 | false=>exact ite_ff ⟨.bl false,H3,I3,rfl,q3⟩
 | true=>exact ite_tt (chain_last (thn (hc pins s3 σ H3 _ I3 q3) fun w' s4 ⟨z',H4,I4,r4,q4⟩=>ho' pins s4 σ H4 y z' u w' Q I4 r2 r4 q4))
noncomputable def TruV (K:Fg1)(x:V)(H:Hp)(k:Bool):Prop:=
 match x with
 | .non=>k=false
 | .bl b=>k=b
 | .int i=>k=(i != 0)
 | .str y=>y.length<=sizeLine/\k=((y.length:Int) != 0)
 | .byt y=>y.size<=sizeLine/\k=((y.size:Int) != 0)
 | .ref p=>(∃ xs,SqL K H p xs/\k = !xs.isEmpty)\/(∃ xs,SqT K H p xs/\k = !xs.isEmpty) \/ ∃ kvs,H p=some (.dK kvs)/\k = !kvs.isEmpty
 | _=>False
theorem isEmpty_kv {κ:Type}{kvs:List (κ×V)}{vs:List (κ×Value)}(r:KV kvs vs):(!vs.isEmpty) = !kvs.isEmpty:=by
 cases r<;>rfl
theorem isEmpty_of {xs:List V}{its:List Value}(r:Vals xs its):(!its.toArray.isEmpty) = !xs.isEmpty:=by
 cases r<;>simp
theorem line63:(sizeLine:Nat)<2^63:=by rw [sizeLine_eq];decide
theorem tru_ok:TruR X (fun x H Q=>∃ k,TruV X.K x H k/\Q k H):=by
 intro pins s σ H x v Q I rx h;obtain ⟨k,e,q⟩:=h;have hl:=line63;have hs:sizeLine=16777216:=sizeLine_eq;cases x with
 | non=>
  cases rx;have e':k=false:=e;subst e';exact truthy_none ⟨H,I,q⟩
 | bl b=>
  cases rx;have e':k=b:=e;subst e';exact wpAny_truthy_bool ⟨H,I,q⟩
 | int i=>
  obtain ⟨t,rfl⟩:=rx;have e':k=(i != 0):=e;subst e';exact PySem.P.truthy_int ⟨H,I,q⟩
 | str y=>
  obtain ⟨t,rfl⟩:=rx;obtain ⟨hy,e'⟩:y.length<=sizeLine/\k=((y.length:Int) != 0):=e;subst e';exact PySem.P.truthy_str (by lia) ⟨H,I.tok _,q⟩
 | byt y=>
  obtain ⟨t,rfl⟩:=rx;obtain ⟨hy,e'⟩:y.size<=sizeLine/\k=((y.size:Int) != 0):=e;subst e';exact PySem.W.truthy_bytes (by lia) ⟨H,I.tok _,q⟩
 | ref p=>
  cases rx;have e':(∃ xs,SqL X.K H p xs/\k = !xs.isEmpty)\/(∃ xs,SqT X.K H p xs/\k = !xs.isEmpty) \/ ∃ kvs,H p=some (.dK kvs)/\k = !kvs.isEmpty:=e;rcases e' with ⟨xs,hx,e'⟩ | ⟨xs,hx,e'⟩ | ⟨kvs,hx,e'⟩
  ·subst e';obtain ⟨its,r,pl,hz⟩:=I.list hx;have hlen:=r.length;exact wpAny_truthy_list pl.isList (by simp only [sT1];lia) ⟨H,I.tok _,by rw [isEmpty_of r];exact q⟩
  ·subst e';obtain ⟨its,r,pl,hz⟩:=I.tuple hx;have hlen:=r.length;exact truthy_tuple pl (by simp only [sT1];lia) ⟨H,I.tok _,by rw [isEmpty_of r];exact q⟩
  ·subst e';obtain ⟨hz,hS,vs,r,m⟩:kvs.length<=sizeLine/\(p == sysModules)=false /\ ∃ vs,KV kvs vs/\s.heap.DictOf (mixKind X.prog X.w) p vs:=I.hok p _ hx;have hlen:kvs.length=vs.length:=Paired.length r;exact wpAny_truthy_dict hS m (by lia) ⟨H,I.tok _,by rw [isEmpty_kv r];exact q⟩
 | _=>exact (show False from e).elim
theorem pt_truth (ha:PE X a ta)(he:∀ whole,isTrue a X.env whole=(do let v<-whole;standAt a.pos;holding [v] (truthy v))):
  PT X a (fun σ H Q=>ta σ H fun x H'=>∃ k,TruV X.K x H' k/\Q k H'):=by
 intro pins s σ H Q I h;exact isTrue_plain (thn (ha pins s σ H _ I h) fun v s1 ⟨x,H1,I1,r1,q1⟩=>tru_ok pins s1 σ H1 x v Q I1 r1 q1) (he _)
theorem op_add_str:OpR X (binaryOp .Add) (fun x y H Q=>∃ i j,x = .str i/\y = .str j/\i.length+j.length<=sizeLine/\Q (.str (i++j)) H):=by
 intro pins s σ H x y v u Q I rx ry h;obtain ⟨i,j,rfl,rfl,hz,q⟩:=h;obtain ⟨t,rfl⟩:=rx;obtain ⟨t',rfl⟩:=ry;exact add_str (fun t' tk=>⟨.str (i++j),H,I.tok _,⟨_,rfl⟩,q⟩) hz
theorem vals1 {x:V}{us:List Value}(r:Vals [x] us):∃ u,us=[u]/\RelV x u:=by
 cases r with
 | cons r1 r2=>cases r2;exact ⟨_,rfl,r1⟩
theorem vals2 {x y:V}{us:List Value}(r:Vals [x,y] us):∃ u w',us=[u,w']/\RelV x u/\RelV y w':=by
 cases r with
 | cons r1 r2=>
  cases r2 with
  | cons r3 r4=>cases r4;exact ⟨_,_,rfl,r1,r3⟩
theorem call_max2 (hc:X.calm=true):CallR X (.builtin "max") (fun xs H Q=>∃ i j,xs=[.int i,.int j]/\Q (.int (if j>i then j else i)) H):=by
 intro pins s σ H xs us Q I r h;obtain ⟨i,j,rfl,q⟩:=h;obtain ⟨u,w',rfl,⟨t,rfl⟩,⟨t',rfl⟩⟩:=vals2 r;refine max_two_ints (I.ok.hd hc) fun h' tk k=>⟨_,H,I.kept k,?_,q⟩;by_cases hj:j>i
 ·rw [if_pos hj,if_pos hj];exact ⟨_,rfl⟩
 ·rw [if_neg hj,if_neg hj];exact ⟨_,rfl⟩
theorem call_min2 (hc:X.calm=true):CallR X (.builtin "min") (fun xs H Q=>∃ i j,xs=[.int i,.int j]/\Q (.int (if j<i then j else i)) H):=by
 intro pins s σ H xs us Q I r h;obtain ⟨i,j,rfl,q⟩:=h;obtain ⟨u,w',rfl,⟨t,rfl⟩,⟨t',rfl⟩⟩:=vals2 r;refine min_two_ints (I.ok.hd hc) fun h' tk k=>⟨_,H,I.kept k,?_,q⟩;by_cases hj:j<i
 ·rw [if_pos hj,if_pos hj];exact ⟨_,rfl⟩
 ·rw [if_neg hj,if_neg hj];exact ⟨_,rfl⟩
theorem call_int1:CallR X (.type "int") (fun xs H Q=>(∃ i,xs=[.int i]/\Q (.int i) H) \/ ∃ k,xs=[.bl k]/\Q (.int (if k then 1 else 0)) H):=by
 intro pins s σ H xs us Q I r h;rcases h with ⟨i,rfl,q⟩ | ⟨k,rfl,q⟩
 ·obtain ⟨u,rfl,t,rfl⟩:=vals1 r;exact call_int_int ⟨.int i,H,I,⟨_,rfl⟩,q⟩
 ·obtain ⟨u,rfl,r1⟩:=vals1 r;cases r1;exact call_int_bool ⟨.int (if k then 1 else 0),H,I.tok _,⟨_,rfl⟩,q⟩
end
end L2
namespace L2
open PySem PySem.Spec PyProof.Rows
structure ObjM (h:Heap)(x dx C:Addr)(mA:Str->Option Value):Prop where
 obj:h.get? x=some (PySem.W.instObj C dx)
 ns:h.Ns1 dx mA
 ne:dx≠x
theorem lookIn_ns {h:Heap}{dx:Addr}{mA:Str->Option Value}(n:h.Ns1 dx mA):∃ od,h.get? dx=some od /\ ∀ name,PySem.W.lookIn name od=some (mA name):=by
 obtain ⟨o,es,ep,ho,hd,hk,_,hm⟩:=n;refine ⟨o,ho,fun name=>?_⟩;have e:=hm name;unfold nsFind findBy at e;rw [<- Array.find?_toList] at e;unfold PySem.W.lookIn;rw [hd];dsimp only;split
 ·rename_i y q;rw [q] at e;exact congrArg some e
 ·rename_i q;rw [q] at e;have a:es.toList.any (·.refKey)=false:=by
   rw [List.any_eq_false];intro y hy;obtain ⟨z,t,hkey⟩:=hk y (Array.mem_toList_iff.mp hy);simp [DictEntry.refKey,hkey]
  have a':¬ es.toList.any (·.refKey)=true:=by rw [a];exact Bool.false_ne_true
  rw [if_neg a'];exact congrArg some e
theorem ObjM.look {h:Heap}{x dx C:Addr}{mA:Str->Option Value}(I:ObjM h x dx C mA):∃ od,PySem.W.InstAt h x (PySem.W.instObj C dx) C (some od) /\ ∀ name,PySem.W.lookIn name od=some (mA name):=
 let ⟨od,ho,hl⟩:=lookIn_ns I.ns
 ⟨od,⟨I.obj,rfl,rfl,ho⟩,hl⟩
section
variable {prog:Program} {w:World} {A:Around} {E:Value->Shared->Prop} {s:Shared} {K:Fg1} {x dx C f:Addr} {mA:Str->Option Value} {name:Str} {v:Value}
end
theorem RelO.some_of {v:V}{o:Option Value}(r:RelO (some v) o):∃ u,o=some u/\RelV v u:=by
 cases o with
 | none=>exact (show False from r).elim
 | some u=>exact ⟨u,rfl,r⟩
section
variable {P:Program} {w:World} {H H':Hp} {h h':Heap} {a C dx:Addr} {fs fs':List (Str×V)}
theorem ins_get (hok:HOk P w H h)(e:H a=some (.ins C dx fs)):∃ mA,ObjM h a dx C mA/\(∀ f,RelO (fs.lookup f) (mA f))/\PySem.Within mA (fs.map (·.1))/\fs.length<=1000/\H dx=some (.own a):=by
 obtain ⟨d,z,ne,ob,mA,n,r,q⟩:=(show ObjOk P w H h a (.ins C dx fs) from hok a _ e);exact ⟨mA,⟨ob,n,ne⟩,r,q,z,d⟩
end
structure Cls (K:Fg1)(C:Addr):Prop where
 pg:PySem.W.plainGet K C Str.empty=true
 hd:PySem.W.hasDictIn K C=true
 po:PySem.W.plainOver K C=true
 sa:PySem.W.findIn K (.ref C) "__setattr__"=some (some (.builtin "object.__setattr__"))
theorem Cls.get {K:Fg1}{C:Addr}(c:Cls K C)(f:Str):PySem.W.plainGet K C f=true:=c.pg
structure Con (K:Fg1)(C:Addr)(f:Str)(v:V)(u:Value):Prop where
 at_:PySem.W.findIn K (.ref C) f=some (some u)
 rel:RelV v u
 get:PySem.W.specialIn K u "__get__"=some none
 cp:PySem.W.copiedNames.contains f=false
section
variable {X:Cx} {pins:List (Addr×Obj)} {σ:St} {H:Hp} {s:Shared} {a C dx:Addr} {fs:List (Str×V)} {f:Str} {v:V} {A:Around} {E:Value->Shared->Prop}
end
section
variable {X:Cx} {o e value:Expr} {f:Str} {pos pos' tpos:Pos} {ta tv:TE}
end
section
variable {X:Cx} {pins:List (Addr×Obj)} {σ:St} {H:Hp} {s:Shared} {A:Around} {E:Value->Shared->Prop} {Q:Value->Shared->Prop} {c:Value} {b:Bool}
inductive TyOf (K:Fg1)(H:Hp):V->Value->Prop where
 | non:TyOf K H .non (.type "NoneType")
 | bl (x:Bool):TyOf K H (.bl x) (.type "bool")
 | int (i:Int):TyOf K H (.int i) (.type "int")
 | str (x:Str):TyOf K H (.str x) (.type "str")
 | flt (x:UInt64):TyOf K H (.flt x) (.type "float")
 | lst {a:Addr} {xs:List V} (e:H a=some (.lst xs)):TyOf K H (.ref a) (.type "list")
 | frz {a:Addr} {o:Obj} {xs:List V} (e:H a=some (.frz o (.lst xs))):TyOf K H (.ref a) (.type "list")
 | tup {a:Addr} {xs:List V} (e:H a=some (.tup xs)):TyOf K H (.ref a) (.type "tuple")
 | dK {a:Addr} {kvs:List (Key×V)} (e:H a=some (.dK kvs)):TyOf K H (.ref a) (.type "dict")
 | dT {a:Addr} {kvs:List (List Key×V)} (e:H a=some (.dT kvs)):TyOf K H (.ref a) (.type "dict")
 | ins {a C dx:Addr} {fs:List (Str×V)} (e:H a=some (.ins C dx fs)) (cl:Cls K C) (ha:PySem.W.findIn K (.ref C) "__class__"=some (some (.builtin "object.__class__")))
   (hn:PySem.W.specialIn K (.builtin "object.__class__") "__get__"=some (some (.builtin "getset_descriptor.__get__"))) (htk:PySem.W.takesIn K (.builtin "object.__class__")=some true)
   (hm:PySem.W.mroIn K C (.type "object")=some true):TyOf K H (.ref a) (.ref C)
theorem isinst_ok {x:V}{u t:Value}(I:Inv X pins σ H s)(rx:RelV x u)(ty:TyOf X.K H x t)(e:PySem.W.kitOne X.K t c=some b)(h:∀ tk,Q (.bool b) {s with toks:=tk}):
  wpAny (model X.prog X.w) A (call (.builtin "isinstance") [u,c]) Q E s:=by
 cases ty with
 | non=>cases (show u=Value.none from rx);exact PySem.W.kia_one PySem.W.kitx_none I.kIn True.intro e (fun z=>nomatch z) h
 | bl y=>cases (show u=Value.bool y from rx);exact PySem.W.kia_one PySem.W.kitx_bool I.kIn True.intro e (fun z=>nomatch z) h
 | int i=>obtain ⟨t,q⟩:=(show ∃ t,u=Value.int i t from rx);cases q;exact PySem.W.kia_one PySem.W.kitx_int I.kIn True.intro e (fun z=>nomatch z) h
 | str y=>obtain ⟨t,q⟩:=(show ∃ t,u=Value.str y t from rx);cases q;exact PySem.W.kia_one PySem.W.kitx_str I.kIn True.intro e (fun z=>nomatch z) h
 | flt y=>obtain ⟨t,q⟩:=(show ∃ t,u=Value.float y t from rx);cases q;exact PySem.W.kia_one PySem.W.kitx_float I.kIn True.intro e (fun z=>nomatch z) h
 | @lst a xs ea=>
  cases (show u=Value.ref a from rx);obtain ⟨_,_,n,_,h1⟩:=(show ObjOk X.prog X.w H s.heap a (.lst xs) from I.hok a _ ea);exact PySem.W.kia_one PySem.W.kitx_list I.kIn ⟨_,h1,rfl⟩ e (fun z=>nomatch z) h
 | @frz a ob xs ea=>
  cases (show u=Value.ref a from rx);obtain ⟨_,_,_,n,_,h1⟩:=(show ObjOk X.prog X.w H s.heap a (.frz ob (.lst xs)) from I.hok a _ ea);exact PySem.W.kia_one PySem.W.kitx_list I.kIn ⟨_,h1,rfl⟩ e (fun z=>nomatch z) h
 | @tup a xs ea=>
  cases (show u=Value.ref a from rx);obtain ⟨_,_,_,p⟩:=(show ObjOk X.prog X.w H s.heap a (.tup xs) from I.hok a _ ea);obtain ⟨o,h1,h2,_⟩:=p;exact PySem.W.kia_one PySem.W.kitx_tuple I.kIn ⟨o,h1,h2⟩ e (fun z=>nomatch z) h
 | @dK a kvs ea=>
  cases (show u=Value.ref a from rx);obtain ⟨_,_,vs,_,p⟩:=(show ObjOk X.prog X.w H s.heap a (.dK kvs) from I.hok a _ ea);obtain ⟨o,es,ep,h1,h2,_⟩:=p;exact PySem.W.kia_one PySem.W.kitx_dict I.kIn ⟨o,h1,h2.1⟩ e (fun z=>nomatch z) h
 | @dT a kvs ea=>
  cases (show u=Value.ref a from rx);obtain ⟨_,_,xs,_,o,es,ep,h1,h2,_⟩:=(show ObjOk X.prog X.w H s.heap a (.dT kvs) from I.hok a _ ea);exact PySem.W.kia_one PySem.W.kitx_dict I.kIn ⟨o,h1,h2.1⟩ e (fun z=>nomatch z) h
 | @ins a C dx fs ea cl ha hn htk hm=>
  cases (show u=Value.ref a from rx);obtain ⟨mA,O,_⟩:=ins_get I.hok ea;obtain ⟨od,J,_⟩:=O.look;exact PySem.W.kia_one (PySem.W.kitx_own (cl.get _) cl.hd ha hn htk hm) I.kIn J e (fun z=>nomatch z) h
end
end L2
namespace L2
open PySem PySem.Spec PyProof.Rows
structure Room (k:Nat)(A:Around):Prop where
 hd:A.handled=none
 dp:A.depth+3*k+5<recursionLimit
 un:A.units+16*k+200<cLine
 gd:A.guards=some []
theorem Room.mono {j k:Nat}{A:Around}(r:Room k A)(h:j<=k):Room j A:=⟨r.hd,by have:=r.dp;lia,by have:=r.un;lia,r.gd⟩
theorem Room.deeper {k:Nat}{A:Around}(r:Room (k+1) A)(env:Env):Room k (A.deeper env):=
 ⟨r.hd,by have:=r.dp;show A.depth+1+3*k+5<_;lia,by have:=r.un;show A.units+3+16*k+200<_;lia,r.gd⟩
theorem Room.depth {k:Nat}{A:Around}(r:Room k A):A.depth<recursionLimit:=by have:=r.dp;lia
theorem Room.units {k:Nat}{A:Around}(r:Room k A):A.units+64<cLine:=by have:=r.un;lia
noncomputable def tNil:TA:=fun _ H Q=>Q [] H
noncomputable def tCons (ta:TE)(tr:TA):TA:=fun σ H Q=>ta σ H fun x H1=>tr σ H1 fun xs H2=>Q (x::xs) H2
section
variable {X:Cx} {e:Expr} {es:List Expr} {te:TE} {t:TA} {pos:Pos}
theorem pa_nil:PA X [] tNil:=fun _ _ _ _ H Q I h=>Calls.spliced_nil ⟨[],H,I,.nil,h⟩
theorem pa_cons (ha:PE X e te)(hr:PA X es t)(hs:starEach (e::es) X.env=(false,eval e X.env)::starEach es X.env:=by rfl):PA X (e::es) (tCons te t):=by
 intro pos pins s σ H Q I h;rw [hs];show wpAny _ _ (spliced ((false,eval e X.env)::backTo pos (starEach es X.env))) _ _ s;refine Calls.spliced_cons (thn (ha pins s σ H _ I h) fun u s1 ⟨x,H1,I1,r1,q1⟩=>?_);exact thn (hr pos pins s1 σ H1 _ I1 q1) fun us s2 ⟨xs,H2,I2,r2,q2⟩=>⟨x::xs,H2,I2,.cons r1 r2,q2⟩
noncomputable def tTup (t:TA):TE:=fun σ H Q=>t σ H fun xs H1=>xs.length<=sizeLine /\ ∀ p,H1 p=none->Q (.ref p) (upd H1 p (.tup xs))
noncomputable def tLst (t:TA):TE:=fun σ H Q=>t σ H fun xs H1=>xs.length<=sizeLine /\ ∀ p,H1 p=none->Q (.ref p) (upd H1 p (.lst xs))
theorem pe_tup {x1}(h:PA X es t):PE X (.Tuple es x1 pos) (tTup t):=by
 intro pins s σ H Q I hq;refine wpAny_Tuple_spliced (thn (h pos pins s σ H _ I hq) fun us s1 ⟨xs,H1,I1,r,z,q⟩=>⟨by rw [<- r.length];exact z,?_⟩);have hf:H1 s1.heap.objs.size=none:=I1.hok.fresh (nR1 _);refine ⟨.ref s1.heap.objs.size,upd H1 s1.heap.objs.size (.tup xs),I1.laid (t':=s1.toks) (fun b u e=>hP1 _ e) (nR1 _) ?_,rfl,q _ hf⟩;exact ⟨z,us,r,⟨_,hS1 _ rfl,rfl,_,rfl⟩⟩
theorem pe_lst (h:PA X es t):PE X (.List es pos) (tLst t):=by
 intro pins s σ H Q I hq;refine wpAny_List_spliced (thn (h pos pins s σ H _ I hq) fun us s1 ⟨xs,H1,I1,r,z,q⟩=>⟨by rw [<- r.length];exact z,?_⟩);have hf:H1 s1.heap.objs.size=none:=I1.hok.fresh (nR1 _);refine ⟨.ref s1.heap.objs.size,upd H1 s1.heap.objs.size (.lst xs),I1.laid (t':=s1.toks) (fun b u e=>hP1 _ e) (nR1 _) ?_,rfl,q _ hf⟩;exact ⟨z,us,0,r,hS1 _ rfl⟩
end
noncomputable abbrev Sp:=List V->Hp->VK->XK->Prop
noncomputable abbrev CXT:=List Env->Hp->Shared->XK->Value->Shared->Prop
structure Env0 (P:Program)(w:World)(K:Fg1)(mg:Str->Option Value)(base:Heap)(A:Around)(outer:List Env)(s:Shared)(H:Hp):Prop where
 frames:A.frames=some outer
 mod:Mod K mg base
 bs:∀ b o,base.get? b=some o->s.heap.get? b=some o/\H b=none
 bsz:base.objs.size<=s.heap.objs.size
 funs:s.heap.FunFrames base outer
 frf:∀ b∈frs outer,H b=none
 hok:HOk P w H s.heap
 bare:AllBare s.gens
noncomputable def CE (outer:List Env)(P:Program)(w:World)(H:Hp)(s:Shared)(Q:VK)(u:Value)(s':Shared):Prop:=
 ∃ v H',s'.os=s.os/\AllBare s'.gens/\Un (frs outer) [] H H' s.heap s'.heap/\HOk P w H' s'.heap/\RelV v u/\Q v H'
noncomputable def CR (CX:CXT)(outer:List Env)(P:Program)(w:World)(H:Hp)(s:Shared)(Q:VK)(E:XK)(r:Result)(s':Shared):Prop:=
 match r with
 | .ok (.ret u)=>CE outer P w H s Q u s'
 | .ok _=>False
 | .error e=>CX outer H s E e s'
structure FnOk (P:Program)(w:World)(K:Fg1)(mg:Str->Option Value)(base:Heap)(CX:CXT)(k:Nat)(f:Addr)(fd:FuncData)(ps:List Str)(sp:Sp):Prop where
 len:∀ vs H Q E,sp vs H Q E->vs.length=ps.length
 run:∀ (A:Around) (outer:List Env) (s:Shared) (H:Hp) (args:Args) (us:List Value) (vs:List V) (Q:VK) (E:XK),Room k A->Env0 P w K mg base A outer s H->BindsTo s fd args (ps.zip us)->Vals vs us->sp vs H Q E ->
  codeAny (model P w) A (.call (.ref f) args) (CR CX outer P w H s Q E) s
theorem FnOk.mono {P:Program}{w:World}{K:Fg1}{mg:Str->Option Value}{base:Heap}{CX:CXT}{j k:Nat}{f:Addr}{fd:FuncData}{ps:List Str}{sp:Sp}(F:FnOk P w K mg base CX j f fd ps sp)(h:j<=k):
  FnOk P w K mg base CX k f fd ps sp:=⟨F.len,fun A outer s H args us vs Q E hr=>F.run A outer s H args us vs Q E (hr.mono h)⟩
section
variable {X:Cx} {pins:List (Addr×Obj)} {σ:St} {H:Hp} {s s':Shared}
theorem Inv.env0 (I:Inv X pins σ H s):Env0 X.prog X.w X.K X.mg X.base X.A X.stack s H:=
 ⟨I.ok.frames,I.ok.mod,I.bs,Nat.le_trans I.ok.bsz I.sz,I.stack,I.stkFree,I.hok,I.bare⟩
theorem Inv.after {Q:VK}{u:Value}(I:Inv X pins σ H s)(h:CE X.stack X.prog X.w H s Q u s'):EP X pins σ Q u s':=by
 obtain ⟨v,H',os,bare,un,hok,r,q⟩:=h;obtain ⟨hh,g,d,t,os'⟩:=s';obtain rfl:os'=s.os:=os;exact ⟨v,H',I.call (h':=hh) (g':=g) (d':=d) (t':=t) (ch:=[]) un hok bare (fun b z=>absurd z (by simp)),r,q⟩
end
noncomputable def tCall (sp:Sp)(dvs:List V)(E:XK)(t:TA):TE:=fun σ H Q=>t σ H fun vs H1=>sp (vs++dvs) H1 Q E
noncomputable def Binds (K:Fg1)(fd:FuncData)(ps:List Str)(ds:List Value):Prop:=
 ∀ (s:Shared) (us:List Value),K.In s.heap->(us++ds).length=ps.length->BindsTo s fd ⟨us,[]⟩ (ps.zip (us++ds))
theorem Binds.all {K:Fg1}{fd:FuncData}{ps:List Str}(h:∀ us:List Value,us.length=ps.length->bindArgs fd ⟨us,[]⟩=pure (ps.zip us)):Binds K fd ps []:=fun s us _ hl=>by
 rw [List.append_nil] at hl ⊢;exact .of_eq (h us hl)
noncomputable def Passes (CX:CXT)(X:Cx)(E:XK):Prop:=∀ (pins:List (Addr×Obj)) (σ:St) (H:Hp) (s:Shared) (e:Value) (s':Shared),Inv X pins σ H s->CX X.stack H s E e s'->X.xe e s'
section
variable {X:Cx} {CX:CXT} {k:Nat} {f C:Addr} {fd:FuncData} {ps:List Str} {sp:Sp} {dvs:List V} {ds:List Value} {E:XK} {x m:Str} {p pos apos:Pos} {e o:Expr} {es:List Expr} {ta:TE} {t:TA}
theorem run_fn {pins:List (Addr×Obj)}{σ:St}{H:Hp}{s:Shared}{Q:VK}{us:List Value}{vs:List V}(F:FnOk X.prog X.w X.K X.mg X.base CX k f fd ps sp)(hr:Room k X.A)(hb:Binds X.K fd ps ds)(hd:Vals dvs ds)(hx:Passes CX X E)
  (I:Inv X pins σ H s) (r:Vals vs us) (h:sp (vs++dvs) H Q E):wpAny (model X.prog X.w) X.A (call (.ref f) us) (EP X pins σ Q) X.xe s:=by
 have r2:Vals (vs++dvs) (us++ds):=r.append hd;have hl:(us++ds).length=ps.length:=by rw [<- r2.length];exact F.len _ _ _ _ h
 refine wpAny_call (codeAny_mono (F.run X.A X.stack s H ⟨us,[]⟩ (us++ds) (vs++dvs) Q E hr I.env0 (hb s us I.kIn hl) r2 h) fun r s' hq=>?_);cases r with
 | error e=>exact hx pins σ H s e s' I hq
 | ok fl=>
  cases fl with
  | ret u=>exact I.after hq
  | next=>exact False.elim hq
  | brk=>exact False.elim hq
  | cont=>exact False.elim hq
theorem pe_call (F:FnOk X.prog X.w X.K X.mg X.base CX k f fd ps sp)(hr:Room k X.A)(hg:Gl X x)(hm:X.mg x=some (.ref f))(hk:wK1 X.K (.ref f)=true)(hb:Binds X.K fd ps ds)(hd:Vals dvs ds)(hx:Passes CX X E)
  (ha:PA X (e::es) t) (hdb:(x == ("__debug__":Str))=false:=by decide) (he:starEach (e::es) X.env=(false,eval e X.env)::starEach es X.env:=by rfl) (hpl:(backTo pos (starEach es X.env)).any (·.1)=false:=by rfl):
  PE X (.Call (.Name x p) (e::es) [] pos) (tCall sp dvs E t):=by
 intro pins s σ H Q I h;refine wpAny_Call_Name_kw (ld_glob I hg hm ?_ hdb);refine PySem.W.callWith_K (h₀:=X.base) I.ok.mod.kin hk (thn (ha pos pins s σ H _ I h) fun us s1 ⟨vs,H1,I1,r,q⟩=>⟨I1.kIn,?_⟩) he hpl;exact run_fn F hr hb hd hx I1 r q
end
section
variable {X:Cx} {CX:CXT} {k:Nat} {f C:Addr} {fd:FuncData} {ps ks:List Str} {sp:Sp} {E:XK} {x m:Str} {p pos apos kpos:Pos} {e o:Expr} {es:List Expr} {kws:List Keyword} {te ta:TE} {t tk:TA} {nm:Option Str}
variable {g:List Value->List Value->List Value} {gV:List V->List V->List V}
end
structure FnScope (N P:List Str)(sc:Scope):Prop where
 kind:sc.kind = .function
 co:sc.isCoroutine=false
 gen:sc.isGenerator=false
 nd:N.Nodup
 pre:N.take P.length=P
 par:∀ x∈P,sc.names.lookup x=some .local\/sc.names.lookup x=some .cell
 nofree:∀ y∈sc.names,y.2 ≠ .free
theorem bindL_out {kindOf:Str->Option NameKind}{x:Str}:∀ {binds:List (Str×Value)} {m:Str->Option Value},(∀ v,(x,v)∉binds)->bindL kindOf binds m x=m x
 | [],_,_=>rfl
 | (n,v)::r,m,h=>by
  unfold bindL;rw [bindL_out fun w hw=>h w (mC1 _ hw)];split
  ·have:x≠n:=by rintro rfl;exact h v mS1
   simp [this]
  ·rfl
theorem bindC_out {kindOf:Str->Option NameKind}{x:Str}:∀ {binds:List (Str×Value)} {m:Str->Option Value},(∀ v,(x,v)∉binds)->bindC kindOf binds m x=m x
 | [],_,_=>rfl
 | (n,v)::r,m,h=>by
  unfold bindC;rw [bindC_out fun w hw=>h w (mC1 _ hw)];split
  ·rfl
  ·have:x≠n:=by rintro rfl;exact h v mS1
   simp [this]
theorem bindL_get {kindOf:Str->Option NameKind}{x:Str}{v:Value}:∀ {P:List Str} {vs:List Value} {i:Nat} {m:Str->Option Value},P.Nodup->P[i]? = some x->vs[i]? = some v->kindOf x=some .local ->
  bindL kindOf (P.zip vs) m x=some v
 | [],_,_,_,_,h,_,_=>by simp at h
 | _::_,[],_,_,_,_,h,_=>by simp at h
 | p::P,w::vs,0,m,nd,h1,h2,hk=>by
  simp at h1 h2;subst h1;subst h2;show bindL kindOf ((p,w)::P.zip vs) m p=_;unfold bindL;rw [bindL_out fun v hv=>(List.nodup_cons.mp nd).1 (List.of_mem_zip hv).1,if_pos hk];simp
 | p::P,w::vs,i+1,m,nd,h1,h2,hk=>by
  show bindL kindOf ((p,w)::P.zip vs) m x=_;unfold bindL;exact bindL_get (i:=i) (List.nodup_cons.mp nd).2 (by simpa using h1) (by simpa using h2) hk
theorem bindC_get {kindOf:Str->Option NameKind}{x:Str}{v:Value}:∀ {P:List Str} {vs:List Value} {i:Nat} {m:Str->Option Value},P.Nodup->P[i]? = some x->vs[i]? = some v->kindOf x≠some .local ->
  bindC kindOf (P.zip vs) m x=some v
 | [],_,_,_,_,h,_,_=>by simp at h
 | _::_,[],_,_,_,_,h,_=>by simp at h
 | p::P,w::vs,0,m,nd,h1,h2,hk=>by
  simp at h1 h2;subst h1;subst h2;show bindC kindOf ((p,w)::P.zip vs) m p=_;unfold bindC;rw [bindC_out fun v hv=>(List.nodup_cons.mp nd).1 (List.of_mem_zip hv).1,if_neg hk];simp
 | p::P,w::vs,i+1,m,nd,h1,h2,hk=>by
  show bindC kindOf ((p,w)::P.zip vs) m x=_;unfold bindC;exact bindC_get (i:=i) (List.nodup_cons.mp nd).2 (by simpa using h1) (by simpa using h2) hk
noncomputable def start (N:List Str)(vs:List V):St:=vs.map some++List.replicate (N.length-vs.length) none
noncomputable def cxOf (CX:CXT)(P:Program)(w:World)(K:Fg1)(mg:Str->Option Value)(base:Heap)(N:List Str)(qual:Str)(scope:Scope)(f:Addr)(cd:Value)(A:Around)(outer:List Env)(s:Shared)(H:Hp)(E:XK):Cx where
 prog:=P
 w:=w
 K:=K
 mg:=mg
 base:=base
 A:=A.deeper (envOfC qual scope s.heap.objs.size f cd)
 N:=N
 s₀:=s
 H₀:=H
 env:=envOfC qual scope s.heap.objs.size f cd
 outer:=outer
 stack:=envOfC qual scope s.heap.objs.size f cd::outer
 ex:=[]
 calm:=true
 fn:=fun _=>true
 pn:=[]
 xe:=fun e s'=>wpAny (model P w) (A.deeper (envOfC qual scope s.heap.objs.size f cd)) (leaving (envOfC qual scope s.heap.objs.size f cd) e) (fun _ s''=>CX outer H s E e s'') (fun e' s''=>CX outer H s E e' s'') s'
theorem cell_has {sc:Scope}{n:Nat}{x:Str}(h:sc.names.lookup x=some .cell):∃ c,(cellsFrom n sc.names []).lookup x=some c:=by
 have q:=PySem.W.cellsFrom_some sc.names n [] (.inl h);exact Option.isSome_iff_exists.mp q
theorem inv_start {CX:CXT}{P:Program}{w:World}{K:Fg1}{mg:Str->Option Value}{base:Heap}{N ps:List Str}{qual:Str}{scope:Scope}{f:Addr}{cd:Value}{A:Around}{outer:List Env}{s s1:Shared}{H:Hp}{E:XK}{us:List Value}{vs:List V}
  (S:FnScope N ps scope) (hd:A.handled=none) (e0:Env0 P w K mg base A outer s H) (hl:vs.length=ps.length) (r:Vals vs us)
  (x:InCallC s s.heap.objs.size (bindL (envOfC qual scope s.heap.objs.size f cd).kindOf (ps.zip us) fun _=>none) (cellsFrom (s.heap.objs.size+1) scope.names []) (bindC (envOfC qual scope s.heap.objs.size f cd).kindOf (ps.zip us) fun _=>none) s1):
  Inv (cxOf CX P w K mg base N qual scope f cd A outer s H E) [] (start N vs) H s1:=by
 have hpl:ps.length<=N.length:=by have:=congrArg List.length S.pre;rw [List.length_take] at this;lia
 obtain ⟨h1,tk,rfl,hk⟩:=x.done;have noA:∀ b:Addr,b∉(cxOf CX P w K mg base N qual scope f cd A outer s H E).ex:=fun b z=>absurd (show b∈([]:List Addr) from z) (by simp);refine ⟨⟨e0.mod,S.kind,rfl,rfl,nR1 _,fun y z c h1 h2=>?_,fun y hy=>?_,fun y c _ h=>?_,fun _=>hd,Around.frames_deeper e0.frames,.inr ⟨rfl,rfl⟩,fun b z=>absurd z (noA b),e0.bs,e0.bsz,fun b _ _=>noA b,fun b z=>absurd z (noA b),e0.funs,e0.frf⟩,
  rfl,e0.bare,Un.kept hk,⟨_,x.toInCall.ns,fun i y v h1 h2 h3=>?_⟩,fun y c h=>⟨_,x.cell y c h⟩,e0.hok.fresh (nR1 _),fun y c h=>?_,fun p hp=>absurd (show p∈([]:List (Addr×Obj)) from hp) (by simp),e0.hok.kept hk,?_⟩
 ·exact name_of_addr x.apart (PySem.mem_of_lookup h1) (PySem.mem_of_lookup h2)
 ·have hy:scope.names.lookup y=some .cell\/scope.names.lookup y=some .free:=hy;rcases hy with hy | hy
  ·exact cell_has hy
  ·exact absurd rfl (S.nofree _ (PySem.mem_of_lookup hy))
 ·exact Nat.le_of_lt (x.above y c (PySem.mem_of_lookup h))
 ·have hi:i<vs.length:=by
   unfold start at h2;by_cases hi:i<vs.length
   ·exact hi
   ·rw [gR1 (by simpa using hi)] at h2;rw [List.getElem?_replicate] at h2;split at h2<;>cases h2
  have ha:vs[i]? = some v:=by
   unfold start at h2;rw [gL1 (by simpa using hi),gP1] at h2;cases e:vs[i]? with
   | none=>rw [e] at h2;cases h2
   | some a=>rw [e] at h2;cases h2;rfl
  obtain ⟨u,hu,rv⟩:=r.get ha;have hp:ps[i]? = some y:=by
   rw [<- S.pre,List.getElem?_take_of_lt (by lia)];exact h1
  have ndP:ps.Nodup:=by rw [<- S.pre];exact S.nd.sublist (List.take_sublist _ _)
  refine ⟨u,rv,?_⟩;rcases S.par y (gM1 hp) with k | k
  ·exact .inl ⟨k,bindL_get ndP hp hu k⟩
  ·obtain ⟨c,e⟩:=cell_has (n:=s.heap.objs.size+1) k;refine .inr ⟨.inl k,c,e,?_⟩;have q:=x.cell y c e;rw [bindC_get ndP hp hu (by show scope.names.lookup y≠_;rw [k];decide)] at q;exact q
 ·exact e0.hok.fresh (Nat.le_of_lt (x.above y c (PySem.mem_of_lookup h)))
 ·unfold start;show _=N.length;rw [lA1,lM1,lR1];lia
theorem fn_of {CX:CXT}{P:Program}{w:World}{K:Fg1}{mg:Str->Option Value}{base:Heap}{k:Nat}{f:Addr}{name qual:Str}{params:Arguments}{body:List Stmt}{scope:Scope}{dV kV doc pm cdv ct oc:Value}{an od:Option Addr}
  {osl:Array (Option Value)} {N ps:List Str} {sp:Sp} (lk:K.lookup f=some ⟨oc,od,.func (wF1 name qual params body scope dV kV doc pm an cdv ct),osl⟩) (hcd:wC1 K cdv qual=true) (S:FnScope N ps scope)
  (len:∀ vs H Q E,sp vs H Q E->vs.length=ps.length)
  (hbody:∀ (A:Around) (outer:List Env) (s:Shared) (H:Hp) (vs:List V) (Q:VK) (E:XK),Room k (A.deeper (envOfC qual scope s.heap.objs.size f cdv))->sp vs H Q E ->
   ∃ t,PSs (cxOf CX P w K mg base N qual scope f cdv A outer s H E) body t/\t {nx:=fun _ H'=>Q .non H',rt:=Q} (start N vs) H):
  FnOk P w K mg base CX (k+1) f (wF1 name qual params body scope dV kV doc pm an cdv ct) ps sp:=by
 refine ⟨len,fun A outer s H args us vs Q E hr e0 hb r hsp=>?_⟩;have hl:=len _ _ _ _ hsp;have KX:K.In s.heap:=e0.mod.kin.keeps fun b o e=>(e0.bs b o e).1;have lim:s.heap.NoLimit:=e0.mod.nolimit.keeps fun b o e=>(e0.bs b o e).1;have hkind:∀ y∈ps.zip us,scope.names.lookup y.1=some .local\/(scope.names.lookup y.1=some .cell/\((cellsFrom (s.heap.objs.size+1) scope.names []).lookup y.1).isSome=true):=fun ⟨n,v⟩ hy=>by
  rcases S.par n (List.of_mem_zip hy).1 with q | q
  ·exact .inl q
  ·exact .inr ⟨q,PySem.W.cellsFrom_some _ _ _ (.inl q)⟩
 refine codeAny_call_function hr.depth (KX _ _ lk) rfl S.co S.gen rfl (PySem.W.codeRec_of KX hcd) (hb _ _ _ _ ?_);refine wpAny_newFunctionEnv_cells S.kind hkind fun env he s1 x=>?_;subst he;refine ⟨lim.keeps x.toInCall.keep,codeAny_func ?_⟩;obtain ⟨t,ht,hq⟩:=hbody A outer s H vs Q E (hr.deeper _) hsp;have I:Inv (cxOf CX P w K mg base N qual scope f cdv A outer s H E) [] (start N vs) H s1:=inv_start S hr.hd e0 hl r x;refine wpAny_mono (ht [] s1 (start N vs) H _ I hq) (fun fl s' hs=>?_) fun e s' hs=>hs;have fin:∀ {σ':St} {H':Hp} {v:V} {u:Value},Inv (cxOf CX P w K mg base N qual scope f cdv A outer s H E) [] σ' H' s'->RelV v u->Q v H'->CE outer P w H s Q u s':=
  fun {σ' H' v u} J rv q=>⟨v,H',J.os,J.bare,J.base,J.hok,rv,q⟩
 cases fl with
 | ret u=>
  obtain ⟨v,σ',H',J,rv,q⟩:=hs;exact fin J rv q
 | next=>
  obtain ⟨σ',H',J,q⟩:=hs;exact fin (v:=V.non) (u:=Value.none) J rfl q
 | brk=>
  obtain ⟨_,_,_,q⟩:=hs;exact False.elim q
 | cont=>
  obtain ⟨_,_,_,q⟩:=hs;exact False.elim q
end L2
namespace L2
open PySem PySem.Spec PyProof.Rows
section
variable {X:Cx} {x:Str} {p pos:Pos} {e:Expr} {es:List Expr} {t:TA} {id T:String} {r:List V->Hp->VK->Prop}
noncomputable def tCB (r:List V->Hp->VK->Prop)(t:TA):TE:=fun σ H Q=>t σ H fun vs H1=>r vs H1 Q
theorem pe_callB (hc:CallR X (.builtin id) r)(hg:Gl X x)(hm:X.mg x=none)(hv:bootBuiltins x=some (.builtin id))(ha:PA X (e::es) t)(hn:x≠"__name__":=by decide)(hdb:(x == ("__debug__":Str))=false:=by decide)
  (he:starEach (e::es) X.env=(false,eval e X.env)::starEach es X.env:=by rfl) (hpl:(backTo pos (starEach es X.env)).any (·.1)=false:=by rfl):PE X (.Call (.Name x p) (e::es) [] pos) (tCB r t):=by
 intro pins s σ H Q I h;refine wpAny_Call_Name_kw (ld_blt I hg hm hv ?_ hn hdb);exact PyProof.Rows.callWith_builtin1 (thn (ha pos pins s σ H _ I h) fun us s1 ⟨vs,H1,I1,r1,q1⟩=>hc pins s1 σ H1 vs us Q I1 r1 q1) he hpl
theorem pe_callTy (hc:CallR X (.type T) r)(hg:Gl X x)(hm:X.mg x=none)(hv:bootBuiltins x=some (.type T))(ha:PA X (e::es) t)(hn:x≠"__name__":=by decide)(hdb:(x == ("__debug__":Str))=false:=by decide)
  (he:starEach (e::es) X.env=(false,eval e X.env)::starEach es X.env:=by rfl) (hpl:(backTo pos (starEach es X.env)).any (·.1)=false:=by rfl):PE X (.Call (.Name x p) (e::es) [] pos) (tCB r t):=by
 intro pins s σ H Q I h;refine wpAny_Call_Name_kw (ld_blt I hg hm hv ?_ hn hdb);exact PyProof.Rows.callWith_type1 (thn (ha pos pins s σ H _ I h) fun us s1 ⟨vs,H1,I1,r1,q1⟩=>hc pins s1 σ H1 vs us Q I1 r1 q1) he hpl
end
end L2
namespace HT
open PySem PyProof.Rows
section
open PySem.SeqAt
open PySem.AutoSeq1 (wpAny_loadPart')
open PySem.MeetsSeq PySem.MeetsSeq2 PySem.MeetsSeq3
end
section
variable {prog:Program} {w:World} {A:Around} {E:Value->Shared->Prop} {s:Shared}
theorem cat_tup {t b:Addr}{vs ws:List Value}{Q:Value->Shared->Prop}(ht:IsTup s.heap t vs.toArray)(hb:IsTup s.heap b ws.toArray)(hv:vs≠[])
  (h1:ws=[]->Q (.ref t) s) (h2:ws≠[]->Q (.ref s.heap.objs.size) {s with heap:=s.heap.push {cls:=.type "tuple",data:=.seq (vs++ws).toArray}})
  (hsz:vs.length+ws.length<=sizeLine):wpAny (model prog w) A (binaryOp .Add (.ref t) (.ref b)) Q E s:=by
 obtain ⟨⟨cls,dd,data,sl⟩,ho,hc,n,hd⟩:=id ht;obtain ⟨⟨cls2,dd2,data2,sl2⟩,ho2,hc2,n2,hd2⟩:=id hb;simp only at hc hd hc2 hd2;subst hc hd hc2 hd2;have e:vs.toArray++ws.toArray=(vs++ws).toArray:=by simp
 by_cases hw:ws=[]
 ·exact concat_meets ⟨_,ho,rfl⟩ ⟨_,ho2,rfl⟩ noFill_tuple_add seq_tuple_add PySem.F.slot_tuple_add PySem.F.entry_tuple_add (PySem.F.args_tuple_add_2 _ _)
   (tuple_addW1 t b vs.toArray ws.toArray n n2 dd dd2 sl sl2 (by simpa using hv) (by simp [hw])) ⟨ho,ho2,h1 hw⟩
 ·refine concat_meets ⟨_,ho,rfl⟩ ⟨_,ho2,rfl⟩ noFill_tuple_add seq_tuple_add PySem.F.slot_tuple_add PySem.F.entry_tuple_add (PySem.F.args_tuple_add_2 _ _)
   (tuple_addW2 t b vs.toArray ws.toArray n n2 dd dd2 sl sl2 (by simpa using hv) (by simpa using hw) (by rw [sT1,sT1];exact hsz)) ⟨ho,ho2,?_⟩
  rw [e];exact h2 hw
noncomputable def sIx (n d:Nat):Option Int->Nat
 | none=>d
 | some v=>if v<0 then (v+(n:Int)).toNat else min v.toNat n
theorem sIx_none (n d:Nat):sIx n d none=d:=rfl
theorem sIx_nat (n d k:Nat):sIx n d (some (k:Int))=min k n:=by
 show (if (k:Int)<0 then ((k:Int)+(n:Int)).toNat else min (k:Int).toNat n)=min k n;rw [if_neg (by lia),Int.toNat_natCast]
theorem sIx_le (n d:Nat)(hd:d<=n)(o:Option Int):sIx n d o<=n:=by
 cases o with
 | none=>exact hd
 | some v=>
  show (if v<0 then (v+(n:Int)).toNat else min v.toNat n)<=n;by_cases hv:v<0
  ·rw [if_pos hv];lia
  ·rw [if_neg hv];exact Nat.min_le_right _ _
theorem clip_eq (v:Int)(n d:Nat):(if v<0 then max (v+(n:Int)) 0 else min v (n:Int))=((sIx n d (some v):Nat):Int):=by
 show (if v<0 then max (v+(n:Int)) 0 else min v (n:Int))=(((if v<0 then (v+(n:Int)).toNat else min v.toNat n):Nat):Int);by_cases hv:v<0
 ·simp only [if_pos hv];lia
 ·simp only [if_neg hv];lia
theorem adjust_gen (lo hi:Option Int)(n:Nat):Builtin.Slice.sliceAdjust lo hi 1 (n:Int)=(((sIx n 0 lo:Nat):Int),((sIx n n hi:Nat):Int)):=by
 have h1:¬ ((1:Int)<0):=by lia
 unfold Builtin.Slice.sliceAdjust;simp only [h1,if_false];refine Prod.ext ?_ ?_
 ·cases lo with
  | none=>rfl
  | some v=>exact clip_eq v n 0
 ·cases hi with
  | none=>rfl
  | some v=>exact clip_eq v n n
theorem places_gen (i j:Nat):Builtin.Slice.slicePlaces (i:Int) (j:Int) 1=j-i:=by
 unfold Builtin.Slice.slicePlaces;have h1:(1:Int)>0:=by lia
 simp only [h1,if_true,Int.ediv_one];split<;>lia
theorem slicePart_ {v:Value}{o:Option Int}{Q:Option Int->Shared->Prop}(p:IsPart v o)(h:Q o s):wpAny (model prog w) A (Builtin.Slice.slicePartIndex v) Q E s:=by
 cases p with
 | none=>exact slicePart_none h
 | int i t=>exact slicePart_int h
theorem sliceApplied_gen {sl:Addr}{vl vu:Value}{lo hi:Option Int}{n:Nat}{Q:Int×Int×Nat->Shared->Prop}(hs:s.heap.IsSliceOf sl vl vu .none)(pl:IsPart vl lo)(pu:IsPart vu hi)
  (h:Q (((sIx n 0 lo:Nat):Int),1,sIx n n hi-sIx n 0 lo) s):wpAny (model prog w) A (Builtin.Slice.sliceApplied (.ref sl) (pure (n:Int))) Q E s:=by
 obtain ⟨os,hos,hcs,hds⟩:=id hs;unfold Builtin.Slice.sliceApplied Builtin.Slice.sliceFields;refine wB1 (wB1 (wpAny_field hos hds (x:=vl) rfl (wB1 (wpAny_field hos hds (x:=vu) rfl (wB1 (wpAny_field hos hds (x:=.none) rfl (wP1 ?_)))))));refine wB1 (slicePart_none ?_);show wpAny _ _ (if ((1:Int) == 0)=true then _ else _) _ _ s;rw [if_neg (by decide)];refine wB1 (slicePart_ pl (wB1 (slicePart_ pu (wB1 (wP1 ?_)))));show wpAny _ _ (match Builtin.Slice.sliceAdjust lo hi 1 (n:Int) with | (lo,hi)=>pure (lo,(1:Int),Builtin.Slice.slicePlaces lo hi 1)) _ _ s;rw [adjust_gen lo hi n];show wpAny _ _ (pure (((sIx n 0 lo:Nat):Int),(1:Int),Builtin.Slice.slicePlaces ((sIx n 0 lo:Nat):Int) ((sIx n n hi:Nat):Int) 1)) _ _ s;rw [places_gen];exact wP1 h
theorem pick_gen (xs:Array Value)(i k:Nat):((List.range k).filterMap fun (m:Nat)=>xs[((i:Int)+(m:Int)*1).toNat]?).toArray=((xs.toList.drop i).take k).toArray:=by
 have e:(fun (m:Nat)=>xs[((i:Int)+(m:Int)*1).toNat]?)=fun m=>xs[i+m]?:=by
  funext m
  have:((i:Int)+(m:Int)*1).toNat=i+m:=by lia
  rw [this]
 rw [e];have:=pick_run xs i k;rw [List.filterMap_map] at this;have e2:((fun x=>xs[x]?)∘fun x=>i+x)=fun m=>xs[i+m]?:=rfl;rw [e2] at this;rw [this]
theorem getItem_tuple_cut {t sl:Addr}{items:Array Value}{vl vu:Value}{lo hi:Option Int}{Q:Value->Shared->Prop}(ht:IsTup s.heap t items)(hs:s.heap.IsSliceOf sl vl vu .none)(pl:IsPart vl lo)(pu:IsPart vu hi)
  (hw:¬ (sIx items.size 0 lo=0/\sIx items.size items.size hi=items.size))
  (h:Q (.ref s.heap.objs.size) {s with heap:=s.heap.push {cls:=.type "tuple",data:=.seq ((items.toList.drop (sIx items.size 0 lo)).take (sIx items.size items.size hi-sIx items.size 0 lo)).toArray}})
  (hsz:items.size<=sizeLine):wpAny (model prog w) A (getItem (.ref t) (.ref sl)) Q E s:=by
 have htake:sizeOk (.seq ((items.toList.drop (sIx items.size 0 lo)).take (sIx items.size items.size hi-sIx items.size 0 lo)).toArray):=by
  show ((items.toList.drop (sIx items.size 0 lo)).take (sIx items.size items.size hi-sIx items.size 0 lo)).toArray.size<=sizeLine;rw [sT1,List.length_take,List.length_drop,Array.length_toList];omega
 have hj:sIx items.size items.size hi<=items.size:=sIx_le _ _ (nR1 _) hi;obtain ⟨os,hos,hcs,hds⟩:=id hs;have hTs:s.TypeIs (.ref sl) "slice":=⟨os,hos,hcs⟩;unfold getItem
 try with_reducible refine wpAny_holding ?_
 first | refine wB1 (wP1 ?_) | skip
 refine wB1 (wpAny_sequenceKey ht.typeIs (by decide) ?_);refine wB1 (wpAny_callSpecial?_slot (name:=Str.ofString "__getitem__") ht.typeIs PyProof.Rows.slot_tuple_getitem
  (wE1 PyProof.Rows.slot_tuple_getitem ht.typeIs entry_tuple_getitem ?_ (args_tuple_getitem _ _)))
 show wpAny _ _ (Builtin.Tuple.tupleItemsOf (.ref t) >>= _) _ _ s;refine wB1 (tupleItemsOf_ ht ?_);refine wB1 (wpAny_typeOf hTs ?_);rw [if_pos (by decide)];refine wB1 (sliceApplied_gen hs pl pu ?_);have hno:¬ ((((sIx items.size 0 lo:Nat):Int) == 0&&(1:Int) == 1&&(sIx items.size items.size hi-sIx items.size 0 lo) == items.size)=true):=by
  intro q;rw [bA1,bA1] at q;have q1:((sIx items.size 0 lo:Nat):Int)=0:=eq_of_beq q.1.1;have q2:sIx items.size items.size hi-sIx items.size 0 lo=items.size:=eq_of_beq q.2;exact hw ⟨by omega,by omega⟩
 show wpAny _ _ (if (((sIx items.size 0 lo:Nat):Int) == 0&&(1:Int) == 1&&(sIx items.size items.size hi-sIx items.size 0 lo) == items.size)=true then _ else _) _ _ s;rw [if_neg hno,pick_gen]
 first
  | exact wB1 (m:=Builtin.Tuple.tupleExact _) (wO1 (wP1 ⟨_,rfl,wP1 h⟩) htake)
  | exact wB1 (m:=Builtin.Tuple.tupleExact _) (wO1 (wB1 (wP1 (wP1 ⟨_,rfl,wP1 h⟩))) htake)
  | exact wB1 (wB1 (m:=Builtin.Tuple.tupleExact _) (wO1 (wP1 (wP1 ⟨_,rfl,wP1 h⟩)) htake))
  | exact wB1 (wB1 (m:=Builtin.Tuple.tupleExact _) (wO1 (wP1 ⟨_,rfl,wP1 h⟩) htake))
end
end HT
namespace L2
open PySem PySem.Spec PyProof.Rows
noncomputable abbrev TO:=St->Hp->(Option Int->Hp->Prop)->Prop
noncomputable def PO (X:Cx)(e:Option Expr)(t:TO):Prop:=
 ∀ (pins:List (Addr×Obj)) (s:Shared) (σ:St) (H:Hp) (Q:Option Int->Hp->Prop),Inv X pins σ H s->t σ H Q ->
  wpAny (model X.prog X.w) X.A (evalPart e X.env) (fun u s'=>∃ o H',Inv X pins σ H' s'/\IsPart u o/\Q o H') X.xe s
noncomputable def tNoPart:TO:=fun _ H Q=>Q none H
noncomputable def tPart (t:TE):TO:=fun σ H Q=>t σ H fun x H1=>∃ i,x = .int i/\Q (some i) H1
section
variable {X:Cx} {e:Expr} {te:TE} {lo hi:Option Expr} {tl th:TO} {pos p2:Pos}
theorem po_none:PO X none tNoPart:=by
 intro pins s σ H Q I h;rw [evalPart_none];exact wP1 ⟨none,H,I,.none,h⟩
theorem po_some (h:PE X e te):PO X (some e) (tPart te):=by
 intro pins s σ H Q I hw;rw [evalPart_some];refine thn (h pins s σ H _ I hw) fun u s1 ⟨x,H1,I1,r1,q1⟩=>?_;obtain ⟨i,rfl,q⟩:=q1;obtain ⟨t,rfl⟩:=r1;exact ⟨some i,H1,I1,.int i t,q⟩
noncomputable def SlR (X:Cx)(r:V->Option Int->Option Int->Hp->VK->Prop):Prop:=
 ∀ (pins:List (Addr×Obj)) (s:Shared) (σ:St) (H:Hp) (x:V) (v vl vu:Value) (lo hi:Option Int) (sl:Addr) (Q:VK),Inv X pins σ H s->RelV x v->s.heap.IsSliceOf sl vl vu .none->IsPart vl lo->IsPart vu hi->r x lo hi H Q ->
  ∃ T id,typeLookup (.type T) "__getitem__"=pure (some (.builtin id))/\s.TypeIs v T/\wpAny (model X.prog X.w) X.A (getItem v (.ref sl)) (EP X pins σ Q) X.xe s
theorem SlR.or {r r':V->Option Int->Option Int->Hp->VK->Prop}(h:SlR X r)(h':SlR X r'):SlR X (fun x lo hi H Q=>r x lo hi H Q\/r' x lo hi H Q):=by
 intro pins s σ H x v vl vu lo hi sl Q I rx hs pl pu q;rcases q with q | q
 ·exact h pins s σ H x v vl vu lo hi sl Q I rx hs pl pu q
 ·exact h' pins s σ H x v vl vu lo hi sl Q I rx hs pl pu q
noncomputable def tSl (r:V->Option Int->Option Int->Hp->VK->Prop)(te:TE)(tl th:TO):TE:=fun σ H Q=>te σ H fun x H1=>tl σ H1 fun l H2=>th σ H2 fun u H3=>r x l u H3 Q
theorem pe_slice {r:V->Option Int->Option Int->Hp->VK->Prop}(hr:SlR X r)(he:PE X e te)(hl:PO X lo tl)(hu:PO X hi th):PE X (.Subscript e (.Slice lo hi none p2) pos) (tSl r te tl th):=by
 intro pins s σ H Q I h;refine Subscript_ (thn (he pins s σ H _ I h) fun v s1 ⟨x,H1,I1,r1,q1⟩=>?_);refine wpAny_Slice (thn (hl pins s1 σ H1 _ I1 q1) fun vl s2 ⟨l,H2,I2,pl,q2⟩=>thn (hu pins s2 σ H2 _ I2 q2) fun vu s3 ⟨u,H3,I3,pu,q3⟩=>?_);rw [evalPart_none];refine wP1 ?_;have I4:Inv X pins σ H3 {s3 with heap:=s3.heap.push {cls:=.type "slice",data:=.fields #[vl,vu,.none]}}:=I3.kept (t':=s3.toks) fun b ob q=>hP1 _ q;obtain ⟨T,id,hT,ht,hg⟩:=hr pins {s3 with heap:=s3.heap.push {cls:=.type "slice",data:=.fields #[vl,vu,.none]}} σ H3 x v vl vu l u s3.heap.objs.size Q I4 r1 (Heap.IsSliceOf.new ..) pl pu q3;show wpAny (model X.prog X.w) X.A (subscriptTail e (.Slice lo hi none p2) v (.ref s3.heap.objs.size)) (EP X pins σ Q) X.xe {s3 with heap:=s3.heap.push {cls:=.type "slice",data:=.fields #[vl,vu,.none]}};exact tail_any (ops:=[.ref s3.heap.objs.size,v]) ht hT hg (by with_unfolding_all rfl)
noncomputable def cutV (xs:List V)(lo hi:Option Int):List V:=(xs.drop (HT.sIx xs.length 0 lo)).take (HT.sIx xs.length xs.length hi-HT.sIx xs.length 0 lo)
theorem cutV_length (xs:List V)(lo hi:Option Int):(cutV xs lo hi).length<=xs.length:=by
 unfold cutV;rw [List.length_take,List.length_drop];lia
noncomputable def rSlT (K:Fg1):V->Option Int->Option Int->Hp->VK->Prop:=fun x lo hi H Q=>∃ a xs,x = .ref a/\SqT K H a xs /\
 ¬ (HT.sIx xs.length 0 lo=0/\HT.sIx xs.length xs.length hi=xs.length) /\ ∀ p,H p=none->Q (.ref p) (upd H p (.tup (cutV xs lo hi)))
theorem sl_tup:SlR X (rSlT X.K):=by
 intro pins s σ H x v vl vu lo hi sl Q I rx hs pl pu h;obtain ⟨a,xs,rfl,hx,hw,q⟩:=h;cases rx;obtain ⟨its,r,ht,hz⟩:=I.tuple hx;have hlen:its.toArray.size=xs.length:=by rw [sT1];exact r.length.symm
 refine ⟨"tuple",_,PyProof.Rows.slot_tuple_getitem.lookup,ht.typeIs,?_⟩;refine HT.getItem_tuple_cut ht hs pl pu (by rw [hlen];exact hw) ?_ (by rw [hlen];exact hz);rw [hlen];refine ⟨.ref s.heap.objs.size,_,I.laid (t':=s.toks) (o:=.tup (cutV xs lo hi)) (fun b ob q=>hP1 _ q) (nR1 _) ?_,rfl,q _ (I.hok.fresh (nR1 _))⟩;exact ⟨Nat.le_trans (cutV_length xs lo hi) hz,_,(r.drop (HT.sIx xs.length 0 lo)).take (HT.sIx xs.length xs.length hi-HT.sIx xs.length 0 lo),IsTup.new _ _⟩
noncomputable def rCatT (K:Fg1):R2:=fun x y H Q=>∃ a b xs ys,x = .ref a/\y = .ref b/\SqT K H a xs/\SqT K H b ys/\xs≠[]/\xs.length+ys.length<=sizeLine /\
 (ys=[]->Q (.ref a) H)/\(ys≠[] -> ∀ p,H p=none->Q (.ref p) (upd H p (.tup (xs++ys))))
theorem Vals.nil_iff {xs:List V}{us:List Value}(r:Vals xs us):us=[]↔xs=[]:=by
 cases r with
 | nil=>simp
 | cons _ _=>simp
theorem op_catT:OpR X (binaryOp .Add) (rCatT X.K):=by
 intro pins s σ H x y v u Q I rx ry h;obtain ⟨a,b,xs,ys,rfl,rfl,ha,hb,hx,hz,q1,q2⟩:=h;cases rx;cases ry;obtain ⟨its,r1,p1,_⟩:=I.tuple ha;obtain ⟨its2,r2,p2,_⟩:=I.tuple hb;refine HT.cat_tup p1 p2 (fun z=>hx (r1.nil_iff.mp z)) (fun z=>⟨.ref a,H,I,rfl,q1 (r2.nil_iff.mp z)⟩) (fun z=>?_) (by rw [<- r1.length,<- r2.length];exact hz);refine ⟨.ref s.heap.objs.size,_,I.laid (t':=s.toks) (o:=.tup (xs++ys)) (fun b ob q=>hP1 _ q) (nR1 _) ?_,rfl,q2 (fun w=>z (r2.nil_iff.mpr w)) _ (I.hok.fresh (nR1 _))⟩;exact ⟨by rw [lA1];exact hz,_,r1.append r2,IsTup.new _ _⟩
end
end L2
namespace L2
open PySem PySem.Spec PyProof.Rows
noncomputable def ixN (n:Nat)(i:Int):Option Nat:=if 0<=i then (if i<n then some i.toNat else none) else if-(n:Int)<=i then some (i+n).toNat else none
noncomputable def atI {α:Type}(xs:List α)(i:Int):Option α:=(ixN xs.length i).bind fun j=>xs[j]?
theorem ixN_seq {n:Nat}{i:Int}{j:Nat}(h:ixN n i=some j):seqIndex? i n=some j/\j<n /\ -(n:Int)<=i/\i<n:=by
 unfold ixN at h;by_cases h0:0<=i
 ·rw [if_pos h0] at h;by_cases h1:i<n
  ·rw [if_pos h1] at h;have e:i.toNat=j:=Option.some.inj h;exact ⟨by rw [seqIndex_of h0 h1,e],by lia,by lia,h1⟩
  ·rw [if_neg h1] at h;cases h
 ·rw [if_neg h0] at h;by_cases h1: -(n:Int)<=i
  ·rw [if_pos h1] at h;have e:(i+n).toNat=j:=Option.some.inj h;exact ⟨by rw [seqIndex_neg (by lia) h1,e],by lia,h1,by lia⟩
  ·rw [if_neg h1] at h;cases h
theorem atI_get {α:Type}{xs:List α}{i:Int}{v:α}(h:atI xs i=some v):∃ j,seqIndex? i xs.length=some j/\xs[j]? = some v/\j<xs.length /\ -(xs.length:Int)<=i/\i<xs.length:=by
 unfold atI at h;cases e:ixN xs.length i with
 | none=>rw [e] at h;cases h
 | some j=>
  rw [e] at h;obtain ⟨h1,h2,h3,h4⟩:=ixN_seq e;exact ⟨j,h1,h,h2,h3,h4⟩
theorem atI_nat {α:Type}{xs:List α}{j:Nat}{v:α}(h:xs[j]? = some v):atI xs (j:Int)=some v:=by
 have hj:j<xs.length:=(gE1.mp h).1;have e:ixN xs.length (j:Int)=some j:=by
  unfold ixN;rw [if_pos (by lia),if_pos (by lia)];simp
 unfold atI;rw [e];exact h
noncomputable def PlainIx (b:Expr):Prop:=∀ o i,subscripted b false o i=operate [o,i] (getItem o i)
noncomputable def IxR (X:Cx)(r:R2):Prop:=
 ∀ (value slice:Expr) (pins:List (Addr×Obj)) (s:Shared) (σ:St) (H:Hp) (x y:V) (v u:Value) (Q:VK),Inv X pins σ H s->RelV x v->RelV y u->r x y H Q ->
  subscripted slice false v u=operate [v,u] (getItem v u)->wpAny (model X.prog X.w) X.A (subscriptTail value slice v u) (EP X pins σ Q) X.xe s
noncomputable def MtR (X:Cx)(id:String)(r:V->List V->Hp->VK->Prop):Prop:=
 ∀ (pins:List (Addr×Obj)) (s:Shared) (σ:St) (H:Hp) (x:V) (xs:List V) (v:Value) (us:List Value) (Q:VK),Inv X pins σ H s->RelV x v->Vals xs us->r x xs H Q ->
  wpAny (model X.prog X.w) X.A (call (.builtin id) (v::us)) (EP X pins σ Q) X.xe s
section
variable {X:Cx} {a b:Expr} {ta tb:TE} {pos:Pos}
theorem pe_ix {r:R2}(hr:IxR X r)(ha:PE X a ta)(hb:PE X b tb)(hs:PlainIx b):PE X (.Subscript a b pos) (tOp r ta tb):=by
 intro pins s σ H Q I h;exact Subscript_ (binT ha hb I h fun v u s2 x y H2 I2 rx ry q=>hr a b pins s2 σ H2 x y v u Q I2 rx ry q (hs _ _))
noncomputable def rIxL (K:Fg1):R2:=fun x y H Q=>∃ p xs i v,x = .ref p/\y = .int i/\SqL K H p xs/\atI xs i=some v/\Q v H
noncomputable def rIxT (K:Fg1):R2:=fun x y H Q=>∃ p xs i v,x = .ref p/\y = .int i/\SqT K H p xs/\atI xs i=some v/\Q v H
theorem ix_list:IxR X (rIxL X.K):=by
 intro value slice pins s σ H x y v u Q I rx ry h hs;obtain ⟨p,xs,i,z,rfl,rfl,hq,he,q⟩:=h;cases rx;obtain ⟨t,rfl⟩:=ry;obtain ⟨its,r,pl,hz⟩:=I.list hq;obtain ⟨j,h1,h2,h3,h4,h5⟩:=atI_get he;obtain ⟨w,ew,rw'⟩:=r.get h2;have hl:=r.length;have hn:=line63;have fin:EP X pins σ Q w s:=⟨z,H,I,rw',q⟩;by_cases h0:0<=i
 ·have hj:i.toNat=j:=by
   rw [seqIndex_of h0 h5] at h1;exact Option.some.inj h1
  exact item_listR pl.isList h0 (by lia) (by rw [hj];simpa using ew) fin hs
 ·have hj:(i+(its.toArray.size:Int)).toNat=j:=by
   rw [seqIndex_neg (by lia) h4] at h1;rw [sT1,<- hl];exact Option.some.inj h1
  exact subscriptTail_builtinR (x:=w) pl.isList.typeIs slot_list_getitem.lookup
   (wpAny_getItem_list_neg (Q:=fun r s'=>r=w/\EP X pins σ Q r s') pl.isList (by lia) (by rw [sT1]<;>lia) (by lia) (by rw [hj];simpa using ew) ⟨rfl,fin⟩) hs
theorem ix_tup:IxR X (rIxT X.K):=by
 intro value slice pins s σ H x y v u Q I rx ry h hs;obtain ⟨p,xs,i,z,rfl,rfl,hq,he,q⟩:=h;cases rx;obtain ⟨t,rfl⟩:=ry;obtain ⟨its,r,pl,hz⟩:=I.tuple hq;obtain ⟨j,h1,h2,h3,h4,h5⟩:=atI_get he;obtain ⟨w,ew,rw'⟩:=r.get h2;have hl:=r.length;have hn:=line63;have fin:EP X pins σ Q w s:=⟨z,H,I,rw',q⟩;exact subscriptTail_builtinR (x:=w) pl.typeIs slot_tuple_getitem.lookup
  (getItem_tuple (j:=j) (Q:=fun r s'=>r=w/\EP X pins σ Q r s') pl (by lia) (by lia) (by rw [sT1,<- hl];exact h1) (by simpa using ew) ⟨rfl,fin⟩) hs
theorem mapSeq_set (its:List Value)(n j:Nat)(u:Value):Obj.mapSeq (·.setIfInBounds j u) {cls:=.type "list",data:=.seq its.toArray n}={cls:=.type "list",data:=.seq (its.set j u).toArray n}:=by
 simp [Obj.mapSeq]
theorem Inv.lst {pins:List (Addr×Obj)}{σ:St}{H:Hp}{s:Shared}{p:Addr}{xs:List V}(I:Inv X pins σ H s)(h:H p=some (.lst xs)):
  ∃ (its:List Value) (n:Nat),Vals xs its/\s.heap.get? p=some {cls:=.type "list",data:=.seq its.toArray n}/\xs.length<=sizeLine:=by
 obtain ⟨z,its,n,r,e⟩:=I.hok p _ h;exact ⟨its,n,r,e,z⟩
theorem Inv.lstUpd {pins:List (Addr×Obj)}{σ:St}{H:Hp}{s:Shared}{p:Addr}{xs ys:List V}{its its':List Value}{n n':Nat}{f:Obj->Obj}(I:Inv X pins σ H s)(h:H p=some (.lst xs))
  (ho:s.heap.get? p=some {cls:=.type "list",data:=.seq its.toArray n}) (hf:f {cls:=.type "list",data:=.seq its.toArray n}={cls:=.type "list",data:=.seq its'.toArray n'}) (r:Vals ys its') (hz:ys.length<=sizeLine) (t:Nat):
  Inv X pins σ (upd H p (.lst ys)) {s with heap:=s.heap.update p f,toks:=t}:=by
 have e:(s.heap.update p f).get? p=some {cls:=.type "list",data:=.seq its'.toArray n'}:=by
  rw [hW1 f ho (by rw [hf]<;>rfl),hf]
 refine I.write (x:=p) (e:=p) (by rw [h];trivial) (.inl rfl) (fun b u hb q=>(Heap.get?_update_other _ _ (Ne.symm hb)).trans q) ⟨_,e⟩ ?_;exact ⟨hz,its',n',r,e⟩
noncomputable def rSetL:V->V->V->Hp->(Hp->Prop)->Prop:=fun o i v H Q=>∃ p xs k j,o = .ref p/\i = .int k/\H p=some (.lst xs)/\ixN xs.length k=some j/\Q (upd H p (.lst (xs.set j v)))
theorem set_list:PSet X rSetL:=by
 intro pins s σ H o i v ov iv u Q I ro ri rv h;obtain ⟨p,xs,k,j,rfl,rfl,hp,hj,q⟩:=h;cases ro;obtain ⟨t,rfl⟩:=ri;obtain ⟨its,n,r,ho,hz⟩:=I.lst hp;obtain ⟨h1,h2,h3,h4⟩:=ixN_seq hj;have hl:=r.length;have hn:=line63;have I':Inv X pins σ (upd H p (.lst (xs.set j v))) {s with heap:=s.heap.update p (Obj.mapSeq (·.setIfInBounds j u))}:=
  I.lstUpd hp ho (mapSeq_set its n j u) (r.set rv j) (by rw [List.length_set];exact hz) s.toks
 by_cases h0:0<=k
 ·have hk:k.toNat=j:=by
   rw [seqIndex_of h0 h4] at h1;exact Option.some.inj h1
  exact PySem.W.ki_setAt ho h0 (by lia) (by rw [sT1,<- hl];exact h4) (by rw [hk];exact ⟨_,I',q⟩)
 ·have hk:(k+(its.toArray.size:Int)).toNat=j:=by
   rw [seqIndex_neg (by lia) h3] at h1;rw [sT1,<- hl];exact Option.some.inj h1
  exact PySem.W.ki_setBack ho (by lia) (by rw [sT1,<- hl];exact h3) (by lia) (by rw [hk];exact ⟨_,I',q⟩)
theorem slice_bounds (lo hi:Option Int)(n:Nat):(sliceBounds lo hi none n).1=((HT.sIx n 0 lo:Nat):Int)/\(sliceBounds lo hi none n).2.1=((HT.sIx n n hi:Nat):Int)/\(sliceBounds lo hi none n).2.2=1:=by
 refine ⟨?_,?_,rfl⟩
 ·cases lo with
  | none=>simp [sliceBounds,HT.sIx]
  | some i=>
   simp only [sliceBounds,HT.sIx,Option.getD_none,show (1:Int)>0 by decide,if_true];by_cases h:i<0
   ·simp only [h,if_true]<;>lia
   ·simp only [h,if_false]<;>lia
 ·cases hi with
  | none=>simp [sliceBounds,HT.sIx]
  | some i=>
   simp only [sliceBounds,HT.sIx,Option.getD_none,show (1:Int)>0 by decide,if_true];by_cases h:i<0
   ·simp only [h,if_true]<;>lia
   ·simp only [h,if_false]<;>lia
theorem slicePick_cut (its:List Value)(lo hi:Option Int):slicePick its.toArray lo hi none=((its.drop (HT.sIx its.length 0 lo)).take (HT.sIx its.length its.length hi-HT.sIx its.length 0 lo)).toArray:=by
 obtain ⟨h1,h2,h3⟩:=slice_bounds lo hi its.toArray.size;unfold slicePick;rw [h1,h2,h3];simp only [sliceRange_one,pick_run,sT1]<;>rfl
noncomputable def rSlL (K:Fg1):V->Option Int->Option Int->Hp->VK->Prop:=fun x lo hi H Q=>∃ a xs,x = .ref a/\SqL K H a xs /\ ∀ p,H p=none->Q (.ref p) (upd H p (.lst (cutV xs lo hi)))
theorem sl_list:SlR X (rSlL X.K):=by
 intro pins s σ H x v vl vu lo hi sl Q I rx hs pl pu h;obtain ⟨a,xs,rfl,hx,q⟩:=h;cases rx;obtain ⟨its,r,ht,hz⟩:=I.list hx;have hlen:=r.length;refine ⟨"list",_,slot_list_getitem.lookup,ht.isList.typeIs,?_⟩;refine wpAny_getItem_list_slice ht.isList hs pl pu .none (by simp) ?_ (by rw [sT1]<;>lia);rw [slicePick_cut,<- hlen];refine ⟨.ref s.heap.objs.size,_,I.laid (t':=s.toks) (o:=.lst (cutV xs lo hi)) (fun b ob q=>hP1 _ q) (nR1 _) ?_,rfl,q _ (I.hok.fresh (nR1 _))⟩;exact ⟨Nat.le_trans (cutV_length xs lo hi) hz,_,0,(r.drop (HT.sIx xs.length 0 lo)).take (HT.sIx xs.length xs.length hi-HT.sIx xs.length 0 lo),hS1 _ rfl⟩
noncomputable def flatV:V->Bool
 | .non=>true
 | .bl _=>true
 | .int _=>true
 | .str _=>true
 | _=>false
noncomputable def eqV:V->V->Bool
 | .non,.non=>true
 | .bl a,.bl b=>a == b
 | .bl a,.int b=>(if a then 1 else 0) == b
 | .int a,.bl b=>a == (if b then 1 else 0)
 | .int a,.int b=>a == b
 | .str a,.str b=>a == b
 | _,_=>false
theorem eqAt_V {A:Around}{s:Shared}{y x:V}{u v:Value}(ry:RelV y u)(rx:RelV x v)(fy:flatV y=true)(fx:flatV x=true):SeqAt.EqAt A s u v (eqV y x):=by
 cases y with
 | non=>
  cases ry;cases x with
  | non=>cases rx;exact SeqAt.EqAt.same _
  | bl b=>cases rx;exact SeqAt.EqAt.none_bool b
  | int b=>obtain ⟨t,rfl⟩:=rx;exact SeqAt.EqAt.none_int b t
  | str b=>obtain ⟨t,rfl⟩:=rx;exact SeqAt.EqAt.none_str b t
  | _=>exact absurd (show false=true from fx) Bool.false_ne_true
 | bl a=>
  cases ry;cases x with
  | non=>cases rx;exact SeqAt.EqAt.bool_none a
  | bl b=>cases rx;exact SeqAt.EqAt.bool_bool a b
  | int b=>obtain ⟨t,rfl⟩:=rx;exact SeqAt.EqAt.bool_int a b t
  | str b=>obtain ⟨t,rfl⟩:=rx;exact SeqAt.EqAt.bool_str a b t
  | _=>exact absurd (show false=true from fx) Bool.false_ne_true
 | int a=>
  obtain ⟨t',rfl⟩:=ry;cases x with
  | non=>cases rx;exact SeqAt.EqAt.int_none a t'
  | bl b=>cases rx;exact SeqAt.EqAt.int_bool a t' b
  | int b=>obtain ⟨t,rfl⟩:=rx;exact SeqAt.EqAt.int_int a t' b t
  | str b=>obtain ⟨t,rfl⟩:=rx;exact SeqAt.EqAt.int_str a t' b t
  | _=>exact absurd (show false=true from fx) Bool.false_ne_true
 | str a=>
  obtain ⟨t',rfl⟩:=ry;cases x with
  | non=>cases rx;exact SeqAt.EqAt.str_none a t'
  | bl b=>cases rx;exact SeqAt.EqAt.str_bool a t' b
  | int b=>obtain ⟨t,rfl⟩:=rx;exact SeqAt.EqAt.str_int a t' b t
  | str b=>obtain ⟨t,rfl⟩:=rx;exact SeqAt.EqAt.str_str a t' b t
  | _=>exact absurd (show false=true from fx) Bool.false_ne_true
 | _=>exact absurd (show false=true from fy) Bool.false_ne_true
theorem call_len_seq:CallR X (.builtin "len") (fun xs H Q=>∃ p ys,xs=[.ref p]/\(SqL X.K H p ys\/SqT X.K H p ys)/\Q (.int ys.length) H):=by
 intro pins s σ H xs us Q I r h;obtain ⟨p,ys,rfl,hq,q⟩:=h;obtain ⟨u,rfl,rx⟩:=vals1 r;cases rx;have hn:=line63;rcases hq with hq | hq
 ·obtain ⟨its,r',pl,hz⟩:=I.list hq;have hlen:=r'.length;exact Calls.call_len_list pl.isList (by simp only [sT1]<;>lia) ⟨.int ys.length,H,I.tok _,⟨s.toks+1,by rw [sT1,hlen]⟩,q⟩
 ·obtain ⟨its,r',pl,hz⟩:=I.tuple hq;have hlen:=r'.length;exact len_tuple pl (by simp only [sT1]<;>lia) ⟨.int ys.length,H,I.tok _,⟨s.toks+1,by rw [sT1,hlen]⟩,q⟩
theorem call_len_str:CallR X (.builtin "len") (fun xs H Q=>∃ z,xs=[.str z]/\z.length<=sizeLine/\Q (.int z.length) H):=by
 intro pins s σ H xs us Q I r h;obtain ⟨z,rfl,hz,q⟩:=h;obtain ⟨u,rfl,t,rfl⟩:=vals1 r;have hn:=line63;exact len_str (by lia) ⟨.int z.length,H,I.tok _,⟨_,rfl⟩,q⟩
theorem call_list_of:CallR X (.type "list") (fun xs H Q=>∃ p ys,xs=[.ref p]/\(SqL X.K H p ys\/SqT X.K H p ys) /\ ∀ l,H l=none->Q (.ref l) (upd H l (.lst ys))):=by
 intro pins s σ H xs us Q I r h;obtain ⟨p,ys,rfl,hq,q⟩:=h;obtain ⟨u,rfl,rx⟩:=vals1 r;cases rx;have fin:∀ (its:List Value),Vals ys its->ys.length<=sizeLine -> ∀ (h':Heap) (c':Nat),(∀ b o',s.heap.get? b=some o'->h'.get? b=some o') ->
   h'.get? s.heap.objs.size=some {cls:=.type "list",dict:=none,data:=.seq its.toArray c',slots:= #[]}->EP X pins σ Q (.ref s.heap.objs.size) {s with heap:=h'}:=fun its r' hz h' c' kp e=>
  ⟨.ref s.heap.objs.size,_,I.laid (t':=s.toks) kp (nR1 _) (show ObjOk X.prog X.w _ h' _ (.lst ys) from ⟨hz,its,c',r',e⟩),rfl,q _ (I.hok.fresh (nR1 _))⟩
 rcases hq with hq | hq
 ·obtain ⟨its,r',pl,hz⟩:=I.list hq;have hlen:=r'.length;obtain ⟨o,ho,hc,n,hd⟩:=pl.isList;exact call_list_seq p (.inl rfl) ho hc hd (fun h' c' kp e=>fin its r' hz h' c' kp e) (by simp only [sT1]<;>lia)
 ·obtain ⟨its,r',pl,hz⟩:=I.tuple hq;have hlen:=r'.length;obtain ⟨o,ho,hc,n,hd⟩:=pl;exact call_list_seq p (.inr rfl) ho hc hd (fun h' c' kp e=>fin its r' hz h' c' kp e) (by simp only [sT1]<;>lia)
theorem call_tuple_of:CallR X (.type "tuple") (fun xs H Q=>∃ p ys,xs=[.ref p]/\((SqL X.K H p ys /\ ∀ l,H l=none->Q (.ref l) (upd H l (.tup ys)))\/(SqT X.K H p ys/\Q (.ref p) H))):=by
 intro pins s σ H xs us Q I r h;obtain ⟨p,ys,rfl,h⟩:=h;obtain ⟨u,rfl,rx⟩:=vals1 r;cases rx;rcases h with ⟨hq,q⟩ | ⟨hq,q⟩
 ·obtain ⟨its,r',pl,hz⟩:=I.list hq;have hlen:=r'.length;refine call_tuple_list pl.isList (fun h' kp=>?_) (by simp only [sT1]<;>lia);have I1:Inv X pins σ H {s with heap:=h'}:=I.kept (t':=s.toks) kp;have I2:Inv X pins σ (upd H h'.objs.size (.tup ys)) {s with heap:=h'.push {cls:=.type "tuple",data:=.seq its.toArray}}:=
   I1.laid (t':=s.toks) (fun b o e=>hP1 _ e) (nR1 _) (show ObjOk X.prog X.w _ _ _ (.tup ys) from ⟨hz,its,r',IsTup.new _ _⟩)
  exact ⟨.ref h'.objs.size,_,I2,rfl,q _ (I1.hok.fresh (nR1 _))⟩
 ·obtain ⟨its,r',pl,hz⟩:=I.tuple hq;exact call_tuple_same pl ⟨.ref p,H,I,rfl,q⟩
noncomputable def tyV (K:Fg1)(T:String)(x:V)(H:Hp):Prop:=match x with
 | .str _=>T="str"
 | .int _=>T="int"
 | .ref p=>(T="list" /\ ∃ xs,SqL K H p xs)\/(T="tuple" /\ ∃ o,K.lookup p=some o/\o.cls = .type "tuple"/\o.dict=none) \/
   (T="dict"/\((∃ kvs,H p=some (.dK kvs)) \/ ∃ kvs,H p=some (.dT kvs)))\/(T="set" /\ ∃ S n,H p=some (.set S n))
 | _=>False
theorem tyV_is {pins:List (Addr×Obj)}{σ:St}{H:Hp}{s:Shared}{T:String}{x:V}{v:Value}(I:Inv X pins σ H s)(r:RelV x v)(ty:tyV X.K T x H):
  s.TypeIs v T /\ ∀ a,v = .ref a -> ∃ ob,s.heap.get? a=some ob/\ob.dict=none:=by
 cases x with
 | str z=>
  obtain ⟨t,rfl⟩:=r;cases (show T="str" from ty);exact ⟨typeIs_str s z t,fun _ e=>nomatch e⟩
 | int i=>
  obtain ⟨t,rfl⟩:=r;cases (show T="int" from ty);exact ⟨typeIs_int s i t,fun _ e=>nomatch e⟩
 | ref p=>
  cases r;rcases ty with ⟨rfl,xs,hq⟩ | ⟨rfl,o,hk,hc,hd⟩ | ⟨rfl,hk⟩ | ⟨rfl,S,n,hk⟩
  ·obtain ⟨its,_,pl,_⟩:=I.list hq;refine ⟨pl.isList.typeIs,fun a e=>?_⟩;cases e;obtain ⟨o,n,e,c,hd,_⟩:=pl;exact ⟨o,e,hd⟩
  ·refine ⟨⟨o,I.kIn p o hk,hc⟩,fun a e=>?_⟩;cases e;exact ⟨o,I.kIn _ o hk,hd⟩
  ·have z:∃ o,s.heap.get? p=some o/\o.ExactDict:=by
    rcases hk with ⟨kvs,hk⟩ | ⟨kvs,hk⟩
    ·obtain ⟨_,_,_,_,o,_,_,e,ex,_⟩:=I.hok p _ hk;exact ⟨o,e,ex⟩
    ·obtain ⟨_,_,_,_,o,_,_,e,ex,_⟩:=I.hok p _ hk;exact ⟨o,e,ex⟩
   obtain ⟨o,e,ex⟩:=z;refine ⟨⟨o,e,ex.1⟩,fun a e2=>?_⟩;cases e2;exact ⟨o,e,ex.2.1⟩
  ·obtain ⟨o,_,_,_,e,ex,_⟩:=I.hok p _ hk;refine ⟨⟨o,e,ex.1⟩,fun a e2=>?_⟩;cases e2;exact ⟨o,e,ex.2.1⟩
 | _=>exact False.elim ty
noncomputable def tBM (K:Fg1)(T:String)(r:V->List V->Hp->VK->Prop)(to:TE)(t:TA):TE:=fun σ H Q=>to σ H fun x H1=>tyV K T x H1/\t σ H1 fun xs H2=>r x xs H2 Q
variable {o e:Expr} {es:List Expr} {to:TE} {t:TA} {name:Str} {apos cpos:Pos} {T id:String} {r:V->List V->Hp->VK->Prop}
theorem pe_bm (pa:PlainAttrs T)(slot:Slot T name id)(hty:typeOf (.builtin id)=pure (.type "method_descriptor"))(hm:MtR X id r)(ho:PE X o to)(ha:PA X (e::es) t)
  (hbase:attributeBase o name X.env (eval o X.env)=eval o X.env:=by rfl)
  (hfew:((backTo cpos (starEach (e::es) X.env)).all (fun x=> !x.1)&&(backToKw cpos (keywordEach [] X.env)).all (fun x=>x.1.isSome)
   && decide ((e::es).length+([]:List Keyword).length+(if ([]:List Keyword).isEmpty then 0 else 1)<30))=true:=by rfl)
  (hline:(apos.endLine == cpos.line)=true:=by rfl) (hs:starEach (e::es) X.env=(false,eval e X.env)::starEach es X.env:=by rfl) (hplain:(backTo cpos (starEach es X.env)).any (·.1)=false:=by rfl):
  PE X (.Call (.Attribute o name apos) (e::es) [] cpos) (tBM X.K T r to t):=by
 intro pins s σ H Q I h;refine wpAny_Call_method_late hbase hfew hline rfl (thn (ho pins s σ H _ I h) fun v s1 ⟨x,H1,I1,r1,ty,q1⟩=>?_);obtain ⟨h1,h2⟩:=tyV_is I1 r1 ty;refine ⟨T,id,pa,slot,hty,h1,h2,?_⟩;have hA:=ha cpos pins s1 σ H1 _ I1 q1;rw [hs] at hA ⊢;refine Calls.callWith_builtin (by show (false||(backTo cpos (starEach es X.env)).any (·.1))=false;rw [hplain]<;>rfl) (Calls.evalArgs_plain ?_);exact thn hA fun us s2 ⟨vs,H2,I2,r2,q2⟩=>hm pins s2 σ H2 x vs v us Q I2 r1 r2 q2
end
end L2
namespace L2
open PySem PySem.Spec PyProof.Rows
noncomputable def MtM (X:Cx)(id:String)(r:V->List V->Hp->VK->Prop):Prop:=
 ∀ (pins:List (Addr×Obj)) (s:Shared) (σ:St) (H:Hp) (x:V) (xs:List V) (v:Value) (us:List Value) (Q:VK),Inv X pins σ H s->RelV x v->Vals xs us->r x xs H Q ->
  wpAny (model X.prog X.w) X.A (call (.builtin id) (v::us)) (EP X pins σ Q) X.xe s
theorem Vals.one:∀ {x:V} {us:List Value},Vals [x] us -> ∃ u,us=[u]/\RelV x u:=by
 intro x us h;cases h with
 | cons r t=>cases t;exact ⟨_,rfl,r⟩
section
variable {X:Cx} {pins:List (Addr×Obj)} {σ:St} {H:Hp} {s:Shared} {l b:Addr} {xs ys zs:List V}
theorem Inv.lset {its its':List Value}{n:Nat}{f:Array Value->Array Value}{t':Nat}(I:Inv X pins σ H s)(hH:H l=some (.lst xs))
  (e:s.heap.get? l=some {cls:=.type "list",data:=.seq its.toArray n}) (hf:f its.toArray=its'.toArray) (hv:Vals ys its') (hz:ys.length<=sizeLine):
  Inv X pins σ (upd H l (.lst ys)) {s with heap:=s.heap.update l (Obj.mapSeq f),toks:=t'}:=by
 have q:=PySem.IsL.update e f;rw [hf] at q;refine I.write (x:=l) (e:=l) (by rw [hH];exact trivial) (.inl rfl) (fun b' u hb hu=>(Heap.get?_update_other s.heap (Obj.mapSeq f) (Ne.symm hb)).trans hu) ⟨_,q⟩ ?_;exact ⟨hz,its',_,hv,q⟩
theorem Inv.lnew {its:List Value}{t':Nat}(I:Inv X pins σ H s)(hv:Vals ys its)(hz:ys.length<=sizeLine):
  Inv X pins σ (upd H s.heap.objs.size (.lst ys)) {s with heap:=s.heap.push {cls:=.type "list",data:=.seq its.toArray},toks:=t'}:=
 I.laid (fun _ _ q=>hP1 _ q) (nR1 _) ⟨hz,its,0,hv,hS1 _ rfl⟩
theorem Inv.fresh (I:Inv X pins σ H s):H s.heap.objs.size=none:=I.hok.fresh (nR1 _)
theorem Inv.lstM (I:Inv X pins σ H s)(hH:H l=some (.lst xs)):xs.length<=sizeLine /\ ∃ (its:List Value) (n:Nat),Vals xs its/\xs.length=its.length/\s.heap.get? l=some {cls:=.type "list",data:=.seq its.toArray n}:=by
 obtain ⟨z,its,n,r,e⟩:=I.hok l _ hH;exact ⟨z,its,n,r,r.length,e⟩
end
section
variable {X:Cx}
noncomputable def rAppend:V->List V->Hp->VK->Prop:=fun x vs H Q=>∃ l xs y,x = .ref l/\vs=[y]/\H l=some (.lst xs)/\xs.length<sizeLine/\Q .non (upd H l (.lst (xs++[y])))
theorem mt_append:MtM X "list.append" rAppend:=by
 intro pins s σ H x vs v us Q I rx rv h;obtain ⟨l,xs,y,rfl,rfl,hH,hz,q⟩:=h;cases rx;obtain ⟨u,rfl,ru⟩:=rv.one;obtain ⟨z,its,n,r,hl,e⟩:=I.lstM hH;refine call_meets F.slot_list_append ⟨_,e,rfl⟩ F.entry_list_append (F.args_list_append_2 _ _) (PySem.list_append l its.toArray n u (by rw [sT1];lia)) ⟨e,?_⟩;refine ⟨.non,_,I.lset (its':=its++[u]) hH e (by simp) (r.append (.cons ru .nil)) ?_,rfl,q⟩;rw [lA1,List.length_singleton];lia
noncomputable def rCat:R2:=fun x y H Q=>∃ l b xs zs,x = .ref l/\y = .ref b/\H l=some (.lst xs)/\H b=some (.lst zs)/\xs.length+zs.length<=sizeLine /\ ∀ p,H p=none->Q (.ref p) (upd H p (.lst (xs++zs)))
theorem op_cat:OpR X (binaryOp .Add) rCat:=by
 intro pins s σ H x y v u Q I rx ry h;obtain ⟨l,b,xs,zs,rfl,rfl,hH,hB,hz,q⟩:=h;cases rx;cases ry;obtain ⟨z,its,n,r,hl,e⟩:=I.lstM hH;obtain ⟨z2,its2,n2,r2,hl2,e2⟩:=I.lstM hB;refine PySem.P.add_list e e2 ?_ (by rw [sT1,sT1];lia);have ea:its.toArray++its2.toArray=(its++its2).toArray:=by simp
 rw [ea];exact ⟨.ref _,_,I.lnew (t':=s.toks) (r.append r2) (by rw [lA1];lia),rfl,q _ I.fresh⟩
end
section
variable {prog:Program} {w:World} {A:Around} {E:Value->Shared->Prop} {s:Shared}
end
section
variable {X:Cx}
end
end L2
namespace Att
open PySem PySem.W PySem.Calls PyProof.Rows
theorem ints_of_wellAll {P:Params}{h:Heap}:∀ (ns:List Int) (vs:List Value),WellAll P h vs (ns.map WData.int)->IntsAre vs ns:=by
 intro ns
 induction ns with
 | nil=>
  intro vs w;rw [List.map_nil] at w;cases w;exact .nil
 | cons n ns ih=>
  intro vs w;rw [mP1] at w;cases w with
  | cons a b=>
   cases a;exact .cons _ _ (ih _ b)
theorem script_of {l:OpenLaw}{n:Nat}(hn:l.most=some n){P:Params}{h:Heap}{args:List WData}{vals:List Value}
  (hpre:l.row.toRowW.claim.pre args=true) (hwl:WellAll P h vals args):
  ∃ a vs ns,vals=[Value.ref a]/\args=[WData.list (ns.map WData.int)]/\h.get? a=some {cls:=.type "list",data:=.seq vs.toArray}/\IntsAre vs ns/\ns.length<=n:=by
 have hsh:WShape.hasAll [] args [.list .int]=true:=(pre_splitW hpre).1;have hc:l.pre.holds [] {args:=args}=true:=(pre_splitW hpre).2;obtain ⟨d,r,rfl,h1,h2⟩:=hasAllW_cons hsh;obtain rfl:=hasAllW_nil h2;obtain ⟨xs,rfl,h3⟩:=hasW_list h1;obtain ⟨ns,rfl⟩:=items_int h3;have hlen:ns.length<=n:=by
  unfold OpenLaw.pre at hc;have h4:(WTm.not (.lt (.lit (.int (n:Int))) (.len (.arg 0)))).holds [] {args:=[.list (ns.map .int)]}=true:=by
   have h4:=(holds_andW hc).1;rw [hn] at h4;exact h4
  have h5:=condW_of h4 (w_not (w_lt w_lit (w_len_list (w_arg rfl))));rw [lM1] at h5;refine Nat.le_of_not_lt fun q=>?_;have q':(n:Int)<((ns.length:Nat):Int):=by omega
  first
   | (rw [decide_eq_true q'] at h5;exact absurd h5 (by decide))
   | (simp at h5;omega)
 cases hwl with
 | cons w1 w2=>
  cases w2;cases w1 with
  | list ho hall=>exact ⟨_,_,ns,rfl,rfl,ho,ints_of_wellAll ns _ hall,hlen⟩
theorem post_true (l:OpenLaw)(args:List WData):l.row.toRowW.claim.post args (.bool true) args=true:=
 postW_of (r:=l.row.toRowW) (X:=(true == true))
  (show WShape.has [] (.bool true) .bool=true by first | rfl | decide | simp [WShape.has,WShape.arms,WShape.armsAll])
  (show (WTm.eq .res (.lit (.bool true))).value [] {args:=args,res:=some (.bool true),after:=args}=some (.bool (true == true)) from w_eq_bool (w_res rfl) w_lit) rfl
theorem attach_call {l:OpenLaw}{n:Nat}{q:Program}{loose:List Str}{XP:(Str->Option Value)->Heap->Prop}{YP:World->Heap->Prop}{d:DefRec}
  (hn:l.most=some n) (hdf:d.params.defaults=[])
  (call:∀ (w:World) (s₀ s₁:Shared) (mg mb:Str->Option Value) (fa:Addr) (o:Obj) (pm cd doc:Value) (a:Addr) (vs:List Value) (ns:List Int),
   Ground q loose [] XP w s₀ mg mb s₁.heap->YP w s₁.heap ->
   s₁.heap.get? fa=some o->o.data = .func (docDef d.name d.params d.body d.scope pm cd doc)->s₁.heap.CodeRec cd d.name->mg d.name=some (.ref fa) ->
   s₁.heap.get? a=some {cls:=.type "list",data:=.seq vs.toArray}->IntsAre vs ns->ns.length<=n->s₁.gens = #[] ->
   codeAny (model l.prog w) callerA (.call (.ref fa) ⟨[.ref a],[]⟩) (fun r s'=>r = .ok (.ret (.bool true))/\OldK s₁.heap s'.heap/\s'.os=s₁.os/\AllBare s'.gens) s₁):
  WalkO q loose XP YP l.row.toRowW d [] (fun f vs=>PySem.call f vs):=by
 intro w s₀ s₁ mg mb G Y fa o pm cd doc dV kV ho hd hcd hD hmg hg args vals as hpre hlay hrd hwl hlo;obtain rfl:dV = .none:=Dflts.none hD hdf;obtain rfl:kV = .none:=Dflts.noKw hD;obtain ⟨a,vs,ns,rfl,rfl,hobj,hints,hlen⟩:=script_of hn hpre hwl;refine enter_call (codeAny_mono (call w s₀ s₁ mg mb fa o pm cd doc a vs ns G Y ho (fd_plain hd) hcd hmg hobj hints hlen hg) fun r s' hq=>?_);obtain ⟨rfl,h2,h3,h4⟩:=hq;exact ⟨.inl ⟨.bool true,.bool true,[],rfl,fun _=>rfl,.bool true,post_true l _,fun _=>⟨List.Pairwise.nil,fun _ hm=>(nomatch hm)⟩⟩,h2,h3,h4⟩
section
variable {prog:Program} {w:World} {A:Around} {E:Value->Shared->Prop} {s:Shared} {K:Frag}
end
end Att
namespace L2
open PySem PySem.Spec PyProof.Rows
theorem vals_ints:∀ {vs:List Value} {ns:List Int},IntsAre vs ns->Vals (ns.map V.int) vs:=by
 intro vs ns h
 induction h with
 | nil=>exact .nil
 | cons n t h ih=>exact .cons ⟨t,rfl⟩ ih
noncomputable def Only (H:Hp):Prop:=∀ b,H b=none \/ ∃ o xs,H b=some (.frz o (.lst xs))
theorem law_call {P:Program}{w:World}{K:Fg1}{mg mb:Str->Option Value}{CX:CXT}{k:Nat}{fa a:Addr}{fd:FuncData}{x:Str}{sp:Sp}{s₁:Shared}{vs:List Value}{ns:List Int}
  (KX:K.In s₁.heap) (hns:s₁.heap.Ns mainGlobals mg) (hb:s₁.heap.Ns builtinsNs mb) (hbb:∀ x:Str,x≠"__name__"->mb x=bootBuiltins x) (hlim:s₁.heap.NoLimit) (hg:s₁.gens = #[])
  (ha:s₁.heap.get? a=some {cls:=.type "list",data:=.seq vs.toArray}) (hi:IntsAre vs ns) (hl:ns.length<=sizeLine) (hr:Room k callerA)
  (F:∀ base:Heap,K.In base->base.Ns mainGlobals mg->FnOk P w K mg base CX k fa fd [x] sp) (hbind:∀ (s:Shared) (u:Value),BindsTo s fd ⟨[u],[]⟩ [(x,u)])
  (hsp:∀ H:Hp,Only H->SqL K H a (ns.map V.int)->sp [.ref a] H (fun v _=>v = .bl true) fun _ _ _=>False)
  (hCX:∀ H e s',CX [] H s₁ (fun _ _ _=>False) e s'->False):
  codeAny (model P w) callerA (.call (.ref fa) ⟨[.ref a],[]⟩) (fun r s'=>r = .ok (.ret (.bool true))/\OldK s₁.heap s'.heap/\s'.os=s₁.os/\AllBare s'.gens) s₁:=by
 have rv:=vals_ints hi;have lenV:=hi.length
 -- from an abstract heap in which nothing but the script may be tracked
 have core:∀ H:Hp,Only H->SqL K H a (ns.map V.int)->HOk P w H s₁.heap->(∀ b,H b≠none->b=a)->(H a≠none->K.lookup a=none) ->
   codeAny (model P w) callerA (.call (.ref fa) ⟨[.ref a],[]⟩) (fun r s'=>r = .ok (.ret (.bool true))/\OldK s₁.heap s'.heap/\s'.os=s₁.os/\AllBare s'.gens) s₁:=by
  intro H hO hS hok hA hK;have base_of:∀ {b:Addr} {o:Obj},s₁.heap.get? b=some o->H b=none->(hidT s₁.heap H).get? b=some o:=fun e n=>hidT_get e n;have noA:∀ {b:Addr} {o:Obj} {es:Array DictEntry} {ep:Nat},s₁.heap.get? b=some o->o.data = .dict es ep->H b=none:=fun {b o es ep} e d=>by
   cases q:H b with
   | none=>rfl
   | some u=>
    have e':b=a:=hA b (by rw [q];simp);subst e';rw [ha] at e;cases e;have d':Data.seq vs.toArray _=Data.dict es ep:=d;cases d'
  have nsK:∀ {b:Addr} {m:Str->Option Value},s₁.heap.Ns b m->(hidT s₁.heap H).Ns b m:=fun {b m} ⟨o,es,ep,e,d,r⟩=>⟨o,es,ep,base_of e (noA e d),d,r⟩;have hKb:K.In (hidT s₁.heap H):=fun b o e=>base_of (KX b o e) (by
   cases q:H b with
   | none=>rfl
   | some u=>
    have e':b=a:=hA b (by rw [q];simp);subst e';rw [hK (by rw [q];simp)] at e;cases e)
  have hM:Mod K mg (hidT s₁.heap H):=⟨hKb,nsK hns,⟨mb,nsK hb,hbb⟩,let ⟨mc,h1,h2⟩:=hlim;⟨mc,nsK h1,h2⟩⟩;have e0:Env0 P w K mg (hidT s₁.heap H) callerA [] s₁ H:=⟨rfl,hM,fun b o e=>of_hidT e,Nat.le_of_eq (hidT_size _ _),trivial,fun b hb=>absurd (show b∈([]:List Addr) from hb) (by simp),hok,.of_eq hg⟩;refine codeAny_mono ((F _ hKb (nsK hns)).run callerA [] s₁ H ⟨[.ref a],[]⟩ [.ref a] [.ref a] _ _ hr e0 (hbind s₁ (.ref a)) (.cons rfl .nil) (hsp H hO hS)) fun r s' h=>?_;cases r with
  | error e=>exact (hCX H e s' h).elim
  | ok fl=>
   cases fl with
   | next=>exact False.elim h
   | brk=>exact False.elim h
   | cont=>exact False.elim h
   | ret u=>
    obtain ⟨v,H',os,bare,un,hok',r',q⟩:=h;have q':v = .bl true:=q;subst q';obtain rfl:u=Value.bool true:=r';refine ⟨rfl,OldK.of_keep fun b o e=>?_,os,bare⟩;cases q:H b with
    | none=>exact un.keep b o e q (by intro z;exact absurd (show b∈([]:List Addr) from z) (by simp)) (by simp)
    | some u=>
     rcases hO b with z | ⟨ob,xs,z⟩
     ·rw [q] at z;cases z
     ·have z2:=un.frzs b ob _ z;obtain ⟨e1,_⟩:=hok b _ z;obtain ⟨e2,_⟩:=hok' b _ z2;rw [e] at e1;cases e1;exact e2
 cases hk:K.lookup a with
 | some o=>
  -- the script is one of the module's own objects
  have e:=KX a o hk;rw [ha] at e;cases e;refine core (fun _=>none) (fun _=>.inl rfl) (.inr ⟨_,vs.toArray,_,hk,rfl,rfl,rfl,by rw [sT1,lenV];exact hl,by simpa using rv⟩) (fun b u z=>by have z':(none:Option HO)=some u:=z;cases z') (fun b z=>absurd rfl z) fun z=>absurd rfl z
 | none=>
  refine core (fun b=>if b=a then some (.frz {cls:=.type "list",data:=.seq vs.toArray} (.lst (ns.map V.int))) else none) (fun b=>?_) (.inl (.inr ⟨{cls:=.type "list",data:=.seq vs.toArray},if_pos rfl⟩)) (fun b u z=>?_) (fun b z=>?_) fun _=>hk
  ·by_cases hb:b=a
   ·exact .inr ⟨_,_,if_pos hb⟩
   ·exact .inl (if_neg hb)
  ·by_cases hb:b=a
   ·have z':=(if_pos hb).symm.trans z;cases z';subst hb;exact ⟨ha,by rw [lM1];exact hl,vs,_,rv,ha⟩
   ·have z':=(if_neg hb).symm.trans z;cases z'
  ·by_cases hb:b=a
   ·exact hb
   ·exact absurd (if_neg hb) z
end L2
namespace L2
open PySem PySem.Spec PyProof.Rows
theorem walk_of {l:PySem.W.OpenLaw}{n k:Nat}{q:Program}{loose:List Str}{XP:(Str->Option Value)->Heap->Prop}{YP:World->Heap->Prop}{d:DefRec}{K:Params->Fg1}{CX:World->CXT}{sp:World->Sp}{x:Str}
  (hn:l.most=some n) (hn2:n<=sizeLine) (hdf:d.params.defaults=[]) (hr:Room k callerA)
  (hY:∀ (w:World) (h:Heap),YP w h->(K w.params).In h)
  (F:∀ (w:World) (mg:Str->Option Value) (fa:Addr) (h:Heap),(K w.params).In h->h.Ns mainGlobals mg->mg d.name=some (.ref fa) ->
   ∃ fd:FuncData,(∀ (s:Shared) (u:Value),BindsTo s fd ⟨[u],[]⟩ [(x,u)]) /\
    ∀ base:Heap,(K w.params).In base->base.Ns mainGlobals mg->FnOk l.prog w (K w.params) mg base (CX w) k fa fd [x] (sp w))
  (hsp:∀ (w:World) (H:Hp) (a:Addr) (ns:List Int),ns.length<=n->Only H->SqL (K w.params) H a (ns.map V.int)->sp w [.ref a] H (fun v _=>v = .bl true) fun _ _ _=>False)
  (hCX:∀ (w:World) (H:Hp) (s:Shared) (e:Value) (s':Shared),CX w [] H s (fun _ _ _=>False) e s'->False):
  PySem.W.WalkO q loose XP YP l.row.toRowW d [] (fun f vs=>PySem.call f vs):=by
 refine Att.attach_call hn hdf fun w s₀ s₁ mg mb fa o pm cd doc a vs ns G Y ho hd hcd hmg hobj hints hlen hg=>?_;have KX:=hY w _ Y;obtain ⟨fd,hb,hF⟩:=F w mg fa _ KX G.T.g hmg;exact law_call KX G.T.g G.T.b G.T.builtins G.T.nolimit hg hobj hints (Nat.le_trans hlen hn2) hr hF hb (fun H hO hS=>hsp w H a ns hlen hO hS) fun H e s'=>hCX w H s₁ e s'
end L2
namespace L2
open PySem PySem.Spec PyProof.Rows
noncomputable def defArgs (s:Stmt):Arguments:=match s with
 | .FunctionDef _ a _ _ _ _ _ _ _ _=>a
 | _=>{posonlyargs:=[],args:=[],vararg:=none,kwonlyargs:=[],kw_defaults:=[],kwarg:=none,defaults:=[]}
noncomputable def defBody (s:Stmt):List Stmt:=match s with
 | .FunctionDef _ _ b _ _ _ _ _ _ _=>b
 | _=>[]
noncomputable def defScope (s:Stmt):Scope:=match s with
 | .FunctionDef _ _ _ _ _ _ sc _ _ _=>sc
 | _=>{kind:=.function,names:=[],isGenerator:=false,isCoroutine:=false}
noncomputable abbrev CX0:CXT:=fun _ _ _ _ _ _=>False
noncomputable abbrev E0:XK:=fun _ _ _=>False
theorem pass0 {X:Cx}:Passes CX0 X E0:=fun _ _ _ _ _ _ _ h=>h.elim
structure Fun (K:Fg1)(x qual:Str)(st:Stmt)(f:Addr)(fd:FuncData):Prop where
 ex:∃ (oc:Value) (od:Option Addr) (kV doc pm:Value) (an:Option Addr) (cdv ct:Value) (osl:Array (Option Value)),
  fd=wF1 x qual (defArgs st) (defBody st) (defScope st) .none kV doc pm an cdv ct/\K.lookup f=some ⟨oc,od,.func fd,osl⟩/\wC1 K cdv qual=true
 kp:wK1 K (.ref f)=true
section
variable {P:Program} {w:World} {K:Fg1} {mg:Str->Option Value} {base:Heap}
theorem Fun.ok {x qual:Str}{st:Stmt}{f:Addr}{fd:FuncData}{N ps:List Str}{k:Nat}{sp:Sp}(F:Fun K x qual st f fd)(S:FnScope N ps (defScope st))(len:∀ vs H Q E,sp vs H Q E->vs.length=ps.length)
  (hbody:∀ (cdv:Value) (A:Around) (outer:List Env) (s:Shared) (H:Hp) (vs:List V) (Q:VK) (E:XK),Room k (A.deeper (envOfC qual (defScope st) s.heap.objs.size f cdv))->sp vs H Q E ->
   ∃ t,PSs (cxOf CX0 P w K mg base N qual (defScope st) f cdv A outer s H E).nox (defBody st) t/\t {nx:=fun _ H'=>Q .non H',rt:=Q} (start N vs) H):FnOk P w K mg base CX0 (k+1) f fd ps sp:=by
 obtain ⟨oc,od,kV,doc,pm,an,cdv,ct,osl,rfl,lk,hcd⟩:=F.ex;refine fn_of lk hcd S len fun A outer s H vs Q E hr hsp=>?_;obtain ⟨t,h,q⟩:=hbody cdv A outer s H vs Q E hr hsp;exact ⟨t,h.nox,q⟩
theorem Fun.binds {x qual:Str}{st:Stmt}{f:Addr}{fd:FuncData}{ps:List Str}(F:Fun K x qual st f fd)
  (h:∀ (kV doc pm:Value) (an:Option Addr) (cdv ct:Value) (us:List Value),us.length=ps.length->bindArgs (wF1 x qual (defArgs st) (defBody st) (defScope st) .none kV doc pm an cdv ct) ⟨us,[]⟩=pure (ps.zip us)):Binds K fd ps []:=by
 obtain ⟨oc,od,kV,doc,pm,an,cdv,ct,osl,rfl,lk,hcd⟩:=F.ex;exact .all (h kV doc pm an cdv ct)
theorem fun_mk {x qual:Str}{st:Stmt}{f:Addr}{oc:Value}{od an:Option Addr}{osl:Array (Option Value)}{kV doc pm cdv ct:Value}(l:K.lookup f=some ⟨oc,od,.func (wF1 x qual (defArgs st) (defBody st) (defScope st) .none kV doc pm an cdv ct),osl⟩)
  (c:wC1 K cdv qual=true) (k:wK1 K (.ref f)=true):Fun K x qual st f (wF1 x qual (defArgs st) (defBody st) (defScope st) .none kV doc pm an cdv ct):=⟨⟨oc,od,kV,doc,pm,an,cdv,ct,osl,rfl,l,c⟩,k⟩
end
section
variable {X:Cx}
end
noncomputable def Same (H H':Hp):Prop:=∀ b o,H b=some o->H' b=some o
theorem Same.trans {H H1 H2:Hp}(a:Same H H1)(b:Same H1 H2):Same H H2:=fun c o h=>b c o (a c o h)
theorem Same.free {H H':Hp}(e:Same H H'){l:Addr}(h:H' l=Option.none):H l=Option.none:=by
 cases q:H l with
 | none=>rfl
 | some o=>
  rw [e l o q] at h;cases h
theorem Same.seq {K:Fg1}{H H':Hp}{a:Addr}{xs:List V}(e:Same H H')(h:SqL K H a xs):SqL K H' a xs:=by
 rcases h with (h | ⟨o,h⟩) | h
 ·exact .inl (.inl (e _ _ h))
 ·exact .inl (.inr ⟨o,e _ _ h⟩)
 ·exact .inr h
end L2
namespace L2
open PySem PySem.Spec PyProof.Rows
section
variable {κ:Type} [DecidableEq κ]
noncomputable def valV (kvs:List (κ×V))(k:κ):Option V:=(kvs.find? fun kv=>decide (kv.1=k)).map (·.2)
noncomputable def putK (kvs:List (κ×V))(k:κ)(v:V):List (κ×V):=
 if (kvs.any fun kv=>decide (kv.1=k))=true then kvs.map (fun kv=>if kv.1=k then (kv.1,v) else kv) else kvs++[(k,v)]
noncomputable def dropK (kvs:List (κ×V))(k:κ):List (κ×V):=kvs.filter fun kv=>decide (kv.1≠k)
theorem valV_pos {p:κ×V}{r:List (κ×V)}{k:κ}(e:p.1=k):valV (p::r) k=some p.2:=by simp [valV,List.find?_cons,e]
theorem valV_neg {p:κ×V}{r:List (κ×V)}{k:κ}(e:¬ p.1=k):valV (p::r) k=valV r k:=by simp [valV,List.find?_cons,e]
theorem valV_any (k:κ):∀ kvs:List (κ×V),(kvs.any fun kv=>decide (kv.1=k))=(valV kvs k).isSome
 | []=>rfl
 | p::r=>by
  rw [List.any_cons];by_cases e:p.1=k
  ·simp only [valV_pos e,decide_eq_true e,Bool.true_or,Option.isSome_some]
  ·rw [valV_neg e,decide_eq_false e,Bool.false_or];exact valV_any k r
theorem length_putK (kvs:List (κ×V))(k:κ)(v:V):(putK kvs k v).length<=kvs.length+1:=by
 unfold putK;split
 ·rw [lM1];lia
 ·rw [lA1,lC1,List.length_nil];lia
theorem RelO.isSome_eq {o:Option V}{u:Option Value}(r:RelO o u):o.isSome=u.isSome:=by
 cases o with
 | none=>cases u with
  | none=>rfl
  | some _=>exact (show False from r).elim
 | some _=>cases u with
  | none=>exact (show False from r).elim
  | some _=>rfl
theorem KV.val {kvs:List (κ×V)}{vs:List (κ×Value)}(r:KV kvs vs)(k:κ):RelO (valV kvs k) (valueAt vs k):=by
 unfold KV at r
 induction r with
 | nil=>exact True.intro
 | @cons p q ps qs h t ih=>
  obtain ⟨h1,h2⟩:=h;by_cases e:p.1=k
  ·have e':q.1=k:=h1.symm.trans e;have b:valueAt (q::qs) k=some q.2:=by simp [valueAt,List.find?_cons,e']
   rw [valV_pos e,b];exact h2
  ·have e':¬ q.1=k:=fun z=>e (h1.trans z);have b:valueAt (q::qs) k=valueAt qs k:=by simp [valueAt,List.find?_cons,e']
   rw [valV_neg e,b];exact ih
theorem KV.any {kvs:List (κ×V)}{vs:List (κ×Value)}(r:KV kvs vs)(k:κ):(kvs.any fun kv=>decide (kv.1=k))=vs.any fun kv=>decide (kv.1=k):=by
 unfold KV at r
 induction r with
 | nil=>rfl
 | cons h t ih=>rw [List.any_cons,List.any_cons,ih,h.1]
theorem KV.repl {kvs:List (κ×V)}{vs:List (κ×Value)}(r:KV kvs vs)(k:κ){y:V}{u:Value}(ry:RelV y u):
  KV (kvs.map fun kv=>if kv.1=k then (kv.1,y) else kv) (vs.map fun kv=>if kv.1=k then (kv.1,u) else kv):=by
 unfold KV at r ⊢
 induction r with
 | nil=>exact .nil
 | @cons p q ps qs h t ih=>
  rw [mP1,mP1];refine .cons ?_ ih;obtain ⟨h1,h2⟩:=h;by_cases e:p.1=k
  ·rw [if_pos e,if_pos (h1.symm.trans e)];exact ⟨h1,ry⟩
  ·rw [if_neg e,if_neg (fun z=>e (h1.trans z))];exact ⟨h1,h2⟩
theorem KV.put {kvs:List (κ×V)}{vs:List (κ×Value)}(r:KV kvs vs)(k:κ){y:V}{u:Value}(ry:RelV y u):KV (putK kvs k y) (stored vs k u):=by
 unfold putK stored;rw [r.any k];by_cases e:(vs.any fun kv=>decide (kv.1=k))=true
 ·rw [if_pos e,if_pos e];exact r.repl k ry
 ·rw [if_neg e,if_neg e];exact Paired.snoc r ⟨rfl,ry⟩
theorem KV.drop {kvs:List (κ×V)}{vs:List (κ×Value)}(r:KV kvs vs)(k:κ):KV (dropK kvs k) (without vs k):=by
 unfold KV at r ⊢;unfold dropK without
 induction r with
 | nil=>exact .nil
 | @cons p q ps qs h t ih=>
  obtain ⟨h1,h2⟩:=h;rw [List.filter_cons,List.filter_cons];by_cases e:p.1=k
  ·have a:¬ decide (p.1≠k)=true:=by simp [e]
   have b:¬ decide (q.1≠k)=true:=by simp [h1.symm.trans e]
   rw [if_neg a,if_neg b];exact ih
  ·have e':¬ q.1=k:=fun z=>e (h1.trans z);have a:decide (p.1≠k)=true:=by simp [e]
   have b:decide (q.1≠k)=true:=by simp [e']
   rw [if_pos a,if_pos b];exact .cons ⟨h1,h2⟩ ih
theorem KV.keys {kvs:List (κ×V)}{vs:List (κ×Value)}(r:KV kvs vs):kvs.map (·.1)=vs.map (·.1):=by
 unfold KV at r
 induction r with
 | nil=>rfl
 | cons h t ih=>rw [mP1,mP1,ih,h.1]
theorem KV.length {kvs:List (κ×V)}{vs:List (κ×Value)}(r:KV kvs vs):kvs.length=vs.length:=Paired.length r
end
theorem kV_is {P:Program}{w:World}{k:Key}{u:Value}(r:RelV (kV k) u):(mixKind P w).is k u=true:=by
 cases k with
 | inl i=>obtain ⟨t,e⟩:=(show ∃ t,u=Value.int i t from r);subst e;exact mixKind_int P w i t
 | inr x=>obtain ⟨t,e⟩:=(show ∃ t,u=Value.str x t from r);subst e;exact mixKind_str P w x t
theorem items_are {P:Program}{w:World}:∀ {ks:List Key} {us:List Value},Vals (ks.map kV) us->ItemsAre (mixKind P w) ks us
 | [],_,r=>by rw [List.map_nil] at r;cases r;exact .nil
 | k::ks,_,r=>by
  rw [mP1] at r;cases r with
  | cons h t=>exact .cons (kV_is h) (items_are t)
noncomputable abbrev KT (H:Hp):List (List Key×V)->List (List Key×Addr×Value)->Prop:=Paired fun p q=>p.1=q.1/\H q.2.1=some (.tup (p.1.map kV))/\RelV p.2 q.2.2
theorem KT.val {H:Hp}{kvs:List (List Key×V)}{xs:List (List Key×Addr×Value)}(r:KT H kvs xs)(k:List Key):RelO (valV kvs k) ((atKey xs k).map (·.2)):=by
 induction r with
 | nil=>exact True.intro
 | @cons p q ps qs h t ih=>
  obtain ⟨h1,_,h2⟩:=h;by_cases e:p.1=k
  ·have e':q.1=k:=h1.symm.trans e;have b:atKey (q::qs) k=some q.2:=by simp [atKey,List.find?_cons,e']
   rw [valV_pos e,b];exact h2
  ·have e':¬ q.1=k:=fun z=>e (h1.trans z);have b:atKey (q::qs) k=atKey qs k:=by simp [atKey,List.find?_cons,e']
   rw [valV_neg e,b];exact ih
theorem KT.repl {H:Hp}{kvs:List (List Key×V)}{xs:List (List Key×Addr×Value)}(r:KT H kvs xs)(k:List Key){y:V}{u:Value}(ry:RelV y u):
  KT H (kvs.map fun kv=>if kv.1=k then (kv.1,y) else kv) (xs.map (putAt k u)):=by
 induction r with
 | nil=>exact .nil
 | @cons p q ps qs h t ih=>
  rw [mP1,mP1];refine .cons ?_ ih;obtain ⟨h1,h2,h3⟩:=h;unfold putAt;by_cases e:p.1=k
  ·rw [if_pos e,if_pos (h1.symm.trans e)];exact ⟨h1,h2,ry⟩
  ·rw [if_neg e,if_neg (fun z=>e (h1.trans z))];exact ⟨h1,h2,h3⟩
theorem KT.put {H:Hp}{kvs:List (List Key×V)}{xs:List (List Key×Addr×Value)}(r:KT H kvs xs)(k:List Key){b:Addr}{y:V}{u:Value}(hb:H b=some (.tup (k.map kV)))(ry:RelV y u):
  KT H (putK kvs k y) (storedH xs k b u):=by
 have e:(kvs.any fun kv=>decide (kv.1=k))=(atKey xs k).isSome:=by
  rw [valV_any,(r.val k).isSome_eq,Option.isSome_map]
 unfold putK storedH;rw [e];by_cases q:(atKey xs k).isSome=true
 ·rw [if_pos q,if_pos q];exact r.repl k ry
 ·rw [if_neg q,if_neg q];exact Paired.snoc r ⟨rfl,hb,ry⟩
theorem KT.keeps {H H':Hp}{kvs:List (List Key×V)}{xs:List (List Key×Addr×Value)}(r:KT H kvs xs)(ht:∀ b ys,H b=some (.tup ys)->H' b=some (.tup ys)):KT H' kvs xs:=
 Paired.mapP r fun _ _ z=>⟨z.1,ht _ _ z.2.1,z.2.2⟩
section
variable {P:Program} {w:World} {H:Hp} {h:Heap} {a:Addr}
theorem rd_of {u:HO}(ok:HOk P w H h)(e:Rd H a u):ObjOk P w H h a u:=e.ok ok
theorem dk_rd {kvs:List (Key×V)}(ok:HOk P w H h)(e:Rd H a (.dK kvs)):kvs.length<=sizeLine/\(a == sysModules)=false /\ ∃ vs,KV kvs vs/\h.DictOf (mixKind P w) a vs:=
 show ObjOk P w H h a (.dK kvs) from rd_of ok e
theorem dk_of {kvs:List (Key×V)}(ok:HOk P w H h)(e:H a=some (.dK kvs)):kvs.length<=sizeLine/\(a == sysModules)=false /\ ∃ vs,KV kvs vs/\h.DictOf (mixKind P w) a vs:=dk_rd ok (.inl e)
theorem key_of {ks:List Key}(ok:HOk P w H h)(e:H a=some (.tup (ks.map kV))):(tupleKind (mixKind P w)).is h ks a:=by
 obtain ⟨_,its,r,o,h1,h2,n,h3⟩:=(show ObjOk P w H h a (.tup (ks.map kV)) from ok a _ e);exact ⟨o,its.toArray,n,h1,h2,h3,by simpa using items_are r⟩
theorem dt_rd {kvs:List (List Key×V)}(ok:HOk P w H h)(e:Rd H a (.dT kvs)):kvs.length<=sizeLine/\(a == sysModules)=false /\
  ∃ xs,KT H kvs xs/\h.DictOfH (tupleKind (mixKind P w)) a xs:=by
 obtain ⟨z,y,xs,r,o,es,ep,h1,h2,h3,h4,h5⟩:=(show ObjOk P w H h a (.dT kvs) from rd_of ok e);refine ⟨z,y,xs,r,o,es,ep,h1,h2,h3,h4,fun x hx=>?_,h5⟩;have all:∀ {l:List (List Key×V)} {m:List (List Key×Addr×Value)},KT H l m -> ∀ x∈m,(tupleKind (mixKind P w)).is h x.1 x.2.1:=by
  intro l m q
  induction q with
  | nil=>intro x hx;exact nomatch hx
  | @cons p q ps qs hq t ih=>
   intro x hx;rcases List.mem_cons.mp hx with e | hx
   ·subst e;exact key_of ok (by rw [<- hq.1];exact hq.2.1)
   ·exact ih x hx
 exact all r x hx
theorem dt_of {kvs:List (List Key×V)}(ok:HOk P w H h)(e:H a=some (.dT kvs)):kvs.length<=sizeLine/\(a == sysModules)=false /\
  ∃ xs,KT H kvs xs/\h.DictOfH (tupleKind (mixKind P w)) a xs:=dt_rd ok (.inl e)
end
noncomputable def DGet (H:Hp)(a:Addr)(y:V)(r:Option V):Prop:=
 (∃ kvs k,Rd H a (.dK kvs)/\y=kV k/\r=valV kvs k) \/ ∃ kvs k b,Rd H a (.dT kvs)/\y = .ref b/\H b=some (.tup (k.map kV))/\r=valV kvs k
noncomputable def DPut (H:Hp)(a:Addr)(y v:V)(H':Hp):Prop:=
 (∃ kvs k,H a=some (.dK kvs)/\y=kV k/\kvs.length<sizeLine/\H'=upd H a (.dK (putK kvs k v))) \/
 ∃ kvs k b,H a=some (.dT kvs)/\y = .ref b/\H b=some (.tup (k.map kV))/\kvs.length<sizeLine/\H'=upd H a (.dT (putK kvs k v))
theorem DGet.k {H:Hp}{a:Addr}{kvs:List (Key×V)}{k:Key}(e:H a=some (.dK kvs)):DGet H a (kV k) (valV kvs k):=.inl ⟨kvs,k,.inl e,rfl,rfl⟩
theorem DGet.t {H:Hp}{a b:Addr}{kvs:List (List Key×V)}{k:List Key}(e:H a=some (.dT kvs))(eb:H b=some (.tup (k.map kV))):DGet H a (.ref b) (valV kvs k):=.inr ⟨kvs,k,b,.inl e,rfl,eb,rfl⟩
theorem DPut.k {H:Hp}{a:Addr}{kvs:List (Key×V)}{k:Key}{v:V}(e:H a=some (.dK kvs))(hl:kvs.length<sizeLine):DPut H a (kV k) v (upd H a (.dK (putK kvs k v))):=.inl ⟨kvs,k,e,rfl,hl,rfl⟩
theorem DPut.t {H:Hp}{a b:Addr}{kvs:List (List Key×V)}{k:List Key}{v:V}(e:H a=some (.dT kvs))(eb:H b=some (.tup (k.map kV)))(hl:kvs.length<sizeLine):
  DPut H a (.ref b) v (upd H a (.dT (putK kvs k v))):=.inr ⟨kvs,k,b,e,rfl,eb,hl,rfl⟩
section
variable {X:Cx} {pins:List (Addr×Obj)} {σ:St} {H:Hp} {s:Shared} {a:Addr} {y v:V} {u r:Value} {o:Option V} {A:Around} {E:Value->Shared->Prop}
theorem Inv.big (I:Inv X pins σ H s):sysModules<s.heap.objs.size:=by
 have h:mainGlobals<s.heap.objs.size:=(I.mod.glob.keeps I.bk).lt;exact Nat.lt_trans (by decide) h
theorem d_getItem {Q:Value->Shared->Prop}(hu:A.units+1<cLine)(I:Inv X pins σ H s)(g:DGet H a y (some v))(ry:RelV y u)(h:∀ w' s',Inv X pins σ H s'->RelV v w'->Q w' s'):
  wpAny (model X.prog X.w) A (getItem (.ref a) u) Q E s:=by
 rcases g with ⟨kvs,k,e,ey,l⟩ | ⟨kvs,k,b,e,ey,eb,l⟩
 ·subst ey;obtain ⟨z,hd,vs,rel,dd⟩:=dk_rd I.hok e;obtain ⟨w',hw,rw'⟩:=RelO.some_of (v:=v) (o:=valueAt vs k) (by rw [l];exact rel.val k);exact wpAny_getItem_of (kV_is ry) dd.mapOf hw (h w' _ (I.tok _) rw')
 ·subst ey;cases (show u=Value.ref b from ry);obtain ⟨z,hd,xs,rel,dd⟩:=dt_rd I.hok e;obtain ⟨w',hw,rw'⟩:=RelO.some_of (v:=v) (o:=(atKey xs k).map (·.2)) (by rw [l];exact rel.val k);obtain ⟨p,hp,hp2⟩:=oM1.mp hw;refine wpAny_getItem_heap (tupleKind_room_in1 hu) (key_of I.hok eb) dd hp ?_;rw [hp2];exact h w' _ (I.tok _) rw'
theorem d_in {Q:Value->Shared->Prop}(hu:A.units+1<cLine)(I:Inv X pins σ H s)(g:DGet H a y o)(ry:RelV y u)(h:∀ s',Inv X pins σ H s'->Q (.bool o.isSome) s'):
  wpAny (model X.prog X.w) A (compareOp .In u (.ref a)) Q E s:=by
 rcases g with ⟨kvs,k,e,ey,l⟩ | ⟨kvs,k,b,e,ey,eb,l⟩
 ·subst ey;obtain ⟨z,hd,vs,rel,dd⟩:=dk_rd I.hok e;refine wpAny_in_of (kV_is ry) hd dd.mapOf ?_;rw [<- (rel.val k).isSome_eq,<- l];exact h _ (I.tok _)
 ·subst ey;cases (show u=Value.ref b from ry);obtain ⟨z,hd,xs,rel,dd⟩:=dt_rd I.hok e;refine wpAny_in_heap (tupleKind_room_in1 hu) (key_of I.hok eb) hd dd ?_;have q:=(rel.val k).isSome_eq;rw [Option.isSome_map] at q;rw [<- q,<- l];exact h _ (I.tok _)
theorem d_notIn {Q:Value->Shared->Prop}(hu:A.units+1<cLine)(I:Inv X pins σ H s)(g:DGet H a y o)(ry:RelV y u)(h:∀ s',Inv X pins σ H s'->Q (.bool (!o.isSome)) s'):
  wpAny (model X.prog X.w) A (compareOp .NotIn u (.ref a)) Q E s:=by
 rcases g with ⟨kvs,k,e,ey,l⟩ | ⟨kvs,k,b,e,ey,eb,l⟩
 ·subst ey;obtain ⟨z,hd,vs,rel,dd⟩:=dk_rd I.hok e;refine wpAny_notIn_of (kV_is ry) hd dd.mapOf ?_;rw [<- (rel.val k).isSome_eq,<- l];exact h _ (I.tok _)
 ·subst ey;cases (show u=Value.ref b from ry);obtain ⟨z,hd,xs,rel,dd⟩:=dt_rd I.hok e;refine wpAny_notIn_heap (tupleKind_room_in1 hu) (key_of I.hok eb) hd dd ?_;have q:=(rel.val k).isSome_eq;rw [Option.isSome_map] at q;rw [<- q,<- l];exact h _ (I.tok _)
theorem d_write {h':Heap}{t':Nat}{ob:HO}(I:Inv X pins σ H s)(mu:Mut (H a))(hs:Heap.SameBut a s.heap h')(he:∃ q,h'.get? a=some q)(new:ObjOk X.prog X.w (upd H a ob) h' a ob):
  Inv X pins σ (upd H a ob) {s with heap:=h',toks:=t'}:=
 I.write (x:=a) (e:=a) mu (.inl rfl) (fun b q hb z=>(hs.2 b hb).trans z) he new
theorem dk_new {P:Program}{w:World}{H':Hp}{h':Heap}{kvs:List (Key×V)}{vs:List (Key×Value)}(z:kvs.length<=sizeLine)(hd:(a == sysModules)=false)(rel:KV kvs vs)(dd:h'.DictOf (mixKind P w) a vs):
  ObjOk P w H' h' a (.dK kvs):=⟨z,hd,vs,rel,dd⟩
theorem d_setItem {H':Hp}{Q:Unit->Shared->Prop}(hu:A.units+1<cLine)(I:Inv X pins σ H s)(g:DPut H a y v H')(ry:RelV y u)(rv:RelV v r)(h:∀ s',Inv X pins σ H' s'->Q () s'):
  wpAny (model X.prog X.w) A (setItem (.ref a) u r) Q E s:=by
 rcases g with ⟨kvs,k,e,ey,l,eH⟩ | ⟨kvs,k,b,e,ey,eb,l,eH⟩
 ·subst ey eH;obtain ⟨z,hd,vs,rel,dd⟩:=dk_of I.hok e;have hz:vs.length<=sizeLine:=by rw [<- rel.length];exact z
  have hl:(putK kvs k v).length<=sizeLine:=by have:=length_putK kvs k v;lia
  refine wpAny_setItem_pairs (hsz:=hz) (kV_is ry) dd fun h' dd' hs=>h _ ?_;have he:∃ q,h'.get? a=some q:=let ⟨q,_,_,hq,_⟩:=dd';⟨q,hq⟩
  exact d_write I (by rw [e];exact True.intro) hs he (dk_new hl hd (rel.put k rv) dd')
 ·subst ey eH;cases (show u=Value.ref b from ry);obtain ⟨z,hd,xs,rel,dd⟩:=dt_of I.hok e;have hz:xs.length<=sizeLine:=by rw [<- Paired.length rel];exact z
  have hl:(putK kvs k v).length<=sizeLine:=by have:=length_putK kvs k v;lia
  refine wpAny_setItem_heap (hsz:=hz) (tupleKind_room_in1 hu) (key_of I.hok eb) dd fun h' dd' hs=>h _ ?_;obtain ⟨q,es,ep,hq,h2,h3,h4,_,h5⟩:=dd';refine d_write I (by rw [e];exact True.intro) hs ⟨q,hq⟩ ⟨hl,hd,_,(rel.put k eb rv).keeps fun c ys ec=>?_,q,es,ep,hq,h2,h3,h4,h5⟩;rw [upd_ne (ne_of ec e (fun z=>nomatch z))];exact ec
end
section
variable {X:Cx} {pins:List (Addr×Obj)} {σ:St} {H:Hp} {s:Shared} {a:Addr} {kvs:List (Key×V)} {k:Key} {u:Value} {A:Around} {E:Value->Shared->Prop}
end
theorem dict_typeIs {X:Cx}{pins:List (Addr×Obj)}{σ:St}{H:Hp}{s:Shared}{a:Addr}{y:V}{o:Option V}(I:Inv X pins σ H s)(g:DGet H a y o):s.TypeIs (.ref a) "dict":=by
 rcases g with ⟨kvs,k,e,_,_⟩ | ⟨kvs,k,b,e,_,_,_⟩
 ·obtain ⟨_,_,vs,_,dd⟩:=dk_rd I.hok e;exact dd.typeIs
 ·obtain ⟨_,_,xs,_,dd⟩:=dt_rd I.hok e;exact dd.typeIs
section
variable {X:Cx} {o i e value:Expr} {pos pos' tpos:Pos} {td ty tv:TE}
end
theorem dk_empty {P:Program}{w:World}{H:Hp}(h:Heap)(hb:sysModules<h.objs.size):ObjOk P w H (h.push {cls:=.type "dict",data:=.dict #[]}) h.objs.size (.dK []):=
 ⟨Nat.zero_le _,beq_eq_false_iff_ne.mpr (Ne.symm (nN1 hb)),[],.nil,Heap.DictOf.new h⟩
noncomputable def tDNewK:TE:=fun _ H Q=>∀ p,H p=none->Q (.ref p) (upd H p (.dK []))
section
variable {X:Cx} {pos:Pos}
theorem pe_dnewK:PE X (.Dict [] [] pos) tDNewK:=fun pins s σ H Q I h=>
 wpAny_Dict_empty ⟨.ref s.heap.objs.size,_,I.laid (a:=s.heap.objs.size) (o:=.dK []) (t':=s.toks) (fun _ _ q=>hP1 _ q) (nR1 _) (dk_empty s.heap I.big),rfl,h _ (I.hok.fresh (nR1 _))⟩
end
noncomputable def tPairs:List (TE×TE)->St->Hp->(List (V×V)->Hp->Prop)->Prop
 | [],_,H,Q=>Q [] H
 | (tk,tv)::r,σ,H,Q=>tk σ H fun x H1=>tv σ H1 fun y H2=>tPairs r σ H2 fun ps H3=>Q ((x,y)::ps) H3
noncomputable abbrev VV:List (V×V)->List (Value×Value)->Prop:=Paired fun p q=>RelV p.1 q.1/\RelV p.2 q.2
noncomputable def PPs (X:Cx)(pos:Pos)(keys:List (Option Expr))(values:List Expr)(trs:List (TE×TE)):Prop:=
 ∀ (pins:List (Addr×Obj)) (s:Shared) (σ:St) (H:Hp) (Q:List (V×V)->Hp->Prop),Inv X pins σ H s->tPairs trs σ H Q ->
  wpAny (model X.prog X.w) X.A (evalPairs (pairTrees keys values X.env pos)) (fun vs s'=>∃ ps H',Inv X pins σ H' s'/\VV ps vs/\Q ps H') X.xe s
section
variable {X:Cx} {pins:List (Addr×Obj)} {σ:St} {H:Hp} {s:Shared} {a:Addr} {y d:V} {u r:Value} {o:Option V} {A:Around} {E:Value->Shared->Prop}
end
section
variable {X:Cx} {o e f:Expr} {apos cpos:Pos} {td ty tx:TE}
end
section
variable {X:Cx} {pins:List (Addr×Obj)} {σ:St} {H:Hp} {s:Shared} {a:Addr} {kvs:List (Key×V)} {A:Around} {E:Value->Shared->Prop}
end
section
variable {X:Cx} {pins:List (Addr×Obj)} {σ:St} {H:Hp} {s:Shared} {a:Addr} {y:V} {u:Value} {A:Around} {E:Value->Shared->Prop}
end
end L2
namespace Mi
open PySem PySem.Spec PyProof.Rows L2
inductive TK where
 | non | int (i:Int) | tup (xs:List TK)
noncomputable instance:DecidableEq TK:=fun _ _=>Classical.propDecidable _
mutual
noncomputable def TK.hash:TK->Int
 | .non=>0xFCA86420
 | .int i=>hashInt i
 | .tup xs=>reduceHash (Builtin.Tuple.tupleHashOf (TK.hashes xs))
noncomputable def TK.hashes:List TK->List Int
 | []=>[]
 | x::xs=>TK.hash x::TK.hashes xs
end
mutual
noncomputable def TK.draws:TK->Nat
 | .non=>1
 | .int _=>1
 | .tup xs=>TK.drawsAll xs+1
noncomputable def TK.drawsAll:List TK->Nat
 | []=>0
 | x::xs=>TK.draws x+TK.drawsAll xs
end
mutual
noncomputable def TK.dep:TK->Nat
 | .non=>0
 | .int _=>0
 | .tup xs=>TK.depAll xs+1
noncomputable def TK.depAll:List TK->Nat
 | []=>0
 | x::xs=>max (TK.dep x) (TK.depAll xs)
end
theorem TK.dep_mem:∀ {xs:List TK} {x:TK},x∈xs->x.dep<=TK.depAll xs
 | y::ys,x,h=>by
  rw [TK.depAll];rcases List.mem_cons.mp h with e | e
  ·rw [e];exact Nat.le_max_left _ _
  ·exact Nat.le_trans (TK.dep_mem e) (Nat.le_max_right _ _)
theorem TK.hashes_app:∀ a b:List TK,TK.hashes (a++b)=TK.hashes a++TK.hashes b
 | [],_=>rfl
 | x::xs,b=>by rw [List.cons_append,TK.hashes,TK.hashes,TK.hashes_app xs b];rfl
theorem TK.draws_app:∀ a b:List TK,TK.drawsAll (a++b)=TK.drawsAll a+TK.drawsAll b
 | [],_=>by simp [TK.drawsAll]
 | x::xs,b=>by rw [List.cons_append,TK.drawsAll,TK.drawsAll,TK.draws_app xs b,Nat.add_assoc]
noncomputable def Ris (xs:Array Nat):Prop:=xs.toList.Pairwise (· < ·)
noncomputable def sPath (m:Nat):Nat->Nat->Nat->List Nat
 | 0,_,_=>[]
 | n+1,i,b=>List.range' i (SetTable.runEnd m i-i+1)++sPath m n (SetTable.leap m i b).1 (SetTable.leap m i b).2
noncomputable def sMk (m:Nat):Prop:=m=7\/m=31\/m=127
noncomputable def sWay (m:Nat)(h:Int):List Nat:=sPath m (SetTable.turns m) (SetTable.bits h%(m+1)) (SetTable.bits h)
noncomputable def sRch (m:Nat)(occ:List Nat)(h:Int)(j:Nat):Prop:=∃ pre post,sWay m h=pre++j::post /\ ∀ y∈pre,y∈occ
structure sTT (es:Array (Int×Value))(t:SetTable):Prop where
 mks:sMk t.mask
 up:Ris t.place
 du:t.dummies = #[]
 sz:t.place.size=es.size
 le:∀ j∈t.place.toList,j<=t.mask
 fl:es.size<=t.mask
 rc:∀ z∈t.place.toList.zip es.toList,sRch t.mask t.place.toList z.2.1 z.1
noncomputable def stO (es:Array (Int×Value))(ep:Nat)(t:SetTable):Obj:={cls:=.type "set",dict:=none,data:=.set es ep t,slots:= #[]}
noncomputable def SetAt (a:Addr)(xs:List (TK×Addr×Value))(h:Heap):Prop:=(xs.map (·.1)).Nodup /\ ∃ es ep t,h.get? a=some (stO es ep t)/\sTT es t/\t.tooFull=false/\(∀ e∈es.toList,∃ z∈xs,e=(z.1.hash,.ref z.2.1))/\(∀ z∈xs,(z.1.hash,Value.ref z.2.1)∈es.toList)/\es.size=xs.length
inductive D where
 | non | bl (b:Bool) | int (i:Int) | str (x:Str) | tup (xs:List D) | rol (xs:List D) | ref (n:Nat) | fn (x:Str)
inductive Ob where
 | lst (xs:List D) | dct (kvs:List (Key×D)) | dcT (kvs:List (TK×D)) | iset (xs:List Int) | dcF (kvs:List (TK×D)) | tst (ks:List TK)
noncomputable abbrev Sto:=List Ob
noncomputable abbrev Ev:=List (Option D)
noncomputable abbrev FE:=Ev->Sto->Option (D×Sto)
noncomputable abbrev FT:=Ev->Sto->Option (Bool×Sto)
noncomputable abbrev FA:=Ev->Sto->Option (List D×Sto)
noncomputable abbrev FN:=List D->Sto->Option (D×Sto)
inductive Fl where
 | nx | rt (d:D) | bk | ct
noncomputable abbrev FS:=Ev->Sto->Option (Fl×Ev×Sto)
noncomputable def RoL (K:Fg1)(H:Hp)(a:Addr)(xs:List V):Prop:=(∃ o,H a=some (.frz o (.lst xs))) \/
 ∃ (o:Obj) (its:Array Value) (n:Nat),K.lookup a=some o/\o.cls = .type "list"/\o.dict=none/\o.data = .seq its n/\its.size<=sizeLine/\Vals xs its.toList
theorem RoL.sq {K:Fg1}{H:Hp}{a:Addr}{xs:List V}(h:RoL K H a xs):SqL K H a xs:=h.elim (fun ⟨o,q⟩=>.inl (.inr ⟨o,q⟩)) .inr
mutual
inductive Rep (K:Fg1)(H:Hp)(mu:List Addr):D->V->Prop
 | non:Rep K H mu .non .non
 | bl (b:Bool):Rep K H mu (.bl b) (.bl b)
 | int (i:Int):Rep K H mu (.int i) (.int i)
 | str (x:Str):Rep K H mu (.str x) (.str x)
 | tup {ds:List D} {vs:List V} {a:Addr} (h:SqT K H a vs) (r:Reps K H mu ds vs):Rep K H mu (.tup ds) (.ref a)
 | rol {ds:List D} {vs:List V} {a:Addr} (h:RoL K H a vs) (r:Reps K H mu ds vs):Rep K H mu (.rol ds) (.ref a)
 | ref {n:Nat} {a:Addr} (h:mu[n]? = some a):Rep K H mu (.ref n) (.ref a)
 | fn {x:Str} {a:Addr} (h:wN1 K mainGlobals x=some (some (.ref a))):Rep K H mu (.fn x) (.ref a)
inductive Reps (K:Fg1)(H:Hp)(mu:List Addr):List D->List V->Prop
 | nil:Reps K H mu [] []
 | cons {d:D} {v:V} {ds:List D} {vs:List V} (r:Rep K H mu d v) (t:Reps K H mu ds vs):Reps K H mu (d::ds) (v::vs)
end
structure Ext (mu mu':List Addr)(H H':Hp):Prop where
 pre:mu <+: mu'
 old:∀ a o,H a=some o->a∉mu->H' a=some o
 tup:∀ a xs,Rd H a (.tup xs)->Rd H' a (.tup xs)
 frz:∀ a o u,H a=some (.frz o u)->H' a=some (.frz o u)
 new:∀ a∈mu',a∈mu\/H a=none
theorem Ext.refl (mu:List Addr)(H:Hp):Ext mu mu H H:=⟨List.prefix_rfl,fun _ _ h _=>h,fun _ _ h=>h,fun _ _ _ h=>h,fun _ h=>.inl h⟩
theorem Ext.trans {mu m1 m2:List Addr}{H H1 H2:Hp}(a:Ext mu m1 H H1)(b:Ext m1 m2 H1 H2):Ext mu m2 H H2 where
 pre:=a.pre.trans b.pre
 old:=fun c o h n=>b.old c o (a.old c o h n) fun z=>by
  rcases a.new c z with q | q
  ·exact n q
  ·rw [h] at q;cases q
 tup:=fun c xs h=>b.tup c xs (a.tup c xs h)
 frz:=fun c o u h=>b.frz c o u (a.frz c o u h)
 new:=fun c h=>by
  rcases b.new c h with q | q
  ·exact a.new c q
  ·by_cases z:c∈mu
   ·exact .inl z
   ·right;cases e:H c with
    | none=>rfl
    | some o=>rw [a.old c o e z] at q;cases q
theorem Ext.at {mu mu':List Addr}{H H':Hp}(e:Ext mu mu' H H'){n:Nat}{a:Addr}(h:mu[n]? = some a):mu'[n]? = some a:=by
 obtain ⟨t,rfl⟩:=e.pre;have hl:n<mu.length:=(gE1.mp h).1;rw [gL1 hl];exact h
theorem Ext.back {mu mu':List Addr}{H H':Hp}(e:Ext mu mu' H H'):Ext mu mu H H':=⟨List.prefix_rfl,e.old,e.tup,e.frz,fun _ h=>.inl h⟩
structure Exw (mu mu':List Addr)(H H':Hp):Prop where
 pre:mu <+: mu'
 tup:∀ a xs,Rd H a (.tup xs)->Rd H' a (.tup xs)
 frz:∀ a o u,H a=some (.frz o u)->H' a=some (.frz o u)
theorem Ext.w {mu mu':List Addr}{H H':Hp}(e:Ext mu mu' H H'):Exw mu mu' H H':=⟨e.pre,e.tup,e.frz⟩
theorem Exw.trans {mu m1 m2:List Addr}{H H1 H2:Hp}(a:Exw mu m1 H H1)(b:Exw m1 m2 H1 H2):Exw mu m2 H H2:=⟨a.pre.trans b.pre,fun c xs h=>b.tup c xs (a.tup c xs h),fun c o u h=>b.frz c o u (a.frz c o u h)⟩
theorem Exw.at {mu mu':List Addr}{H H':Hp}(e:Exw mu mu' H H'){n:Nat}{a:Addr}(h:mu[n]? = some a):mu'[n]? = some a:=by
 obtain ⟨t,rfl⟩:=e.pre;have hl:n<mu.length:=(gE1.mp h).1;rw [gL1 hl];exact h
structure Exv (mu mu':List Addr)(H H':Hp):Prop where
 pre:mu <+: mu'
 tup:∀ a xs,Rd H a (.tup xs)->Rd H' a (.tup xs)
 frl:∀ a o xs,H a=some (.frz o (.lst xs))->H' a=some (.frz o (.lst xs))
theorem Exw.v {mu mu':List Addr}{H H':Hp}(e:Exw mu mu' H H'):Exv mu mu' H H':=⟨e.pre,e.tup,fun a o xs h=>e.frz a o _ h⟩
theorem Ext.v {mu mu':List Addr}{H H':Hp}(e:Ext mu mu' H H'):Exv mu mu' H H':=e.w.v
theorem Exv.at {mu mu':List Addr}{H H':Hp}(e:Exv mu mu' H H'){n:Nat}{a:Addr}(h:mu[n]? = some a):mu'[n]? = some a:=by
 obtain ⟨t,rfl⟩:=e.pre;have hl:n<mu.length:=(gE1.mp h).1;rw [gL1 hl];exact h
theorem SqT.exv {K:Fg1}{mu mu':List Addr}{H H':Hp}{a:Addr}{vs:List V}(e:Exv mu mu' H H')(h:SqT K H a vs):SqT K H' a vs:=by
 rcases h with h | h
 ·exact .inl (e.tup a vs h)
 ·exact .inr h
theorem RoL.exv {K:Fg1}{mu mu':List Addr}{H H':Hp}{a:Addr}{vs:List V}(e:Exv mu mu' H H')(h:RoL K H a vs):RoL K H' a vs:=by
 rcases h with ⟨o,h⟩ | h
 ·exact .inl ⟨o,e.frl a o _ h⟩
 ·exact .inr h
theorem Rep.exv {K:Fg1}{mu mu':List Addr}{H H':Hp}(e:Exv mu mu' H H'):∀ {d:D} {v:V},Rep K H mu d v->Rep K H' mu' d v:=fun h=>h.rec (motive_1:=fun d v _=>Rep K H' mu' d v) (motive_2:=fun ds vs _=>Reps K H' mu' ds vs)
  .non .bl .int .str (fun h _ ih=>.tup (SqT.exv e h) ih) (fun h _ ih=>.rol (RoL.exv e h) ih) (fun h=>.ref (e.at h)) (fun h=>.fn h) .nil (fun _ _ a b=>.cons a b)
theorem Reps.ind {K:Fg1}{mu:List Addr}{H:Hp}{P:(ds:List D)->(vs:List V)->Reps K H mu ds vs->Prop}(hn:P [] [] .nil)(hc:∀ {d v ds vs} (r:Rep K H mu d v) (t:Reps K H mu ds vs),P ds vs t->P (d::ds) (v::vs) (.cons r t)){ds:List D}{vs:List V}(h:Reps K H mu ds vs):P ds vs h:=
 h.rec (motive_1:=fun _ _ _=>True) (motive_2:=P) trivial (fun _=>trivial) (fun _=>trivial) (fun _=>trivial) (fun _ _ _=>trivial) (fun _ _ _=>trivial) (fun _=>trivial) (fun _=>trivial) hn (fun r t _ ih=>hc r t ih)
theorem Reps.exv {K:Fg1}{mu mu':List Addr}{H H':Hp}(e:Exv mu mu' H H'):∀ {ds:List D} {vs:List V},Reps K H mu ds vs->Reps K H' mu' ds vs:=fun h=>h.ind (P:=fun ds vs _=>Reps K H' mu' ds vs) .nil fun r _ ih=>.cons (Rep.exv e r) ih
section
variable {K:Fg1} {mu mu':List Addr} {H H':Hp} {a:Addr} {vs:List V}
theorem Rep.exw (e:Exw mu mu' H H'){d:D}{v:V}(h:Rep K H mu d v):Rep K H' mu' d v:=h.exv e.v
theorem Reps.exw (e:Exw mu mu' H H'){ds:List D}(h:Reps K H mu ds vs):Reps K H' mu' ds vs:=h.exv e.v
theorem Rep.ext (e:Ext mu mu' H H'){d:D}{v:V}(h:Rep K H mu d v):Rep K H' mu' d v:=h.exv e.v
theorem Reps.ext (e:Ext mu mu' H H'){ds:List D}(h:Reps K H mu ds vs):Reps K H' mu' ds vs:=h.exv e.v
end
section
variable {K:Fg1} {H:Hp} {mu:List Addr}
theorem Reps.length:∀ {ds:List D} {vs:List V},Reps K H mu ds vs->ds.length=vs.length:=fun h=>h.ind (P:=fun ds vs _=>ds.length=vs.length) rfl fun _ _ ih=>congrArg (· + 1) ih
theorem Reps.get:∀ {ds:List D} {vs:List V} {i:Nat} {d:D},Reps K H mu ds vs->ds[i]? = some d -> ∃ v,vs[i]? = some v/\Rep K H mu d v:=by
 intro ds vs i d h e
 induction h using Reps.ind generalizing i with
 | hn=>cases e
 | hc r t ih=>cases i with
  | zero=>cases e;exact ⟨_,rfl,r⟩
  | succ i=>exact ih (i:=i) e
theorem Reps.getV:∀ {ds:List D} {vs:List V} {i:Nat} {v:V},Reps K H mu ds vs->vs[i]? = some v -> ∃ d,ds[i]? = some d/\Rep K H mu d v:=by
 intro ds vs i d h e
 induction h using Reps.ind generalizing i with
 | hn=>cases e
 | hc r t ih=>cases i with
  | zero=>cases e;exact ⟨_,rfl,r⟩
  | succ i=>exact ih (i:=i) e
theorem Reps.append:∀ {ds es:List D} {vs ws:List V},Reps K H mu ds vs->Reps K H mu es ws->Reps K H mu (ds++es) (vs++ws):=fun h s=>h.ind (P:=fun ds vs _=>Reps K H mu (ds++_) (vs++_)) s fun r _ ih=>.cons r ih
theorem Reps.take:∀ {ds:List D} {vs:List V} (n:Nat),Reps K H mu ds vs->Reps K H mu (ds.take n) (vs.take n):=by
 intro ds vs n h
 induction h using Reps.ind generalizing n with
 | hn=>rw [List.take_nil,List.take_nil];exact .nil
 | hc r t ih=>cases n with
  | zero=>exact .nil
  | succ n=>exact .cons r (ih n)
theorem Reps.drop:∀ {ds:List D} {vs:List V} (n:Nat),Reps K H mu ds vs->Reps K H mu (ds.drop n) (vs.drop n):=by
 intro ds vs n h
 induction h using Reps.ind generalizing n with
 | hn=>rw [List.drop_nil,List.drop_nil];exact .nil
 | hc r t ih=>cases n with
  | zero=>exact .cons r t
  | succ n=>exact ih n
theorem Reps.set {d:D}{v:V}(r:Rep K H mu d v):∀ {ds:List D} {vs:List V} (i:Nat),Reps K H mu ds vs->Reps K H mu (ds.set i d) (vs.set i v):=by
 intro ds vs i h
 induction h using Reps.ind generalizing i with
 | hn=>exact .nil
 | hc q t ih=>cases i with
  | zero=>exact .cons r t
  | succ i=>exact .cons q (ih i)
theorem Reps.reverse:∀ {ds:List D} {vs:List V},Reps K H mu ds vs->Reps K H mu ds.reverse vs.reverse:=by
 intro ds vs h
 induction h using Reps.ind with
 | hn=>exact .nil
 | hc r t ih=>rw [List.reverse_cons,List.reverse_cons];exact Reps.append ih (.cons r .nil)
end
noncomputable def KR {κ:Type}(K:Fg1)(H:Hp)(mu:List Addr):List (κ×D)->List (κ×V)->Prop:=Paired fun p q=>p.1=q.1/\Rep K H mu p.2 q.2
mutual
noncomputable def tkD:TK->D
 | .non=>.non
 | .int i=>.int i
 | .tup xs=>.tup (tkDs xs)
noncomputable def tkDs:List TK->List D
 | []=>[]
 | x::xs=>tkD x::tkDs xs
end
noncomputable def DictAt (a:Addr)(xs:List (TK×Addr×Value))(h:Heap):Prop:=(a == sysModules)=false/\(xs.map (·.1)).Nodup /\ ∃ o es ep,h.get? a=some o/\o.ExactDict/\o.data = .dict es ep/\es.toList=xs.map fun x=>(⟨x.1.hash,.ref x.2.1,x.2.2⟩:DictEntry)
noncomputable def DictO (a:Addr)(xs:List (TK×Addr×Value))(o:Obj):Prop:=(a == sysModules)=false/\(xs.map (·.1)).Nodup/\o.ExactDict /\ ∃ es ep,o.data = .dict es ep/\es.toList=xs.map fun x=>(⟨x.1.hash,.ref x.2.1,x.2.2⟩:DictEntry)
noncomputable def KT (K:Fg1)(H:Hp)(mu:List Addr):List (TK×D)->List (TK×Addr×Value)->Prop:=Paired fun p q=>p.1=q.1/\p.1.dep<=8/\Rep K H mu (tkD p.1) (.ref q.2.1) /\ ∃ v,RelV v q.2.2/\Rep K H mu p.2 v
noncomputable def ObR (K:Fg1)(H:Hp)(mu:List Addr)(a:Addr):Ob->Prop
 | .lst ds=>∃ vs,H a=some (.lst vs)/\Reps K H mu ds vs
 | .dct kvs=>∃ ws,H a=some (.dK ws)/\KR K H mu kvs ws
 | .dcT kvs=>∃ xs,H a=some (.ext (DictAt a xs))/\KT K H mu kvs xs/\xs.length<=sizeLine
 | .iset xs=>H a=some (.set (fun k=>xs.contains k) xs.length)/\xs.Nodup
 | .dcF kvs=>∃ xs,(∃ o u,H a=some (.frz o u)/\DictO a xs o)/\KT K H mu kvs xs/\xs.length<=sizeLine
 | .tst ks=>∃ xs,H a=some (.ext (SetAt a xs))/\KT K H mu (ks.map fun k=>(k,D.non)) xs
structure Sim (K:Fg1)(H:Hp)(mu:List Addr)(S:Sto):Prop where
 len:mu.length=S.length
 nd:mu.Nodup
 ob:∀ (n:Nat) (o:Ob) (a:Addr),S[n]? = some o->mu[n]? = some a->ObR K H mu a o
structure EnvR (K:Fg1)(H:Hp)(mu:List Addr)(r:Ev)(σ:L2.St):Prop where
 len:r.length=σ.length
 val:∀ (i:Nat) (d:D),r[i]? = some (some d) -> ∃ v,σ[i]? = some (some v)/\Rep K H mu d v
theorem EnvR.ext {K:Fg1}{mu mu':List Addr}{H H':Hp}{r:Ev}{σ:L2.St}(e:Ext mu mu' H H')(h:EnvR K H mu r σ):EnvR K H' mu' r σ:=⟨h.len,fun i d q=>by
 obtain ⟨v,e1,r1⟩:=h.val i d q;exact ⟨v,e1,r1.ext e⟩⟩
theorem KR.ext {κ:Type}{K:Fg1}{mu mu':List Addr}{H H':Hp}{ks:List (κ×D)}{ws:List (κ×V)}(e:Ext mu mu' H H')(h:KR K H mu ks ws):KR K H' mu' ks ws:=
 Paired.mapP h fun _ _ z=>⟨z.1,z.2.ext e⟩
theorem KT.ext {K:Fg1}{mu mu':List Addr}{H H':Hp}{ks:List (TK×D)}{ws:List (TK×Addr×Value)}(e:Ext mu mu' H H')(h:KT K H mu ks ws):KT K H' mu' ks ws:=
 Paired.mapP h fun _ _ ⟨z,d,k,v,rv,r⟩=>⟨z,d,k.ext e,v,rv,r.ext e⟩
theorem Sim.nil {K:Fg1}{H:Hp}:Sim K H [] []:=⟨rfl,List.nodup_nil,fun n o a h=>by simp at h⟩
theorem Sim.here {K:Fg1}{H:Hp}{mu:List Addr}{S:Sto}(s:Sim K H mu S){a:Addr}(h:a∈mu):∃ o,H a=some o:=by
 obtain ⟨n,hn⟩:=List.getElem?_of_mem h;have hl:n<S.length:=by rw [<- s.len];exact (gE1.mp hn).1
 have q:=s.ob n _ a (gG1 hl) hn;cases e:S[n] with
 | lst ds=>rw [e] at q;obtain ⟨vs,z,_⟩:=q;exact ⟨_,z⟩
 | dct ks=>rw [e] at q;obtain ⟨vs,z,_⟩:=q;exact ⟨_,z⟩
 | dcT ks=>rw [e] at q;obtain ⟨vs,z,_⟩:=q;exact ⟨_,z⟩
 | iset xs=>rw [e] at q;exact ⟨_,q.1⟩
 | dcF ks=>rw [e] at q;obtain ⟨vs,⟨_,_,z,_⟩,_⟩:=q;exact ⟨_,z⟩
 | tst ks=>rw [e] at q;obtain ⟨vs,z,_⟩:=q;exact ⟨_,z⟩
noncomputable def Cont (K:Fg1)(mu:List Addr)(H:Hp)(d:D)(S':Sto)(Q:VK):Prop:=∀ v H' mu',Ext mu mu' H H'->Rep K H' mu' d v->Sim K H' mu' S'->Q v H'
inductive tM (K:Fg1)(m:FE)(σ:L2.St)(H:Hp)(Q:VK):Prop
 | mk (r:Ev) (mu:List Addr) (S:Sto) (d:D) (S':Sto) (he:EnvR K H mu r σ) (hs:Sim K H mu S) (hm:m r S=some (d,S')) (hc:Cont K mu H d S' Q)
inductive tMT (K:Fg1)(m:FT)(σ:L2.St)(H:Hp)(Q:Bool->Hp->Prop):Prop
 | mk (r:Ev) (mu:List Addr) (S:Sto) (b:Bool) (S':Sto) (he:EnvR K H mu r σ) (hs:Sim K H mu S) (hm:m r S=some (b,S')) (hc:∀ H' mu',Ext mu mu' H H'->Sim K H' mu' S'->Q b H')
inductive tMA (K:Fg1)(m:FA)(σ:L2.St)(H:Hp)(Q:List V->Hp->Prop):Prop
 | mk (r:Ev) (mu:List Addr) (S:Sto) (ds:List D) (S':Sto) (he:EnvR K H mu r σ) (hs:Sim K H mu S) (hm:m r S=some (ds,S')) (hc:∀ vs H' mu',Ext mu mu' H H'->Reps K H' mu' ds vs->Sim K H' mu' S'->Q vs H')
noncomputable def tMSC (K:Fg1)(mu:List Addr)(H:Hp)(r':Ev)(S':Sto)(E:Ends)(f:Fl):Prop:=match f with
 | .nx=>∀ σ' H' mu',Ext mu mu' H H'->EnvR K H' mu' r' σ'->Sim K H' mu' S'->E.nx σ' H'
 | .bk=>∀ σ' H' mu',Ext mu mu' H H'->EnvR K H' mu' r' σ'->Sim K H' mu' S'->E.bk σ' H'
 | .ct=>∀ σ' H' mu',Ext mu mu' H H'->EnvR K H' mu' r' σ'->Sim K H' mu' S'->E.ct σ' H'
 | .rt d=>Cont K mu H d S' E.rt
inductive tMS (K:Fg1)(m:FS)(E:Ends)(σ:L2.St)(H:Hp):Prop
 | mk (r:Ev) (mu:List Addr) (S:Sto) (f:Fl) (r':Ev) (S':Sto) (he:EnvR K H mu r σ) (hs:Sim K H mu S) (hm:m r S=some (f,r',S')) (hc:tMSC K mu H r' S' E f)
inductive rN (K:Fg1)(f:FN)(vs:List V)(H:Hp)(Q:VK):Prop
 | mk (mu:List Addr) (S:Sto) (ds:List D) (d:D) (S':Sto) (hr:Reps K H mu ds vs) (hs:Sim K H mu S) (hm:f ds S=some (d,S')) (hc:Cont K mu H d S' Q)
noncomputable abbrev ME (X:Cx)(e:Expr)(m:FE):Prop:=PE X e (tM X.K m)
noncomputable abbrev MT (X:Cx)(e:Expr)(m:FT):Prop:=PT X e (tMT X.K m)
noncomputable abbrev MW (X:Cx)(e:Expr)(m:FT):Prop:=PW X e (tMT X.K m)
noncomputable abbrev MA (X:Cx)(es:List Expr)(m:FA):Prop:=PA X es (tMA X.K m)
noncomputable abbrev MS (X:Cx)(st:Stmt)(m:FS):Prop:=PS X st (tMS X.K m)
noncomputable abbrev MSs (X:Cx)(st:List Stmt)(m:FS):Prop:=PSs X st (tMS X.K m)
section
variable {X:Cx} {e:Expr} {es:List Expr} {st:Stmt} {sts:List Stmt}
theorem pe_imp {t t':TE}(h:PE X e t)(i:∀ σ H Q,t' σ H Q->t σ H Q):PE X e t':=fun pins s σ H Q I q=>h pins s σ H Q I (i σ H Q q)
theorem pt_imp {t t':TT}(h:PT X e t)(i:∀ σ H Q,t' σ H Q->t σ H Q):PT X e t':=fun pins s σ H Q I q=>h pins s σ H Q I (i σ H Q q)
theorem pw_imp {t t':TT}(h:PW X e t)(i:∀ σ H Q,t' σ H Q->t σ H Q):PW X e t':=fun wh pins s σ H Q I q=>h wh pins s σ H Q I (i σ H Q q)
theorem pa_imp {t t':TA}(h:PA X es t)(i:∀ σ H Q,t' σ H Q->t σ H Q):PA X es t':=fun pos pins s σ H Q I q=>h pos pins s σ H Q I (i σ H Q q)
theorem ps_imp {t t':TS}(h:PS X st t)(i:∀ E σ H,t' E σ H->t E σ H):PS X st t':=fun pins s σ H E I q=>h pins s σ H E I (i E σ H q)
theorem pss_imp {t t':TS}(h:PSs X sts t)(i:∀ E σ H,t' E σ H->t E σ H):PSs X sts t':=fun pins s σ H E I q=>h pins s σ H E I (i E σ H q)
end
noncomputable def mV (i:Nat):FE:=fun r S=>match r[i]? with
 | some (some d)=>some (d,S)
 | _=>none
noncomputable def mC (d:D):FE:=fun _ S=>some (d,S)
section
variable {X:Cx} {pos:Pos}
theorem me_var (i:Nat){x:Str}(hN:X.N[i]? = some x)(hv:Vis X.env.scope x)(hd:(x == ("__debug__":Str))=false:=by decide)(hcd:(x == ("__classdict__":Str))=false:=by decide):ME X (.Name x pos) (mV i):=
 pe_imp (pe_var hN hv hd hcd) <| by
  rintro σ H Q ⟨r,mu,S,d,S',he,hs,hm,hc⟩;unfold mV at hm;split at hm
  ·rename_i d' e;cases hm;obtain ⟨v,e1,r1⟩:=he.val i _ e;exact ⟨v,e1,hc v H mu (.refl _ _) r1 hs⟩
  ·cases hm
theorem me_c {e:Expr}{v:V}(d:D)(h:PE X e (tC v))(hr:∀ H mu,Rep X.K H mu d v):ME X e (mC d):=
 pe_imp h <| by
  rintro σ H Q ⟨r,mu,S,d',S',he,hs,hm,hc⟩;cases hm;exact hc v H mu (.refl _ _) (hr H mu) hs
theorem me_int {i:Int}{j}:ME X (.Constant (.int i) j pos) (mC (.int i)):=me_c _ pe_int fun _ _=>.int i
theorem me_bl {b:Bool}{j}:ME X (.Constant (.bool b) j pos) (mC (.bl b)):=me_c _ pe_bl fun _ _=>.bl b
theorem me_non {j}:ME X (.Constant .none j pos) (mC .non):=me_c _ pe_non fun _ _=>.non
theorem me_str {x:Str}{j}:ME X (.Constant (.str x) j pos) (mC (.str x)):=me_c _ pe_str fun _ _=>.str x
end
noncomputable def mNil:FA:=fun _ S=>some ([],S)
noncomputable def mCons (m:FE)(n:FA):FA:=fun r S=>(m r S).bind fun p=>(n r p.2).bind fun q=>some (p.1::q.1,q.2)
section
variable {X:Cx} {pos:Pos} {e:Expr} {es:List Expr} {m:FE} {n:FA}
theorem ma_nil:MA X [] mNil:=pa_imp pa_nil <| by
 rintro σ H Q ⟨r,mu,S,ds,S',he,hs,hm,hc⟩;cases hm;exact hc [] H mu (.refl _ _) .nil hs
theorem ma_cons (h:ME X e m)(ht:MA X es n)(hs:starEach (e::es) X.env=(false,eval e X.env)::starEach es X.env:=by rfl):MA X (e::es) (mCons m n):=
 pa_imp (pa_cons h ht hs) <| by
  rintro σ H Q ⟨r,mu,S,ds,S',he,hs,hm,hc⟩;unfold mCons at hm;obtain ⟨⟨d,S1⟩,e1,hm⟩:=oB1.mp hm;obtain ⟨⟨ds1,S2⟩,e2,hm⟩:=oB1.mp hm;cases hm;refine ⟨r,mu,S,d,S1,he,hs,e1,fun v H1 mu1 x1 r1 s1=>?_⟩;refine ⟨r,mu1,S1,ds1,_,he.ext x1,s1,e2,fun vs H2 mu2 x2 r2 s2=>?_⟩;exact hc _ H2 mu2 (x1.trans x2) (.cons (r1.ext x2) r2) s2
end
noncomputable def m2 (f:FN)(a b:FE):FE:=fun r S=>(a r S).bind fun p=>(b r p.2).bind fun q=>f [p.1,q.1] q.2
noncomputable def m1 (f:FN)(a:FE):FE:=fun r S=>(a r S).bind fun p=>f [p.1] p.2
noncomputable def mN (f:FN)(a:FA):FE:=fun r S=>(a r S).bind fun p=>f p.1 p.2
noncomputable abbrev r2 (K:Fg1)(f:FN):R2:=fun x y H Q=>rN K f [x,y] H Q
section
variable {X:Cx} {K:Fg1} {f:FN} {a b:FE} {σ:L2.St} {H:Hp} {Q:VK}
theorem m2_ok (h:tM K (m2 f a b) σ H Q):tOp (r2 K f) (tM K a) (tM K b) σ H Q:=by
 obtain ⟨r,mu,S,d,S',he,hs,hm,hc⟩:=h;obtain ⟨⟨d1,S1⟩,e1,hm⟩:=oB1.mp hm;obtain ⟨⟨d2,S2⟩,e2,hm⟩:=oB1.mp hm;refine ⟨r,mu,S,d1,S1,he,hs,e1,fun v H1 mu1 x1 r1 s1=>?_⟩;refine ⟨r,mu1,S1,d2,S2,he.ext x1,s1,e2,fun u H2 mu2 x2 r2 s2=>?_⟩;exact ⟨mu2,S2,[d1,d2],d,S',.cons (r1.ext x2) (.cons r2 .nil),s2,hm,fun v H3 mu3 x3 r3 s3=>hc v H3 mu3 ((x1.trans x2).trans x3) r3 s3⟩
theorem m1_ok (h:tM K (m1 f a) σ H Q):tUn (fun x H Q=>rN K f [x] H Q) (tM K a) σ H Q:=by
 obtain ⟨r,mu,S,d,S',he,hs,hm,hc⟩:=h;obtain ⟨⟨d1,S1⟩,e1,hm⟩:=oB1.mp hm;refine ⟨r,mu,S,d1,S1,he,hs,e1,fun v H1 mu1 x1 r1 s1=>?_⟩;exact ⟨mu1,S1,[d1],d,S',.cons r1 .nil,s1,hm,fun v H3 mu3 x3 r3 s3=>hc v H3 mu3 (x1.trans x3) r3 s3⟩
theorem mN_ok {a:FA}(h:tM K (mN f a) σ H Q):tMA K a σ H fun vs H1=>rN K f vs H1 Q:=by
 obtain ⟨r,mu,S,d,S',he,hs,hm,hc⟩:=h;obtain ⟨⟨d1,S1⟩,e1,hm⟩:=oB1.mp hm;refine ⟨r,mu,S,d1,S1,he,hs,e1,fun v H1 mu1 x1 r1 s1=>?_⟩;exact ⟨mu1,S1,d1,d,S',r1,s1,hm,fun v H3 mu3 x3 r3 s3=>hc v H3 mu3 (x1.trans x3) r3 s3⟩
theorem me_op {op:Operator}{x y:Expr}{pos:Pos}(ho:OpR X (binaryOp op) (r2 X.K f))(hx:ME X x a)(hy:ME X y b):ME X (.BinOp x op y pos) (m2 f a b):=pe_imp (pe_op ho hx hy) fun _ _ _=>m2_ok
theorem me_un {op:UnaryOp}{x:Expr}{pos:Pos}(ho:UnR X (unaryOp op) (fun x H Q=>rN X.K f [x] H Q))(hx:ME X x a):ME X (.UnaryOp op x pos) (m1 f a):=pe_imp (pe_un ho hx) fun _ _ _=>m1_ok
theorem me_cmp {op:CmpOp}{x y:Expr}{pos:Pos}(ho:OpR X (compareOp op) (r2 X.K f))(hx:ME X x a)(hy:ME X y b)(hm:behindInMarks op y=false):ME X (.Compare x [op] [y] pos) (m2 f a b):=pe_imp (pe_cmpR ho hx hy hm) fun _ _ _=>m2_ok
theorem me_ix {x y:Expr}{pos:Pos}(ho:IxR X (r2 X.K f))(hx:ME X x a)(hy:ME X y b)(hs:PlainIx y):ME X (.Subscript x y pos) (m2 f a b):=pe_imp (pe_ix ho hx hy hs) fun _ _ _=>m2_ok
theorem me_callB {x:Str}{p pos:Pos}{e:Expr}{es:List Expr}{id:String}{a:FA}(hc:CallR X (.builtin id) (rN X.K f))(hg:Gl X x)(hm:X.mg x=none)(hv:bootBuiltins x=some (.builtin id))(ha:MA X (e::es) a)(hn:x≠"__name__":=by decide)(hdb:(x == ("__debug__":Str))=false:=by decide)
  (he:starEach (e::es) X.env=(false,eval e X.env)::starEach es X.env:=by rfl) (hpl:(backTo pos (starEach es X.env)).any (·.1)=false:=by rfl):ME X (.Call (.Name x p) (e::es) [] pos) (mN f a):=
 pe_imp (pe_callB hc hg hm hv ha hn hdb he hpl) fun _ _ _=>mN_ok
theorem me_callTy {x:Str}{p pos:Pos}{e:Expr}{es:List Expr}{T:String}{a:FA}(hc:CallR X (.type T) (rN X.K f))(hg:Gl X x)(hm:X.mg x=none)(hv:bootBuiltins x=some (.type T))(ha:MA X (e::es) a)(hn:x≠"__name__":=by decide)(hdb:(x == ("__debug__":Str))=false:=by decide)
  (he:starEach (e::es) X.env=(false,eval e X.env)::starEach es X.env:=by rfl) (hpl:(backTo pos (starEach es X.env)).any (·.1)=false:=by rfl):ME X (.Call (.Name x p) (e::es) [] pos) (mN f a):=
 pe_imp (pe_callTy hc hg hm hv ha hn hdb he hpl) fun _ _ _=>mN_ok
end
noncomputable def mB (m:FE):FT:=fun r S=>(m r S).bind fun p=>match p.1 with
 | .bl b=>some (b,p.2)
 | _=>none
theorem mB_ok {K:Fg1}{m:FE}{σ:L2.St}{H:Hp}{Q:Bool->Hp->Prop}(h:tMT K (mB m) σ H Q):tB (tM K m) σ H Q:=by
 obtain ⟨r,mu,S,b,S',he,hs,hm,hc⟩:=h;obtain ⟨⟨d1,S1⟩,e1,hm⟩:=oB1.mp hm;cases d1 with
 | bl k=>
  cases hm;refine ⟨r,mu,S,_,_,he,hs,e1,fun v H1 mu1 x1 r1 s1=>?_⟩;cases r1;exact ⟨_,rfl,hc H1 mu1 x1 s1⟩
 | _=>cases hm
noncomputable def mAnd (a b:FT):FT:=fun r S=>(a r S).bind fun p=>if p.1=true then b r p.2 else some (false,p.2)
noncomputable def mOr (a b:FT):FT:=fun r S=>(a r S).bind fun p=>if p.1=true then some (true,p.2) else b r p.2
noncomputable def mNot (a:FT):FT:=fun r S=>(a r S).bind fun p=>some (!p.1,p.2)
noncomputable def mAndV (a b:FE):FE:=fun r S=>(a r S).bind fun p=>match p.1 with
 | .bl c=>if c=true then b r p.2 else some (.bl false,p.2)
 | _=>none
noncomputable def mOrV (a b:FE):FE:=fun r S=>(a r S).bind fun p=>match p.1 with
 | .bl c=>if c=true then some (.bl true,p.2) else b r p.2
 | _=>none
noncomputable def mNotV (a:FE):FE:=fun r S=>(a r S).bind fun p=>match p.1 with
 | .bl c=>some (.bl (!c),p.2)
 | _=>none
noncomputable def mIf (c:FT)(a b:FE):FE:=fun r S=>(c r S).bind fun p=>if p.1=true then a r p.2 else b r p.2
section
variable {X:Cx} {x y c:Expr} {rest:List Expr} {pos:Pos} {a b:FT} {f g:FE}
theorem mt_cmp {op:CmpOp}{f:FN}{a b:FE}(ho:OpR X (compareOp op) (r2 X.K f))(hx:ME X x a)(hy:ME X y b)(hm:behindInMarks op y=false):MT X (.Compare x [op] [y] pos) (mB (m2 f a b)):=
 pt_imp (pt_cmpR ho hx hy hm) fun σ H Q h=>by
  obtain ⟨r,mu,S,d,S',he,hs,hm,hc⟩:=mB_ok h;exact m2_ok ⟨r,mu,S,d,S',he,hs,hm,fun v H' mu' x1 r1 s1=>hc v H' mu' x1 r1 s1⟩
theorem mw_and1 (ha:MT X x a):MW X (.BoolOp .And [x] pos) a:=pw_and1 ha
theorem mw_or1 (ha:MT X x a):MW X (.BoolOp .Or [x] pos) a:=pw_or1 ha
theorem mw_and (ha:MT X x a)(hb:MW X (.BoolOp .And (y::rest) pos) b):MW X (.BoolOp .And (x::y::rest) pos) (mAnd a b):=
 pw_imp (pw_and ha hb) <| by
  rintro σ H Q ⟨r,mu,S,k,S',he,hs,hm,hc⟩;obtain ⟨⟨b1,S1⟩,e1,hm⟩:=oB1.mp hm;refine ⟨r,mu,S,b1,S1,he,hs,e1,fun H1 mu1 x1 s1=>?_⟩;cases b1 with
  | true=>exact ⟨r,mu1,S1,k,S',he.ext x1,s1,hm,fun H2 mu2 x2 s2=>hc H2 mu2 (x1.trans x2) s2⟩
  | false=>cases hm;exact hc H1 mu1 x1 s1
theorem mw_or (ha:MT X x a)(hb:MW X (.BoolOp .Or (y::rest) pos) b):MW X (.BoolOp .Or (x::y::rest) pos) (mOr a b):=
 pw_imp (pw_or ha hb) <| by
  rintro σ H Q ⟨r,mu,S,k,S',he,hs,hm,hc⟩;obtain ⟨⟨b1,S1⟩,e1,hm⟩:=oB1.mp hm;refine ⟨r,mu,S,b1,S1,he,hs,e1,fun H1 mu1 x1 s1=>?_⟩;cases b1 with
  | false=>exact ⟨r,mu1,S1,k,S',he.ext x1,s1,hm,fun H2 mu2 x2 s2=>hc H2 mu2 (x1.trans x2) s2⟩
  | true=>cases hm;exact hc H1 mu1 x1 s1
theorem mt_w (h:MW X x a):MT X x a:=PW.pt h
theorem mt_not (ha:MT X x a):MT X (.UnaryOp .Not x pos) (mNot a):=
 pt_imp (pt_not ha) <| by
  rintro σ H Q ⟨r,mu,S,k,S',he,hs,hm,hc⟩;obtain ⟨⟨b1,S1⟩,e1,hm⟩:=oB1.mp hm;cases hm;exact ⟨r,mu,S,b1,S1,he,hs,e1,fun H1 mu1 x1 s1=>hc H1 mu1 x1 s1⟩
theorem me_one {op}(h:ME X x f):ME X (.BoolOp op [x] pos) f:=pe_one h
theorem me_and (ha:ME X x f)(hb:ME X (.BoolOp .And (y::rest) pos) g):ME X (.BoolOp .And (x::y::rest) pos) (mAndV f g):=
 pe_imp (pe_and ha hb) <| by
  rintro σ H Q ⟨r,mu,S,k,S',he,hs,hm,hc⟩;obtain ⟨⟨d1,S1⟩,e1,hm⟩:=oB1.mp hm;refine ⟨r,mu,S,d1,S1,he,hs,e1,fun v H1 mu1 x1 r1 s1=>?_⟩;cases d1 with
  | bl b1=>
   cases r1;refine ⟨b1,rfl,?_⟩;cases b1 with
   | true=>exact ⟨r,mu1,S1,k,S',he.ext x1,s1,hm,fun v2 H2 mu2 x2 r2 s2=>hc v2 H2 mu2 (x1.trans x2) r2 s2⟩
   | false=>cases hm;exact hc _ H1 mu1 x1 (.bl false) s1
  | _=>cases hm
theorem me_not (ha:ME X x f):ME X (.UnaryOp .Not x pos) (mNotV f):=
 pe_imp (pe_not ha) <| by
  rintro σ H Q ⟨r,mu,S,k,S',he,hs,hm,hc⟩;obtain ⟨⟨d1,S1⟩,e1,hm⟩:=oB1.mp hm;refine ⟨r,mu,S,d1,S1,he,hs,e1,fun v H1 mu1 x1 r1 s1=>?_⟩;cases d1 with
  | bl b1=>
   cases r1;cases hm;exact ⟨b1,rfl,hc _ H1 mu1 x1 (.bl _) s1⟩
  | _=>cases hm
theorem me_if (hc:MT X c a)(hx:ME X x f)(hy:ME X y g):ME X (.IfExp c x y pos) (mIf a f g):=
 pe_imp (pe_ifExp hc hx hy) <| by
  rintro σ H Q ⟨r,mu,S,k,S',he,hs,hm,hc⟩;obtain ⟨⟨b1,S1⟩,e1,hm⟩:=oB1.mp hm;refine ⟨r,mu,S,b1,S1,he,hs,e1,fun H1 mu1 x1 s1=>?_⟩;cases b1 with
  | true=>exact ⟨r,mu1,S1,k,S',he.ext x1,s1,hm,fun v2 H2 mu2 x2 r2 s2=>hc v2 H2 mu2 (x1.trans x2) r2 s2⟩
  | false=>exact ⟨r,mu1,S1,k,S',he.ext x1,s1,hm,fun v2 H2 mu2 x2 r2 s2=>hc v2 H2 mu2 (x1.trans x2) r2 s2⟩
end
noncomputable def mCh (f g:FN)(a b c:FE):FE:=fun r S=>(a r S).bind fun p=>(b r p.2).bind fun q=>(f [p.1,q.1] q.2).bind fun t=>match t.1 with
 | .bl k=>if k=true then (c r t.2).bind fun z=>g [q.1,z.1] z.2 else some (.bl false,t.2)
 | _=>none
section
variable {X:Cx} {x y z:Expr} {pos:Pos} {f g:FN} {a b c:FE} {op op':CmpOp}
theorem mCh_ok {K:Fg1}{σ:L2.St}{H:Hp}{Q:VK}(h:tM K (mCh f g a b c) σ H Q):tChain (r2 K f) (r2 K g) (tM K a) (tM K b) (tM K c) σ H Q:=by
 obtain ⟨r,mu,S,d,S',he,hs,hm,hc⟩:=h;obtain ⟨⟨d1,S1⟩,e1,hm⟩:=oB1.mp hm;obtain ⟨⟨d2,S2⟩,e2,hm⟩:=oB1.mp hm;obtain ⟨⟨d3,S3⟩,e3,hm⟩:=oB1.mp hm;refine ⟨r,mu,S,d1,S1,he,hs,e1,fun v1 H1 mu1 x1 r1 s1=>?_⟩;refine ⟨r,mu1,S1,d2,S2,he.ext x1,s1,e2,fun v2 H2 mu2 x2 r2 s2=>?_⟩;refine ⟨mu2,S2,[d1,d2],d3,S3,.cons (r1.ext x2) (.cons r2 .nil),s2,e3,fun v3 H3 mu3 x3 r3 s3=>?_⟩;cases d3 with
 | bl k=>
  cases r3;refine ⟨k,rfl,?_⟩;cases k with
  | false=>cases hm;exact hc _ H3 mu3 ((x1.trans x2).trans x3) (.bl false) s3
  | true=>
   obtain ⟨⟨d4,S4⟩,e4,hm⟩:=oB1.mp hm;refine ⟨r,mu3,S3,d4,S4,he.ext ((x1.trans x2).trans x3),s3,e4,fun v4 H4 mu4 x4 r4 s4=>?_⟩;exact ⟨mu4,S4,[d2,d4],d,S',.cons ((r2.ext x3).ext x4) (.cons r4 .nil),s4,hm,fun v5 H5 mu5 x5 r5 s5=>hc v5 H5 mu5 ((((x1.trans x2).trans x3).trans x4).trans x5) r5 s5⟩
 | _=>cases hm
theorem me_chain (ho:OpR X (compareOp op) (r2 X.K f))(ho':OpR X (compareOp op') (r2 X.K g))(hx:ME X x a)(hy:ME X y b)(hz:ME X z c)(hm:lastMarks [op,op'] [y,z]=false:=by with_unfolding_all rfl):
  ME X (.Compare x [op,op'] [y,z] pos) (mCh f g a b c):=pe_imp (pe_chain ho ho' hx hy hz hm) fun _ _ _=>mCh_ok
end
mutual
noncomputable def D.und (n:Nat):D->Bool
 | .tup xs=>D.unds n xs
 | .rol xs=>D.unds n xs
 | .ref k=>decide (k<n)
 | .non=>true
 | .bl _=>true
 | .int _=>true
 | .str _=>true
 | .fn _=>true
noncomputable def D.unds (n:Nat):List D->Bool
 | []=>true
 | d::ds=>D.und n d&&D.unds n ds
end
noncomputable def D.sames (a b:List D):Bool:=@decide (a=b) (Classical.propDecidable _)
theorem D.sames_eq {a b:List D}(h:D.sames a b=true):a=b:=@of_decide_eq_true _ (Classical.propDecidable _) h
theorem D.sames_refl (a:List D):D.sames a a=true:=@decide_eq_true _ (Classical.propDecidable _) rfl
section
variable {K:Fg1} {H:Hp} {mu mu':List Addr}
theorem Rep.cut {n:Nat}(h:∀ k,k<n->mu[k]? = mu'[k]?):∀ {d:D} {v:V},Rep K H mu d v->d.und n=true->Rep K H mu' d v:=fun h0=>h0.rec (motive_1:=fun d v _=>d.und n=true->Rep K H mu' d v) (motive_2:=fun ds vs _=>D.unds n ds=true->Reps K H mu' ds vs)
  (fun _=>.non) (fun b _=>.bl b) (fun i _=>.int i) (fun x _=>.str x) (fun q _ ih e=>.tup q (ih (by rw [D.und] at e;exact e))) (fun q _ ih e=>.rol q (ih (by rw [D.und] at e;exact e)))
  (fun q e=>.ref (by rw [D.und] at e;rw [<- h _ (of_decide_eq_true e)];exact q)) (fun q _=>.fn q) (fun _=>.nil) (fun _ _ a b e=>by rw [D.unds,bA1] at e;exact .cons (a e.1) (b e.2))
theorem Reps.cut {n:Nat}(h:∀ k,k<n->mu[k]? = mu'[k]?):∀ {ds:List D} {vs:List V},Reps K H mu ds vs->D.unds n ds=true->Reps K H mu' ds vs:=fun h0=>h0.ind (P:=fun ds vs _=>D.unds n ds=true->Reps K H mu' ds vs) (fun _=>.nil) fun r _ b e=>by rw [D.unds,bA1] at e;exact .cons (Rep.cut h r e.1) (b e.2)
end
noncomputable def Ob.und (n:Nat):Ob->Bool
 | .lst xs=>D.unds n xs
 | .dct kvs=>D.unds n (kvs.map (·.2))
 | .dcT kvs=>D.unds n (kvs.map (·.2))
 | .iset _=>true
 | .dcF kvs=>D.unds n (kvs.map (·.2))
 | .tst _=>true
theorem KR.cut {κ:Type}{K:Fg1}{H:Hp}{mu mu':List Addr}{n:Nat}(h:∀ k,k<n->mu[k]? = mu'[k]?):∀ {ks:List (κ×D)} {ws:List (κ×V)},KR K H mu ks ws->D.unds n (ks.map (·.2))=true->KR K H mu' ks ws:=by
 intro ks ws h0 e
 induction h0 with
 | nil=>exact .nil
 | cons r t ih=>
  rw [mP1,D.unds,bA1] at e;exact .cons ⟨r.1,r.2.cut h e.1⟩ (ih e.2)
mutual
theorem tk_und (n:Nat):∀ k:TK,(tkD k).und n=true
 | .non=>rfl
 | .int _=>rfl
 | .tup xs=>by rw [tkD,D.und];exact tks_und n xs
theorem tks_und (n:Nat):∀ ks:List TK,D.unds n (tkDs ks)=true
 | []=>rfl
 | x::xs=>by rw [tkDs,D.unds,tk_und n x,tks_und n xs];rfl
end
theorem KT.cut {K:Fg1}{H:Hp}{mu mu':List Addr}{n:Nat}(h:∀ k,k<n->mu[k]? = mu'[k]?):∀ {ks:List (TK×D)} {ws:List (TK×Addr×Value)},KT K H mu ks ws->D.unds n (ks.map (·.2))=true->KT K H mu' ks ws:=by
 intro ks ws h0 e
 induction h0 with
 | nil=>exact .nil
 | cons r t ih=>
  rw [mP1,D.unds,bA1] at e;obtain ⟨z,d,k,v,rv,r⟩:=r;exact .cons ⟨z,d,k.cut h (tk_und n _),v,rv,r.cut h e.1⟩ (ih e.2)
theorem non_und (n:Nat):∀ ks:List TK,D.unds n ((ks.map fun k=>(k,D.non)).map (·.2))=true
 | []=>rfl
 | _::ks=>by rw [mP1,mP1,D.unds,non_und n ks];rfl
theorem ObR.cut {K:Fg1}{H:Hp}{mu mu':List Addr}{n:Nat}{a:Addr}(h:∀ k,k<n->mu[k]? = mu'[k]?):∀ {o:Ob},ObR K H mu a o->o.und n=true->ObR K H mu' a o
 | .lst _,⟨vs,e,r⟩,b=>⟨vs,e,r.cut h b⟩
 | .dct _,⟨ws,e,r⟩,b=>⟨ws,e,KR.cut h r b⟩
 | .dcT _,⟨ws,e,r,l⟩,b=>⟨ws,e,KT.cut h r b,l⟩
 | .iset _,q,_=>q
 | .dcF _,⟨ws,e,r,l⟩,b=>⟨ws,e,KT.cut h r b,l⟩
 | .tst ks,⟨ws,e,r⟩,_=>⟨ws,e,KT.cut h r (non_und n ks)⟩
noncomputable def gc (n:Nat)(p:D×Sto):D×Sto:=if p.1.und n&&(p.2.take n).all (Ob.und n) then (p.1,p.2.take n) else p
mutual
noncomputable def D.sh (n:Nat):D->D
 | .tup xs=>.tup (D.shs n xs)
 | .rol xs=>.rol (D.shs n xs)
 | .ref k=>.ref (n+k)
 | .fn x=>.fn x
 | .non=>.non
 | .bl b=>.bl b
 | .int i=>.int i
 | .str x=>.str x
noncomputable def D.shs (n:Nat):List D->List D
 | []=>[]
 | d::ds=>D.sh n d::D.shs n ds
end
noncomputable def Ob.sh (n:Nat):Ob->Ob
 | .lst xs=>.lst (D.shs n xs)
 | .dct kvs=>.dct (kvs.map fun p=>(p.1,p.2.sh n))
 | .dcT kvs=>.dcT (kvs.map fun p=>(p.1,p.2.sh n))
 | .iset xs=>.iset xs
 | .dcF kvs=>.dcF (kvs.map fun p=>(p.1,p.2.sh n))
 | .tst ks=>.tst ks
theorem Rep.sh {K:Fg1}{H:Hp}{mu mu':List Addr}:∀ {d:D} {v:V},Rep K H mu' d v->Rep K H (mu++mu') (d.sh mu.length) v:=fun h0=>h0.rec (motive_1:=fun d v _=>Rep K H (mu++mu') (d.sh mu.length) v) (motive_2:=fun ds vs _=>Reps K H (mu++mu') (D.shs mu.length ds) vs)
  .non .bl .int .str (fun h _ ih=>.tup h ih) (fun h _ ih=>.rol h ih) (fun h=>.ref (by rw [gR1 (Nat.le_add_right _ _),Nat.add_sub_cancel_left];exact h)) (fun h=>.fn h) .nil (fun _ _ a b=>.cons a b)
theorem Reps.sh {K:Fg1}{H:Hp}{mu mu':List Addr}:∀ {ds:List D} {vs:List V},Reps K H mu' ds vs->Reps K H (mu++mu') (D.shs mu.length ds) vs:=fun h=>h.ind (P:=fun ds vs _=>Reps K H (mu++mu') (D.shs mu.length ds) vs) .nil fun r _ ih=>.cons (Rep.sh r) ih
theorem KR.sh {κ:Type}{K:Fg1}{H:Hp}{mu mu':List Addr}:∀ {ks:List (κ×D)} {ws:List (κ×V)},KR K H mu' ks ws->KR K H (mu++mu') (ks.map fun p=>(p.1,p.2.sh mu.length)) ws:=by
 intro ks ws h
 induction h with
 | nil=>exact .nil
 | cons r t ih=>exact .cons ⟨r.1,r.2.sh⟩ ih
mutual
theorem tk_sh (n:Nat):∀ k:TK,(tkD k).sh n=tkD k
 | .non=>rfl
 | .int _=>rfl
 | .tup xs=>by rw [tkD,D.sh,tks_sh n xs]
theorem tks_sh (n:Nat):∀ ks:List TK,D.shs n (tkDs ks)=tkDs ks
 | []=>rfl
 | x::xs=>by rw [tkDs,D.shs,tk_sh n x,tks_sh n xs]
end
theorem KT.sh {K:Fg1}{H:Hp}{mu mu':List Addr}:∀ {ks:List (TK×D)} {ws:List (TK×Addr×Value)},KT K H mu' ks ws->KT K H (mu++mu') (ks.map fun p=>(p.1,p.2.sh mu.length)) ws:=by
 intro ks ws h
 induction h with
 | nil=>exact .nil
 | cons r t ih=>
  obtain ⟨z,d,k,v,rv,r⟩:=r;exact .cons ⟨z,d,by have:=k.sh (mu:=mu);rw [tk_sh] at this;exact this,v,rv,r.sh⟩ ih
theorem ObR.sh {K:Fg1}{H:Hp}{mu mu':List Addr}{a:Addr}:∀ {o:Ob},ObR K H mu' a o->ObR K H (mu++mu') a (o.sh mu.length)
 | .lst _,⟨vs,e,r⟩=>⟨vs,e,r.sh⟩
 | .dct _,⟨ws,e,r⟩=>⟨ws,e,KR.sh r⟩
 | .dcT _,⟨ws,e,r,l⟩=>⟨ws,e,KT.sh r,l⟩
 | .iset _,q=>q
 | .dcF _,⟨ws,e,r,l⟩=>⟨ws,e,KT.sh r,l⟩
 | .tst ks,⟨ws,e,r⟩=>⟨ws,e,by have:=KT.sh (mu:=mu) r;rw [List.map_map] at this;exact this⟩
theorem Rep.mor {K:Fg1}{H:Hp}{mu:List Addr}(mu':List Addr):∀ {d:D} {v:V},Rep K H mu d v->Rep K H (mu++mu') d v:=fun h=>h.exv ⟨List.prefix_append _ _,fun _ _ h=>h,fun _ _ _ h=>h⟩
theorem Reps.mor {K:Fg1}{H:Hp}{mu:List Addr}(mu':List Addr):∀ {ds:List D} {vs:List V},Reps K H mu ds vs->Reps K H (mu++mu') ds vs:=fun h=>h.exv ⟨List.prefix_append _ _,fun _ _ h=>h,fun _ _ _ h=>h⟩
theorem KR.mor {κ:Type}{K:Fg1}{H:Hp}{mu:List Addr}(mu':List Addr){ks:List (κ×D)}{ws:List (κ×V)}(h:KR K H mu ks ws):KR K H (mu++mu') ks ws:=Paired.mapP h fun _ _ z=>⟨z.1,z.2.mor mu'⟩
theorem ObR.mor {K:Fg1}{H:Hp}{mu:List Addr}{a:Addr}(mu':List Addr):∀ {o:Ob},ObR K H mu a o->ObR K H (mu++mu') a o
 | .lst _,⟨vs,e,r⟩=>⟨vs,e,r.mor mu'⟩
 | .dct _,⟨ws,e,r⟩=>⟨ws,e,KR.mor mu' r⟩
 | .dcT _,⟨ws,e,r,l⟩=>⟨ws,e,Paired.mapP r fun _ _ ⟨z,d,k,v,rv,r⟩=>⟨z,d,k.mor mu',v,rv,r.mor mu'⟩,l⟩
 | .iset _,q=>q
 | .dcF _,⟨ws,e,r,l⟩=>⟨ws,e,Paired.mapP r fun _ _ ⟨z,d,k,v,rv,r⟩=>⟨z,d,k.mor mu',v,rv,r.mor mu'⟩,l⟩
 | .tst _,⟨ws,e,r⟩=>⟨ws,e,Paired.mapP r fun _ _ ⟨z,d,k,v,rv,r⟩=>⟨z,d,k.mor mu',v,rv,r.mor mu'⟩⟩
noncomputable def callG (f:FN):FN:=fun ds S=>if D.unds 0 ds=true then (f ds []).map fun p=>if p.1.und 0=true then (p.1,S) else (p.1.sh S.length,S++p.2.map (Ob.sh S.length)) else (f ds S).map (gc S.length)
theorem ObR.keep {K:Fg1}{H H':Hp}{mu:List Addr}{a:Addr}(e:Ext mu mu H H')(h:∀ o,H a=some o->H' a=some o):∀ {o:Ob},ObR K H mu a o->ObR K H' mu a o
 | .lst _,⟨vs,q,r⟩=>⟨vs,h _ q,r.ext e⟩
 | .dct _,⟨ws,q,r⟩=>⟨ws,h _ q,KR.ext e r⟩
 | .dcT _,⟨ws,q,r,l⟩=>⟨ws,h _ q,KT.ext e r,l⟩
 | .iset _,q=>⟨h _ q.1,q.2⟩
 | .dcF _,⟨ws,⟨o,u,e1,e2⟩,r,l⟩=>⟨ws,⟨o,u,h _ e1,e2⟩,KT.ext e r,l⟩
 | .tst _,⟨ws,q,r⟩=>⟨ws,h _ q,KT.ext e r⟩
theorem callG_ok {K:Fg1}{f:FN}{vs:List V}{H:Hp}{Q:VK}(h:rN K (callG f) vs H Q):rN K f vs H Q:=by
 obtain ⟨mu,S,ds,d,S',hr,hs,hm,hc⟩:=h;unfold callG at hm;split at hm
 ·rename_i hb;obtain ⟨⟨d1,S1⟩,e1,hm⟩:=oM1.mp hm;refine ⟨[],[],ds,d1,S1,hr.cut (n:=0) (fun k hk=>absurd hk (Nat.not_lt_zero _)) hb,.nil,e1,fun v H' mu' x r s=>?_⟩;have x':Ext mu mu H H':=⟨List.prefix_rfl,fun a o e _=>x.old a o e (by simp),x.tup,x.frz,fun _ z=>.inl z⟩;dsimp only at hm;split at hm
  ·rename_i hd;cases hm;refine hc v H' mu x' (r.cut (n:=0) (fun k hk=>absurd hk (Nat.not_lt_zero _)) hd) ⟨hs.len,hs.nd,fun n o a h1 h2=>?_⟩;exact (hs.ob n o a h1 h2).keep x' fun o e=>x.old a o e (by simp)
  ·cases hm;have fr:∀ a∈mu',H a=none:=fun a ha=>(x.new a ha).resolve_left (by simp);have x2:Ext mu (mu++mu') H H':=⟨List.prefix_append _ _,fun a o e _=>x.old a o e (by simp),x.tup,x.frz,fun a z=>by
    rcases List.mem_append.mp z with z | z
    ·exact .inl z
    ·exact .inr (fr a z)⟩
   refine hc v H' (mu++mu') x2 (by rw [<- hs.len];exact r.sh) ⟨by rw [lA1,lA1,lM1,hs.len,s.len],?_,fun n o a h1 h2=>?_⟩
   ·refine List.nodup_append.mpr ⟨hs.nd,s.nd,fun a ha b hb z=>?_⟩;subst z;obtain ⟨o,e⟩:=hs.here ha;rw [fr a hb] at e;cases e
   ·by_cases hn:n<S.length
    ·rw [gL1 hn] at h1;rw [gL1 (by rw [hs.len];exact hn)] at h2;exact ((hs.ob n o a h1 h2).keep x' fun o e=>x.old a o e (by simp)).mor mu'
    ·have hn':=Nat.le_of_not_lt hn;rw [gR1 hn'] at h1;rw [gR1 (by rw [hs.len];exact hn')] at h2;rw [gP1] at h1;obtain ⟨o1,g1,g2⟩:=oM1.mp h1;subst g2;have q:=s.ob (n-S.length) o1 a g1 (by rw [hs.len] at h2;exact h2);rw [<- hs.len];exact q.sh
 ·obtain ⟨⟨d1,S1⟩,e1,hm⟩:=oM1.mp hm;refine ⟨mu,S,ds,d1,S1,hr,hs,e1,fun v H' mu' x r s=>?_⟩;unfold gc at hm;split at hm
  ·rename_i hb;cases hm;rw [bA1] at hb;have hk:∀ k,k<S.length->mu'[k]? = mu[k]?:=fun k hk=>by
    obtain ⟨t,rfl⟩:=x.pre;rw [gL1 (by rw [hs.len];exact hk)]
   refine hc v H' mu x.back (r.cut hk hb.1) ⟨?_,hs.nd,fun n o a h1 h2=>?_⟩
   ·have:=s.len;have h3:=x.pre.length_le;rw [List.length_take,<- s.len];rw [hs.len] at h3 ⊢;exact (Nat.min_eq_left h3).symm
   ·have hn:n<S.length:=by rw [<- hs.len];exact (gE1.mp h2).1
    have h1':S1[n]? = some o:=by rw [List.getElem?_take_of_lt hn] at h1;exact h1
    refine (s.ob n o a h1' ((hk n hn).trans h2)).cut hk ?_;exact List.all_eq_true.mp hb.2 o (gM1 h1)
  ·cases hm;exact hc v H' mu' x r s
noncomputable def spM (K:Fg1)(n:Nat)(f:FN):Sp:=fun vs H Q _=>vs.length=n/\rN K f vs H Q
section
variable {X:Cx} {k n:Nat} {f:Addr} {fd:FuncData} {ps:List Str} {x:Str} {p pos:Pos} {e:Expr} {es:List Expr} {m:FN} {a:FA}
noncomputable def mCall (n:Nat)(f:FN):FN:=fun ds S=>if ds.length=n then callG f ds S else none
theorem me_call (F:FnOk X.prog X.w X.K X.mg X.base CX0 k f fd ps (spM X.K n m))(hr:Room k X.A)(hg:Gl X x)(hm:X.mg x=some (.ref f))(hk:wK1 X.K (.ref f)=true)(hb:Binds X.K fd ps [])
  (ha:MA X (e::es) a) (hdb:(x == ("__debug__":Str))=false:=by decide) (he:starEach (e::es) X.env=(false,eval e X.env)::starEach es X.env:=by rfl) (hpl:(backTo pos (starEach es X.env)).any (·.1)=false:=by rfl):
  ME X (.Call (.Name x p) (e::es) [] pos) (mN (mCall n m) a):=
 pe_imp (pe_call (E:=E0) F hr hg hm hk hb .nil pass0 ha hdb he hpl) fun σ H Q h=>by
  obtain ⟨r,mu,S,ds,S',he,hs,hm,hc⟩:=mN_ok h;refine ⟨r,mu,S,ds,S',he,hs,hm,fun vs H' mu' x1 r1 s1=>?_⟩;have q:=hc vs H' mu' x1 r1 s1;show spM X.K n m (vs++[]) H' Q E0;rw [List.append_nil];obtain ⟨mu2,S2,ds2,d2,S3,h1,h2,h3,h4⟩:=q;unfold mCall at h3;split at h3
  ·rename_i hl;exact ⟨by rw [<- h1.length];exact hl,callG_ok ⟨mu2,S2,ds2,d2,S3,h1,h2,h3,h4⟩⟩
  ·cases h3
end
noncomputable def mNx:FS:=fun r S=>some (.nx,r,S)
noncomputable def mSeq (a b:FS):FS:=fun r S=>(a r S).bind fun p=>match p.1 with
 | .nx=>b p.2.1 p.2.2
 | f=>some (f,p.2.1,p.2.2)
noncomputable def mRet (m:FE):FS:=fun r S=>(m r S).bind fun p=>some (.rt p.1,r,p.2)
noncomputable def mRetN:FS:=fun r S=>some (.rt .non,r,S)
noncomputable def mDrop (m:FE):FS:=fun r S=>(m r S).bind fun p=>some (.nx,r,p.2)
noncomputable def mIfS (c:FT)(a b:FS):FS:=fun r S=>(c r S).bind fun p=>if p.1=true then a r p.2 else b r p.2
section
variable {X:Cx} {pos:Pos} {e c:Expr} {st:Stmt} {rest as bs:List Stmt} {a b:FS} {m:FE} {t:FT}
theorem mss_nil:MSs X [] mNx:=pss_imp pss_nil <| by
 rintro E σ H ⟨r,mu,S,f,r',S',he,hs,hm,hc⟩;cases hm;exact hc σ H mu (.refl _ _) he hs
theorem mss_cons (h1:MS X st a)(h2:MSs X rest b):MSs X (st::rest) (mSeq a b):=pss_imp (pss_cons h1 h2) <| by
 rintro E σ H ⟨r,mu,S,f,r',S',he,hs,hm,hc⟩;obtain ⟨⟨f1,r1,S1⟩,e1,hm⟩:=oB1.mp hm;refine ⟨r,mu,S,f1,r1,S1,he,hs,e1,?_⟩;cases f1 with
 | nx=>
  intro σ1 H1 mu1 x1 he1 hs1;refine ⟨r1,mu1,S1,f,r',S',he1,hs1,hm,?_⟩;cases f with
  | nx=>exact fun σ2 H2 mu2 x2=>hc σ2 H2 mu2 (x1.trans x2)
  | bk=>exact fun σ2 H2 mu2 x2=>hc σ2 H2 mu2 (x1.trans x2)
  | ct=>exact fun σ2 H2 mu2 x2=>hc σ2 H2 mu2 (x1.trans x2)
  | rt d=>exact fun v H2 mu2 x2=>hc v H2 mu2 (x1.trans x2)
 | bk=>cases hm;exact hc
 | ct=>cases hm;exact hc
 | rt d=>cases hm;exact hc
theorem mss_one (h1:MS X st a):MSs X [st] a:=pss_one h1
theorem ms_expr (h:ME X e m)(hs:swapsWith e none pos.line X.env=pure false:=by rfl):MS X (.Expr e pos) (mDrop m):=ps_imp (ps_expr h hs) <| by
 rintro E σ H ⟨r,mu,S,f,r',S',he,hs,hm,hc⟩;obtain ⟨⟨d,S1⟩,e1,hm⟩:=oB1.mp hm;cases hm;exact ⟨r,mu,S,d,_,he,hs,e1,fun v H' mu' x r1 s1=>hc σ H' mu' x (he.ext x) s1⟩
theorem ms_ret (h:ME X e m):MS X (.Return (some e) pos) (mRet m):=ps_imp (ps_ret h) <| by
 rintro E σ H ⟨r,mu,S,f,r',S',he,hs,hm,hc⟩;obtain ⟨⟨d,S1⟩,e1,hm⟩:=oB1.mp hm;cases hm;exact ⟨r,mu,S,d,_,he,hs,e1,hc⟩
theorem ms_if (hc:MT X c t)(ha:MSs X as a)(hb:MSs X bs b):MS X (.If c as bs pos) (mIfS t a b):=ps_imp (ps_if hc ha hb) <| by
 rintro E σ H ⟨r,mu,S,f,r',S',he,hs,hm,hc⟩;obtain ⟨⟨k,S1⟩,e1,hm⟩:=oB1.mp hm;refine ⟨r,mu,S,k,S1,he,hs,e1,fun H1 mu1 x1 s1=>?_⟩;have go:∀ c:FS,c r S1=some (f,r',S')->tMS X.K c E σ H1:=fun c hm=>by
  refine ⟨r,mu1,S1,f,r',S',he.ext x1,s1,hm,?_⟩;cases f with
  | nx=>exact fun σ2 H2 mu2 x2=>hc σ2 H2 mu2 (x1.trans x2)
  | bk=>exact fun σ2 H2 mu2 x2=>hc σ2 H2 mu2 (x1.trans x2)
  | ct=>exact fun σ2 H2 mu2 x2=>hc σ2 H2 mu2 (x1.trans x2)
  | rt d=>exact fun v H2 mu2 x2=>hc v H2 mu2 (x1.trans x2)
 cases k with
 | true=>exact go a hm
 | false=>exact go b hm
end
noncomputable abbrev FG:=D->Ev->Sto->Option (Ev×Sto)
noncomputable abbrev FGs:=List D->Ev->Sto->Option (Ev×Sto)
inductive tMG (K:Fg1)(g:FG)(v:V)(σ:L2.St)(H:Hp)(Q:L2.St->Hp->Prop):Prop
 | mk (r:Ev) (mu:List Addr) (S:Sto) (d:D) (r':Ev) (S':Sto) (he:EnvR K H mu r σ) (hs:Sim K H mu S) (hr:Rep K H mu d v) (hm:g d r S=some (r',S')) (hc:∀ σ' H' mu',Ext mu mu' H H'->EnvR K H' mu' r' σ'->Sim K H' mu' S'->Q σ' H')
inductive tMGs (K:Fg1)(g:FGs)(vs:List V)(σ:L2.St)(H:Hp)(Q:L2.St->Hp->Prop):Prop
 | mk (r:Ev) (mu:List Addr) (S:Sto) (ds:List D) (r':Ev) (S':Sto) (he:EnvR K H mu r σ) (hs:Sim K H mu S) (hr:Reps K H mu ds vs) (hm:g ds r S=some (r',S')) (hc:∀ σ' H' mu',Ext mu mu' H H'->EnvR K H' mu' r' σ'->Sim K H' mu' S'->Q σ' H')
noncomputable abbrev MG (X:Cx)(e:Expr)(g:FG):Prop:=PG X e (tMG X.K g)
noncomputable abbrev MGs (X:Cx)(es:List Expr)(g:FGs):Prop:=PGs X es (tMGs X.K g)
noncomputable def gN (i:Nat):FG:=fun d r S=>some (r.set i (some d),S)
noncomputable def gNl:FGs:=fun ds r S=>match ds with
 | []=>some (r,S)
 | _=>none
noncomputable def gCs (g:FG)(gs:FGs):FGs:=fun ds r S=>match ds with
 | d::ds=>(g d r S).bind fun p=>gs ds p.1 p.2
 | []=>none
noncomputable def gT (n:Nat)(gs:FGs):FG:=fun d r S=>match d with
 | .tup ds=>if ds.length=n then gs ds r S else none
 | _=>none
theorem EnvR.set {K:Fg1}{H:Hp}{mu:List Addr}{r:Ev}{σ:L2.St}{i:Nat}{d:D}{v:V}(h:EnvR K H mu r σ)(q:Rep K H mu d v):EnvR K H mu (r.set i (some d)) (σ.set i (some v)):=by
 refine ⟨by rw [List.length_set,List.length_set];exact h.len,fun j d' e=>?_⟩;by_cases hj:i=j
 ·subst hj;have hl:i<r.length:=by
   have:=(gE1.mp e).1
   rwa [List.length_set] at this
  rw [List.getElem?_set_self hl] at e;cases e;exact ⟨v,List.getElem?_set_self (by rw [<- h.len];exact hl),q⟩
 ·rw [gS1 hj] at e;obtain ⟨v',e1,r1⟩:=h.val j d' e;exact ⟨v',by rw [gS1 hj];exact e1,r1⟩
section
variable {X:Cx} {pos:Pos}
theorem pg_imp {e:Expr}{t t':TG}(h:PG X e t)(i:∀ v σ H Q,t' v σ H Q->t v σ H Q):PG X e t':=fun pins s σ H v u Q I r q=>h pins s σ H v u Q I r (i v σ H Q q)
theorem pgs_imp {e:List Expr}{t t':TGs}(h:PGs X e t)(i:∀ v σ H Q,t' v σ H Q->t v σ H Q):PGs X e t':=fun pins s σ H v u Q I r q=>h pins s σ H v u Q I r (i v σ H Q q)
theorem mg_name (i:Nat){x:Str}(hN:X.N.Nodup)(hi:X.N[i]? = some x)(hx:Loc X.env.scope x)(hf:X.fn x=true\/X.env.scope.names.lookup x=some .local:=by first | exact .inl rfl | exact .inr rfl | assumption):MG X (.Name x pos) (gN i):=
 pg_imp (pg_name hN hi hx hf) <| by
  rintro v σ H Q ⟨r,mu,S,d,r',S',he,hs,hr,hm,hc⟩;cases hm;exact hc _ H mu (.refl _ _) (he.set hr) hs
theorem mgs_nil:MGs X [] gNl:=pgs_imp pgs_nil <| by
 rintro vs σ H Q ⟨r,mu,S,ds,r',S',he,hs,hr,hm,hc⟩;unfold gNl at hm;split at hm
 ·cases hm;cases hr;exact ⟨rfl,hc σ H mu (.refl _ _) he hs⟩
 ·cases hm
theorem mgs_cons {e:Expr}{es:List Expr}{g:FG}{gs:FGs}(h1:MG X e g)(h2:MGs X es gs)(hs:(assignEach (e::es) X.env).map (·.2)=assign e X.env::(assignEach es X.env).map (·.2):=by rfl):MGs X (e::es) (gCs g gs):=
 pgs_imp (pgs_cons h1 h2 hs) <| by
  rintro vs σ H Q ⟨r,mu,S,ds,r',S',he,hs,hr,hm,hc⟩;unfold gCs at hm;split at hm
  ·obtain ⟨⟨r1,S1⟩,e1,hm⟩:=oB1.mp hm;cases hr with
   | cons q t=>
    exact ⟨_,_,rfl,r,mu,S,_,r1,S1,he,hs,q,e1,fun σ1 H1 mu1 x1 he1 s1=>⟨r1,mu1,S1,_,r',S',he1,s1,t.ext x1,hm,fun σ2 H2 mu2 x2=>hc σ2 H2 mu2 (x1.trans x2)⟩⟩
  ·cases hm
theorem mg_tup {es:List Expr}{k:Nat}{gs:FGs}{n:Nat}(hc:X.calm=true)(h:MGs X es gs)(hn:(assignEach es X.env).length=n:=by rfl)(hst:(assignEach es X.env).findIdx? (·.1)=none:=by rfl):MG X (.Tuple es k pos) (gT n gs):=
 pg_imp (pg_tup hc h hn hst) <| by
  rintro v σ H Q ⟨r,mu,S,d,r',S',he,hs,hr,hm,hc⟩;cases d with
  | tup ds=>
   rw [gT] at hm;split at hm
   ·rename_i hl;cases hr with
    | tup q t=>exact ⟨_,_,rfl,q,by rw [<- t.length];exact hl,r,mu,S,ds,r',S',he,hs,t,hm,hc⟩
   ·cases hm
  | _=>cases hm
inductive rU (K:Fg1)(f:FN)(o i v:V)(H:Hp)(Q:Hp->Prop):Prop
 | mk (mu:List Addr) (S:Sto) (ds:List D) (d:D) (S':Sto) (hr:Reps K H mu ds [o,i,v]) (hs:Sim K H mu S) (hm:f ds S=some (d,S')) (hc:∀ H' mu',Ext mu mu' H H'->Sim K H' mu' S'->Q H')
noncomputable def gS (f:FN)(a b:FE):FG:=fun d r S=>(a r S).bind fun p=>(b r p.2).bind fun q=>(f [p.1,q.1,d] q.2).bind fun t=>some (r,t.2)
theorem mg_sub {o i:Expr}{a b:FE}{f:FN}(ho:ME X o a)(hi:ME X i b)(hs:PSet X (rU X.K f))
  (ha:∀ v,assign (.Subscript o i pos) X.env v=(do
   let ov<-holding [v] (eval o X.env)
   let iv<-holding [v,ov] (eval i X.env)
   standAt pos
   holding [v,ov,iv] (setItem ov iv v)
   release [v,ov,iv] []):=by intro _;rfl):MG X (.Subscript o i pos) (gS f a b):=
 pg_imp (pg_sub ho hi hs ha) <| by
  rintro v σ H Q ⟨r,mu,S,d,r',S',he,hs,hr,hm,hc⟩;obtain ⟨⟨d1,S1⟩,e1,hm⟩:=oB1.mp hm;obtain ⟨⟨d2,S2⟩,e2,hm⟩:=oB1.mp hm;obtain ⟨⟨d3,S3⟩,e3,hm⟩:=oB1.mp hm;cases hm;refine ⟨r,mu,S,d1,S1,he,hs,e1,fun v1 H1 mu1 x1 r1 s1=>?_⟩;refine ⟨r,mu1,S1,d2,S2,he.ext x1,s1,e2,fun v2 H2 mu2 x2 r2 s2=>?_⟩;exact ⟨mu2,S2,[d1,d2,d],d3,_,.cons (r1.ext x2) (.cons r2 (.cons ((hr.ext x1).ext x2) .nil)),s2,e3,fun H3 mu3 x3 s3=>hc σ H3 mu3 ((x1.trans x2).trans x3) (((he.ext x1).ext x2).ext x3) s3⟩
noncomputable def mAsg (m:FE)(g:FG):FS:=fun r S=>(m r S).bind fun p=>(g p.1 r p.2).bind fun q=>some (.nx,q.1,q.2)
theorem mAsg_ok {K:Fg1}{m:FE}{g:FG}{E:Ends}{σ:L2.St}{H:Hp}(h:tMS K (mAsg m g) E σ H):tAsg (tM K m) (tMG K g) E σ H:=by
 obtain ⟨r,mu,S,f,r',S',he,hs,hm,hc⟩:=h;obtain ⟨⟨d1,S1⟩,e1,hm⟩:=oB1.mp hm;obtain ⟨⟨r2,S2⟩,e2,hm⟩:=oB1.mp hm;cases hm;refine ⟨r,mu,S,d1,S1,he,hs,e1,fun v1 H1 mu1 x1 r1 s1=>?_⟩;exact ⟨r,mu1,S1,d1,_,_,he.ext x1,s1,r1,e2,fun σ2 H2 mu2 x2=>hc σ2 H2 mu2 (x1.trans x2)⟩
theorem ms_asg {tg e:Expr}{m:FE}{g:FG}(he:ME X e m)(hg:MG X tg g)(hs:swapsWithSole [tg] e pos.line X.env=pure false:=by rfl)(hw:swappedStores [tg] e X.env=pure none:=by rfl)
  (h1:(assignEach [tg] X.env).map (·.2)=[assign tg X.env]:=by rfl):MS X (.Assign [tg] e pos) (mAsg m g):=ps_imp (ps_asg he hg hs hw h1) fun _ _ _=>mAsg_ok
theorem ms_set (i:Nat){x:Str}{e:Expr}{m:FE}{pos':Pos}(hN:X.N.Nodup)(hi:X.N[i]? = some x)(hx:Loc X.env.scope x)(he:ME X e m)(hs:swapsWith e (some (.Name x pos')) pos.line X.env=pure false:=by rfl)(hf:X.fn x=true\/X.env.scope.names.lookup x=some .local:=by first | exact .inl rfl | exact .inr rfl | assumption):
  MS X (.Assign [.Name x pos'] e pos) (mAsg m (gN i)):=ps_imp (ps_set hN hi hx he hs hf) fun E σ H h=>by
 obtain ⟨r,mu,S,d,S',h1,h2,h3,h4⟩:=mAsg_ok h;refine ⟨r,mu,S,d,S',h1,h2,h3,fun v H' mu' x1 r1 s1=>?_⟩;obtain ⟨r2,mu2,S2,d2,r3,S3,q1,q2,q3,q4,q5⟩:=h4 v H' mu' x1 r1 s1;cases q4;exact q5 _ H' mu2 (.refl _ _) (q1.set q3) q2
noncomputable def mAug (i:Nat)(f:FN)(m:FE):FS:=fun r S=>match r[i]? with
 | some (some d)=>(m r S).bind fun p=>(f [d,p.1] p.2).bind fun q=>some (.nx,r.set i (some q.1),q.2)
 | _=>none
end
noncomputable def whl (c:FT)(b:FS):Nat->FS
 | 0=>fun _ _=>none
 | n+1=>fun r S=>(c r S).bind fun p=>if p.1=true then (b r p.2).bind fun q=>match q.1 with
   | .nx=>whl c b n q.2.1 q.2.2
   | .ct=>whl c b n q.2.1 q.2.2
   | .bk=>some (.nx,q.2.1,q.2.2)
   | .rt d=>some (.rt d,q.2.1,q.2.2)
  else some (.nx,r,p.2)
structure Itm where
 items:List D
 chk:List (Nat×List D)
noncomputable def okC (S:Sto):List (Nat×List D)->Bool
 | []=>true
 | (n,xs)::c=>(match S[n]? with
   | some (.lst ys)=>D.sames ys xs
   | _=>false)&&okC S c
noncomputable def ItR (K:Fg1)(j:It)(J:Itm)(mu:List Addr)(H:Hp):Prop:=∀ i H1 mu1 S1,Exw mu mu1 H H1->Sim K H1 mu1 S1->okC S1 J.chk=true ->
 (∀ d,J.items[i]? = some d->j.go i H1 /\ ∀ x H2,j.yld i H1 x H2->Ext mu1 mu1 H1 H2/\Sim K H2 mu1 S1/\Rep K H2 mu1 d x)/\(J.items.length<=i->j.stop i H1)
noncomputable abbrev FI:=Ev->Sto->Option (Itm×Sto)
inductive tMI (K:Fg1)(m:FI)(σ:L2.St)(H:Hp)(R:It->Hp->Prop):Prop
 | mk (r:Ev) (mu:List Addr) (S:Sto) (J:Itm) (S':Sto) (he:EnvR K H mu r σ) (hs:Sim K H mu S) (hm:m r S=some (J,S')) (hc:∀ j H' mu',Ext mu mu' H H'->ItR K j J mu' H'->Sim K H' mu' S'->R j H')
noncomputable abbrev MI (X:Cx)(tg iter:Expr)(m:FI):Prop:=PI X tg iter (tMI X.K m)
theorem pi_imp {X:Cx}{tg e:Expr}{t t':TI}(h:PI X tg e t)(i:∀ σ H R,t' σ H R->t σ H R):PI X tg e t':=fun pins s σ H R I q=>h pins s σ H R I (i σ H R q)
theorem pi_or {X:Cx}{tg e:Expr}{t t':TI}(h:PI X tg e t)(h':PI X tg e t'):PI X tg e (fun σ H R=>t σ H R\/t' σ H R):=fun pins s σ H R I q=>q.elim (h pins s σ H R I) (h' pins s σ H R I)
noncomputable def loopM (c:List (Nat×List D))(g:FG)(b:FS):List D->FS
 | []=>fun r S=>if okC S c=true then some (.nx,r,S) else none
 | d::ds=>fun r S=>if okC S c=true then (g d r S).bind fun p=>(b p.1 p.2).bind fun q=>match q.1 with
   | .nx=>loopM c g b ds q.2.1 q.2.2
   | .ct=>loopM c g b ds q.2.1 q.2.2
   | .bk=>some (.nx,q.2.1,q.2.2)
   | .rt v=>some (.rt v,q.2.1,q.2.2)
  else none
noncomputable def mFor (m:FI)(g:FG)(b:FS):FS:=fun r S=>(m r S).bind fun p=>loopM p.1.chk g b p.1.items r p.2
theorem drop_of_get {α:Type}{l:List α}{i:Nat}{d:α}{ds:List α}(h:l.drop i=d::ds):l[i]? = some d/\l.drop (i+1)=ds:=by
 have h1:l[i]? = some d:=by
  have:=congrArg (·[0]?) h;simpa using this
 refine ⟨h1,?_⟩;rw [<- List.drop_drop,h];rfl
inductive MFI (K:Fg1)(mu1:List Addr)(H1:Hp)(c:List (Nat×List D))(g:FG)(b:FS)(f:Fl)(r':Ev)(S':Sto)(L:List D)(σ':L2.St)(H':Hp):Prop
 | mk (r2:Ev) (mu2:List Addr) (S2:Sto):Ext mu1 mu2 H1 H'->EnvR K H' mu2 r2 σ'->Sim K H' mu2 S2->loopM c g b L r2 S2=some (f,r',S')->MFI K mu1 H1 c g b f r' S' L σ' H'
theorem mFor_ok {K:Fg1}{m:FI}{g:FG}{b:FS}{E:Ends}{σ:L2.St}{H:Hp}(h:tMS K (mFor m g b) E σ H):tFor (tMI K m) (tMG K g) (tMS K b) E σ H:=by
 obtain ⟨r,mu,S,f,r',S',he,hs,hm,hc⟩:=h;obtain ⟨⟨J,S1⟩,e1,hm⟩:=oB1.mp hm;refine ⟨r,mu,S,J,S1,he,hs,e1,fun j H1 mu1 x1 J1 s1=>?_⟩;refine ⟨fun i k σ' H'=>k=(J.items.drop i).length/\MFI K mu1 H1 J.chk g b f r' S' (J.items.drop i) σ' H',⟨_,rfl,r,mu1,S1,.refl _ _,he.ext x1,s1,hm⟩,?_⟩;rintro i k σ2 H2 ⟨rfl,r2,mu2,S2,x2,he2,s2,hm2⟩;cases hl:J.items.drop i with
 | nil=>
  left;rw [hl] at hm2;rw [loopM] at hm2;dsimp only at hm2;split at hm2
  ·rename_i ok;cases hm2;refine ⟨(J1 i H2 mu2 _ x2.w s2 ok).2 (List.drop_eq_nil_iff.mp hl),?_⟩;exact hc σ2 H2 mu2 (x1.trans x2) he2 s2
  ·cases hm2
 | cons d ds=>
  right;rw [hl] at hm2;obtain ⟨hi,hd⟩:=drop_of_get hl;rw [loopM] at hm2;dsimp only at hm2;split at hm2
  ·rename_i ok;obtain ⟨⟨r3,S3⟩,e3,hm2⟩:=oB1.mp hm2;obtain ⟨⟨f4,r4,S4⟩,e4,hm2⟩:=oB1.mp hm2;obtain ⟨go,yl⟩:=(J1 i H2 mu2 _ x2.w s2 ok).1 d hi;refine ⟨go,MFI K mu1 H1 J.chk g b f r' S' ds,?_,fun x H3 y=>?_⟩
   ·intro σ' H' h5;exact ⟨ds.length,Nat.lt_succ_self _,(congrArg List.length hd).symm,hd.symm ▸ h5⟩
   ·obtain ⟨x3,s3,q3⟩:=yl x H3 y;refine ⟨r2,mu2,S2,d,r3,S3,he2.ext x3,s3,q3,e3,fun σ4 H4 mu4 x4 he4 s4=>?_⟩;refine ⟨r3,mu4,S3,f4,r4,S4,he4,s4,e4,?_⟩;cases f4 with
    | nx=>exact fun σ5 H5 mu5 x5 he5 s5=>⟨r4,mu5,S4,(x2.trans x3).trans (x4.trans x5),he5,s5,hm2⟩
    | ct=>exact fun σ5 H5 mu5 x5 he5 s5=>⟨r4,mu5,S4,(x2.trans x3).trans (x4.trans x5),he5,s5,hm2⟩
    | bk=>cases hm2;exact fun σ5 H5 mu5 x5 he5 s5=>hc σ5 H5 mu5 ((x1.trans x2).trans (x3.trans (x4.trans x5))) he5 s5
    | rt v=>cases hm2;exact fun v5 H5 mu5 x5 r5 s5=>hc v5 H5 mu5 ((x1.trans x2).trans (x3.trans (x4.trans x5))) r5 s5
  ·cases hm2
theorem ms_for {X:Cx}{pos:Pos}{tg iter:Expr}{body:List Stmt}{m:FI}{g:FG}{b:FS}(hp:PassesOwn (model X.prog X.w) X.A X.env X.xe)(hc:X.calm=true)(hi:MI X tg iter m)(hg:MG X tg g)(hb:MSs X body b)
  (hs:∀ x,foldedSetIterable iter X.env x=pure x:=by intro _;rfl):MS X (.For tg iter body [] pos) (mFor m g b):=ps_imp (ps_for hp hc hi hg hb hs) fun _ _ _=>mFor_ok
noncomputable def startD (n:Nat)(ds:List D):Ev:=ds.map some++List.replicate (n-ds.length) none
noncomputable def fnB (n:Nat)(b:FS):FN:=fun ds S=>(b (startD n ds) S).bind fun p=>match p.1 with
 | .rt d=>some (d,p.2.2)
 | .nx=>some (.non,p.2.2)
 | _=>none
theorem start_env {K:Fg1}{H:Hp}{mu:List Addr}{ds:List D}{vs:List V}(N:List Str)(h:Reps K H mu ds vs):EnvR K H mu (startD N.length ds) (L2.start N vs):=by
 refine ⟨?_,fun i d e=>?_⟩
 ·unfold startD L2.start;rw [lA1,lA1,lM1,lM1,lR1,lR1,h.length]
 ·unfold startD at e;unfold L2.start;by_cases hi:i<ds.length
  ·rw [gL1 (by rw [lM1];exact hi),gP1] at e;obtain ⟨d',e1,e2⟩:=oM1.mp e;cases e2;obtain ⟨v,e3,r⟩:=h.get e1;refine ⟨v,?_,r⟩;rw [gL1 (by rw [lM1,<- h.length];exact hi),gP1,e3];rfl
  ·rw [gR1 (by rw [lM1];lia)] at e;have:=gM1 e;rw [List.mem_replicate] at this;cases this.2
theorem fn_m {P:Program}{w:World}{K:Fg1}{mg:Str->Option Value}{base:Heap}{x qual:Str}{st:Stmt}{f:Addr}{fd:FuncData}{N ps:List Str}{k:Nat}{b:FS}(F:Fun K x qual st f fd)(S:FnScope N ps (defScope st))
  (hbody:∀ (cdv:Value) (A:Around) (outer:List Env) (s:Shared) (H:Hp) (E:XK),Room k (A.deeper (envOfC qual (defScope st) s.heap.objs.size f cdv)) ->
   MSs (cxOf CX0 P w K mg base N qual (defScope st) f cdv A outer s H E).nox (defBody st) b):FnOk P w K mg base CX0 (k+1) f fd ps (spM K ps.length (fnB N.length b)):=by
 refine Fun.ok F S (fun vs H Q E h=>h.1) fun cdv A outer s H vs Q E hr hsp=>⟨_,hbody cdv A outer s H E hr,?_⟩;obtain ⟨_,mu,St,ds,d,S',h1,h2,h3,h4⟩:=hsp;unfold fnB at h3;obtain ⟨⟨fl,r',S1⟩,e1,h3⟩:=oB1.mp h3;refine ⟨_,mu,St,fl,r',S1,start_env N h1,h2,e1,?_⟩;cases fl with
 | nx=>cases h3;exact fun σ' H' mu' x he s=>h4 .non H' mu' x .non s
 | rt d=>cases h3;exact h4
 | bk=>cases h3
 | ct=>cases h3
noncomputable def cloF (cells:List (Str×Addr)):List (Str×NameKind)->List (Str×Addr)->Option (List (Str×Addr))
 | [],acc=>some acc
 | (n,k)::r,acc=>if k == .free then (cells.lookup n).bind fun c=>cloF cells r ((n,c)::acc) else cloF cells r acc
theorem clo_go {env:Env}(f:Str×NameKind->List (Str×Addr)->Sem (ForInStep (List (Str×Addr))))
  (hf:∀ n k cs,f (n,k) cs=if k == .free then (do let c<-cellOf env n;pure (.yield ((n,c)::cs))) else pure (.yield cs)):
  ∀ (names:List (Str×NameKind)) (acc cl:List (Str×Addr)),cloF env.cells names acc=some cl->forIn names acc f=(pure cl:Sem (List (Str×Addr)))
 | [],acc,cl,h=>by cases h;rfl
 | (n,k)::r,acc,cl,h=>by
  rw [List.forIn_cons,hf];unfold cloF at h;split at h
  ·rename_i hk;rw [if_pos hk];obtain ⟨c,e,h⟩:=oB1.mp h;have:cellOf env n=pure c:=by unfold cellOf;rw [e]
   rw [this,pure_bind,pure_bind];exact clo_go f hf r _ cl h
  ·rename_i hk;rw [if_neg hk,pure_bind];exact clo_go f hf r _ cl h
theorem clo_eq {scope:Scope}{env:Env}{cl:List (Str×Addr)}(h:cloF env.cells scope.names []=some cl):closureFor scope env=pure cl:=by
 simp only [closureFor];rw [clo_go (env:=env) _ (fun n k cs=>by cases hk:k == NameKind.free<;>simp [hk]) scope.names [] cl h];rfl
theorem clo_of {cells:List (Str×Addr)}:∀ {names:List (Str×NameKind)} {acc cl:List (Str×Addr)},cloF cells names acc=some cl->(∀ x c,acc.lookup x=some c->cells.lookup x=some c) -> ∀ x c,cl.lookup x=some c->cells.lookup x=some c
 | [],acc,cl,h,ha=>by cases h;exact ha
 | (n,k)::r,acc,cl,h,ha=>by
  unfold cloF at h;split at h
  ·obtain ⟨c,e,h⟩:=oB1.mp h;refine clo_of h fun x c' q=>?_;rw [List.lookup_cons] at q;split at q
   ·rename_i hx;cases q;rw [beq_iff_eq.mp hx];exact e
   ·exact ha x c' q
  ·exact clo_of h ha
theorem clo_has {cells:List (Str×Addr)}{x:Str}:∀ {names:List (Str×NameKind)} {acc cl:List (Str×Addr)},cloF cells names acc=some cl->(names.lookup x=some .free\/(acc.lookup x).isSome=true)->(cl.lookup x).isSome=true
 | [],acc,cl,h,ha=>by
  cases h;rcases ha with q | q
  ·cases q
  ·exact q
 | (n,k)::r,acc,cl,h,ha=>by
  unfold cloF at h;split at h
  ·obtain ⟨c,e,h⟩:=oB1.mp h;refine clo_has h ?_;rcases ha with q | q
   ·rw [List.lookup_cons] at q;split at q
    ·rename_i hx;right;rw [List.lookup_cons,hx];rfl
    ·exact .inl q
   ·right;rw [List.lookup_cons];split
    ·rfl
    ·exact q
  ·rename_i hk;refine clo_has h ?_;rcases ha with q | q
   ·rw [List.lookup_cons] at q;split at q
    ·cases q;exact absurd rfl hk
    ·exact .inl q
   ·exact .inr q
theorem cellsFrom_old {x:Str}{c:Addr}:∀ {names:List (Str×NameKind)} {n:Nat} {acc:List (Str×Addr)},(cellsFrom n names acc).lookup x=some c->(n<=c/\(x,c)∈cellsFrom n names [])\/acc.lookup x=some c
 | [],_,_,h=>.inr h
 | (y,k)::r,n,acc,h=>by
  unfold cellsFrom at h ⊢;split at h
  ·rename_i hk;rw [if_pos hk];have app:∀ (names:List (Str×NameKind)) (m:Nat) (acc:List (Str×Addr)),cellsFrom m names acc=cellsFrom m names []++acc:=by
    intro names
    induction names with
    | nil=>intro m acc;rfl
    | cons p r ih=>
     obtain ⟨z,q⟩:=p;intro m acc;unfold cellsFrom;split
     ·rw [ih _ ((z,m)::acc),ih _ [(z,m)],List.append_assoc];rfl
     ·exact ih m acc
   rcases cellsFrom_old h with ⟨h1,h2⟩ | h1
   ·refine .inl ⟨by lia,?_⟩;rw [app];exact List.mem_append_left _ h2
   ·rw [List.lookup_cons] at h1;split at h1
    ·rename_i hx;cases h1;refine .inl ⟨nR1 _,?_⟩;rw [app,beq_iff_eq.mp hx];exact mA1 _ mS1
    ·exact .inr h1
  ·rename_i hk;rw [if_neg hk];exact cellsFrom_old h
theorem cellsFrom_own {x:Str}{c:Addr}{n:Nat}{acc:List (Str×Addr)}{names:List (Str×NameKind)}(hx:names.lookup x=some .cell)(h:(cellsFrom n names acc).lookup x=some c):n<=c:=by
 have app:∀ (names:List (Str×NameKind)) (m:Nat) (acc:List (Str×Addr)),cellsFrom m names acc=cellsFrom m names []++acc:=by
  intro names
  induction names with
  | nil=>intro m acc;rfl
  | cons p r ih=>
   obtain ⟨z,q⟩:=p;intro m acc;unfold cellsFrom;split
   ·rw [ih _ ((z,m)::acc),ih _ [(z,m)],List.append_assoc];rfl
   ·exact ih m acc
 rw [app,List.lookup_append] at h;have q:=PySem.W.cellsFrom_some names n [] (.inl hx);obtain ⟨c',e⟩:=Option.isSome_iff_exists.mp q;rw [e] at h;cases h;rcases cellsFrom_old e with ⟨h1,_⟩ | h1
 ·exact h1
 ·cases h1
theorem newEnv_around {M:Model}{A:Around}{E:Value->Shared->Prop}{s:Shared}{scope:Scope}{globals:Addr}{cl:List (Str×Addr)}{qual:Str}{func:Option Addr}{code:Value}{env:Env}{b:Addr}{Q:Env->Shared->Prop}
  (hQ:Q {scope,locals:=s.heap.objs.size,globals,cells:=cellsFrom (s.heap.objs.size+1) scope.names cl,qual,func,code:=env.code,frame:=env.frame,builtins:=env.builtins}
   {s with heap:=pushCells (s.heap.push {cls:=.type "dict",data:=.dict #[]}) scope.names}):
  wpAny M A (newFunctionEnv scope globals cl [] qual func code (some env) b) Q E s:=by
 simp only [newFunctionEnv,Option.isSome_some,if_true];refine wB1 (wpAny_alloc ?_);refine wB1 (wpAny_layCells _ (fun name kind cells=>by cases hkc:kind == NameKind.cell<;>simp [hkc]) _ _ _ _ ?_);rw [show ({s with heap:=s.heap.push {cls:=.type "dict",data:=.dict #[]}}:Shared).heap.objs.size=s.heap.objs.size+1 from hZ1 ..];refine wB1 ?_;rw [List.forIn_nil];exact wP1 (wP1 hQ)
noncomputable def cxC (X:Cx)(scope:Scope)(cl:List (Str×Addr))(T:List Str)(keep:List Nat)(s:Shared)(H:Hp)(fp:List Addr):Cx where
 prog:=X.prog
 w:=X.w
 K:=X.K
 mg:=X.mg
 base:=X.base
 A:=X.A
 N:=T++keep.map fun i=>X.N.getD i (Str.ofString "")
 s₀:=s
 H₀:=H
 env:=compEnvC scope (cellsFrom (s.heap.objs.size+1) scope.names cl) s.heap.objs.size X.env
 outer:=X.stack
 stack:=X.stack
 ex:=fp
 fn:=fun x=>scope.names.lookup x == some .cell
 calm:=X.calm
 pn:=[]
 xe:=fun _ _=>False
noncomputable def inSt (k:Nat)(keep:List Nat)(σ:L2.St):L2.St:=List.replicate k none++keep.map fun i=>(σ[i]?).join
theorem lookup_relabel {env:Env}{x:Str}:∀ {names:List (Str×NameKind)},
  (names.map fun (n,k)=>if (k == NameKind.free&&env.scope.kind == .function&&env.kindOf n == some .cell) then (n,NameKind.cell) else (n,k)).lookup x =
   (names.lookup x).map fun k=>if (k == NameKind.free&&env.scope.kind == .function&&env.kindOf x == some .cell) then NameKind.cell else k
 | []=>rfl
 | (n,k)::r=>by
  show List.lookup x ((if (k == NameKind.free&&env.scope.kind == .function&&env.kindOf n == some .cell)=true then (n,NameKind.cell) else (n,k))::_)=_;cases hx:x == n with
  | true=>
   have e:=beq_iff_eq.mp hx;subst e;by_cases hc:(k == NameKind.free&&env.scope.kind == .function&&env.kindOf x == some .cell)=true
   ·rw [if_pos hc,List.lookup_cons,hx,List.lookup_cons,hx];simp only [oP1,if_pos hc]
   ·rw [if_neg hc,List.lookup_cons,hx,List.lookup_cons,hx];simp only [oP1,if_neg hc]
  | false=>
   have ih:=@lookup_relabel env x r;by_cases hc:(k == NameKind.free&&env.scope.kind == .function&&env.kindOf n == some .cell)=true
   ·rw [if_pos hc,List.lookup_cons,hx,List.lookup_cons,hx];exact ih
   ·rw [if_neg hc,List.lookup_cons,hx,List.lookup_cons,hx];exact ih
structure CSc (X:Cx)(scope:Scope)(T:List Str)(keep:List Nat):Prop where
 kind:scope.kind = .function
 names:∀ x∈scope.names,x.2 = .local->scope.names.lookup x.1=some .local
 free:∀ i∈keep,∃ x,X.N[i]? = some x/\scope.names.lookup x=some .free/\(X.env.kindOf x=some .cell\/X.env.kindOf x=some .free)/\(x,NameKind.cell)∉scope.names
theorem inv_comp {X:Cx} {pins:List (Addr×Obj)} {σ:L2.St} {H:Hp} {s:Shared} {scope:Scope} {cl:List (Str×Addr)} {T:List Str} {keep:List Nat} {fp:List Addr} (I:Inv X pins σ H s)
  (C:CSc X scope T keep) (hcl:cloF X.env.cells scope.names []=some cl) (hf:∀ b∈fp,FpOk X pins H b) (hfo:∀ b∈fp,∃ o,s.heap.get? b=some o):
  Inv (cxC X scope cl T keep s H fp) [] (inSt T.length keep σ) H {s with heap:=pushCells (s.heap.push {cls:=.type "dict",data:=.dict #[]}) scope.names}:=by
 have kept:∀ b o,s.heap.get? b=some o->(pushCells (s.heap.push {cls:=.type "dict",data:=.dict #[]}) scope.names).get? b=some o:=fun b o e=>pushCells_keeps _ _ b o (hP1 _ e);have cok:=cellsFrom_ok scope.names (s.heap.push {cls:=.type "dict",data:=.dict #[]}) (s.heap.objs.size+1) [] ⟨fun _ _ hm=>(nomatch hm),List.Pairwise.nil⟩ (by rw [hZ1];exact nR1 _);rw [hZ1] at cok;have clE:=clo_of hcl (fun x c q=>by cases q)
 -- a cell of the block: its own or an elder one
 have cells:∀ x c,(cellsFrom (s.heap.objs.size+1) scope.names cl).lookup x=some c->(s.heap.objs.size+1<=c/\(x,c)∈cellsFrom (s.heap.objs.size+1) scope.names [])\/X.env.cells.lookup x=some c:=fun x c h=>by
  rcases cellsFrom_old h with h1 | h1
  ·exact .inl h1
  ·exact .inr (clE x c h1)
 have oldLt:∀ x c,X.env.cells.lookup x=some c->c<s.heap.objs.size:=fun x c e=>by
  obtain ⟨v,z⟩:=I.cell x c e;exact z.lt
 have fpLt:∀ b∈fp,b<s.heap.objs.size:=fun b hb=>by
  obtain ⟨o,e⟩:=hfo b hb;exact Heap.lt_size e
 have fst:∀ b∈fp,b∉frs X.stack:=fun b hb z=>by
  rcases List.mem_cons.mp (I.stkSub b z) with q | q
  ·exact (hf b hb).2.1 q
  ·exact (hf b hb).2.2.1 q
 have kindOf:∀ x,(cxC X scope cl T keep s H fp).env.kindOf x=(scope.names.lookup x).map fun k=>if (k == NameKind.free&&X.env.scope.kind == .function&&X.env.kindOf x == some .cell) then NameKind.cell else k:=fun x=>lookup_relabel
 refine ⟨⟨I.ok.mod,C.kind,I.ok.glob,I.ok.blt,nR1 _,fun x y c h1 h2=>?_,fun x hx=>?_,fun x c h1 h2=>?_,I.ok.hd,I.ok.frames,.inl rfl,fun b hb=>⟨nN1 (fpLt b hb),fun x c h z=>?_⟩,fun b o e=>I.bs b o e,Nat.le_trans I.ok.bsz I.sz,fun b o e hb=>?_,fst,I.stack,I.stkFree⟩,
  rfl,I.bare,Un.kept kept,⟨fun _=>none,(Heap.Ns.new s.heap (.type "dict")).keeps (pushCells_keeps _ _),fun i x v h1 h2 h3=>?_⟩,fun x c h=>?_,I.hok.fresh (nR1 _),fun x c h=>?_,fun p hp=>absurd (show p∈([]:List (Addr×Obj)) from hp) (by simp),I.hok.kept kept,?_⟩
 ·rcases cells x c h1 with ⟨a1,a2⟩ | a1<;>rcases cells y c h2 with ⟨b1,b2⟩ | b1
  ·exact name_of_addr cok.apart a2 b2
  ·exact absurd (Nat.lt_of_le_of_lt (Nat.le_of_succ_le a1) (oldLt y c b1)) (Nat.lt_irrefl _)
  ·exact absurd (Nat.lt_of_le_of_lt (Nat.le_of_succ_le b1) (oldLt x c a1)) (Nat.lt_irrefl _)
  ·exact I.ok.inj x y c a1 b1
 ·have hx':scope.names.lookup x=some .cell\/scope.names.lookup x=some .free:=by
   rw [kindOf x] at hx;cases e:scope.names.lookup x with
   | none=>rw [e] at hx;rcases hx with z | z<;>cases z
   | some k=>
    rw [e] at hx;simp only [oP1] at hx;cases k<;>simp_all
  have:((cellsFrom (s.heap.objs.size+1) scope.names cl).lookup x).isSome=true:=by
   rcases hx' with z | z
   ·exact PySem.W.cellsFrom_some _ _ _ (.inl z)
   ·exact PySem.W.cellsFrom_some _ _ _ (.inr (clo_has hcl (.inl z)))
  exact Option.isSome_iff_exists.mp this
 ·have h1':scope.names.lookup x=some .cell:=by simpa [cxC] using h1
  have:=cellsFrom_own h1' h2;exact Nat.le_trans (Nat.le_succ _) this
 ·subst z;rcases cells x c h with ⟨a1,_⟩ | a1
  ·exact absurd (Nat.lt_of_le_of_lt (Nat.le_of_succ_le a1) (fpLt c hb)) (Nat.lt_irrefl _)
  ·exact (hf c hb).2.2.2.2.1 x c a1 rfl
 ·rcases (hf b hb).2.2.2.1 with z | z
  ·exact I.ok.noex b o e z
  ·exact absurd (nL1 (Heap.lt_size e) (Nat.le_trans I.ok.bsz z)) (Nat.lt_irrefl _)
 ·-- a name of the block that has a value:one of the outer text's
  have hi:T.length<=i:=by
   refine Nat.le_of_not_lt fun hi=>?_;unfold inSt at h2;rw [gL1 (by rw [lR1];exact hi),List.getElem?_replicate] at h2;split at h2<;>cases h2
  unfold inSt at h2;rw [gR1 (by rw [lR1];exact hi),lR1,gP1] at h2;obtain ⟨j,ej,h2⟩:=oM1.mp h2;have h1':X.N.getD j (Str.ofString "")=x:=by
   have h1':(T++keep.map fun i=>X.N.getD i (Str.ofString ""))[i]? = some x:=h1;rw [gR1 hi,gP1,ej] at h1';exact Option.some.inj h1'
  obtain ⟨y,ey,fy,ky,ny⟩:=C.free j (gM1 ej);have exy:y=x:=by rw [<- h1',List.getD_eq_getElem?_getD,ey];rfl
  subst exy;have h2':σ[j]? = some (some v):=by
   cases e:σ[j]? with
   | none=>rw [e] at h2;cases h2
   | some o=>rw [e] at h2;cases h2;rfl
  obtain ⟨m,hn,hl⟩:=I.loc;obtain ⟨u,ru,lu⟩:=hl j y v ey h2' (by
   rcases ky with z | z
   ·exact .inr (.inl z)
   ·exact .inr (.inr z))
  refine ⟨u,ru,?_⟩;rcases lu with ⟨z,_⟩ | ⟨_,c,ec,zc⟩
  ·rcases ky with q | q<;>(rw [z] at q;cases q)
  ·right;refine ⟨?_,c,?_,zc.keeps kept⟩
   ·rw [kindOf,fy];simp only [oP1];split
    ·exact .inl rfl
    ·exact .inr rfl
   ·obtain ⟨c',e'⟩:=Option.isSome_iff_exists.mp (PySem.W.cellsFrom_some scope.names (s.heap.objs.size+1) cl (.inr (clo_has hcl (.inl fy))):((cellsFrom (s.heap.objs.size+1) scope.names cl).lookup y).isSome=true);have e2:(cellsFrom (s.heap.objs.size+1) scope.names cl).lookup y=some c':=e';rcases cells y c' e2 with ⟨a1,a2⟩ | a1
    ·-- an own cell of that name:its kind would be cell
     exfalso;have:∀ (names:List (Str×NameKind)) (n:Nat),(y,c')∈cellsFrom n names []->(y,NameKind.cell)∈names:=by
      have app:∀ (names:List (Str×NameKind)) (m:Nat) (acc:List (Str×Addr)),cellsFrom m names acc=cellsFrom m names []++acc:=by
       intro names
       induction names with
       | nil=>intro m acc;rfl
       | cons p r ih=>
        obtain ⟨z,q⟩:=p;intro m acc;unfold cellsFrom;split
        ·rw [ih _ ((z,m)::acc),ih _ [(z,m)],List.append_assoc];rfl
        ·exact ih m acc
      intro names
      induction names with
      | nil=>intro n h;cases h
      | cons p r ih=>
       obtain ⟨z,q⟩:=p;intro n h;unfold cellsFrom at h;split at h
       ·rename_i hq;rw [app] at h;rcases List.mem_append.mp h with h | h
        ·exact mC1 _ (ih _ h)
        ·have:(y,c')=(z,n):=by simpa using h
         cases this;have hq':q=NameKind.cell:=by simpa using hq
         subst hq';exact mS1
       ·exact mC1 _ (ih _ h)
     exact ny (this _ _ a2)
    ·rw [ec] at a1;cases a1;exact e2
 ·rcases cells x c h with ⟨a1,a2⟩ | a1
  ·exact ⟨_,(cok.empty x c a2).1⟩
  ·obtain ⟨v,z⟩:=I.cell x c a1;exact ⟨v,z.keeps kept⟩
 ·rcases cells x c h with ⟨a1,a2⟩ | a1
  ·exact I.hok.fresh (Nat.le_of_succ_le a1)
  ·exact I.freeC x c a1
 ·show (inSt T.length keep σ).length=(T++keep.map fun i=>X.N.getD i (Str.ofString "")).length;unfold inSt;rw [lA1,lA1,lR1,lM1,lM1]
noncomputable def turnT (p:Pos)(tg:Expr)(ifs:List Expr)(it:Value)(env:Env)(emit:Sem Unit)(c:Code):Sem PySem.Fin:=do
 standAt p
 match<-pyNext it with
 | none=>pure (.done .next)
 | some v=>
  letOwnedTupleGo tg it v
  assign tg env v
  let mut ok:=true
  for c in ifs do
   if ok then ok<-isTrue c env (eval c env)
  if ok then emit
  again c
noncomputable def emitE (elt:Expr)(acc:Value)(env:Env):Sem Unit:=do let _<-call (.builtin "list.append") [acc,<- eval elt env]
theorem turn_A (elt tg iter:Expr)(ifs:List Expr)(scope:Scope)(pos:Pos)(it acc:Value)(env:Env):
  compTurn (.ListComp elt [⟨tg,iter,ifs,0⟩] scope pos) 0 it acc env=turnT iter.pos tg ifs it env (emitE elt acc env) (.compLoop (.ListComp elt [⟨tg,iter,ifs,0⟩] scope pos) 0 it acc env):=by rfl
noncomputable def PIfs (X:Cx)(ifs:List Expr)(t:TT):Prop:=
 ∀ (pins:List (Addr×Obj)) (s:Shared) (σ:L2.St) (H:Hp) (Q:Bool->Hp->Prop),Inv X pins σ H s->t σ H Q ->
  wpAny (model X.prog X.w) X.A (forIn ifs true fun c r=>if r=true then do let ok<-isTrue c X.env (eval c X.env);pure (ForInStep.yield ok) else pure (ForInStep.yield r)) (TP X pins σ Q) X.xe s
theorem pifs_nil {X:Cx}:PIfs X [] (fun σ H Q=>Q true H):=fun pins s σ H Q I h=>wpAny_tests_nil ⟨H,I,h⟩
theorem pifs_one {X:Cx}{c:Expr}{t:TT}(h:PT X c t):PIfs X [c] t:=fun pins s σ H Q I q=>wpAny_tests_one (h pins s σ H Q I q)
noncomputable def PU (X:Cx)(m:Sem Unit)(t:TS):Prop:=
 ∀ (pins:List (Addr×Obj)) (s:Shared) (σ:L2.St) (H:Hp) (E:Ends),Inv X pins σ H s->t E σ H->wpAny (model X.prog X.w) X.A m (fun _ s'=>∃ σ' H',Inv X pins σ' H' s'/\E.nx σ' H') X.xe s
theorem comp_loop {X:Cx}(hx:X.xe=fun _ _=>False)(hc:X.calm=true){elt:Expr}{gens:List Comprehension}{scope:Scope}{pos p:Pos}{d:Nat}{tg:Expr}{ifs:List Expr}{acc:Value}{emit:Sem Unit}{J:It}{fp:List Addr}{it:Addr}{tn:Nat->Heap->Prop}{g:TG}{ti:TT}{tb:TS}
  (eq:compTurn (.ListComp elt gens scope pos) d (.ref it) acc X.env=turnT p tg ifs (.ref it) X.env emit (.compLoop (.ListComp elt gens scope pos) d (.ref it) acc X.env))
  (T:Turn X.prog X.w X.K tg J fp it tn) (hg:PG X tg g) (hi:PIfs X ifs ti) (he:PU X emit tb)
  {pins:List (Addr×Obj)} {s:Shared} {σ:L2.St} {H:Hp} {D:Ends} (I:Inv X pins σ H s) (st:tn 0 s.heap) (f2:∀ b∈fp,FpOk X pins H b)
  (h:∃ W:Nat->Nat->L2.St->Hp->Prop,(∃ m,W 0 m σ H) /\ ∀ i m σ H,W i m σ H ->
   (J.stop i H/\D.nx σ H)\/(J.go i H /\ ∃ N:L2.St->Hp->Prop,(∀ σ' H',N σ' H' -> ∃ m',m'<m/\W (i+1) m' σ' H') /\ ∀ x H',J.yld i H x H'->g x σ H' fun σ2 H2=>ti σ2 H2 fun b H3=>if b=true then tb {D with nx:=N} σ2 H3 else N σ2 H3)):
  codeAny (model X.prog X.w) X.A (.compLoop (.ListComp elt gens scope pos) d (.ref it) acc X.env) (fun r s'=>match r with | .ok _=>∃ σ' H',Inv X pins σ' H' s'/\D.nx σ' H' | .error _=>False) s:=by
 obtain ⟨W,⟨m0,w0⟩,turn⟩:=h;have stat:∀ {H':Hp},(∀ b∈fp,H' b=none) -> ∀ b∈fp,FpOk X pins H' b:=fun hn b hb=>⟨hn b hb,(f2 b hb).2⟩;refine codeAny_loop rfl (fun n s'=>∃ i σ' H',Inv X pins σ' H' s'/\tn i s'.heap/\(∀ b∈fp,H' b=none)/\W i n σ' H') ?_ m0 ⟨0,σ,H,I,st,fun b hb=>(f2 b hb).1,w0⟩;rintro n s3 ⟨i,σ3,H3,I3,st3,fr3,w3⟩;show wpAny _ _ ((compTurn (.ListComp elt gens scope pos) d (.ref it) acc X.env).onRaise (fun x=>do noteFrame x X.env;theTreesLotGoes x)) _ _ s3;refine wpAny_noted ?_;rw [eq];have no:∀ {α:Type} {m:Sem α} {Q:α->Shared->Prop} {s:Shared} {E:Value->Shared->Prop},wpAny (model X.prog X.w) X.A m Q X.xe s->wpAny (model X.prog X.w) X.A m Q E s:=fun h=>by
  rw [hx] at h;exact wpAny_mono h (fun _ _ q=>q) fun _ _ q=>q.elim
 unfold turnT;refine wB1 (wpAny_standAt (wB1 ?_));rcases turn i n σ3 H3 w3 with ⟨stop,qn⟩ | ⟨go,N,hN,step⟩
 ·refine no (thn (T.done X rfl rfl rfl hc i pins s3 σ3 H3 X.xe I3 (stat fr3) st3 stop) fun r s4 ⟨hr,I4⟩=>?_);subst hr;exact wP1 ⟨σ3,H3,I4,qn⟩
 ·refine no (thn (T.item X rfl rfl rfl hc i pins s3 σ3 H3 X.xe I3 (stat fr3) st3 go) fun r s4 ⟨u,hr,h4⟩=>?_);subst hr;refine wB1 (no (thn h4 fun _ s5 ⟨x,H5,I5,r5,y5,st5,fr5⟩=>?_));have I5':=I5.pinned (stat fr5) (T.obj _ _ st5);refine wB1 (no (thn (hg _ s5 σ3 H5 x u _ I5' r5 (step x H5 y5)) fun _ s6 ⟨σ6,H6,I6,q6⟩=>?_));refine wB1 (no (thn (hi _ s6 σ6 H6 _ I6 q6) fun ok s7 ⟨H7,I7,q7⟩=>?_));have again':∀ {σ7:L2.St} {H7:Hp} {s7:Shared},Inv X (pins++pinsAt fp s5.heap) σ7 H7 s7->N σ7 H7 -> ∃ m,m<n /\ ∃ i σ' H',Inv X pins σ' H' s7/\tn i s7.heap/\(∀ b∈fp,H' b=none)/\W i m σ' H':=fun {σ7 H7 s7} I7 n7=>by
   obtain ⟨m',hm,w7⟩:=hN σ7 H7 n7;refine ⟨m',hm,i+1,σ7,H7,I7.unpinned,T.keep _ _ _ st5 fun b hb o e=>(I7.pin (b,o) (mA1 _ (mA1 _ (mem_pinsAt hb e)))).1,fun b hb=>?_,w7⟩;obtain ⟨o,e,d⟩:=T.obj _ _ st5 b hb;exact (I7.pin (b,o) (mA1 _ (mA1 _ (mem_pinsAt hb e)))).2.1
  cases ok with
  | false=>exact wP1 ⟨rfl,again' I7 q7⟩
  | true=>exact wB1 (no (thn (he _ s7 σ6 H7 _ I7 q7) fun _ s8 ⟨σ8,H8,I8,q8⟩=>wP1 ⟨rfl,again' I8 q8⟩))
noncomputable def tEmit (p:Addr)(te:TE):TS:=fun D σ H=>te σ H fun x H1=>∃ xs,H1 p=some (.lst xs)/\xs.length<sizeLine/\D.nx σ (upd H1 p (.lst (xs++[x])))
theorem pu_emit {X:Cx}{elt:Expr}{te:TE}(h:PE X elt te)(p:Addr):PU X (emitE elt (.ref p) X.env) (tEmit p te):=by
 intro pins s σ H E I q;unfold emitE;refine wB1 (thn (h pins s σ H _ I q) fun u s1 ⟨x,H1,I1,r1,xs,e1,hl,q1⟩=>?_);refine wB1 (thn (mt_append pins s1 σ H1 (.ref p) [x] (.ref p) [u] (fun _ H'=>E.nx σ H') I1 rfl (.cons r1 .nil) ⟨p,xs,x,rfl,rfl,e1,hl,q1⟩) fun _ s2 ⟨_,H2,I2,_,q2⟩=>?_);exact wP1 ⟨σ,H2,I2,q2⟩
noncomputable def tLoop (J:It)(g:TG)(ti:TT)(tb:TS):TS:=fun D σ H=>∃ W:Nat->Nat->L2.St->Hp->Prop,(∃ m,W 0 m σ H) /\ ∀ i m σ H,W i m σ H ->
 (J.stop i H/\D.nx σ H)\/(J.go i H /\ ∃ N:L2.St->Hp->Prop,(∀ σ' H',N σ' H' -> ∃ m',m'<m/\W (i+1) m' σ' H') /\ ∀ x H',J.yld i H x H'->g x σ H' fun σ2 H2=>ti σ2 H2 fun b H3=>if b=true then tb {D with nx:=N} σ2 H3 else N σ2 H3)
theorem Un.sameBut {fs ex:List Addr}{H H':Hp}{h h1 h2:Heap}{c:Addr}(u:Un fs ex H H' h h1)(hs:Heap.SameBut c h1 h2)(hc:h.get? c=none):Un fs ex H H' h h2:=by
 have ne:∀ {b o},h.get? b=some o->b≠c:=fun e z=>by rw [z,hc] at e;cases e
 refine ⟨fun b o e n hb hx=>(hs.2 b (ne e)).trans (u.keep b o e n hb hx),fun b o e n hb hx=>?_,u.free,fun b o e hx=>?_,u.tups,u.frzs,u.tbls⟩
 ·obtain ⟨sl,q⟩:=u.slot b o e n hb hx;exact ⟨sl,(hs.2 b (ne e)).trans q⟩
 ·obtain ⟨o',q⟩:=u.there b o e hx;exact ⟨o',(hs.2 b (ne e)).trans q⟩
noncomputable def tComp (k:Nat)(keep:List Nat)(wi:TI)(g:TG)(ti:TT)(tb:Addr->TS):TE:=fun σ H Q=>wi σ H fun J H1=>∀ p,H1 p=none ->
 tLoop J g ti (tb p) {nx:=fun _ H'=>Q (.ref p) H',rt:=fun _ _=>False} (inSt k keep σ) (upd H1 p (.lst []))
theorem pe_comp {X:Cx}(hc:X.calm=true){elt tg iter:Expr}{ifs:List Expr}{rest:List Comprehension}{scope:Scope}{pos:Pos}{T:List Str}{keep:List Nat}{cl:List (Str×Addr)}{wi:TI}{g:TG}{ti:TT}{tb:Addr->TS}{emit:Value->Env->Sem Unit}
  (eq:∀ it acc env,compTurn (.ListComp elt (⟨tg,iter,ifs,0⟩::rest) scope pos) 0 it acc env=turnT iter.pos tg ifs it env (emit acc env) (.compLoop (.ListComp elt (⟨tg,iter,ifs,0⟩::rest) scope pos) 0 it acc env))
  (C:CSc X scope T keep) (hcl:cloF X.env.cells scope.names []=some cl) (hi:PI X tg iter wi)
  (hb:∀ s H fp p,PG (cxC X scope cl T keep s H fp) tg g/\PIfs (cxC X scope cl T keep s H fp) ifs ti/\PU (cxC X scope cl T keep s H fp) (emit (.ref p) (cxC X scope cl T keep s H fp).env) (tb p))
  (hs:∀ x,foldedSetIterable iter X.env x=pure x:=by intro _;rfl):
  PE X (.ListComp elt (⟨tg,iter,ifs,0⟩::rest) scope pos) (tComp T.length keep wi g ti tb):=by
 intro pins s σ H Q I h;rw [eval_ListComp];refine wpAny_comprehension_free (use:=none) rfl hs (clo_eq hcl) C.kind C.names ?_;refine thn (hi pins s σ H _ I h) fun v s1 h1=>thn h1 fun itv s2 h2=>?_;obtain ⟨it,fp,tn,J,H2,rfl,I2,TT,st2,f2,q2⟩:=h2;refine wO1 ?_;have I3:Inv X pins σ (upd H2 s2.heap.objs.size (.lst [])) {s2 with heap:=s2.heap.push {cls:=.type "list",data:=.seq ([]:List Value).toArray}}:=I2.lnew (t':=s2.toks) .nil (Nat.zero_le _);have old:∀ b∈fp,∃ o,s2.heap.get? b=some o:=fun b hb=>by
  obtain ⟨o,e,_⟩:=TT.obj 0 s2.heap st2 b hb;exact ⟨o,e⟩
 have fne:∀ b∈fp,b≠s2.heap.objs.size:=fun b hb z=>by
  obtain ⟨o,e⟩:=old b hb;have:=Heap.lt_size e;rw [z] at this;exact Nat.lt_irrefl _ this
 have f3:∀ b∈fp,FpOk X pins (upd H2 s2.heap.objs.size (.lst [])) b:=fun b hb=>⟨by rw [upd_ne (fne b hb)];exact (f2 b hb).1,(f2 b hb).2⟩;have o3:∀ b∈fp,∃ o,({s2 with heap:=s2.heap.push {cls:=.type "list",data:=.seq ([]:List Value).toArray}}:Shared).heap.get? b=some o:=fun b hb=>by
  obtain ⟨o,e⟩:=old b hb;exact ⟨o,hP1 _ e⟩
 have I4:=inv_comp I3 C hcl f3 o3;obtain ⟨hg,hf,he⟩:=hb {s2 with heap:=s2.heap.push {cls:=.type "list",data:=.seq ([]:List Value).toArray}} (upd H2 s2.heap.objs.size (.lst [])) fp s2.heap.objs.size;refine newEnv_around ?_;have f4:∀ b∈fp,FpOk (cxC X scope cl T keep {s2 with heap:=s2.heap.push {cls:=.type "list",data:=.seq ([]:List Value).toArray}} (upd H2 s2.heap.objs.size (.lst [])) fp) [] (upd H2 s2.heap.objs.size (.lst [])) b:=fun b hb=>
  ⟨(f3 b hb).1,(I4.ok.exf b hb).1,I4.ok.exfs b hb,.inl hb,(I4.ok.exf b hb).2,fun p hp=>absurd (show p∈([]:List (Addr×Obj)) from hp) (by simp)⟩
 have st4:tn 0 (pushCells ((s2.heap.push {cls:=.type "list",data:=.seq ([]:List Value).toArray}).push {cls:=.type "dict",data:=.dict #[]}) scope.names):=
  TT.keep 0 s2.heap _ st2 fun b hb o e=>pushCells_keeps scope.names _ b o (hP1 _ (hP1 _ e))
 have loop:=comp_loop (X:=cxC X scope cl T keep {s2 with heap:=s2.heap.push {cls:=.type "list",data:=.seq ([]:List Value).toArray}} (upd H2 s2.heap.objs.size (.lst [])) fp) rfl hc (eq (.ref it) (.ref s2.heap.objs.size) _) TT hg hf he I4 st4 f4
  (q2 s2.heap.objs.size (I2.hok.fresh (nR1 _)))
 refine codeAny_mono (codeAny_compStart_list loop (TT.self X.A 0 _ _ _ st4 loop)) fun r s' hr=>?_;cases r with
 | error e=>exact hr.elim
 | ok f=>
  obtain ⟨σ',H',I',q'⟩:=hr;obtain ⟨m,hn,_⟩:=id I'.loc;refine ⟨m,hn,fun h' hs'=>⟨.ref s2.heap.objs.size,H',?_,rfl,q'⟩⟩;refine I3.call' (s':={s' with heap:=h'}) (ch:=fp) I'.os (Un.sameBut I'.base hs' (Heap.get?_none_of_le (nR1 _))) (fun b ob e=>?_) I'.bare fun b hb=>(f3 b hb).2.2.2 |> fun z=>⟨z.1,(f3 b hb).2.1,z.2.1,z.2.2⟩
  refine (I'.hok b ob e).stay (fun c w' hc q=>(hs'.2 c ?_).trans q) (fun _ q=>q) fun _ _ q=>q;rintro rfl;have fr:=I'.free;rcases hc with rfl | hc
  ·exact nomatch fr.symm.trans e
  ·exact nomatch fr.symm.trans hc
section
variable {K:Fg1} {H:Hp} {mu:List Addr} {S:Sto} {p:Addr} {u:HO} {o:Ob} {n:Nat}
theorem Rd.ne {a:Addr}{x:HO}(h:H p=none)(q:Rd H a x):a≠p:=by
 rintro rfl;rcases q with q | ⟨_,q⟩<;>(rw [h] at q;cases q)
theorem Ext.fresh (hp:H p=none):Ext mu mu H (upd H p u) where
 pre:=List.prefix_rfl
 old:=fun a o h _=>by rw [upd_ne (ne_of_none h hp)];exact h
 tup:=fun a xs h=>by
  have ne:=Rd.ne hp h;rcases h with h | ⟨ob,h⟩
  ·exact .inl (by rw [upd_ne ne];exact h)
  ·exact .inr ⟨ob,by rw [upd_ne ne];exact h⟩
 frz:=fun a o x h=>by rw [upd_ne (ne_of_none h hp)];exact h
 new:=fun _ h=>.inl h
theorem Ext.new_ (hp:H p=none):Ext mu (mu++[p]) H (upd H p u) where
 pre:=List.prefix_append _ _
 old:=(Ext.fresh (mu:=mu) hp).old
 tup:=(Ext.fresh (mu:=mu) hp).tup
 frz:=(Ext.fresh (mu:=mu) hp).frz
 new:=fun a h=>by
  rcases List.mem_append.mp h with h | h
  ·exact .inl h
  ·have:a=p:=by simpa using h
   subst this;exact .inr hp
theorem Sim.fresh (s:Sim K H mu S)(hp:H p=none):Sim K (upd H p u) mu S:=
 ⟨s.len,s.nd,fun k o a h1 h2=>(s.ob k o a h1 h2).keep (Ext.fresh hp) fun ob e=>by rw [upd_ne (ne_of_none e hp)];exact e⟩
theorem Sim.notin (s:Sim K H mu S)(hp:H p=none):p∉mu:=fun h=>by
 obtain ⟨o,e⟩:=s.here h;rw [hp] at e;cases e
theorem ObR.more {a:Addr}{mu':List Addr}{H':Hp}(e:Ext mu mu' H H')(h:∀ o,H a=some o->H' a=some o):∀ {o:Ob},ObR K H mu a o->ObR K H' mu' a o
 | .lst _,⟨vs,q,r⟩=>⟨vs,h _ q,r.ext e⟩
 | .dct _,⟨ws,q,r⟩=>⟨ws,h _ q,KR.ext e r⟩
 | .dcT _,⟨ws,q,r,l⟩=>⟨ws,h _ q,KT.ext e r,l⟩
 | .iset _,q=>⟨h _ q.1,q.2⟩
 | .dcF _,⟨ws,⟨o,u,e1,e2⟩,r,l⟩=>⟨ws,⟨o,u,h _ e1,e2⟩,KT.ext e r,l⟩
 | .tst _,⟨ws,q,r⟩=>⟨ws,h _ q,KT.ext e r⟩
theorem Sim.new (s:Sim K H mu S)(hp:H p=none)(ho:ObR K (upd H p u) (mu++[p]) p o):Sim K (upd H p u) (mu++[p]) (S++[o]):=by
 refine ⟨by rw [lA1,lA1,s.len];rfl,?_,fun k o' a h1 h2=>?_⟩
 ·rw [List.nodup_append];refine ⟨s.nd,by simp,fun a ha b hb e=>?_⟩;have:b=p:=by simpa using hb
  subst this;subst e;exact s.notin hp ha
 ·by_cases hk:k<S.length
  ·rw [gL1 hk] at h1;rw [gL1 (by rw [s.len];exact hk)] at h2;exact (s.ob k o' a h1 h2).more (Ext.new_ hp) fun ob e=>by rw [upd_ne (ne_of_none e hp)];exact e
  ·have hk':k=S.length:=by
    have:=(gE1.mp h1).1;rw [lA1] at this;simp at this;lia
   subst hk';rw [gR1 (nR1 _)] at h1;rw [<- s.len,gR1 (nR1 _)] at h2;simp at h1 h2;subst h1;subst h2;exact ho
theorem Ext.put {x:HO}(hp:H p=some x)(hm:Mut (some x))(hin:p∈mu):Ext mu mu H (upd H p u) where
 pre:=List.prefix_rfl
 old:=fun a o h n=>by rw [upd_ne (fun e=>n (by rw [e];exact hin))];exact h
 tup:=fun a xs h=>by
  have ne:a≠p:=by
   rintro rfl;rcases h with h | ⟨_,h⟩<;>(rw [hp] at h;cases h;exact hm)
  rcases h with h | ⟨ob,h⟩
  ·exact .inl (by rw [upd_ne ne];exact h)
  ·exact .inr ⟨ob,by rw [upd_ne ne];exact h⟩
 frz:=fun a o y h=>by
  rw [upd_ne (fun e=>?_)]
  ·exact h
  ·subst e;rw [hp] at h;cases h;exact hm
 new:=fun _ h=>.inl h
theorem Sim.put (s:Sim K H mu S){x:HO}(hn:mu[n]? = some p)(hp:H p=some x)(hm:Mut (some x))(ho:ObR K (upd H p u) mu p o):Sim K (upd H p u) mu (S.set n o):=by
 refine ⟨by rw [List.length_set];exact s.len,s.nd,fun k o' a h1 h2=>?_⟩;by_cases hk:n=k
 ·subst hk;have hl:n<S.length:=by
   have:=(gE1.mp h1).1
   rwa [List.length_set] at this
  rw [List.getElem?_set_self hl] at h1;cases h1;rw [hn] at h2;cases h2;exact ho
 ·rw [gS1 hk] at h1;have ne:a≠p:=fun e=>by
   subst e;obtain ⟨l1,e1⟩:=gE1.mp hn;obtain ⟨l2,e2⟩:=gE1.mp h2;exact hk ((List.getElem_inj s.nd).mp (e1.trans e2.symm))
  exact (s.ob k o' a h1 h2).keep (Ext.put hp hm (gM1 hn)) fun ob e=>by rw [upd_ne ne];exact e
theorem Sim.lst (s:Sim K H mu S){ds:List D}{a:Addr}(h:S[n]? = some (.lst ds))(hn:mu[n]? = some a):∃ vs,H a=some (.lst vs)/\Reps K H mu ds vs:=s.ob n _ a h hn
theorem Sim.dcT (s:Sim K H mu S){ks:List (TK×D)}{a:Addr}(h:S[n]? = some (.dcT ks))(hn:mu[n]? = some a):∃ ws,H a=some (.ext (DictAt a ws))/\KT K H mu ks ws/\ws.length<=sizeLine:=s.ob n _ a h hn
theorem Sim.dct (s:Sim K H mu S){ks:List (Key×D)}{a:Addr}(h:S[n]? = some (.dct ks))(hn:mu[n]? = some a):∃ ws,H a=some (.dK ws)/\KR K H mu ks ws:=s.ob n _ a h hn
theorem Sim.newL (s:Sim K H mu S){ds:List D}{vs:List V}(r:Reps K H mu ds vs)(hp:H p=none):Sim K (upd H p (.lst vs)) (mu++[p]) (S++[.lst ds]):=s.new hp ⟨vs,upd_same,r.ext (Ext.new_ hp)⟩
theorem Sim.putL (s:Sim K H mu S){ds:List D}{vs ws:List V}(r:Reps K H mu ds vs)(hn:mu[n]? = some p)(hp:H p=some (.lst ws)):Sim K (upd H p (.lst vs)) mu (S.set n (.lst ds)):=
 s.put hn hp trivial ⟨vs,upd_same,r.ext (Ext.put hp trivial (gM1 hn))⟩
end
theorem new_at {mu:List Addr}{S:Sto}(h:mu.length=S.length)(p:Addr):(mu++[p])[S.length]? = some p:=by
 rw [<- h,gR1 (nR1 _)];simp
noncomputable def mTup (a:FA):FE:=fun r S=>(a r S).bind fun p=>if p.1.length<=sizeLine then some (.tup p.1,p.2) else none
noncomputable def mLst (a:FA):FE:=fun r S=>(a r S).bind fun p=>if p.1.length<=sizeLine then some (.ref p.2.length,p.2++[.lst p.1]) else none
section
variable {X:Cx} {es:List Expr} {pos:Pos} {a:FA}
theorem me_tup {x1}(h:MA X es a):ME X (.Tuple es x1 pos) (mTup a):=pe_imp (pe_tup h) <| by
 rintro σ H Q ⟨r,mu,S,d,S',he,hs,hm,hc⟩;obtain ⟨⟨ds,S1⟩,e1,hm⟩:=oB1.mp hm;dsimp only at hm;split at hm
 ·rename_i hl;cases hm;refine ⟨r,mu,S,ds,_,he,hs,e1,fun vs H1 mu1 x1 r1 s1=>⟨by rw [<- r1.length];exact hl,fun p hp=>?_⟩⟩;exact hc _ _ mu1 (x1.trans (Ext.fresh hp)) (.tup (SqT.of upd_same) (r1.ext (Ext.fresh hp))) (s1.fresh hp)
 ·cases hm
theorem me_lst (h:MA X es a):ME X (.List es pos) (mLst a):=pe_imp (pe_lst h) <| by
 rintro σ H Q ⟨r,mu,S,d,S',he,hs,hm,hc⟩;obtain ⟨⟨ds,S1⟩,e1,hm⟩:=oB1.mp hm;dsimp only at hm;split at hm
 ·rename_i hl;cases hm;refine ⟨r,mu,S,ds,_,he,hs,e1,fun vs H1 mu1 x1 r1 s1=>⟨by rw [<- r1.length];exact hl,fun p hp=>?_⟩⟩;exact hc _ _ (mu1++[p]) (x1.trans (Ext.new_ hp)) (.ref (new_at s1.len p)) (s1.newL r1 hp)
 ·cases hm
end
noncomputable def inEv (k:Nat)(keep:List Nat)(r:Ev):Ev:=List.replicate k none++keep.map fun i=>(r[i]?).join
noncomputable def mTrue:FT:=fun _ S=>some (true,S)
theorem inEnv {K:Fg1}{H:Hp}{mu:List Addr}{r:Ev}{σ:L2.St}(k:Nat)(keep:List Nat)(h:EnvR K H mu r σ):EnvR K H mu (inEv k keep r) (inSt k keep σ):=by
 refine ⟨by unfold inEv inSt;rw [lA1,lA1,lM1,lM1,lR1,lR1],fun i d e=>?_⟩;unfold inEv at e;unfold inSt;by_cases hi:i<k
 ·rw [gL1 (by rw [lR1];exact hi),List.getElem?_replicate] at e;split at e<;>cases e
 ·rw [gR1 (by rw [lR1];lia),lR1,gP1] at e;rw [gR1 (by rw [lR1];lia),lR1,gP1];obtain ⟨j,ej,e⟩:=oM1.mp e;rw [ej];have e':r[j]? = some (some d):=by
   cases q:r[j]? with
   | none=>rw [q] at e;cases e
   | some o=>rw [q] at e;cases e;rfl
  obtain ⟨v,ev,rv⟩:=h.val j d e';exact ⟨v,by rw [oP1,ev];rfl,rv⟩
section
variable {X:Cx}
theorem pifs_imp {ifs:List Expr}{t t':L2.TT}(h:PIfs X ifs t)(i:∀ σ H Q,t' σ H Q->t σ H Q):PIfs X ifs t':=fun pins s σ H Q I q=>h pins s σ H Q I (i σ H Q q)
theorem mif_nil:PIfs X [] (tMT X.K mTrue):=pifs_imp pifs_nil fun σ H Q ⟨r,mu,S,b,S',he,hs,hm,hc⟩=>by cases hm;exact hc H mu (.refl _ _) hs
theorem mif_one {c:Expr}{t:FT}(h:MT X c t):PIfs X [c] (tMT X.K t):=pifs_one h
end
open PySem.AutoSeq1 (wpAny_loadPart')
noncomputable def SIt (b:Bool)(h:Heap)(it a:Addr)(i:Nat):Prop:=match b with
 | true=>h.IsListIter it a i
 | false=>h.IsTupleIter it a i
noncomputable def SCo (b:Bool)(h:Heap)(a:Addr)(xs:Array Value):Prop:=match b with
 | true=>h.IsList a xs
 | false=>h.IsTuple a xs
theorem SIt.to {b:Bool}{h h':Heap}{it a:Addr}{i:Nat}(x:SIt b h it a i)(k:∀ o,h.get? it=some o->h'.get? it=some o):SIt b h' it a i:=by
 cases b<;>(obtain ⟨o,e,r⟩:=x;exact ⟨o,k o e,r⟩)
theorem SIt.rec_ {b:Bool}{h:Heap}{it a:Addr}{i:Nat}(x:SIt b h it a i):∃ o,h.get? it=some o /\ ∀ v,o.data ≠ .cell v:=by
 cases b<;>(obtain ⟨o,e,c,d⟩:=x;exact ⟨o,e,fun v z=>by rw [d] at z;cases z⟩)
theorem SCo.to {b:Bool}{h h':Heap}{a:Addr}{xs:Array Value}(x:SCo b h a xs)(k:∀ o,h.get? a=some o->h'.get? a=some o):SCo b h' a xs:=by
 cases b<;>(obtain ⟨o,e,r⟩:=x;exact ⟨o,k o e,r⟩)
noncomputable def itObj (b:Bool)(a:Addr):Obj:=match b with
 | true=>{cls:=.type "list_iterator",data:=.fields #[.ref a,.int 0 0]}
 | false=>{cls:=.type "tuple_iterator",data:=.fields #[.ref a,.int 0 0]}
section
variable {prog:Program} {w:World} {A:Around} {E:Value->Shared->Prop} {s:Shared}
theorem sit_new {b:Bool}{h:Heap}{it a:Addr}(e:h.get? it=some (itObj b a)):SIt b h it a 0:=by
 cases b<;>exact ⟨_,e,rfl,rfl⟩
theorem sit_iter {b:Bool}{a:Addr}{xs:Array Value}{Q:Value->Shared->Prop}(x:SCo b s.heap a xs)(h:Q (.ref s.heap.objs.size) {s with heap:=s.heap.push (itObj b a)}):wpAny (model prog w) A (pyIter (.ref a)) Q E s:=by
 cases b
 ·exact wpAny_pyIter_tuple x h
 ·exact wpAny_pyIter_list x h
theorem next_tup {it l:Addr}{i:Nat}{xs:Array Value}{x:Value}{Q:Value->Shared->Prop}(ti:s.heap.IsTupleIter it l i)(tl:s.heap.IsTuple l xs)(hx:xs[i]? = some x)
  (hQ:∀ h',h'.IsTupleIter it l (i+1)->Heap.SameBut it s.heap h'->Q x {s with heap:=h'}):wpAny (model prog w) A (Builtin.SmallTypes.nextOf (.ref it)) Q E s:=by
 obtain ⟨o,ho,hc,hd⟩:=id ti;obtain ⟨ob,hob,_,nb,hdb⟩:=tl;unfold Builtin.SmallTypes.nextOf;refine wB1 (wpAny_callSpecial?_slot (name:=Str.ofString "__next__") ti.typeIs F.slot_tuple_iterator_next (wE1 F.slot_tuple_iterator_next ti.typeIs F.entry_tuple_iterator_next ?_ (F.args_tuple_iterator_next_1 _)));show wpAny _ _ (field (.ref it) 0 >>= _) _ _ s;refine wB1 (wpAny_field ho hd (x:=.ref l) rfl ?_);show wpAny _ _ (if (Value.ref l == Value.none)=true then _ else _) _ _ s;rw [if_neg (show ¬ ((Value.ref l == Value.none)=true) from Bool.false_ne_true)];show wpAny _ _ (field (.ref it) 1 >>= _) _ _ s;refine wB1 (wpAny_field ho hd (x:=.int i 0) rfl ?_);show wpAny _ _ (seqItems? (.ref l) >>= _) _ _ s;refine wB1 (wpAny_seqItems hob hdb ?_);simp only [Int.toNat_natCast,hx];refine wB1 (wpAny_setField ho hd (by simp) (wP1 ⟨x,rfl,wP1 (hQ _ ⟨_,hW1 _ ho (Obj.isFreed_of_fields (Obj.data_mapFields hd _)),(Obj.cls_mapFields ..).trans hc,by rw [Obj.data_mapFields hd];simp [rawInt]⟩ (Heap.SameBut.update ..))⟩))
theorem next_tup_end {it l:Addr}{i:Nat}{xs:Array Value}{Q:Value->Shared->Prop}(hh:A.handled=none)(ti:s.heap.IsTupleIter it l i)(tl:s.heap.IsTuple l xs)(hx:xs[i]? = none)
  (hE:∀ h' e,Heap.ExtBut it s.heap h'->(∃ o,h'.get? e=some o/\o.cls = .type "StopIteration")->E (.ref e) {s with heap:=h'}):wpAny (model prog w) A (Builtin.SmallTypes.nextOf (.ref it)) Q E s:=by
 obtain ⟨o,ho,hc,hd⟩:=id ti;obtain ⟨ob,hob,_,nb,hdb⟩:=tl;unfold Builtin.SmallTypes.nextOf;refine wB1 (wpAny_callSpecial?_slot (name:=Str.ofString "__next__") ti.typeIs F.slot_tuple_iterator_next (wE1 F.slot_tuple_iterator_next ti.typeIs F.entry_tuple_iterator_next ?_ (F.args_tuple_iterator_next_1 _)));show wpAny _ _ (field (.ref it) 0 >>= _) _ _ s;refine wB1 (wpAny_field ho hd (x:=.ref l) rfl ?_);show wpAny _ _ (if (Value.ref l == Value.none)=true then _ else _) _ _ s;rw [if_neg (show ¬ ((Value.ref l == Value.none)=true) from Bool.false_ne_true)];show wpAny _ _ (field (.ref it) 1 >>= _) _ _ s;refine wB1 (wpAny_field ho hd (x:=.int i 0) rfl ?_);show wpAny _ _ (seqItems? (.ref l) >>= _) _ _ s;refine wB1 (wpAny_seqItems hob hdb ?_);simp only [Int.toNat_natCast,hx];refine wB1 (wpAny_rule (wB1 (wpAny_setField ho hd (by simp) ?_)));show wpAny _ _ (newExc (.type "StopIteration") [] >>= _) _ _ _;refine wB1 ?_;simp only [newExc,newTuple];refine wB1 (wO1 ?_ (by size_fits));refine wB1 (m:=firstArgMember _ _) (wpAny_of_eq (a:=Value.none) (by first | rfl | (simp only [firstArgMember];rfl)) ?_);refine wO1 ?_ (by size_fits);simp only [raiseNew];refine wB1 (wpAny_handled ?_)
 first | rw [show A.in1.handled=none from hh] | rw [hh]
 refine wB1 (wP1 (wpAny_throw ?_));exact hE _ _ (((Heap.SameBut.update ..).extBut.push _).push _) ⟨_,hS1 _ rfl,rfl⟩
theorem next_seq {b:Bool}{it l:Addr}{i:Nat}{xs:Array Value}{x:Value}{Q:Value->Shared->Prop}(ti:SIt b s.heap it l i)(tl:SCo b s.heap l xs)(hx:xs[i]? = some x)
  (hQ:∀ h',SIt b h' it l (i+1)->Heap.SameBut it s.heap h'->Q x {s with heap:=h'}):wpAny (model prog w) A (Builtin.SmallTypes.nextOf (.ref it)) Q E s:=by
 cases b
 ·exact next_tup ti tl hx hQ
 ·exact wpAny_nextOf_list_item ti tl hx hQ
theorem next_seq_end {b:Bool}{it l:Addr}{i:Nat}{xs:Array Value}{Q:Value->Shared->Prop}(hh:A.handled=none)(ti:SIt b s.heap it l i)(tl:SCo b s.heap l xs)(hx:xs[i]? = none)
  (hE:∀ h' e,Heap.ExtBut it s.heap h'->(∃ o,h'.get? e=some o/\o.cls = .type "StopIteration")->E (.ref e) {s with heap:=h'}):wpAny (model prog w) A (Builtin.SmallTypes.nextOf (.ref it)) Q E s:=by
 cases b
 ·exact next_tup_end hh ti tl hx hE
 ·exact wpAny_nextOf_list_end hh ti tl hx hE
end
open PySem.AutoSeq1 (wpAny_loadPart')
structure Zap (z ti to i1 i2:Addr):Prop where
 a1:ti≠z
 a2:to≠z
 a3:i1≠z
 a4:i2≠z
 a5:ti≠to
 a6:ti≠i1
 a7:ti≠i2
 a8:to≠i1
 a9:to≠i2
 a10:i1≠i2
section
variable {prog:Program} {w:World} {A:Around} {E:Value->Shared->Prop} {s:Shared} {b1 b2:Bool}
theorem SCo.ne {b:Bool}{h:Heap}{a c:Addr}{xs:Array Value}{o:Obj}(x:SCo b h a xs)(e:h.get? c=some o)(n:∀ ys k,o.data ≠ .seq ys k):a≠c:=by
 rintro rfl;cases b<;>(obtain ⟨o',e',c',k,d⟩:=x;rw [e] at e';cases e';exact n _ _ d)
theorem SCo.ne_it {b b':Bool}{h:Heap}{a it l:Addr}{xs:Array Value}{i:Nat}(x:SCo b h a xs)(y:SIt b' h it l i):a≠it:=by
 cases b'<;>(obtain ⟨o,e,c,d⟩:=y;exact x.ne e fun ys k z=>by rw [d] at z;cases z)
theorem zip_step {z ti to i1 i2 l1 l2:Addr}{k1 k2:Nat}{xs ys:Array Value}{x y a b:Value}{Q:Option Value->Shared->Prop}(D:Zap z ti to i1 i2)(hz:IsZip s.heap z ti to .none)(hti:IsPair s.heap ti (.ref i1) (.ref i2))(hto:IsPair s.heap to a b)
  (n1:l1≠to) (n2:l2≠to) (h1:SIt b1 s.heap i1 l1 k1) (h2:SIt b2 s.heap i2 l2 k2) (c1:SCo b1 s.heap l1 xs) (c2:SCo b2 s.heap l2 ys) (hx:xs[k1]? = some x) (hy:ys[k2]? = some y)
  (hQ:∀ h',IsZip h' z ti to (rawInt s.heap.objs.size)->IsPair h' to x y->SIt b1 h' i1 l1 (k1+1)->SIt b2 h' i2 l2 (k2+1)->IsPair h' s.heap.objs.size x y->h'.objs.size=s.heap.objs.size+1 ->
   (∀ c o,c≠z->c≠to->c≠i1->c≠i2->s.heap.get? c=some o->h'.get? c=some o)->Q (some (.ref s.heap.objs.size)) {s with heap:=h'}):wpAny (model prog w) A (pyNext (.ref z)) Q E s:=by
 have hT:s.TypeIs (.ref z) "zip":=⟨_,hz,rfl⟩;have l1z:l1≠z:=c1.ne hz fun _ _ q=>by cases q
 have l2z:l2≠z:=c2.ne hz fun _ _ q=>by cases q
 have l2i1:l2≠i1:=c2.ne_it h1;unfold pyNext;refine wB1 (wpAny_attempt (wpAny_callSpecial?_slot (name:=Str.ofString "__next__") hT F.slot_zip_next (wE1 F.slot_zip_next hT F.entry_zip_next ?_ (F.args_zip_next_1 _))));show wpAny _ _ (field (.ref z) 2 >>= _) _ _ _;refine wB1 (wpAny_field hz rfl (x:=.bool false) rfl ?_);show wpAny _ _ (field (.ref z) 3 >>= _) _ _ _;refine wB1 (wpAny_field hz rfl (x:=.ref ti) rfl ?_);refine wB1 (wpAny_seqItems hti rfl ?_);show wpAny _ _ (Builtin.SmallTypes.ownedTupleIsFree (.ref z) >>= _) _ _ _;refine wB1 ?_;unfold Builtin.SmallTypes.ownedTupleIsFree;refine wB1 (wpAny_field hz rfl (x:=.none) rfl (wP1 ?_));simp only [if_true];refine wB1 (wpAny_rule ?_);refine wB1 (wpAny_field hz rfl (x:=.ref to) rfl ?_);refine wB1 (wS1 hz (by simp) fun g1 hz1 s1=>?_);replace hz1:IsZip g1 z ti to .ellipsis:=hz1;refine wB1 ?_;simp only [List.zipIdx_cons,List.zipIdx_nil,List.forIn_cons,List.forIn_nil];refine wB1 (wB1 (wpAny_onRaise ?_));show wpAny _ _ (Builtin.SmallTypes.nextOf (.ref i1) >>= _) _ _ _
 refine wB1 (next_seq (h1.to fun o q=>s1.extBut _ _ D.a3 q) (c1.to fun o q=>s1.extBut _ _ l1z q) hx fun g2 h12 s2=>wP1 ?_);have hto2:IsPair g2 to a b:=s2.extBut _ _ D.a8 (s1.extBut _ _ D.a2 hto);refine wB1 (wpAny_seqItems hto2 rfl ?_);refine wB1 (wpAny_updateSeq_pair hto2 fun g3 hto3 s3=>?_);replace hto3:IsPair g3 to x b:=hto3;refine wB1 (wpAny_letGo (wP1 ?_));refine wB1 (wB1 (wpAny_onRaise ?_));show wpAny _ _ (Builtin.SmallTypes.nextOf (.ref i2) >>= _) _ _ _
 refine wB1 (next_seq (h2.to fun o q=>s3.extBut _ _ D.a9.symm (s2.extBut _ _ D.a10.symm (s1.extBut _ _ D.a4 q))) (c2.to fun o q=>s3.extBut _ _ n2 (s2.extBut _ _ l2i1 (s1.extBut _ _ l2z q))) hy fun g4 h24 s4=>wP1 ?_);have hto4:IsPair g4 to x b:=s4.extBut _ _ D.a9 hto3;refine wB1 (wpAny_seqItems hto4 rfl ?_);refine wB1 (wpAny_updateSeq_pair hto4 fun g5 hto5 s5=>?_);replace hto5:IsPair g5 to x y:=hto5;refine wB1 (wpAny_letGo (wP1 (wP1 ?_)));refine wB1 (wpAny_seqItems hto5 rfl ?_);refine wB1 (wpAny_newTuple ?_);have hsz:g5.objs.size=s.heap.objs.size:=by rw [s5.1,s4.1,s3.1,s2.1,s1.1]
 have hz5:IsZip g5 z ti to .ellipsis:=s5.extBut _ _ D.a2.symm (s4.extBut _ _ D.a4.symm (s3.extBut _ _ D.a2.symm (s2.extBut _ _ D.a3.symm hz1)));have hk5:∀ c o,c≠z->c≠to->c≠i1->c≠i2->s.heap.get? c=some o->g5.get? c=some o:=fun c o q1 q2 q3 q4 q=>s5.extBut _ _ q2 (s4.extBut _ _ q4 (s3.extBut _ _ q2 (s2.extBut _ _ q3 (s1.extBut _ _ q1 q))));have h15:SIt b1 g5 i1 l1 (k1+1):=h12.to fun o q=>s5.extBut _ _ D.a8.symm (s4.extBut _ _ D.a10 (s3.extBut _ _ D.a8.symm q));have h25:SIt b2 g5 i2 l2 (k2+1):=h24.to fun o q=>s5.extBut _ _ D.a9.symm q;have hzlt:z<g5.objs.size:=Heap.lt_size hz5;show wpAny _ _ (Builtin.SmallTypes.ownedTupleHandOut (.ref z) (.ref g5.objs.size) >>= _) _ _ _;refine wB1 ?_;unfold Builtin.SmallTypes.ownedTupleHandOut;have hz6:IsZip (g5.push {cls:=.type "tuple",data:=.seq #[x,y]}) z ti to .ellipsis:=hP1 _ hz5;refine wB1 (wS1 hz6 (by simp) fun g7 hz7 s7=>?_);replace hz7:IsZip g7 z ti to (rawInt g5.objs.size):=hz7;refine wS1 hz7 (by simp) fun g8 hz8 s8=>?_;replace hz8:IsZip g8 z ti to (rawInt g5.objs.size):=hz8;have up:∀ c o,c≠z->g5.get? c=some o->g8.get? c=some o:=fun c o q1 q=>s8.extBut _ _ q1 (s7.extBut _ _ q1 (hP1 _ q));have hT8:IsPair g8 g5.objs.size x y:=s8.extBut _ _ (nG1 hzlt) (s7.extBut _ _ (nG1 hzlt) (hS1 _ rfl));have hz9:g8.objs.size=g5.objs.size+1:=by rw [s8.1,s7.1,hZ1]
 rw [hsz] at hz8 hT8 hz9;refine wP1 ⟨_,rfl,wP1 ?_⟩;show Q (some (.ref g5.objs.size)) _;rw [hsz]
 exact hQ g8 hz8 (up _ _ D.a2 hto5) (h15.to fun o q=>up _ o D.a3 q) (h25.to fun o q=>up _ o D.a4 q) hT8 hz9 fun c o q1 q2 q3 q4 q=>up c o q1 (hk5 c o q1 q2 q3 q4 q)
theorem zip_end {z ti to i1 i2 l1 l2:Addr}{k1 k2:Nat}{xs ys:Array Value}{a b:Value}{Q:Option Value->Shared->Prop}(hh:A.handled=none)(D:Zap z ti to i1 i2)(hz:IsZip s.heap z ti to .none)(hti:IsPair s.heap ti (.ref i1) (.ref i2))(hto:IsPair s.heap to a b)
  (n1:l1≠to) (n2:l2≠to) (h1:SIt b1 s.heap i1 l1 k1) (h2:SIt b2 s.heap i2 l2 k2) (c1:SCo b1 s.heap l1 xs) (c2:SCo b2 s.heap l2 ys) (hend:xs[k1]? = none\/ys[k2]? = none)
  (hQ:∀ h',(∀ c o,c≠z->c≠to->c≠i1->c≠i2->s.heap.get? c=some o->h'.get? c=some o)->Q none {s with heap:=h'}):wpAny (model prog w) A (pyNext (.ref z)) Q E s:=by
 have hT:s.TypeIs (.ref z) "zip":=⟨_,hz,rfl⟩;have l1z:l1≠z:=c1.ne hz fun _ _ q=>by cases q
 have l2z:l2≠z:=c2.ne hz fun _ _ q=>by cases q
 have l2i1:l2≠i1:=c2.ne_it h1;unfold pyNext;refine wB1 (wpAny_attempt (wpAny_callSpecial?_slot (name:=Str.ofString "__next__") hT F.slot_zip_next (wE1 F.slot_zip_next hT F.entry_zip_next ?_ (F.args_zip_next_1 _))));show wpAny _ _ (field (.ref z) 2 >>= _) _ _ _;refine wB1 (wpAny_field hz rfl (x:=.bool false) rfl ?_);show wpAny _ _ (field (.ref z) 3 >>= _) _ _ _;refine wB1 (wpAny_field hz rfl (x:=.ref ti) rfl ?_);refine wB1 (wpAny_seqItems hti rfl ?_);show wpAny _ _ (Builtin.SmallTypes.ownedTupleIsFree (.ref z) >>= _) _ _ _;refine wB1 ?_;unfold Builtin.SmallTypes.ownedTupleIsFree;refine wB1 (wpAny_field hz rfl (x:=.none) rfl (wP1 ?_));simp only [if_true];refine wB1 (wpAny_rule ?_);refine wB1 (wpAny_field hz rfl (x:=.ref to) rfl ?_);refine wB1 (wS1 hz (by simp) fun g1 hz1 s1=>?_);replace hz1:IsZip g1 z ti to .ellipsis:=hz1;refine wB1 ?_;simp only [List.zipIdx_cons,List.zipIdx_nil,List.forIn_cons,List.forIn_nil];refine wB1 (wB1 (wpAny_onRaise ?_));show wpAny _ _ (Builtin.SmallTypes.nextOf (.ref i1) >>= _) _ _ _
 cases hx:xs[k1]? with
 | none=>
  refine wB1 (next_seq_end hh (h1.to fun o q=>s1.extBut _ _ D.a3 q) (c1.to fun o q=>s1.extBut _ _ l1z q) hx fun g2 e s2 he=>?_);obtain ⟨oe,hoe,hce⟩:=he;have hz2:IsZip g2 z ti to .ellipsis:=s2 _ _ D.a3.symm hz1;have hez:e≠z:=fun q=>by subst q;rw [hz2] at hoe;cases hoe;simp at hce
  refine wS1 hz2 (by simp) fun g3 _ s3=>?_;refine wB1 (wpAny_isInstance (T:="StopIteration") (b:=true) ⟨oe,s3.extBut _ _ hez hoe,hce⟩ isSubtype_stop ?_);exact wP1 (hQ g3 fun c o q1 _ q3 _ q=>s3.extBut _ _ q1 (s2 _ _ q3 (s1.extBut _ _ q1 q)))
 | some x=>
  have hy:ys[k2]? = none:=by rcases hend with h | h;rw [hx] at h;cases h;exact h
  refine wB1 (next_seq (h1.to fun o q=>s1.extBut _ _ D.a3 q) (c1.to fun o q=>s1.extBut _ _ l1z q) hx fun g2 h12 s2=>wP1 ?_);have hto2:IsPair g2 to a b:=s2.extBut _ _ D.a8 (s1.extBut _ _ D.a2 hto);refine wB1 (wpAny_seqItems hto2 rfl ?_);refine wB1 (wpAny_updateSeq_pair hto2 fun g3 hto3 s3=>?_);refine wB1 (wpAny_letGo (wP1 ?_));refine wB1 (wB1 (wpAny_onRaise ?_));show wpAny _ _ (Builtin.SmallTypes.nextOf (.ref i2) >>= _) _ _ _
  refine wB1 (next_seq_end hh (h2.to fun o q=>s3.extBut _ _ D.a9.symm (s2.extBut _ _ D.a10.symm (s1.extBut _ _ D.a4 q))) (c2.to fun o q=>s3.extBut _ _ n2 (s2.extBut _ _ l2i1 (s1.extBut _ _ l2z q))) hy fun g4 e s4 he=>?_);obtain ⟨oe,hoe,hce⟩:=he;have hz4:IsZip g4 z ti to .ellipsis:=s4 _ _ D.a4.symm (s3.extBut _ _ D.a2.symm (s2.extBut _ _ D.a3.symm hz1));have hez:e≠z:=fun q=>by subst q;rw [hz4] at hoe;cases hoe;simp at hce
  refine wS1 hz4 (by simp) fun g5 _ s5=>?_;refine wB1 (wpAny_isInstance (T:="StopIteration") (b:=true) ⟨oe,s5.extBut _ _ hez hoe,hce⟩ isSubtype_stop ?_);exact wP1 (hQ g5 fun c o q1 q2 q3 q4 q=>s5.extBut _ _ q1 (s4 _ _ q4 (s3.extBut _ _ q2 (s2.extBut _ _ q3 (s1.extBut _ _ q1 q)))))
noncomputable def zH (b1 b2:Bool)(h:Heap)(l1 l2:Addr):Heap:=((((h.push (itObj b1 l1)).push (itObj b2 l2)).push {cls:=.type "tuple",data:=.seq #[.ref h.objs.size,.ref (h.objs.size+1)]}).push {cls:=.type "tuple",data:=.seq #[.none,.none]}).push
 {cls:=.type "zip",data:=.fields #[.none,.bool false,.bool false,.ref (h.objs.size+2),.ref (h.objs.size+3)]}
theorem zip_new (l1 l2:Addr)(xs ys:Array Value):Meets (Builtin.«zip.__new__» ⟨[.type "zip",.ref l1,.ref l2],[]⟩) (fun _ R s=>SCo b1 s.heap l1 xs/\SCo b2 s.heap l2 ys/\R (.ok (.ret (.ref (s.heap.objs.size+4)))) {s with heap:=zH b1 b2 s.heap l1 l2}):=
 .of_wp fun prog w A R s h=>by
  obtain ⟨hp,g,d,tk,os⟩:=s;obtain ⟨c1,c2,h⟩:=h;have hsub:=sub_zip
  have L1:SCo b1 (Shared.heap ⟨hp,g,d,tk,os⟩) l1 xs:=c1;have L2:SCo b2 (Shared.heap ⟨hp.push (itObj b1 l1),g,d,tk,os⟩) l2 ys:=c2.to fun o q=>hP1 _ q
  wp_walk using sit_iter L1,sit_iter L2
  refine ⟨_,rfl,?_⟩;have z1:(hp.push (itObj b1 l1)).objs.size=hp.objs.size+1:=hZ1 ..
  simp only [hZ1,zH] at h ⊢;exact h
theorem zip_call {l1 l2:Addr}{xs ys:Array Value}{Q:Value->Shared->Prop}(c1:SCo b1 s.heap l1 xs)(c2:SCo b2 s.heap l2 ys)
  (h:∀ h',IsZip h' (s.heap.objs.size+4) (s.heap.objs.size+2) (s.heap.objs.size+3) .none->IsPair h' (s.heap.objs.size+2) (.ref s.heap.objs.size) (.ref (s.heap.objs.size+1))->IsPair h' (s.heap.objs.size+3) .none .none ->
   SIt b1 h' s.heap.objs.size l1 0->SIt b2 h' (s.heap.objs.size+1) l2 0->h'.objs.size=s.heap.objs.size+5->(∀ c o,s.heap.get? c=some o->h'.get? c=some o)->Q (.ref (s.heap.objs.size+4)) {s with heap:=h'}):
  wpAny (model prog w) A (call (.type "zip") [.ref l1,.ref l2]) Q E s:=by
 refine callType_new F.called_zip (by decide) (F.typeCall_zip_2 _ _) (F.newCall_zip_2 _ _) (fun obj=>F.args_object_init_3 obj _ _) F.entry_zip_new (zip_new (b1:=b1) (b2:=b2) l1 l2 xs ys) ⟨c1,c2,?_⟩;have up:∀ {h:Heap} {o:Obj} {c:Addr} {u:Obj},h.get? c=some u->(h.push o).get? c=some u:=fun q=>hP1 _ q;have at_:∀ {h:Heap} {o:Obj} {n:Nat},h.objs.size=n->o.isFreed=false->(h.push o).get? n=some o:=fun e f=>by rw [<- e];exact hS1 _ f
 have f1:(itObj b1 l1).isFreed=false:=by cases b1<;>rfl
 have f2:(itObj b2 l2).isFreed=false:=by cases b2<;>rfl
 have g1:(zH b1 b2 s.heap l1 l2).get? s.heap.objs.size=some (itObj b1 l1):=up (up (up (up (at_ rfl f1))));have g2:(zH b1 b2 s.heap l1 l2).get? (s.heap.objs.size+1)=some (itObj b2 l2):=up (up (up (at_ (by simp only [hZ1]) f2)));have g3:IsPair (zH b1 b2 s.heap l1 l2) (s.heap.objs.size+2) (.ref s.heap.objs.size) (.ref (s.heap.objs.size+1)):=up (up (at_ (by simp only [hZ1]) rfl));have g4:IsPair (zH b1 b2 s.heap l1 l2) (s.heap.objs.size+3) .none .none:=up (at_ (by simp only [hZ1]) rfl);have g5:IsZip (zH b1 b2 s.heap l1 l2) (s.heap.objs.size+4) (s.heap.objs.size+2) (s.heap.objs.size+3) .none:=at_ (by simp only [hZ1]) rfl;exact ⟨⟨_,g5,rfl⟩,h _ g5 g3 g4 (sit_new g1) (sit_new g2) (by simp only [zH,hZ1]) fun c o q=>up (up (up (up (up q))))⟩
end
noncomputable def SqB (K:Fg1)(b:Bool)(H:Hp)(a:Addr)(xs:List V):Prop:=match b with
 | true=>SqL K H a xs
 | false=>SqT K H a xs
section
variable {X:Cx} {pins:List (Addr×Obj)} {σ:L2.St} {H:Hp} {s:Shared}
theorem sqb_at {b:Bool}{a:Addr}{xs:List V}(I:Inv X pins σ H s)(h:SqB X.K b H a xs):∃ its:List Value,Vals xs its/\SCo b s.heap a its.toArray/\xs.length<=sizeLine:=by
 cases b
 ·obtain ⟨its,r,p,z⟩:=I.tuple h;exact ⟨its,r,p,z⟩
 ·obtain ⟨its,r,p,z⟩:=I.list h;exact ⟨its,r,p.isList,z⟩
theorem sqb_inj {b:Bool}{a:Addr}{xs ys:List V}(I:Inv X pins σ H s)(h:SqB X.K b H a xs)(h':SqB X.K b H a ys):xs=ys:=by
 cases b
 ·exact I.tuple_inj h h'
 ·exact I.list_inj h h'
theorem sqb_ne {b:Bool}{a c:Addr}{xs:List V}(I:Inv X pins σ H s)(h:SqB X.K b H a xs)(f:FpOk X pins H c):a≠c:=by
 rintro rfl;have ink:∀ {o},X.K.lookup a=some o->False:=fun {o} e=>by
  have e1:=I.ok.mod.kin _ _ e;rcases f.2.2.2.1 with z | z
  ·exact I.ok.noex _ _ e1 z
  ·exact absurd (nL1 (Heap.lt_size e1) (Nat.le_trans I.ok.bsz z)) (Nat.lt_irrefl _)
 cases b
 ·rcases h with (h | ⟨_,h⟩) | ⟨_,_,_,h,_⟩
  ·rw [f.1] at h;cases h
  ·rw [f.1] at h;cases h
  ·exact ink h
 ·rcases h with (h | ⟨_,h⟩) | ⟨_,_,_,h,_⟩
  ·rw [f.1] at h;cases h
  ·rw [f.1] at h;cases h
  ·exact ink h
theorem inv_pair (I:Inv X pins σ H s){fp:List Addr}(hf:∀ b∈fp,FpOk X pins H b){h':Heap}{p:Addr}{xs:List V}{its:List Value}{t':Nat}(hp:s.heap.objs.size<=p)(kk:∀ b o,b∉fp->s.heap.get? b=some o->h'.get? b=some o)
  (tp:IsTup h' p its.toArray) (rv:Vals xs its) (hz:xs.length<=sizeLine):Inv X pins σ (upd H p (.tup xs)) {s with heap:=h',toks:=t'}:=by
 have hn:H p=none:=I.hok.fresh hp;have neP:∀ {b o},s.heap.get? b=some o->b≠p:=fun e=>nN1 (nL1 (Heap.lt_size e) hp);have nf:∀ {b u},H b=some u->b∉fp:=fun e z=>by rw [(hf _ z).1] at e;cases e
 refine I.step (g':=s.gens) (d':=s.drawn) (ch:=fp) (fun b hb=>⟨(hf b hb).2.2.2.1,(hf b hb).2.1,(hf b hb).2.2.2.2.1,(hf b hb).2.2.2.2.2⟩) (fun b o _ _ hc e _=>kk b o hc e) (fun b o _ _ hc e _=>⟨o.slots,kk b o hc e⟩) (fun b o _ e n=>?_)
  (fun b o hc e=>⟨o,kk b o hc e⟩) (fun b ys e=>?_) (fun b o u e=>?_) (fun b ps e=>⟨#[],?_⟩) (fun m hm=>?_) (fun b u e=>?_) I.bare
 ·rw [upd_ne (neP e)];exact n
 ·rw [upd_ne (ne_of_none e hn)];exact e
 ·rw [upd_ne (ne_of_none e hn)];exact e
 ·rw [upd_ne (ne_of_none e hn),e];simp
 ·obtain ⟨o,es,ep,ho,r⟩:=hm;exact ⟨o,es,ep,kk _ o (fun z=>(hf _ z).2.1 rfl) ho,r⟩
 ·by_cases hb:b=p
  ·subst hb;rw [upd_same] at e;cases e;exact ⟨hz,its,rv,tp⟩
  ·rw [upd_ne hb] at e;refine (I.hok b u e).stay (fun c v hc q=>kk c v ?_ q) (fun c q=>by rw [upd_ne (ne_of_none q hn)];exact q) fun c ys q=>by rw [upd_ne (ne_of_none q hn)];exact q
   rcases hc with z | z
   ·rw [z];exact nf e
   ·exact nf z
theorem inv_turned (I:Inv X pins σ H s){fp:List Addr}(hf:∀ b∈fp,FpOk X pins H b){h':Heap}{t':Nat}(kk:∀ b o,b∉fp->s.heap.get? b=some o->h'.get? b=some o):Inv X pins σ H {s with heap:=h',toks:=t'}:=by
 have nf:∀ {b u},H b=some u->b∉fp:=fun e z=>by rw [(hf _ z).1] at e;cases e
 refine I.step (g':=s.gens) (d':=s.drawn) (ch:=fp) (fun b hb=>⟨(hf b hb).2.2.2.1,(hf b hb).2.1,(hf b hb).2.2.2.2.1,(hf b hb).2.2.2.2.2⟩) (fun b o _ _ hc e _=>kk b o hc e) (fun b o _ _ hc e _=>⟨o.slots,kk b o hc e⟩) (fun b o _ e n=>n)
  (fun b o hc e=>⟨o,kk b o hc e⟩) (fun b ys e=>e) (fun b o u e=>e) (fun b ps e=>⟨#[],by rw [e];simp⟩) (fun m hm=>?_) (fun b u e=>?_) I.bare
 ·obtain ⟨o,es,ep,ho,r⟩:=hm;exact ⟨o,es,ep,kk _ o (fun z=>(hf _ z).2.1 rfl) ho,r⟩
 ·refine (I.hok b u e).stay (fun c v hc q=>kk c v ?_ q) (fun c q=>q) fun c ys q=>q;rcases hc with z | z
  ·rw [z];exact nf e
  ·exact nf z
end
theorem two_fits:(2:Nat)<=sizeLine:=by decide
noncomputable def Itz (K:Fg1)(b1 b2:Bool)(a1 a2:Addr):It:=
 ⟨fun i H=>∃ xs ys x y,SqB K b1 H a1 xs/\SqB K b2 H a2 ys/\xs[i]? = some x/\ys[i]? = some y,fun i H x H'=>∃ p v u,H p=none/\x = .ref p/\H'=upd H p (.tup [v,u])/\(∀ xs,SqB K b1 H a1 xs->xs[i]? = some v) /\ ∀ ys,SqB K b2 H a2 ys->ys[i]? = some u,
  fun i H=>∃ xs ys,SqB K b1 H a1 xs/\SqB K b2 H a2 ys/\(xs.length<=i\/ys.length<=i)⟩
theorem turn_zip {P:Program}{w:World}{K:Fg1}{elts:List Expr}{k:Nat}{pos:Pos}(b1 b2:Bool)(a1 a2 z ti to i1 i2:Addr)(D:Zap z ti to i1 i2):Turn P w K (.Tuple elts k pos) (Itz K b1 b2 a1 a2) [z,ti,to,i1,i2] z
  (fun i h=>IsZip h z ti to .none/\IsPair h ti (.ref i1) (.ref i2)/\(∃ u v,IsPair h to u v)/\SIt b1 h i1 a1 i/\SIt b2 h i2 a2 i) where
 mem:=by simp
 obj:=by
  rintro i h ⟨q1,q2,⟨u,v,q3⟩,q4,q5⟩ c hc;simp only [List.mem_cons,List.not_mem_nil,or_false] at hc;rcases hc with rfl | rfl | rfl | rfl | rfl
  ·exact ⟨_,q1,fun v q=>by cases q⟩
  ·exact ⟨_,q2,fun v q=>by cases q⟩
  ·exact ⟨_,q3,fun v q=>by cases q⟩
  ·exact q4.rec_
  ·exact q5.rec_
 keep:=fun i h h' ⟨q1,q2,⟨u,v,q3⟩,q4,q5⟩ kk=>⟨kk z (by simp) _ q1,kk ti (by simp) _ q2,⟨u,v,kk to (by simp) _ q3⟩,q4.to fun o q=>kk i1 (by simp) o q,q5.to fun o q=>kk i2 (by simp) o q⟩
 item:=by
  intro X hP hw hK hc i pins s σ H E I hf st hg;subst hP hw hK;obtain ⟨q1,q2,⟨u0,v0,q3⟩,q4,q5⟩:=st;obtain ⟨xs,ys,x,y,hx,hy,ex,ey⟩:=hg;obtain ⟨its,rv,co,hz⟩:=sqb_at I hx;obtain ⟨its2,rv2,co2,hz2⟩:=sqb_at I hy;obtain ⟨u,hu,ru⟩:=rv.get ex;obtain ⟨u2,hu2,ru2⟩:=rv2.get ey;refine zip_step D q1 q2 q3 (sqb_ne I hx (hf to (by simp))) (sqb_ne I hy (hf to (by simp))) q4 q5 co co2 (x:=u) (y:=u2) (by simpa using hu) (by simpa using hu2) fun h1 p1 p2 p3 p4 p5 p6 hk1=>?_;refine ⟨.ref s.heap.objs.size,rfl,?_⟩;refine wpAny_letOwnedTupleGo_zip p1 fun h2 z2 hs2=>?_;have lt:∀ c∈[z,ti,to,i1,i2],c≠s.heap.objs.size:=fun c hc e=>by
   obtain ⟨o,eo⟩:∃ o,s.heap.get? c=some o:=by
    simp only [List.mem_cons,List.not_mem_nil,or_false] at hc;rcases hc with rfl | rfl | rfl | rfl | rfl
    ·exact ⟨_,q1⟩
    ·exact ⟨_,q2⟩
    ·exact ⟨_,q3⟩
    ·obtain ⟨o,e,_⟩:=q4.rec_;exact ⟨o,e⟩
    ·obtain ⟨o,e,_⟩:=q5.rec_;exact ⟨o,e⟩
   rw [e] at eo;exact Nat.lt_irrefl _ (Heap.lt_size eo)
  have hk2:∀ c o,c∉[z,ti,to,i1,i2]->s.heap.get? c=some o->h2.get? c=some o:=fun c o hc q=>by
   simp only [List.mem_cons,List.not_mem_nil,or_false,not_or] at hc;exact hs2.extBut _ _ hc.1 (hk1 c o hc.1 hc.2.2.1 hc.2.2.2.1 hc.2.2.2.2 q)
  have tp:IsTup h2 s.heap.objs.size [u,u2].toArray:=⟨_,hs2.extBut _ _ (Ne.symm (lt z (by simp))) p5,rfl,_,rfl⟩;have I2:=inv_pair I hf (t':=s.toks) (nR1 _) hk2 tp (xs:=[x,y]) (.cons ru (.cons ru2 .nil)) two_fits;have hn:H s.heap.objs.size=none:=I.hok.fresh (nR1 _);refine ⟨.ref s.heap.objs.size,_,I2,rfl,⟨_,x,y,hn,rfl,rfl,fun ys' hy'=>by rw [sqb_inj I hy' hx];exact ex,fun ys' hy'=>by rw [sqb_inj I hy' hy];exact ey⟩,
   ⟨z2,hs2.extBut _ _ D.a1 (hk1 _ _ D.a1 D.a5 D.a6 D.a7 q2),⟨u,u2,hs2.extBut _ _ D.a2 p2⟩,p3.to fun o q=>hs2.extBut _ _ D.a3 q,p4.to fun o q=>hs2.extBut _ _ D.a4 q⟩,fun c hc=>?_⟩
  rw [upd_ne (lt c hc)];exact (hf c hc).1
 done:=by
  intro X hP hw hK hc i pins s σ H E I hf st hg;subst hP hw hK;obtain ⟨q1,q2,⟨u0,v0,q3⟩,q4,q5⟩:=st;obtain ⟨xs,ys,hx,hy,hl⟩:=hg;obtain ⟨its,rv,co,hz⟩:=sqb_at I hx;obtain ⟨its2,rv2,co2,hz2⟩:=sqb_at I hy;have l1:=rv.length;have l2:=rv2.length;refine zip_end (I.ok.hd hc) D q1 q2 q3 (sqb_ne I hx (hf to (by simp))) (sqb_ne I hy (hf to (by simp))) q4 q5 co co2 (by simp;lia) fun h' eb=>⟨rfl,inv_turned I (t':=s.toks) hf fun c o hc q=>?_⟩;simp only [List.mem_cons,List.not_mem_nil,or_false,not_or] at hc;exact eb c o hc.1 hc.2.2.1 hc.2.2.2.1 hc.2.2.2.2 q
 self:=fun _ _ _ _ _ ⟨st,_⟩ h=>wpAny_pyIter_zip st h
section
variable {X:Cx} {elts:List Expr} {k:Nat} {tpos:Pos}
noncomputable def iZip (K:Fg1)(ta:TA):TI:=fun σ H R=>ta σ H fun vs H1=>∃ a1 b1 a2 b2,vs=[.ref a1,.ref a2]/\(∃ xs,SqB K b1 H1 a1 xs)/\(∃ xs,SqB K b2 H1 a2 xs)/\R (Itz K b1 b2 a1 a2) H1
theorem pi_zip {a b:Expr}{ta:TA}{p pos:Pos}(hg:Gl X "zip")(hm:X.mg "zip"=none)(ha:PA X [a,b] ta)(hs:starEach [a,b] X.env=[(false,eval a X.env),(false,eval b X.env)]:=by rfl)(hs2:starEach [b] X.env=[(false,eval b X.env)]:=by rfl):
  PI X (.Tuple elts k tpos) (.Call (.Name "zip" p) [a,b] [] pos) (iZip X.K ta):=by
 intro pins s σ H R I h;refine Call_ (ld_blt I hg hm boot_zip (PyProof.Rows.callWith_type1 (thn (ha pos pins s σ H _ I h) fun us s1 ⟨vs,H1,I1,r1,q1⟩=>?_) (by rw [hs,hs2]) (by rw [hs2];rfl)));obtain ⟨c1,b1,c2,b2,e,⟨xs,hx⟩,⟨ys,hy⟩,q⟩:=q1;subst e;cases r1 with
 | cons r rr=>
  cases rr with
  | cons r' rr=>
   cases rr;cases r;cases r';obtain ⟨its,rv,co,hz⟩:=sqb_at I1 hx;obtain ⟨its2,rv2,co2,hz2⟩:=sqb_at I1 hy;refine zip_call co co2 fun h' g5 g3 g4 g1 g2 gz hk=>wpAny_pyIter_zip g5 ?_;have I2:Inv X pins σ H1 {s1 with heap:=h'}:=I1.kept (t':=s1.toks) hk;refine ⟨s1.heap.objs.size+4,[s1.heap.objs.size+4,s1.heap.objs.size+2,s1.heap.objs.size+3,s1.heap.objs.size,s1.heap.objs.size+1],_,_,H1,rfl,I2,turn_zip b1 b2 c1 c2 _ _ _ _ _ ?_,⟨g5,g3,⟨_,_,g4⟩,g1,g2⟩,fun d hd=>?_,q⟩
   ·constructor<;>(intro z;have z':((_:Nat)=_):=z;lia)
   ·have hd':s1.heap.objs.size<=d:=by
     simp only [List.mem_cons,List.not_mem_nil,or_false] at hd;rcases hd with rfl | rfl | rfl | rfl | rfl
     ·exact Nat.le_add_right _ _
     ·exact Nat.le_add_right _ _
     ·exact Nat.le_add_right _ _
     ·exact nR1 _
     ·exact Nat.le_add_right _ _
    exact I1.fpOk hd' (I1.hok.fresh hd')
end
noncomputable def seqOf (S:Sto):D->Option (Bool×List D)
 | .tup xs=>some (false,xs)
 | .rol xs=>some (true,xs)
 | .ref n=>match S[n]? with
  | some (.lst xs)=>some (true,xs)
  | _=>none
 | _=>none
noncomputable def chkOf (S:Sto):D->List (Nat×List D)
 | .ref n=>match S[n]? with
  | some (.lst xs)=>[(n,xs)]
  | _=>[]
 | _=>[]
section
variable {K:Fg1} {H:Hp} {mu:List Addr} {S:Sto}
theorem seqOf_at {d:D}{v:V}{b:Bool}{xs:List D}(r:Rep K H mu d v)(s:Sim K H mu S)(h:seqOf S d=some (b,xs)):∃ a vs,v = .ref a/\SqB K b H a vs/\Reps K H mu xs vs:=by
 cases d with
 | tup ys=>cases h;cases r with | tup q t=>exact ⟨_,_,rfl,q,t⟩
 | rol ys=>cases h;cases r with | rol q t=>exact ⟨_,_,rfl,q.sq,t⟩
 | ref n=>
  rw [seqOf] at h;split at h
  ·rename_i ys e;cases h;cases r with
   | ref q=>
    obtain ⟨vs,e1,r1⟩:=s.lst e q;exact ⟨_,vs,rfl,SqL.of e1,r1⟩
  ·cases h
 | _=>cases h
theorem seq_later {d:D}{a:Addr}{b:Bool}{xs:List D}(r:Rep K H mu d (.ref a))(s:Sim K H mu S)(h:seqOf S d=some (b,xs)){H1:Hp}{mu1:List Addr}{S1:Sto}(x:Exw mu mu1 H H1)(s1:Sim K H1 mu1 S1)(ok:okC S1 (chkOf S d)=true):
  ∃ vs,SqB K b H1 a vs/\Reps K H1 mu1 xs vs:=by
 have r1:=r.exw x;have h1:seqOf S1 d=some (b,xs):=by
  cases d with
  | ref n=>
   rw [seqOf] at h;split at h
   ·rename_i ys e;cases h;rw [chkOf,e] at ok;dsimp only [okC] at ok;rw [Bool.and_true] at ok;rw [seqOf];split at ok
    ·rename_i zs ez
     first | rw [ez,D.sames_eq ok] | rw [D.sames_eq ok]
    ·cases ok
   ·cases h
  | _=>exact h
 obtain ⟨a',vs,e,q,t⟩:=seqOf_at r1 s1 h1;cases e;exact ⟨vs,q,t⟩
end
noncomputable def iSeq (m:FE):FI:=fun r S=>(m r S).bind fun p=>(seqOf p.2 p.1).bind fun q=>some (⟨q.2,chkOf p.2 p.1⟩,p.2)
noncomputable def enD:Nat->List D->List D
 | _,[]=>[]
 | n,d::ds=>.tup [.int n,d]::enD (n+1) ds
noncomputable def iEn (m:FA):FI:=fun r S=>(m r S).bind fun p=>match p.1 with
 | [d]=>(seqOf p.2 d).bind fun q=>some (⟨enD 0 q.2,chkOf p.2 d⟩,p.2)
 | _=>none
noncomputable def zpD:List D->List D->List D
 | x::xs,y::ys=>.tup [x,y]::zpD xs ys
 | _,_=>[]
noncomputable def iZp (m:FA):FI:=fun r S=>(m r S).bind fun p=>match p.1 with
 | [d,e]=>(seqOf p.2 d).bind fun q=>(seqOf p.2 e).bind fun t=>some (⟨zpD q.2 t.2,chkOf p.2 d++chkOf p.2 e⟩,p.2)
 | _=>none
noncomputable def nums (lo:Int):Nat->List D
 | 0=>[]
 | n+1=>.int lo::nums (lo+1) n
noncomputable def iR1 (m:FA):FI:=fun r S=>(m r S).bind fun p=>match p.1 with
 | [.int j]=>if-(2^62)<=j/\j<2^62 then some (⟨nums 0 j.toNat,[]⟩,p.2) else none
 | _=>none
noncomputable def iR2 (m:FA):FI:=fun r S=>(m r S).bind fun p=>match p.1 with
 | [.int i,.int j]=>if-(2^62)<=i/\i<2^62 /\ -(2^62)<=j/\j<2^62 then some (⟨nums i (j-i).toNat,[]⟩,p.2) else none
 | _=>none
theorem zpD_get:∀ (xs ys:List D) (i:Nat) (d:D),(zpD xs ys)[i]? = some d -> ∃ x y,xs[i]? = some x/\ys[i]? = some y/\d = .tup [x,y]
 | [],_,i,d,h=>by simp [zpD] at h
 | _::_,[],i,d,h=>by simp [zpD] at h
 | x::xs,y::ys,0,d,h=>by simp [zpD] at h;exact ⟨x,y,rfl,rfl,h.symm⟩
 | x::xs,y::ys,i+1,d,h=>by
  rw [zpD,gC1] at h;obtain ⟨x',y',e1,e2,e3⟩:=zpD_get xs ys i d h;exact ⟨x',y',by simpa using e1,by simpa using e2,e3⟩
theorem zpD_len:∀ (xs ys:List D) (i:Nat),(zpD xs ys).length<=i->xs.length<=i\/ys.length<=i
 | [],_,i,_=>.inl (Nat.zero_le _)
 | _::_,[],i,_=>.inr (Nat.zero_le _)
 | x::xs,y::ys,0,h=>by simp [zpD] at h
 | x::xs,y::ys,i+1,h=>by
  rcases zpD_len xs ys i (by simpa [zpD] using h) with q | q
  ·exact .inl (by simpa using q)
  ·exact .inr (by simpa using q)
theorem nums_get:∀ (n:Nat) (lo:Int) (i:Nat) (d:D),(nums lo n)[i]? = some d->i<n/\d = .int (lo+i)
 | 0,lo,i,d,h=>by simp [nums] at h
 | n+1,lo,0,d,h=>by simp [nums] at h;exact ⟨Nat.succ_pos _,by rw [<- h];simp⟩
 | n+1,lo,i+1,d,h=>by
  rw [nums,gC1] at h;obtain ⟨h1,h2⟩:=nums_get n (lo+1) i d h;refine ⟨Nat.succ_lt_succ h1,?_⟩;rw [h2,show lo+1+(i:Int)=lo+((i+1:Nat):Int) by push_cast;lia]
theorem nums_len:∀ (n:Nat) (lo:Int),(nums lo n).length=n
 | 0,_=>rfl
 | n+1,lo=>by rw [nums,lC1,nums_len n]
theorem okC_app {S:Sto}:∀ {c c':List (Nat×List D)},okC S (c++c')=true->okC S c=true/\okC S c'=true
 | [],_,h=>⟨rfl,h⟩
 | (n,xs)::c,c',h=>by
  rw [List.cons_append,okC,bA1] at h;obtain ⟨h1,h2⟩:=okC_app h.2;exact ⟨by rw [okC,bA1];exact ⟨h.1,h1⟩,h2⟩
section
variable {X:Cx} {tg:Expr}
theorem itr_nums (K:Fg1)(lo:Int)(n:Nat)(mu:List Addr)(H:Hp):ItR K (Itr lo n) ⟨nums lo n,[]⟩ mu H:=by
 intro i H1 mu1 S1 x s ok;refine ⟨fun d hd=>?_,fun h=>by rw [nums_len] at h;exact h⟩;obtain ⟨h1,h2⟩:=nums_get n lo i d hd;refine ⟨h1,fun y H2 ⟨e1,e2⟩=>?_⟩;subst e1;subst e2;subst h2;exact ⟨.refl _ _,s,.int _⟩
theorem mi_seq {e:Expr}{m:FE}(h:ME X e m):MI X tg e (iSeq m):=pi_imp (pi_or (pi_list h) (pi_tup h)) <| by
 rintro σ H R ⟨r,mu,S,J,S',he,hs,hm,hc⟩;obtain ⟨⟨d,S1⟩,e1,hm⟩:=oB1.mp hm;obtain ⟨⟨b,xs⟩,e2,hm⟩:=oB1.mp hm;cases hm;cases b with
 | true=>
  left;refine ⟨r,mu,S,d,_,he,hs,e1,fun v H1 mu1 x1 r1 s1=>?_⟩;obtain ⟨a,vs,rfl,q,t⟩:=seqOf_at r1 s1 e2;refine ⟨a,rfl,⟨vs,q⟩,hc _ H1 mu1 x1 (fun i H2 mu2 S2 x2 s2 ok=>?_) s1⟩;obtain ⟨ws,q2,t2⟩:=seq_later r1 s1 e2 x2 s2 ok;refine ⟨fun d hd=>?_,fun hl=>⟨ws,q2,by rw [<- t2.length];exact hl⟩⟩;obtain ⟨v,ev,rv⟩:=t2.get hd;refine ⟨⟨ws,v,q2,ev⟩,fun y H3 ⟨z1,z2⟩=>?_⟩;subst z1;have:=z2 ws q2;rw [ev] at this;cases this;exact ⟨.refl _ _,s2,rv⟩
 | false=>
  right;refine ⟨r,mu,S,d,_,he,hs,e1,fun v H1 mu1 x1 r1 s1=>?_⟩;obtain ⟨a,vs,rfl,q,t⟩:=seqOf_at r1 s1 e2;refine ⟨a,rfl,⟨vs,q⟩,hc _ H1 mu1 x1 (fun i H2 mu2 S2 x2 s2 ok=>?_) s1⟩;obtain ⟨ws,q2,t2⟩:=seq_later r1 s1 e2 x2 s2 ok;refine ⟨fun d hd=>?_,fun hl=>⟨ws,q2,by rw [<- t2.length];exact hl⟩⟩;obtain ⟨v,ev,rv⟩:=t2.get hd;refine ⟨⟨ws,v,q2,ev⟩,fun y H3 ⟨z1,z2⟩=>?_⟩;subst z1;have:=z2 ws q2;rw [ev] at this;cases this;exact ⟨.refl _ _,s2,rv⟩
theorem reps_one {K:Fg1}{H:Hp}{mu:List Addr}{d:D}{vs:List V}(r:Reps K H mu [d] vs):∃ v,vs=[v]/\Rep K H mu d v:=by
 cases r with | cons r t=>cases t;exact ⟨_,rfl,r⟩
theorem reps_two {K:Fg1}{H:Hp}{mu:List Addr}{d e:D}{vs:List V}(r:Reps K H mu [d,e] vs):∃ v u,vs=[v,u]/\Rep K H mu d v/\Rep K H mu e u:=by
 cases r with | cons r t=>cases t with | cons q t=>cases t;exact ⟨_,_,rfl,r,q⟩
theorem mi_range1 {a:Expr}{m:FA}{p pos:Pos}(hg:Gl X "range")(hm:X.mg "range"=none)(ha:MA X [a] m)(hs:starEach [a] X.env=[(false,eval a X.env)]:=by rfl):MI X tg (.Call (.Name "range" p) [a] [] pos) (iR1 m):=
 pi_imp (pi_range1 hg hm ha hs) <| by
  rintro σ H R ⟨r,mu,S,J,S',he,hs,hm,hc⟩;obtain ⟨⟨ds,S1⟩,e1,hm⟩:=oB1.mp hm;dsimp only at hm;split at hm
  ·rename_i j;split at hm
   ·rename_i hb;cases hm;refine ⟨r,mu,S,_,_,he,hs,e1,fun vs H1 mu1 x1 r1 s1=>?_⟩;obtain ⟨v,rfl,rv⟩:=reps_one r1;cases rv;exact ⟨j,rfl,hb.1,hb.2,hc _ H1 mu1 x1 (itr_nums _ _ _ _ _) s1⟩
   ·cases hm
  ·cases hm
variable {elts:List Expr} {k:Nat} {tpos:Pos}
theorem mi_zip {a b:Expr}{m:FA}{p pos:Pos}(hg:Gl X "zip")(hm:X.mg "zip"=none)(ha:MA X [a,b] m)(hs:starEach [a,b] X.env=[(false,eval a X.env),(false,eval b X.env)]:=by rfl)(hs2:starEach [b] X.env=[(false,eval b X.env)]:=by rfl):MI X (.Tuple elts k tpos) (.Call (.Name "zip" p) [a,b] [] pos) (iZp m):=
 pi_imp (pi_zip hg hm ha hs hs2) <| by
  rintro σ H R ⟨r,mu,S,J,S',he,hs,hm,hc⟩;obtain ⟨⟨ds,S1⟩,e1,hm⟩:=oB1.mp hm;dsimp only at hm;split at hm
  ·rename_i d e;obtain ⟨⟨b1,xs⟩,e2,hm⟩:=oB1.mp hm;obtain ⟨⟨b2,ys⟩,e3,hm⟩:=oB1.mp hm;cases hm;refine ⟨r,mu,S,_,_,he,hs,e1,fun vs H1 mu1 x1 r1 s1=>?_⟩;obtain ⟨v,u,rfl,rv,ru⟩:=reps_two r1;obtain ⟨a1,vs1,rfl,q1,t1⟩:=seqOf_at rv s1 e2;obtain ⟨a2,vs2,rfl,q2,t2⟩:=seqOf_at ru s1 e3;refine ⟨a1,b1,a2,b2,rfl,⟨vs1,q1⟩,⟨vs2,q2⟩,hc _ H1 mu1 x1 (fun i H2 mu2 S2 x2 s2 ok=>?_) s1⟩;obtain ⟨ok1,ok2⟩:=okC_app ok;obtain ⟨ws,q3,t3⟩:=seq_later rv s1 e2 x2 s2 ok1;obtain ⟨ws2,q4,t4⟩:=seq_later ru s1 e3 x2 s2 ok2;refine ⟨fun d hd=>?_,fun hl=>⟨ws,ws2,q3,q4,?_⟩⟩
   ·obtain ⟨x',y',ex,ey,rfl⟩:=zpD_get xs ys i d hd;obtain ⟨v,ev,rv'⟩:=t3.get ex;obtain ⟨u,eu,ru'⟩:=t4.get ey;refine ⟨⟨ws,ws2,v,u,q3,q4,ev,eu⟩,fun y H3 ⟨p,v',u',hp,z1,z2,z3,z4⟩=>?_⟩;have w3:=z3 ws q3;have w4:=z4 ws2 q4;rw [ev] at w3;cases w3;rw [eu] at w4;cases w4;subst z1;subst z2;exact ⟨Ext.fresh hp,s2.fresh hp,.tup (SqT.of upd_same) (.cons (rv'.ext (Ext.fresh hp)) (.cons (ru'.ext (Ext.fresh hp)) .nil))⟩
   ·rcases zpD_len xs ys i hl with z | z
    ·exact .inl (by rw [<- t3.length];exact z)
    ·exact .inr (by rw [<- t4.length];exact z)
  ·cases hm
end
end Mi
namespace Mi
open PySem PySem.Spec PyProof.Rows L2 SeqAt
open AutoSeq1 (wpAny_loadPart')
open MeetsSeq
noncomputable abbrev OD (e:Array DictEntry)(n:Nat)(dd:Option Addr)(sl:Array (Option Value)):Obj:={cls:=.type "dict",dict:=dd,data:=.dict e n,slots:=sl}
section
variable {l:Addr} {e:Array DictEntry} {n:Nat} {dd:Option Addr} {sl:Array (Option Value)}
theorem dq_non:Meets (Builtin.«dict.__eq__» ⟨[.ref l,.none],[]⟩) (fun _ R s=>s.heap.get? l=some (OD e n dd sl)/\R (.ok (.ret .notImplemented)) s):=.of_wp fun _ _ _ _ s h=>by
 obtain ⟨hp,g,d,tk,os⟩:=s;obtain ⟨hl,h⟩:=h;have f1:=F.sub_NoneType_dict;wp_walk using wpAny_loadPart' hl;exact ⟨_,rfl,h⟩
theorem dq_bl (b:Bool):Meets (Builtin.«dict.__eq__» ⟨[.ref l,.bool b],[]⟩) (fun _ R s=>s.heap.get? l=some (OD e n dd sl)/\R (.ok (.ret .notImplemented)) s):=.of_wp fun _ _ _ _ s h=>by
 obtain ⟨hp,g,d,tk,os⟩:=s;obtain ⟨hl,h⟩:=h;have f1:=F.sub_bool_dict;wp_walk using wpAny_loadPart' hl;exact ⟨_,rfl,h⟩
theorem dq_int (b:Int)(u:Tok):Meets (Builtin.«dict.__eq__» ⟨[.ref l,.int b u],[]⟩) (fun _ R s=>s.heap.get? l=some (OD e n dd sl)/\R (.ok (.ret .notImplemented)) s):=.of_wp fun _ _ _ _ s h=>by
 obtain ⟨hp,g,d,tk,os⟩:=s;obtain ⟨hl,h⟩:=h;have f1:=F.sub_int_dict;wp_walk using wpAny_loadPart' hl;exact ⟨_,rfl,h⟩
theorem dq_str (b:Str)(u:Tok):Meets (Builtin.«dict.__eq__» ⟨[.ref l,.str b u],[]⟩) (fun _ R s=>s.heap.get? l=some (OD e n dd sl)/\R (.ok (.ret .notImplemented)) s):=.of_wp fun _ _ _ _ s h=>by
 obtain ⟨hp,g,d,tk,os⟩:=s;obtain ⟨hl,h⟩:=h;have f1:=F.sub_str_dict;wp_walk using wpAny_loadPart' hl;exact ⟨_,rfl,h⟩
theorem dq_list {a:Addr}{its:Array Value}{k:Nat}{d2:Option Addr}{s2:Array (Option Value)}:Meets (Builtin.«dict.__eq__» ⟨[.ref l,.ref a],[]⟩) (fun _ R s=>s.heap.get? l=some (OD e n dd sl)/\s.heap.get? a=some {cls:=.type "list",dict:=d2,data:=.seq its k,slots:=s2}/\R (.ok (.ret .notImplemented)) s):=.of_wp fun _ _ _ _ s h=>by
 obtain ⟨hp,g,d,tk,os⟩:=s;obtain ⟨hl,hb,h⟩:=h;have f1:=F.sub_list_dict;wp_walk using wpAny_loadPart' hl,wpAny_loadPart' hb;exact ⟨_,rfl,h⟩
theorem dq_tup {a:Addr}{its:Array Value}{k:Nat}{d2:Option Addr}{s2:Array (Option Value)}:Meets (Builtin.«dict.__eq__» ⟨[.ref l,.ref a],[]⟩) (fun _ R s=>s.heap.get? l=some (OD e n dd sl)/\s.heap.get? a=some {cls:=.type "tuple",dict:=d2,data:=.seq its k,slots:=s2}/\R (.ok (.ret .notImplemented)) s):=.of_wp fun _ _ _ _ s h=>by
 obtain ⟨hp,g,d,tk,os⟩:=s;obtain ⟨hl,hb,h⟩:=h;have f1:=F.sub_tuple_dict;wp_walk using wpAny_loadPart' hl,wpAny_loadPart' hb;exact ⟨_,rfl,h⟩
theorem qd_bl (b:Bool):Meets (Builtin.«int.__eq__» ⟨[.bool b,.ref l],[]⟩) (fun _ R s=>s.heap.get? l=some (OD e n dd sl)/\R (.ok (.ret .notImplemented)) s):=.of_wp fun _ _ _ _ s h=>by
 obtain ⟨hp,g,d,tk,os⟩:=s;obtain ⟨hl,h⟩:=h;wp_walk using wpAny_loadPart' hl,wpAny_load hl;exact ⟨_,rfl,h⟩
theorem qd_int (b:Int)(u:Tok):Meets (Builtin.«int.__eq__» ⟨[.int b u,.ref l],[]⟩) (fun _ R s=>s.heap.get? l=some (OD e n dd sl)/\R (.ok (.ret .notImplemented)) s):=.of_wp fun _ _ _ _ s h=>by
 obtain ⟨hp,g,d,tk,os⟩:=s;obtain ⟨hl,h⟩:=h;wp_walk using wpAny_loadPart' hl,wpAny_load hl;exact ⟨_,rfl,h⟩
theorem qd_str (b:Str)(u:Tok):Meets (Builtin.«str.__eq__» ⟨[.str b u,.ref l],[]⟩) (fun _ R s=>s.heap.get? l=some (OD e n dd sl)/\R (.ok (.ret .notImplemented)) s):=.of_wp fun _ _ _ _ s h=>by
 obtain ⟨hp,g,d,tk,os⟩:=s;obtain ⟨hl,h⟩:=h;wp_walk using wpAny_loadPart' hl,wpAny_load hl;exact ⟨_,rfl,h⟩
theorem qd_list {a:Addr}{its:Array Value}{k:Nat}{d2:Option Addr}{s2:Array (Option Value)}:Meets (Builtin.«list.__eq__» ⟨[.ref a,.ref l],[]⟩) (fun _ R s=>s.heap.get? l=some (OD e n dd sl)/\s.heap.get? a=some {cls:=.type "list",dict:=d2,data:=.seq its k,slots:=s2}/\R (.ok (.ret .notImplemented)) s):=.of_wp fun _ _ _ _ s h=>by
 obtain ⟨hp,g,d,tk,os⟩:=s;obtain ⟨hl,hb,h⟩:=h;have f1:=F.sub_dict_list;wp_walk using wpAny_loadPart' hl,wpAny_loadPart' hb;exact ⟨_,rfl,h⟩
theorem qd_tup {a:Addr}{its:Array Value}{k:Nat}{d2:Option Addr}{s2:Array (Option Value)}:Meets (Builtin.«tuple.__eq__» ⟨[.ref a,.ref l],[]⟩) (fun _ R s=>s.heap.get? l=some (OD e n dd sl)/\s.heap.get? a=some {cls:=.type "tuple",dict:=d2,data:=.seq its k,slots:=s2}/\R (.ok (.ret .notImplemented)) s):=.of_wp fun _ _ _ _ s h=>by
 obtain ⟨hp,g,d,tk,os⟩:=s;obtain ⟨hl,hb,h⟩:=h;have f1:=F.sub_dict_tuple;wp_walk using wpAny_loadPart' hl,wpAny_loadPart' hb;exact ⟨_,rfl,h⟩
end
noncomputable abbrev Odd2 (A:Around)(s:Shared)(v u:Value):Prop:=EqAt A s v u false/\EqAt A s u v false/\RcAt A s v u false/\RcAt A s u v false
section
variable {A:Around} {s:Shared} {a:Addr} {o:Obj}
theorem eq_l {u:Value}(hn:(Value.ref a == u)=false)(r:RcAt A s (.ref a) u false):EqAt A s (.ref a) u false:=fun prog w E Q h=>by
 unfold eqBool;refine wpAny_holding (wpAny_ite_split (fun z=>?_) fun _=>?_)
 ·rw [hn] at z;cases z
 ·exact wB1 (r prog w E _ (wpAny_truthy_bool h))
theorem eq_r {u:Value}(hn:(u == Value.ref a)=false)(r:RcAt A s u (.ref a) false):EqAt A s u (.ref a) false:=fun prog w E Q h=>by
 unfold eqBool;refine wpAny_holding (wpAny_ite_split (fun z=>?_) fun _=>?_)
 ·rw [hn] at z;cases z
 ·cases u<;>exact wB1 (r prog w E _ (wpAny_truthy_bool h))
theorem odd_flat {v:V}{u:Value}(ho:s.heap.get? a=some o)(hc:o.cls = .type "dict")(hd:∃ e n,o.data = .dict e n)(r:RelV v u)(f:flatV v=true)(hu:A.units<cLine):Odd2 A s (.ref a) u:=by
 obtain ⟨cls,dd,data,sl⟩:=o;obtain ⟨e,n,hd⟩:=hd;simp only at hc hd;subst hc hd;have two:∀ {u:Value},((Value.ref a) == u)=false->(u == (Value.ref a))=false->RcAt A s (.ref a) u false->RcAt A s u (.ref a) false->Odd2 A s (.ref a) u:=fun h1 h2 r1 r2=>⟨eq_l h1 r1,eq_r h2 r2,r1,r2⟩;cases v with
 | non=>
  cases r;refine two rfl rfl (fun _ _ _ _ h=>?_) fun _ _ _ _ h=>?_
  ·exact rc_eq_decline_or (k:=false) ⟨_,ho,rfl⟩ rfl (by decide) F.sub_NoneType_dict F.slot_dict_eq F.slot_NoneType_eq_refl (fun _ q=>call_meets F.slot_dict_eq ⟨_,ho,rfl⟩ F.entry_dict_eq (F.args_dict_eq_2 _ _) dq_non ⟨ho,q⟩) (fun _ q=>call_gives F.slot_NoneType_eq_refl rfl F.entry_NoneType_eq (F.args_NoneType_eq_2 _ _) (NoneType___eq___none_ref_0 a) q) (fun _ q=>wpAny_of_eq (rfl:isSame (.ref a) .none=pure false) q) (.inr hu) h
  ·exact rc_eq_decline_or (k:=false) rfl ⟨_,ho,rfl⟩ (by decide) F.sub_dict_NoneType F.slot_NoneType_eq F.slot_dict_eq_refl (fun _ q=>call_gives F.slot_NoneType_eq rfl F.entry_NoneType_eq (F.args_NoneType_eq_2 _ _) (NoneType___eq___none_ref_0 a) q) (fun _ q=>call_meets F.slot_dict_eq_refl ⟨_,ho,rfl⟩ F.entry_dict_eq (F.args_dict_eq_2 _ _) dq_non ⟨ho,q⟩) (fun _ q=>wpAny_of_eq (rfl:isSame .none (.ref a)=pure false) q) (.inr hu) h
 | bl b=>
  cases r;refine two rfl rfl (fun _ _ _ _ h=>?_) fun _ _ _ _ h=>?_
  ·exact rc_eq_decline_or (k:=false) ⟨_,ho,rfl⟩ rfl (by decide) F.sub_bool_dict F.slot_dict_eq F.slot_bool_eq_refl (fun _ q=>call_meets F.slot_dict_eq ⟨_,ho,rfl⟩ F.entry_dict_eq (F.args_dict_eq_2 _ _) (dq_bl b) ⟨ho,q⟩) (fun _ q=>call_meets F.slot_bool_eq_refl rfl F.entry_int_eq (F.args_int_eq_2 _ _) (qd_bl b) ⟨ho,q⟩) (fun _ q=>wpAny_of_eq (rfl:isSame (.ref a) (.bool b)=pure false) q) (.inr hu) h
  ·exact rc_eq_decline_or (k:=false) rfl ⟨_,ho,rfl⟩ (by decide) F.sub_dict_bool F.slot_bool_eq F.slot_dict_eq_refl (fun _ q=>call_meets F.slot_bool_eq rfl F.entry_int_eq (F.args_int_eq_2 _ _) (qd_bl b) ⟨ho,q⟩) (fun _ q=>call_meets F.slot_dict_eq_refl ⟨_,ho,rfl⟩ F.entry_dict_eq (F.args_dict_eq_2 _ _) (dq_bl b) ⟨ho,q⟩) (fun _ q=>wpAny_of_eq (rfl:isSame (.bool b) (.ref a)=pure false) q) (.inr hu) h
 | int b=>
  obtain ⟨t,rfl⟩:=r;refine two rfl rfl (fun _ _ _ _ h=>?_) fun _ _ _ _ h=>?_
  ·exact rc_eq_decline_or (k:=false) ⟨_,ho,rfl⟩ (typeIs_int s b t) (by decide) F.sub_int_dict F.slot_dict_eq F.slot_int_eq_refl (fun _ q=>call_meets F.slot_dict_eq ⟨_,ho,rfl⟩ F.entry_dict_eq (F.args_dict_eq_2 _ _) (dq_int b t) ⟨ho,q⟩) (fun _ q=>call_meets F.slot_int_eq_refl (typeIs_int s b t) F.entry_int_eq (F.args_int_eq_2 _ _) (qd_int b t) ⟨ho,q⟩) (fun _ q=>wpAny_of_eq (rfl:isSame (.ref a) (.int b t)=pure false) q) (.inr hu) h
  ·exact rc_eq_decline_or (k:=false) (typeIs_int s b t) ⟨_,ho,rfl⟩ (by decide) F.sub_dict_int F.slot_int_eq F.slot_dict_eq_refl (fun _ q=>call_meets F.slot_int_eq (typeIs_int s b t) F.entry_int_eq (F.args_int_eq_2 _ _) (qd_int b t) ⟨ho,q⟩) (fun _ q=>call_meets F.slot_dict_eq_refl ⟨_,ho,rfl⟩ F.entry_dict_eq (F.args_dict_eq_2 _ _) (dq_int b t) ⟨ho,q⟩) (fun _ q=>wpAny_of_eq (rfl:isSame (.int b t) (.ref a)=pure false) q) (.inr hu) h
 | str b=>
  obtain ⟨t,rfl⟩:=r;refine two rfl rfl (fun _ _ _ _ h=>?_) fun _ _ _ _ h=>?_
  ·exact rc_eq_decline_or (k:=false) ⟨_,ho,rfl⟩ (typeIs_str s b t) (by decide) F.sub_str_dict F.slot_dict_eq F.slot_str_eq_refl (fun _ q=>call_meets F.slot_dict_eq ⟨_,ho,rfl⟩ F.entry_dict_eq (F.args_dict_eq_2 _ _) (dq_str b t) ⟨ho,q⟩) (fun _ q=>call_meets F.slot_str_eq_refl (typeIs_str s b t) F.entry_str_eq (F.args_str_eq_2 _ _) (qd_str b t) ⟨ho,q⟩) (fun _ q=>wpAny_of_eq (rfl:isSame (.ref a) (.str b t)=pure false) q) (.inr hu) h
  ·exact rc_eq_decline_or (k:=false) (typeIs_str s b t) ⟨_,ho,rfl⟩ (by decide) F.sub_dict_str F.slot_str_eq F.slot_dict_eq_refl (fun _ q=>call_meets F.slot_str_eq (typeIs_str s b t) F.entry_str_eq (F.args_str_eq_2 _ _) (qd_str b t) ⟨ho,q⟩) (fun _ q=>call_meets F.slot_dict_eq_refl ⟨_,ho,rfl⟩ F.entry_dict_eq (F.args_dict_eq_2 _ _) (dq_str b t) ⟨ho,q⟩) (fun _ q=>wpAny_of_eq (rfl:isSame (.str b t) (.ref a)=pure false) q) (.inr hu) h
 | _=>cases f
theorem odd_seq {b:Bool}{x:Addr}{its:Array Value}(ho:s.heap.get? a=some o)(hc:o.cls = .type "dict")(hd:∃ e n,o.data = .dict e n)(c:SCo b s.heap x its)(hu:A.units<cLine):Odd2 A s (.ref a) (.ref x):=by
 obtain ⟨cls,dd,data,sl⟩:=o;obtain ⟨e,n,hd⟩:=hd;simp only at hc hd;subst hc hd;cases b with
 | false=>
  obtain ⟨⟨cls2,dd2,data2,sl2⟩,ho2,hc2,n2,hd2⟩:=(show s.heap.IsTuple x its from c);simp only at hc2 hd2;subst hc2 hd2;have hne:a≠x:=fun z=>by subst z;rw [ho] at ho2;exact absurd (congrArg Obj.cls (Option.some.inj ho2)) (by simp)
  have r1:RcAt A s (.ref a) (.ref x) false:=fun _ _ _ _ h=>rc_eq_decline_or (k:=false) ⟨_,ho,rfl⟩ ⟨_,ho2,rfl⟩ (by decide) F.sub_tuple_dict F.slot_dict_eq F.slot_tuple_eq_refl (fun _ q=>call_meets F.slot_dict_eq ⟨_,ho,rfl⟩ F.entry_dict_eq (F.args_dict_eq_2 _ _) dq_tup ⟨ho,ho2,q⟩) (fun _ q=>call_meets F.slot_tuple_eq_refl ⟨_,ho2,rfl⟩ F.entry_tuple_eq (F.args_tuple_eq_2 _ _) qd_tup ⟨ho,ho2,q⟩) (fun _ q=>wpAny_isSame_ref_other hne ho ho2 (by simp) q) (.inr hu) h;have r2:RcAt A s (.ref x) (.ref a) false:=fun _ _ _ _ h=>rc_eq_decline_or (k:=false) ⟨_,ho2,rfl⟩ ⟨_,ho,rfl⟩ (by decide) F.sub_dict_tuple F.slot_tuple_eq F.slot_dict_eq_refl (fun _ q=>call_meets F.slot_tuple_eq ⟨_,ho2,rfl⟩ F.entry_tuple_eq (F.args_tuple_eq_2 _ _) qd_tup ⟨ho,ho2,q⟩) (fun _ q=>call_meets F.slot_dict_eq_refl ⟨_,ho,rfl⟩ F.entry_dict_eq (F.args_dict_eq_2 _ _) dq_tup ⟨ho,ho2,q⟩) (fun _ q=>wpAny_isSame_ref_other' hne.symm ho2 ho (by simp) q) (.inr hu) h;exact ⟨.of_refs hne r1,.of_refs hne.symm r2,r1,r2⟩
 | true=>
  obtain ⟨⟨cls2,dd2,data2,sl2⟩,ho2,hc2,n2,hd2⟩:=(show s.heap.IsList x its from c);simp only at hc2 hd2;subst hc2 hd2;have hne:a≠x:=fun z=>by subst z;rw [ho] at ho2;exact absurd (congrArg Obj.cls (Option.some.inj ho2)) (by simp)
  have r1:RcAt A s (.ref a) (.ref x) false:=fun _ _ _ _ h=>rc_eq_decline_or (k:=false) ⟨_,ho,rfl⟩ ⟨_,ho2,rfl⟩ (by decide) F.sub_list_dict F.slot_dict_eq F.slot_list_eq_refl (fun _ q=>call_meets F.slot_dict_eq ⟨_,ho,rfl⟩ F.entry_dict_eq (F.args_dict_eq_2 _ _) dq_list ⟨ho,ho2,q⟩) (fun _ q=>call_meets F.slot_list_eq_refl ⟨_,ho2,rfl⟩ F.entry_list_eq (F.args_list_eq_2 _ _) qd_list ⟨ho,ho2,q⟩) (fun _ q=>wpAny_isSame_ref_other hne ho ho2 (by simp) q) (.inr hu) h;have r2:RcAt A s (.ref x) (.ref a) false:=fun _ _ _ _ h=>rc_eq_decline_or (k:=false) ⟨_,ho2,rfl⟩ ⟨_,ho,rfl⟩ (by decide) F.sub_dict_list F.slot_list_eq F.slot_dict_eq_refl (fun _ q=>call_meets F.slot_list_eq ⟨_,ho2,rfl⟩ F.entry_list_eq (F.args_list_eq_2 _ _) qd_list ⟨ho,ho2,q⟩) (fun _ q=>call_meets F.slot_dict_eq_refl ⟨_,ho,rfl⟩ F.entry_dict_eq (F.args_dict_eq_2 _ _) dq_list ⟨ho,ho2,q⟩) (fun _ q=>wpAny_isSame_ref_other' hne.symm ho2 ho (by simp) q) (.inr hu) h;exact ⟨.of_refs hne r1,.of_refs hne.symm r2,r1,r2⟩
end
noncomputable abbrev G1:=D->Sto->Option (D×Sto)
noncomputable abbrev G2:=D->D->Sto->Option (D×Sto)
noncomputable abbrev G3:=D->D->D->Sto->Option (D×Sto)
noncomputable def b1 (f:G1):FN:=fun ds S=>match ds with
 | [a]=>f a S
 | _=>none
noncomputable def b2 (f:G2):FN:=fun ds S=>match ds with
 | [a,b]=>f a b S
 | _=>none
noncomputable def b3 (f:G3):FN:=fun ds S=>match ds with
 | [a,b,c]=>f a b c S
 | _=>none
section
variable {X:Cx} {K:Fg1} {H:Hp} {Q:VK}
theorem rn2 {f:G2}{x y:V}(h:rN K (b2 f) [x,y] H Q):∃ mu S d e r S',Rep K H mu d x/\Rep K H mu e y/\Sim K H mu S/\f d e S=some (r,S')/\Cont K mu H r S' Q:=by
 obtain ⟨mu,S,ds,r,S',hr,hs,hm,hc⟩:=h;cases hr with
 | cons q t=>cases t with
  | cons q2 t=>cases t;exact ⟨mu,S,_,_,r,S',q,q2,hs,hm,hc⟩
theorem rn1 {f:G1}{xs:List V}(h:rN K (b1 f) xs H Q):∃ x mu S d r S',xs=[x]/\Rep K H mu d x/\Sim K H mu S/\f d S=some (r,S')/\Cont K mu H r S' Q:=by
 obtain ⟨mu,S,ds,r,S',hr,hs,hm,hc⟩:=h;cases hr with
 | nil=>cases hm
 | cons q t=>cases t with
  | nil=>exact ⟨_,mu,S,_,r,S',rfl,q,hs,hm,hc⟩
  | cons q2 t=>cases hm
theorem rn2l {f:G2}{xs:List V}(h:rN K (b2 f) xs H Q):∃ x y mu S d e r S',xs=[x,y]/\Rep K H mu d x/\Rep K H mu e y/\Sim K H mu S/\f d e S=some (r,S')/\Cont K mu H r S' Q:=by
 obtain ⟨mu,S,ds,r,S',hr,hs,hm,hc⟩:=h;cases hr with
 | nil=>cases hm
 | cons q t=>cases t with
  | nil=>cases hm
  | cons q2 t=>cases t with
   | nil=>exact ⟨_,_,mu,S,_,_,r,S',rfl,q,q2,hs,hm,hc⟩
   | cons q3 t=>cases hm
theorem Cont.now {mu:List Addr}{S:Sto}{d:D}{v:V}(c:Cont K mu H d S Q)(r:Rep K H mu d v)(s:Sim K H mu S):Q v H:=c v H mu (.refl _ _) r s
end
noncomputable def mulFits (i j:Int):Bool:=(decide (-(2^64)<i)&&decide (i<2^64))||(decide (-(2^64)<j)&&decide (j<2^64))||(decide (i.natAbs<2^1000)&&decide (j.natAbs<2^1000))
noncomputable def gAdd:G2:=fun d e S=>match d,e with
 | .int i,.int j=>some (.int (i+j),S)
 | .tup xs,.tup ys=>if xs.length+ys.length<=sizeLine then some (.tup (xs++ys),S) else none
 | .str x,.str y=>if x.length+y.length<=sizeLine then some (.str (x++y),S) else none
 | .ref a,.ref b=>match S[a]?,S[b]? with
  | some (.lst xs),some (.lst ys)=>if xs.length+ys.length<=sizeLine then some (.ref S.length,S++[.lst (xs++ys)]) else none
  | _,_=>none
 | _,_=>none
noncomputable def gSub:G2:=fun d e S=>match d,e with
 | .int i,.int j=>some (.int (i-j),S)
 | _,_=>none
noncomputable def gMul:G2:=fun d e S=>match d,e with
 | .int i,.int j=>if mulFits i j=true then some (.int (i*j),S) else none
 | _,_=>none
noncomputable def gMod:G2:=fun d e S=>match d,e with
 | .int i,.int j=>if 0<j then some (.int (i%j),S) else none
 | _,_=>none
noncomputable def gDiv:G2:=fun d e S=>match d,e with
 | .int i,.int j=>if 0<j/\j<1073741824 then some (.int (i/j),S) else none
 | _,_=>none
noncomputable def gPow:G2:=fun d e S=>match d,e with
 | .int i,.int j=>if 0<=j/\j<=1000000/\i.natAbs<2^64 then some (.int (i^j.toNat),S) else none
 | _,_=>none
noncomputable def gNeg:G1:=fun d S=>match d with
 | .int i=>some (.int (-i),S)
 | _=>none
section
variable {X:Cx}
theorem mulFits_ok {i j:Int}(h:mulFits i j=true):IntMulOk i j:=by
 unfold mulFits at h;simp only [Bool.or_eq_true,bA1,decide_eq_true_eq] at h;rcases h with (⟨h1,h2⟩ | ⟨h1,h2⟩) | ⟨h1,h2⟩
 ·exact .of_left (intBits_le_64 h1 h2)
 ·exact .of_right (intBits_le_64 h1 h2)
 ·exact .of_bits (Nat.le_trans (intBits_le h1) (by decide)) (Nat.le_trans (intBits_le h2) (by decide))
theorem op2_int {f:Value->Value->Sem Value}{g:G2}{c:Int->Int->Prop}{v:Int->Int->D}(hg:∀ d e S r S',g d e S=some (r,S') -> ∃ i j,d = .int i/\e = .int j/\c i j/\r=v i j/\S'=S){vv:Int->Int->V}
  (hv:∀ i j K H mu,Rep K H mu (v i j) (vv i j)) (ho:OpR X f (rI c vv)):OpR X f (r2 X.K (b2 g)):=by
 intro pins s σ H x y u w Q I rx ry h;obtain ⟨mu,S,d,e,r,S',r1,r2,hs,hm,hc⟩:=rn2 h;obtain ⟨i,j,rfl,rfl,cc,rfl,rfl⟩:=hg d e S r S' hm;cases r1;cases r2;exact ho pins s σ H _ _ u w Q I rx ry ⟨i,j,rfl,rfl,cc,hc.now (hv i j _ _ _) hs⟩
theorem op2_int0 {f:Value->Value->Sem Value}{g:G2}{v:Int->Int->D}(hg:∀ d e S r S',g d e S=some (r,S') -> ∃ i j,d = .int i/\e = .int j/\r=v i j/\S'=S){vv:Int->Int->V}
  (hv:∀ i j K H mu,Rep K H mu (v i j) (vv i j)) (ho:OpR X f (rI0 vv)):OpR X f (r2 X.K (b2 g)):=by
 intro pins s σ H x y u w Q I rx ry h;obtain ⟨mu,S,d,e,r,S',r1,r2,hs,hm,hc⟩:=rn2 h;obtain ⟨i,j,rfl,rfl,rfl,rfl⟩:=hg d e S r S' hm;cases r1;cases r2;exact ho pins s σ H _ _ u w Q I rx ry ⟨i,j,rfl,rfl,hc.now (hv i j _ _ _) hs⟩
theorem o_sub:OpR X (binaryOp .Sub) (r2 X.K (b2 gSub)):=op2_int0 (v:=fun i j=>.int (i-j)) (fun d e S r S' h=>by
 unfold gSub at h;split at h
 ·cases h;exact ⟨_,_,rfl,rfl,rfl,rfl⟩
 ·cases h) (fun _ _ _ _ _=>.int _) op_sub
theorem o_mul:OpR X (binaryOp .Mult) (r2 X.K (b2 gMul)):=op2_int (c:=fun i j=>IntMulOk i j) (v:=fun i j=>.int (i*j)) (fun d e S r S' h=>by
 unfold gMul at h;split at h
 ·split at h
  ·rename_i q;cases h;exact ⟨_,_,rfl,rfl,mulFits_ok q,rfl,rfl⟩
  ·cases h
 ·cases h) (fun _ _ _ _ _=>.int _) (opI fun _ _ _ _ _ _ _ hc q=>mul_int q hc)
theorem o_mod:OpR X (binaryOp .Mod) (r2 X.K (b2 gMod)):=op2_int (c:=fun _ j=>0<j) (v:=fun i j=>.int (i%j)) (fun d e S r S' h=>by
 unfold gMod at h;split at h
 ·split at h
  ·rename_i q;cases h;exact ⟨_,_,rfl,rfl,q,rfl,rfl⟩
  ·cases h
 ·cases h) (fun _ _ _ _ _=>.int _) op_mod
theorem o_div:OpR X (binaryOp .FloorDiv) (r2 X.K (b2 gDiv)):=op2_int (c:=CDiv) (v:=fun i j=>.int (i/j)) (fun d e S r S' h=>by
 unfold gDiv at h;split at h
 ·split at h
  ·rename_i q;cases h;exact ⟨_,_,rfl,rfl,q,rfl,rfl⟩
  ·cases h
 ·cases h) (fun _ _ _ _ _=>.int _) op_fdiv
theorem o_pow:OpR X (binaryOp .Pow) (r2 X.K (b2 gPow)):=op2_int (c:=CPow) (v:=fun i j=>.int (i^j.toNat)) (fun d e S r S' h=>by
 unfold gPow at h;split at h
 ·split at h
  ·rename_i q;cases h;exact ⟨_,_,rfl,rfl,q,rfl,rfl⟩
  ·cases h
 ·cases h) (fun _ _ _ _ _=>.int _) op_pow
theorem o_neg:UnR X (unaryOp .USub) (fun x H Q=>rN X.K (b1 gNeg) [x] H Q):=by
 intro pins s σ H x v Q I rx h;obtain ⟨x',mu,S,d,r,S',e,r1,hs,hm,hc⟩:=rn1 h;cases e;cases d with
 | int i=>cases hm;cases r1;exact un_neg pins s σ H _ v Q I rx ⟨i,rfl,hc.now (.int _) hs⟩
 | _=>cases hm
theorem cat_empty {s:Shared}{prog:Program}{w:World}{A:Around}{E:Value->Shared->Prop}{t b:Addr}{ws:List Value}{Q:Value->Shared->Prop}(ht:IsTup s.heap t ([]:List Value).toArray)(hb:IsTup s.heap b ws.toArray)(h:Q (.ref b) s):
  wpAny (model prog w) A (binaryOp .Add (.ref t) (.ref b)) Q E s:=by
 obtain ⟨⟨cls,dd,data,sl⟩,ho,hc,n,hd⟩:=id ht;obtain ⟨⟨cls2,dd2,data2,sl2⟩,ho2,hc2,n2,hd2⟩:=id hb;simp only at hc hd hc2 hd2;subst hc hd hc2 hd2;exact concat_meets ⟨_,ho,rfl⟩ ⟨_,ho2,rfl⟩ noFill_tuple_add seq_tuple_add PySem.F.slot_tuple_add PySem.F.entry_tuple_add (PySem.F.args_tuple_add_2 _ _) (tuple_addW0 t b ([]:List Value).toArray ws.toArray n n2 dd dd2 sl sl2 (by simp)) ⟨ho,ho2,h⟩
theorem o_add:OpR X (binaryOp .Add) (r2 X.K (b2 gAdd)):=by
 intro pins s σ H x y u w Q I rx ry h;obtain ⟨mu,S,d,e,r,S',r1,r2,hs,hm,hc⟩:=rn2 h;unfold gAdd at hm;split at hm
 ·cases hm;cases r1;cases r2;exact op_add pins s σ H _ _ u w Q I rx ry ⟨_,_,rfl,rfl,hc.now (.int _) hs⟩
 ·rename_i xs ys;split at hm
  ·rename_i hl;cases hm;cases r1 with
   | tup q1 t1=>
    cases r2 with
    | tup q2 t2=>
     rename_i vs1 a1 vs2 a2;by_cases hx:vs1=[]
     ·subst hx;have:xs=[]:=by cases t1;rfl
      subst this;cases rx;cases ry;obtain ⟨its,rv,p1,_⟩:=I.tuple q1;obtain ⟨its2,rv2,p2,_⟩:=I.tuple q2;have:its=[]:=rv.nil_iff.mpr rfl;subst this;exact cat_empty p1 p2 ⟨.ref a2,H,I,rfl,hc.now (.tup q2 t2) hs⟩
     ·refine op_catT pins s σ H _ _ u w Q I rx ry ⟨a1,a2,vs1,vs2,rfl,rfl,q1,q2,hx,by rw [<- t1.length,<- t2.length];exact hl,fun z=>?_,fun z p hp=>?_⟩
      ·subst z;have:ys=[]:=by cases t2;rfl
       subst this;rw [List.append_nil] at hc;exact hc.now (.tup q1 t1) hs
      ·exact hc _ _ mu (Ext.fresh hp) (.tup (SqT.of upd_same) ((t1.append t2).ext (Ext.fresh hp))) (hs.fresh hp)
  ·cases hm
 ·rename_i i j;split at hm
  ·rename_i hl;cases hm;cases r1;cases r2;exact op_add_str pins s σ H _ _ u w Q I rx ry ⟨i,j,rfl,rfl,hl,hc.now (.str _) hs⟩
  ·cases hm
 ·rename_i a b;split at hm
  ·rename_i xs ys ea eb;split at hm
   ·rename_i hl;cases hm;cases r1 with
    | ref qa=>
     cases r2 with
     | ref qb=>
      obtain ⟨vs1,e1,t1⟩:=hs.lst ea qa;obtain ⟨vs2,e2,t2⟩:=hs.lst eb qb;refine op_cat pins s σ H _ _ u w Q I rx ry ⟨_,_,vs1,vs2,rfl,rfl,e1,e2,by rw [<- t1.length,<- t2.length];exact hl,fun p hp=>?_⟩;exact hc _ _ (mu++[p]) (Ext.new_ hp) (.ref (new_at hs.len p)) (hs.newL (t1.append t2) hp)
   ·cases hm
  ·cases hm
 ·cases hm
end
noncomputable def gCmp (p:Int->Int->Bool):G2:=fun d e S=>match d,e with
 | .int i,.int j=>some (.bl (p i j),S)
 | _,_=>none
section
variable {X:Cx}
theorem gCmp_of {p:Int->Int->Bool}(d e:D)(S:Sto)(r:D)(S':Sto)(h:gCmp p d e S=some (r,S')):∃ i j,d = .int i/\e = .int j/\r = .bl (p i j)/\S'=S:=by
 unfold gCmp at h;split at h
 ·cases h;exact ⟨_,_,rfl,rfl,rfl,rfl⟩
 ·cases h
theorem o_le:OpR X (compareOp .LtE) (r2 X.K (b2 (gCmp fun i j=>decide (i<=j)))):=op2_int0 gCmp_of (fun _ _ _ _ _=>.bl _) op_le
theorem o_gt:OpR X (compareOp .Gt) (r2 X.K (b2 (gCmp fun i j=>decide (j<i)))):=op2_int0 gCmp_of (fun _ _ _ _ _=>.bl _) op_gt
theorem o_ge:OpR X (compareOp .GtE) (r2 X.K (b2 (gCmp fun i j=>decide (j<=i)))):=op2_int0 gCmp_of (fun _ _ _ _ _=>.bl _) op_ge
end
noncomputable def flatD:D->Bool
 | .non=>true
 | .bl _=>true
 | .int _=>true
 | .str _=>true
 | _=>false
noncomputable def eqF:D->D->Option Bool
 | .non,.non=>some true
 | .bl a,.bl b=>some (a == b)
 | .bl a,.int b=>some ((if a then 1 else 0) == b)
 | .int a,.bl b=>some (a == (if b then 1 else 0))
 | .int a,.int b=>some (a == b)
 | .str a,.str b=>some (a == b)
 | d,e=>if flatD d&&flatD e then some false else none
noncomputable def eqL (f:D->D->Option Bool):List D->List D->Option Bool
 | x::xs,y::ys=>(f x y).bind fun b=>(eqL f xs ys).map fun c=>b&&c
 | [],[]=>some true
 | _,_=>some false
noncomputable def isDc (S:Sto):D->Bool
 | .ref n=>match S[n]? with
  | some (.dct _)=>true
  | some (.dcT _)=>true
  | _=>false
 | _=>false
noncomputable def eqO (S:Sto)(d e:D):Option Bool:=match isDc S d,isDc S e with
 | false,false=>eqF d e
 | true,false=>if flatD e=true then some false else none
 | false,true=>if flatD d=true then some false else none
 | true,true=>none
noncomputable def eqN (S:Sto):Nat->D->D->Option Bool
 | 0,_,_=>none
 | n+1,d,e=>match seqOf S d,seqOf S e with
  | some p,some q=>if p.1=q.1 then (if p.1=true/\p.2.length≠q.2.length then some false else eqL (eqN S n) p.2 q.2) else some false
  | some _,none=>if flatD e=true then some false else if isDc S e=true then some false else none
  | none,some _=>if flatD d=true then some false else if isDc S d=true then some false else none
  | none,none=>eqO S d e
section
variable {X:Cx} {pins:List (Addr×Obj)} {σ:L2.St} {H:Hp} {s:Shared} {mu:List Addr} {S:Sto}
theorem flat_rep {K:Fg1}{d:D}{v:V}(r:Rep K H mu d v)(h:flatD d=true):flatV v=true /\ ∀ e w,Rep K H mu e w->flatD e=true->eqF d e=some (eqV v w):=by
 cases d with
 | non=>cases r;refine ⟨rfl,fun e w q f=>?_⟩;cases e with
  | non=>cases q;rfl
  | bl _=>cases q;rfl
  | int _=>cases q;rfl
  | str _=>cases q;rfl
  | _=>cases f
 | bl b=>cases r;refine ⟨rfl,fun e w q f=>?_⟩;cases e with
  | non=>cases q;rfl
  | bl _=>cases q;rfl
  | int _=>cases q;rfl
  | str _=>cases q;rfl
  | _=>cases f
 | int i=>cases r;refine ⟨rfl,fun e w q f=>?_⟩;cases e with
  | non=>cases q;rfl
  | bl _=>cases q;rfl
  | int _=>cases q;rfl
  | str _=>cases q;rfl
  | _=>cases f
 | str x=>cases r;refine ⟨rfl,fun e w q f=>?_⟩;cases e with
  | non=>cases q;rfl
  | bl _=>cases q;rfl
  | int _=>cases q;rfl
  | str _=>cases q;rfl
  | _=>cases f
 | _=>cases h
theorem eqF_flat {d e:D}{b:Bool}(h:eqF d e=some b):flatD d=true/\flatD e=true:=by
 cases d<;>cases e<;>first | exact ⟨rfl,rfl⟩ | (cases h;done) | exact nomatch h | (simp [eqF,flatD] at h)
theorem eqV_self {v:V}(h:flatV v=true):eqV v v=true:=by
 cases v<;>first | rfl | (cases h;done) | exact beq_self_eq_true _ | (simp [eqV];done)
theorem dc_at (I:Inv X pins σ H s)(hs:Sim X.K H mu S){d:D}{v:V}(r:Rep X.K H mu d v)(h:isDc S d=true):∃ a o,v = .ref a/\s.heap.get? a=some o/\o.cls = .type "dict" /\ ∃ e n,o.data = .dict e n:=by
 cases d with
 | ref n=>
  rw [isDc] at h;cases r with
  | @ref _ a qn=>
   split at h
   ·rename_i ks e;obtain ⟨ws,e1,_⟩:=hs.dct e qn;obtain ⟨_,_,vs,_,o,es,ep,h3,h4,h5,_⟩:=(show ObjOk X.prog X.w H s.heap a (.dK ws) from I.hok a _ e1);exact ⟨a,o,rfl,h3,h4.1,es,ep,h5⟩
   ·rename_i ks e;obtain ⟨ws,e1,_⟩:=hs.dcT e qn;obtain ⟨⟨_,_,o,es,ep,h3,h4,h5,_⟩,_⟩:=(show ObjOk X.prog X.w H s.heap a (.ext (DictAt a ws)) from I.hok a _ e1);exact ⟨a,o,rfl,h3,h4.1,es,ep,h5⟩
   ·cases h
 | _=>cases h
theorem eqN_same (I:Inv X pins σ H s)(hs:Sim X.K H mu S):∀ (n:Nat) {d e:D} {v:V} {b:Bool},Rep X.K H mu d v->Rep X.K H mu e v->eqN S n d e=some b->b=true
 | 0,_,_,_,_,_,_,h=>by cases h
 | n + 1,d,e,v,b,rd,re,h=>by
  rw [eqN] at h;have lists:∀ {xs ys:List D} {vs:List V} {b:Bool},Reps X.K H mu xs vs->Reps X.K H mu ys vs->eqL (eqN S n) xs ys=some b->b=true:=by
   intro xs
   induction xs with
   | nil=>intro ys vs b hx hy h;cases hx;cases hy;cases h;rfl
   | cons x xs ih=>
    intro ys vs b hx hy h;cases hx with
    | cons r t=>
     cases hy with
     | cons r' t'=>
      rw [eqL] at h;obtain ⟨b1,e1,h⟩:=oB1.mp h;obtain ⟨b2,e2,h⟩:=oM1.mp h;subst h;rw [eqN_same I hs n r r' e1,ih t t' e2];rfl
  cases hd:seqOf S d with
  | some p=>
   obtain ⟨pb,xs⟩:=p;obtain ⟨a,vs,rfl,q,t⟩:=seqOf_at rd hs hd;cases he:seqOf S e with
   | some p2=>
    obtain ⟨qb,ys⟩:=p2;obtain ⟨a2,vs2,e2,q2,t2⟩:=seqOf_at re hs he;cases e2;rw [hd,he] at h;dsimp only at h;obtain ⟨its,rv,co,_⟩:=sqb_at I q;obtain ⟨its2,rv2,co2,_⟩:=sqb_at I q2;have hb:pb=qb:=by
     cases pb<;>cases qb
     ·rfl
     ·obtain ⟨o,e1,c1,_⟩:=co;obtain ⟨o2,e2,c2,_⟩:=co2;rw [e1] at e2;cases e2;rw [c1] at c2;exact absurd c2 (by decide)
     ·obtain ⟨o,e1,c1,_⟩:=co;obtain ⟨o2,e2,c2,_⟩:=co2;rw [e1] at e2;cases e2;rw [c1] at c2;exact absurd c2 (by decide)
     ·rfl
    subst hb;have hv:=sqb_inj I q q2;subst hv;rw [if_pos rfl,if_neg (by rw [t.length,t2.length];simp)] at h;exact lists t t2 h
   | none=>
    rw [hd,he] at h;dsimp only at h;split at h
    ·rename_i f;have:=(flat_rep re f).1;cases this
    ·split at h
     ·rename_i f;obtain ⟨a2,o,e2,ho,hc,_⟩:=dc_at I hs re f;cases e2;obtain ⟨its,rv,co,_⟩:=sqb_at I q;cases pb with
      | false=>obtain ⟨o2,ho2,hc2,_⟩:=co;rw [ho] at ho2;cases ho2;rw [hc] at hc2;exact absurd hc2 (by decide)
      | true=>obtain ⟨o2,ho2,hc2,_⟩:=co;rw [ho] at ho2;cases ho2;rw [hc] at hc2;exact absurd hc2 (by decide)
     ·cases h
  | none=>
   cases he:seqOf S e with
   | some p2=>
    obtain ⟨qb,ys⟩:=p2;obtain ⟨a2,vs2,e2,q2,t2⟩:=seqOf_at re hs he;subst e2;rw [hd,he] at h;dsimp only at h;split at h
    ·rename_i f;have:=(flat_rep rd f).1;cases this
    ·split at h
     ·rename_i f;obtain ⟨a,o,e2,ho,hc,_⟩:=dc_at I hs rd f;cases e2;obtain ⟨its,rv,co,_⟩:=sqb_at I q2;cases qb with
      | false=>obtain ⟨o2,ho2,hc2,_⟩:=co;rw [ho] at ho2;cases ho2;rw [hc] at hc2;exact absurd hc2 (by decide)
      | true=>obtain ⟨o2,ho2,hc2,_⟩:=co;rw [ho] at ho2;cases ho2;rw [hc] at hc2;exact absurd hc2 (by decide)
     ·cases h
   | none=>
    rw [hd,he] at h;dsimp only at h;unfold eqO at h;split at h
    ·obtain ⟨f1,f2⟩:=eqF_flat h;obtain ⟨g1,g2⟩:=flat_rep rd f1;rw [g2 e v re f2] at h;cases h;exact eqV_self g1
    ·rename_i k1 _;split at h
     ·rename_i f;obtain ⟨a,o,rfl,_⟩:=dc_at I hs rd k1;have:=(flat_rep re f).1;cases this
     ·cases h
    ·rename_i _ k2;split at h
     ·rename_i f;obtain ⟨a,o,rfl,_⟩:=dc_at I hs re k2;have:=(flat_rep rd f).1;cases this
     ·cases h
    ·cases h
theorem rc_seq_none {A:Around}{b:Bool}{a:Addr}{its:Array Value}{v:V}{u:Value}(c:SCo b s.heap a its)(r:RelV v u)(f:flatV v=true)(hu:A.units<cLine):
   SeqAt.EqAt A s (.ref a) u false/\SeqAt.EqAt A s u (.ref a) false/\SeqAt.RcAt A s (.ref a) u false/\SeqAt.RcAt A s u (.ref a) false:=by
 cases v with
 | non => cases r;cases b
          · exact ⟨.tuple_none c hu,.none_tuple c hu,.tuple_none c hu,.none_tuple c hu⟩
          · exact ⟨.list_none c hu,.none_list c hu,.list_none c hu,.none_list c hu⟩
 | bl k => cases r;cases b
           · exact ⟨.tuple_bool k c hu,.bool_tuple k c hu,.tuple_bool k c hu,.bool_tuple k c hu⟩
           · exact ⟨.list_bool k c hu,.bool_list k c hu,.list_bool k c hu,.bool_list k c hu⟩
 | int i => obtain ⟨t,rfl⟩:=r;cases b
            · exact ⟨.tuple_int i t c hu,.int_tuple i t c hu,.tuple_int i t c hu,.int_tuple i t c hu⟩
            · exact ⟨.list_int i t c hu,.int_list i t c hu,.list_int i t c hu,.int_list i t c hu⟩
 | str x => obtain ⟨t,rfl⟩:=r;cases b
            · exact ⟨.tuple_str x t c hu,.str_tuple x t c hu,.tuple_str x t c hu,.str_tuple x t c hu⟩
            · exact ⟨.list_str x t c hu,.str_list x t c hu,.list_str x t c hu,.str_list x t c hu⟩
 | _=>cases f
theorem rc_flat {A:Around}{x y:V}{u w:Value}(rx:RelV x u)(ry:RelV y w)(fx:flatV x=true)(fy:flatV y=true):SeqAt.RcAt A s u w (eqV x y):=by
 cases x with
 | non=>cases rx;cases y with
  | non=>cases ry;exact .none_none
  | bl k=>cases ry;exact .none_bool k
  | int i=>obtain ⟨t,rfl⟩:=ry;exact .none_int i t
  | str z=>obtain ⟨t,rfl⟩:=ry;exact .none_str z t
  | _=>cases fy
 | bl k'=>cases rx;cases y with
  | non=>cases ry;exact .bool_none k'
  | bl k=>cases ry;exact .bool_bool k' k
  | int i=>obtain ⟨t,rfl⟩:=ry;exact .bool_int k' i t
  | str z=>obtain ⟨t,rfl⟩:=ry;exact .bool_str k' z t
  | _=>cases fy
 | int i'=>obtain ⟨t',rfl⟩:=rx;cases y with
  | non=>cases ry;exact .int_none i' t'
  | bl k=>cases ry;exact .int_bool i' t' k
  | int i=>obtain ⟨t,rfl⟩:=ry;exact .int_int i' t' i t
  | str z=>obtain ⟨t,rfl⟩:=ry;exact .int_str i' t' z t
  | _=>cases fy
 | str z'=>obtain ⟨t',rfl⟩:=rx;cases y with
  | non=>cases ry;exact .str_none z' t'
  | bl k=>cases ry;exact .str_bool z' t' k
  | int i=>obtain ⟨t,rfl⟩:=ry;exact .str_int z' t' i t
  | str z=>obtain ⟨t,rfl⟩:=ry;exact .str_str z' t' z t
  | _=>cases fy
 | _=>cases fx
theorem eqL_at (f:D->D->Option Bool):∀ {xs ys:List D} {b:Bool},eqL f xs ys=some b -> ∃ e:Nat->Bool,(∀ j x y,xs[j]? = some x->ys[j]? = some y->f x y=some (e j))/\b=((List.range (min xs.length ys.length)).all e&&xs.length == ys.length)
 | [],[],b,h=>by cases h;exact ⟨fun _=>true,fun j x y h=>by simp at h,rfl⟩
 | [],y::ys,b,h=>by cases h;exact ⟨fun _=>true,fun j x y h=>by simp at h,by simp⟩
 | x::xs,[],b,h=>by cases h;exact ⟨fun _=>true,fun j x y h h'=>by simp at h',by simp⟩
 | x::xs,y::ys,b,h=>by
  rw [eqL] at h;obtain ⟨b1,e1,h⟩:=oB1.mp h;obtain ⟨b2,e2,h⟩:=oM1.mp h;obtain ⟨e,he,hb⟩:=eqL_at f e2;refine ⟨fun j=>match j with | 0=>b1 | j+1=>e j,fun j x' y' hx hy=>?_,?_⟩
  ·cases j with
   | zero=>simp at hx hy;subst hx;subst hy;exact e1
   | succ j=>exact he j x' y' (by simpa using hx) (by simpa using hy)
  ·rw [<- h,hb,lC1,lC1,Nat.succ_min_succ,List.range_succ_eq_map,List.all_cons,List.all_map];have:((xs.length+1 == ys.length+1):Bool)=(xs.length == ys.length):=by simp
   rw [this,Bool.and_assoc];rfl
theorem eqN_at (I:Inv X pins σ H s) (hs:Sim X.K H mu S):∀ (n:Nat) {A:Around} {d e:D} {v w:V} {u z:Value} {b:Bool},A.units+n<cLine->Rep X.K H mu d v->Rep X.K H mu e w->RelV v u->RelV w z->eqN S n d e=some b->SeqAt.EqAt A s u z b/\SeqAt.RcAt A s u z b
 | 0,_,_,_,_,_,_,_,_,_,_,_,_,_,h=>by cases h
 | n + 1,A,d,e,v,w,u,z,b,hu,rd,re,ru,rz,h=>by
  have hu0:A.units<cLine:=by lia
  have h0:=h;rw [eqN] at h;cases hd:seqOf S d with
  | some p=>
   obtain ⟨pb,xs⟩:=p;obtain ⟨a,vs,rfl,q,t⟩:=seqOf_at rd hs hd;obtain ⟨its,rv,co,_⟩:=sqb_at I q;cases ru;cases he:seqOf S e with
   | some p2=>
    obtain ⟨qb,ys⟩:=p2;obtain ⟨a2,vs2,rfl,q2,t2⟩:=seqOf_at re hs he;obtain ⟨its2,rv2,co2,_⟩:=sqb_at I q2;cases rz;rw [hd,he] at h;dsimp only at h;have both:SeqAt.RcAt A s (.ref a) (.ref a2) b->SeqAt.EqAt A s (.ref a) (.ref a2) b/\SeqAt.RcAt A s (.ref a) (.ref a2) b:=fun rc=>by
     refine ⟨?_,rc⟩;by_cases ha:a=a2
     ·subst ha;rw [eqN_same I hs (n+1) rd re h0];exact .same _
     ·exact .of_refs ha rc
    split at h
    ·rename_i hb;have hb':pb=qb:=hb;subst hb';split at h
     ·rename_i hl;cases h;obtain ⟨h1,h2⟩:=hl;subst h1;refine both (.lists_lengths co co2 ?_ hu0);have l1:=t.length;have l2:=t2.length;have l3:=rv.length;have l4:=rv2.length
      simp only [sT1,bne_iff_ne,ne_eq];lia
     ·rename_i hl;obtain ⟨f,hf,hbb⟩:=eqL_at _ h;have elts:∀ j (h1:j<its.toArray.size) (h2:j<its2.toArray.size),SeqAt.EqAt A.in1 s its.toArray[j] its2.toArray[j] (f j):=fun j h1 h2=>by
       have h1':j<its.length:=by simpa using h1
       have h2':j<its2.length:=by simpa using h2
       have k1:j<vs.length:=by rw [rv.length];exact h1'
       have k2:j<vs2.length:=by rw [rv2.length];exact h2'
       obtain ⟨x,ex,rx⟩:=t.getV (gG1 k1);obtain ⟨y,ey,ry⟩:=t2.getV (gG1 k2);obtain ⟨u1,eu1,ru1⟩:=rv.get (gG1 k1);obtain ⟨u2,eu2,ru2⟩:=rv2.get (gG1 k2);have e1:its.toArray[j]=u1:=by
        rw [gG1 h1'] at eu1;simpa using eu1
       have e2:its2.toArray[j]=u2:=by
        rw [gG1 h2'] at eu2;simpa using eu2
       rw [e1,e2];exact (eqN_at I hs n (A:=A.in1) (by show A.units+1+n<cLine;lia) rx ry ru1 ru2 (hf j x y ex ey)).1
      have l1:=t.length;have l2:=t2.length;have l3:=rv.length;have l4:=rv2.length
      cases pb with
      | false=>
       refine both ?_;have:=SeqAt.RcAt.tuples co co2 hu0 elts;rw [hbb];have e1:its.toArray.size=xs.length:=by simp;lia
       have e2:its2.toArray.size=ys.length:=by simp;lia
       rw [e1,e2] at this;exact this
      | true=>
       refine both ?_;have hl':xs.length=ys.length:=by
        by_cases z:xs.length=ys.length
        ·exact z
        ·exact absurd ⟨rfl,z⟩ hl
       have:=SeqAt.RcAt.lists co co2 (by simp;lia) hu0 elts;rw [hbb];have e1:its.toArray.size=xs.length:=by simp;lia
       rw [e1] at this;rw [hl',Nat.min_self,beq_self_eq_true,Bool.and_true,<- hl'];exact this
    ·rename_i hb;cases h;cases pb with
     | true=>
      cases qb with
      | true=>exact absurd rfl hb
      | false=>exact ⟨.list_tuple co co2 hu0,.list_tuple co co2 hu0⟩
     | false=>
      cases qb with
      | false=>exact absurd rfl hb
      | true=>exact ⟨.tuple_list co co2 hu0,.tuple_list co co2 hu0⟩
   | none=>
    rw [hd,he] at h;dsimp only at h;split at h
    ·rename_i f;cases h;obtain ⟨r1,r2,r3,r4⟩:=rc_seq_none co rz (flat_rep re f).1 hu0;exact ⟨r1,r3⟩
    ·split at h
     ·rename_i f;cases h;obtain ⟨a2,o,rfl,ho,hc,hdd⟩:=dc_at I hs re f;cases rz;obtain ⟨r1,r2,r3,r4⟩:=odd_seq ho hc hdd co hu0;exact ⟨r2,r4⟩
     ·cases h
  | none=>
   cases he:seqOf S e with
   | some p2=>
    obtain ⟨qb,ys⟩:=p2;obtain ⟨a2,vs2,rfl,q2,t2⟩:=seqOf_at re hs he;obtain ⟨its2,rv2,co2,_⟩:=sqb_at I q2;cases rz;rw [hd,he] at h;dsimp only at h;split at h
    ·rename_i f;cases h;obtain ⟨r1,r2,r3,r4⟩:=rc_seq_none co2 ru (flat_rep rd f).1 hu0;exact ⟨r2,r4⟩
    ·split at h
     ·rename_i f;cases h;obtain ⟨a,o,rfl,ho,hc,hdd⟩:=dc_at I hs rd f;cases ru;obtain ⟨r1,r2,r3,r4⟩:=odd_seq ho hc hdd co2 hu0;exact ⟨r1,r3⟩
     ·cases h
   | none=>
    rw [hd,he] at h;dsimp only at h;unfold eqO at h;split at h
    ·obtain ⟨f1,f2⟩:=eqF_flat h;obtain ⟨g1,g2⟩:=flat_rep rd f1;have g3:=(flat_rep re f2).1;rw [g2 e w re f2] at h;cases h;exact ⟨eqAt_V ru rz g1 g3,rc_flat ru rz g1 g3⟩
    ·rename_i k1 _;split at h
     ·rename_i f;cases h;obtain ⟨a,o,rfl,ho,hc,hdd⟩:=dc_at I hs rd k1;cases ru;obtain ⟨r1,r2,r3,r4⟩:=odd_flat ho hc hdd rz (flat_rep re f).1 hu0;exact ⟨r1,r3⟩
     ·cases h
    ·rename_i _ k2;split at h
     ·rename_i f;cases h;obtain ⟨a,o,rfl,ho,hc,hdd⟩:=dc_at I hs re k2;cases rz;obtain ⟨r1,r2,r3,r4⟩:=odd_flat ho hc hdd ru (flat_rep rd f).1 hu0;exact ⟨r2,r4⟩
     ·cases h
    ·cases h
end
noncomputable def deepMost:Nat:=60
noncomputable def gEq:G2:=fun d e S=>(eqN S deepMost d e).map fun b=>(.bl b,S)
section
variable {X:Cx}
theorem o_eq (hu:X.A.units+64<cLine):OpR X (compareOp .Eq) (r2 X.K (b2 gEq)):=by
 intro pins s σ H x y u w Q I rx ry h;obtain ⟨mu,S,d,e,r,S',r1,r2,hs,hm,hc⟩:=rn2 h;obtain ⟨b,e1,hm⟩:=oM1.mp hm;cases hm;exact (eqN_at I hs deepMost (by show _+60<cLine;lia) r1 r2 rx ry e1).2 X.prog X.w X.xe _ ⟨.bl b,H,I,rfl,hc.now (.bl b) hs⟩
end
end Mi
namespace Mi
open PySem PySem.Spec PyProof.Rows L2 SeqAt
open AutoSeq1 (wpAny_loadPart')
open MeetsSeq
section
variable {l:Addr} {e:Array DictEntry} {n:Nat} {dd:Option Addr} {sl:Array (Option Value)}
theorem dn_non:Meets (Builtin.«dict.__ne__» ⟨[.ref l,.none],[]⟩) (fun _ R s=>s.heap.get? l=some (OD e n dd sl)/\R (.ok (.ret .notImplemented)) s):=.of_wp fun _ _ _ _ s h=>by
 obtain ⟨hp,g,d,tk,os⟩:=s;obtain ⟨hl,h⟩:=h;have f1:=F.sub_NoneType_dict;wp_walk using wpAny_loadPart' hl;exact ⟨_,rfl,h⟩
theorem dn_bl (b:Bool):Meets (Builtin.«dict.__ne__» ⟨[.ref l,.bool b],[]⟩) (fun _ R s=>s.heap.get? l=some (OD e n dd sl)/\R (.ok (.ret .notImplemented)) s):=.of_wp fun _ _ _ _ s h=>by
 obtain ⟨hp,g,d,tk,os⟩:=s;obtain ⟨hl,h⟩:=h;have f1:=F.sub_bool_dict;wp_walk using wpAny_loadPart' hl;exact ⟨_,rfl,h⟩
theorem dn_int (b:Int)(u:Tok):Meets (Builtin.«dict.__ne__» ⟨[.ref l,.int b u],[]⟩) (fun _ R s=>s.heap.get? l=some (OD e n dd sl)/\R (.ok (.ret .notImplemented)) s):=.of_wp fun _ _ _ _ s h=>by
 obtain ⟨hp,g,d,tk,os⟩:=s;obtain ⟨hl,h⟩:=h;have f1:=F.sub_int_dict;wp_walk using wpAny_loadPart' hl;exact ⟨_,rfl,h⟩
theorem dn_str (b:Str)(u:Tok):Meets (Builtin.«dict.__ne__» ⟨[.ref l,.str b u],[]⟩) (fun _ R s=>s.heap.get? l=some (OD e n dd sl)/\R (.ok (.ret .notImplemented)) s):=.of_wp fun _ _ _ _ s h=>by
 obtain ⟨hp,g,d,tk,os⟩:=s;obtain ⟨hl,h⟩:=h;have f1:=F.sub_str_dict;wp_walk using wpAny_loadPart' hl;exact ⟨_,rfl,h⟩
theorem dn_list {a:Addr}{its:Array Value}{k:Nat}{d2:Option Addr}{s2:Array (Option Value)}:Meets (Builtin.«dict.__ne__» ⟨[.ref l,.ref a],[]⟩) (fun _ R s=>s.heap.get? l=some (OD e n dd sl)/\s.heap.get? a=some {cls:=.type "list",dict:=d2,data:=.seq its k,slots:=s2}/\R (.ok (.ret .notImplemented)) s):=.of_wp fun _ _ _ _ s h=>by
 obtain ⟨hp,g,d,tk,os⟩:=s;obtain ⟨hl,hb,h⟩:=h;have f1:=F.sub_list_dict;wp_walk using wpAny_loadPart' hl,wpAny_loadPart' hb;exact ⟨_,rfl,h⟩
theorem dn_tup {a:Addr}{its:Array Value}{k:Nat}{d2:Option Addr}{s2:Array (Option Value)}:Meets (Builtin.«dict.__ne__» ⟨[.ref l,.ref a],[]⟩) (fun _ R s=>s.heap.get? l=some (OD e n dd sl)/\s.heap.get? a=some {cls:=.type "tuple",dict:=d2,data:=.seq its k,slots:=s2}/\R (.ok (.ret .notImplemented)) s):=.of_wp fun _ _ _ _ s h=>by
 obtain ⟨hp,g,d,tk,os⟩:=s;obtain ⟨hl,hb,h⟩:=h;have f1:=F.sub_tuple_dict;wp_walk using wpAny_loadPart' hl,wpAny_loadPart' hb;exact ⟨_,rfl,h⟩
theorem nd_bl (b:Bool):Meets (Builtin.«int.__ne__» ⟨[.bool b,.ref l],[]⟩) (fun _ R s=>s.heap.get? l=some (OD e n dd sl)/\R (.ok (.ret .notImplemented)) s):=.of_wp fun _ _ _ _ s h=>by
 obtain ⟨hp,g,d,tk,os⟩:=s;obtain ⟨hl,h⟩:=h;wp_walk using wpAny_loadPart' hl,wpAny_load hl;exact ⟨_,rfl,h⟩
theorem nd_int (b:Int)(u:Tok):Meets (Builtin.«int.__ne__» ⟨[.int b u,.ref l],[]⟩) (fun _ R s=>s.heap.get? l=some (OD e n dd sl)/\R (.ok (.ret .notImplemented)) s):=.of_wp fun _ _ _ _ s h=>by
 obtain ⟨hp,g,d,tk,os⟩:=s;obtain ⟨hl,h⟩:=h;wp_walk using wpAny_loadPart' hl,wpAny_load hl;exact ⟨_,rfl,h⟩
theorem nd_str (b:Str)(u:Tok):Meets (Builtin.«str.__ne__» ⟨[.str b u,.ref l],[]⟩) (fun _ R s=>s.heap.get? l=some (OD e n dd sl)/\R (.ok (.ret .notImplemented)) s):=.of_wp fun _ _ _ _ s h=>by
 obtain ⟨hp,g,d,tk,os⟩:=s;obtain ⟨hl,h⟩:=h;wp_walk using wpAny_loadPart' hl,wpAny_load hl;exact ⟨_,rfl,h⟩
theorem nd_list {a:Addr}{its:Array Value}{k:Nat}{d2:Option Addr}{s2:Array (Option Value)}:Meets (Builtin.«list.__ne__» ⟨[.ref a,.ref l],[]⟩) (fun _ R s=>s.heap.get? l=some (OD e n dd sl)/\s.heap.get? a=some {cls:=.type "list",dict:=d2,data:=.seq its k,slots:=s2}/\R (.ok (.ret .notImplemented)) s):=.of_wp fun _ _ _ _ s h=>by
 obtain ⟨hp,g,d,tk,os⟩:=s;obtain ⟨hl,hb,h⟩:=h;have f1:=F.sub_dict_list;wp_walk using wpAny_loadPart' hl,wpAny_loadPart' hb;exact ⟨_,rfl,h⟩
theorem nd_tup {a:Addr}{its:Array Value}{k:Nat}{d2:Option Addr}{s2:Array (Option Value)}:Meets (Builtin.«tuple.__ne__» ⟨[.ref a,.ref l],[]⟩) (fun _ R s=>s.heap.get? l=some (OD e n dd sl)/\s.heap.get? a=some {cls:=.type "tuple",dict:=d2,data:=.seq its k,slots:=s2}/\R (.ok (.ret .notImplemented)) s):=.of_wp fun _ _ _ _ s h=>by
 obtain ⟨hp,g,d,tk,os⟩:=s;obtain ⟨hl,hb,h⟩:=h;have f1:=F.sub_dict_tuple;wp_walk using wpAny_loadPart' hl,wpAny_loadPart' hb;exact ⟨_,rfl,h⟩
end
noncomputable abbrev Odn2 (A:Around)(s:Shared)(v u:Value):Prop:=RcNeAt A s v u true/\RcNeAt A s u v true
section
variable {A:Around} {s:Shared} {a:Addr} {o:Obj}
theorem odn_flat {v:V}{u:Value}(ho:s.heap.get? a=some o)(hc:o.cls = .type "dict")(hd:∃ e n,o.data = .dict e n)(r:RelV v u)(f:flatV v=true)(hu:A.units<cLine):Odn2 A s (.ref a) u:=by
 obtain ⟨cls,dd,data,sl⟩:=o;obtain ⟨e,n,hd⟩:=hd;simp only at hc hd;subst hc hd;have two:∀ {u:Value},RcNeAt A s (.ref a) u true->RcNeAt A s u (.ref a) true->Odn2 A s (.ref a) u:=fun r1 r2=>⟨r1,r2⟩;cases v with
 | non=>
  cases r;refine two (fun _ _ _ _ h=>?_) fun _ _ _ _ h=>?_
  ·exact rc_ne_decline_or (k:=false) ⟨_,ho,rfl⟩ rfl (by decide) F.sub_NoneType_dict F.slot_dict_ne F.slot_NoneType_ne_refl (fun _ q=>call_meets F.slot_dict_ne ⟨_,ho,rfl⟩ F.entry_dict_ne (F.args_dict_ne_2 _ _) dn_non ⟨ho,q⟩) (fun _ q=>call_gives F.slot_NoneType_ne_refl rfl F.entry_NoneType_ne (F.args_NoneType_ne_2 _ _) (NoneType___ne___none_ref_0 a) q) (fun _ q=>wpAny_of_eq (rfl:isSame (.ref a) .none=pure false) q) (.inr hu) h
  ·exact rc_ne_decline_or (k:=false) rfl ⟨_,ho,rfl⟩ (by decide) F.sub_dict_NoneType F.slot_NoneType_ne F.slot_dict_ne_refl (fun _ q=>call_gives F.slot_NoneType_ne rfl F.entry_NoneType_ne (F.args_NoneType_ne_2 _ _) (NoneType___ne___none_ref_0 a) q) (fun _ q=>call_meets F.slot_dict_ne_refl ⟨_,ho,rfl⟩ F.entry_dict_ne (F.args_dict_ne_2 _ _) dn_non ⟨ho,q⟩) (fun _ q=>wpAny_of_eq (rfl:isSame .none (.ref a)=pure false) q) (.inr hu) h
 | bl b=>
  cases r;refine two (fun _ _ _ _ h=>?_) fun _ _ _ _ h=>?_
  ·exact rc_ne_decline_or (k:=false) ⟨_,ho,rfl⟩ rfl (by decide) F.sub_bool_dict F.slot_dict_ne F.slot_bool_ne_refl (fun _ q=>call_meets F.slot_dict_ne ⟨_,ho,rfl⟩ F.entry_dict_ne (F.args_dict_ne_2 _ _) (dn_bl b) ⟨ho,q⟩) (fun _ q=>call_meets F.slot_bool_ne_refl rfl F.entry_int_ne (F.args_int_ne_2 _ _) (nd_bl b) ⟨ho,q⟩) (fun _ q=>wpAny_of_eq (rfl:isSame (.ref a) (.bool b)=pure false) q) (.inr hu) h
  ·exact rc_ne_decline_or (k:=false) rfl ⟨_,ho,rfl⟩ (by decide) F.sub_dict_bool F.slot_bool_ne F.slot_dict_ne_refl (fun _ q=>call_meets F.slot_bool_ne rfl F.entry_int_ne (F.args_int_ne_2 _ _) (nd_bl b) ⟨ho,q⟩) (fun _ q=>call_meets F.slot_dict_ne_refl ⟨_,ho,rfl⟩ F.entry_dict_ne (F.args_dict_ne_2 _ _) (dn_bl b) ⟨ho,q⟩) (fun _ q=>wpAny_of_eq (rfl:isSame (.bool b) (.ref a)=pure false) q) (.inr hu) h
 | int b=>
  obtain ⟨t,rfl⟩:=r;refine two (fun _ _ _ _ h=>?_) fun _ _ _ _ h=>?_
  ·exact rc_ne_decline_or (k:=false) ⟨_,ho,rfl⟩ (typeIs_int s b t) (by decide) F.sub_int_dict F.slot_dict_ne F.slot_int_ne_refl (fun _ q=>call_meets F.slot_dict_ne ⟨_,ho,rfl⟩ F.entry_dict_ne (F.args_dict_ne_2 _ _) (dn_int b t) ⟨ho,q⟩) (fun _ q=>call_meets F.slot_int_ne_refl (typeIs_int s b t) F.entry_int_ne (F.args_int_ne_2 _ _) (nd_int b t) ⟨ho,q⟩) (fun _ q=>wpAny_of_eq (rfl:isSame (.ref a) (.int b t)=pure false) q) (.inr hu) h
  ·exact rc_ne_decline_or (k:=false) (typeIs_int s b t) ⟨_,ho,rfl⟩ (by decide) F.sub_dict_int F.slot_int_ne F.slot_dict_ne_refl (fun _ q=>call_meets F.slot_int_ne (typeIs_int s b t) F.entry_int_ne (F.args_int_ne_2 _ _) (nd_int b t) ⟨ho,q⟩) (fun _ q=>call_meets F.slot_dict_ne_refl ⟨_,ho,rfl⟩ F.entry_dict_ne (F.args_dict_ne_2 _ _) (dn_int b t) ⟨ho,q⟩) (fun _ q=>wpAny_of_eq (rfl:isSame (.int b t) (.ref a)=pure false) q) (.inr hu) h
 | str b=>
  obtain ⟨t,rfl⟩:=r;refine two (fun _ _ _ _ h=>?_) fun _ _ _ _ h=>?_
  ·exact rc_ne_decline_or (k:=false) ⟨_,ho,rfl⟩ (typeIs_str s b t) (by decide) F.sub_str_dict F.slot_dict_ne F.slot_str_ne_refl (fun _ q=>call_meets F.slot_dict_ne ⟨_,ho,rfl⟩ F.entry_dict_ne (F.args_dict_ne_2 _ _) (dn_str b t) ⟨ho,q⟩) (fun _ q=>call_meets F.slot_str_ne_refl (typeIs_str s b t) F.entry_str_ne (F.args_str_ne_2 _ _) (nd_str b t) ⟨ho,q⟩) (fun _ q=>wpAny_of_eq (rfl:isSame (.ref a) (.str b t)=pure false) q) (.inr hu) h
  ·exact rc_ne_decline_or (k:=false) (typeIs_str s b t) ⟨_,ho,rfl⟩ (by decide) F.sub_dict_str F.slot_str_ne F.slot_dict_ne_refl (fun _ q=>call_meets F.slot_str_ne (typeIs_str s b t) F.entry_str_ne (F.args_str_ne_2 _ _) (nd_str b t) ⟨ho,q⟩) (fun _ q=>call_meets F.slot_dict_ne_refl ⟨_,ho,rfl⟩ F.entry_dict_ne (F.args_dict_ne_2 _ _) (dn_str b t) ⟨ho,q⟩) (fun _ q=>wpAny_of_eq (rfl:isSame (.str b t) (.ref a)=pure false) q) (.inr hu) h
 | _=>cases f
theorem odn_seq {b:Bool}{x:Addr}{its:Array Value}(ho:s.heap.get? a=some o)(hc:o.cls = .type "dict")(hd:∃ e n,o.data = .dict e n)(c:SCo b s.heap x its)(hu:A.units<cLine):Odn2 A s (.ref a) (.ref x):=by
 obtain ⟨cls,dd,data,sl⟩:=o;obtain ⟨e,n,hd⟩:=hd;simp only at hc hd;subst hc hd;cases b with
 | false=>
  obtain ⟨⟨cls2,dd2,data2,sl2⟩,ho2,hc2,n2,hd2⟩:=(show s.heap.IsTuple x its from c);simp only at hc2 hd2;subst hc2 hd2;have hne:a≠x:=fun z=>by subst z;rw [ho] at ho2;exact absurd (congrArg Obj.cls (Option.some.inj ho2)) (by simp)
  have r1:RcNeAt A s (.ref a) (.ref x) true:=fun _ _ _ _ h=>rc_ne_decline_or (k:=false) ⟨_,ho,rfl⟩ ⟨_,ho2,rfl⟩ (by decide) F.sub_tuple_dict F.slot_dict_ne F.slot_tuple_ne_refl (fun _ q=>call_meets F.slot_dict_ne ⟨_,ho,rfl⟩ F.entry_dict_ne (F.args_dict_ne_2 _ _) dn_tup ⟨ho,ho2,q⟩) (fun _ q=>call_meets F.slot_tuple_ne_refl ⟨_,ho2,rfl⟩ F.entry_tuple_ne (F.args_tuple_ne_2 _ _) nd_tup ⟨ho,ho2,q⟩) (fun _ q=>wpAny_isSame_ref_other hne ho ho2 (by simp) q) (.inr hu) h;have r2:RcNeAt A s (.ref x) (.ref a) true:=fun _ _ _ _ h=>rc_ne_decline_or (k:=false) ⟨_,ho2,rfl⟩ ⟨_,ho,rfl⟩ (by decide) F.sub_dict_tuple F.slot_tuple_ne F.slot_dict_ne_refl (fun _ q=>call_meets F.slot_tuple_ne ⟨_,ho2,rfl⟩ F.entry_tuple_ne (F.args_tuple_ne_2 _ _) nd_tup ⟨ho,ho2,q⟩) (fun _ q=>call_meets F.slot_dict_ne_refl ⟨_,ho,rfl⟩ F.entry_dict_ne (F.args_dict_ne_2 _ _) dn_tup ⟨ho,ho2,q⟩) (fun _ q=>wpAny_isSame_ref_other' hne.symm ho2 ho (by simp) q) (.inr hu) h;exact ⟨r1,r2⟩
 | true=>
  obtain ⟨⟨cls2,dd2,data2,sl2⟩,ho2,hc2,n2,hd2⟩:=(show s.heap.IsList x its from c);simp only at hc2 hd2;subst hc2 hd2;have hne:a≠x:=fun z=>by subst z;rw [ho] at ho2;exact absurd (congrArg Obj.cls (Option.some.inj ho2)) (by simp)
  have r1:RcNeAt A s (.ref a) (.ref x) true:=fun _ _ _ _ h=>rc_ne_decline_or (k:=false) ⟨_,ho,rfl⟩ ⟨_,ho2,rfl⟩ (by decide) F.sub_list_dict F.slot_dict_ne F.slot_list_ne_refl (fun _ q=>call_meets F.slot_dict_ne ⟨_,ho,rfl⟩ F.entry_dict_ne (F.args_dict_ne_2 _ _) dn_list ⟨ho,ho2,q⟩) (fun _ q=>call_meets F.slot_list_ne_refl ⟨_,ho2,rfl⟩ F.entry_list_ne (F.args_list_ne_2 _ _) nd_list ⟨ho,ho2,q⟩) (fun _ q=>wpAny_isSame_ref_other hne ho ho2 (by simp) q) (.inr hu) h;have r2:RcNeAt A s (.ref x) (.ref a) true:=fun _ _ _ _ h=>rc_ne_decline_or (k:=false) ⟨_,ho2,rfl⟩ ⟨_,ho,rfl⟩ (by decide) F.sub_dict_list F.slot_list_ne F.slot_dict_ne_refl (fun _ q=>call_meets F.slot_list_ne ⟨_,ho2,rfl⟩ F.entry_list_ne (F.args_list_ne_2 _ _) nd_list ⟨ho,ho2,q⟩) (fun _ q=>call_meets F.slot_dict_ne_refl ⟨_,ho,rfl⟩ F.entry_dict_ne (F.args_dict_ne_2 _ _) dn_list ⟨ho,ho2,q⟩) (fun _ q=>wpAny_isSame_ref_other' hne.symm ho2 ho (by simp) q) (.inr hu) h;exact ⟨r1,r2⟩
end
section
variable {X:Cx} {pins:List (Addr×Obj)} {σ:L2.St} {H:Hp} {s:Shared} {mu:List Addr} {S:Sto}
theorem ne_flat {A:Around}{x y:V}{u w:Value}(rx:RelV x u)(ry:RelV y w)(fx:flatV x=true)(fy:flatV y=true):SeqAt.RcNeAt A s u w (!eqV x y):=by
 cases x with
 | non=>cases rx;cases y with
  | non=>cases ry;exact .none_none
  | bl k=>cases ry;exact .none_bool k
  | int i=>obtain ⟨t,rfl⟩:=ry;exact .none_int i t
  | str z=>obtain ⟨t,rfl⟩:=ry;exact .none_str z t
  | _=>cases fy
 | bl k'=>cases rx;cases y with
  | non=>cases ry;exact .bool_none k'
  | bl k=>cases ry;exact .bool_bool k' k
  | int i=>obtain ⟨t,rfl⟩:=ry;exact .bool_int k' i t
  | str z=>obtain ⟨t,rfl⟩:=ry;exact .bool_str k' z t
  | _=>cases fy
 | int i'=>obtain ⟨t',rfl⟩:=rx;cases y with
  | non=>cases ry;exact .int_none i' t'
  | bl k=>cases ry;exact .int_bool i' t' k
  | int i=>obtain ⟨t,rfl⟩:=ry;exact .int_int i' t' i t
  | str z=>obtain ⟨t,rfl⟩:=ry;exact .int_str i' t' z t
  | _=>cases fy
 | str z'=>obtain ⟨t',rfl⟩:=rx;cases y with
  | non=>cases ry;exact .str_none z' t'
  | bl k=>cases ry;exact .str_bool z' t' k
  | int i=>obtain ⟨t,rfl⟩:=ry;exact .str_int z' t' i t
  | str z=>obtain ⟨t,rfl⟩:=ry;exact .str_str z' t' z t
  | _=>cases fy
 | _=>cases fx
theorem ne_seq_none {A:Around}{b:Bool}{a:Addr}{its:Array Value}{v:V}{u:Value}(c:SCo b s.heap a its)(r:RelV v u)(f:flatV v=true)(hu:A.units<cLine):SeqAt.RcNeAt A s (.ref a) u true/\SeqAt.RcNeAt A s u (.ref a) true:=by
 cases v with
 | non => cases r;cases b
          · exact ⟨.tuple_none c hu,.none_tuple c hu⟩
          · exact ⟨.list_none c hu,.none_list c hu⟩
 | bl k => cases r;cases b
           · exact ⟨.tuple_bool k c hu,.bool_tuple k c hu⟩
           · exact ⟨.list_bool k c hu,.bool_list k c hu⟩
 | int i => obtain ⟨t,rfl⟩:=r;cases b
            · exact ⟨.tuple_int i t c hu,.int_tuple i t c hu⟩
            · exact ⟨.list_int i t c hu,.int_list i t c hu⟩
 | str x => obtain ⟨t,rfl⟩:=r;cases b
            · exact ⟨.tuple_str x t c hu,.str_tuple x t c hu⟩
            · exact ⟨.list_str x t c hu,.str_list x t c hu⟩
 | _=>cases f
theorem neN_at (I:Inv X pins σ H s) (hs:Sim X.K H mu S) (n:Nat) {A:Around} {d e:D} {v w:V} {u z:Value} {b:Bool} (hu:A.units+n<cLine) (rd:Rep X.K H mu d v) (re:Rep X.K H mu e w) (ru:RelV v u) (rz:RelV w z) (h:eqN S n d e=some b):SeqAt.RcNeAt A s u z (!b):=by
 cases n with
 | zero=>cases h
 | succ n=>
  have hu0:A.units<cLine:=by lia
  rw [eqN] at h;cases hd:seqOf S d with
  | some p=>
   obtain ⟨pb,xs⟩:=p;obtain ⟨a,vs,rfl,q,t⟩:=seqOf_at rd hs hd;obtain ⟨its,rv,co,_⟩:=sqb_at I q;cases ru;cases he:seqOf S e with
   | some p2=>
    obtain ⟨qb,ys⟩:=p2;obtain ⟨a2,vs2,rfl,q2,t2⟩:=seqOf_at re hs he;obtain ⟨its2,rv2,co2,_⟩:=sqb_at I q2;cases rz;rw [hd,he] at h;dsimp only at h;have l1:=t.length;have l2:=t2.length;have l3:=rv.length;have l4:=rv2.length
    split at h
    ·rename_i hb;have hb':pb=qb:=hb;subst hb';split at h
     ·rename_i hl;cases h;obtain ⟨h1,h2⟩:=hl;subst h1;refine .lists_lengths co co2 ?_ hu0;simp only [sT1,bne_iff_ne,ne_eq];lia
     ·rename_i hl;obtain ⟨f,hf,hbb⟩:=eqL_at _ h;have elts:∀ j (h1:j<its.toArray.size) (h2:j<its2.toArray.size),SeqAt.EqAt A.in1 s its.toArray[j] its2.toArray[j] (f j):=fun j h1 h2=>by
       have h1':j<its.length:=by simpa using h1
       have h2':j<its2.length:=by simpa using h2
       have k1:j<vs.length:=by rw [rv.length];exact h1'
       have k2:j<vs2.length:=by rw [rv2.length];exact h2'
       obtain ⟨x,ex,rx⟩:=t.getV (gG1 k1);obtain ⟨y,ey,ry⟩:=t2.getV (gG1 k2);obtain ⟨u1,eu1,ru1⟩:=rv.get (gG1 k1);obtain ⟨u2,eu2,ru2⟩:=rv2.get (gG1 k2);have e1:its.toArray[j]=u1:=by
        rw [gG1 h1'] at eu1;simpa using eu1
       have e2:its2.toArray[j]=u2:=by
        rw [gG1 h2'] at eu2;simpa using eu2
       rw [e1,e2];exact (eqN_at I hs n (A:=A.in1) (by show A.units+1+n<cLine;lia) rx ry ru1 ru2 (hf j x y ex ey)).1
      cases pb with
      | false=>
       have:=SeqAt.RcNeAt.tuples co co2 hu0 elts;rw [hbb];have e1:its.toArray.size=xs.length:=by simp;lia
       have e2:its2.toArray.size=ys.length:=by simp;lia
       rw [e1,e2] at this;exact this
      | true=>
       have hl':xs.length=ys.length:=by
        by_cases z:xs.length=ys.length
        ·exact z
        ·exact absurd ⟨rfl,z⟩ hl
       have:=SeqAt.RcNeAt.lists co co2 (by simp;lia) hu0 elts;rw [hbb];have e1:its.toArray.size=xs.length:=by simp;lia
       rw [e1] at this;rw [hl',Nat.min_self,beq_self_eq_true,Bool.and_true,<- hl'];exact this
    ·rename_i hb;cases h;cases pb with
     | true=>
      cases qb with
      | true=>exact absurd rfl hb
      | false=>exact .list_tuple co co2 hu0
     | false=>
      cases qb with
      | false=>exact absurd rfl hb
      | true=>exact .tuple_list co co2 hu0
   | none=>
    rw [hd,he] at h;dsimp only at h;split at h
    ·rename_i f;cases h;exact (ne_seq_none co rz (flat_rep re f).1 hu0).1
    ·split at h
     ·rename_i f;cases h;obtain ⟨a2,o,rfl,ho,hc,hdd⟩:=dc_at I hs re f;cases rz;exact (odn_seq ho hc hdd co hu0).2
     ·cases h
  | none=>
   cases he:seqOf S e with
   | some p2=>
    obtain ⟨qb,ys⟩:=p2;obtain ⟨a2,vs2,rfl,q2,t2⟩:=seqOf_at re hs he;obtain ⟨its2,rv2,co2,_⟩:=sqb_at I q2;cases rz;rw [hd,he] at h;dsimp only at h;split at h
    ·rename_i f;cases h;exact (ne_seq_none co2 ru (flat_rep rd f).1 hu0).2
    ·split at h
     ·rename_i f;cases h;obtain ⟨a,o,rfl,ho,hc,hdd⟩:=dc_at I hs rd f;cases ru;exact (odn_seq ho hc hdd co2 hu0).1
     ·cases h
   | none=>
    rw [hd,he] at h;dsimp only at h;unfold eqO at h;split at h
    ·obtain ⟨f1,f2⟩:=eqF_flat h;obtain ⟨g1,g2⟩:=flat_rep rd f1;have g3:=(flat_rep re f2).1;rw [g2 e w re f2] at h;cases h;exact ne_flat ru rz g1 g3
    ·rename_i k1 _;split at h
     ·rename_i f;cases h;obtain ⟨a,o,rfl,ho,hc,hdd⟩:=dc_at I hs rd k1;cases ru;exact (odn_flat ho hc hdd rz (flat_rep re f).1 hu0).1
     ·cases h
    ·rename_i _ k2;split at h
     ·rename_i f;cases h;obtain ⟨a,o,rfl,ho,hc,hdd⟩:=dc_at I hs re k2;cases rz;exact (odn_flat ho hc hdd ru (flat_rep rd f).1 hu0).2
     ·cases h
    ·cases h
end
noncomputable def gNe:G2:=fun d e S=>(eqN S deepMost d e).map fun b=>(.bl (!b),S)
noncomputable def inL (f:D->D->Option Bool)(x:D):List D->Option Bool
 | []=>some false
 | y::ys=>(f y x).bind fun b=>(inL f x ys).map fun c=>b||c
noncomputable def gIn:G2:=fun d e S=>(seqOf S e).bind fun p=>(inL (eqN S deepMost) d p.2).map fun b=>(.bl b,S)
noncomputable def gNotIn:G2:=fun d e S=>(seqOf S e).bind fun p=>(inL (eqN S deepMost) d p.2).map fun b=>(.bl (!b),S)
noncomputable def isNon:D->Bool
 | .non=>true
 | _=>false
noncomputable def gIsN:G2:=fun d e S=>match e with
 | .non=>some (.bl (isNon d),S)
 | _=>none
noncomputable def gIsNotN:G2:=fun d e S=>match e with
 | .non=>some (.bl (!isNon d),S)
 | _=>none
section
variable {X:Cx}
theorem o_ne (hu:X.A.units+64<cLine):OpR X (compareOp .NotEq) (r2 X.K (b2 gNe)):=by
 intro pins s σ H x y u w Q I rx ry h;obtain ⟨mu,S,d,e,r,S',r1,r2,hs,hm,hc⟩:=rn2 h;obtain ⟨b,e1,hm⟩:=oM1.mp hm;cases hm;exact neN_at I hs deepMost (by show _+60<cLine;lia) r1 r2 rx ry e1 X.prog X.w X.xe _ ⟨.bl (!b),H,I,rfl,hc.now (.bl _) hs⟩
theorem inL_at (f:D->D->Option Bool)(x:D):∀ {ys:List D} {b:Bool},inL f x ys=some b -> ∃ bs:List Bool,bs.length=ys.length/\(∀ (j:Nat) (y:D) (k:Bool),ys[j]? = some y->bs[j]? = some k->f y x=some k)/\b=bs.any id
 | [],b,h=>by cases h;exact ⟨[],rfl,fun j y k h=>by simp at h,rfl⟩
 | y::ys,b,h=>by
  rw [inL] at h;obtain ⟨b1,e1,h⟩:=oB1.mp h;obtain ⟨b2,e2,h⟩:=oM1.mp h;obtain ⟨bs,hl,hb,hany⟩:=inL_at f x e2;refine ⟨b1::bs,by simp [hl],fun j y' k hy hk=>?_,?_⟩
  ·cases j with
   | zero=>simp at hy hk;subst hy;subst hk;exact e1
   | succ j=>exact hb j y' k (by simpa using hy) (by simpa using hk)
  ·rw [<- h,hany];simp
open Classical in
theorem in_at {pins:List (Addr×Obj)}{σ:L2.St}{H:Hp}{s:Shared}{mu:List Addr}{S:Sto}(I:Inv X pins σ H s)(hs:Sim X.K H mu S){A:Around}(hu:A.units+61<cLine){x:D}{v:V}{u:Value}(rx:Rep X.K H mu x v)(ru:RelV v u)
  {ys:List D} {vs:List V} {us:List Value} {b:Bool} (ry:Reps X.K H mu ys vs) (rv:Vals vs us) (h:inL (eqN S deepMost) x ys=some b):∃ e:Value->Bool,(∀ w∈us,SeqAt.EqAt A.in1 s w u (e w))/\us.any e=b:=by
 obtain ⟨bs,hl,hb,rfl⟩:=inL_at _ x h;have l1:=ry.length;have l2:=rv.length;have at_:∀ (j:Nat) w k,us[j]? = some w->bs[j]? = some k->SeqAt.EqAt A.in1 s w u k:=fun j w k hw hk=>by
  have j1:j<us.length:=(gE1.mp hw).1;obtain ⟨y,ey,r1⟩:=ry.getV (i:=j) (v:=vs[j]'(by lia)) (gG1 (by lia));obtain ⟨w',ew,r2⟩:=rv.get (i:=j) (x:=vs[j]'(by lia)) (gG1 (by lia));rw [hw] at ew;cases ew;exact (eqN_at I hs deepMost (A:=A.in1) (by show A.units+1+60<cLine;lia) r1 rx r2 ru (hb j y k ey hk)).1
 refine ⟨fun w=>decide (∃ j:Nat,us[j]? = some w/\bs[j]? = some true),fun w hw=>?_,?_⟩
 ·by_cases z:∃ j:Nat,us[j]? = some w/\bs[j]? = some true
  ·dsimp only;rw [decide_eq_true z];obtain ⟨j,e1,e2⟩:=z;exact at_ j w true e1 e2
  ·dsimp only;rw [decide_eq_false z];obtain ⟨j,hj⟩:=List.getElem?_of_mem hw;have j1:j<us.length:=(gE1.mp hj).1;have j2:j<bs.length:=by lia
   have e2:=gG1 j2;cases hk:bs[j] with
   | true=>rw [hk] at e2;exact absurd ⟨j,hj,e2⟩ z
   | false=>rw [hk] at e2;exact at_ j w false hj e2
 ·rw [Bool.eq_iff_iff,List.any_eq_true,List.any_eq_true];constructor
  ·rintro ⟨w,hw,z⟩;obtain ⟨j,e1,e2⟩:=of_decide_eq_true z;exact ⟨true,gM1 e2,rfl⟩
  ·rintro ⟨k,hk,z⟩;obtain ⟨j,hj⟩:=List.getElem?_of_mem hk;have j1:j<bs.length:=(gE1.mp hj).1;have j2:j<us.length:=by lia
   have z':k=true:=z;subst z';exact ⟨us[j],List.getElem_mem j2,decide_eq_true ⟨j,gG1 j2,hj⟩⟩
theorem o_in (hu:X.A.units+64<cLine):OpR X (compareOp .In) (r2 X.K (b2 gIn)):=by
 intro pins s σ H x y u w Q I rx ry h;obtain ⟨mu,S,d,e,r,S',r1,r2,hs,hm,hc⟩:=rn2 h;obtain ⟨⟨pb,ys⟩,e1,hm⟩:=oB1.mp hm;obtain ⟨b,e2,hm⟩:=oM1.mp hm;cases hm;obtain ⟨a,vs,rfl,q,t⟩:=seqOf_at r2 hs e1;cases ry;obtain ⟨its,rv,co,_⟩:=sqb_at I q;obtain ⟨f,hf,hb⟩:=in_at I hs (A:=X.A) (by lia) r1 rx t rv e2;have fin:EP X pins σ Q (.bool (its.toArray.any f)) s:=⟨.bl b,H,I,by rw [show its.toArray.any f=its.any f by simp,hb];rfl,hc.now (.bl b) hs⟩;cases pb
 ·exact SeqAt.in_tupleAt f co (fun y hy=>hf y (by simpa using hy)) fin
 ·exact SeqAt.in_listAt f co (fun y hy=>hf y (by simpa using hy)) fin
theorem o_notIn (hu:X.A.units+64<cLine):OpR X (compareOp .NotIn) (r2 X.K (b2 gNotIn)):=by
 intro pins s σ H x y u w Q I rx ry h;obtain ⟨mu,S,d,e,r,S',r1,r2,hs,hm,hc⟩:=rn2 h;obtain ⟨⟨pb,ys⟩,e1,hm⟩:=oB1.mp hm;obtain ⟨b,e2,hm⟩:=oM1.mp hm;cases hm;obtain ⟨a,vs,rfl,q,t⟩:=seqOf_at r2 hs e1;cases ry;obtain ⟨its,rv,co,_⟩:=sqb_at I q;obtain ⟨f,hf,hb⟩:=in_at I hs (A:=X.A) (by lia) r1 rx t rv e2;have fin:EP X pins σ Q (.bool (!its.toArray.any f)) s:=⟨.bl (!b),H,I,by rw [show its.toArray.any f=its.any f by simp,hb];rfl,hc.now (.bl _) hs⟩;cases pb
 ·exact SeqAt.notIn_tupleAt f co (fun y hy=>hf y (by simpa using hy)) fin
 ·exact SeqAt.notIn_listAt f co (fun y hy=>hf y (by simpa using hy)) fin
theorem non_rep {K:Fg1}{H:Hp}{mu:List Addr}{d:D}{v:V}(r:Rep K H mu d v):isNon d=decide (v = .non):=by
 cases r<;>simp [isNon]
theorem o_isN:OpR X (compareOp .Is) (r2 X.K (b2 gIsN)):=by
 intro pins s σ H x y u w Q I rx ry h;obtain ⟨mu,S,d,e,r,S',r1,r2,hs,hm,hc⟩:=rn2 h;cases e with
 | non=>
  cases hm;cases r2;refine op_isN pins s σ H _ _ u w Q I rx ry ⟨rfl,?_⟩;rw [<- non_rep r1];exact hc.now (.bl _) hs
 | _=>cases hm
theorem o_notN:OpR X (compareOp .IsNot) (r2 X.K (b2 gIsNotN)):=by
 intro pins s σ H x y u w Q I rx ry h;obtain ⟨mu,S,d,e,r,S',r1,r2,hs,hm,hc⟩:=rn2 h;cases e with
 | non=>
  cases hm;cases r2;refine op_notN pins s σ H _ _ u w Q I rx ry ⟨rfl,?_⟩;rw [<- non_rep r1];exact hc.now (.bl _) hs
 | _=>cases hm
end
noncomputable def gLen:G1:=fun d S=>match d with
 | .str x=>if x.length<=sizeLine then some (.int x.length,S) else none
 | _=>(seqOf S d).map fun p=>(.int p.2.length,S)
noncomputable def gIx:G2:=fun d e S=>match e with
 | .int i=>(seqOf S d).bind fun p=>(atI p.2 i).map fun x=>(x,S)
 | _=>none
noncomputable def gTup:G1:=fun d S=>(seqOf S d).map fun p=>(.tup p.2,S)
noncomputable def gLst:G1:=fun d S=>(seqOf S d).map fun p=>(.ref S.length,S++[.lst p.2])
noncomputable def gSetIx:G3:=fun o i v S=>match o,i with
 | .ref n,.int k=>match S[n]? with
  | some (.lst xs)=>(ixN xs.length k).map fun j=>(.non,S.set n (.lst (xs.set j v)))
  | _=>none
 | _,_=>none
noncomputable def allB:List D->Option Bool
 | []=>some true
 | .bl b::r=>(allB r).map fun c=>b&&c
 | _=>none
noncomputable def gAll:G1:=fun d S=>(seqOf S d).bind fun p=>(allB p.2).map fun b=>(.bl b,S)
noncomputable def gInt:G1:=fun d S=>match d with
 | .int i=>some (.int i,S)
 | .bl b=>some (.int (if b then 1 else 0),S)
 | _=>none
noncomputable def gMax:G2:=fun d e S=>match d,e with
 | .int i,.int j=>some (.int (if j>i then j else i),S)
 | _,_=>none
noncomputable def gMin:G2:=fun d e S=>match d,e with
 | .int i,.int j=>some (.int (if j<i then j else i),S)
 | _,_=>none
section
variable {X:Cx}
theorem c_len:CallR X (.builtin "len") (rN X.K (b1 gLen)):=by
 intro pins s σ H xs us Q I r h;obtain ⟨x,mu,S,d,r',S',rfl,r1,hs,hm,hc⟩:=rn1 h;unfold gLen at hm;split at hm
 ·split at hm
  ·rename_i z hl;cases hm;cases r1;exact call_len_str pins s σ H _ us Q I r ⟨_,rfl,hl,hc.now (.int _) hs⟩
  ·cases hm
 ·obtain ⟨⟨b,ys⟩,e1,hm⟩:=oM1.mp hm;cases hm;obtain ⟨a,vs,rfl,q,t⟩:=seqOf_at r1 hs e1;refine call_len_seq pins s σ H _ us Q I r ⟨a,vs,rfl,?_,?_⟩
  ·cases b
   ·exact .inr q
   ·exact .inl q
  ·rw [<- t.length];exact hc.now (.int _) hs
theorem atI_rep {K:Fg1}{H:Hp}{mu:List Addr}{ds:List D}{vs:List V}{i:Int}{d:D}(t:Reps K H mu ds vs)(h:atI ds i=some d):∃ v,atI vs i=some v/\Rep K H mu d v:=by
 unfold atI at h ⊢;rw [<- t.length];obtain ⟨j,e1,h⟩:=oB1.mp h;obtain ⟨v,ev,rv⟩:=t.get h;exact ⟨v,by rw [e1];exact ev,rv⟩
theorem x_ix:IxR X (r2 X.K (b2 gIx)):=by
 intro value slice pins s σ H x y v u Q I rx ry h hs2;obtain ⟨mu,S,d,e,r,S',r1,r2,hs,hm,hc⟩:=rn2 h;cases e with
 | int i=>
  obtain ⟨⟨b,ys⟩,e1,hm⟩:=oB1.mp hm;obtain ⟨z,e2,hm⟩:=oM1.mp hm;cases hm;cases r2;obtain ⟨a,vs,rfl,q,t⟩:=seqOf_at r1 hs e1;obtain ⟨v',ev,rv⟩:=atI_rep t e2;cases b
  ·exact ix_tup value slice pins s σ H _ _ v u Q I rx ry ⟨a,vs,i,v',rfl,rfl,q,ev,hc.now rv hs⟩ hs2
  ·exact ix_list value slice pins s σ H _ _ v u Q I rx ry ⟨a,vs,i,v',rfl,rfl,q,ev,hc.now rv hs⟩ hs2
 | _=>cases hm
theorem c_tuple:CallR X (.type "tuple") (rN X.K (b1 gTup)):=by
 intro pins s σ H xs us Q I r h;obtain ⟨x,mu,S,d,r',S',rfl,r1,hs,hm,hc⟩:=rn1 h;obtain ⟨⟨b,ys⟩,e1,hm⟩:=oM1.mp hm;cases hm;obtain ⟨a,vs,rfl,q,t⟩:=seqOf_at r1 hs e1;refine call_tuple_of pins s σ H _ us Q I r ⟨a,vs,rfl,?_⟩;cases b
 ·exact .inr ⟨q,hc.now (.tup q t) hs⟩
 ·exact .inl ⟨q,fun l hl=>hc _ _ mu (Ext.fresh hl) (.tup (SqT.of upd_same) (t.ext (Ext.fresh hl))) (hs.fresh hl)⟩
theorem c_list:CallR X (.type "list") (rN X.K (b1 gLst)):=by
 intro pins s σ H xs us Q I r h;obtain ⟨x,mu,S,d,r',S',rfl,r1,hs,hm,hc⟩:=rn1 h;obtain ⟨⟨b,ys⟩,e1,hm⟩:=oM1.mp hm;cases hm;obtain ⟨a,vs,rfl,q,t⟩:=seqOf_at r1 hs e1;refine call_list_of pins s σ H _ us Q I r ⟨a,vs,rfl,?_,fun l hl=>hc _ _ (mu++[l]) (Ext.new_ hl) (.ref (new_at hs.len l)) (hs.newL t hl)⟩;cases b
 ·exact .inr q
 ·exact .inl q
theorem s_set:PSet X (rU X.K (b3 gSetIx)):=by
 intro pins s σ H o i v ov iv u Q I ro ri rv h;obtain ⟨mu,S,ds,d,S',hr,hs,hm,hc⟩:=h;cases hr with
 | cons q1 t1=>cases t1 with
  | cons q2 t2=>cases t2 with
   | cons q3 t3=>
    cases t3;rename_i d1 d2 d3;dsimp only [b3] at hm;unfold gSetIx at hm;split at hm
    ·rename_i n k;split at hm
     ·rename_i xs e;obtain ⟨j,ej,hm⟩:=oM1.mp hm;cases hm;cases q1 with
      | ref qn=>
       cases q2;obtain ⟨vs,ev,t⟩:=hs.lst e qn;refine set_list pins s σ H _ _ v ov iv u Q I ro ri rv ⟨_,vs,k,j,rfl,rfl,ev,by rw [<- t.length];exact ej,?_⟩;exact hc _ mu (Ext.put ev trivial (gM1 qn)) (hs.putL (t.set q3 j) qn ev)
     ·cases hm
    ·cases hm
theorem allB_at {K:Fg1}{H:Hp}{mu:List Addr}:∀ {ds:List D} {vs:List V} {us:List Value} {b:Bool},Reps K H mu ds vs->Vals vs us->allB ds=some b -> ∃ bs:List Bool,us=bs.map Value.bool/\b=bs.all id:=by
 intro ds
 induction ds with
 | nil=>intro vs us b r v h;cases r;cases v;cases h;exact ⟨[],rfl,rfl⟩
 | cons d ds ih=>
  intro vs us b r v h;cases r with
  | cons r1 t=>
   cases v with
   | cons r tt=>
    cases r1
    case bl k=>
     obtain ⟨c,e,h⟩:=oM1.mp h;obtain ⟨bs,e1,e2⟩:=ih t tt e;cases r;exact ⟨k::bs,by rw [e1];rfl,by rw [<- h,e2];rfl⟩
    all_goals cases h
theorem range_all (bs:List Bool):(List.range bs.length).all (fun i=>bs.getD i true)=bs.all id:=by
 rw [Bool.eq_iff_iff,List.all_eq_true,List.all_eq_true];constructor
 ·intro h b hb;obtain ⟨i,hi,rfl⟩:=List.mem_iff_getElem.mp hb;have:=h i (List.mem_range.mpr hi);simpa [List.getD_eq_getElem?_getD,hi] using this
 ·intro h i hi;have hi':=List.mem_range.mp hi;have:=h _ (List.getElem_mem hi');simpa [List.getD_eq_getElem?_getD,hi'] using this
theorem walk_bools {s:Shared}{b:Bool}{a:Addr}{bs:List Bool}(hc:X.A.handled=none)(co:SCo b s.heap a (bs.map Value.bool).toArray){Q:Value->Shared->Prop}
  (all:∀ h' tk,(∀ c o,s.heap.get? c=some o->h'.get? c=some o)->Q (.bool (bs.all id)) {s with heap:=h',toks:=tk}):wpAny (model X.prog X.w) X.A (call (.builtin "all") [.ref a]) Q X.xe s:=by
 refine call_all_walk (sit_iter co ?_);have hlt:a<s.heap.objs.size:=by cases b<;>(obtain ⟨o,e,_⟩:=co;exact Heap.lt_size e)
 have ne:a≠s.heap.objs.size:=nN1 hlt;have tr:TruthOf X.prog X.w X.A.in1 (fun i v=>(bs.map Value.bool).toArray[i]? = some v) (fun i=>bs.getD i true):=fun i v s' Q' E' hv hq=>by
  have hv':(bs.map Value.bool)[i]? = some v:=by simpa using hv
  rw [gP1] at hv';obtain ⟨k,ek,rfl⟩:=oM1.mp hv';dsimp only at hq;rw [List.getD_eq_getElem?_getD,ek] at hq;exact wpAny_truthy_bool hq
 have keep:∀ (h':Heap),(∀ c o,c∉[s.heap.objs.size]->(s.heap.push (itObj b a)).get? c=some o->h'.get? c=some o) -> ∀ c o,s.heap.get? c=some o->h'.get? c=some o:=fun h' hk c o e=>
  hk c o (by simpa using nN1 (Heap.lt_size e)) (hP1 _ e)
 have hi:(s.heap.push (itObj b a)).get? s.heap.objs.size=some (itObj b a):=hS1 _ (by cases b<;>rfl);cases b with
 | true=>
  refine ⟨s.heap.objs.size,_,_,_,_,_,_,rfl,Walks.list (A:=X.A.in1) hc s.heap.objs.size a ne (bs.map Value.bool).toArray,⟨⟨_,hi,rfl,rfl⟩,SCo.to (b:=true) co fun o e=>hP1 _ e⟩,tr,fun h' tk hk=>?_⟩;have e:(bs.map Value.bool).toArray.size=bs.length:=by simp
  rw [e,range_all];exact all h' tk (keep h' hk)
 | false=>
  refine ⟨s.heap.objs.size,_,_,_,_,_,_,rfl,Walks.tuple (A:=X.A.in1) hc s.heap.objs.size a ne (bs.map Value.bool).toArray,⟨⟨_,hi,rfl,rfl⟩,SCo.to (b:=false) co fun o e=>hP1 _ e⟩,tr,fun h' tk hk=>?_⟩;have e:(bs.map Value.bool).toArray.size=bs.length:=by simp
  rw [e,range_all];exact all h' tk (keep h' hk)
theorem c_all (hc:X.calm=true):CallR X (.builtin "all") (rN X.K (b1 gAll)):=by
 intro pins s σ H xs us Q I r h;obtain ⟨x,mu,S,d,r',S',rfl,r1,hs,hm,hcc⟩:=rn1 h;obtain ⟨⟨b,ys⟩,e1,hm⟩:=oB1.mp hm;obtain ⟨k,e2,hm⟩:=oM1.mp hm;cases hm;obtain ⟨a,vs,rfl,q,t⟩:=seqOf_at r1 hs e1;obtain ⟨u,rfl,ru⟩:=vals1 r;cases ru;obtain ⟨its,rv,co,_⟩:=sqb_at I q;obtain ⟨bs,rfl,rfl⟩:=allB_at t rv e2;exact walk_bools (I.ok.hd hc) co fun h' tk hk=>⟨.bl _,H,I.kept hk,rfl,hcc.now (.bl _) hs⟩
theorem c_int:CallR X (.type "int") (rN X.K (b1 gInt)):=by
 intro pins s σ H xs us Q I r h;obtain ⟨x,mu,S,d,r',S',rfl,r1,hs,hm,hc⟩:=rn1 h;cases d with
 | int i=>cases hm;cases r1;exact call_int1 pins s σ H _ us Q I r (.inl ⟨i,rfl,hc.now (.int _) hs⟩)
 | bl b=>cases hm;cases r1;exact call_int1 pins s σ H _ us Q I r (.inr ⟨b,rfl,hc.now (.int _) hs⟩)
 | _=>cases hm
theorem c_max (hc:X.calm=true):CallR X (.builtin "max") (rN X.K (b2 gMax)):=by
 intro pins s σ H xs us Q I r h;obtain ⟨x,y,mu,S,d,e,r',S',rfl,r1,r2,hs,hm,hcc⟩:=rn2l h;unfold gMax at hm;split at hm
 ·cases hm;cases r1;cases r2;exact call_max2 hc pins s σ H _ us Q I r ⟨_,_,rfl,hcc.now (.int _) hs⟩
 ·cases hm
theorem c_min (hc:X.calm=true):CallR X (.builtin "min") (rN X.K (b2 gMin)):=by
 intro pins s σ H xs us Q I r h;obtain ⟨x,y,mu,S,d,e,r',S',rfl,r1,r2,hs,hm,hcc⟩:=rn2l h;unfold gMin at hm;split at hm
 ·cases hm;cases r1;cases r2;exact call_min2 hc pins s σ H _ us Q I r ⟨_,_,rfl,hcc.now (.int _) hs⟩
 ·cases hm
end
open PySem.SeqAt
open PySem.AutoSeq1 (wpAny_loadPart')
open PySem.MeetsSeq PySem.MeetsSeq2 PySem.MeetsSeq3
noncomputable def RcLt (A:Around)(s:Shared)(y x:Value)(b:Bool):Prop:=∀ (prog:Program) (w:World) (E:Value->Shared->Prop) (Q:Value->Shared->Prop),Q (.bool b) s->wpAny (model prog w) A (richCompare .Lt y x) Q E s
inductive LtS (A:Around)(s:Shared):List Value->List Value->Bool->Prop
 | nn:LtS A s [] [] false
 | nc (y:Value) (ys:List Value):LtS A s [] (y::ys) true
 | cn (x:Value) (xs:List Value):LtS A s (x::xs) [] false
 | eq {x y:Value} {xs ys:List Value} {k:Bool} (e:EqAt A.in1 s x y true) (t:LtS A s xs ys k):LtS A s (x::xs) (y::ys) k
 | lt {x y:Value} {xs ys:List Value} {k:Bool} (e:EqAt A.in1 s x y false) (t:RcLt A.in1 s x y k):LtS A s (x::xs) (y::ys) k
theorem tup_lt (l b:Addr)(items items2:Array Value)(n n2:Nat)(dd dd2:Option Addr)(sl sl2:Array (Option Value))(c:Bool):
  Meets (Builtin.«tuple.__lt__» ⟨[.ref l,.ref b],[]⟩) (fun A R s=>s.heap.get? l=some {cls:=.type "tuple",dict:=dd,data:=.seq items n,slots:=sl}/\s.heap.get? b=some {cls:=.type "tuple",dict:=dd2,data:=.seq items2 n2,slots:=sl2} /\
    LtS A s items.toList items2.toList c/\R (.ok (.ret (.bool c))) s):=
 .of_wp fun prog w A R s h=>by
  obtain ⟨hp,g,d,tk,os⟩:=s;obtain ⟨hl,hb,hs,h⟩:=h;have f2:=AutoSeq1.sub_tuple_tuple
  wp_walk using wpAny_loadPart' hl,wpAny_loadPart' hb,wpAny_forIn_list _ (fun rest b s'=>b.1=none/\s'=⟨hp,g,d,tk,os⟩ /\ ∃ vs ws:List Value,rest=vs.zip ws/\LtS A ⟨hp,g,d,tk,os⟩ vs ws c/\vs.length+items2.size=ws.length+items.size) _
  case turn=>
   rintro ⟨y,x⟩ rest b s' ⟨hb',rfl,vs,ws,hz,hL,hlen⟩;cases hL with
   | nn=>cases hz
   | nc _ _=>cases hz
   | cn _ _=>cases hz
   | eq e t=>
    rw [List.zip_cons_cons] at hz;injection hz with hyx hrest;injection hyx with hy hx;subst hy hx
    simp only [lC1] at hlen;refine wB1 (e prog w _ _ ?_)
    wp_walk
    exact ⟨rfl,rfl,_,_,hrest,t,by lia⟩
   | lt e t=>
    rw [List.zip_cons_cons] at hz;injection hz with hyx hrest;injection hyx with hy hx;subst hy hx
    refine wB1 (e prog w _ _ ?_);have t':=t prog w
    wp_walk using t'
    exact ⟨_,rfl,by simpa using h⟩
  case fin=>
   rintro ⟨b1,b2⟩ s' ⟨hb',rfl,vs,ws,hz,hL,hlen⟩;simp only at hb';subst hb';have hv:c=decide (items.size<items2.size):=by
    cases hL with
    | nn=>simp only [List.length_nil] at hlen;exact (decide_eq_false (by lia)).symm
    | nc _ _=>simp only [List.length_nil,lC1] at hlen;exact (decide_eq_true (by lia)).symm
    | cn _ _=>simp only [List.length_nil,lC1] at hlen;exact (decide_eq_false (by lia)).symm
    | eq _ _=>rw [List.zip_cons_cons] at hz;cases hz
    | lt _ _=>rw [List.zip_cons_cons] at hz;cases hz
   rw [hv] at h
   wp_walk
   exact ⟨_,rfl,by simpa [Builtin.Tuple.tupleCompareSizes] using h⟩
  case h=>exact ⟨rfl,rfl,items.toList,items2.toList,rfl,hs,by simp;lia⟩
theorem lst_loop (l b:Addr)(items items2:Array Value)(n n2:Nat)(dd dd2:Option Addr)(sl sl2:Array (Option Value))(c:Bool)(k:Nat):
  ∀ i:Nat,items.size-i=k->i<=items.size->i<=items2.size->Meets (Builtin.«list.__eq__.loop» ⟨[.ref l,.ref b,rawInt i,rawInt 0],[]⟩)
   (fun A R s=>s.heap.get? l=some {cls:=.type "list",dict:=dd,data:=.seq items n,slots:=sl}/\s.heap.get? b=some {cls:=.type "list",dict:=dd2,data:=.seq items2 n2,slots:=sl2} /\
    LtS A s (items.toList.drop i) (items2.toList.drop i) c/\R (.ok (.ret (.bool c))) s):=by
 induction k with
 | zero=>
  intro i hk hi1 hi2 prog w A R s h;obtain ⟨hp,g,d,tk,os⟩:=s;obtain ⟨hl,hb,hL,h⟩:=h
  wp_walk using wpAny_loadPart' hl,wpAny_loadPart' hb
  have e1:items[((i:Nat):Int).toNat]? = none:=by simp;lia
  have d1:items.toList.drop i=[]:=by simp;lia
  rw [d1] at hL;rw [e1]
  wp_walk using wpAny_loadPart' hl,wpAny_loadPart' hb
  have hv:c=decide (items.size<items2.size):=by
   cases h2:items2.toList.drop i with
   | nil=>
    rw [h2] at hL;cases hL;have:=congrArg List.length h2;simp at this;exact (decide_eq_false (by lia)).symm
   | cons y ys=>
    rw [h2] at hL;cases hL;have:=congrArg List.length h2;simp at this;exact (decide_eq_true (by lia)).symm
  show R (.ok (.ret (.bool (decide (items.size<items2.size))))) _;rw [<- hv];exact h
 | succ k ih=>
  intro i hk hi1 hi2 prog w A R s h;obtain ⟨hp,g,d,tk,os⟩:=s;obtain ⟨hl,hb,hL,h⟩:=h;have hlt:i<items.size:=by lia
  have d1:items.toList.drop i=items[i]::items.toList.drop (i+1):=by simp [List.drop_eq_getElem_cons,hlt]
  have e1:items[((i:Nat):Int).toNat]? = some items[i]:=by simp [hlt]
  have hc:((i:Int)+1)=((i+1:Nat):Int):=by push_cast;rfl
  rw [d1] at hL;rcases Nat.lt_or_ge i items2.size with hlt2 | hge
  ·have d2:items2.toList.drop i=items2[i]::items2.toList.drop (i+1):=by simp [List.drop_eq_getElem_cons,hlt2]
   have e2:items2[((i:Nat):Int).toNat]? = some items2[i]:=by simp [hlt2]
   rw [d2] at hL
   wp_walk using wpAny_loadPart' hl,wpAny_loadPart' hb
   rw [e1,e2];cases hL with
   | eq e t=>
    refine wB1 (e prog w _ _ ?_)
    wp_walk
    rw [hc];exact ⟨plainId_quiet plain_eq_loop _,wD1 entry_eq_loop (by rw [Around.under_plainId plain_eq_loop _];exact ih (i+1) (by lia) (by lia) (by lia) prog w A R _ ⟨hl,hb,t,h⟩)⟩
   | lt e t=>
    refine wB1 (e prog w _ _ ?_);have t':=t prog w
    wp_walk using wpAny_loadPart' hl,wpAny_loadPart' hb
    rw [e1,e2]
    wp_walk using t'
    simpa using h
  ·have e2:items2[((i:Nat):Int).toNat]? = none:=by simp;lia
   have d2:items2.toList.drop i=[]:=by simp;lia
   rw [d2] at hL;cases hL
   wp_walk using wpAny_loadPart' hl,wpAny_loadPart' hb
   rw [e1,e2]
   wp_walk using wpAny_loadPart' hl,wpAny_loadPart' hb
   show R (.ok (.ret (.bool (decide (items.size<items2.size))))) _;rw [decide_eq_false (by lia)];exact h
theorem lst_lt (l b:Addr)(items items2:Array Value)(n n2:Nat)(dd dd2:Option Addr)(sl sl2:Array (Option Value))(c:Bool):
  Meets (Builtin.«list.__lt__» ⟨[.ref l,.ref b],[]⟩) (fun A R s=>s.heap.get? l=some {cls:=.type "list",dict:=dd,data:=.seq items n,slots:=sl}/\s.heap.get? b=some {cls:=.type "list",dict:=dd2,data:=.seq items2 n2,slots:=sl2} /\
    LtS A s items.toList items2.toList c/\R (.ok (.ret (.bool c))) s):=by
 intro prog w A R s h;obtain ⟨hp,g,d,tk,os⟩:=s;obtain ⟨hl,hb,hL,h⟩:=h;have f3:=AutoSeq1.sub_list_list
 wp_walk using wpAny_loadPart' hl,wpAny_loadPart' hb
 exact ⟨plainId_quiet plain_eq_loop _,wD1 entry_eq_loop (by rw [Around.under_plainId plain_eq_loop _];exact lst_loop l b items items2 n n2 dd dd2 sl sl2 c _ 0 rfl (Nat.zero_le _) (Nat.zero_le _) prog w A R _ ⟨hl,hb,by simpa using hL,h⟩)⟩
theorem seq_lt {A:Around}{s:Shared}{k:Bool}{l b:Addr}{xs ys:Array Value}{c:Bool}(c1:SCo k s.heap l xs)(c2:SCo k s.heap b ys)(hu:A.units<cLine)(h:LtS A s xs.toList ys.toList c):RcLt A s (.ref l) (.ref b) c:=fun prog w E Q q=>by
 cases k
 ·obtain ⟨⟨cls,dd,data,sl⟩,ho,hc,n,hd⟩:=id c1;obtain ⟨⟨cls2,dd2,data2,sl2⟩,ho2,hc2,n2,hd2⟩:=id c2;simp only at hc hd hc2 hd2;subst hc hd hc2 hd2;exact richCompare_meets_room (op:=.Lt) ⟨_,ho,rfl⟩ ⟨_,ho2,rfl⟩ PySem.F.slot_tuple_lt PySem.F.entry_tuple_lt (PySem.F.args_tuple_lt_2 _ _) (tup_lt l b xs ys n n2 dd dd2 sl sl2 c) ⟨ho,ho2,h,show Value.bool c≠Value.notImplemented/\Q (.bool c) s from ⟨(fun x=>nomatch x),q⟩⟩ hu
 ·obtain ⟨⟨cls,dd,data,sl⟩,ho,hc,n,hd⟩:=id c1;obtain ⟨⟨cls2,dd2,data2,sl2⟩,ho2,hc2,n2,hd2⟩:=id c2;simp only at hc hd hc2 hd2;subst hc hd hc2 hd2;exact richCompare_meets_room (op:=.Lt) ⟨_,ho,rfl⟩ ⟨_,ho2,rfl⟩ PySem.F.slot_list_lt PySem.F.entry_list_lt (PySem.F.args_list_lt_2 _ _) (lst_lt l b xs ys n n2 dd dd2 sl sl2 c) ⟨ho,ho2,h,show Value.bool c≠Value.notImplemented/\Q (.bool c) s from ⟨(fun x=>nomatch x),q⟩⟩ hu
noncomputable def ltL (f g:D->D->Option Bool):List D->List D->Option Bool
 | [],[]=>some false
 | [],_::_=>some true
 | _::_,[]=>some false
 | x::xs,y::ys=>(f x y).bind fun b=>if b=true then ltL f g xs ys else g x y
noncomputable def ltF:D->D->Option Bool
 | .int i,.int j=>some (decide (i<j))
 | .str x,.str y=>some (decide (x.cps.toList<y.cps.toList))
 | _,_=>none
noncomputable def ltN (S:Sto):Nat->D->D->Option Bool
 | 0,_,_=>none
 | n+1,d,e=>match ltF d e with
  | some b=>some b
  | none=>match seqOf S d,seqOf S e with
   | some p,some q=>if p.1=q.1 then ltL (eqN S n) (ltN S n) p.2 q.2 else none
   | _,_=>none
noncomputable def gLt:G2:=fun d e S=>(ltN S deepMost d e).map fun b=>(.bl b,S)
section
variable {X:Cx} {pins:List (Addr×Obj)} {σ:L2.St} {H:Hp} {s:Shared} {mu:List Addr} {S:Sto}
theorem ltL_at (I:Inv X pins σ H s)(hs:Sim X.K H mu S){n:Nat}{A:Around}(hu:A.units+1+n<cLine)(ih:∀ {d e:D} {v w:V} {u z:Value} {b:Bool},Rep X.K H mu d v->Rep X.K H mu e w->RelV v u->RelV w z->ltN S n d e=some b->RcLt A.in1 s u z b):
  ∀ {xs ys:List D} {vs ws:List V} {us zs:List Value} {b:Bool},Reps X.K H mu xs vs->Reps X.K H mu ys ws->Vals vs us->Vals ws zs->ltL (eqN S n) (ltN S n) xs ys=some b->LtS A s us zs b
 :=by
 intro xs
 induction xs with
 | nil=>
  intro ys vs ws us zs b r1 r2 v1 v2 h;cases r1;cases v1;cases r2 with
  | nil=>cases v2;cases h;exact .nn
  | cons _ _=>cases v2;cases h;exact .nc _ _
 | cons x xs jh=>
  intro ys vs ws us zs b r1 r2 v1 v2 h;cases r1 with
  | cons r1 t1=>
   cases v1 with
   | cons q1 p1=>
    cases r2 with
    | nil=>cases v2;cases h;exact .cn _ _
    | cons r2 t2=>
     cases v2 with
     | cons q2 p2=>
      rw [ltL] at h;obtain ⟨k,e1,h⟩:=oB1.mp h;have eq:=(eqN_at I hs n (A:=A.in1) hu r1 r2 q1 q2 e1).1;cases k with
      | true=>exact .eq eq (jh t1 t2 p1 p2 h)
      | false=>exact .lt eq (ih r1 r2 q1 q2 h)
theorem ltN_at (I:Inv X pins σ H s)(hs:Sim X.K H mu S):∀ (n:Nat) {A:Around} {d e:D} {v w:V} {u z:Value} {b:Bool},A.units+n<cLine->Rep X.K H mu d v->Rep X.K H mu e w->RelV v u->RelV w z->ltN S n d e=some b->RcLt A s u z b
 | 0,_,_,_,_,_,_,_,_,_,_,_,_,_,h=>by cases h
 | n + 1,A,d,e,v,w,u,z,b,hu,rd,re,ru,rz,h=>by
  rw [ltN] at h;split at h
  ·rename_i k hk;cases h;unfold ltF at hk;split at hk
   ·cases hk;cases rd;cases re;obtain ⟨t,rfl⟩:=ru;obtain ⟨t',rfl⟩:=rz;exact fun prog w E Q q=>(PyProof.Rows.lt_int q:wpAny (model prog w) A (compareOp .Lt (.int _ t) (.int _ t')) Q E s)
   ·cases hk;cases rd;cases re;obtain ⟨t,rfl⟩:=ru;obtain ⟨t',rfl⟩:=rz;exact fun prog w E Q q=>(PyProof.Rows.lt_str q:wpAny (model prog w) A (compareOp .Lt (.str _ t) (.str _ t')) Q E s)
   ·cases hk
  ·split at h
   ·rename_i p q hd he;split at h
    ·rename_i hb;obtain ⟨pb,xs⟩:=p;obtain ⟨qb,ys⟩:=q;have hb':pb=qb:=hb;subst hb';obtain ⟨a,vs,rfl,q1,t1⟩:=seqOf_at rd hs hd;obtain ⟨a2,vs2,rfl,q2,t2⟩:=seqOf_at re hs he;cases ru;cases rz;obtain ⟨its,rv,co,_⟩:=sqb_at I q1;obtain ⟨its2,rv2,co2,_⟩:=sqb_at I q2;refine seq_lt co co2 (by lia) ?_;have:=ltL_at I hs (A:=A) (n:=n) (by lia) (fun r1 r2 r3 r4 h=>ltN_at I hs n (A:=A.in1) (by show A.units+1+n<cLine;lia) r1 r2 r3 r4 h) t1 t2 rv rv2 h;simpa using this
    ·cases h
   ·cases h
theorem o_ltN (hu:X.A.units+64<cLine):OpR X (compareOp .Lt) (r2 X.K (b2 gLt)):=by
 intro pins s σ H x y u w Q I rx ry h;obtain ⟨mu,S,d,e,r,S',r1,r2,hs,hm,hc⟩:=rn2 h;obtain ⟨b,e1,hm⟩:=oM1.mp hm;cases hm;exact ltN_at I hs deepMost (by show _+60<cLine;lia) r1 r2 rx ry e1 X.prog X.w X.xe _ ⟨.bl b,H,I,rfl,hc.now (.bl b) hs⟩
end
inductive Ty where
 | int | bool | str | tuple | list | dict
 deriving DecidableEq
noncomputable def Ty.nm:Ty->String
 | .int=>"int" | .bool=>"bool" | .str=>"str" | .tuple=>"tuple" | .list=>"list" | .dict=>"dict"
noncomputable def isTy (S:Sto)(T:Ty):D->Option Bool
 | .non=>some false
 | .bl _=>some (decide (T = .bool)||decide (T = .int))
 | .int _=>some (decide (T = .int))
 | .str _=>some (decide (T = .str))
 | .tup _=>some (decide (T = .tuple))
 | .rol _=>some (decide (T = .list))
 | .ref n=>match S[n]? with
  | some (.lst _)=>some (decide (T = .list))
  | some (.dct _)=>some (decide (T = .dict))
  | some (.dcT _)=>some (decide (T = .dict))
  | _=>none
 | .fn _=>none
noncomputable def mIsT (T:Ty)(m:FE):FE:=fun r S=>(m r S).bind fun p=>(isTy p.2 T p.1).map fun b=>(.bl b,p.2)
section
variable {X:Cx} {pins:List (Addr×Obj)} {σ:L2.St} {H:Hp} {s:Shared} {mu:List Addr} {S:Sto} {K:Fg1}
theorem kit_non (T:Ty):PySem.W.kitOne K (.type "NoneType") (.type T.nm)=some false:=by cases T<;>rfl
theorem kit_bl (T:Ty):PySem.W.kitOne K (.type "bool") (.type T.nm)=some (decide (T = .bool)||decide (T = .int)):=by cases T<;>rfl
theorem kit_int (T:Ty):PySem.W.kitOne K (.type "int") (.type T.nm)=some (decide (T = .int)):=by cases T<;>rfl
theorem kit_str (T:Ty):PySem.W.kitOne K (.type "str") (.type T.nm)=some (decide (T = .str)):=by cases T<;>rfl
theorem kit_tup (T:Ty):PySem.W.kitOne K (.type "tuple") (.type T.nm)=some (decide (T = .tuple)):=by cases T<;>rfl
theorem kit_lst (T:Ty):PySem.W.kitOne K (.type "list") (.type T.nm)=some (decide (T = .list)):=by cases T<;>rfl
theorem kit_dct (T:Ty):PySem.W.kitOne K (.type "dict") (.type T.nm)=some (decide (T = .dict)):=by cases T<;>rfl
theorem isTy_at {T:Ty}{d:D}{v:V}{u:Value}{b:Bool}{Q:Value->Shared->Prop}{E:Value->Shared->Prop}(I:Inv X pins σ H s)(hs:Sim X.K H mu S)(r:Rep X.K H mu d v)(ru:RelV v u)(h:isTy S T d=some b)(q:∀ tk,Q (.bool b) {s with toks:=tk}):
  wpAny (model X.prog X.w) X.A (call (.builtin "isinstance") [u,.type T.nm]) Q E s:=by
 have seq:∀ {k:Bool} {a:Addr} {vs:List V},SqB X.K k H a vs->b=(match k with | true=>decide (T = .list) | false=>decide (T = .tuple))->wpAny (model X.prog X.w) X.A (call (.builtin "isinstance") [.ref a,.type T.nm]) Q E s:=fun {k a vs} hq hb=>by
  obtain ⟨its,rv,co,_⟩:=sqb_at I hq;cases k
  ·obtain ⟨o,e,c,_⟩:=co;subst hb;exact PySem.W.kia_one PySem.W.kitx_tuple I.kIn ⟨o,e,c⟩ (kit_tup T) (fun z=>nomatch z) q
  ·obtain ⟨o,e,c,_⟩:=co;subst hb;exact PySem.W.kia_one PySem.W.kitx_list I.kIn ⟨o,e,c⟩ (kit_lst T) (fun z=>nomatch z) q
 cases d with
 | non=>cases h;cases r;exact isinst_ok I ru .non (kit_non T) q
 | bl k=>cases h;cases r;exact isinst_ok I ru (.bl k) (kit_bl T) q
 | int i=>cases h;cases r;exact isinst_ok I ru (.int i) (kit_int T) q
 | str x=>cases h;cases r;exact isinst_ok I ru (.str x) (kit_str T) q
 | tup xs=>
  cases h;obtain ⟨a,vs,rfl,hq,t⟩:=seqOf_at (S:=S) r hs rfl;cases ru;exact seq hq rfl
 | fn x=>cases h
 | rol xs=>
  cases h;obtain ⟨a,vs,rfl,hq,t⟩:=seqOf_at (S:=S) r hs rfl;cases ru;exact seq hq rfl
 | ref n=>
  rw [isTy] at h;split at h
  ·rename_i xs e;cases h;obtain ⟨a,vs,rfl,hq,t⟩:=seqOf_at (S:=S) r hs (by rw [seqOf,e]);cases ru;exact seq hq rfl
  ·rename_i ks e;cases h;cases r with
   | ref qn=>
    obtain ⟨ws,e1,_⟩:=hs.dct e qn;exact isinst_ok I ru (.dK e1) (kit_dct T) q
  ·rename_i ks e;cases h;cases r with
   | @ref _ a qn=>
    cases (show u=Value.ref a from ru);obtain ⟨ws,e1,_⟩:=hs.dcT e qn;obtain ⟨⟨_,_,o,_,_,h3,h4,_⟩,_⟩:=(show ObjOk X.prog X.w H s.heap a (.ext (DictAt a ws)) from I.hok a _ e1);exact PySem.W.kia_one PySem.W.kitx_dict I.kIn ⟨o,h3,h4.1⟩ (kit_dct T) (fun z=>nomatch z) q
  ·cases h
theorem c_isinst (T:Ty):CallR X (.builtin "isinstance") (fun xs H Q=>∃ x mu S d b,xs=[x,.ty T.nm]/\Rep X.K H mu d x/\Sim X.K H mu S/\isTy S T d=some b/\Q (.bl b) H):=by
 intro pins s σ H xs us Q I r h;obtain ⟨x,mu,S,d,b,rfl,r1,hs,hm,hc⟩:=h;obtain ⟨u,w',rfl,ru,rt⟩:=vals2 r;cases rt;exact isTy_at I hs r1 ru hm fun tk=>⟨.bl b,H,I.tok tk,rfl,hc⟩
theorem me_isinst (T:Ty){e:Expr}{m:FE}{nm:Str}{p p2 pos:Pos}(hg:Gl X "isinstance")(hm:X.mg "isinstance"=none)(hg2:Gl X nm)(hm2:X.mg nm=none)(hv2:bootBuiltins nm=some (.type T.nm))(h:ME X e m)
  (hn:nm≠"__name__":=by decide) (hd:(nm == ("__debug__":Str))=false:=by decide)
  (hs1:starEach [e,.Name nm p2] X.env=(false,eval e X.env)::starEach [.Name nm p2] X.env:=by rfl) (hs2:starEach [.Name nm p2] X.env=(false,eval (.Name nm p2) X.env)::starEach [] X.env:=by rfl)
  (hpl:(backTo pos (starEach [.Name nm p2] X.env)).any (·.1)=false:=by rfl):ME X (.Call (.Name "isinstance" p) [e,.Name nm p2] [] pos) (mIsT T m):=
 pe_imp (pe_callB (c_isinst T) hg hm (by decide+kernel) (pa_cons h (pa_cons (pe_bltn (v:=.ty T.nm) hg2 hm2 hv2 rfl hn hd) pa_nil hs2) hs1) (by decide) (by decide) hs1 hpl) <| by
  rintro σ H Q ⟨r,mu,S,d,S',he,hs,hm,hc⟩;obtain ⟨⟨d1,S1⟩,e1,hm⟩:=oB1.mp hm;obtain ⟨b,e2,hm⟩:=oM1.mp hm;cases hm;refine ⟨r,mu,S,d1,_,he,hs,e1,fun v H1 mu1 x1 r1 s1=>?_⟩;exact ⟨v,mu1,_,d1,b,rfl,r1,s1,e2,hc _ H1 mu1 x1 (.bl b) s1⟩
end
noncomputable abbrev FO:=Ev->Sto->Option (Option Int×Sto)
noncomputable def tMO (K:Fg1)(m:FO):TO:=fun σ H Q=>∃ r mu S o S',EnvR K H mu r σ/\Sim K H mu S/\m r S=some (o,S') /\ ∀ H' mu',Ext mu mu' H H'->Sim K H' mu' S'->Q o H'
noncomputable abbrev MO (X:Cx)(e:Option Expr)(m:FO):Prop:=PO X e (tMO X.K m)
noncomputable def oNone:FO:=fun _ S=>some (none,S)
noncomputable def oSome (m:FE):FO:=fun r S=>(m r S).bind fun p=>match p.1 with
 | .int i=>some (some i,p.2)
 | _=>none
noncomputable def cutD (xs:List D)(lo hi:Option Int):List D:=(xs.drop (HT.sIx xs.length 0 lo)).take (HT.sIx xs.length xs.length hi-HT.sIx xs.length 0 lo)
section
variable {X:Cx}
theorem mo_none:MO X none oNone:=by
 rintro pins s σ H Q I ⟨r,mu,S,o,S',he,hs,hm,hc⟩;cases hm;exact po_none pins s σ H Q I (hc H mu (.refl _ _) hs)
theorem mo_some {e:Expr}{m:FE}(h:ME X e m):MO X (some e) (oSome m):=by
 rintro pins s σ H Q I ⟨r,mu,S,o,S',he,hs,hm,hc⟩;obtain ⟨⟨d,S1⟩,e1,hm⟩:=oB1.mp hm;cases d with
 | int i=>
  cases hm;refine po_some h pins s σ H Q I ⟨r,mu,S,_,_,he,hs,e1,fun v H1 mu1 x1 r1 s1=>?_⟩;cases r1;exact ⟨i,rfl,hc H1 mu1 x1 s1⟩
 | _=>cases hm
theorem cut_rep {K:Fg1}{H:Hp}{mu:List Addr}{ds:List D}{vs:List V}(t:Reps K H mu ds vs)(lo hi:Option Int):Reps K H mu (cutD ds lo hi) (cutV vs lo hi):=by
 unfold cutD cutV;rw [<- t.length];exact (t.drop _).take _
end
noncomputable def gApp:G2:=fun o v S=>match o with
 | .ref n=>match S[n]? with
  | some (.lst xs)=>if xs.length<sizeLine then some (.non,S.set n (.lst (xs++[v]))) else none
  | _=>none
 | _=>none
noncomputable def mMt (f:FN)(o:FE)(a:FA):FE:=fun r S=>(o r S).bind fun p=>match p.1 with
 | .ref n=>match p.2[n]? with
  | some (.lst _)=>(a r p.2).bind fun q=>f (p.1::q.1) q.2
  | _=>none
 | _=>none
section
variable {X:Cx}
theorem t_app:MtR X "list.append" (fun x xs H Q=>rN X.K (b2 gApp) (x::xs) H Q):=by
 intro pins s σ H x xs v us Q I rx rv h;obtain ⟨x',y,mu,S,d,e,r',S',e0,r1,r2,hs,hm,hc⟩:=rn2l h;cases e0;cases d with
 | ref n=>
  rw [gApp] at hm;split at hm
  ·rename_i ys en;split at hm
   ·rename_i hl;cases hm;cases r1 with
    | ref qn=>
     obtain ⟨vs,ev,t⟩:=hs.lst en qn;refine mt_append pins s σ H _ [y] v us Q I rx rv ⟨_,vs,y,rfl,rfl,ev,by rw [<- t.length];exact hl,?_⟩;exact hc _ _ mu (Ext.put ev trivial (gM1 qn)) .non (hs.putL (t.append (.cons r2 .nil)) qn ev)
   ·cases hm
  ·cases hm
 | _=>cases hm
theorem me_lmeth {o e:Expr}{es:List Expr}{m:FE}{a:FA}{f:FN}{name:Str}{apos cpos:Pos}{id:String}(slot:Slot "list" name id)(hty:typeOf (.builtin id)=pure (.type "method_descriptor"))(hm:MtR X id (fun x xs H Q=>rN X.K f (x::xs) H Q))(ho:ME X o m)(ha:MA X (e::es) a)
  (hbase:attributeBase o name X.env (eval o X.env)=eval o X.env:=by rfl)
  (hfew:((backTo cpos (starEach (e::es) X.env)).all (fun x=> !x.1)&&(backToKw cpos (keywordEach [] X.env)).all (fun x=>x.1.isSome)&&decide ((e::es).length+([]:List Keyword).length+(if ([]:List Keyword).isEmpty then 0 else 1)<30))=true:=by rfl)
  (hline:(apos.endLine == cpos.line)=true:=by rfl) (hs:starEach (e::es) X.env=(false,eval e X.env)::starEach es X.env:=by rfl) (hplain:(backTo cpos (starEach es X.env)).any (·.1)=false:=by rfl):
  ME X (.Call (.Attribute o name apos) (e::es) [] cpos) (mMt f m a):=
 pe_imp (pe_bm PySem.F.plainAttrs_list slot hty hm ho ha hbase hfew hline hs hplain) <| by
  rintro σ H Q ⟨r,mu,S,d,S',he,hs,hm,hc⟩;obtain ⟨⟨d1,S1⟩,e1,hm⟩:=oB1.mp hm;refine ⟨r,mu,S,d1,S1,he,hs,e1,fun v H1 mu1 x1 r1 s1=>?_⟩;cases d1 with
  | ref n=>
   dsimp only at hm;split at hm
   ·rename_i xs en;obtain ⟨⟨ds,S2⟩,e2,hm⟩:=oB1.mp hm;refine ⟨?_,r,mu1,S1,ds,S2,he.ext x1,s1,e2,fun vs H2 mu2 x2 r2 s2=>?_⟩
    ·cases r1 with
     | ref qn=>
      obtain ⟨vs,ev,t⟩:=s1.lst en qn;exact .inl ⟨rfl,vs,SqL.of ev⟩
    ·exact ⟨mu2,S2,.ref n::ds,d,S',.cons (r1.ext x2) r2,s2,hm,fun v3 H3 mu3 x3=>hc v3 H3 mu3 ((x1.trans x2).trans x3)⟩
   ·cases hm
  | _=>cases hm
theorem mv (i:Nat){x:Str}{pos:Pos}(hN:X.N[i]? = some x:=by rfl)(hv:Vis X.env.scope x:=by first | exact Or.inl rfl | exact Or.inr (Or.inl rfl) | exact Or.inr (Or.inr rfl))(hd:(x == ("__debug__":Str))=false:=by decide)(hcd:(x == ("__classdict__":Str))=false:=by decide):
  ME X (.Name x pos) (mV i):=me_var i hN hv hd hcd
end
noncomputable def Own (P:Program)(w:World)(K:Fg1)(mg:Str->Option Value)(base:Heap)(k:Nat)(x:Str)(n:Nat)(m:FN):Prop:=
 ∃ (f:Addr) (fd:FuncData) (ps:List Str),FnOk P w K mg base CX0 k f fd ps (spM K n m)/\Binds K fd ps []/\wK1 K (.ref f)=true/\mg x=some (.ref f)
theorem me_own {X:Cx}{k k' n:Nat}{x:Str}{m:FN}{p pos:Pos}{e:Expr}{es:List Expr}{a:FA}(h:Own X.prog X.w X.K X.mg X.base k x n m)(hr:Room k' X.A)(hk:k<=k')(hg:Gl X x)(ha:MA X (e::es) a)(hdb:(x == ("__debug__":Str))=false:=by decide)
  (he:starEach (e::es) X.env=(false,eval e X.env)::starEach es X.env:=by rfl) (hpl:(backTo pos (starEach es X.env)).any (·.1)=false:=by rfl):ME X (.Call (.Name x p) (e::es) [] pos) (mN (mCall n m) a):=by
 obtain ⟨f,fd,ps,F,b,kp,hm⟩:=h;exact me_call F (hr.mono hk) hg hm kp b ha hdb he hpl
theorem own_mk {P:Program}{w:World}{K:Fg1}{mg:Str->Option Value}{base:Heap}{x qual:Str}{st:Stmt}{f:Addr}{fd:FuncData}{N ps:List Str}{k n:Nat}{b:FS}(F:Fun K x qual st f fd)(hb:Binds K fd ps [])(hm:mg x=some (.ref f))(S:FnScope N ps (defScope st))(hn:ps.length=n)
  (hbody:∀ (cdv:Value) (A:Around) (outer:List Env) (s:Shared) (H:Hp) (E:XK),Room k (A.deeper (envOfC qual (defScope st) s.heap.objs.size f cdv)) ->
   MSs (cxOf CX0 P w K mg base N qual (defScope st) f cdv A outer s H E).nox (defBody st) b):Own P w K mg base (k+1) x n (fnB N.length b):=by
 subst hn;exact ⟨f,fd,ps,fn_m F S hbody,hb,F.kp,hm⟩
noncomputable def CGl (K:Fg1)(mg:Str->Option Value)(x:Str)(d:D):Prop:=∃ (v:V) (u:Value),mg x=some u/\RelV v u /\ ∀ H mu,Rep K H mu d v
theorem me_glob {X:Cx}{x:Str}{d:D}{pos:Pos}(h:CGl X.K X.mg x d)(hg:Gl X x)(hd:(x == ("__debug__":Str))=false:=by decide):ME X (.Name x pos) (mC d):=by
 obtain ⟨v,u,hm,r,q⟩:=h;exact me_c d (pe_glob hg hm r hd) q
noncomputable def maskE:List Bool->Ev->Ev
 | true::bs,o::r=>o::maskE bs r
 | false::bs,_::r=>none::maskE bs r
 | [],_::r=>none::maskE [] r
 | _,[]=>[]
noncomputable def shutE:Ev->Bool
 | []=>true
 | none::r=>shutE r
 | some d::r=>d.und 0&&shutE r
noncomputable def mPure (ki ko:List Bool)(b:FS):FS:=fun r S=>if shutE (maskE ki r)=true then
  (b (maskE ki r) []).bind fun p=>match p.1 with
   | .rt d=>if d.und 0=true then some (.rt d,[],S) else none
   | f=>if shutE (maskE ko p.2.1)=true then some (f,maskE ko p.2.1,S) else none
 else none
theorem maskE_len:∀ (bs:List Bool) (r:Ev),(maskE bs r).length=r.length
 | true::bs,o::r=>congrArg (· + 1) (maskE_len bs r)
 | false::bs,o::r=>congrArg (· + 1) (maskE_len bs r)
 | [],o::r=>congrArg (· + 1) (maskE_len [] r)
 | [],[]=>rfl
 | true::_,[]=>rfl
 | false::_,[]=>rfl
theorem maskE_get:∀ (bs:List Bool) (r:Ev) (i:Nat) (d:D),(maskE bs r)[i]? = some (some d)->r[i]? = some (some d)
 | true::bs,o::r,0,d,h=>h
 | true::bs,o::r,i+1,d,h=>by
  rw [gC1];exact maskE_get bs r i d (by rw [maskE,gC1] at h;exact h)
 | false::bs,o::r,0,d,h=>by simp [maskE] at h
 | false::bs,o::r,i+1,d,h=>by
  rw [gC1];exact maskE_get bs r i d (by rw [maskE,gC1] at h;exact h)
 | [],o::r,0,d,h=>by simp [maskE] at h
 | [],o::r,i+1,d,h=>by
  rw [gC1];exact maskE_get [] r i d (by rw [maskE,gC1] at h;exact h)
 | [],[],i,d,h=>by simp [maskE] at h
 | true::_,[],i,d,h=>by simp [maskE] at h
 | false::_,[],i,d,h=>by simp [maskE] at h
theorem shutE_get:∀ (r:Ev) (i:Nat) (d:D),shutE r=true->r[i]? = some (some d)->d.und 0=true
 | none::r,0,d,_,h=>by simp at h
 | none::r,i+1,d,hs,h=>shutE_get r i d hs (by simpa using h)
 | some e::r,0,d,hs,h=>by
  rw [shutE,bA1] at hs;simp at h;subst h;exact hs.1
 | some e::r,i+1,d,hs,h=>by
  rw [shutE,bA1] at hs;exact shutE_get r i d hs.2 (by simpa using h)
theorem EnvR.mask {K:Fg1}{H:Hp}{mu mu':List Addr}{r:Ev}{σ:L2.St}{bs:List Bool}(h:EnvR K H mu r σ)(hs:shutE (maskE bs r)=true):EnvR K H mu' (maskE bs r) σ:=
 ⟨by rw [maskE_len];exact h.len,fun i d e=>by
  obtain ⟨v,e1,r1⟩:=h.val i d (maskE_get bs r i d e);exact ⟨v,e1,r1.cut (n:=0) (fun k hk=>absurd hk (Nat.not_lt_zero _)) (shutE_get _ i d hs e)⟩⟩
theorem mPure_ok {K:Fg1}{ki ko:List Bool}{b:FS}{E:Ends}{σ:L2.St}{H:Hp}(h:tMS K (mPure ki ko b) E σ H):tMS K b E σ H:=by
 obtain ⟨r,mu,S,f,r',S',he,hs,hm,hc⟩:=h;unfold mPure at hm;split at hm
 ·rename_i hb;obtain ⟨⟨f1,r1,S1⟩,e1,hm⟩:=oB1.mp hm;refine ⟨maskE ki r,[],[],f1,r1,S1,he.mask hb,.nil,e1,?_⟩;have back:∀ {H':Hp} {mu':List Addr},Ext [] mu' H H'->Ext mu mu H H':=fun {H' mu'} x=>⟨List.prefix_rfl,fun a o e _=>x.old a o e (by simp),x.tup,x.frz,fun _ z=>.inl z⟩;have keep:∀ {H':Hp} {mu':List Addr},Ext [] mu' H H'->Sim K H' mu S:=fun {H' mu'} x=>⟨hs.len,hs.nd,fun n o a h1 h2=>(hs.ob n o a h1 h2).keep (back x) fun o e=>x.old a o e (by simp)⟩;cases f1 with
  | rt d=>
   dsimp only at hm;split at hm
   ·rename_i hd;cases hm;exact fun v H' mu' x r s=>hc v H' mu (back x) (r.cut (n:=0) (fun k hk=>absurd hk (Nat.not_lt_zero _)) hd) (keep x)
   ·cases hm
  | nx=>
   dsimp only at hm;split at hm
   ·rename_i hd;cases hm;exact fun σ' H' mu' x r s=>hc σ' H' mu (back x) (r.mask hd) (keep x)
   ·cases hm
  | bk=>
   dsimp only at hm;split at hm
   ·rename_i hd;cases hm;exact fun σ' H' mu' x r s=>hc σ' H' mu (back x) (r.mask hd) (keep x)
   ·cases hm
  | ct=>
   dsimp only at hm;split at hm
   ·rename_i hd;cases hm;exact fun σ' H' mu' x r s=>hc σ' H' mu (back x) (r.mask hd) (keep x)
   ·cases hm
 ·cases hm
theorem mss_pure {X:Cx}{sts:List Stmt}{b:FS}(ki ko:List Bool)(h:MSs X sts b):MSs X sts (mPure ki ko b):=pss_imp h fun _ _ _=>mPure_ok
noncomputable def CV (K:Fg1)(d:D)(u:Value):Prop:=∃ v:V,RelV v u /\ ∀ H mu,Rep K H mu d v
noncomputable def CVs (K:Fg1)(ds:List D)(us:List Value):Prop:=∃ vs:List V,Vals vs us /\ ∀ H mu,Reps K H mu ds vs
section
variable {K:Fg1}
theorem cv_int {i:Int}{t}:CV K (.int i) (.int i t):=⟨.int i,⟨t,rfl⟩,fun _ _=>.int i⟩
theorem cv_str {x:Str}{t}:CV K (.str x) (.str x t):=⟨.str x,⟨t,rfl⟩,fun _ _=>.str x⟩
theorem cvs_nil:CVs K [] []:=⟨[],.nil,fun _ _=>.nil⟩
theorem cvs_cons {d:D}{u:Value}{ds:List D}{us:List Value}(h:CV K d u)(t:CVs K ds us):CVs K (d::ds) (u::us):=by
 obtain ⟨v,r,q⟩:=h;obtain ⟨vs,rs,qs⟩:=t;exact ⟨v::vs,.cons r rs,fun H mu=>.cons (q H mu) (qs H mu)⟩
theorem cv_tup {a:Addr}{od:Option Addr}{us:List Value}{n:Nat}{sl:Array (Option Value)}{ds:List D}(h:K.lookup a=some ⟨.type "tuple",od,.seq us.toArray n,sl⟩)(hs:us.length<=sizeLine)(t:CVs K ds us):CV K (.tup ds) (.ref a):=by
 obtain ⟨vs,rs,qs⟩:=t;exact ⟨.ref a,rfl,fun H mu=>.tup (.inr ⟨_,us.toArray,n,h,rfl,rfl,by simpa using hs,by simpa using rs⟩) (qs H mu)⟩
theorem cgl_mk {mg:Str->Option Value}{x:Str}{d:D}{u:Value}(hm:mg x=some u)(h:CV K d u):CGl K mg x d:=by
 obtain ⟨v,r,q⟩:=h;exact ⟨v,u,hm,r,q⟩
end
theorem reps_ints {K:Fg1}{H:Hp}{mu:List Addr}:∀ ns:List Int,Reps K H mu (ns.map D.int) (ns.map V.int)
 | []=>.nil
 | n::ns=>.cons (.int n) (reps_ints ns)
theorem law_sp {K:Fg1}{m:FN}(hm:∀ ns:List Int,ns.length<=63 -> ∃ S,m [.rol (ns.map D.int)] []=some (.bl true,S))(H:Hp)(a:Addr)(ns:List Int)(hl:ns.length<=63)(hO:Only H)(hS:SqL K H a (ns.map V.int)):
  spM K 1 m [.ref a] H (fun v _=>v = .bl true) fun _ _ _=>False:=by
 refine ⟨rfl,?_⟩;obtain ⟨S,e⟩:=hm ns hl;have hR:RoL K H a (ns.map V.int):=by
  rcases hS with h | h
  ·rcases h with h | h
   ·rcases hO a with z | ⟨o,xs,z⟩
    ·rw [h] at z;cases z
    ·rw [h] at z;cases z
   ·exact .inl h
  ·exact .inr h
 refine ⟨[],[],[.rol (ns.map D.int)],.bl true,S,.cons (.rol hR (reps_ints ns)) .nil,.nil,e,fun v H' mu' x r s=>?_⟩;cases r;rfl
theorem walk_m {l:PySem.W.OpenLaw}{q:Program}{loose:List Str}{XP:(Str->Option Value)->Heap->Prop}{YP:World->Heap->Prop}{d:DefRec}{K:Params->Fg1}{m:FN}{k:Nat}{x:Str}(hn:l.most=some 63)(hdf:d.params.defaults=[])(hr:Room k callerA)
  (hY:∀ (w:World) (h:Heap),YP w h->(K w.params).In h) (hm:∀ ns:List Int,ns.length<=63 -> ∃ S,m [.rol (ns.map D.int)] []=some (.bl true,S))
  (F:∀ (w:World) (mg:Str->Option Value) (fa:Addr) (h:Heap),(K w.params).In h->h.Ns mainGlobals mg->mg d.name=some (.ref fa) ->
   ∃ fd:FuncData,(∀ (s:Shared) (u:Value),BindsTo s fd ⟨[u],[]⟩ [(x,u)]) /\ ∀ base:Heap,(K w.params).In base->base.Ns mainGlobals mg->FnOk l.prog w (K w.params) mg base CX0 k fa fd [x] (spM (K w.params) 1 m)):
  PySem.W.WalkO q loose XP YP l.row.toRowW d [] (fun f vs=>PySem.call f vs):=
 L2.walk_of (n:=63) (k:=k) (x:=x) (CX:=fun _=>CX0) (sp:=fun w=>spM (K w.params) 1 m) hn (by decide) hdf hr hY F (fun _ H a ns hl hO hS=>law_sp hm H a ns hl hO hS) fun _ _ _ _ _ z=>z
structure XE (X:Cx)(e:Expr)(m:FE):Prop where
 h:ME X e m
structure XT (X:Cx)(e:Expr)(m:FT):Prop where
 h:MT X e m
structure XW (X:Cx)(e:Expr)(m:FT):Prop where
 h:MW X e m
structure XA (X:Cx)(e:List Expr)(m:FA):Prop where
 h:MA X e m
structure XS (X:Cx)(e:Stmt)(m:FS):Prop where
 h:MS X e m
structure XSs (X:Cx)(e:List Stmt)(m:FS):Prop where
 h:MSs X e m
structure XI (X:Cx)(tg e:Expr)(m:FI):Prop where
 h:MI X tg e m
structure XG (X:Cx)(e:Expr)(m:FG):Prop where
 h:MG X e m
structure XGs (X:Cx)(e:List Expr)(m:FGs):Prop where
 h:MGs X e m
structure XO (X:Cx)(e:Option Expr)(m:FO):Prop where
 h:MO X e m
structure XF (X:Cx)(K:Fg1)(ifs:List Expr)(t:FT):Prop where
 h:PIfs X ifs (tMT K t)
theorem xmif_nil {X:Cx}:XF X X.K [] mTrue:=⟨mif_nil⟩
theorem xmif_one {X:Cx}{c:Expr}{t:FT}(h:XT X c t):XF X X.K [c] t:=⟨mif_one h.h⟩
theorem xmss_pure {X:Cx}{sts:List Stmt}{b:FS}(ki ko:List Bool)(h:XSs X sts b):XSs X sts (mPure ki ko b):=⟨mss_pure ki ko h.h⟩
section
variable {X:Cx} {pos:Pos}
theorem qK {i:Int}{j}:XE X (.Constant (.int i) j pos) (mC (.int i)):=⟨me_int⟩
theorem xme_bl {b:Bool}{j}:XE X (.Constant (.bool b) j pos) (mC (.bl b)):=⟨me_bl⟩
theorem xme_non {j}:XE X (.Constant .none j pos) (mC .non):=⟨me_non⟩
theorem xme_str {x:Str}{j}:XE X (.Constant (.str x) j pos) (mC (.str x)):=⟨me_str⟩
end
section
variable {X:Cx} {pos:Pos} {e:Expr} {es:List Expr} {m:FE} {n:FA}
theorem qN:XA X [] mNil:=⟨ma_nil⟩
theorem qA (h:XE X e m)(ht:XA X es n)(hs:starEach (e::es) X.env=(false,eval e X.env)::starEach es X.env:=by rfl):XA X (e::es) (mCons m n):=⟨ma_cons (h:=h.h) (ht:=ht.h) (hs:=hs)⟩
end
section
variable {X:Cx} {K:Fg1} {f:FN} {a b:FE} {σ:L2.St} {H:Hp} {Q:VK}
theorem qI {op:Operator}{x y:Expr}{pos:Pos}(ho:OpR X (binaryOp op) (r2 X.K f))(hx:XE X x a)(hy:XE X y b):XE X (.BinOp x op y pos) (m2 f a b):=⟨me_op (ho:=ho) (hx:=hx.h) (hy:=hy.h)⟩
theorem xme_un {op:UnaryOp}{x:Expr}{pos:Pos}(ho:UnR X (unaryOp op) (fun x H Q=>rN X.K f [x] H Q))(hx:XE X x a):XE X (.UnaryOp op x pos) (m1 f a):=⟨me_un (ho:=ho) (hx:=hx.h)⟩
theorem xme_cmp {op:CmpOp}{x y:Expr}{pos:Pos}(ho:OpR X (compareOp op) (r2 X.K f))(hx:XE X x a)(hy:XE X y b)(hm:behindInMarks op y=false):XE X (.Compare x [op] [y] pos) (m2 f a b):=⟨me_cmp (ho:=ho) (hx:=hx.h) (hy:=hy.h) (hm:=hm)⟩
theorem qJ {x y:Expr}{pos:Pos}(ho:IxR X (r2 X.K f))(hx:XE X x a)(hy:XE X y b)(hs:PlainIx y):XE X (.Subscript x y pos) (m2 f a b):=⟨me_ix (ho:=ho) (hx:=hx.h) (hy:=hy.h) (hs:=hs)⟩
theorem qD {x:Str}{p pos:Pos}{e:Expr}{es:List Expr}{id:String}{a:FA}(hc:CallR X (.builtin id) (rN X.K f))(hg:Gl X x)(hm:X.mg x=none)(hv:bootBuiltins x=some (.builtin id))(ha:XA X (e::es) a)(hn:x≠"__name__":=by decide)(hdb:(x == ("__debug__":Str))=false:=by decide)(he:starEach (e::es) X.env=(false,eval e X.env)::starEach es X.env:=by rfl)(hpl:(backTo pos (starEach es X.env)).any (·.1)=false:=by rfl):XE X (.Call (.Name x p) (e::es) [] pos) (mN f a):=⟨me_callB (hc:=hc) (hg:=hg) (hm:=hm) (hv:=hv) (ha:=ha.h) (hn:=hn) (hdb:=hdb) (he:=he) (hpl:=hpl)⟩
theorem qE {x:Str}{p pos:Pos}{e:Expr}{es:List Expr}{T:String}{a:FA}(hc:CallR X (.type T) (rN X.K f))(hg:Gl X x)(hm:X.mg x=none)(hv:bootBuiltins x=some (.type T))(ha:XA X (e::es) a)(hn:x≠"__name__":=by decide)(hdb:(x == ("__debug__":Str))=false:=by decide)(he:starEach (e::es) X.env=(false,eval e X.env)::starEach es X.env:=by rfl)(hpl:(backTo pos (starEach es X.env)).any (·.1)=false:=by rfl):XE X (.Call (.Name x p) (e::es) [] pos) (mN f a):=⟨me_callTy (hc:=hc) (hg:=hg) (hm:=hm) (hv:=hv) (ha:=ha.h) (hn:=hn) (hdb:=hdb) (he:=he) (hpl:=hpl)⟩
end
section
variable {X:Cx} {x y c:Expr} {rest:List Expr} {pos:Pos} {a b:FT} {f g:FE}
theorem qX {op:CmpOp}{f:FN}{a b:FE}(ho:OpR X (compareOp op) (r2 X.K f))(hx:XE X x a)(hy:XE X y b)(hm:behindInMarks op y=false):XT X (.Compare x [op] [y] pos) (mB (m2 f a b)):=⟨mt_cmp (ho:=ho) (hx:=hx.h) (hy:=hy.h) (hm:=hm)⟩
theorem xmw_and1 (ha:XT X x a):XW X (.BoolOp .And [x] pos) a:=⟨mw_and1 (ha:=ha.h)⟩
theorem xmw_or1 (ha:XT X x a):XW X (.BoolOp .Or [x] pos) a:=⟨mw_or1 (ha:=ha.h)⟩
theorem xmw_and (ha:XT X x a)(hb:XW X (.BoolOp .And (y::rest) pos) b):XW X (.BoolOp .And (x::y::rest) pos) (mAnd a b):=⟨mw_and (ha:=ha.h) (hb:=hb.h)⟩
theorem xmw_or (ha:XT X x a)(hb:XW X (.BoolOp .Or (y::rest) pos) b):XW X (.BoolOp .Or (x::y::rest) pos) (mOr a b):=⟨mw_or (ha:=ha.h) (hb:=hb.h)⟩
theorem xmt_w (h:XW X x a):XT X x a:=⟨mt_w (h:=h.h)⟩
theorem xmt_not (ha:XT X x a):XT X (.UnaryOp .Not x pos) (mNot a):=⟨mt_not (ha:=ha.h)⟩
theorem xme_one {op}(h:XE X x f):XE X (.BoolOp op [x] pos) f:=⟨me_one (h:=h.h)⟩
theorem xme_and (ha:XE X x f)(hb:XE X (.BoolOp .And (y::rest) pos) g):XE X (.BoolOp .And (x::y::rest) pos) (mAndV f g):=⟨me_and (ha:=ha.h) (hb:=hb.h)⟩
theorem xme_not (ha:XE X x f):XE X (.UnaryOp .Not x pos) (mNotV f):=⟨me_not (ha:=ha.h)⟩
theorem xme_if (hc:XT X c a)(hx:XE X x f)(hy:XE X y g):XE X (.IfExp c x y pos) (mIf a f g):=⟨me_if (hc:=hc.h) (hx:=hx.h) (hy:=hy.h)⟩
end
section
variable {X:Cx} {x y z:Expr} {pos:Pos} {f g:FN} {a b c:FE} {op op':CmpOp}
theorem xme_chain (ho:OpR X (compareOp op) (r2 X.K f))(ho':OpR X (compareOp op') (r2 X.K g))(hx:XE X x a)(hy:XE X y b)(hz:XE X z c)(hm:lastMarks [op,op'] [y,z]=false:=by with_unfolding_all rfl):XE X (.Compare x [op,op'] [y,z] pos) (mCh f g a b c):=⟨me_chain (ho:=ho) (ho':=ho') (hx:=hx.h) (hy:=hy.h) (hz:=hz.h) (hm:=hm)⟩
end
section
variable {X:Cx} {pos:Pos} {e c:Expr} {st:Stmt} {rest as bs:List Stmt} {a b:FS} {m:FE} {t:FT}
theorem qQ:XSs X [] mNx:=⟨mss_nil⟩
theorem qF (h1:XS X st a)(h2:XSs X rest b):XSs X (st::rest) (mSeq a b):=⟨mss_cons (h1:=h1.h) (h2:=h2.h)⟩
theorem qG (h1:XS X st a):XSs X [st] a:=⟨mss_one (h1:=h1.h)⟩
theorem xms_expr (h:XE X e m)(hs:swapsWith e none pos.line X.env=pure false:=by rfl):XS X (.Expr e pos) (mDrop m):=⟨ms_expr (h:=h.h) (hs:=hs)⟩
theorem qU (h:XE X e m):XS X (.Return (some e) pos) (mRet m):=⟨ms_ret (h:=h.h)⟩
theorem qV (hc:XT X c t)(ha:XSs X as a)(hb:XSs X bs b):XS X (.If c as bs pos) (mIfS t a b):=⟨ms_if (hc:=hc.h) (ha:=ha.h) (hb:=hb.h)⟩
end
section
variable {X:Cx} {pos:Pos}
theorem qO (i:Nat){x:Str}(hN:X.N.Nodup)(hi:X.N[i]? = some x)(hx:Loc X.env.scope x)(hf:X.fn x=true\/X.env.scope.names.lookup x=some .local:=by first | exact .inl rfl | exact .inr rfl | assumption):XG X (.Name x pos) (gN i):=⟨mg_name (i:=i) (hN:=hN) (hi:=hi) (hx:=hx) (hf:=hf)⟩
theorem xmgs_nil:XGs X [] gNl:=⟨mgs_nil⟩
theorem xmgs_cons {e:Expr}{es:List Expr}{g:FG}{gs:FGs}(h1:XG X e g)(h2:XGs X es gs)(hs:(assignEach (e::es) X.env).map (·.2)=assign e X.env::(assignEach es X.env).map (·.2):=by rfl):XGs X (e::es) (gCs g gs):=⟨mgs_cons (h1:=h1.h) (h2:=h2.h) (hs:=hs)⟩
theorem xmg_tup {es:List Expr}{k:Nat}{gs:FGs}{n:Nat}(hc:X.calm=true)(h:XGs X es gs)(hn:(assignEach es X.env).length=n:=by rfl)(hst:(assignEach es X.env).findIdx? (·.1)=none:=by rfl):XG X (.Tuple es k pos) (gT n gs):=⟨mg_tup (hc:=hc) (h:=h.h) (hn:=hn) (hst:=hst)⟩
theorem xmg_sub {o i:Expr}{a b:FE}{f:FN}(ho:XE X o a)(hi:XE X i b)(hs:PSet X (rU X.K f))(ha:∀ v,assign (.Subscript o i pos) X.env v=(do
   let ov<-holding [v] (eval o X.env)
   let iv<-holding [v,ov] (eval i X.env)
   standAt pos
   holding [v,ov,iv] (setItem ov iv v)
   release [v,ov,iv] []):=by intro _;rfl):XG X (.Subscript o i pos) (gS f a b):=⟨mg_sub (ho:=ho.h) (hi:=hi.h) (hs:=hs) (ha:=ha)⟩
theorem qR {tg e:Expr}{m:FE}{g:FG}(he:XE X e m)(hg:XG X tg g)(hs:swapsWithSole [tg] e pos.line X.env=pure false:=by rfl)(hw:swappedStores [tg] e X.env=pure none:=by rfl)(h1:(assignEach [tg] X.env).map (·.2)=[assign tg X.env]:=by rfl):XS X (.Assign [tg] e pos) (mAsg m g):=⟨ms_asg (he:=he.h) (hg:=hg.h) (hs:=hs) (hw:=hw) (h1:=h1)⟩
theorem qY (i:Nat){x:Str}{e:Expr}{m:FE}{pos':Pos}(hN:X.N.Nodup)(hi:X.N[i]? = some x)(hx:Loc X.env.scope x)(he:XE X e m)(hs:swapsWith e (some (.Name x pos')) pos.line X.env=pure false:=by rfl)(hf:X.fn x=true\/X.env.scope.names.lookup x=some .local:=by first | exact .inl rfl | exact .inr rfl | assumption):XS X (.Assign [.Name x pos'] e pos) (mAsg m (gN i)):=⟨ms_set (i:=i) (hN:=hN) (hi:=hi) (hx:=hx) (he:=he.h) (hs:=hs) (hf:=hf)⟩
end
section
theorem qW {X:Cx}{pos:Pos}{tg iter:Expr}{body:List Stmt}{m:FI}{g:FG}{b:FS}(hp:PassesOwn (model X.prog X.w) X.A X.env X.xe)(hc:X.calm=true)(hi:XI X tg iter m)(hg:XG X tg g)(hb:XSs X body b)(hs:∀ x,foldedSetIterable iter X.env x=pure x:=by intro _;rfl):XS X (.For tg iter body [] pos) (mFor m g b):=⟨ms_for (hp:=hp) (hc:=hc) (hi:=hi.h) (hg:=hg.h) (hb:=hb.h) (hs:=hs)⟩
end
section
variable {X:Cx} {es:List Expr} {pos:Pos} {a:FA}
theorem xme_tup {x1}(h:XA X es a):XE X (.Tuple es x1 pos) (mTup a):=⟨me_tup (h:=h.h)⟩
theorem xme_lst (h:XA X es a):XE X (.List es pos) (mLst a):=⟨me_lst (h:=h.h)⟩
end
section
variable {X:Cx} {tg:Expr}
theorem qd {e:Expr}{m:FE}(h:XE X e m):XI X tg e (iSeq m):=⟨mi_seq (h:=h.h)⟩
theorem xmi_range1 {a:Expr}{m:FA}{p pos:Pos}(hg:Gl X "range")(hm:X.mg "range"=none)(ha:XA X [a] m)(hs:starEach [a] X.env=[(false,eval a X.env)]:=by rfl):XI X tg (.Call (.Name "range" p) [a] [] pos) (iR1 m):=⟨mi_range1 (hg:=hg) (hm:=hm) (ha:=ha.h) (hs:=hs)⟩
end
section
variable {X:Cx} {tg:Expr}
variable {elts:List Expr} {k:Nat} {tpos:Pos}
theorem xmi_zip {a b:Expr}{m:FA}{p pos:Pos}(hg:Gl X "zip")(hm:X.mg "zip"=none)(ha:XA X [a,b] m)(hs:starEach [a,b] X.env=[(false,eval a X.env),(false,eval b X.env)]:=by rfl)(hs2:starEach [b] X.env=[(false,eval b X.env)]:=by rfl):XI X (.Tuple elts k tpos) (.Call (.Name "zip" p) [a,b] [] pos) (iZp m):=⟨mi_zip (hg:=hg) (hm:=hm) (ha:=ha.h) (hs:=hs) (hs2:=hs2)⟩
end
section
variable {X:Cx} {pins:List (Addr×Obj)} {σ:L2.St} {H:Hp} {s:Shared} {mu:List Addr} {S:Sto} {K:Fg1}
theorem xme_isinst (T:Ty){e:Expr}{m:FE}{nm:Str}{p p2 pos:Pos}(hg:Gl X "isinstance")(hm:X.mg "isinstance"=none)(hg2:Gl X nm)(hm2:X.mg nm=none)(hv2:bootBuiltins nm=some (.type T.nm))(h:XE X e m)(hn:nm≠"__name__":=by decide)(hd:(nm == ("__debug__":Str))=false:=by decide)(hs1:starEach [e,.Name nm p2] X.env=(false,eval e X.env)::starEach [.Name nm p2] X.env:=by rfl)(hs2:starEach [.Name nm p2] X.env=(false,eval (.Name nm p2) X.env)::starEach [] X.env:=by rfl)(hpl:(backTo pos (starEach [.Name nm p2] X.env)).any (·.1)=false:=by rfl):XE X (.Call (.Name "isinstance" p) [e,.Name nm p2] [] pos) (mIsT T m):=⟨me_isinst (T:=T) (hg:=hg) (hm:=hm) (hg2:=hg2) (hm2:=hm2) (hv2:=hv2) (h:=h.h) (hn:=hn) (hd:=hd) (hs1:=hs1) (hs2:=hs2) (hpl:=hpl)⟩
end
section
variable {X:Cx}
theorem xmo_none:XO X none oNone:=⟨mo_none⟩
theorem xmo_some {e:Expr}{m:FE}(h:XE X e m):XO X (some e) (oSome m):=⟨mo_some (h:=h.h)⟩
theorem qe {o e:Expr}{es:List Expr}{m:FE}{a:FA}{f:FN}{name:Str}{apos cpos:Pos}{id:String}(slot:Slot "list" name id)(hty:typeOf (.builtin id)=pure (.type "method_descriptor"))(hm:MtR X id (fun x xs H Q=>rN X.K f (x::xs) H Q))(ho:XE X o m)(ha:XA X (e::es) a)(hbase:attributeBase o name X.env (eval o X.env)=eval o X.env:=by rfl)(hfew:((backTo cpos (starEach (e::es) X.env)).all (fun x=> !x.1)&&(backToKw cpos (keywordEach [] X.env)).all (fun x=>x.1.isSome)&&decide ((e::es).length+([]:List Keyword).length+(if ([]:List Keyword).isEmpty then 0 else 1)<30))=true:=by rfl)(hline:(apos.endLine == cpos.line)=true:=by rfl)(hs:starEach (e::es) X.env=(false,eval e X.env)::starEach es X.env:=by rfl)(hplain:(backTo cpos (starEach es X.env)).any (·.1)=false:=by rfl):XE X (.Call (.Attribute o name apos) (e::es) [] cpos) (mMt f m a):=⟨me_lmeth (slot:=slot) (hty:=hty) (hm:=hm) (ho:=ho.h) (ha:=ha.h) (hbase:=hbase) (hfew:=hfew) (hline:=hline) (hs:=hs) (hplain:=hplain)⟩
theorem xmv (i:Nat){x:Str}{pos:Pos}(hN:X.N[i]? = some x:=by rfl)(hv:Vis X.env.scope x:=by first | exact Or.inl rfl | exact Or.inr (Or.inl rfl) | exact Or.inr (Or.inr rfl))(hd:(x == ("__debug__":Str))=false:=by decide)(hcd:(x == ("__classdict__":Str))=false:=by decide):XE X (.Name x pos) (mV i):=⟨mv (i:=i) (hN:=hN) (hv:=hv) (hd:=hd) (hcd:=hcd)⟩
end
section
theorem qH {X:Cx}{k k' n:Nat}{x:Str}{m:FN}{p pos:Pos}{e:Expr}{es:List Expr}{a:FA}(h:Own X.prog X.w X.K X.mg X.base k x n m)(hr:Room k' X.A)(hk:k<=k')(hg:Gl X x)(ha:XA X (e::es) a)(hdb:(x == ("__debug__":Str))=false:=by decide)(he:starEach (e::es) X.env=(false,eval e X.env)::starEach es X.env:=by rfl)(hpl:(backTo pos (starEach es X.env)).any (·.1)=false:=by rfl):XE X (.Call (.Name x p) (e::es) [] pos) (mN (mCall n m) a):=⟨me_own (h:=h) (hr:=hr) (hk:=hk) (hg:=hg) (ha:=ha.h) (hdb:=hdb) (he:=he) (hpl:=hpl)⟩
theorem xme_glob {X:Cx}{x:Str}{d:D}{pos:Pos}(h:CGl X.K X.mg x d)(hg:Gl X x)(hd:(x == ("__debug__":Str))=false:=by decide):XE X (.Name x pos) (mC d):=⟨me_glob (h:=h) (hg:=hg) (hd:=hd)⟩
end
section
variable {X:Cx}
structure XB1 (X:Cx)(K:Fg1)(tg:Expr)(ifs:List Expr)(elt:Expr)(g:FG)(t:FT)(e:FE):Prop where
 g:XG X tg g
 t:XF X K ifs t
 e:XE X elt e
end
theorem xown_mk {P:Program}{w:World}{K:Fg1}{mg:Str->Option Value}{base:Heap}{x qual:Str}{st:Stmt}{f:Addr}{fd:FuncData}{N ps:List Str}{k n:Nat}{b:FS}(F:Fun K x qual st f fd)(hb:Binds K fd ps [])(hm:mg x=some (.ref f))(S:FnScope N ps (defScope st))(hn:ps.length=n)
  (hbody:∀ (cdv:Value) (A:Around) (outer:List Env) (s:Shared) (H:Hp) (E:XK),Room k (A.deeper (envOfC qual (defScope st) s.heap.objs.size f cdv)) ->
   XSs (cxOf CX0 P w K mg base N qual (defScope st) f cdv A outer s H E).nox (defBody st) b):Own P w K mg base (k+1) x n (fnB N.length b):=
 own_mk F hb hm S hn fun cdv A outer s H E hr=>(hbody cdv A outer s H E hr).h
theorem xfn_mk {P:Program}{w:World}{K:Fg1}{mg:Str->Option Value}{base:Heap}{x qual:Str}{st:Stmt}{f:Addr}{fd:FuncData}{N ps:List Str}{k n:Nat}{b:FS}(F:Fun K x qual st f fd)(S:FnScope N ps (defScope st))(hn:ps.length=n)
  (hbody:∀ (cdv:Value) (A:Around) (outer:List Env) (s:Shared) (H:Hp) (E:XK),Room k (A.deeper (envOfC qual (defScope st) s.heap.objs.size f cdv)) ->
   XSs (cxOf CX0 P w K mg base N qual (defScope st) f cdv A outer s H E).nox (defBody st) b):FnOk P w K mg base CX0 (k+1) f fd ps (spM K n (fnB N.length b)):=by
 subst hn;exact fn_m F S fun cdv A outer s H E hr=>(hbody cdv A outer s H E hr).h
noncomputable abbrev FV:=Ev->Sto->Option (List D×Ev×Sto)
noncomputable def loopF (c:List (Nat×List D))(g:FG)(t:FT)(b:FV):List D->FV
 | []=>fun r S=>if okC S c=true then some ([],r,S) else none
 | d::ds=>fun r S=>if okC S c=true then (g d r S).bind fun p=>(t p.1 p.2).bind fun k=>if k.1=true then (b p.1 k.2).bind fun q=>(loopF c g t b ds q.2.1 q.2.2).map fun z=>(q.1++z.1,z.2) else loopF c g t b ds p.1 k.2 else none
noncomputable def fEmit (m:FE):FV:=fun r S=>(m r S).map fun q=>([q.1],r,q.2)
noncomputable def fComp (k:Nat)(keep:List Nat)(m:FI)(g:FG)(t:FT)(b:FV):FE:=fun r S=>(m r S).bind fun p=>
 (loopF p.1.chk g t b p.1.items (inEv k keep r) p.2).bind fun q=>if q.1.length<=sizeLine then some (.ref q.2.2.length,q.2.2++[.lst q.1]) else none
section
variable {K:Fg1} {H H' H1:Hp} {mu mu' mu1:List Addr} {S:Sto} {a:Addr}
theorem Ext.aside (x:Ext mu mu' H H'):Ext (a::mu) (a::mu') H H' where
 pre:=List.cons_prefix_cons.mpr ⟨rfl,x.pre⟩
 old:=fun b o h n=>x.old b o h fun z=>n (mC1 _ z)
 tup:=x.tup
 frz:=x.frz
 new:=fun b h=>by
  rcases List.mem_cons.mp h with h | h
  ·exact .inl (by rw [h];exact mS1)
  ·rcases x.new b h with q | q
   ·exact .inl (mC1 _ q)
   ·exact .inr q
theorem Ext.inner (x:Ext (a::mu) (a::mu') H H'):Exw mu mu' H H':=⟨(List.cons_prefix_cons.mp x.pre).2,x.tup,x.frz⟩
theorem Ext.held {o:HO}(x:Ext mu mu' H H')(ha:H a=some o)(hn:a∉mu):H' a=some o/\a∉mu':=by
 refine ⟨x.old a o ha hn,fun z=>?_⟩;rcases x.new a z with q | q
 ·exact hn q
 ·rw [ha] at q;cases q
theorem EnvR.exw {r:Ev}{σ:L2.St}(e:Exw mu mu' H H')(h:EnvR K H mu r σ):EnvR K H' mu' r σ:=⟨h.len,fun i d q=>by
 obtain ⟨v,e1,r1⟩:=h.val i d q;exact ⟨v,e1,r1.exw e⟩⟩
theorem ObR.exw {b:Addr}(e:Exw mu mu' H H')(h:∀ o,H b=some o->H' b=some o):∀ {o:Ob},ObR K H mu b o->ObR K H' mu' b o
 | .lst _,⟨vs,q,r⟩=>⟨vs,h _ q,r.exw e⟩
 | .dct _,⟨ws,q,r⟩=>⟨ws,h _ q,Paired.mapP r fun _ _ z=>⟨z.1,z.2.exw e⟩⟩
 | .dcT _,⟨ws,q,r,l⟩=>⟨ws,h _ q,Paired.mapP r fun _ _ ⟨z,d,k,v,rv,r⟩=>⟨z,d,k.exw e,v,rv,r.exw e⟩,l⟩
 | .iset _,q=>⟨h _ q.1,q.2⟩
 | .dcF _,⟨ws,⟨o,u,e1,e2⟩,r,l⟩=>⟨ws,⟨o,u,h _ e1,e2⟩,Paired.mapP r fun _ _ ⟨z,d,k,v,rv,r⟩=>⟨z,d,k.exw e,v,rv,r.exw e⟩,l⟩
 | .tst _,⟨ws,q,r⟩=>⟨ws,h _ q,Paired.mapP r fun _ _ ⟨z,d,k,v,rv,r⟩=>⟨z,d,k.exw e,v,rv,r.exw e⟩⟩
theorem Sim.aside {u:HO}(s:Sim K H mu S)(e:Exw mu mu H (upd H a u))(hn:a∉mu):Sim K (upd H a u) mu S:=
 ⟨s.len,s.nd,fun k o b h1 h2=>(s.ob k o b h1 h2).exw e fun o' q=>by rw [upd_ne (fun z=>hn (by rw [<- z];exact gM1 h2))];exact q⟩
end
inductive tMV (K:Fg1)(a:Addr)(m:FV)(E:Ends)(σ:L2.St)(H:Hp):Prop
 | mk (r:Ev) (mu:List Addr) (S:Sto) (acc:List D) (vs:List V) (xs:List D) (r':Ev) (S':Sto):H a=some (.lst vs)->a∉mu->Reps K H mu acc vs->EnvR K H mu r σ->Sim K H mu S->m r S=some (xs,r',S')->vs.length+xs.length<=sizeLine ->
 (∀ σ' H' mu' vs',Ext (a::mu) (a::mu') H H'->H' a=some (.lst vs')->a∉mu'->Reps K H' mu' (acc++xs) vs'->EnvR K H' mu' r' σ'->Sim K H' mu' S'->E.nx σ' H')->tMV K a m E σ H
theorem emitF_ok {K:Fg1}{a:Addr}{m:FE}{E:Ends}{σ:L2.St}{H:Hp}(h:tMV K a (fEmit m) E σ H):tEmit a (tM K m) E σ H:=by
 obtain ⟨r,mu,S,acc,vs,xs,r',S',ha,hna,hr,he,hs,hm,hl,hc⟩:=h;obtain ⟨⟨d,S1⟩,e1,hm⟩:=oM1.mp hm;cases hm;refine ⟨r,mu,S,d,S1,he,hs,e1,fun v H1 mu1 x1 r1 s1=>?_⟩;obtain ⟨ha1,hn1⟩:=x1.held ha hna;have put:Ext (a::mu1) (a::mu1) H1 (upd H1 a (.lst (vs++[v]))):=Ext.put ha1 trivial mS1;refine ⟨vs,ha1,hl,?_⟩;exact hc σ _ mu1 (vs++[v]) (x1.aside.trans put) upd_same hn1 (((hr.ext x1).append (.cons r1 .nil)).exw put.inner) ((he.ext x1).exw put.inner) (s1.aside put.inner hn1)
inductive LFI (K:Fg1)(a:Addr)(mu2:List Addr)(H:Hp)(c:List (Nat×List D))(g:FG)(t:FT)(b:FV)(r':Ev)(S':Sto)(tot:List D)(L:List D)(σ':L2.St)(H':Hp):Prop
 | mk (r3:Ev) (mu3:List Addr) (S3:Sto) (acc3:List D) (vs3:List V) (xs3:List D):Ext (a::mu2) (a::mu3) H H'->H' a=some (.lst vs3)->a∉mu3->Reps K H' mu3 acc3 vs3->EnvR K H' mu3 r3 σ'->Sim K H' mu3 S3->loopF c g t b L r3 S3=some (xs3,r',S')->acc3++xs3=tot->vs3.length+xs3.length<=sizeLine->LFI K a mu2 H c g t b r' S' tot L σ' H'
theorem loopF_ok {K:Fg1}{a:Addr}{j:It}{J:Itm}{g:FG}{t:FT}{b:FV}{tb:TS}{D:Ends}(hb:∀ E σ H,tMV K a b E σ H->tb E σ H)
  {mu1 mu2:List Addr} {H1 H:Hp} {r r':Ev} {S S':Sto} {σ:L2.St} {acc xs:List Mi.D} {vs:List V} (hJ:ItR K j J mu1 H1) (x:Exw mu1 mu2 H1 H) (ha:H a=some (.lst vs)) (hna:a∉mu2) (hr:Reps K H mu2 acc vs) (he:EnvR K H mu2 r σ) (hs:Sim K H mu2 S)
  (hm:loopF J.chk g t b J.items r S=some (xs,r',S')) (hl:vs.length+xs.length<=sizeLine)
  (hc:∀ σ' H' mu' vs',Ext (a::mu2) (a::mu') H H'->H' a=some (.lst vs')->a∉mu'->Reps K H' mu' (acc++xs) vs'->EnvR K H' mu' r' σ'->Sim K H' mu' S'->D.nx σ' H'):tLoop j (tMG K g) (tMT K t) tb D σ H:=by
 refine ⟨fun i k σ' H'=>k=(J.items.drop i).length/\LFI K a mu2 H J.chk g t b r' S' (acc++xs) (J.items.drop i) σ' H',
  ⟨_,rfl,r,mu2,S,acc,vs,xs,.refl _ _,ha,hna,hr,he,hs,hm,rfl,hl⟩,?_⟩
 rintro i k σ3 H3 ⟨rfl,r3,mu3,S3,acc3,vs3,xs3,x3,ha3,hn3,hr3,he3,s3,hm3,hx3,hl3⟩;cases hd0:J.items.drop i with
 | nil=>
  left;rw [hd0,loopF] at hm3;dsimp only at hm3;split at hm3
  ·rename_i ok;cases hm3;refine ⟨(hJ i H3 mu3 _ (x.trans x3.inner) s3 ok).2 (List.drop_eq_nil_iff.mp hd0),hc σ3 H3 mu3 vs3 x3 ha3 hn3 ?_ he3 s3⟩;rw [<- hx3,List.append_nil];exact hr3
  ·cases hm3
 | cons d ds=>
  right;rw [hd0] at hm3;obtain ⟨hi,hd⟩:=drop_of_get hd0;rw [loopF] at hm3;dsimp only at hm3;split at hm3
  ·rename_i ok;obtain ⟨⟨r4,S4⟩,e4,hm3⟩:=oB1.mp hm3;obtain ⟨⟨k5,S5⟩,e5,hm3⟩:=oB1.mp hm3;obtain ⟨go,yl⟩:=(hJ i H3 mu3 _ (x.trans x3.inner) s3 ok).1 d hi;refine ⟨go,LFI K a mu2 H J.chk g t b r' S' (acc++xs) ds,?_,fun y H4 yy=>?_⟩
   ·intro σ' H' h6;exact ⟨ds.length,Nat.lt_succ_self _,(congrArg List.length hd).symm,hd.symm ▸ h6⟩
   ·obtain ⟨x4,s4,q4⟩:=yl y H4 yy;obtain ⟨ha4,hn4⟩:=x4.held ha3 hn3;refine ⟨r3,mu3,S3,d,r4,S4,he3.ext x4,s4,q4,e4,fun σ5 H5 mu5 x5 he5 s5=>?_⟩;obtain ⟨ha5,hn5⟩:=x5.held ha4 hn4;refine ⟨r4,mu5,S4,k5,S5,he5,s5,e5,fun H6 mu6 x6 s6=>?_⟩;obtain ⟨ha6,hn6⟩:=x6.held ha5 hn5;have xx:=((x3.trans x4.aside).trans x5.aside).trans x6.aside;have hr6:Reps K H6 mu6 acc3 vs3:=((hr3.ext x4).ext x5).ext x6;cases k5 with
    | true=>
     obtain ⟨⟨q1,r7,S7⟩,e7,hm3⟩:=oB1.mp hm3;obtain ⟨⟨z1,r8,S8⟩,e8,hm3⟩:=oM1.mp hm3;cases hm3;refine hb _ _ _ ⟨r4,mu6,S5,acc3,vs3,q1,r7,S7,ha6,hn6,hr6,he5.ext x6,s6,e7,?_,fun σ8 H8 mu8 vs8 x8 ha8 hn8 hr8 he8 s8=>⟨r7,mu8,S7,acc3++q1,vs8,z1,xx.trans x8,ha8,hn8,hr8,he8,s8,e8,?_,?_⟩⟩
     ·rw [lA1] at hl3;dsimp only at hl3;lia
     ·rw [<- hx3,List.append_assoc]
     ·have:=hr8.length;have h3:=hr6.length;rw [lA1] at this hl3;dsimp only at hl3;lia
    | false=>exact ⟨r4,mu6,S5,acc3,vs3,xs3,xx,ha6,hn6,hr6,he5.ext x6,s6,hm3,hx3,hl3⟩
  ·cases hm3
theorem compF_ok {K:Fg1}{k:Nat}{keep:List Nat}{m:FI}{g:FG}{t:FT}{b:FV}{tb:Addr->TS}(hb:∀ a E σ H,tMV K a b E σ H->tb a E σ H){σ:L2.St}{H:Hp}{Q:VK}(h:tM K (fComp k keep m g t b) σ H Q):
  tComp k keep (tMI K m) (tMG K g) (tMT K t) tb σ H Q:=by
 obtain ⟨r,mu,S,d,S',he,hs,hm,hc⟩:=h;obtain ⟨⟨J,S1⟩,e1,hm⟩:=oB1.mp hm;obtain ⟨⟨xs,r2,S2⟩,e2,hm⟩:=oB1.mp hm;dsimp only at hm;split at hm
 ·rename_i hl;cases hm;refine ⟨r,mu,S,J,S1,he,hs,e1,fun j H1 mu1 x1 J1 s1 p hp=>?_⟩;have fr:Ext mu1 mu1 H1 (upd H1 p (.lst [])):=Ext.fresh hp;refine loopF_ok (hb p) J1 fr.w upd_same (s1.notin hp) .nil ((inEnv k keep (he.ext x1)).ext fr) (s1.fresh hp) e2 (by simpa using hl) fun σ' H' mu' vs' x' ha' hn' hr' he' s'=>?_;have y:Ext mu1 (mu'++[p]) H1 H':=by
   refine ⟨((List.cons_prefix_cons.mp x'.pre).2).trans (List.prefix_append _ _),fun b o e n=>?_,fun b ys e=>x'.tup b ys (fr.tup b ys e),fun b o u e=>x'.frz b o u (fr.frz b o u e),fun b hb'=>?_⟩
   ·have nb:b≠p:=ne_of_none e hp;exact x'.old b o (by rw [upd_ne nb];exact e) fun z=>by
     rcases List.mem_cons.mp z with z | z
     ·exact nb z
     ·exact n z
   ·rcases List.mem_append.mp hb' with z | z
    ·rcases x'.new b (mC1 _ z) with q | q
     ·rcases List.mem_cons.mp q with q | q
      ·exact .inr (by rw [q];exact hp)
      ·exact .inl q
     ·by_cases hbp:b=p
      ·exact .inr (by rw [hbp];exact hp)
      ·rw [upd_ne hbp] at q;exact .inr q
    ·have:b=p:=by simpa using z
     exact .inr (by rw [this];exact hp)
  refine hc _ H' (mu'++[p]) (x1.trans y) (.ref (new_at s'.len p)) ⟨by rw [lA1,lA1,s'.len];rfl,?_,fun n o b h1 h2=>?_⟩
  ·rw [List.nodup_append];refine ⟨s'.nd,by simp,fun b hb c hc e=>?_⟩;have:c=p:=by simpa using hc
   subst this;subst e;exact hn' hb
  ·by_cases hk:n<S2.length
   ·rw [gL1 hk] at h1;rw [gL1 (by rw [s'.len];exact hk)] at h2;exact (s'.ob n o b h1 h2).mor [p]
   ·have hk':n=S2.length:=by
     have:=(gE1.mp h1).1;rw [lA1] at this;simp at this;lia
    subst hk';rw [gR1 (nR1 _)] at h1;rw [<- s'.len,gR1 (nR1 _)] at h2;simp at h1 h2;subst h1;subst h2;exact ⟨vs',ha',(by simpa using hr':Reps K H' mu' xs vs').mor [p]⟩
 ·cases hm
section
variable {X:Cx}
theorem qZ {elt tg iter:Expr}{ifs:List Expr}{scope:Scope}{pos:Pos}{T:List Str}{keep:List Nat}{cl:List (Str×Addr)}{m:FI}{g:FG}{t:FT}{e:FE}(hc:X.calm=true)
  (C:CSc X scope T keep) (hcl:cloF X.env.cells scope.names []=some cl) (hi:XI X tg iter m) (hb:∀ s H fp,XB1 (cxC X scope cl T keep s H fp) X.K tg ifs elt g t e)
  (hs:∀ x,foldedSetIterable iter X.env x=pure x:=by intro _;rfl):XE X (.ListComp elt [⟨tg,iter,ifs,0⟩] scope pos) (fComp T.length keep m g t (fEmit e)):=
 ⟨pe_imp (pe_comp (emit:=emitE elt) (tb:=fun p=>tEmit p (tM X.K e)) hc (fun it acc env=>turn_A elt tg iter ifs scope pos it acc env) C hcl hi.h (fun s H fp p=>⟨(hb s H fp).g.h,(hb s H fp).t.h,pu_emit (hb s H fp).e.h p⟩) hs)
  fun σ H Q h=>compF_ok (fun a E σ H q=>emitF_ok q) h⟩
end
noncomputable def keyD:D->Option Key
 | .int i=>some (.inl i)
 | .str x=>some (.inr x)
 | _=>none
noncomputable def lookD {κ:Type}[DecidableEq κ](kvs:List (κ×D))(k:κ):Option D:=(kvs.find? fun p=>decide (p.1=k)).map (·.2)
noncomputable def putD {κ:Type}[DecidableEq κ](kvs:List (κ×D))(k:κ)(d:D):List (κ×D):=
 if (kvs.any fun p=>decide (p.1=k))=true then kvs.map (fun p=>if p.1=k then (p.1,d) else p) else kvs++[(k,d)]
section
variable {K:Fg1} {H:Hp} {mu:List Addr}
theorem key_rep {d:D}{v:V}{k:Key}(r:Rep K H mu d v)(h:keyD d=some k):v=kV k:=by
 cases r with
 | int i=>cases h;rfl
 | str x=>cases h;rfl
 | _=>cases h
end
section
variable {κ:Type} [DecidableEq κ] {K:Fg1} {H:Hp} {mu:List Addr}
theorem KR.length:∀ {ks:List (κ×D)} {ws:List (κ×V)},KR K H mu ks ws->ks.length=ws.length:=fun h=>Paired.length h
theorem KR.look {k:κ}:∀ {ks:List (κ×D)} {ws:List (κ×V)},KR K H mu ks ws ->
  (∀ d,lookD ks k=some d -> ∃ v,valV ws k=some v/\Rep K H mu d v)/\(lookD ks k=none->valV ws k=none):=by
 intro ks ws h
 induction h with
 | nil=>exact ⟨fun d h=>by simp [lookD] at h,fun _=>rfl⟩
 | @cons p q ks ws r t ih=>
  obtain ⟨k1,d1⟩:=p;obtain ⟨k2,v2⟩:=q;obtain ⟨e,r⟩:=r;dsimp only at e r;subst e;obtain ⟨h1,h2⟩:=ih;by_cases hk:k1=k
  ·subst hk;refine ⟨fun d h=>?_,fun h=>?_⟩
   ·have:d1=d:=by simpa [lookD] using h
    subst this;exact ⟨v2,by simp [valV],r⟩
   ·simp [lookD] at h
  ·have e1:lookD ((k1,d1)::ks) k=lookD ks k:=by simp [lookD,List.find?_cons,hk]
   have e2:valV ((k1,v2)::ws) k=valV ws k:=by simp [valV,List.find?_cons,hk]
   rw [e1,e2];exact ⟨h1,h2⟩
theorem KR.any {k:κ}:∀ {ks:List (κ×D)} {ws:List (κ×V)},KR K H mu ks ws->(ks.any fun p=>decide (p.1=k))=ws.any fun p=>decide (p.1=k):=by
 intro ks ws h
 induction h with
 | nil=>rfl
 | cons r t ih=>rw [List.any_cons,List.any_cons,ih,r.1]
theorem KR.repl {k:κ}{d:D}{v:V}(q:Rep K H mu d v):∀ {ks:List (κ×D)} {ws:List (κ×V)},KR K H mu ks ws ->
  KR K H mu (ks.map fun p=>if p.1=k then (p.1,d) else p) (ws.map fun p=>if p.1=k then (p.1,v) else p):=by
 intro ks ws h
 induction h with
 | nil=>exact .nil
 | @cons a b ks ws r t ih=>
  refine .cons ?_ ih;obtain ⟨e,r⟩:=r;dsimp only;by_cases h:a.1=k
  ·rw [if_pos h,if_pos (e ▸ h)];exact ⟨e,q⟩
  ·rw [if_neg h,if_neg (e ▸ h)];exact ⟨e,r⟩
theorem KR.snoc {k:κ}{d:D}{v:V}(q:Rep K H mu d v):∀ {ks:List (κ×D)} {ws:List (κ×V)},KR K H mu ks ws->KR K H mu (ks++[(k,d)]) (ws++[(k,v)]):=by
 intro ks ws h
 induction h with
 | nil=>exact .cons ⟨rfl,q⟩ .nil
 | cons r t ih=>exact .cons r ih
theorem KR.put {k:κ}{d:D}{v:V}(q:Rep K H mu d v){ks:List (κ×D)}{ws:List (κ×V)}(h:KR K H mu ks ws):KR K H mu (putD ks k d) (putK ws k v):=by
 unfold putD putK;rw [h.any];split
 ·exact h.repl q
 ·exact h.snoc q
end
noncomputable def gInX:G2:=fun d e S=>match e with
 | .ref n=>match S[n]? with
  | some (.dct kvs)=>(keyD d).map fun k=>(.bl (lookD kvs k).isSome,S)
  | _=>gIn d e S
 | _=>gIn d e S
noncomputable def gNotInX:G2:=fun d e S=>match e with
 | .ref n=>match S[n]? with
  | some (.dct kvs)=>(keyD d).map fun k=>(.bl (!(lookD kvs k).isSome),S)
  | _=>gNotIn d e S
 | _=>gNotIn d e S
noncomputable def gIxX:G2:=fun d e S=>match d with
 | .ref n=>match S[n]? with
  | some (.dct kvs)=>(keyD e).bind fun k=>(lookD kvs k).map fun x=>(x,S)
  | _=>gIx d e S
 | _=>gIx d e S
noncomputable def gSetX:G3:=fun o i v S=>match o with
 | .ref n=>match S[n]? with
  | some (.dct kvs)=>(keyD i).bind fun k=>if kvs.length<sizeLine then some (.non,S.set n (.dct (putD kvs k v))) else none
  | _=>gSetIx o i v S
 | _=>gSetIx o i v S
section
variable {X:Cx}
theorem look_get {K:Fg1}{H:Hp}{mu:List Addr}{S:Sto}(hs:Sim K H mu S){n:Nat}{a:Addr}{kvs:List (Key×D)}{k:Key}{y:V}(hn:mu[n]? = some a)(he:S[n]? = some (.dct kvs))(hy:y=kV k):
  ∃ o:Option V,DGet H a y o/\(∀ d,lookD kvs k=some d -> ∃ v,o=some v/\Rep K H mu d v)/\(lookD kvs k=none->o=none)/\o.isSome=(lookD kvs k).isSome:=by
 obtain ⟨ws,hw,hk⟩:=hs.dct he hn;subst hy;obtain ⟨h1,h2⟩:=hk.look (k:=k);refine ⟨valV ws k,DGet.k hw,h1,h2,?_⟩;cases e:lookD kvs k with
 | none=>rw [h2 e];rfl
 | some d=>obtain ⟨v,e2,_⟩:=h1 d e;rw [e2];rfl
theorem o_inX (hu:X.A.units+64<cLine):OpR X (compareOp .In) (r2 X.K (b2 gInX)):=by
 intro pins s σ H x y u w Q I rx ry h;obtain ⟨mu,S,d,e,r,S',r1,r2',hs,hm,hc⟩:=rn2 h;have back:gIn d e S=some (r,S')->wpAny (model X.prog X.w) X.A (compareOp .In u w) (EP X pins σ Q) X.xe s:=fun hm=>o_in hu pins s σ H x y u w Q I rx ry ⟨mu,S,[d,e],r,S',.cons r1 (.cons r2' .nil),hs,hm,hc⟩;unfold gInX at hm;split at hm
 ·rename_i n;split at hm
  ·rename_i kvs en;obtain ⟨k,ek,hm⟩:=oM1.mp hm;cases hm;cases r2' with
   | ref hn=>
    cases ry;obtain ⟨o,g,_,_,hi⟩:=look_get hs hn en (key_rep r1 ek);exact d_in (by lia) I g rx fun s' I'=>⟨.bl o.isSome,H,I',rfl,by rw [hi];exact hc.now (.bl _) hs⟩
  ·exact back hm
 ·exact back hm
theorem o_notInX (hu:X.A.units+64<cLine):OpR X (compareOp .NotIn) (r2 X.K (b2 gNotInX)):=by
 intro pins s σ H x y u w Q I rx ry h;obtain ⟨mu,S,d,e,r,S',r1,r2',hs,hm,hc⟩:=rn2 h;have back:gNotIn d e S=some (r,S')->wpAny (model X.prog X.w) X.A (compareOp .NotIn u w) (EP X pins σ Q) X.xe s:=fun hm=>o_notIn hu pins s σ H x y u w Q I rx ry ⟨mu,S,[d,e],r,S',.cons r1 (.cons r2' .nil),hs,hm,hc⟩;unfold gNotInX at hm;split at hm
 ·rename_i n;split at hm
  ·rename_i kvs en;obtain ⟨k,ek,hm⟩:=oM1.mp hm;cases hm;cases r2' with
   | ref hn=>
    cases ry;obtain ⟨o,g,_,_,hi⟩:=look_get hs hn en (key_rep r1 ek);exact d_notIn (by lia) I g rx fun s' I'=>⟨.bl (!o.isSome),H,I',rfl,by rw [hi];exact hc.now (.bl _) hs⟩
  ·exact back hm
 ·exact back hm
theorem x_ixX (hu:X.A.units+64<cLine):IxR X (r2 X.K (b2 gIxX)):=by
 intro value slice pins s σ H x y v u Q I rx ry h hs2;obtain ⟨mu,S,d,e,r,S',r1,r2',hs,hm,hc⟩:=rn2 h;have back:gIx d e S=some (r,S')->wpAny (model X.prog X.w) X.A (subscriptTail value slice v u) (EP X pins σ Q) X.xe s:=fun hm=>x_ix value slice pins s σ H x y v u Q I rx ry ⟨mu,S,[d,e],r,S',.cons r1 (.cons r2' .nil),hs,hm,hc⟩ hs2;unfold gIxX at hm;split at hm
 ·rename_i n;split at hm
  ·rename_i kvs en;obtain ⟨k,ek,hm⟩:=oB1.mp hm;obtain ⟨z,ez,hm⟩:=oM1.mp hm;cases hm;cases r1 with
   | @ref _ a hn=>
    cases rx;obtain ⟨o,g,h1,_,_⟩:=look_get hs hn en (key_rep r2' ek);obtain ⟨v',ev,rv⟩:=h1 _ ez;subst ev;have hT:=dict_typeIs I g;unfold subscriptTail;refine wB1 ?_;rw [getitemInPython_of_ne hT.not_modules];refine wB1 (wpAny_specialOf hT PySem.F.slot_dict_getitem.lookup ?_);have fin:wpAny (model X.prog X.w) X.A (subscripted slice false (.ref a) u) (fun r s₃=>wpAny (model X.prog X.w) X.A (letTemporaryGo value (.ref a) r >>= fun _=>pure r) (EP X pins σ Q) X.xe s₃) X.xe s:=by
     rw [hs2];exact wpAny_operating (wpAny_mono (d_getItem (by lia) I g ry fun w' s3 I3 rw'=>(⟨v',H,I3,rw',hc.now rv hs⟩:EP X pins σ Q w' s3)) (fun r s₃ h₃=>wB1 (wpAny_letTemporaryGo (wP1 h₃))) fun _ _ x=>x)
    first
     | exact wP1 (wB1 fin)
     | exact wB1 fin
     | exact fin
  ·exact back hm
 ·exact back hm
theorem s_setX (hu:X.A.units+64<cLine):PSet X (rU X.K (b3 gSetX)):=by
 intro pins s σ H o i v ov iv u Q I ro ri rv h;obtain ⟨mu,S,ds,d,S',hr,hs,hm,hc⟩:=id h;cases hr with
 | cons q1 t1=>cases t1 with
  | cons q2 t2=>cases t2 with
   | cons q3 t3=>
    cases t3;rename_i d1 d2 d3;dsimp only [b3] at hm;have back:gSetIx d1 d2 d3 S=some (d,S')->wpAny (model X.prog X.w) X.A (setItem ov iv u) (fun _ s'=>∃ H',Inv X pins σ H' s'/\Q H') X.xe s:=fun hm=>s_set pins s σ H o i v ov iv u Q I ro ri rv ⟨mu,S,[d1,d2,d3],d,S',.cons q1 (.cons q2 (.cons q3 .nil)),hs,hm,hc⟩;unfold gSetX at hm;split at hm
    ·rename_i n;split at hm
     ·rename_i kvs en;obtain ⟨k,ek,hm⟩:=oB1.mp hm;split at hm
      ·rename_i hl;cases hm;cases q1 with
       | ref hn=>
        cases ro;obtain ⟨ws,hw,hk⟩:=hs.dct en hn;have ey:=key_rep q2 ek;subst ey;refine d_setItem (by lia) I (DPut.k hw (by rw [<- hk.length];exact hl)) ri rv fun s' I'=>⟨_,I',?_⟩;have put:Ext mu mu H (upd H _ (.dK (putK ws k v))):=Ext.put hw trivial (gM1 hn);exact hc _ mu put (hs.put hn hw trivial ⟨_,upd_same,(hk.put q3).ext put⟩)
      ·cases hm
     ·exact back hm
    ·exact back hm
noncomputable def gIsX:G2:=fun d e S=>match e with
 | .non=>some (.bl (isNon d),S)
 | .bl b=>match d with
  | .bl c=>some (.bl (c == b),S)
  | _=>none
 | _=>none
noncomputable def gIsNotX:G2:=fun d e S=>match e with
 | .non=>some (.bl (!isNon d),S)
 | .bl b=>match d with
  | .bl c=>some (.bl (!(c == b)),S)
  | _=>none
 | _=>none
theorem o_isX:OpR X (compareOp .Is) (r2 X.K (b2 gIsX)):=by
 intro pins s σ H x y u w Q I rx ry h;obtain ⟨mu,S,d,e,r,S',r1,r2',hs,hm,hc⟩:=rn2 h;cases e with
 | non=>exact o_isN pins s σ H x y u w Q I rx ry ⟨mu,S,[d,.non],r,S',.cons r1 (.cons r2' .nil),hs,hm,hc⟩
 | bl b=>
  cases d with
  | bl c=>
   cases hm;cases r1;cases r2';cases rx;cases ry;exact is_bool ⟨.bl (c == b),H,I,rfl,hc.now (.bl _) hs⟩
  | _=>cases hm
 | _=>cases hm
theorem o_isNotX:OpR X (compareOp .IsNot) (r2 X.K (b2 gIsNotX)):=by
 intro pins s σ H x y u w Q I rx ry h;obtain ⟨mu,S,d,e,r,S',r1,r2',hs,hm,hc⟩:=rn2 h;cases e with
 | non=>exact o_notN pins s σ H x y u w Q I rx ry ⟨mu,S,[d,.non],r,S',.cons r1 (.cons r2' .nil),hs,hm,hc⟩
 | bl b=>
  cases d with
  | bl c=>
   cases hm;cases r1;cases r2';cases rx;cases ry;exact isnot_bool ⟨.bl (!(c == b)),H,I,rfl,hc.now (.bl _) hs⟩
  | _=>cases hm
 | _=>cases hm
noncomputable def mDnew:FE:=fun _ S=>some (.ref S.length,S++[.dct []])
theorem xme_dnew {pos:Pos}:XE X (.Dict [] [] pos) mDnew:=⟨pe_imp pe_dnewK <| by
 rintro σ H Q ⟨r,mu,S,d,S',he,hs,hm,hc⟩ p hp;cases hm;exact hc _ _ (mu++[p]) (Ext.new_ hp) (.ref (new_at hs.len p)) (hs.new hp ⟨[],upd_same,.nil⟩)⟩
structure XP (X:Cx)(pos:Pos)(ks:List (Option Expr))(vs:List Expr)(l:List (FE×FE)):Prop where
 h:PPs X pos ks vs (l.map fun p=>(tM X.K p.1,tM X.K p.2))
end
section
variable {K:Fg1} {H H':Hp} {mu mu':List Addr} {S:Sto}
end
theorem own_none {P:Program}{w:World}{K:Fg1}{mg:Str->Option Value}{base:Heap}{x qual:Str}{st:Stmt}{f:Addr}{fd:FuncData}{ps:List Str}{k n:Nat}(F:Fun K x qual st f fd)(hb:Binds K fd ps [])(hm:mg x=some (.ref f)):Own P w K mg base k x n (fun _ _=>none):=by
 have no:∀ vs H Q E,¬ spM K n (fun _ _=>none) vs H Q E:=fun vs H Q E h=>by
  obtain ⟨_,mu,S,ds,d,S',_,_,e,_⟩:=h;cases e
 exact ⟨f,fd,ps,⟨fun vs H Q E h=>absurd h (no vs H Q E),fun A outer s H args us vs Q E _ _ _ _ h=>absurd h (no vs H Q E)⟩,hb,F.kp,hm⟩
end Mi
namespace HT
open PySem PySem.Spec PyProof.Rows
variable {prog:Program} {w:World} {A:Around} {E:Value->Shared->Prop} {s:Shared}
theorem getItem_tuple_whole {t sl:Addr}{items:Array Value}{vl vu:Value}{lo hi:Option Int}{Q:Value->Shared->Prop}(ht:IsTup s.heap t items)(hs:s.heap.IsSliceOf sl vl vu .none)(pl:IsPart vl lo)(pu:IsPart vu hi)
  (hw:sIx items.size 0 lo=0/\sIx items.size items.size hi=items.size) (h:Q (.ref t) s):wpAny (model prog w) A (getItem (.ref t) (.ref sl)) Q E s:=by
 obtain ⟨os,hos,hcs,hds⟩:=id hs;have hTs:s.TypeIs (.ref sl) "slice":=⟨os,hos,hcs⟩;unfold getItem
 try with_reducible refine wpAny_holding ?_
 first | refine wB1 (wP1 ?_) | skip
 refine wB1 (wpAny_sequenceKey ht.typeIs (by decide) ?_);refine wB1 (wpAny_callSpecial?_slot (name:=Str.ofString "__getitem__") ht.typeIs PyProof.Rows.slot_tuple_getitem
  (wE1 PyProof.Rows.slot_tuple_getitem ht.typeIs entry_tuple_getitem ?_ (args_tuple_getitem _ _)))
 show wpAny _ _ (Builtin.Tuple.tupleItemsOf (.ref t) >>= _) _ _ s;refine wB1 (tupleItemsOf_ ht ?_);refine wB1 (wpAny_typeOf hTs ?_);rw [if_pos (by decide)];refine wB1 (sliceApplied_gen hs pl pu ?_);have hyes:((((sIx items.size 0 lo:Nat):Int) == 0&&(1:Int) == 1&&(sIx items.size items.size hi-sIx items.size 0 lo) == items.size)=true):=by
  rw [hw.1,hw.2];simp
 show wpAny _ _ (if (((sIx items.size 0 lo:Nat):Int) == 0&&(1:Int) == 1&&(sIx items.size items.size hi-sIx items.size 0 lo) == items.size)=true then _ else _) _ _ s;rw [if_pos hyes];refine wB1 ?_;unfold Builtin.Tuple.tupleIsExact;refine wB1 (wpAny_typeOf ht.typeIs (wP1 ?_));rw [if_pos (by decide)]
 first
  | exact wB1 (wpAny_rule (wP1 ⟨_,rfl,wP1 h⟩))
  | exact wB1 (wpAny_rule (wB1 (wP1 ⟨_,rfl,wP1 h⟩)))
end HT
namespace Mi
open PySem PySem.Spec PyProof.Rows L2
noncomputable def rSlW (K:Fg1):V->Option Int->Option Int->Hp->VK->Prop:=fun x lo hi H Q=>∃ a xs,x = .ref a/\SqT K H a xs/\(HT.sIx xs.length 0 lo=0/\HT.sIx xs.length xs.length hi=xs.length)/\Q (.ref a) H
section
variable {X:Cx}
theorem sl_tupW:SlR X (rSlW X.K):=by
 intro pins s σ H x v vl vu lo hi sl Q I rx hs pl pu h;obtain ⟨a,xs,rfl,hx,hw,q⟩:=h;cases rx;obtain ⟨its,r,ht,hz⟩:=I.tuple hx;have hlen:its.toArray.size=xs.length:=by rw [sT1];exact r.length.symm
 refine ⟨"tuple",_,PyProof.Rows.slot_tuple_getitem.lookup,ht.typeIs,?_⟩;exact HT.getItem_tuple_whole ht hs pl pu (by rw [hlen];exact hw) ⟨.ref a,H,I,rfl,q⟩
noncomputable def sliceX (S:Sto)(d:D)(lo hi:Option Int):Option (D×Sto):=(seqOf S d).map fun p=>if p.1=true then (.ref S.length,S++[.lst (Mi.cutD p.2 lo hi)]) else (.tup (Mi.cutD p.2 lo hi),S)
noncomputable def mSlX (m:FE)(lo hi:FO):FE:=fun r S=>(m r S).bind fun p=>(lo r p.2).bind fun a=>(hi r a.2).bind fun b=>sliceX b.2 p.1 a.1 b.1
theorem cut_whole {xs:List D}{lo hi:Option Int}(h:HT.sIx xs.length 0 lo=0/\HT.sIx xs.length xs.length hi=xs.length):Mi.cutD xs lo hi=xs:=by
 unfold Mi.cutD;rw [h.1,h.2,List.drop_zero,Nat.sub_zero,List.take_length]
theorem xme_sliceX {e:Expr}{lo hi:Option Expr}{m:FE}{a b:FO}{pos p2:Pos}(h:XE X e m)(hl:XO X lo a)(hh:XO X hi b):XE X (.Subscript e (.Slice lo hi none p2) pos) (mSlX m a b):=
 ⟨pe_imp (pe_slice (SlR.or sl_tupW (SlR.or sl_tup sl_list)) h.h hl.h hh.h) <| by
  rintro σ H Q ⟨r,mu,S,d,S',he,hs,hm,hc⟩;obtain ⟨⟨d1,S1⟩,e1,hm⟩:=oB1.mp hm;obtain ⟨⟨o1,S2⟩,e2,hm⟩:=oB1.mp hm;obtain ⟨⟨o2,S3⟩,e3,hm⟩:=oB1.mp hm;refine ⟨r,mu,S,d1,S1,he,hs,e1,fun v H1 mu1 x1 r1 s1=>?_⟩;refine ⟨r,mu1,S1,o1,S2,he.ext x1,s1,e2,fun H2 mu2 x2 s2=>?_⟩;refine ⟨r,mu2,S2,o2,S3,(he.ext x1).ext x2,s2,e3,fun H3 mu3 x3 s3=>?_⟩;obtain ⟨⟨k,xs⟩,e4,hm⟩:=oM1.mp hm;have xx:=(x1.trans x2).trans x3;obtain ⟨c,vs,rfl,q,t⟩:=seqOf_at ((r1.ext x2).ext x3) s3 e4;cases k with
  | true=>
   cases hm;right;right;exact ⟨c,vs,rfl,q,fun p hp=>hc _ _ (mu3++[p]) (xx.trans (Ext.new_ hp)) (.ref (new_at s3.len p)) (s3.newL (cut_rep t o1 o2) hp)⟩
  | false=>
   simp only [bF1,if_false] at hm;cases hm;by_cases hw:HT.sIx xs.length 0 o1=0/\HT.sIx xs.length xs.length o2=xs.length
   ·left;rw [cut_whole hw] at hc;exact ⟨c,vs,rfl,q,by rw [<- t.length];exact hw,hc _ _ mu3 xx (.tup q t) s3⟩
   ·right;left;exact ⟨c,vs,rfl,q,by rw [<- t.length];exact hw,fun p hp=>hc _ _ mu3 (xx.trans (Ext.fresh hp)) (.tup (SqT.of upd_same) ((cut_rep t o1 o2).ext (Ext.fresh hp))) (s3.fresh hp)⟩⟩
end
mutual
inductive IsTK (h:Heap):TK->Value->Prop
 | non:IsTK h .non .none
 | int (i t):IsTK h (.int i) (.int i t)
 | tup {a o items n xs}:h.get? a=some o->o.cls = .type "tuple"->o.data = .seq items n->IsTKs h xs items.toList->IsTK h (.tup xs) (.ref a)
inductive IsTKs (h:Heap):List TK->List Value->Prop
 | nil:IsTKs h [] []
 | cons {k v ks vs}:IsTK h k v->IsTKs h ks vs->IsTKs h (k::ks) (v::vs)
end
section
variable {prog:Program} {w:World} {A:Around} {E:Value->Shared->Prop} {s:Shared}
theorem pyHash_none {Q:Int->Shared->Prop}(h:Q 0xFCA86420 {s with toks:=s.toks+1}):wpAny (model prog w) A (pyHash .none) Q E s:=by
 have hT:s.TypeIs .none "NoneType":=rfl;unfold pyHash
 first | unfold pyHashByItsType | skip
 have hv:[Value.none].any Value.onHeap=false:=rfl;refine wB1 ?_;rw [cRoomFor,if_neg (by rw [hv];exact Bool.false_ne_true)];refine wP1 ?_;refine wB1 (wpAny_specialOf hT F.slot_NoneType_hash.lookup ?_);show wpAny _ _ (if (some (Value.builtin "NoneType.__hash__") == some Value.none)=true then _ else _) Q E s;rw [if_neg (by rw [beq_builtin_none];exact Bool.false_ne_true)];refine wB1 (wpAny_specialOf hT F.slot_NoneType_hash.lookup ?_);show wpAny _ _ (callSpecialIfBoundUnlessNone? .none "__hash__" _ >>= _) Q E s;refine wB1 (wpAny_callSpecialIfBoundUnlessNone?_slot hT F.slot_NoneType_hash (wE1 F.slot_NoneType_hash hT F.entry_NoneType_hash (show wpAny _ _ (retInt 0xFCA86420) _ _ s from wpAny_ret_mkInt ?_) (F.args_NoneType_hash_1 _)));exact wP1 h
noncomputable def HashOk (prog:Program)(w:World)(k:TK):Prop:=∀ {A:Around} {E:Value->Shared->Prop} {s:Shared} {v:Value} {Q:Int->Shared->Prop},A.units+k.dep<cLine->IsTK s.heap k v->Q k.hash {s with toks:=s.toks+k.draws}->wpAny (model prog w) A (pyHash v) Q E s
theorem IsTKs.split {h:Heap}:∀ {ks:List TK} {vs:List Value},IsTKs h ks vs->ks.length=vs.length:=fun h0=>h0.rec (motive_1:=fun _ _ _=>True) (motive_2:=fun ks vs _=>ks.length=vs.length) trivial (fun _ _=>trivial) (fun _ _ _ _ _=>trivial) rfl (fun _ _ _ ih=>congrArg (· + 1) ih)
theorem hash_tup {xs:List TK}(all:∀ k∈xs,HashOk prog w k):HashOk prog w (.tup xs):=by
 intro A E s v Q hu hk h;cases hk with
 | @tup a o items n _ ho hc hd hi=>
  have hT:s.TypeIs (.ref a) "tuple":=⟨o,ho,hc⟩;rw [TK.dep] at hu;unfold pyHash
  first | unfold pyHashByItsType | skip
  first | refine wB1 (wpAny_cRoomFor_or (.inr (by lia)) ?_) | skip
  refine wB1 (wpAny_specialOf hT F.slot_tuple_hash.lookup ?_);show wpAny _ _ (if (some (Value.builtin "tuple.__hash__") == some Value.none)=true then _ else _) Q E s;rw [if_neg (by rw [beq_builtin_none];exact Bool.false_ne_true)];refine wB1 (wpAny_specialOf hT F.slot_tuple_hash.lookup ?_);show wpAny _ _ (callSpecialIfBoundUnlessNone? (.ref a) "__hash__" _ >>= _) Q E s;refine wB1 (wpAny_callSpecialIfBoundUnlessNone?_slot hT F.slot_tuple_hash (wE1 F.slot_tuple_hash hT F.entry_tuple_hash ?_ (F.args_tuple_hash_1 _)));show wpAny _ _ (Builtin.Tuple.tupleItemsOf (.ref a) >>= _) _ _ s;refine wB1 (wpAny_tupleItemsOf ho hd ?_);refine wB1 ?_;rw [<- Array.forIn_toList];refine wpAny_forIn_list _
   (fun rest (b:Array Int) s'=>∃ done left,xs=done++left/\IsTKs s.heap left rest/\b.toList=TK.hashes done/\s'={s with toks:=s.toks+TK.drawsAll done})
   _ ?_ ?_ _ _ ⟨[],xs,rfl,hi,rfl,rfl⟩
  ·rintro x rest b s' ⟨done,left,e,hl,hb,rfl⟩;cases hl with
   | @cons k _ ks' _ h1 hl'=>
    have hm:k∈xs:=by rw [e];simp
    refine wB1 (all k hm (show A.in1.units+k.dep<cLine by have:=TK.dep_mem hm;rw [show A.in1.units=A.units+1 from rfl];lia) h1 ?_)
    first
     | exact wP1 ⟨done++[k],ks',by simp [e],hl',by rw [TK.hashes_app];simp [hb,TK.hashes],by rw [TK.draws_app];simp [TK.drawsAll,Nat.add_assoc]⟩
     | exact wB1 (wP1 (wP1 ⟨done++[k],ks',by simp [e],hl',by rw [TK.hashes_app];simp [hb,TK.hashes],by rw [TK.draws_app];simp [TK.drawsAll,Nat.add_assoc]⟩))
  ·rintro b s' ⟨done,left,e,hl,hb,rfl⟩;cases hl;rw [List.append_nil] at e;subst e;show wpAny _ _ (retInt (Builtin.Tuple.tupleHashOf b.toList)) _ _ _;rw [hb];refine wpAny_ret_mkInt ?_;show wpAny _ _ (if (decide (-(2:Int)^63<=Builtin.Tuple.tupleHashOf (TK.hashes xs))&&decide (Builtin.Tuple.tupleHashOf (TK.hashes xs)<2^63))=true then _ else _) Q E _;rw [TK.hash,TK.draws] at h;unfold reduceHash at h;by_cases hr:(decide (-(2:Int)^63<=Builtin.Tuple.tupleHashOf (TK.hashes xs))&&decide (Builtin.Tuple.tupleHashOf (TK.hashes xs)<2^63))=true
   ·rw [if_pos hr];rw [if_pos hr] at h;exact wP1 (by simpa [Nat.add_assoc] using h)
   ·rw [if_neg hr];rw [if_neg hr] at h;exact wB1 (wpAny_rule (wP1 (by simpa [Nat.add_assoc] using h)))
mutual
theorem hash_ok:∀ k:TK,HashOk prog w k
 | .non=>fun hu hk h=>by cases hk;exact pyHash_none h
 | .int i=>fun hu hk h=>by cases hk;exact wpAny_pyHash_int h
 | .tup xs=>hash_tup (hash_oks xs)
theorem hash_oks:∀ ks:List TK,∀ k∈ks,HashOk prog w k
 | [],k,h=>by simp at h
 | x::xs,k,h=>by
  by_cases e:k=x
  ·rw [e];exact hash_ok x
  ·exact hash_oks xs k ((List.mem_cons.mp h).resolve_left e)
end
end
theorem IsTK.inj {h:Heap}:∀ {k k':TK} {v:Value},IsTK h k v->IsTK h k' v->k=k':=fun h0=>h0.rec (motive_1:=fun k v _=>∀ k',IsTK h k' v->k=k') (motive_2:=fun k v _=>∀ k',IsTKs h k' v->k=k')
  (fun k' g=>by cases g;rfl) (fun _ _ k' g=>by cases g;rfl)
  (fun e1 c1 d1 t1 ih k' g=>by
   cases g with
   | tup e2 c2 d2 t2=>
    rw [e1] at e2;cases e2;rw [d1] at d2;cases d2;rw [ih _ t2])
  (fun k' g=>by cases g;rfl) (fun _ _ a b k' g=>by cases g with | cons r' t'=>rw [a _ r',b _ t']) _
theorem IsTKs.inj {h:Heap}:∀ {k k':List TK} {v:List Value},IsTKs h k v->IsTKs h k' v->k=k':=fun h0=>h0.rec (motive_1:=fun _ _ _=>True) (motive_2:=fun k v _=>∀ k',IsTKs h k' v->k=k') trivial (fun _ _=>trivial) (fun _ _ _ _ _=>trivial)
  (fun k' g=>by cases g;rfl) (fun a _ _ b k' g=>by cases g with | cons r' t'=>rw [IsTK.inj a r',b _ t']) _
theorem IsTK.keeps {h h':Heap}{d:Addr}{o:Obj}{es ep}(ho:h.get? d=some o)(hd:o.data = .dict es ep)(hs:Heap.SameBut d h h'):∀ {k:TK} {v:Value},IsTK h k v->IsTK h' k v:=fun h0=>h0.rec (motive_1:=fun k v _=>IsTK h' k v) (motive_2:=fun k v _=>IsTKs h' k v) .non .int
  (fun {a} _ _ _ _ e1 c1 d1 _ ih=>.tup ((hs.2 a (fun z=>by subst z;rw [e1] at ho;cases ho;rw [d1] at hd;cases hd)).trans e1) c1 d1 ih) .nil (fun _ _ a b=>.cons a b)
theorem IsTKs.at {h:Heap}:∀ {ks:List TK} {vs:List Value} (j:Nat) (h1:j<ks.length) (h2:j<vs.length),IsTKs h ks vs->IsTK h ks[j] vs[j]
 | _::_,_::_,0,_,_,.cons r _=>r
 | _::ks,_::vs,j+1,h1,h2,.cons _ t=>IsTKs.at j (by simpa using h1) (by simpa using h2) t
theorem all_same {xs ys:List TK}(hl:xs.length=ys.length):((List.range (min xs.length ys.length)).all fun j=>decide (xs[j]? = ys[j]?))=decide (xs=ys):=by
 by_cases h:xs=ys
 ·subst h;simp
 ·rw [decide_eq_false h,List.all_eq_false];have:∃ j,xs[j]? ≠ ys[j]?:=Classical.byContradiction fun z=>h (List.ext_getElem? fun j=>Classical.byContradiction fun q=>z ⟨j,q⟩);obtain ⟨j,hj⟩:=this;refine ⟨j,?_,by simpa using hj⟩;rw [List.mem_range,hl,Nat.min_self];apply Classical.byContradiction;intro hn;exact hj (by rw [List.getElem?_eq_none (by lia),List.getElem?_eq_none (by lia)])
theorem eq_tk:∀ (n:Nat) {k k':TK} {A:Around} {s:Shared} {u v:Value},k.dep<=n->A.units+n<cLine->IsTK s.heap k u->IsTK s.heap k' v->SeqAt.EqAt A s u v (decide (k=k')):=by
 intro n
 induction n with
 | zero=>
  intro k k' A s u v hd hu r r';cases r with
  | tup _ _ _ _=>simp [TK.dep] at hd
  | non=>
   cases r' with
   | non=>simpa using SeqAt.EqAt.same (A:=A) (s:=s) Value.none
   | int i t=>simpa [eqV] using eqAt_V (A:=A) (s:=s) (y:=.non) (x:=.int i) rfl ⟨t,rfl⟩ rfl rfl
   | tup e c d t=>simpa using (rc_seq_none (A:=A) (s:=s) (b:=false) (v:=.non) (u:=.none) ⟨_,e,c,_,d⟩ rfl rfl (by lia)).2.1
  | int i t=>
   cases r' with
   | non=>simpa [eqV] using eqAt_V (A:=A) (s:=s) (y:=.int i) (x:=.non) ⟨t,rfl⟩ rfl rfl rfl
   | int j t'=>
    have:=eqAt_V (A:=A) (s:=s) (y:=.int i) (x:=.int j) ⟨t,rfl⟩ ⟨t',rfl⟩ rfl rfl;have e:eqV (.int i) (.int j)=decide (TK.int i=TK.int j):=by
     by_cases h:i=j
     ·subst h;simp [eqV]
     ·rw [decide_eq_false (fun z=>h (by injection z))];simp [eqV,h]
    rw [e] at this;exact this
   | tup e c d q=>simpa using (rc_seq_none (A:=A) (s:=s) (b:=false) (v:=.int i) (u:=.int i t) ⟨_,e,c,_,d⟩ ⟨t,rfl⟩ rfl (by lia)).2.1
 | succ n ih=>
  intro k k' A s u v hd hu r r';cases r with
  | non=>
   cases r' with
   | non=>simpa using SeqAt.EqAt.same (A:=A) (s:=s) Value.none
   | int i t=>simpa [eqV] using eqAt_V (A:=A) (s:=s) (y:=.non) (x:=.int i) rfl ⟨t,rfl⟩ rfl rfl
   | tup e c d t=>simpa using (rc_seq_none (A:=A) (s:=s) (b:=false) (v:=.non) (u:=.none) ⟨_,e,c,_,d⟩ rfl rfl (by lia)).2.1
  | int i t=>
   cases r' with
   | non=>simpa [eqV] using eqAt_V (A:=A) (s:=s) (y:=.int i) (x:=.non) ⟨t,rfl⟩ rfl rfl rfl
   | int j t'=>
    have:=eqAt_V (A:=A) (s:=s) (y:=.int i) (x:=.int j) ⟨t,rfl⟩ ⟨t',rfl⟩ rfl rfl;have e:eqV (.int i) (.int j)=decide (TK.int i=TK.int j):=by
     by_cases h:i=j
     ·subst h;simp [eqV]
     ·rw [decide_eq_false (fun z=>h (by injection z))];simp [eqV,h]
    rw [e] at this;exact this
   | tup e c d q=>simpa using (rc_seq_none (A:=A) (s:=s) (b:=false) (v:=.int i) (u:=.int i t) ⟨_,e,c,_,d⟩ ⟨t,rfl⟩ rfl (by lia)).2.1
  | @tup a o items m xs e1 c1 d1 t1=>
   cases r' with
   | non=>simpa using (rc_seq_none (A:=A) (s:=s) (b:=false) (v:=.non) (u:=.none) ⟨_,e1,c1,_,d1⟩ rfl rfl (by lia)).1
   | int i t=>simpa using (rc_seq_none (A:=A) (s:=s) (b:=false) (v:=.int i) (u:=.int i t) ⟨_,e1,c1,_,d1⟩ ⟨t,rfl⟩ rfl (by lia)).1
   | @tup a2 o2 items2 m2 ys e2 c2 d2 t2=>
    by_cases ha:a=a2
    ·subst ha;have:TK.tup xs=TK.tup ys:=IsTK.inj (.tup e1 c1 d1 t1) (.tup e2 c2 d2 t2);rw [decide_eq_true this];exact .same _
    ·refine .of_refs ha ?_;have l1:=t1.split;have l2:=t2.split;have rc:=SeqAt.RcAt.tuples (A:=A) (s:=s) (e:=fun j=>decide (xs[j]? = ys[j]?)) ⟨o,e1,c1,m,d1⟩ ⟨o2,e2,c2,m2,d2⟩ (by lia) (fun j h1 h2=>by
      have g1:j<xs.length:=by rw [l1];simpa using h1
      have g2:j<ys.length:=by rw [l2];simpa using h2
      rw [TK.dep] at hd;have hm:=TK.dep_mem (List.getElem_mem g1);have q:=ih (k:=xs[j]) (k':=ys[j]) (A:=A.in1) (s:=s) (by lia) (by show A.units+1+n<cLine;lia) (t1.at j g1 (by simpa using h1)) (t2.at j g2 (by simpa using h2));have e:decide (xs[j]? = ys[j]?)=decide (xs[j]=ys[j]):=by
       rw [gG1 g1,gG1 g2];simp
      rw [e];simpa using q)
     have z1:items.size=xs.length:=by rw [l1];simp
     have z2:items2.size=ys.length:=by rw [l2];simp
     rw [z1,z2] at rc;have fin:((List.range (min xs.length ys.length)).all (fun j=>decide (xs[j]? = ys[j]?))&&xs.length == ys.length)=decide (TK.tup xs=TK.tup ys):=by
      by_cases hl:xs.length=ys.length
      ·rw [all_same hl,hl,beq_self_eq_true,Bool.and_true];by_cases h:xs=ys
       ·subst h;simp
       ·rw [decide_eq_false h,decide_eq_false (fun z=>h (by injection z))]
      ·have hb:(xs.length == ys.length)=false:=by simpa using hl
       rw [hb,Bool.and_false,decide_eq_false (fun z=>hl (by injection z with z;rw [z]))]
     rw [fin] at rc;exact rc
theorem quiet_tk {prog:Program}{w:World}:∀ (n:Nat) {k:TK} {A:Around} {E:Value->Shared->Prop} {s:Shared} {v:Value} {Q:Bool->Shared->Prop},k.dep<=n->IsTK s.heap k v->Q true s->wpAny (model prog w) A (eqIsQuiet n v) Q E s:=by
 intro n
 induction n with
 | zero=>
  intro k A E s v Q hd r h;cases r with
  | non=>rw [eqIsQuiet_byValue 0 rfl];exact wP1 h
  | int i t=>rw [eqIsQuiet_byValue 0 rfl];exact wP1 h
  | tup _ _ _ _=>simp [TK.dep] at hd
 | succ n ih=>
  intro k A E s v Q hd r h;cases r with
  | non=>rw [eqIsQuiet_byValue _ rfl];exact wP1 h
  | int i t=>rw [eqIsQuiet_byValue _ rfl];exact wP1 h
  | @tup a o items m xs e1 c1 d1 t1=>
   have hT:s.TypeIs (.ref a) "tuple":=⟨o,e1,c1⟩;rw [TK.dep] at hd;unfold eqIsQuiet;refine wB1 (wpAny_specialOf hT F.slot_tuple_eq.lookup ?_);show wpAny _ _ (isInstance (.ref a) (.type "tuple") >>= _) _ _ s;refine wB1 (wpAny_isInstance hT isSubtype_tuple_tuple ?_);simp only [Bool.not_true,bF1,if_false];refine wB1 (wpAny_seqItems e1 d1 ?_);refine wB1 ?_;show wpAny _ _ (forIn items _ _) _ _ s;rw [<- Array.forIn_toList];refine wpAny_forIn_list _ (fun rest r s'=>r.1=none/\s'=s /\ ∃ ks,IsTKs s.heap ks rest/\TK.depAll ks<=n) _ ?_ ?_ _ _ ⟨rfl,rfl,xs,t1,by lia⟩
   ·rintro v rest r s' ⟨hr,rfl,ks,hk,hn⟩;cases hk with
    | @cons k1 _ ks1 _ q1 q2=>
     rw [TK.depAll] at hn;refine wB1 (ih (k:=k1) (by lia) q1 ?_);simp only [Bool.not_true,bF1,if_false];exact wP1 ⟨rfl,rfl,ks1,q2,by lia⟩
   ·rintro ⟨r1,r2⟩ s' ⟨hr,rfl,_⟩;simp only at hr;subst hr;exact wP1 h
noncomputable def tkKind (prog:Program)(w:World):HeapKind prog w TK where
 is:=fun h k a=>IsTK h k (.ref a)/\k.dep<=8
 hash:=TK.hash
 draws:=TK.draws
 room:=fun A=>A.units+8<cLine
 inj:=fun hx hy=>hx.1.inj hy.1
 keeps:=fun x ho hd hs=>⟨x.1.keeps ho hd hs,x.2⟩
 pyHash:=fun hu hk h=>hash_ok _ (by have:=hk.2;omega) hk.1 h
 eqBool:=fun hu hx hy h=>eq_tk 8 hx.2 hu hx.1 hy.1 _ _ _ _ h
 quiet:=fun hk h=>quiet_tk 8 hk.2 hk.1 h
noncomputable def gExt:G2:=fun o v S=>match o,v with
 | .ref n,.ref b=>match S[n]?,S[b]? with
  | some (.lst xs),some (.lst ys)=>if xs.length+ys.length<=sizeLine then some (.non,S.set n (.lst (xs++ys))) else none
  | _,_=>none
 | _,_=>none
noncomputable def insN (n:Nat)(k:Int):Nat:=if k<0 then (k+(n:Int)).toNat else min k.toNat n
noncomputable def gIns:G3:=fun o i v S=>match o,i with
 | .ref n,.int k=>match S[n]? with
  | some (.lst xs)=>if-(2^63)<=k/\k<2^63/\xs.length<sizeLine then some (.non,S.set n (.lst (xs.take (insN xs.length k)++v::xs.drop (insN xs.length k)))) else none
  | _=>none
 | _,_=>none
noncomputable def eqsL (f:D->D->Option Bool)(x:D):List D->Option (List Bool)
 | []=>some []
 | y::ys=>(f y x).bind fun b=>(eqsL f x ys).map (b :: ·)
noncomputable def gIdx:G2:=fun o x S=>match o with
 | .ref n=>match S[n]? with
  | some (.lst ys)=>(eqsL (eqN S deepMost) x ys).bind fun bs=>if bs.length<2^62 then (bs.findIdx? id).map fun j=>(.int (j:Nat),S) else none
  | _=>none
 | _=>none
theorem eqsL_at (f:D->D->Option Bool)(x:D):∀ {ys:List D} {bs:List Bool},eqsL f x ys=some bs->bs.length=ys.length /\ ∀ (j:Nat) (y:D) (k:Bool),ys[j]? = some y->bs[j]? = some k->f y x=some k
 | [],bs,h=>by cases h;exact ⟨rfl,fun j y k h=>by simp at h⟩
 | y::ys,bs,h=>by
  rw [eqsL] at h;obtain ⟨b,eb,h⟩:=oB1.mp h;obtain ⟨bt,et,h⟩:=oM1.mp h;obtain ⟨l1,a1⟩:=eqsL_at f x et;subst h;refine ⟨by simp [l1],fun j=>?_⟩;cases j with
  | zero=>intro y' k h1 h2;simp at h1 h2;subst h1;subst h2;exact eb
  | succ j=>intro y' k h1 h2;exact a1 j y' k (by simpa using h1) (by simpa using h2)
section
open PySem.MeetsSeq PySem.MeetsSeq2 PySem.MeetsSeq3 PySem.SeqRoads2
theorem idx_loop {l:Addr}{its:Array Value}{n:Nat}{x:Value}{e:Nat->Bool}{top:Int}{j:Nat}(hj:j<its.size)(ht:(j:Int)<top)(hit:e j=true):∀ (k i:Nat),i+k=j->(∀ m,i<=m->m<j->e m=false) ->
  Meets (Builtin.«list.index.loop» ⟨[.ref l,x,rawInt i,rawInt top],[]⟩)
   (fun A R s=>s.heap.get? l=some {cls:=.type "list",data:=.seq its n}/\(∀ m (h:m<its.size),SeqAt.EqAt A.in1 s its[m] x (e m))/\R (.ok (.ret (.int j s.toks))) {s with toks:=s.toks+1})
 | 0,i,hk,hno,prog,w,A,R,⟨hp,g,d,tk,os⟩,⟨hl,he,h⟩=>by
  have ei:i=j:=by lia
  subst ei
  wp_walk using AutoSeq1.wpAny_loadPart' hl
  rw [show (if (i:Int)<top then its[((i:Nat):Int).toNat]? else none)=some its[i] by simp [ht,hj]];refine wB1 (he i hj prog w _ _ ?_);rw [hit]
  wp_walk
  exact h
 | k+1,i,hk,hno,prog,w,A,R,⟨hp,g,d,tk,os⟩,⟨hl,he,h⟩=>by
  have h1:i<its.size:=by lia
  have h2:(i:Int)<top:=by lia
  wp_walk using AutoSeq1.wpAny_loadPart' hl
  rw [show (if (i:Int)<top then its[((i:Nat):Int).toNat]? else none)=some its[i] by simp [h1,h2]];refine wB1 (he i h1 prog w _ _ ?_);rw [hno i (nR1 i) (by lia)]
  wp_walk
  rw [show ((i:Int)+1)=((i+1:Nat):Int) by push_cast;rfl];have z:=idx_loop (l:=l) (n:=n) (x:=x) hj ht hit k (i+1) (by lia) (fun m a b=>hno m (by lia) b) prog w A R _ ⟨hl,he,h⟩;exact ⟨plainId_quiet plain_index_loop _,wD1 entry_index_loop (by rw [Around.under_plainId plain_index_loop _];exact z)⟩
theorem idx_list {l:Addr}{its:Array Value}{n:Nat}{x:Value}{e:Nat->Bool}{j:Nat}(hj:j<its.size)(ht:(j:Int)<2^63-1)(hit:e j=true)(hno:∀ m,m<j->e m=false):
  Meets (Builtin.«list.index» ⟨[.ref l,x],[]⟩)
   (fun A R s=>s.heap.get? l=some {cls:=.type "list",data:=.seq its n}/\(∀ m (h:m<its.size),SeqAt.EqAt A.in1 s its[m] x (e m))/\R (.ok (.ret (.int j s.toks))) {s with toks:=s.toks+1}):=by
 intro prog w A R ⟨hp,g,d,tk,os⟩ ⟨hl,he,h⟩
 wp_walk using AutoSeq1.wpAny_loadPart' hl
 rw [show ((fun i:Int=>if i<0 then max 0 (i+(its.size:Int)) else i) ((none:Option Int).getD 0))=((0:Nat):Int) by simp,show ((fun i:Int=>if i<0 then max 0 (i+(its.size:Int)) else i) ((none:Option Int).getD (2^63-1)))=2^63-1 by simp];have z:=idx_loop (l:=l) (n:=n) (x:=x) hj ht hit j 0 (by lia) (fun m _ b=>hno m b) prog w A R _ ⟨hl,he,h⟩;exact ⟨plainId_quiet plain_index_loop _,wD1 entry_index_loop (by rw [Around.under_plainId plain_index_loop _];exact z)⟩
end
section
variable {X:Cx}
theorem t_idx (hu:X.A.units+64<cLine):MtR X "list.index" (fun x xs H Q=>rN X.K (b2 gIdx) (x::xs) H Q):=by
 intro pins s σ H x xs v us Q I rx rv h;obtain ⟨x',y,mu,S,d,e,r',S',e0,r1,r2,hs,hm,hc⟩:=rn2l h;cases e0;unfold gIdx at hm;split at hm
 ·rename_i n;split at hm
  ·rename_i ys en;obtain ⟨bs,eb,hm⟩:=oB1.mp hm;split at hm
   ·rename_i hlen;obtain ⟨j,ej,hm⟩:=oM1.mp hm;cases hm;cases r1 with
    | ref qn=>
     obtain ⟨vs,ev,t⟩:=hs.lst en qn;cases rx;obtain ⟨u,rfl,ru⟩:=rv.one;obtain ⟨z,its,n',rvs,hl,e⟩:=I.lstM ev;obtain ⟨l1,at1⟩:=eqsL_at _ _ eb;have l2:=t.length;have l3:=rvs.length;rw [List.findIdx?_eq_some_iff_getElem] at ej;obtain ⟨hj,hit,hno⟩:=ej;have ats:∀ m (hm:m<its.toArray.size),SeqAt.EqAt X.A.in1 s its.toArray[m] u (bs[m]?.getD false):=fun m hm=>by
      have m1:m<its.length:=by simpa using hm
      obtain ⟨y',ey,q1⟩:=t.getV (i:=m) (v:=vs[m]'(by lia)) (gG1 (by lia));obtain ⟨w',ew,q2⟩:=rvs.get (i:=m) (x:=vs[m]'(by lia)) (gG1 (by lia));have m2:m<bs.length:=by lia
      have e3:its.toArray[m]=w':=by
       have:=gG1 m1;rw [this] at ew;simpa using ew
      rw [e3,gG1 m2];exact (eqN_at I hs deepMost (A:=X.A.in1) (by show X.A.units+1+60<cLine;lia) q1 r2 q2 ru (at1 m y' bs[m] ey (gG1 m2))).1
     refine call_meets F.slot_list_index ⟨_,e,rfl⟩ F.entry_list_index (F.args_list_index_2 _ _)
      (idx_list (n:=n') (e:=fun m=>bs[m]?.getD false) (j:=j) (by simp;lia) (by lia) ?_ ?_) ⟨e,ats,?_⟩
     ·simp only [gG1 hj,Option.getD_some];simpa using hit
     ·intro m hm;have m2:m<bs.length:=by lia
      have:=hno m hm;simp only [gG1 m2,Option.getD_some];simpa using this
     ·exact ⟨.int j,H,I.tok _,⟨_,rfl⟩,hc.now (.int _) hs⟩
   ·cases hm
  ·cases hm
 ·cases hm
end
mutual
noncomputable def kD:D->Option TK
 | .non=>some .non
 | .int i=>some (.int i)
 | .tup xs=>(kDs xs).map .tup
 | _=>none
noncomputable def kDs:List D->Option (List TK)
 | []=>some []
 | x::xs=>(kD x).bind fun k=>(kDs xs).map (k :: ·)
end
noncomputable def keyT:D->Option TK
 | .tup xs=>(kDs xs).bind fun ks=>if (TK.tup ks).dep<=8 then some (.tup ks) else none
 | _=>none
mutual
theorem kD_tk:∀ {d:D} {k:TK},kD d=some k->tkD k=d
 | .non,k,h=>by cases h;rfl
 | .int i,k,h=>by cases h;rfl
 | .tup xs,k,h=>by
  rw [kD] at h;obtain ⟨ks,e,h⟩:=oM1.mp h;subst h;rw [tkD,kDs_tk e]
 | .bl _,k,h=>by simp [kD] at h
 | .str _,k,h=>by simp [kD] at h
 | .rol _,k,h=>by simp [kD] at h
 | .fn _,k,h=>by simp [kD] at h
 | .ref _,k,h=>by simp [kD] at h
theorem kDs_tk:∀ {ds:List D} {ks:List TK},kDs ds=some ks->tkDs ks=ds
 | [],ks,h=>by cases h;rfl
 | x::xs,ks,h=>by
  rw [kDs] at h;obtain ⟨k,e1,h⟩:=oB1.mp h;obtain ⟨t,e2,h⟩:=oM1.mp h;subst h;rw [tkDs,kD_tk e1,kDs_tk e2]
end
theorem keyT_tk {d:D}{k:TK}(h:keyT d=some k):tkD k=d/\k.dep<=8 /\ ∃ xs,k = .tup xs:=by
 cases d with
 | tup xs=>
  rw [keyT] at h;obtain ⟨ks,e,h⟩:=oB1.mp h;split at h
  ·rename_i hd;cases h;exact ⟨by rw [tkD,kDs_tk e],hd,ks,rfl⟩
  ·cases h
 | _=>cases h
section
variable {X:Cx} {pins:List (Addr×Obj)} {σ:L2.St} {H:Hp} {s:Shared} {mu:List Addr}
mutual
theorem tk_is (I:Inv X pins σ H s):∀ (k:TK) {v:V} {u:Value},Rep X.K H mu (tkD k) v->RelV v u->IsTK s.heap k u
 | .non,v,u,r,q=>by
  rw [tkD] at r;cases r;cases q;exact .non
 | .int i,v,u,r,q=>by
  rw [tkD] at r;cases r;obtain ⟨t,rfl⟩:=q;exact .int i t
 | .tup xs,v,u,r,q=>by
  rw [tkD] at r;cases r with
  | tup h t=>
   cases q;obtain ⟨its,rv,⟨o,e1,e2,n,e3⟩,_⟩:=I.tuple h;exact .tup e1 e2 e3 (by simpa using tks_is I xs t rv)
theorem tks_is (I:Inv X pins σ H s):∀ (ks:List TK) {vs:List V} {us:List Value},Reps X.K H mu (tkDs ks) vs->Vals vs us->IsTKs s.heap ks us
 | [],vs,us,r,q=>by rw [tkDs] at r;cases r;cases q;exact .nil
 | k::ks,vs,us,r,q=>by
  rw [tkDs] at r;cases r with
  | cons r t=>cases q with
   | cons q p=>exact .cons (tk_is I k r q) (tks_is I ks t p)
end
theorem paired_map {α β γ δ:Type}{F:α->β->Prop}{G:γ->δ->Prop}{f:α->γ}{g:β->δ}:∀ {l₁:List α} {l₂:List β},Paired F l₁ l₂->(∀ a b,F a b->G (f a) (g b))->Paired G (l₁.map f) (l₂.map g):=by
 intro a b h g
 induction h with
 | nil=>exact .nil
 | cons r t ih=>exact .cons (g _ _ r) ih
theorem paired_app {α β:Type}{F:α->β->Prop}:∀ {l₁ m₁:List α} {l₂ m₂:List β},Paired F l₁ l₂->Paired F m₁ m₂->Paired F (l₁++m₁) (l₂++m₂):=by
 intro a b c d h g
 induction h with
 | nil=>exact g
 | cons r t ih=>exact .cons r ih
theorem KT.length {K:Fg1}:∀ {ks:List (TK×D)} {ws:List (TK×Addr×Value)},KT K H mu ks ws->ks.length=ws.length:=fun h=>Paired.length h
theorem KT.mem {K:Fg1}:∀ {ks:List (TK×D)} {ws:List (TK×Addr×Value)},KT K H mu ks ws -> ∀ x∈ws,x.1.dep<=8/\Rep K H mu (tkD x.1) (.ref x.2.1):=by
 intro ks ws h0 x h
 induction h0 with
 | nil=>cases h
 | cons r t ih=>
  rcases List.mem_cons.mp h with e | e
  ·subst e;rw [<- r.1];exact ⟨r.2.1,r.2.2.1⟩
  ·exact ih e
theorem KT.look {K:Fg1}{k:TK}:∀ {ks:List (TK×D)} {ws:List (TK×Addr×Value)},KT K H mu ks ws ->
  (∀ d,lookD ks k=some d -> ∃ p v,atKey ws k=some p/\RelV v p.2/\Rep K H mu d v)/\(atKey ws k).isSome=(lookD ks k).isSome:=by
 intro ks ws h
 induction h with
 | nil=>exact ⟨fun d h=>by simp [lookD] at h,rfl⟩
 | @cons p q0 ks ws r t ih=>
  obtain ⟨k1,d1⟩:=p;obtain ⟨k2,a2,v2⟩:=q0;obtain ⟨z,d,q,v,rv,r⟩:=r;dsimp only at z q rv r;subst z;obtain ⟨h1,h2⟩:=ih;by_cases hk:k1=k
  ·subst hk;refine ⟨fun d h=>?_,by simp [atKey,lookD]⟩;have:d1=d:=by simpa [lookD] using h
   subst this;exact ⟨(a2,v2),v,by simp [atKey],rv,r⟩
  ·have e1:lookD ((k1,d1)::ks) k=lookD ks k:=by simp [lookD,List.find?_cons,hk]
   have e2:atKey ((k1,a2,v2)::ws) k=atKey ws k:=by simp [atKey,List.find?_cons,hk]
   rw [e1,e2];exact ⟨h1,h2⟩
theorem KT.put {K:Fg1}{k:TK}{d:D}{v:V}{a:Addr}{u:Value}(hk:k.dep<=8)(qk:Rep K H mu (tkD k) (.ref a))(rv:RelV v u)(q:Rep K H mu d v){ks:List (TK×D)}{ws:List (TK×Addr×Value)}(h:KT K H mu ks ws):KT K H mu (putD ks k d) (storedH ws k a u):=by
 unfold putD storedH;have e:(ks.any fun p=>decide (p.1=k))=(atKey ws k).isSome:=by
  rw [h.look.2];unfold lookD;rw [Option.isSome_map,Bool.eq_iff_iff,List.find?_isSome,List.any_eq_true]
 rw [e];split
 ·clear e;refine paired_map h fun p w ⟨z,d',k',v',rv',r'⟩=>?_;unfold putAt;by_cases hp:p.1=k
  ·rw [if_pos hp,if_pos (by rw [<- z];exact hp)];exact ⟨z,d',k',v,rv,q⟩
  ·rw [if_neg hp,if_neg (by rw [<- z];exact hp)];exact ⟨z,d',k',v',rv',r'⟩
 ·exact paired_app h (.cons ⟨rfl,hk,qk,v,rv,q⟩ .nil)
theorem dh_of (I:Inv X pins σ H s){a:Addr}{xs:List (TK×Addr×Value)}{kvs:List (TK×D)}(e:H a=some (.ext (DictAt a xs)))(h:KT X.K H mu kvs xs):(a == sysModules)=false/\s.heap.DictOfH (tkKind X.prog X.w) a xs:=by
 obtain ⟨⟨h1,h2,o,es,ep,h3,h4,h5,h6⟩,_⟩:=(show ObjOk X.prog X.w H s.heap a (.ext (DictAt a xs)) from I.hok a _ e);exact ⟨h1,o,es,ep,h3,h4,h5,h6,fun x hx=>⟨tk_is I _ (h.mem x hx).2 rfl,(h.mem x hx).1⟩,h2⟩
theorem ext_new {h:Heap}{a:Addr}{xs:List (TK×Addr×Value)}(hd:(a == sysModules)=false)(hm:h.DictOfH (tkKind X.prog X.w) a xs):ObjOk X.prog X.w H h a (.ext (DictAt a xs)):=by
 obtain ⟨o,es,ep,h3,h4,h5,h6,h7,h8⟩:=hm;refine ⟨⟨hd,h8,o,es,ep,h3,h4,h5,h6⟩,⟨o,h3⟩,fun g1 g2 ⟨a1,a2,o',es',ep',b3,b4,b5,b6⟩ st=>⟨a1,a2,o',es',ep',st _ b3,b4,b5,b6⟩⟩
end
noncomputable def gInY:G2:=fun d e S=>match e with
 | .ref n=>match S[n]? with
  | some (.dcT kvs)=>(keyT d).map fun k=>(.bl (lookD kvs k).isSome,S)
  | _=>gInX d e S
 | _=>gInX d e S
noncomputable def gNotInY:G2:=fun d e S=>match e with
 | .ref n=>match S[n]? with
  | some (.dcT kvs)=>(keyT d).map fun k=>(.bl (!(lookD kvs k).isSome),S)
  | _=>gNotInX d e S
 | _=>gNotInX d e S
noncomputable def gIxY:G2:=fun d e S=>match d with
 | .ref n=>match S[n]? with
  | some (.dcT kvs)=>(keyT e).bind fun k=>(lookD kvs k).map fun x=>(x,S)
  | some (.dcF kvs)=>(keyT e).bind fun k=>(lookD kvs k).map fun x=>(x,S)
  | _=>gIxX d e S
 | _=>gIxX d e S
noncomputable def gSetY:G3:=fun o i v S=>match o with
 | .ref n=>match S[n]? with
  | some (.dcT kvs)=>(keyT i).bind fun k=>if kvs.length<sizeLine then some (.non,S.set n (.dcT (putD kvs k v))) else none
  | some (.dct [])=>match keyT i with
   | some k=>some (.non,S.set n (.dcT [(k,v)]))
   | none=>gSetX o i v S
  | _=>gSetX o i v S
 | _=>gSetX o i v S
section
variable {X:Cx}
theorem length_putD {κ:Type}[DecidableEq κ](kvs:List (κ×D))(k:κ)(d:D):(putD kvs k d).length<=kvs.length+1:=by
 unfold putD;split
 ·rw [lM1];lia
 ·simp
theorem empty_of {h:Heap}{a:Addr}(dd:h.DictOf (mixKind X.prog X.w) a []):h.DictOfH (tkKind X.prog X.w) a []:=by
 obtain ⟨o,es,ep,h1,h2,h3,_,h4,_⟩:=dd;have e:es.toList=[]:=by
  generalize es.toList=l at h4;cases h4;rfl
 exact ⟨o,es,ep,h1,h2,h3,e,(fun x hx=>by simp at hx),List.nodup_nil⟩
theorem room_of {A:Around}(hu:A.units+64<cLine):(tkKind X.prog X.w).room A.in1:=by
 show A.units+1+8<cLine;lia
theorem key_at {pins:List (Addr×Obj)}{σ:L2.St}{H:Hp}{s:Shared}{mu:List Addr}(I:Inv X pins σ H s){d:D}{v:V}{u:Value}{k:TK}(r:Rep X.K H mu d v)(q:RelV v u)(h:keyT d=some k):
  ∃ a,u = .ref a/\v = .ref a/\Rep X.K H mu (tkD k) (.ref a)/\k.dep<=8/\(tkKind X.prog X.w).is s.heap k a:=by
 obtain ⟨e,hd,xs,ex⟩:=keyT_tk h;subst e;have is:=tk_is I k r q;subst ex;cases id is with
 | @tup a _ _ _ _ _ _ _ _=>
  rw [tkD] at r;cases r with
  | tup h1 h2=>
   cases q;exact ⟨a,rfl,rfl,by rw [tkD];exact .tup h1 h2,hd,is,hd⟩
theorem o_inY (hu:X.A.units+64<cLine):OpR X (compareOp .In) (r2 X.K (b2 gInY)):=by
 intro pins s σ H x y u w Q I rx ry h;obtain ⟨mu,S,d,e,r,S',r1,r2',hs,hm,hc⟩:=rn2 h;have back:gInX d e S=some (r,S')->wpAny (model X.prog X.w) X.A (compareOp .In u w) (EP X pins σ Q) X.xe s:=fun hm=>o_inX hu pins s σ H x y u w Q I rx ry ⟨mu,S,[d,e],r,S',.cons r1 (.cons r2' .nil),hs,hm,hc⟩;unfold gInY at hm;split at hm
 ·rename_i n;split at hm
  ·rename_i kvs en;obtain ⟨k,ek,hm⟩:=oM1.mp hm;cases hm;cases r2' with
   | ref hn=>
    cases ry;obtain ⟨xs,hx,hk,_⟩:=hs.dcT en hn;obtain ⟨hd,dd⟩:=dh_of I hx hk;obtain ⟨a,rfl,rfl,_,_,hi⟩:=key_at I r1 rx ek;refine wpAny_in_heap (room_of hu) hi hd dd ?_;exact ⟨.bl (atKey xs k).isSome,H,I.tok _,rfl,by rw [hk.look.2];exact hc.now (.bl _) hs⟩
  ·exact back hm
 ·exact back hm
theorem o_notInY (hu:X.A.units+64<cLine):OpR X (compareOp .NotIn) (r2 X.K (b2 gNotInY)):=by
 intro pins s σ H x y u w Q I rx ry h;obtain ⟨mu,S,d,e,r,S',r1,r2',hs,hm,hc⟩:=rn2 h;have back:gNotInX d e S=some (r,S')->wpAny (model X.prog X.w) X.A (compareOp .NotIn u w) (EP X pins σ Q) X.xe s:=fun hm=>o_notInX hu pins s σ H x y u w Q I rx ry ⟨mu,S,[d,e],r,S',.cons r1 (.cons r2' .nil),hs,hm,hc⟩;unfold gNotInY at hm;split at hm
 ·rename_i n;split at hm
  ·rename_i kvs en;obtain ⟨k,ek,hm⟩:=oM1.mp hm;cases hm;cases r2' with
   | ref hn=>
    cases ry;obtain ⟨xs,hx,hk,_⟩:=hs.dcT en hn;obtain ⟨hd,dd⟩:=dh_of I hx hk;obtain ⟨a,rfl,rfl,_,_,hi⟩:=key_at I r1 rx ek;refine wpAny_notIn_heap (room_of hu) hi hd dd ?_;exact ⟨.bl (!(atKey xs k).isSome),H,I.tok _,rfl,by rw [hk.look.2];exact hc.now (.bl _) hs⟩
  ·exact back hm
 ·exact back hm
theorem dh_frz {pins:List (Addr×Obj)}{σ:L2.St}{H:Hp}{s:Shared}{mu:List Addr}(I:Inv X pins σ H s){a:Addr}{xs:List (TK×Addr×Value)}{kvs:List (TK×D)}(e:∃ o u,H a=some (.frz o u)/\DictO a xs o)(h:KT X.K H mu kvs xs):(a == sysModules)=false/\s.heap.DictOfH (tkKind X.prog X.w) a xs:=by
 obtain ⟨o,u,e,h1,h2,h4,es,ep,h5,h6⟩:=e;obtain ⟨h3,_⟩:=(show ObjOk X.prog X.w H s.heap a (.frz o u) from I.hok a _ e);exact ⟨h1,o,es,ep,h3,h4,h5,h6,fun x hx=>⟨tk_is I _ (h.mem x hx).2 rfl,(h.mem x hx).1⟩,h2⟩
theorem qP (hu:X.A.units+64<cLine):IxR X (r2 X.K (b2 gIxY)):=by
 intro value slice pins s σ H x y v u Q I rx ry h hs2;obtain ⟨mu,S,d,e,r,S',r1,r2',hs,hm,hc⟩:=rn2 h;have back:gIxX d e S=some (r,S')->wpAny (model X.prog X.w) X.A (subscriptTail value slice v u) (EP X pins σ Q) X.xe s:=fun hm=>x_ixX hu value slice pins s σ H x y v u Q I rx ry ⟨mu,S,[d,e],r,S',.cons r1 (.cons r2' .nil),hs,hm,hc⟩ hs2;have main:∀ kvs a xs,v = .ref a->KT X.K H mu kvs xs->s.heap.DictOfH (tkKind X.prog X.w) a xs->((keyT e).bind fun k=>(lookD kvs k).map fun x=>(x,S))=some (r,S')->wpAny (model X.prog X.w) X.A (subscriptTail value slice v u) (EP X pins σ Q) X.xe s:=fun kvs a xs ev hk dd hm=>by
  obtain ⟨k,ek,hm⟩:=oB1.mp hm;obtain ⟨z,ez,hm⟩:=oM1.mp hm;cases hm;subst ev;obtain ⟨b,rfl,rfl,_,_,hi⟩:=key_at I r2' ry ek;obtain ⟨p,v',ep,rv,rd⟩:=hk.look.1 _ ez;have hT:=dd.typeIs;unfold subscriptTail;refine wB1 ?_;rw [getitemInPython_of_ne hT.not_modules];refine wB1 (wpAny_specialOf hT PySem.F.slot_dict_getitem.lookup ?_);have fin:wpAny (model X.prog X.w) X.A (subscripted slice false (.ref a) (.ref b)) (fun r s₃=>wpAny (model X.prog X.w) X.A (letTemporaryGo value (.ref a) r >>= fun _=>pure r) (EP X pins σ Q) X.xe s₃) X.xe s:=by
   rw [hs2];exact wpAny_operating (wpAny_mono (wpAny_getItem_heap (room_of hu) hi dd ep (show EP X pins σ Q p.2 _ from ⟨v',H,I.tok _,rv,hc.now rd hs⟩)) (fun r s₃ h₃=>wB1 (wpAny_letTemporaryGo (wP1 h₃))) fun _ _ x=>x)
  first
   | exact wP1 (wB1 fin)
   | exact wB1 fin
   | exact fin
 unfold gIxY at hm;split at hm
 ·rename_i n;split at hm
  ·rename_i kvs en;cases r1 with
   | @ref _ a hn=>
    cases rx;obtain ⟨xs,hx,hk,_⟩:=hs.dcT en hn;exact main kvs a xs rfl hk (dh_of I hx hk).2 hm
  ·rename_i kvs en;cases r1 with
   | @ref _ a hn=>
    cases rx;obtain ⟨xs,hx,hk,_⟩:=(show ObR X.K H mu a (.dcF kvs) from hs.ob n _ a en hn);exact main kvs a xs rfl hk (dh_frz I hx hk).2 hm
  ·exact back hm
 ·exact back hm
theorem s_setY (hu:X.A.units+64<cLine):PSet X (rU X.K (b3 gSetY)):=by
 intro pins s σ H o i v ov iv u Q I ro ri rv h;obtain ⟨mu,S,ds,d,S',hr,hs,hm,hc⟩:=id h;cases hr with
 | cons q1 t1=>cases t1 with
  | cons q2 t2=>cases t2 with
   | cons q3 t3=>
    cases t3;rename_i d1 d2 d3;dsimp only [b3] at hm;have back:gSetX d1 d2 d3 S=some (d,S')->wpAny (model X.prog X.w) X.A (setItem ov iv u) (fun _ s'=>∃ H',Inv X pins σ H' s'/\Q H') X.xe s:=fun hm=>s_setX hu pins s σ H o i v ov iv u Q I ro ri rv ⟨mu,S,[d1,d2,d3],d,S',.cons q1 (.cons q2 (.cons q3 .nil)),hs,hm,hc⟩;unfold gSetY at hm;split at hm
    ·rename_i n;split at hm
     ·rename_i kvs en;obtain ⟨k,ek,hm⟩:=oB1.mp hm;split at hm
      ·rename_i hl;cases hm;cases q1 with
       | @ref _ ad hn=>
        cases ro;obtain ⟨xs,hx,hk,hz⟩:=hs.dcT en hn;obtain ⟨hd,dd⟩:=dh_of I hx hk;obtain ⟨b,rfl,rfl,rk,dk,hi⟩:=key_at I q2 ri ek;refine wpAny_setItem_heap (hsz:=hz) (room_of hu) hi dd fun h' dd' hsame=>?_;have hq:∃ q,h'.get? _=some q:=let ⟨q,_,_,hq,_⟩:=dd';⟨q,hq⟩
        have put:Ext mu mu H (upd H ad (.ext (DictAt ad (storedH xs k b u)))):=Ext.put hx trivial (gM1 hn);refine ⟨_,d_write I (by rw [hx];exact True.intro) hsame hq (ext_new hd dd'),hc _ mu put (hs.put hn hx trivial ⟨_,upd_same,((hk.put dk rk rv q3).ext put),?_⟩)⟩;rw [<- (hk.put dk rk rv q3).length];have:=length_putD kvs k d3;lia
      ·cases hm
     ·rename_i en;split at hm
      ·rename_i k ek;cases hm;cases q1 with
       | @ref _ ad hn=>
        cases ro;obtain ⟨ws,hw,hk⟩:=hs.dct en hn;cases hk;obtain ⟨z,hd,vs,rel,dd⟩:=dk_of I.hok hw;cases rel;obtain ⟨b,rfl,rfl,rk,dk,hi⟩:=key_at I q2 ri ek;have dd2:s.heap.DictOfH (tkKind X.prog X.w) _ []:=empty_of dd;refine wpAny_setItem_heap (hsz:=Nat.zero_le _) (room_of hu) hi dd2 fun h' dd' hsame=>?_;have hq:∃ q,h'.get? _=some q:=let ⟨q,_,_,hq,_⟩:=dd';⟨q,hq⟩
        have put:Ext mu mu H (upd H ad (.ext (DictAt ad (storedH [] k b u)))):=Ext.put hw trivial (gM1 hn);exact ⟨_,d_write I (by rw [hw];exact True.intro) hsame hq (ext_new hd dd'),hc _ mu put (hs.put hn hw trivial ⟨_,upd_same,KT.ext put (.cons ⟨rfl,dk,rk,v,rv,q3⟩ .nil),(show 1<=sizeLine by decide)⟩)⟩
      ·exact back hm
     ·exact back hm
    ·exact back hm
end
noncomputable def truD (S:Sto)(d:D):Option Bool:=match d with
 | .non=>some false
 | .bl b=>some b
 | .int i=>some (i != 0)
 | .str y=>if y.length<=sizeLine then some ((y.length:Int) != 0) else none
 | .ref n=>match S[n]? with
  | some (.dct kvs)=>some (!kvs.isEmpty)
  | _=>(seqOf S d).map fun p=> !p.2.isEmpty
 | _=>(seqOf S d).map fun p=> !p.2.isEmpty
noncomputable def mTr (m:FE):FT:=fun r S=>(m r S).bind fun p=>(truD p.2 p.1).map fun b=>(b,p.2)
section
variable {K:Fg1} {H:Hp} {mu:List Addr} {S:Sto}
theorem seq_tru {d:D}{v:V}{b:Bool}(r:Rep K H mu d v)(s:Sim K H mu S)(h:((seqOf S d).map fun p=> !p.2.isEmpty)=some b):TruV K v H b:=by
 obtain ⟨⟨k,xs⟩,e,h⟩:=oM1.mp h;obtain ⟨a,vs,rfl,q,t⟩:=seqOf_at r s e;have z:(!xs.isEmpty) = !vs.isEmpty:=by cases t<;>rfl
 dsimp only at h;rw [z] at h;cases k
 ·exact .inr (.inl ⟨vs,q,h.symm⟩)
 ·exact .inl ⟨vs,q,h.symm⟩
theorem tru_at {d:D}{v:V}{b:Bool}(r:Rep K H mu d v)(s:Sim K H mu S)(h:truD S d=some b):TruV K v H b:=by
 cases d with
 | non=>cases r;cases h;rfl
 | bl k=>cases r;cases h;rfl
 | int i=>cases r;cases h;rfl
 | str y=>
  rw [truD] at h;split at h
  ·rename_i hl;cases r;cases h;exact ⟨hl,rfl⟩
  ·cases h
 | tup xs=>exact seq_tru r s h
 | rol xs=>exact seq_tru r s h
 | fn x=>cases h
 | ref n=>
  rw [truD] at h;split at h
  ·rename_i kvs en;cases h;cases r with
   | ref hn=>
    obtain ⟨ws,hw,hk⟩:=s.dct en hn;refine .inr (.inr ⟨ws,hw,?_⟩);cases hk<;>rfl
  ·exact seq_tru r s h
end
theorem xmt_tru {X:Cx}{x:Expr}{f:FE}(h:XE X x f)(he:∀ whole,isTrue x X.env whole=(do let v<-whole;standAt x.pos;holding [v] (truthy v)):=by intro _;rfl):XT X x (mTr f):=
 ⟨pt_imp (pt_truth h.h he) <| by
  rintro σ H Q ⟨r,mu,S,b,S',he,hs,hm,hc⟩;obtain ⟨⟨d1,S1⟩,e1,hm⟩:=oB1.mp hm;obtain ⟨b1,e2,hm⟩:=oM1.mp hm;cases hm;exact ⟨r,mu,S,_,_,he,hs,e1,fun v H1 mu1 x1 r1 s1=>⟨_,tru_at r1 s1 e2,hc H1 mu1 x1 s1⟩⟩⟩
section
variable {X:Cx} {pins:List (Addr×Obj)} {σ:L2.St} {H:Hp} {s:Shared} {mu:List Addr}
end
section
variable {X:Cx}
noncomputable def intsOf:List D->Option (List Int)
 | []=>some []
 | .int i::ds=>(intsOf ds).map fun is=>i::is
 | _=>none
noncomputable def ddI (ns:List Int):List Int:=ns.foldl step_dedup []
theorem dd_nodup:∀ (ns acc:List Int),acc.Nodup->(ns.foldl step_dedup acc).Nodup
 | [],acc,h=>h
 | n::ns,acc,h=>by
  rw [List.foldl_cons];refine dd_nodup ns _ ?_;unfold step_dedup;split
  ·exact h
  ·rename_i hn;rw [List.nodup_append];refine ⟨h,by simp,fun a ha b hb e=>?_⟩;simp at hb;apply hn;rw [List.any_eq_true];exact ⟨a,ha,by simp [e,hb]⟩
theorem intsOf_at {K:Fg1}{H:Hp}{mu:List Addr}:∀ {ds:List D} {vs:List V} {us:List Value} {ns:List Int},Reps K H mu ds vs->Vals vs us->intsOf ds=some ns->IntsAre us ns/\ns.length=ds.length:=by
 intro ds vs us ns h0 tt h
 induction h0 using Reps.ind generalizing us ns with
 | hn=>cases h;cases tt;exact ⟨.nil,rfl⟩
 | @hc d v ds vs r t ih=>
  cases d with
  | int i=>
   obtain ⟨c,e,h⟩:=oM1.mp h;cases h;cases r;cases tt with
   | cons r tt=>
    obtain ⟨e1,e2⟩:=ih tt e;obtain ⟨tk,rfl⟩:=r;exact ⟨.cons _ _ e1,by rw [lC1,lC1,e2]⟩
  | _=>cases h
end
@[elab_as_elim] theorem ln0 {P:List Value->Prop}{us:List Value}(l:us.length=0)(f:P []):P us:=by
 cases us with
 | nil=>exact f
 | cons _ _=>cases l
@[elab_as_elim] theorem ln1 {P:List Value->Prop}{us:List Value}(l:us.length=1)(f:∀ a,P [a]):P us:=by
 cases us with
 | nil=>cases l
 | cons a us=>exact ln0 (P:=fun us=>P (a::us)) (Nat.succ.inj l) (f a)
@[elab_as_elim] theorem ln2 {P:List Value->Prop}{us:List Value}(l:us.length=2)(f:∀ a b,P [a,b]):P us:=by
 cases us with
 | nil=>cases l
 | cons a us=>exact ln1 (P:=fun us=>P (a::us)) (Nat.succ.inj l) (f a)
@[elab_as_elim] theorem ln3 {P:List Value->Prop}{us:List Value}(l:us.length=3)(f:∀ a b c,P [a,b,c]):P us:=by
 cases us with
 | nil=>cases l
 | cons a us=>exact ln2 (P:=fun us=>P (a::us)) (Nat.succ.inj l) (f a)
@[elab_as_elim] theorem ln4 {P:List Value->Prop}{us:List Value}(l:us.length=4)(f:∀ a b c d,P [a,b,c,d]):P us:=by
 cases us with
 | nil=>cases l
 | cons a us=>exact ln3 (P:=fun us=>P (a::us)) (Nat.succ.inj l) (f a)
end Mi
namespace HT
open PySem PySem.Spec PyProof.Rows
variable {prog:Program} {w:World} {A:Around} {E:Value->Shared->Prop} {s:Shared}
theorem sliceApplied_rev {sl:Addr}{t:Tok}{n:Nat}{Q:Int×Int×Nat->Shared->Prop}(hs:s.heap.IsSliceOf sl .none .none (.int (-1) t))
  (h:Q ((n:Int)-1,-1,n) s):wpAny (model prog w) A (Builtin.Slice.sliceApplied (.ref sl) (pure (n:Int))) Q E s:=by
 obtain ⟨os,hos,hcs,hds⟩:=id hs;unfold Builtin.Slice.sliceApplied Builtin.Slice.sliceFields;refine wB1 (wB1 (wpAny_field hos hds (x:=.none) rfl (wB1 (wpAny_field hos hds (x:=.none) rfl (wB1 (wpAny_field hos hds (x:=.int (-1) t) rfl (wP1 ?_)))))));refine wB1 (slicePart_ (.int (-1) t) ?_);show wpAny _ _ (if ((-1:Int) == 0)=true then _ else _) _ _ s;rw [if_neg (by decide)];refine wB1 (slicePart_ .none (wB1 (slicePart_ .none (wB1 (wP1 ?_)))));show wpAny _ _ (pure ((n:Int)-1,(-1:Int),Builtin.Slice.slicePlaces ((n:Int)-1) (-1) (-1))) _ _ s;have e:Builtin.Slice.slicePlaces ((n:Int)-1) (-1) (-1)=n:=by
  unfold Builtin.Slice.slicePlaces;have h1:¬ (-1:Int)>0:=by lia
  have h2: -(-1:Int)=1:=rfl;simp only [h1,if_false,h2,Int.ediv_one];split<;>lia
 rw [e];exact wP1 h
theorem fm_congr {α β:Type}{f g:α->Option β}:∀ l:List α,(∀ m,m∈l->f m=g m)->l.filterMap f=l.filterMap g:=by
 intro l
 induction l with
 | nil=>intro _;rfl
 | cons x l ih=>intro h;rw [List.filterMap_cons,List.filterMap_cons,h x (mS1 ..),ih fun m hm=>h m (mC1 _ hm)]
theorem pick_rev (xs:Array Value):((List.range xs.size).filterMap fun (m:Nat)=>xs[(((xs.size:Int)-1)+(m:Int)*(-1)).toNat]?).toArray=xs.toList.reverse.toArray:=by
 congr 1
 have e:((List.range xs.size).filterMap fun (m:Nat)=>xs[(((xs.size:Int)-1)+(m:Int)*(-1)).toNat]?)=(List.range xs.size).filterMap fun m=>xs.toList.reverse[m]?:=by
  apply fm_congr;intro m hm;have hm:=List.mem_range.mp hm;rw [List.getElem?_reverse (by rw [Array.length_toList];exact hm),aT1,Array.length_toList]
  congr 1
  lia
 rw [e];have:=pick_run xs.toList.reverse.toArray 0 xs.size;rw [List.filterMap_map] at this;have e2:((fun x=>xs.toList.reverse.toArray[x]?)∘fun x=>0+x)=fun m=>xs.toList.reverse[m]?:=by funext m;simp
 rw [e2] at this;rw [this];simp only [List.drop_zero];exact List.take_of_length_le (by simp)
theorem getItem_tuple_rev {t sl:Addr}{items:Array Value}{tk:Tok}{Q:Value->Shared->Prop}(ht:IsTup s.heap t items)(hs:s.heap.IsSliceOf sl .none .none (.int (-1) tk))
  (h:Q (.ref s.heap.objs.size) {s with heap:=s.heap.push {cls:=.type "tuple",data:=.seq items.toList.reverse.toArray}})
  (hsz:items.size<=sizeLine):wpAny (model prog w) A (getItem (.ref t) (.ref sl)) Q E s:=by
 have htake:sizeOk (.seq items.toList.reverse.toArray):=by
  show items.toList.reverse.toArray.size<=sizeLine;rw [sT1,List.length_reverse,Array.length_toList];exact hsz
 obtain ⟨os,hos,hcs,hds⟩:=id hs;have hTs:s.TypeIs (.ref sl) "slice":=⟨os,hos,hcs⟩;unfold getItem
 try with_reducible refine wpAny_holding ?_
 first | refine wB1 (wP1 ?_) | skip
 refine wB1 (wpAny_sequenceKey ht.typeIs (by decide) ?_);refine wB1 (wpAny_callSpecial?_slot (name:=Str.ofString "__getitem__") ht.typeIs PyProof.Rows.slot_tuple_getitem
  (wE1 PyProof.Rows.slot_tuple_getitem ht.typeIs entry_tuple_getitem ?_ (args_tuple_getitem _ _)))
 show wpAny _ _ (Builtin.Tuple.tupleItemsOf (.ref t) >>= _) _ _ s;refine wB1 (tupleItemsOf_ ht ?_);refine wB1 (wpAny_typeOf hTs ?_);rw [if_pos (by decide)];refine wB1 (sliceApplied_rev hs ?_);have hno:¬ (((items.size:Int)-1 == 0&&(-1:Int) == 1&&items.size == items.size)=true):=by
  intro q;rw [bA1,bA1] at q;exact absurd (eq_of_beq q.1.2) (by decide)
 show wpAny _ _ (if ((items.size:Int)-1 == 0&&(-1:Int) == 1&&items.size == items.size)=true then _ else _) _ _ s;rw [if_neg hno,pick_rev]
 first
  | exact wB1 (m:=Builtin.Tuple.tupleExact _) (wO1 (wP1 ⟨_,rfl,wP1 h⟩) htake)
  | exact wB1 (m:=Builtin.Tuple.tupleExact _) (wO1 (wB1 (wP1 (wP1 ⟨_,rfl,wP1 h⟩))) htake)
  | exact wB1 (wB1 (m:=Builtin.Tuple.tupleExact _) (wO1 (wP1 (wP1 ⟨_,rfl,wP1 h⟩)) htake))
  | exact wB1 (wB1 (m:=Builtin.Tuple.tupleExact _) (wO1 (wP1 ⟨_,rfl,wP1 h⟩) htake))
end HT
namespace Mi
open PySem PySem.Spec PyProof.Rows L2
section
variable {X:Cx}
theorem vals_rev:∀ {xs:List V} {us:List Value},Vals xs us->Vals xs.reverse us.reverse:=by
 intro xs
 induction xs with
 | nil=>intro us r;cases r;exact .nil
 | cons x xs ih=>
  intro us r;cases r with
  | cons r1 r2=>rw [List.reverse_cons,List.reverse_cons];exact (ih r2).append (.cons r1 .nil)
end
end Mi
namespace HT
open PySem PySem.Spec PyProof.Rows
section
variable {prog:Program} {w:World} {A:Around} {R:Result->Shared->Prop} {I ax L:Addr} {xs:Array Value}
end
section
variable {prog:Program} {w:World} {A:Around} {E:Value->Shared->Prop} {s:Shared}
end
end HT
namespace Mi
open PySem PySem.Spec PyProof.Rows L2
section
variable {X:Cx}
end
section
variable {elt tg iter tg2 iter2 tg3 iter3:Expr} {ifs ifs2 ifs3:List Expr} {scope:Scope} {pos:Pos}
end
section
variable {X:Cx}
end
noncomputable def insI (a:Int):List Int->List Int
 | []=>[a]
 | b::l=>if a<=b then a::b::l else b::insI a l
noncomputable def sortI:List Int->List Int
 | []=>[]
 | a::l=>insI a (sortI l)
theorem insI_perm (a:Int):∀ l:List Int,(insI a l).Perm (a::l)
 | []=>.refl _
 | b::l=>by
  rw [insI];split
  ·exact .refl _
  ·exact ((insI_perm a l).cons b).trans (.swap _ _ _)
theorem sortI_perm:∀ l:List Int,(sortI l).Perm l
 | []=>.refl _
 | a::l=>(insI_perm a _).trans ((sortI_perm l).cons a)
theorem insI_pw {a:Int}:∀ {l:List Int},l.Pairwise (· <= ·)->(insI a l).Pairwise (· <= ·)
 | [],_=>List.pairwise_singleton _ _
 | b::l,h=>by
  rw [List.pairwise_cons] at h;rw [insI];split
  ·rename_i hab;rw [List.pairwise_cons,List.pairwise_cons];exact ⟨fun x hx=>by
    rcases List.mem_cons.mp hx with z | z
    ·lia
    ·have:=h.1 x z;lia,h.1,h.2⟩
  ·rename_i hab;rw [List.pairwise_cons];refine ⟨fun x hx=>?_,insI_pw h.2⟩;rcases List.mem_cons.mp ((insI_perm a l).mem_iff.mp hx) with z | z
   ·lia
   ·exact h.1 x z
theorem sortI_pw:∀ l:List Int,(sortI l).Pairwise (· <= ·)
 | []=>.nil
 | a::l=>insI_pw (sortI_pw l)
theorem pw_uniq:∀ {a b:List Int},a.Perm b->a.Pairwise (· <= ·)->b.Pairwise (· <= ·)->a=b
 | [],b,p,_,_=>(List.nil_perm.mp p).symm
 | x::a,[],p,_,_=>absurd p.length_eq (by simp)
 | x::a,y::b,p,h1,h2=>by
  rw [List.pairwise_cons] at h1 h2;have e:x=y:=by
   have hx:=p.mem_iff.mp (mS1 (a:=x) (l:=a));have hy:=p.mem_iff.mpr (mS1 (a:=y) (l:=b));rcases List.mem_cons.mp hx with z | z
   ·exact z
   ·rcases List.mem_cons.mp hy with z' | z'
    ·exact z'.symm
    ·have:=h2.1 x z;have:=h1.1 y z';lia
  subst e;rw [pw_uniq (List.perm_cons x |>.mp p) h1.2 h2.2]
noncomputable def intsD:List D->Option (List Int)
 | []=>some []
 | .int i::l=>(intsD l).map fun t=>i::t
 | _=>none
section
variable {X:Cx}
theorem ints_back:∀ {us:List Value} {ns:List Int},IntsAre us ns->Vals (ns.map V.int) us:=by
 intro us ns h
 induction h with
 | nil=>exact .nil
 | cons i t _ ih=>exact .cons ⟨t,rfl⟩ ih
end
end Mi
namespace Mi
open PySem PySem.Spec PyProof.Rows L2
theorem pickL_rev (its:List Value):slicePick its.toArray none none (some (-1))=its.reverse.toArray:=by
 have h:=HT.pick_rev its.toArray;rw [sT1] at h;unfold slicePick;have hb:sliceBounds none none (some (-1)) its.toArray.size=(((its.length:Nat):Int)-1,-1,-1):=by
  rw [sT1];unfold sliceBounds;have h1:¬ ((some (-1:Int)).getD 1>0):=by decide
  simp only [h1,if_false];rfl
 rw [hb];unfold sliceRange;have hc:(if ((its.length:Nat):Int)-1 > -1 then (((its.length:Nat):Int)-1 - -1 - -1-1)/(- -1) else 0).toNat=its.length:=by
  have h2: - (-1:Int)=1:=rfl;rw [h2,Int.ediv_one];split<;>lia
 dsimp only;rw [if_neg (by decide),hc,List.filterMap_map];have e:((fun x=>its.toArray[x]?)∘fun (k:Nat)=>((its.length:Int)-1 + -1*(k:Int)).toNat)=fun (m:Nat)=>its.toArray[(((its.length:Int)-1)+(m:Int)*(-1)).toNat]?:=by
  funext m
  have em:((its.length:Int)-1 + -1*(m:Int)).toNat=(((its.length:Int)-1)+(m:Int)*(-1)).toNat:=by rw [Int.mul_comm]
  show its.toArray[((its.length:Int)-1 + -1*(m:Int)).toNat]? = its.toArray[(((its.length:Int)-1)+(m:Int)*(-1)).toNat]?;rw [em]
 rw [e,h]
section
variable {X:Cx}
noncomputable def tSlRY (K:Fg1)(te tk:TE):TE:=fun σ H Q=>te σ H fun x H1=>tk σ H1 fun k H2=>k = .int (-1)/\((∃ a xs,x = .ref a/\SqT K H2 a xs /\ ∀ p,H2 p=none->Q (.ref p) (upd H2 p (.tup xs.reverse)))\/(∃ a xs,x = .ref a/\SqL K H2 a xs /\ ∀ p,H2 p=none->Q (.ref p) (upd H2 p (.lst xs.reverse))))
theorem pe_sliceRY {e se:Expr}{te tk:TE}{pos p2:Pos}(he:PE X e te)(hk:PE X se tk):PE X (.Subscript e (.Slice none none (some se) p2) pos) (tSlRY X.K te tk):=by
 intro pins s σ H Q I h;refine Subscript_ (thn (he pins s σ H _ I h) fun v s1 ⟨x,H1,I1,r1,q1⟩=>?_);refine wpAny_Slice ?_;rw [evalPart_none];refine wP1 ?_;refine wP1 ?_;rw [evalPart_some];refine thn (hk pins s1 σ H1 _ I1 q1) fun u s2 ⟨k,H2,I2,rk,q2⟩=>?_;obtain ⟨rfl,q2⟩:=q2;obtain ⟨t,rfl⟩:=rk;have I4:Inv X pins σ H2 {s2 with heap:=s2.heap.push {cls:=.type "slice",data:=.fields #[.none,.none,.int (-1) t]}}:=I2.kept (t':=s2.toks) fun b ob q=>hP1 _ q;rcases q2 with ⟨a,xs,rfl,hx,q⟩ | ⟨a,xs,rfl,hx,q⟩
 ·cases r1;obtain ⟨its,r,ht,hz⟩:=I4.tuple hx;have hlen:its.toArray.size=xs.length:=by rw [sT1];exact r.length.symm
  show wpAny (model X.prog X.w) X.A (subscriptTail e (.Slice none none (some se) p2) (.ref a) (.ref s2.heap.objs.size)) (EP X pins σ Q) X.xe {s2 with heap:=s2.heap.push {cls:=.type "slice",data:=.fields #[.none,.none,.int (-1) t]}};refine tail_any (ops:=[.ref a,.ref s2.heap.objs.size]) ht.typeIs PyProof.Rows.slot_tuple_getitem.lookup ?_ (by with_unfolding_all rfl);refine HT.getItem_tuple_rev ht (Heap.IsSliceOf.new ..) ?_ (by rw [hlen];exact hz);refine ⟨.ref _,_,I4.laid (t':=s2.toks) (o:=.tup xs.reverse) (fun b ob q=>hP1 _ q) (nR1 _) ?_,rfl,q _ (I4.hok.fresh (nR1 _))⟩;exact ⟨by rw [List.length_reverse];exact hz,_,vals_rev r,IsTup.new _ _⟩
 ·cases r1;obtain ⟨its,r,ht,hz⟩:=I4.list hx;have hlen:=r.length;show wpAny (model X.prog X.w) X.A (subscriptTail e (.Slice none none (some se) p2) (.ref a) (.ref s2.heap.objs.size)) (EP X pins σ Q) X.xe {s2 with heap:=s2.heap.push {cls:=.type "slice",data:=.fields #[.none,.none,.int (-1) t]}};refine tail_any (ops:=[.ref a,.ref s2.heap.objs.size]) ht.isList.typeIs slot_list_getitem.lookup ?_ (by with_unfolding_all rfl);refine wpAny_getItem_list_slice ht.isList (Heap.IsSliceOf.new ..) .none .none (.int (-1) t) (by decide) ?_ (by rw [sT1];lia);rw [pickL_rev];refine ⟨.ref _,_,I4.laid (t':=s2.toks) (o:=.lst xs.reverse) (fun b ob q=>hP1 _ q) (nR1 _) ?_,rfl,q _ (I4.hok.fresh (nR1 _))⟩;exact ⟨by rw [List.length_reverse];exact hz,_,0,vals_rev r,hS1 _ rfl⟩
noncomputable def revY (S:Sto)(d k:D):Option (D×Sto):=match k with
 | .int i=>if i = -1 then (seqOf S d).map fun p=>if p.1=true then (.ref S.length,S++[.lst p.2.reverse]) else (.tup p.2.reverse,S) else none
 | _=>none
noncomputable def mSlRY (m a:FE):FE:=fun r S=>(m r S).bind fun p=>(a r p.2).bind fun b=>revY b.2 p.1 b.1
theorem xme_sliceRY {e se:Expr}{m a:FE}{pos p2:Pos}(h:XE X e m)(hl:XE X se a):XE X (.Subscript e (.Slice none none (some se) p2) pos) (mSlRY m a):=
 ⟨pe_imp (pe_sliceRY h.h hl.h) <| by
  rintro σ H Q ⟨r,mu,S,d,S',he,hs,hm,hc⟩;obtain ⟨⟨d1,S1⟩,e1,hm⟩:=oB1.mp hm;obtain ⟨⟨d2,S2⟩,e2,hm⟩:=oB1.mp hm;refine ⟨r,mu,S,d1,S1,he,hs,e1,fun v H1 mu1 x1 r1 s1=>?_⟩;refine ⟨r,mu1,S1,d2,S2,he.ext x1,s1,e2,fun u H2 mu2 x2 r2 s2=>?_⟩;cases d2 with
  | int i=>
   dsimp only [revY] at hm;split at hm
   ·rename_i hi;subst hi;cases r2;refine ⟨rfl,?_⟩;obtain ⟨⟨k,xs⟩,e4,hm⟩:=oM1.mp hm;obtain ⟨c,vs,rfl,q,t⟩:=seqOf_at (r1.ext x2) s2 e4;cases k with
    | true=>
     cases hm;right;exact ⟨c,vs,rfl,q,fun p hp=>hc _ _ (mu2++[p]) ((x1.trans x2).trans (Ext.new_ hp)) (.ref (new_at s2.len p)) (s2.newL t.reverse hp)⟩
    | false=>
     simp only [bF1,if_false] at hm;cases hm;left;exact ⟨c,vs,rfl,q,fun p hp=>hc _ _ mu2 ((x1.trans x2).trans (Ext.fresh hp)) (.tup (SqT.of upd_same) (t.reverse.ext (Ext.fresh hp))) (s2.fresh hp)⟩
   ·cases hm
  | _=>cases hm⟩
end
theorem unds_ints (n:Nat):∀ ns:List Int,D.unds n (ns.map D.int)=true
 | []=>rfl
 | _::ns=>by rw [mP1,D.unds,unds_ints n ns];rfl
theorem gc_same {n:Nat}{d:D}{S:Sto}(h:S.length=n):gc n (d,S)=(d,S):=by
 unfold gc;split
 ·rw [show (d,S).2=S from rfl,<- h,List.take_length]
 ·rfl
theorem call_shut {n:Nat}{f:FN}{ds:List D}{S S1:Sto}{d:D}(h:f ds []=some (d,S1))(hn:ds.length=n)(hu:D.unds 0 ds=true)(hd:d.und 0=true):mCall n f ds S=some (d,S):=by
 unfold mCall callG;rw [if_pos hn,if_pos hu,h,oP1,if_pos hd]
theorem call_new {n:Nat}{f:FN}{ds:List D}{S S1:Sto}{d:D}(h:f ds []=some (d,S1))(hn:ds.length=n)(hu:D.unds 0 ds=true)(hd:d.und 0=false):mCall n f ds S=some (d.sh S.length,S++S1.map (Ob.sh S.length)):=by
 unfold mCall callG;rw [if_pos hn,if_pos hu,h,oP1,if_neg (by dsimp only;rw [hd];decide)]
theorem call_open {n:Nat}{f:FN}{ds:List D}{S S1:Sto}{d:D}(h:f ds S=some (d,S1))(hn:ds.length=n)(hu:D.unds 0 ds=false):mCall n f ds S=some (gc S.length (d,S1)):=by
 unfold mCall callG;rw [if_pos hn,if_neg (by rw [hu];decide),h,oP1]
theorem call_same {n:Nat}{f:FN}{ds:List D}{S S1:Sto}{d:D}(h:f ds S=some (d,S1))(hn:ds.length=n)(hu:D.unds 0 ds=false)(hl:S1.length=S.length):mCall n f ds S=some (d,S1):=by
 rw [call_open h hn hu,gc_same hl]
theorem mulF1 {i j:Int}(h1: -(2^64)<i)(h2:i<2^64):mulFits i j=true:=by
 unfold mulFits;simp only [Bool.or_eq_true,bA1,decide_eq_true_eq];exact .inl (.inl ⟨h1,h2⟩)
theorem mulF2 {i j:Int}(h1: -(2^64)<j)(h2:j<2^64):mulFits i j=true:=by
 unfold mulFits;simp only [Bool.or_eq_true,bA1,decide_eq_true_eq];exact .inl (.inr ⟨h1,h2⟩)
theorem okC_one {S:Sto}{n:Nat}{xs:List D}(h:S[n]? = some (.lst xs)):okC S [(n,xs)]=true:=by
 rw [okC,h];simp [D.sames_refl,okC]
theorem okC_two {S:Sto}{n k:Nat}{xs ys:List D}(h:S[n]? = some (.lst xs))(h2:S[k]? = some (.lst ys)):okC S [(n,xs),(k,ys)]=true:=by
 rw [okC,h,okC_one h2];simp [D.sames_refl]
noncomputable def refs (n:Nat):Nat->List D
 | 0=>[]
 | k+1=>.ref n::refs (n+1) k
theorem unds_mem {n:Nat}:∀ {xs:List D} {x:D},D.unds n xs=true->x∈xs->x.und n=true
 | y::ys,x,h,hx=>by
  rw [D.unds,bA1] at h;rcases List.mem_cons.mp hx with e | e
  ·rw [e];exact h.1
  ·exact unds_mem h.2 e
theorem seqOf_und {S:Sto}{d:D}(h:d.und 0=true):seqOf S d=seqOf [] d:=by
 cases d with
 | ref n=>simp [D.und] at h
 | _=>rfl
theorem seqOf_unds {S:Sto}{d:D}(h:d.und 0=true){p:Bool×List D}(e:seqOf S d=some p):D.unds 0 p.2=true:=by
 cases d with
 | ref n=>simp [D.und] at h
 | tup xs=>cases e;simpa [D.und] using h
 | rol xs=>cases e;simpa [D.und] using h
 | _=>cases e
theorem eqL_congr {f f':D->D->Option Bool}:∀ {xs ys:List D},(∀ x∈xs,∀ y∈ys,f x y=f' x y)->eqL f xs ys=eqL f' xs ys
 | [],[],_=>rfl
 | [],_::_,_=>rfl
 | _::_,[],_=>rfl
 | x::xs,y::ys,h=>by
  rw [eqL,eqL,h x mS1 y mS1,eqL_congr fun a ha b hb=>h a (mC1 _ ha) b (mC1 _ hb)]
theorem isDc_und {S:Sto}{d:D}(h:d.und 0=true):isDc S d=false:=by
 cases d with
 | ref n=>simp [D.und] at h
 | _=>rfl
theorem eqN_und {S:Sto}:∀ {n:Nat} {d e:D},d.und 0=true->e.und 0=true->eqN S n d e=eqN [] n d e
 | 0,_,_,_,_=>rfl
 | n+1,d,e,hd,he=>by
  rw [eqN,eqN,seqOf_und hd,seqOf_und he];unfold eqO;simp only [isDc_und hd,isDc_und he];cases h1:seqOf [] d with
  | none=>cases seqOf [] e<;>rfl
  | some p=>
   cases h2:seqOf [] e with
   | none=>rfl
   | some q=>
    dsimp only;have u1:=seqOf_unds hd h1;have u2:=seqOf_unds he h2;rw [eqL_congr (f:=eqN S n) (f':=eqN [] n) fun x hx y hy=>eqN_und (unds_mem u1 hx) (unds_mem u2 hy)]
theorem ltL_congr {f f' g g':D->D->Option Bool}:∀ {xs ys:List D},(∀ x∈xs,∀ y∈ys,f x y=f' x y)->(∀ x∈xs,∀ y∈ys,g x y=g' x y)->ltL f g xs ys=ltL f' g' xs ys
 | [],[],_,_=>rfl
 | [],_::_,_,_=>rfl
 | _::_,[],_,_=>rfl
 | x::xs,y::ys,h,k=>by
  rw [ltL,ltL,h x mS1 y mS1,k x mS1 y mS1,ltL_congr (fun a ha b hb=>h a (mC1 _ ha) b (mC1 _ hb)) fun a ha b hb=>k a (mC1 _ ha) b (mC1 _ hb)]
theorem ltN_und {S:Sto}:∀ {n:Nat} {d e:D},d.und 0=true->e.und 0=true->ltN S n d e=ltN [] n d e
 | 0,_,_,_,_=>rfl
 | n + 1,d,e,hd,he=>by
  rw [ltN,ltN,seqOf_und hd,seqOf_und he];cases ltF d e with
  | some b=>rfl
  | none=>
   cases h1:seqOf [] d with
   | none=>rfl
   | some p=>
    cases h2:seqOf [] e with
    | none=>rfl
    | some q=>
     dsimp only;have u1:=seqOf_unds hd h1;have u2:=seqOf_unds he h2;rw [ltL_congr (f:=eqN S n) (f':=eqN [] n) (g:=ltN S n) (g':=ltN [] n) (fun x hx y hy=>eqN_und (unds_mem u1 hx) (unds_mem u2 hy)) fun x hx y hy=>ltN_und (unds_mem u1 hx) (unds_mem u2 hy)]
open Classical in
noncomputable def rkV (ws:List Value)(x:Value):Nat:=ws.findIdx fun y=>decide (y=x)
theorem rkV_at {ws:List Value}{x:Value}(h:x∈ws):ws[rkV ws x]? = some x:=by
 have hl:rkV ws x<ws.length:=List.findIdx_lt_length_of_exists ⟨x,h,by simp⟩;rw [gG1 hl];have:=List.findIdx_getElem (w:=hl);have e:ws[rkV ws x]=x:=of_decide_eq_true this;rw [e]
noncomputable def kR (ws:List Value)(xs:Array Keyed)(i:Nat):Nat:=(xs[i]?.map fun p=>rkV ws p.1).getD 0
theorem kR_congr {ws:List Value}{xs ys:Array Keyed}{i j:Nat}(h:xs[i]? = ys[j]?):kR ws xs i=kR ws ys j:=by unfold kR;rw [h]
noncomputable def Up (ws:List Value)(xs:Array Keyed)(k:Nat):Prop:=∀ i j,i<j->j<k->kR ws xs i<kR ws xs j
noncomputable def Dn (ws:List Value)(xs:Array Keyed)(k:Nat):Prop:=∀ i j,i<j->j<k->kR ws xs j<kR ws xs i
structure SoB (κ:SortKind)(a₀:Array Keyed)(st:SortSt):Prop where
 perm:(arrOf st).Perm a₀
 kind:kindOf st=κ
 failed:failedOf st=none
 pend:pendingOf st = #[]
theorem SoB.arr {κ:SortKind}{a₀:Array Keyed}{st:SortSt}(b:SoB κ a₀ st){xs:Array Keyed}(p:xs.Perm (arrOf st)):SoB κ a₀ (setArr st xs):=⟨p.trans b.perm,b.kind,b.failed,b.pend⟩
structure SoC (prog:Program)(w:World)(A:Around)(s:Shared)(κ:SortKind)(ws:List Value)(a₀:Array Keyed):Prop where
 nd:ws.Nodup
 keys:(a₀.toList.map (·.1)).Perm ws
 lt:∀ (x y:Value) (i j:Nat),ws[i]? = some x->ws[j]? = some y->i≠j -> ∀ (E:Value->Shared->Prop) (Q:Bool->Shared->Prop),Q (decide (i<j)) s->wpAny (model prog w) A (keyLt' κ x y) Q E s
section
variable {prog:Program} {w:World} {A:Around} {E:Value->Shared->Prop} {s:Shared} {κ:SortKind} {ws:List Value} {a₀:Array Keyed}
theorem SoC.at_ (C:SoC prog w A s κ ws a₀){xs:Array Keyed}(p:xs.Perm a₀){i:Nat}(hi:i<a₀.size):∃ x q,xs[i]? = some (x,q)/\ws[kR ws xs i]? = some x:=by
 have hi':i<xs.size:=by rw [p.size_eq];exact hi
 refine ⟨xs[i].1,xs[i].2,aG1 hi',?_⟩;have hm:xs[i]∈a₀.toList:=(Array.perm_iff_toList_perm.mp p).mem_iff.mp (by simp);have:=rkV_at (C.keys.mem_iff.mp (List.mem_map.mpr ⟨_,hm,rfl⟩));unfold kR;rw [aG1 hi'];exact this
theorem SoC.inj (C:SoC prog w A s κ ws a₀){xs:Array Keyed}(p:xs.Perm a₀){i j:Nat}(hi:i<a₀.size)(hj:j<a₀.size)(h:kR ws xs i=kR ws xs j):i=j:=by
 obtain ⟨x,q,e1,f1⟩:=C.at_ p hi;obtain ⟨y,r,e2,f2⟩:=C.at_ p hj;rw [h,f2] at f1;cases f1;have nd:(xs.toList.map (·.1)).Nodup:=(((Array.perm_iff_toList_perm.mp p).map (·.1)).trans C.keys).nodup_iff.mpr C.nd;have g1:(xs.toList.map (·.1))[i]? = some x:=by rw [gP1,aT1,e1];rfl
 have g2:(xs.toList.map (·.1))[j]? = some x:=by rw [gP1,aT1,e2];rfl
 exact (List.getElem?_inj (gE1.mp g1).1 nd).mp (g1.trans g2.symm)
theorem SoC.cmp (C:SoC prog w A s κ ws a₀){st:SortSt}{i j:Nat}{Q:Option Bool->SortSt->Prop}(b:SoB κ a₀ st)(hi:i<a₀.size)(hj:j<a₀.size)(hij:i≠j)
  (h:Q (some (decide (kR ws (arrOf st) i<kR ws (arrOf st) j))) st):wpS (model prog w) A E s (ltAt' i j) Q st:=by
 obtain ⟨x,q,e1,f1⟩:=C.at_ b.perm hi;obtain ⟨y,r,e2,f2⟩:=C.at_ b.perm hj;have hne:kR ws (arrOf st) i≠kR ws (arrOf st) j:=fun z=>hij (C.inj b.perm hi hj z);rw [ltAt'_eq];refine wpS_bind (wpS_get ?_);show wpS _ _ _ _ (do let x<-elem' (arrOf st) i;let y<-elem' (arrOf st) j;lt' x y) Q st;rw [elem'_eq,elem'_eq,e1,e2];refine wpS_bind (wpS_pure (wpS_bind (wpS_pure ?_)));rw [lt'_eq];refine wpS_bind (wpS_get ?_);rw [b.kind];exact wpS_bind (wpS_lift (wpAny_attempt (C.lt x y _ _ f1 f2 hne _ _ ⟨rfl,wpS_pure h⟩)))
theorem Up.one {xs:Array Keyed}:Up ws xs 1:=fun i j h1 h2=>by lia
theorem Up.snoc {xs:Array Keyed}{n:Nat}(u:Up ws xs n)(h:n=0\/kR ws xs (n-1)<kR ws xs n):Up ws xs (n+1):=fun i j h1 h2=>by
 by_cases z:j<n
 ·exact u i j h1 z
 ·have ej:j=n:=by lia
  subst ej;rcases h with h | h
  ·lia
  ·by_cases z2:i=j-1
   ·rw [z2];exact h
   ·exact Nat.lt_trans (u i (j-1) (by lia) (by lia)) h
theorem Dn.snoc {xs:Array Keyed}{n:Nat}(u:Dn ws xs n)(h:kR ws xs n<kR ws xs (n-1)):Dn ws xs (n+1):=fun i j h1 h2=>by
 by_cases z:j<n
 ·exact u i j h1 z
 ·have ej:j=n:=by lia
  subst ej;by_cases z2:i=j-1
  ·rw [z2];exact h
  ·exact Nat.lt_trans h (u i (j-1) (by lia) (by lia))
theorem so_asc (C:SoC prog w A s κ ws a₀){st:SortSt}{a nrem:Nat}{Q:AscSt->SortSt->Prop}(hn:nrem<=a₀.size)(ha:1<=a)(han:a<=nrem)(b:SoB κ a₀ st)(u:Up ws (arrOf st) a)
  (h:∀ n,a<=n->n<=nrem->Up ws (arrOf st) n->(n=nrem\/kR ws (arrOf st) n<kR ws (arrOf st) (n-1))->Q (none,n) st):wpS (model prog w) A E s (ascLoop a nrem) Q st:=by
 unfold ascLoop;refine wpS_forRange (fun x c st'=>st'=st/\c=(none,x)/\Up ws (arrOf st) x) ?_ ?_ ⟨rfl,rfl,u⟩
 ·rintro x c st' h1 h2 ⟨rfl,rfl,u'⟩;refine wpS_bind (C.cmp b (by lia) (by lia) (by lia) ?_);by_cases z:kR ws (arrOf st') x<kR ws (arrOf st') (x-1)
  ·simp only [z,decide_true,if_true];exact wpS_pure (h x h1 (by lia) u' (.inr z))
  ·simp only [z,decide_false,bF1,if_false];have:kR ws (arrOf st') x≠kR ws (arrOf st') (x-1):=fun e=>by have:=C.inj b.perm (by lia) (by lia) e;lia
   exact wpS_pure ⟨rfl,rfl,u'.snoc (.inr (by lia))⟩
 ·rintro c st' ⟨rfl,rfl,u'⟩;rw [Nat.max_eq_right han] at u' ⊢;exact h nrem han (nR1 _) u' (.inl rfl)
theorem so_tail (C:SoC prog w A s κ ws a₀){st:SortSt}{n nrem:Nat}{Q:Option Nat->SortSt->Prop}(hn:nrem<=a₀.size)(h1:1<=n)(hnn:n<=nrem)(b:SoB κ a₀ st)(d:Dn ws (arrOf st) n)
  (h:∀ m st',SoB κ a₀ st'->m<=nrem->Up ws (arrOf st') m->Q (some m) st'):wpS (model prog w) A E s (tail3 n nrem) Q st:=by
 unfold tail3;have hsz:n<=(arrOf st).size:=by rw [b.perm.size_eq];lia
 have b':SoB κ a₀ (setArr st (mirror (arrOf st) 0 n ((n-0)/2))):=b.arr (mirror_perm _ _ _ _);refine wpS_bind (wpS_reverse (wpS_bind (so_asc C hn h1 hnn b' (fun i j h3 h4=>?_) fun m h3 h4 u _=>wpS_pure (h m _ b' h4 u))));have g:∀ k,k<n->kR ws (mirror (arrOf st) 0 n ((n-0)/2)) k=kR ws (arrOf st) (n-1-k):=fun k hk=>kR_congr (by
  rw [getElem?_mirror_all hsz,if_pos (by lia)]
  congr 1;lia)
 show kR ws (mirror (arrOf st) 0 n ((n-0)/2)) i<kR ws (mirror (arrOf st) 0 n ((n-0)/2)) j;rw [g i (by lia),g j h4];exact d _ _ (by lia) (by lia)
theorem so_desc (C:SoC prog w A s κ ws a₀){st:SortSt}{n nrem:Nat}{Q:DescSt->SortSt->Prop}(hn:nrem<=a₀.size)(h1:1<=n)(hnn:n<=nrem)(b:SoB κ a₀ st)(d:Dn ws (arrOf st) n)
  (h:∀ m,n<=m->m<=nrem->Dn ws (arrOf st) m->Q (none,m,0) st):wpS (model prog w) A E s (descLoop n nrem) Q st:=by
 unfold descLoop;refine wpS_forRange (fun x c st'=>st'=st/\c=(none,x,0)/\Dn ws (arrOf st) x) ?_ ?_ ⟨rfl,rfl,d⟩
 ·rintro x c st' h2 h3 ⟨rfl,rfl,d'⟩;dsimp only;refine wpS_bind (C.cmp b (by lia) (by lia) (by lia) ?_);by_cases z:kR ws (arrOf st') x<kR ws (arrOf st') (x-1)
  ·simp only [z,decide_true,if_true];exact wpS_pure ⟨rfl,rfl,d'.snoc z⟩
  ·simp only [z,decide_false,bF1,if_false];have z2:kR ws (arrOf st') (x-1)<kR ws (arrOf st') x:=by
    have:kR ws (arrOf st') x≠kR ws (arrOf st') (x-1):=fun e=>by have:=C.inj b.perm (by lia) (by lia) e;lia
    lia
   refine wpS_bind (C.cmp b (by lia) (by lia) (by lia) ?_);simp only [z2,decide_true,if_true];exact wpS_pure (h x h2 (by lia) d')
 ·rintro c st' ⟨rfl,rfl,d'⟩;rw [Nat.max_eq_right hnn] at d' ⊢;exact h nrem hnn (nR1 _) d'
theorem so_run (C:SoC prog w A s κ ws a₀){st:SortSt}{nrem:Nat}{Q:Option Nat->SortSt->Prop}(hn:nrem<=a₀.size)(h1:1<=nrem)(b:SoB κ a₀ st)
  (h:∀ m st',SoB κ a₀ st'->m<=nrem->Up ws (arrOf st') m->Q (some m) st'):wpS (model prog w) A E s (countRun' 0 nrem) Q st:=by
 rw [countRun0_eq];refine wpS_bind (so_asc C hn (nR1 1) h1 b .one fun n h2 h3 u or=>?_);dsimp only;by_cases z:n=nrem
 ·rw [if_pos (by simpa using z)];exact wpS_pure (h n st b h3 u)
 ·rw [if_neg (by simpa using z)];have hl:=or.resolve_left z;by_cases z2:n>1
  ·rw [if_pos z2];have:=u 0 (n-1) (by lia) (by lia);refine wpS_bind (C.cmp b (by lia) (by lia) (by lia) ?_);simp only [this,decide_true,if_true];exact wpS_pure (h n st b h3 u)
  ·rw [if_neg z2];have e:n=1:=by lia
   subst e;unfold descPart;refine wpS_bind (wpS_lift (wpAny_rule ⟨rfl,?_⟩));refine wpS_bind (so_desc C hn (by lia) (by lia) b (fun i j h4 h5=>?_) fun m h4 h5 d=>?_)
   ·have ei:i=0:=by lia
    have ej:j=1:=by lia
    subst ei;subst ej;exact hl
   ·dsimp only;rw [if_neg (by lia)];exact so_tail C hn (by lia) h5 b d h
theorem so_ins (C:SoC prog w A s κ ws a₀){st:SortSt}{n ok:Nat}{Q:Bool->SortSt->Prop}(hn:n<=a₀.size)(hok:ok<=n)(b:SoB κ a₀ st)(u:Up ws (arrOf st) ok)
  (h:∀ st',SoB κ a₀ st'->Up ws (arrOf st') n->Q true st'):wpS (model prog w) A E s (binarySort' 0 n ok) Q st:=by
 rw [binarySort'_eq];simp only [Nat.zero_add];refine wpS_bind (wpS_mono (wpS_forRange (fun k c st'=>c=(none,())/\SoB κ a₀ st'/\Up ws (arrOf st') (min k n)) (Q:=fun c st'=>c=(none,())/\SoB κ a₀ st'/\Up ws (arrOf st') n) ?_ ?_ ⟨rfl,b,fun i j h1 h2=>?_⟩) ?_)
 ·rintro k c st' hk1 hk2 ⟨rfl,b',u'⟩;rw [Nat.min_eq_left (by lia)] at u';have hks:k<(arrOf st').size:=by rw [b'.perm.size_eq];lia
  refine wpS_bind (wpS_mono (wpS_forRange (fun x c st2=>st2=st' /\ ∃ l r,c=(none,l,r)/\l<=r/\r<=k/\r-l<=k-x/\(∀ i,i<l->kR ws (arrOf st') i<kR ws (arrOf st') k) /\ ∀ i,r<=i->i<k->kR ws (arrOf st') k<kR ws (arrOf st') i)
   (Q:=fun c st2=>st2=st' /\ ∃ l r,c=(none,l,r)/\l<=k/\(∀ i,i<l->kR ws (arrOf st') i<kR ws (arrOf st') k) /\ ∀ i,l<=i->i<k->kR ws (arrOf st') k<kR ws (arrOf st') i) ?_ ?_ ⟨rfl,0,k,rfl,by lia,by lia,by lia,fun i h1=>by lia,fun i h1 h2=>by lia⟩) ?_)
  ·rintro x c st2 _ hx ⟨rfl,l,r,rfl,h1,h2,h3,h4,h5⟩;dsimp only;by_cases z:l>=r
   ·rw [if_pos z];have e:l=r:=by lia
    subst e;exact wpS_pure ⟨rfl,l,l,rfl,h2,h4,h5⟩
   ·rw [if_neg z];refine wpS_bind (C.cmp b' (by lia) (by lia) (by lia) ?_);by_cases z2:kR ws (arrOf st2) k<kR ws (arrOf st2) ((l+r)/2)
    ·simp only [z2,decide_true,if_true];refine wpS_pure ⟨rfl,l,(l+r)/2,rfl,by lia,by lia,by lia,h4,fun i h6 h7=>?_⟩;by_cases z3:(l+r)/2=i
     ·rw [<- z3];exact z2
     ·exact Nat.lt_trans z2 (u' _ i (by lia) h7)
    ·simp only [z2,decide_false,bF1,if_false];refine wpS_pure ⟨rfl,(l+r)/2+1,r,rfl,by lia,by lia,by lia,fun i h6=>?_,h5⟩;have z4:kR ws (arrOf st2) ((l+r)/2)<kR ws (arrOf st2) k:=by
      have:kR ws (arrOf st2) k≠kR ws (arrOf st2) ((l+r)/2):=fun e=>by have:=C.inj b'.perm (by lia) (by lia) e;lia
      lia
     by_cases z3:i=(l+r)/2
     ·rw [z3];exact z4
     ·exact Nat.lt_trans (u' i _ (by lia) (by lia)) z4
  ·rintro c st2 ⟨rfl,l,r,rfl,h1,h2,h3,h4,h5⟩;have e:l=r:=by lia
   subst e;exact ⟨rfl,l,l,rfl,h2,h4,h5⟩
  ·rintro c st2 ⟨rfl,l,r,rfl,h1,h2,h3⟩;show wpS _ _ _ _ (do moveDown' k l;pure (ForInStep.yield (none,()))) _ _;rw [moveDown'_eq];refine wpS_bind (wpS_modify (wpS_pure ⟨rfl,b'.arr (bubble_perm _ _ _),?_⟩));rw [Nat.min_eq_left (by lia)];have g:∀ i,kR ws (bubble (arrOf st2) k (k-l)) i=if i=l then kR ws (arrOf st2) k else if l<i/\i<=k then kR ws (arrOf st2) (i-1) else kR ws (arrOf st2) i:=fun i=>by
    have e:=getElem?_bubble hks (k-l) (by lia) i;rw [show k-(k-l)=l by lia] at e;by_cases z1:i=l
    ·rw [if_pos z1] at e ⊢;exact kR_congr e
    ·rw [if_neg z1] at e ⊢;by_cases z2:l<i/\i<=k
     ·rw [if_pos z2] at e ⊢;exact kR_congr e
     ·rw [if_neg z2] at e ⊢;exact kR_congr e
   intro i j h4 h5;show kR ws (bubble (arrOf st2) k (k-l)) i<kR ws (bubble (arrOf st2) k (k-l)) j;rw [g,g]
   repeat' split
   all_goals first
    | (exfalso;lia)
    | exact h2 _ (by lia)
    | exact h3 _ (by lia) (by lia)
    | exact u' _ _ (by lia) (by lia)
 ·rintro c st' ⟨hc,b',u'⟩;refine ⟨hc,b',?_⟩
  rwa [show min (max (max ok 1) n) n=n by lia] at u'
 ·by_cases z:ok=0
  ·lia
  ·exact u i j h1 (by lia)
 ·rintro c st' ⟨rfl,b',u'⟩;exact wpS_pure (h st' b' u')
theorem so_all (C:SoC prog w A s κ ws a₀){st:SortSt}{Q:Unit->SortSt->Prop}(b:SoB κ a₀ st)(h2:2<=a₀.size)(h64:a₀.size<64)
  (h:∀ st',(arrOf st').Perm a₀->failedOf st'=none->Up ws (arrOf st') a₀.size->Q () st'):wpS (model prog w) A E s sortRuns' Q st:=by
 rw [sortRuns'_eq];refine wpS_bind (wpS_get ?_);dsimp only;have hmr:minRun' a₀.size a₀.size 0=a₀.size:=by
  generalize hz:a₀.size=z at *
  cases z with
  | zero=>lia
  | succ f=>rw [minRun'_succ,if_pos h64]
 simp only [b.perm.size_eq,hmr];have done:∀ st',SoB κ a₀ st'->Up ws (arrOf st') a₀.size->(arrOf (setPending st' ((pendingOf st').push (0,a₀.size,0)))).Perm a₀/\failedOf (setPending st' ((pendingOf st').push (0,a₀.size,0)))=none/\pendingOf (setPending st' ((pendingOf st').push (0,a₀.size,0))) = #[(0,a₀.size,0)]/\Up ws (arrOf (setPending st' ((pendingOf st').push (0,a₀.size,0)))) a₀.size:=fun st' b' u'=>
  ⟨b'.perm,b'.failed,by show (pendingOf st').push _=_;rw [b'.pend];rfl,u'⟩
 refine wpS_bind (wpS_mono (wpS_forRange
  (fun x c st'=>(x=0/\c=(none,0)/\SoB κ a₀ st')\/(1<=x/\c=(none,a₀.size)/\(arrOf st').Perm a₀/\failedOf st'=none/\pendingOf st' = #[(0,a₀.size,0)]/\Up ws (arrOf st') a₀.size))
  (Q:=fun c st'=>c=(none,a₀.size)/\(arrOf st').Perm a₀/\failedOf st'=none/\pendingOf st' = #[(0,a₀.size,0)]/\Up ws (arrOf st') a₀.size) ?_ ?_ (.inl ⟨rfl,rfl,b⟩)) ?_)
 ·rintro x c st' _ hx (⟨rfl,rfl,b'⟩ | ⟨hx1,rfl,D⟩)
  ·dsimp only;rw [if_neg (by lia)];simp only [Nat.sub_zero,Nat.min_self,Nat.zero_add];refine wpS_bind (so_run C (nR1 _) (by lia) b' fun m st2 b2 hm u2=>?_);dsimp only;by_cases z:m<a₀.size
   ·rw [if_pos z];refine wpS_bind (wpS_lift (wpAny_rule ⟨rfl,?_⟩));refine wpS_bind (so_ins C (nR1 _) hm b2 u2 fun st3 b3 u3=>?_);simp only [Bool.not_true,bF1,if_false];refine wpS_bind (wpS_get ?_);rw [b3.pend];exact wpS_bind (wpS_modify (wpS_pure (.inr ⟨by lia,rfl,done st3 b3 u3⟩)))
   ·rw [if_neg z];have e:m=a₀.size:=by lia
    subst e;refine wpS_bind (wpS_get ?_);rw [b2.pend];exact wpS_bind (wpS_modify (wpS_pure (.inr ⟨by lia,rfl,done st2 b2 u2⟩)))
  ·dsimp only;rw [if_pos (nR1 _)];exact wpS_pure ⟨rfl,D⟩
 ·rintro c st' (⟨hx,_⟩ | ⟨_,hc,D⟩)
  ·lia
  ·exact ⟨hc,D⟩
 ·rintro c st' ⟨rfl,D⟩;dsimp only;refine wpS_bind (wpS_mono (wpS_forRange (fun _ c st2=>st2=st'/\c=(none,())) (Q:=fun c st2=>st2=st'/\c=(none,())) ?_ (fun _ _ hh=>hh) ⟨rfl,rfl⟩) ?_)
  ·rintro x c st2 _ _ ⟨rfl,rfl⟩;refine wpS_bind (wpS_get ?_);rw [if_pos (by rw [D.2.2.1];exact nR1 1)];exact wpS_pure ⟨rfl,rfl⟩
  ·rintro c st2 ⟨rfl,rfl⟩;exact wpS_pure (h _ D.1 D.2.1 D.2.2.2)
theorem so_out (C:SoC prog w A s κ ws (pairsOf vs)){xs:Array Keyed}(p:xs.Perm (pairsOf vs))(u:Up ws xs (pairsOf vs).size):xs.map (·.2)=ws.toArray:=by
 have hl:ws.length=(pairsOf vs).size:=by rw [<- C.keys.length_eq,lM1];simp
 have hge:∀ i,i<(pairsOf vs).size->i<=kR ws xs i:=by
  intro i
  induction i with
  | zero=>intro _;lia
  | succ i ih=>intro h;have:=ih (by lia);have:=u i (i+1) (by lia) h;lia
 have hle:∀ d i,i+d+1=(pairsOf vs).size->kR ws xs i<=i:=by
  intro d
  induction d with
  | zero=>
   intro i h;obtain ⟨x,q,_,f⟩:=C.at_ p (i:=i) (by lia);have:=(gE1.mp f).1;lia
  | succ d ih=>
   intro i h;have:=ih (i+1) (by lia);have:=u i (i+1) (by lia) (by lia);lia
 apply Array.ext
 ·rw [Array.size_map,p.size_eq,<- hl];simp
 ·intro i h1 h2;rw [Array.size_map,p.size_eq] at h1;have hk:kR ws xs i=i:=Nat.le_antisymm (hle ((pairsOf vs).size-1-i) i (by lia)) (hge i h1);obtain ⟨x,q,e,f⟩:=C.at_ p h1;rw [hk] at f;have hm:(x,q)∈(pairsOf vs).toList:=(Array.perm_iff_toList_perm.mp p).mem_iff.mp (Array.mem_toList_iff.mpr (Array.mem_of_getElem? e));rw [pairsOf_toList] at hm;have hq:x=q:=(mem_zip_self hm).1;have g1:(xs.map (·.2))[i]? = some q:=by rw [Array.getElem?_map,e];rfl
  have g2:ws.toArray[i]? = some x:=by rw [List.getElem?_toArray];exact f
  rw [aG1 (by rw [Array.size_map,p.size_eq];exact h1)] at g1;rw [aG1 h2] at g2;rw [Option.some.inj g1,Option.some.inj g2,hq]
end
section
variable {prog:Program} {w:World} {A:Around} {E:Value->Shared->Prop} {s:Shared}
theorem one_rc {p q:Value}{b:Bool}{Q:Bool->Shared->Prop}(r:RcLt A.in1 s p q b)(h:Q b s):wpAny (model prog w) A (oneLt' false p q) Q E s:=by
 rw [oneLt'_eq];simp only [bF1,if_false];exact wB1 (wpAny_of_in1 (r prog w E _ (wpAny_truthy_bool h)))
theorem keyLt_tuples (f:Bool)(x y:Value):keyLt' (tuples' f) x y=(do
  let xs<-Builtin.List.listItems x
  let ys<-Builtin.List.listItems y
  for ((p,q),i) in (xs.toList.zip ys.toList).zipIdx do
   if !(<- eqBool p q) then return<-oneLt' (f&&i == 0) p q
  return decide (xs.size<ys.size)):=rfl
theorem kl_tup {a b:Addr}{us zs:List Value}{k:Bool}{Q:Bool->Shared->Prop}(ha:IsTup s.heap a us.toArray)(hb:IsTup s.heap b zs.toArray)(L:LtS A s us zs k)(h:Q k s):
  wpAny (model prog w) A (keyLt' (tuples' false) (.ref a) (.ref b)) Q E s:=by
 rw [keyLt_tuples];obtain ⟨o,e1,c1,_,d1⟩:=ha;obtain ⟨o2,e2,c2,_,d2⟩:=hb;refine wB1 (listItems_at e1 d1 (wB1 (listItems_at e2 d2 ?_)));simp only [Bool.false_and];refine wB1 (wpAny_mono (wpAny_forIn_list _ (fun rest c s'=>s'=s/\c=(none,()) /\ ∃ (i:Nat) (vs ws:List Value),rest=(vs.zip ws).zipIdx i/\LtS A s vs ws k/\vs.length+zs.length=ws.length+us.length)
  (fun c s'=>s'=s/\(c=(some k,())\/(c=(none,())/\k=decide (us.length<zs.length)))) ?_ ?_ _ _ ⟨rfl,rfl,0,us,zs,rfl,L,by lia⟩) ?_ fun _ _ e=>e)
 ·rintro x rest c s' ⟨rfl,rfl,i,vs,ws,hr,L',hl⟩;cases L' with
  | nn=>simp at hr
  | nc _ _=>simp at hr
  | cn _ _=>simp at hr
  | @eq p q ps qs _ e t=>
   rw [List.zip_cons_cons,List.zipIdx_cons] at hr;cases hr;refine wB1 (e.of_in1 prog w E _ ?_);simp only [Bool.not_true,bF1,if_false];exact wP1 ⟨rfl,rfl,i+1,ps,qs,rfl,t,by simp at hl;lia⟩
  | @lt p q ps qs _ e t=>
   rw [List.zip_cons_cons,List.zipIdx_cons] at hr;cases hr;refine wB1 (e.of_in1 prog w E _ ?_);simp only [Bool.not_false,if_true];exact wB1 (one_rc t (wP1 ⟨rfl,.inl rfl⟩))
 ·rintro c s' ⟨rfl,rfl,i,vs,ws,hr,L',hl⟩;refine ⟨rfl,.inr ⟨rfl,?_⟩⟩;cases L' with
  | nn=>simp at hl;rw [decide_eq_false (by lia)]
  | nc _ _=>simp at hl;rw [decide_eq_true (by lia)]
  | cn _ _=>simp at hl;rw [decide_eq_false (by lia)]
  | eq _ _=>simp at hr
  | lt _ _=>simp at hr
 ·rintro c s' ⟨rfl,z⟩;rcases z with rfl | ⟨rfl,z⟩
  ·exact wP1 h
  ·refine wP1 ?_;rw [sT1,sT1,<- z];exact h
theorem mapM_wp {M:Model}{α β:Type}{f:α->Sem β}{P:α->β->Prop}:∀ {l:List α} {Q:List β->Shared->Prop},(∀ v∈l,∃ r,P v r /\ ∀ Q:β->Shared->Prop,Q r s->wpAny M A (f v) Q E s) ->
  (∀ rs,rs.length=l.length->(∀ r∈rs,∃ v∈l,P v r)->Q rs s)->wpAny M A (l.mapM f) Q E s
 | [],Q,_,q=>by rw [List.mapM_nil];exact wP1 (q [] rfl fun r hr=>by cases hr)
 | v::l,Q,h,q=>by
  rw [List.mapM_cons];obtain ⟨r,p,hr⟩:=h v mS1;refine wB1 (hr _ ?_);refine wB1 (mapM_wp (fun v hv=>h v (mC1 _ hv)) fun rs hl hm=>?_);refine wP1 (q (r::rs) (by rw [lC1,lC1,hl]) fun x hx=>?_);rcases List.mem_cons.mp hx with z | z
  ·exact ⟨v,mS1,by rw [z];exact p⟩
  ·obtain ⟨v',h1,h2⟩:=hm x z;exact ⟨v',mC1 _ h1,h2⟩
theorem first_eq (v:Value):firstOfTuple' v=(do
  if (<- typeOf v) != .type "tuple" then return none
  return (<- Builtin.List.listItems v)[0]?):=rfl
theorem kk_tup {vs:List Value}{Q:SortKind->Shared->Prop}(hne:vs≠[])(h:∀ v∈vs,∃ a p ps b qs,v = .ref a/\IsTup s.heap a (p::ps).toArray/\p = .ref b/\IsTup s.heap b qs)(q:Q (tuples' false) s):
  wpAny (model prog w) A (keyKind' vs.toArray) Q E s:=by
 rw [keyKind'_eq,List.mapM_toArray,<- bind_pure_comp];refine wB1 (wB1 (mapM_wp (P:=fun _ r=>∃ b qs,r=some (.ref b)/\IsTup s.heap b qs) (fun v hv=>?_) fun rs hl hr=>wP1 ?_))
 ·obtain ⟨a,p,ps,b,qs,rfl,⟨o,e1,c1,_,d1⟩,rfl,ht⟩:=h v hv;refine ⟨some (.ref b),⟨b,qs,rfl,ht⟩,fun Q q=>?_⟩;rw [first_eq];refine wB1 (wpAny_typeOf (T:="tuple") ⟨o,e1,c1⟩ ?_);rw [if_neg (by decide)];refine wB1 (listItems_at e1 d1 (wP1 ?_));simpa using q
 ·have hs:rs.toArray.all (·.isSome)=true:=by
   rw [List.all_toArray,List.all_eq_true];intro r hm;obtain ⟨v,_,b,qs,e,_⟩:=hr r hm;rw [e];rfl
  rw [if_pos hs];refine wB1 (wpAny_rule ?_);rw [oneTypeOnly'_eq];have hf:rs.toArray.filterMap id=(rs.filterMap id).toArray:=by simp
  rw [hf,List.mapM_toArray,<- bind_pure_comp];refine wB1 (wB1 (wB1 (mapM_wp (P:=fun _ t=>t=Value.type "tuple") (fun v hv=>?_) fun ts htl ht=>wP1 ?_)))
  ·obtain ⟨r,hm,e⟩:=List.mem_filterMap.mp hv;obtain ⟨v',_,b,qs,e',⟨o,e1,c1,_⟩⟩:=hr r hm;rw [e'] at e;cases e;exact ⟨_,rfl,fun Q q=>wpAny_typeOf (T:="tuple") ⟨o,e1,c1⟩ q⟩
  ·cases ts with
   | nil=>
    exfalso;cases rs with
    | nil=>exact hne (List.length_eq_zero_iff.mp hl.symm)
    | cons r rs=>
     obtain ⟨_,_,b,_,e,_⟩:=hr r mS1;rw [e] at htl;simp at htl
   | cons t ts=>
    have all:∀ x∈t::ts,x=Value.type "tuple":=fun x hx=>by obtain ⟨_,_,z⟩:=ht x hx;exact z
    have e0:=all t mS1;subst e0;have ha:((Value.type "tuple"::ts).toArray.all fun x=>x == Value.type "tuple")=true:=by
     rw [List.all_toArray,List.all_eq_true];intro x hx;rw [all x hx];rfl
    show wpAny _ _ (pure (if ((Value.type "tuple"::ts).toArray.all fun x=>x == Value.type "tuple")=true then some (Value.type "tuple") else none)) _ _ _;rw [if_pos ha];exact wP1 (wP1 q)
theorem so_sort {a:Addr}{vs ws:List Value}{n:Nat}{κ:SortKind}{P:Fin->Shared->Prop}(ho:s.heap.get? a=some (seqObj "list" vs.toArray n))(h64:vs.length<64)(hp:vs.Perm ws)
  (hC:∀ h',(∀ b o,b≠a->s.heap.get? b=some o->h'.get? b=some o)->2<=vs.length->SoC prog w A {s with heap:=h'} κ ws (pairsOf vs) /\ ∀ Q:SortKind->Shared->Prop,Q κ {s with heap:=h'}->wpAny (model prog w) A (keyKind' vs.toArray) Q E {s with heap:=h'})
  (h:P (.done (.ret .none)) {s with heap:=sortedHeap s.heap a vs ws.toArray}):wpAny (model prog w) A (Builtin.«list.sort» ⟨[.ref a],[]⟩) P E s:=by
 rw [list_sort_plain];have ha:a<s.heap.objs.size:=Heap.lt_size ho;refine wB1 (listItems_at ho rfl ?_);refine wB1 (listUpdate_at ho rfl ?_);obtain ⟨e1,ho1⟩:∃ e1,(s.heap.update a (Obj.mapSeq fun _=> #[])).get? a=some (seqObj "list" #[] e1):=⟨_,get?_update_seq ho (fun _=> #[])⟩;refine wB1 (seqEpoch_at ho1 rfl (wB1 (wpAny_newTuple (wB1 (wpAny_newList (wpAny_holding ?_))))));have keep:∀ b o,b≠a->s.heap.get? b=some o->(((s.heap.update a (Obj.mapSeq fun _=> #[])).push (seqObj "tuple" vs.toArray 0)).push (seqObj "list" #[] 0)).get? b=some o:=fun b o hb e=>
  hP1 _ (hP1 _ (by rw [hU1 _ _ _ _ hb];exact e))
 have ho6:(((s.heap.update a (Obj.mapSeq fun _=> #[])).push (seqObj "tuple" vs.toArray 0)).push (seqObj "list" #[] 0)).get? a=some (seqObj "list" #[] e1):=hP1 _ (hP1 _ ho1);show wpAny (model prog w) A _ P E {s with heap:=((s.heap.update a (Obj.mapSeq fun _=> #[])).push (seqObj "tuple" vs.toArray 0)).push (seqObj "list" #[] 0)};dsimp only;have hsz:vs.toArray.size=vs.length:=by simp
 have hpl:=hp.length_eq;have fin:∀ xs:Array Keyed,xs.map (·.2)=ws.toArray->P (.done (.ret .none)) {s with heap:=sortedHeap s.heap a vs (xs.map (·.2))}:=fun xs e=>by rw [e];exact h
 by_cases h2:vs.toArray.size<2
 ·rw [if_pos h2,if_pos h2];refine wB1 (wP1 ?_);rw [StateT.run_pure];refine wB1 (wP1 (wB1 (seqEpoch_at ho6 rfl ?_)));have e:((vs.toArray.zip vs.toArray).map (·.2):Array Value)=ws.toArray:=by
   have:vs=ws:=by
    match vs,ws,hp,h2 with
    | [],ws,hp,_=>exact (List.nil_perm.mp hp).symm
    | [x],ws,hp,_=>exact (List.singleton_perm.mp hp).symm ▸ rfl
    | _::_::_,_,_,h2=>simp at h2;lia
   subst this;apply Array.ext';simp;exact List.map_snd_zip (nR1 _)
  refine wB1 (listUpdate_at ho6 rfl ?_ (hsz2:=by
   show (Array.map (·.2) (vs.toArray.zip vs.toArray)).size<=_;rw [e,sT1,<- hpl,sizeLine_eq];lia))
  simp only [bne_self_eq_false,bF1,if_false];exact wP1 (fin _ e)
 ·rw [if_neg h2,if_neg h2];obtain ⟨C,K⟩:=hC _ keep (by lia);refine wB1 (K _ ?_);refine wB1 (wpAny_mono (so_all C (st:=SortSt.mk' κ (vs.toArray.zip vs.toArray) #[] 7 none)
   (Q:=fun _ st'=>(arrOf st').Perm (pairsOf vs)/\failedOf st'=none/\Up ws (arrOf st') (pairsOf vs).size) ⟨Array.Perm.refl _,rfl,rfl,rfl⟩ (by rw [pairsOf_size];lia) (by rw [pairsOf_size];exact h64) fun st' a1 a2 a3=>⟨a1,a2,a3⟩) ?_ fun _ _ e=>e)
  rintro ⟨⟨⟩,st'⟩ s' ⟨rfl,hq,hf,hu⟩;have e:=so_out C hq hu;refine wB1 (seqEpoch_at ho6 rfl ?_);refine wB1 (listUpdate_at ho6 rfl ?_ (hsz2:=by
   show (Array.map (·.2) (arrOf st')).size<=_;rw [e,sT1,<- hpl,sizeLine_eq];lia))
  rw [hf];simp only [bne_self_eq_false,bF1,if_false];exact wP1 (fin _ e)
end
section
variable {prog:Program} {w:World} {A:Around} {E:Value->Shared->Prop} {R:Result->Shared->Prop}
end
section
variable {prog:Program} {w:World} {A:Around} {E:Value->Shared->Prop} {s:Shared}
end
mutual
theorem und_tk {n:Nat}:∀ k:TK,(tkD k).und n=true
 | .non=>rfl
 | .int _=>rfl
 | .tup xs=>by rw [tkD,D.und];exact unds_tk xs
theorem unds_tk {n:Nat}:∀ ks:List TK,D.unds n (tkDs ks)=true
 | []=>rfl
 | k::ks=>by rw [tkDs,D.unds,und_tk k,unds_tk ks];rfl
end
structure Pr where
 k:TK
 d:D
 ka:Addr
 u:Value
 vv:V
 a:Addr
noncomputable def Pr.Ok (K:Fg1)(H:Hp)(mu:List Addr)(h:Heap)(lo:Nat)(y:Pr):Prop:=lo<=y.a/\Rep K H mu (tkD y.k) (.ref y.ka)/\RelV y.vv y.u/\Rep K H mu y.d y.vv/\h.get? y.a=some {cls:=.type "tuple",data:=.seq #[.ref y.ka,y.u]}
section
variable {X:Cx}
end
noncomputable abbrev KtIs (h:Heap)(it d:Addr)(i n ep:Nat):Prop:=h.get? it=some {cls:=.type "dict_keyiterator",dict:=none,data:=.fields #[.ref d,.int i 0,.int n 0,.int ep 0],slots:= #[]}
section
variable {prog:Program} {w:World} {A:Around} {E:Value->Shared->Prop} {s:Shared}
theorem kt_next {it d:Addr}{i ep:Nat}{es:Array DictEntry}{o:Obj}{Q:Option Value->Shared->Prop}(hit:KtIs s.heap it d i es.size ep)(hd:s.heap.get? d=some o)(hdd:o.data = .dict es ep)(hi:i<es.size)
  (q:∀ h',KtIs h' it d (i+1) es.size ep->Heap.SameBut it s.heap h'->Q (some es[i].key) {s with heap:=h'}):wpAny (model prog w) A (pyNext (.ref it)) Q E s:=by
 have hT:s.TypeIs (.ref it) "dict_keyiterator":=⟨_,hit,rfl⟩;unfold pyNext;refine wB1 (wpAny_attempt (wpAny_callSpecial?_slot (name:=Str.ofString "__next__") hT PySem.F.slot_dict_keyiterator_next
  (wE1 PySem.F.slot_dict_keyiterator_next hT PySem.F.entry_dict_keyiterator_next ?_ (PySem.F.args_dict_keyiterator_next_1 _))))
 refine wB1 (wP1 (wB1 (wB1 (wB1 (wpAny_typeNameOfWhole_keyiter hT (wP1 ?_))))));refine wB1 (wpAny_fieldsOf hit rfl ?_);have hown:Builtin.Dict_items.ownsTuple "dict_keyiterator"=false:=by decide
 simp only [hown,bF1,if_false];show wpAny _ _ (if (Value.ref d == Value.none)=true then _ else _) _ _ s;rw [if_neg (show ¬ ((Value.ref d == Value.none)=true) from Bool.false_ne_true)];refine wB1 (wP1 (wB1 (wpAny_dictEntries hd hdd ?_)));rw [if_neg (by simp)];refine wB1 (wP1 (wB1 (wpAny_dictEpoch hd hdd ?_)));rw [if_neg (by simp)];refine wP1 ?_;simp only [show ¬ ((i:Int)<0) from by lia,if_false,Int.toNat_natCast,aG1 hi];refine wB1 (wB1 (wpAny_typeNameOfWhole_keyiter hT (wP1 ?_)));refine wB1 (wpAny_isOneOf_keyiter hT ?_);show wpAny _ _ (setField (.ref it) 1 (rawInt ((i:Int)+1)) >>= _) _ _ s;refine wB1 (wS1 hit (by simp) fun h₁ he₁ hs₁=>?_);replace he₁:KtIs h₁ it d (i+1) es.size ep:=by
  have e:((i+1:Nat):Int)=(i:Int)+1:=by lia
  unfold KtIs;rw [e];simpa [rawInt] using he₁
 have hT₁:Shared.TypeIs {s with heap:=h₁} (.ref it) "dict_keyiterator":=⟨_,he₁,rfl⟩;refine wB1 (wpAny_holding (wB1 (wpAny_isOneOf_keyiter hT₁ ?_)));show wpAny _ _ (pure es[i].key) _ _ _;exact wP1 (wP1 ⟨_,rfl,wP1 (q h₁ he₁ hs₁)⟩)
theorem kt_end {it d:Addr}{i ep:Nat}{es:Array DictEntry}{o:Obj}{Q:Option Value->Shared->Prop}(hh:A.handled=none)(hit:KtIs s.heap it d i es.size ep)(hd:s.heap.get? d=some o)(hdd:o.data = .dict es ep)(hi:es.size<=i)
  (q:∀ h',(∀ b o,b≠it->s.heap.get? b=some o->h'.get? b=some o)->Q none {s with heap:=h'}):wpAny (model prog w) A (pyNext (.ref it)) Q E s:=by
 have hT:s.TypeIs (.ref it) "dict_keyiterator":=⟨_,hit,rfl⟩;unfold pyNext;refine wB1 (wpAny_attempt (wpAny_callSpecial?_slot (name:=Str.ofString "__next__") hT PySem.F.slot_dict_keyiterator_next
  (wE1 PySem.F.slot_dict_keyiterator_next hT PySem.F.entry_dict_keyiterator_next ?_ (PySem.F.args_dict_keyiterator_next_1 _))))
 refine wB1 (wP1 (wB1 (wB1 (wB1 (wpAny_typeNameOfWhole_keyiter hT (wP1 ?_))))));refine wB1 (wpAny_fieldsOf hit rfl ?_);have hown:Builtin.Dict_items.ownsTuple "dict_keyiterator"=false:=by decide
 simp only [hown,bF1,if_false];show wpAny _ _ (if (Value.ref d == Value.none)=true then _ else _) _ _ s;rw [if_neg (show ¬ ((Value.ref d == Value.none)=true) from Bool.false_ne_true)];refine wB1 (wP1 (wB1 (wpAny_dictEntries hd hdd ?_)));rw [if_neg (by simp)];refine wB1 (wP1 (wB1 (wpAny_dictEpoch hd hdd ?_)));rw [if_neg (by simp)];refine wP1 ?_;simp only [show ¬ ((i:Int)<0) from by lia,if_false,Int.toNat_natCast,Array.getElem?_eq_none hi];refine wB1 (wB1 (wpAny_typeNameOfWhole_keyiter hT (wP1 ?_)));show wpAny _ _ (setField (.ref it) 0 .none >>= _) _ _ s;refine wB1 (wS1 hit (by simp) fun h₁ he₁ hs₁=>?_);show wpAny _ _ (newExc (.type "StopIteration") [] >>= _) _ _ _;refine wB1 ?_;simp only [newExc,newTuple];refine wB1 (wO1 ?_ (by size_fits));refine wB1 (m:=firstArgMember _ _) (wpAny_of_eq (a:=Value.none) (by first | rfl | (simp only [firstArgMember];rfl)) ?_);refine wO1 ?_ (by size_fits);simp only [raiseNew];refine wB1 (wpAny_handled ?_);rw [show A.in1.handled=none from hh];refine wB1 (wP1 (wpAny_throw ?_));refine wB1 (wpAny_isInstance (T:="StopIteration") (b:=true) ⟨_,hS1 _ rfl,rfl⟩ isSubtype_stop ?_);exact wP1 (q _ fun b o hb e=>hP1 _ (hP1 _ (hs₁.extBut b o hb e)))
theorem kt_iter {d:Addr}{es:Array DictEntry}{ep:Nat}{o:Obj}{Q:Value->Shared->Prop}(hm:(d == sysModules)=false)(hd:s.heap.get? d=some o)(hc:o.cls = .type "dict")(hdd:o.data = .dict es ep)(hn:es.size<=sizeLine)
  (q:Q (.ref s.heap.objs.size) {s with heap:=s.heap.push {cls:=.type "dict_keyiterator",data:=.fields #[.ref d,.int 0 0,.int es.size 0,.int ep 0]}}):wpAny (model prog w) A (pyIter (.ref d)) Q E s:=by
 have hT:s.TypeIs (.ref d) "dict":=⟨o,hd,hc⟩;refine wpAny_pyIter_slot hT PySem.F.slot_dict_iter (wE1 PySem.F.slot_dict_iter hT PySem.F.entry_dict_iter ?_ (PySem.F.args_dict_iter_1 _));unfold Builtin.«dict.__iter__»;refine wB1 ?_;unfold Builtin.Dict.dictSlotNone;refine wB1 (wpAny_notOrdered_dict hT ?_);show wpAny _ _ (pure (Value.ref d)) _ _ s;refine wP1 ?_;show wpAny _ _ (Builtin.Dict.showsAll d >>= _) _ _ s;unfold Builtin.Dict.showsAll;rw [if_neg (by rw [hm];exact Bool.false_ne_true)];refine wB1 (wP1 (wB1 (wpAny_dictEntries hd hdd (wB1 (wpAny_dictEpoch hd hdd (wB1 ?_))))));refine wO1 (wP1 ⟨_,rfl,"dict_keyiterator",_,⟨_,hS1 _ rfl,rfl⟩,PySem.F.slot_dict_keyiterator_next.lookup,?_⟩);simpa [rawInt] using q
end
section
variable {prog:Program} {w:World} {A:Around} {E:Value->Shared->Prop} {R:Result->Shared->Prop}
theorem kt_loop {it d S:Addr}{ep:Nat}{es:Array DictEntry}{o:Obj}{res:Value}(hh:A.handled=none)(hdd:o.data = .dict es ep)(h1:it≠d)(h2:S≠d)(h3:S≠it)(hn:es.size<=sizeLine):
  ∀ (k i:Nat) (s:Shared) (acc:Array Value) (c:Nat),es.size-i=k->i<=es.size->KtIs s.heap it d i es.size ep->s.heap.get? d=some o ->
  s.heap.get? S=some {cls:=.type "list",dict:=none,data:=.seq acc c,slots:= #[]}->acc.toList=(es.toList.take i).map (·.key) ->
  (∀ h' acc' c',(∀ b u,b≠it->b≠S->s.heap.get? b=some u->h'.get? b=some u)->h'.get? S=some {cls:=.type "list",dict:=none,data:=.seq acc' c',slots:= #[]}->acc'.toList=es.toList.map (·.key)->R (.ok (.ret res)) {s with heap:=h'}) ->
  codeAny (model prog w) A (.builtin "list.extend.loop" ⟨[.ref S,.ref it,res],[]⟩) R s:=by
 intro k
 induction k with
 | zero=>
  intro i s acc c hk hi hit hd hS hp hR;have e:i=es.size:=by lia
  subst e;refine wD1 PySem.F.entry_extend_loop ?_;rw [Around.under_plainId PySem.F.plain_extend_loop _];show wpAny _ A.in1 (pyNext (.ref it) >>= _) _ _ s;refine wB1 (kt_end hh hit hd hdd (nR1 _) fun h' keep=>wP1 ?_);exact hR h' acc c (fun b u hb _ e=>keep b u hb e) (keep S _ h3 hS) (by rw [hp,<- Array.length_toList,List.take_length])
 | succ k ih=>
  intro i s acc c hk hi hit hd hS hp hR;have hlt:i<es.size:=by lia
  have hal:acc.size=i:=by rw [<- Array.length_toList,hp,lM1,List.length_take,Array.length_toList];lia
  refine wD1 PySem.F.entry_extend_loop ?_;rw [Around.under_plainId PySem.F.plain_extend_loop _];show wpAny _ A.in1 (pyNext (.ref it) >>= _) _ _ s;refine wB1 (kt_next hit hd hdd hlt fun h' hit' sb=>?_);have hS':=sb.extBut S _ h3 hS;show wpAny _ A.in1 (updateSeq S (·.push es[i].key) >>= _) _ _ _;refine wB1 (wpAny_updateSeq (s:={s with heap:=h'}) hS' rfl ?_ (by rw [hal];lia) (by show (acc.push _).size<=sizeLine+1;rw [Array.size_push,hal];lia));have oth:∀ b u,b≠S->h'.get? b=some u->(h'.update S (Obj.mapSeq (·.push es[i].key))).get? b=some u:=fun b u hb e=>by rw [hU1 _ _ _ _ hb];exact e
  refine wP1 ⟨plainId_quiet PySem.F.plain_extend_loop _,ih (i+1) {s with heap:=h'.update S (Obj.mapSeq (·.push es[i].key))} (acc.push es[i].key) _ (by lia) hlt (oth it _ (Ne.symm h3) hit') (oth d _ (Ne.symm h2) (sb.extBut d _ (Ne.symm h1) hd)) (hW1 _ hS' rfl) ?_ ?_⟩
  ·rw [Array.toList_push,hp,List.take_succ,aT1,aG1 hlt,List.map_append];rfl
  ·intro h'' acc' c' keep2 hS2 hp2;exact hR h'' acc' c' (fun b u hb hb2 e=>keep2 b u hb hb2 (oth b u hb2 (sb.extBut b u hb e))) hS2 hp2
theorem dict_len:typeLookup (.type "dict") "__len__"=pure (some (.builtin "dict.__len__")):=by rw [typeLookup_type,builtinLookup_eq_fast];kernel_rfl
theorem kt_hint {s:Shared}{v:Addr}{Q:Bool->Shared->Prop}(hT:s.TypeIs (.ref v) "dict")(q:Q false s):wpAny (model prog w) A (Builtin.List.listLengthHint (.ref v)) Q E s:=by
 unfold Builtin.List.listLengthHint;refine wB1 (wpAny_specialOf hT dict_len ?_);generalize hid:("dict.__len__":String)=id0
 wp_delta
 rw [show splitId id0=some ("dict","__len__") from by subst hid;decide+kernel];subst hid;refine wB1 (wpAny_isInstance (b:=true) hT (by rw [isSubtype_type];kernel_rfl) ?_);rw [if_neg (by decide)];dsimp only;rw [if_pos (by decide+kernel)];refine wB1 (wpAny_typeOf hT ?_);exact wP1 q
end
section
variable {X:Cx}
theorem KT.keys {K:Fg1}{H:Hp}{mu:List Addr}:∀ {ks:List (TK×D)} {ws:List (TK×Addr×Value)},KT K H mu ks ws->Reps K H mu (ks.map fun p=>tkD p.1) (ws.map fun x=>V.ref x.2.1)
 | _,_,.nil=>.nil
 | _,_,.cons ⟨z,d,k,_⟩ t=>.cons k (KT.keys t)
theorem vals_keys:∀ ws:List (TK×Addr×Value),Vals (ws.map fun x=>V.ref x.2.1) (ws.map fun x=>Value.ref x.2.1)
 | []=>.nil
 | _::ws=>.cons rfl (vals_keys ws)
end
noncomputable def NF (X:Cx)(a:Addr):Prop:=(∀ xs,X.H₀ a≠some (.tup xs))/\(∀ o v,X.H₀ a≠some (.frz o v)) /\ ∀ ps,X.H₀ a≠some (.tbl ps)
section
variable {X:Cx} {pins:List (Addr×Obj)} {σ:L2.St} {H:Hp} {s:Shared} {a:Addr} {u v:HO}
theorem inv_swap (I:Inv X pins σ H s)(e:H a=some u)(nf:NF X a)(h1:∀ c,u ≠ .own c)(h2:∀ xs,u ≠ .tup xs)(new:ObjOk X.prog X.w H s.heap a v):Inv X pins σ (upd H a v) s:=by
 have ne:∀ {b:Addr},H b=none->b≠a:=fun {b} z=>by rintro rfl;rw [e] at z;cases z
 have ho:∀ b c,H b=some (.own c)->upd H a v b=some (.own c):=fun b c z=>by
  rw [upd_ne (by rintro rfl;rw [e] at z;cases z;exact h1 _ rfl)];exact z
 have ht:∀ b xs,H b=some (.tup xs)->upd H a v b=some (.tup xs):=fun b xs z=>by
  rw [upd_ne (by rintro rfl;rw [e] at z;cases z;exact h2 _ rfl)];exact z
 refine ⟨I.ok,I.os,I.bare,⟨I.base.keep,I.base.slot,fun b o q n hx=>?_,I.base.there,fun b xs q=>?_,fun b o w q=>?_,fun b ps q=>?_⟩,I.loc,I.cell,?_,fun x c q=>?_,fun p hp=>?_,fun b w q=>?_,I.len⟩
 ·have z:=I.base.free b o q n hx;rw [upd_ne (ne z)];exact z
 ·rw [upd_ne (by rintro rfl;exact nf.1 _ q)];exact I.base.tups b xs q
 ·rw [upd_ne (by rintro rfl;exact nf.2.1 _ _ q)];exact I.base.frzs b o w q
 ·rw [upd_ne (by rintro rfl;exact nf.2.2 _ q)];exact I.base.tbls b ps q
 ·rw [upd_ne (ne I.free)];exact I.free
 ·rw [upd_ne (ne (I.freeC x c q))];exact I.freeC x c q
 ·obtain ⟨p1,p2,p3⟩:=I.pin p hp;exact ⟨p1,by rw [upd_ne (ne p2)];exact p2,p3⟩
 ·by_cases hb:b=a
  ·subst hb;rw [upd_same] at q;cases q;exact new.stay (fun c o _ z=>z) (fun c z=>ho c _ z) fun c xs z=>ht c xs z
  ·rw [upd_ne hb] at q;exact (I.hok b w q).stay (fun c o _ z=>z) (fun c z=>ho c _ z) fun c xs z=>ht c xs z
end
inductive DicO (a:Addr):List (TK×Addr×Value)->HO->Prop
 | ext (xs:List (TK×Addr×Value)):DicO a xs (.ext (DictAt a xs))
 | dK:DicO a [] (.dK [])
noncomputable def ItD (a:Addr)(o:Obj)(xs:List (TK×Addr×Value)):It:=
 ⟨fun i H=>(∃ u,H a=some (.frz o u))/\i<xs.length,fun i H x H'=>H'=H /\ ∃ q,xs[i]? = some q/\x = .ref q.2.1,fun i H=>(∃ u,H a=some (.frz o u))/\xs.length<=i⟩
theorem turn_keys {P:Program}{w:World}{K:Fg1}{tg:Expr}{a it:Addr}{o:Obj}{xs:List (TK×Addr×Value)}{es:Array DictEntry}{ep:Nat}(hd:o.data = .dict es ep)(hes:es.toList=xs.map fun x=>(⟨x.1.hash,.ref x.2.1,x.2.2⟩:DictEntry)):
  Turn P w K tg (ItD a o xs) [it] it (fun i h=>KtIs h it a i es.size ep) where
 mem:=by simp
 obj:=fun i h st b hb=>by
  have e:b=it:=by simpa using hb
  subst e;exact ⟨_,st,fun v z=>by cases z⟩
 keep:=fun i h h' st k=>k it (by simp) _ st
 item:=by
  intro X hP hw hK hc i pins s σ H E I hf st hg;subst hP hw hK;obtain ⟨⟨u,hu⟩,hi⟩:=hg;obtain ⟨ho,_⟩:=(show ObjOk X.prog X.w H s.heap a (.frz o u) from I.hok a _ hu);have hsz:es.size=xs.length:=by rw [<- Array.length_toList,hes,lM1]
  obtain ⟨f0,f1,f2,f3,f4,f5⟩:=hf it (by simp);refine kt_next st ho hd (by omega) fun h' st' sb=>?_;have I1:Inv X pins σ H {s with heap:=h'}:=I.turned (t':=s.toks) (fun b o hb e=>(sb.2 b hb).trans e) f0 f1 f3 f4 f5;have hk:es[i].key = .ref (xs[i]).2.1:=by
   have:es.toList[i]? = (xs.map fun x=>(⟨x.1.hash,.ref x.2.1,x.2.2⟩:DictEntry))[i]?:=by rw [hes]
   rw [aT1,aG1 (by omega),gP1,gG1 hi] at this;have:=Option.some.inj this;rw [this]
  refine ⟨_,rfl,go_of (s:={s with heap:=h'}) st' rfl rfl (by decide) ⟨.ref (xs[i]).2.1,H,I1,hk,⟨rfl,_,gG1 hi,rfl⟩,st',fun b hb=>(hf b hb).1⟩⟩
 done:=by
  intro X hP hw hK hc i pins s σ H E I hf st hg;subst hP hw hK;obtain ⟨⟨u,hu⟩,hi⟩:=hg;obtain ⟨ho,_⟩:=(show ObjOk X.prog X.w H s.heap a (.frz o u) from I.hok a _ hu);have hsz:es.size=xs.length:=by rw [<- Array.length_toList,hes,lM1]
  obtain ⟨f0,f1,f2,f3,f4,f5⟩:=hf it (by simp);exact kt_end (I.ok.hd hc) st ho hd (by omega) fun h' eb=>⟨rfl,I.turned (t':=s.toks) (fun b o hb e=>eb b o hb e) f0 f1 f3 f4 f5⟩
 self:=fun _ _ _ _ _ st h=>wpAny_pyIter_keyiter ⟨_,st,rfl,rfl⟩ h
noncomputable def iDic (X:Cx)(tl:TE):TI:=fun σ H R=>tl σ H fun x H1=>∃ a xs u,x = .ref a/\H1 a=some u/\DicO a xs u/\xs.length<=sizeLine /\ ∀ o,DictO a xs o->NF X a->R (ItD a o xs) (upd H1 a (.frz o u))
theorem dic_at {X:Cx}{pins:List (Addr×Obj)}{σ:L2.St}{H:Hp}{s:Shared}{a:Addr}{u:HO}{xs:List (TK×Addr×Value)}(I:Inv X pins σ H s)(e:H a=some u)(h:DicO a xs u):∃ o,s.heap.get? a=some o/\DictO a xs o:=by
 cases h with
 | ext xs=>
  obtain ⟨⟨h1,h2,o,es,ep,h3,h4,h5,h6⟩,_⟩:=(show ObjOk X.prog X.w H s.heap a (.ext (DictAt a xs)) from I.hok a _ e);exact ⟨o,h3,h1,h2,h4,es,ep,h5,h6⟩
 | dK=>
  obtain ⟨_,h1,vs,h2,h3⟩:=(show ObjOk X.prog X.w H s.heap a (.dK []) from I.hok a _ e);cases h2;obtain ⟨o,es,ep,h3,h4,h5,h6,_⟩:=empty_of h3;exact ⟨o,h3,h1,List.nodup_nil,h4,es,ep,h5,h6⟩
theorem dic_nf {X:Cx}{pins:List (Addr×Obj)}{σ:L2.St}{H:Hp}{s:Shared}{a:Addr}{u:HO}{xs:List (TK×Addr×Value)}(I:Inv X pins σ H s)(e:H a=some u)(h:DicO a xs u):NF X a:=by
 refine ⟨fun ys q=>?_,fun o v q=>?_,fun ps q=>?_⟩
 ·have:=I.base.tups a ys q;rw [e] at this;cases this;cases h
 ·have:=I.base.frzs a o v q;rw [e] at this;cases this;cases h
 ·obtain ⟨m,z⟩:=I.base.tbls a ps q;rw [e] at z;cases z;cases h
theorem pi_dic {X:Cx}{tg l:Expr}{tl:TE}(hl:PE X l tl):PI X tg l (iDic X tl):=by
 intro pins s σ H R I h;refine thn (hl pins s σ H _ I h) fun v s1 ⟨x,H1,I1,r1,q1⟩=>?_;obtain ⟨a,xs,u,e,hu,hd,hz,q⟩:=q1;subst e;cases r1;obtain ⟨o,ho,hO⟩:=dic_at I1 hu hd;have nf:=dic_nf I1 hu hd;have q:=q o hO nf;obtain ⟨g1,g2,g3,es,ep,g4,g5⟩:=hO;have hsz:es.size=xs.length:=by rw [<- Array.length_toList,g5,lM1]
 refine kt_iter g1 ho g3.1 g4 (by lia) ?_;have I2:Inv X pins σ (upd H1 a (.frz o u)) s1:=inv_swap I1 hu nf (fun c z=>by subst z;cases hd) (fun c z=>by subst z;cases hd) ⟨ho,I1.hok a _ hu⟩;refine ⟨s1.heap.objs.size,[s1.heap.objs.size],_,_,_,rfl,I2.kept (t':=s1.toks) fun b o e=>hP1 _ e,turn_keys g4 g5,hS1 _ rfl,fun b hb=>?_,q⟩;have e:b=s1.heap.objs.size:=by simpa using hb
 subst e;exact I1.fpOk (nR1 _) (I2.hok.fresh (nR1 _))
noncomputable def keysO:Ob->Option (List (TK×D))
 | .dcT kvs=>some kvs
 | .dct []=>some []
 | _=>none
section
variable {K:Fg1} {H H':Hp} {mu mu':List Addr} {S:Sto} {n:Nat} {a:Addr} {o:Obj} {u:HO}
theorem ObR.exv {b:Addr}(e:Exv mu mu' H H')(h:∀ o,H b=some o->H' b=some o):∀ {o:Ob},ObR K H mu b o->ObR K H' mu' b o
 | .lst _,⟨vs,q,r⟩=>⟨vs,h _ q,r.exv e⟩
 | .dct _,⟨ws,q,r⟩=>⟨ws,h _ q,Paired.mapP r fun _ _ z=>⟨z.1,z.2.exv e⟩⟩
 | .dcT _,⟨ws,q,r,l⟩=>⟨ws,h _ q,Paired.mapP r fun _ _ ⟨z,d,k,v,rv,r⟩=>⟨z,d,k.exv e,v,rv,r.exv e⟩,l⟩
 | .iset _,q=>⟨h _ q.1,q.2⟩
 | .dcF _,⟨ws,⟨o,u,e1,e2⟩,r,l⟩=>⟨ws,⟨o,u,h _ e1,e2⟩,Paired.mapP r fun _ _ ⟨z,d,k,v,rv,r⟩=>⟨z,d,k.exv e,v,rv,r.exv e⟩,l⟩
 | .tst _,⟨ws,q,r⟩=>⟨ws,h _ q,Paired.mapP r fun _ _ ⟨z,d,k,v,rv,r⟩=>⟨z,d,k.exv e,v,rv,r.exv e⟩⟩
theorem thaw_exv (e:H a=some (.frz o u))(h1:∀ xs,u ≠ .tup xs)(h2:∀ xs,u ≠ .lst xs):Exv mu mu H (upd H a u) where
 pre:=List.prefix_rfl
 tup:=fun b xs h=>by
  have ne:b≠a:=by
   rintro rfl;rcases h with h | ⟨_,h⟩<;>(rw [e] at h;cases h)
   exact h1 _ rfl
  rcases h with h | ⟨ob,h⟩
  ·exact .inl (by rw [upd_ne ne];exact h)
  ·exact .inr ⟨ob,by rw [upd_ne ne];exact h⟩
 frl:=fun b ob xs h=>by
  rw [upd_ne (by rintro rfl;rw [e] at h;cases h;exact h2 _ rfl)];exact h
theorem Sim.thaw (s:Sim K H mu S){ob:Ob}(hn:mu[n]? = some a)(x:Exv mu mu H (upd H a u))(ho:ObR K (upd H a u) mu a ob):Sim K (upd H a u) mu (S.set n ob):=by
 refine ⟨by rw [List.length_set];exact s.len,s.nd,fun k o' b h1 h2=>?_⟩;by_cases hk:n=k
 ·subst hk;have hl:n<S.length:=by
   have:=(gE1.mp h1).1
   rwa [List.length_set] at this
  rw [List.getElem?_set_self hl] at h1;cases h1;rw [hn] at h2;cases h2;exact ho
 ·rw [gS1 hk] at h1;have ne:b≠a:=fun e=>by
   subst e;obtain ⟨l1,e1⟩:=gE1.mp hn;obtain ⟨l2,e2⟩:=gE1.mp h2;exact hk ((List.getElem_inj s.nd).mp (e1.trans e2.symm))
  exact (s.ob k o' b h1 h2).exv x fun ob e=>by rw [upd_ne ne];exact e
theorem keys_at (s:Sim K H mu S){ob:Ob}{kvs:List (TK×D)}(h:S[n]? = some ob)(hk:keysO ob=some kvs)(hn:mu[n]? = some a):
  ∃ xs u,H a=some u/\DicO a xs u/\KT K H mu kvs xs/\xs.length<=sizeLine /\ ∀ H' mu',Exv mu mu' H H'->H' a=some u->ObR K H' mu' a ob:=by
 cases ob with
 | dcT ks=>
  cases hk;obtain ⟨xs,e,r,l⟩:=s.dcT h hn;exact ⟨xs,_,e,.ext xs,r,l,fun H' mu' x e'=>⟨xs,e',Paired.mapP r fun _ _ ⟨z,d,k,v,rv,r⟩=>⟨z,d,k.exv x,v,rv,r.exv x⟩,l⟩⟩
 | dct ks=>
  cases ks with
  | nil=>
   cases hk;obtain ⟨ws,e,r⟩:=s.dct h hn;cases r;exact ⟨[],_,e,.dK,.nil,Nat.zero_le _,fun H' mu' x e'=>⟨[],e',.nil⟩⟩
  | cons _ _=>cases hk
 | _=>cases hk
end
theorem KT.keyOf {K:Fg1}{H:Hp}{mu:List Addr}{ks:List (TK×D)}{ws:List (TK×Addr×Value)}(h:KT K H mu ks ws){i:Nat}{d:D}(e:(ks.map fun q=>tkD q.1)[i]? = some d){q:TK×Addr×Value}(e2:ws[i]? = some q):Rep K H mu d (.ref q.2.1):=by
 obtain ⟨v,ev,rv⟩:=h.keys.get e;rw [gP1,e2] at ev;cases ev;exact rv
theorem Ris.lt {xs:Array Nat}(h:Ris xs){a b u v:Nat}(hab:a<b)(ea:xs[a]? = some u)(eb:xs[b]? = some v):u<v:=by
 rw [<- aT1] at ea eb;obtain ⟨la,ea⟩:=gE1.mp ea;obtain ⟨lb,eb⟩:=gE1.mp eb;have:=List.pairwise_iff_getElem.mp h a b la lb hab;rw [ea,eb] at this;exact this
structure Bs (xs:Array Nat)(j i:Nat):Prop where
 le:i<=xs.size
 lo:∀ k v,xs[k]? = some v->k<i->v<j
 hi:∀ k v,xs[k]? = some v->i<=k->j<=v
theorem Bs.uniq {xs:Array Nat}{j i i':Nat}(h:Bs xs j i)(h':Bs xs j i'):i=i':=by
 rcases Nat.lt_trichotomy i i' with z | z | z
 ·have hs:i<xs.size:=nL1 z h'.le;have e:=aG1 hs;have:=h.hi _ _ e (nR1 _);have:=h'.lo _ _ e z;lia
 ·exact z
 ·have hs:i'<xs.size:=nL1 z h.le;have e:=aG1 hs;have:=h'.hi _ _ e (nR1 _);have:=h.lo _ _ e z;lia
theorem bs_go {xs:Array Nat}{j:Nat}(hr:Ris xs):∀ n lo hi:Nat,lo<=hi->hi<=xs.size->hi-lo<=n->(∀ k v,xs[k]? = some v->k<lo->v<j)->(∀ k v,xs[k]? = some v->hi<=k->j<=v)->Bs xs j (SetTable.below.go xs j n lo hi)
 | 0,lo,hi,h1,h2,h3,h4,h5=>by
  have:lo=hi:=by lia
  subst this;exact ⟨h2,h4,h5⟩
 | n + 1,lo,hi,h1,h2,h3,h4,h5=>by
  rw [SetTable.below.go];by_cases hl:lo<hi
  ·rw [if_pos hl];have hm:(lo+hi)/2<xs.size:=by lia
   have em:=aG1 hm;have eg:xs.getD ((lo+hi)/2) j=xs[(lo+hi)/2]:=by simp [Array.getD,hm]
   dsimp only;rw [eg];by_cases hc:xs[(lo+hi)/2]<j
   ·rw [if_pos hc];refine bs_go hr n _ _ (by lia) h2 (by lia) (fun k v e hk=>?_) h5;rcases Nat.lt_or_ge k ((lo+hi)/2) with z | z
    ·have:=hr.lt z e em;lia
    ·have:k=(lo+hi)/2:=by lia
     subst this;rw [em] at e;cases e;exact hc
   ·rw [if_neg hc];refine bs_go hr n _ _ (by lia) (by lia) (by lia) h4 fun k v e hk=>?_;rcases Nat.lt_or_ge ((lo+hi)/2) k with z | z
    ·have:=hr.lt z em e;lia
    ·have:k=(lo+hi)/2:=by lia
     subst this;rw [em] at e;cases e;lia
  ·rw [if_neg hl];have:lo=hi:=by lia
   subst this;exact ⟨h2,h4,h5⟩
theorem bs_below {xs:Array Nat}(hr:Ris xs)(j:Nat):Bs xs j (SetTable.below xs j):=
 bs_go hr _ 0 _ (Nat.zero_le _) (nR1 _) (by lia) (fun _ _ _ h=>absurd h (Nat.not_lt_zero _)) fun k v e h=>by
  have:=(Array.getElem?_eq_some_iff.mp e).1;lia
theorem ins_list {α:Type}(xs:Array α)(p:Nat)(x:α):(SetTable.insertAt xs p x).toList=xs.toList.take p++x::xs.toList.drop p:=by
 unfold SetTable.insertAt;rw [Array.toList_append,Array.toList_push,Array.toList_extract,Array.toList_extract];simp [List.extract_eq_drop_take];rw [List.take_of_length_le (by simp)]
theorem ris_ins {xs:Array Nat}(hr:Ris xs){j:Nat}(hn:xs[SetTable.below xs j]? ≠ some j):Ris (SetTable.insertAt xs (SetTable.below xs j) j):=by
 have b:=bs_below hr j;unfold Ris;rw [ins_list,List.pairwise_append,List.pairwise_cons];have lo:∀ v∈xs.toList.take (SetTable.below xs j),v<j:=fun v hv=>by
  obtain ⟨k,hk⟩:=List.getElem?_of_mem hv;rw [List.getElem?_take] at hk;split at hk
  ·rename_i hlt;exact b.lo k v (by rw [<- aT1];exact hk) hlt
  ·cases hk
 have hi:∀ v∈xs.toList.drop (SetTable.below xs j),j<v:=fun v hv=>by
  obtain ⟨k,hk⟩:=List.getElem?_of_mem hv;rw [List.getElem?_drop,aT1] at hk;have h1:=b.hi _ v hk (Nat.le_add_right _ _);rcases Nat.lt_or_ge j v with z | z
  ·exact z
  ·exfalso;have hjv:v=j:=by lia
   subst hjv;cases k with
   | zero=>exact hn hk
   | succ k=>
    have hs:SetTable.below xs v<xs.size:=by have:=(Array.getElem?_eq_some_iff.mp hk).1;lia
    have e:=aG1 hs;have:=b.hi _ _ e (nR1 _);have:=hr.lt (by lia) e hk;lia
 refine ⟨hr.sublist (List.take_sublist _ _),⟨hi,hr.sublist (List.drop_sublist _ _)⟩,fun a ha c hc=>?_⟩;rcases List.mem_cons.mp hc with z | z
 ·rw [z];exact lo a ha
 ·exact Nat.lt_trans (lo a ha) (hi c z)
structure TS (l:Bool)(t:SetTable):Prop where
 up:Ris t.place
 du:t.dummies = #[]
 ld:t.led=l
theorem no_dummy {t:SetTable}(hd:t.dummies = #[])(j:Nat):SetTable.has t.dummies j=false:=by rw [hd];rfl
theorem slot_free {t:SetTable}(hd:t.dummies = #[]){f:Nat->Int}{h:Int}:∀ (n:Nat) (p:SetTable.Probe) (j:Nat) (d:Option Nat),p.dummy=none->SetTable.probe.go t f h n p=some (.empty j d)->d=none/\t.place[SetTable.below t.place j]? ≠ some j
 | 0,p,j,d,_,e=>by rw [SetTable.probe.go] at e;cases e
 | n+1,p,j,d,hp,e=>by
  have adv:(t.advance p).dummy=none:=by
   unfold SetTable.advance;split
   ·exact hp
   ·dsimp only;exact hp
  rw [SetTable.probe.go] at e;unfold SetTable.slot at e;dsimp only at e;rw [no_dummy hd] at e;by_cases hc:(t.place[SetTable.below t.place p.j]? == some p.j)=true
  ·rw [if_pos hc] at e;dsimp only at e;split at e
   ·cases e
   ·exact slot_free hd n _ j d adv e
  ·rw [if_neg hc,if_neg (by decide)] at e;dsimp only at e;cases e;refine ⟨hp,fun z=>hc ?_⟩;rw [z];simp
theorem free_at {t:SetTable}(hd:t.dummies = #[]){h:Int}{j:Nat}{b:Bool}(e:t.freeSlot h=some (j,b)):t.place[SetTable.below t.place j]? ≠ some j:=by
 unfold SetTable.freeSlot at e;split at e
 ·rename_i j' d ep;obtain ⟨rfl,hn⟩:=slot_free hd _ _ _ _ rfl ep;cases e;exact hn
 ·cases e
theorem ts_stand {l:Bool}{t:SetTable}(h:TS l t)(n:Nat):TS l (t.standIn n):=by
 refine ⟨?_,rfl,h.ld⟩;show (Array.range n).toList.Pairwise (· < ·);rw [Array.toList_range];exact List.pairwise_lt_range
theorem ts_or {l:Bool}{t:SetTable}(h:TS l t)(n:Nat):TS l (t.orStandIn n):=by
 unfold SetTable.orStandIn;split
 ·exact h
 ·exact ts_stand h n
theorem ts_lay {l:Bool}{t:SetTable}(ht:TS l t)(es:Array (Int×Value))(h:Int)(x:Value):TS l (layNew t es h x).2.1:=by
 unfold layNew;split
 ·rename_i j b e;show TS l ((t.put j).1.orStandIn _);refine ts_or (t:=(t.put j).1) ⟨?_,?_,ht.ld⟩ _
  ·exact ris_ins ht.up (free_at ht.du e)
  ·show (if SetTable.has t.dummies j=true then _ else t.dummies) = #[];rw [no_dummy ht.du,if_neg (by decide)];exact ht.du
 ·exact ts_stand ht _
theorem fst_sub {α:Type}(f:Nat->Option α):∀ l:List Nat,((l.filterMap fun j=>(f j).map (j,·)).map (·.1)).Sublist l
 | []=>.slnil
 | a::l=>by
  rw [List.filterMap_cons];cases f a with
  | none=>exact (fst_sub f l).cons a
  | some x=>exact (fst_sub f l).cons₂ a
theorem ts_laid {l p:Bool}{m fi mo:Nat}{hs:Array Int}{t:SetTable}{ord:Array Nat}(e:SetTable.laid m fi mo l p hs=some (t,ord)):TS l t:=by
 unfold SetTable.laid at e;obtain ⟨ow,_,e⟩:=oB1.mp e;cases e;refine ⟨?_,rfl,rfl⟩;unfold Ris;dsimp only;exact List.pairwise_lt_range.sublist (by simpa using fst_sub (fun j=>ow.getD j none) (List.range (m+1)))
theorem ts_relay {l:Bool}{t:SetTable}(ht:TS l t)(es:Array (Int×Value))(n:Nat):TS l (relayAll t es n).2.1:=by
 unfold relayAll;split
 ·rename_i t' ord e;dsimp only;split
  ·have:=ts_laid e;rw [ht.ld] at this;exact this
  ·exact ts_stand ht _
 ·exact ts_stand ht _
theorem ts_fresh (l:Bool):TS l (SetTable.fresh 0 0 l):=⟨List.Pairwise.nil,rfl,rfl⟩
theorem bs_walk {xs:Array Nat}(hr:Ris xs){i:Nat}(hi:i<xs.size):SetTable.below xs (xs[i]+1)=i+1:=by
 refine (bs_below hr _).uniq ⟨hi,fun k v e hk=>?_,fun k v e hk=>?_⟩
 ·rcases Nat.lt_or_ge k i with z | z
  ·have:=hr.lt z e (aG1 hi);lia
  ·have:k=i:=by lia
   subst this;rw [aG1 hi] at e;cases e;lia
 ·have:=hr.lt (show i<k by lia) (aG1 hi) e;lia
theorem bs_walk0 {xs:Array Nat}(hr:Ris xs):SetTable.below xs 0=0:=
 (bs_below hr _).uniq ⟨Nat.zero_le _,fun k v e hk=>absurd hk (Nat.not_lt_zero _),fun k v e hk=>Nat.zero_le _⟩
noncomputable def kOf (e:Int×Value):Int:=match e.2 with
 | .int k _=>k
 | _=>0
structure Els (es:Array (Int×Value))(ns:List Int):Prop where
 el:∀ e∈es.toList,∃ k t,e=(hashInt k,Value.int k t)
 pm:(es.toList.map kOf).Perm ns
theorem Els.of {P:Program}{w:World}{es:Array (Int×Value)}{ns:List Int}(h:Els es ns):ElemsOf (intKind P w) es.toList:=fun e he=>by
 obtain ⟨k,t,rfl⟩:=h.el e he;exact ⟨⟨k,intKind_is _ _ _ _,rfl⟩,rfl⟩
theorem Els.size {es:Array (Int×Value)}{ns:List Int}(h:Els es ns):es.size=ns.length:=by
 have:=h.pm.length_eq;rw [lM1,Array.length_toList] at this;exact this
theorem Els.perm {es fs:Array (Int×Value)}{ns:List Int}(h:Els es ns)(p:fs.toList.Perm es.toList):Els fs ns:=
 ⟨fun e he=>h.el e (p.mem_iff.mp he),(p.map _).trans h.pm⟩
theorem Els.add {es fs:Array (Int×Value)}{ns:List Int}(h:Els es ns){k:Int}{t:Tok}(p:fs.toList.Perm (es.push (hashInt k,.int k t)).toList):Els fs (ns++[k]):=by
 rw [Array.toList_push] at p;refine ⟨fun e he=>?_,?_⟩
 ·rcases List.mem_append.mp (p.mem_iff.mp he) with z | z
  ·exact h.el e z
  ·simp at z;exact ⟨k,t,z⟩
 ·refine (p.map _).trans ?_;rw [List.map_append];exact h.pm.append (.refl _)
noncomputable def SetX (b:Bool)(p:Addr)(ns:List Int)(h:Heap):Prop:=∃ es ep t l,h.get? p=some (stO es ep t)/\Els es ns/\es.size<scanBound/\t.fits es.size=true/\TS l t/\(b=false->l=true)
section
variable {P:Program} {w:World} {A:Around} {E:Value->Shared->Prop} {s:Shared} {b:Bool} {p:Addr} {ns:List Int}
theorem put_st {es fs:Array (Int×Value)}{ep:Nat}{t u:SetTable}{h:Heap}(e:h.get? p=some (stO es ep t)):(h.update p (Obj.putSet fs u)).get? p=some (stO fs (ep+1) u):=by
 have:=hW1 (Obj.putSet fs u) e (by rw [putSet_of fs u rfl];rfl);rw [putSet_of fs u rfl] at this;exact this
theorem gw {c:Bool}{Q:Unit->Shared->Prop}(q:Q () s):wpAny (model P w) A (match c with
  | true=>rule "set.scan.the-table-gave-way"
  | false=>pure ()) Q E s:=by cases c<;>first | exact wP1 q | exact wpAny_rule q
theorem addX {k:Int}{tk:Tok}{Q:Bool->Shared->Prop}(hS:SetX b p ns s.heap)(hr:ns.length+1<scanBound)
  (q:∀ c h',Heap.SameBut p s.heap h'->SetX b p (step_dedup ns k) h'->Q c {s with heap:=h'}):wpAny (model P w) A (setAddHashed p (.int k tk) (hashInt k)) Q E s:=by
 obtain ⟨es,ep,t,l,ho,hE,hb,hf,ts,hl⟩:=hS;have hz:=hE.size;have el:ElemsOf (intKind P w) es.toList:=hE.of;unfold setAddHashed setAddHashedIn;refine wpAny_holding (wB1 (wpAny_setState_of ho rfl hf ?_));dsimp only;rw [byScan_of (knd:=intKind P w) rfl hb el,if_pos rfl];unfold setAddByScan;refine wB1 (wB1 (wpAny_rule (wB1 (wpAny_setScan_of (knd:=intKind P w) (k:=k) (intKind_is _ _ _ _) ho rfl hf el ?_))));cases hx:List.findIdx? (fun e=>(intKind P w).is k e.2) es.toList with
 | some j=>
  obtain ⟨hj,hpj,_⟩:=List.findIdx?_eq_some_iff_getElem.mp hx;have hk:k∈ns:=by
   refine hE.pm.mem_iff.mp (List.mem_map.mpr ⟨_,List.getElem_mem hj,?_⟩);obtain ⟨k',t',e⟩:=hE.el _ (List.getElem_mem hj);rw [e] at hpj ⊢;exact ((intKind P w).inj _ _ _ hpj (intKind_is P w k' t')).symm
  have hd:step_dedup ns k=ns:=by unfold step_dedup;rw [if_pos (List.any_eq_true.mpr ⟨k,hk,by simp⟩)]
  rw [hd] at q;exact wP1 (wP1 (q _ s.heap (Heap.SameBut.refl p s.heap) ⟨es,ep,t,l,ho,hE,hb,hf,ts,hl⟩))
 | none=>
  have hd:step_dedup ns k=ns++[k]:=by
   unfold step_dedup;rw [if_neg fun z=>?_];obtain ⟨k',hk,e⟩:=List.any_eq_true.mp z;have e:=beq_iff_eq.mp e;subst e;obtain ⟨x,hx1,hx2⟩:=List.mem_map.mp (hE.pm.mem_iff.mpr hk);obtain ⟨k2,t2,rfl⟩:=hE.el x hx1;have hx2:k2=k':=hx2;subst hx2;have:=List.findIdx?_eq_none_iff.mp hx _ hx1;rw [show (intKind P w).is k2 (hashInt k2,Value.int k2 t2).2=true from intKind_is _ _ _ _] at this;cases this
  rw [hd] at q;have p1:=layNew_perm t es (hashInt k) (.int k tk);have f1:=layNew_fits t es (hashInt k) (.int k tk);have t1:=ts_lay ts es (hashInt k) (.int k tk);dsimp only;generalize layNew t es (hashInt k) (.int k tk)=L at p1 f1 t1 ⊢;obtain ⟨fs,u,wd,gv⟩:=L;dsimp only at p1 f1 t1 ⊢;have e1:Els fs (ns++[k]):=hE.add p1;have z1:fs.size<scanBound:=by rw [e1.size,lA1];exact hr
  refine wB1 (gw ?_);have tail:∀ (c:Bool),wpAny (model P w) A (do
    storeSet p fs u
    if (!wd&&u.tooFull)=true then do
      (match (relayAll u fs (SetTable.grown fs.size)).2.2 with
       | true=>rule "set.scan.the-table-gave-way"
       | false=>pure ())
      storeSet p (relayAll u fs (SetTable.grown fs.size)).1 (relayAll u fs (SetTable.grown fs.size)).2.1
      pure (some true)
     else pure (some true)) (fun r s'=>wpAny (model P w) A (match r with
      | some added=>pure added
      | none=>setAddHashedIn p (.int k tk) (hashInt k) 99999) Q E s') E s:=fun _=>by
   refine wB1 (wpAny_storeSet_of ho rfl ?_ (fits_of_scanBound z1));have o1:=put_st (fs:=fs) (u:=u) ho;have sb:=Heap.SameBut.update s.heap p (Obj.putSet fs u);split
   ·have p2:=relayAll_perm u fs (SetTable.grown fs.size);have f2:=relayAll_fits u fs (SetTable.grown fs.size);have t2:=ts_relay t1 fs (SetTable.grown fs.size);generalize relayAll u fs (SetTable.grown fs.size)=L2 at p2 f2 t2 ⊢;obtain ⟨gs,v,gv2⟩:=L2;dsimp only at p2 f2 t2 ⊢;have e2:=e1.perm p2;have z2:gs.size<scanBound:=by rw [e2.size,<- e1.size];exact z1
    refine wB1 (gw (wB1 (wpAny_storeSet_of o1 rfl ?_ (fits_of_scanBound z2))));exact wP1 (wP1 (q _ _ (sb.trans (Heap.SameBut.update _ p _)) ⟨gs,_,v,l,put_st o1,e2,z2,f2,t2,hl⟩))
   ·exact wP1 (wP1 (q _ _ sb ⟨fs,_,u,l,o1,e1,z1,f1,t1,hl⟩))
  split
  ·refine wB1 (wP1 ?_);exact tail true
  ·refine wB1 (wP1 ?_);exact tail true
end
section
variable {P:Program} {w:World} {A:Around} {E:Value->Shared->Prop} {s:Shared}
noncomputable def byT (w:World):Bool:=w.params.followText "set-order"
theorem new_set (x:Value){G:Value->Shared->Prop}(q:G (.ref s.heap.objs.size) {s with heap:=s.heap.push (stO #[] 0 (.fresh 0 0 (!byT w)))}):
  codeAny (model P w) A (.call (.builtin "set.__new__") ⟨[.type "set",x],[]⟩) (wants G E) s:=by
 refine codeAny_of_tree (?_:wpAny _ A.in1 (do checkBuiltinCall "set.__new__" ⟨[.type "set",x],[]⟩;again (.builtin "set.__new__" ⟨[.type "set",x],[]⟩)) _ _ s);refine wB1 (wpAny_of_eq (PySem.F.newCall_set_1 x) (wP1 ⟨plainId_quiet PySem.F.plain_set_new _,wD1 PySem.F.entry_set_new (?_:_)⟩));rw [Around.under_plainId PySem.F.plain_set_new _];unfold Builtin.«set.__new__» Builtin.Frozenset.newClass;have hsub:=sub_set_self;obtain ⟨hp,g,d,tk,os⟩:=s;dsimp only
 wp_walk
 refine wpAny_askSetting (wP1 (?_:_));dsimp only;simp only [newObj];exact wB1 (wpAny_alloc (wP1 (wP1 q)))
set_option maxHeartbeats 3200000 in
theorem call_setLU {l:Addr}{its:Array Value}{Q:Value->Shared->Prop}(hl:s.heap.IsList l its)
  (run:∀ A':Around,A'.handled=A.handled->A'.units<=A.units+2 -> ∀ R:Result->Shared->Prop,(∀ s',Q (.ref s.heap.objs.size) s'->R (.ok (.ret .none)) s') ->
   codeAny (model P w) A' (.builtin "set.update.loop" ⟨[.ref s.heap.objs.size,.ref (s.heap.objs.size+1)],[]⟩) R {s with heap:=(s.heap.push (stO #[] 0 (.fresh 0 0 (!byT w)))).push {cls:=.type "list_iterator",data:=.fields #[.ref l,.int 0 0]}}):
  wpAny (model P w) A (call (.type "set") [.ref l]) Q E s:=by
 obtain ⟨cc,tt,hmro⟩:=PySem.F.called_set.mro;have hmade:=PySem.F.called_set.made;have hsub:=PySem.F.called_set.sub
 refine wpAny_call (codeAny_of_tree (?_:wpAny _ _ (callAny (.type "set") _) _ _ _));refine wP1 ⟨Code.quiet_builtin _ (by decide+kernel),wD1 PySem.F.entry_type_call (?_:_)⟩;rw [Around.under_plain (weight_type_call_type "set" [.ref l] []) rfl];have n1:=PySem.F.called_set.notType;have n2:=PySem.F.called_set.canCreate;have n3:=PySem.F.typeCall_set_1 (.ref l)
 repeat (any_goals (first | wp_step | assumption))
 refine codeAny_mono (new_set (.ref l) (E:=E) (G:=fun x s1=>x = .ref s.heap.objs.size/\s1={s with heap:=s.heap.push (stO #[] 0 (.fresh 0 0 (!byT w)))}) ⟨rfl,rfl⟩) fun r s1 hr=>?_;cases r with
 | error e=>exact hr
 | ok fl=>
  cases fl with
  | ret x=>
   obtain ⟨rfl,rfl⟩:=hr;have hS:(s.heap.push (stO #[] 0 (.fresh 0 0 (!byT w)))).get? s.heap.objs.size=some (stO #[] 0 (.fresh 0 0 (!byT w))):=hS1 _ rfl;have hT:Shared.TypeIs {s with heap:=s.heap.push (stO #[] 0 (.fresh 0 0 (!byT w)))} (.ref s.heap.objs.size) "set":=⟨_,hS,rfl⟩;have n4:=PySem.F.called_set.init.lookup;have n5:=PySem.F.called_set.init.bind (.ref s.heap.objs.size)
   repeat (any_goals (first | wp_step | assumption))
   refine codeAny_mono (codeAny_call_builtin (R:=wants (fun r s2=>r = .none/\Q (.ref s.heap.objs.size) s2) E) PySem.F.called_set.init.plain PySem.F.entry_set_init (check_set_init_1 hT (?_:_))) fun r2 s2 hr2=>?_
   ·obtain ⟨ol,hol,hcl,nl,hdl⟩:=hl;obtain ⟨oc,od,oa,os⟩:=ol;simp only at hcl hdl;subst hcl;subst hdl;have k1:(s.heap.push (stO #[] 0 (.fresh 0 0 (!byT w)))).get? l=some {cls:=.type "list",dict:=od,data:=.seq its nl,slots:=os}:=hP1 _ hol;have k2:=PySem.F.sub_list_set;have k3:=PySem.F.sub_list_frozenset;have k4:(Value.type "list" == Value.type "dict")=false:=by decide
    have k5:(s.heap.push (stO #[] 0 (.fresh 0 0 (!byT w)))).IsList l its:=⟨_,k1,rfl,nl,rfl⟩;have hS':(s.heap.push (stO #[] 0 (.fresh 0 0 (!byT w)))).get? s.heap.objs.size=some {cls:=.type "set",dict:=none,data:=.set #[] 0 (.fresh 0 0 (!byT w)),slots:= #[]}:=hS;unfold Builtin.«set.__init__» noKeywords Builtin.Frozenset.updateFrom;generalize hPI:pyIter=PI
    wp_walk
    subst hPI;refine wpAny_pyIter_list k5 (wB1 (wpAny_runValue (?_:_)));dsimp only;rw [show (s.heap.push (stO #[] 0 (.fresh 0 0 (!byT w)))).objs.size=s.heap.objs.size+1 from by rw [hZ1]];refine run A.in1.in1 (by simp) (nR1 _) _ fun s' q=>?_;exact wP1 (wP1 ⟨rfl,q⟩)
   ·cases r2 with
    | error e=>exact hr2
    | ok f2=>
     cases f2 with
     | ret r=>
      obtain ⟨rfl,q⟩:=hr2
      repeat (any_goals (first | wp_step | assumption))
     | _=>exact hr2.elim
  | _=>exact hr.elim
theorem call_setL {l:Addr}{its:Array Value}{Q:Value->Shared->Prop}(hl:s.heap.IsList l its)
  (run:∀ A':Around,A'.handled=A.handled -> ∀ R:Result->Shared->Prop,(∀ s',Q (.ref s.heap.objs.size) s'->R (.ok (.ret .none)) s') ->
   codeAny (model P w) A' (.builtin "set.update.loop" ⟨[.ref s.heap.objs.size,.ref (s.heap.objs.size+1)],[]⟩) R {s with heap:=(s.heap.push (stO #[] 0 (.fresh 0 0 (!byT w)))).push {cls:=.type "list_iterator",data:=.fields #[.ref l,.int 0 0]}}):
  wpAny (model P w) A (call (.type "set") [.ref l]) Q E s:=call_setLU hl fun A' h _=>run A' h
end
section
variable {P:Program} {w:World} {A:Around} {E:Value->Shared->Prop} {b:Bool}
theorem SetX.old {p:Addr}{ns:List Int}{h h':Heap}(x:SetX b p ns h)(k:∀ o,h.get? p=some o->h'.get? p=some o):SetX b p ns h':=by
 obtain ⟨es,ep,t,l,e,r⟩:=x;exact ⟨es,ep,t,l,k _ e,r⟩
theorem fold_len:∀ (ns acc:List Int),(ns.foldl step_dedup acc).length<=acc.length+ns.length
 | [],acc=>by simp
 | n::ns,acc=>by
  rw [List.foldl_cons];have h1:=fold_len ns (step_dedup acc n);have h2:(step_dedup acc n).length<=acc.length+1:=by unfold step_dedup;split<;>simp
  rw [lC1];lia
theorem set_loop {p l it:Addr}{its:Array Value}{ns:List Int}{R:Result->Shared->Prop}(hh:A.handled=none)(hI:IntsAre its.toList ns)(hb:ns.length+1<scanBound)(n1:p≠l)(n2:p≠it)(n3:it≠l):
  ∀ (k i:Nat) (s:Shared),its.size-i=k->i<=its.size->s.heap.IsListIter it l i->s.heap.IsList l its->SetX b p ((ns.take i).foldl step_dedup []) s.heap ->
  (∀ h' tk,(∀ c o,c≠p->c≠it->s.heap.get? c=some o->h'.get? c=some o)->SetX b p (ddI ns) h'->R (.ok (.ret .none)) {s with heap:=h',toks:=tk})->codeAny (model P w) A (.builtin "set.update.loop" ⟨[.ref p,.ref it],[]⟩) R s:=by
 have hlen:its.size=ns.length:=by rw [<- Array.length_toList];exact hI.length
 intro k
 induction k with
 | zero=>
  intro i s hk hi st hl hS q;have e:i=its.size:=by lia
  subst e;refine wD1 PyProof.Rows.F.entry_set_update_loop (?_:_);rw [Around.under_plainId PyProof.Rows.F.plain_set_update_loop _];show wpAny _ A.in1 (pyNext (.ref it) >>= _) _ _ s;refine wB1 (wpAny_pyNext_list_end (by simpa using hh) st hl (by simp) fun h' eb=>wP1 ?_);refine q h' s.toks (fun c o _ hc e=>eb c o hc e) ?_;have:=hS.old (h':=h') fun o e=>eb p o n2 e;rw [hlen,List.take_length] at this;exact this
 | succ k ih=>
  intro i s hk hi st hl hS q;have hlt:i<its.size:=by lia
  have hx:=aG1 hlt;obtain ⟨t,et⟩:=PyProof.Rows.IntsAre.int_at hI i its[i] (by rw [aT1];exact hx);refine wD1 PyProof.Rows.F.entry_set_update_loop (?_:_);rw [Around.under_plainId PyProof.Rows.F.plain_set_update_loop _];show wpAny _ A.in1 (pyNext (.ref it) >>= _) _ _ s;refine wB1 (wpAny_pyNext_list_item st hl hx fun h' st' sb=>?_);rw [et];show wpAny _ A.in1 (holding [Value.int (ns.getD i 0) t] (setAdd p (.int (ns.getD i 0) t)) >>= _) _ _ _;refine wB1 (wpAny_holding ?_);unfold setAdd;refine wpAny_holding (wB1 (wpAny_pyHash_int ?_));have hS':SetX b p ((ns.take i).foldl step_dedup []) h':=hS.old fun o e=>by rw [sb.2 p n2];exact e
  have hfl:=fold_len (ns.take i) [];refine addX (s:={s with heap:=h',toks:=s.toks+1}) (k:=ns.getD i 0) hS' (by rw [List.length_take,List.length_nil] at hfl;lia) fun c h2 sb2 hS2=>?_;have hn:ns[i]? = some (ns.getD i 0):=by rw [gG1 (by lia)];simp [List.getD,show i<ns.length by lia]
  have ef:step_dedup ((ns.take i).foldl step_dedup []) (ns.getD i 0)=(ns.take (i+1)).foldl step_dedup []:=by
   rw [List.take_succ,hn,List.foldl_append];rfl
  rw [ef] at hS2;have kk:∀ c o,c≠p->c≠it->s.heap.get? c=some o->h2.get? c=some o:=fun c o h1 h3 e=>by rw [sb2.2 c h1];show h'.get? c=_;rw [sb.2 c h3];exact e
  have keepIt:∀ o,h'.get? it=some o->h2.get? it=some o:=fun o e=>by rw [sb2.2 it (Ne.symm n2)];exact e
  refine wP1 ⟨plainId_quiet PyProof.Rows.F.plain_set_update_loop _,ih (i+1) {s with heap:=h2,toks:=s.toks+1} (by lia) hlt (st'.at keepIt) ?_ hS2 fun h3 tk k3 x3=>?_⟩
  ·obtain ⟨o,e,r⟩:=hl;exact ⟨o,kk l o (Ne.symm n1) (Ne.symm n3) e,r⟩
  ·exact q h3 tk (fun c o h1 h4 e=>k3 c o h1 h4 (kk c o h1 h4 e)) x3
theorem call_setI {s:Shared}{l:Addr}{its:Array Value}{ns:List Int}{Q:Value->Shared->Prop}(hh:A.handled=none)(hl:s.heap.IsList l its)(hI:IntsAre its.toList ns)(hb:ns.length+1<scanBound)
  (q:∀ h' tk,(∀ c o,s.heap.get? c=some o->h'.get? c=some o)->SetX (byT w) s.heap.objs.size (ddI ns) h'->Q (.ref s.heap.objs.size) {s with heap:=h',toks:=tk}):wpAny (model P w) A (call (.type "set") [.ref l]) Q E s:=by
 have hlt:l<s.heap.objs.size:=by obtain ⟨o,e,_⟩:=hl;exact Heap.lt_size e
 refine call_setL hl fun A' hA R hR=>?_;have z1:(s.heap.push (stO #[] 0 (.fresh 0 0 (!byT w)))).objs.size=s.heap.objs.size+1:=by rw [hZ1]
 have g1:(s.heap.push (stO #[] 0 (.fresh 0 0 (!byT w)))).get? s.heap.objs.size=some (stO #[] 0 (.fresh 0 0 (!byT w))):=hS1 _ rfl;refine set_loop (its:=its) (ns:=ns) (b:=byT w) (hA.trans hh) hI hb (nG1 hlt) (nN1 (Nat.lt_succ_self _)) (nG1 (Nat.lt_succ_of_lt hlt)) _ 0 _ rfl (Nat.zero_le _) ?_ ?_ ?_ fun h' tk k x=>hR _ (q h' tk (fun c o e=>k c o (nN1 (Heap.lt_size e)) (nN1 (Nat.lt_succ_of_lt (Heap.lt_size e))) (hP1 _ (hP1 _ e))) x)
 ·refine ⟨{cls:=.type "list_iterator",data:=.fields #[.ref l,.int 0 0]},?_,rfl,rfl⟩;have this:((s.heap.push (stO #[] 0 (.fresh 0 0 (!byT w)))).push {cls:=.type "list_iterator",data:=.fields #[.ref l,.int 0 0]}).get? (s.heap.push (stO #[] 0 (.fresh 0 0 (!byT w)))).objs.size=some {cls:=.type "list_iterator",data:=.fields #[.ref l,.int 0 0]}:=hS1 _ rfl;rw [z1] at this;exact this
 ·obtain ⟨o,e,r⟩:=hl;exact ⟨o,hP1 _ (hP1 _ e),r⟩
 ·refine ⟨#[],0,_,!byT w,hP1 _ g1,⟨fun e he=>by simp at he,.refl _⟩,by decide,rfl,ts_fresh _,fun h=>by rw [h];rfl⟩
end
theorem slot_sit:Slot "set_iterator" "__next__" "set_iterator.__next__":=
 .of (owner:="set_iterator") (n:="__next__") (by rw [typeLookup_type,builtinLookup_eq_fast];kernel_rfl) (by decide+kernel) (by decide+kernel) (by decide+kernel) (by first | exact .inl (by decide+kernel) | exact .inr (by decide+kernel)) (by rw [isSubtype_type];kernel_rfl)
theorem entry_sit:entryFor table "set_iterator.__next__"=some Builtin.«set_iterator.__next__» :=entryFor_of_tree (by kernel_rfl)
theorem args_sit (x:Value):argsOk "set_iterator.__next__" ⟨[x],[]⟩:=by unfold argsOk;kernel_rfl
theorem entry_siter:entryFor table "set.__iter__"=some Builtin.«frozenset.__iter__» :=entryFor_alias (id':="frozenset.__iter__") (by kernel_rfl) rfl (by decide+kernel) (by kernel_rfl)
noncomputable abbrev SIs (h:Heap)(it a:Addr)(f:Value)(i n ep:Nat):Prop:=h.get? it=some {cls:=.type "set_iterator",dict:=none,data:=.fields #[f,.int i 0,.ref a,.int n 0,.int ep 0],slots:= #[]}
noncomputable def slotAt (t:SetTable)(i:Nat):Nat:=match i with
 | 0=>0
 | i+1=>t.place.getD i 0+1
inductive Way (w:World)(h:Heap)(a:Addr)(es:Array (Int×Value))(ep:Nat)(t:SetTable):Value->Nat->List Value->Prop
 | txt (b:byT w=true) (i:Nat) (sl:Nat):Way w h a es ep t (.int sl 0) i ((pickOrder (w.params.setOrder a ep) es).toList.map (·.2))
 | drw (b:byT w=false) (d:(!t.plain&&decide (es.size>1))=true) (i:Nat) (tp:Addr) (ps:List Nat) (e:h.get? tp=some {cls:=.type "tuple",data:=.seq (ps.map fun j=>Value.int (j:Nat) 0).toArray}) (pm:ps.Perm (List.range es.size)):Way w h a es ep t (.ref tp) i (ps.map fun j=>(es[j]?.map (·.2)).getD .none)
 | plc (b:byT w=false) (d:(!t.plain&&decide (es.size>1))=false) (ld:t.led=true) (up:Ris t.place) (i:Nat):Way w h a es ep t (.int (slotAt t i) 0) i (es.toList.map (·.2))
theorem pick_perm {α:Type}(f:Nat->Nat):∀ (n k:Nat) (l:List α) (out:Array α),l.length=n->(pickOrder.go f n k l out).toList.Perm (out.toList++l)
 | 0,k,l,out,h=>by
  rw [pickOrder.go,List.length_eq_zero_iff.mp h,List.append_nil]
 | n+1,k,l,out,h=>by
  have hlt:f k%l.length<l.length:=Nat.mod_lt _ (by lia);rw [pickOrder.go,gG1 hlt];refine (pick_perm f n (k+1) _ _ (by rw [List.length_eraseIdx_of_lt hlt];lia)).trans ?_;rw [Array.toList_push,List.append_assoc];refine List.Perm.append_left _ ?_;have e1:l=l.take (f k%l.length)++l[f k%l.length]::l.drop (f k%l.length+1):=by rw [List.getElem_cons_drop,List.take_append_drop]
  rw [List.eraseIdx_eq_take_drop_succ];refine List.Perm.trans ?_ (List.Perm.of_eq e1.symm);exact (List.perm_middle (l₁:=l.take (f k%l.length)) (l₂:=l.drop (f k%l.length+1)) (a:=l[f k%l.length])).symm
theorem Way.perm {w:World}{h:Heap}{a:Addr}{es:Array (Int×Value)}{ep:Nat}{t:SetTable}{f:Value}{i:Nat}{pl:List Value}(y:Way w h a es ep t f i pl):pl.Perm (es.toList.map (·.2)):=by
 cases y with
 | txt=>exact (pick_perm _ _ _ _ _ rfl).map _
 | drw _ _ _ tp ps e pm=>
  refine (pm.map _).trans ?_;have:(List.range es.size).map (fun j=>(es[j]?.map (·.2)).getD .none)=es.toList.map (·.2):=by
   apply List.ext_getElem?;intro j;rw [gP1,gP1,aT1 (xs:=es)];by_cases hj:j<es.size
   ·rw [List.getElem?_range hj,oP1,aG1 hj];rfl
   ·rw [List.getElem?_eq_none (by simpa using hj),Array.getElem?_eq_none (by lia)];rfl
  rw [this]
 | plc=>exact .refl _
theorem Way.len {w:World}{h:Heap}{a:Addr}{es:Array (Int×Value)}{ep:Nat}{t:SetTable}{f:Value}{i:Nat}{pl:List Value}(y:Way w h a es ep t f i pl):pl.length=es.size:=by
 rw [y.perm.length_eq,lM1,Array.length_toList]
section
variable {P:Program} {w:World} {A:Around} {E:Value->Shared->Prop} {s:Shared} {it a:Addr} {f:Value} {i ep:Nat} {es:Array (Int×Value)} {t:SetTable} {pl:List Value}
theorem wk_txt {Q:Bool->Shared->Prop}(q:Q (byT w) s):wpAny (model P w) A setsByText Q E s:=by unfold setsByText;exact wB1 (wpAny_askSetting (wP1 q))
theorem sn_txt {sl:Nat}{Q:Option (Value×Nat)->Shared->Prop}(b:byT w=true)(ho:s.heap.get? a=some (stO es ep t))(hf:t.fits es.size=true)(q:Q (((pickOrder (w.params.setOrder a ep) es)[i]?).map fun e=>(e.2,sl)) s):wpAny (model P w) A (setNext a sl i ep) Q E s:=by
 unfold setNext;refine wB1 (wpAny_setState_of ho rfl hf (wB1 (wk_txt ?_)));rw [b,if_pos rfl,if_neg (by simp)];refine wB1 ?_;unfold setWalk;refine wB1 (wpAny_setState_of ho rfl hf (wB1 (wk_txt ?_)));rw [b,if_pos rfl];exact wB1 (wpAny_askSetting (wP1 (wP1 q)))
theorem bs_slot (up:Ris t.place)(hi:i<=t.place.size):SetTable.below t.place (slotAt t i)=i:=by
 cases i with
 | zero=>exact bs_walk0 up
 | succ j=>
  have hj:j<t.place.size:=hi;show SetTable.below t.place (t.place.getD j 0+1)=j+1;rw [show t.place.getD j 0=t.place[j] from by simp [Array.getD,hj]];exact bs_walk up hj
theorem sn_plc {Q:Option (Value×Nat)->Shared->Prop}(b:byT w=false)(d:(!t.plain&&decide (es.size>1))=false)(ld:t.led=true)(up:Ris t.place)(ho:s.heap.get? a=some (stO es ep t))(hf:t.fits es.size=true)(hi:i<=es.size)
  (q:Q ((es[i]?).map fun e=>(e.2,slotAt t (i+1))) s):wpAny (model P w) A (setNext a (slotAt t i) i ep) Q E s:=by
 have hp:t.place.size=es.size:=by
  unfold SetTable.fits at hf;rw [bA1,beq_iff_eq] at hf;exact hf.1
 unfold setNext;refine wB1 (wpAny_setState_of ho rfl hf (wB1 (wk_txt ?_)));rw [b,if_neg (by decide)];rw [if_neg (fun z=>by have z':(!t.plain&&decide (es.size>1))=true:=z;rw [d] at z';cases z')];refine wB1 ?_;show wpAny _ _ (if (!t.led && !es.isEmpty)=true then _ else _) _ _ _;rw [if_neg (by rw [ld];simp)];refine wP1 ?_;dsimp only;rw [bs_slot up (by omega)];by_cases hlt:i<es.size
 ·rw [aG1 hlt] at q ⊢;rw [aG1 (show i<t.place.size by omega)];have e1:slotAt t (i+1)=t.place[i]+1:=by
   show t.place.getD i 0+1=_;rw [show t.place.getD i 0=t.place[i] from by simp [Array.getD,show i<t.place.size by omega]]
  rw [e1] at q;exact wP1 q
 ·rw [Array.getElem?_eq_none (by omega)] at q ⊢;exact wP1 q
theorem wk_next {Q:Option Value->Shared->Prop}(hit:SIs s.heap it a f i es.size ep)(ho:s.heap.get? a=some (stO es ep t))(hf:t.fits es.size=true)(y:Way w s.heap a es ep t f i pl){x:Value}(hx:pl[i]? = some x)(nt:∀ tp,f = .ref tp->tp≠it)
  (q:∀ h' f',SIs h' it a f' (i+1) es.size ep->(∀ c o,c≠it->s.heap.get? c=some o->h'.get? c=some o)->Way w h' a es ep t f' (i+1) pl->(∀ tp,f' = .ref tp->f = .ref tp)->Q (some x) {s with heap:=h'}):wpAny (model P w) A (pyNext (.ref it)) Q E s:=by
 have hT:s.TypeIs (.ref it) "set_iterator":=⟨_,hit,rfl⟩;unfold pyNext;refine wB1 (wpAny_attempt (wpAny_callSpecial?_slot (name:=Str.ofString "__next__") hT slot_sit (wE1 slot_sit hT entry_sit ?_ (args_sit _))));refine wB1 (wP1 (wB1 (wpAny_fieldsOf hit rfl ?_)));dsimp only;refine wB1 (wpAny_setEntries_of ho rfl hf ?_);rw [if_neg (by simp)];have hlt:i<es.size:=by have:=(gE1.mp hx).1;rw [y.len] at this;exact this
 have two:∀ (f':Value),(∀ tp,f' = .ref tp->f = .ref tp)->(∀ h',(∀ c o,c≠it->s.heap.get? c=some o->h'.get? c=some o)->Way w h' a es ep t f' (i+1) pl) ->
   wpAny (model P w) A.in1 (setField (.ref it) 0 f' >>= fun _=>setField (.ref it) 1 (rawInt ((i:Int)+1)) >>= fun _=>ret x) (fun fin s'=>∃ v,fin=Fin.done (Flow.ret v)/\wpAny (model P w) A (pure (some v)) Q E s') (fun e s'=>wpAny (model P w) A (do
     let y<-isInstance e (.type "StopIteration")
     if y=true then pure none else throw e) Q E s') s:=fun f' nf wy=>by
  refine wB1 (wS1 hit (by simp) fun h1 g1 sb1=>wB1 (wS1 (s:={s with heap:=h1}) g1 (by simp) fun h2 g2 sb2=>wP1 ⟨_,rfl,wP1 ?_⟩));have kk:∀ c o,c≠it->s.heap.get? c=some o->h2.get? c=some o:=fun c o hc e=>sb2.extBut c o hc (sb1.extBut c o hc e);refine q h2 f' ?_ kk (wy h2 kk) nf;have e:((i+1:Nat):Int)=(i:Int)+1:=by lia
  unfold SIs;rw [e];simpa [rawInt] using g2
 cases y with
 | txt b _ sl=>
  refine wB1 (sn_txt (i:=i) (sl:=sl) (ep:=ep) b ho hf ?_);rw [gP1,aT1] at hx;obtain ⟨e,he,rfl⟩:=oM1.mp hx;rw [he];exact two (.int sl 0) (fun tp z=>by cases z) fun h' _=>.txt b _ sl
 | plc b d ld up _=>
  refine wB1 (sn_plc (i:=i) b d ld up ho hf (by lia) ?_);rw [gP1,aT1] at hx;obtain ⟨e,he,rfl⟩:=oM1.mp hx;rw [he];exact two (.int (slotAt t (i+1)) 0) (fun tp z=>by cases z) fun h' _=>.plc b d ld up _
 | drw b d _ tp ps e pm=>
  rw [gP1] at hx;obtain ⟨j,hj,rfl⟩:=oM1.mp hx;have hjs:j<es.size:=by have:=pm.mem_iff.mp (gM1 hj);simpa using this
  refine wB1 (wpAny_seqItems e rfl ?_);have hpl:((ps.map fun j=>Value.int (j:Nat) 0).toArray)[((i:Int)).toNat]? = some (.int (j:Nat) 0):=by
   rw [Int.toNat_natCast,List.getElem?_toArray,gP1,hj];rfl
  dsimp only;rw [hpl];dsimp only;refine wB1 ?_;unfold setNextDrawn;refine wB1 (wpAny_setState_of ho rfl hf ?_);dsimp only;rw [if_neg (by simp),Int.toNat_natCast,aG1 hjs];refine wP1 (wB1 (wS1 hit (by simp) fun h2 g2 sb2=>wP1 ⟨_,rfl,wP1 ?_⟩));have kk:∀ c o,c≠it->s.heap.get? c=some o->h2.get? c=some o:=fun c o hc e=>sb2.extBut c o hc e;have q':=q h2 (.ref tp) ?_ kk (.drw b d _ tp ps (kk tp _ (nt tp rfl) e) pm) fun _ z=>z
  ·rw [aG1 hjs] at q';exact q'
  ·have e:((i+1:Nat):Int)=(i:Int)+1:=by lia
   unfold SIs;rw [e];simpa [rawInt] using g2
theorem stop_W {Q:Option Value->Shared->Prop}{G:Fin->Shared->Prop}(hh:A.handled=none)(q:∀ h',(∀ c o,s.heap.get? c=some o->h'.get? c=some o)->Q none {s with heap:=h'}):
  wpAny (model P w) A.in1 (newExc (.type "StopIteration") [] >>= fun e=>raiseNew e) G (fun e s'=>wpAny (model P w) A (do
     let y<-isInstance e (.type "StopIteration")
     if y=true then pure none else throw e) Q E s') s:=by
 refine wB1 ?_;simp only [newExc,newTuple];refine wB1 (wO1 ?_ (by size_fits));refine wB1 (m:=firstArgMember _ _) (wpAny_of_eq (a:=Value.none) (by first | rfl | (simp only [firstArgMember];rfl)) ?_);refine wO1 ?_ (by size_fits);simp only [raiseNew];refine wB1 (wpAny_handled ?_);rw [show A.in1.handled=none from hh];refine wB1 (wP1 (wpAny_throw (?_:_)));refine wB1 (wpAny_isInstance (b:=true) (T:="StopIteration") ⟨_,hS1 _ rfl,rfl⟩ isSubtype_stop (?_:_));exact wP1 (q _ fun b o e=>hP1 _ (hP1 _ e))
theorem wk_end {Q:Option Value->Shared->Prop}(hh:A.handled=none)(hit:SIs s.heap it a f es.size es.size ep)(ho:s.heap.get? a=some (stO es ep t))(hf:t.fits es.size=true)(y:Way w s.heap a es ep t f es.size pl)
  (q:∀ h',(∀ c o,c≠it->s.heap.get? c=some o->h'.get? c=some o)->Q none {s with heap:=h'}):wpAny (model P w) A (pyNext (.ref it)) Q E s:=by
 have hT:s.TypeIs (.ref it) "set_iterator":=⟨_,hit,rfl⟩;unfold pyNext;refine wB1 (wpAny_attempt (wpAny_callSpecial?_slot (name:=Str.ofString "__next__") hT slot_sit (wE1 slot_sit hT entry_sit ?_ (args_sit _))));refine wB1 (wP1 (wB1 (wpAny_fieldsOf hit rfl ?_)));dsimp only;refine wB1 (wpAny_setEntries_of ho rfl hf ?_);rw [if_neg (by simp)];have hlen:=y.len;cases y with
 | txt b _ sl=>
  refine wB1 (sn_txt (i:=es.size) (sl:=sl) (ep:=ep) b ho hf ?_);rw [Array.getElem?_eq_none (by rw [lM1,Array.length_toList] at hlen;lia)];refine wB1 (wS1 hit (by simp) fun h1 g1 sb1=>?_);exact stop_W (s:={s with heap:=h1}) hh fun h' k=>q h' fun c o hc e=>k c o (sb1.extBut c o hc e)
 | plc b d ld up _=>
  refine wB1 (sn_plc (i:=es.size) (ep:=ep) b d ld up ho hf (nR1 _) ?_);rw [Array.getElem?_eq_none (nR1 _)];refine wB1 (wS1 hit (by simp) fun h1 g1 sb1=>?_);exact stop_W (s:={s with heap:=h1}) hh fun h' k=>q h' fun c o hc e=>k c o (sb1.extBut c o hc e)
 | drw b d _ tp ps e pm=>
  refine wB1 (wpAny_seqItems e rfl ?_);have hpl:((ps.map fun j=>Value.int (j:Nat) 0).toArray)[((es.size:Int)).toNat]? = none:=by
   rw [Int.toNat_natCast,List.getElem?_toArray,List.getElem?_eq_none (by rw [lM1] at hlen ⊢;lia)]
  dsimp only;rw [hpl];dsimp only;refine wB1 (wS1 hit (by simp) fun h1 g1 sb1=>?_);refine wB1 (wS1 (s:={s with heap:=h1}) g1 (by simp) fun h2 g2 sb2=>?_);exact stop_W (s:={s with heap:=h2}) hh fun h' k=>q h' fun c o hc e=>k c o (sb2.extBut c o hc (sb1.extBut c o hc e))
theorem choose_W {src:Source}{n:Nat}{Q:Nat->Shared->Prop}(hn:n≠0)(q:∀ i dr,i<n->Q i {s with drawn:=dr}):wpAny (model P w) A (choose src n) Q E s:=fun Γ p hΓ=>by
 unfold choose;rw [Sem.wp_choose];refine ⟨hn,?_⟩;exact wP1 (A:=A) (E:=E) (q _ _ (Nat.mod_lt _ (Nat.pos_of_ne_zero hn))) Γ p hΓ
theorem draw_W {α:Type}:∀ (n:Nat) (xs:List α) (s:Shared) (Q:List α->Shared->Prop),xs.length=n->(∀ ys dr,ys.Perm xs->Q ys {s with drawn:=dr})->wpAny (model P w) A (drawOrder n xs) Q E s
 | 0,xs,s,Q,h,q=>by
  have:=List.length_eq_zero_iff.mp h;subst this;exact wP1 (q [] s.drawn (.refl _))
 | n+1,[],s,Q,h,q=>by simp at h
 | n+1,x::xs,s,Q,h,q=>by
  rw [drawOrder];refine wB1 (choose_W (by simp) fun i dr hi=>?_);rw [gG1 hi];dsimp only;refine wB1 (draw_W n _ _ _ (by rw [List.length_eraseIdx_of_lt hi];lia) fun ys dr' pm=>wP1 (q _ dr' ?_));refine (pm.cons _).trans ?_;have e1:x::xs=(x::xs).take i++(x::xs)[i]::(x::xs).drop (i+1):=by rw [List.getElem_cons_drop,List.take_append_drop]
  rw [List.eraseIdx_eq_take_drop_succ];refine List.Perm.trans ?_ (List.Perm.of_eq e1.symm);exact List.perm_middle.symm
  all_goals simp
theorem wk_iter {l:Bool}{Q:Value->Shared->Prop}(ho:s.heap.get? a=some (stO es ep t))(hf:t.fits es.size=true)(hz:es.size<scanBound)(ts:TS l t)(hl:byT w=false->l=true)
  (q:∀ it h' dr f pl,(∀ c o,s.heap.get? c=some o->h'.get? c=some o)->s.heap.objs.size<=it->SIs h' it a f 0 es.size ep->Way w h' a es ep t f 0 pl->(∀ tp,f = .ref tp->tp≠it/\s.heap.objs.size<=tp)->Q (.ref it) {s with heap:=h',drawn:=dr}):
  wpAny (model P w) A (pyIter (.ref a)) Q E s:=by
 have hT:s.TypeIs (.ref a) "set":=⟨_,ho,rfl⟩;refine wpAny_pyIter_slot hT PySem.F.slot_set_iter (wE1 PySem.F.slot_set_iter hT entry_siter ?_ (PySem.F.args_set_iter_1 _));unfold Builtin.«frozenset.__iter__»;refine wB1 (m:=Builtin.Frozenset.slot0 _ _) (wP1 ?_);unfold Builtin.Frozenset.sizeOf;refine wB1 (wB1 (wpAny_setEntries_of ho rfl hf (wP1 ?_)));unfold setDrawn;refine wB1 (wB1 (wpAny_setState_of ho rfl hf (wB1 (wk_txt (wP1 ?_)))));show wpAny _ _ (if (!byT w&&(!t.plain&&decide (es.size>1)))=true then _ else _) _ _ _;have fin:∀ (h1:Heap) (dr:Drawn) (f:Value) (pl:List Value),(∀ c o,s.heap.get? c=some o->h1.get? c=some o)->s.heap.objs.size<=h1.objs.size->(∀ tp,f = .ref tp->tp<h1.objs.size/\s.heap.objs.size<=tp)->(∀ h',(∀ c o,h1.get? c=some o->h'.get? c=some o)->Way w h' a es ep t f 0 pl) ->
   wpAny (model P w) A.in1 (setEpoch a >>= fun e=>newFields "set_iterator" [f,rawInt 0,.ref a,rawInt es.size,rawInt e] >>= fun r=>ret r) (fun fin s'=>∃ r,fin=Fin.done (Flow.ret r) /\ ∃ T g,s'.TypeIs r T/\typeLookup (.type T) "__next__"=pure (some g)/\Q r s') E {s with heap:=h1,drawn:=dr}:=by
  intro h1 dr f pl k1 hz1 hf1 wy;refine wB1 (wpAny_setEpoch_of (k1 a _ ho) rfl hf (wB1 (wO1 (wP1 ⟨_,rfl,"set_iterator",_,⟨_,hS1 _ rfl,rfl⟩,slot_sit.lookup,?_⟩) (by size_fits))));refine q h1.objs.size _ dr f pl (fun c o e=>hP1 _ (k1 c o e)) hz1 ?_ (wy _ fun c o e=>hP1 _ e) fun tp e=>⟨nN1 (hf1 tp e).1,(hf1 tp e).2⟩;have:=hS1 h1 (o:={cls:=.type "set_iterator",data:=.fields #[f,.int 0 0,.ref a,.int es.size 0,.int ep 0]}) rfl;exact this
 by_cases hb:byT w=true
 ·rw [if_neg (by rw [hb];simp)];refine wB1 (wP1 ?_);exact fin s.heap s.drawn _ _ (fun _ _ e=>e) (nR1 _) (fun tp z=>by cases z) fun h' _=>.txt hb 0 0
 ·have hb:byT w=false:=by simpa using hb
  by_cases hd:(!t.plain&&decide (es.size>1))=true
  ·rw [if_pos (by rw [hb,hd];rfl)];refine wB1 (draw_W es.size (List.range es.size) s _ (by simp) fun ys dr pm=>?_);refine wB1 (m:=newTuple _) (wO1 (s:={s with drawn:=dr}) ?_ ?_)
   ·refine fin (s.heap.push {cls:=.type "tuple",data:=.seq (ys.map fun (i:Nat)=>rawInt i).toArray}) dr (.ref s.heap.objs.size) (ys.map fun j=>(es[j]?.map (·.2)).getD .none) (fun c o e=>hP1 _ e) (by rw [hZ1];exact Nat.le_succ _) (fun tp z=>by cases z;exact ⟨by rw [hZ1];exact Nat.lt_succ_self _,nR1 _⟩) fun h' k=>?_;exact .drw hb hd 0 _ ys (k _ _ (hS1 _ rfl)) pm
   ·have:=pm.length_eq;have hz2:=fits_of_scanBound hz;simp [sizeOk,this,hz2]
  ·have hd:(!t.plain&&decide (es.size>1))=false:=by simpa using hd
   rw [if_neg (by rw [hd];simp)];refine wB1 (wP1 ?_);exact fin s.heap s.drawn _ _ (fun _ _ e=>e) (nR1 _) (fun tp z=>by cases z) fun h' _=>.plc hb hd (by rw [ts.ld];exact hl hb) ts.up 0
end
theorem Way.keep {w:World}{h h':Heap}{a:Addr}{es:Array (Int×Value)}{ep:Nat}{t:SetTable}{f:Value}{i:Nat}{pl:List Value}(y:Way w h a es ep t f i pl)(k:∀ tp o,f = .ref tp->h.get? tp=some o->h'.get? tp=some o):Way w h' a es ep t f i pl:=by
 cases y with
 | txt b _ sl=>exact .txt b _ sl
 | drw b d _ tp ps e pm=>exact .drw b d _ tp ps (k tp _ rfl e) pm
 | plc b d ld up _=>exact .plc b d ld up _
section
variable {P:Program} {w:World} {A:Around} {E:Value->Shared->Prop}
theorem wk_loop {it a S:Addr}{ep:Nat}{es:Array (Int×Value)}{t:SetTable}{pl:List Value}{res:Value}{R:Result->Shared->Prop}(hh:A.handled=none)(hf:t.fits es.size=true)(h1:it≠a)(h2:S≠a)(h3:S≠it)(hn:es.size<=sizeLine):
  ∀ (k i:Nat) (s:Shared) (f:Value) (acc:Array Value) (c:Nat),es.size-i=k->i<=es.size->SIs s.heap it a f i es.size ep->s.heap.get? a=some (stO es ep t)->Way w s.heap a es ep t f i pl->(∀ tp,f = .ref tp->tp≠it/\tp≠S) ->
  s.heap.get? S=some {cls:=.type "list",dict:=none,data:=.seq acc c,slots:= #[]}->acc.toList=pl.take i ->
  (∀ h' acc' c',(∀ b u,b≠it->b≠S->s.heap.get? b=some u->h'.get? b=some u)->h'.get? S=some {cls:=.type "list",dict:=none,data:=.seq acc' c',slots:= #[]}->acc'.toList=pl->R (.ok (.ret res)) {s with heap:=h'}) ->
  codeAny (model P w) A (.builtin "list.extend.loop" ⟨[.ref S,.ref it,res],[]⟩) R s:=by
 intro k
 induction k with
 | zero=>
  intro i s f acc c hk hi hit ha y nt hS hp hR;have e:i=es.size:=by lia
  subst e;have hlen:=y.len;refine wD1 PySem.F.entry_extend_loop (?_:_);rw [Around.under_plainId PySem.F.plain_extend_loop _];show wpAny _ A.in1 (pyNext (.ref it) >>= _) _ _ s;refine wB1 (wk_end hh hit ha hf y fun h' keep=>wP1 ?_);exact hR h' acc c (fun b u hb _ e=>keep b u hb e) (keep S _ h3 hS) (by rw [hp,<- hlen,List.take_length])
 | succ k ih=>
  intro i s f acc c hk hi hit ha y nt hS hp hR;have hlt:i<es.size:=by lia
  have hlen:=y.len;obtain ⟨x,hx⟩:∃ x,pl[i]? = some x:=⟨_,gG1 (by lia)⟩;have hal:acc.size=i:=by rw [<- Array.length_toList,hp,List.length_take];lia
  refine wD1 PySem.F.entry_extend_loop (?_:_);rw [Around.under_plainId PySem.F.plain_extend_loop _];show wpAny _ A.in1 (pyNext (.ref it) >>= _) _ _ s;refine wB1 (wk_next hit ha hf y hx (fun tp e=>(nt tp e).1) fun h' f' hit' keep y' nf=>?_);have hS':=keep S _ h3 hS;show wpAny _ A.in1 (updateSeq S (·.push x) >>= _) _ _ _;refine wB1 (wpAny_updateSeq (s:={s with heap:=h'}) hS' rfl ?_ (by rw [hal];lia) (by show (acc.push _).size<=sizeLine+1;rw [Array.size_push,hal];lia));have oth:∀ b u,b≠S->h'.get? b=some u->(h'.update S (Obj.mapSeq (·.push x))).get? b=some u:=fun b u hb e=>by rw [hU1 _ _ _ _ hb];exact e
  refine wP1 ⟨plainId_quiet PySem.F.plain_extend_loop _,ih (i+1) {s with heap:=h'.update S (Obj.mapSeq (·.push x))} f' (acc.push x) _ (by lia) hlt (oth it _ (Ne.symm h3) hit') (oth a _ (Ne.symm h2) (keep a _ (Ne.symm h1) ha)) (y'.keep fun tp o e q=>oth tp o (nt tp (nf tp e)).2 q) (fun tp e=>nt tp (nf tp e)) (hW1 _ hS' rfl) ?_ ?_⟩
  ·rw [Array.toList_push,hp,List.take_succ,hx];rfl
  ·intro h'' acc' c' keep2 hS2 hp2;exact hR h'' acc' c' (fun b u hb hb2 e=>keep2 b u hb hb2 (oth b u hb2 (keep b u hb e))) hS2 hp2
theorem set_len0:typeLookup (.type "set") "__len__"=pure (some (.builtin "set.__len__")):=by rw [typeLookup_type,builtinLookup_eq_fast];kernel_rfl
theorem wk_hint {s:Shared}{v:Addr}{Q:Bool->Shared->Prop}(hT:s.TypeIs (.ref v) "set")(q:Q false s):wpAny (model P w) A (Builtin.List.listLengthHint (.ref v)) Q E s:=by
 unfold Builtin.List.listLengthHint;refine wB1 (wpAny_specialOf hT set_len0 (?_:_));generalize hid:("set.__len__":String)=id0
 wp_delta
 rw [show splitId id0=some ("set","__len__") from by subst hid;decide+kernel];subst hid;refine wB1 (wpAny_isInstance (b:=true) hT (by rw [isSubtype_type];kernel_rfl) (?_:_));rw [if_neg (by decide)];dsimp only;rw [if_pos (by decide+kernel)];exact wB1 (wpAny_typeOf hT (wP1 q))
theorem wk_collect {s:Shared}{a:Addr}{ns:List Int}{Q:List Value->Shared->Prop}(hh:A.handled=none)(hx:SetX (byT w) a ns s.heap)
  (q:∀ h' dr vs ms,(∀ b u,s.heap.get? b=some u->h'.get? b=some u)->s.heap.objs.size<=h'.objs.size->IntsAre vs ms->ms.Perm ns->Q vs {s with heap:=h',drawn:=dr}):wpAny (model P w) A (collect (.ref a)) Q E s:=by
 obtain ⟨es,ep,t,l,ha,hE,hz,hf,ts,hl⟩:=hx;have hal:a<s.heap.objs.size:=Heap.lt_size ha;unfold collect;refine wB1 (wpAny_runValue (wD1 PySem.F.entry_proto_collect (?_:_)));rw [Around.under_plainId PySem.F.plain_proto_collect _];show wpAny _ A.in1 (newList [] >>= fun l=>again (.builtin "list.__iadd__" ⟨[l,.ref a],[]⟩)) _ _ s;refine wB1 (wO1 (?_:_));refine wP1 ⟨plainId_quiet PySem.F.plain_list_iadd _,wD1 PySem.F.entry_list_iadd (?_:_)⟩;rw [Around.under_plainId PySem.F.plain_list_iadd _];have hS₁:(s.heap.push {cls:=.type "list",data:=.seq ([]:List Value).toArray}).get? s.heap.objs.size=some {cls:=.type "list",data:=.seq ([]:List Value).toArray}:=hS1 _ rfl;have k₁:∀ b u,s.heap.get? b=some u->(s.heap.push {cls:=.type "list",data:=.seq ([]:List Value).toArray}).get? b=some u:=fun b u e=>hP1 _ e;have hz₁:(s.heap.push {cls:=.type "list",data:=.seq ([]:List Value).toArray}).objs.size=s.heap.objs.size+1:=by rw [hZ1]
 have hne:s.heap.objs.size≠a:=nG1 hal;have h1:Builtin.List.listSameRef (.ref s.heap.objs.size) (.ref a)=false:=by simp [Builtin.List.listSameRef,hne]
 show wpAny _ A.in1 (Builtin.List.listExtendWith (.ref s.heap.objs.size) (.ref a) (.ref s.heap.objs.size)) _ _ {s with heap:=s.heap.push {cls:=.type "list",data:=.seq ([]:List Value).toArray}};generalize s.heap.push {cls:=.type "list",data:=.seq ([]:List Value).toArray}=h₁ at *
 unfold Builtin.List.listExtendWith;refine wB1 (wpAny_typeOf (T:="set") ⟨_,k₁ a _ ha,rfl⟩ ?_);rw [if_neg (by rw [h1];decide)];refine wB1 (wk_iter (s:={s with heap:=h₁}) (k₁ a _ ha) hf hz ts hl fun it h₂ dr f pl k₂ hit0 hit y nt=>?_);dsimp only at k₂ hit0 nt;have hS₂:=k₂ _ _ hS₁;have hT₂:Shared.TypeIs {s with heap:=h₂,drawn:=dr} (.ref a) "set":=⟨_,k₂ _ _ (k₁ a _ ha),rfl⟩;refine wB1 (wpAny_holding (wk_hint hT₂ ?_));rw [if_pos (by decide+kernel)];refine wB1 (wpAny_rule (wB1 ?_));show wpAny _ A.in1 (updateSeq s.heap.objs.size (·.push .none) >>= fun _=>updateSeq s.heap.objs.size (·.pop)) _ _ _;refine wB1 (wpAny_updateSeq (s:={s with heap:=h₂,drawn:=dr}) hS₂ rfl ?_);have hS₃:=hW1 (Obj.mapSeq (·.push Value.none)) hS₂ rfl;refine wpAny_updateSeq (s:={s with heap:=h₂.update s.heap.objs.size (Obj.mapSeq (·.push Value.none)),drawn:=dr}) hS₃ rfl ?_;have hS₄:=hW1 (Obj.mapSeq (·.pop)) hS₃ rfl;have oth:∀ b u,b≠s.heap.objs.size->h₂.get? b=some u->((h₂.update s.heap.objs.size (Obj.mapSeq (·.push Value.none))).update s.heap.objs.size (Obj.mapSeq (·.pop))).get? b=some u:=fun b u hb e=>by
  rw [hU1 _ _ _ _ hb,hU1 _ _ _ _ hb];exact e
 rw [hz₁] at hit0 nt;have pm:=y.perm;refine wP1 ⟨plainId_quiet PySem.F.plain_extend_loop _,wk_loop (it:=it) (pl:=pl) hh hf (nG1 (Nat.lt_trans hal hit0)) (nG1 hal) (nN1 hit0) (fits_of_scanBound hz) es.size 0
  {s with heap:=(h₂.update s.heap.objs.size (Obj.mapSeq (·.push Value.none))).update s.heap.objs.size (Obj.mapSeq (·.pop)),drawn:=dr} f _ _ rfl (Nat.zero_le _) (oth _ _ (nG1 hit0) hit) (oth a _ (nN1 hal) (k₂ _ _ (k₁ a _ ha))) (y.keep fun tp o e q=>oth tp o (nG1 (nt tp e).2) q) (fun tp e=>⟨(nt tp e).1,nG1 (nt tp e).2⟩) hS₄ rfl fun h' acc' c' keep hS' hp=>?_⟩
 show wpAny _ A (load s.heap.objs.size >>= _) _ _ {s with heap:=h',drawn:=dr};refine wB1 (wpAny_load hS' ?_);have hI:∀ v∈pl,∃ k t,v=Value.int k t:=fun v hv=>by
  obtain ⟨e,he,rfl⟩:=List.mem_map.mp (pm.mem_iff.mp hv);obtain ⟨k,t,rfl⟩:=hE.el e he;exact ⟨k,t,rfl⟩
 have all:∀ vs:List Value,(∀ v∈vs,∃ k t,v=Value.int k t)->IntsAre vs (vs.map fun v=>kOf (0,v)):=by
  intro vs
  induction vs with
  | nil=>intro _;exact .nil
  | cons v vs ih=>
   intro hv;obtain ⟨k,t,rfl⟩:=hv v mS1;exact .cons k t (ih fun u hu=>hv u (mC1 _ hu))
 refine wP1 (q h' dr acc'.toList (pl.map fun v=>kOf (0,v)) (fun b u e=>?_) (Nat.le_of_lt (Heap.lt_size hS')) (by rw [hp];exact all pl hI) ?_)
 ·have hb:=Heap.lt_size e;exact keep b u (nN1 (Nat.lt_trans hb hit0)) (nN1 hb) (oth b u (nN1 hb) (k₂ _ _ (k₁ b u e)))
 ·refine (pm.map _).trans ?_;rw [List.map_map];exact hE.pm
theorem sorted_setI {s:Shared}{a:Addr}{ns:List Int}{Q:Value->Shared->Prop}(hh:A.handled=none)(hx:SetX (byT w) a ns s.heap)(h64:ns.length<64)
  (q:∀ h' dr L n out,(∀ b u,s.heap.get? b=some u->h'.get? b=some u)->s.heap.objs.size<=L->h'.get? L=some (seqObj "list" out n)->IntsAre out.toList (sortI ns)->Q (.ref L) {s with heap:=h',drawn:=dr}):
  wpAny (model P w) A (call (.builtin "sorted") [.ref a]) Q E s:=by
 refine Calls.call_function_entry kind_sorted plain_sorted entry_sorted (args_sorted1 _) (?_:_);unfold Builtin.«sorted»;refine wB1 (m:=checkCount "sorted" 1 1 _) (wP1 (wB1 (wk_collect hh hx fun h' dr vs ms keep hz hI pm=>?_)));have hlen:vs.length<64:=by rw [hI.length,pm.length_eq];exact h64
 refine wB1 (wpAny_newList (hsz:=by rw [sizeLine_eq];lia) ?_);have hoL:(h'.push (seqObj "list" vs.toArray 0)).get? h'.objs.size=some (seqObj "list" vs.toArray 0):=hS1 _ rfl;show wpAny _ _ _ _ _ {s with heap:=h'.push (seqObj "list" vs.toArray 0),drawn:=dr};refine wB1 (wpAny_holding (wE1 slot_list_sort ⟨_,hoL,rfl⟩ entry_list_sort (list_sort_tree (s:={s with heap:=h'.push (seqObj "list" vs.toArray 0),drawn:=dr}) hoL hI hlen fun out ns' a1 a2 a3=>⟨_,rfl,?_⟩) (args_list_sort _)));have en:ns'=sortI ns:=pw_uniq (a2.trans (pm.trans (sortI_perm ns).symm)) a3 (sortI_pw ns);subst en;obtain ⟨n,hat⟩:=sortedHeap_at (out:=out) hoL;refine wP1 ⟨_,rfl,q _ dr h'.objs.size n out (fun b u e=>?_) hz hat a1⟩;have e':=keep b u e;show (sortedHeap (h'.push (seqObj "list" vs.toArray 0)) h'.objs.size vs out).get? b=some u;rw [sortedHeap_old (nN1 (Heap.lt_size e')) (by rw [hZ1];exact Nat.lt_succ_of_lt (Heap.lt_size e'))];exact hP1 _ e'
end
noncomputable def gSortSet:G1:=fun d S=>match seqOf S d with
 | some (true,xs)=>(intsOf xs).bind fun ns=>if ns.length<64 then some (.ref S.length,S++[.lst ((sortI (ddI ns)).map D.int)]) else none
 | _=>none
section
variable {X:Cx}
noncomputable def rSetX (X:Cx)(vs:List V)(H:Hp)(Q:VK):Prop:=∃ a xs ns,vs=[.ref a]/\SqL X.K H a xs/\(∀ us,Vals xs us->IntsAre us ns)/\ns.length+1<scanBound /\ ∀ p,H p=none->Q (.ref p) (upd H p (.ext (SetX (byT X.w) p (ddI ns))))
noncomputable def rSortX (X:Cx)(vs:List V)(H:Hp)(Q:VK):Prop:=∃ a ns,vs=[.ref a]/\H a=some (.ext (SetX (byT X.w) a ns))/\ns.length<64 /\ ∀ p,H p=none->Q (.ref p) (upd H p (.lst ((sortI ns).map V.int)))
theorem inv_drawn {pins:List (Addr×Obj)}{σ:L2.St}{H:Hp}{s:Shared}(I:Inv X pins σ H s)(d:Drawn):Inv X pins σ H {s with drawn:=d}:=⟨I.ok,I.os,I.bare,I.base,I.loc,I.cell,I.free,I.freeC,I.pin,I.hok,I.len⟩
theorem c_setX (hc:X.calm=true):CallR X (.type "set") (rSetX X):=by
 intro pins s σ H xs us Q I r h;obtain ⟨a,vs,ns,rfl,hq,hi,hb,q⟩:=h;obtain ⟨u,rfl,r2⟩:=vals1 r;cases r2;obtain ⟨its,rv,p,hz⟩:=I.list hq;have hI:=hi its rv;refine call_setI (I.ok.hd hc) p.isList (by simpa using hI) hb fun h' tk keep hx=>?_;have hfr:=I.hok.fresh (nR1 s.heap.objs.size);refine ⟨.ref s.heap.objs.size,_,I.laid (t':=tk) (o:=.ext (SetX (byT X.w) s.heap.objs.size (ddI ns))) keep (nR1 _) ⟨hx,?_,fun h1 h2 x k=>x.old k⟩,rfl,q _ hfr⟩;obtain ⟨es,ep,t,l,e,_⟩:=hx;exact ⟨_,e⟩
theorem c_sortX (hc:X.calm=true):CallR X (.builtin "sorted") (rSortX X):=by
 intro pins s σ H xs us Q I r h;obtain ⟨a,ns,rfl,ha,hl,q⟩:=h;obtain ⟨u,rfl,r2⟩:=vals1 r;cases r2;obtain ⟨hx,_⟩:=(show ObjOk X.prog X.w H s.heap a (.ext (SetX (byT X.w) a ns)) from I.hok a _ ha);refine sorted_setI (I.ok.hd hc) hx hl fun h' dr L n out keep hL hat hI=>?_;have hfr:=I.hok.fresh hL;refine ⟨.ref L,_,inv_drawn (I.laid (t':=s.toks) (o:=.lst ((sortI ns).map V.int)) keep hL ⟨?_,out.toList,n,ints_back hI,by rw [Array.toArray_toList];exact hat⟩) dr,rfl,q _ hfr⟩;rw [lM1,(sortI_perm ns).length_eq,sizeLine_eq];lia
theorem dd_le (ns:List Int):(ddI ns).length<=ns.length:=by
 have:=fold_len ns [];unfold ddI;simpa using this
theorem xme_sortS (hc:X.calm=true){o:Expr}{m:FE}{p p2 pos pos2:Pos}(hg:Gl X "sorted")(hm:X.mg "sorted"=none)(hg2:Gl X "set")(hm2:X.mg "set"=none)(ho:XE X o m)
  (he:starEach [.Call (.Name "set" p2) [o] [] pos2] X.env=[(false,eval (.Call (.Name "set" p2) [o] [] pos2) X.env)]:=by rfl) (he2:starEach [o] X.env=[(false,eval o X.env)]:=by rfl):XE X (.Call (.Name "sorted" p) [.Call (.Name "set" p2) [o] [] pos2] [] pos) (mN (b1 gSortSet) (mCons m mNil)):=
 ⟨pe_imp (pe_callB (c_sortX hc) hg hm (by decide+kernel) (pa_cons (pe_callTy (c_setX hc) hg2 hm2 (by decide+kernel) (pa_cons ho.h pa_nil he2) (he:=he2)) pa_nil he) (he:=he)) <| by
  rintro σ H Q ⟨r,mu,S,d,S',he,hs,hm,hcc⟩;obtain ⟨⟨ds,S1⟩,e1,hm⟩:=oB1.mp hm;obtain ⟨⟨d1,S2⟩,e2,e1⟩:=oB1.mp e1;cases e1;dsimp only [b1,gSortSet] at hm;split at hm
  ·rename_i xs en;obtain ⟨ns,ei,hm⟩:=oB1.mp hm;split at hm
   ·rename_i hl;cases hm;refine ⟨r,mu,S,d1,_,he,hs,e2,fun v H1 mu1 x1 r1 s1=>?_⟩;obtain ⟨a,vs,rfl,q,t⟩:=seqOf_at r1 s1 en;refine ⟨a,vs,ns,rfl,q,fun us hv=>(intsOf_at t hv ei).1,Nat.lt_trans (Nat.succ_lt_succ hl) (by decide),fun p hp=>?_⟩;refine ⟨p,ddI ns,rfl,upd_same,Nat.lt_of_le_of_lt (dd_le ns) hl,fun p2 hp2=>?_⟩;have f1:Ext mu1 mu1 H1 (upd H1 p (.ext (SetX (byT X.w) p (ddI ns)))):=Ext.fresh hp;have s2:=s1.fresh (u:=.ext (SetX (byT X.w) p (ddI ns))) hp;exact hcc _ _ (mu1++[p2]) (x1.trans (f1.trans (Ext.new_ hp2))) (.ref (new_at s2.len _)) (s2.newL (reps_ints _) hp2)
   ·cases hm
  ·cases hm⟩
end
section
variable {X:Cx} {pins:List (Addr×Obj)} {σ:L2.St} {H:Hp} {s:Shared} {a:Addr} {kvs:List (Key×V)} {k:Key} {v:V} {u r:Value} {A:Around} {E:Value->Shared->Prop}
end
section
variable {X:Cx}
end
open AutoSeq1 (wpAny_loadPart')
section
variable {prog:Program} {w:World} {A:Around} {E:Value->Shared->Prop} {s:Shared}
end
section
variable {X:Cx}
end
section
variable {P:Program} {w:World} {A:Around} {E:Value->Shared->Prop} {s:Shared}
end
section
variable {X:Cx}
end
section
variable {X:Cx} {a b:Expr} {rest:List Expr} {pos:Pos} {ta tb:TE} {f g:FE}
theorem pe_orT (ha:PE X a ta)(hb:PE X (.BoolOp .Or (b::rest) pos) tb):PE X (.BoolOp .Or (a::b::rest) pos) (fun σ H Q=>ta σ H fun x H'=>∃ k,TruV X.K x H' k/\if k=true then Q x H' else tb σ H' Q):=by
 intro pins s σ H Q I h;refine BoolOp_or (thn (ha pins s σ H _ I h) fun v s1 ⟨x,H1,I1,r1,q1⟩=>?_);obtain ⟨k,tk,q1⟩:=q1;refine thn (tru_ok pins s1 σ H1 x v (fun k' H'=>if k'=true then Q x H' else tb σ H' Q) I1 r1 ⟨k,tk,q1⟩) fun c s2 ⟨H2,I2,q2⟩=>?_;cases c with
 | false=>rw [if_neg (by decide)] at q2 ⊢;exact hb pins s2 σ H2 Q I2 q2
 | true=>rw [if_pos rfl] at q2 ⊢;exact ⟨x,H2,I2,r1,q2⟩
noncomputable def mOrT (a b:FE):FE:=fun r S=>(a r S).bind fun p=>(truD p.2 p.1).bind fun k=>if k=true then some p else b r p.2
theorem xme_orT (ha:XE X a f)(hb:XE X (.BoolOp .Or (b::rest) pos) g):XE X (.BoolOp .Or (a::b::rest) pos) (mOrT f g):=
 ⟨pe_imp (pe_orT ha.h hb.h) <| by
  rintro σ H Q ⟨r,mu,S,d,S',he,hs,hm,hc⟩;obtain ⟨⟨d1,S1⟩,e1,hm⟩:=oB1.mp hm;obtain ⟨k,e2,hm⟩:=oB1.mp hm;refine ⟨r,mu,S,d1,S1,he,hs,e1,fun v H1 mu1 x1 r1 s1=>⟨k,tru_at r1 s1 e2,?_⟩⟩;cases k with
  | true=>rw [if_pos rfl] at hm ⊢;cases hm;exact hc _ H1 mu1 x1 r1 s1
  | false=>rw [if_neg (by decide)] at hm ⊢;exact ⟨r,mu1,S1,d,S',he.ext x1,s1,hm,fun v2 H2 mu2 x2 r2 s2=>hc v2 H2 mu2 (x1.trans x2) r2 s2⟩⟩
end
section
variable {X:Cx}
theorem KR.len {K:Fg1}{H:Hp}{mu:List Addr}{ks:List (Key×D)}{ws:List (Key×V)}(h:KR K H mu ks ws):ws.length=ks.length:=by
 induction h with
 | nil=>rfl
 | cons _ _ ih=>rw [lC1,lC1,ih]
end
section
variable {P:Program} {w:World} {A:Around} {E:Value->Shared->Prop} {b:Bool}
end
section
variable {X:Cx}
end
section
variable {prog:Program} {w:World} {A:Around} {E:Value->Shared->Prop} {s:Shared}
theorem kl_int {a b:Addr}{k l:Int}{t u:Tok}{us zs:List Value}{Q:Bool->Shared->Prop}(ha:IsTup s.heap a (Value.int k t::us).toArray)(hb:IsTup s.heap b (Value.int l u::zs).toArray)(hne:k≠l)(h:Q (decide (k<l)) s):
  wpAny (model prog w) A (keyLt' (tuples' true) (.ref a) (.ref b)) Q E s:=by
 rw [keyLt_tuples];obtain ⟨o,e1,c1,_,d1⟩:=ha;obtain ⟨o2,e2,c2,_,d2⟩:=hb;refine wB1 (listItems_at e1 d1 (wB1 (listItems_at e2 d2 ?_)));rw [List.zip_cons_cons,List.zipIdx_cons,List.forIn_cons];refine wB1 (wB1 ?_);dsimp only;refine wB1 (wpAny_eqBool_int ?_);rw [beq_false_of_ne hne];simp only [Bool.not_false,if_true];exact wB1 (oneLt_int (wP1 (wP1 (wP1 h))))
theorem kk_int {vs:List Value}{Q:SortKind->Shared->Prop}(hne:vs≠[])(h:∀ v∈vs,∃ a k t ps,v = .ref a/\IsTup s.heap a (Value.int k t::ps).toArray)(q:Q (tuples' true) s):
  wpAny (model prog w) A (keyKind' vs.toArray) Q E s:=by
 rw [keyKind'_eq,List.mapM_toArray,<- bind_pure_comp];refine wB1 (wB1 (mapM_wp (P:=fun _ r=>∃ k t,r=some (Value.int k t)) (fun v hv=>?_) fun rs hl hr=>wP1 ?_))
 ·obtain ⟨a,k,t,ps,rfl,⟨o,e1,c1,_,d1⟩⟩:=h v hv;refine ⟨some (.int k t),⟨k,t,rfl⟩,fun Q q=>?_⟩;rw [first_eq];refine wB1 (wpAny_typeOf (T:="tuple") ⟨o,e1,c1⟩ ?_);rw [if_neg (by decide)];refine wB1 (listItems_at e1 d1 (wP1 ?_));simpa using q
 ·have hs:rs.toArray.all (·.isSome)=true:=by
   rw [List.all_toArray,List.all_eq_true];intro r hm;obtain ⟨v,_,k,t,e⟩:=hr r hm;rw [e];rfl
  rw [if_pos hs];refine wB1 (wpAny_rule ?_);rw [oneTypeOnly'_eq];have hf:rs.toArray.filterMap id=(rs.filterMap id).toArray:=by simp
  rw [hf,List.mapM_toArray,<- bind_pure_comp];refine wB1 (wB1 (wB1 (mapM_wp (P:=fun _ t=>t=Value.type "int") (fun v hv=>?_) fun ts htl ht=>wP1 ?_)))
  ·obtain ⟨r,hm,e⟩:=List.mem_filterMap.mp hv;obtain ⟨v',_,k,t,e'⟩:=hr r hm;rw [e'] at e;cases e;exact ⟨_,rfl,fun Q q=>wpAny_typeOf (T:="int") (typeIs_int s k t) q⟩
  ·cases ts with
   | nil=>
    exfalso;cases rs with
    | nil=>exact hne (List.length_eq_zero_iff.mp hl.symm)
    | cons r rs=>
     obtain ⟨_,_,k,t,e⟩:=hr r mS1;rw [e] at htl;simp at htl
   | cons t ts=>
    have all:∀ x∈t::ts,x=Value.type "int":=fun x hx=>by obtain ⟨_,_,z⟩:=ht x hx;exact z
    have e0:=all t mS1;subst e0;have ha:((Value.type "int"::ts).toArray.all fun x=>x == Value.type "int")=true:=by
     rw [List.all_toArray,List.all_eq_true];intro x hx;rw [all x hx];rfl
    show wpAny _ _ (pure (if ((Value.type "int"::ts).toArray.all fun x=>x == Value.type "int")=true then some (Value.type "int") else none)) _ _ _;rw [if_pos ha];exact wP1 (wP1 q)
end
section
variable {X:Cx} {pins:List (Addr×Obj)} {σ:L2.St} {H:Hp} {s:Shared} {mu:List Addr}
end
section
variable {X:Cx}
end
section
variable {X:Cx} {f:Addr} {fd:FuncData} {ps:List Str} {k n:Nat} {sp:Sp} {dvs:List V} {ds:List Value} {CX:CXT} {E:XK} {t:TA} {e:Expr} {es:List Expr} {p pos:Pos} {i:Nat} {v x:Str}
end
section
variable {prog:Program} {w:World} {K:Type} [DecidableEq K] {knd:HeapKind prog w K} {A:Around} {E:Value->Shared->Prop} {s:Shared}
end
section
variable {X:Cx}
end
theorem sTT.fits {es:Array (Int×Value)}{t:SetTable}(h:sTT es t):t.fits es.size=true:=by
 unfold SetTable.fits SetTable.fill;rw [h.du,h.sz];have:=h.fl;simp;exact this
noncomputable def sE1 (h:Heap)(k:TK)(e:Int×Value):Prop:=∃ a,e=(k.hash,.ref a)/\IsTK h k (.ref a)/\k.dep<=8
section
variable {prog:Program} {w:World} {A:Around} {E:Value->Shared->Prop} {s:Shared}
end
theorem IsTK.keepsS {h h':Heap}{p:Addr}{es:Array (Int×Value)}{ep:Nat}{t:SetTable}(ho:h.get? p=some (stO es ep t))(hs:∀ a o,a≠p->h.get? a=some o->h'.get? a=some o):∀ {k:TK} {v:Value},IsTK h k v->IsTK h' k v:=fun h0=>h0.rec (motive_1:=fun k v _=>IsTK h' k v) (motive_2:=fun k v _=>IsTKs h' k v) .non .int
  (fun {a} _ _ _ _ e1 c1 d1 _ ih=>.tup (hs a _ (fun z=>by subst z;rw [e1] at ho;cases ho;cases d1) e1) c1 d1 ih) .nil (fun _ _ a b=>.cons a b)
theorem sE1.keep {h h':Heap}{p:Addr}{es:Array (Int×Value)}{ep:Nat}{t:SetTable}(ho:h.get? p=some (stO es ep t))(hs:∀ a o,a≠p->h.get? a=some o->h'.get? a=some o){k:TK}{e:Int×Value}(x:sE1 h k e):sE1 h' k e:=by
 obtain ⟨a,e1,e2,e3⟩:=x;exact ⟨a,e1,e2.keepsS ho hs,e3⟩
noncomputable def KsAt (h:Heap)(xs:List (TK×Addr×Value)):Prop:=∀ z∈xs,IsTK h z.1 (.ref z.2.1)/\z.1.dep<=8
theorem KsAt.el {h:Heap}{xs:List (TK×Addr×Value)}{es:Array (Int×Value)}(hI:KsAt h xs)(hel:∀ e∈es.toList,∃ z∈xs,e=(z.1.hash,.ref z.2.1)):∀ e∈es.toList,∃ k',sE1 h k' e:=fun e he=>by
 obtain ⟨z,hz,rfl⟩:=hel e he;exact ⟨z.1,z.2.1,rfl,(hI z hz).1,(hI z hz).2⟩
section
variable {P:Program} {w:World} {A:Around} {E:Value->Shared->Prop} {s:Shared} {p:Addr} {xs:List (TK×Addr×Value)}
end
section
variable {P:Program} {w:World} {A:Around} {E:Value->Shared->Prop}
end
section
variable {X:Cx}
end
section
variable {X:Cx} {pos:Pos}
theorem ce {op:CmpOp}{x y:Expr}{f:FN}{a b:FE}(ho:OpR X (compareOp op) (r2 X.K f))(hx:XE X x a)(hy:XE X y b)(hm:behindInMarks op y=false:=by exact nomark _):XE X (.Compare x [op] [y] pos) (m2 f a b):=xme_cmp ho hx hy hm
theorem ct {op:CmpOp}{x y:Expr}{f:FN}{a b:FE}(ho:OpR X (compareOp op) (r2 X.K f))(hx:XE X x a)(hy:XE X y b)(hm:behindInMarks op y=false:=by exact nomark _):XT X (.Compare x [op] [y] pos) (mB (m2 f a b)):=qX ho hx hy hm
theorem kc {sc:Scope}{i:Nat}{l:List Nat}(x:Str)(r:∀ i∈l,∃ x,X.N[i]? = some x/\sc.names.lookup x=some .free/\(X.env.kindOf x=some .cell\/X.env.kindOf x=some .free)/\(x,NameKind.cell)∉sc.names)(h1:X.N[i]? = some x:=by rfl)(h2:sc.names.lookup x=some .free:=by rfl)(h3:X.env.kindOf x=some .cell\/X.env.kindOf x=some .free:=by first | exact Or.inl rfl | exact Or.inr rfl)(h4:(x,NameKind.cell)∉sc.names:=by decide+kernel):∀ j∈i::l,∃ x,X.N[j]? = some x/\sc.names.lookup x=some .free/\(X.env.kindOf x=some .cell\/X.env.kindOf x=some .free)/\(x,NameKind.cell)∉sc.names:=List.forall_mem_cons.mpr ⟨⟨x,h1,h2,h3,h4⟩,r⟩
end
structure FnAt (K:Fg1)(x:Str)(st:Stmt)(f:Addr):Prop where
 ns:wN1 K mainGlobals x=some (some (.ref f))
 fn:∃ fd,Fun K x x st f fd
theorem fa_mk {K:Fg1}{x:Str}{st:Stmt}{f:Addr}{oc:Value}{od an:Option Addr}{osl:Array (Option Value)}{kV doc pm cdv ct:Value}(a:wN1 K mainGlobals x=some (some (.ref f)))(l:K.lookup f=some ⟨oc,od,.func (wF1 x x (defArgs st) (defBody st) (defScope st) .none kV doc pm an cdv ct),osl⟩)
  (c:wC1 K cdv x=true) (k:wK1 K (.ref f)=true):FnAt K x st f:=⟨a,_,fun_mk l c k⟩
theorem xo {P:Program}{w:World}{K:Fg1}{mg:Str->Option Value}{base h:Heap}{x:Str}{st:Stmt}{f:Addr}{N ps:List Str}{k n:Nat}{b:FS}(X:K.In h)(G:h.Ns mainGlobals mg)(F:FnAt K x st f)(S:FnScope N ps (defScope st))
  (hb:∀ (kV doc pm:Value) (an:Option Addr) (cdv ct:Value) (us:List Value),us.length=ps.length->bindArgs (wF1 x x (defArgs st) (defBody st) (defScope st) .none kV doc pm an cdv ct) ⟨us,[]⟩=pure (ps.zip us))
  (hbody:∀ (f:Addr) (cdv:Value) (A:Around) (outer:List Env) (s:Shared) (H:Hp) (E:XK),Room k (A.deeper (envOfC x (defScope st) s.heap.objs.size f cdv)) ->
   XSs (cxOf CX0 P w K mg base N x (defScope st) f cdv A outer s H E).nox (defBody st) b) (hn:ps.length=n:=by rfl):Own P w K mg base (k+1) x n (fnB N.length b):=by
 obtain ⟨fd,F'⟩:=F.fn;exact xown_mk F' (F'.binds hb) (wM1 X G F.ns) S hn (hbody f)
section
variable {X:Cx} {pins:List (Addr×Obj)} {σ:L2.St} {H:Hp} {s:Shared} {mu:List Addr}
end
section
variable {P:Program} {w:World} {A:Around} {E:Value->Shared->Prop} {s:Shared} {a x:Addr} {xs:List (TK×Addr×Value)} {k:TK}
end
section
variable {X:Cx}
end
section
variable {X:Cx} {o e:Expr} {es:List Expr} {to:TE} {t:TA} {name:Str} {apos cpos:Pos} {id:String} {r:V->List V->Hp->VK->Prop}
end
section
variable {X:Cx}
end
section
variable {X:Cx} {x y z u:Expr} {pos:Pos} {f g k:FN} {a b c d:FE} {op op' op'':CmpOp} {ta tb tc td:TE}
end
structure Blt (L:List Str)(mg:Str->Option Value):Prop where
 h:∀ x∈L,mg x=none
theorem bz {L:List Str}{mg:Str->Option Value}{x:Str}(B:Blt L mg)(h:x∈L:=by decide):mg x=none:=B.h x h
theorem sk {N P:List Str}{sc:Scope}(h1:sc.kind = .function:=by rfl)(h2:sc.isCoroutine=false:=by rfl)(h3:sc.isGenerator=false:=by rfl)(h4:N.Nodup:=by decide+kernel)(h5:N.take P.length=P:=by rfl)(h6:∀ x∈P,sc.names.lookup x=some .local\/sc.names.lookup x=some .cell:=by decide+kernel)(h7:∀ y∈sc.names,y.2 ≠ .free:=by decide+kernel):FnScope N P sc:=⟨h1,h2,h3,h4,h5,h6,h7⟩
noncomputable def NoN (K:Fg1):List Str->Prop
 | []=>True
 | x::l=>wN1 K mainGlobals x=some none/\NoN K l
theorem NoN.blt {K:Fg1}{mg:Str->Option Value}{h:Heap}(X:K.In h)(G:h.Ns mainGlobals mg):∀ {L:List Str},NoN K L->Blt L mg
 | [],_=>⟨fun _ m=>nomatch m⟩
 | _::_,z=>⟨fun _ m=>match m with
  | .head _=>PySem.W.mg_none_of X G z.1
  | .tail _ m=>(NoN.blt X G z.2).h _ m⟩
noncomputable def ndS:List Str->Bool
 | []=>true
 | x::l=> !l.contains x&&ndS l
theorem nd_of:∀ {l:List Str},ndS l=true->l.Nodup
 | [],_=>List.nodup_nil
 | x::l,h=>by
  obtain ⟨a,b⟩:=(bA1 _ _).mp h;exact List.nodup_cons.mpr ⟨fun m=>(by rw [List.contains_iff_mem.mpr m] at a;cases a),nd_of b⟩
section
variable {X:Cx} {pos:Pos} {k:Nat} {x:Str} {i:Nat} {e y:Expr} {es:List Expr} {m b:FE} {a:FA} {p:Pos}
theorem xv (hN:X.N[i]? = some x:=by rfl)(hv:Vis X.env.scope x:=by first | exact Or.inl rfl | exact Or.inr (Or.inl rfl) | exact Or.inr (Or.inr rfl))(hd:(x == ("__debug__":Str))=false:=by decide)(hcd:(x == ("__classdict__":Str))=false:=by decide):XE X (.Name x pos) (mV i):=xmv i hN hv hd hcd
theorem gq (hN:ndS X.N=true:=by rfl)(hi:X.N[i]? = some x:=by rfl)(hx:Loc X.env.scope x:=by first | exact Or.inl rfl | exact Or.inr rfl)(hf:X.fn x=true\/X.env.scope.names.lookup x=some .local:=by first | exact .inl rfl | exact .inr rfl | assumption):XG X (.Name x pos) (gN i):=qO i (nd_of hN) hi hx hf
theorem sq (he:XE X e m)(hN:ndS X.N=true:=by rfl)(hi:X.N[i]? = some x:=by rfl)(hx:Loc X.env.scope x:=by first | exact Or.inl rfl | exact Or.inr rfl)(hs:swapsWith e (some (.Name x p)) pos.line X.env=pure false:=by rfl)(hf:X.fn x=true\/X.env.scope.names.lookup x=some .local:=by first | exact .inl rfl | exact .inr rfl | assumption):XS X (.Assign [.Name x p] e pos) (mAsg m (gN i)):=qY i (nd_of hN) hi hx he hs hf
theorem jq (hx:XE X e m)(hy:XE X y b)(hr:Room k X.A:=by assumption)(hs:PlainIx y:=by intro _ _;rfl):XE X (.Subscript e y pos) (m2 (b2 gIxY) m b):=qJ (qP hr.units) hx hy hs
theorem oq {O:Prop}(o:X.A.units+64<cLine->O)(hr:Room k X.A:=by assumption):O:=o hr.units
theorem wn {k' n:Nat}{f:FN}(h:Own X.prog X.w X.K X.mg X.base k x n f)(ha:XA X (e::es) a)(hr:Room k' X.A:=by assumption)(hk:k<=k':=by first | decide | omega)(hg:Gl X x:=by rfl)(hdb:(x == ("__debug__":Str))=false:=by decide)(he:starEach (e::es) X.env=(false,eval e X.env)::starEach es X.env:=by rfl)(hpl:(backTo pos (starEach es X.env)).any (·.1)=false:=by rfl):XE X (.Call (.Name x p) (e::es) [] pos) (mN (mCall n f) a):=qH h hr hk hg ha hdb he hpl
theorem cn {id:String}{f:FN}(hc:CallR X (.builtin id) (rN X.K f))(ha:XA X (e::es) a)(hm:X.mg x=none:=by exact bz (by assumption))(hg:Gl X x:=by rfl)(hv:bootBuiltins x=some (.builtin id):=by decide+kernel)(hn:x≠"__name__":=by decide)(hdb:(x == ("__debug__":Str))=false:=by decide)(he:starEach (e::es) X.env=(false,eval e X.env)::starEach es X.env:=by rfl)(hpl:(backTo pos (starEach es X.env)).any (·.1)=false:=by rfl):XE X (.Call (.Name x p) (e::es) [] pos) (mN f a):=qD hc hg hm hv ha hn hdb he hpl
theorem cz {T:String}{f:FN}(hc:CallR X (.type T) (rN X.K f))(ha:XA X (e::es) a)(hm:X.mg x=none:=by exact bz (by assumption))(hg:Gl X x:=by rfl)(hv:bootBuiltins x=some (.type T):=by decide+kernel)(hn:x≠"__name__":=by decide)(hdb:(x == ("__debug__":Str))=false:=by decide)(he:starEach (e::es) X.env=(false,eval e X.env)::starEach es X.env:=by rfl)(hpl:(backTo pos (starEach es X.env)).any (·.1)=false:=by rfl):XE X (.Call (.Name x p) (e::es) [] pos) (mN f a):=qE hc hg hm hv ha hn hdb he hpl
theorem a1 (h:XE X e m)(hs:starEach [e] X.env=(false,eval e X.env)::starEach [] X.env:=by rfl):XA X [e] (mCons m mNil):=qA h qN hs
theorem a2 (h:XE X e m)(g:XE X y b)(hs:starEach [e,y] X.env=(false,eval e X.env)::starEach [y] X.env:=by rfl)(hs2:starEach [y] X.env=(false,eval y X.env)::starEach [] X.env:=by rfl):XA X [e,y] (mCons m (mCons b mNil)):=qA h (a1 g hs2) hs
theorem a3 {z:Expr}{c:FE}(h:XE X e m)(g:XE X y b)(l:XE X z c)(hs:starEach [e,y,z] X.env=(false,eval e X.env)::starEach [y,z] X.env:=by rfl)(hs2:starEach [y,z] X.env=(false,eval y X.env)::starEach [z] X.env:=by rfl)(hs3:starEach [z] X.env=(false,eval z X.env)::starEach [] X.env:=by rfl):XA X [e,y,z] (mCons m (mCons b (mCons c mNil))):=qA h (a2 g l hs2 hs3) hs
theorem ir (ha:XA X [e] a)(hm:X.mg "range"=none:=by exact bz (by assumption))(hg:Gl X "range":=by rfl)(hs:starEach [e] X.env=[(false,eval e X.env)]:=by rfl):XI X y (.Call (.Name "range" p) [e] [] pos) (iR1 a):=xmi_range1 hg hm ha hs
theorem ii {T:Ty}{p2:Pos}(h:XE X e m)(hm:X.mg "isinstance"=none:=by exact bz (by assumption))(hm2:X.mg x=none:=by exact bz (by assumption))(hg:Gl X "isinstance":=by rfl)(hg2:Gl X x:=by rfl)(hv2:bootBuiltins x=some (.type T.nm):=by decide+kernel)(hn:x≠"__name__":=by decide)(hd:(x == ("__debug__":Str))=false:=by decide)(hs1:starEach [e,.Name x p2] X.env=(false,eval e X.env)::starEach [.Name x p2] X.env:=by rfl)(hs2:starEach [.Name x p2] X.env=(false,eval (.Name x p2) X.env)::starEach [] X.env:=by rfl)(hpl:(backTo pos (starEach [.Name x p2] X.env)).any (·.1)=false:=by rfl):XE X (.Call (.Name "isinstance" p) [e,.Name x p2] [] pos) (mIsT T m):=xme_isinst T hg hm hg2 hm2 hv2 h hn hd hs1 hs2 hpl
structure Lm (X:Cx)(name:Str)(id:String)(f:FN):Prop where
 s:Slot "list" name id
 t:typeOf (.builtin id)=pure (.type "method_descriptor")
 m:MtR X id (fun x xs H Q=>rN X.K f (x::xs) H Q)
theorem ap:Lm X "append" "list.append" (b2 gApp):=⟨PySem.F.slot_list_append,PySem.F.type_list_append,t_app⟩
theorem lq {f:FN}{name:Str}{apos:Pos}{id:String}(s:Lm X name id f)(ho:XE X y m)(ha:XA X (e::es) a)(hbase:attributeBase y name X.env (eval y X.env)=eval y X.env:=by rfl)(hfew:((backTo pos (starEach (e::es) X.env)).all (fun x=> !x.1)&&(backToKw pos (keywordEach [] X.env)).all (fun x=>x.1.isSome)&&decide ((e::es).length+([]:List Keyword).length+(if ([]:List Keyword).isEmpty then 0 else 1)<30))=true:=by rfl)(hline:(apos.endLine == pos.line)=true:=by rfl)(hs:starEach (e::es) X.env=(false,eval e X.env)::starEach es X.env:=by rfl)(hplain:(backTo pos (starEach es X.env)).any (·.1)=false:=by rfl):XS X (.Expr (.Call (.Attribute y name apos) (e::es) [] pos) p) (mDrop (mMt f m a)):=xms_expr (qe s.s s.t s.m ho ha hbase hfew hline hs hplain)
theorem fo {tg iter:Expr}{body:List Stmt}{m:FI}{g:FG}{b:FS}(hi:XI X tg iter m)(hg:XG X tg g)(hb:XSs X body b)(hp:PassesOwn (model X.prog X.w) X.A X.env X.xe:=by exact PassesOwn.never)(hc:X.calm=true:=by rfl)(hs:∀ x,foldedSetIterable iter X.env x=pure x:=by intro _;rfl):XS X (.For tg iter body [] pos) (mFor m g b):=qW hp hc hi hg hb hs
theorem tg2 {d:Expr}{g h:FG}{kt:Nat}(h1:XG X e g)(h2:XG X d h)(hc:X.calm=true:=by rfl)(hs:(assignEach [e,d] X.env).map (·.2)=assign e X.env::(assignEach [d] X.env).map (·.2):=by rfl)(hs2:(assignEach [d] X.env).map (·.2)=assign d X.env::(assignEach [] X.env).map (·.2):=by rfl)(hn:(assignEach [e,d] X.env).length=2:=by rfl)(hst:(assignEach [e,d] X.env).findIdx? (·.1)=none:=by rfl):XG X (.Tuple [e,d] kt pos) (gT 2 (gCs g (gCs h gNl))):=xmg_tup hc (xmgs_cons h1 (xmgs_cons h2 xmgs_nil hs2) hs) hn hst
noncomputable def ncS (x:Str):List (Str×NameKind)->Bool
 | []=>true
 | (y,.cell)::l=> !(y == x)&&ncS x l
 | _::l=>ncS x l
omit k i in
theorem nc_of:∀ {l:List (Str×NameKind)},ncS x l=true->(x,NameKind.cell)∉l
 | [],_,m=>nomatch m
 | (y,c)::l,h,m=>by
  rcases List.mem_cons.mp m with e | m'
  ·cases e;have h:=((bA1 _ _).mp h).1;rw [beq_self_eq_true] at h;cases h
  ·cases c with
   | cell=>exact nc_of ((bA1 _ _).mp h).2 m'
   | _=>exact nc_of (l:=l) h m'
theorem kz {sc:Scope}{l:List Nat}(r:∀ i∈l,∃ x,X.N[i]? = some x/\sc.names.lookup x=some .free/\(X.env.kindOf x=some .cell\/X.env.kindOf x=some .free)/\(x,NameKind.cell)∉sc.names)(h1:X.N[i]? = some x:=by rfl)(h2:sc.names.lookup x=some .free:=by rfl)(h3:X.env.kindOf x=some .cell\/X.env.kindOf x=some .free:=by first | exact Or.inl rfl | exact Or.inr rfl)(h4:ncS x sc.names=true:=by rfl):∀ j∈i::l,∃ x,X.N[j]? = some x/\sc.names.lookup x=some .free/\(X.env.kindOf x=some .cell\/X.env.kindOf x=some .free)/\(x,NameKind.cell)∉sc.names:=kc x r h1 h2 h3 (nc_of h4)
noncomputable def clo (X:Cx)(sc:Scope):List (Str×Addr):=(cloF X.env.cells sc.names []).getD []
theorem fk {elt tg iter:Expr}{ifs:List Expr}{scope:Scope}(T:List Str){keep:List Nat}{m:FI}{g:FG}{t:FT}{e:FE}(hi:XI X tg iter m)(hb:∀ {s H fp},XB1 (cxC X scope (clo X scope) T keep s H fp) X.K tg ifs elt g t e)
  (free:∀ i∈keep,∃ x,X.N[i]? = some x/\scope.names.lookup x=some .free/\(X.env.kindOf x=some .cell\/X.env.kindOf x=some .free)/\(x,NameKind.cell)∉scope.names:=by first | exact List.forall_mem_nil _ | exact kz (List.forall_mem_nil _) | exact kz (kz (List.forall_mem_nil _)) | exact kz (kz (kz (List.forall_mem_nil _))) | exact kz (kz (kz (kz (List.forall_mem_nil _)))))
  (hc:X.calm=true:=by rfl) (kind:scope.kind = .function:=by rfl) (names:∀ x∈scope.names,x.2 = .local->scope.names.lookup x.1=some .local:=by decide+kernel) (hcl:cloF X.env.cells scope.names []=some (clo X scope):=by rfl)
  (hs:∀ x,foldedSetIterable iter X.env x=pure x:=by intro _;rfl):XE X (.ListComp elt [⟨tg,iter,ifs,0⟩] scope pos) (fComp T.length keep m g t (fEmit e)):=qZ hc ⟨kind,names,free⟩ hcl hi (fun _ _ _=>hb) hs
end
theorem xq {P:Program}{w:World}{K:Fg1}{mg:Str->Option Value}{base h:Heap}{x:Str}{st:Stmt}{f:Addr}{k n:Nat}{b:FS}(N:List Str)(X:K.In h)(G:h.Ns mainGlobals mg)(F:FnAt K x st f)
  (hbody:∀ {f:Addr} {cdv:Value} {A:Around} {outer:List Env} {s:Shared} {H:Hp} {E:XK},Room k (A.deeper (envOfC x (defScope st) s.heap.objs.size f cdv)) ->
   XSs (cxOf CX0 P w K mg base N x (defScope st) f cdv A outer s H E).nox (defBody st) b) (S:FnScope N (N.take n) (defScope st):=by exact sk)
  (hb:∀ (kV doc pm:Value) (an:Option Addr) (cdv ct:Value) (us:List Value),us.length=(N.take n).length->bindArgs (wF1 x x (defArgs st) (defBody st) (defScope st) .none kV doc pm an cdv ct) ⟨us,[]⟩=pure ((N.take n).zip us):=by
   intro _ _ _ _ _ _ us hl;first | exact ln1 hl fun _=>rfl | exact ln2 hl fun _ _=>rfl | exact ln3 hl fun _ _ _=>rfl | exact ln4 hl fun _ _ _ _=>rfl)
  (hn:(N.take n).length=n:=by rfl):Own P w K mg base (k+1) x n (fnB N.length b):=xo X G F S hb (fun _ _ _ _ _ _ _ hr=>hbody hr) hn
open AutoSeq1 (wpAny_loadPart')
section
variable {X:Cx}
end
noncomputable def mForK (m:FE)(g:FG)(b:FS):FS:=fun r S=>(m r S).bind fun p=>match p.1 with
 | .ref n=>(p.2[n]?).bind fun ob=>(keysO ob).bind fun kvs=>(loopM [] g b (kvs.map fun q=>tkD q.1) r (p.2.set n (.dcF kvs))).bind fun q=>match q.1 with
  | .nx=>some (.nx,q.2.1,q.2.2.set n ob)
  | _=>none
 | _=>none
theorem EnvR.exv {K:Fg1}{mu mu':List Addr}{H H':Hp}{r:Ev}{σ:L2.St}(e:Exv mu mu' H H')(h:EnvR K H mu r σ):EnvR K H' mu' r σ:=⟨h.len,fun i d q=>by
 obtain ⟨v,h1,h2⟩:=h.2 i d q;exact ⟨v,h1,h2.exv e⟩⟩
theorem forK_ok {X:Cx}{m:FE}{g:FG}{b:FS}{E:Ends}{σ:L2.St}{H:Hp}(h:tMS X.K (mForK m g b) E σ H):
  tFor (iDic X (tM X.K m)) (tMG X.K g) (tMS X.K b) {nx:=fun σ' H'=>∃ a o u,H' a=some (.frz o u)/\(∀ xs,u ≠ .tup xs)/\NF X a/\E.nx σ' (upd H' a u),rt:=fun _ _=>False} σ H:=by
 obtain ⟨r,mu,S,f,r',S',he,hs,hm,hc⟩:=h;obtain ⟨⟨d1,S1⟩,e1,hm⟩:=oB1.mp hm;cases d1 with
 | ref n=>
  obtain ⟨ob,eo,hm⟩:=oB1.mp hm;obtain ⟨kvs,ek,hm⟩:=oB1.mp hm;obtain ⟨⟨f2,r2,S2⟩,e2,hm⟩:=oB1.mp hm;cases f2 with
  | nx =>
   cases hm;refine ⟨r,mu,S,.ref n,S1,he,hs,e1,fun v H1 mu1 x1 r1 s1=>?_⟩;cases r1 with
   | @ref _ a hn=>
   obtain ⟨xs,u,hu,hd,hk,hz,back⟩:=keys_at s1 eo ek hn;refine ⟨a,xs,u,rfl,hu,hd,hz,fun o hO nf=>?_⟩;have mt:Mut (some u):=by cases hd<;>trivial
   have put:Ext mu1 mu1 H1 (upd H1 a (.frz o u)):=Ext.put hu mt (gM1 hn);have sf:Sim X.K (upd H1 a (.frz o u)) mu1 (S1.set n (.dcF kvs)):=s1.put hn hu mt ⟨xs,⟨o,u,upd_same,hO⟩,KT.ext put hk,hz⟩;have hlen:kvs.length=xs.length:=by have:=hk.keys.length;simpa using this
   have h1:∀ xs,u ≠ .tup xs:=fun xs z=>by subst z;cases hd
   have h2:∀ xs,u ≠ .lst xs:=fun xs z=>by subst z;cases hd
   have J1:ItR X.K (ItD a o xs) ⟨kvs.map fun q=>tkD q.1,[]⟩ mu1 (upd H1 a (.frz o u)):=by
    intro i H2 mu2 S2 x2 s2 _;have hf:=x2.frz a o u upd_same;refine ⟨fun d hd=>?_,fun h=>⟨⟨u,hf⟩,by rw [lM1] at h;lia⟩⟩;have hi:i<xs.length:=by have:=(gE1.mp hd).1;rw [lM1] at this;lia
    refine ⟨⟨⟨u,hf⟩,hi⟩,?_⟩;rintro y H3 ⟨rfl,q,eq,rfl⟩;exact ⟨.refl _ _,s2,((KT.ext put hk).keyOf hd eq).exw x2⟩
   have fin:∀ σ5 H5 mu5,Ext mu1 mu5 (upd H1 a (.frz o u)) H5->EnvR X.K H5 mu5 r2 σ5->Sim X.K H5 mu5 S2 ->
     ∃ a o u,H5 a=some (.frz o u)/\(∀ xs,u ≠ .tup xs)/\NF X a/\E.nx σ5 (upd H5 a u):=fun σ5 H5 mu5 x5 he5 s5=>by
    have hf':H5 a=some (.frz o u):=x5.frz a o u upd_same;refine ⟨a,o,u,hf',h1,nf,?_⟩;have tx:=thaw_exv (mu:=mu5) hf' h1 h2;have na:mu5[n]? = some a:=by
     obtain ⟨t,rfl⟩:=x5.pre;rw [gL1 (gE1.mp hn).1];exact hn
    have y:Ext mu1 mu5 H1 (upd H5 a u):=by
     refine ⟨x5.pre,fun b w e nb=>?_,fun b ys e=>tx.tup b ys (x5.tup b ys (put.tup b ys e)),fun b ob w e=>?_,fun b hb'=>?_⟩
     ·have ba:b≠a:=fun z=>nb (by rw [z];exact gM1 hn);rw [upd_ne ba];exact x5.old b w (by rw [upd_ne ba];exact e) nb
     ·have ba:b≠a:=by rintro rfl;rw [hu] at e;cases e;cases hd
      rw [upd_ne ba];exact x5.frz b ob w (put.frz b ob w e)
     ·rcases x5.new b hb' with q | q
      ·exact .inl q
      ·by_cases hba:b=a
       ·exact .inl (by rw [hba];exact gM1 hn)
       ·rw [upd_ne hba] at q;exact .inr q
    exact hc σ5 _ mu5 (x1.trans y) (he5.exv tx) (s5.thaw na tx (back _ _ ⟨x5.pre,y.tup,fun b ob w e=>y.frz b ob _ e⟩ upd_same))
   generalize hks:(kvs.map fun q=>tkD q.1)=ks at e2 J1;refine ⟨fun i k σ' H'=>k=(ks.drop i).length/\MFI X.K mu1 (upd H1 a (.frz o u)) [] g b .nx r2 S2 (ks.drop i) σ' H',⟨_,rfl,r,mu1,_,.refl _ _,he.ext (x1.trans put),sf,e2⟩,?_⟩;rintro i k σ2 H2 ⟨rfl,r3,mu2,S3,x2,he2,s2,hm2⟩;cases hl:ks.drop i with
   | nil=>
    left;rw [hl,loopM] at hm2;cases hm2;exact ⟨(J1 i H2 mu2 _ x2.w s2 rfl).2 (List.drop_eq_nil_iff.mp hl),fin σ2 H2 mu2 x2 he2 s2⟩
   | cons d ds=>
    right;rw [hl,loopM] at hm2;obtain ⟨hi,hd⟩:=drop_of_get hl;obtain ⟨⟨r4,S4⟩,e3,hm2⟩:=oB1.mp hm2;obtain ⟨⟨f5,r5,S5⟩,e4,hm2⟩:=oB1.mp hm2;obtain ⟨go,yl⟩:=(J1 i H2 mu2 _ x2.w s2 rfl).1 d hi;refine ⟨go,MFI X.K mu1 (upd H1 a (.frz o u)) [] g b .nx r2 S2 ds,?_,fun x H3 y=>?_⟩
    ·intro σ' H' h5;exact ⟨ds.length,Nat.lt_succ_self _,(congrArg List.length hd).symm,hd.symm ▸ h5⟩
    ·obtain ⟨x3,s3,q3⟩:=yl x H3 y;refine ⟨r3,mu2,S3,d,r4,S4,he2.ext x3,s3,q3,e3,fun σ4 H4 mu4 x4 he4 s4=>?_⟩;refine ⟨r4,mu4,S4,f5,r5,S5,he4,s4,e4,?_⟩;cases f5 with
     | nx=>exact fun σ5 H5 mu5 x5 he5 s5=>⟨r5,mu5,S5,(x2.trans x3).trans (x4.trans x5),he5,s5,hm2⟩
     | ct=>exact fun σ5 H5 mu5 x5 he5 s5=>⟨r5,mu5,S5,(x2.trans x3).trans (x4.trans x5),he5,s5,hm2⟩
     | bk=>cases hm2;exact fun σ5 H5 mu5 x5 he5 s5=>fin σ5 H5 mu5 ((x2.trans x3).trans (x4.trans x5)) he5 s5
     | rt v=>cases hm2
  | _=>cases hm
 | _=>cases hm
theorem xms_forK {X:Cx}{pos:Pos}{tg iter:Expr}{body:List Stmt}{m:FE}{g:FG}{b:FS}(hi:XE X iter m)(hg:XG X tg g)(hb:XSs X body b)(hp:PassesOwn (model X.prog X.w) X.A X.env X.xe:=by exact PassesOwn.never)(hc:X.calm=true:=by rfl)(hs:∀ x,foldedSetIterable iter X.env x=pure x:=by intro _;rfl):XS X (.For tg iter body [] pos) (mForK m g b):=by
 refine ⟨fun pins s σ H E I h=>?_⟩;refine wpAny_mono (ps_for (pos:=pos) hp hc (pi_dic (tg:=tg) hi.h) hg.h hb.h hs pins s σ H _ I (forK_ok h)) ?_ fun _ _ x=>x;intro f s2 q;cases f with
 | next=>
  obtain ⟨σ',H2,I2,a,o,u,hf,ht,nf,q⟩:=q;exact ⟨σ',upd H2 a u,inv_swap I2 hf nf (fun c z=>by cases z) (fun c z=>by cases z) (I2.hok a _ hf).2,q⟩
 | brk=>obtain ⟨_,_,_,q⟩:=q;exact q.elim
 | cont=>obtain ⟨_,_,_,q⟩:=q;exact q.elim
 | ret v=>obtain ⟨_,_,_,_,_,q⟩:=q;exact q.elim
mutual
noncomputable def pl:D->Bool
 | .non=>true
 | .bl _=>true
 | .int _=>true
 | .str _=>true
 | .tup xs=>pls xs
 | _=>false
noncomputable def pls:List D->Bool
 | []=>true
 | x::xs=>pl x&&pls xs
end
section
variable {X:Cx} {pins:List (Addr×Obj)} {σ:L2.St} {H:Hp} {s:Shared} {mu:List Addr} {S:Sto}
mutual
theorem rep_fun (I:Inv X pins σ H s):∀ {d d':D} {v:V},pl d=true->pl d'=true->Rep X.K H mu d v->Rep X.K H mu d' v->d=d'
 | .non,d',_,_,h,.non,r=>by cases r;rfl
 | .bl b,d',_,_,h,.bl _,r=>by cases r;rfl
 | .int i,d',_,_,h,.int _,r=>by cases r;rfl
 | .str x,d',_,_,h,.str _,r=>by cases r;rfl
 | .tup xs,d',_,g,h,.tup q t,r=>by
  cases r with
  | tup q' t'=>
   have e:=I.tuple_inj q q';subst e;rw [pl] at g h;rw [reps_fun I g h t t']
  | rol _ _=>cases h
  | ref _=>cases h
  | fn _=>cases h
 | .rol _,_,_,g,_,_,_=>by cases g
 | .ref _,_,_,g,_,_,_=>by cases g
 | .fn _,_,_,g,_,_,_=>by cases g
theorem reps_fun (I:Inv X pins σ H s):∀ {ds ds':List D} {vs:List V},pls ds=true->pls ds'=true->Reps X.K H mu ds vs->Reps X.K H mu ds' vs->ds=ds'
 | [],_,_,_,_,.nil,r=>by cases r;rfl
 | d::ds,_,_,g,h,.cons r t,z=>by
  cases z with
  | cons r' t'=>
   rw [pls,bA1] at g h;rw [rep_fun I g.1 h.1 r r',reps_fun I g.2 h.2 t t']
end
end
noncomputable def headK:D->Option Bool
 | .tup (.int _::_)=>some true
 | .tup (.tup _::_)=>some false
 | _=>none
noncomputable def ltD (a b:D):Bool:=ltN [] 51 a b == some true
noncomputable def insD (a:D):List D->List D
 | []=>[a]
 | b::l=>if ltD a b=true then a::b::l else b::insD a l
noncomputable def sortD:List D->List D
 | []=>[]
 | a::l=>insD a (sortD l)
noncomputable def lessD (a b:D):Bool:=ltN [] 51 a b == some true&&ltN [] 51 b a == some false
noncomputable def riseD:List D->Bool
 | []=>true
 | a::l=>l.all (lessD a)&&riseD l
theorem riseD_at:∀ {l:List D} {i j:Nat} {a b:D},riseD l=true->l[i]? = some a->l[j]? = some b->i<j->lessD a b=true
 | [],i,j,a,b,_,h,_,_=>by simp at h
 | x::l,0,j+1,a,b,h,h1,h2,_=>by
  rw [riseD,bA1,List.all_eq_true] at h;simp at h1 h2;subst h1;exact h.1 b (gM1 h2)
 | x::l,i+1,j+1,a,b,h,h1,h2,hij=>by
  rw [riseD,bA1] at h;exact riseD_at h.2 (by simpa using h1) (by simpa using h2) (by lia)
 | x::l,i,0,a,b,_,_,_,hij=>by lia
noncomputable abbrev Tr:=D×V×Value
noncomputable def insT (a:Tr):List Tr->List Tr
 | []=>[a]
 | b::l=>if ltD a.1 b.1=true then a::b::l else b::insT a l
noncomputable def sortT:List Tr->List Tr
 | []=>[]
 | a::l=>insT a (sortT l)
theorem insT_perm (a:Tr):∀ l:List Tr,(insT a l).Perm (a::l)
 | []=>.refl _
 | b::l=>by
  rw [insT];split
  ·exact .refl _
  ·exact ((insT_perm a l).cons b).trans (.swap _ _ _)
theorem sortT_perm:∀ l:List Tr,(sortT l).Perm l
 | []=>.refl _
 | a::l=>(insT_perm a _).trans ((sortT_perm l).cons a)
theorem insT_map (a:Tr):∀ l:List Tr,(insT a l).map (·.1)=insD a.1 (l.map (·.1))
 | []=>rfl
 | b::l=>by
  rw [insT,mP1,insD];split
  ·rfl
  ·rw [mP1,insT_map a l]
theorem sortT_map:∀ l:List Tr,(sortT l).map (·.1)=sortD (l.map (·.1))
 | []=>rfl
 | a::l=>by rw [sortT,mP1,sortD,insT_map,sortT_map l]
section
variable {prog:Program} {w:World} {A:Around} {E:Value->Shared->Prop} {s:Shared}
theorem kl_int2 {a b:Addr}{k l:Int}{t u:Tok}{us zs:List Value}{c:Bool}{Q:Bool->Shared->Prop}(ha:IsTup s.heap a (Value.int k t::us).toArray)(hb:IsTup s.heap b (Value.int l u::zs).toArray)(hne:k≠l/\c=decide (k<l)\/k=l/\LtS A s us zs c)(h:Q c s):
  wpAny (model prog w) A (keyLt' (tuples' true) (.ref a) (.ref b)) Q E s:=by
 rcases hne with ⟨hne,rfl⟩ | ⟨rfl,L⟩
 ·exact kl_int ha hb hne h
 rw [keyLt_tuples];obtain ⟨o,e1,c1,_,d1⟩:=ha;obtain ⟨o2,e2,c2,_,d2⟩:=hb;refine wB1 (listItems_at e1 d1 (wB1 (listItems_at e2 d2 ?_)));rw [List.zip_cons_cons,List.zipIdx_cons,List.forIn_cons];refine wB1 (wB1 ?_);dsimp only;refine wB1 (wpAny_eqBool_int ?_);simp only [beq_self_eq_true,Bool.not_true,bF1,if_false];refine wP1 ?_;refine wpAny_mono (wpAny_forIn_list _ (fun rest b s'=>s'=s/\b=(none,()) /\ ∃ (i:Nat) (vs ws:List Value),rest=(vs.zip ws).zipIdx (i+1)/\LtS A s vs ws c/\vs.length+zs.length=ws.length+us.length)
  (fun b s'=>s'=s/\(b=(some c,())\/(b=(none,())/\c=decide (us.length<zs.length)))) ?_ ?_ _ _ ⟨rfl,rfl,0,us,zs,rfl,L,by lia⟩) ?_ fun _ _ e=>e
 ·rintro x rest b s' ⟨rfl,rfl,i,vs,ws,hr,L',hl⟩;cases L' with
  | nn=>simp at hr
  | nc _ _=>simp at hr
  | cn _ _=>simp at hr
  | @eq p q ps qs _ e t=>
   rw [List.zip_cons_cons,List.zipIdx_cons] at hr;cases hr;refine wB1 (e.of_in1 prog w E _ ?_);simp only [Bool.not_true,bF1,if_false];exact wP1 ⟨rfl,rfl,i+1,ps,qs,rfl,t,by simp at hl;lia⟩
  | @lt p q ps qs _ e t=>
   rw [List.zip_cons_cons,List.zipIdx_cons] at hr;cases hr;refine wB1 (e.of_in1 prog w E _ ?_);simp only [Bool.not_false,if_true];rw [show (true&&(i+1 == 0))=false from rfl];exact wB1 (one_rc t (wP1 ⟨rfl,.inl rfl⟩))
 ·rintro b s' ⟨rfl,rfl,i,vs,ws,hr,L',hl⟩;refine ⟨rfl,.inr ⟨rfl,?_⟩⟩;cases L' with
  | nn=>simp at hl;rw [decide_eq_false (by lia)]
  | nc _ _=>simp at hl;rw [decide_eq_true (by lia)]
  | cn _ _=>simp at hl;rw [decide_eq_false (by lia)]
  | eq _ _=>simp at hr
  | lt _ _=>simp at hr
 ·rintro b s' ⟨rfl,z⟩;rcases z with rfl | ⟨rfl,z⟩
  ·exact wP1 h
  ·refine wP1 ?_;rw [sT1,sT1,lC1,lC1,show decide (us.length+1<zs.length+1)=c by rw [z];congr 1;simp];exact h
end
section
variable {X:Cx} {pins:List (Addr×Obj)} {σ:L2.St} {H:Hp} {s:Shared} {mu:List Addr} {S:Sto}
theorem key_lt (I:Inv X pins σ H s)(hs:Sim X.K H mu S){A:Around}(hu:A.units+60<cLine){f:Bool}{d e:D}{v w:V}{u z:Value}{b:Bool}(rd:Rep X.K H mu d v)(re:Rep X.K H mu e w)(ru:RelV v u)(rz:RelV w z)(hd:headK d=some f)(he:headK e=some f)
  (h:ltN S 51 d e=some b) {E:Value->Shared->Prop} {Q:Bool->Shared->Prop} (q:Q b s):wpAny (model X.prog X.w) A (keyLt' (tuples' f) u z) Q E s:=by
 have go:∀ {xs ys:List D} {vs ws:List V} {us zs:List Value} {b:Bool},Reps X.K H mu xs vs->Reps X.K H mu ys ws->Vals vs us->Vals ws zs->ltL (eqN S 50) (ltN S 50) xs ys=some b->LtS A s us zs b:=
  fun t1 t2 v1 v2 h=>ltL_at I hs (A:=A) (n:=50) (by lia) (fun r1 r2 r3 r4 h=>ltN_at I hs 50 (A:=A.in1) (by show A.units+1+50<cLine;lia) r1 r2 r3 r4 h) t1 t2 v1 v2 h
 unfold headK at hd he;split at hd
 ·rename_i k _;cases hd;split at he
  ·rename_i l _;cases rd with
   | tup q1 t1=>
   cases re with
   | tup q2 t2=>
   obtain ⟨its,v1,i1,_⟩:=I.tuple q1;obtain ⟨its2,v2,i2,_⟩:=I.tuple q2;cases ru;cases rz;cases t1 with
   | cons a1 t1=>
   cases t2 with
   | cons a2 t2=>
   cases a1;cases a2;cases v1 with
   | cons w1 v1=>
   cases v2 with
   | cons w2 v2=>
   obtain ⟨tk,rfl⟩:=w1;obtain ⟨tk2,rfl⟩:=w2;refine kl_int2 i1 i2 ?_ q;have h:ltL (eqN S 50) (ltN S 50) (.int k::_) (.int l::_)=some b:=h;rw [ltL] at h;by_cases hkl:k=l
   ·subst hkl;exact .inr ⟨rfl,go t1 t2 v1 v2 (by
     have e:eqN S 50 (.int k) (.int k)=some true:=by show some (decide (k=k))=_;simp
     rw [e] at h;exact h)⟩
   ·refine .inl ⟨hkl,?_⟩;have e:eqN S 50 (.int k) (.int l)=some false:=by show some (decide (k=l))=_;simp [hkl]
    rw [e] at h;have h:some (decide (k<l))=some b:=h;exact (Option.some.inj h).symm
  ·cases he
  ·cases he
 ·cases hd;split at he
  ·cases he
  ·cases rd with
   | tup q1 t1=>
   cases re with
   | tup q2 t2=>
   obtain ⟨its,v1,i1,_⟩:=I.tuple q1;obtain ⟨its2,v2,i2,_⟩:=I.tuple q2;cases ru;cases rz;exact kl_tup i1 i2 (go t1 t2 v1 v2 h) q
  ·cases he
 ·cases hd
theorem soc_of (I:Inv X pins σ H s)(hs:Sim X.K H mu S){A:Around}(hu:A.units+60<cLine){f:Bool}{ds:List D}{vs:List V}{its:List Value}(r:Reps X.K H mu ds vs)(rv:Vals vs its)
  (hp:pls ds=true) (hk:∀ d∈ds,headK d=some f) (hr:riseD (sortD ds)=true):
  ∃ (vs':List V) (ws:List Value),Reps X.K H mu (sortD ds) vs'/\Vals vs' ws/\its.Perm ws/\vs'.length=vs.length /\
   ∀ h'':Heap,(∀ b o,s.heap.get? b=some o->h''.get? b=some o)->SoC X.prog X.w A {s with heap:=h''} (tuples' f) ws (pairsOf its) /\
    (its≠[] -> ∀ (E:Value->Shared->Prop) (Q:SortKind->Shared->Prop),Q (tuples' f) {s with heap:=h''}->wpAny (model X.prog X.w) A (keyKind' its.toArray) Q E {s with heap:=h''}):=by
 have hpl:∀ {l:List D},pls l=true -> ∀ d∈l,pl d=true:=by
  intro l
  induction l with
  | nil=>intro _ d h;cases h
  | cons x l ih=>
   intro h d hd;rw [pls,bA1] at h;rcases List.mem_cons.mp hd with rfl | z
   ·exact h.1
   ·exact ih h.2 d z
 have und:∀ n,(∀ d:D,pl d=true->d.und n=true) /\ ∀ l:List D,pls l=true->D.unds n l=true:=fun n=>by
  refine ⟨fun d=>?_,fun l=>?_⟩
  ·exact D.rec (motive_1:=fun d=>pl d=true->d.und n=true) (motive_2:=fun l=>pls l=true->D.unds n l=true) (fun _=>rfl) (fun _ _=>rfl) (fun _ _=>rfl) (fun _ _=>rfl) (fun xs ih h=>by rw [pl] at h;rw [D.und];exact ih h) (fun _ _ h=>by cases h) (fun _ h=>by cases h) (fun _ h=>by cases h) (fun _=>rfl) (fun x xs h1 h2 h=>by rw [pls,bA1] at h;rw [D.unds,h1 h.1,h2 h.2];rfl) d
  ·exact D.rec_1 (motive_1:=fun d=>pl d=true->d.und n=true) (motive_2:=fun l=>pls l=true->D.unds n l=true) (fun _=>rfl) (fun _ _=>rfl) (fun _ _=>rfl) (fun _ _=>rfl) (fun xs ih h=>by rw [pl] at h;rw [D.und];exact ih h) (fun _ _ h=>by cases h) (fun _ h=>by cases h) (fun _ h=>by cases h) (fun _=>rfl) (fun x xs h1 h2 h=>by rw [pls,bA1] at h;rw [D.unds,h1 h.1,h2 h.2];rfl) l
 have tri:∃ Y:List Tr,Y.map (·.1)=ds/\Y.map (·.2.1)=vs/\Y.map (·.2.2)=its /\ ∀ y∈Y,Rep X.K H mu y.1 y.2.1/\RelV y.2.1 y.2.2:=by
  clear hk hr hp
  induction ds generalizing vs its with
  | nil=>cases r;cases rv;exact ⟨[],rfl,rfl,rfl,fun y h=>by cases h⟩
  | cons d ds ih=>
   cases r with
   | cons r1 t=>
   cases rv with
   | cons q1 tt=>
   obtain ⟨Y,e1,e2,e3,ok⟩:=ih t tt;refine ⟨(d,_,_)::Y,by rw [mP1,e1],by rw [mP1,e2],by rw [mP1,e3],fun y hy=>?_⟩;rcases List.mem_cons.mp hy with rfl | z
   ·exact ⟨r1,q1⟩
   ·exact ok y z
 obtain ⟨Y,rfl,rfl,rfl,ok⟩:=tri;have pm:=sortT_perm Y;have em:=sortT_map Y;rw [<- em] at hr ⊢;generalize hZ:sortT Y=Z at *
 have okZ:∀ y∈Z,y∈Y:=fun y hy=>pm.mem_iff.mp hy;refine ⟨Z.map (·.2.1),Z.map (·.2.2),?_,?_,(pm.map _).symm,by rw [lM1,lM1,pm.length_eq],fun h'' keep=>⟨⟨?_,?_,?_⟩,fun hne E Q q=>?_⟩⟩
 ·clear hr hZ em pm
  induction Z with
  | nil=>exact .nil
  | cons y Z ih=>exact .cons (ok y (okZ y mS1)).1 (ih fun z hz=>okZ z (mC1 _ hz))
 ·clear hr hZ em pm
  induction Z with
  | nil=>exact .nil
  | cons y Z ih=>exact .cons (ok y (okZ y mS1)).2 (ih fun z hz=>okZ z (mC1 _ hz))
 ·refine List.pairwise_iff_getElem.mpr fun i j hi hj hij e=>?_;rw [lM1] at hi hj;rw [List.getElem_map,List.getElem_map] at e;have mi:=okZ _ (List.getElem_mem hi);have mj:=okZ _ (List.getElem_mem hj);have hl:=riseD_at hr (i:=i) (j:=j) (a:=Z[i].1) (b:=Z[j].1) (by rw [gP1,gG1 hi];rfl) (by rw [gP1,gG1 hj];rfl) hij;obtain ⟨r1,q1⟩:=ok _ mi;obtain ⟨r2,q2⟩:=ok _ mj;have h1:=hk Z[i].1 (List.mem_map.mpr ⟨_,mi,rfl⟩);have h2:=hk Z[j].1 (List.mem_map.mpr ⟨_,mj,rfl⟩);have isT:∀ {d:D} {v:V} {u:Value},headK d=some f->Rep X.K H mu d v->RelV v u -> ∃ a,v = .ref a/\u = .ref a:=fun {d v u} hd rd ru=>by
   cases rd with
   | tup _ _=>cases ru;exact ⟨_,rfl,rfl⟩
   | _=>cases hd
  obtain ⟨a1,e1,e2⟩:=isT h1 r1 q1;obtain ⟨a2,e3,e4⟩:=isT h2 r2 q2;rw [e2,e4] at e;cases e;rw [e1] at r1;rw [e3] at r2;have e:=rep_fun I (hpl hp _ (List.mem_map.mpr ⟨_,mi,rfl⟩)) (hpl hp _ (List.mem_map.mpr ⟨_,mj,rfl⟩)) r1 r2;unfold lessD at hl;rw [e,bA1,beq_iff_eq,beq_iff_eq] at hl;rw [hl.1] at hl;cases hl.2
 ·rw [pairsOf_toList];have:(Y.map (·.2.2) |>.zip (Y.map (·.2.2))).map (·.1)=Y.map (·.2.2):=List.map_fst_zip (nR1 _);rw [this];exact (pm.map _).symm
 ·intro x y i j hx hy hij E Q q;rw [gP1] at hx hy;obtain ⟨yi,hyi,rfl⟩:=oM1.mp hx;obtain ⟨yj,hyj,rfl⟩:=oM1.mp hy;have mi:=okZ _ (gM1 hyi);have mj:=okZ _ (gM1 hyj);have I2:Inv X pins σ H {s with heap:=h''}:=I.kept (t':=s.toks) keep;have ki:(Z.map (·.1))[i]? = some yi.1:=by rw [gP1,hyi];rfl
  have kj:(Z.map (·.1))[j]? = some yj.1:=by rw [gP1,hyj];rfl
  have pi:=(und 0).1 _ (hpl hp _ (List.mem_map.mpr ⟨_,mi,rfl⟩));have pj:=(und 0).1 _ (hpl hp _ (List.mem_map.mpr ⟨_,mj,rfl⟩));refine key_lt I2 hs hu (ok _ mi).1 (ok _ mj).1 (ok _ mi).2 (ok _ mj).2 (hk _ (List.mem_map.mpr ⟨_,mi,rfl⟩)) (hk _ (List.mem_map.mpr ⟨_,mj,rfl⟩)) ?_ q;rw [ltN_und pi pj];by_cases z:i<j
  ·have:=riseD_at hr ki kj z;unfold lessD at this;simp only [bA1,beq_iff_eq] at this;rw [decide_eq_true z];exact this.1
  ·have:=riseD_at hr kj ki (by lia);unfold lessD at this;simp only [bA1,beq_iff_eq] at this;rw [decide_eq_false z];exact this.2
 ·have I2:Inv X pins σ H {s with heap:=h''}:=I.kept (t':=s.toks) keep;have hd:∀ y∈Y,∃ a xs,y.2.2 = .ref a/\IsTup h'' a xs/\(if f=true then ∃ k t ps,xs=(Value.int k t::ps).toArray else ∃ b ps qs,xs=(Value.ref b::ps).toArray/\IsTup h'' b qs):=fun y hy=>by
   have h1:=hk y.1 (List.mem_map.mpr ⟨_,hy,rfl⟩);obtain ⟨r1,q1⟩:=ok y hy;obtain ⟨d,v,u⟩:=y;dsimp only at *
   unfold headK at h1;split at h1
   ·cases h1;cases r1 with
    | tup q t=>
    obtain ⟨is,v1,i1,_⟩:=I2.tuple q;cases t with
    | cons a1 t=>
    cases a1;cases v1 with
    | cons w1 v1=>
    obtain ⟨tk,rfl⟩:=w1;cases q1;exact ⟨_,_,rfl,i1,by rw [if_pos rfl];exact ⟨_,_,_,rfl⟩⟩
   ·cases h1;cases r1 with
    | tup q t=>
    obtain ⟨is,v1,i1,_⟩:=I2.tuple q;cases t with
    | cons a1 t=>
    cases a1 with
    | tup q2 t2=>
    obtain ⟨is2,v2,i2,_⟩:=I2.tuple q2;cases v1 with
    | cons w1 v1=>
    cases w1;cases q1;exact ⟨_,_,rfl,i1,by rw [if_neg Bool.false_ne_true];exact ⟨_,_,_,rfl,i2⟩⟩
   ·cases h1
  cases f with
  | true=>
   refine kk_int hne (fun v hv=>?_) q;obtain ⟨y,hy,rfl⟩:=List.mem_map.mp hv;obtain ⟨a,xs,e1,e2,e3⟩:=hd y hy;rw [if_pos rfl] at e3;obtain ⟨k,t,ps,rfl⟩:=e3;exact ⟨a,k,t,ps,e1,e2⟩
  | false=>
   refine kk_tup hne (fun v hv=>?_) q;obtain ⟨y,hy,rfl⟩:=List.mem_map.mp hv;obtain ⟨a,xs,e1,e2,e3⟩:=hd y hy;rw [if_neg Bool.false_ne_true] at e3;obtain ⟨b,ps,qs,rfl,e4⟩:=e3;exact ⟨a,_,ps,b,qs,e1,e2,rfl,e4⟩
end
section
variable {prog:Program} {w:World} {A:Around} {E:Value->Shared->Prop} {s:Shared}
theorem kt_collect {d:Addr}{es:Array DictEntry}{ep:Nat}{o:Obj}{Q:List Value->Shared->Prop}(hh:A.handled=none)(hm:(d == sysModules)=false)(hd:s.heap.get? d=some o)(hc:o.cls = .type "dict")(hdd:o.data = .dict es ep)(hn:es.size<=sizeLine)
  (q:∀ h',(∀ b u,s.heap.get? b=some u->h'.get? b=some u)->s.heap.objs.size<=h'.objs.size->Q (es.toList.map (·.key)) {s with heap:=h'}):wpAny (model prog w) A (collect (.ref d)) Q E s:=by
 have hdl:d<s.heap.objs.size:=Heap.lt_size hd;unfold collect;refine wB1 (wpAny_runValue (wD1 PySem.F.entry_proto_collect ?_));rw [Around.under_plainId PySem.F.plain_proto_collect _];show wpAny _ A.in1 (newList [] >>= fun l=>again (.builtin "list.__iadd__" ⟨[l,.ref d],[]⟩)) _ _ s;refine wB1 (wO1 ?_);refine wP1 ⟨plainId_quiet PySem.F.plain_list_iadd _,wD1 PySem.F.entry_list_iadd ?_⟩;rw [Around.under_plainId PySem.F.plain_list_iadd _];have hS₁:(s.heap.push {cls:=.type "list",data:=.seq ([]:List Value).toArray}).get? s.heap.objs.size=some {cls:=.type "list",data:=.seq ([]:List Value).toArray}:=hS1 _ rfl;have hd₁:(s.heap.push {cls:=.type "list",data:=.seq ([]:List Value).toArray}).get? d=some o:=hP1 _ hd;have h1:Builtin.List.listSameRef (.ref s.heap.objs.size) (.ref d)=false:=by simp [Builtin.List.listSameRef,nG1 hdl]
 show wpAny _ A.in1 (Builtin.List.listExtendWith (.ref s.heap.objs.size) (.ref d) (.ref s.heap.objs.size)) _ _ {s with heap:=s.heap.push {cls:=.type "list",data:=.seq ([]:List Value).toArray}};unfold Builtin.List.listExtendWith;refine wB1 (wpAny_typeOf (T:="dict") ⟨o,hd₁,hc⟩ ?_);rw [if_neg (by rw [h1];decide)];refine wB1 (kt_iter hm hd₁ hc hdd hn ?_);generalize hh₁:s.heap.push {cls:=.type "list",data:=.seq ([]:List Value).toArray}=h₁ at *
 have hz₁:h₁.objs.size=s.heap.objs.size+1:=by rw [<- hh₁,hZ1]
 have k₁:∀ b u,s.heap.get? b=some u->h₁.get? b=some u:=fun b u e=>by rw [<- hh₁];exact hP1 _ e
 dsimp only;have hit:KtIs (h₁.push {cls:=.type "dict_keyiterator",data:=.fields #[.ref d,.int 0 0,.int es.size 0,.int ep 0]}) h₁.objs.size d 0 es.size ep:=hS1 _ rfl;have hS₂:=hP1 {cls:=.type "dict_keyiterator",data:=.fields #[.ref d,.int 0 0,.int es.size 0,.int ep 0]} hS₁;have k₂:∀ b u,s.heap.get? b=some u->(h₁.push {cls:=.type "dict_keyiterator",data:=.fields #[.ref d,.int 0 0,.int es.size 0,.int ep 0]}).get? b=some u:=fun b u e=>hP1 _ (k₁ b u e);generalize h₁.push {cls:=.type "dict_keyiterator",data:=.fields #[.ref d,.int 0 0,.int es.size 0,.int ep 0]}=h₂ at *
 have hT₂:Shared.TypeIs {s with heap:=h₂} (.ref d) "dict":=⟨o,k₂ d o hd,hc⟩;refine wB1 (wpAny_holding (kt_hint hT₂ ?_));rw [if_pos (by decide+kernel)];refine wB1 (wpAny_rule (wB1 ?_));show wpAny _ A.in1 (updateSeq s.heap.objs.size (·.push .none) >>= fun _=>updateSeq s.heap.objs.size (·.pop)) _ _ _;refine wB1 (wpAny_updateSeq (s:={s with heap:=h₂}) hS₂ rfl ?_);have hS₃:=hW1 (Obj.mapSeq (·.push Value.none)) hS₂ rfl;refine wpAny_updateSeq (s:={s with heap:=h₂.update s.heap.objs.size (Obj.mapSeq (·.push Value.none))}) hS₃ rfl ?_;have hS₄:=hW1 (Obj.mapSeq (·.pop)) hS₃ rfl;have oth:∀ b u,b≠s.heap.objs.size->h₂.get? b=some u->((h₂.update s.heap.objs.size (Obj.mapSeq (·.push Value.none))).update s.heap.objs.size (Obj.mapSeq (·.pop))).get? b=some u:=fun b u hb e=>by
  rw [hU1 _ _ _ _ hb,hU1 _ _ _ _ hb];exact e
 rw [hz₁] at hit ⊢;have ne1:s.heap.objs.size+1≠s.heap.objs.size:=Nat.succ_ne_self _;refine wP1 ⟨plainId_quiet PySem.F.plain_extend_loop _,kt_loop (o:=o) hh hdd (nG1 (Nat.lt_succ_of_lt hdl)) (nG1 hdl) (Ne.symm ne1) hn es.size 0
  {s with heap:=(h₂.update s.heap.objs.size (Obj.mapSeq (·.push Value.none))).update s.heap.objs.size (Obj.mapSeq (·.pop))} _ _ rfl (Nat.zero_le _) (oth _ _ ne1 hit) (oth d o (nN1 hdl) (k₂ d o hd)) hS₄ rfl fun h' acc' c' keep hS' hp=>?_⟩
 show wpAny _ A (load s.heap.objs.size >>= _) _ _ {s with heap:=h'};refine wB1 (wpAny_load hS' ?_);show wpAny _ A (pure acc'.toList) _ _ _;rw [hp];refine wP1 (q h' (fun b u e=>?_) (Nat.le_of_lt (Heap.lt_size hS')));have hb:b<s.heap.objs.size:=Heap.lt_size e;exact keep b u (nN1 (Nat.lt_succ_of_lt hb)) (nN1 hb) (oth b u (nN1 hb) (k₂ b u e))
theorem sorted_of {v:Value}{vs ws:List Value}{κ:SortKind}{Q:Value->Shared->Prop}(h64:vs.length<64)(hpm:vs.Perm ws)
  (hcol:∀ (E:Value->Shared->Prop) (Q:List Value->Shared->Prop),(∀ h',(∀ b u,s.heap.get? b=some u->h'.get? b=some u)->s.heap.objs.size<=h'.objs.size->Q vs {s with heap:=h'})->wpAny (model prog w) A.in1 (collect v) Q E s)
  (hC:∀ h'':Heap,(∀ b u,s.heap.get? b=some u->h''.get? b=some u)->SoC prog w A.in1.in1 {s with heap:=h''} κ ws (pairsOf vs) /\
   (vs≠[] -> ∀ (E:Value->Shared->Prop) (Q:SortKind->Shared->Prop),Q κ {s with heap:=h''}->wpAny (model prog w) A.in1.in1 (keyKind' vs.toArray) Q E {s with heap:=h''}))
  (fin:∀ (h'':Heap) (L:Addr) (n:Nat),(∀ b u,s.heap.get? b=some u->h''.get? b=some u)->s.heap.objs.size<=L->h''.get? L=some (seqObj "list" ws.toArray n)->Q (.ref L) {s with heap:=h''}):
  wpAny (model prog w) A (call (.builtin "sorted") [v]) Q E s:=by
 refine Calls.call_function_entry kind_sorted plain_sorted entry_sorted (args_sorted1 _) ?_;unfold Builtin.«sorted»;refine wB1 (m:=checkCount "sorted" 1 1 _) (wP1 ?_);refine wB1 (hcol _ _ fun h' keep hz=>?_);refine wB1 (wpAny_newList (hsz:=by rw [sizeLine_eq];lia) ?_);have hoL:(h'.push (seqObj "list" vs.toArray 0)).get? h'.objs.size=some (seqObj "list" vs.toArray 0):=hS1 _ rfl;show wpAny _ _ _ _ _ {s with heap:=h'.push (seqObj "list" vs.toArray 0)};refine wB1 (wpAny_holding (wE1 slot_list_sort ⟨_,hoL,rfl⟩ entry_list_sort (so_sort (s:={s with heap:=h'.push (seqObj "list" vs.toArray 0)}) (κ:=κ) (ws:=ws) hoL h64 hpm (fun h'' k2 h2=>?_) ⟨_,rfl,?_⟩) (args_list_sort _)))
 ·have:=hC h'' fun b u e=>k2 b u (nN1 (Heap.lt_size (keep b u e))) (hP1 _ (keep b u e));exact ⟨this.1,this.2 (fun z=>by rw [z] at h2;simp at h2) _⟩
 ·obtain ⟨n,hat⟩:=sortedHeap_at (out:=ws.toArray) hoL;refine wP1 ⟨_,rfl,fin _ h'.objs.size n (fun b u e=>?_) hz hat⟩;have hb:b<h'.objs.size:=Heap.lt_size (keep b u e);show (sortedHeap (h'.push (seqObj "list" vs.toArray 0)) h'.objs.size vs ws.toArray).get? b=some u;rw [sortedHeap_old (nN1 hb) (by rw [hZ1];exact Nat.lt_succ_of_lt hb)];exact hP1 _ (keep b u e)
end
noncomputable def headsK (l:List D):Option Bool:=match l with
 | []=>some true
 | d::l=>match headK d with
  | some f=>if (l.all fun e=>headK e == some f)=true then some f else none
  | none=>none
theorem headsK_all:∀ {l:List D} {f:Bool},headsK l=some f -> ∀ d∈l,headK d=some f
 | [],_,_,d,h=>by cases h
 | x :: l,f,h,d,hd=>by
  rw [headsK] at h;cases hx:headK x with
  | none=>rw [hx] at h;cases h
  | some g=>
   rw [hx] at h;dsimp only at h;split at h
   ·rename_i ha;cases h;rcases List.mem_cons.mp hd with rfl | z
    ·exact hx
    ·have:=List.all_eq_true.mp ha d z
     rwa [beq_iff_eq] at this
   ·cases h
noncomputable def gSortK:G1:=fun d S=>match d with
 | .ref n=>(S[n]?).bind fun ob=>(keysO ob).bind fun kvs=>(headsK (kvs.map fun p=>tkD p.1)).bind fun _=>
   if (riseD (sortD (kvs.map fun p=>tkD p.1))&&decide (kvs.length<64))=true then some (.ref S.length,S++[.lst (sortD (kvs.map fun p=>tkD p.1))]) else none
 | _=>none
mutual
theorem pl_tk:∀ k:TK,pl (tkD k)=true
 | .non=>rfl
 | .int _=>rfl
 | .tup xs=>by rw [tkD,pl];exact pls_tk xs
theorem pls_tk:∀ ks:List TK,pls (tkDs ks)=true
 | []=>rfl
 | k::ks=>by rw [tkDs,pls,pl_tk k,pls_tk ks];rfl
end
theorem pls_keys:∀ kvs:List (TK×D),pls (kvs.map fun p=>tkD p.1)=true
 | []=>rfl
 | p::l=>by rw [mP1,pls,pl_tk,pls_keys l];rfl
section
variable {X:Cx}
theorem c_sortK (hcm:X.calm=true)(hu:X.A.units+64<cLine):CallR X (.builtin "sorted") (rN X.K (b1 gSortK)):=by
 intro pins s σ H xs us Q I r h;obtain ⟨x,mu,S,d,r',S',rfl,r1,hs,hm,hc⟩:=rn1 h;unfold gSortK at hm;split at hm
 ·rename_i n;obtain ⟨ob,eo,hm⟩:=oB1.mp hm;obtain ⟨kvs,ek,hm⟩:=oB1.mp hm;obtain ⟨f,ef,hm⟩:=oB1.mp hm;split at hm
  ·rename_i hcond;cases hm;rw [bA1,decide_eq_true_eq] at hcond;obtain ⟨u,rfl,r2⟩:=vals1 r;cases r1 with
   | @ref _ a hn=>
   cases r2;obtain ⟨ws,w,hw,hd,hk,hz,_⟩:=keys_at hs eo ek hn;obtain ⟨o,ho,hO⟩:=dic_at I hw hd;obtain ⟨g1,g2,g3,es,ep,g4,g5⟩:=hO;have hlen:kvs.length=ws.length:=by have:=hk.keys.length;simpa using this
   have hsz:es.size=ws.length:=by rw [<- Array.length_toList,g5,lM1]
   have hv:Vals (ws.map fun x=>V.ref x.2.1) (es.toList.map (·.key)):=by
    rw [g5,List.map_map];exact vals_keys ws
   obtain ⟨vs',zs,q1,q2,q3,q4,q5⟩:=soc_of I hs (A:=X.A.in1.in1) (by show X.A.units+1+1+60<cLine;lia) (f:=f) hk.keys hv (pls_keys kvs) (headsK_all ef) hcond.1;have hl:(es.toList.map (·.key)).length<64:=by rw [lM1,Array.length_toList];lia
   refine sorted_of hl q3 (fun E Q q=>kt_collect (A:=X.A.in1) (I.ok.hd hcm) g1 ho g3.1 g4 (by lia) q) q5 (fun h'' L n keep hL hat=>?_);have hfr:H L=none:=I.hok.fresh hL;refine ⟨.ref L,_,I.laid (t':=s.toks) (o:=.lst vs') keep hL ⟨?_,zs,n,q2,hat⟩,rfl,hc _ _ (mu++[L]) (Ext.new_ hfr) (.ref (new_at hs.len _)) (hs.newL q1 hfr)⟩;rw [q4,lM1,<- hlen,sizeLine_eq];lia
  ·cases hm
 ·cases hm
end
noncomputable abbrev rk (ws:List Value)(p:Keyed):Nat:=rkV ws p.1
section
variable {prog:Program} {w:World} {A:Around} {E:Value->Shared->Prop} {s:Shared} {κ:SortKind} {ws:List Value} {a₀:Array Keyed}
end
structure Sm (st st':SortSt):Prop where
 k:kindOf st'=kindOf st
 a:arrOf st'=arrOf st
 p:pendingOf st'=pendingOf st
 f:failedOf st'=failedOf st
theorem Sm.rfl {st:SortSt}:Sm st st:=⟨_root_.rfl,_root_.rfl,_root_.rfl,_root_.rfl⟩
theorem Sm.g {st st':SortSt}(h:Sm st st')(g:Nat):Sm st (SortSt.mk' (kindOf st') (arrOf st') (pendingOf st') g (failedOf st')):=⟨h.k,h.a,h.p,h.f⟩
noncomputable def Srt (ws:List Value)(xs:List Keyed):Prop:=xs.Pairwise fun p q=>rk ws p<rk ws q
noncomputable def Bel (ws:List Value)(xs ys:List Keyed):Prop:=∀ x∈xs,∀ y∈ys,rk ws x<rk ws y
section
variable {ws:List Value} {a b out xs ys zs:List Keyed} {i j k:Nat}
theorem Srt.split (h:Srt ws a)(i:Nat):Bel ws (a.take i) (a.drop i):=by
 have:=h;unfold Srt at this;rw [<- List.take_append_drop i a] at this;exact (List.pairwise_append.mp this).2.2
end
section
variable {prog:Program} {w:World} {A:Around} {E:Value->Shared->Prop} {s:Shared} {κ:SortKind} {ws:List Value} {a₀:Array Keyed}
end
noncomputable def W {α:Type}(o:Option α)(Q:α->Prop):Prop:=∃ x,o=some x/\Q x
section
variable {α β:Type} {Q:α->Prop}
theorem W_some {x:α}:W (some x) Q↔Q x:=⟨fun ⟨_,e,h⟩=>(by cases e;exact h),fun h=>⟨x,rfl,h⟩⟩
theorem W_none:W (none:Option α) Q↔False:=⟨fun ⟨_,e,_⟩=>(by cases e),False.elim⟩
theorem W_bind {o:Option β}{f:β->Option α}:W (o.bind f) Q↔W o fun x=>W (f x) Q:=by
 cases o with
 | none=>exact ⟨fun ⟨_,e,_⟩=>(by cases e),fun ⟨_,e,_⟩=>(by cases e)⟩
 | some x=>exact ⟨fun h=>⟨x,rfl,h⟩,fun ⟨_,e,h⟩=>by cases e;exact h⟩
theorem W_map {o:Option β}{f:β->α}:W (o.map f) Q↔W o fun x=>Q (f x):=by
 cases o with
 | none=>exact ⟨fun ⟨_,e,_⟩=>(by cases e),fun ⟨_,e,_⟩=>(by cases e)⟩
 | some x=>exact ⟨fun ⟨_,e,h⟩=>(by cases e;exact ⟨x,rfl,h⟩),fun ⟨_,e,h⟩=>(by cases e;exact ⟨_,rfl,h⟩)⟩
theorem W_ite {c:Prop}[Decidable c]{a b:Option α}:W (if c then a else b) Q↔if c then W a Q else W b Q:=by split<;>exact Iff.rfl
theorem W.mono {o:Option α}{Q':α->Prop}(h:W o Q)(k:∀ x,Q x->Q' x):W o Q':=let ⟨x,e,q⟩:=h;⟨x,e,k x q⟩
theorem W.of {o:Option α}{x:α}(e:o=some x)(h:Q x):W o Q:=⟨x,e,h⟩
end
theorem seqW {a b:FS}{r:Ev}{S:Sto}{Q:Fl×Ev×Sto->Prop}(R:Ev->Sto->Prop)(h1:W (a r S) fun p=>p.1 = .nx/\R p.2.1 p.2.2)(h2:∀ r S,R r S->W (b r S) Q):W (mSeq a b r S) Q:=by
 obtain ⟨⟨f,r1,S1⟩,e,hf,hR⟩:=h1;dsimp only at hf hR;subst hf;unfold mSeq;rw [e];exact h2 r1 S1 hR
theorem fnW {n:Nat}{b:FS}{ds:List D}{S:Sto}{Q:D×Sto->Prop}(h:W (b (startD n ds) S) fun p=>match p.1 with
  | .rt d=>Q (d,p.2.2)
  | .nx=>Q (.non,p.2.2)
  | _=>False):W (fnB n b ds S) Q:=by
 obtain ⟨⟨f,r1,S1⟩,e,q⟩:=h;unfold fnB;rw [e];cases f with
 | rt d=>exact ⟨_,rfl,q⟩
 | nx=>exact ⟨_,rfl,q⟩
 | bk=>exact q.elim
 | ct=>exact q.elim
theorem callW {n:Nat}{f:FN}{ds:List D}{S:Sto}{Q:D×Sto->Prop}(hn:ds.length=n)(hu:D.unds 0 ds=false)(h:W (f ds S) fun p=>Q (gc S.length p)):W (mCall n f ds S) Q:=by
 obtain ⟨⟨d,S1⟩,e,q⟩:=h;exact ⟨_,call_open e hn hu,q⟩
theorem callP {n:Nat}{f:FN}{ds:List D}{S:Sto}{Q:D×Sto->Prop}(hn:ds.length=n)(hu:D.unds 0 ds=true)(h:W (f ds []) fun p=>p.1.und 0=true/\Q (p.1,S)):W (mCall n f ds S) Q:=by
 obtain ⟨⟨d,S1⟩,e,q1,q2⟩:=h;exact ⟨_,call_shut e hn hu q1,q2⟩
mutual
theorem und_mono {n:Nat}:∀ {d:D},d.und 0=true->d.und n=true
 | .non,_=>rfl
 | .bl _,_=>rfl
 | .int _,_=>rfl
 | .str _,_=>rfl
 | .tup xs,h=>by rw [D.und] at h ⊢;exact unds_mono h
 | .rol xs,h=>by rw [D.und] at h ⊢;exact unds_mono h
 | .fn _,_=>rfl
 | .ref k,h=>by simp [D.und] at h
theorem unds_mono {n:Nat}:∀ {ds:List D},D.unds 0 ds=true->D.unds n ds=true
 | [],_=>rfl
 | d::ds,h=>by
  rw [D.unds,bA1] at h ⊢;exact ⟨und_mono h.1,unds_mono h.2⟩
end
theorem loopM_W {c:List (Nat×List D)}{g:FG}{b:FS}{Q:Fl×Ev×Sto->Prop}(I:Nat->Ev->Sto->Prop):∀ (items:List D) (k:Nat) (r:Ev) (S:Sto),I k r S ->
  (∀ i r S,I i r S->okC S c=true) ->
  (∀ i d,items[i]? = some d -> ∀ r S,I (k+i) r S->W (g d r S) fun p=>W (b p.1 p.2) fun q=>q.1 = .nx/\I (k+i+1) q.2.1 q.2.2) ->
  (∀ r S,I (k+items.length) r S->Q (.nx,r,S))->W (loopM c g b items r S) Q
 | [],k,r,S,hi,hok,_,hq=>by rw [loopM];dsimp only;rw [if_pos (hok _ _ _ hi),W_some];exact hq r S (by simpa using hi)
 | d::ds,k,r,S,hi,hok,hs,hq=>by
  rw [loopM];dsimp only;rw [if_pos (hok _ _ _ hi),W_bind];obtain ⟨p,e1,h1⟩:=hs 0 d rfl r S (by simpa using hi);refine ⟨p,e1,?_⟩;dsimp only;rw [W_bind];obtain ⟨⟨f,r1,S1⟩,e2,h2,h3⟩:=h1;refine ⟨_,e2,?_⟩;dsimp only at h2 h3 ⊢;subst h2;refine loopM_W I ds (k+1) r1 S1 (by simpa using h3) hok (fun i d' hd r S hI=>?_) fun r S hI=>hq r S (by rw [lC1,show k+(ds.length+1)=k+1+ds.length by lia];exact hI);have:=hs (i+1) d' (by simpa using hd) r S (by rw [show k+(i+1)=k+1+i by lia];exact hI);rw [show k+(i+1)+1=k+1+i+1 by lia] at this;exact this
theorem loopF_W {c:List (Nat×List D)}{g:FG}{t:FT}{e:FE}{Q:List D×Ev×Sto->Prop}(I:Nat->List D->Ev->Sto->Prop):∀ (items:List D) (k:Nat) (acc:List D) (r:Ev) (S:Sto),I k acc r S ->
  (∀ i acc r S,I i acc r S->okC S c=true) ->
  (∀ i d,items[i]? = some d -> ∀ acc r S,I (k+i) acc r S->W (g d r S) fun p=>W (t p.1 p.2) fun b=>if b.1=true then W (e p.1 b.2) fun x=>I (k+i+1) (acc++[x.1]) p.1 x.2 else I (k+i+1) acc p.1 b.2) ->
  (∀ xs r S,I (k+items.length) (acc++xs) r S->Q (xs,r,S))->W (loopF c g t (fEmit e) items r S) Q
 | [],k,acc,r,S,hi,hok,_,hq=>by rw [loopF];dsimp only;rw [if_pos (hok _ _ _ _ hi),W_some];exact hq [] r S (by simpa using hi)
 | d::ds,k,acc,r,S,hi,hok,hs,hq=>by
  rw [loopF];dsimp only;rw [if_pos (hok _ _ _ _ hi),W_bind];obtain ⟨p,e1,h1⟩:=hs 0 d rfl acc r S (by simpa using hi);refine ⟨p,e1,?_⟩;dsimp only;rw [W_bind];obtain ⟨⟨b,S1⟩,e2,h2⟩:=h1;refine ⟨_,e2,?_⟩;have step:∀ i d',ds[i]? = some d' -> ∀ acc r S,I (k+1+i) acc r S->W (g d' r S) fun p=>W (t p.1 p.2) fun b=>if b.1=true then W (e p.1 b.2) fun x=>I (k+1+i+1) (acc++[x.1]) p.1 x.2 else I (k+1+i+1) acc p.1 b.2:=fun i d' hd acc r S hI=>by
   have:=hs (i+1) d' (by simpa using hd) acc r S (by rw [show k+(i+1)=k+1+i by lia];exact hI);rw [show k+(i+1)+1=k+1+i+1 by lia] at this;exact this
  dsimp only at h2 ⊢;cases b with
  | true=>
   rw [if_pos rfl] at h2 ⊢;rw [W_bind,fEmit,W_map];obtain ⟨⟨x,S2⟩,e3,h3⟩:=h2;refine ⟨_,e3,?_⟩;dsimp only at h3 ⊢;rw [W_map];refine loopF_W I ds (k+1) (acc++[x]) p.1 S2 (by simpa using h3) hok step fun xs r S hI=>?_;refine hq _ r S ?_;rw [lC1,show k+(ds.length+1)=k+1+ds.length by lia];simpa using hI
  | false=>
   rw [if_neg (by decide)] at h2 ⊢;refine loopF_W I ds (k+1) acc p.1 S1 (by simpa using h2) hok step fun xs r S hI=>?_;refine hq _ r S ?_;rw [lC1,show k+(ds.length+1)=k+1+ds.length by lia];exact hI
theorem tru_bl {S:Sto}{b:Bool}:truD S (.bl b)=some b:=rfl
theorem tru_non {S:Sto}:truD S .non=some false:=rfl
theorem tru_int {S:Sto}{i:Int}:truD S (.int i)=some (i != 0):=rfl
theorem gEq_int {x y:Int}{S:Sto}:gEq (.int x) (.int y) S=some (.bl (x == y),S):=rfl
theorem gNe_int {x y:Int}{S:Sto}:gNe (.int x) (.int y) S=some (.bl (!(x == y)),S):=rfl
theorem gLt_int {x y:Int}{S:Sto}:gLt (.int x) (.int y) S=some (.bl (decide (x<y)),S):=rfl
theorem gEq_str {x y:Str}{S:Sto}:gEq (.str x) (.str y) S=some (.bl (x == y),S):=rfl
theorem gNe_str {x y:Str}{S:Sto}:gNe (.str x) (.str y) S=some (.bl (!(x == y)),S):=rfl
theorem ite_and' {c p:Prop}[Decidable c]:(if c then p else False)↔c/\p:=by split<;>simp [*]
noncomputable def bnd (j:Int):Bool:=decide (-(2^62)<=j)&&decide (j<2^62)
theorem bnd_nat {n:Nat}(h:n<2^60):bnd n=true:=by
 unfold bnd;rw [bA1,decide_eq_true_eq,decide_eq_true_eq];lia
theorem bnd_of {j:Int}(h: -(2^60)<=j)(h':j<2^60):bnd j=true:=by
 unfold bnd;rw [bA1,decide_eq_true_eq,decide_eq_true_eq];lia
noncomputable def rW1 (p:List D×Sto)(Q:Itm×Sto->Prop):Prop:=match p.1 with
 | [.int j]=>bnd j=true/\Q (⟨nums 0 j.toNat,[]⟩,p.2)
 | _=>False
noncomputable def rW2 (p:List D×Sto)(Q:Itm×Sto->Prop):Prop:=match p.1 with
 | [.int i,.int j]=>bnd i=true/\bnd j=true/\Q (⟨nums i (j-i).toNat,[]⟩,p.2)
 | _=>False
theorem W_iR1 {m:FA}{r:Ev}{S:Sto}{Q:Itm×Sto->Prop}:W (iR1 m r S) Q↔W (m r S) fun p=>rW1 p Q:=by
 unfold iR1;rw [W_bind];constructor
 ·refine fun h=>h.mono fun p q=>?_;unfold rW1;split at q
  ·rename_i j e
   try rw [e]
   rw [W_ite] at q;split at q
   ·rename_i hc;exact ⟨by unfold bnd;rw [bA1,decide_eq_true_eq,decide_eq_true_eq];exact hc,W_some.mp q⟩
   ·exact (W_none.mp q).elim
  ·exact (W_none.mp q).elim
 ·refine fun h=>h.mono fun p q=>?_;unfold rW1 at q;split at q
  ·rename_i j e;obtain ⟨q1,q2⟩:=q;unfold bnd at q1;rw [bA1,decide_eq_true_eq,decide_eq_true_eq] at q1
   try rw [e]
   try dsimp only
   rw [if_pos q1];exact W_some.mpr q2
  ·exact q.elim
theorem W_iR2 {m:FA}{r:Ev}{S:Sto}{Q:Itm×Sto->Prop}:W (iR2 m r S) Q↔W (m r S) fun p=>rW2 p Q:=by
 unfold iR2;rw [W_bind];constructor
 ·refine fun h=>h.mono fun p q=>?_;unfold rW2;split at q
  ·rename_i i j e
   try rw [e]
   rw [W_ite] at q;split at q
   ·rename_i hc;refine ⟨?_,?_,W_some.mp q⟩
    ·unfold bnd;rw [bA1,decide_eq_true_eq,decide_eq_true_eq];exact ⟨hc.1,hc.2.1⟩
    ·unfold bnd;rw [bA1,decide_eq_true_eq,decide_eq_true_eq];exact hc.2.2
   ·exact (W_none.mp q).elim
  ·exact (W_none.mp q).elim
 ·refine fun h=>h.mono fun p q=>?_;unfold rW2 at q;split at q
  ·rename_i i j e;obtain ⟨q1,q3,q2⟩:=q;unfold bnd at q1 q3;rw [bA1,decide_eq_true_eq,decide_eq_true_eq] at q1 q3
   try rw [e]
   try dsimp only
   rw [if_pos ⟨q1.1,q1.2,q3⟩];exact W_some.mpr q2
  ·exact q.elim
noncomputable def fits (n:Nat):Bool:=decide (n<=sizeLine)
theorem fits_le {n:Nat}(h:n<=100000):fits n=true:=by unfold fits;rw [decide_eq_true_eq];exact Nat.le_trans h (by decide)
theorem fits_iff {n:Nat}:fits n=true↔n<=sizeLine:=by unfold fits;rw [decide_eq_true_eq]
theorem ft0:fits 0=true:=fits_le (by decide)
theorem ft1:fits 1=true:=fits_le (by decide)
theorem ft2:fits 2=true:=fits_le (by decide)
theorem ft3:fits 3=true:=fits_le (by decide)
theorem ft4:fits 4=true:=fits_le (by decide)
theorem ft5:fits 5=true:=fits_le (by decide)
theorem ft6:fits 6=true:=fits_le (by decide)
theorem ft7:fits 7=true:=fits_le (by decide)
theorem ft8:fits 8=true:=fits_le (by decide)
theorem W_fits {α:Type}{n:Nat}{o:Option α}{Q:α->Prop}:W (if n<=sizeLine then o else none) Q↔fits n=true/\W o Q:=by
 rw [fits_iff,W_ite];split
 ·rename_i h;exact ⟨fun q=>⟨h,q⟩,fun q=>q.2⟩
 ·rename_i h;exact ⟨fun q=>(W_none.mp q).elim,fun q=>absurd q.1 h⟩
theorem W_mTup {a:FA}{r:Ev}{S:Sto}{Q:D×Sto->Prop}:W (mTup a r S) Q↔W (a r S) fun p=>fits p.1.length=true/\Q (.tup p.1,p.2):=by
 unfold mTup;rw [W_bind];exact ⟨fun h=>h.mono fun p q=>(W_fits.mp q).imp_right W_some.mp,fun h=>h.mono fun p q=>W_fits.mpr (q.imp_right W_some.mpr)⟩
theorem W_mLst {a:FA}{r:Ev}{S:Sto}{Q:D×Sto->Prop}:W (mLst a r S) Q↔W (a r S) fun p=>fits p.1.length=true/\Q (.ref p.2.length,p.2++[.lst p.1]):=by
 unfold mLst;rw [W_bind];exact ⟨fun h=>h.mono fun p q=>(W_fits.mp q).imp_right W_some.mp,fun h=>h.mono fun p q=>W_fits.mpr (q.imp_right W_some.mpr)⟩
theorem W_fComp {k:Nat}{keep:List Nat}{m:FI}{g:FG}{t:FT}{b:FV}{r:Ev}{S:Sto}{Q:D×Sto->Prop}:W (fComp k keep m g t b r S) Q↔W (m r S) fun p=>W (loopF p.1.chk g t b p.1.items (inEv k keep r) p.2) fun q=>fits q.1.length=true/\Q (.ref q.2.2.length,q.2.2++[.lst q.1]):=by
 unfold fComp;rw [W_bind];refine ⟨fun h=>h.mono fun p q=>?_,fun h=>h.mono fun p q=>?_⟩
 ·rw [W_bind] at q;exact q.mono fun z w=>(W_fits.mp w).imp_right W_some.mp
 ·rw [W_bind];exact q.mono fun z w=>W_fits.mpr (w.imp_right W_some.mpr)
theorem W_addT {xs ys:List D}{S:Sto}{Q:D×Sto->Prop}:W (gAdd (.tup xs) (.tup ys) S) Q↔fits (xs.length+ys.length)=true/\Q (.tup (xs++ys),S):=
 ⟨fun q=>(W_fits.mp q).imp_right W_some.mp,fun q=>W_fits.mpr (q.imp_right W_some.mpr)⟩
theorem W_addI {x y:Int}{S:Sto}{Q:D×Sto->Prop}:W (gAdd (.int x) (.int y) S) Q↔Q (.int (x+y),S):=W_some
theorem W_addL {a b:Nat}{xs ys:List D}{S:Sto}{Q:D×Sto->Prop}(h1:S[a]? = some (.lst xs))(h2:S[b]? = some (.lst ys)):W (gAdd (.ref a) (.ref b) S) Q↔fits (xs.length+ys.length)=true/\Q (.ref S.length,S++[.lst (xs++ys)]):=by
 rw [gAdd];simp only [h1,h2];exact ⟨fun q=>(W_fits.mp q).imp_right W_some.mp,fun q=>W_fits.mpr (q.imp_right W_some.mpr)⟩
theorem W_app {n:Nat}{v:D}{xs:List D}{S:Sto}{Q:D×Sto->Prop}(h:S[n]? = some (.lst xs)):W (gApp (.ref n) v S) Q↔fits (xs.length+1)=true/\Q (.non,S.set n (.lst (xs++[v]))):=by
 rw [gApp];simp only [h];rw [W_ite,fits_iff];split
 ·rename_i hl;exact ⟨fun q=>⟨hl,W_some.mp q⟩,fun q=>W_some.mpr q.2⟩
 ·rename_i hl;exact ⟨fun q=>(W_none.mp q).elim,fun q=>absurd q.1 hl⟩
theorem W_ixL {n:Nat}{i:Nat}{xs:List D}{x:D}{S:Sto}{Q:D×Sto->Prop}(h:S[n]? = some (.lst xs))(hx:xs[i]? = some x)(q:Q (x,S)):W (gIxY (.ref n) (.int i) S) Q:=by
 refine W.of (x:=(x,S)) ?_ q;have hl:=(gE1.mp hx).1;simp only [gIxY,gIxX,gIx,h,seqOf,atI,ixN,oS1,if_pos (show (0:Int)<=i by lia)];rw [if_pos (by lia)];simp [hx]
theorem W_ixT {i:Nat}{xs:List D}{x:D}{S:Sto}{Q:D×Sto->Prop}(hx:xs[i]? = some x)(q:Q (x,S)):W (gIxY (.tup xs) (.int i) S) Q:=by
 refine W.of (x:=(x,S)) ?_ q;have hl:=(gE1.mp hx).1;simp only [gIxY,gIxX,gIx,seqOf,atI,ixN,oS1,if_pos (show (0:Int)<=i by lia)];rw [if_pos (by lia)];simp [hx]
theorem rp0:List.replicate 0 (none:Option D)=[]:=rfl
theorem rp1:List.replicate 1 (none:Option D)=[none]:=rfl
theorem rp2:List.replicate 2 (none:Option D)=[none,none]:=rfl
theorem rp3:List.replicate 3 (none:Option D)=[none,none,none]:=rfl
theorem rp4:List.replicate 4 (none:Option D)=[none,none,none,none]:=rfl
theorem rp5:List.replicate 5 (none:Option D)=[none,none,none,none,none]:=rfl
theorem rp6:List.replicate 6 (none:Option D)=[none,none,none,none,none,none]:=rfl
theorem rp7:List.replicate 7 (none:Option D)=[none,none,none,none,none,none,none]:=rfl
theorem rp8:List.replicate 8 (none:Option D)=[none,none,none,none,none,none,none,none]:=rfl
theorem rp9:List.replicate 9 (none:Option D)=[none,none,none,none,none,none,none,none,none]:=rfl
theorem rp10:List.replicate 10 (none:Option D)=[none,none,none,none,none,none,none,none,none,none]:=rfl
theorem rp11:List.replicate 11 (none:Option D)=[none,none,none,none,none,none,none,none,none,none,none]:=rfl
theorem rp12:List.replicate 12 (none:Option D)=[none,none,none,none,none,none,none,none,none,none,none,none]:=rfl
theorem rp13:List.replicate 13 (none:Option D)=[none,none,none,none,none,none,none,none,none,none,none,none,none]:=rfl
theorem rp14:List.replicate 14 (none:Option D)=[none,none,none,none,none,none,none,none,none,none,none,none,none,none]:=rfl
theorem rp15:List.replicate 15 (none:Option D)=[none,none,none,none,none,none,none,none,none,none,none,none,none,none,none]:=rfl
theorem rp16:List.replicate 16 (none:Option D)=[none,none,none,none,none,none,none,none,none,none,none,none,none,none,none,none]:=rfl
theorem rp17:List.replicate 17 (none:Option D)=[none,none,none,none,none,none,none,none,none,none,none,none,none,none,none,none,none]:=rfl
theorem rp18:List.replicate 18 (none:Option D)=[none,none,none,none,none,none,none,none,none,none,none,none,none,none,none,none,none,none]:=rfl
theorem rp19:List.replicate 19 (none:Option D)=[none,none,none,none,none,none,none,none,none,none,none,none,none,none,none,none,none,none,none]:=rfl
theorem rp20:List.replicate 20 (none:Option D)=[none,none,none,none,none,none,none,none,none,none,none,none,none,none,none,none,none,none,none,none]:=rfl
theorem get_app {α:Type}{T G:List α}{k:Nat}:(T++G)[T.length+k]? = G[k]?:=by rw [gR1 (by lia)];congr 1;lia
theorem get_app0 {α:Type}{T G:List α}:(T++G)[T.length]? = G[0]?:=by rw [gR1 (by lia)];congr 1;lia
theorem nums_eq:∀ (n:Nat) (lo:Int),nums lo n=(List.range n).map fun i:Nat=>D.int (lo+i)
 | 0,lo=>rfl
 | n+1,lo=>by
  rw [nums,nums_eq n (lo+1),List.range_succ_eq_map,mP1,List.map_map]
  congr 1
  ·simp
  ·apply List.map_congr_left;intro i _;simp only [Function.comp_apply,Nat.succ_eq_add_one]
   congr 1
   push_cast
   lia
theorem nums0 (n:Nat):nums 0 n=(List.range n).map fun i:Nat=>D.int i:=by
 rw [nums_eq];apply List.map_congr_left;intro i _;simp
theorem mapW {α:Type}{c:List (Nat×List D)}{g:FG}{t:FT}{e:FE}{S:Sto}{f:α->D}{Q:List D×Ev×Sto->Prop}(F:α->D)(P:Ev->Prop)(hok:okC S c=true):∀ (xs:List α) (r:Ev),P r ->
  (∀ a∈xs,∀ r,P r->W (g (f a) r S) fun p=>W (t p.1 p.2) fun b=>b.1=true/\W (e p.1 b.2) fun x=>x.1=F a/\x.2=S/\P p.1) ->
  (∀ r',P r'->Q (xs.map F,r',S))->W (loopF c g t (fEmit e) (xs.map f) r S) Q
 | [],r,hr,_,h=>by rw [List.map_nil,loopF];dsimp only;rw [if_pos hok,W_some];exact h r hr
 | a::xs,r,hr,hs,h=>by
  rw [mP1,loopF];dsimp only;rw [if_pos hok,W_bind];obtain ⟨p,e1,⟨b,e2,hb,⟨x,e3,hx,hS,hp⟩⟩⟩:=hs a mS1 r hr;refine ⟨p,e1,?_⟩;dsimp only;rw [W_bind];refine ⟨b,e2,?_⟩;dsimp only;rw [if_pos hb,W_bind,fEmit,W_map];refine ⟨x,e3,?_⟩;dsimp only;rw [hS,W_map];refine mapW F P hok xs p.1 hp (fun a ha=>hs a (mC1 _ ha)) fun r' hr'=>?_;have:=h r' hr';rw [mP1,<- hx] at this;exact this
theorem filterW {α:Type}{c:List (Nat×List D)}{g:FG}{t:FT}{e:FE}{S:Sto}{f:α->D}{Q:List D×Ev×Sto->Prop}(k:α->Bool)(F:α->D)(P:Ev->Prop)(hok:okC S c=true):∀ (xs:List α) (r:Ev),P r ->
  (∀ a∈xs,∀ r,P r->W (g (f a) r S) fun p=>W (t p.1 p.2) fun b=>b.1=k a/\b.2=S/\P p.1/\(k a=true->W (e p.1 S) fun x=>x.1=F a/\x.2=S)) ->
  (∀ r',P r'->Q ((xs.filter k).map F,r',S))->W (loopF c g t (fEmit e) (xs.map f) r S) Q
 | [],r,hr,_,h=>by rw [List.map_nil,loopF];dsimp only;rw [if_pos hok,W_some];exact h r hr
 | a::xs,r,hr,hs,h=>by
  rw [mP1,loopF];dsimp only;rw [if_pos hok,W_bind];obtain ⟨p,e1,⟨b,e2,hb,hS,hp,hx⟩⟩:=hs a mS1 r hr;refine ⟨p,e1,?_⟩;dsimp only;rw [W_bind];refine ⟨b,e2,?_⟩;dsimp only;cases hk:k a with
  | true=>
   rw [hb,hk,if_pos rfl,W_bind,fEmit,W_map,hS];obtain ⟨x,e3,hx,hS2⟩:=hx hk;refine ⟨x,e3,?_⟩;dsimp only;rw [hS2,W_map];refine filterW k F P hok xs p.1 hp (fun a ha=>hs a (mC1 _ ha)) fun r' hr'=>?_;have:=h r' hr';rw [List.filter_cons,hk,if_pos rfl,mP1,<- hx] at this;exact this
  | false=>
   rw [hb,hk,if_neg (by decide),hS];refine filterW k F P hok xs p.1 hp (fun a ha=>hs a (mC1 _ ha)) fun r' hr'=>?_;have:=h r' hr';rw [List.filter_cons,hk,if_neg (by decide)] at this;exact this
theorem allB_all {α:Type}{f:α->Bool}:∀ xs:List α,Mi.allB (xs.map fun x=>D.bl (f x))=some (xs.all f)
 | []=>rfl
 | x::xs=>by rw [mP1,Mi.allB,allB_all xs];rfl
mutual
theorem und_le {n m:Nat}(h:n<=m):∀ {d:D},d.und n=true->d.und m=true
 | .non,_=>rfl
 | .bl _,_=>rfl
 | .int _,_=>rfl
 | .str _,_=>rfl
 | .tup xs,q=>by rw [D.und] at q ⊢;exact unds_le h q
 | .rol xs,q=>by rw [D.und] at q ⊢;exact unds_le h q
 | .fn _,_=>rfl
 | .ref k,q=>by simp [D.und] at q ⊢;lia
theorem unds_le {n m:Nat}(h:n<=m):∀ {ds:List D},D.unds n ds=true->D.unds m ds=true
 | [],_=>rfl
 | d::ds,q=>by
  rw [D.unds,bA1] at q ⊢;exact ⟨und_le h q.1,unds_le h q.2⟩
end
theorem obund_le {n m:Nat}(h:n<=m):∀ {o:Ob},o.und n=true->o.und m=true
 | .lst xs,q=>by rw [Ob.und] at q ⊢;exact unds_le h q
 | .dct xs,q=>by rw [Ob.und] at q ⊢;exact unds_le h q
 | .dcT xs,q=>by rw [Ob.und] at q ⊢;exact unds_le h q
 | .dcF xs,q=>by rw [Ob.und] at q ⊢;exact unds_le h q
 | .iset _,_=>rfl
 | .tst _,_=>rfl
theorem unds_map {α:Type}{n:Nat}{f:α->D}:∀ {xs:List α},(∀ x∈xs,(f x).und n=true)->D.unds n (xs.map f)=true
 | [],_=>rfl
 | x::xs,h=>by rw [mP1,D.unds,h x mS1,unds_map fun y hy=>h y (mC1 _ hy)];rfl
theorem al1 {x:Nat}:x+1+1=x+2:=rfl
theorem al2 {x:Nat}:x+2+1=x+3:=rfl
theorem al3 {x:Nat}:x+3+1=x+4:=rfl
theorem al4 {x:Nat}:x+4+1=x+5:=rfl
theorem al5 {x:Nat}:x+5+1=x+6:=rfl
theorem al6 {x:Nat}:x+6+1=x+7:=rfl
theorem al7 {x:Nat}:x+1+2=x+3:=rfl
theorem len_tup {xs:List D}{S:Sto}:gLen (.tup xs) S=some (.int xs.length,S):=rfl
theorem len_rol {xs:List D}{S:Sto}:gLen (.rol xs) S=some (.int xs.length,S):=rfl
theorem len_str0 {S:Sto}:gLen (.str "") S=some (.int 0,S):=rfl
theorem seq_tup {xs:List D}{S:Sto}:seqOf S (.tup xs)=some (false,xs):=rfl
theorem seq_rol {xs:List D}{S:Sto}:seqOf S (.rol xs)=some (true,xs):=rfl
theorem chk_tup {xs:List D}{S:Sto}:chkOf S (.tup xs)=[]:=rfl
theorem chk_rol {xs:List D}{S:Sto}:chkOf S (.rol xs)=[]:=rfl
theorem seq_ref {n:Nat}{xs:List D}{S:Sto}(h:S[n]? = some (.lst xs)):seqOf S (.ref n)=some (true,xs):=by simp only [seqOf,h]
theorem chk_ref {n:Nat}{xs:List D}{S:Sto}(h:S[n]? = some (.lst xs)):chkOf S (.ref n)=[(n,xs)]:=by simp only [chkOf,h]
noncomputable def sW (S:Sto)(d:D)(Q:List D×List (Nat×List D)->Prop):Prop:=W (seqOf S d) fun q=>Q (q.2,chkOf S d)
theorem sW_tup {xs:List D}{S:Sto}{Q:List D×List (Nat×List D)->Prop}:sW S (.tup xs) Q↔Q (xs,[]):=W_some
theorem sW_ref {n:Nat}{xs:List D}{S:Sto}{Q:List D×List (Nat×List D)->Prop}(h:S[n]? = some (.lst xs))(q:Q (xs,[(n,xs)])):sW S (.ref n) Q:=by
 unfold sW;rw [seq_ref h,chk_ref h,W_some];exact q
theorem W_iSeq {m:FE}{r:Ev}{S:Sto}{Q:Itm×Sto->Prop}:W (iSeq m r S) Q↔W (m r S) fun p=>sW p.2 p.1 fun q=>Q (⟨q.1,q.2⟩,p.2):=by
 unfold iSeq;rw [W_bind];refine ⟨fun h=>h.mono fun p q=>?_,fun h=>h.mono fun p q=>?_⟩
 ·rw [W_bind] at q;exact q.mono fun z w=>W_some.mp w
 ·rw [W_bind];exact W.mono (show W (seqOf p.2 p.1) _ from q) fun z w=>W_some.mpr w
theorem W_gTup {d:D}{S:Sto}{Q:D×Sto->Prop}:W (Mi.gTup d S) Q↔sW S d fun q=>Q (.tup q.1,S):=by
 unfold Mi.gTup;rw [W_map];exact Iff.rfl
theorem W_len {n:Nat}{S:Sto}{Q:D×Sto->Prop}:W (gLen (.ref n) S) Q↔sW S (.ref n) fun q=>Q (.int q.1.length,S):=by
 unfold gLen sW;rw [W_map]
noncomputable def pD (e:Nat×Nat):D:=.tup [.int e.1,.int e.2]
theorem W_mMt {f:FN}{o:FE}{a:FA}{r:Ev}{S:Sto}{Q:D×Sto->Prop}(h:W (o r S) fun p=>∃ n xs,p.1 = .ref n/\p.2[n]? = some (.lst xs)/\W (a r p.2) fun q=>W (f (.ref n::q.1) q.2) Q):W (mMt f o a r S) Q:=by
 unfold mMt;rw [W_bind];refine h.mono ?_;rintro ⟨d,S1⟩ ⟨n,xs,rfl,e,q⟩;dsimp only at e q ⊢;rw [e];dsimp only;rw [W_bind];exact q
noncomputable def rowOb (row:List (Nat×Nat)):Ob:=.lst (row.map pD)
structure WS (t m:Nat)(T:Sto)(E:List (List (Nat×Nat)))(P:List (Nat×Nat))(U:Sto):Prop where
 tl:T.length=t
 low:U.take t=T
 el:E.length=m
 row:∀ i row,E[i]? = some row->U[t+i]? = some (rowOb row)
 ends:U[t+m]? = some (.lst (refs (t+1) m))
 prs:U[t+m+1]? = some (.lst (P.map pD))
theorem WS.split {t m:Nat}{T:Sto}{E:List (List (Nat×Nat))}{P:List (Nat×Nat)}{U:Sto}(w:WS t m T E P U):U=T++U.drop t:=by
 conv=>lhs;rw [<- List.take_append_drop t U,w.low]
noncomputable def tot (E:List (List (Nat×Nat))):Nat:=(E.map List.length).sum
noncomputable def nmD (rs:List Nat):List D:=rs.map fun i:Nat=>D.int i
theorem nm_len (rs:List Nat):(nmD rs).length=rs.length:=by simp [nmD]
noncomputable def eyesL (a b c d:Bool):List D:=(if a then [.str "came"] else [])++(if b then [.str "chalk"] else [])++(if c then [.str "doors"] else [])++(if d then [.str "others"] else [])
theorem eyes_sub {xs:List D}(h:xs.Sublist [.str "came",.str "chalk",.str "doors",.str "others"]):∃ a b c d,xs=eyesL a b c d:=by
 have one:∀ {x:D} {l ys:List D},ys.Sublist (x::l) -> ∃ (a:Bool) (zs:List D),zs.Sublist l/\ys=(if a then [x] else [])++zs:=by
  intro x l ys h;cases h with
  | cons _ h=>exact ⟨false,ys,h,rfl⟩
  | cons_cons _ h=>exact ⟨true,_,h,rfl⟩
 obtain ⟨a,z1,h1,rfl⟩:=one h;obtain ⟨b,z2,h2,rfl⟩:=one h1;obtain ⟨c,z3,h3,rfl⟩:=one h2;obtain ⟨d,z4,h4,rfl⟩:=one h3;have:z4=[]:=List.eq_nil_of_sublist_nil h4;subst this;exact ⟨a,b,c,d,by simp [eyesL]⟩
theorem eyes_len (a b c d:Bool):(eyesL a b c d).length<=4:=by cases a<;>cases b<;>cases c<;>cases d<;>decide
theorem eyes_und (a b c d:Bool):D.unds 0 (eyesL a b c d)=true:=by cases a<;>cases b<;>cases c<;>cases d<;>rfl
theorem in_came {a b c d:Bool}{S:Sto}:gInY (.str "came") (.tup (eyesL a b c d)) S=some (.bl a,S):=by cases a<;>cases b<;>cases c<;>cases d<;>rfl
theorem in_chalk {a b c d:Bool}{S:Sto}:gInY (.str "chalk") (.tup (eyesL a b c d)) S=some (.bl b,S):=by cases a<;>cases b<;>cases c<;>cases d<;>rfl
theorem in_doors {a b c d:Bool}{S:Sto}:gInY (.str "doors") (.tup (eyesL a b c d)) S=some (.bl c,S):=by cases a<;>cases b<;>cases c<;>cases d<;>rfl
theorem in_others {a b c d:Bool}{S:Sto}:gInY (.str "others") (.tup (eyesL a b c d)) S=some (.bl d,S):=by cases a<;>cases b<;>cases c<;>cases d<;>rfl
theorem put_len {κ:Type}[DecidableEq κ]{k:κ}{v:D}{a:List (κ×D)}:(putD a k v).length<=a.length+1:=by
 unfold putD;split
 ·rw [lM1];lia
 ·rw [lA1];simp
theorem put_ne {κ:Type}[DecidableEq κ]{k:κ}{v:D}{a:List (κ×D)}:putD a k v≠[]:=by
 unfold putD;split
 ·rename_i h;intro z;cases a with
  | nil=>simp at h
  | cons x xs=>simp at z
 ·simp
noncomputable def dO (F:List (TK×D)):Ob:=if F=[] then .dct [] else .dcT F
noncomputable def tkP (e:Nat×Nat):TK:=.tup [.int e.1,.int e.2]
theorem gc_app {d:D}{S G:Sto}(hd:d.und 0=true)(hS:S.all (Ob.und S.length)=true):gc S.length (d,S++G)=(d,S):=by
 unfold gc;dsimp only;rw [List.take_left,if_pos (by rw [und_mono hd,hS];rfl)]
theorem mem_dd {ns:List Int}{k:Int}:k∈ddI ns↔k∈ns:=by
 have key:∀ (ns acc:List Int),k∈ns.foldl step_dedup acc↔k∈acc\/k∈ns:=by
  intro ns
  induction ns with
  | nil=>intro acc;simp
  | cons n ns ih=>
   intro acc;rw [List.foldl_cons,ih];have:k∈step_dedup acc n↔k∈acc\/k=n:=by
    unfold step_dedup;split
    ·rename_i h;obtain ⟨x,hx,e⟩:=List.any_eq_true.mp h;have e:=beq_iff_eq.mp e;subst e;constructor
     ·exact .inl
     ·rintro (z | z)
      ·exact z
      ·rw [z];exact hx
    ·simp
   rw [this,List.mem_cons,or_assoc]
 unfold ddI;rw [key];simp
theorem ints_nm (xs:List Nat):intsOf (nmD xs)=some (xs.map fun (r:Nat)=>(r:Int)):=by
 induction xs with
 | nil=>rfl
 | cons x xs ih=>
  show (intsOf (nmD xs)).map _=_;rw [ih];rfl
end Mi
end
local macro_rules | `(tactic| walk_at "own wq") => `(tactic| simp only [Mi.W_some, Mi.W_none, Mi.ite_and', Mi.W_bind, Mi.W_map, Mi.W_ite, Mi.mSeq, Mi.mAsg, Mi.mIfS, Mi.mRet, Mi.mDrop, Mi.mNx, Mi.mN, Mi.mCons, Mi.mNil, Mi.m2, Mi.m1, Mi.mV, Mi.mC, Mi.W_mTup, Mi.W_mLst, Mi.mB, Mi.mAnd, Mi.mOr, Mi.mNot, Mi.mAndV, Mi.mNotV, Mi.mIf, Mi.mTrue, Mi.mTr, Mi.tru_bl, Mi.gN, Mi.gT, Mi.gCs, Mi.gNl, Mi.gS, Mi.b1, Mi.b2, Mi.b3, Mi.fnB, Mi.startD, Mi.W_fComp, Mi.W_iR1, Mi.rW1, Mi.mFor, Mi.inEv, Mi.W_addT, Mi.W_addI, Mi.gSub, Mi.gCmp, Mi.gInt, Mi.gEq_int, Mi.gNe_int, Mi.ft0, Mi.ft1, Mi.ft2, Mi.ft3, Mi.ft4, Mi.ft5, true_and, Mi.get_app0, List.append_assoc, lA1, List.getElem?_cons_zero, gC1, List.getElem?_nil, List.set_cons_zero, List.set_cons_succ, lC1, List.length_nil, mP1, List.map_nil, Mi.rp0, Mi.rp1, Mi.rp2, Mi.rp3, Mi.rp5, Mi.rp7, List.nil_append, List.cons_append, List.append_nil, Nat.reduceAdd, Nat.reduceSub, Option.join_some, Option.join_none, oP1, Option.map_none, oS1, Option.bind_none, if_true, if_false, bF1, Bool.not_true, Bool.not_false, ite_true, ite_false, reduceIte, decide_true, decide_false, Mi.al1, Mi.al7, Mi.len_tup, Mi.W_iSeq, Mi.W_gTup])
section
namespace Law
open PySem PySem.Spec PyProof.Rows L2 Mi
noncomputable def top (i:Nat):Stmt:=PySem.Challenge.pw_ringmeet_k21_machines_known.main.body.getD i (.Pass ⟨0,0,0,0⟩)
noncomputable abbrev BL:List Str:=["all","bool","int","isinstance","len","list","max","min","range","set","sorted","str","tuple","zip"]
noncomputable def d_PARTS:D:=(D.tup [(D.tup [(D.str "came"),(D.int 5)]),(D.tup [(D.str "chalk"),(D.int 2)]),(D.tup [(D.str "doors"),(D.int 5)]),(D.tup [(D.str "others"),(D.int 2)])])
noncomputable def d_HANDS:D:=(D.tup [(D.str "leave"),(D.str "mark"),(D.str "wipe")])
noncomputable def d_MOODS:D:=(D.int 4000)
noncomputable def d_MOST_ROWS:D:=(D.int 4000)
noncomputable def d_STEPS:D:=(D.int 4)
section
variable {P:Program} {w:World} {K:Fg1} {mg:Str->Option Value} {base h:Heap} (X:K.In h) (G:h.Ns mainGlobals mg) (B:Blt BL mg)
include X G B
noncomputable abbrev s_is_whole:Stmt:=top 1
noncomputable def b_is_whole:FS:=(mRet (mAndV (mIsT .int (mV 0)) (mNotV (mIsT .bool (mV 0)))))
noncomputable def m_is_whole:FN:=fnB 1 b_is_whole
theorem ok_is_whole {f:Addr}(F:FnAt K "is_whole" s_is_whole f):
  Own P w K mg base 1 "is_whole" 1 m_is_whole:=xq ["thing"] X G F fun hr=>
 (qG (qU (xme_and (ii xv) (xme_one (xme_not (ii xv))))))
noncomputable abbrev s_is_tuple_of:Stmt:=top 3
noncomputable def b_is_tuple_of:FS:=(mRet (mAndV (mIsT .tuple (mV 0)) (m2 (b2 gEq) (mN (b1 gLen) (mCons (mV 0) mNil)) (mV 1))))
noncomputable def m_is_tuple_of:FN:=fnB 2 b_is_tuple_of
theorem ok_is_tuple_of {f:Addr}(F:FnAt K "is_tuple_of" s_is_tuple_of f):
  Own P w K mg base 1 "is_tuple_of" 2 m_is_tuple_of:=xq ["thing","many"] X G F fun hr=>
 (qG (qU (xme_and (ii xv) (xme_one (ce (oq o_eq) (cn c_len (a1 xv)) xv)))))
noncomputable abbrev s_is_rising:Stmt:=top 4
noncomputable def b_is_rising:FS:=(mRet (mN (b1 gAll) (mCons (fComp 1 [0] (iR1 (mCons (m2 (b2 gSub) (mN (b1 gLen) (mCons (mV 0) mNil)) (mC (D.int 1))) mNil)) (gN 0) mTrue (fEmit (m2 (b2 gLt) (m2 (b2 gIxY) (mV 1) (mV 0)) (m2 (b2 gIxY) (mV 1) (m2 (b2 gAdd) (mV 0) (mC (D.int 1))))))) mNil)))
noncomputable def m_is_rising:FN:=fnB 1 b_is_rising
theorem ok_is_rising {f:Addr}(F:FnAt K "is_rising" s_is_rising f):
  Own P w K mg base 1 "is_rising" 1 m_is_rising:=xq ["things"] X G F fun hr=>
 (qG (qU (cn (c_all rfl) (a1 (fk ["at"] (ir (a1 (qI o_sub (cn c_len (a1 xv)) qK))) ⟨gq,xmif_nil,(ce (oq o_ltN) (jq xv xv) (jq xv (qI o_add xv qK)))⟩)))))
noncomputable abbrev s_is_eye:Stmt:=top 13
noncomputable def b_is_eye:FS:=(mRet (mAndV (mIsT .str (mV 0)) (m2 (b2 gInY) (mV 0) (fComp 2 [] (iSeq (mC d_PARTS)) (gT 2 (gCs (gN 0) (gCs (gN 1) gNl))) mTrue (fEmit (mV 0))))))
noncomputable def m_is_eye:FN:=fnB 1 b_is_eye
theorem ok_is_eye {f:Addr}(F:FnAt K "is_eye" s_is_eye f)(c0:CGl K mg "PARTS" d_PARTS):
  Own P w K mg base 1 "is_eye" 1 m_is_eye:=xq ["thing"] X G F fun hr=>
 (qG (qU (xme_and (ii xv) (xme_one (ce (oq o_inY) xv (fk ["eye","many"] (qd (xme_glob c0 rfl)) ⟨(tg2 gq gq),xmif_nil,xv⟩) (by with_unfolding_all rfl))))))
noncomputable abbrev s_is_hand:Stmt:=top 19
noncomputable def b_is_hand:FS:=(mRet (mAndV (mIsT .str (mV 0)) (m2 (b2 gInY) (mV 0) (mC d_HANDS))))
noncomputable def m_is_hand:FN:=fnB 1 b_is_hand
theorem ok_is_hand {f:Addr}(F:FnAt K "is_hand" s_is_hand f)(c1:CGl K mg "HANDS" d_HANDS):
  Own P w K mg base 1 "is_hand" 1 m_is_hand:=xq ["thing"] X G F fun hr=>
 (qG (qU (xme_and (ii xv) (xme_one (ce (oq o_inY) xv (xme_glob c1 rfl) (by with_unfolding_all rfl))))))
noncomputable abbrev s__law_hand:Stmt:=top 21
noncomputable def b__law_hand:FS:=(mSeq (mAsg (mC (D.int 0)) (gN 2))
  (mSeq (mIfS (mB (m2 (b2 gLt) (mV 1) (mN (b1 gLen) (mCons (mV 0) mNil)))) (mAsg (m2 (b2 gIxY) (mV 0) (mV 1)) (gN 2)) mNx)
  (mSeq (mAsg (m2 (b2 gMul) (m2 (b2 gMod) (mV 2) (m2 (b2 gMul) (m2 (b2 gPow) (mC (D.int 10)) (mC (D.int 60))) (m2 (b2 gPow) (mC (D.int 10)) (mC (D.int 30))))) (mN (b1 gInt) (mCons (m2 (b2 (gCmp fun i j=>decide (j<=i))) (mV 2) (m2 (b2 gPow) (mC (D.int 10)) (mC (D.int 18)))) mNil))) (gN 3))
  (mRet (mLst (mCons (mV 3) (mCons (m2 (b2 gMod) (m2 (b2 gAdd) (m2 (b2 gAdd) (m2 (b2 gMod) (mV 2) (mC (D.int 2305843009213693951))) (m2 (b2 gMul) (mC (D.int 7919)) (mV 1))) (mC (D.int 3))) (mC (D.int 2305843009213693951))) (mCons (mC (D.int 0)) mNil))))))))
noncomputable def m__law_hand:FN:=fnB 4 b__law_hand
theorem ok__law_hand {f:Addr}(F:FnAt K "_law_hand" s__law_hand f):
  Own P w K mg base 1 "_law_hand" 2 m__law_hand:=xq ["_law_script","_law_k","_law_cell","_law_great"] X G F fun hr=>
 (qF (sq qK) (qF (qV (ct (oq o_ltN) xv (cn c_len (a1 xv))) (qG (sq (jq xv xv))) qQ) (qF (sq (qI o_mul (qI o_mod xv (qI o_mul (qI o_pow qK qK) (qI o_pow qK qK))) (cz c_int (a1 (ce o_ge xv (qI o_pow qK qK)))))) (qG (qU (xme_lst (a3 xv (qI o_mod (qI o_add (qI o_add (qI o_mod xv qK) (qI o_mul qK xv)) qK) qK) qK)))))))
noncomputable abbrev s__law_take:Stmt:=top 22
noncomputable def b__law_take:FS:=(mSeq (mIfS (mB (m2 (b2 (gCmp fun i j=>decide (j<i))) (m2 (b2 gIxY) (mV 0) (mC (D.int 0))) (mC (D.int 0)))) (mSeq (mAsg (m2 (b2 gMod) (m2 (b2 gIxY) (mV 0) (mC (D.int 0))) (mV 1)) (gN 2))
  (mSeq (mAsg (m2 (b2 gDiv) (m2 (b2 gIxY) (mV 0) (mC (D.int 0))) (mV 1)) (gS (b3 gSetY) (mV 0) (mC (D.int 0))))
  (mRet (mV 2)))) mNx)
  (mSeq (mAsg (m2 (b2 gAdd) (m2 (b2 gIxY) (mV 0) (mC (D.int 2))) (mC (D.int 1))) (gS (b3 gSetY) (mV 0) (mC (D.int 2))))
  (mSeq (mAsg (m2 (b2 gMod) (m2 (b2 gMul) (m2 (b2 gAdd) (m2 (b2 gAdd) (m2 (b2 gIxY) (mV 0) (mC (D.int 1))) (m2 (b2 gMul) (m2 (b2 gMul) (mC (D.int 65537)) (m2 (b2 gIxY) (mV 0) (mC (D.int 2)))) (m2 (b2 gIxY) (mV 0) (mC (D.int 2))))) (mC (D.int 11))) (mC (D.int 48271))) (mC (D.int 2305843009213693921))) (gN 3))
  (mSeq (mAsg (m2 (b2 gMod) (m2 (b2 gMul) (mV 3) (m2 (b2 gAdd) (m2 (b2 gMod) (mV 3) (mC (D.int 1000003))) (m2 (b2 gMul) (mC (D.int 99991)) (m2 (b2 gIxY) (mV 0) (mC (D.int 2)))))) (mC (D.int 2305843009213693907))) (gN 3))
  (mRet (m2 (b2 gMod) (m2 (b2 gAdd) (m2 (b2 gDiv) (mV 3) (mC (D.int 97))) (m2 (b2 gDiv) (mV 3) (mC (D.int 1000033)))) (mV 1)))))))
noncomputable def m__law_take:FN:=fnB 4 b__law_take
theorem ok__law_take {f:Addr}(F:FnAt K "_law_take" s__law_take f):
  Own P w K mg base 1 "_law_take" 2 m__law_take:=xq ["_law_hand_here","_law_many","_law_digit","_law_mixed"] X G F fun hr=>
 (qF (qV (ct o_gt (jq xv qK) qK) (qF (sq (qI o_mod (jq xv qK) xv)) (qF (qR (qI o_div (jq xv qK) xv) (xmg_sub xv qK (s_setY hr.units))) (qG (qU xv)))) qQ) (qF (qR (qI o_add (jq xv qK) qK) (xmg_sub xv qK (s_setY hr.units))) (qF (sq (qI o_mod (qI o_mul (qI o_add (qI o_add (jq xv qK) (qI o_mul (qI o_mul qK (jq xv qK)) (jq xv qK))) qK) qK) qK)) (qF (sq (qI o_mod (qI o_mul xv (qI o_add (qI o_mod xv qK) (qI o_mul qK (jq xv qK)))) qK)) (qG (qU (qI o_mod (qI o_add (qI o_div xv qK) (qI o_div xv qK)) xv)))))))
noncomputable abbrev s__law_number:Stmt:=top 27
noncomputable def b__law_number:FS:=(mRet (mAndV (mIsT .int (mV 0)) (mAndV (mNotV (mIsT .bool (mV 0))) (mCh (b2 (gCmp fun i j=>decide (i<=j))) (b2 (gCmp fun i j=>decide (i<=j))) (mC (D.int 0)) (mV 0) (mV 1)))))
noncomputable def m__law_number:FN:=fnB 2 b__law_number
theorem ok__law_number {f:Addr}(F:FnAt K "_law_number" s__law_number f):
  Own P w K mg base 1 "_law_number" 2 m__law_number:=xq ["_law_thing","_law_most"] X G F fun hr=>
 (qG (qU (xme_and (ii xv) (xme_and (xme_not (ii xv)) (xme_one (xme_chain o_le o_le qK xv xv))))))
noncomputable abbrev s__law_are_eyes:Stmt:=top 28
noncomputable def b__law_are_eyes:FS:=(mSeq (mAsg (mLst (mCons (mC (D.str "came")) (mCons (mC (D.str "chalk")) (mCons (mC (D.str "doors")) (mCons (mC (D.str "others")) mNil))))) (gN 1))
  (mSeq (mIfS (mOr (mNot (mTr (mIsT .tuple (mV 0)))) (mNot (mTr (mN (b1 gAll) (mCons (fComp 1 [1] (iSeq (mV 0)) (gN 0) mTrue (fEmit (mAndV (mIsT .str (mV 0)) (m2 (b2 gInY) (mV 0) (mV 1))))) mNil))))) (mRet (mC (D.bl false))) mNx)
  (mRet (m2 (b2 gEq) (fComp 1 [1] (iSeq (mV 0)) (gN 0) mTrue (fEmit (mMt (b2 gIdx) (mV 1) (mCons (mV 0) mNil)))) (mN (b1 gSortSet) (mCons (fComp 1 [1] (iSeq (mV 0)) (gN 0) mTrue (fEmit (mMt (b2 gIdx) (mV 1) (mCons (mV 0) mNil)))) mNil))))))
noncomputable def m__law_are_eyes:FN:=fnB 2 b__law_are_eyes
theorem ok__law_are_eyes {f:Addr}(F:FnAt K "_law_are_eyes" s__law_are_eyes f):
  Own P w K mg base 1 "_law_are_eyes" 1 m__law_are_eyes:=xq ["_law_thing","_law_words"] X G F fun hr=>
 (qF (sq (xme_lst (qA xme_str (a3 xme_str xme_str xme_str)))) (qF (qV (xmt_w (xmw_or (xmt_not (xmt_tru (ii xv))) (xmw_or1 (xmt_not (xmt_tru (cn (c_all rfl) (a1 (fk ["_law_eye"] (qd xv) ⟨gq,xmif_nil,(xme_and (ii xv) (xme_one (ce (oq o_inY) xv xv (by with_unfolding_all rfl))))⟩)))))))) (qG (qU xme_bl)) qQ) (qG (qU (ce (oq o_eq) (fk ["_law_eye"] (qd xv) ⟨gq,xmif_nil,(qe PySem.F.slot_list_index PySem.F.type_list_index (t_idx hr.units) xv (a1 xv))⟩) (xme_sortS rfl rfl (bz B) rfl (bz B) (fk ["_law_eye"] (qd xv) ⟨gq,xmif_nil,(qe PySem.F.slot_list_index PySem.F.type_list_index (t_idx hr.units) xv (a1 xv))⟩)))))))
noncomputable abbrev s_is_below:Stmt:=top 2
noncomputable def b_is_below:FS:=(mRet (mAndV (mN (mCall 1 m_is_whole) (mCons (mV 0) mNil)) (mCh (b2 (gCmp fun i j=>decide (i<=j))) (b2 gLt) (mC (D.int 0)) (mV 0) (mV 1))))
noncomputable def m_is_below:FN:=fnB 2 b_is_below
theorem ok_is_below {f:Addr}(F:FnAt K "is_below" s_is_below f)(o0:Own P w K mg base 1 "is_whole" 1 m_is_whole):
  Own P w K mg base 2 "is_below" 2 m_is_below:=xq ["thing","bound"] X G F fun hr=>
 (qG (qU (xme_and (wn o0 (a1 xv)) (xme_one (xme_chain o_le (oq o_ltN) qK xv xv)))))
noncomputable abbrev s_are_eyes:Stmt:=top 12
noncomputable def b_are_eyes:FS:=(mRet (mAndV (mIsT .tuple (mV 0)) (mAndV (mN (b1 gAll) (mCons (fComp 1 [] (iSeq (mV 0)) (gN 0) mTrue (fEmit (mN (mCall 1 m_is_eye) (mCons (mV 0) mNil)))) mNil)) (mN (mCall 1 m_is_rising) (mCons (mV 0) mNil)))))
noncomputable def m_are_eyes:FN:=fnB 1 b_are_eyes
theorem ok_are_eyes {f:Addr}(F:FnAt K "are_eyes" s_are_eyes f)(o1:Own P w K mg base 1 "is_eye" 1 m_is_eye)(o2:Own P w K mg base 1 "is_rising" 1 m_is_rising):
  Own P w K mg base 2 "are_eyes" 1 m_are_eyes:=xq ["thing"] X G F fun hr=>
 (qG (qU (xme_and (ii xv) (xme_and (cn (c_all rfl) (a1 (fk ["eye"] (qd xv) ⟨gq,xmif_nil,(wn o1 (a1 xv))⟩))) (xme_one (wn o2 (a1 xv)))))))
noncomputable abbrev s__law_of:Stmt:=top 23
noncomputable def b__law_of:FS:=(mRet (m2 (b2 gIxY) (mV 1) (mN (mCall 2 m__law_take) (mCons (mV 0) (mCons (mN (b1 gLen) (mCons (mV 1) mNil)) mNil)))))
noncomputable def m__law_of:FN:=fnB 2 b__law_of
theorem ok__law_of {f:Addr}(F:FnAt K "_law_of" s__law_of f)(o3:Own P w K mg base 1 "_law_take" 2 m__law_take):
  Own P w K mg base 2 "_law_of" 2 m__law_of:=xq ["_law_hand_here","_law_some"] X G F fun hr=>
 (qG (qU (jq xv (wn o3 (a2 xv (cn c_len (a1 xv)))))))
noncomputable abbrev s__law_some_eyes:Stmt:=top 24
noncomputable def b__law_some_eyes:FS:=(mRet (mN (b1 gTup) (mCons (fComp 1 [0] (iSeq (mTup (mCons (mC (D.str "came")) (mCons (mC (D.str "chalk")) (mCons (mC (D.str "doors")) (mCons (mC (D.str "others")) mNil)))))) (gN 0) (mB (m2 (b2 gEq) (mN (mCall 2 m__law_take) (mCons (mV 1) (mCons (mC (D.int 2)) mNil))) (mC (D.int 0)))) (fEmit (mV 0))) mNil)))
noncomputable def m__law_some_eyes:FN:=fnB 1 b__law_some_eyes
theorem ok__law_some_eyes {f:Addr}(F:FnAt K "_law_some_eyes" s__law_some_eyes f)(o3:Own P w K mg base 1 "_law_take" 2 m__law_take):
  Own P w K mg base 2 "_law_some_eyes" 1 m__law_some_eyes:=xq ["_law_hand_here"] X G F fun hr=>
 (qG (qU (cz c_tuple (a1 (fk ["_law_eye"] (qd (xme_tup (qA xme_str (a3 xme_str xme_str xme_str)))) ⟨gq,(xmif_one (ct (oq o_eq) (wn o3 (a2 xv qK)) qK)),xv⟩)))))
noncomputable abbrev s__law_some_sight:Stmt:=top 25
noncomputable def p__law_some_sight_1:FS:=(mDrop (mMt (b2 gApp) (mV 2) (mCons (mIf (mB (m2 (b2 gInY) (mV 3) (mV 1))) (mN (mCall 2 m__law_take) (mCons (mV 0) (mCons (m2 (b2 gAdd) (mV 4) (mC (D.int 1))) mNil))) (mC D.non)) mNil)))
noncomputable def b__law_some_sight:FS:=(mSeq (mAsg (mLst mNil) (gN 2))
  (mSeq (mFor (iSeq (mTup (mCons (mTup (mCons (mC (D.str "came")) (mCons (mC (D.int 4)) mNil))) (mCons (mTup (mCons (mC (D.str "chalk")) (mCons (mC (D.int 1)) mNil))) (mCons (mTup (mCons (mC (D.str "doors")) (mCons (mC (D.int 4)) mNil))) (mCons (mTup (mCons (mC (D.str "others")) (mCons (mC (D.int 1)) mNil))) mNil)))))) (gT 2 (gCs (gN 3) (gCs (gN 4) gNl))) p__law_some_sight_1)
  (mRet (mN (b1 gTup) (mCons (mV 2) mNil)))))
noncomputable def m__law_some_sight:FN:=fnB 5 b__law_some_sight
theorem ok__law_some_sight {f:Addr}(F:FnAt K "_law_some_sight" s__law_some_sight f)(o3:Own P w K mg base 1 "_law_take" 2 m__law_take):
  Own P w K mg base 2 "_law_some_sight" 2 m__law_some_sight:=xq ["_law_hand_here","_law_eyes","_law_parts","_law_eye","_law_most"] X G F fun hr=>
 (qF (sq (xme_lst qN)) (qF (fo (qd (xme_tup (qA (xme_tup (a2 xme_str qK)) (a3 (xme_tup (a2 xme_str qK)) (xme_tup (a2 xme_str qK)) (xme_tup (a2 xme_str qK)))))) (tg2 gq gq) (qG (lq ap xv (a1 (xme_if (ct (oq o_inY) xv xv (by with_unfolding_all rfl)) (wn o3 (a2 xv (qI o_add xv qK))) xme_non))))) (qG (qU (cz c_tuple (a1 xv))))))
noncomputable abbrev s__law_is_sight:Stmt:=top 29
noncomputable def p__law_is_sight_1:FS:=(mSeq (mIfS (mAnd (mB (m2 (b2 gInY) (m2 (b2 gIxY) (mV 2) (mV 3)) (mV 0))) (mNot (mTr (mN (mCall 2 m__law_number) (mCons (m2 (b2 gIxY) (mV 1) (mV 3)) (mCons (m2 (b2 gIxY) (mLst (mCons (mC (D.int 4)) (mCons (mC (D.int 1)) (mCons (mC (D.int 4)) (mCons (mC (D.int 1)) mNil))))) (mV 3)) mNil)))))) (mRet (mC (D.bl false))) mNx)
  (mIfS (mAnd (mB (m2 (b2 gNotInY) (m2 (b2 gIxY) (mV 2) (mV 3)) (mV 0))) (mB (m2 (b2 gIsNotX) (m2 (b2 gIxY) (mV 1) (mV 3)) (mC D.non)))) (mRet (mC (D.bl false))) mNx))
noncomputable def b__law_is_sight:FS:=(mSeq (mIfS (mOr (mNot (mTr (mIsT .tuple (mV 1)))) (mB (m2 (b2 gNe) (mN (b1 gLen) (mCons (mV 1) mNil)) (mC (D.int 4))))) (mRet (mC (D.bl false))) mNx)
  (mSeq (mAsg (mLst (mCons (mC (D.str "came")) (mCons (mC (D.str "chalk")) (mCons (mC (D.str "doors")) (mCons (mC (D.str "others")) mNil))))) (gN 2))
  (mSeq (mFor (iR1 (mCons (mC (D.int 4)) mNil)) (gN 3) p__law_is_sight_1)
  (mRet (mC (D.bl true))))))
noncomputable def m__law_is_sight:FN:=fnB 4 b__law_is_sight
theorem ok__law_is_sight {f:Addr}(F:FnAt K "_law_is_sight" s__law_is_sight f)(o4:Own P w K mg base 1 "_law_number" 2 m__law_number):
  Own P w K mg base 2 "_law_is_sight" 2 m__law_is_sight:=xq ["_law_eyes","_law_thing","_law_words","_law_k"] X G F fun hr=>
 (qF (qV (xmt_w (xmw_or (xmt_not (xmt_tru (ii xv))) (xmw_or1 (ct (oq o_ne) (cn c_len (a1 xv)) qK)))) (qG (qU xme_bl)) qQ) (qF (sq (xme_lst (qA xme_str (a3 xme_str xme_str xme_str)))) (qF (fo (ir (a1 qK)) gq (qF (qV (xmt_w (xmw_and (ct (oq o_inY) (jq xv xv) xv (by with_unfolding_all rfl)) (xmw_and1 (xmt_not (xmt_tru (wn o4 (a2 (jq xv xv) (jq (xme_lst (qA qK (a3 qK qK qK))) xv)))))))) (qG (qU xme_bl)) qQ) (qG (qV (xmt_w (xmw_and (ct (oq o_notInY) (jq xv xv) xv (by with_unfolding_all rfl)) (xmw_and1 (ct o_isNotX (jq xv xv) xme_non)))) (qG (qU xme_bl)) qQ)))) (qG (qU xme_bl)))))
noncomputable abbrev s__law_is_deed:Stmt:=top 30
noncomputable def b__law_is_deed:FS:=(mSeq (mIfS (mOr (mNot (mTr (mIsT .tuple (mV 0)))) (mOr (mB (m2 (b2 gNe) (mN (b1 gLen) (mCons (mV 0) mNil)) (mC (D.int 3)))) (mNot (mTr (mN (mCall 2 m__law_number) (mCons (m2 (b2 gIxY) (mV 0) (mC (D.int 0))) (mCons (mC (D.int 3999)) mNil))))))) (mRet (mC (D.bl false))) mNx)
  (mSeq (mIfS (mOr (mNot (mTr (mIsT .str (m2 (b2 gIxY) (mV 0) (mC (D.int 1)))))) (mB (m2 (b2 gNotInY) (m2 (b2 gIxY) (mV 0) (mC (D.int 1))) (mTup (mCons (mC (D.str "leave")) (mCons (mC (D.str "mark")) (mCons (mC (D.str "wipe")) mNil))))))) (mRet (mC (D.bl false))) mNx)
  (mRet (mOrT (m2 (b2 gIsX) (m2 (b2 gIxY) (mV 0) (mC (D.int 2))) (mC D.non)) (mN (mCall 2 m__law_number) (mCons (m2 (b2 gIxY) (mV 0) (mC (D.int 2))) (mCons (mC (D.int 3)) mNil)))))))
noncomputable def m__law_is_deed:FN:=fnB 1 b__law_is_deed
theorem ok__law_is_deed {f:Addr}(F:FnAt K "_law_is_deed" s__law_is_deed f)(o4:Own P w K mg base 1 "_law_number" 2 m__law_number):
  Own P w K mg base 2 "_law_is_deed" 1 m__law_is_deed:=xq ["_law_thing"] X G F fun hr=>
 (qF (qV (xmt_w (xmw_or (xmt_not (xmt_tru (ii xv))) (xmw_or (ct (oq o_ne) (cn c_len (a1 xv)) qK) (xmw_or1 (xmt_not (xmt_tru (wn o4 (a2 (jq xv qK) qK)))))))) (qG (qU xme_bl)) qQ) (qF (qV (xmt_w (xmw_or (xmt_not (xmt_tru (ii (jq xv qK)))) (xmw_or1 (ct (oq o_notInY) (jq xv qK) (xme_tup (a3 xme_str xme_str xme_str)) (by with_unfolding_all rfl))))) (qG (qU xme_bl)) qQ) (qG (qU (xme_orT (ce o_isX (jq xv qK) xme_non) (xme_one (wn o4 (a2 (jq xv qK) qK))))))))
noncomputable abbrev s_is_sight:Stmt:=top 17
noncomputable def b_is_sight:FS:=(mSeq (mIfS (mNot (mTr (mN (mCall 2 m_is_tuple_of) (mCons (mV 1) (mCons (mN (b1 gLen) (mCons (mC d_PARTS) mNil)) mNil))))) (mRet (mC (D.bl false))) mNx)
  (mRet (mN (b1 gAll) (mCons (fComp 3 [0] (iZp (mCons (mV 1) (mCons (mC d_PARTS) mNil))) (gT 2 (gCs (gN 0) (gCs (gT 2 (gCs (gN 1) (gCs (gN 2) gNl))) gNl))) mTrue (fEmit (mIf (mB (m2 (b2 gInY) (mV 1) (mV 3))) (mN (mCall 2 m_is_below) (mCons (mV 0) (mCons (mV 2) mNil))) (m2 (b2 gIsX) (mV 0) (mC D.non))))) mNil))))
noncomputable def m_is_sight:FN:=fnB 2 b_is_sight
theorem ok_is_sight {f:Addr}(F:FnAt K "is_sight" s_is_sight f)(c0:CGl K mg "PARTS" d_PARTS)(o5:Own P w K mg base 2 "is_below" 2 m_is_below)(o6:Own P w K mg base 1 "is_tuple_of" 2 m_is_tuple_of):
  Own P w K mg base 3 "is_sight" 2 m_is_sight:=xq ["eyes","thing"] X G F fun hr=>
 (qF (qV (xmt_not (xmt_tru (wn o6 (a2 xv (cn c_len (a1 (xme_glob c0 rfl))))))) (qG (qU xme_bl)) qQ) (qG (qU (cn (c_all rfl) (a1 (fk ["part","eye","many"] (xmi_zip rfl (bz B) (a2 xv (xme_glob c0 rfl))) ⟨(tg2 gq (tg2 gq gq)),xmif_nil,(xme_if (ct (oq o_inY) xv xv (by with_unfolding_all rfl)) (wn o5 (a2 xv xv)) (ce o_isX xv xme_non))⟩))))))
noncomputable abbrev s_is_deed:Stmt:=top 18
noncomputable def b_is_deed:FS:=(mSeq (mIfS (mNot (mTr (mN (mCall 2 m_is_tuple_of) (mCons (mV 0) (mCons (mC (D.int 3)) mNil))))) (mRet (mC (D.bl false))) mNx)
  (mSeq (mAsg (mV 0) (gT 3 (gCs (gN 1) (gCs (gN 2) (gCs (gN 3) gNl)))))
  (mRet (mAndV (mN (mCall 2 m_is_below) (mCons (mV 1) (mCons (mC d_MOODS) mNil))) (mAndV (mN (mCall 1 m_is_hand) (mCons (mV 2) mNil)) (mOrT (m2 (b2 gIsX) (mV 3) (mC D.non)) (mN (mCall 2 m_is_below) (mCons (mV 3) (mCons (mC d_STEPS) mNil)))))))))
noncomputable def m_is_deed:FN:=fnB 4 b_is_deed
theorem ok_is_deed {f:Addr}(F:FnAt K "is_deed" s_is_deed f)(c2:CGl K mg "MOODS" d_MOODS)(c3:CGl K mg "STEPS" d_STEPS)(o5:Own P w K mg base 2 "is_below" 2 m_is_below)(o7:Own P w K mg base 1 "is_hand" 1 m_is_hand)(o6:Own P w K mg base 1 "is_tuple_of" 2 m_is_tuple_of):
  Own P w K mg base 3 "is_deed" 1 m_is_deed:=xq ["thing","mood","hand","step"] X G F fun hr=>
 (qF (qV (xmt_not (xmt_tru (wn o6 (a2 xv qK)))) (qG (qU xme_bl)) qQ) (qF (qR xv (xmg_tup rfl (xmgs_cons gq (xmgs_cons gq (xmgs_cons gq xmgs_nil))))) (qG (qU (xme_and (wn o5 (a2 xv (xme_glob c2 rfl))) (xme_and (wn o7 (a1 xv)) (xme_one (xme_orT (ce o_isX xv xme_non) (xme_one (wn o5 (a2 xv (xme_glob c3 rfl))))))))))))
noncomputable abbrev s__law_machine:Stmt:=top 26
noncomputable def p__law_machine_1:FS:=(mSeq (mAsg (m2 (b2 gIxY) (mLst (mCons (mN (mCall 2 m__law_take) (mCons (mV 0) (mCons (mC (D.int 4)) mNil))) (mCons (mN (mCall 2 m__law_take) (mCons (mV 0) (mCons (mC (D.int 4000)) mNil))) mNil))) (mN (b1 gInt) (mCons (m2 (b2 gEq) (mN (mCall 2 m__law_take) (mCons (mV 0) (mCons (mC (D.int 4)) mNil))) (mC (D.int 0))) mNil))) (gN 4))
  (mSeq (mAsg (mN (mCall 2 m__law_some_sight) (mCons (mV 0) (mCons (mV 1) mNil))) (gN 5))
  (mSeq (mAsg (mTup (mCons (mN (mCall 2 m__law_take) (mCons (mV 0) (mCons (mC (D.int 4000)) mNil))) (mCons (mN (mCall 2 m__law_of) (mCons (mV 0) (mCons (mLst (mCons (mC (D.str "leave")) (mCons (mC (D.str "mark")) (mCons (mC (D.str "wipe")) mNil)))) mNil))) (mCons (mN (mCall 2 m__law_of) (mCons (mV 0) (mCons (mLst (mCons (mC D.non) (mCons (mC (D.int 0)) (mCons (mC (D.int 1)) (mCons (mC (D.int 2)) (mCons (mC (D.int 3)) mNil)))))) mNil))) mNil)))) (gN 6))
  (mAsg (mV 6) (gS (b3 gSetY) (mV 2) (mTup (mCons (mV 4) (mCons (mV 5) mNil))))))))
noncomputable def p__law_machine_2:FS:=(mAsg (mTup (mCons (mTup (mCons (mV 4) (mCons (mV 5) mNil))) (mCons (m2 (b2 gIxY) (mV 2) (mTup (mCons (mV 4) (mCons (mV 5) mNil)))) mNil))) (gS (b3 gSetY) (mV 7) (mTup (mCons (mV 4) (mCons (mN (b1 gTup) (mCons (fComp 1 [] (iSeq (mV 5)) (gN 0) (mB (m2 (b2 gIsNotX) (mV 0) (mC D.non))) (fEmit (mV 0))) mNil)) mNil)))))
noncomputable def b__law_machine:FS:=(mSeq (mAsg (mN (mCall 1 m__law_some_eyes) (mCons (mV 0) mNil)) (gN 1))
  (mSeq (mAsg mDnew (gN 2))
  (mSeq (mFor (iR1 (mCons (mN (mCall 2 m__law_take) (mCons (mV 0) (mCons (mC (D.int 15)) mNil))) mNil)) (gN 3) p__law_machine_1)
  (mSeq (mAsg mDnew (gN 7))
  (mSeq (mForK (mV 2) (gT 2 (gCs (gN 4) (gCs (gN 5) gNl))) p__law_machine_2)
  (mRet (mTup (mCons (mV 1) (mCons (mN (b1 gTup) (mCons (fComp 1 [7] (iSeq (mN (b1 gSortK) (mCons (mV 7) mNil))) (gN 0) mTrue (fEmit (m2 (b2 gIxY) (mV 1) (mV 0)))) mNil)) mNil)))))))))
noncomputable def m__law_machine:FN:=fnB 8 b__law_machine
theorem ok__law_machine {f:Addr}(F:FnAt K "_law_machine" s__law_machine f)(o8:Own P w K mg base 2 "_law_of" 2 m__law_of)(o9:Own P w K mg base 2 "_law_some_eyes" 1 m__law_some_eyes)(o10:Own P w K mg base 2 "_law_some_sight" 2 m__law_some_sight)(o3:Own P w K mg base 1 "_law_take" 2 m__law_take):
  Own P w K mg base 3 "_law_machine" 1 m__law_machine:=xq ["_law_hand_here","_law_eyes","_law_rows","_law_k","_law_mood","_law_sight","_law_deed","_law_by_parts"] X G F fun hr=>
 (qF (sq (wn o9 (a1 xv))) (qF (sq xme_dnew) (qF (fo (ir (a1 (wn o3 (a2 xv qK)))) gq (qF (sq (jq (xme_lst (a2 (wn o3 (a2 xv qK)) (wn o3 (a2 xv qK)))) (cz c_int (a1 (ce (oq o_eq) (wn o3 (a2 xv qK)) qK))))) (qF (sq (wn o10 (a2 xv xv))) (qF (sq (xme_tup (a3 (wn o3 (a2 xv qK)) (wn o8 (a2 xv (xme_lst (a3 xme_str xme_str xme_str)))) (wn o8 (a2 xv (xme_lst (qA xme_non (qA qK (a3 qK qK qK))))))))) (qG (qR xv (xmg_sub xv (xme_tup (a2 xv xv)) (s_setY hr.units)))))))) (qF (sq xme_dnew) (qF (xms_forK xv (tg2 gq gq) (qG (qR (xme_tup (a2 (xme_tup (a2 xv xv)) (jq xv (xme_tup (a2 xv xv))))) (xmg_sub xv (xme_tup (a2 xv (cz c_tuple (a1 (fk ["_law_part"] (qd xv) ⟨gq,(xmif_one (ct o_isNotX xv xme_non)),xv⟩))))) (s_setY hr.units))))) (qG (qU (xme_tup (a2 xv (cz c_tuple (a1 (fk ["_law_key"] (qd (cn (c_sortK rfl hr.units) (a1 xv))) ⟨gq,xmif_nil,(jq xv xv)⟩))))))))))))
noncomputable abbrev s__law_is_row:Stmt:=top 31
noncomputable def b__law_is_row:FS:=(mSeq (mIfS (mOr (mNot (mTr (mIsT .tuple (mV 1)))) (mOr (mB (m2 (b2 gNe) (mN (b1 gLen) (mCons (mV 1) mNil)) (mC (D.int 2)))) (mNot (mTr (mN (mCall 1 m__law_is_deed) (mCons (m2 (b2 gIxY) (mV 1) (mC (D.int 1))) mNil)))))) (mRet (mC (D.bl false))) mNx)
  (mSeq (mIfS (mOr (mNot (mTr (mIsT .tuple (m2 (b2 gIxY) (mV 1) (mC (D.int 0)))))) (mB (m2 (b2 gNe) (mN (b1 gLen) (mCons (m2 (b2 gIxY) (mV 1) (mC (D.int 0))) mNil)) (mC (D.int 2))))) (mRet (mC (D.bl false))) mNx)
  (mRet (mAndV (mN (mCall 2 m__law_number) (mCons (m2 (b2 gIxY) (m2 (b2 gIxY) (mV 1) (mC (D.int 0))) (mC (D.int 0))) (mCons (mC (D.int 3999)) mNil))) (mN (mCall 2 m__law_is_sight) (mCons (mV 0) (mCons (m2 (b2 gIxY) (m2 (b2 gIxY) (mV 1) (mC (D.int 0))) (mC (D.int 1))) mNil)))))))
noncomputable def m__law_is_row:FN:=fnB 2 b__law_is_row
theorem ok__law_is_row {f:Addr}(F:FnAt K "_law_is_row" s__law_is_row f)(o11:Own P w K mg base 2 "_law_is_deed" 1 m__law_is_deed)(o12:Own P w K mg base 2 "_law_is_sight" 2 m__law_is_sight)(o4:Own P w K mg base 1 "_law_number" 2 m__law_number):
  Own P w K mg base 3 "_law_is_row" 2 m__law_is_row:=xq ["_law_eyes","_law_thing"] X G F fun hr=>
 (qF (qV (xmt_w (xmw_or (xmt_not (xmt_tru (ii xv))) (xmw_or (ct (oq o_ne) (cn c_len (a1 xv)) qK) (xmw_or1 (xmt_not (xmt_tru (wn o11 (a1 (jq xv qK))))))))) (qG (qU xme_bl)) qQ) (qF (qV (xmt_w (xmw_or (xmt_not (xmt_tru (ii (jq xv qK)))) (xmw_or1 (ct (oq o_ne) (cn c_len (a1 (jq xv qK))) qK)))) (qG (qU xme_bl)) qQ) (qG (qU (xme_and (wn o4 (a2 (jq (jq xv qK) qK) qK)) (xme_one (wn o12 (a2 xv (jq (jq xv qK) qK)))))))))
noncomputable abbrev s__law_odd:Stmt:=top 33
noncomputable def b__law_odd:FS:=(mSeq (mAsg (mLst (mCons (mC D.non) (mCons (mC (D.bl true)) (mCons (mC (D.bl false)) (mCons (m1 (b1 gNeg) (mC (D.int 1))) (mCons (mC (D.int 0)) (mCons (mC (D.int 1)) (mCons (mC (D.int 2)) (mCons (mC (D.int 3)) (mCons (mC (D.int 4)) (mCons (mC (D.int 5)) (mCons (mC (D.int 3999)) (mCons (mC (D.int 4000)) (mCons (mC (D.str "mark")) (mCons (mC (D.str "leave")) (mCons (mC (D.str "wiped")) (mCons (mC (D.str "came")) (mCons (mC (D.str "")) (mCons (mTup mNil) (mCons (mLst mNil) (mCons (mTup (mCons (mC (D.int 0)) mNil)) mNil))))))))))))))))))))) (gN 2))
  (mSeq (mIfS (mAnd (mTr (mIsT .tuple (mV 1))) (mB (m2 (b2 gNe) (mV 1) (mTup mNil)))) (mSeq (mAsg (mN (mCall 2 m__law_take) (mCons (mV 0) (mCons (mN (b1 gLen) (mCons (mV 1) mNil)) mNil))) (gN 3))
  (mAsg (mLst (mCons (mN (b1 gLst) (mCons (mV 1) mNil)) (mCons (m2 (b2 gAdd) (mSlX (mV 1) oNone (oSome (mV 3))) (mSlX (mV 1) (oSome (m2 (b2 gAdd) (mV 3) (mC (D.int 1)))) oNone)) (mCons (m2 (b2 gAdd) (mSlX (mV 1) oNone (oSome (m2 (b2 gAdd) (mV 3) (mC (D.int 1))))) (mSlX (mV 1) (oSome (mV 3)) oNone)) (mCons (mSlRY (mV 1) (m1 (b1 gNeg) (mC (D.int 1)))) (mCons (m2 (b2 gAdd) (mV 1) (mTup (mCons (mC D.non) mNil))) mNil)))))) (gN 2))) mNx)
  (mRet (mN (mCall 2 m__law_of) (mCons (mV 0) (mCons (mV 2) mNil))))))
noncomputable def m__law_odd:FN:=fnB 4 b__law_odd
theorem ok__law_odd {f:Addr}(F:FnAt K "_law_odd" s__law_odd f)(o8:Own P w K mg base 2 "_law_of" 2 m__law_of)(o3:Own P w K mg base 1 "_law_take" 2 m__law_take):
  Own P w K mg base 3 "_law_odd" 2 m__law_odd:=xq ["_law_hand_here","_law_thing","_law_some","_law_at"] X G F fun hr=>
 (qF (sq (xme_lst (qA xme_non (qA xme_bl (qA xme_bl (qA (xme_un o_neg qK) (qA qK (qA qK (qA qK (qA qK (qA qK (qA qK (qA qK (qA qK (qA xme_str (qA xme_str (qA xme_str (qA xme_str (qA xme_str (a3 (xme_tup qN) (xme_lst qN) (xme_tup (a1 qK)))))))))))))))))))))) (qF (qV (xmt_w (xmw_and (xmt_tru (ii xv)) (xmw_and1 (ct (oq o_ne) xv (xme_tup qN))))) (qF (sq (wn o3 (a2 xv (cn c_len (a1 xv))))) (qG (sq (xme_lst (qA (cz c_list (a1 xv)) (qA (qI o_add (xme_sliceX xv xmo_none (xmo_some xv)) (xme_sliceX xv (xmo_some (qI o_add xv qK)) xmo_none)) (a3 (qI o_add (xme_sliceX xv xmo_none (xmo_some (qI o_add xv qK))) (xme_sliceX xv (xmo_some xv) xmo_none)) (xme_sliceRY xv (xme_un o_neg qK)) (qI o_add xv (xme_tup (a1 xme_non)))))))))) qQ) (qG (qU (wn o8 (a2 xv xv))))))
noncomputable abbrev s_is_key:Stmt:=top 16
noncomputable def b_is_key:FS:=(mRet (mAndV (mN (mCall 2 m_is_tuple_of) (mCons (mV 1) (mCons (mC (D.int 2)) mNil))) (mAndV (mN (mCall 2 m_is_below) (mCons (m2 (b2 gIxY) (mV 1) (mC (D.int 0))) (mCons (mC d_MOODS) mNil))) (mN (mCall 2 m_is_sight) (mCons (mV 0) (mCons (m2 (b2 gIxY) (mV 1) (mC (D.int 1))) mNil))))))
noncomputable def m_is_key:FN:=fnB 2 b_is_key
theorem ok_is_key {f:Addr}(F:FnAt K "is_key" s_is_key f)(c2:CGl K mg "MOODS" d_MOODS)(o5:Own P w K mg base 2 "is_below" 2 m_is_below)(o13:Own P w K mg base 3 "is_sight" 2 m_is_sight)(o6:Own P w K mg base 1 "is_tuple_of" 2 m_is_tuple_of):
  Own P w K mg base 4 "is_key" 2 m_is_key:=xq ["eyes","thing"] X G F fun hr=>
 (qG (qU (xme_and (wn o6 (a2 xv qK)) (xme_and (wn o5 (a2 (jq xv qK) (xme_glob c2 rfl))) (xme_one (wn o13 (a2 xv (jq xv qK))))))))
noncomputable abbrev s__law_is_machine:Stmt:=top 32
noncomputable def p__law_is_machine_1:FS:=(mDrop (mMt (b2 gApp) (mV 1) (mCons (m2 (b2 gAdd) (mLst (mCons (m2 (b2 gIxY) (m2 (b2 gIxY) (mV 2) (mC (D.int 0))) (mC (D.int 0))) mNil)) (fComp 1 [] (iSeq (m2 (b2 gIxY) (m2 (b2 gIxY) (mV 2) (mC (D.int 0))) (mC (D.int 1)))) (gN 0) (mB (m2 (b2 gIsNotX) (mV 0) (mC D.non))) (fEmit (mV 0)))) mNil)))
noncomputable def b__law_is_machine:FS:=(mSeq (mIfS (mOr (mNot (mTr (mIsT .tuple (mV 0)))) (mOr (mB (m2 (b2 gNe) (mN (b1 gLen) (mCons (mV 0) mNil)) (mC (D.int 2)))) (mNot (mTr (mN (mCall 1 m__law_are_eyes) (mCons (m2 (b2 gIxY) (mV 0) (mC (D.int 0))) mNil)))))) (mRet (mC (D.bl false))) mNx)
  (mSeq (mIfS (mOr (mNot (mTr (mIsT .tuple (m2 (b2 gIxY) (mV 0) (mC (D.int 1)))))) (mNot (mTr (mN (b1 gAll) (mCons (fComp 1 [0] (iSeq (m2 (b2 gIxY) (mV 0) (mC (D.int 1)))) (gN 0) mTrue (fEmit (mN (mCall 2 m__law_is_row) (mCons (m2 (b2 gIxY) (mV 1) (mC (D.int 0))) (mCons (mV 0) mNil))))) mNil))))) (mRet (mC (D.bl false))) mNx)
  (mSeq (mAsg (mLst mNil) (gN 1))
  (mSeq (mFor (iSeq (m2 (b2 gIxY) (mV 0) (mC (D.int 1)))) (gN 2) p__law_is_machine_1)
  (mRet (mN (b1 gAll) (mCons (fComp 2 [] (iZp (mCons (mV 1) (mCons (mSlX (mV 1) (oSome (mC (D.int 1))) oNone) mNil))) (gT 2 (gCs (gN 0) (gCs (gN 1) gNl))) mTrue (fEmit (m2 (b2 gLt) (mV 0) (mV 1)))) mNil)))))))
noncomputable def m__law_is_machine:FN:=fnB 3 b__law_is_machine
theorem ok__law_is_machine {f:Addr}(F:FnAt K "_law_is_machine" s__law_is_machine f)(o14:Own P w K mg base 1 "_law_are_eyes" 1 m__law_are_eyes)(o15:Own P w K mg base 3 "_law_is_row" 2 m__law_is_row):
  Own P w K mg base 4 "_law_is_machine" 1 m__law_is_machine:=xq ["_law_thing","_law_asked","_law_row"] X G F fun hr=>
 (qF (qV (xmt_w (xmw_or (xmt_not (xmt_tru (ii xv))) (xmw_or (ct (oq o_ne) (cn c_len (a1 xv)) qK) (xmw_or1 (xmt_not (xmt_tru (wn o14 (a1 (jq xv qK))))))))) (qG (qU xme_bl)) qQ) (qF (qV (xmt_w (xmw_or (xmt_not (xmt_tru (ii (jq xv qK)))) (xmw_or1 (xmt_not (xmt_tru (cn (c_all rfl) (a1 (fk ["_law_row"] (qd (jq xv qK)) ⟨gq,xmif_nil,(wn o15 (a2 (jq xv qK) xv))⟩)))))))) (qG (qU xme_bl)) qQ) (qF (sq (xme_lst qN)) (qF (fo (qd (jq xv qK)) gq (qG (lq ap xv (a1 (qI o_add (xme_lst (a1 (jq (jq xv qK) qK))) (fk ["_law_part"] (qd (jq (jq xv qK) qK)) ⟨gq,(xmif_one (ct o_isNotX xv xme_non)),xv⟩)))))) (qG (qU (cn (c_all rfl) (a1 (fk ["_law_one","_law_other"] (xmi_zip rfl (bz B) (a2 xv (xme_sliceX xv (xmo_some qK) xmo_none))) ⟨(tg2 gq gq),xmif_nil,(ce (oq o_ltN) xv xv)⟩)))))))))
noncomputable abbrev s_is_row:Stmt:=top 15
noncomputable def b_is_row:FS:=(mRet (mAndV (mN (mCall 2 m_is_tuple_of) (mCons (mV 1) (mCons (mC (D.int 2)) mNil))) (mAndV (mN (mCall 2 m_is_key) (mCons (mV 0) (mCons (m2 (b2 gIxY) (mV 1) (mC (D.int 0))) mNil))) (mN (mCall 1 m_is_deed) (mCons (m2 (b2 gIxY) (mV 1) (mC (D.int 1))) mNil)))))
noncomputable def m_is_row:FN:=fnB 2 b_is_row
theorem ok_is_row {f:Addr}(F:FnAt K "is_row" s_is_row f)(o16:Own P w K mg base 3 "is_deed" 1 m_is_deed)(o17:Own P w K mg base 4 "is_key" 2 m_is_key)(o6:Own P w K mg base 1 "is_tuple_of" 2 m_is_tuple_of):
  Own P w K mg base 5 "is_row" 2 m_is_row:=xq ["eyes","thing"] X G F fun hr=>
 (qG (qU (xme_and (wn o6 (a2 xv qK)) (xme_and (wn o17 (a2 xv (jq xv qK))) (xme_one (wn o16 (a1 (jq xv qK))))))))
noncomputable abbrev s_are_rows:Stmt:=top 14
noncomputable def b_are_rows:FS:=(mSeq (mIfS (mOr (mNot (mTr (mIsT .tuple (mV 1)))) (mB (m2 (b2 (gCmp fun i j=>decide (j<i))) (mN (b1 gLen) (mCons (mV 1) mNil)) (mC d_MOST_ROWS)))) (mRet (mC (D.bl false))) mNx)
  (mSeq (mIfS (mNot (mTr (mN (b1 gAll) (mCons (fComp 1 [0] (iSeq (mV 1)) (gN 0) mTrue (fEmit (mN (mCall 2 m_is_row) (mCons (mV 1) (mCons (mV 0) mNil))))) mNil)))) (mRet (mC (D.bl false))) mNx)
  (mRet (mN (mCall 1 m_is_rising) (mCons (fComp 2 [] (iSeq (mV 1)) (gT 2 (gCs (gN 0) (gCs (gN 1) gNl))) mTrue (fEmit (mV 0))) mNil)))))
noncomputable def m_are_rows:FN:=fnB 2 b_are_rows
theorem ok_are_rows {f:Addr}(F:FnAt K "are_rows" s_are_rows f)(c4:CGl K mg "MOST_ROWS" d_MOST_ROWS)(o2:Own P w K mg base 1 "is_rising" 1 m_is_rising)(o18:Own P w K mg base 5 "is_row" 2 m_is_row):
  Own P w K mg base 6 "are_rows" 2 m_are_rows:=xq ["eyes","thing"] X G F fun hr=>
 (qF (qV (xmt_w (xmw_or (xmt_not (xmt_tru (ii xv))) (xmw_or1 (ct o_gt (cn c_len (a1 xv)) (xme_glob c4 rfl))))) (qG (qU xme_bl)) qQ) (qF (qV (xmt_not (xmt_tru (cn (c_all rfl) (a1 (fk ["row"] (qd xv) ⟨gq,xmif_nil,(wn o18 (a2 xv xv))⟩))))) (qG (qU xme_bl)) qQ) (qG (qU (wn o2 (a1 (fk ["key","deed"] (qd xv) ⟨(tg2 gq gq),xmif_nil,xv⟩)))))))
noncomputable abbrev s_is_machine:Stmt:=top 11
noncomputable def b_is_machine:FS:=(mRet (mAndV (mN (mCall 2 m_is_tuple_of) (mCons (mV 0) (mCons (mC (D.int 2)) mNil))) (mAndV (mN (mCall 1 m_are_eyes) (mCons (m2 (b2 gIxY) (mV 0) (mC (D.int 0))) mNil)) (mN (mCall 2 m_are_rows) (mCons (m2 (b2 gIxY) (mV 0) (mC (D.int 0))) (mCons (m2 (b2 gIxY) (mV 0) (mC (D.int 1))) mNil))))))
noncomputable def m_is_machine:FN:=fnB 1 b_is_machine
theorem ok_is_machine {f:Addr}(F:FnAt K "is_machine" s_is_machine f)(o19:Own P w K mg base 2 "are_eyes" 1 m_are_eyes)(o20:Own P w K mg base 6 "are_rows" 2 m_are_rows)(o6:Own P w K mg base 1 "is_tuple_of" 2 m_is_tuple_of):
  Own P w K mg base 7 "is_machine" 1 m_is_machine:=xq ["thing"] X G F fun hr=>
 (qG (qU (xme_and (wn o6 (a2 xv qK)) (xme_and (wn o19 (a1 (jq xv qK))) (xme_one (wn o20 (a2 (jq xv qK) (jq xv qK))))))))
noncomputable abbrev s__law_spoilt:Stmt:=top 34
noncomputable def b__law_spoilt (self:FN):FS:=(mSeq (mIfS (mOr (mNot (mTr (mIsT .tuple (mV 1)))) (mOr (mB (m2 (b2 gEq) (mV 1) (mTup mNil))) (mB (m2 (b2 gEq) (mN (mCall 2 m__law_take) (mCons (mV 0) (mCons (mC (D.int 6)) mNil))) (mC (D.int 0)))))) (mRet (mN (mCall 2 m__law_odd) (mCons (mV 0) (mCons (mV 1) mNil)))) mNx)
  (mSeq (mAsg (mN (mCall 2 m__law_take) (mCons (mV 0) (mCons (mN (b1 gLen) (mCons (mV 1) mNil)) mNil))) (gN 2))
  (mRet (m2 (b2 gAdd) (m2 (b2 gAdd) (mSlX (mV 1) oNone (oSome (mV 2))) (mTup (mCons (mN (mCall 2 self) (mCons (mV 0) (mCons (m2 (b2 gIxY) (mV 1) (mV 2)) mNil))) mNil))) (mSlX (mV 1) (oSome (m2 (b2 gAdd) (mV 2) (mC (D.int 1)))) oNone)))))
noncomputable def mr__law_spoilt:Nat->FN
 | 0=>fun _ _=>none
 | n+1=>fnB 3 (b__law_spoilt (mr__law_spoilt n))
noncomputable def m__law_spoilt:FN:=mr__law_spoilt 8
theorem st__law_spoilt {f:Addr}{fd:FuncData}(F:Fun K "_law_spoilt" "_law_spoilt" s__law_spoilt f fd)(hb:Binds K fd ["_law_hand_here","_law_thing"] [])(hm:mg "_law_spoilt"=some (.ref f))(o21:Own P w K mg base 3 "_law_odd" 2 m__law_odd)(o3:Own P w K mg base 1 "_law_take" 2 m__law_take){k:Nat}{self:FN}(hk:3<=k)(o_self:Own P w K mg base k "_law_spoilt" 2 self):
  Own P w K mg base (k+1) "_law_spoilt" 2 (fnB 3 (b__law_spoilt self)):=xown_mk (n:=2) (N:=["_law_hand_here","_law_thing","_law_at"]) (ps:=["_law_hand_here","_law_thing"]) (b:=b__law_spoilt self) F hb hm sk rfl fun cdv A outer s H E hr=>
 (qF (qV (xmt_w (xmw_or (xmt_not (xmt_tru (ii xv))) (xmw_or (ct (oq o_eq) xv (xme_tup qN)) (xmw_or1 (ct (oq o_eq) (wn o3 (a2 xv qK)) qK))))) (qG (qU (wn o21 (a2 xv xv)))) qQ) (qF (sq (wn o3 (a2 xv (cn c_len (a1 xv))))) (qG (qU (qI o_add (qI o_add (xme_sliceX xv xmo_none (xmo_some xv)) (xme_tup (a1 (qH o_self hr (nR1 _) rfl (a2 xv (jq xv xv)))))) (xme_sliceX xv (xmo_some (qI o_add xv qK)) xmo_none))))))
theorem ok__law_spoilt {f:Addr}(F:FnAt K "_law_spoilt" s__law_spoilt f)(o21:Own P w K mg base 3 "_law_odd" 2 m__law_odd)(o3:Own P w K mg base 1 "_law_take" 2 m__law_take):Own P w K mg base 12 "_law_spoilt" 2 m__law_spoilt:=by
 have hm:=wM1 X G F.ns;obtain ⟨fd,F⟩:=F.fn;have hb:=F.binds (ps:=["_law_hand_here","_law_thing"]) (fun _ _ _ _ _ _ us hl=>ln2 hl fun _ _=>rfl);have go:∀ j:Nat,Own P w K mg base (4+j) "_law_spoilt" 2 (mr__law_spoilt j):=fun j=>by
  induction j with
  | zero=>exact own_none F hb hm
  | succ j ih=>exact st__law_spoilt X G B F hb hm o21 o3 (show 3<=4+j by omega) ih
 exact go 8
noncomputable abbrev s_law:Stmt:=top 35
noncomputable def p_law_1:FS:=(mSeq (mAsg (mN (mCall 2 m__law_spoilt) (mCons (mV 2) (mCons (mV 3) mNil))) (gN 5))
  (mIfS (mTr (mN (mCall 1 m__law_is_machine) (mCons (mV 5) mNil))) (mIfS (mB (m2 (b2 gIsNotX) (mN (mCall 1 m_is_machine) (mCons (mV 5) mNil)) (mC (D.bl true)))) (mRet (mC (D.bl false))) mNx) (mIfS (mB (m2 (b2 gIsNotX) (mN (mCall 1 m_is_machine) (mCons (mV 5) mNil)) (mC (D.bl false)))) (mRet (mC (D.bl false))) mNx)))
noncomputable def p_law_2:FS:=(mSeq (mAsg (mN (mCall 2 m__law_hand) (mCons (mV 0) (mCons (mV 1) mNil))) (gN 2))
  (mSeq (mAsg (mN (mCall 1 m__law_machine) (mCons (mV 2) mNil)) (gN 3))
  (mSeq (mIfS (mB (m2 (b2 gIsNotX) (mN (mCall 1 m_is_machine) (mCons (mV 3) mNil)) (mC (D.bl true)))) (mRet (mC (D.bl false))) mNx)
  (mSeq (mFor (iR1 (mCons (mC (D.int 4)) mNil)) (gN 4) p_law_1)
  (mIfS (mB (m2 (b2 gIsNotX) (mN (mCall 1 m_is_machine) (mCons (mV 3) mNil)) (mC (D.bl true)))) (mRet (mC (D.bl false))) mNx)))))
noncomputable def p_law_3:FS:=(mPure [true,true,false,false,false,false] [true,false,false,false,false,false] p_law_2)
noncomputable def b_law:FS:=(mSeq (mFor (iR1 (mCons (mN (b2 gMax) (mCons (mC (D.int 1)) (mCons (mN (b2 gMin) (mCons (mC (D.int 8)) (mCons (mN (b1 gLen) (mCons (mV 0) mNil)) mNil))) mNil))) mNil)) (gN 1) p_law_3)
  (mRet (mC (D.bl true))))
noncomputable def m_law:FN:=fnB 6 b_law
theorem ok_law {f:Addr}{fd:FuncData}(F:Fun K "law" "law" s_law f fd)(o22:Own P w K mg base 1 "_law_hand" 2 m__law_hand)(o23:Own P w K mg base 4 "_law_is_machine" 1 m__law_is_machine)(o24:Own P w K mg base 3 "_law_machine" 1 m__law_machine)(o25:Own P w K mg base 12 "_law_spoilt" 2 m__law_spoilt)(o26:Own P w K mg base 7 "is_machine" 1 m_is_machine):
  FnOk P w K mg base CX0 13 f fd ["_law_script"] (spM K 1 m_law):=xfn_mk (k:=12) (n:=1) (N:=["_law_script","_law_k","_law_hand_here","_law_machine_here","_law_turn","_law_other"]) (ps:=["_law_script"]) (b:=b_law) F sk rfl fun cdv A outer s H E hr=>
 (qF (fo (ir (a1 (cn (c_max rfl) (a2 qK (cn (c_min rfl) (a2 qK (cn c_len (a1 xv)))))))) gq (xmss_pure [true,true,false,false,false,false] [true,false,false,false,false,false] (qF (sq (wn o22 (a2 xv xv))) (qF (sq (wn o24 (a1 xv))) (qF (qV (ct o_isNotX (wn o26 (a1 xv)) xme_bl) (qG (qU xme_bl)) qQ) (qF (fo (ir (a1 qK)) gq (qF (sq (wn o25 (a2 xv xv))) (qG (qV (xmt_tru (wn o23 (a1 xv))) (qG (qV (ct o_isNotX (wn o26 (a1 xv)) xme_bl) (qG (qU xme_bl)) qQ)) (qG (qV (ct o_isNotX (wn o26 (a1 xv)) xme_bl) (qG (qU xme_bl)) qQ)))))) (qG (qV (ct o_isNotX (wn o26 (a1 xv)) xme_bl) (qG (qU xme_bl)) qQ)))))))) (qG (qU xme_bl)))
end
theorem all_mk {l:PySem.W.OpenLaw}{w:World}{K:Fg1}{h:Heap}{mg:Str->Option Value}{fa f1 f2 f3 f4 f5 f6 f7 f8 f9 f10 f11 f12 f13 f14 f15 f16 f17 f18 f19 f20 f21 f22 f23 f24 f25 f26 f27 f28:Addr}(X:K.In h)(G:h.Ns mainGlobals mg)(hfa:mg "law"=some (.ref fa))
  {g1 g7 g8 g11 g14 g17:Addr}
  {t2 t3 t4 t5 t6 t9 t10 t12 t13 t15 t16 t18 t19 t20:Tok}
  {od1 od8 od11 od14 od17 od7:Option Addr} {n1 n8 n11 n14 n17 n7:Nat} {sl1 sl8 sl11 sl14 sl17 sl7:Array (Option Value)}
  (a1:FnAt K "is_whole" s_is_whole f1)
  (a2:FnAt K "is_tuple_of" s_is_tuple_of f2)
  (a3:FnAt K "is_rising" s_is_rising f3)
  (a4:FnAt K "is_eye" s_is_eye f4)
  (a5:FnAt K "is_hand" s_is_hand f5)
  (a6:FnAt K "_law_hand" s__law_hand f6)
  (a7:FnAt K "_law_take" s__law_take f7)
  (a8:FnAt K "_law_number" s__law_number f8)
  (a9:FnAt K "_law_are_eyes" s__law_are_eyes f9)
  (a10:FnAt K "is_below" s_is_below f10)
  (a11:FnAt K "are_eyes" s_are_eyes f11)
  (a12:FnAt K "_law_of" s__law_of f12)
  (a13:FnAt K "_law_some_eyes" s__law_some_eyes f13)
  (a14:FnAt K "_law_some_sight" s__law_some_sight f14)
  (a15:FnAt K "_law_is_sight" s__law_is_sight f15)
  (a16:FnAt K "_law_is_deed" s__law_is_deed f16)
  (a17:FnAt K "is_sight" s_is_sight f17)
  (a18:FnAt K "is_deed" s_is_deed f18)
  (a19:FnAt K "_law_machine" s__law_machine f19)
  (a20:FnAt K "_law_is_row" s__law_is_row f20)
  (a21:FnAt K "_law_odd" s__law_odd f21)
  (a22:FnAt K "is_key" s_is_key f22)
  (a23:FnAt K "_law_is_machine" s__law_is_machine f23)
  (a24:FnAt K "is_row" s_is_row f24)
  (a25:FnAt K "are_rows" s_are_rows f25)
  (a26:FnAt K "is_machine" s_is_machine f26)
  (a27:FnAt K "_law_spoilt" s__law_spoilt f27)
  (a28:FnAt K "law" s_law f28)
  (e_HANDS:wN1 K mainGlobals "HANDS"=some (some (Value.ref g1)))
  (h1:K.lookup g1=some ⟨.type "tuple",od1,.seq ([(Value.str "leave" t2),(Value.str "mark" t3),(Value.str "wipe" t4)]:List Value).toArray n1,sl1⟩)
  (e_MOODS:wN1 K mainGlobals "MOODS"=some (some (Value.int (4000) t5)))
  (e_MOST_ROWS:wN1 K mainGlobals "MOST_ROWS"=some (some (Value.int (4000) t6)))
  (e_PARTS:wN1 K mainGlobals "PARTS"=some (some (Value.ref g7)))
  (h7:K.lookup g7=some ⟨.type "tuple",od7,.seq ([(Value.ref g8),(Value.ref g11),(Value.ref g14),(Value.ref g17)]:List Value).toArray n7,sl7⟩)
  (h8:K.lookup g8=some ⟨.type "tuple",od8,.seq ([(Value.str "came" t9),(Value.int (5) t10)]:List Value).toArray n8,sl8⟩)
  (h11:K.lookup g11=some ⟨.type "tuple",od11,.seq ([(Value.str "chalk" t12),(Value.int (2) t13)]:List Value).toArray n11,sl11⟩)
  (h14:K.lookup g14=some ⟨.type "tuple",od14,.seq ([(Value.str "doors" t15),(Value.int (5) t16)]:List Value).toArray n14,sl14⟩)
  (h17:K.lookup g17=some ⟨.type "tuple",od17,.seq ([(Value.str "others" t18),(Value.int (2) t19)]:List Value).toArray n17,sl17⟩)
  (e_STEPS:wN1 K mainGlobals "STEPS"=some (some (Value.int (4) t20)))
  (z:NoN K BL):∃ fd:FuncData,(∀ (s:Shared) (v:Value),BindsTo s fd ⟨[v],[]⟩ [("_law_script",v)]) /\ ∀ base:Heap,K.In base->base.Ns mainGlobals mg->FnOk l.prog w K mg base CX0 13 fa fd ["_law_script"] (spM K 1 m_law):=by
 have e:=hfa.symm.trans (wM1 X G a28.ns);cases e;have B:Blt BL mg:=z.blt X G;have c1:CGl K mg "HANDS" d_HANDS:=cgl_mk (wM1 X G e_HANDS) (cv_tup h1 (by show 3<=sizeLine;decide) (cvs_cons cv_str (cvs_cons cv_str (cvs_cons cv_str cvs_nil))));have c2:CGl K mg "MOODS" d_MOODS:=cgl_mk (wM1 X G e_MOODS) cv_int;have c4:CGl K mg "MOST_ROWS" d_MOST_ROWS:=cgl_mk (wM1 X G e_MOST_ROWS) cv_int;have c0:CGl K mg "PARTS" d_PARTS:=cgl_mk (wM1 X G e_PARTS) (cv_tup h7 (by show 4<=sizeLine;decide) (cvs_cons (cv_tup h8 (by show 2<=sizeLine;decide) (cvs_cons cv_str (cvs_cons cv_int cvs_nil))) (cvs_cons (cv_tup h11 (by show 2<=sizeLine;decide) (cvs_cons cv_str (cvs_cons cv_int cvs_nil))) (cvs_cons (cv_tup h14 (by show 2<=sizeLine;decide) (cvs_cons cv_str (cvs_cons cv_int cvs_nil))) (cvs_cons (cv_tup h17 (by show 2<=sizeLine;decide) (cvs_cons cv_str (cvs_cons cv_int cvs_nil))) cvs_nil)))));have c3:CGl K mg "STEPS" d_STEPS:=cgl_mk (wM1 X G e_STEPS) cv_int;obtain ⟨_,⟨⟨_,_,kV,dc,pm,an,cd,ct,_,rfl,lL,cL⟩,kL⟩⟩:=a28.fn;refine ⟨wF1 "law" "law" (defArgs s_law) (defBody s_law) (defScope s_law) .none kV dc pm an cd ct,fun s v=>.of_eq rfl,fun base _ _=>?_⟩;have o0:=ok_is_whole (P:=l.prog) (w:=w) (base:=base) X G B a1;have o6:=ok_is_tuple_of (P:=l.prog) (w:=w) (base:=base) X G B a2;have o2:=ok_is_rising (P:=l.prog) (w:=w) (base:=base) X G B a3;have o1:=ok_is_eye (P:=l.prog) (w:=w) (base:=base) X G B a4 c0;have o7:=ok_is_hand (P:=l.prog) (w:=w) (base:=base) X G B a5 c1;have o22:=ok__law_hand (P:=l.prog) (w:=w) (base:=base) X G B a6;have o3:=ok__law_take (P:=l.prog) (w:=w) (base:=base) X G B a7;have o4:=ok__law_number (P:=l.prog) (w:=w) (base:=base) X G B a8;have o14:=ok__law_are_eyes (P:=l.prog) (w:=w) (base:=base) X G B a9;have o5:=ok_is_below X G B a10 o0;have o19:=ok_are_eyes X G B a11 o1 o2;have o8:=ok__law_of X G B a12 o3;have o9:=ok__law_some_eyes X G B a13 o3;have o10:=ok__law_some_sight X G B a14 o3;have o12:=ok__law_is_sight X G B a15 o4;have o11:=ok__law_is_deed X G B a16 o4;have o13:=ok_is_sight X G B a17 c0 o5 o6;have o16:=ok_is_deed X G B a18 c2 c3 o5 o7 o6;have o24:=ok__law_machine X G B a19 o8 o9 o10 o3;have o15:=ok__law_is_row X G B a20 o11 o12 o4;have o21:=ok__law_odd X G B a21 o8 o3;have o17:=ok_is_key X G B a22 c2 o5 o13 o6;have o23:=ok__law_is_machine X G B a23 o14 o15;have o18:=ok_is_row X G B a24 o16 o17 o6;have o20:=ok_are_rows X G B a25 c4 o2 o18;have o26:=ok_is_machine X G B a26 o19 o20 o6;have o25:=ok__law_spoilt X G B a27 o21 o3;exact ok_law (P:=l.prog) (w:=w) (base:=base) X G B (fun_mk lL cL kL) o22 o23 o24 o25 o26
noncomputable def hnd (g m c:Int):Ob:=.lst [.int g,.int m,.int c]
noncomputable def mix1 (m c:Int):Int:=(m+65537*c*c+11)*48271%2305843009213693921
noncomputable def mix2 (m c:Int):Int:=mix1 m c*(mix1 m c%1000003+99991*c)%2305843009213693907
theorem atI0 {a b c:D}:atI [a,b,c] 0=some a:=by rfl
theorem atI1 {a b c:D}:atI [a,b,c] 1=some b:=by rfl
theorem atI2 {a b c:D}:atI [a,b,c] 2=some c:=by rfl
theorem take_a {T:Sto}{g m c k:Int}(hg:0<g)(hk:0<k)(hk2:k<1073741824):
  m__law_take [.ref 0,.int k] (hnd g m c::T)=some (.int (g%k),hnd (g/k) m c::T):=by
 simp [m__law_take,fnB,startD,b__law_take,mSeq,mIfS,mB,m2,b2,gCmp,mV,mC,gIxY,gIxX,gIx,seqOf,hnd,hg,hk,hk2,mAsg,gN,gMod,gDiv,gS,b3,gSetY,gSetX,gSetIx,mRet,atI0,ixN]
theorem take_b {T:Sto}{g m c k:Int}(hg:¬ 0<g)(hk:0<k)(hk2:k<1073741824)(hc:0<=c)(hc2:c<2^60):
  m__law_take [.ref 0,.int k] (hnd g m c::T)=some (.int ((mix2 m (c+1)/97+mix2 m (c+1)/1000033)%k),hnd g m (c+1)::T):=by
 have f1:mulFits 65537 (c+1)=true:=mulF1 (by decide) (by decide);have f2:mulFits (65537*(c+1)) (c+1)=true:=mulF2 (by lia) (by lia);have f3:mulFits (m+65537*(c+1)*(c+1)+11) 48271=true:=mulF2 (by decide) (by decide);have f4:mulFits 99991 (c+1)=true:=mulF1 (by decide) (by decide);have q:=Int.emod_lt_of_pos ((m+65537*(c+1)*(c+1)+11)*48271) (show (0:Int)<2305843009213693921 by decide);have q':=Int.emod_nonneg ((m+65537*(c+1)*(c+1)+11)*48271) (show (2305843009213693921:Int)≠0 by decide);have f5:mulFits ((m+65537*(c+1)*(c+1)+11)*48271%2305843009213693921) ((m+65537*(c+1)*(c+1)+11)*48271%2305843009213693921%1000003+99991*(c+1))=true:=mulF1 (by lia) (by lia);simp [m__law_take,fnB,startD,b__law_take,mSeq,mIfS,mB,m2,b2,gCmp,mV,mC,gIxY,gIxX,gIx,seqOf,hnd,hg,hk,hk2,mAsg,gN,gMod,gDiv,gS,b3,gSetY,gSetX,gSetIx,mRet,atI0,atI1,atI2,ixN,mNx,gAdd,gMul,f1,f2,f3,f4,f5,mix1,mix2]
noncomputable def Hnd (o:Ob)(n:Nat):Prop:=∃ g m c:Int,o=hnd g m c/\0<=c/\c<=n
theorem Hnd.und {o:Ob}{n k:Nat}(h:Hnd o n):o.und k=true:=by
 obtain ⟨g,m,c,rfl,_⟩:=h;rfl
theorem Hnd.more {o:Ob}{n k:Nat}(h:Hnd o n)(hk:n<=k):Hnd o k:=by
 obtain ⟨g,m,c,e,h0,h1⟩:=h;exact ⟨g,m,c,e,h0,by lia⟩
noncomputable def Shut (S:Sto):Prop:=S.all (Ob.und S.length)=true
theorem all_set {p:Ob->Bool}{S:Sto}{i:Nat}{o:Ob}(h:S.all p=true)(ho:p o=true):(S.set i o).all p=true:=by
 rw [List.all_eq_true] at h ⊢;intro x hx;rcases List.mem_or_eq_of_mem_set hx with h1 | h1
 ·exact h x h1
 ·rw [h1];exact ho
structure HZ (n:Nat)(B U:Sto):Prop where
 pos:0<B.length
 len:B.length<=U.length
 same:∀ i,0<i->i<B.length->U[i]? = B[i]?
 hand:∃ o,U[0]? = some o/\Hnd o n
 shut:Shut U
theorem HZ.more {n k:Nat}{B U:Sto}(s:HZ n B U)(h:n<=k):HZ k B U:=by
 obtain ⟨o,e,ho⟩:=s.hand;exact ⟨s.pos,s.len,s.same,⟨o,e,ho.more h⟩,s.shut⟩
theorem HZ.self {n:Nat}{B U:Sto}(s:HZ n B U):HZ n U U:=⟨nL1 s.pos s.len,nR1 _,fun _ _ _=>rfl,s.hand,s.shut⟩
theorem HZ.trans {n n':Nat}{B U V:Sto}(a:HZ n B U)(b:HZ n' U V):HZ n' B V:=
 ⟨a.pos,Nat.le_trans a.len b.len,fun i h1 hi=>(b.same i h1 (nL1 hi a.len)).trans (a.same i h1 hi),b.hand,b.shut⟩
theorem HZ.at {n:Nat}{B U:Sto}(s:HZ n B U){i:Nat}{o:Ob}(e:B[i]? = some o)(h1:0<i):U[i]? = some o:=by
 rw [s.same i h1 (gE1.mp e).1];exact e
theorem shut_app {U:Sto}{G:Sto}(s:Shut U)(hg:∀ o∈G,o.und (U++G).length=true):Shut (U++G):=by
 unfold Shut at *
 rw [List.all_append,bA1];rw [List.all_eq_true] at s;refine ⟨List.all_eq_true.mpr fun o ho=>obund_le (by rw [lA1];lia) (s o ho),List.all_eq_true.mpr hg⟩
theorem shut_set {U:Sto}{i:Nat}{o:Ob}(s:Shut U)(ho:o.und U.length=true):Shut (U.set i o):=by
 unfold Shut at *
 rw [List.length_set];exact all_set s ho
theorem HZ.app {n:Nat}{B U G:Sto}(s:HZ n B U)(hg:∀ o∈G,o.und (U++G).length=true):HZ n B (U++G):=by
 obtain ⟨o,e,ho⟩:=s.hand;refine ⟨s.pos,by rw [lA1];have:=s.len;lia,fun i h1 hi=>?_,⟨o,?_,ho⟩,shut_app s.shut hg⟩
 ·rw [gL1 (by have:=s.len;lia)];exact s.same i h1 hi
 ·rw [gL1 (gE1.mp e).1];exact e
theorem HZ.set {n i:Nat}{B U:Sto}{o:Ob}(s:HZ n B U)(hi:B.length<=i)(ho:o.und U.length=true):HZ n B (U.set i o):=by
 obtain ⟨o',e,ho'⟩:=s.hand;have h1:=s.pos;refine ⟨s.pos,by rw [List.length_set];exact s.len,fun j a hj=>?_,⟨o',?_,ho'⟩,shut_set s.shut ho⟩
 ·rw [gS1 (by lia)];exact s.same j a hj
 ·rw [gS1 (by lia)];exact e
theorem take_W {n:Nat}{B U:Sto}{k:Int}{Q:D×Sto->Prop}(s:HZ n B U)(hn:n<=2^50)(hk:0<k)(hk2:k<1073741824)
  (q:∀ (d:Nat) U',HZ (n+1) B U'->HZ (n+1) U U'->U'.length=U.length->(d:Int)<k->Q (.int d,U')):W (mCall 2 m__law_take [.ref 0,.int k] U) Q:=by
 obtain ⟨o,e,ho⟩:=s.hand;obtain ⟨g,m,c,rfl,h0,h1⟩:=ho;obtain ⟨T,rfl⟩:∃ T,U=hnd g m c::T:=by
  cases U with
  | nil=>simp at e
  | cons x T=>simp at e;subst e;exact ⟨T,rfl⟩
 have call:∀ d o',m__law_take [.ref 0,.int k] (hnd g m c::T)=some (d,o'::T)->mCall 2 m__law_take [.ref 0,.int k] (hnd g m c::T)=some (d,o'::T):=fun d o e=>call_same e rfl (by simp [D.unds,D.und]) (by simp);have up:∀ o',Hnd o' (n+1)->HZ (n+1) (hnd g m c::T) (o'::T):=fun o' h=>by
  refine ⟨by simp,by simp,fun i h1 _=>?_,⟨o',rfl,h⟩,?_⟩
  ·cases i with
   | zero=>lia
   | succ i=>rfl
  ·exact shut_set (i:=0) s.shut h.und
 by_cases hg:0<g
 ·have d0:=Int.emod_nonneg g (show k≠0 by lia);obtain ⟨d,e⟩:=Int.eq_ofNat_of_zero_le d0;refine ⟨_,call _ _ (take_a hg hk hk2),?_⟩;rw [e];have u:=up (hnd (g/k) m c) ⟨_,_,_,rfl,h0,by lia⟩;exact q d _ (s.trans u) u (by simp) (by rw [<- e];exact Int.emod_lt_of_pos _ hk)
 ·have d0:=Int.emod_nonneg (mix2 m (c+1)/97+mix2 m (c+1)/1000033) (show k≠0 by lia);obtain ⟨d,e⟩:=Int.eq_ofNat_of_zero_le d0;refine ⟨_,call _ _ (take_b hg hk hk2 h0 (by lia)),?_⟩;rw [e];have u:=up (hnd g m (c+1)) ⟨_,_,_,rfl,by lia,by push_cast;lia⟩;exact q d _ (s.trans u) u (by simp) (by rw [<- e];exact Int.emod_lt_of_pos _ hk)
theorem callB {n c c':Nat}{f:FN}{ds:List D}{B U:Sto}{Q:D×Sto->Prop}(hn:ds.length=n)(hu:D.unds 0 ds=false)(s:HZ c B U)
  (q:W (f ds U) fun p=>HZ c' U p.2/\p.1.und 0=true /\ ∀ U',HZ c' B U'->HZ c' U U'->U'.length=U.length->Q (p.1,U')):W (mCall n f ds U) Q:=by
 refine callW hn hu (q.mono ?_);rintro ⟨d,V⟩ ⟨v,hd,q⟩;dsimp only at v hd q;have hl:=v.len;have l3:=s.len;have hp:=v.pos;obtain ⟨o,e,ho⟩:=v.hand;have tl:(V.take U.length).length=U.length:=by rw [List.length_take];lia
 have get:∀ i,i<U.length->(V.take U.length)[i]? = V[i]?:=fun i hi=>by rw [List.getElem?_take_of_lt hi]
 have sh:(V.take U.length).all (Ob.und U.length)=true:=by
  rw [List.all_eq_true];intro x hx;obtain ⟨i,hi⟩:=List.getElem?_of_mem hx;have hil:i<U.length:=by have:=(gE1.mp hi).1;lia
  rw [get i hil] at hi;by_cases z:i=0
  ·subst z;rw [e] at hi;cases hi;exact ho.und
  ·rw [v.same i (by lia) hil] at hi;have:=s.shut;unfold Shut at this;rw [List.all_eq_true] at this;exact this x (gM1 hi)
 have eg:gc U.length (d,V)=(d,V.take U.length):=by
  unfold gc;dsimp only;rw [if_pos (by rw [und_mono hd,sh];rfl)]
 rw [eg];have u:HZ c' U (V.take U.length):=by
  refine ⟨v.pos,by lia,fun i h1 hi=>by rw [get i hi];exact v.same i h1 hi,⟨o,by rw [get 0 hp];exact e,ho⟩,?_⟩;unfold Shut;rw [tl];exact sh
 exact q _ (s.trans u) u tl
theorem hand_ok (ns:List Int)(k:Int)(h0:0<=k)(hk:k<63):∃ o,mCall 2 m__law_hand [.rol (ns.map D.int),.int k] []=some (.ref 0,[o])/\Hnd o 0:=by
 have key:∃ g m,m__law_hand [.rol (ns.map D.int),.int k] []=some (.ref 0,[hnd g m 0]):=by
  have f0:mulFits (10^60) (10^30)=true:=by decide+kernel
  have f1:mulFits 7919 k=true:=mulF1 (by decide) (by decide);have f2:∀ x:Int,mulFits x 1=true:=fun x=>mulF2 (by decide) (by decide);have f3:∀ x:Int,mulFits x 0=true:=fun x=>mulF2 (by decide) (by decide);have lt:gLt (.int k) (.int ns.length) []=some (.bl (decide (k<ns.length)),[]):=by rfl
  by_cases hl:k<ns.length
  ·have hat:atI (ns.map D.int) k=some (.int (ns[k.toNat]'(by lia))):=by
    unfold atI ixN;rw [if_pos h0,if_pos (by simpa using hl)];simp [show k.toNat<ns.length by lia]
   generalize hx:ns[k.toNat]'(by lia)=x at hat
   by_cases hb:(10:Int)^18<=x
   ·have hb':(1000000000000000000:Int)<=x:=by simpa using hb
    simp [m__law_hand,fnB,startD,b__law_hand,mSeq,mIfS,mB,m2,b2,b1,mN,mCons,mNil,gCmp,mV,mC,gIxY,gIxX,gIx,gLen,seqOf,mAsg,gN,gMod,gMul,gAdd,gPow,gInt,mRet,mLst,lt,hl,hat,f1,f2,f3,hb',sizeLine,hnd,mNx];simp [show mulFits 1000000000000000000000000000000000000000000000000000000000000 1000000000000000000000000000000=true from f0,f1,f2,f3]
   ·have hb':¬ (1000000000000000000:Int)<=x:=by simpa using hb
    simp [m__law_hand,fnB,startD,b__law_hand,mSeq,mIfS,mB,m2,b2,b1,mN,mCons,mNil,gCmp,mV,mC,gIxY,gIxX,gIx,gLen,seqOf,mAsg,gN,gMod,gMul,gAdd,gPow,gInt,mRet,mLst,lt,hl,hat,f1,f2,f3,hb',sizeLine,hnd,mNx];simp [show mulFits 1000000000000000000000000000000000000000000000000000000000000 1000000000000000000000000000000=true from f0,f1,f2,f3]
  ·simp [m__law_hand,fnB,startD,b__law_hand,mSeq,mIfS,mB,m2,b2,b1,mN,mCons,mNil,gCmp,mV,mC,gIxY,gIxX,gIx,gLen,seqOf,mAsg,gN,gMod,gMul,gAdd,gPow,gInt,mRet,mLst,lt,hl,f1,f2,f3,sizeLine,hnd,mNx];simp [show mulFits 1000000000000000000000000000000000000000000000000000000000000 1000000000000000000000000000000=true from f0,f1,f2,f3]
 obtain ⟨g,m,e⟩:=key;refine ⟨hnd g m 0,?_,_,_,_,rfl,Int.le_refl _,Int.le_refl _⟩;rw [call_new (n:=2) e rfl (by rw [D.unds,D.und,unds_ints];rfl) (by simp [D.und])];simp [D.sh,Ob.sh,D.shs,hnd]
theorem someyes_W {n:Nat}{B U:Sto}{Q:D×Sto->Prop}(s:HZ n B U)(hn:n<=2^45)
  (q:∀ a b c d U',HZ (n+4) B U'->HZ (n+4) U U'->U'.length=U.length->Q (.tup (eyesL a b c d),U')):W (mCall 1 m__law_some_eyes [.ref 0] U) Q:=by
 refine callB (c':=n+4) rfl rfl s ?_;unfold m__law_some_eyes;refine fnW ?_;unfold b__law_some_eyes;walk_at "own wq";rw [sW_tup];refine loopF_W (fun i acc r S=>∃ x,HZ (n+i) U S/\r=[x,some (.ref 0)]/\i<=4/\acc.Sublist (([.str "came",.str "chalk",.str "doors",.str "others"]:List D).take i)) _ 0 [] _ _ ⟨none,s.self,rfl,by lia,by simp⟩ (fun _ _ _ _ _=>rfl) ?_ ?_
 ·rintro i d hd acc r S ⟨x,hs,rfl,hi,ha⟩;have hi':i<4:=(gE1.mp hd).1;have ht:(([.str "came",.str "chalk",.str "doors",.str "others"]:List D)).take (i+1)=(([.str "came",.str "chalk",.str "doors",.str "others"]:List D)).take i++[d]:=by rw [List.take_succ,hd];rfl
  rw [Nat.zero_add] at *
  walk_at "own wq";refine take_W hs (by lia) (by decide) (by decide) fun e U' hs' _ _ he=>?_;walk_at "own wq";split
  ·exact ⟨some d,hs',rfl,by lia,by rw [ht];exact ha.append (List.Sublist.refl _)⟩
  ·exact ⟨some d,hs',rfl,by lia,by rw [ht];exact ha.trans (List.sublist_append_left _ _)⟩
 ·rintro xs r S ⟨x,hs,rfl,_,ha⟩;obtain ⟨a,b,c,d,rfl⟩:=eyes_sub (by simpa using ha);walk_at "own wq";have hl:=eyes_len a b c d;refine ⟨fits_le (by lia),?_⟩;refine sW_ref (xs:=eyesL a b c d) (by rw [get_app0];rfl) ?_;refine ⟨hs.app fun o ho=>?_,by rw [D.und];exact eyes_und a b c d,fun U' h1 h2 h3=>q a b c d U' h1 h2 h3⟩;simp at ho;subst ho;rw [Ob.und];exact unds_mono (eyes_und a b c d)
noncomputable def pt (b:Bool)(x:Nat):D:=if b=true then .int x else .non
theorem pt_und {b:Bool}{x n:Nat}:(pt b x).und n=true:=by unfold pt;split<;>rfl
theorem unds_snoc {ps:List D}{x:D}(h:D.unds 0 ps=true)(hx:x.und 0=true):D.unds 0 (ps++[x])=true:=by
 induction ps with
 | nil=>simp [D.unds,hx]
 | cons y ps ih=>rw [D.unds,bA1] at h;rw [List.cons_append,D.unds,h.1,ih h.2];rfl
noncomputable def sgD (a b c d:Bool)(x y z w:Nat):D:=.tup [pt a x,pt b y,pt c z,pt d w]
theorem part_W {n k:Nat}{e:Str}{b:Bool}{m:Nat}{E:D}{ps:List D}{B S:Sto}(s:HZ n B S)(hn:n<=2^46)(hm:m<=100)(hin:∀ S,gInY (.str e) E S=some (.bl b,S))(hk:B.length<=k)(hS:S[k]? = some (.lst ps))(hp:ps.length<=100)(hu:D.unds 0 ps=true):
  W (p__law_some_sight_1 [some (.ref 0),some E,some (.ref k),some (.str e),some (.int m)] S) fun p=>p.1 = .nx/\p.2.1=[some (.ref 0),some E,some (.ref k),some (.str e),some (.int m)] /\ ∃ x,x<=m/\HZ (n+1) B p.2.2/\p.2.2[k]? = some (.lst (ps++[pt b x]))/\p.2.2.length=S.length:=by
 unfold p__law_some_sight_1;have hkl:=(gE1.mp hS).1;have fin:∀ (S':Sto) (x:Nat),HZ (n+1) B S'->HZ (n+1) B (S'.set k (.lst (ps++[pt b x]))):=fun S' x h1=>
  h1.set hk (by rw [Ob.und];exact unds_mono (unds_snoc hu pt_und))
 walk_at "own wq";refine W_mMt ?_;walk_at "own wq";refine ⟨k,ps,rfl,hS,?_⟩
 ((try walk_at "own wq");repeat (simp only [hin];try walk_at "own wq"))
 cases b with
 | true=>
  rw [if_pos rfl];have hm1:((m:Int)+1)=((m+1:Nat):Int):=by push_cast;rfl
  rw [hm1];refine take_W s (by lia) (by lia) (by lia) fun x S' h1 h2 h3 h4=>?_;have hk0:0<k:=nL1 s.pos hk;have hS':S'[k]? = some (.lst ps):=by rw [h2.same k hk0 hkl];exact hS
  refine (W_app hS').mpr ⟨fits_le (by lia),?_⟩;refine ⟨x,by lia,fin S' x h1,?_,by rw [List.length_set];exact h3⟩;rw [List.getElem?_set_self (by lia)];rfl
 | false=>
  rw [if_neg (by decide)];refine (W_app hS).mpr ⟨fits_le (by lia),?_⟩;refine ⟨0,by lia,fin S 0 (s.more (by lia)),?_,by rw [List.length_set]⟩;rw [List.getElem?_set_self (by lia)];rfl
theorem zip_snoc {b:Bool}{x:Nat}:∀ {bs:List Bool} {xs:List Nat},bs[xs.length]? = some b->List.zipWith pt bs (xs++[x])=List.zipWith pt bs xs++[pt b x]
 | [],xs,h=>by simp at h
 | c::bs,[],h=>by simp at h;subst h;cases bs<;>simp
 | c::bs,y::xs,h=>by
  rw [List.cons_append,List.zipWith_cons_cons,List.zipWith_cons_cons,zip_snoc (by simpa using h)];rfl
theorem zip_und:∀ {bs:List Bool} {xs:List Nat},D.unds 0 (List.zipWith pt bs xs)=true
 | [],xs=>rfl
 | c::bs,[]=>rfl
 | c::bs,y::xs=>by rw [List.zipWith_cons_cons,D.unds,pt_und,zip_und];rfl
noncomputable def hands:List D:=[.str "leave",.str "mark",.str "wipe"]
noncomputable def steps:List D:=[.non,.int 0,.int 1,.int 2,.int 3]
structure Deed (x:D):Prop where
 is:∃ m h t,x = .tup [.int (m:Nat),h,t]/\m<4000/\h∈hands/\t∈steps
theorem Deed.und {x:D}(h:Deed x):x.und 0=true:=by
 obtain ⟨m,x,t,rfl,_,h1,h2⟩:=h.is;have e1:x.und 0=true:=by simp [hands] at h1;rcases h1 with z | z | z<;>subst z<;>rfl
 have e2:t.und 0=true:=by simp [steps] at h2;rcases h2 with z | z | z | z | z<;>subst z<;>rfl
 simp [D.und,D.unds,e1,e2]
noncomputable def cx (b:Bool)(x:Nat):Nat:=if b=true then x else 0
noncomputable def cds:List Bool->List Nat->Nat
 | b::bs,x::xs=>cx b x*8^bs.length+cds bs xs
 | _,_=>0
theorem cds_lt:∀ {bs:List Bool} {xs:List Nat},(∀ x∈xs,x<=7)->cds bs xs<8^bs.length
 | [],_,_=>by rw [cds];simp;simp
 | b::bs,[],_=>by
  rw [cds]
  ·exact Nat.pos_of_ne_zero (by simp)
  ·simp
 | b::bs,x::xs,h=>by
  have h1:=cds_lt (bs:=bs) fun y hy=>h y (mC1 _ hy);have h2:cx b x<=7:=by unfold cx;split;exact h x mS1;lia
  rw [cds,lC1,Nat.pow_succ];have h3:cx b x*8^bs.length<=7*8^bs.length:=Nat.mul_le_mul_right _ h2;lia
theorem eqT {S:Sto}{n:Nat}{xs ys:List D}:eqN S (n+1) (.tup xs) (.tup ys)=eqL (eqN S n) xs ys:=by
 rw [eqN];simp [seqOf]
theorem ltT {S:Sto}{n:Nat}{xs ys:List D}:ltN S (n+1) (.tup xs) (.tup ys)=ltL (eqN S n) (ltN S n) xs ys:=by
 rw [ltN];simp [ltF,seqOf]
theorem eq_pt {S:Sto}{n:Nat}{b:Bool}{x y:Nat}:eqN S (n+1) (pt b x) (pt b y)=some (decide (cx b x=cx b y)):=by
 cases b with
 | false=>rfl
 | true=>
  show some ((x:Int) == (y:Int))=some (decide (x=y))
  congr 1
  rw [Bool.eq_iff_iff,beq_iff_eq,decide_eq_true_eq];lia
theorem lt_pt {S:Sto}{n:Nat}{b:Bool}{x y:Nat}(h:cx b x≠cx b y):ltN S (n+1) (pt b x) (pt b y)=some (decide (cx b x<cx b y)):=by
 cases b with
 | false=>exact absurd rfl h
 | true=>
  show some (decide ((x:Int)<(y:Int)))=some (decide (x<y))
  congr 1
  rw [Bool.eq_iff_iff,decide_eq_true_eq,decide_eq_true_eq];lia
theorem dig {A B P u v:Nat}(hu:u<P)(hv:v<P):(A*P+u=B*P+v↔A=B/\u=v)/\(A*P+u<B*P+v↔A<B\/(A=B/\u<v)):=by
 rcases Nat.lt_trichotomy A B with h | h | h
 ·have:=Nat.mul_le_mul_right P (show A+1<=B from h);rw [Nat.succ_mul] at this;constructor<;>lia
 ·subst h;constructor<;>lia
 ·have:=Nat.mul_le_mul_right P (show B+1<=A from h);rw [Nat.succ_mul] at this;constructor<;>lia
theorem eqL_pt {S:Sto}{n:Nat}:∀ {bs:List Bool} {xs ys:List Nat},xs.length=bs.length->ys.length=bs.length->(∀ x∈xs,x<=7)->(∀ y∈ys,y<=7) ->
  eqL (eqN S (n+1)) (List.zipWith pt bs xs) (List.zipWith pt bs ys)=some (decide (cds bs xs=cds bs ys))
 | [],xs,ys,_,_,_,_=>by simp [eqL,cds]
 | b::bs,[],ys,h,_,_,_=>by simp at h
 | b::bs,x::xs,[],_,h,_,_=>by simp at h
 | b::bs,x::xs,y::ys,h1,h2,hx,hy=>by
  have ih:=eqL_pt (S:=S) (n:=n) (bs:=bs) (xs:=xs) (ys:=ys) (by simpa using h1) (by simpa using h2) (fun z hz=>hx z (mC1 _ hz)) (fun z hz=>hy z (mC1 _ hz));have b1:=cds_lt (bs:=bs) (xs:=xs) fun z hz=>hx z (mC1 _ hz);have b2:=cds_lt (bs:=bs) (xs:=ys) fun z hz=>hy z (mC1 _ hz);rw [List.zipWith_cons_cons,List.zipWith_cons_cons,eqL,eq_pt,ih,cds,cds];have hd:=(dig (A:=cx b x) (B:=cx b y) b1 b2).1;rw [oS1,oP1]
  congr 1
  rw [Bool.eq_iff_iff,bA1,decide_eq_true_eq,decide_eq_true_eq,decide_eq_true_eq];exact hd.symm
theorem ltL_pt {S:Sto}{n:Nat}:∀ {bs:List Bool} {xs ys:List Nat},xs.length=bs.length->ys.length=bs.length->(∀ x∈xs,x<=7)->(∀ y∈ys,y<=7) ->
  ltL (eqN S (n+1)) (ltN S (n+1)) (List.zipWith pt bs xs) (List.zipWith pt bs ys)=some (decide (cds bs xs<cds bs ys))
 | [],xs,ys,_,_,_,_=>by simp [ltL,cds]
 | b::bs,[],ys,h,_,_,_=>by simp at h
 | b::bs,x::xs,[],_,h,_,_=>by simp at h
 | b::bs,x::xs,y::ys,h1,h2,hx,hy=>by
  have ih:=ltL_pt (S:=S) (n:=n) (bs:=bs) (xs:=xs) (ys:=ys) (by simpa using h1) (by simpa using h2) (fun z hz=>hx z (mC1 _ hz)) (fun z hz=>hy z (mC1 _ hz));have b1:=cds_lt (bs:=bs) (xs:=xs) fun z hz=>hx z (mC1 _ hz);have b2:=cds_lt (bs:=bs) (xs:=ys) fun z hz=>hy z (mC1 _ hz);have hd:=(dig (A:=cx b x) (B:=cx b y) b1 b2).2;rw [List.zipWith_cons_cons,List.zipWith_cons_cons,ltL,eq_pt,oS1,cds,cds];by_cases z:cx b x=cx b y
  ·rw [if_pos (decide_eq_true z),ih]
   congr 1
   rw [Bool.eq_iff_iff,decide_eq_true_eq,decide_eq_true_eq];lia
  ·rw [if_neg (by rw [decide_eq_true_eq];exact z),lt_pt z]
   congr 1
   rw [Bool.eq_iff_iff,decide_eq_true_eq,decide_eq_true_eq];lia
structure Ky where
 m:Nat
 x:Nat
 y:Nat
 z:Nat
 w:Nat
structure Ky.Ok (k:Ky):Prop where
 m:k.m<4000
 x:k.x<=4
 y:k.y<=4
 z:k.z<=4
 w:k.w<=4
noncomputable abbrev E4:=Bool×Bool×Bool×Bool
noncomputable def E4.bs (e:E4):List Bool:=[e.1,e.2.1,e.2.2.1,e.2.2.2]
noncomputable def Ky.xs (k:Ky):List Nat:=[k.x,k.y,k.z,k.w]
noncomputable def ptK (b:Bool)(x:Nat):TK:=if b=true then .int x else .non
noncomputable def Ky.sg (k:Ky)(e:E4):D:=sgD e.1 e.2.1 e.2.2.1 e.2.2.2 k.x k.y k.z k.w
noncomputable def Ky.d (k:Ky)(e:E4):D:=.tup [.int k.m,k.sg e]
noncomputable def Ky.tk (k:Ky)(e:E4):TK:=.tup [.int k.m,.tup [ptK e.1 k.x,ptK e.2.1 k.y,ptK e.2.2.1 k.z,ptK e.2.2.2 k.w]]
noncomputable def Ky.code (k:Ky)(e:E4):Nat:=k.m*4096+cds e.bs k.xs
theorem Ky.keyT (k:Ky)(e:E4):Mi.keyT (k.d e)=some (k.tk e):=by
 obtain ⟨a,b,c,d⟩:=e;cases a<;>cases b<;>cases c<;>cases d<;>rfl
theorem Ky.tkD (k:Ky)(e:E4):Mi.tkD (k.tk e)=k.d e:=(keyT_tk (k.keyT e)).1
theorem Ky.sg_zip (k:Ky)(e:E4):k.sg e = .tup (List.zipWith pt e.bs k.xs):=rfl
theorem Ky.Ok.all {k:Ky}(h:k.Ok):∀ x∈k.xs,x<=7:=by
 intro x hx;have:=h.x;have:=h.y;have:=h.z;have:=h.w
 simp [Ky.xs] at hx;lia
theorem cds_4096 {k:Ky}(h:k.Ok)(e:E4):cds e.bs k.xs<4096:=cds_lt (bs:=e.bs) h.all
theorem Ky.lt {k l:Ky}{e:E4}{S:Sto}{n:Nat}(hk:k.Ok)(hl:l.Ok):ltN S (n+3) (k.d e) (l.d e)=some (decide (k.code e<l.code e)):=by
 have e1:eqN S (n+2) (.int k.m) (.int l.m)=some ((k.m:Int) == (l.m:Int)):=rfl;have e3:ltN S (n+2) (.int k.m) (.int l.m)=some (decide ((k.m:Int)<(l.m:Int))):=rfl;have e2:eqN S (n+2) (k.sg e) (l.sg e)=some (decide (cds e.bs k.xs=cds e.bs l.xs)):=by rw [Ky.sg_zip,Ky.sg_zip,eqT,eqL_pt rfl rfl hk.all hl.all]
 have e4:ltN S (n+2) (k.sg e) (l.sg e)=some (decide (cds e.bs k.xs<cds e.bs l.xs)):=by rw [Ky.sg_zip,Ky.sg_zip,ltT,ltL_pt rfl rfl hk.all hl.all]
 unfold Ky.d Ky.code;have hd:=(dig (A:=k.m) (B:=l.m) (cds_4096 hk e) (cds_4096 hl e)).2;rw [ltT,ltL,e1,oS1];by_cases z:k.m=l.m
 ·rw [if_pos (by rw [beq_iff_eq];lia),ltL,e2,oS1];by_cases z2:cds e.bs k.xs=cds e.bs l.xs
  ·rw [if_pos (decide_eq_true z2),ltL]
   congr 1
   rw [eq_comm,decide_eq_false_iff_not];lia
  ·rw [if_neg (by rw [decide_eq_true_eq];exact z2),e4]
   congr 1
   rw [Bool.eq_iff_iff,decide_eq_true_eq,decide_eq_true_eq];lia
 ·rw [if_neg (by rw [beq_iff_eq];lia),e3]
  congr 1
  rw [Bool.eq_iff_iff,decide_eq_true_eq,decide_eq_true_eq];lia
noncomputable abbrev Rows2:=List (List (Nat×Nat))
noncomputable def dP (p:Nat×Nat):D:=.tup [.int p.1,.int p.2]
theorem ix_tup {xs:List D}{i:Nat}{d:D}{S:Sto}(h:xs[i]? = some d):gIxY (.tup xs) (.int i) S=some (d,S):=by
 show gIx (.tup xs) (.int i) S=some (d,S);unfold gIx seqOf;simp [atI_nat h]
theorem unds_map {α:Type}{f:α->D}{n:Nat}(h:∀ x,(f x).und n=true):∀ xs:List α,D.unds n (xs.map f)=true
 | []=>rfl
 | x::xs=>by rw [mP1,D.unds,h x,unds_map h xs];rfl
noncomputable def At (R:Rows2)(r d:Nat)(x:Nat×Nat):Prop:=∃ row,R[r]? = some row/\row[d]? = some x
structure PU (b m:Nat)(P:List (Nat×Nat))(us:List Nat)(V:Sto):Prop where
 pr:V[b]? = some (.lst (P.map pD))
 ud:V[b+2]? = some (.lst (nmD us))
 ul:us.length=m
 lt:∀ p∈P,p.1<m/\p.2<m
noncomputable def IsP (d:D):Prop:=∃ x,d=dP x
theorem IsP.und {d:D}{n:Nat}(h:IsP d):d.und n=true:=by obtain ⟨x,rfl⟩:=h;rfl
noncomputable def wEy:List D:=[.str "came",.str "chalk",.str "doors",.str "others"]
noncomputable def wHa:List D:=[.str "leave",.str "mark",.str "wipe"]
theorem loopM_WR {c:List (Nat×List D)}{g:FG}{b:FS}{Q:Fl×Ev×Sto->Prop}(I:Nat->Ev->Sto->Prop):∀ (items:List D) (k:Nat) (r:Ev) (S:Sto),I k r S ->
  (∀ i r S,I i r S->okC S c=true) ->
  (∀ i d,items[i]? = some d -> ∀ r S,I (k+i) r S->W (g d r S) fun p=>W (b p.1 p.2) fun q=>(q.1 = .nx/\I (k+i+1) q.2.1 q.2.2)\/(∃ v,q.1 = .rt v/\Q (.rt v,q.2))\/(q.1 = .bk/\Q (.nx,q.2))) ->
  (∀ r S,I (k+items.length) r S->Q (.nx,r,S))->W (loopM c g b items r S) Q:=by
 intro items
 induction items with
 | nil=>intro k r S hi hok _ hq;rw [loopM];dsimp only;rw [if_pos (hok _ _ _ hi),W_some];exact hq r S (by simpa using hi)
 | cons d ds ih=>
  intro k r S hi hok hs hq;rw [loopM];dsimp only;rw [if_pos (hok _ _ _ hi),W_bind];obtain ⟨p,e1,⟨f,r1,S1⟩,e2,h⟩:=hs 0 d rfl r S (by simpa using hi);refine ⟨p,e1,?_⟩;dsimp only;rw [W_bind];refine ⟨_,e2,?_⟩;dsimp only at h ⊢;rcases h with ⟨rfl,hI⟩ | ⟨v,rfl,hQ⟩ | ⟨rfl,hQ⟩
  ·exact ih (k+1) r1 S1 hI hok (fun i d hd r S hI=>by
    have:=hs (i+1) d hd r S (by rw [show k+(i+1)=k+1+i by lia];exact hI);rw [show k+(i+1)+1=k+1+i+1 by lia] at this;exact this) fun r S hI=>hq r S (by rw [lC1,show k+(ds.length+1)=k+1+ds.length by lia];exact hI)
  ·exact W_some.mpr hQ
  ·exact W_some.mpr hQ
theorem seqWR {a b:FS}{r:Ev}{S:Sto}{Q:Fl×Ev×Sto->Prop}(h:W (a r S) fun p=>(p.1 = .nx/\W (b p.2.1 p.2.2) Q) \/ ∃ v,p.1 = .rt v/\Q (.rt v,p.2)):W (mSeq a b r S) Q:=by
 obtain ⟨⟨f,r1,S1⟩,e,h⟩:=h;unfold mSeq;rw [e];dsimp only at h;rcases h with ⟨rfl,h⟩ | ⟨v,rfl,h⟩
 ·exact h
 ·exact W_some.mpr h
theorem W_mCh {f g:FN}{a b c:FE}{r:Ev}{S:Sto}{Q:D×Sto->Prop}:W (mCh f g a b c r S) Q↔W (a r S) fun p=>W (b r p.2) fun q=>W (f [p.1,q.1] q.2) fun t=>W (match t.1 with | .bl k=>if k=true then (c r t.2).bind fun z=>g [q.1,z.1] z.2 else some (.bl false,t.2) | _=>none) Q:=by
 unfold mCh;simp only [W_bind]
 try exact Iff.rfl
open Classical in
noncomputable def tf (P:Prop):Bool:=decide P
theorem tf_e {P:Prop}:tf P=true↔P:=by unfold tf;exact @decide_eq_true_iff P (Classical.propDecidable P)
theorem tf_t {P:Prop}(h:P):tf P=true:=tf_e.mpr h
theorem tf_b {P:Prop}{b:Bool}(h:b=true↔P):b=tf P:=by rw [Bool.eq_iff_iff,tf_e];exact h
theorem tf_f {P:Prop}(h:¬ P):tf P=false:=(tf_b ⟨fun z=>(by cases z),fun z=>(h z).elim⟩).symm
theorem tf_i {P Q:Prop}(h:P↔Q):tf P=tf Q:=tf_b (tf_e.trans h)
noncomputable def up (p:Nat×Nat):Int×Int:=(p.1,p.2)
noncomputable def Con (w:Rows2):Prop:=∀ P:Nat->Prop,P 0->(∀ r d p,At w r d p->P r->P p.1) -> ∀ v,v<w.length->P v
theorem At.lt {w:Rows2}{r d:Nat}{p:Nat×Nat}(h:At w r d p):r<w.length:=by
 obtain ⟨row,h1,_⟩:=h;exact (gE1.mp h1).1
theorem W_mIsT {T:Ty}{m:FE}{r:Ev}{S:Sto}{Q:D×Sto->Prop}:W (mIsT T m r S) Q↔W (m r S) fun p=>W (isTy p.2 T p.1) fun b=>Q (.bl b,p.2):=by
 unfold mIsT;rw [W_bind];simp only [W_map]
structure BI (m:Nat)(w:Rows2)(L:List (Nat×List Nat))(a j:Nat):Prop where
 nd:(L.map (·.1)).Nodup
 inn:∀ p∈L,p.1<m
 hd:0∈L.map (·.1)
 len:∀ (i:Nat) (p:Nat×List Nat),L[i]? = some p->p.2.length<=i
 rch:∀ P:Nat->Prop,P 0->(∀ r d p,At w r d p->P r->P p.1) -> ∀ p∈L,P p.1
 cl:∀ (i d:Nat) (p:Nat×List Nat) (e:Nat×Nat),L[i]? = some p->At w p.1 d e->(i<a\/(i=a/\d<j))->e.1∈L.map (·.1)
theorem BI.all {a:Nat}{w:Rows2}{L:List (Nat×List Nat)}(b:BI w.length w L a 0)(ha:L.length<=a):(∀ v,v<w.length->v∈L.map (·.1))↔Con w:=by
 constructor
 ·intro h P h0 hc v hv;obtain ⟨p,hp,rfl⟩:=List.mem_map.mp (h v hv);exact b.rch P h0 hc p hp
 ·intro hw;refine hw (fun v=>v∈L.map (·.1)) b.hd fun r d e h1 h2=>?_;obtain ⟨p,hp,e1⟩:=List.mem_map.mp h2;obtain ⟨i,hi⟩:=List.getElem?_of_mem hp;exact b.cl i d p e hi (by rw [e1];exact h1) (.inl (by have:=(gE1.mp hi).1;lia))
noncomputable def oL:Option (List Nat)->D
 | none=>.non
 | some x=>.tup (nmD x)
mutual
noncomputable def vd (S:Sto):D->Bool
 | .non=>true
 | .bl _=>true
 | .int _=>true
 | .str _=>true
 | .tup xs=>vds S xs
 | .rol xs=>vds S xs
 | .ref n=>match S[n]? with
  | some (.lst _)=>true
  | some (.dct _)=>true
  | some (.dcT _)=>true
  | _=>false
 | .fn _=>false
noncomputable def vds (S:Sto):List D->Bool
 | []=>true
 | d::ds=>vd S d&&vds S ds
end
mutual
theorem vd_cl {S T:Sto}:∀ {d:D},vd S d=true->d.und 0=true->vd T d=true
 | .non,_,_=>by rw [vd]
 | .bl _,_,_=>by rw [vd]
 | .int _,_,_=>by rw [vd]
 | .str _,_,_=>by rw [vd]
 | .tup xs,v,h=>by rw [D.und] at h;rw [vd] at v ⊢;exact vds_cl v h
 | .rol xs,v,h=>by rw [D.und] at h;rw [vd] at v ⊢;exact vds_cl v h
 | .ref k,_,h=>by simp [D.und] at h
 | .fn x,v,_=>by simp [vd] at v
theorem vds_cl {S T:Sto}:∀ {ds:List D},vds S ds=true->D.unds 0 ds=true->vds T ds=true
 | [],_,_=>by rw [vds]
 | d::ds,v,h=>by
  rw [D.unds,bA1] at h;rw [vds,bA1] at v;rw [vds,vd_cl v.1 h.1,vds_cl v.2 h.2];rfl
end
theorem vds_in {S:Sto}{d:D}:∀ {ds:List D},vds S ds=true->d∈ds->vd S d=true
 | [],_,h=>by cases h
 | x::ds,h,m=>by
  rw [vds,bA1] at h;rcases List.mem_cons.mp m with z | z
  ·rw [z];exact h.1
  ·exact vds_in h.2 z
theorem callV {n:Nat}{f:FN}{ds:List D}{S:Sto}{Q:D×Sto->Prop}(hn:ds.length=n)(hS:Shut S)(hv:vds S ds=true)
  (h:∀ T,Shut T->vds T ds=true->W (f ds T) fun p=>(∃ G,p.2=T++G)/\p.1.und 0=true/\Q (p.1,S)):W (mCall n f ds S) Q:=by
 cases hu:D.unds 0 ds with
 | true=>exact callP hn hu ((h [] rfl (vds_cl hv hu)).mono fun p q=>⟨q.2.1,q.2.2⟩)
 | false=>
  refine callW hn hu ((h S hS hv).mono ?_);rintro ⟨d,V⟩ ⟨⟨G,e⟩,hd,q⟩;dsimp only at e hd q;subst e;rw [gc_app hd hS];exact q
noncomputable def isT:D->Bool
 | .tup _=>true
 | _=>false
noncomputable def whD:D->Bool
 | .int _=>true
 | _=>false
noncomputable def isB:D->Bool
 | .bl _=>true
 | _=>false
theorem ty_tup {S:Sto}{d:D}(h:vd S d=true):isTy S .tuple d=some (isT d):=by
 cases d with
 | ref n=>
  rw [vd] at h;rw [isTy];split at h<;>first | (rename_i e;rw [e];rfl) | rfl | cases h
 | fn x=>simp [vd] at h
 | _=>rfl
theorem ty_int {S:Sto}{d:D}(h:vd S d=true):isTy S .int d=some (whD d||isB d):=by
 cases d with
 | ref n=>
  rw [vd] at h;rw [isTy];split at h<;>first | (rename_i e;rw [e];rfl) | rfl | cases h
 | fn x=>simp [vd] at h
 | _=>rfl
theorem ty_bool {S:Sto}{d:D}(h:vd S d=true):isTy S .bool d=some (isB d):=by
 cases d with
 | ref n=>
  rw [vd] at h;rw [isTy];split at h<;>first | (rename_i e;rw [e];rfl) | rfl | cases h
 | fn x=>simp [vd] at h
 | _=>rfl
theorem vd1 {S:Sto}{d:D}(h:vd S d=true):vds S [d]=true:=by rw [vds,vds,h];rfl
theorem vd1' {S:Sto}{d:D}{ds:List D}(h:vds S (d::ds)=true):vd S d=true:=vds_in h mS1
theorem whole_W {d:D}{S:Sto}{Q:D×Sto->Prop}(hS:Shut S)(hv:vd S d=true)(q:Q (.bl (whD d),S)):W (mCall 1 m_is_whole [d] S) Q:=by
 refine callV rfl hS (vd1 hv) fun T _ hT=>?_;have h1:=ty_int (vd1' hT);have h2:=ty_bool (vd1' hT);unfold m_is_whole;refine fnW ?_;unfold b_is_whole
 ((try walk_at "own wq");repeat (simp only [mIsT,h1,h2];try walk_at "own wq"))
 cases d with
 | int i=>exact ⟨⟨[],(List.append_nil T).symm⟩,rfl,q⟩
 | bl b=>exact ⟨⟨[],(List.append_nil T).symm⟩,rfl,q⟩
 | _=>exact ⟨⟨[],(List.append_nil T).symm⟩,rfl,q⟩
noncomputable def belD (m:Nat):D->Bool
 | .int i=>decide (0<=i)&&decide (i<m)
 | _=>false
theorem bel_not {m:Nat}{d:D}(h:whD d=false):belD m d=false:=by
 cases d with
 | int i=>cases h
 | _=>rfl
theorem bel_is {d:D}(h:whD d=true):∃ i,d = .int i:=by
 cases d with
 | int i=>exact ⟨i,rfl⟩
 | _=>cases h
theorem chain_W {r:Ev}{S:Sto}{m i:Nat}{j:Int}{c:FE}{Q:D×Sto->Prop}(hi:r[i]? = some (some (.int j)))(hc:c r S=some (.int m,S))(q:Q (.bl (decide (0<=j)&&decide (j<m)),S)):W (mCh (b2 (gCmp fun i j=>decide (i<=j))) (b2 gLt) (mC (D.int (0))) (mV i) c r S) Q:=by
 have e:mV i r S=some (.int j,S):=by unfold mV;rw [hi]
 rw [W_mCh];unfold mC;rw [W_some];dsimp only;rw [e,W_some];dsimp only;unfold b2 gCmp;dsimp only;rw [W_some];dsimp only;cases h:decide (0<=j) with
 | false=>
  rw [if_neg (by decide),W_some];rw [h] at q;exact q
 | true=>
  rw [if_pos rfl,hc,W_bind,W_some];rw [h] at q;exact W.of rfl q
theorem below_W {m:Nat}{d:D}{S:Sto}{Q:D×Sto->Prop}(hS:Shut S)(hv:vd S d=true)(q:Q (.bl (belD m d),S)):W (mCall 2 m_is_below [d,.int m] S) Q:=by
 refine callV rfl hS (by rw [vds,hv,vds,vds,vd];rfl) fun T hT hvT=>?_;have hv':=vd1' hvT;unfold m_is_below;refine fnW ?_;unfold b_is_below;walk_at "own wq";refine whole_W hT hv' ?_;walk_at "own wq";cases hw:whD d with
 | false=>
  rw [if_neg (by decide)];rw [bel_not hw] at q
  first | exact ⟨⟨[],(List.append_nil T).symm⟩,rfl,q⟩ | (rw [W_some];exact ⟨⟨[],(List.append_nil T).symm⟩,rfl,q⟩)
 | true=>
  rw [if_pos rfl];obtain ⟨i,rfl⟩:=bel_is hw;refine chain_W (m:=m) rfl rfl ?_
  try walk_at "own wq"
  exact ⟨⟨[],(List.append_nil T).symm⟩,rfl,q⟩
noncomputable def inc (rs:List Nat):Bool:=(List.range (rs.length-1)).all fun i=>decide (rs.getD i 0<rs.getD (i+1) 0)
noncomputable def sdd (rs:List Nat):List Nat:=(sortI (ddI (rs.map fun (r:Nat)=>(r:Int)))).map Int.toNat
theorem sdd_nm (rs:List Nat):(sortI (ddI (rs.map fun (r:Nat)=>(r:Int)))).map D.int=nmD (sdd rs):=by
 unfold nmD sdd;rw [List.map_map];refine List.map_congr_left fun i hi=>?_;obtain ⟨x,_,rfl⟩:=List.mem_map.mp (mem_dd.mp ((sortI_perm _).mem_iff.mp hi));rfl
theorem inc_pw {rs:List Nat}(h:inc rs=true):rs.Pairwise (· < ·):=by
 unfold inc at h;rw [List.all_eq_true] at h;have adj:∀ i,i+1<rs.length->rs.getD i 0<rs.getD (i+1) 0:=fun i hi=>by
  have:=h i (List.mem_range.mpr (by lia));exact of_decide_eq_true this
 rw [List.pairwise_iff_getElem];intro i j hi hj hij;have far:∀ k,i+k+1<rs.length->rs.getD i 0<rs.getD (i+k+1) 0:=by
  intro k
  induction k with
  | zero=>intro hk;exact adj i hk
  | succ k ih=>intro hk;exact Nat.lt_trans (ih (by lia)) (adj (i+k+1) (by lia))
 have:=far (j-i-1) (by lia);rw [show i+(j-i-1)+1=j by lia] at this;rw [List.getD_eq_getElem?_getD,List.getD_eq_getElem?_getD,gG1 hi,gG1 hj] at this;exact this
theorem inc_sdd (rs:List Nat):(rs == sdd rs)=inc rs:=by
 rw [Bool.eq_iff_iff,beq_iff_eq];constructor
 ·intro e;have pw:=sortI_pw (ddI (rs.map fun (r:Nat)=>(r:Int)));have nd:(sortI (ddI (rs.map fun (r:Nat)=>(r:Int)))).Nodup:=(sortI_perm _).nodup_iff.mpr (dd_nodup _ [] List.nodup_nil);have lt:rs.Pairwise (· < ·):=by
   rw [e];unfold sdd;refine List.pairwise_map.mpr ?_;have both:=List.pairwise_and_iff.mpr ⟨pw,nd⟩;refine List.Pairwise.imp_of_mem ?_ both;intro a b ha hb h;obtain ⟨x,_,rfl⟩:=List.mem_map.mp (mem_dd.mp ((sortI_perm _).mem_iff.mp ha));obtain ⟨y,_,rfl⟩:=List.mem_map.mp (mem_dd.mp ((sortI_perm _).mem_iff.mp hb));have h1:=h.1;have h2:=h.2;show x<y;have:x≠y:=fun z=>h2 (by rw [z]);lia
  unfold inc;rw [List.all_eq_true];intro i hi;have hi:=List.mem_range.mp hi;rw [decide_eq_true_eq,List.getD_eq_getElem?_getD,List.getD_eq_getElem?_getD,gG1 (by lia),gG1 (by lia)];exact List.pairwise_iff_getElem.mp lt i (i+1) (by lia) (by lia) (by lia)
 ·intro h;have pw:=inc_pw h;have e:sortI (ddI (rs.map fun (r:Nat)=>(r:Int)))=rs.map fun (r:Nat)=>(r:Int):=by
   refine pw_uniq ((sortI_perm _).trans ((List.perm_ext_iff_of_nodup (dd_nodup _ [] List.nodup_nil) ?_).mpr fun k=>?_)) (sortI_pw _) ?_
   ·exact List.pairwise_map.mpr (pw.imp fun h z=>by lia)
   ·exact mem_dd
   ·exact List.pairwise_map.mpr (pw.imp fun h=>by lia)
  unfold sdd;rw [e,List.map_map];have:(Int.toNat∘fun (r:Nat)=>(r:Int))=id:=by funext x;simp
  rw [this,List.map_id]
mutual
noncomputable def bd (k:Nat):D->Bool
 | .tup xs=>decide (xs.length<=k)&&bds k xs
 | .non=>true
 | .bl _=>true
 | .int _=>true
 | .str _=>true
 | .rol _=>false
 | .ref _=>true
 | .fn _=>false
noncomputable def bds (k:Nat):List D->Bool
 | []=>true
 | d::ds=>bd k d&&bds k ds
end
mutual
theorem bd_mono {k k':Nat}(h:k<=k'):∀ {d:D},bd k d=true->bd k' d=true
 | .tup xs,q=>by
  rw [bd,bA1,decide_eq_true_eq] at q;rw [bd,bds_mono h q.2,decide_eq_true (by lia)];rfl
 | .non,_=>by rw [bd]
 | .bl _,_=>by rw [bd]
 | .int _,_=>by rw [bd]
 | .str _,_=>by rw [bd]
 | .rol _,q=>by simp [bd] at q
 | .ref _,_=>by rw [bd]
 | .fn _,q=>by simp [bd] at q
theorem bds_mono {k k':Nat}(h:k<=k'):∀ {ds:List D},bds k ds=true->bds k' ds=true
 | [],_=>by rw [bds]
 | d::ds,q=>by
  rw [bds,bA1] at q;rw [bds,bd_mono h q.1,bds_mono h q.2];rfl
end
theorem bds_is {k:Nat}:∀ xs:List D,bds k xs=xs.all (bd k)
 | []=>by rw [bds];rfl
 | x::xs=>by rw [bds,bds_is xs];rfl
theorem vds_is {S:Sto}:∀ xs:List D,vds S xs=xs.all (vd S)
 | []=>by rw [vds];rfl
 | x::xs=>by rw [vds,vds_is xs];rfl
theorem unds_is {n:Nat}:∀ xs:List D,D.unds n xs=xs.all (D.und n)
 | []=>rfl
 | x::xs=>by rw [D.unds,unds_is xs];rfl
structure Ok (k:Nat)(S:Sto)(d:D):Prop where
 v:vd S d=true
 u:d.und S.length=true
 b:bd k d=true
theorem Ok.tup {k:Nat}{S:Sto}{xs:List D}(hl:xs.length<=k)(h:∀ x∈xs,Ok k S x):Ok k S (.tup xs):=by
 refine ⟨?_,?_,?_⟩
 ·rw [vd,vds_is,List.all_eq_true];exact fun x hx=>(h x hx).v
 ·rw [D.und,unds_is,List.all_eq_true];exact fun x hx=>(h x hx).u
 ·rw [bd,bds_is,bA1,decide_eq_true_eq,List.all_eq_true];exact ⟨hl,fun x hx=>(h x hx).b⟩
theorem Ok.of {k:Nat}{S:Sto}{xs:List D}(h:Ok k S (.tup xs)):xs.length<=k /\ ∀ x∈xs,Ok k S x:=by
 obtain ⟨h1,h2,h3⟩:=h;rw [vd,vds_is,List.all_eq_true] at h1;rw [D.und,unds_is,List.all_eq_true] at h2;rw [bd,bds_is,bA1,decide_eq_true_eq,List.all_eq_true] at h3;exact ⟨h3.1,fun x hx=>⟨h1 x hx,h2 x hx,h3.2 x hx⟩⟩
theorem Ok.more {k k':Nat}{S:Sto}{d:D}(h:Ok k S d)(hk:k<=k'):Ok k' S d:=⟨h.v,h.u,bd_mono hk h.b⟩
mutual
theorem vd_bd {k:Nat}{S:Sto}:∀ {d:D},bd k d=true->d.und 0=true->vd S d=true
 | .non,_,_=>by rw [vd]
 | .bl _,_,_=>by rw [vd]
 | .int _,_,_=>by rw [vd]
 | .str _,_,_=>by rw [vd]
 | .tup xs,v,h=>by
  rw [D.und] at h;rw [bd,bA1] at v;rw [vd];exact vds_bd v.2 h
 | .rol xs,v,h=>by simp [bd] at v
 | .ref k,_,h=>by simp [D.und] at h
 | .fn x,v,_=>by simp [bd] at v
theorem vds_bd {k:Nat}{S:Sto}:∀ {ds:List D},bds k ds=true->D.unds 0 ds=true->vds S ds=true
 | [],_,_=>by rw [vds]
 | d::ds,v,h=>by
  rw [D.unds,bA1] at h;rw [bds,bA1] at v;rw [vds,vd_bd v.1 h.1,vds_bd v.2 h.2];rfl
end
theorem Ok.shut {k:Nat}{S:Sto}{d:D}(h:d.und 0=true)(hb:bd k d=true):Ok k S d:=⟨vd_bd hb h,und_mono h,hb⟩
theorem Ok.lst {k n:Nat}{S:Sto}{xs:List D}(h:S[n]? = some (.lst xs)):Ok k S (.ref n):=⟨by rw [vd,h],by rw [D.und,decide_eq_true_eq];exact (gE1.mp h).1,by rw [bd]⟩
theorem Ok.dct {k n:Nat}{S:Sto}{xs:List (Key×D)}(h:S[n]? = some (.dct xs)):Ok k S (.ref n):=⟨by rw [vd,h],by rw [D.und,decide_eq_true_eq];exact (gE1.mp h).1,by rw [bd]⟩
theorem Ok.nm {k:Nat}{S:Sto}{rs:List Nat}(h:rs.length<=k):Ok k S (.tup (nmD rs)):=Ok.tup (by rw [nm_len];exact h) fun x hx=>by
 obtain ⟨i,_,rfl⟩:=List.mem_map.mp hx;exact .shut rfl (by rw [bd])
mutual
theorem vd_mono {S S':Sto}(h:∀ n,vd S (.ref n)=true->vd S' (.ref n)=true):∀ {d:D},vd S d=true->vd S' d=true
 | .non,_=>by rw [vd]
 | .bl _,_=>by rw [vd]
 | .int _,_=>by rw [vd]
 | .str _,_=>by rw [vd]
 | .tup xs,q=>by rw [vd] at q ⊢;exact vds_mono h q
 | .rol xs,q=>by rw [vd] at q ⊢;exact vds_mono h q
 | .ref n,q=>h n q
 | .fn x,q=>by simp [vd] at q
theorem vds_mono {S S':Sto}(h:∀ n,vd S (.ref n)=true->vd S' (.ref n)=true):∀ {ds:List D},vds S ds=true->vds S' ds=true
 | [],_=>by rw [vds]
 | d::ds,q=>by
  rw [vds,bA1] at q;rw [vds,vd_mono h q.1,vds_mono h q.2];rfl
end
mutual
theorem vd_pre {A B:Sto}:∀ {d:D},vd (A++B) d=true->d.und A.length=true->vd A d=true
 | .non,_,_=>by rw [vd]
 | .bl _,_,_=>by rw [vd]
 | .int _,_,_=>by rw [vd]
 | .str _,_,_=>by rw [vd]
 | .tup xs,q,u=>by rw [vd] at q ⊢;rw [D.und] at u;exact vds_pre q u
 | .rol xs,q,u=>by rw [vd] at q ⊢;rw [D.und] at u;exact vds_pre q u
 | .ref n,q,u=>by
  rw [D.und,decide_eq_true_eq] at u;rw [vd] at q ⊢;rw [gL1 u] at q;exact q
 | .fn x,q,_=>by simp [vd] at q
theorem vds_pre {A B:Sto}:∀ {ds:List D},vds (A++B) ds=true->D.unds A.length ds=true->vds A ds=true
 | [],_,_=>by rw [vds]
 | d::ds,q,u=>by
  rw [vds,bA1] at q;rw [D.unds,bA1] at u;rw [vds,vd_pre q.1 u.1,vds_pre q.2 u.2];rfl
end
theorem hnd_lst {o:Ob}{n:Nat}(h:Hnd o n):∃ xs,o = .lst xs:=by
 obtain ⟨g,m,c,rfl,_⟩:=h;exact ⟨_,rfl⟩
theorem Ok.on {k n n':Nat}{o o':Ob}{T G:Sto}{d:D}(h:Ok k (o::T) d)(ho:Hnd o' n'):Ok k (o'::(T++G)) d:=by
 refine ⟨vd_mono (fun i hi=>?_) h.v,und_le (by simp) h.u,h.b⟩;obtain ⟨xs,rfl⟩:=hnd_lst ho;cases i with
 | zero=>rw [vd];rfl
 | succ i=>
  rw [vd,gC1] at hi ⊢;cases e:T[i]? with
  | none=>rw [e] at hi;cases hi
  | some x=>
   rw [gL1 (gE1.mp e).1,e];rw [e] at hi;exact hi
noncomputable abbrev ClT (T:Sto):Prop:=T.all (Ob.und (T.length+1))=true
theorem callX {m k n':Nat}{f:FN}{ds:List D}{o:Ob}{T:Sto}{Q:D×Sto->Prop}(hn:ds.length=m)(hu:D.unds 0 ds=false)(hT:ClT T)
  (h:W (f ds (o::T)) fun p=>∃ x o' G,p=(x,o'::(T++G))/\Hnd o' n'/\ClT (T++G)/\Ok k (o'::(T++G)) x)
  (q:∀ x o' G,Hnd o' n'->ClT (T++G)->Ok k (o'::(T++G)) x->Q (x,o'::(T++G))):W (mCall m f ds (o::T)) Q:=by
 refine callW hn hu (h.mono ?_);rintro p ⟨x,o',G,rfl,ho,hc,hx⟩;unfold gc;split
 ·rename_i hg;have e:(o'::(T++G)).take (o::T).length=o'::(T++[]):=by rw [List.append_nil,lC1,List.take_succ_cons,List.take_left]
  rw [e];refine q x o' [] ho (by rw [List.append_nil];exact hT) ⟨?_,?_,hx.b⟩
  ·rw [bA1] at hg;rw [List.append_nil];refine vd_pre (A:=o'::T) (B:=G) (by rw [List.cons_append];exact hx.v) ?_;have:=hg.1
   rwa [lC1] at this
  ·rw [bA1] at hg;rw [List.append_nil];have:=hg.1
   rwa [lC1] at this
 ·exact q x o' G ho hc hx
theorem cl_app {T G:Sto}(h:ClT T)(hg:∀ o∈G,o.und ((T++G).length+1)=true):ClT (T++G):=by
 rw [ClT,List.all_eq_true] at h ⊢;intro o ho;rcases List.mem_append.mp ho with ho | ho
 ·exact obund_le (by rw [lA1];lia) (h o ho)
 ·exact hg o ho
noncomputable def EK (k:Nat)(r:Ev)(o:Ob)(T:Sto)(e:FE):Prop:=∀ G,ClT (T++G)->W (e r (o::(T++G))) fun p=>∃ G',p.2=o::(T++(G++G'))/\ClT (T++(G++G'))/\Ok k (o::(T++(G++G'))) p.1
noncomputable def AK (k:Nat)(r:Ev)(o:Ob)(T:Sto)(n:Nat)(a:FA):Prop:=∀ G,ClT (T++G)->W (a r (o::(T++G))) fun p=>∃ G',p.2=o::(T++(G++G'))/\ClT (T++(G++G'))/\p.1.length=n /\ ∀ x∈p.1,Ok k (o::(T++(G++G'))) x
section
variable {k n N:Nat} {r:Ev} {o:Ob} {T:Sto} {e:FE} {a:FA} {d:D}
theorem ek_same (ho:Hnd o N)(h:∀ S,e r S=some (d,S))(hd:Ok k (o::T) d):EK k r o T e:=fun G hG=>by
 refine W.of (h _) ⟨[],by rw [List.append_nil],by rw [List.append_nil];exact hG,?_⟩;rw [List.append_nil];exact hd.on (n:=N) ho
theorem ak_nil:AK k r o T 0 mNil:=fun G hG=>W.of rfl ⟨[],by rw [List.append_nil],by rw [List.append_nil];exact hG,rfl,fun x h=>by cases h⟩
theorem ak_cons (ho:Hnd o N)(he:EK k r o T e)(ha:AK k r o T n a):AK k r o T (n+1) (mCons e a):=fun G hG=>by
 unfold mCons;rw [W_bind];refine (he G hG).mono ?_;rintro ⟨d,S⟩ ⟨G1,e1,h1,h2⟩;dsimp only at e1 h2 ⊢;subst e1;rw [W_bind];refine (ha (G++G1) h1).mono ?_;rintro ⟨l,S⟩ ⟨G2,e2,g1,g2,g3⟩;dsimp only at e2 g2 g3 ⊢;subst e2;rw [List.append_assoc] at g1 g3;refine W_some.mpr ⟨G1++G2,by rw [List.append_assoc],g1,by rw [lC1,g2],fun x hx=>?_⟩;rcases List.mem_cons.mp hx with z | z
 ·rw [z];have:=h2.on (n:=N) (G:=G2) ho
  rwa [List.append_assoc,List.append_assoc] at this
 ·exact g3 x z
theorem ek_tup (ha:AK k r o T n a)(hn:n<=k)(hk:k<=1000):EK k r o T (mTup a):=fun G hG=>by
 rw [W_mTup];refine (ha G hG).mono ?_;rintro ⟨l,S⟩ ⟨G1,e1,h1,h2,h3⟩;dsimp only at e1 h2 h3 ⊢;subst e1;exact ⟨fits_le (by lia),G1,rfl,h1,.tup (by lia) h3⟩
theorem ok_und {k:Nat}{S:Sto}{L:List D}(h:∀ x∈L,Ok k S x):D.unds S.length L=true:=by rw [unds_is,List.all_eq_true];exact fun x hx=>(h x hx).u
theorem cl_lst (hT:ClT T){L:List D}(h:∀ x∈L,Ok k (o::T) x):ClT (T++[.lst L]):=cl_app hT fun x hx=>by
 rw [List.mem_singleton.mp hx,Ob.und];refine unds_le ?_ (ok_und h);simp
theorem lst_W (ha:AK k r o T n a)(hn:n<=1000)(G:Sto)(hG:ClT (T++G)):W (mLst a r (o::(T++G))) fun p=>∃ G' L,p=(.ref (T++(G++G')).length.succ,o::(T++(G++G')++[.lst L]))/\ClT (T++(G++G')++[.lst L])/\L.length=n /\ ∀ x∈L,Ok k (o::(T++(G++G'))) x:=by
 rw [W_mLst];refine (ha G hG).mono ?_;rintro ⟨l,S⟩ ⟨G1,e1,h1,h2,h3⟩;dsimp only at e1 h2 h3 ⊢;subst e1;exact ⟨fits_le (by lia),G1,l,rfl,cl_lst h1 h3,h2,h3⟩
theorem ek_lst (ho:Hnd o N)(ha:AK k r o T n a)(hn:n<=1000):EK k r o T (mLst a):=fun G hG=>by
 refine (lst_W ha hn G hG).mono ?_;rintro p ⟨G1,L,rfl,h1,h2,h3⟩;refine ⟨G1++[.lst L],by simp,by simpa using h1,.lst (xs:=L) ?_⟩;rw [Nat.succ_eq_add_one,gC1,show T++(G++(G1++[Ob.lst L]))=(T++(G++G1))++[Ob.lst L] by simp,get_app0];rfl
theorem ek_c (ho:Hnd o N)(h:d.und 0=true)(hb:bd k d=true):EK k r o T (mC d):=ek_same ho (fun _=>rfl) (.shut h hb)
end
theorem mapD {c:List (Nat×List D)}{g:FG}{t:FT}{e:FE}{S:Sto}{Q:List D×Ev×Sto->Prop}(F:D->D)(P:Ev->Prop)(hok:okC S c=true)(xs:List D)(r:Ev)(hr:P r)
  (h:∀ a∈xs,∀ r,P r->W (g a r S) fun p=>W (t p.1 p.2) fun b=>b.1=true/\W (e p.1 b.2) fun x=>x.1=F a/\x.2=S/\P p.1)
  (q:∀ r',P r'->Q (xs.map F,r',S)):W (loopF c g t (fEmit e) xs r S) Q:=by
 have:=mapW (f:=id) F P hok xs r hr h q
 rwa [List.map_id] at this
noncomputable def qf (y e:D):Bool:=if flatD y=true then (eqF y e).getD false else false
noncomputable def fq (e y:D):Bool:=qf y e
theorem vd_ref {S:Sto}{k:Nat}(h:vd S (.ref k)=true):(∃ xs,S[k]? = some (.lst xs))\/(seqOf S (.ref k)=none/\isDc S (.ref k)=true):=by
 rw [vd] at h;split at h
 ·rename_i xs e;exact .inl ⟨xs,e⟩
 ·rename_i xs e;exact .inr ⟨by rw [seqOf,e],by rw [isDc,e]⟩
 ·rename_i xs e;exact .inr ⟨by rw [seqOf,e],by rw [isDc,e]⟩
 ·cases h
theorem flat_seq {S:Sto}{e:D}(h:flatD e=true):seqOf S e=none/\isDc S e=false:=by
 cases e<;>first | exact ⟨rfl,rfl⟩ | cases h
theorem eqF_tot {a b:D}(ha:flatD a=true)(hb:flatD b=true):eqF a b=some ((eqF a b).getD false):=by
 cases a<;>cases b<;>first | rfl | (simp [flatD] at ha;done) | (simp [flatD] at hb;done)
theorem eq_ef {S:Sto}{n:Nat}{e y:D}(hf:flatD e=true)(hv:vd S y=true):eqN S (n+1) y e=some (qf y e):=by
 obtain ⟨h1,h2⟩:=flat_seq (S:=S) hf;have plain:flatD y=true->eqN S (n+1) y e=some (qf y e):=fun hy=>by
  obtain ⟨h3,h4⟩:=flat_seq (S:=S) hy;rw [eqN,h1,h3];have e1:eqO S y e=eqF y e:=by unfold eqO;rw [h2,h4]
  show eqO S y e=_;rw [e1];unfold qf;rw [if_pos hy];exact eqF_tot hy hf
 cases y with
 | tup xs=>rw [eqN,h1];show (if flatD e=true then _ else _)=_;rw [if_pos hf];rfl
 | rol xs=>rw [eqN,h1];show (if flatD e=true then _ else _)=_;rw [if_pos hf];rfl
 | fn x=>simp [vd] at hv
 | ref k=>
  rcases vd_ref hv with ⟨xs,h⟩ | ⟨h3,h4⟩
  ·rw [eqN,h1,seqOf,h];show (if flatD e=true then _ else _)=_;rw [if_pos hf];rfl
  ·rw [eqN,h1,h3];show eqO S _ e=_;unfold eqO;rw [h2,h4];show (if flatD e=true then _ else _)=_;rw [if_pos hf];rfl
 | _=>exact plain rfl
theorem inL_fe {S:Sto}{n:Nat}{e:D}(hf:flatD e=true):∀ {xs:List D},vds S xs=true->inL (eqN S (n+1)) e xs=some (xs.any (fq e))
 | [],_=>rfl
 | x::xs,hv=>by
  rw [vds,bA1] at hv;rw [inL,eq_ef hf hv.1,inL_fe hf hv.2];rfl
theorem in_tup {S:Sto}{e:D}{xs:List D}(hf:flatD e=true)(hv:vds S xs=true):gInY e (.tup xs) S=some (.bl (xs.any (fq e)),S):=by
 show (Option.bind (seqOf S (.tup xs)) fun p=>(inL (eqN S deepMost) e p.2).map fun b=>(D.bl b,S))=_;show ((inL (eqN S deepMost) e xs).map fun b=>(D.bl b,S))=_;rw [show deepMost=59+1 from rfl,inL_fe hf hv];rfl
theorem callS {n:Nat}{f:FN}{ds:List D}{S:Sto}{Q:D×Sto->Prop}(hn:ds.length=n)(hu:D.unds 0 ds=false)(hS:Shut S)
  (h:W (f ds S) fun p=>(∃ G,p.2=S++G)/\p.1.und 0=true/\Q (p.1,S)):W (mCall n f ds S) Q:=by
 refine callW hn hu (h.mono ?_);rintro ⟨d,V⟩ ⟨⟨G,e⟩,hd,q⟩;dsimp only at e hd q;subst e;rw [gc_app hd hS];exact q
theorem rise_is {f:Nat->D}{m:Nat}{y:D}{rs:List Nat}{T:Sto}(hm:∀ r∈rs,r<m)(hlt:∀ i j,i<m->j<m->gLt (f i) (f j) T=some (.bl (decide (i<j)),T))(hl:rs.length<=1000)
  (hlen:gLen y T=some (.int rs.length,T)) (hix:∀ (i:Nat) (h:i<rs.length),gIxY y (.int (i:Nat)) T=some (f rs[i],T)):W (m_is_rising [y] T) fun p=>(∃ G,p.2=T++G)/\p.1 = .bl (inc rs):=by
 unfold m_is_rising;refine fnW ?_;unfold b_is_rising
 ((try walk_at "own wq");repeat (simp only [hlen];try walk_at "own wq"))
 refine ⟨bnd_of (by lia) (by lia),?_⟩;rw [nums0,show ((rs.length:Int)-1).toNat=rs.length-1 by lia];refine mapW (f:=fun j:Nat=>D.int j) (fun i=>D.bl (decide (rs.getD i 0<rs.getD (i+1) 0))) (fun r'=>∃ x,r'=[x,some y]) rfl (List.range (rs.length-1)) _ ⟨_,rfl⟩ ?_ ?_
 ·rintro i hi r' ⟨x,rfl⟩;have hi:=List.mem_range.mp hi;have h1:i<rs.length:=by lia
  have h2:i+1<rs.length:=by lia
  ((try walk_at "own wq");repeat (simp only [hix i h1];try walk_at "own wq"))
  rw [show ((i:Int)+1)=((i+1:Nat):Int) by push_cast;rfl]
  ((try walk_at "own wq");repeat (simp only [hix (i+1) h2,hlt _ _ (hm _ (List.getElem_mem h1)) (hm _ (List.getElem_mem h2))];try walk_at "own wq"))
  refine ⟨?_,_,rfl⟩;rw [List.getD_eq_getElem?_getD,List.getD_eq_getElem?_getD,gG1 h1,gG1 h2];rfl
 ·rintro r' _;refine ⟨fits_le (by rw [lM1,List.length_range];lia),?_⟩;walk_at "own wq";have ea:gAll (.ref T.length) (T++[.lst ((List.range (rs.length-1)).map fun i=>D.bl (decide (rs.getD i 0<rs.getD (i+1) 0)))])=some (.bl (inc rs),T++[.lst ((List.range (rs.length-1)).map fun i=>D.bl (decide (rs.getD i 0<rs.getD (i+1) 0)))]):=by
   unfold gAll;rw [seq_ref (n:=T.length) (xs:=(List.range (rs.length-1)).map fun i=>D.bl (decide (rs.getD i 0<rs.getD (i+1) 0))) (by rw [get_app0];rfl),oS1];dsimp only;rw [allB_all];rfl
  ((try walk_at "own wq");repeat (simp only [ea];try walk_at "own wq"))
  exact ⟨⟨_,rfl⟩,trivial⟩
theorem ix_map {f:Nat->D}{rs:List Nat}{T:Sto}(i:Nat)(h:i<rs.length):gIxY (.tup (rs.map f)) (.int (i:Nat)) T=some (f rs[i],T):=ix_tup (by rw [gP1,gG1 h];rfl)
theorem rise_W {f:Nat->D}{m:Nat}{rs:List Nat}{S:Sto}{Q:D×Sto->Prop}(hu:∀ i,(f i).und 0=true)(hm:∀ r∈rs,r<m)(hlt:∀ i j,i<m->j<m->gLt (f i) (f j) []=some (.bl (decide (i<j)),[]))(hl:rs.length<=1000)
  (q:Q (.bl (inc rs),S)):W (mCall 1 m_is_rising [.tup (rs.map f)] S) Q:=by
 refine callP rfl (by rw [D.unds,D.und,unds_map hu];rfl) ?_;refine (rise_is hm hlt hl ?_ (fun i h=>ix_map i h)).mono ?_
 ·simp [gLen,seqOf]
 ·rintro ⟨d,V⟩ ⟨_,e⟩;dsimp only at e;subst e;exact ⟨rfl,q⟩
theorem pw_ext:∀ {l m:List Nat},l.Pairwise (· < ·)->m.Pairwise (· < ·)->(∀ x,x∈l↔x∈m)->l=m
 | [],[],_,_,_=>rfl
 | [],b::m,_,_,h=>by have:=(h b).mpr mS1;cases this
 | a::l,[],_,_,h=>by have:=(h a).mp mS1;cases this
 | a::l,b::m,hl,hm,h=>by
  rw [List.pairwise_cons] at hl hm;have e:a=b:=by
   rcases List.mem_cons.mp ((h a).mp mS1) with z | z
   ·exact z
   ·rcases List.mem_cons.mp ((h b).mpr mS1) with y | y
    ·exact y.symm
    ·have:=hm.1 a z;have:=hl.1 b y;lia
  subst e;rw [pw_ext hl.2 hm.2 fun x=>?_];constructor
  ·intro hx;rcases List.mem_cons.mp ((h x).mp (mC1 _ hx)) with z | z
   ·have:=hl.1 x hx;lia
   ·exact z
  ·intro hx;rcases List.mem_cons.mp ((h x).mpr (mC1 _ hx)) with z | z
   ·have:=hm.1 x hx;lia
   ·exact z
theorem inc_of {rs:List Nat}(h:rs.Pairwise (· < ·)):inc rs=true:=by
 unfold inc;rw [List.all_eq_true];intro i hi;have hi:=List.mem_range.mp hi;have h1:i<rs.length:=by lia
 have h2:i+1<rs.length:=by lia
 rw [decide_eq_true_eq,List.getD_eq_getElem?_getD,List.getD_eq_getElem?_getD,gG1 h1,gG1 h2];exact List.pairwise_iff_getElem.mp h i (i+1) h1 h2 (by lia)
theorem map_inj_on {f:Nat->D}{n:Nat}(hf:∀ i j,i<n->j<n->f i=f j->i=j):∀ {l m:List Nat},(∀ x∈l,x<n)->(∀ x∈m,x<n)->l.map f=m.map f->l=m
 | [],[],_,_,_=>rfl
 | [],_::_,_,_,h=>by cases h
 | _::_,[],_,_,h=>by cases h
 | a::l,b::m,hl,hm,h=>by
  rw [mP1,mP1] at h;injection h with h1 h2;rw [hf a b (hl a mS1) (hm b mS1) h1,map_inj_on hf (fun x hx=>hl x (mC1 _ hx)) (fun x hx=>hm x (mC1 _ hx)) h2]
noncomputable def ord (ws xs:List D):Bool:=tf (xs=ws.filter fun w=>tf (w∈xs))
theorem inc_ord {f:Nat->D}{n:Nat}(hf:∀ i j,i<n->j<n->f i=f j->i=j){rs:List Nat}(hr:∀ r∈rs,r<n):inc rs=ord ((List.range n).map f) (rs.map f):=by
 have e:((List.range n).map f).filter (fun w=>tf (w∈rs.map f))=((List.range n).filter fun i=>tf (i∈rs)).map f:=by
  rw [List.filter_map]
  congr 1
  refine List.filter_congr fun i hi=>?_;have hi:=List.mem_range.mp hi;refine tf_i ⟨fun h=>?_,fun h=>List.mem_map.mpr ⟨i,h,rfl⟩⟩;obtain ⟨j,hj,e⟩:=List.mem_map.mp h;rw [<- hf j i (hr j hj) hi e];exact hj
 unfold ord;rw [e];refine tf_b ⟨fun h=>?_,fun h=>?_⟩
 ·congr 1
  refine pw_ext (inc_pw h) (List.Pairwise.filter _ List.pairwise_lt_range) fun x=>?_;rw [List.mem_filter,List.mem_range,tf_e];exact ⟨fun hx=>⟨hr x hx,hx⟩,fun hx=>hx.2⟩
 ·have h2:=map_inj_on hf hr (fun x hx=>List.mem_range.mp (List.mem_filter.mp hx).1) h;rw [h2];exact inc_of (List.Pairwise.filter _ List.pairwise_lt_range)
theorem any_fq {e:D}{xs:List D}(h:∀ x∈xs,(fq e x=true↔x=e)):xs.any (fq e)=tf (e∈xs):=tf_b ⟨fun z=>by
 obtain ⟨x,hx,hq⟩:=List.any_eq_true.mp z;rw [<- (h x hx).mp hq];exact hx,fun z=>List.any_eq_true.mpr ⟨e,z,(h e z).mpr rfl⟩⟩
theorem qf_str {s:Str}{x:D}:qf x (.str s)=true↔x = .str s:=by
 cases x with
 | str t=>show (t == s)=true↔_;rw [beq_iff_eq];exact ⟨fun h=>(by rw [h]),fun h=>(by injection h)⟩
 | _=>exact ⟨fun h=>(by cases h),fun h=>(by cases h)⟩
theorem fq_str {s:Str}{x:D}:fq (.str s) x=true↔x = .str s:=qf_str
noncomputable def isS:D->Bool
 | .str _=>true
 | _=>false
theorem ty_str {S:Sto}{d:D}(h:vd S d=true):isTy S .str d=some (isS d):=by
 cases d with
 | ref n=>
  rw [vd] at h;rw [isTy];split at h<;>first | (rename_i e;rw [e];rfl) | rfl | cases h
 | fn x=>simp [vd] at h
 | _=>rfl
theorem in_lst {S:Sto}{e:D}{n:Nat}{xs:List D}(hf:flatD e=true)(h:S[n]? = some (.lst xs))(hv:vds S xs=true):gInY e (.ref n) S=some (.bl (xs.any (fq e)),S):=by
 simp only [gInY,gInX,gIn,h,seqOf,oS1];rw [show deepMost=59+1 from rfl,inL_fe hf hv];rfl
theorem in_ty {ws:List D}(hs:∀ w∈ws,∃ s,w = .str s){d:D}(h:isS d=false):tf (d∈ws)=false:=tf_f fun z=>by
 obtain ⟨s,rfl⟩:=hs d z;cases h
theorem ey_str:∀ w∈wEy,∃ s,w=D.str s:=by
 intro w hw;simp only [wEy,List.mem_cons,List.not_mem_nil,or_false] at hw;rcases hw with z | z | z | z<;>exact ⟨_,z⟩
theorem ha_str:∀ w∈wHa,∃ s,w=D.str s:=by
 intro w hw;simp only [wHa,List.mem_cons,List.not_mem_nil,or_false] at hw;rcases hw with z | z | z<;>exact ⟨_,z⟩
theorem any_str {s:Str}{ws:List D}:ws.any (fq (.str s))=tf (D.str s∈ws):=any_fq fun _ _=>fq_str
theorem iseye_W {d:D}{S:Sto}{Q:D×Sto->Prop}(hS:Shut S)(hv:vd S d=true)(q:Q (.bl (tf (d∈wEy)),S)):W (mCall 1 m_is_eye [d] S) Q:=by
 refine callV rfl hS (vd1 hv) fun T hT hvT=>?_;have h1:=ty_str (vd1' hvT);unfold m_is_eye;refine fnW ?_;unfold b_is_eye;cases hs:isS d with
 | false=>
  ((try walk_at "own wq");repeat (simp only [mIsT,h1,hs];try walk_at "own wq"))
  rw [in_ty ey_str hs] at q;exact ⟨⟨[],(List.append_nil T).symm⟩,rfl,q⟩
 | true=>
  cases d with
  | str s=>
   ((try walk_at "own wq");repeat (simp only [mIsT,h1,hs];try walk_at "own wq"))
   unfold d_PARTS;refine sW_tup.mpr ?_;refine mapW (f:=fun p:Str×Int=>D.tup [.str p.1,.int p.2]) (fun p=>D.str p.1) (fun r=>∃ x y,r=[x,y]) rfl [("came",5),("chalk",2),("doors",5),("others",2)] _ ⟨_,_,rfl⟩ ?_ ?_
   ·rintro p hp r ⟨x,y,rfl⟩;walk_at "own wq";exact ⟨_,_,rfl⟩
   ·rintro r' _;refine ⟨fits_le (by simp),?_⟩;have hw:(T++[Ob.lst wEy])[T.length]? = some (.lst wEy):=by rw [get_app0];rfl
    have e1:([((Str.ofString "came"),(5:Int)),(Str.ofString "chalk",2),(Str.ofString "doors",5),(Str.ofString "others",2)].map fun p:Str×Int=>D.str p.1)=wEy:=rfl;rw [e1]
    ((try walk_at "own wq");repeat (simp only [in_lst (e:=.str s) rfl hw rfl,any_str];try walk_at "own wq"))
    exact ⟨⟨_,rfl⟩,rfl,q⟩
  | _=>cases hs
theorem ishand_W {d:D}{S:Sto}{Q:D×Sto->Prop}(hS:Shut S)(hv:vd S d=true)(q:Q (.bl (tf (d∈wHa)),S)):W (mCall 1 m_is_hand [d] S) Q:=by
 refine callV rfl hS (vd1 hv) fun T hT hvT=>?_;have h1:=ty_str (vd1' hvT);unfold m_is_hand;refine fnW ?_;unfold b_is_hand;cases hs:isS d with
 | false=>
  ((try walk_at "own wq");repeat (simp only [mIsT,h1,hs];try walk_at "own wq"))
  rw [in_ty ha_str hs] at q;exact ⟨⟨[],(List.append_nil T).symm⟩,rfl,q⟩
 | true=>
  cases d with
  | str s=>
   have e:gInY (.str s) d_HANDS T=some (.bl (wHa.any (fq (.str s))),T):=in_tup rfl rfl
   ((try walk_at "own wq");repeat (simp only [mIsT,h1,hs,e,any_str];try walk_at "own wq"))
   exact ⟨⟨[],(List.append_nil T).symm⟩,rfl,q⟩
  | _=>cases hs
noncomputable def fE (i:Nat):D:=wEy.getD i .non
theorem fE_und (i:Nat):(fE i).und 0=true:=by
 unfold fE;rw [List.getD_eq_getElem?_getD];cases h:wEy[i]? with
 | none=>rfl
 | some x=>obtain ⟨s,rfl⟩:=ey_str x (gM1 h);rfl
theorem c4 {P:Nat->Prop}(h0:P 0)(h1:P 1)(h2:P 2)(h3:P 3):∀ i,i<4->P i
 | 0,_=>h0
 | 1,_=>h1
 | 2,_=>h2
 | 3,_=>h3
 | i+4,h=>by lia
theorem c3 {P:Nat->Prop}(h0:P 0)(h1:P 1)(h2:P 2):∀ i,i<3->P i
 | 0,_=>h0
 | 1,_=>h1
 | 2,_=>h2
 | i+3,h=>by lia
theorem fE_lt:∀ i j,i<4->j<4->gLt (fE i) (fE j) []=some (.bl (decide (i<j)),[]):=fun i j hi hj=>by
 revert j
 refine c4 (P:=fun i=>∀ j,j<4->gLt (fE i) (fE j) []=some (.bl (decide (i<j)),[])) ?_ ?_ ?_ ?_ i hi<;>exact c4 (by kernel_rfl!) (by kernel_rfl!) (by kernel_rfl!) (by kernel_rfl!)
theorem inj_lt {f:Nat->D}{n:Nat}(h:∀ i j,i<n->j<n->gLt (f i) (f j) []=some (.bl (decide (i<j)),[])):∀ i j,i<n->j<n->f i=f j->i=j:=fun i j hi hj e=>by
 have h1:=h i j hi hj;have h2:=h j i hj hi;rw [e] at h1 h2;rw [h1] at h2;injection h2 with h2;injection h2 with h2;injection h2 with h2;by_cases z:i<j
 ·rw [decide_eq_true z,decide_eq_false (by lia)] at h2;cases h2
 ·by_cases z':j<i
  ·rw [decide_eq_false z,decide_eq_true z'] at h2;cases h2
  ·lia
theorem of_words {f:Nat->D}{n:Nat}:∀ {xs:List D},(∀ x∈xs,x∈(List.range n).map f) -> ∃ rs:List Nat,xs=rs.map f /\ ∀ r∈rs,r<n
 | [],_=>⟨[],rfl,fun r hr=>by cases hr⟩
 | x::xs,h=>by
  obtain ⟨i,hi,rfl⟩:=List.mem_map.mp (h x mS1);obtain ⟨rs,rfl,hr⟩:=of_words (xs:=xs) fun y hy=>h y (mC1 _ hy);refine ⟨i::rs,rfl,fun r hr'=>?_⟩;rcases List.mem_cons.mp hr' with z | z
  ·rw [z];exact List.mem_range.mp hi
  ·exact hr r z
theorem ord_not {ws xs:List D}(h:xs.all (fun x=>tf (x∈ws))=false):ord ws xs=false:=tf_f fun z=>by
 have:xs.all (fun x=>tf (x∈ws))=true:=List.all_eq_true.mpr fun x hx=>tf_t (by rw [z] at hx;exact (List.mem_filter.mp hx).1);rw [this] at h;cases h
noncomputable def ordD (ws:List D)(d:D):Bool:=match d with
 | .tup xs=>ord ws xs
 | _=>false
theorem is_tup {d:D}(h:isT d=true):∃ xs,d = .tup xs:=by
 cases d with
 | tup xs=>exact ⟨xs,rfl⟩
 | _=>cases h
theorem ord_tup {ws:List D}{d:D}(h:isT d=false):ordD ws d=false:=by
 cases d with
 | tup xs=>cases h
 | _=>rfl
theorem all_is {T:Sto}{xs:List D}{F:D->Bool}:gAll (.ref T.length) (T++[.lst (xs.map fun x=>D.bl (F x))])=some (.bl (xs.all F),T++[.lst (xs.map fun x=>D.bl (F x))]):=by
 unfold gAll;rw [seq_ref (n:=T.length) (xs:=xs.map fun x=>D.bl (F x)) (by rw [get_app0];rfl),oS1];dsimp only;rw [allB_all];rfl
theorem eyes_W {d:D}{S:Sto}{Q:D×Sto->Prop}(hS:Shut S)(hv:vd S d=true)(hl:∀ xs,d = .tup xs->xs.length<=1000)(q:Q (.bl (ordD wEy d),S)):W (mCall 1 m_are_eyes [d] S) Q:=by
 refine callV rfl hS (vd1 hv) fun T hT hvT=>?_;have hd:=vd1' hvT;have h1:=ty_tup hd;unfold m_are_eyes;refine fnW ?_;unfold b_are_eyes;cases ht:isT d with
 | false=>
  ((try walk_at "own wq");repeat (simp only [mIsT,h1,ht];try walk_at "own wq"))
  rw [ord_tup ht] at q;exact ⟨⟨[],(List.append_nil T).symm⟩,rfl,q⟩
 | true=>
  obtain ⟨xs,rfl⟩:=is_tup ht;have hlx:=hl xs rfl;rw [vd] at hd
  ((try walk_at "own wq");repeat (simp only [mIsT,h1,ht];try walk_at "own wq"))
  refine sW_tup.mpr ?_;refine mapD (fun x=>.bl (tf (x∈wEy))) (fun r=>∃ x,r=[x]) rfl xs _ ⟨_,rfl⟩ ?_ ?_
  ·rintro x hx r ⟨y,rfl⟩;walk_at "own wq";refine iseye_W hT (vds_in hd hx) ?_;exact ⟨rfl,rfl,_,rfl⟩
  ·rintro r' _;refine ⟨fits_le (by rw [lM1];lia),?_⟩
   ((try walk_at "own wq");repeat (simp only [all_is (F:=fun x=>tf (x∈wEy))];try walk_at "own wq"))
   cases ha:xs.all (fun x=>tf (x∈wEy)) with
   | false=>
    walk_at "own wq";have:ordD wEy (.tup xs)=false:=ord_not ha;rw [this] at q;exact ⟨⟨_,rfl⟩,rfl,q⟩
   | true=>
    walk_at "own wq";rw [List.all_eq_true] at ha;obtain ⟨rs,rfl,hr⟩:=of_words (n:=4) (f:=fE) fun x hx=>tf_e.mp (ha x hx);rw [lM1] at hlx;refine rise_W fE_und hr fE_lt hlx ?_;have:ordD wEy (.tup (rs.map fE))=inc rs:=(inc_ord (inj_lt fE_lt) hr).symm;rw [this] at q;exact ⟨⟨_,rfl⟩,rfl,q⟩
theorem shut_of {o:Ob}{n:Nat}{T:Sto}(ho:Hnd o n)(hT:ClT T):Shut (o::T):=by
 unfold Shut;rw [List.all_cons,ho.und,lC1];exact hT
theorem take1_W {n:Nat}{o:Ob}{T:Sto}{k:Int}{Q:D×Sto->Prop}(ho:Hnd o n)(hT:ClT T)(hn:n<=2^50)(hk:0<k)(hk2:k<1073741824)
  (q:∀ (d:Nat) o',Hnd o' (n+1)->(d:Int)<k->Q (.int d,o'::T)):W (mCall 2 m__law_take [.ref 0,.int k] (o::T)) Q:=by
 have s:HZ n (o::T) (o::T):=⟨by simp,nR1 _,fun _ _ _=>rfl,⟨o,rfl,ho⟩,shut_of ho hT⟩;refine take_W s hn hk hk2 fun d U' a a' l hd=>?_;obtain ⟨o',e,ho'⟩:=a.hand;have:U'=o'::T:=by
  refine List.ext_getElem? fun i=>?_;cases i with
  | zero=>rw [e];rfl
  | succ i=>
   by_cases hi:i+1<(o::T).length
   ·rw [a'.same (i+1) (by lia) hi];rfl
   ·rw [List.getElem?_eq_none (by lia),List.getElem?_eq_none (by simpa using hi)]
 subst this;exact q d o' ho' hd
theorem W_m2 {f:FN}{a b:FE}{r:Ev}{S:Sto}{Q:D×Sto->Prop}(h:W (a r S) fun p=>W (b r p.2) fun q=>W (f [p.1,q.1] q.2) Q):W (m2 f a b r S) Q:=by
 unfold m2;rw [W_bind];exact h.mono fun p hp=>by rw [W_bind];exact hp
section
variable {k n m N:Nat} {r:Ev} {o:Ob} {T:Sto} {a:FA} {d:D} {S:Sto}
end
theorem seqR {a b:FS}{r:Ev}{S:Sto}{Q:Fl×Ev×Sto->Prop}(h:W (a r S) fun p=>match p.1 with
  | .rt d=>Q (.rt d,p.2)
  | _=>False):W (mSeq a b r S) Q:=by
 refine seqWR (h.mono ?_);rintro ⟨f,p⟩ q;cases f with
 | rt d=>exact .inr ⟨d,rfl,q⟩
 | _=>cases q
theorem ifR {c:FT}{e:FE}{k:FS}{r:Ev}{T:Sto}{Q:Fl×Ev×Sto->Prop}(C:Bool->Sto->Prop)(hc:W (c r T) fun p=>C p.1 p.2)(h1:∀ V,C true V->W (e r V) fun p=>Q (.rt p.1,r,p.2))(h0:∀ V,C false V->W (k r V) Q):W (mSeq (mIfS c (mRet e) mNx) k r T) Q:=by
 obtain ⟨⟨b,V⟩,ec,hC⟩:=hc;dsimp only at hC;cases b with
 | true=>
  obtain ⟨p,ee,hq⟩:=h1 V hC;refine ⟨(.rt p.1,r,p.2),?_,hq⟩;simp only [mSeq,mIfS,mRet,ec,ee,oS1,if_true]
 | false=>
  obtain ⟨p,ek,hq⟩:=h0 V hC;refine ⟨p,?_,hq⟩;simp only [mSeq,mIfS,mNx,ec,oS1,bF1,if_false];exact ek
theorem choose_W {k n c:Nat}{r:Ev}{o:Ob}{T:Sto}{a:FA}{Q:D×Sto->Prop}(ho:Hnd o n)(hn:n<=2^40)(hT:ClT T)(h0:r[0]? = some (some (.ref 0)))(ha:AK k r o T c a)(hc0:0<c)(hc:c<=100)
  (q:∀ x o' G,Hnd o' (n+1)->ClT (T++G)->Ok k (o'::(T++G)) x->Q (x,o'::(T++G))):W (m2 (b2 gIxY) (mLst a) (mN (mCall 2 m__law_take) (mCons (mV 0) (mCons (mC (D.int (c:Nat))) mNil))) r (o::T)) Q:=by
 refine W_m2 ?_;have:=lst_W ha (by lia) [] (by rw [List.append_nil];exact hT);rw [List.append_nil] at this;refine this.mono ?_;rintro p ⟨G1,L,rfl,g1,g2,g3⟩;rw [List.nil_append] at g1 g3;have e0:∀ S:Sto,mV 0 r S=some (.ref 0,S):=fun S=>by unfold mV;rw [h0]
 unfold mN mCons;simp only [e0,mNil,mC,oS1,List.nil_append];refine take1_W ho g1 (by lia) (by lia) (by lia) fun d o1 ho1 hd=>?_;have hd':d<L.length:=by lia
 unfold b2;refine W_ixL (i:=d) (x:=L[d]) (xs:=L) ?_ (gG1 hd') ?_
 ·rw [Nat.succ_eq_add_one,gC1,get_app0];rfl
 have:=q L[d] o1 (G1++[Ob.lst L]) ho1 (by rw [<- List.append_assoc];exact g1) (by
  have:=(g3 _ (List.getElem_mem hd')).on (n:=n+1) (G:=[Ob.lst L]) ho1
  rwa [List.append_assoc] at this)
 rwa [<- List.append_assoc] at this
theorem eq_nil {xs:List D}{S:Sto}:gEq (.tup xs) (.tup []) S=some (.bl xs.isEmpty,S):=by
 cases xs<;>rfl
theorem cutT (xs:List D)(k:Nat):Mi.cutD xs none (some (k:Int))=xs.take k:=by
 unfold Mi.cutD;rw [HT.sIx_none,HT.sIx_nat,List.drop_zero,Nat.sub_zero];by_cases h:k<=xs.length
 ·rw [Nat.min_eq_left h]
 ·rw [Nat.min_eq_right (by lia),List.take_length,List.take_of_length_le (by lia)]
theorem cutU (xs:List D)(k:Nat):Mi.cutD xs (some (k:Int)) none=xs.drop k:=by
 unfold Mi.cutD;rw [HT.sIx_none,HT.sIx_nat];by_cases h:k<=xs.length
 ·rw [Nat.min_eq_left h,List.take_of_length_le (by simp)]
 ·rw [Nat.min_eq_right (by lia),List.drop_length,List.drop_of_length_le (by lia)];simp
theorem Ok.cast {k:Nat}{S S':Sto}{d:D}(h:Ok k S d)(e:S=S'):Ok k S' d:=e ▸ h
theorem nb_t:∀ {b:Bool},true=(!b)->b=false
 | false,_=>rfl
theorem nb_f:∀ {b:Bool},false=(!b)->b=true
 | true,_=>rfl
theorem W_orT {a b:FE}{r:Ev}{S:Sto}{Q:D×Sto->Prop}:W (mOrT a b r S) Q↔W (a r S) fun p=>W (truD p.2 p.1) fun k=>if k=true then Q p else W (b r p.2) Q:=by
 unfold mOrT;rw [W_bind];simp only [W_bind,W_ite,W_some]
theorem W_iZp {m:FA}{r:Ev}{S:Sto}{xs ys:List D}{Q:Itm×Sto->Prop}(hm:m r S=some ([.tup xs,.tup ys],S))(q:Q (⟨zpD xs ys,[]⟩,S)):W (iZp m r S) Q:=by
 refine W.of (x:=(⟨zpD xs ys,[]⟩,S)) ?_ q;unfold iZp;rw [hm];rfl
noncomputable def tnD (n:Nat):D->Bool
 | .tup xs=>decide (xs.length=n)
 | _=>false
theorem tupn_W {n:Nat}{d:D}{S:Sto}{Q:D×Sto->Prop}(hS:Shut S)(hv:vd S d=true)(q:Q (.bl (tnD n d),S)):W (mCall 2 m_is_tuple_of [d,.int (n:Nat)] S) Q:=by
 refine callV rfl hS (by rw [vds,hv,vds,vds,vd];rfl) fun T _ hT=>?_;have h1:=ty_tup (vd1' hT);unfold m_is_tuple_of;refine fnW ?_;unfold b_is_tuple_of
 ((try walk_at "own wq");repeat (simp only [mIsT,h1];try walk_at "own wq"))
 cases d with
 | tup xs=>
  ((try walk_at "own wq");repeat (simp only [isT];try walk_at "own wq"))
  refine ⟨⟨[],(List.append_nil T).symm⟩,rfl,?_⟩;have e:(((xs.length:Nat):Int) == (n:Int))=tnD n (.tup xs):=by rw [tnD,Bool.eq_iff_iff,beq_iff_eq,decide_eq_true_eq];lia
  rw [e];exact q
 | _=>exact ⟨⟨[],(List.append_nil T).symm⟩,rfl,q⟩
theorem tn_is {n:Nat}{d:D}(h:tnD n d=true):∃ xs,d = .tup xs/\xs.length=n:=by
 cases d with
 | tup xs=>exact ⟨xs,rfl,of_decide_eq_true h⟩
 | _=>cases h
theorem len2 {xs:List D}(h:xs.length=2):∃ a b,xs=[a,b]:=by
 match xs,h with
 | [a,b],_=>exact ⟨a,b,rfl⟩
theorem len3 {xs:List D}(h:xs.length=3):∃ a b c,xs=[a,b,c]:=by
 match xs,h with
 | [a,b,c],_=>exact ⟨a,b,c,rfl⟩
theorem len4 {xs:List D}(h:xs.length=4):∃ a b c d,xs=[a,b,c,d]:=by
 match xs,h with
 | [a,b,c,d],_=>exact ⟨a,b,c,d,rfl⟩
noncomputable def inE (ws:List D)(i:Nat):Bool:=tf (fE i∈ws)
noncomputable def ptB (b:Bool)(m:Nat)(x:D):Bool:=if b=true then belD m x else isNon x
noncomputable def sightB (ws:List D):D->Bool
 | .tup [x,y,z,w]=>ptB (inE ws 0) 5 x&&(ptB (inE ws 1) 2 y&&(ptB (inE ws 2) 5 z&&ptB (inE ws 3) 2 w))
 | _=>false
theorem sight_no {ws:List D}{d:D}(h:tnD 4 d=false):sightB ws d=false:=by
 unfold sightB;split
 ·cases h
 ·rfl
noncomputable def deedB:D->Bool
 | .tup [m,h,s]=>belD 4000 m&&(tf (h∈wHa)&&(isNon s||belD 4 s))
 | _=>false
theorem deed_no {d:D}(h:tnD 3 d=false):deedB d=false:=by
 unfold deedB;split
 ·cases h
 ·rfl
noncomputable def keyB (ws:List D):D->Bool
 | .tup [m,s]=>belD 4000 m&&sightB ws s
 | _=>false
theorem key_no {ws:List D}{d:D}(h:tnD 2 d=false):keyB ws d=false:=by
 unfold keyB;split
 ·cases h
 ·rfl
noncomputable def rowB (ws:List D):D->Bool
 | .tup [k,d]=>keyB ws k&&deedB d
 | _=>false
theorem row_no {ws:List D}{d:D}(h:tnD 2 d=false):rowB ws d=false:=by
 unfold rowB;split
 ·cases h
 ·rfl
theorem vd_tup {S:Sto}{xs:List D}(h:vd S (.tup xs)=true):vds S xs=true:=by rw [vd] at h;exact h
noncomputable def pzB (ws:List D):D->Bool
 | .tup [p,.tup [e,.int m]]=>ptB (tf (e∈ws)) m.toNat p
 | _=>false
theorem issight_W {ws:List D}{d:D}{S:Sto}{Q:D×Sto->Prop}(hS:Shut S)(hw:vds S ws=true)(hv:vd S d=true)(q:Q (.bl (sightB ws d),S)):W (mCall 2 m_is_sight [.tup ws,d] S) Q:=by
 refine callV rfl hS (by rw [vds,vd,hw,vds,hv,vds];rfl) fun T hT hvT=>?_;have hd:vd T d=true:=vds_in hvT (by simp);have hw:vds T ws=true:=vd_tup (vds_in hvT (by simp));unfold m_is_sight;refine fnW ?_;unfold b_is_sight;refine ifR (fun b V=>b=(!tnD 4 d)/\V=T) ?_ ?_ ?_
 ·((try walk_at "own wq");repeat (simp only [d_PARTS];try walk_at "own wq"))
  refine tupn_W (n:=4) hT hd ?_;walk_at "own wq"
 ·rintro V ⟨hb,rfl⟩;have ht:tnD 4 d=false:=nb_t hb;rw [sight_no ht] at q;walk_at "own wq";exact ⟨⟨[],(List.append_nil V).symm⟩,rfl,q⟩
 ·rintro V ⟨hb,rfl⟩;have ht:tnD 4 d=true:=nb_f hb;obtain ⟨xs,rfl,hl⟩:=tn_is ht;obtain ⟨x,y,z,w,rfl⟩:=len4 hl
  ((try walk_at "own wq");repeat (simp only [d_PARTS];try walk_at "own wq"))
  refine W_iZp (xs:=[x,y,z,w]) (ys:=[.tup [.str "came",.int 5],.tup [.str "chalk",.int 2],.tup [.str "doors",.int 5],.tup [.str "others",.int 2]]) rfl ?_;have hx:∀ p∈[x,y,z,w],vd V p=true:=fun p hp=>vds_in (vd_tup hd) hp;have step:∀ (p:D) (s:Str) (m:Nat) (r:Ev),vd V p=true->(∃ a b c,r=[a,b,c,some (.tup ws)])->W (gT 2 (gCs (gN 0) (gCs (gT 2 (gCs (gN 1) (gCs (gN 2) gNl))) gNl)) (.tup [p,.tup [.str s,.int (m:Nat)]]) r V) fun q=>W (mTrue q.1 q.2) fun b=>b.1=true/\W (mIf (mB (m2 (b2 gInY) (mV 1) (mV 3))) (mN (mCall 2 m_is_below) (mCons (mV 0) (mCons (mV 2) mNil))) (m2 (b2 gIsX) (mV 0) (mC D.non)) q.1 b.2) fun x=>x.1=D.bl (pzB ws (.tup [p,.tup [.str s,.int (m:Nat)]]))/\x.2=V /\ ∃ a b c,q.1=[a,b,c,some (.tup ws)]:=by
   rintro p s m r hp ⟨a,b,c,rfl⟩;have e:gInY (.str s) (.tup ws) V=some (.bl (tf (D.str s∈ws)),V):=by rw [in_tup rfl hw,any_str]
   ((try walk_at "own wq");repeat (simp only [e];try walk_at "own wq"))
   cases ht:tf (D.str s∈ws) with
   | true=>
    rw [if_pos rfl];refine below_W hT hp ?_;refine ⟨by rw [pzB,ht];rfl,rfl,_,_,_,rfl⟩
   | false=>
    rw [if_neg (by decide)];refine W.of (x:=(.bl (isNon p),V)) rfl ⟨by rw [pzB,ht];rfl,rfl,_,_,_,rfl⟩
  refine mapD (fun p=>.bl (pzB ws p)) (fun r=>∃ a b c,r=[a,b,c,some (.tup ws)]) rfl _ _ ⟨_,_,_,rfl⟩ ?_ ?_
  ·intro p hp r hr;simp only [zpD,List.mem_cons,List.not_mem_nil,or_false] at hp;rcases hp with rfl | rfl | rfl | rfl
   ·exact step x "came" 5 r (hx _ (by simp)) hr
   ·exact step y "chalk" 2 r (hx _ (by simp)) hr
   ·exact step z "doors" 5 r (hx _ (by simp)) hr
   ·exact step w "others" 2 r (hx _ (by simp)) hr
  ·rintro r' _;refine ⟨fits_le (by rw [lM1];simp [zpD]),?_⟩
   ((try walk_at "own wq");repeat (simp only [all_is (F:=pzB ws)];try walk_at "own wq"))
   refine ⟨⟨_,rfl⟩,rfl,?_⟩;have e:(zpD [x,y,z,w] [.tup [.str "came",.int 5],.tup [.str "chalk",.int 2],.tup [.str "doors",.int 5],.tup [.str "others",.int 2]]).all (pzB ws)=sightB ws (.tup [x,y,z,w]):=by
    simp only [zpD,List.all_cons,List.all_nil,Bool.and_true,sightB];rfl
   rw [e];exact q
theorem isdeed_W {d:D}{S:Sto}{Q:D×Sto->Prop}(hS:Shut S)(hv:vd S d=true)(q:Q (.bl (deedB d),S)):W (mCall 1 m_is_deed [d] S) Q:=by
 refine callV rfl hS (vd1 hv) fun T hT hvT=>?_;have hd:=vd1' hvT;unfold m_is_deed;refine fnW ?_;unfold b_is_deed;refine ifR (fun b V=>b=(!tnD 3 d)/\V=T) ?_ ?_ ?_
 ·walk_at "own wq";refine tupn_W (n:=3) hT hd ?_;walk_at "own wq"
 ·rintro V ⟨hb,rfl⟩;have ht:tnD 3 d=false:=nb_t hb;rw [deed_no ht] at q;walk_at "own wq";exact ⟨⟨[],(List.append_nil V).symm⟩,rfl,q⟩
 ·rintro V ⟨hb,rfl⟩;have ht:tnD 3 d=true:=nb_f hb;obtain ⟨xs,rfl,hl⟩:=tn_is ht;obtain ⟨m,h,s,rfl⟩:=len3 hl;have hx:∀ p∈[m,h,s],vd V p=true:=fun p hp=>vds_in (vd_tup hd) hp;rw [deedB] at q
  ((try walk_at "own wq");repeat (simp only [d_MOODS,d_STEPS];try walk_at "own wq"))
  refine below_W (m:=4000) hT (hx _ (by simp)) ?_;walk_at "own wq";cases h1:belD 4000 m with
  | false=>
   rw [h1] at q;exact ⟨⟨[],(List.append_nil V).symm⟩,rfl,q⟩
  | true=>
   rw [h1,Bool.true_and] at q;rw [if_pos rfl];refine ishand_W hT (hx _ (by simp)) ?_;walk_at "own wq";cases h2:tf (h∈wHa) with
   | false=>
    rw [h2] at q;exact ⟨⟨[],(List.append_nil V).symm⟩,rfl,q⟩
   | true=>
    rw [h2,Bool.true_and] at q;rw [if_pos rfl];have e:m2 (b2 gIsX) (mV 3) (mC D.non) [some (.tup [m,h,s]),some m,some h,some s] V=some (.bl (isNon s),V):=rfl;refine W_orT.mpr ?_;rw [e,W_some];walk_at "own wq";cases h3:isNon s with
    | true=>
     rw [h3] at q;exact ⟨⟨[],(List.append_nil V).symm⟩,rfl,q⟩
    | false=>
     rw [h3,Bool.false_or] at q;rw [if_neg (by decide)];refine below_W (m:=4) hT (hx _ (by simp)) ?_;exact ⟨⟨[],(List.append_nil V).symm⟩,rfl,q⟩
theorem iskey_W {ws:List D}{d:D}{S:Sto}{Q:D×Sto->Prop}(hS:Shut S)(hw:vds S ws=true)(hv:vd S d=true)(q:Q (.bl (keyB ws d),S)):W (mCall 2 m_is_key [.tup ws,d] S) Q:=by
 refine callV rfl hS (by rw [vds,vd,hw,vds,hv,vds];rfl) fun T hT hvT=>?_;have hd:vd T d=true:=vds_in hvT (by simp);have hw:vds T ws=true:=vd_tup (vds_in hvT (by simp));unfold m_is_key;refine fnW ?_;unfold b_is_key;walk_at "own wq";refine tupn_W (n:=2) hT hd ?_;walk_at "own wq";cases ht:tnD 2 d with
 | false=>
  rw [key_no ht] at q;exact ⟨⟨[],(List.append_nil T).symm⟩,rfl,q⟩
 | true=>
  obtain ⟨xs,rfl,hl⟩:=tn_is ht;obtain ⟨m,s,rfl⟩:=len2 hl;have hx:∀ p∈[m,s],vd T p=true:=fun p hp=>vds_in (vd_tup hd) hp;rw [if_pos rfl];rw [keyB] at q;refine W.of (x:=(m,T)) rfl ?_
  ((try walk_at "own wq");repeat (simp only [d_MOODS];try walk_at "own wq"))
  refine below_W (m:=4000) hT (hx _ (by simp)) ?_;walk_at "own wq";cases h1:belD 4000 m with
  | false=>
   rw [h1] at q;exact ⟨⟨[],(List.append_nil T).symm⟩,rfl,q⟩
  | true=>
   rw [h1,Bool.true_and] at q;rw [if_pos rfl];refine W.of (x:=(s,T)) rfl ?_;walk_at "own wq";refine issight_W hT hw (hx _ (by simp)) ?_;exact ⟨⟨[],(List.append_nil T).symm⟩,rfl,q⟩
theorem isrow_W {ws:List D}{d:D}{S:Sto}{Q:D×Sto->Prop}(hS:Shut S)(hw:vds S ws=true)(hv:vd S d=true)(q:Q (.bl (rowB ws d),S)):W (mCall 2 m_is_row [.tup ws,d] S) Q:=by
 refine callV rfl hS (by rw [vds,vd,hw,vds,hv,vds];rfl) fun T hT hvT=>?_;have hd:vd T d=true:=vds_in hvT (by simp);have hw:vds T ws=true:=vd_tup (vds_in hvT (by simp));unfold m_is_row;refine fnW ?_;unfold b_is_row;walk_at "own wq";refine tupn_W (n:=2) hT hd ?_;walk_at "own wq";cases ht:tnD 2 d with
 | false=>
  rw [row_no ht] at q;exact ⟨⟨[],(List.append_nil T).symm⟩,rfl,q⟩
 | true=>
  obtain ⟨xs,rfl,hl⟩:=tn_is ht;obtain ⟨m,s,rfl⟩:=len2 hl;have hx:∀ p∈[m,s],vd T p=true:=fun p hp=>vds_in (vd_tup hd) hp;rw [if_pos rfl];rw [rowB] at q;refine W.of (x:=(m,T)) rfl ?_;walk_at "own wq";refine iskey_W hT hw (hx _ (by simp)) ?_;walk_at "own wq";cases h1:keyB ws m with
  | false=>
   rw [h1] at q;exact ⟨⟨[],(List.append_nil T).symm⟩,rfl,q⟩
  | true=>
   rw [h1,Bool.true_and] at q;rw [if_pos rfl];refine W.of (x:=(s,T)) rfl ?_;walk_at "own wq";refine isdeed_W hT (hx _ (by simp)) ?_;exact ⟨⟨[],(List.append_nil T).symm⟩,rfl,q⟩
noncomputable def natD:D->Nat
 | .int i=>i.toNat
 | _=>0
noncomputable def kyOf:D->Ky
 | .tup [m,.tup [x,y,z,w]]=>⟨natD m,natD x,natD y,natD z,natD w⟩
 | _=>⟨0,0,0,0,0⟩
noncomputable def eOf (ws:List D):E4:=(inE ws 0,inE ws 1,inE ws 2,inE ws 3)
theorem bel_nat {m:Nat}{x:D}(h:belD m x=true):x = .int (natD x)/\natD x<m:=by
 cases x with
 | int i=>
  rw [belD,bA1,decide_eq_true_eq,decide_eq_true_eq] at h;exact ⟨by rw [natD,Int.toNat_of_nonneg h.1],by rw [natD];lia⟩
 | _=>cases h
theorem pt_is {b:Bool}{m:Nat}{x:D}(h:ptB b m x=true)(hm:m<=5):x=pt b (natD x)/\natD x<=4:=by
 unfold ptB at h;cases b with
 | true=>
  rw [if_pos rfl] at h;obtain ⟨e,hl⟩:=bel_nat h;exact ⟨e,by lia⟩
 | false=>
  rw [if_neg (by decide)] at h;cases x with
  | non=>exact ⟨rfl,Nat.zero_le _⟩
  | _=>cases h
theorem key_is {ws:List D}{d:D}(h:keyB ws d=true):d=(kyOf d).d (eOf ws)/\(kyOf d).Ok:=by
 unfold keyB at h;split at h
 ·rename_i m s;rw [bA1] at h;obtain ⟨h1,h2⟩:=h;unfold sightB at h2;split at h2
  ·rename_i x y z w;rw [bA1,bA1,bA1] at h2;obtain ⟨a1,a2,a3,a4⟩:=h2;obtain ⟨e0,l0⟩:=bel_nat h1;obtain ⟨e1,l1⟩:=pt_is a1 (by lia);obtain ⟨e2,l2⟩:=pt_is a2 (by lia);obtain ⟨e3,l3⟩:=pt_is a3 (by lia);obtain ⟨e4,l4⟩:=pt_is a4 (by lia);refine ⟨?_,l0,l1,l2,l3,l4⟩;show D.tup [m,.tup [x,y,z,w]] = .tup [.int (natD m),.tup [pt (inE ws 0) (natD x),pt (inE ws 1) (natD y),pt (inE ws 2) (natD z),pt (inE ws 3) (natD w)]];rw [<- e0];rw [<- e1,<- e2,<- e3,<- e4]
  ·cases h2
 ·cases h
noncomputable def codeR (ws:List D):D->Nat
 | .tup [k,_]=>(kyOf k).code (eOf ws)
 | _=>0
noncomputable def rowsB (ws:List D):D->Bool
 | .tup rows=>rows.all (rowB ws)&&inc (rows.map (codeR ws))
 | _=>false
noncomputable def machB:D->Bool
 | .tup [e,r]=>match e with
  | .tup ws=>ord wEy ws&&rowsB ws r
  | _=>false
 | _=>false
theorem rise_gen {α:Type}{y:D}{f:α->D}{c:α->Nat}{L:List α}{T:Sto}(hlt:∀ a∈L,∀ b∈L,gLt (f a) (f b) T=some (.bl (decide (c a<c b)),T))(hl:L.length<=1000)
  (hlen:gLen y T=some (.int L.length,T)) (hix:∀ (i:Nat) (h:i<L.length),gIxY y (.int (i:Nat)) T=some (f L[i],T)):W (m_is_rising [y] T) fun p=>(∃ G,p.2=T++G)/\p.1 = .bl (inc (L.map c)):=by
 unfold m_is_rising;refine fnW ?_;unfold b_is_rising
 ((try walk_at "own wq");repeat (simp only [hlen];try walk_at "own wq"))
 refine ⟨bnd_of (by lia) (by lia),?_⟩;rw [nums0,show ((L.length:Int)-1).toNat=L.length-1 by lia];refine mapW (f:=fun j:Nat=>D.int j) (fun i=>D.bl (decide ((L.map c).getD i 0<(L.map c).getD (i+1) 0))) (fun r'=>∃ x,r'=[x,some y]) rfl (List.range (L.length-1)) _ ⟨_,rfl⟩ ?_ ?_
 ·rintro i hi r' ⟨x,rfl⟩;have hi:=List.mem_range.mp hi;have h1:i<L.length:=by lia
  have h2:i+1<L.length:=by lia
  ((try walk_at "own wq");repeat (simp only [hix i h1];try walk_at "own wq"))
  rw [show ((i:Int)+1)=((i+1:Nat):Int) by push_cast;rfl]
  ((try walk_at "own wq");repeat (simp only [hix (i+1) h2,hlt _ (List.getElem_mem h1) _ (List.getElem_mem h2)];try walk_at "own wq"))
  refine ⟨?_,_,rfl⟩;rw [List.getD_eq_getElem?_getD,List.getD_eq_getElem?_getD,gP1,gP1,gG1 h1,gG1 h2];rfl
 ·rintro r' _;refine ⟨fits_le (by rw [lM1,List.length_range];lia),?_⟩;walk_at "own wq";have ea:gAll (.ref T.length) (T++[.lst ((List.range (L.length-1)).map fun i=>D.bl (decide ((L.map c).getD i 0<(L.map c).getD (i+1) 0)))])=some (.bl (inc (L.map c)),T++[.lst ((List.range (L.length-1)).map fun i=>D.bl (decide ((L.map c).getD i 0<(L.map c).getD (i+1) 0)))]):=by
   unfold gAll;rw [seq_ref (n:=T.length) (xs:=(List.range (L.length-1)).map fun i=>D.bl (decide ((L.map c).getD i 0<(L.map c).getD (i+1) 0))) (by rw [get_app0];rfl),oS1];dsimp only;rw [allB_all,inc,lM1];rfl
  ((try walk_at "own wq");repeat (simp only [ea];try walk_at "own wq"))
  exact ⟨⟨_,rfl⟩,trivial⟩
theorem key_lt {ws:List D}{d e:D}{T:Sto}(hd:keyB ws d=true)(he:keyB ws e=true):gLt d e T=some (.bl (decide ((kyOf d).code (eOf ws)<(kyOf e).code (eOf ws))),T):=by
 obtain ⟨e1,o1⟩:=key_is hd;obtain ⟨e2,o2⟩:=key_is he;have:=Ky.lt (e:=eOf ws) (S:=T) (n:=57) o1 o2;rw [<- e1,<- e2] at this;unfold gLt;rw [show ltN T deepMost d e=_ from this];rfl
noncomputable def fstD:D->D
 | .tup [k,_]=>k
 | _=>.non
theorem row_is {ws:List D}{d:D}(h:rowB ws d=true):∃ k y,d = .tup [k,y]/\keyB ws k=true/\deedB y=true:=by
 unfold rowB at h;split at h
 ·rw [bA1] at h;exact ⟨_,_,rfl,h.1,h.2⟩
 ·cases h
theorem rows_no {ws:List D}{d:D}(h:isT d=false):rowsB ws d=false:=by
 cases d with
 | tup xs=>cases h
 | _=>rfl
theorem arerows_W {ws:List D}{d:D}{S:Sto}{Q:D×Sto->Prop}(hS:Shut S)(hw:vds S ws=true)(hv:vd S d=true)(hl:∀ xs,d = .tup xs->xs.length<=1000)(q:Q (.bl (rowsB ws d),S)):W (mCall 2 m_are_rows [.tup ws,d] S) Q:=by
 refine callV rfl hS (by rw [vds,vd,hw,vds,hv,vds];rfl) fun T hT hvT=>?_;have hd:vd T d=true:=vds_in hvT (by simp);have hw:vds T ws=true:=vd_tup (vds_in hvT (by simp));have h1:=ty_tup hd;unfold m_are_rows;refine fnW ?_;unfold b_are_rows;cases ht:isT d with
 | false=>
  refine seqR ?_
  ((try walk_at "own wq");repeat (simp only [W_mIsT,h1,ht];try walk_at "own wq"))
  rw [rows_no ht] at q;exact ⟨⟨[],(List.append_nil T).symm⟩,rfl,q⟩
 | true=>
  obtain ⟨rows,rfl⟩:=is_tup ht;have hlr:=hl rows rfl;have hx:∀ p∈rows,vd T p=true:=fun p hp=>vds_in (vd_tup hd) hp;refine ifR (fun b V=>b=false/\V=T) ?_ ?_ ?_
  ·((try walk_at "own wq");repeat (simp only [W_mIsT,h1,ht,d_MOST_ROWS];try walk_at "own wq"))
   exact ⟨decide_eq_false (by lia),trivial⟩
  ·rintro V ⟨hb,_⟩;cases hb
  rintro V ⟨_,rfl⟩;refine ifR (fun b W=>b=(!rows.all (rowB ws))/\(∃ G,W=V++G)/\Shut W) ?_ ?_ ?_
  ·walk_at "own wq";refine sW_tup.mpr ?_;refine mapD (fun x=>.bl (rowB ws x)) (fun r=>∃ x,r=[x,some (.tup ws)]) rfl rows _ ⟨_,rfl⟩ ?_ ?_
   ·rintro x hx' r ⟨y,rfl⟩;walk_at "own wq";refine isrow_W hT hw (hx _ hx') ?_;exact ⟨rfl,rfl,_,rfl⟩
   ·rintro r' _;refine ⟨fits_le (by rw [lM1];lia),?_⟩
    ((try walk_at "own wq");repeat (simp only [all_is (F:=rowB ws)];try walk_at "own wq"))
    refine ⟨⟨_,rfl⟩,shut_app hT fun o ho=>?_⟩;simp only [List.mem_singleton] at ho;subst ho;rw [Ob.und,unds_is,List.all_eq_true];intro x hx;obtain ⟨y,_,rfl⟩:=List.mem_map.mp hx;rfl
  ·rintro V' ⟨hb,⟨G,rfl⟩,_⟩;have ha:rowsB ws (.tup rows)=false:=by rw [rowsB,nb_t hb];rfl
   rw [ha] at q;walk_at "own wq";exact ⟨⟨_,rfl⟩,rfl,q⟩
  ·rintro U ⟨hb,⟨G,hU⟩,hUS⟩;have ha:=nb_f hb;have ha':=List.all_eq_true.mp ha;have hq:rowsB ws (.tup rows)=inc (rows.map (codeR ws)):=by rw [rowsB,ha];rfl
   rw [hq] at q;walk_at "own wq";refine sW_tup.mpr ?_;refine mapD fstD (fun r=>∃ x y,r=[x,y]) rfl rows _ ⟨_,_,rfl⟩ ?_ ?_
   ·rintro x hx' r ⟨y,z,rfl⟩;obtain ⟨k,y',rfl,_⟩:=row_is (ha' x hx');walk_at "own wq";exact ⟨rfl,_,_,rfl⟩
   ·rintro r' _;refine ⟨fits_le (by rw [lM1];lia),?_⟩;have hS2:Shut (U++[Ob.lst (rows.map fstD)]):=shut_app hUS fun o ho=>by
     simp only [List.mem_singleton] at ho;subst ho;rw [Ob.und,unds_is,List.all_eq_true];intro x hx';obtain ⟨y,hy,rfl⟩:=List.mem_map.mp hx';obtain ⟨k,y',rfl,hk,_⟩:=row_is (ha' y hy);show k.und _=true;rw [(key_is hk).1,<- Ky.tkD];exact und_tk _
    have hg:(U++[Ob.lst (rows.map fstD)])[U.length]? = some (.lst (rows.map fstD)):=by rw [get_app0];rfl
    walk_at "own wq";refine callS rfl (by simp [D.unds,D.und]) hS2 ?_;refine (rise_gen (L:=rows) (f:=fstD) (c:=codeR ws) ?_ hlr ?_ ?_).mono ?_
    ·intro a ha1 b hb1;obtain ⟨k,y,rfl,hk,_⟩:=row_is (ha' a ha1);obtain ⟨k2,y2,rfl,hk2,_⟩:=row_is (ha' b hb1);exact key_lt hk hk2
    ·unfold gLen;rw [seq_ref hg];simp
    ·intro i h;obtain ⟨_,e,rfl⟩:=W_ixL (Q:=fun p=>p=(fstD rows[i],U++[Ob.lst (rows.map fstD)])) hg (i:=i) (x:=fstD rows[i]) (by rw [gP1,gG1 h];rfl) rfl;exact e
    ·rintro ⟨x,U2⟩ ⟨⟨G2,e2⟩,e⟩;dsimp only at e e2;subst e;subst e2;subst hU;exact ⟨⟨_,rfl⟩,rfl,⟨G++[Ob.lst (rows.map fstD)],List.append_assoc _ _ _⟩,rfl,q⟩
theorem mach_no {d:D}(h:tnD 2 d=false):machB d=false:=by
 unfold machB;split
 ·cases h
 ·rfl
theorem ismach_W {d:D}{S:Sto}{Q:D×Sto->Prop}(hS:Shut S)(hd:Ok 100 S d)(q:Q (.bl (machB d),S)):W (mCall 1 m_is_machine [d] S) Q:=by
 refine callV rfl hS (vd1 hd.v) fun T hT hvT=>?_;have hv:=vd1' hvT;unfold m_is_machine;refine fnW ?_;unfold b_is_machine;walk_at "own wq";refine tupn_W (n:=2) hT hv ?_;walk_at "own wq";cases ht:tnD 2 d with
 | false=>
  rw [mach_no ht] at q;exact ⟨⟨[],(List.append_nil T).symm⟩,rfl,q⟩
 | true=>
  obtain ⟨xs,rfl,hl⟩:=tn_is ht;obtain ⟨e,r,rfl⟩:=len2 hl;have hx:∀ p∈[e,r],vd T p=true:=fun p hp=>vds_in (vd_tup hv) hp;have hlen:∀ y∈[e,r],∀ xs,y = .tup xs->xs.length<=1000:=fun y hy xs e=>by
   have:=(hd.of.2 y hy);subst e;have:=this.of.1;lia
  rw [if_pos rfl];refine W.of (x:=(e,T)) rfl ?_;walk_at "own wq";refine eyes_W hT (hx _ (by simp)) (hlen _ (by simp)) ?_;walk_at "own wq";cases h1:ordD wEy e with
  | false=>
   have:machB (.tup [e,r])=false:=by
    cases e with
    | tup ws=>
     show (ord wEy ws&&rowsB ws r)=false;rw [show ord wEy ws=false from h1];rfl
    | _=>rfl
   rw [this] at q;exact ⟨⟨[],(List.append_nil T).symm⟩,rfl,q⟩
  | true=>
   rw [if_pos rfl];cases e with
   | tup ws=>
    have e1:machB (.tup [.tup ws,r])=rowsB ws r:=by
     show (ord wEy ws&&rowsB ws r)=_;rw [show ord wEy ws=true from h1];rfl
    rw [e1] at q;refine W.of (x:=(.tup ws,T)) rfl ?_;refine W.of (x:=(r,T)) rfl ?_;walk_at "own wq";refine arerows_W hT (vd_tup (hx _ (by simp))) (hx _ (by simp)) (hlen _ (by simp)) ?_;exact ⟨⟨[],(List.append_nil T).symm⟩,rfl,q⟩
   | _=>cases h1
theorem lawnum_W {m:Nat}{d:D}{S:Sto}{Q:D×Sto->Prop}(hS:Shut S)(hv:vd S d=true)(q:Q (.bl (belD (m+1) d),S)):W (mCall 2 m__law_number [d,.int (m:Nat)] S) Q:=by
 refine callV rfl hS (by rw [vds,hv,vds,vds,vd];rfl) fun T hT hvT=>?_;have hv':=vd1' hvT;have h1:=ty_int hv';have h2:=ty_bool hv';unfold m__law_number;refine fnW ?_;unfold b__law_number;cases d with
 | int i=>
  ((try walk_at "own wq");repeat (simp only [mIsT,h1,h2,whD,isB];try walk_at "own wq"))
  refine W.of (x:=(.bl (decide (0<=i)&&decide (i<=m)),T)) ?_ ?_
  ·unfold mCh mC mV b2 gCmp;cases h:decide (0<=i)<;>simp [h]
  refine ⟨⟨[],(List.append_nil T).symm⟩,rfl,?_⟩;have e:(decide (0<=i)&&decide (i<=(m:Int)))=belD (m+1) (.int i):=by
   rw [belD];congr 1;rw [Bool.eq_iff_iff,decide_eq_true_eq,decide_eq_true_eq];lia
  rw [e];exact q
 | bl b=>
  ((try walk_at "own wq");repeat (simp only [mIsT,h1,h2,whD,isB];try walk_at "own wq"))
  exact ⟨⟨[],(List.append_nil T).symm⟩,rfl,q⟩
 | _=>
  ((try walk_at "own wq");repeat (simp only [mIsT,h1,h2,whD,isB];try walk_at "own wq"))
  exact ⟨⟨[],(List.append_nil T).symm⟩,rfl,q⟩
theorem idx_eye {n i:Nat}{S:Sto}(h:S[n]? = some (.lst wEy))(hi:i<4):gIdx (.ref n) (fE i) S=some (.int i,S):=by
 have key:∀ i,i<4->(eqsL (eqN S deepMost) (fE i) wEy).bind (fun bs=>if bs.length<2^62 then (bs.findIdx? id).map fun j=>(D.int (j:Nat),S) else none)=some (.int i,S):=c4 rfl rfl rfl rfl;unfold gIdx;dsimp only;rw [h];exact key i hi
theorem eqL_nm2 {S:Sto}{n:Nat}:∀ xs ys:List Nat,eqL (eqN S (n+1)) (nmD xs) (nmD ys)=some (xs == ys)
 | [],[]=>rfl
 | [],_::_=>rfl
 | _::_,[]=>rfl
 | x::xs,y::ys=>by
  have e:eqN S (n+1) (.int x) (.int y)=some ((x:Int) == (y:Int)):=rfl;have e2:((x:Int) == (y:Int))=(x == y):=by rw [Bool.eq_iff_iff,beq_iff_eq,beq_iff_eq];lia
  have ih:=eqL_nm2 (S:=S) (n:=n) xs ys;show (eqN S (n+1) (.int x) (.int y)).bind (fun b=>(eqL (eqN S (n+1)) (nmD xs) (nmD ys)).map fun c=>b&&c)=_;rw [e,oS1,ih,e2,List.cons_beq_cons];rfl
theorem eq_lists {S:Sto}{i j:Nat}{xs ys:List Nat}(h1:S[i]? = some (.lst (nmD xs)))(h2:S[j]? = some (.lst (nmD ys))):gEq (.ref i) (.ref j) S=some (.bl (xs == ys),S):=by
 unfold gEq deepMost;rw [show (60:Nat)=58+1+1 from rfl,eqN];simp only [seqOf,h1,h2,eqL_nm2];by_cases hl:(nmD xs).length=(nmD ys).length
 ·simp [hl]
 ·have:(xs == ys)=false:=beq_eq_false_iff_ne.mpr fun z=>hl (by rw [z]);simp [hl,this]
theorem vd_app {T G:Sto}{d:D}(h:vd T d=true):vd (T++G) d=true:=by
 refine vd_mono (fun n hn=>?_) h;rw [vd] at hn ⊢;cases e:T[n]? with
 | none=>rw [e] at hn;cases hn
 | some o=>
  rw [gL1 (gE1.mp e).1,e];rw [e] at hn;exact hn
theorem laweyes_W {d:D}{S:Sto}{Q:D×Sto->Prop}(hS:Shut S)(hv:vd S d=true)(hl:∀ xs,d = .tup xs->xs.length<60)(q:Q (.bl (ordD wEy d),S)):W (mCall 1 m__law_are_eyes [d] S) Q:=by
 refine callV rfl hS (vd1 hv) fun T hT hvT=>?_;have hd:=vd1' hvT;unfold m__law_are_eyes;refine fnW ?_;unfold b__law_are_eyes;have hU:Shut (T++[Ob.lst wEy]):=shut_app hT fun o ho=>by
  simp only [List.mem_singleton] at ho;subst ho;rfl
 refine seqW (fun r U=>U=T++[Ob.lst wEy]/\r=[some d,some (.ref T.length)]) ?_ ?_
 ·walk_at "own wq";exact ⟨rfl,trivial⟩
 rintro r U ⟨rfl,rfl⟩;have hg:(T++[Ob.lst wEy])[T.length]? = some (.lst wEy):=by rw [get_app0];rfl
 have hd:vd (T++[Ob.lst wEy]) d=true:=vd_app hd;generalize hTU:T++[Ob.lst wEy]=U at *
 have h1:=ty_tup hd;cases ht:isT d with
 | false=>
  refine seqR ?_
  ((try walk_at "own wq");repeat (simp only [W_mIsT,h1,ht];try walk_at "own wq"))
  rw [ord_tup ht] at q;exact ⟨⟨_,hTU.symm⟩,rfl,q⟩
 | true=>
  obtain ⟨xs,rfl⟩:=is_tup ht;have hlx:=hl xs rfl;have hx:∀ p∈xs,vd U p=true:=fun p hp=>vds_in (vd_tup hd) hp;refine ifR (fun b V=>b=(!xs.all (fun x=>tf (x∈wEy))) /\ ∃ G,V=U++G) ?_ ?_ ?_
  ·((try walk_at "own wq");repeat (simp only [W_mIsT,h1,ht];try walk_at "own wq"))
   refine sW_tup.mpr ?_;refine mapD (fun x=>.bl (tf (x∈wEy))) (fun r=>∃ x,r=[x,some (.ref T.length)]) rfl xs _ ⟨_,rfl⟩ ?_ ?_
   ·rintro x hx' r ⟨y,rfl⟩;have h2:=ty_str (hx x hx');cases hs:isS x with
    | false=>
     ((try walk_at "own wq");repeat (simp only [mIsT,h2,hs];try walk_at "own wq"))
     rw [in_ty ey_str hs];exact ⟨rfl,_,rfl⟩
    | true=>
     cases x with
     | str s=>
      ((try walk_at "own wq");repeat (simp only [mIsT,h2,hs,in_lst (e:=.str s) rfl hg rfl,any_str];try walk_at "own wq"))
      exact ⟨_,rfl⟩
     | _=>cases hs
   ·rintro r' _;refine ⟨fits_le (by rw [lM1];lia),?_⟩
    ((try walk_at "own wq");repeat (simp only [all_is (F:=fun x=>tf (x∈wEy))];try walk_at "own wq"))
    exact ⟨_,rfl⟩
  ·rintro V ⟨hb,G,rfl⟩;have:ordD wEy (.tup xs)=false:=ord_not (nb_t hb);rw [this] at q;subst hTU;walk_at "own wq";exact ⟨⟨_,rfl⟩,rfl,q⟩
  ·rintro V ⟨hb,G,rfl⟩;have ha:=List.all_eq_true.mp (nb_f hb);obtain ⟨rs,rfl,hr⟩:=of_words (n:=4) (f:=fE) fun x hx=>tf_e.mp (ha x hx);rw [lM1] at hlx;have e1:ordD wEy (.tup (rs.map fE))=inc rs:=(inc_ord (inj_lt fE_lt) hr).symm;rw [e1,<- inc_sdd] at q;have hU0:U[T.length]? = some (.lst wEy):=hg;have hTl:T.length<U.length:=(gE1.mp hg).1;have comp:∀ (V:Sto) (y0:Option D) {Q:D×Sto->Prop},V[T.length]? = some (.lst wEy)->Q (.ref V.length,V++[.lst (nmD rs)])->W (fComp 1 [1] (iSeq (mV 0)) (gN 0) mTrue (fEmit (mMt (b2 gIdx) (mV 1) (mCons (mV 0) mNil))) [some (.tup (rs.map fE)),some (.ref T.length)] V) Q:=fun V y0 {Q} hV hq=>by
    walk_at "own wq";refine sW_tup.mpr ?_;refine mapW (f:=fE) (fun i:Nat=>D.int i) (fun r=>∃ x,r=[x,some (.ref T.length)]) rfl rs _ ⟨_,rfl⟩ ?_ ?_
    ·rintro i hi r ⟨y,rfl⟩;walk_at "own wq";refine W_mMt ?_;walk_at "own wq";refine ⟨T.length,wEy,rfl,hV,?_⟩
     ((try walk_at "own wq");repeat (simp only [idx_eye hV (hr i hi)];try walk_at "own wq"))
     exact ⟨_,rfl⟩
    ·rintro r' _;refine ⟨fits_le (by rw [lM1];lia),?_⟩;exact hq
   have g1:(U++G)[T.length]? = some (.lst wEy):=by rw [gL1 hTl];exact hg
   generalize hUG:U++G=V at *
   have hVl:T.length<V.length:=(gE1.mp g1).1;unfold mRet;rw [W_bind];refine W_m2 ?_;refine comp V none g1 ?_;unfold mN mCons mNil;simp only [W_bind];refine comp _ none (by rw [gL1 hVl];exact g1) ?_;rw [W_some,W_some];dsimp only [b1];have g2:(V++[Ob.lst (nmD rs)]++[Ob.lst (nmD rs)])[(V++[Ob.lst (nmD rs)]).length]? = some (.lst (nmD rs)):=by rw [get_app0];rfl
   have e3:gSortSet (.ref (V++[Ob.lst (nmD rs)]).length) (V++[Ob.lst (nmD rs)]++[Ob.lst (nmD rs)])=some (.ref (V++[Ob.lst (nmD rs)]++[Ob.lst (nmD rs)]).length,V++[Ob.lst (nmD rs)]++[Ob.lst (nmD rs)]++[.lst (nmD (sdd rs))]):=by
    unfold gSortSet;rw [seq_ref g2];dsimp only;rw [ints_nm,oS1,if_pos (by rw [lM1];lia),sdd_nm]
   rw [e3,W_some];dsimp only [b2];rw [eq_lists (xs:=rs) (ys:=sdd rs) (by simp [List.getElem?_append]) (by rw [get_app0];rfl),W_some,W_some];subst hUG;subst hTU;exact ⟨⟨_,by simp only [List.append_assoc];rfl⟩,rfl,q⟩
noncomputable def mmE (i:Nat):Nat:=[5,2,5,2].getD i 0
theorem notin_tup {S:Sto}{e:D}{xs:List D}(hf:flatD e=true)(hv:vds S xs=true):gNotInY e (.tup xs) S=some (.bl (!xs.any (fq e)),S):=by
 simp only [gNotInY,gNotInX,gNotIn,seq_tup,oS1,deepMost,show (60:Nat)=59+1 from rfl,inL_fe hf hv,oP1]
theorem nlen {n m:Nat}:((n:Int) == (m:Int))=decide (n=m):=by rw [Bool.eq_iff_iff,beq_iff_eq,decide_eq_true_eq];lia
theorem sight_all {ws xs:List D}(hl:xs.length=4):sightB ws (.tup xs)=(List.range 4).all fun i=>ptB (inE ws i) (mmE i) (xs.getD i .non):=by
 obtain ⟨x,y,z,w,rfl⟩:=len4 hl;simp only [sightB,show List.range 4=[0,1,2,3] from rfl,List.all_cons,List.all_nil,Bool.and_true];rfl
theorem part1_W {ws xs:List D}{i n:Nat}{S:Sto}(hi:i<4)(hl:xs.length=4)(hS:Shut S)(hw:vds S ws=true)(hx:vds S xs=true)(hn:S[n]? = some (.lst wEy)):
  W (p__law_is_sight_1 [some (.tup ws),some (.tup xs),some (.ref n),some (.int (i:Nat))] S) fun p=>(∃ G,p.2.2=S++G/\Shut (S++G))/\p.2.1=[some (.tup ws),some (.tup xs),some (.ref n),some (.int (i:Nat))]/\p.1=(if ptB (inE ws i) (mmE i) (xs.getD i .non)=true then .nx else .rt (.bl false)):=by
 have hxi:xs[i]? = some (xs.getD i .non):=by rw [List.getD_eq_getElem?_getD,gG1 (by lia)];rfl
 have hv:vd S (xs.getD i .non)=true:=vds_in hx (gM1 hxi);generalize xs.getD i .non=x at *
 have hwi:wEy[i]? = some (fE i):=c4 (P:=fun i=>wEy[i]? = some (fE i)) rfl rfl rfl rfl i hi;have hstr:∃ s,fE i = .str s:=ey_str _ (gM1 hwi);have hin:gInY (fE i) (.tup ws) S=some (.bl (inE ws i),S):=by
  obtain ⟨s,hs⟩:=hstr;unfold inE;rw [hs,in_tup rfl hw,any_str]
 have hsh:∀ l:List D,D.unds 0 l=true->Shut (S++[Ob.lst l]):=fun l hl=>shut_app hS fun o ho=>by rw [List.mem_singleton.mp ho,Ob.und];exact unds_mono hl
 unfold p__law_is_sight_1;have hb4:ptB (inE ws i) (mmE i) x=if inE ws i=true then belD (mmE i) x else isNon x:=rfl
 have hmm:∀ V:Sto,W (gIxY (.ref V.length) (.int (i:Nat)) (V++[Ob.lst [.int 4,.int 1,.int 4,.int 1]])) fun p=>p=(.int ((mmE i-1:Nat):Nat),V++[Ob.lst [.int 4,.int 1,.int 4,.int 1]]):=fun V=>
  W_ixL (xs:=[.int 4,.int 1,.int 4,.int 1]) (x:=.int ((mmE i-1:Nat):Nat)) (by rw [get_app0];rfl) (c4 (P:=fun i=>[D.int 4,.int 1,.int 4,.int 1][i]? = some (.int ((mmE i-1:Nat):Nat))) rfl rfl rfl rfl i hi) rfl
 have hm1:mmE i-1+1=mmE i:=c4 (P:=fun i=>mmE i-1+1=mmE i) rfl rfl rfl rfl i hi;cases hb:inE ws i with
 | true=>
  rw [hb,if_pos rfl] at hb4;rw [hb4];refine ifR (fun b V=>b=(!belD (mmE i) x) /\ ∃ G,V=S++G/\Shut (S++G)) ?_ ?_ ?_
  ·walk_at "own wq";refine W_ixL hn hwi ?_
   ((try walk_at "own wq");repeat (simp only [hin,hb];try walk_at "own wq"))
   refine W_ixT hxi ?_;walk_at "own wq";refine (hmm S).mono ?_;rintro _ rfl;walk_at "own wq";refine lawnum_W (hsh _ rfl) (vd_app hv) ?_;rw [hm1];walk_at "own wq";exact ⟨_,rfl,hsh _ rfl⟩
  ·rintro V ⟨hb1,G,rfl,hG⟩;have e:=nb_t hb1
   ((try walk_at "own wq");repeat (simp only [e];try walk_at "own wq"))
   exact ⟨⟨G,rfl,hG⟩,trivial⟩
  ·rintro V ⟨hb1,G,rfl,hG⟩;have e:=nb_f hb1;have g1:(S++G)[n]? = some (.lst wEy):=by rw [gL1 (gE1.mp hn).1];exact hn
   generalize hU:S++G=U at *
   have hni:gNotInY (fE i) (.tup ws) U=some (.bl (!inE ws i),U):=by
    obtain ⟨s,hs⟩:=hstr;unfold inE;rw [hs,notin_tup rfl (by rw [<- hU];exact vd_tup (vd_app (by rw [vd];exact hw))),any_str]
   walk_at "own wq";refine W_ixL g1 hwi ?_
   ((try walk_at "own wq");repeat (simp only [hni,hb,e];try walk_at "own wq"))
   exact ⟨⟨G,hU.symm,hU.symm ▸ hG⟩,trivial⟩
 | false=>
  rw [hb,if_neg (by decide)] at hb4;rw [hb4];refine ifR (fun b V=>b=false/\V=S) ?_ ?_ ?_
  ·walk_at "own wq";refine W_ixL hn hwi ?_
   ((try walk_at "own wq");repeat (simp only [hin,hb];try walk_at "own wq"))
  ·rintro V ⟨hb1,_⟩;cases hb1
  ·rintro V ⟨_,rfl⟩;have hni:gNotInY (fE i) (.tup ws) V=some (.bl (!inE ws i),V):=by
    obtain ⟨s,hs⟩:=hstr;unfold inE;rw [hs,notin_tup rfl hw,any_str]
   walk_at "own wq";refine W_ixL hn hwi ?_
   ((try walk_at "own wq");repeat (simp only [hni,hb];try walk_at "own wq"))
   refine W_ixT hxi ?_;refine W.of (x:=(.bl (!isNon x),V)) rfl ?_;walk_at "own wq";cases hx:isNon x with
   | true=>
    walk_at "own wq";exact ⟨⟨[],(List.append_nil V).symm,by rw [List.append_nil];exact hS⟩,trivial⟩
   | false=>
    walk_at "own wq";exact ⟨⟨[],(List.append_nil V).symm,by rw [List.append_nil];exact hS⟩,trivial⟩
theorem lawsight_W {ws:List D}{d:D}{S:Sto}{Q:D×Sto->Prop}(hS:Shut S)(hw:vds S ws=true)(hv:vd S d=true)(q:Q (.bl (sightB ws d),S)):W (mCall 2 m__law_is_sight [.tup ws,d] S) Q:=by
 refine callV rfl hS (by rw [vds,vd,hw,vds,hv,vds];rfl) fun T hT hvT=>?_;have hd:vd T d=true:=vds_in hvT (by simp);have hw:vds T ws=true:=vd_tup (vds_in hvT (by simp));have h1:=ty_tup hd;unfold m__law_is_sight;refine fnW ?_;unfold b__law_is_sight;refine ifR (fun b V=>b=(!tnD 4 d)/\V=T) ?_ ?_ ?_
 ·cases ht:isT d with
  | false=>
   ((try walk_at "own wq");repeat (simp only [W_mIsT,h1,ht];try walk_at "own wq"))
   cases d with
   | tup xs=>cases ht
   | _=>exact ⟨rfl,trivial⟩
  | true=>
   obtain ⟨xs,rfl⟩:=is_tup ht
   ((try walk_at "own wq");repeat (simp only [W_mIsT,h1,ht];try walk_at "own wq"))
   rw [tnD];exact ⟨congrArg (!·) (nlen (m:=4)),trivial⟩
 ·rintro V ⟨hb,rfl⟩;rw [sight_no (nb_t hb)] at q;walk_at "own wq";exact ⟨⟨[],(List.append_nil V).symm⟩,rfl,q⟩
 ·rintro V ⟨hb,rfl⟩;obtain ⟨xs,rfl,hl⟩:=tn_is (nb_f hb);rw [sight_all hl] at q;refine seqW (fun r U=>U=V++[Ob.lst wEy]/\r=[some (.tup ws),some (.tup xs),some (.ref V.length),none]) ?_ ?_
  ·walk_at "own wq";exact ⟨rfl,trivial⟩
  rintro r U ⟨rfl,rfl⟩;have hg:(V++[Ob.lst wEy])[V.length]? = some (.lst wEy):=by rw [get_app0];rfl
  have hU:Shut (V++[Ob.lst wEy]):=shut_app hT fun o ho=>by rw [List.mem_singleton.mp ho];rfl
  have hx:vds (V++[Ob.lst wEy]) xs=true:=vd_tup (vd_app hd);have hw2:vds (V++[Ob.lst wEy]) ws=true:=vd_tup (vd_app (by rw [vd];exact hw));generalize hVU:V++[Ob.lst wEy]=U at *
  refine seqWR ?_;walk_at "own wq";refine ⟨by decide,?_⟩;rw [show nums 0 (Int.toNat 4)=(List.range 4).map fun i:Nat=>D.int (i:Nat) from rfl];refine loopM_WR (fun i r S=>∃ x G,r=[some (.tup ws),some (.tup xs),some (.ref V.length),x]/\S=U++G/\Shut S /\ ∀ j,j<i->ptB (inE ws j) (mmE j) (xs.getD j .non)=true) _ 0 _ _ ⟨none,[],rfl,(List.append_nil U).symm,hU,fun j hj=>by lia⟩ (fun _ _ _ _=>rfl) ?_ ?_
  ·rintro i dd hd r S ⟨x,G,rfl,rfl,hS2,ha⟩;rw [Nat.zero_add] at *
   have hi:i<4:=by have:=(gE1.mp hd).1;simpa using this
   have edd:dd = .int (i:Nat):=by
    rw [gP1,List.getElem?_range hi] at hd;exact (Option.some.inj hd).symm
   subst edd;walk_at "own wq";have g1:(U++G)[V.length]? = some (.lst wEy):=by rw [gL1 (gE1.mp hg).1];exact hg
   refine (part1_W hi hl hS2 (vd_tup (vd_app (by rw [vd];exact hw2))) (vd_tup (vd_app (by rw [vd];exact hx))) g1).mono ?_;rintro ⟨f,r',S'⟩ ⟨⟨G',e1,hS3⟩,e2,e3⟩;dsimp only at e1 e2 e3;subst e1;subst e2;by_cases hb:ptB (inE ws i) (mmE i) (xs.getD i .non)=true
   ·rw [if_pos hb] at e3;subst e3;refine .inl ⟨rfl,_,G++G',rfl,List.append_assoc _ _ _,hS3,fun j hj=>?_⟩;by_cases z:j=i
    ·rw [z];exact hb
    ·exact ha j (by lia)
   ·rw [if_neg hb] at e3;subst e3;refine .inr (.inl ⟨_,rfl,.inr ⟨_,rfl,?_⟩⟩);have:((List.range 4).all fun i=>ptB (inE ws i) (mmE i) (xs.getD i .non))=false:=by
     rw [Bool.eq_false_iff];intro z;exact hb (List.all_eq_true.mp z i (List.mem_range.mpr hi))
    rw [this] at q;subst hVU;exact ⟨⟨_,by simp only [List.append_assoc];rfl⟩,rfl,q⟩
  ·rintro r S ⟨x,G,rfl,rfl,hS2,ha⟩;refine .inl ⟨rfl,?_⟩;have:((List.range 4).all fun i=>ptB (inE ws i) (mmE i) (xs.getD i .non))=true:=by
    rw [List.all_eq_true];intro j hj;exact ha j (by have:=List.mem_range.mp hj;simpa using this)
   rw [this] at q;subst hVU;walk_at "own wq";exact ⟨⟨_,rfl⟩,rfl,q⟩
theorem tn_len {n:Nat}{d:D}{r:Ev}{T:Sto}{i:Nat}{c:FT}{Q:Bool×Sto->Prop}(hd:vd T d=true)(hi:r[i]? = some (some d))(h0:tnD n d=false->Q (true,T))(h1:tnD n d=true->W (c r T) Q):
  W (mOr (mNot (mTr (mIsT .tuple (mV i)))) (mOr (mB (m2 (b2 gNe) (mN (b1 gLen) (mCons (mV i) mNil)) (mC (D.int (n:Nat))))) c) r T) Q:=by
 have ty:=ty_tup hd;cases ht:isT d with
 | false=>
  have hq:=h0 (by cases d with | tup _=>cases ht | _=>rfl)
  ((try walk_at "own wq");repeat (simp only [W_mIsT,hi,ty,ht];try walk_at "own wq"))
  exact hq
 | true=>
  obtain ⟨xs,rfl⟩:=is_tup ht
  ((try walk_at "own wq");repeat (simp only [W_mIsT,hi,ty,ht];try walk_at "own wq"))
  rw [nlen];cases hl:decide (xs.length=n) with
  | false=>
   simp only [Bool.not_false,if_true];exact h0 hl
  | true=>
   simp only [Bool.not_true,bF1,if_false];exact h1 hl
theorem lawdeed_W {d:D}{S:Sto}{Q:D×Sto->Prop}(hS:Shut S)(hv:vd S d=true)(q:Q (.bl (deedB d),S)):W (mCall 1 m__law_is_deed [d] S) Q:=by
 refine callV rfl hS (vd1 hv) fun T hT hvT=>?_;have hd:=vd1' hvT;unfold m__law_is_deed;refine fnW ?_;unfold b__law_is_deed;refine ifR (fun b V=>V=T/\((b=true/\deedB d=false)\/(b=false /\ ∃ m h s,d = .tup [m,h,s]/\belD 4000 m=true))) ?_ ?_ ?_
 ·refine tn_len (n:=3) (i:=0) hd rfl (fun h=>⟨rfl,.inl ⟨rfl,deed_no h⟩⟩) fun h0=>?_;obtain ⟨xs,rfl,hl⟩:=tn_is h0;obtain ⟨m,h,s,rfl⟩:=len3 hl;walk_at "own wq";refine W.of (x:=(m,T)) rfl ?_;walk_at "own wq";refine lawnum_W (m:=3999) hT (vds_in (vd_tup hd) (by simp)) ?_;walk_at "own wq";cases hb:belD (3999+1) m with
  | false=>exact .inl ⟨rfl,by rw [deedB,show belD 4000 m=false from hb];rfl⟩
  | true=>exact .inr ⟨rfl,m,h,s,rfl,hb⟩
 ·rintro V ⟨rfl,⟨_,hb⟩ | ⟨hb,_⟩⟩
  ·rw [hb] at q;walk_at "own wq";exact ⟨⟨[],(List.append_nil V).symm⟩,rfl,q⟩
  ·cases hb
 ·rintro V ⟨rfl,⟨hb,_⟩ | ⟨_,m,h,s,rfl,hm⟩⟩
  ·cases hb
  rw [deedB,hm,Bool.true_and] at q;have hh:vd V h=true:=vds_in (vd_tup hd) (by simp);have hs:vd V s=true:=vds_in (vd_tup hd) (by simp);have ty:=ty_str hh;refine ifR (fun b U=>U=V/\b=(!tf (h∈wHa))) ?_ ?_ ?_
  ·((try walk_at "own wq");repeat (simp only [W_mIsT];try walk_at "own wq"))
   refine W.of (x:=(h,V)) rfl ?_
   ((try walk_at "own wq");repeat (simp only [ty];try walk_at "own wq"))
   cases ht:isS h with
   | false=>
    ((try walk_at "own wq");repeat (simp only [in_ty ha_str ht];try walk_at "own wq"))
   | true=>
    cases h with
    | str x=>
     have e:gNotInY (.str x) (.tup [.str "leave",.str "mark",.str "wipe"]) V=some (.bl (!tf (D.str x∈wHa)),V):=by rw [notin_tup rfl rfl,any_str];rfl
     walk_at "own wq";refine W.of (x:=(.str x,V)) rfl ?_
     ((try walk_at "own wq");repeat (simp only [e];try walk_at "own wq"))
    | _=>cases ht
  ·rintro U ⟨rfl,hb⟩;rw [nb_t hb] at q;walk_at "own wq";exact ⟨⟨[],(List.append_nil U).symm⟩,rfl,q⟩
  ·rintro U ⟨rfl,hb⟩;rw [nb_f hb,Bool.true_and] at q;have e:m2 (b2 gIsX) (m2 (b2 gIxY) (mV 0) (mC (D.int 2))) (mC D.non) (startD 1 [.tup [m,h,s]]) U=some (.bl (isNon s),U):=rfl;unfold mRet;rw [W_bind,W_orT,e,W_some];walk_at "own wq";cases h3:isNon s with
   | true=>
    rw [h3] at q;exact ⟨⟨[],(List.append_nil U).symm⟩,rfl,q⟩
   | false=>
    rw [h3,Bool.false_or] at q;rw [if_neg (by decide)];refine W.of (x:=(s,U)) rfl ?_;walk_at "own wq";refine lawnum_W (m:=3) hT hs ?_;exact ⟨⟨[],(List.append_nil U).symm⟩,rfl,q⟩
theorem lawrow_W {ws:List D}{d:D}{S:Sto}{Q:D×Sto->Prop}(hS:Shut S)(hw:vds S ws=true)(hv:vd S d=true)(q:Q (.bl (rowB ws d),S)):W (mCall 2 m__law_is_row [.tup ws,d] S) Q:=by
 refine callV rfl hS (by rw [vds,vd,hw,vds,hv,vds];rfl) fun T hT hvT=>?_;have hd:vd T d=true:=vds_in hvT (by simp);have hw:vds T ws=true:=vd_tup (vds_in hvT (by simp));unfold m__law_is_row;refine fnW ?_;unfold b__law_is_row;refine ifR (fun b V=>V=T/\((b=true/\rowB ws d=false)\/(b=false /\ ∃ k y,d = .tup [k,y]/\deedB y=true))) ?_ ?_ ?_
 ·refine tn_len (n:=2) (i:=1) hd rfl (fun h=>⟨rfl,.inl ⟨rfl,row_no h⟩⟩) fun h=>?_;obtain ⟨xs,rfl,hl⟩:=tn_is h;obtain ⟨k,y,rfl⟩:=len2 hl;walk_at "own wq";refine W.of (x:=(y,T)) rfl ?_;walk_at "own wq";refine lawdeed_W hT (vds_in (vd_tup hd) (by simp)) ?_;walk_at "own wq";cases hb:deedB y with
  | false=>exact .inl ⟨rfl,by rw [rowB,hb,Bool.and_false]⟩
  | true=>exact .inr ⟨rfl,k,y,rfl,hb⟩
 ·rintro V ⟨rfl,⟨_,hb⟩ | ⟨hb,_⟩⟩
  ·rw [hb] at q;walk_at "own wq";exact ⟨⟨[],(List.append_nil V).symm⟩,rfl,q⟩
  ·cases hb
 ·rintro V ⟨rfl,⟨hb,_⟩ | ⟨_,k,y,rfl,hm⟩⟩
  ·cases hb
  rw [rowB,hm,Bool.and_true] at q;have hk:vd V k=true:=vds_in (vd_tup hd) (by simp);have ty:=ty_tup hk;refine ifR (fun b U=>U=V/\b=(!tnD 2 k)) ?_ ?_ ?_
  ·((try walk_at "own wq");repeat (simp only [W_mIsT];try walk_at "own wq"))
   refine W.of (x:=(k,V)) rfl ?_
   ((try walk_at "own wq");repeat (simp only [ty];try walk_at "own wq"))
   cases ht:isT k with
   | false=>
    walk_at "own wq";cases k with
    | tup _=>cases ht
    | _=>exact rfl
   | true=>
    obtain ⟨xs,rfl⟩:=is_tup ht;walk_at "own wq";refine W.of (x:=(.tup xs,V)) rfl ?_;walk_at "own wq";exact congrArg (!·) (nlen (m:=2))
  ·rintro U ⟨rfl,hb⟩;rw [key_no (nb_t hb)] at q;walk_at "own wq";exact ⟨⟨[],(List.append_nil U).symm⟩,rfl,q⟩
  ·rintro U ⟨rfl,hb⟩;obtain ⟨xs,rfl,hl⟩:=tn_is (nb_f hb);obtain ⟨m,s,rfl⟩:=len2 hl;have hx:∀ p∈[m,s],vd U p=true:=fun p hp=>vds_in (vd_tup hk) hp;rw [keyB] at q;walk_at "own wq";refine W.of (x:=(.tup [m,s],U)) rfl ?_;refine W.of (x:=(m,U)) rfl ?_;walk_at "own wq";refine lawnum_W (m:=3999) hT (hx _ (by simp)) ?_;walk_at "own wq";cases h1:belD (3999+1) m with
   | false=>
    rw [show belD 4000 m=false from h1] at q;exact ⟨⟨[],(List.append_nil U).symm⟩,rfl,q⟩
   | true=>
    rw [show belD 4000 m=true from h1,Bool.true_and] at q;rw [if_pos rfl];refine W.of (x:=(.tup [m,s],U)) rfl ?_;refine W.of (x:=(s,U)) rfl ?_;walk_at "own wq";refine lawsight_W hT hw (hx _ (by simp)) ?_;exact ⟨⟨[],(List.append_nil U).symm⟩,rfl,q⟩
noncomputable def fltD (xs:List D):List D:=xs.filter fun d=> !isNon d
theorem ltL_fl {S:Sto}{n:Nat}:∀ {bs:List Bool} {xs ys:List Nat},xs.length=bs.length->ys.length=bs.length->(∀ x∈xs,x<=7)->(∀ y∈ys,y<=7) ->
  ltL (eqN S (n+1)) (ltN S (n+1)) (fltD (List.zipWith pt bs xs)) (fltD (List.zipWith pt bs ys))=some (decide (cds bs xs<cds bs ys))
 | [],xs,ys,_,_,_,_=>by simp [fltD,ltL,cds]
 | b::bs,[],ys,h,_,_,_=>by simp at h
 | b::bs,x::xs,[],_,h,_,_=>by simp at h
 | b::bs,x::xs,y::ys,h1,h2,hx,hy=>by
  have ih:=ltL_fl (S:=S) (n:=n) (bs:=bs) (xs:=xs) (ys:=ys) (by simpa using h1) (by simpa using h2) (fun z hz=>hx z (mC1 _ hz)) (fun z hz=>hy z (mC1 _ hz));have b1:=cds_lt (bs:=bs) (xs:=xs) fun z hz=>hx z (mC1 _ hz);have b2:=cds_lt (bs:=bs) (xs:=ys) fun z hz=>hy z (mC1 _ hz);have hd:=(dig (A:=cx b x) (B:=cx b y) b1 b2).2;unfold fltD at ih ⊢;rw [List.zipWith_cons_cons,List.zipWith_cons_cons,cds,cds];cases b with
  | false=>
   rw [List.filter_cons_of_neg (by simp [pt,isNon]),List.filter_cons_of_neg (by simp [pt,isNon]),ih]
   congr 1
   rw [Bool.eq_iff_iff,decide_eq_true_eq,decide_eq_true_eq];have e1:cx false x=0:=rfl;have e2:cx false y=0:=rfl;rw [e1,e2,Nat.zero_mul,Nat.zero_add,Nat.zero_add]
  | true=>
   rw [List.filter_cons_of_pos (by simp [pt,isNon]),List.filter_cons_of_pos (by simp [pt,isNon]),ltL,eq_pt,oS1];by_cases z:cx true x=cx true y
   ·rw [if_pos (decide_eq_true z),ih]
    congr 1
    rw [Bool.eq_iff_iff,decide_eq_true_eq,decide_eq_true_eq];lia
   ·rw [if_neg (by rw [decide_eq_true_eq];exact z),lt_pt z]
    congr 1
    rw [Bool.eq_iff_iff,decide_eq_true_eq,decide_eq_true_eq];lia
noncomputable def flR:D->List D
 | .tup [.tup [m,.tup xs],_]=>m::fltD xs
 | _=>[]
theorem fl_key {k:Ky}{e:E4}{y:D}:flR (.tup [k.d e,y]) = .int k.m::fltD (List.zipWith pt e.bs k.xs):=rfl
theorem lt_rows {ws:List D}{a b:D}{S:Sto}{i j:Nat}(ha:rowB ws a=true)(hb:rowB ws b=true)(hi:S[i]? = some (.lst (flR a)))(hj:S[j]? = some (.lst (flR b))):gLt (.ref i) (.ref j) S=some (.bl (decide (codeR ws a<codeR ws b)),S):=by
 obtain ⟨k,y,rfl,hk,_⟩:=row_is ha;obtain ⟨k2,y2,rfl,hk2,_⟩:=row_is hb;obtain ⟨e1,o1⟩:=key_is hk;obtain ⟨e2,o2⟩:=key_is hk2;rw [e1,fl_key] at hi;rw [e2,fl_key] at hj;unfold gLt;show (ltN S deepMost (.ref i) (.ref j)).map _=some (D.bl (decide ((kyOf k).code (eOf ws)<(kyOf k2).code (eOf ws))),S);generalize kyOf k=k1 at *
 generalize kyOf k2=k3 at *
 have h1:ltN S deepMost (.ref i) (.ref j)=ltL (eqN S 59) (ltN S 59) (.int k1.m::fltD (List.zipWith pt (eOf ws).bs k1.xs)) (.int k3.m::fltD (List.zipWith pt (eOf ws).bs k3.xs)):=by
  show ltN S (59+1) (.ref i) (.ref j)=_;rw [ltN];simp only [ltF,seq_ref hi,seq_ref hj,if_true]
 have e3:eqN S 59 (.int k1.m) (.int k3.m)=some ((k1.m:Int) == (k3.m:Int)):=rfl;have e4:ltN S 59 (.int k1.m) (.int k3.m)=some (decide ((k1.m:Int)<(k3.m:Int))):=rfl;have hd:=(dig (A:=k1.m) (B:=k3.m) (cds_4096 o1 (eOf ws)) (cds_4096 o2 (eOf ws))).2;rw [h1,ltL,e3,oS1];by_cases z:k1.m=k3.m
 ·rw [if_pos (by rw [beq_iff_eq];lia),show (59:Nat)=58+1 from rfl,ltL_fl rfl rfl o1.all o2.all,oP1]
  congr 3
  rw [Bool.eq_iff_iff,decide_eq_true_eq,decide_eq_true_eq];unfold Ky.code;lia
 ·rw [if_neg (by rw [beq_iff_eq];lia),e4,oP1]
  congr 3
  rw [Bool.eq_iff_iff,decide_eq_true_eq,decide_eq_true_eq];unfold Ky.code;lia
theorem inc_zip {α:Type}{c:α->Nat}(L:List α):((L.zip (L.drop 1)).all fun p=>decide (c p.1<c p.2))=inc (L.map c):=by
 rw [Bool.eq_iff_iff,List.all_eq_true,inc,List.all_eq_true];constructor
 ·intro h i hi;rw [List.mem_range,lM1] at hi;have h1:i<L.length:=by lia
  have h2:i+1<L.length:=by lia
  have:=h (L[i],L[i+1]) (gM1 (i:=i) (by rw [List.getElem?_zip_eq_some];exact ⟨gG1 h1,by rw [List.getElem?_drop,Nat.add_comm,gG1 h2]⟩));rw [List.getD_eq_getElem?_getD,List.getD_eq_getElem?_getD,gP1,gP1,gG1 h1,gG1 h2];exact this
 ·intro h p hp;obtain ⟨a,b⟩:=p;obtain ⟨i,hi⟩:=List.getElem?_of_mem hp;rw [List.getElem?_zip_eq_some] at hi;obtain ⟨h1,h2⟩:=hi;rw [List.getElem?_drop,Nat.add_comm] at h2;have l2:=(gE1.mp h2).1;have:=h i (by rw [List.mem_range,lM1];lia);rw [List.getD_eq_getElem?_getD,List.getD_eq_getElem?_getD,gP1,gP1,h1,h2] at this;exact this
theorem zpD_map {α:Type}{f:α->D}:∀ (M N:List α),zpD (M.map f) (N.map f)=(M.zip N).map fun p=>D.tup [f p.1,f p.2]
 | [],_=>by simp [zpD]
 | _::_,[]=>by simp [zpD]
 | a::M,b::N=>by
  rw [mP1,mP1,zpD,List.zip_cons_cons,mP1,zpD_map M N]
theorem filterD {c:List (Nat×List D)}{g:FG}{t:FT}{e:FE}{S:Sto}{Q:List D×Ev×Sto->Prop}(k:D->Bool)(P:Ev->Prop)(hok:okC S c=true)(xs:List D)(r:Ev)(hr:P r)
  (h:∀ a∈xs,∀ r,P r->W (g a r S) fun p=>W (t p.1 p.2) fun b=>b.1=k a/\b.2=S/\P p.1/\(k a=true->W (e p.1 S) fun x=>x.1=a/\x.2=S))
  (q:∀ r',P r'->Q (xs.filter k,r',S)):W (loopF c g t (fEmit e) xs r S) Q:=by
 have:=filterW (f:=id) (Q:=Q) k id P hok xs r hr h (by intro r' h';rw [List.map_id];exact q r' h')
 rwa [List.map_id] at this
inductive MI (ws rows:List D)(d:D)(U:Sto)(i:Nat):Ev->Sto->Prop
 | mk (M:List (D×Nat)) (G:Sto) (x:Option D):M.map (·.1)=rows.take i->(∀ m∈M,(U++G)[m.2]? = some (.lst (flR m.1))/\U.length<m.2)->(U++G)[U.length]? = some (.lst (M.map fun m=>D.ref m.2))->Shut (U++G)->MI ws rows d U i [some d,some (.ref U.length),x] (U++G)
theorem und_fl {n:Nat}{ws:List D}{a:D}(h:rowB ws a=true):D.unds n (flR a)=true:=by
 obtain ⟨k,y,rfl,hk,_⟩:=row_is h;obtain ⟨e1,o1⟩:=key_is hk;rw [e1,fl_key,D.unds,unds_is,bA1,List.all_eq_true];refine ⟨rfl,fun x hx=>?_⟩;have:=(List.mem_filter.mp hx).1;have hz:D.unds 0 (List.zipWith pt (eOf ws).bs (kyOf k).xs)=true:=zip_und;rw [unds_is,List.all_eq_true] at hz;exact und_mono (hz x this)
theorem rowin_W {ws rows:List D}{d row:D}{U S:Sto}{i:Nat}{r:Ev}{x:Option D}(hr:rowB ws row=true)(hi:rows[i]? = some row)(hl:rows.length<=1000)(h:MI ws rows d U i [some d,some (.ref U.length),x] S):
  W (p__law_is_machine_1 [some d,some (.ref U.length),some row] S) fun q=>q.1 = .nx/\MI ws rows d U (i+1) q.2.1 q.2.2:=by
 cases h with
 | mk M G x h1 h2 h3 h4=>
 obtain ⟨k,y,rfl,hk,_⟩:=row_is hr;obtain ⟨e1,o1⟩:=key_is hk;have hMl:M.length<=i:=by have:=congrArg List.length h1;rw [lM1,List.length_take] at this;lia
 have hil:=(gE1.mp hi).1;have hpl:=(gE1.mp h3).1;have uf:=und_fl (n:=0) hr;generalize hk1:kyOf k=k1 at *
 subst e1;rw [fl_key] at uf;unfold p__law_is_machine_1;generalize hV:U++G=V at *
 walk_at "own wq";refine W_mMt ?_;walk_at "own wq";refine ⟨U.length,_,rfl,h3,?_⟩;refine W.of (x:=(k1.d (eOf ws),V)) rfl ?_;refine W.of (x:=(.int k1.m,V)) rfl ?_;refine W.of (x:=(k1.d (eOf ws),V++[Ob.lst [.int k1.m]])) rfl ?_;refine W.of (x:=(k1.sg (eOf ws),V++[Ob.lst [.int k1.m]])) rfl ?_;dsimp only;rw [Ky.sg_zip];refine sW_tup.mpr ?_;dsimp only;have hfl:(List.zipWith pt (eOf ws).bs k1.xs).length<=4:=by rw [List.length_zipWith];exact Nat.min_le_left _ _
 refine filterD (fun d=> !isNon d) (fun r=>∃ x,r=[x]) rfl _ _ ⟨_,rfl⟩ ?_ ?_
 ·rintro a ha r ⟨y',rfl⟩;walk_at "own wq";refine W.of (x:=(.bl (!isNon a),V++[Ob.lst [.int k1.m]])) rfl ?_;walk_at "own wq";exact ⟨⟨_,rfl⟩,fun _=>trivial⟩
 rintro r' _;dsimp only;have hfl2:((List.zipWith pt (eOf ws).bs k1.xs).filter fun d=> !isNon d).length<=4:=Nat.le_trans (List.length_filter_le _ _) hfl;refine ⟨fits_le (by lia),?_⟩;have g1:(V++[Ob.lst [.int k1.m]]++[Ob.lst ((List.zipWith pt (eOf ws).bs k1.xs).filter fun d=> !isNon d)])[V.length]? = some (.lst [.int k1.m]):=by rw [List.append_assoc,get_app0];rfl
 have g2:(V++[Ob.lst [.int k1.m]]++[Ob.lst ((List.zipWith pt (eOf ws).bs k1.xs).filter fun d=> !isNon d)])[(V++[Ob.lst [.int k1.m]]).length]? = some (.lst ((List.zipWith pt (eOf ws).bs k1.xs).filter fun d=> !isNon d)):=by rw [get_app0];rfl
 refine (W_addL g1 g2).mpr ⟨fits_le (by simp;lia),?_⟩;dsimp only;have e5:[D.int (k1.m:Nat)]++((List.zipWith pt (eOf ws).bs k1.xs).filter fun d=> !isNon d)=flR (.tup [k1.d (eOf ws),y]):=rfl;rw [e5];generalize hR:flR (.tup [k1.d (eOf ws),y])=R at *
 generalize hF:((List.zipWith pt (eOf ws).bs k1.xs).filter fun d=> !isNon d)=F at *
 have uF:D.unds 0 F=true:=by
  rw [<- hF,unds_is,List.all_eq_true];intro z hz;have hz':D.unds 0 (List.zipWith pt (eOf ws).bs k1.xs)=true:=zip_und;rw [unds_is,List.all_eq_true] at hz';exact hz' z (List.mem_filter.mp hz).1
 have eS:V++[Ob.lst [.int k1.m]]++[Ob.lst F]++[Ob.lst R]=V++[Ob.lst [.int k1.m],Ob.lst F,Ob.lst R]:=by simp
 rw [eS];have g3:(V++[Ob.lst [.int k1.m],Ob.lst F,Ob.lst R])[U.length]? = some (.lst (M.map fun m=>D.ref m.2)):=by rw [gL1 hpl];exact h3
 refine (W_app g3).mpr ⟨fits_le (by rw [lM1];lia),?_⟩;dsimp only;have hlen:(V++[Ob.lst [.int k1.m]]++[Ob.lst F]).length=V.length+2:=by simp
 rw [hlen];have hM2:(M.map fun m=>D.ref m.2)++[D.ref (V.length+2)]=(M++[(D.tup [k1.d (eOf ws),y],V.length+2)]).map fun m=>D.ref m.2:=by simp
 rw [hM2];have hUV:U.length<=V.length:=by rw [<- hV];simp
 have hset:(V++[Ob.lst [.int k1.m],Ob.lst F,Ob.lst R]).set U.length (.lst ((M++[(D.tup [k1.d (eOf ws),y],V.length+2)]).map fun m=>D.ref m.2))=U++(G++[Ob.lst [.int k1.m],Ob.lst F,Ob.lst R]).set 0 (.lst ((M++[(D.tup [k1.d (eOf ws),y],V.length+2)]).map fun m=>D.ref m.2)):=by
  rw [<- hV,List.append_assoc,List.set_append_right _ _ (nR1 _),Nat.sub_self]
 have shV:Shut ((V++[Ob.lst [.int k1.m],Ob.lst F,Ob.lst R]).set U.length (.lst ((M++[(D.tup [k1.d (eOf ws),y],V.length+2)]).map fun m=>D.ref m.2))):=by
  refine shut_set (shut_app h4 fun o ho=>?_) ?_
  ·simp only [List.mem_cons,List.not_mem_nil,or_false] at ho;rcases ho with rfl | rfl | rfl
   ·rfl
   ·rw [Ob.und];exact unds_mono uF
   ·rw [Ob.und,<- hR];exact unds_mono uf
  ·rw [Ob.und,unds_is,List.all_eq_true];intro z hz;obtain ⟨m,hm,rfl⟩:=List.mem_map.mp hz;rw [D.und,decide_eq_true_eq,lA1];rcases List.mem_append.mp hm with hm | hm
   ·have:=(gE1.mp (h2 m hm).1).1;lia
   ·rw [List.mem_singleton.mp hm];simp
 have rest:∀ j,j≠U.length->((V++[Ob.lst [.int k1.m],Ob.lst F,Ob.lst R]).set U.length (.lst ((M++[(D.tup [k1.d (eOf ws),y],V.length+2)]).map fun m=>D.ref m.2)))[j]? = (V++[Ob.lst [.int k1.m],Ob.lst F,Ob.lst R])[j]?:=fun j hj=>gS1 (Ne.symm hj);have own:((V++[Ob.lst [.int k1.m],Ob.lst F,Ob.lst R]).set U.length (.lst ((M++[(D.tup [k1.d (eOf ws),y],V.length+2)]).map fun m=>D.ref m.2)))[U.length]? = some (.lst ((M++[(D.tup [k1.d (eOf ws),y],V.length+2)]).map fun m=>D.ref m.2)):=by rw [List.getElem?_set_self (by rw [lA1];lia)]
 have mem:∀ m∈M++[(D.tup [k1.d (eOf ws),y],V.length+2)],((V++[Ob.lst [.int k1.m],Ob.lst F,Ob.lst R]).set U.length (.lst ((M++[(D.tup [k1.d (eOf ws),y],V.length+2)]).map fun m=>D.ref m.2)))[m.2]? = some (.lst (flR m.1))/\U.length<m.2:=fun m hm=>by
  rcases List.mem_append.mp hm with hm | hm
  ·obtain ⟨a1,a2⟩:=h2 m hm;rw [rest _ (by lia),gL1 (gE1.mp a1).1];exact ⟨a1,a2⟩
  ·rw [List.mem_singleton.mp hm];dsimp only;rw [rest _ (by lia),gR1 (by lia),Nat.add_sub_cancel_left,hR];exact ⟨rfl,by lia⟩
 rw [hset] at shV own mem ⊢;refine .mk _ _ _ ?_ mem own shV;rw [List.map_append,h1,List.take_succ,hi];rfl
theorem mach_tup {ws:List D}{r:D}(h:ord wEy ws=true):machB (.tup [.tup ws,r])=rowsB ws r:=by
 show (ord wEy ws&&rowsB ws r)=_;rw [h];rfl
theorem mach_ord {e r:D}(h:ordD wEy e=false):machB (.tup [e,r])=false:=by
 cases e with
 | tup ws=>
  show (ord wEy ws&&rowsB ws r)=false;rw [show ord wEy ws=false from h];rfl
 | _=>rfl
theorem lawmach_W {d:D}{S:Sto}{Q:D×Sto->Prop}(hS:Shut S)(hd:Ok 50 S d)(q:Q (.bl (machB d),S)):W (mCall 1 m__law_is_machine [d] S) Q:=by
 refine callV rfl hS (vd1 hd.v) fun T hT hvT=>?_;have hv:=vd1' hvT;unfold m__law_is_machine;refine fnW ?_;unfold b__law_is_machine;refine ifR (fun b V=>V=T/\((b=true/\machB d=false)\/(b=false /\ ∃ ws r,d = .tup [.tup ws,r]/\ord wEy ws=true))) ?_ ?_ ?_
 ·refine tn_len (n:=2) (i:=0) hv rfl (fun h=>⟨rfl,.inl ⟨rfl,mach_no h⟩⟩) fun h=>?_;obtain ⟨xs,rfl,hl⟩:=tn_is h;obtain ⟨e,r,rfl⟩:=len2 hl;walk_at "own wq";refine W.of (x:=(e,T)) rfl ?_;walk_at "own wq";refine laweyes_W hT (vds_in (vd_tup hv) (by simp)) (fun xs ex=>?_) ?_
  ·have:=hd.of.2 e (by simp);subst ex;have:=this.of.1;lia
  walk_at "own wq";cases hb:ordD wEy e with
  | false=>exact .inl ⟨rfl,mach_ord hb⟩
  | true=>
   cases e with
   | tup ws=>exact .inr ⟨rfl,ws,r,rfl,hb⟩
   | _=>cases hb
 ·rintro V ⟨rfl,⟨_,hb⟩ | ⟨hb,_⟩⟩
  ·rw [hb] at q;walk_at "own wq";exact ⟨⟨[],(List.append_nil V).symm⟩,rfl,q⟩
  ·cases hb
 rintro V ⟨rfl,⟨hb,_⟩ | ⟨_,ws,r,rfl,ho⟩⟩
 ·cases hb
 rw [mach_tup ho] at q;have hw:vds V ws=true:=vd_tup (vds_in (vd_tup hv) (by simp));have hr:vd V r=true:=vds_in (vd_tup hv) (by simp);have ty:=ty_tup hr;refine ifR (fun b U=>(∃ G,U=V++G)/\Shut U/\((b=true/\rowsB ws r=false)\/(b=false /\ ∃ rows,r = .tup rows/\rows.length<=50/\rows.all (rowB ws)=true))) ?_ ?_ ?_
 ·((try walk_at "own wq");repeat (simp only [W_mIsT];try walk_at "own wq"))
  refine W.of (x:=(r,V)) rfl ?_
  ((try walk_at "own wq");repeat (simp only [ty];try walk_at "own wq"))
  cases ht:isT r with
  | false=>
   walk_at "own wq";exact ⟨⟨[],(List.append_nil V).symm⟩,hT,.inl (rows_no ht)⟩
  | true=>
   obtain ⟨rows,rfl⟩:=is_tup ht;have hlr:rows.length<=50:=(hd.of.2 _ (by simp)).of.1;walk_at "own wq";refine W.of (x:=(.tup rows,V)) rfl ?_;refine sW_tup.mpr ?_;refine mapD (fun x=>.bl (rowB ws x)) (fun r=>∃ x,r=[x,some (.tup [.tup ws,.tup rows])]) rfl rows _ ⟨_,rfl⟩ ?_ ?_
   ·rintro x hx' r ⟨y,rfl⟩;walk_at "own wq";refine W.of (x:=(.tup ws,V)) rfl ?_;walk_at "own wq";refine lawrow_W hT hw (vds_in (vd_tup hr) hx') ?_;exact ⟨rfl,rfl,_,rfl⟩
   ·rintro r' _;refine ⟨fits_le (by rw [lM1];lia),?_⟩
    ((try walk_at "own wq");repeat (simp only [all_is (F:=rowB ws)];try walk_at "own wq"))
    refine ⟨⟨_,rfl⟩,shut_app hT fun o ho=>?_,?_⟩
    ·rw [List.mem_singleton.mp ho,Ob.und,unds_is,List.all_eq_true];intro x hx;obtain ⟨y,_,rfl⟩:=List.mem_map.mp hx;rfl
    ·cases ha:rows.all (rowB ws) with
     | false=>exact .inl ⟨rfl,by rw [rowsB,ha];rfl⟩
     | true=>exact .inr ⟨rfl,rows,rfl,hlr,ha⟩
 ·rintro U ⟨⟨G,rfl⟩,_,⟨_,hb⟩ | ⟨hb,_⟩⟩
  ·rw [hb] at q;walk_at "own wq";exact ⟨⟨_,rfl⟩,rfl,q⟩
  ·cases hb
 rintro U ⟨⟨G,hG⟩,hU,⟨hb,_⟩ | ⟨_,rows,rfl,hlr,ha⟩⟩
 ·cases hb
 have ha':=List.all_eq_true.mp ha;have hq:rowsB ws (.tup rows)=inc (rows.map (codeR ws)):=by rw [rowsB,ha];rfl
 rw [hq] at q;refine seqW (fun r S=>MI ws rows (.tup [.tup ws,.tup rows]) U 0 r S) ?_ ?_
 ·walk_at "own wq";refine .mk [] [Ob.lst []] none rfl (fun m hm=>by cases hm) (by rw [get_app0];rfl) (shut_app hU fun o ho=>?_);rw [List.mem_singleton.mp ho];rfl
 intro r S hM;refine seqW (fun r S=>MI ws rows (.tup [.tup ws,.tup rows]) U rows.length r S) ?_ ?_
 ·cases hM with
  | mk M G x h1 h2 h3 h4=>
  walk_at "own wq";refine W.of (x:=(.tup rows,U++G)) rfl ?_;refine sW_tup.mpr ?_;refine loopM_W (fun i r S=>MI ws rows (.tup [.tup ws,.tup rows]) U i r S) _ 0 _ _ (.mk M G x h1 h2 h3 h4) (fun _ _ _ _=>rfl) ?_ ?_
  ·intro i row hi r S hM;rw [Nat.zero_add] at *
   cases hM with
   | mk M G x h1 h2 h3 h4=>
   walk_at "own wq";exact rowin_W (r:=[]) (ha' row (gM1 hi)) hi (by lia) (.mk M G x h1 h2 h3 h4)
  ·intro r S hM;rw [Nat.zero_add] at hM;exact ⟨rfl,hM⟩
 intro r S hM;cases hM with
 | mk M G2 x h1 h2 h3 h4=>
 rw [List.take_length] at h1;have hMl:M.length=rows.length:=by rw [<- h1,lM1]
 generalize hN:U++G2=N at *
 have hpl:=(gE1.mp h3).1;have e1:Mi.cutD (M.map fun m=>D.ref m.2) (some 1) none=(M.drop 1).map fun m=>D.ref m.2:=by
  rw [show (1:Int)=((1:Nat):Int) from rfl,cutU,List.map_drop]
 have ez:iZp (mCons (mV 1) (mCons (mSlX (mV 1) (oSome (mC (D.int 1))) oNone) mNil)) [some (.tup [.tup ws,.tup rows]),some (.ref U.length),x] N=some (⟨(M.zip (M.drop 1)).map fun p=>D.tup [.ref p.1.2,.ref p.2.2],[(U.length,M.map fun m=>D.ref m.2),(N.length,(M.drop 1).map fun m=>D.ref m.2)]⟩,N++[Ob.lst ((M.drop 1).map fun m=>D.ref m.2)]):=by
  have g1:(N++[Ob.lst ((M.drop 1).map fun m=>D.ref m.2)])[U.length]? = some (.lst (M.map fun m=>D.ref m.2)):=by rw [gL1 hpl];exact h3
  have g2:(N++[Ob.lst ((M.drop 1).map fun m=>D.ref m.2)])[N.length]? = some (.lst ((M.drop 1).map fun m=>D.ref m.2)):=by rw [get_app0];rfl
  have e2:mSlX (mV 1) (oSome (mC (D.int 1))) oNone [some (.tup [.tup ws,.tup rows]),some (.ref U.length),x] N=some (.ref N.length,N++[Ob.lst ((M.drop 1).map fun m=>D.ref m.2)]):=by
   show sliceX N (.ref U.length) (some 1) none=_;unfold sliceX;rw [seq_ref h3,oP1,if_pos rfl,e1]
  have e3:mV 1 [some (.tup [.tup ws,.tup rows]),some (.ref U.length),x] N=some (.ref U.length,N):=rfl;simp only [iZp,mCons,e2,e3,mNil,oS1,seq_ref g1,seq_ref g2,chk_ref g1,chk_ref g2,zpD_map];rfl
 have g1:(N++[Ob.lst ((M.drop 1).map fun m=>D.ref m.2)])[U.length]? = some (.lst (M.map fun m=>D.ref m.2)):=by rw [gL1 hpl];exact h3
 have g2:(N++[Ob.lst ((M.drop 1).map fun m=>D.ref m.2)])[N.length]? = some (.lst ((M.drop 1).map fun m=>D.ref m.2)):=by rw [get_app0];rfl
 have hz:(M.zip (M.drop 1)).length<=50:=by rw [List.length_zip];lia
 have hmem:∀ p∈M.zip (M.drop 1),p.1∈M/\p.2∈M:=fun p hp=>⟨(List.of_mem_zip hp).1,List.mem_of_mem_drop (List.of_mem_zip hp).2⟩;have hrow:∀ m∈M,rowB ws m.1=true:=fun m hm=>ha' _ (by rw [<- h1];exact List.mem_map.mpr ⟨m,hm,rfl⟩);generalize hN2:N++[Ob.lst ((M.drop 1).map fun m=>D.ref m.2)]=N2 at *
 walk_at "own wq";rw [ez,W_some];dsimp only;refine mapW (f:=fun p:(D×Nat)×(D×Nat)=>D.tup [.ref p.1.2,.ref p.2.2]) (fun p=>D.bl (decide (codeR ws p.1.1<codeR ws p.2.1))) (fun r=>∃ x y,r=[x,y]) (okC_two g1 g2) (M.zip (M.drop 1)) _ ⟨_,_,rfl⟩ ?_ ?_
 ·rintro p hp r ⟨a,b,rfl⟩;obtain ⟨m1,m2⟩:=hmem p hp;have l1:=(h2 _ m1).1;have l2:=(h2 _ m2).1;have e:=lt_rows (S:=N2) (hrow _ m1) (hrow _ m2) (by rw [<- hN2,gL1 (gE1.mp l1).1];exact l1) (by rw [<- hN2,gL1 (gE1.mp l2).1];exact l2)
  ((try walk_at "own wq");repeat (simp only [e];try walk_at "own wq"))
  exact ⟨_,_,rfl⟩
 ·rintro r' _;refine ⟨fits_le (by rw [lM1];lia),?_⟩
  ((try walk_at "own wq");repeat (simp only [all_is];try walk_at "own wq"))
  have ea:gAll (.ref N2.length) (N2++[.lst ((M.zip (M.drop 1)).map fun p=>D.bl (decide (codeR ws p.1.1<codeR ws p.2.1)))])=some (.bl (inc (rows.map (codeR ws))),N2++[.lst ((M.zip (M.drop 1)).map fun p=>D.bl (decide (codeR ws p.1.1<codeR ws p.2.1)))]):=by
   unfold gAll;rw [seq_ref (n:=N2.length) (xs:=(M.zip (M.drop 1)).map fun p=>D.bl (decide (codeR ws p.1.1<codeR ws p.2.1))) (by rw [get_app0];rfl),oS1];dsimp only;rw [allB_all,inc_zip (c:=fun m:D×Nat=>codeR ws m.1),<- h1,List.map_map];rfl
  ((try walk_at "own wq");repeat (simp only [ea];try walk_at "own wq"))
  subst hN2;subst hN;subst hG;exact ⟨⟨_,by simp only [List.append_assoc];rfl⟩,rfl,q⟩
theorem of_W {o:Ob}{n k p:Nat}{T:Sto}{L:List D}{Q:D×Sto->Prop}(ho:Hnd o n)(hn:n<=2^40)(hT:ClT T)(hp:T[p]? = some (.lst L))(hL:0<L.length)(hl:L.length<=300)(hx:∀ o',Hnd o' (n+1) -> ∀ x∈L,Ok k (o'::T) x)
  (q:∀ x o' G,x∈L->Hnd o' (n+1)->ClT (T++G)->Ok k (o'::(T++G)) x->Q (x,o'::(T++G))):W (mCall 2 m__law_of [.ref 0,.ref (p+1)] (o::T)) Q:=by
 have key:W (m__law_of [.ref 0,.ref (p+1)] (o::T)) fun r=>∃ x o',r=(x,o'::T)/\x∈L/\Hnd o' (n+1):=by
  unfold m__law_of;refine fnW ?_;unfold b__law_of;have gp:∀ o:Ob,(o::T)[p+1]? = some (.lst L):=fun o=>by rw [gC1];exact hp
  have el:gLen (.ref (p+1)) (o::T)=some (.int L.length,o::T):=by unfold gLen;rw [seq_ref (gp o)];rfl
  ((try walk_at "own wq");repeat (simp only [el];try walk_at "own wq"))
  refine take1_W ho hT (by lia) (by lia) (by lia) fun d o1 ho1 hd=>?_;have hd':d<L.length:=by lia
  refine W_ixL (i:=d) (x:=L[d]) (gp o1) (gG1 hd') ?_;exact ⟨_,o1,rfl,List.getElem_mem hd',ho1⟩
 refine callW rfl rfl (key.mono ?_);rintro r ⟨x,o',rfl,hm,ho'⟩;have:gc (o::T).length (x,o'::T)=(x,o'::T):=by
  unfold gc;split
  ·dsimp only;rw [lC1,List.take_of_length_le (by simp)]
  ·rfl
 rw [this];have:=q x o' [] hm ho' (by rw [List.append_nil];exact hT) (by rw [List.append_nil];exact hx o' ho' x hm)
 rwa [List.append_nil] at this
section
variable {k n N:Nat} {o:Ob} {T:Sto} {x2 x3:Option D} {d:D}
theorem oddA (ho:Hnd o N)(hk:1<=k)(hk2:k<=200):AK k [some (.ref 0),some d,none,none] o T 20 (mCons (mC D.non) (mCons (mC (D.bl true)) (mCons (mC (D.bl false)) (mCons (m1 (b1 gNeg) (mC (D.int 1))) (mCons (mC (D.int 0)) (mCons (mC (D.int 1)) (mCons (mC (D.int 2)) (mCons (mC (D.int 3)) (mCons (mC (D.int 4)) (mCons (mC (D.int 5)) (mCons (mC (D.int 3999)) (mCons (mC (D.int 4000)) (mCons (mC (D.str "mark")) (mCons (mC (D.str "leave")) (mCons (mC (D.str "wiped")) (mCons (mC (D.str "came")) (mCons (mC (D.str "")) (mCons (mTup mNil) (mCons (mLst mNil) (mCons (mTup (mCons (mC (D.int 0)) mNil)) mNil)))))))))))))))))))):=by
 iterate 3 refine ak_cons ho (ek_c ho rfl (by rw [bd])) ?_
 refine ak_cons ho (ek_same (d:=.int (-1)) ho (fun _=>rfl) (.shut rfl (by rw [bd]))) ?_
 iterate 13 refine ak_cons ho (ek_c ho rfl (by rw [bd])) ?_
 refine ak_cons ho (ek_tup ak_nil (by lia) (by lia)) ?_;refine ak_cons ho (ek_lst ho ak_nil (by lia)) ?_;exact ak_cons ho (ek_tup (ak_cons ho (ek_c ho rfl (by rw [bd])) ak_nil) (by lia) (by lia)) ak_nil
theorem add_eq {e f:FE}{r:Ev}{xs ys:List D}(ha:∀ S,e r S=some (.tup xs,S))(hb:∀ S,f r S=some (.tup ys,S))(hl:xs.length+ys.length<=1000):∀ S,m2 (b2 gAdd) e f r S=some (.tup (xs++ys),S):=fun S=>by
 unfold m2;rw [ha,oS1,hb,oS1];show (if xs.length+ys.length<=sizeLine then _ else _)=_;rw [if_pos (Nat.le_trans hl (by decide))]
theorem ok_sub {m:Nat}{xs ys:List D}(h:Ok m (o::T) (.tup xs))(hs:∀ y∈ys,y∈xs)(hl:ys.length<=k)(hk:m<=k):Ok k (o::T) (.tup ys):=.tup hl fun y hy=>(h.of.2 y (hs y hy)).more hk
theorem ok_cat {m:Nat}{xs ys:List D}(h:Ok m (o::T) (.tup xs))(h':Ok m (o::T) (.tup ys))(hl:xs.length+ys.length<=k)(hk:m<=k):Ok k (o::T) (.tup (xs++ys)):=.tup (by rw [lA1];exact hl) fun y hy=>by
 rcases List.mem_append.mp hy with z | z
 ·exact (h.of.2 y z).more hk
 ·exact (h'.of.2 y z).more hk
theorem sl_to {r:Ev}{xs:List D}{a:Nat}{hi:FE}(h1:r[1]? = some (some (.tup xs)))(hh:∀ S,hi r S=some (.int (a:Nat),S)):∀ S,mSlX (mV 1) oNone (oSome hi) r S=some (.tup (xs.take a),S):=fun S=>by
 have e:mV 1 r S=some (.tup xs,S):=by unfold mV;rw [h1]
 unfold mSlX;rw [e,oS1];show (oSome hi r S).bind _=_;unfold oSome;rw [hh];show some (D.tup (Mi.cutD xs none (some (a:Int))),S)=_;rw [cutT]
theorem sl_from {r:Ev}{xs:List D}{a:Nat}{lo:FE}(h1:r[1]? = some (some (.tup xs)))(hh:∀ S,lo r S=some (.int (a:Nat),S)):∀ S,mSlX (mV 1) (oSome lo) oNone r S=some (.tup (xs.drop a),S):=fun S=>by
 have e:mV 1 r S=some (.tup xs,S):=by unfold mV;rw [h1]
 unfold mSlX;rw [e,oS1];show (oSome lo r S).bind _=_;unfold oSome;rw [hh];show some (D.tup (Mi.cutD xs (some (a:Int)) none),S)=_;rw [cutU]
theorem oddB {xs:List D}{a m:Nat}(ho:Hnd o N)(hd:Ok m (o::T) (.tup xs))(ha:a<xs.length)(hk:m+1<=k)(hk2:k<=200):AK k [some (.ref 0),some (.tup xs),x2,some (.int (a:Nat))] o T 5 (mCons (mN (b1 gLst) (mCons (mV 1) mNil)) (mCons (m2 (b2 gAdd) (mSlX (mV 1) oNone (oSome (mV 3))) (mSlX (mV 1) (oSome (m2 (b2 gAdd) (mV 3) (mC (D.int 1)))) oNone)) (mCons (m2 (b2 gAdd) (mSlX (mV 1) oNone (oSome (m2 (b2 gAdd) (mV 3) (mC (D.int 1))))) (mSlX (mV 1) (oSome (mV 3)) oNone)) (mCons (mSlRY (mV 1) (m1 (b1 gNeg) (mC (D.int 1)))) (mCons (m2 (b2 gAdd) (mV 1) (mTup (mCons (mC D.non) mNil))) mNil))))):=by
 have hl:=hd.of.1;have e1:∀ S:Sto,mV 3 [some (.ref 0),some (.tup xs),x2,some (.int (a:Nat))] S=some (.int (a:Nat),S):=fun _=>rfl;have e2:∀ S:Sto,m2 (b2 gAdd) (mV 3) (mC (D.int 1)) [some (.ref 0),some (.tup xs),x2,some (.int (a:Nat))] S=some (.int ((a+1:Nat):Nat),S):=fun _=>rfl;have tk:∀ j,Ok m (o::T) (.tup (xs.take j)):=fun j=>ok_sub hd (fun y hy=>List.mem_of_mem_take hy) (by rw [List.length_take];lia) (nR1 _);have dr:∀ j,Ok m (o::T) (.tup (xs.drop j)):=fun j=>ok_sub hd (fun y hy=>List.mem_of_mem_drop hy) (by rw [List.length_drop];lia) (nR1 _);refine ak_cons ho (fun G hG=>?_) (ak_cons ho (ek_same ho (add_eq (sl_to rfl e1) (sl_from rfl e2) (by rw [List.length_take,List.length_drop];lia)) (ok_cat (tk _) (dr _) (by rw [List.length_take,List.length_drop];lia) (by lia))) (ak_cons ho (ek_same ho (add_eq (sl_to rfl e2) (sl_from rfl e1) (by rw [List.length_take,List.length_drop];lia)) (ok_cat (tk _) (dr _) (by rw [List.length_take,List.length_drop];lia) (by lia)))
  (ak_cons ho (ek_same (d:=.tup xs.reverse) ho (fun _=>rfl) (ok_sub hd (fun y hy=>List.mem_reverse.mp hy) (by rw [List.length_reverse];lia) (by lia))) (ak_cons ho (ek_same ho (add_eq (xs:=xs) (ys:=[.non]) (fun _=>rfl) (fun _=>rfl) (by simp;lia)) (.tup (by simp;lia) fun y hy=>?_)) ak_nil))))
 ·refine W.of (x:=(.ref (T++G).length.succ,o::(T++G++[.lst xs]))) rfl ⟨[.lst xs],by simp,?_,.lst (xs:=xs) ?_⟩
  ·rw [<- List.append_assoc];exact cl_lst (k:=m) (o:=o) hG fun x hx=>(hd.of.2 x hx).on (n:=N) ho
  ·rw [Nat.succ_eq_add_one,gC1,<- List.append_assoc,get_app0];rfl
 ·rcases List.mem_append.mp hy with z | z
  ·exact (hd.of.2 y z).more (by lia)
  ·rw [List.mem_singleton.mp z];exact .shut rfl (by rw [bd])
end
theorem set2 {a:FA}{n k N:Nat}{r:Ev}{o:Ob}{T:Sto}(ha:AK k r o T n a)(hn:n<=1000)(ho:Hnd o N)(hT:ClT T):W (mAsg (mLst a) (gN 2) r (o::T)) fun p=>p.1 = .nx /\ ∃ G p' L,p.2.2=o::(T++G)/\ClT (T++G)/\p.2.1=r.set 2 (some (.ref (p'+1)))/\(T++G)[p']? = some (.lst L)/\L.length=n /\ ∀ x∈L,Ok k (o::(T++G)) x:=by
 unfold mAsg;rw [W_bind];have:=lst_W ha hn [] (by rw [List.append_nil];exact hT);rw [List.append_nil] at this;refine this.mono ?_;rintro p ⟨G1,L,rfl,h1,h2,h3⟩;rw [List.nil_append] at h1 h3;refine W.of rfl ⟨rfl,G1++[Ob.lst L],(T++G1).length,L,?_,?_,rfl,?_,h2,fun x hx=>?_⟩
 ·simp
 ·rw [<- List.append_assoc];exact h1
 ·rw [<- List.append_assoc,get_app0];rfl
 ·have:=(h3 x hx).on (n:=N) (G:=[Ob.lst L]) ho
  rwa [List.append_assoc] at this
theorem ne_nil {xs:List D}{S:Sto}:gNe (.tup xs) (.tup []) S=some (.bl (!xs.isEmpty),S):=by
 cases xs<;>rfl
theorem odd_W {o:Ob}{n k:Nat}{T:Sto}{d:D}{Q:D×Sto->Prop}(ho:Hnd o n)(hn:n<=2^39)(hT:ClT T)(hd:Ok k (o::T) d)(hk:1<=k)(hk2:k<=100)
  (q:∀ x o' G,Hnd o' (n+2)->ClT (T++G)->Ok (k+1) (o'::(T++G)) x->Q (x,o'::(T++G))):W (mCall 2 m__law_odd [.ref 0,d] (o::T)) Q:=by
 refine callX (k:=k+1) (n':=n+2) rfl rfl hT ?_ q;unfold m__law_odd;refine fnW ?_;unfold b__law_odd;have fin:∀ {o1:Ob} {G:Sto} {p:Nat} {L:List D} {x3:Option D},Hnd o1 (n+1)->ClT (T++G)->(T++G)[p]? = some (.lst L)->0<L.length->L.length<=100->(∀ x∈L,Ok (k+1) (o1::(T++G)) x) ->
   W (mRet (mN (mCall 2 m__law_of) (mCons (mV 0) (mCons (mV 2) mNil))) [some (.ref 0),some d,some (.ref (p+1)),x3] (o1::(T++G))) fun p=>match p.1 with
    | .rt y=>∃ x o' G,(y,p.2.2)=(x,o'::(T++G))/\Hnd o' (n+2)/\ClT (T++G)/\Ok (k+1) (o'::(T++G)) x
    | .nx=>∃ x o' G,(D.non,p.2.2)=(x,o'::(T++G))/\Hnd o' (n+2)/\ClT (T++G)/\Ok (k+1) (o'::(T++G)) x
    | _=>False:=fun {o1 G p L x3} ho1 hG hp h0 hl hx=>by
  walk_at "own wq";refine of_W (k:=k+1) ho1 (by lia) hG hp h0 (by lia) (fun o' ho' x hm=>?_) fun x o' G' _ ho' hG' hx'=>?_
  ·have:=(hx x hm).on (n:=n+1) (G:=[]) ho'
   rwa [List.append_nil] at this
  ·refine ⟨x,o',G++G',by rw [List.append_assoc],ho',by rw [<- List.append_assoc];exact hG',?_⟩;rw [<- List.append_assoc];exact hx'
 refine seqW (fun r S=>∃ G p L,S=o::(T++G)/\ClT (T++G)/\r=[some (.ref 0),some d,some (.ref (p+1)),none]/\(T++G)[p]? = some (.lst L)/\L.length=20 /\ ∀ x∈L,Ok (k+1) (o::(T++G)) x) ?_ ?_
 ·refine (set2 (oddA (k:=k+1) ho (by lia) (by lia)) (by lia) ho hT).mono ?_;rintro p ⟨h1,G,p',L,h2,h3,h4,h5,h6,h7⟩;exact ⟨h1,G,p',L,h2,h3,h4,h5,h6,h7⟩
 rintro r S ⟨G,p,L,rfl,hG,rfl,hp,hL,hx⟩;have hdG:Ok k (o::(T++G)) d:=hd.on (n:=n) ho;have ty:=ty_tup hdG.v;by_cases hc:∃ xs,d = .tup xs/\xs≠[]
 ·obtain ⟨xs,rfl,hne⟩:=hc;have hemp:xs.isEmpty=false:=by cases xs with
   | nil=>exact absurd rfl hne
   | cons x xs=>rfl
  have hlp:0<xs.length:=List.length_pos_iff.mpr hne;have hlx:=hd.of.1;refine seqW (fun r S=>∃ o1 G p L,Hnd o1 (n+1)/\S=o1::(T++G)/\ClT (T++G)/\(∃ x3,r=[some (.ref 0),some (.tup xs),some (.ref (p+1)),x3])/\(T++G)[p]? = some (.lst L)/\L.length=5 /\ ∀ x∈L,Ok (k+1) (o1::(T++G)) x) ?_ ?_
  ·have ht:W (mAnd (mTr (mIsT .tuple (mV 1))) (mB (m2 (b2 gNe) (mV 1) (mTup mNil))) [some (.ref 0),some (.tup xs),some (.ref (p+1)),none] (o::(T++G))) fun p=>p=(true,o::(T++G)):=by
    ((try walk_at "own wq");repeat (simp only [W_mIsT,ty,show isT (.tup xs)=true from rfl,ne_nil,hemp];try walk_at "own wq"))
   obtain ⟨_,e,rfl⟩:=ht;unfold mIfS;rw [W_bind];refine W.of e ?_;rw [if_pos rfl];refine seqW (fun r S=>∃ o1 a,Hnd o1 (n+1)/\a<xs.length/\S=o1::(T++G)/\r=[some (.ref 0),some (.tup xs),some (.ref (p+1)),some (.int (a:Nat))]) ?_ ?_
   ·walk_at "own wq";refine take1_W ho hG (by lia) (by lia) (by lia) fun a o1 ho1 ha=>?_;exact ⟨o1,a,ho1,by lia,rfl,rfl⟩
   rintro r S ⟨o1,a,ho1,ha,rfl,rfl⟩;have hd1:Ok k (o1::(T++G)) (.tup xs):=hd.on (n:=n) ho1;refine (set2 (oddB (k:=k+1) ho1 hd1 ha (by lia) (by lia)) (by lia) ho1 hG).mono ?_;rintro q ⟨h1,G',p',L',h2,h3,h4,h5,h6,h7⟩;rw [List.append_assoc] at h2 h3 h5;exact ⟨h1,o1,G++G',p',L',ho1,h2,h3,⟨_,h4⟩,h5,h6,fun x hx=>by have:=h7 x hx;rwa [List.append_assoc] at this⟩
  rintro r S ⟨o1,G1,p1,L1,ho1,rfl,hG1,⟨x3,rfl⟩,hp1,hL1,hx1⟩;exact fin ho1 hG1 hp1 (by lia) (by lia) hx1
 ·refine seqW (fun r S=>S=o::(T++G)/\r=[some (.ref 0),some d,some (.ref (p+1)),none]) ?_ ?_
  ·cases ht:isT d with
   | false=>
    ((try walk_at "own wq");repeat (simp only [W_mIsT,ty,ht];try walk_at "own wq"))
   | true=>
    obtain ⟨xs,rfl⟩:=is_tup ht;have e:xs=[]:=by
     cases xs with
     | nil=>rfl
     | cons x xs=>exact absurd ⟨_,rfl,by simp⟩ hc
    subst e
    ((try walk_at "own wq");repeat (simp only [W_mIsT,ty,ht,ne_nil,List.isEmpty_nil];try walk_at "own wq"))
  rintro r S ⟨rfl,rfl⟩;exact fin (ho.more (by lia)) hG hp (by lia) (by lia) hx
noncomputable def dp:Nat->D->Prop
 | 0,d=>isT d=false
 | n+1,d=>∀ xs,d = .tup xs -> ∀ x∈xs,dp n x
theorem spoilt_W:∀ (deep:Nat) {fuel n k:Nat} {o:Ob} {T:Sto} {d:D} {Q:D×Sto->Prop},deep<fuel->Hnd o n->n+10*deep<=2^38->ClT T->Ok k (o::T) d->dp deep d->1<=k->k<=50 ->
  (∀ x o' G,Hnd o' (n+10*(deep+1))->ClT (T++G)->Ok (k+1) (o'::(T++G)) x->Q (x,o'::(T++G)))->W (mCall 2 (mr__law_spoilt fuel) [.ref 0,d] (o::T)) Q:=by
 intro deep
 induction deep with
 | zero=>
  intro fuel n k o T d Q hf ho hn hT hd hdp hk hk2 q;obtain ⟨f,rfl⟩:∃ f,fuel=f+1:=⟨fuel-1,by lia⟩;refine callX (k:=k+1) (n':=n+10*(0+1)) rfl rfl hT ?_ q;rw [mr__law_spoilt];refine fnW ?_;unfold b__law_spoilt;have ty:=ty_tup hd.v;have ht:isT d=false:=hdp;refine seqR ?_
  ((try walk_at "own wq");repeat (simp only [W_mIsT,ty,ht];try walk_at "own wq"))
  refine odd_W ho (by lia) hT hd hk (by lia) fun x o' G ho' hc hx=>?_;exact ⟨x,o',G,rfl,ho'.more (by lia),hc,hx⟩
 | succ deep ih=>
  intro fuel n k o T d Q hf ho hn hT hd hdp hk hk2 q;obtain ⟨f,rfl⟩:∃ f,fuel=f+1:=⟨fuel-1,by lia⟩;refine callX (k:=k+1) (n':=n+10*(deep+1+1)) rfl rfl hT ?_ q;rw [mr__law_spoilt];refine fnW ?_;unfold b__law_spoilt;have ty:=ty_tup hd.v;cases ht:isT d with
  | false=>
   refine seqR ?_
   ((try walk_at "own wq");repeat (simp only [W_mIsT,ty,ht];try walk_at "own wq"))
   refine odd_W ho (by lia) hT hd hk (by lia) fun x o' G ho' hc hx=>?_;exact ⟨x,o',G,rfl,ho'.more (by lia),hc,hx⟩
  | true=>
   obtain ⟨xs,rfl⟩:=is_tup ht;obtain ⟨hl,hxs⟩:=hd.of;by_cases hne:xs=[]
   ·subst hne;refine seqR ?_
    ((try walk_at "own wq");repeat (simp only [W_mIsT,ty,ht,eq_nil,List.isEmpty_nil];try walk_at "own wq"))
    refine odd_W ho (by lia) hT hd hk (by lia) fun x o' G ho' hc hx=>?_;exact ⟨x,o',G,rfl,ho'.more (by lia),hc,hx⟩
   ·have hemp:xs.isEmpty=false:=by cases xs with
     | nil=>exact absurd rfl hne
     | cons x xs=>rfl
    have hlp:0<xs.length:=List.length_pos_iff.mpr hne;refine ifR (fun _ V=>∃ o1,V=o1::T/\Hnd o1 (n+1)) ?_ ?_ ?_
    ·((try walk_at "own wq");repeat (simp only [W_mIsT,ty,ht,eq_nil,hemp];try walk_at "own wq"))
     refine take1_W ho hT (by lia) (by lia) (by lia) fun c o1 ho1 hc=>?_;walk_at "own wq";exact ⟨o1,rfl,ho1⟩
    ·rintro V ⟨o1,rfl,ho1⟩;have hd1:Ok k (o1::T) (.tup xs):=(hd.on (n:=n) (G:=[]) ho1).cast (by rw [List.append_nil]);walk_at "own wq";refine odd_W ho1 (by lia) hT hd1 hk (by lia) fun x o' G ho' hc hx=>?_;exact ⟨x,o',G,rfl,ho'.more (by lia),hc,hx⟩
    rintro V ⟨o1,rfl,ho1⟩;refine seqW (fun r S=>∃ o2 a,Hnd o2 (n+2)/\a<xs.length/\S=o2::T/\r=[some (.ref 0),some (.tup xs),some (.int (a:Nat))]) ?_ ?_
    ·walk_at "own wq";refine take1_W ho1 hT (by lia) (by lia) (by lia) fun a o2 ho2 ha=>?_;exact ⟨o2,a,ho2,by lia,rfl,rfl⟩
    rintro r S ⟨o2,a,ho2,ha,rfl,rfl⟩;have e1:∀ S:Sto,mV 2 [some (.ref 0),some (.tup xs),some (.int (a:Nat))] S=some (.int (a:Nat),S):=fun _=>rfl;have e2:∀ S:Sto,m2 (b2 gAdd) (mV 2) (mC (D.int 1)) [some (.ref 0),some (.tup xs),some (.int (a:Nat))] S=some (.int ((a+1:Nat):Nat),S):=fun _=>rfl;unfold mRet;rw [W_bind];refine W_m2 (W_m2 ?_);rw [sl_to rfl e1,W_some];dsimp only;walk_at "own wq";refine W_ixT (i:=a) (x:=xs[a]) (gG1 ha) ?_;walk_at "own wq";refine ih (by lia) ho2 (by lia) hT ((((hxs _ (List.getElem_mem ha)).on (n:=n) (G:=[]) ho2)).cast (by rw [List.append_nil])) (hdp xs rfl _ (List.getElem_mem ha)) hk hk2 fun x o3 G ho3 hc hx=>?_;walk_at "own wq";rw [List.length_take];refine ⟨fits_le (by lia),?_⟩;rw [sl_from rfl e2,W_some];dsimp only;walk_at "own wq";refine ⟨fits_le (by rw [List.length_drop];simp;lia),?_⟩;refine ⟨_,o3,G,rfl,ho3.more (by lia),hc,Ok.tup ?_ fun y hy=>?_⟩
    ·simp;lia
    ·have old:∀ y∈xs,Ok (k+1) (o3::(T++G)) y:=fun y hy=>((hxs y hy).on (n:=n) ho3).more (by lia);simp only [List.append_assoc,List.cons_append,List.nil_append,List.mem_append,List.mem_cons] at hy;rcases hy with hy | rfl | hy
     ·exact old y (List.mem_of_mem_take hy)
     ·exact hx
     ·exact old y (List.mem_of_mem_drop hy)
noncomputable def mxE (i:Nat):Nat:=[4,1,4,1].getD i 0
theorem sight2_W {n:Nat}{a b c d:Bool}{B U:Sto}{Q:D×Sto->Prop}(s:HZ n B U)(hn:n<=2^45)
  (q:∀ x y z w U',x<=4->y<=1->z<=4->w<=1->HZ (n+4) B U'->HZ (n+4) U U'->U'.length=U.length->Q (sgD a b c d x y z w,U')):W (mCall 2 m__law_some_sight [.ref 0,.tup (eyesL a b c d)] U) Q:=by
 refine callB (c':=n+4) rfl (by simp [D.unds,D.und]) s ?_;unfold m__law_some_sight;refine fnW ?_;unfold b__law_some_sight;generalize hE:D.tup (eyesL a b c d)=E;refine seqW (fun r S=>S=U++[.lst []]/\r=[some (.ref 0),some E,some (.ref U.length),none,none]) ?_ ?_
 ·walk_at "own wq"
 rintro r S ⟨rfl,rfl⟩;have s0:HZ n U (U++[.lst []]):=s.self.app fun o ho=>by simp at ho;subst ho;rfl
 refine seqW (fun r S=>∃ x y z w y3 y4,x<=4/\y<=1/\z<=4/\w<=1/\HZ (n+4) U S/\S[U.length]? = some (.lst [pt a x,pt b y,pt c z,pt d w])/\r=[some (.ref 0),some E,some (.ref U.length),y3,y4]) ?_ ?_
 ·walk_at "own wq";rw [sW_tup];refine loopM_W (fun i r S=>∃ xs y3 y4,HZ (n+i) U S/\xs.length=i/\(∀ (j x:Nat),xs[j]? = some x->x<=mxE j)/\S[U.length]? = some (.lst (List.zipWith pt [a,b,c,d] xs))/\r=[some (.ref 0),some E,some (.ref U.length),y3,y4]) _ 0 _ _ ⟨[],_,_,s0,rfl,fun j x hx=>(by simp at hx),by rw [get_app0];rfl,rfl⟩ (fun _ _ _ _=>rfl) ?_ ?_
  ·rintro i dd hd r S ⟨xs,y3,y4,hs,hl,hx,hS,rfl⟩;have hi:i<4:=(gE1.mp hd).1;rw [Nat.zero_add] at *
   have step:∀ (e:Str) (m:Nat) (bb:Bool),m<=4->m=mxE i->dd = .tup [.str e,.int m]->[a,b,c,d][i]? = some bb->(∀ S,gInY (.str e) E S=some (.bl bb,S)) ->
     W (gT 2 (gCs (gN 3) (gCs (gN 4) gNl)) dd [some (.ref 0),some E,some (.ref U.length),y3,y4] S) fun p=>W (p__law_some_sight_1 p.1 p.2) fun q=>q.1 = .nx /\ ∃ xs y3 y4,HZ (n+(i+1)) U q.2.2/\xs.length=i+1/\(∀ (j x:Nat),xs[j]? = some x->x<=mxE j)/\q.2.2[U.length]? = some (.lst (List.zipWith pt [a,b,c,d] xs))/\q.2.1=[some (.ref 0),some E,some (.ref U.length),y3,y4]:=by
    intro e m bb hm hm2 hdd hbb hin;subst hdd;walk_at "own wq";refine (part_W hs (by lia) (by lia) hin (nR1 _) hS (by rw [List.length_zipWith];simp;lia) zip_und).mono fun p hp=>?_;obtain ⟨h1,h2,x,h3,h4,h5,h6⟩:=hp;refine ⟨h1,xs++[x],_,_,h4,by simp [hl],fun j y hy=>?_,?_,h2⟩
    ·by_cases z:j<xs.length
     ·rw [gL1 z] at hy;exact hx j y hy
     ·have hj:j=i:=by have:=(gE1.mp hy).1;rw [lA1] at this;simp at this;lia
      subst hj;rw [gR1 (by lia),hl,Nat.sub_self] at hy;have:x=y:=by simpa using hy
      lia
    ·rw [h5,zip_snoc (by rw [hl];exact hbb)]
   dsimp only at hd;subst hE;have h4:i=0\/i=1\/i=2\/i=3:=by lia
   rcases h4 with z | z | z | z
   ·rw [z] at hd;exact step "came" 4 a (by lia) (by rw [z];rfl) (by simpa using hd.symm) (by rw [z];rfl) fun S=>in_came
   ·rw [z] at hd;exact step "chalk" 1 b (by lia) (by rw [z];rfl) (by simpa using hd.symm) (by rw [z];rfl) fun S=>in_chalk
   ·rw [z] at hd;exact step "doors" 4 c (by lia) (by rw [z];rfl) (by simpa using hd.symm) (by rw [z];rfl) fun S=>in_doors
   ·rw [z] at hd;exact step "others" 1 d (by lia) (by rw [z];rfl) (by simpa using hd.symm) (by rw [z];rfl) fun S=>in_others
  ·rintro r S ⟨xs,y3,y4,hs,hl,hx,hS,rfl⟩
   match xs,hl with
   | [x,y,z,w],_=>exact ⟨rfl,x,y,z,w,_,_,hx 0 x rfl,hx 1 y rfl,hx 2 z rfl,hx 3 w rfl,hs,hS,rfl⟩
 rintro r S ⟨x,y,z,w,y3,y4,h1,h2,h3,h4,hs,hS,rfl⟩;walk_at "own wq";refine sW_ref hS ?_;refine ⟨hs,?_,fun U' u1 u2 u3=>q x y z w U' h1 h2 h3 h4 u1 u2 u3⟩;simp [D.und,D.unds,pt_und]
theorem Ky.und (k:Ky)(e:E4)(n:Nat):(k.d e).und n=true:=by
 rw [<- k.tkD e];exact und_tk _
noncomputable def dO (F:List (TK×D)):Ob:=match F with
 | []=>.dct []
 | _=>.dcT F
theorem dO_ne {F:List (TK×D)}(h:F≠[]):dO F = .dcT F:=by
 cases F with
 | nil=>exact absurd rfl h
 | cons _ _=>rfl
structure KOk (k:Ky):Prop where
 ok:k.Ok
 y:k.y<=1
 w:k.w<=1
structure RW (e:E4)(F:List (TK×D)):Prop where
 row:∀ p∈F,∃ k:Ky,KOk k/\p.1=k.tk e/\Deed p.2
 nd:(F.map (·.1)).Nodup
theorem RW.und {e:E4}{F:List (TK×D)}(h:RW e F)(n:Nat):(dO F).und n=true:=by
 have:D.unds n (F.map (·.2))=true:=Mi.unds_map fun p hp=>by
  obtain ⟨_,_,_,h3⟩:=h.row p hp;exact und_mono h3.und
 cases F with
 | nil=>rfl
 | cons _ _=>exact this
theorem RW.put {e:E4}{F:List (TK×D)}{k:Ky}{x:D}(h:RW e F)(hk:KOk k)(hx:Deed x):RW e (putD F (k.tk e) x):=by
 unfold putD;split
 ·refine ⟨fun p hp=>?_,?_⟩
  ·obtain ⟨p',hp',rfl⟩:=List.mem_map.mp hp;obtain ⟨l,h1,h2,h3⟩:=h.row p' hp';by_cases z:p'.1=k.tk e
   ·rw [if_pos z];exact ⟨l,h1,h2,hx⟩
   ·rw [if_neg z];exact ⟨l,h1,h2,h3⟩
  ·rw [List.map_map];have:(F.map ((fun p:TK×D=>p.1)∘fun p=>if p.1=k.tk e then (p.1,x) else p))=F.map (·.1):=by
    apply List.map_congr_left;intro p _;simp only [Function.comp];split<;>rfl
   rw [this];exact h.nd
 ·rename_i hn;refine ⟨fun p hp=>?_,?_⟩
  ·rcases List.mem_append.mp hp with z | z
   ·exact h.row p z
   ·simp at z;subst z;exact ⟨k,hk,rfl,hx⟩
  ·rw [List.map_append,List.nodup_append];refine ⟨h.nd,by simp,fun a ha b hb z=>?_⟩;simp at hb;subst hb;subst z;obtain ⟨p,hp,e'⟩:=List.mem_map.mp ha;exact hn (List.any_eq_true.mpr ⟨p,hp,decide_eq_true e'⟩)
theorem setR {e:E4}{F:List (TK×D)}{k:Ky}{x:D}{n:Nat}{S:Sto}(hS:S[n]? = some (dO F))(hl:F.length<=1000):gSetY (.ref n) (k.d e) x S=some (.non,S.set n (dO (putD F (k.tk e) x))):=by
 cases F with
 | nil=>
  have hS':S[n]? = some (.dct []):=hS;simp only [gSetY,hS',k.keyT e];rfl
 | cons p F=>
  have hS':S[n]? = some (.dcT (p::F)):=hS;rw [dO_ne put_ne];simp only [gSetY,hS',k.keyT e,oS1];rw [if_pos (Nat.lt_of_le_of_lt hl (by decide))]
theorem look_mem {F:List (TK×D)}{k:TK}(h:k∈F.map (·.1)):∃ x,lookD F k=some x/\(k,x)∈F:=by
 obtain ⟨p,hp,rfl⟩:=List.mem_map.mp h;unfold lookD;have:(F.find? fun q=>decide (q.1=p.1)).isSome=true:=List.find?_isSome.mpr ⟨p,hp,by simp⟩;obtain ⟨q,hq⟩:=Option.isSome_iff_exists.mp this;have h1:=List.find?_some hq;have h2:=List.mem_of_find?_eq_some hq;rw [decide_eq_true_eq] at h1;rw [hq];refine ⟨q.2,rfl,?_⟩;rw [<- h1];exact h2
theorem RW.row0 {e:E4}:RW e []:=⟨fun p hp=>(by cases hp),List.nodup_nil⟩
theorem ofH_W {n p:Nat}{B U:Sto}{L:List D}{Q:D×Sto->Prop}(s:HZ n B U)(hn:n<=2^45)(hp:U[p]? = some (.lst L))(h0:0<L.length)(hl:L.length<=100)(hu:D.unds 0 L=true)(hp0:0<p)
  (q:∀ x U',x∈L->HZ (n+1) B U'->HZ (n+1) U U'->U'.length=U.length->Q (x,U')):W (mCall 2 m__law_of [.ref 0,.ref p] U) Q:=by
 refine callB (c':=n+1) rfl rfl s ?_;unfold m__law_of;refine fnW ?_;unfold b__law_of;have el:gLen (.ref p) U=some (.int L.length,U):=by unfold gLen;rw [seq_ref hp];rfl
 ((try walk_at "own wq");repeat (simp only [el];try walk_at "own wq"))
 refine take_W s.self (by lia) (by lia) (by lia) fun d U1 _ s1 l1 hd=>?_;have hd':d<L.length:=by lia
 have hp1:U1[p]? = some (.lst L):=by rw [s1.same p hp0 (gE1.mp hp).1];exact hp
 refine W_ixL (i:=d) (x:=L[d]) hp1 (gG1 hd') ?_;rw [unds_is,List.all_eq_true] at hu;exact ⟨s1,hu _ (List.getElem_mem hd'),fun U' h1 h2 h3=>q _ U' (List.getElem_mem hd') h1 h2 h3⟩
theorem put_len {F:List (TK×D)}{k:TK}{x:D}:(putD F k x).length<=F.length+1:=by
 unfold putD;split
 ·rw [lM1];lia
 ·rw [lA1];exact nR1 _
theorem HZ.snoc {n:Nat}{B U:Sto}{l:List D}(s:HZ n B U)(h:D.unds 0 l=true):HZ n B (U++[Ob.lst l]):=s.app fun o ho=>by
 rw [List.mem_singleton.mp ho,Ob.und];exact unds_mono h
theorem row1_W {c b:Nat}{e:E4}{E:D}{F:List (TK×D)}{B S:Sto}{x3 y4 y5 y6:Option D}(hE:E = .tup (eyesL e.1 e.2.1 e.2.2.1 e.2.2.2))(s:HZ c B S)(hc:c<=2^40)(hb:B.length<=b)(hF:RW e F)(hl:F.length<=100)(hS:S[b]? = some (dO F)):
  W (p__law_machine_1 [some (.ref 0),some E,some (.ref b),x3,y4,y5,y6,none] S) fun p=>p.1 = .nx /\ ∃ F' y4 y5 y6,RW e F'/\F'.length<=F.length+1/\HZ (c+10) B p.2.2/\p.2.2[b]? = some (dO F')/\p.2.1=[some (.ref 0),some E,some (.ref b),x3,y4,y5,y6,none]:=by
 have hb0:0<b:=nL1 s.pos hb;have hbl:=(gE1.mp hS).1;unfold p__law_machine_1;refine seqW (fun r V=>∃ m:Nat,m<4000/\HZ (c+3) B V/\V[b]? = some (dO F)/\r=[some (.ref 0),some E,some (.ref b),x3,some (.int (m:Nat)),y5,y6,none]) ?_ ?_
 ·walk_at "own wq";refine take_W s (by lia) (by lia) (by lia) fun x V1 v1 w1 l1 hx=>?_;walk_at "own wq";refine take_W v1 (by lia) (by lia) (by lia) fun y V2 v2 w2 l2 hy=>?_;walk_at "own wq";refine take_W (v2.snoc (l:=[.int x,.int y]) rfl) (by lia) (by lia) (by lia) fun t V3 v3 w3 l3 ht=>?_;have g2:(V2++[Ob.lst [.int (x:Nat),.int (y:Nat)]])[V2.length]? = some (.lst [.int (x:Nat),.int (y:Nat)]):=by rw [get_app0];rfl
  have hV0:0<V2.length:=by lia
  have g3:V3[V2.length]? = some (.lst [.int (x:Nat),.int (y:Nat)]):=by rw [w3.same _ hV0 (gE1.mp g2).1];exact g2
  have g4:V3[b]? = some (dO F):=by
   rw [w3.same b hb0 (by rw [lA1];lia),gL1 (by lia),w2.same b hb0 (by lia),w1.same b hb0 hbl];exact hS
  walk_at "own wq";by_cases hz:((t:Int) == 0)=true
  ·rw [if_pos hz];refine W_ixL g3 (i:=1) (x:=.int (y:Nat)) rfl ?_;exact ⟨y,by lia,v3,g4,rfl⟩
  ·rw [if_neg hz];refine W_ixL g3 (i:=0) (x:=.int (x:Nat)) rfl ?_;exact ⟨x,by lia,v3,g4,rfl⟩
 rintro r V ⟨m,hm,v,gV,rfl⟩;have hVl:=(gE1.mp gV).1;refine seqW (fun r W=>∃ x y z w:Nat,x<=4/\y<=1/\z<=4/\w<=1/\HZ (c+7) B W/\W[b]? = some (dO F)/\r=[some (.ref 0),some E,some (.ref b),x3,some (.int (m:Nat)),some (sgD e.1 e.2.1 e.2.2.1 e.2.2.2 x y z w),y6,none]) ?_ ?_
 ·walk_at "own wq";rw [hE];refine sight2_W v (by lia) fun x y z w U' h1 h2 h3 h4 u1 u2 u3=>?_;walk_at "own wq";refine ⟨x,y,z,w,h1,h2,h3,h4,u1,by rw [u2.same b hb0 hVl];exact gV,rfl⟩
 rintro r V2 ⟨x,y,z,w,h1,h2,h3,h4,v2,gV2,rfl⟩;have hVl2:=(gE1.mp gV2).1;refine seqW (fun r W=>∃ d,Deed d/\HZ (c+10) B W/\W[b]? = some (dO F)/\r=[some (.ref 0),some E,some (.ref b),x3,some (.int (m:Nat)),some (sgD e.1 e.2.1 e.2.2.1 e.2.2.2 x y z w),some d,none]) ?_ ?_
 ·walk_at "own wq";refine take_W v2 (by lia) (by lia) (by lia) fun t V3 v3 w3 l3 ht=>?_;have g3:V3[b]? = some (dO F):=by rw [w3.same b hb0 hVl2];exact gV2
  walk_at "own wq";have k3:=v3.snoc (l:=hands) rfl;have p3:(V3++[Ob.lst hands])[V3.length]? = some (.lst hands):=by rw [get_app0];rfl
  refine ofH_W k3 (by lia) p3 (by decide) (by decide) rfl (by lia) fun h V4 hh v4 w4 l4=>?_;have g4:V4[b]? = some (dO F):=by rw [w4.same b hb0 (by rw [lA1];lia),gL1 (by lia)];exact g3
  walk_at "own wq";have k4:=v4.snoc (l:=steps) rfl;have p4:(V4++[Ob.lst steps])[V4.length]? = some (.lst steps):=by rw [get_app0];rfl
  have l5:V4.length=V3.length+1:=by rw [l4];simp
  refine ofH_W k4 (by lia) p4 (by decide) (by decide) rfl (by lia) fun st V5 hst v5 w5 l5'=>?_;have g5:V5[b]? = some (dO F):=by rw [w5.same b hb0 (by rw [lA1];lia),gL1 (by lia)];exact g4
  walk_at "own wq";exact ⟨_,⟨t,h,st,rfl,by lia,hh,hst⟩,v5,g5,rfl⟩
 rintro r V3 ⟨d,hd,v3,g3,rfl⟩;have hk:KOk ⟨m,x,y,z,w⟩:=⟨⟨hm,h1,by show y<=4;lia,h3,by show w<=4;lia⟩,h2,h4⟩;have e1:D.tup [.int (m:Nat),sgD e.1 e.2.1 e.2.2.1 e.2.2.2 x y z w]=Ky.d ⟨m,x,y,z,w⟩ e:=rfl;have hset:=setR (x:=d) (k:=⟨m,x,y,z,w⟩) (e:=e) g3 (by lia);walk_at "own wq";rw [e1,hset];refine W.of rfl ?_;refine ⟨_,_,_,_,hF.put hk hd,put_len,v3.set hb ((hF.put hk hd).und _),?_,rfl⟩;rw [List.getElem?_set_self (gE1.mp g3).1]
theorem eqL_fl {S:Sto}{n:Nat}:∀ {bs:List Bool} {xs ys:List Nat},xs.length=bs.length->ys.length=bs.length->(∀ x∈xs,x<=7)->(∀ y∈ys,y<=7) ->
  eqL (eqN S (n+1)) (fltD (List.zipWith pt bs xs)) (fltD (List.zipWith pt bs ys))=some (decide (cds bs xs=cds bs ys))
 | [],xs,ys,_,_,_,_=>by simp [fltD,eqL,cds]
 | b::bs,[],ys,h,_,_,_=>by simp at h
 | b::bs,x::xs,[],_,h,_,_=>by simp at h
 | b::bs,x::xs,y::ys,h1,h2,hx,hy=>by
  have ih:=eqL_fl (S:=S) (n:=n) (bs:=bs) (xs:=xs) (ys:=ys) (by simpa using h1) (by simpa using h2) (fun z hz=>hx z (mC1 _ hz)) (fun z hz=>hy z (mC1 _ hz));have b1:=cds_lt (bs:=bs) (xs:=xs) fun z hz=>hx z (mC1 _ hz);have b2:=cds_lt (bs:=bs) (xs:=ys) fun z hz=>hy z (mC1 _ hz);have hd:=(dig (A:=cx b x) (B:=cx b y) b1 b2).1;unfold fltD at ih ⊢;rw [List.zipWith_cons_cons,List.zipWith_cons_cons,cds,cds];cases b with
  | false=>
   rw [List.filter_cons_of_neg (by simp [pt,isNon]),List.filter_cons_of_neg (by simp [pt,isNon]),ih]
   congr 1
   rw [Bool.eq_iff_iff,decide_eq_true_eq,decide_eq_true_eq];have e1:cx false x=0:=rfl;have e2:cx false y=0:=rfl;rw [e1,e2,Nat.zero_mul,Nat.zero_add,Nat.zero_add]
  | true=>
   rw [List.filter_cons_of_pos (by simp [pt,isNon]),List.filter_cons_of_pos (by simp [pt,isNon]),eqL,eq_pt,oS1,ih,oP1]
   congr 1
   rw [Bool.eq_iff_iff,bA1,decide_eq_true_eq,decide_eq_true_eq,decide_eq_true_eq];exact hd.symm
theorem fl_eq:∀ {bs:List Bool} {xs ys:List Nat},xs.length=bs.length->ys.length=bs.length->(∀ x∈xs,x<=7)->(∀ y∈ys,y<=7)->cds bs xs=cds bs ys->List.zipWith pt bs xs=List.zipWith pt bs ys
 | [],xs,ys,_,_,_,_,_=>by simp
 | b::bs,[],ys,h,_,_,_,_=>by simp at h
 | b::bs,x::xs,[],_,h,_,_,_=>by simp at h
 | b::bs,x::xs,y::ys,h1,h2,hx,hy,h=>by
  have b1:=cds_lt (bs:=bs) (xs:=xs) fun z hz=>hx z (mC1 _ hz);have b2:=cds_lt (bs:=bs) (xs:=ys) fun z hz=>hy z (mC1 _ hz);have hd:=(dig (A:=cx b x) (B:=cx b y) b1 b2).1;rw [cds,cds,hd] at h;rw [List.zipWith_cons_cons,List.zipWith_cons_cons,fl_eq (by simpa using h1) (by simpa using h2) (fun z hz=>hx z (mC1 _ hz)) (fun z hz=>hy z (mC1 _ hz)) h.2]
  congr 1
  cases b with
  | false=>rfl
  | true=>exact congrArg (fun n:Nat=>D.int n) h.1
noncomputable def isNT:TK->Bool
 | .non=>true
 | _=>false
noncomputable def Ky.pd (k:Ky)(e:E4):D:=.tup [.int k.m,.tup (fltD (List.zipWith pt e.bs k.xs))]
noncomputable def Ky.pt (k:Ky)(e:E4):TK:=.tup [.int k.m,.tup ((List.zipWith ptK e.bs k.xs).filter fun t=> !isNT t)]
theorem Ky.keyP (k:Ky)(e:E4):Mi.keyT (k.pd e)=some (k.pt e):=by
 obtain ⟨a,b,c,d⟩:=e;cases a<;>cases b<;>cases c<;>cases d<;>rfl
theorem Ky.tkP (k:Ky)(e:E4):Mi.tkD (k.pt e)=k.pd e:=(keyT_tk (k.keyP e)).1
theorem Ky.ltP {k l:Ky}{e:E4}{S:Sto}{n:Nat}(hk:k.Ok)(hl:l.Ok):ltN S (n+3) (k.pd e) (l.pd e)=some (decide (k.code e<l.code e)):=by
 have e1:eqN S (n+2) (.int k.m) (.int l.m)=some ((k.m:Int) == (l.m:Int)):=rfl;have e3:ltN S (n+2) (.int k.m) (.int l.m)=some (decide ((k.m:Int)<(l.m:Int))):=rfl;have e2:eqN S (n+2) (.tup (fltD (List.zipWith Law.pt e.bs k.xs))) (.tup (fltD (List.zipWith Law.pt e.bs l.xs)))=some (decide (cds e.bs k.xs=cds e.bs l.xs)):=by rw [eqT,eqL_fl rfl rfl hk.all hl.all]
 have e4:ltN S (n+2) (.tup (fltD (List.zipWith Law.pt e.bs k.xs))) (.tup (fltD (List.zipWith Law.pt e.bs l.xs)))=some (decide (cds e.bs k.xs<cds e.bs l.xs)):=by rw [ltT,ltL_fl rfl rfl hk.all hl.all]
 unfold Ky.pd Ky.code;have hd:=(dig (A:=k.m) (B:=l.m) (cds_4096 hk e) (cds_4096 hl e)).2;rw [ltT,ltL,e1,oS1];by_cases z:k.m=l.m
 ·rw [if_pos (by rw [beq_iff_eq];lia),ltL,e2,oS1];by_cases z2:cds e.bs k.xs=cds e.bs l.xs
  ·rw [if_pos (decide_eq_true z2),ltL]
   congr 1
   rw [eq_comm,decide_eq_false_iff_not];lia
  ·rw [if_neg (by rw [decide_eq_true_eq];exact z2),e4]
   congr 1
   rw [Bool.eq_iff_iff,decide_eq_true_eq,decide_eq_true_eq];lia
 ·rw [if_neg (by rw [beq_iff_eq];lia),e3]
  congr 1
  rw [Bool.eq_iff_iff,decide_eq_true_eq,decide_eq_true_eq];lia
theorem code_split {k l:Ky}{e:E4}(hk:k.Ok)(hl:l.Ok)(h:k.code e=l.code e):k.m=l.m/\List.zipWith Law.pt e.bs k.xs=List.zipWith Law.pt e.bs l.xs:=by
 have:=(dig (A:=k.m) (B:=l.m) (cds_4096 hk e) (cds_4096 hl e)).1.mp h;exact ⟨this.1,fl_eq rfl rfl hk.all hl.all this.2⟩
theorem code_d {k l:Ky}{e:E4}(hk:k.Ok)(hl:l.Ok)(h:k.code e=l.code e):k.d e=l.d e/\k.pd e=l.pd e:=by
 obtain ⟨h1,h2⟩:=code_split hk hl h;unfold Ky.d Ky.pd;rw [Ky.sg_zip,Ky.sg_zip,h1,h2];exact ⟨rfl,rfl⟩
theorem pt_code {k l:Ky}{e:E4}(hk:k.Ok)(hl:l.Ok):k.pt e=l.pt e↔k.code e=l.code e:=by
 constructor
 ·intro h;have h1:k.pd e=l.pd e:=by rw [<- Ky.tkP,<- Ky.tkP,h]
  have a:=Ky.ltP (S:=[]) (n:=0) (e:=e) hk hl;have b:=Ky.ltP (S:=[]) (n:=0) (e:=e) hl hk;rw [h1] at a b;have c:=Ky.ltP (S:=[]) (n:=0) (e:=e) hl hl;rw [c] at a b;have a:=Option.some.inj a;have b:=Option.some.inj b;rw [decide_eq_false (Nat.lt_irrefl _)] at a b;have a:=of_decide_eq_false a.symm;have b:=of_decide_eq_false b.symm;lia
 ·intro h;have:=(code_d hk hl h).2;have e1:=k.keyP e;rw [this,l.keyP e] at e1;exact (Option.some.inj e1).symm
theorem insD_by {α:Type}{f:α->D}{c:α->Nat}{a:α}:∀ {zs:List α},(∀ b∈zs,ltN [] 51 (f a) (f b)=some (decide (c a<c b)))->(∀ b∈zs,c b≠c a)->zs.Pairwise (fun x y=>c x<c y) ->
  ∃ ys:List α,insD (f a) (zs.map f)=ys.map f/\ys.Perm (a::zs)/\ys.Pairwise (fun x y=>c x<c y)
 | [],_,_,_=>⟨[a],rfl,.refl _,by simp⟩
 | b::zs,h,hn,hp=>by
  rw [List.pairwise_cons] at hp;rw [mP1,insD];have hb:=h b mS1;unfold ltD;rw [hb];by_cases z:c a<c b
  ·rw [decide_eq_true z,if_pos (show (some true == some true)=true from rfl)];refine ⟨a::b::zs,rfl,.refl _,List.pairwise_cons.mpr ⟨fun y hy=>?_,List.pairwise_cons.mpr hp⟩⟩;rcases List.mem_cons.mp hy with rfl | hy
   ·exact z
   ·exact Nat.lt_trans z (hp.1 y hy)
  ·rw [decide_eq_false z,if_neg (by decide)];obtain ⟨ys,e,pm,pw⟩:=insD_by (fun x hx=>h x (mC1 _ hx)) (fun x hx=>hn x (mC1 _ hx)) hp.2;refine ⟨b::ys,by rw [e];rfl,(pm.cons b).trans (.swap _ _ _),List.pairwise_cons.mpr ⟨fun y hy=>?_,pw⟩⟩;rcases List.mem_cons.mp (pm.mem_iff.mp hy) with rfl | hy
   ·have:=hn b mS1;lia
   ·exact hp.1 y hy
theorem sortD_by {α:Type}{f:α->D}{c:α->Nat}:∀ {ks:List α},(∀ a∈ks,∀ b∈ks,ltN [] 51 (f a) (f b)=some (decide (c a<c b)))->(ks.map c).Nodup ->
  ∃ zs:List α,sortD (ks.map f)=zs.map f/\zs.Perm ks/\zs.Pairwise (fun x y=>c x<c y)/\riseD (zs.map f)=true
 | [],_,_=>⟨[],rfl,.refl _,.nil,rfl⟩
 | a::ks,h,hn=>by
  rw [mP1,List.nodup_cons] at hn;obtain ⟨zs,e,pm,pw,_⟩:=sortD_by (ks:=ks) (fun x hx y hy=>h x (mC1 _ hx) y (mC1 _ hy)) hn.2;obtain ⟨ys,e2,pm2,pw2⟩:=insD_by (a:=a) (zs:=zs) (fun b hb=>h a mS1 b (mC1 _ (pm.mem_iff.mp hb))) (fun b hb z=>hn.1 (List.mem_map.mpr ⟨b,pm.mem_iff.mp hb,z⟩)) pw;have pm3:ys.Perm (a::ks):=pm2.trans (pm.cons a);refine ⟨ys,by rw [mP1,sortD,e,e2],pm3,pw2,?_⟩;have hy:∀ x∈ys,∀ y∈ys,ltN [] 51 (f x) (f y)=some (decide (c x<c y)):=fun x hx y hy=>h x (pm3.mem_iff.mp hx) y (pm3.mem_iff.mp hy);clear e2 pm2 pm3
  induction ys with
  | nil=>rfl
  | cons y ys ih=>
   rw [List.pairwise_cons] at pw2;rw [mP1,riseD,ih pw2.2 fun x hx z hz=>hy x (mC1 _ hx) z (mC1 _ hz),Bool.and_true,List.all_eq_true];intro d hd;obtain ⟨x,hx,rfl⟩:=List.mem_map.mp hd;unfold lessD;have hlt:=pw2.1 x hx;rw [hy y mS1 x (mC1 _ hx),hy x (mC1 _ hx) y mS1,decide_eq_true hlt,decide_eq_false (by lia)];rfl
noncomputable def rowD (e:E4)(q:Ky×D):D:=.tup [q.1.d e,q.2]
noncomputable def entP (e:E4)(q:Ky×D):TK×D:=(q.1.pt e,rowD e q)
structure RP (e:E4)(L:List (Ky×D)):Prop where
 row:∀ q∈L,KOk q.1/\Deed q.2
 nd:(L.map fun q=>q.1.code e).Nodup
theorem RP.put {e:E4}{L:List (Ky×D)}{k:Ky}{x:D}(h:RP e L)(hk:KOk k)(hx:Deed x):∃ L',putD (L.map (entP e)) (k.pt e) (rowD e (k,x))=L'.map (entP e)/\RP e L'/\L'.length<=L.length+1:=by
 unfold putD;split
 ·refine ⟨L.map fun q=>if q.1.pt e=k.pt e then (k,x) else q,?_,⟨fun q hq=>?_,?_⟩,by rw [lM1];lia⟩
  ·rw [List.map_map,List.map_map];apply List.map_congr_left;intro q _;simp only [Function.comp];by_cases z:q.1.pt e=k.pt e
   ·rw [if_pos z,if_pos (show (entP e q).1=k.pt e from z)];show ((entP e q).1,_)=(k.pt e,_);rw [show (entP e q).1=k.pt e from z]
   ·rw [if_neg z,if_neg (show ¬ (entP e q).1=k.pt e from z)]
  ·obtain ⟨q',hq',rfl⟩:=List.mem_map.mp hq;split
   ·exact ⟨hk,hx⟩
   ·exact h.row q' hq'
  ·rw [List.map_map];have:L.map ((fun q:Ky×D=>q.1.code e)∘fun q=>if q.1.pt e=k.pt e then (k,x) else q)=L.map fun q=>q.1.code e:=by
    apply List.map_congr_left;intro q hq;simp only [Function.comp];split
    ·rename_i z;exact ((pt_code (h.row q hq).1.ok hk.ok).mp z).symm
    ·rfl
   rw [this];exact h.nd
 ·rename_i hn;refine ⟨L++[(k,x)],by rw [List.map_append];rfl,⟨fun q hq=>?_,?_⟩,by rw [lA1];exact nR1 _⟩
  ·rcases List.mem_append.mp hq with z | z
   ·exact h.row q z
   ·rw [List.mem_singleton.mp z];exact ⟨hk,hx⟩
  ·rw [List.map_append,List.nodup_append];refine ⟨h.nd,by simp,fun a ha b hb z=>?_⟩;have hb:b=k.code e:=by simpa using hb
   obtain ⟨q,hq,e'⟩:=List.mem_map.mp ha;have e1:q.1.code e=k.code e:=by rw [e',z,hb]
   exact hn (List.any_eq_true.mpr ⟨entP e q,List.mem_map.mpr ⟨q,hq,rfl⟩,decide_eq_true ((pt_code (h.row q hq).1.ok hk.ok).mpr e1)⟩)
theorem row_und {e:E4}{q:Ky×D}{n:Nat}(h:Deed q.2):(rowD e q).und n=true:=by
 rw [rowD,D.und,D.unds,D.unds,D.unds,q.1.und e n,und_mono h.und];rfl
theorem RP.und {e:E4}{L:List (Ky×D)}(h:RP e L)(n:Nat):(dO (L.map (entP e))).und n=true:=by
 have:D.unds n ((L.map (entP e)).map (·.2))=true:=Mi.unds_map fun p hp=>by
  obtain ⟨q,hq,rfl⟩:=List.mem_map.mp hp;exact row_und (h.row q hq).2
 cases L with
 | nil=>rfl
 | cons _ _=>exact this
theorem setP {e:E4}{F:List (TK×D)}{k:Ky}{x:D}{n:Nat}{S:Sto}(hS:S[n]? = some (dO F))(hl:F.length<=1000):gSetY (.ref n) (k.pd e) x S=some (.non,S.set n (dO (putD F (k.pt e) x))):=by
 cases F with
 | nil=>
  have hS':S[n]? = some (.dct []):=hS;simp only [gSetY,hS',k.keyP e];rfl
 | cons p F=>
  have hS':S[n]? = some (.dcT (p::F)):=hS;rw [dO_ne put_ne];simp only [gSetY,hS',k.keyP e,oS1];rw [if_pos (Nat.lt_of_le_of_lt hl (by decide))]
theorem getP {e:E4}{F:List (TK×D)}{k:Ky}{x:D}{n:Nat}{S:Sto}(hS:S[n]? = some (dO F))(h:lookD F (k.pt e)=some x):gIxY (.ref n) (k.pd e) S=some (x,S):=by
 cases F with
 | nil=>simp [lookD] at h
 | cons p F=>
  have hS':S[n]? = some (.dcT (p::F)):=hS;simp only [gIxY,hS',k.keyP e,oS1,h,oP1]
theorem getF {e:E4}{F:List (TK×D)}{k:Ky}{x:D}{n:Nat}{S:Sto}(hS:S[n]? = some (.dcF F))(h:lookD F (k.tk e)=some x):gIxY (.ref n) (k.d e) S=some (x,S):=by
 simp only [gIxY,hS,k.keyT e,oS1,h,oP1]
theorem keys_dO (F:List (TK×D)):keysO (dO F)=some F:=by cases F<;>rfl
theorem frz_und {F:List (TK×D)}{n:Nat}(h:(dO F).und n=true):(Ob.dcF F).und n=true:=by
 cases F with
 | nil=>rfl
 | cons _ _=>exact h
theorem row2_W {c b f:Nat}{e:E4}{E:D}{F:List (TK×D)}{L:List (Ky×D)}{B S:Sto}{k:Ky}{x:D}{x3 y6:Option D}(s:HZ c B S)(hb0:0<b)(hf:B.length<=f)(hbf:b≠f)(hb:S[b]? = some (.dcF F))(hS:S[f]? = some (dO (L.map (entP e))))(hl:L.length<=100)(hL:RP e L)(hk:KOk k)(hx:Deed x)(hlook:lookD F (k.tk e)=some x):
  W (p__law_machine_2 [some (.ref 0),some E,some (.ref b),x3,some (.int (k.m:Nat)),some (k.sg e),y6,some (.ref f)] S) fun p=>p.1 = .nx /\ ∃ L',RP e L'/\L'.length<=L.length+1/\HZ c B p.2.2/\p.2.2[b]? = some (.dcF F)/\p.2.2[f]? = some (dO (L'.map (entP e)))/\p.2.1=[some (.ref 0),some E,some (.ref b),x3,some (.int (k.m:Nat)),some (k.sg e),y6,some (.ref f)]:=by
 unfold p__law_machine_2;have e0:D.tup [.int (k.m:Nat),k.sg e]=k.d e:=rfl;have g1:=getF (e:=e) hb hlook;have hfl:=(gE1.mp hS).1;have hbl:=(gE1.mp hb).1;have hz4:(List.zipWith pt e.bs k.xs).length<=4:=by rw [List.length_zipWith];exact Nat.min_le_left _ _
 have uz:D.unds 0 (fltD (List.zipWith pt e.bs k.xs))=true:=by
  rw [unds_is,List.all_eq_true];intro z hz;have hz':D.unds 0 (List.zipWith pt e.bs k.xs)=true:=zip_und;rw [unds_is,List.all_eq_true] at hz';exact hz' z (List.mem_filter.mp hz).1
 obtain ⟨L',e1,h1,h2⟩:=hL.put (k:=k) (x:=x) hk hx
 ((try walk_at "own wq");repeat (simp only [e0,g1];try walk_at "own wq"))
 rw [Ky.sg_zip];refine sW_tup.mpr ?_;dsimp only;refine filterD (fun d=> !isNon d) (fun r=>∃ x,r=[x]) rfl _ _ ⟨_,rfl⟩ ?_ ?_
 ·rintro a ha r ⟨y',rfl⟩;walk_at "own wq";refine W.of (x:=(.bl (!isNon a),S)) rfl ?_;walk_at "own wq";exact ⟨⟨_,rfl⟩,fun _=>trivial⟩
 rintro r' _;dsimp only;have hfl2:((List.zipWith pt e.bs k.xs).filter fun d=> !isNon d).length<=4:=Nat.le_trans (List.length_filter_le _ _) hz4;refine ⟨fits_le (by lia),?_⟩;have s1:=s.snoc uz;have g2:(S++[Ob.lst (fltD (List.zipWith pt e.bs k.xs))])[f]? = some (dO (L.map (entP e))):=by rw [gL1 hfl];exact hS
 have g3:(S++[Ob.lst (fltD (List.zipWith pt e.bs k.xs))])[S.length]? = some (.lst (fltD (List.zipWith pt e.bs k.xs))):=by rw [get_app0];rfl
 refine sW_ref (xs:=fltD (List.zipWith pt e.bs k.xs)) g3 ?_;have hset:=setP (k:=k) (e:=e) (x:=rowD e (k,x)) g2 (by rw [lM1];lia);rw [e1] at hset;have e2:D.tup [.int (k.m:Nat),.tup (fltD (List.zipWith pt e.bs k.xs))]=k.pd e:=rfl;dsimp only;rw [e2];refine W.of hset ⟨L',h1,h2,s1.set hf (h1.und _),?_,?_,trivial⟩
 ·rw [gS1 (Ne.symm hbf),gL1 hbl];exact hb
 ·rw [List.getElem?_set_self (gE1.mp g2).1]
theorem W_forK {m:FE}{g:FG}{b:FS}{r:Ev}{S:Sto}{n:Nat}{ob:Ob}{kvs:List (TK×D)}{Q:Fl×Ev×Sto->Prop}(hm:m r S=some (.ref n,S))(hn:S[n]? = some ob)(hk:keysO ob=some kvs)
  (h:W (loopM [] g b (kvs.map fun q=>Mi.tkD q.1) r (S.set n (.dcF kvs))) fun p=>p.1 = .nx/\Q (.nx,p.2.1,p.2.2.set n ob)):W (mForK m g b r S) Q:=by
 obtain ⟨⟨f,r',S'⟩,e,h1,h2⟩:=h;dsimp only at h1 h2;subst h1;refine ⟨_,?_,h2⟩;unfold mForK;rw [hm];simp only [oS1,hn,hk,e]
theorem heads_of:∀ {l:List D},(∀ d∈l,headK d=some true)->headsK l=some true
 | [],_=>rfl
 | d::l,h=>by
  rw [headsK,h d mS1];dsimp only;rw [if_pos (List.all_eq_true.mpr fun x hx=>by rw [h x (mC1 _ hx)];rfl)]
theorem look_nd {e:E4}{L:List (Ky×D)}(h:RP e L){q:Ky×D}(hq:q∈L):lookD (L.map (entP e)) (q.1.pt e)=some (rowD e q):=by
 obtain ⟨x,h1,h2⟩:=look_mem (F:=L.map (entP e)) (k:=q.1.pt e) (List.mem_map.mpr ⟨entP e q,List.mem_map.mpr ⟨q,hq,rfl⟩,rfl⟩);obtain ⟨q',hq',e'⟩:=List.mem_map.mp h2;have e1:q'.1.pt e=q.1.pt e:=congrArg Prod.fst e';have e2:rowD e q'=x:=congrArg Prod.snd e';have e3:=(pt_code (h.row q' hq').1.ok (h.row q hq).1.ok).mp e1;have:q'=q:=by
  obtain ⟨i,hi⟩:=List.getElem?_of_mem hq;obtain ⟨j,hj⟩:=List.getElem?_of_mem hq';have li:=(gE1.mp hi).1;have lj:=(gE1.mp hj).1;have:j=i:=(List.getElem?_inj (by rw [lM1];exact lj) h.nd).mp (by rw [gP1,gP1,hi,hj];exact congrArg some e3);subst this;rw [hi] at hj;exact (Option.some.inj hj).symm
 rw [h1,<- e2,this]
theorem machine_W {n:Nat}{B U:Sto}{Q:D×Sto->Prop}(s:HZ n B U)(hn:n<=2^39)
  (q:∀ (e:E4) (zs:List (Ky×D)) U',(∀ z∈zs,KOk z.1/\Deed z.2)->zs.Pairwise (fun x y=>x.1.code e<y.1.code e)->zs.length<=14->HZ (n+300) B U'->HZ (n+300) U U'->U'.length=U.length->Q (.tup [.tup (eyesL e.1 e.2.1 e.2.2.1 e.2.2.2),.tup (zs.map (rowD e))],U')):W (mCall 1 m__law_machine [.ref 0] U) Q:=by
 have hp:0<U.length:=nL1 s.pos s.len;refine callB (c':=n+300) rfl rfl s ?_;unfold m__law_machine;refine fnW ?_;unfold b__law_machine;refine seqW (fun r S=>∃ e:E4,HZ (n+4) U S/\S.length=U.length/\r=[some (.ref 0),some (.tup (eyesL e.1 e.2.1 e.2.2.1 e.2.2.2)),none,none,none,none,none,none]) ?_ ?_
 ·walk_at "own wq";refine someyes_W s.self (by lia) fun a b c d U' h1 h2 h3=>?_;walk_at "own wq";exact ⟨(a,b,c,d),h1,h3,rfl⟩
 rintro r S ⟨e,s1,l1,rfl⟩;generalize hE:D.tup (eyesL e.1 e.2.1 e.2.2.1 e.2.2.2)=E at *
 refine seqW (fun r S'=>S'=S++[.dct []]/\r=[some (.ref 0),some E,some (.ref U.length),none,none,none,none,none]) ?_ ?_
 ·((try walk_at "own wq");repeat (simp only [mDnew,l1];try walk_at "own wq"))
 rintro r _ ⟨rfl,rfl⟩;have s2:HZ (n+4) U (S++[.dct []]):=s1.app fun o ho=>by simp at ho;subst ho;rfl
 have g2:(S++[Ob.dct []])[U.length]? = some (dO []):=by rw [<- l1,get_app0];rfl
 refine seqW (fun r S=>∃ F y3 y4 y5 y6,RW e F/\F.length<=14/\HZ (n+200) U S/\S[U.length]? = some (dO F)/\r=[some (.ref 0),some E,some (.ref U.length),y3,y4,y5,y6,none]) ?_ ?_
 ·walk_at "own wq";refine take_W s2 (by lia) (by lia) (by lia) fun t U1 v1 w1 l2 ht=>?_;have g3:U1[U.length]? = some (dO []):=by rw [w1.same _ hp (by rw [lA1];simp;lia)];exact g2
  walk_at "own wq";rw [nums0,Int.toNat_natCast];refine ⟨bnd_nat (by lia),?_⟩;refine loopM_W (fun i r S=>∃ F y3 y4 y5 y6,RW e F/\F.length<=i/\i<=t/\HZ (n+5+10*i) U S/\S[U.length]? = some (dO F)/\r=[some (.ref 0),some E,some (.ref U.length),y3,y4,y5,y6,none]) _ 0 _ _ ⟨[],_,_,_,_,RW.row0,by simp,by lia,v1,g3,rfl⟩ (fun _ _ _ _=>rfl) ?_ ?_
  ·rintro i d hd r S' ⟨F,y3,y4,y5,y6,hF,hFl,hi,hs,hS,rfl⟩;have hlt:=(gE1.mp hd).1;rw [lM1,List.length_range] at hlt;rw [Nat.zero_add] at *
   walk_at "own wq";refine (row1_W hE.symm hs (by lia) (nR1 _) hF (by lia) hS).mono ?_;rintro p ⟨h1,F',y4,y5,y6,h2,h3,h4,h5,h6⟩;exact ⟨h1,F',_,y4,y5,y6,h2,by lia,by lia,h4.more (by lia),h5,h6⟩
  ·rintro r S' ⟨F,y3,y4,y5,y6,hF,hFl,hi,hs,hS,rfl⟩;rw [lM1,List.length_range,Nat.zero_add] at *
   exact ⟨rfl,F,y3,y4,y5,y6,hF,by lia,hs.more (by lia),hS,rfl⟩
 rintro r S3 ⟨F,y3,y4,y5,y6,hF,hFl,s3,g3,rfl⟩;have hSl3:=(gE1.mp g3).1;refine seqW (fun r S'=>S'=S3++[.dct []]/\r=[some (.ref 0),some E,some (.ref U.length),y3,y4,y5,y6,some (.ref S3.length)]) ?_ ?_
 ·((try walk_at "own wq");repeat (simp only [mDnew];try walk_at "own wq"))
 rintro r _ ⟨rfl,rfl⟩;have s4:HZ (n+200) U (S3++[.dct []]):=s3.app fun o ho=>by simp at ho;subst ho;rfl
 have g4:(S3++[Ob.dct []])[U.length]? = some (dO F):=by rw [gL1 hSl3];exact g3
 have g5:(S3++[Ob.dct []])[S3.length]? = some (dO (([]:List (Ky×D)).map (entP e))):=by rw [get_app0];rfl
 generalize hf:S3.length=f at *
 generalize S3++[Ob.dct []]=S4 at *
 have hne:U.length≠f:=by lia
 refine seqW (fun r S=>∃ L y4 y5,RP e L/\L.length<=14/\HZ (n+200) U S/\S[f]? = some (dO (L.map (entP e)))/\r=[some (.ref 0),some E,some (.ref U.length),y3,y4,y5,y6,some (.ref f)]) ?_ ?_
 ·refine W_forK rfl g4 (keys_dO F) ?_;have s5:HZ (n+200) U (S4.set U.length (.dcF F)):=s4.set (nR1 _) (frz_und (hF.und _));have g6:(S4.set U.length (.dcF F))[U.length]? = some (.dcF F):=by rw [List.getElem?_set_self (gE1.mp g4).1]
  have g7:(S4.set U.length (.dcF F))[f]? = some (dO (([]:List (Ky×D)).map (entP e))):=by rw [gS1 hne];exact g5
  refine loopM_W (fun i r S=>∃ L y4 y5,RP e L/\L.length<=i/\HZ (n+200) U S/\S[U.length]? = some (.dcF F)/\S[f]? = some (dO (L.map (entP e)))/\r=[some (.ref 0),some E,some (.ref U.length),y3,y4,y5,y6,some (.ref f)]) _ 0 _ _ ⟨[],_,_,⟨fun q h=>(by cases h),List.nodup_nil⟩,by simp,s5,g6,g7,rfl⟩ (fun _ _ _ _=>rfl) ?_ ?_
  ·rintro i d hd r S' ⟨L,y4,y5,hL,hLl,hs,hb,hS,rfl⟩;rw [Nat.zero_add] at *
   have hlt:=(gE1.mp hd).1;rw [lM1] at hlt;rw [gP1,gG1 hlt] at hd;have hd:Mi.tkD F[i].1=d:=Option.some.inj hd;obtain ⟨k,hk,ek,hx⟩:=hF.row F[i] (List.getElem_mem hlt);obtain ⟨x,h1,h2⟩:=look_mem (F:=F) (k:=k.tk e) (List.mem_map.mpr ⟨F[i],List.getElem_mem hlt,ek⟩);obtain ⟨_,_,_,hx'⟩:=hF.row _ h2;rw [ek,k.tkD e] at hd;subst hd;unfold Ky.d;walk_at "own wq";refine (row2_W hs hp (by lia) hne hb hS (by lia) hL hk hx' h1).mono ?_;rintro p ⟨h1,L',h3,h4,h5,h6,h7,h8⟩;exact ⟨h1,L',_,_,h3,by lia,h5,h6,h7,h8⟩
  ·rintro r S' ⟨L,y4,y5,hL,hLl,hs,hb,hS,rfl⟩;rw [lM1,Nat.zero_add] at *
   refine ⟨rfl,rfl,L,y4,y5,hL,by lia,hs.set (nR1 _) (hF.und _),?_,rfl⟩;rw [gS1 hne];exact hS
 rintro r S5 ⟨L,y4,y5,hL,hLl,s6,g6,rfl⟩;have hkeys:((L.map (entP e)).map fun p=>Mi.tkD p.1)=L.map fun q=>q.1.pd e:=by
  rw [List.map_map];exact List.map_congr_left fun q _=>q.1.tkP e
 obtain ⟨zs,e1,pm,pw,rise⟩:=sortD_by (f:=fun q:Ky×D=>q.1.pd e) (c:=fun q=>q.1.code e) (ks:=L) (fun a ha b hb=>Ky.ltP (S:=[]) (n:=48) (hL.row a ha).1.ok (hL.row b hb).1.ok) hL.nd;have hzl:zs.length<=14:=by rw [pm.length_eq];exact hLl
 have hzr:∀ z∈zs,z∈L:=fun z hz=>pm.mem_iff.mp hz;have esort:gSortK (.ref f) S5=some (.ref S5.length,S5++[.lst (zs.map fun q=>q.1.pd e)]):=by
  unfold gSortK;dsimp only;rw [g6,oS1,keys_dO,oS1,hkeys,heads_of (fun d hd=>by obtain ⟨q,_,rfl⟩:=List.mem_map.mp hd;rfl),oS1,e1,rise];rw [if_pos (by rw [lM1,decide_eq_true (by lia)];rfl)]
 ((try walk_at "own wq");repeat (simp only [esort];try walk_at "own wq"))
 have g7:(S5++[Ob.lst (zs.map fun q=>q.1.pd e)])[S5.length]? = some (.lst (zs.map fun q=>q.1.pd e)):=by rw [get_app0];rfl
 have g8:(S5++[Ob.lst (zs.map fun q=>q.1.pd e)])[f]? = some (dO (L.map (entP e))):=by rw [gL1 (gE1.mp g6).1];exact g6
 have s7:HZ (n+200) U (S5++[Ob.lst (zs.map fun q=>q.1.pd e)]):=s6.snoc (by
  rw [unds_is,List.all_eq_true];intro x hx;obtain ⟨z,_,rfl⟩:=List.mem_map.mp hx;rw [<- z.1.tkP e];exact und_tk _)
 generalize hS6:S5++[Ob.lst (zs.map fun q=>q.1.pd e)]=S6 at *
 refine sW_ref g7 ?_;dsimp only;refine mapW (f:=fun q:Ky×D=>q.1.pd e) (rowD e) (fun r=>∃ x,r=[x,some (.ref f)]) (okC_one g7) zs _ ⟨_,rfl⟩ ?_ ?_
 ·rintro z hz r ⟨x,rfl⟩
  ((try walk_at "own wq");repeat (simp only [getP (k:=z.1) (e:=e) g8 (look_nd hL (hzr z hz))];try walk_at "own wq"))
  exact ⟨_,rfl⟩
 rintro r' _;dsimp only;refine ⟨fits_le (by rw [lM1];lia),?_⟩;have g9:(S6++[Ob.lst (zs.map (rowD e))])[S6.length]? = some (.lst (zs.map (rowD e))):=by rw [get_app0];rfl
 have uz:D.unds 0 (zs.map (rowD e))=true:=by
  rw [unds_is,List.all_eq_true];intro x hx;obtain ⟨z,hz,rfl⟩:=List.mem_map.mp hx;exact row_und (hL.row z (hzr z hz)).2
 refine sW_ref (xs:=zs.map (rowD e)) g9 ?_;refine ⟨(s7.snoc uz).more (by lia),?_,fun U' h1 h2 h3=>by have:=q e zs U' (fun z hz=>hL.row z (hzr z hz)) pw hzl h1 h2 h3;rw [hE] at this;exact this⟩;rw [D.und,D.unds,D.unds,D.unds,<- hE,D.und,D.und,eyes_und,uz];rfl
theorem eyes_vd {S:Sto}(a b c d:Bool):vds S (eyesL a b c d)=true:=by cases a<;>cases b<;>cases c<;>cases d<;>rfl
theorem blS_inj {a b:Bool}{S:Sto}(h:some (D.bl a,S)=some (D.bl b,S)):a=b:=by injection h with h;injection h with h;injection h
theorem in_eye {a b c d x:Bool}{s:Str}(h:∀ S:Sto,gInY (.str s) (.tup (eyesL a b c d)) S=some (.bl x,S)):tf (D.str s∈eyesL a b c d)=x:=by
 have:=h [];rw [in_tup rfl (eyes_vd a b c d),any_str] at this;exact blS_inj this
theorem inE_0 {a b c d:Bool}:tf (D.str "came"∈eyesL a b c d)=a:=in_eye fun S=>in_came
theorem inE_1 {a b c d:Bool}:tf (D.str "chalk"∈eyesL a b c d)=b:=in_eye fun S=>in_chalk
theorem inE_2 {a b c d:Bool}:tf (D.str "doors"∈eyesL a b c d)=c:=in_eye fun S=>in_doors
theorem inE_3 {a b c d:Bool}:tf (D.str "others"∈eyesL a b c d)=d:=in_eye fun S=>in_others
theorem ord_eyes (a b c d:Bool):ord wEy (eyesL a b c d)=true:=by
 refine tf_t ?_;unfold wEy;simp only [List.filter_cons,List.filter_nil,inE_0,inE_1,inE_2,inE_3];cases a<;>cases b<;>cases c<;>cases d<;>rfl
theorem eOf_eyes (e:E4):eOf (eyesL e.1 e.2.1 e.2.2.1 e.2.2.2)=e:=by
 obtain ⟨a,b,c,d⟩:=e;show (inE _ 0,inE _ 1,inE _ 2,inE _ 3)=_;rw [show inE (eyesL a b c d) 0=a from inE_0,show inE (eyesL a b c d) 1=b from inE_1,show inE (eyesL a b c d) 2=c from inE_2,show inE (eyesL a b c d) 3=d from inE_3]
theorem bel_pt {b:Bool}{m x:Nat}(h:x<m):ptB b m (pt b x)=true:=by
 cases b with
 | false=>rfl
 | true=>
  show belD m (.int (x:Nat))=true;rw [belD,bA1,decide_eq_true_eq,decide_eq_true_eq];lia
theorem deed_is {x:D}(h:Deed x):deedB x=true:=by
 obtain ⟨m,y,t,rfl,h1,h2,h3⟩:=h.is;rw [deedB,bA1,bA1];refine ⟨?_,tf_t h2,?_⟩
 ·rw [belD,bA1,decide_eq_true_eq,decide_eq_true_eq];lia
 ·simp only [steps,List.mem_cons,List.not_mem_nil,or_false] at h3;rcases h3 with z | z | z | z | z<;>subst z<;>rfl
theorem row_ok {e:E4}{q:Ky×D}(hk:KOk q.1)(hd:Deed q.2):rowB (eyesL e.1 e.2.1 e.2.2.1 e.2.2.2) (rowD e q)=true:=by
 obtain ⟨a,b,c,d⟩:=e;have h1:=hk.ok.m;have h2:=hk.ok.x;have h3:=hk.y;have h4:=hk.ok.z;have h5:=hk.w
 show (keyB (eyesL a b c d) (.tup [.int q.1.m,.tup [pt a q.1.x,pt b q.1.y,pt c q.1.z,pt d q.1.w]])&&deedB q.2)=true;rw [deed_is hd,Bool.and_true];show (belD 4000 (.int (q.1.m:Nat))&&sightB (eyesL a b c d) (.tup [pt a q.1.x,pt b q.1.y,pt c q.1.z,pt d q.1.w]))=true;rw [bA1];refine ⟨by rw [belD,bA1,decide_eq_true_eq,decide_eq_true_eq];lia,?_⟩;show (ptB (inE (eyesL a b c d) 0) 5 (pt a q.1.x)&&(ptB (inE (eyesL a b c d) 1) 2 (pt b q.1.y)&&(ptB (inE (eyesL a b c d) 2) 5 (pt c q.1.z)&&ptB (inE (eyesL a b c d) 3) 2 (pt d q.1.w))))=true;rw [show inE (eyesL a b c d) 0=a from inE_0,show inE (eyesL a b c d) 1=b from inE_1,show inE (eyesL a b c d) 2=c from inE_2,show inE (eyesL a b c d) 3=d from inE_3,bel_pt (by lia),bel_pt (by lia),bel_pt (by lia),bel_pt (by lia)];rfl
theorem nat_pt {b:Bool}{x:Nat}:cx b (natD (pt b x))=cx b x:=by
 cases b with
 | false=>rfl
 | true=>rfl
theorem code_row {e:E4}{q:Ky×D}:codeR (eyesL e.1 e.2.1 e.2.2.1 e.2.2.2) (rowD e q)=q.1.code e:=by
 show (kyOf (q.1.d e)).code (eOf _)=_;rw [eOf_eyes];obtain ⟨a,b,c,d⟩:=e;show natD (.int (q.1.m:Nat))*4096+cds [a,b,c,d] [natD (pt a q.1.x),natD (pt b q.1.y),natD (pt c q.1.z),natD (pt d q.1.w)]=q.1.m*4096+cds [a,b,c,d] [q.1.x,q.1.y,q.1.z,q.1.w];simp only [cds,nat_pt];rfl
theorem mach_ok {e:E4}{zs:List (Ky×D)}(h:∀ z∈zs,KOk z.1/\Deed z.2)(pw:zs.Pairwise (fun x y=>x.1.code e<y.1.code e)):machB (.tup [.tup (eyesL e.1 e.2.1 e.2.2.1 e.2.2.2),.tup (zs.map (rowD e))])=true:=by
 rw [mach_tup (ord_eyes _ _ _ _),rowsB,bA1,List.all_eq_true];constructor
 ·intro x hx;obtain ⟨z,hz,rfl⟩:=List.mem_map.mp hx;exact row_ok (h z hz).1 (h z hz).2
 ·rw [List.map_map];have:zs.map (codeR (eyesL e.1 e.2.1 e.2.2.1 e.2.2.2)∘rowD e)=zs.map fun z=>z.1.code e:=List.map_congr_left fun z _=>code_row;rw [this];exact inc_of (List.pairwise_map.mpr pw)
theorem dp_flat {n:Nat}{d:D}(h:isT d=false):dp n d:=by
 cases n with
 | zero=>exact h
 | succ n=>intro xs e;subst e;cases h
theorem pt_flat {b:Bool}{x:Nat}:isT (pt b x)=false /\ ∀ k S,Ok k S (pt b x):=by
 cases b with
 | false=>exact ⟨rfl,fun k S=>.shut rfl (by rw [pt];rfl)⟩
 | true=>exact ⟨rfl,fun k S=>.shut rfl (by rw [pt];rfl)⟩
theorem deed_flat {S:Sto}{x:D}(h:Deed x):dp 2 x/\Ok 20 S x:=by
 obtain ⟨m,y,t,rfl,h1,h2,h3⟩:=h.is;have fy:isT y=false/\Ok 20 S y:=by
  simp only [hands,List.mem_cons,List.not_mem_nil,or_false] at h2;rcases h2 with z | z | z<;>subst z<;>exact ⟨rfl,.shut rfl (by rw [bd])⟩
 have ft:isT t=false/\Ok 20 S t:=by
  simp only [steps,List.mem_cons,List.not_mem_nil,or_false] at h3;rcases h3 with z | z | z | z | z<;>subst z<;>exact ⟨rfl,.shut rfl (by rw [bd])⟩
 constructor
 ·intro xs e v hv;cases e;simp only [List.mem_cons,List.not_mem_nil,or_false] at hv;rcases hv with rfl | rfl | rfl
  ·exact dp_flat rfl
  ·exact dp_flat fy.1
  ·exact dp_flat ft.1
 ·refine .tup (by simp) fun v hv=>?_;simp only [List.mem_cons,List.not_mem_nil,or_false] at hv;rcases hv with rfl | rfl | rfl
  ·exact .shut rfl (by rw [bd])
  ·exact fy.2
  ·exact ft.2
theorem key_flat {S:Sto}{k:Ky}{e:E4}:dp 2 (k.d e)/\Ok 20 S (k.d e):=by
 have hs:dp 1 (k.sg e)/\Ok 20 S (k.sg e):=by
  constructor
  ·intro xs e' v hv;cases e';simp only [List.mem_cons,List.not_mem_nil,or_false] at hv;rcases hv with rfl | rfl | rfl | rfl<;>exact pt_flat.1
  ·refine .tup (by simp) fun v hv=>?_;simp only [List.mem_cons,List.not_mem_nil,or_false] at hv;rcases hv with rfl | rfl | rfl | rfl<;>exact pt_flat.2 _ _
 constructor
 ·intro xs e' v hv;cases e';simp only [List.mem_cons,List.not_mem_nil,or_false] at hv;rcases hv with rfl | rfl
  ·exact dp_flat rfl
  ·exact hs.1
 ·refine .tup (by simp) fun v hv=>?_;simp only [List.mem_cons,List.not_mem_nil,or_false] at hv;rcases hv with rfl | rfl
  ·exact .shut rfl (by rw [bd])
  ·exact hs.2
theorem mach_flat {S:Sto}{e:E4}{zs:List (Ky×D)}(h:∀ z∈zs,KOk z.1/\Deed z.2)(hl:zs.length<=14):dp 5 (.tup [.tup (eyesL e.1 e.2.1 e.2.2.1 e.2.2.2),.tup (zs.map (rowD e))])/\Ok 20 S (.tup [.tup (eyesL e.1 e.2.1 e.2.2.1 e.2.2.2),.tup (zs.map (rowD e))]):=by
 have he:∀ x∈eyesL e.1 e.2.1 e.2.2.1 e.2.2.2,isT x=false/\Ok 20 S x:=fun x hx=>by
  have:x∈wEy:=by
   have o:=tf_e.mp (ord_eyes e.1 e.2.1 e.2.2.1 e.2.2.2);rw [o] at hx;exact (List.mem_filter.mp hx).1
  obtain ⟨s,rfl⟩:=ey_str x this;exact ⟨rfl,.shut rfl (by rw [bd])⟩
 have hr:∀ x∈zs.map (rowD e),dp 3 x/\Ok 20 S x:=fun x hx=>by
  obtain ⟨z,hz,rfl⟩:=List.mem_map.mp hx;have hd:=deed_flat (S:=S) (h z hz).2;have hk:=key_flat (S:=S) (k:=z.1) (e:=e);constructor
  ·intro xs e' v hv;cases e';simp only [List.mem_cons,List.not_mem_nil,or_false] at hv;rcases hv with rfl | rfl
   ·exact hk.1
   ·exact hd.1
  ·refine .tup (by simp) fun v hv=>?_;simp only [List.mem_cons,List.not_mem_nil,or_false] at hv;rcases hv with rfl | rfl
   ·exact hk.2
   ·exact hd.2
 constructor
 ·intro xs e' v hv;cases e';simp only [List.mem_cons,List.not_mem_nil,or_false] at hv;rcases hv with rfl | rfl
  ·intro ys e2 v hv;cases e2;exact dp_flat (he v hv).1
  ·intro ys e2 v hv;cases e2;exact (hr v hv).1
 ·refine .tup (by simp) fun v hv=>?_;simp only [List.mem_cons,List.not_mem_nil,or_false] at hv;rcases hv with rfl | rfl
  ·exact .tup (by have:=eyes_len e.1 e.2.1 e.2.2.1 e.2.2.2;lia) fun x hx=>(he x hx).2
  ·exact .tup (by rw [lM1];lia) fun x hx=>(hr x hx).2
theorem is_is {d:D}{b:Bool}{S:Sto}:gIsNotX (.bl b) (.bl true) S=some (.bl (!b),S)/\gIsNotX (.bl b) (.bl false) S=some (.bl b,S):=by cases b<;>exact ⟨rfl,rfl⟩
theorem spoil_W {N M x4 x5:Option D}{d k:D}{n:Nat}{o:Ob}{T:Sto}(ho:Hnd o n)(hn:n<=2^30)(hT:ClT T)(hd:Ok 20 (o::T) d)(hp:dp 5 d):
  W (p_law_1 [N,M,some (.ref 0),some d,x4,x5] (o::T)) fun p=>p.1 = .nx /\ ∃ o' G x5,Hnd o' (n+100)/\p.2.2=o'::(T++G)/\ClT (T++G)/\p.2.1=[N,M,some (.ref 0),some d,x4,x5]:=by
 unfold p_law_1;refine seqW (fun r S=>∃ o' G x,Hnd o' (n+100)/\S=o'::(T++G)/\ClT (T++G)/\Ok 21 (o'::(T++G)) x/\r=[N,M,some (.ref 0),some d,x4,some x]) ?_ ?_
 ·walk_at "own wq";unfold m__law_spoilt;refine spoilt_W 5 (by decide) ho (by lia) hT hd hp (by lia) (by lia) fun x o' G ho' hc hx=>?_;walk_at "own wq";exact ⟨o',G,x,ho'.more (by lia),rfl,hc,hx,rfl⟩
 rintro r S ⟨o',G,x,ho',rfl,hc,hx,rfl⟩;have hS:=shut_of ho' hc;walk_at "own wq";refine lawmach_W hS (hx.more (by lia)) ?_;walk_at "own wq";cases hm:machB x with
 | true=>
  walk_at "own wq";refine ismach_W hS (hx.more (by lia)) ?_;rw [hm]
  ((try walk_at "own wq");repeat (simp only [is_is (d:=x) (b:=true)];try walk_at "own wq"))
  exact ⟨o',G,some x,ho',rfl,hc,rfl⟩
 | false=>
  walk_at "own wq";refine ismach_W hS (hx.more (by lia)) ?_;rw [hm]
  ((try walk_at "own wq");repeat (simp only [is_is (d:=x) (b:=false)];try walk_at "own wq"))
  exact ⟨o',G,some x,ho',rfl,hc,rfl⟩
theorem turn_W (ns:List Int)(i:Nat)(hi:i<63):
  W (p_law_2 [some (.rol (ns.map D.int)),some (.int (i:Nat)),none,none,none,none] []) fun p=>p.1 = .nx /\ ∃ r,p.2.1=some (.rol (ns.map D.int))::r/\r.length=5:=by
 obtain ⟨o,eh,ho⟩:=hand_ok ns i (by lia) (by lia);generalize hN:D.rol (ns.map D.int)=N at *
 unfold p_law_2;refine seqW (fun r S=>S=[o]/\r=[some N,some (.int (i:Nat)),some (.ref 0),none,none,none]) ?_ ?_
 ·walk_at "own wq";refine W.of eh ?_;walk_at "own wq"
 rintro r S ⟨rfl,rfl⟩;have s0:HZ 0 [o] [o]:=⟨by simp,by simp,fun _ _ _=>rfl,⟨o,rfl,ho⟩,by unfold Shut;rw [List.all_cons,ho.und];rfl⟩;refine seqW (fun r S=>∃ o' d,Hnd o' 300/\S=[o']/\machB d=true/\dp 5 d/\(∀ S,Ok 20 S d)/\r=[some N,some (.int (i:Nat)),some (.ref 0),some d,none,none]) ?_ ?_
 ·walk_at "own wq";refine machine_W s0 (by lia) fun e zs U' h1 h2 h3 u1 u2 u3=>?_;obtain ⟨o',e1,ho'⟩:=u1.hand;have eU:U'=[o']:=by
   match U',u3,e1 with
   | [x],_,e1=>simpa using e1
  subst eU;walk_at "own wq";exact ⟨o',_,ho',rfl,mach_ok h1 h2,(mach_flat (S:=[]) h1 h3).1,fun S=>(mach_flat h1 h3).2,rfl⟩
 rintro r S ⟨o1,d,ho1,rfl,hm,hdp,hok,rfl⟩;have ask:∀ {o:Ob} {T:Sto} {n:Nat} {x4 x5:Option D},Hnd o n->ClT T->W (mIfS (mB (m2 (b2 gIsNotX) (mN (mCall 1 m_is_machine) (mCons (mV 3) mNil)) (mC (D.bl true)))) (mRet (mC (D.bl false))) mNx [some N,some (.int (i:Nat)),some (.ref 0),some d,x4,x5] (o::T)) fun p=>p.1 = .nx/\p.2.2=o::T/\p.2.1=[some N,some (.int (i:Nat)),some (.ref 0),some d,x4,x5]:=fun {o T n x4 x5} ho hT=>by
  walk_at "own wq";refine ismach_W (shut_of ho hT) ((hok _).more (by lia)) ?_;rw [hm]
  ((try walk_at "own wq");repeat (simp only [is_is (d:=d) (b:=true)];try walk_at "own wq"))
 refine seqW (fun r S=>S=[o1]/\r=[some N,some (.int (i:Nat)),some (.ref 0),some d,none,none]) (ask ho1 rfl) ?_;rintro r S ⟨rfl,rfl⟩;refine seqW (fun r S=>∃ o' T n x4 x5,Hnd o' n/\S=o'::T/\ClT T/\r=[some N,some (.int (i:Nat)),some (.ref 0),some d,x4,x5]) ?_ ?_
 ·walk_at "own wq";refine ⟨by decide,?_⟩;refine loopM_W (fun j r S=>∃ o' T x4 x5,Hnd o' (300+100*j)/\j<=4/\S=o'::T/\ClT T/\r=[some N,some (.int (i:Nat)),some (.ref 0),some d,x4,x5]) _ 0 _ _ ⟨o1,[],none,none,ho1,by lia,rfl,rfl,rfl⟩ (fun _ _ _ _=>rfl) ?_ ?_
  ·rintro j dd hd r S ⟨o',T,x4,x5,ho',hj,rfl,hT,rfl⟩;have hlt:=(gE1.mp hd).1;rw [nums_len] at hlt;have hlt:j<4:=hlt;rw [Nat.zero_add] at *
   walk_at "own wq";refine (spoil_W (k:=.non) ho' (by lia) hT (hok _) hdp).mono ?_;rintro p ⟨h1,o2,G,x5,h2,h3,h4,h5⟩;exact ⟨h1,o2,T++G,_,x5,h2.more (by lia),by lia,h3,h4,h5⟩
  ·rintro r S ⟨o',T,x4,x5,ho',hj,rfl,hT,rfl⟩;exact ⟨rfl,o',T,_,x4,x5,ho',rfl,hT,rfl⟩
 rintro r S ⟨o',T,n,x4,x5,ho',rfl,hT,rfl⟩;refine (ask ho' hT).mono ?_;rintro p ⟨h1,h2,h3⟩;exact ⟨h1,_,h3,rfl⟩
theorem truth (ns:List Int)(hl:ns.length<=63):∃ S,m_law [.rol (ns.map D.int)] []=some (.bl true,S):=by
 have key:W (m_law [.rol (ns.map D.int)] []) fun p=>p.1 = .bl true:=by
  unfold m_law;refine fnW ?_;unfold b_law;have hu:(D.rol (ns.map D.int)).und 0=true:=by simp [D.und,unds_ints]
  have ht:=fun k hk=>turn_W ns k hk;generalize hN:D.rol (ns.map D.int)=N at *
  have hlen:gLen N []=some (.int ns.length,[]):=by rw [<- hN];simp [gLen,seqOf]
  refine seqW (fun r S=>S=[]/\r=[some N,none,none,none,none,none]) ?_ ?_
  ·((try walk_at "own wq");repeat (simp only [gMax,gMin,hlen];try walk_at "own wq"))
   have hb:∃ t:Nat,t<=8/\(if (if (ns.length:Int)<8 then (ns.length:Int) else 8)>1 then (if (ns.length:Int)<8 then (ns.length:Int) else 8) else 1)=(t:Int):=by
    by_cases h1:(ns.length:Int)<8
    ·rw [if_pos h1];by_cases h2:(ns.length:Int)>1
     ·rw [if_pos h2];exact ⟨ns.length,by lia,rfl⟩
     ·rw [if_neg h2];exact ⟨1,by lia,rfl⟩
    ·rw [if_neg h1];exact ⟨8,by lia,by decide⟩
   obtain ⟨t,t1,te⟩:=hb;rw [te,Int.toNat_natCast];refine ⟨bnd_nat (by lia),?_⟩;refine loopM_W (fun _ r S=>S=[]/\r=[some N,none,none,none,none,none]) _ 0 _ _ ⟨rfl,rfl⟩ (fun _ _ _ _=>rfl) ?_ ?_
   ·rintro i d hd r S ⟨rfl,rfl⟩;have hlt:=(gE1.mp hd).1;rw [nums_len] at hlt;have hd':d = .int (i:Nat):=by
     rw [nums0,gP1,List.getElem?_range hlt] at hd;exact (Option.some.inj hd).symm
    subst hd';walk_at "own wq";obtain ⟨⟨f,r2,S2⟩,e2,hf,r5,hr5,hl5⟩:=ht i (by lia);dsimp only at hf hr5;subst hf;subst hr5;obtain ⟨z1,z2,z3,z4,z5,hz⟩:∃ z1 z2 z3 z4 z5,r5=[z1,z2,z3,z4,z5]:=by
     match r5,hl5 with
     | [z1,z2,z3,z4,z5],_=>exact ⟨_,_,_,_,_,rfl⟩
    subst hz;refine W.of (x:=(.nx,[some N,none,none,none,none,none],[])) ?_ ⟨rfl,rfl,rfl⟩;unfold p_law_3 mPure;simp [maskE,shutE,D.und,hu,e2]
   ·rintro r S ⟨rfl,rfl⟩;exact ⟨rfl,rfl,rfl⟩
  ·rintro r S ⟨rfl,rfl⟩;walk_at "own wq"
 obtain ⟨⟨d,S⟩,e,h⟩:=key;dsimp only at h;exact ⟨S,by rw [e,h]⟩
end Law
end
open PySem PySem.W PyProof.Rows
noncomputable def PySem.W.Fast.tw15697317812002685702:=()
noncomputable def PySem.W.Fast.tw7682626071533254223:=()
noncomputable def PySem.W.Fast.tw12442299864769449333:=()
noncomputable def PySem.W.Fast.tw6661681199966139059:=()
noncomputable def PySem.W.Fast.tw9942160010485936544:=()
noncomputable def PySem.W.Fast.tw2074120546855016910:=()
noncomputable def PySem.W.Fast.tw4243745849539864950:=()
noncomputable def PySem.W.Fast.tw15474330479750317320:=()
noncomputable def PySem.W.Fast.tw7456145293376066079:=()
noncomputable def PySem.W.Fast.tw10230313922387772552:=()
noncomputable def PySem.W.Fast.tw10838600059947975603:=()
noncomputable def PySem.W.Fast.tw11396572512093968995:=()
noncomputable def PySem.W.Fast.tw12600804899105319055:=()
noncomputable def PySem.W.Fast.tw18156450968179292033:=()
noncomputable def PySem.W.Fast.tw13084230596514826075:=()
noncomputable def PySem.W.Fast.tw18280969708752748166:=()
noncomputable def PySem.W.Fast.tw26655014286777815:=()
noncomputable def PySem.W.Fast.tw5108553546344875581:=()
noncomputable def PySem.W.Fast.tw17602779877960410131:=()
noncomputable def PySem.W.Fast.tw14206099719530904281:=()
noncomputable def PySem.W.Fast.tw6694294240414435760:=()
noncomputable def PySem.W.Fast.tw4167223490619675766:=()
noncomputable def PySem.W.Fast.tw14893845850178932826:=()
noncomputable def PySem.W.Fast.tw12326153142371363457:=()
noncomputable def PySem.W.Fast.tw3185761204043502112:=()
noncomputable def PySem.W.Fast.tw8550789396894803822:=()
noncomputable def PySem.W.Fast.tw6502211637368631569:=()
noncomputable def PySem.W.Fast.tw496958790409620629:=()
noncomputable def PySem.W.Fast.tw17937939741939658337:=()
noncomputable def PySem.W.Fast.tw15207570112467328936:=()
noncomputable def PySem.W.Fast.tw7433184024566334250:=()
noncomputable def PySem.W.Fast.tw585693193760275587:=()
noncomputable def PySem.W.Fast.tw5037004879230490878:=()
noncomputable def PySem.W.Fast.tw3066301396922904553:=()
noncomputable def PySem.W.Fast.tw9615220627497005219:=()
noncomputable def PySem.W.Fast.tw13404960409319563744:=()
noncomputable def PySem.W.Fast.tw6854967576739520052:=()
noncomputable def PySem.W.Fast.tw11298537489855498119:=()
noncomputable def PySem.W.Fast.tw17320934108740228894:=()
noncomputable def PySem.W.Fast.tw7352482404891852774:=()
noncomputable def PySem.W.Fast.tw3682947900998215274:=()
set_option maxRecDepth 100000 in
set_option maxHeartbeats 0 in
theorem PySem.Challenge.cw_ringmeet_k21_machines_known_holds : PySem.Challenge.rw_ringmeet_k21_machines_known.Holds := by
 w_on;o_law;k_head;(case hw=>w_witness2)
 k_fill
 refine Mi.walk_m (l:=PySem.Challenge.rw_ringmeet_k21_machines_known) (m:=Law.m_law) (k:=13) (x:="_law_script") rfl rfl ⟨rfl,by decide,by decide,rfl⟩ (fun w h Y=>PySem.W.kIn_of Y) Law.truth ?F
 case F=>
  intro w mg fa h KX G hmg;refine' Law.all_mk KX G hmg ?a1 ?a2 ?a3 ?a4 ?a5 ?a6 ?a7 ?a8 ?a9 ?a10 ?a11 ?a12 ?a13 ?a14 ?a15 ?a16 ?a17 ?a18 ?a19 ?a20 ?a21 ?a22 ?a23 ?a24 ?a25 ?a26 ?a27 ?a28 ?e_HANDS ?h1 ?e_MOODS ?e_MOST_ROWS ?e_PARTS ?h7 ?h8 ?h11 ?h14 ?h17 ?e_STEPS ?z
  all_goals try (refine' Mi.fa_mk ?a ?l ?c ?k;(case a=>k_is);(case l=>k_is);(case c=>k_is);(case k=>k_is))
  (case e_HANDS=>k_is)
  (case h1=>k_is)
  (case e_MOODS=>k_is)
  (case e_MOST_ROWS=>k_is)
  (case e_PARTS=>k_is)
  (case h7=>k_is)
  (case h8=>k_is)
  (case h11=>k_is)
  (case h14=>k_is)
  (case h17=>k_is)
  (case e_STEPS=>k_is)
  (case z=>exact ⟨by k_is,by k_is,by k_is,by k_is,by k_is,by k_is,by k_is,by k_is,by k_is,by k_is,by k_is,by k_is,by k_is,by k_is,trivial⟩)

