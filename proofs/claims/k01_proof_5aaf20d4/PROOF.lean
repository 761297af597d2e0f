import PyProof.Rows.All
import Wide.All
import OpenK.AllK
import Wide.FinOn
import Lean
import PyProof.EqAt
import PyProof.EqKinds
import PyProof.TupleCall
import PySem.Challenge.RW_ringmeet_k01_webs_known
set_option Elab.async false
set_option compiler.extract_closed false
set_option linter.all false
set_option maxRecDepth 100000
set_option maxHeartbeats 4000000
open List renaming getElem?_eq_some_iff → gE1, getElem?_append_left → gL1, getElem?_eq_getElem → gG1, mem_of_getElem? → gM1, getElem?_set_ne → gS1, length_append → lA1, length_map → lM1, getElem?_cons_succ → gC1, mem_cons_of_mem → mC1, mem_cons_self → mS1, getElem?_map → gP1, getElem?_append_right → gR1, size_toArray → sT1, map_cons → mP1, length_cons → lC1, length_replicate → lR1, mem_append_right → mA1
open Option renaming bind_eq_some_iff → oB1, map_eq_some_iff → oM1, bind_some → oS1, map_some → oP1
open Nat renaming le_refl → nR1, lt_of_lt_of_le → nL1, ne_of_lt → nN1, ne_of_gt → nG1
open Bool renaming and_eq_true → bA1, false_eq_true → bF1
open Array renaming getElem?_eq_getElem → aG1, getElem?_toList → aT1
open PySem.W renaming Frag → Fg1, nsIn → wN1, keepIn → wK1, codeIn → wC1, fnOf → wF1, mg_of → wM1
open PySem.Heap renaming get?_push_of_some → hP1, get?_push_size → hS1, lt_size → hL1, size_push → hZ1, get?_update_self → hW1
open PySem renaming wpAny_bind → wB1, wpAny_pure → wP1, wpAny_setField_rec → wS1, wpAny_newObj_type → wO1, codeAny_builtin → wD1, wpAny_call_entry → wE1
section
namespace L2
open PySem PySem.Spec PyProof.Rows
noncomputable abbrev Key:=Sum Int Str
noncomputable def keyIs:Key->Value->Bool
 | .inl k,v=>Value.isInt k v
 | .inr x,v=>Value.isStrOf x v
noncomputable def keyH (w:World):Key->Int
 | .inl k=>hashInt k
 | .inr x=>hashStr w x
theorem keyIs_shape:∀ {k:Key} {v:Value},keyIs k v=true->(∃ i t,k=Sum.inl i/\v=Value.int i t)\/(∃ x t,k=Sum.inr x/\v=Value.str x t)
 | .inl i,v,h=>by
  obtain ⟨t,e⟩:=Value.isInt_shape (k:=i) (v:=v) h
  exact .inl ⟨i,t,rfl,e⟩
 | .inr x,v,h=>by
  obtain ⟨t,e⟩:=Value.isStrOf_shape (x:=x) (v:=v) h
  exact .inr ⟨x,t,rfl,e⟩
theorem keyIs_int (i:Int)(t:Tok):keyIs (.inl i) (.int i t)=true:=by simp [keyIs,Value.isInt]
theorem keyIs_str (x:Str)(t:Tok):keyIs (.inr x) (.str x t)=true:=by simp [keyIs,Value.isStrOf]
theorem key_ll (a b:Int):decide ((Sum.inl a:Key)=Sum.inl b)=(a == b):=by
 by_cases e:a=b
 ·subst e;simp
 ·have h:¬ (Sum.inl a:Key)=Sum.inl b:=fun q=>e (Sum.inl.inj q)
  rw [decide_eq_false h]
  exact (beq_eq_false_iff_ne.mpr e).symm
theorem key_rr (a b:Str):decide ((Sum.inr a:Key)=Sum.inr b)=decide (a=b):=by
 by_cases e:a=b
 ·subst e;simp
 ·have h:¬ (Sum.inr a:Key)=Sum.inr b:=fun q=>e (Sum.inr.inj q)
  rw [decide_eq_false h,decide_eq_false e]
theorem key_lr (a:Int)(b:Str):decide ((Sum.inl a:Key)=Sum.inr b)=false:=decide_eq_false (fun q=>nomatch q)
theorem key_rl (a:Str)(b:Int):decide ((Sum.inr a:Key)=Sum.inl b)=false:=decide_eq_false (fun q=>nomatch q)
noncomputable def mixKind (prog:Program)(w:World):PySem.KeyKind prog w Key where
 is:=keyIs
 hash:=keyH w
 inj:=fun v a b ha hb=>by
  rcases keyIs_shape ha with ⟨i,t,rfl,rfl⟩ | ⟨x,t,rfl,rfl⟩
  ·rcases keyIs_shape hb with ⟨j,u,rfl,e⟩ | ⟨y,u,rfl,e⟩
   ·injection e with e1 _;rw [e1]
   ·exact nomatch e
  ·rcases keyIs_shape hb with ⟨j,u,rfl,e⟩ | ⟨y,u,rfl,e⟩
   ·exact nomatch e
   ·injection e with e1 _;rw [e1]
 byValue:=fun k v h=>by
  rcases keyIs_shape h with ⟨i,t,rfl,rfl⟩ | ⟨x,t,rfl,rfl⟩<;>rfl
 pyHash:=fun hv h=>by
  rcases keyIs_shape hv with ⟨i,t,rfl,rfl⟩ | ⟨x,t,rfl,rfl⟩
  ·exact wpAny_pyHash_int h
  ·exact wpAny_pyHash_str h
 eqBool:=fun hu hv h=>by
  rcases keyIs_shape hu with ⟨i,t,rfl,rfl⟩ | ⟨x,t,rfl,rfl⟩
  ·rcases keyIs_shape hv with ⟨j,u,rfl,rfl⟩ | ⟨y,u,rfl,rfl⟩
   ·rw [key_ll] at h;exact wpAny_eqBool_int h
   ·rw [key_lr] at h;exact SeqAt.EqAt.int_str i t y u _ _ _ _ h
  ·rcases keyIs_shape hv with ⟨j,u,rfl,rfl⟩ | ⟨y,u,rfl,rfl⟩
   ·rw [key_rl] at h;exact SeqAt.EqAt.str_int x t j u _ _ _ _ h
   ·rw [key_rr] at h;exact wpAny_eqBool_str h
 «strs» :=fun k x t v h=>by
  rcases keyIs_shape h with ⟨i,u,rfl,e⟩ | ⟨y,u,rfl,e⟩
  ·exact nomatch e
  ·injection e with e1 _
   subst e1
   cases v<;>rfl
theorem mixKind_int (prog:Program)(w:World)(i:Int)(t:Tok):(mixKind prog w).is (.inl i) (.int i t)=true:=keyIs_int i t
theorem mixKind_str (prog:Program)(w:World)(x:Str)(t:Tok):(mixKind prog w).is (.inr x) (.str x t)=true:=keyIs_str x t
end L2
namespace L2
open PySem PySem.Spec PyProof.Rows
inductive V where
 | non | bl (b:Bool) | int (i:Int) | str (x:Str) | byt (b:Array UInt8) | flt (b:UInt64) | ref (a:Addr) | ty (n:String)
 deriving DecidableEq
noncomputable def RelV:V->Value->Prop
 | .non,u=>u=Value.none
 | .bl b,u=>u=Value.bool b
 | .int i,u=>∃ t,u=Value.int i t
 | .str x,u=>∃ t,u=Value.str x t
 | .byt b,u=>∃ t,u=Value.bytes b t
 | .flt b,u=>∃ t,u=Value.float b t
 | .ref a,u=>u=Value.ref a
 | .ty n,u=>u=Value.type n
noncomputable abbrev Vals:List V->List Value->Prop:=Paired RelV
theorem Vals.length {xs:List V}{us:List Value}(r:Vals xs us):xs.length=us.length:=Paired.length r
theorem Vals.get:∀ {xs:List V} {us:List Value} {i:Nat} {x:V},Vals xs us->xs[i]? = some x -> ∃ u,us[i]? = some u/\RelV x u:=by
 intro xs us i x h e
 induction h generalizing i with
 | nil=>cases e
 | cons r t ih=>cases i with
  | zero=>cases e;exact ⟨_,rfl,r⟩
  | succ i=>exact ih (i:=i) e
theorem Vals.set {x:V}{u:Value}(r:RelV x u):∀ {xs:List V} {us:List Value} (i:Nat),Vals xs us->Vals (xs.set i x) (us.set i u):=by
 intro xs us i h
 induction h generalizing i with
 | nil=>exact .nil
 | cons q t ih=>cases i with
  | zero=>exact .cons r t
  | succ i=>exact .cons q (ih i)
theorem Vals.append:∀ {xs ys:List V} {us ws:List Value},Vals xs us->Vals ys ws->Vals (xs++ys) (us++ws):=by
 intro xs ys us ws h s
 induction h with
 | nil=>exact s
 | cons r t ih=>exact .cons r ih
theorem Vals.take:∀ {xs:List V} {us:List Value} (n:Nat),Vals xs us->Vals (xs.take n) (us.take n):=by
 intro xs us n h
 induction h generalizing n with
 | nil=>rw [List.take_nil,List.take_nil];exact .nil
 | cons r t ih=>cases n with
  | zero=>exact .nil
  | succ n=>exact .cons r (ih n)
theorem Vals.drop:∀ {xs:List V} {us:List Value} (n:Nat),Vals xs us->Vals (xs.drop n) (us.drop n):=by
 intro xs us n h
 induction h generalizing n with
 | nil=>rw [List.drop_nil,List.drop_nil];exact .nil
 | cons r t ih=>cases n with
  | zero=>exact .cons r t
  | succ n=>exact ih n
noncomputable def RelO:Option V->Option Value->Prop
 | some v,some u=>RelV v u
 | none,none=>True
 | _,_=>False
noncomputable def KV {κ:Type}:List (κ×V)->List (κ×Value)->Prop:=Paired fun (p:κ×V) (q:κ×Value)=>p.1=q.1/\RelV p.2 q.2
noncomputable def kV:Key->V
 | .inl i=>.int i
 | .inr x=>.str x
inductive HO where
 /-- a list -/
 | lst (xs:List V)
 /-- a tuple (never changes) -/
 | tup (xs:List V)
 /-- a dict whose keys are ints and texts; one whose keys are tuples of ints and texts (the empty one is both) -/
 | dK (kvs:List (Key×V)) | dT (kvs:List (List Key×V))
 /-- a set of ints: its members, its size -/
 | set (S:Int->Bool) (n:Nat)
 /-- an instance of the class at C, its dict at dx, its attributes -/
 | ins (C dx:Addr) (fs:List (Str×V))
 /-- the dict of the instance at x -/
 | own (x:Addr)
 /-- the dict of an exception -/
 | xd (fs:List (Str×V))
 /-- a bound method, f of x -/
 | met (f x:Addr)
 /-- a range object lo, lo + 1, .. below hi -/
 | rng (lo hi:Int)
 /-- a thing that is known to the object (the script; a dict while a loop walks it): read, never written while it is so -/
 | frz (o:Obj) (u:HO)
 /-- a code object's table -/
 | tbl (ps:Array Value)
 /-- any other thing, by what is true of its one object (a def of one's own: SetO a S n := HO.ext fun h => ..) -/
 | ext (φ:Heap->Prop)
noncomputable abbrev Hp:=Addr->Option HO
noncomputable def upd (H:Hp)(a:Addr)(o:HO):Hp:=fun b=>if b=a then some o else H b
theorem upd_same {H:Hp}{a:Addr}{o:HO}:upd H a o a=some o:=by unfold upd;rw [if_pos rfl]
theorem upd_ne {H:Hp}{a b:Addr}{o:HO}(h:b≠a):upd H a o b=H b:=by unfold upd;rw [if_neg h]
theorem ne_of {H:Hp}{a b:Addr}{o u:HO}(h:H a=some o)(h':H b=some u)(d:o≠u):a≠b:=by
 intro e;subst e;rw [h] at h';exact d (Option.some.inj h')
theorem ne_of_none {H:Hp}{a b:Addr}{o:HO}(h:H a=some o)(h':H b=none):a≠b:=by
 intro e;subst e;rw [h] at h';cases h'
section
variable (P:Program) (w:World)
noncomputable def ObjOk (H:Hp)(h:Heap)(a:Addr):HO->Prop
 | .lst xs=>xs.length<=sizeLine /\ ∃ (its:List Value) (n:Nat),Vals xs its/\h.get? a=some {cls:=.type "list",data:=.seq its.toArray n}
 | .tup xs=>xs.length<=sizeLine /\ ∃ its:List Value,Vals xs its/\IsTup h a its.toArray
 | .dK kvs=>kvs.length<=sizeLine/\(a == sysModules)=false /\ ∃ vs,KV kvs vs/\h.DictOf (mixKind P w) a vs
 | .dT kvs=>kvs.length<=sizeLine/\(a == sysModules)=false /\ ∃ xs:List (List Key×Addr×Value),
   Paired (fun (p:List Key×V) (q:List Key×Addr×Value)=>p.1=q.1/\H q.2.1=some (.tup (p.1.map kV))/\RelV p.2 q.2.2) kvs xs /\
   ∃ o es ep,h.get? a=some o/\o.ExactDict/\o.data = .dict es ep/\es.toList=xs.map (entryOfKey (tupleKind (mixKind P w)))/\(xs.map (·.1)).Nodup
 | .set S n=>h.SetOf (intKind P w) a S n
 | .ins C dx fs=>H dx=some (.own a)/\fs.length<=1000/\dx≠a/\h.get? a=some (PySem.W.instObj C dx) /\
   ∃ mA,h.Ns1 dx mA/\(∀ f,RelO (fs.lookup f) (mA f))/\PySem.Within mA (fs.map (·.1))
 | .own _=>∃ o,h.get? a=some o
 | .xd fs=>∃ mA,h.Ns1 a mA /\ ∀ f,RelO (fs.lookup f) (mA f)
 | .rng lo hi=>∃ t u v,h.get? a=some {cls:=.type "range",data:=.fields #[.int lo t,.int hi u,.int 1 v]}
 | .frz o u=>h.get? a=some o/\ObjOk H h a u
 | .tbl ps=>h.get? a=some {cls:=.none,data:=.fields ps}
 | .met f x=>h.get? a=some (PySem.W.methodObj (.ref f) (.ref x))
 | .ext φ=>φ h/\(∃ o,h.get? a=some o) /\ ∀ h1 h2:Heap,φ h1->(∀ o,h1.get? a=some o->h2.get? a=some o)->φ h2
noncomputable def HOk (H:Hp)(h:Heap):Prop:=∀ a o,H a=some o->ObjOk P w H h a o
end
section
variable {P:Program} {w:World} {H H':Hp} {h h':Heap} {a:Addr} {o:HO}
theorem ObjOk.lt (x:ObjOk P w H h a o):a<h.objs.size:=by
 cases o with
 | lst xs=>obtain ⟨_,_,_,_,e⟩:=x;exact hL1 e
 | tup xs=>obtain ⟨_,_,_,p⟩:=x;exact p.lt
 | dK kvs=>obtain ⟨_,_,_,_,o,_,_,e,_⟩:=x;exact hL1 e
 | dT kvs=>obtain ⟨_,_,_,_,o,_,_,e,_⟩:=x;exact hL1 e
 | set S n=>obtain ⟨o,_,_,_,e,_⟩:=x;exact hL1 e
 | ins C dx fs=>obtain ⟨_,_,_,e,_⟩:=x;exact hL1 e
 | own y=>obtain ⟨_,e⟩:=x;exact hL1 e
 | xd fs=>obtain ⟨_,⟨_,_,_,e,_⟩,_⟩:=x;exact hL1 e
 | rng lo hi=>obtain ⟨_,_,_,e⟩:=x;exact hL1 e
 | frz ob u=>obtain ⟨e,_⟩:=x;exact hL1 e
 | tbl ps=>exact hL1 (show h.get? a=some _ from x)
 | met f y=>exact hL1 (show h.get? a=some _ from x)
 | ext φ=>obtain ⟨_,⟨_,e⟩,_⟩:=x;exact hL1 e
theorem Paired.mapP {α β:Type}{F G:α->β->Prop}:∀ {l₁:List α} {l₂:List β},Paired F l₁ l₂->(∀ a b,F a b->G a b)->Paired G l₁ l₂:=by
 intro a b h f
 induction h with
 | nil=>exact .nil
 | cons r t ih=>exact .cons (f _ _ r) ih
theorem ObjOk.stay (x:ObjOk P w H h a o)(k:∀ b u,(b=a\/H b=some (.own a))->h.get? b=some u->h'.get? b=some u)
  (ho:∀ b,H b=some (.own a)->H' b=some (.own a)) (ht:∀ b xs,H b=some (.tup xs)->H' b=some (.tup xs)):ObjOk P w H' h' a o:=by
 induction o with
 | lst xs=>obtain ⟨z,its,n,r,e⟩:=x;exact ⟨z,its,n,r,k _ _ (.inl rfl) e⟩
 | tup xs=>obtain ⟨z,its,r,ob,e,c⟩:=x;exact ⟨z,its,r,ob,k _ _ (.inl rfl) e,c⟩
 | dK kvs=>obtain ⟨z,y,vs,r,ob,es,ep,e,c⟩:=x;exact ⟨z,y,vs,r,ob,es,ep,k _ _ (.inl rfl) e,c⟩
 | dT kvs=>
  obtain ⟨z,y,xs,r,ob,es,ep,e,c⟩:=x
  exact ⟨z,y,xs,Paired.mapP r fun p q z=>⟨z.1,ht _ _ z.2.1,z.2.2⟩,ob,es,ep,k _ _ (.inl rfl) e,c⟩
 | set S n=>obtain ⟨ob,es,ep,t,e,c⟩:=x;exact ⟨ob,es,ep,t,k _ _ (.inl rfl) e,c⟩
 | ins C dx fs=>
  obtain ⟨d,z,ne,e,mA,⟨od,es,ep,e2,c⟩,r⟩:=x
  exact ⟨ho _ d,z,ne,k _ _ (.inl rfl) e,mA,⟨od,es,ep,k _ _ (.inr d) e2,c⟩,r⟩
 | own y=>obtain ⟨ob,e⟩:=x;exact ⟨ob,k _ _ (.inl rfl) e⟩
 | xd fs=>obtain ⟨mA,⟨od,es,ep,e,c⟩,r⟩:=x;exact ⟨mA,⟨od,es,ep,k _ _ (.inl rfl) e,c⟩,r⟩
 | rng lo hi=>obtain ⟨t,u,v,e⟩:=x;exact ⟨t,u,v,k _ _ (.inl rfl) e⟩
 | frz ob u ih=>obtain ⟨e,q⟩:=x;exact ⟨k _ _ (.inl rfl) e,ih q⟩
 | tbl ps=>
  have e:h.get? a=some {cls:=.none,data:=.fields ps}:=x
  show h'.get? a=some {cls:=.none,data:=.fields ps}
  exact k a _ (.inl rfl) e
 | met f y=>
  have e:h.get? a=some (PySem.W.methodObj (.ref f) (.ref y)):=x
  show h'.get? a=some (PySem.W.methodObj (.ref f) (.ref y))
  exact k a _ (.inl rfl) e
 | ext φ=>obtain ⟨p,⟨o,e⟩,st⟩:=x;exact ⟨st _ _ p fun o q=>k _ _ (.inl rfl) q,⟨o,k _ _ (.inl rfl) e⟩,st⟩
theorem HOk.lt (x:HOk P w H h)(e:H a=some o):a<h.objs.size:=(x a o e).lt
theorem HOk.fresh (x:HOk P w H h)(e:h.objs.size<=a):H a=none:=by
 cases q:H a with
 | none=>rfl
 | some u=>exact absurd (nL1 (x.lt q) e) (Nat.lt_irrefl _)
theorem HOk.kept (x:HOk P w H h)(k:∀ b u,h.get? b=some u->h'.get? b=some u):HOk P w H h':=fun a o e=>
 (x a o e).stay (fun b u _ q=>k b u q) (fun _ q=>q) fun _ _ q=>q
theorem HOk.laid (x:HOk P w H h)(k:∀ b u,h.get? b=some u->h'.get? b=some u)(hp:h.objs.size<=a)(new:ObjOk P w (upd H a o) h' a o):HOk P w (upd H a o) h':=fun b u e=>by
 have hn:=x.fresh hp
 by_cases hb:b=a
 ·subst hb;rw [upd_same] at e;cases e;exact new
 ·rw [upd_ne hb] at e
  exact (x b u e).stay (fun c v _ q=>k c v q) (fun c q=>by rw [upd_ne (ne_of_none q hn)];exact q) fun c xs q=>by rw [upd_ne (ne_of_none q hn)];exact q
end
noncomputable def Rd (H:Hp)(a:Addr)(u:HO):Prop:=H a=some u \/ ∃ o,H a=some (.frz o u)
theorem Rd.ok {P:Program}{w:World}{H:Hp}{h:Heap}{a:Addr}{u:HO}(r:Rd H a u)(x:HOk P w H h):ObjOk P w H h a u:=by
 rcases r with r | ⟨o,r⟩
 ·exact x a u r
 ·obtain ⟨_,q⟩:=x a _ r
  exact q
noncomputable def Mut:Option HO->Prop
 | some (.lst _)=>True
 | some (.dK _)=>True
 | some (.dT _)=>True
 | some (.set _ _)=>True
 | some (.ins _ _ _)=>True
 | some (.ext _)=>True
 | _=>False
section
variable {P:Program} {w:World} {H:Hp} {h h':Heap} {x e:Addr} {o':HO}
theorem HOk.write (ok:HOk P w H h)(mu:Mut (H x))(he:e=x\/H e=some (.own x))(k:∀ b u,b≠e->h.get? b=some u->h'.get? b=some u)(heo:∃ u,h'.get? e=some u)
  (new:ObjOk P w (upd H x o') h' x o'):HOk P w (upd H x o') h':=fun b u q=>by
 have nown:∀ c y,H c=some (.own y)->c≠x:=fun c y r z=>by subst z;rw [r] at mu;exact mu
 have ntup:∀ c xs,H c=some (.tup xs)->c≠x:=fun c xs r z=>by subst z;rw [r] at mu;exact mu
 by_cases hb:b=x
 ·subst hb;rw [upd_same] at q;cases q;exact new
 ·rw [upd_ne hb] at q
  by_cases hbe:b=e
  ·have q':H b=some (.own x):=by
    rcases he with z | z
    ·exact absurd (hbe.trans z) hb
    ·rw [hbe];exact z
   rw [q] at q';cases q'
   obtain ⟨v,hv⟩:=heo
   exact ⟨v,by rw [hbe];exact hv⟩
  ·refine (ok b u q).stay (fun c v hc r=>k c v ?_ r) (fun c r=>by rw [upd_ne (nown c b r)];exact r) fun c xs r=>by rw [upd_ne (ntup c xs r)];exact r
   rcases hc with rfl | hc
   ·exact hbe
   ·rintro rfl
    rcases he with z | z
    ·exact nown c b hc z
    ·rw [hc] at z;cases z;exact hb rfl
end
structure Un (fs ex:List Addr)(H H':Hp)(h h':Heap):Prop where
 keep:∀ b o,h.get? b=some o->H b=none->b∉fs->b∉ex->h'.get? b=some o
 slot:∀ b o,h.get? b=some o->H b=none->b∈fs->b∉ex -> ∃ sl,h'.get? b=some {o with slots:=sl}
 free:∀ b o,h.get? b=some o->H b=none->b∉ex->H' b=none
 there:∀ b o,h.get? b=some o->b∉ex -> ∃ o',h'.get? b=some o'
 tups:∀ b xs,H b=some (.tup xs)->H' b=some (.tup xs)
 frzs:∀ b o u,H b=some (.frz o u)->H' b=some (.frz o u)
 tbls:∀ b ps,H b=some (.tbl ps) -> ∃ more,H' b=some (.tbl (ps++more))
section
variable {fs fs' ex ex':List Addr} {H H1 H2:Hp} {h h1 h2 h':Heap} {a x e:Addr} {o:HO}
theorem Un.any (u:Un fs ex H H1 h h1){b:Addr}{ob:Obj}(q:h.get? b=some ob)(n:H b=none)(hx:b∉ex):∃ sl,h1.get? b=some {ob with slots:=sl}:=by
 by_cases hb:b∈fs
 ·exact u.slot b ob q n hb hx
 ·exact ⟨ob.slots,u.keep b ob q n hb hx⟩
theorem Un.kept (k:∀ b u,h.get? b=some u->h'.get? b=some u):Un fs ex H H h h':=
 ⟨fun b ob q _ _ _=>k b ob q,fun b ob q _ _ _=>⟨ob.slots,k b ob q⟩,fun _ _ _ n _=>n,fun b ob q _=>⟨ob,k b ob q⟩,fun _ _ q=>q,fun _ _ _ q=>q,fun _ ps q=>⟨#[],by rw [q];simp⟩⟩
theorem Un.refl:Un fs ex H H h h:=Un.kept fun _ _ q=>q
theorem Un.laid (k:∀ b u,h.get? b=some u->h'.get? b=some u)(hp:h.objs.size<=a)(hn:H a=none):Un fs ex H (upd H a o) h h' where
 keep:=fun b u q _ _ _=>k b u q
 slot:=fun b u q _ _ _=>⟨u.slots,k b u q⟩
 free:=fun b u q n _=>by rw [upd_ne (nN1 (nL1 (hL1 q) hp))];exact n
 there:=fun b u q _=>⟨u,k b u q⟩
 tups:=fun b xs q=>by rw [upd_ne (ne_of_none q hn)];exact q
 frzs:=fun b u xs q=>by rw [upd_ne (ne_of_none q hn)];exact q
 tbls:=fun b ps q=>⟨#[],by rw [upd_ne (ne_of_none q hn),q];simp⟩
theorem Un.write (mu:Mut (H x))(he:e=x\/H e=some (.own x))(k:∀ b u,b≠e->h.get? b=some u->h'.get? b=some u)(heo:∃ u,h'.get? e=some u):Un fs ex H (upd H x o) h h':=by
 have hx:∀ b,H b=none->b≠x:=fun b n z=>by subst z;rw [n] at mu;exact mu
 have hb:∀ b,H b=none->b≠e:=fun b n z=>by
  subst z
  rcases he with r | r
  ·exact hx b n r
  ·rw [n] at r;cases r
 have hm:∀ b u,H b=some u -> ¬ Mut (some u)->b≠x:=fun b u q nm z=>by subst z;rw [q] at mu;exact nm mu
 refine ⟨fun b u q n _ _=>k b u (hb b n) q,fun b u q n _ _=>⟨u.slots,k b u (hb b n) q⟩,fun b u q n _=>by rw [upd_ne (hx b n)];exact n,fun b u q _=>?_,
  fun b xs q=>by rw [upd_ne (hm b _ q fun z=>z)];exact q,fun b u xs q=>by rw [upd_ne (hm b _ q fun z=>z)];exact q,fun b ps q=>⟨#[],by rw [upd_ne (hm b _ q fun z=>z),q];simp⟩⟩
 by_cases hbe:b=e
 ·subst hbe;exact heo
 ·exact ⟨u,k b u hbe q⟩
end
noncomputable def trk (h:Heap)(H:Hp):List Addr:=(List.range h.objs.size).filter fun a=>(H a).isSome
noncomputable def hidT (h:Heap)(H:Hp):Heap:=PySem.W.hideAll h (trk h H)
theorem hidT_size (h:Heap)(H:Hp):(hidT h H).objs.size=h.objs.size:=PySem.W.hideAll_size _ _
theorem hidT_get {h:Heap}{H:Hp}{b:Addr}{o:Obj}(e:h.get? b=some o)(n:H b=none):(hidT h H).get? b=some o:=
 PySem.W.hideAll_get _ e fun hm=>by
  have q:(H b).isSome=true:=(List.mem_filter.mp hm).2
  rw [n] at q;simp at q
theorem of_hidT {h:Heap}{H:Hp}{b:Addr}{o:Obj}(e:(hidT h H).get? b=some o):h.get? b=some o/\H b=none:=by
 have e':h.get? b=some o:=PySem.W.of_hideAll (trk h H) e
 refine ⟨e',?_⟩
 cases q:H b with
 | none=>rfl
 | some x=>
  have hm:b∈trk h H:=List.mem_filter.mpr ⟨List.mem_range.mpr (hL1 e'),by simp [q]⟩
  have z:(hidT h H).get? b=none:=PySem.W.hideAll_none (trk h H) hm
  rw [z] at e;cases e
noncomputable def allNews (g h:Heap)(L:Addr):List (Addr×Obj):=(List.range h.objs.size).filterMap fun a=>if a=L\/(g.get? a).isSome=true then none else (h.get? a).map fun o=>(a,o)
noncomputable def rest (g h:Heap)(L d:Addr):List (Addr×Obj):=(allNews g h L).filter fun p=>decide (p.1≠d)
end L2
namespace L2
open PySem PySem.Spec PyProof.Rows
structure Mod (K:Fg1)(mg:Str->Option Value)(base:Heap):Prop where
 kin:K.In base
 glob:base.Ns mainGlobals mg
 blt:∃ mb,base.Ns builtinsNs mb /\ ∀ x:Str,x≠"__name__"->mb x=bootBuiltins x
 nolimit:base.NoLimit
structure Cx where
 prog:Program
 w:World
 K:Fg1
 mg:Str->Option Value
 base:Heap
 A:Around
 N:List Str
 s₀:Shared
 H₀:Hp
 env:Env
 outer:List Env
 stack:List Env
 ex:List Addr
 fn:Str->Bool
 calm:Bool
 pn:List (Addr×Obj)
 xe:Value->Shared->Prop
noncomputable def frs (l:List Env):List Addr:=l.filterMap (·.frame)
noncomputable abbrev Cx.fs (X:Cx):List Addr:=frs X.outer
noncomputable def Vis (sc:Scope)(x:Str):Prop:=sc.names.lookup x=some .local\/sc.names.lookup x=some .cell\/sc.names.lookup x=some .free
noncomputable def Loc (sc:Scope)(x:Str):Prop:=sc.names.lookup x=some .local\/sc.names.lookup x=some .cell
noncomputable def Look (env:Env)(h:Heap)(m:Str->Option Value)(x:Str)(u:Value):Prop:=
 (env.kindOf x=some .local/\m x=some u)\/((env.kindOf x=some .cell\/env.kindOf x=some .free) /\ ∃ c,env.cells.lookup x=some c/\h.IsCell c (some u))
structure Cx.Ok (X:Cx):Prop where
 mod:Mod X.K X.mg X.base
 kind:X.env.scope.kind = .function
 glob:X.env.globals=mainGlobals
 blt:X.env.builtins=builtinsNs
 above:X.s₀.heap.objs.size<=X.env.locals
 inj:∀ x y c,X.env.cells.lookup x=some c->X.env.cells.lookup y=some c->x=y
 has:∀ x,(X.env.kindOf x=some .cell\/X.env.kindOf x=some .free) -> ∃ c,X.env.cells.lookup x=some c
 cab:∀ x c,X.fn x=true->X.env.cells.lookup x=some c->X.s₀.heap.objs.size<=c
 hd:X.calm=true->X.A.handled=none
 frames:X.A.frames=some X.stack
 stk:X.stack=X.outer\/(X.stack=X.env::X.outer/\X.env.frame=some X.env.locals)
 exf:∀ b∈X.ex,b≠X.env.locals /\ ∀ x c,X.env.cells.lookup x=some c->c≠b
 bs:∀ b o,X.base.get? b=some o->X.s₀.heap.get? b=some o/\X.H₀ b=none
 bsz:X.base.objs.size<=X.s₀.heap.objs.size
 noex:∀ b o,X.base.get? b=some o->b∉X.ex
 exfs:∀ b∈X.ex,b∉X.fs
 funs:X.s₀.heap.FunFrames X.base X.outer
 frf:∀ b∈X.fs,X.H₀ b=none
structure Inv (X:Cx)(pins:List (Addr×Obj))(σ:List (Option V))(H:Hp)(s:Shared):Prop where
 ok:X.Ok
 os:s.os=X.s₀.os
 bare:AllBare s.gens
 base:Un X.fs X.ex X.H₀ H X.s₀.heap s.heap
 loc:∃ m,s.heap.Ns X.env.locals m /\ ∀ (i:Nat) (x:Str) (v:V),X.N[i]? = some x->σ[i]? = some (some v)->Vis X.env.scope x -> ∃ u,RelV v u/\Look X.env s.heap m x u
 cell:∀ x c,X.env.cells.lookup x=some c -> ∃ v,s.heap.IsCell c v
 free:H X.env.locals=none
 freeC:∀ x c,X.env.cells.lookup x=some c->H c=none
 pin:∀ p∈X.pn++pins,s.heap.get? p.1=some p.2/\H p.1=none/\p.1≠X.env.locals/\p.1∉X.fs /\ ∀ v,p.2.data ≠ .cell v
 hok:HOk X.prog X.w H s.heap
 len:σ.length=X.N.length
section
variable {X:Cx} {pins:List (Addr×Obj)} {σ:List (Option V)} {H H':Hp} {s:Shared} {h':Heap}
theorem Cx.Ok.nofr (ok:X.Ok){b:Addr}{o:Obj}(e:X.base.get? b=some o):b∉X.fs:=fun hb=>by
 have:=(ok.funs.mem hb).1
 rw [e] at this;cases this
theorem Inv.bs (I:Inv X pins σ H s):∀ b o,X.base.get? b=some o->s.heap.get? b=some o/\H b=none:=fun b o e=>
 ⟨I.base.keep b o (I.ok.bs b o e).1 (I.ok.bs b o e).2 (I.ok.nofr e) (I.ok.noex b o e),I.base.free b o (I.ok.bs b o e).1 (I.ok.bs b o e).2 (I.ok.noex b o e)⟩
theorem Inv.bk (I:Inv X pins σ H s):∀ b o,X.base.get? b=some o->s.heap.get? b=some o:=fun b o e=>(I.bs b o e).1
theorem Inv.mod (I:Inv X pins σ H s):Mod X.K X.mg X.base:=I.ok.mod
theorem Inv.kIn (I:Inv X pins σ H s):X.K.In s.heap:=I.ok.mod.kin.keeps I.bk
theorem Inv.lt (I:Inv X pins σ H s):X.env.locals<s.heap.objs.size:=let ⟨_,hn,_⟩:=I.loc;hn.lt
theorem Inv.sz (I:Inv X pins σ H s):X.s₀.heap.objs.size<=s.heap.objs.size:=Nat.le_trans I.ok.above (Nat.le_of_lt I.lt)
theorem Inv.nofs (I:Inv X pins σ H s){a:Addr}(h:s.heap.objs.size<=a):a∉X.fs:=fun hb=>by
 obtain ⟨_,o,ho,_⟩:=I.ok.funs.mem hb
 exact absurd (nL1 (hL1 ho) (Nat.le_trans I.sz h)) (Nat.lt_irrefl _)
theorem Inv.cne (I:Inv X pins σ H s):∀ x c,X.env.cells.lookup x=some c->c≠X.env.locals:=fun x c e z=>by
 obtain ⟨v,o,ho,hd⟩:=I.cell x c e
 obtain ⟨m,⟨o',es,ep,ho',hd',_⟩,_⟩:=I.loc
 rw [z,ho'] at ho;cases ho;rw [hd'] at hd;cases hd
theorem Inv.funs (I:Inv X pins σ H s):s.heap.FunFrames X.base X.outer:=by
 have all:∀ (l:List Env),(∀ b∈frs l,b∈X.fs)->X.s₀.heap.FunFrames X.base l->s.heap.FunFrames X.base l:=by
  intro l
  induction l with
  | nil=>intro _ _;trivial
  | cons env r ih=>
   intro hs hl
   obtain ⟨hk,⟨L,o,hf,hn,ho,hd⟩,hr⟩:=hl
   have hL:L∈X.fs:=hs L (by unfold frs;rw [List.filterMap_cons,hf];exact mS1)
   obtain ⟨sl,e⟩:=I.base.slot L o ho (I.ok.frf L hL) hL fun z=>I.ok.exfs L z hL
   exact ⟨hk,⟨L,_,hf,hn,e,hd⟩,ih (fun b hb=>hs b (by unfold frs;rw [List.filterMap_cons,hf];exact mC1 _ hb)) hr⟩
 exact all X.outer (fun _ hb=>hb) I.ok.funs
theorem Inv.stack (I:Inv X pins σ H s):s.heap.FunFrames X.base X.stack:=by
 rcases I.ok.stk with e | ⟨e,hf⟩
 ·rw [e];exact I.funs
 ·rw [e]
  obtain ⟨m,hn,_⟩:=I.loc
  refine .cons (by rw [I.ok.kind];decide) hf hn ?_ I.funs
  exact Heap.get?_none_of_le (Nat.le_trans I.ok.bsz I.ok.above)
theorem Inv.stkSub (I:Inv X pins σ H s):∀ b∈frs X.stack,b∈X.env.locals::X.fs:=fun b hb=>by
 rcases I.ok.stk with e | ⟨e,hf⟩
 ·rw [e] at hb;exact mC1 _ hb
 ·rw [e] at hb
  unfold frs at hb
  rw [List.filterMap_cons,hf] at hb
  exact hb
theorem Inv.stkFree (I:Inv X pins σ H s):∀ b∈frs X.stack,H b=none:=fun b hb=>by
 rcases List.mem_cons.mp (I.stkSub b hb) with e | hb
 ·rw [e];exact I.free
 ·obtain ⟨_,o,ho,_⟩:=I.ok.funs.mem hb
  exact I.base.free b o ho (I.ok.frf b hb) fun z=>I.ok.exfs b z hb
theorem Inv.step {g':Array GenState}{t':Nat}{d':Drawn}{ch:List Addr}(I:Inv X pins σ H s)
  (hch:∀ b∈ch,(b∈X.ex\/X.s₀.heap.objs.size<=b)/\b≠X.env.locals/\(∀ x c,X.env.cells.lookup x=some c->c≠b) /\ ∀ p∈X.pn++pins,p.1≠b)
  (keep:∀ b o,b≠X.env.locals->b∉X.fs->b∉ch->s.heap.get? b=some o->H b=none->h'.get? b=some o)
  (slot:∀ b o,b≠X.env.locals->b∈X.fs->b∉ch->s.heap.get? b=some o->H b=none -> ∃ sl,h'.get? b=some {o with slots:=sl}) (free:∀ b o,b∉ch->s.heap.get? b=some o->H b=none->H' b=none)
  (there:∀ b o,b∉ch->s.heap.get? b=some o -> ∃ o',h'.get? b=some o')
  (tups:∀ b xs,H b=some (.tup xs)->H' b=some (.tup xs)) (frzs:∀ b o u,H b=some (.frz o u)->H' b=some (.frz o u)) (tbls:∀ b ps,H b=some (.tbl ps) -> ∃ more,H' b=some (.tbl (ps++more)))
  (ns:∀ m,s.heap.Ns X.env.locals m->h'.Ns X.env.locals m) (hok:HOk X.prog X.w H' h') (hg:AllBare g'):
  Inv X pins σ H' {s with heap:=h',gens:=g',drawn:=d',toks:=t'}:=by
 have neL:∀ b o,X.s₀.heap.get? b=some o->b≠X.env.locals:=fun b o e=>nN1 (nL1 (hL1 e) I.ok.above)
 have neC:∀ b o,X.s₀.heap.get? b=some o->b∉X.ex->b∉ch:=fun b o e hx hb=>by
  rcases (hch b hb).1 with z | z
  ·exact hx z
  ·exact absurd (nL1 (hL1 e) z) (Nat.lt_irrefl _)
 have cellK:∀ x c,X.env.cells.lookup x=some c -> ∀ v,s.heap.IsCell c v->h'.IsCell c v:=fun x c e v ⟨o,ho,hd⟩=>by
  have nch:c∉ch:=fun z=>(hch c z).2.2.1 x c e rfl
  by_cases hc:c∈X.fs
  ·obtain ⟨sl,q⟩:=slot c o (I.cne x c e) hc nch ho (I.freeC x c e)
   exact ⟨_,q,hd⟩
  ·exact ⟨o,keep c o (I.cne x c e) hc nch ho (I.freeC x c e),hd⟩
 refine ⟨I.ok,I.os,hg,⟨fun b o e n hb hx=>?_,fun b o e n hb hx=>?_,fun b o e n hx=>?_,fun b o e hx=>?_,fun b xs e=>tups b xs (I.base.tups b xs e),fun b o xs e=>frzs b o xs (I.base.frzs b o xs e),fun b ps e=>?_⟩,?_,fun x c e=>?_,?_,fun x c e=>?_,fun p hp=>?_,hok,I.len⟩
 ·exact keep b o (neL b o e) hb (neC b o e hx) (I.base.keep b o e n hb hx) (I.base.free b o e n hx)
 ·obtain ⟨sl,e1⟩:=I.base.slot b o e n hb hx
  obtain ⟨sl',e2⟩:=slot b _ (neL b o e) hb (neC b o e hx) e1 (I.base.free b o e n hx)
  exact ⟨sl',e2⟩
 ·obtain ⟨o',e1⟩:=I.base.there b o e hx
  exact free b o' (neC b o e hx) e1 (I.base.free b o e n hx)
 ·obtain ⟨o',e1⟩:=I.base.there b o e hx
  exact there b o' (neC b o e hx) e1
 ·obtain ⟨m1,e1⟩:=I.base.tbls b ps e
  obtain ⟨m2,e2⟩:=tbls b _ e1
  exact ⟨m1++m2,by rw [e2,Array.append_assoc]⟩
 ·obtain ⟨m,hn,hl⟩:=I.loc
  refine ⟨m,ns m hn,fun i x v e1 e2 e3=>?_⟩
  obtain ⟨u,r,l⟩:=hl i x v e1 e2 e3
  refine ⟨u,r,?_⟩
  rcases l with l | ⟨k,c,e,z⟩
  ·exact .inl l
  ·exact .inr ⟨k,c,e,cellK x c e _ z⟩
 ·obtain ⟨v,z⟩:=I.cell x c e
  exact ⟨v,cellK x c e v z⟩
 ·obtain ⟨m,⟨o,_,_,ho,_⟩,_⟩:=I.loc
  exact free _ o (fun z=>(hch _ z).2.1 rfl) ho I.free
 ·obtain ⟨v,o,ho,hd⟩:=I.cell x c e
  exact free c o (fun z=>(hch c z).2.2.1 x c e rfl) ho (I.freeC x c e)
 ·obtain ⟨e,n,ne,nf,d⟩:=I.pin p hp
  have nch:p.1∉ch:=fun z=>(hch p.1 z).2.2.2 p hp rfl
  exact ⟨keep p.1 p.2 ne nf nch e n,free p.1 p.2 nch e n,ne,nf,d⟩
theorem Inv.un {t':Nat}(I:Inv X pins σ H s)(u:Un X.fs [] H H' s.heap h')(hok:HOk X.prog X.w H' h'):Inv X pins σ H' {s with heap:=h',toks:=t'}:=by
 obtain ⟨m,⟨o,es,ep,ho,r⟩,_⟩:=id I.loc
 obtain ⟨sl,hL⟩:=u.any ho I.free (by simp)
 exact I.step (g':=s.gens) (d':=s.drawn) (ch:=[]) (fun _ z=>nomatch z) (fun b o _ hb _ e n=>u.keep b o e n hb (by simp)) (fun b o _ hb _ e n=>u.slot b o e n hb (by simp)) (fun b o _ e n=>u.free b o e n (by simp)) (fun b o _ e=>u.there b o e (by simp)) u.tups u.frzs u.tbls (fun m' hm=>by
  obtain ⟨o',es',ep',ho',r'⟩:=hm
  rw [ho] at ho';cases ho'
  exact ⟨_,es',ep',hL,r'⟩) hok I.bare
theorem Inv.call {g':Array GenState}{t':Nat}{d':Drawn}{ch:List Addr}(I:Inv X pins σ H s)(u:Un (frs X.stack) ch H H' s.heap h')(hok:HOk X.prog X.w H' h')(hg:AllBare g')
  (hch:∀ b∈ch,(b∈X.ex\/X.s₀.heap.objs.size<=b)/\b≠X.env.locals/\(∀ x c,X.env.cells.lookup x=some c->c≠b) /\ ∀ p∈X.pn++pins,p.1≠b):
  Inv X pins σ H' {s with heap:=h',gens:=g',drawn:=d',toks:=t'}:=by
 obtain ⟨m,⟨o,es,ep,ho,r⟩,_⟩:=id I.loc
 obtain ⟨sl,hL⟩:=u.any ho I.free fun z=>(hch _ z).2.1 rfl
 exact I.step (ch:=ch) hch (fun b o hL hb hc e n=>u.keep b o e n (fun z=>(List.mem_cons.mp (I.stkSub b z)).elim hL hb) hc) (fun b o _ _ hc e n=>u.any e n hc) (fun b o hc e n=>u.free b o e n hc) (fun b o hc e=>u.there b o e hc) u.tups u.frzs u.tbls (fun m' hm=>by
  obtain ⟨o',es',ep',ho',r'⟩:=hm
  rw [ho] at ho';cases ho'
  exact ⟨_,es',ep',hL,r'⟩) hok hg
theorem Inv.turned {t':Nat}{it:Addr}(I:Inv X pins σ H s)(k:∀ b o,b≠it->s.heap.get? b=some o->h'.get? b=some o)(hn:H it=none)(hL:it≠X.env.locals)
  (h1:it∈X.ex\/X.s₀.heap.objs.size<=it) (h2:∀ x c,X.env.cells.lookup x=some c->c≠it) (h3:∀ p∈X.pn++pins,p.1≠it):Inv X pins σ H {s with heap:=h',toks:=t'}:=by
 have nit:∀ b u,H b=some u->b≠it:=fun b u e z=>by rw [z,hn] at e;cases e
 refine I.step (g':=s.gens) (d':=s.drawn) (ch:=[it]) (fun b hb=>?_) (fun b o _ _ hc e _=>k b o (fun z=>hc (by simp [z])) e) (fun b o _ _ hc e _=>⟨o.slots,k b o (fun z=>hc (by simp [z])) e⟩) (fun _ _ _ _ n=>n)
  (fun b o hc e=>⟨o,k b o (fun z=>hc (by simp [z])) e⟩) (fun _ _ e=>e) (fun _ _ _ e=>e) (fun b ps e=>⟨#[],by rw [e];simp⟩) (fun m hm=>?_) (fun b u e=>?_) I.bare
 ·have e:b=it:=by simpa using hb
  subst e
  exact ⟨h1,hL,h2,h3⟩
 ·obtain ⟨o,es,ep,ho,r⟩:=hm
  exact ⟨o,es,ep,k _ o (Ne.symm hL) ho,r⟩
 ·refine (I.hok b u e).stay (fun c v hc q=>k c v ?_ q) (fun _ q=>q) fun _ _ q=>q
  rcases hc with z | z
  ·rw [z];exact nit b u e
  ·exact nit c _ z
theorem Inv.tok (I:Inv X pins σ H s)(t:Nat):Inv X pins σ H {s with toks:=t}:=I.un (h':=s.heap) (t':=t) Un.refl I.hok
theorem Inv.kept {t':Nat}(I:Inv X pins σ H s)(k:∀ b u,s.heap.get? b=some u->h'.get? b=some u):Inv X pins σ H {s with heap:=h',toks:=t'}:=I.un (Un.kept k) (I.hok.kept k)
theorem Inv.laid {a:Addr}{o:HO}{t':Nat}(I:Inv X pins σ H s)(k:∀ b u,s.heap.get? b=some u->h'.get? b=some u)(hp:s.heap.objs.size<=a)(new:ObjOk X.prog X.w (upd H a o) h' a o):
  Inv X pins σ (upd H a o) {s with heap:=h',toks:=t'}:=I.un (Un.laid k hp (I.hok.fresh hp)) (I.hok.laid k hp new)
theorem Inv.write {x e:Addr}{o:HO}{t':Nat}(I:Inv X pins σ H s)(mu:Mut (H x))(he:e=x\/H e=some (.own x))(k:∀ b u,b≠e->s.heap.get? b=some u->h'.get? b=some u)(heo:∃ u,h'.get? e=some u)
  (new:ObjOk X.prog X.w (upd H x o) h' x o):Inv X pins σ (upd H x o) {s with heap:=h',toks:=t'}:=I.un (Un.write mu he k heo) (I.hok.write mu he k heo new)
theorem Inv.pins_of {pins':List (Addr×Obj)}(I:Inv X pins σ H s)(h:∀ p∈pins',s.heap.get? p.1=some p.2/\H p.1=none/\p.1≠X.env.locals/\p.1∉X.fs /\ ∀ v,p.2.data ≠ .cell v):Inv X pins' σ H s:=
 ⟨I.ok,I.os,I.bare,I.base,I.loc,I.cell,I.free,I.freeC,fun p hp=>(List.mem_append.mp hp).elim (fun z=>I.pin p (List.mem_append_left _ z)) (h p),I.hok,I.len⟩
theorem nodup_ix {N:List Str}(hN:N.Nodup){i j:Nat}{x:Str}(a:N[i]? = some x)(b:N[j]? = some x):i=j:=by
 obtain ⟨h1,e1⟩:=gE1.mp a
 obtain ⟨h2,e2⟩:=gE1.mp b
 exact (List.getElem_inj hN).mp (e1.trans e2.symm)
theorem store_ok2 {M:Model}{A:Around}{E:Value->Shared->Prop}{i:Nat}{x:Str}{v:V}{u:Value}{Q:Unit->Shared->Prop}(I:Inv X pins σ H s)(hN:X.N.Nodup)(hi:X.N[i]? = some x)(hx:Loc X.env.scope x)(r:RelV v u)
  (h:∀ s',Inv X pins (σ.set i (some v)) H s'->(∃ a,Heap.SameBut a s.heap s'.heap/\(a=X.env.locals\/X.env.cells.lookup x=some a))->Q () s') (hf:X.fn x=true\/X.env.scope.names.lookup x=some .local:=by first | exact .inl rfl | exact .inr rfl | assumption):wpAny M A (storeName X.env x u) Q E s:=by
 obtain ⟨m,hn,hl⟩:=id I.loc
 have hcls:(X.env.scope.kind == .class||(X.env.scope.kind == .module&&X.env.locals != X.env.globals))=false:=by rw [I.ok.kind];rfl
 have hiσ:i<σ.length:=by rw [I.len];exact (gE1.mp hi).1
 have cne:=I.cne
 have tracked:∀ {a:Addr} {h':Heap},(∃ o,s.heap.get? a=some o/\H a=none)->Heap.SameBut a s.heap h'->HOk X.prog X.w H h':=fun {a h'} ha hs b ob e=>by
  obtain ⟨_,_,hfree⟩:=ha
  refine (I.hok b ob e).stay (fun c w' hc q=>(hs.2 c ?_).trans q) (fun _ q=>q) fun _ _ q=>q
  rintro rfl
  rcases hc with rfl | hc
  ·rw [hfree] at e;cases e
  ·rw [hfree] at hc;cases hc
 rcases hx with hk | hk
 ·refine wpAny_storeName_local hk hn (fun h' hn' hs=>?_) hcls
  obtain ⟨oL,_,_,hoL,_⟩:=id hn
  refine h _ ⟨I.ok,I.os,I.bare,⟨fun b o e n hb hx=>?_,fun b o e n hb hx=>?_,I.base.free,fun b o e hx=>?_,I.base.tups,I.base.frzs,I.base.tbls⟩,⟨_,hn',fun j y v' e1 e2 e3=>?_⟩,fun y c e=>?_,I.free,I.freeC,fun p hp=>?_,tracked ⟨oL,hoL,I.free⟩ hs,by simpa using I.len⟩ ⟨_,hs,.inl rfl⟩
  ·exact (hs.2 b (nN1 (nL1 (hL1 e) I.ok.above))).trans (I.base.keep b o e n hb hx)
  ·obtain ⟨sl,e1⟩:=I.base.slot b o e n hb hx
   exact ⟨sl,(hs.2 b (nN1 (nL1 (hL1 e) I.ok.above))).trans e1⟩
  ·obtain ⟨o',e1⟩:=I.base.there b o e hx
   exact ⟨o',(hs.2 b (nN1 (nL1 (hL1 e) I.ok.above))).trans e1⟩
  ·by_cases hj:j=i
   ·subst hj
    rw [hi] at e1;cases e1
    rw [List.getElem?_set_self hiσ] at e2
    cases e2
    exact ⟨u,r,.inl ⟨hk,by simp⟩⟩
   ·rw [gS1 (Ne.symm hj)] at e2
    obtain ⟨u',r',q⟩:=hl j y v' e1 e2 e3
    refine ⟨u',r',?_⟩
    rcases q with ⟨k,e⟩ | ⟨k,c,e,z⟩
    ·refine .inl ⟨k,?_⟩
     have:y≠x:=fun e=>hj (nodup_ix hN e1 (e ▸ hi))
     simp [this,e]
    ·exact .inr ⟨k,c,e,z.sameBut hs (cne y c e)⟩
  ·obtain ⟨w',z⟩:=I.cell y c e
   exact ⟨w',z.sameBut hs (cne y c e)⟩
  ·obtain ⟨e,n,ne,nf,d⟩:=I.pin p hp
   exact ⟨(hs.2 p.1 ne).trans e,n,ne,nf,d⟩
 ·have hfn:X.fn x=true:=by
   rcases hf with z | z
   ·exact z
   ·rw [z] at hk;cases hk
  obtain ⟨c,hc⟩:=I.ok.has x (.inl hk)
  obtain ⟨w',z⟩:=I.cell x c hc
  refine wpAny_storeName_cell I.ok.kind hk hc z (fun h' hc' hs=>?_)
  obtain ⟨oc,hoc,hocd⟩:=id z
  refine h {s with heap:=h'} ⟨I.ok,I.os,I.bare,⟨fun b o e n hb hx=>?_,fun b o e n hb hx=>?_,I.base.free,fun b o e hx=>?_,I.base.tups,I.base.frzs,I.base.tbls⟩,⟨m,hn.sameBut hs (Ne.symm (cne x c hc)),fun j y v' e1 e2 e3=>?_⟩,fun y c' e=>?_,I.free,I.freeC,fun p hp=>?_,tracked ⟨oc,hoc,I.freeC x c hc⟩ hs,by simpa using I.len⟩ ⟨c,hs,.inr hc⟩
  ·exact (hs.2 b (nN1 (nL1 (hL1 e) (I.ok.cab x c hfn hc)))).trans (I.base.keep b o e n hb hx)
  ·obtain ⟨sl,e1⟩:=I.base.slot b o e n hb hx
   exact ⟨sl,(hs.2 b (nN1 (nL1 (hL1 e) (I.ok.cab x c hfn hc)))).trans e1⟩
  ·obtain ⟨o',e1⟩:=I.base.there b o e hx
   exact ⟨o',(hs.2 b (nN1 (nL1 (hL1 e) (I.ok.cab x c hfn hc)))).trans e1⟩
  ·by_cases hj:j=i
   ·subst hj
    rw [hi] at e1;cases e1
    rw [List.getElem?_set_self hiσ] at e2
    cases e2
    exact ⟨u,r,.inr ⟨.inl hk,c,hc,hc'⟩⟩
   ·rw [gS1 (Ne.symm hj)] at e2
    obtain ⟨u',r',q⟩:=hl j y v' e1 e2 e3
    refine ⟨u',r',?_⟩
    rcases q with q | ⟨k,c',e,z'⟩
    ·exact .inl q
    ·refine .inr ⟨k,c',e,z'.sameBut hs ?_⟩
     rintro rfl
     exact hj (nodup_ix hN e1 (I.ok.inj _ _ _ e hc ▸ hi))
  ·by_cases hcc:c'=c
   ·subst hcc;exact ⟨_,hc'⟩
   ·obtain ⟨w2,z2⟩:=I.cell y c' e
    exact ⟨w2,z2.sameBut hs hcc⟩
  ·obtain ⟨e,n,ne,nf,d⟩:=I.pin p hp
   refine ⟨(hs.2 p.1 ?_).trans e,n,ne,nf,d⟩
   intro q
   rw [q,hoc] at e
   have q':oc=p.2:=Option.some.inj e
   exact d w' (by rw [<- q'];exact hocd)
theorem store_ok {M:Model}{A:Around}{E:Value->Shared->Prop}{i:Nat}{x:Str}{v:V}{u:Value}{Q:Unit->Shared->Prop}(I:Inv X pins σ H s)(hN:X.N.Nodup)(hi:X.N[i]? = some x)(hx:Loc X.env.scope x)(r:RelV v u)
  (h:∀ s',Inv X pins (σ.set i (some v)) H s'->Q () s') (hf:X.fn x=true\/X.env.scope.names.lookup x=some .local:=by first | exact .inl rfl | exact .inr rfl | assumption):wpAny M A (storeName X.env x u) Q E s:=
 store_ok2 I hN hi hx r (fun s' I' _=>h s' I') hf
theorem Inv.call' {s':Shared}{ch:List Addr}(I:Inv X pins σ H s)(ho:s'.os=s.os)(u:Un (frs X.stack) ch H H' s.heap s'.heap)(hok:HOk X.prog X.w H' s'.heap)(hg:AllBare s'.gens)
  (hch:∀ b∈ch,(b∈X.ex\/X.s₀.heap.objs.size<=b)/\b≠X.env.locals/\(∀ x c,X.env.cells.lookup x=some c->c≠b) /\ ∀ p∈X.pn++pins,p.1≠b):Inv X pins σ H' s':=by
 obtain ⟨h',g',d',t',o'⟩:=s'
 have e:o'=s.os:=ho
 subst e
 exact I.call (g':=g') (t':=t') (d':=d') u hok hg hch
end
noncomputable abbrev XK:=Value->Option Addr->Hp->Prop
noncomputable abbrev St:=List (Option V)
noncomputable abbrev VK:=V->Hp->Prop
noncomputable abbrev TE:=St->Hp->VK->Prop
noncomputable abbrev TT:=St->Hp->(Bool->Hp->Prop)->Prop
noncomputable abbrev TA:=St->Hp->(List V->Hp->Prop)->Prop
structure Ends where
 nx:St->Hp->Prop
 rt:VK
 bk:St->Hp->Prop:=fun _ _=>False
 ct:St->Hp->Prop:=fun _ _=>False
noncomputable abbrev TS:=Ends->St->Hp->Prop
noncomputable def EP (X:Cx)(pins:List (Addr×Obj))(σ:St)(Q:VK)(u:Value)(s':Shared):Prop:=∃ v H',Inv X pins σ H' s'/\RelV v u/\Q v H'
noncomputable def TP (X:Cx)(pins:List (Addr×Obj))(σ:St)(Q:Bool->Hp->Prop)(b:Bool)(s':Shared):Prop:=∃ H',Inv X pins σ H' s'/\Q b H'
noncomputable def AP (X:Cx)(pins:List (Addr×Obj))(σ:St)(Q:List V->Hp->Prop)(us:List Value)(s':Shared):Prop:=∃ vs H',Inv X pins σ H' s'/\Vals vs us/\Q vs H'
noncomputable def SP (X:Cx)(pins:List (Addr×Obj))(D:Ends)(f:Flow)(s':Shared):Prop:=
 match f with
 | .next=>∃ σ' H',Inv X pins σ' H' s'/\D.nx σ' H'
 | .brk=>∃ σ' H',Inv X pins σ' H' s'/\D.bk σ' H'
 | .cont=>∃ σ' H',Inv X pins σ' H' s'/\D.ct σ' H'
 | .ret u=>∃ v σ' H',Inv X pins σ' H' s'/\RelV v u/\D.rt v H'
noncomputable def PE (X:Cx)(e:Expr)(t:TE):Prop:=
 ∀ (pins:List (Addr×Obj)) (s:Shared) (σ:St) (H:Hp) (Q:VK),Inv X pins σ H s->t σ H Q->wpAny (model X.prog X.w) X.A (eval e X.env) (EP X pins σ Q) X.xe s
noncomputable def PT (X:Cx)(e:Expr)(t:TT):Prop:=
 ∀ (pins:List (Addr×Obj)) (s:Shared) (σ:St) (H:Hp) (Q:Bool->Hp->Prop),Inv X pins σ H s->t σ H Q->wpAny (model X.prog X.w) X.A (isTrue e X.env (eval e X.env)) (TP X pins σ Q) X.xe s
noncomputable def PW (X:Cx)(e:Expr)(t:TT):Prop:=
 ∀ (whole:Sem Value) (pins:List (Addr×Obj)) (s:Shared) (σ:St) (H:Hp) (Q:Bool->Hp->Prop),Inv X pins σ H s->t σ H Q->wpAny (model X.prog X.w) X.A (isTrue e X.env whole) (TP X pins σ Q) X.xe s
theorem PW.pt {X:Cx}{e:Expr}{t:TT}(h:PW X e t):PT X e t:=h _
noncomputable def PA (X:Cx)(es:List Expr)(t:TA):Prop:=
 ∀ (pos:Pos) (pins:List (Addr×Obj)) (s:Shared) (σ:St) (H:Hp) (Q:List V->Hp->Prop),Inv X pins σ H s->t σ H Q->wpAny (model X.prog X.w) X.A (spliced (backTo pos (starEach es X.env))) (AP X pins σ Q) X.xe s
noncomputable def PS (X:Cx)(st:Stmt)(t:TS):Prop:=
 ∀ (pins:List (Addr×Obj)) (s:Shared) (σ:St) (H:Hp) (D:Ends),Inv X pins σ H s->t D σ H->wpAny (model X.prog X.w) X.A (exec st X.env) (SP X pins D) X.xe s
noncomputable def PSs (X:Cx)(st:List Stmt)(t:TS):Prop:=
 ∀ (pins:List (Addr×Obj)) (s:Shared) (σ:St) (H:Hp) (D:Ends),Inv X pins σ H s->t D σ H->wpAny (model X.prog X.w) X.A (execs st X.env) (SP X pins D) X.xe s
theorem thn {α:Type}{t:Sem α}{Q Q':α->Shared->Prop}{M:Model}{A:Around}{E:Value->Shared->Prop}{s:Shared}(h:wpAny M A t Q E s)(hQ:∀ a s,Q a s->Q' a s):wpAny M A t Q' E s:=wpAny_mono h hQ fun _ _ x=>x
end L2
namespace L2
open PySem PySem.Spec PyProof.Rows
section
variable {X:Cx}
theorem bin {a b:Expr}{ta tb:TE}(ha:PE X a ta)(hb:PE X b tb){pins:List (Addr×Obj)}{s:Shared}{σ:St}{H:Hp}{R:V->V->Hp->Prop}(I:Inv X pins σ H s)(h:ta σ H fun x H1=>tb σ H1 fun y H2=>R x y H2)
  {α:Type} {Q:α->Shared->Prop} {f:Value->Value->Sem α}
  (hf:∀ v u s2 x y H2,Inv X pins σ H2 s2->RelV x v->RelV y u->R x y H2->wpAny (model X.prog X.w) X.A (f v u) Q X.xe s2):
  wpAny (model X.prog X.w) X.A (eval a X.env) (fun v s₁=>wpAny (model X.prog X.w) X.A (eval b X.env) (fun u s₂=>wpAny (model X.prog X.w) X.A (f v u) Q X.xe s₂) X.xe s₁) X.xe s:=by
 refine thn (ha pins s σ H _ I h) fun v s1 ⟨x,H1,I1,r1,q1⟩=>?_
 refine thn (hb pins s1 σ H1 _ I1 q1) fun u s2 ⟨y,H2,I2,r2,q2⟩=>?_
 exact hf v u s2 x y H2 I2 r1 r2 q2
noncomputable def tVar (i:Nat):TE:=fun σ H Q=>∃ v,σ[i]? = some (some v)/\Q v H
noncomputable def tC (v:V):TE:=fun _ H Q=>Q v H
theorem pe_var {i:Nat}{x:Str}{pos:Pos}(hN:X.N[i]? = some x)(hv:Vis X.env.scope x)(hd:(x == ("__debug__":Str))=false:=by decide)(hcd:(x == ("__classdict__":Str))=false:=by decide):PE X (.Name x pos) (tVar i):=by
 intro pins s σ H Q I h
 obtain ⟨v,e,h⟩:=h
 obtain ⟨m,hn,hl⟩:=I.loc
 obtain ⟨u,r,l⟩:=hl i x v hN e hv
 have fin:EP X pins σ Q u s:=⟨v,H,I,r,h⟩
 rcases l with ⟨hk,hm⟩ | ⟨hk,c,hc,hcell⟩
 ·exact wpAny_Name (wpAny_loadName_local I.ok.kind hk hn hm fin) hd
 ·rcases hk with hk | hk
  ·exact wpAny_Name (wpAny_loadName_cell I.ok.kind hk hc hcell fin) hd
  ·exact wpAny_Name (wpAny_loadName_free I.ok.kind hk hc hcell fin hcd) hd
theorem pe_int {i j pos}:PE X (.Constant (.int i) j pos) (tC (.int i)):=fun _ _ _ H _ I h=>wpAny_Constant_int ⟨.int i,H,I.tok _,⟨_,rfl⟩,h⟩
theorem pe_bl {b j pos}:PE X (.Constant (.bool b) j pos) (tC (.bl b)):=fun _ _ _ H _ I h=>Constant_bool ⟨.bl b,H,I,rfl,h⟩
theorem pe_non {j pos}:PE X (.Constant .none j pos) (tC .non):=fun _ _ _ H _ I h=>Constant_none ⟨.non,H,I,rfl,h⟩
noncomputable def Gl (X:Cx)(x:Str):Prop:=X.env.kindOf x=some .globalImplicit
theorem ld_glob {E:Value->Shared->Prop}{pins:List (Addr×Obj)}{s:Shared}{σ:St}{H:Hp}{x:Str}{u:Value}{pos:Pos}{Q:Value->Shared->Prop}(I:Inv X pins σ H s)(hg:Gl X x)(hm:X.mg x=some u)(h:Q u s)
  (hd:(x == ("__debug__":Str))=false:=by decide):wpAny (model X.prog X.w) X.A (eval (.Name x pos) X.env) Q E s:=
 Calls.Name_function_global I.ok.kind hg (Calls.loadGlobal_global (by rw [I.ok.glob];exact I.mod.glob.keeps I.bk) hm h) hd
theorem ld_blt {E:Value->Shared->Prop}{pins:List (Addr×Obj)}{s:Shared}{σ:St}{H:Hp}{x:Str}{u:Value}{pos:Pos}{Q:Value->Shared->Prop}(I:Inv X pins σ H s)(hg:Gl X x)(hm:X.mg x=none)(hv:bootBuiltins x=some u)(h:Q u s)
  (hn:x≠"__name__":=by decide) (hd:(x == ("__debug__":Str))=false:=by decide):wpAny (model X.prog X.w) X.A (eval (.Name x pos) X.env) Q E s:=by
 obtain ⟨mb,h1,h2⟩:=I.mod.blt
 exact Calls.Name_function_global I.ok.kind hg (Calls.loadGlobal_builtin (by rw [I.ok.glob];exact I.mod.glob.keeps I.bk) hm (by rw [I.ok.blt];exact h1.keeps I.bk) ((h2 x hn).trans hv) h) hd
theorem pe_glob {x:Str}{v:V}{u:Value}{pos:Pos}(hg:Gl X x)(hm:X.mg x=some u)(r:RelV v u)(hd:(x == ("__debug__":Str))=false:=by decide):PE X (.Name x pos) (tC v):=
 fun _ _ _ H _ I h=>ld_glob I hg hm ⟨v,H,I,r,h⟩ hd
theorem pe_bltn {x:Str}{v:V}{u:Value}{pos:Pos}(hg:Gl X x)(hm:X.mg x=none)(hv:bootBuiltins x=some u)(r:RelV v u)(hn:x≠"__name__":=by decide)(hd:(x == ("__debug__":Str))=false:=by decide):PE X (.Name x pos) (tC v):=
 fun _ _ _ H _ I h=>ld_blt I hg hm hv ⟨v,H,I,r,h⟩ hn hd
variable {a b:Expr} {ta tb:TE} {pos:Pos}
noncomputable def tB (t:TE):TT:=fun σ H Q=>t σ H fun x H1=>∃ c,x = .bl c/\Q c H1
variable {tA tB':TT} {rest:List Expr}
noncomputable def tAnd (t u:TT):TT:=fun σ H Q=>t σ H fun c H1=>if c=true then u σ H1 Q else Q false H1
noncomputable def tOr (t u:TT):TT:=fun σ H Q=>t σ H fun c H1=>if c=true then Q true H1 else u σ H1 Q
noncomputable def tNot (t:TT):TT:=fun σ H Q=>t σ H fun c H1=>Q (!c) H1
theorem pw_and1 (ha:PT X a tA):PW X (.BoolOp .And [a] pos) tA:=by
 intro wh pins s σ H Q I h
 refine isTrue_and (thn (ha pins s σ H Q I h) fun c s1 e=>?_)
 cases c with
 | true=>exact isTrue_and_nil e
 | false=>exact e
theorem pw_or1 (ha:PT X a tA):PW X (.BoolOp .Or [a] pos) tA:=by
 intro wh pins s σ H Q I h
 refine isTrue_or (thn (ha pins s σ H Q I h) fun c s1 e=>?_)
 cases c with
 | false=>exact isTrue_or_nil e
 | true=>exact e
theorem pw_and (ha:PT X a tA)(hb:PW X (.BoolOp .And (b::rest) pos) tB'):PW X (.BoolOp .And (a::b::rest) pos) (tAnd tA tB'):=by
 intro wh pins s σ H Q I h
 refine isTrue_and (thn (ha pins s σ H _ I h) fun c s1 ⟨H1,I1,q1⟩=>?_)
 cases c with
 | true=>exact hb wh pins s1 σ H1 Q I1 q1
 | false=>exact ⟨H1,I1,q1⟩
theorem pw_or (ha:PT X a tA)(hb:PW X (.BoolOp .Or (b::rest) pos) tB'):PW X (.BoolOp .Or (a::b::rest) pos) (tOr tA tB'):=by
 intro wh pins s σ H Q I h
 refine isTrue_or (thn (ha pins s σ H _ I h) fun c s1 ⟨H1,I1,q1⟩=>?_)
 cases c with
 | true=>exact ⟨H1,I1,q1⟩
 | false=>exact hb wh pins s1 σ H1 Q I1 q1
theorem pt_not (ha:PT X a tA):PT X (.UnaryOp .Not a pos) (tNot tA):=by
 intro pins s σ H Q I h
 exact isTrue_not (ha pins s σ H (fun c H1=>Q (!c) H1) I h)
noncomputable def tAndV (ta tb:TE):TE:=fun σ H Q=>ta σ H fun x H1=>∃ c,x = .bl c/\if c=true then tb σ H1 Q else Q (.bl false) H1
noncomputable def tNotV (ta:TE):TE:=fun σ H Q=>ta σ H fun x H1=>∃ c,x = .bl c/\Q (.bl (!c)) H1
theorem pe_one {op}{t:TE}(h:PE X a t):PE X (.BoolOp op [a] pos) t:=fun pins s σ H Q I hw=>BoolOp_one (h pins s σ H Q I hw)
theorem pe_and (ha:PE X a ta)(hb:PE X (.BoolOp .And (b::rest) pos) tb):PE X (.BoolOp .And (a::b::rest) pos) (tAndV ta tb):=by
 intro pins s σ H Q I h
 refine BoolOp_and (thn (ha pins s σ H _ I h) fun v s1 ⟨x,H1,I1,r1,q1⟩=>?_)
 obtain ⟨c,rfl,q1⟩:=q1
 cases r1
 refine wpAny_truthy_bool ?_
 cases c with
 | true=>exact hb pins s1 σ H1 Q I1 q1
 | false=>exact ⟨.bl false,H1,I1,rfl,q1⟩
theorem pe_not (ha:PE X a ta):PE X (.UnaryOp .Not a pos) (tNotV ta):=by
 intro pins s σ H Q I h
 refine UnaryOp_ (thn (ha pins s σ H _ I h) fun v s1 ⟨x,H1,I1,r1,q1⟩=>?_)
 obtain ⟨c,rfl,q1⟩:=q1
 cases r1
 exact not_of (wpAny_truthy_bool ⟨.bl (!c),H1,I1,rfl,q1⟩)
end
end L2
namespace L2
open PySem PySem.Spec PyProof.Rows
noncomputable def SqL (K:Fg1)(H:Hp)(a:Addr)(xs:List V):Prop:=
 Rd H a (.lst xs) \/
  ∃ (o:Obj) (its:Array Value) (n:Nat),K.lookup a=some o/\o.cls = .type "list"/\o.dict=none/\o.data = .seq its n/\its.size<=sizeLine/\Vals xs its.toList
noncomputable def SqT (K:Fg1)(H:Hp)(a:Addr)(xs:List V):Prop:=
 Rd H a (.tup xs) \/
  ∃ (o:Obj) (its:Array Value) (n:Nat),K.lookup a=some o/\o.cls = .type "tuple"/\o.data = .seq its n/\its.size<=sizeLine/\Vals xs its.toList
noncomputable def absV:Value->Option V
 | .none=>some .non
 | .bool b=>some (.bl b)
 | .int i _=>some (.int i)
 | .str x _=>some (.str x)
 | .bytes b _=>some (.byt b)
 | .float b _=>some (.flt b)
 | .ref a=>some (.ref a)
 | .type n=>some (.ty n)
 | _=>none
theorem RelV.abs {x:V}{u:Value}(r:RelV x u):absV u=some x:=by
 cases x with
 | non=>cases r;rfl
 | bl _=>cases r;rfl
 | int _=>obtain ⟨t,rfl⟩:=r;rfl
 | str _=>obtain ⟨t,rfl⟩:=r;rfl
 | byt _=>obtain ⟨t,rfl⟩:=r;rfl
 | flt _=>obtain ⟨t,rfl⟩:=r;rfl
 | ref _=>cases r;rfl
 | ty _=>cases r;rfl
theorem RelV.inj {x y:V}{u:Value}(r:RelV x u)(q:RelV y u):x=y:=Option.some.inj (r.abs.symm.trans q.abs)
theorem Vals.inj:∀ {xs ys:List V} {us:List Value},Vals xs us->Vals ys us->xs=ys:=by
 intro xs ys us h g
 induction h generalizing ys with
 | nil=>cases g;rfl
 | cons r t ih=>cases g with
  | cons r' t'=>rw [r.inj r',ih t']
section
variable {X:Cx} {pins:List (Addr×Obj)} {σ:St} {H:Hp} {s:Shared} {a:Addr} {xs ys:List V}
theorem SqL.of {K:Fg1}(h:H a=some (.lst xs)):SqL K H a xs:=.inl (.inl h)
theorem SqT.of {K:Fg1}(h:H a=some (.tup xs)):SqT K H a xs:=.inl (.inl h)
theorem Inv.list (I:Inv X pins σ H s)(h:SqL X.K H a xs):∃ its:List Value,Vals xs its/\PlainL s.heap a its.toArray/\xs.length<=sizeLine:=by
 rcases h with h | ⟨o,its,n,hk,hc,hd,hs,hz,r⟩
 ·obtain ⟨z,its,n,r,e⟩:=h.ok I.hok
  exact ⟨its,r,⟨_,n,e,rfl,rfl,rfl⟩,z⟩
 ·refine ⟨its.toList,r,⟨o,n,I.kIn a o hk,hc,hd,by simpa using hs⟩,?_⟩
  have e:=r.length
  simp only [Array.length_toList] at e
  lia
theorem Inv.tuple (I:Inv X pins σ H s)(h:SqT X.K H a xs):∃ its:List Value,Vals xs its/\IsTup s.heap a its.toArray/\xs.length<=sizeLine:=by
 rcases h with h | ⟨o,its,n,hk,hc,hs,hz,r⟩
 ·obtain ⟨z,its,r,p⟩:=h.ok I.hok
  exact ⟨its,r,p,z⟩
 ·refine ⟨its.toList,r,⟨o,I.kIn a o hk,hc,n,by simpa using hs⟩,?_⟩
  have e:=r.length
  simp only [Array.length_toList] at e
  lia
theorem Inv.list_inj (I:Inv X pins σ H s)(h:SqL X.K H a xs)(h':SqL X.K H a ys):xs=ys:=by
 obtain ⟨its,r,⟨o,n,e,_,_,d⟩,_⟩:=I.list h
 obtain ⟨its',r',⟨o',n',e',_,_,d'⟩,_⟩:=I.list h'
 rw [e] at e';cases e'
 rw [d] at d'
 injection d' with d1 _
 have:its=its':=by simpa using congrArg Array.toList d1
 subst this
 exact r.inj r'
theorem Inv.tuple_inj (I:Inv X pins σ H s)(h:SqT X.K H a xs)(h':SqT X.K H a ys):xs=ys:=by
 obtain ⟨its,r,⟨o,e,_,n,d⟩,_⟩:=I.tuple h
 obtain ⟨its',r',⟨o',e',_,n',d'⟩,_⟩:=I.tuple h'
 rw [e] at e';cases e'
 rw [d] at d'
 injection d' with d1 _
 have:its=its':=by simpa using congrArg Array.toList d1
 subst this
 exact r.inj r'
end
noncomputable abbrev Cx.wish (X:Cx)(E:Value->Shared->Prop):Cx:={X with xe:=E}
noncomputable abbrev Cx.nox (X:Cx):Cx:=X.wish fun _ _=>False
theorem Cx.Ok.wish {X:Cx}(ok:X.Ok)(E:Value->Shared->Prop):(X.wish E).Ok:=
 ⟨ok.mod,ok.kind,ok.glob,ok.blt,ok.above,ok.inj,ok.has,ok.cab,ok.hd,ok.frames,ok.stk,ok.exf,ok.bs,ok.bsz,ok.noex,ok.exfs,ok.funs,ok.frf⟩
theorem Cx.Ok.unwish {X:Cx}{E:Value->Shared->Prop}(ok:(X.wish E).Ok):X.Ok:=
 ⟨ok.mod,ok.kind,ok.glob,ok.blt,ok.above,ok.inj,ok.has,ok.cab,ok.hd,ok.frames,ok.stk,ok.exf,ok.bs,ok.bsz,ok.noex,ok.exfs,ok.funs,ok.frf⟩
section
variable {X:Cx} {pins:List (Addr×Obj)} {σ:St} {H:Hp} {s:Shared} {E:Value->Shared->Prop}
theorem Inv.wish (I:Inv X pins σ H s)(E:Value->Shared->Prop):Inv (X.wish E) pins σ H s:=⟨I.ok.wish E,I.os,I.bare,I.base,I.loc,I.cell,I.free,I.freeC,I.pin,I.hok,I.len⟩
theorem Inv.unwish (I:Inv (X.wish E) pins σ H s):Inv X pins σ H s:=⟨I.ok.unwish,I.os,I.bare,I.base,I.loc,I.cell,I.free,I.freeC,I.pin,I.hok,I.len⟩
theorem SP.unwish {D:Ends}{f:Flow}{s':Shared}(h:SP (X.wish E) pins D f s'):SP X pins D f s':=by
 cases f with
 | next=>obtain ⟨σ',H',I,q⟩:=h;exact ⟨σ',H',I.unwish,q⟩
 | brk=>obtain ⟨σ',H',I,q⟩:=h;exact ⟨σ',H',I.unwish,q⟩
 | cont=>obtain ⟨σ',H',I,q⟩:=h;exact ⟨σ',H',I.unwish,q⟩
 | ret u=>obtain ⟨v,σ',H',I,r,q⟩:=h;exact ⟨v,σ',H',I.unwish,r,q⟩
theorem PSs.nox {st:List Stmt}{t:TS}(h:PSs X.nox st t):PSs X st t:=fun pins s σ H D I hw=>
 wpAny_mono (h pins s σ H D (I.wish _) hw) (fun _ _ q=>q.unwish) fun _ _ z=>False.elim z
end
section
variable {X:Cx} {st:Stmt} {rest:List Stmt} {t u:TS} {e:Expr} {te:TE} {pos:Pos}
noncomputable def tNext:TS:=fun D σ H=>D.nx σ H
noncomputable def tSeq (t u:TS):TS:=fun D σ H=>t {D with nx:=u D} σ H
theorem pss_nil:PSs X [] tNext:=fun _ _ σ H _ I h=>wpAny_execs_nil ⟨σ,H,I,h⟩
theorem pss_cons (h1:PS X st t)(h2:PSs X rest u):PSs X (st::rest) (tSeq t u):=by
 intro pins s σ H D I h
 refine wpAny_execs_cons (thn (h1 pins s σ H {D with nx:=u D} I h) fun f s1 q=>?_)
 cases f with
 | next=>
  obtain ⟨σ',H',I',q⟩:=q
  exact h2 pins s1 σ' H' D I' q
 | ret v=>exact q
 | brk=>exact q
 | cont=>exact q
theorem pss_one (h1:PS X st t):PSs X [st] t:=by
 intro pins s σ H D I h
 refine wpAny_execs_cons (thn (h1 pins s σ H D I h) fun f s1 q=>?_)
 cases f with
 | next=>exact wpAny_execs_nil q
 | ret v=>exact q
 | brk=>exact q
 | cont=>exact q
noncomputable def tBreak:TS:=fun D σ H=>D.bk σ H
theorem ps_break:PS X (.Break pos) tBreak:=fun _ _ σ H _ I h=>wpAny_Break ⟨σ,H,I,h⟩
theorem Inv.quiet {pins:List (Addr×Obj)}{σ:St}{H:Hp}{s:Shared}(I:Inv X pins σ H s):interactive X.env=false:=by simp [interactive,I.ok.kind]
noncomputable def tDrop (te:TE):TS:=fun D σ H=>te σ H fun _ H1=>D.nx σ H1
theorem ps_expr (he:PE X e te)(hs:swapsWith e none pos.line X.env=pure false:=by rfl):PS X (.Expr e pos) (tDrop te):=by
 intro pins s σ H D I h
 exact wpAny_Expr_any (thn (he pins s σ H _ I h) fun v s1 ⟨x,H1,I1,r1,q1⟩=>⟨σ,H1,I1,q1⟩) I.quiet hs
noncomputable def tRet (te:TE):TS:=fun D σ H=>te σ H D.rt
theorem ps_ret (he:PE X e te):PS X (.Return (some e) pos) (tRet te):=by
 intro pins s σ H D I h
 exact wpAny_Return_some (thn (he pins s σ H _ I h) fun v s1 ⟨x,H1,I1,r1,q1⟩=>⟨x,σ,H1,I1,r1,q1⟩)
noncomputable def tIfS (c:TT)(t u:TS):TS:=fun D σ H=>c σ H fun b H1=>if b=true then t D σ H1 else u D σ H1
theorem ps_if {c:Expr}{a b:List Stmt}{tc:TT}(hc:PT X c tc)(ha:PSs X a t)(hb:PSs X b u):PS X (.If c a b pos) (tIfS tc t u):=by
 intro pins s σ H D I h
 refine wpAny_If (thn (hc pins s σ H _ I h) fun d s1 ⟨H1,I1,q1⟩=>?_)
 cases d with
 | true=>exact ha pins s1 σ H1 D I1 q1
 | false=>exact hb pins s1 σ H1 D I1 q1
end
noncomputable abbrev TG:=V->St->Hp->(St->Hp->Prop)->Prop
noncomputable abbrev TGs:=List V->St->Hp->(St->Hp->Prop)->Prop
noncomputable def PG (X:Cx)(target:Expr)(t:TG):Prop:=
 ∀ (pins:List (Addr×Obj)) (s:Shared) (σ:St) (H:Hp) (v:V) (u:Value) (Q:St->Hp->Prop),Inv X pins σ H s->RelV v u->t v σ H Q ->
  wpAny (model X.prog X.w) X.A (assign target X.env u) (fun _ s'=>∃ σ' H',Inv X pins σ' H' s'/\Q σ' H') X.xe s
noncomputable def PGs (X:Cx)(ts:List Expr)(t:TGs):Prop:=
 ∀ (pins:List (Addr×Obj)) (s:Shared) (σ:St) (H:Hp) (vs:List V) (us:List Value) (Q:St->Hp->Prop),Inv X pins σ H s->Vals vs us->t vs σ H Q ->
  wpAny (model X.prog X.w) X.A (assignInOrder ((assignEach ts X.env).map (·.2)) us) (fun _ s'=>∃ σ' H',Inv X pins σ' H' s'/\Q σ' H') X.xe s
noncomputable abbrev TSet:=V->V->V->Hp->(Hp->Prop)->Prop
noncomputable def PSet (X:Cx)(t:TSet):Prop:=
 ∀ (pins:List (Addr×Obj)) (s:Shared) (σ:St) (H:Hp) (o i v:V) (ov iv u:Value) (Q:Hp->Prop),Inv X pins σ H s->RelV o ov->RelV i iv->RelV v u->t o i v H Q ->
  wpAny (model X.prog X.w) X.A (setItem ov iv u) (fun _ s'=>∃ H',Inv X pins σ H' s'/\Q H') X.xe s
noncomputable abbrev TIp:=V->V->Hp->VK->Prop
noncomputable def PIp (X:Cx)(op:Operator)(t:TIp):Prop:=
 ∀ (pins:List (Addr×Obj)) (s:Shared) (σ:St) (H:Hp) (x y:V) (v u:Value) (Q:VK),Inv X pins σ H s->RelV x v->RelV y u->t x y H Q ->
  wpAny (model X.prog X.w) X.A (inplaceOp op v u) (EP X pins σ Q) X.xe s
section
variable {X:Cx} {pos:Pos}
noncomputable def gName (i:Nat):TG:=fun v σ H Q=>Q (σ.set i (some v)) H
theorem pg_name {i:Nat}{x:Str}(hN:X.N.Nodup)(hi:X.N[i]? = some x)(hx:Loc X.env.scope x)(hf:X.fn x=true\/X.env.scope.names.lookup x=some .local:=by first | exact .inl rfl | exact .inr rfl | assumption):PG X (.Name x pos) (gName i):=by
 intro pins s σ H v u Q I r h
 exact wpAny_assign_Name (store_ok I hN hi hx r (fun s' I'=>⟨_,H,I',h⟩) hf)
noncomputable def gNil:TGs:=fun vs σ H Q=>vs=[]/\Q σ H
noncomputable def gCons (t:TG)(u:TGs):TGs:=fun vs σ H Q=>∃ v r,vs=v::r/\t v σ H fun σ' H'=>u r σ' H' Q
theorem pgs_nil:PGs X [] gNil:=by
 intro pins s σ H vs us Q I r h
 obtain ⟨e,h⟩:=h
 subst e
 cases r
 exact assignInOrder_nil ⟨σ,H,I,h⟩
theorem pgs_cons {e:Expr}{es:List Expr}{t:TG}{u:TGs}(h1:PG X e t)(h2:PGs X es u)
  (hs:(assignEach (e::es) X.env).map (·.2)=assign e X.env::(assignEach es X.env).map (·.2):=by rfl):PGs X (e::es) (gCons t u):=by
 intro pins s σ H vs us Q I r h
 obtain ⟨v,vr,e1,h⟩:=h
 subst e1
 cases r with
 | cons r rr=>
  rw [hs]
  refine assignInOrder_cons (thn (h1 pins s σ H _ _ _ I r h) fun _ s1 ⟨σ1,H1,I1,q1⟩=>?_)
  exact h2 pins s1 σ1 H1 _ _ Q I1 rr q1
noncomputable def gTup (K:Fg1)(n:Nat)(t:TGs):TG:=fun v σ H Q=>∃ a xs,v = .ref a/\SqT K H a xs/\xs.length=n/\t xs σ H Q
theorem pg_tup {es:List Expr}{k:Nat}{t:TGs}{n:Nat}(hc:X.calm=true)(h:PGs X es t)
  (hn:(assignEach es X.env).length=n:=by rfl) (hst:(assignEach es X.env).findIdx? (·.1)=none:=by rfl):PG X (.Tuple es k pos) (gTup X.K n t):=by
 intro pins s σ H v u Q I r hw
 obtain ⟨a,xs,e1,hq,hl,hw⟩:=hw
 subst e1
 cases r
 obtain ⟨its,rv,ht,hz⟩:=I.tuple hq
 refine assign_Tuple_tuple (I.ok.hd hc) ht (by simp [hn,<- hl,rv.length]) hst fun h' hx=>?_
 have I1:Inv X pins σ H {s with heap:=h'}:=I.kept (t':=s.toks) fun b o e=>hx b o (nN1 (hL1 e)) e
 exact h pins _ σ H xs _ Q I1 (by simpa using rv) hw
noncomputable def gSub (to ti:TE)(t:TSet):TG:=fun v σ H Q=>to σ H fun o H1=>ti σ H1 fun i H2=>t o i v H2 fun H3=>Q σ H3
theorem pg_sub {o i:Expr}{to ti:TE}{t:TSet}(ho:PE X o to)(hi:PE X i ti)(hs:PSet X t)
  (ha:∀ v,assign (.Subscript o i pos) X.env v=(do
   let ov<-holding [v] (eval o X.env)
   let iv<-holding [v,ov] (eval i X.env)
   standAt pos
   holding [v,ov,iv] (setItem ov iv v)
   release [v,ov,iv] []):=by intro _;rfl):PG X (.Subscript o i pos) (gSub to ti t):=by
 intro pins s σ H v u Q I r h
 rw [ha]
 refine wB1 (wpAny_holding (thn (ho pins s σ H _ I h) fun ov s1 ⟨x,H1,I1,r1,q1⟩=>?_))
 refine wB1 (wpAny_holding (thn (hi pins s1 σ H1 _ I1 q1) fun iv s2 ⟨y,H2,I2,r2,q2⟩=>?_))
 refine wB1 (wpAny_standAt (wB1 (wpAny_holding (thn (hs pins s2 σ H2 x y v ov iv u _ I2 r1 r2 r q2) fun _ s3 ⟨H3,I3,q3⟩=>?_))))
 exact wpAny_release ⟨σ,H3,I3,q3⟩
noncomputable def tAsg (te:TE)(g:TG):TS:=fun D σ H=>te σ H fun x H1=>g x σ H1 D.nx
theorem ps_asg {tg e:Expr}{te:TE}{g:TG}(he:PE X e te)(hg:PG X tg g)(hs:swapsWithSole [tg] e pos.line X.env=pure false:=by rfl)(hw:swappedStores [tg] e X.env=pure none:=by rfl)
  (h1:(assignEach [tg] X.env).map (·.2)=[assign tg X.env]:=by rfl):PS X (.Assign [tg] e pos) (tAsg te g):=by
 intro pins s σ H D I h
 refine wpAny_Assign_stores (thn (he pins s σ H _ I h) fun v s1 ⟨x,H1,I1,r1,q1⟩=>?_) hs hw
 rw [h1]
 exact thn (hg pins s1 σ H1 x v _ I1 r1 q1) fun _ s2 q=>q
theorem ps_set {i:Nat}{x:Str}{e:Expr}{te:TE}{pos':Pos}(hN:X.N.Nodup)(hi:X.N[i]? = some x)(hx:Loc X.env.scope x)(he:PE X e te)(hs:swapsWith e (some (.Name x pos')) pos.line X.env=pure false:=by rfl)(hf:X.fn x=true\/X.env.scope.names.lookup x=some .local:=by first | exact .inl rfl | exact .inr rfl | assumption):
  PS X (.Assign [.Name x pos'] e pos) (tAsg te (gName i)):=by
 intro pins s σ H D I h
 refine wpAny_Assign_Name (thn (he pins s σ H _ I h) fun v s1 ⟨y,H1,I1,r1,q1⟩=>?_) hs
 exact store_ok I1 hN hi hx r1 (fun s2 I2=>⟨_,H1,I2,q1⟩) hf
noncomputable def tPar (i j:Nat)(ta:TA):TS:=fun D σ H=>ta σ H fun vs H1=>∃ v w,vs=[v,w]/\D.nx ((σ.set i (some v)).set j (some w)) H1
theorem ps_par {i j:Nat}{x y:Str}{a b:Expr}{ta:TA}{px py pt:Pos}{kt k2 pt2}(hc:X.calm=true)(hN:X.N.Nodup)(hi:X.N[i]? = some x)(hj:X.N[j]? = some y)(hij:i≠j)
  (hx:X.env.scope.names.lookup x=some .local) (hy:X.env.scope.names.lookup y=some .local) (ha:PA X [a,b] ta)
  (hw:swappedStores [.Tuple [.Name x px,.Name y py] kt pt] (.Tuple [a,b] k2 pt2) X.env=pure (some [x,y]))
  (hs:swapsWithSole [.Tuple [.Name x px,.Name y py] kt pt] (.Tuple [a,b] k2 pt2) pos.line X.env=pure false:=by rfl):
  PS X (.Assign [.Tuple [.Name x px,.Name y py] kt pt] (.Tuple [a,b] k2 pt2) pos) (tPar i j ta):=by
 intro pins s σ H D I h
 rw [exec_Assign_arm]
 refine wB1 (wpAny_standAt ?_)
 rw [hs]
 refine wB1 (wP1 ?_)
 rw [if_neg (by decide)]
 refine wB1 (Tuple_ (thn (ha _ pins s σ H _ I h) fun us s1 ⟨vs,H1,I1,r1,q1⟩=>?_))
 obtain ⟨v,w,e1,q1⟩:=q1
 subst e1
 obtain ⟨u1,u2,rfl,rv,rw'⟩:∃ u1 u2,us=[u1,u2]/\RelV v u1/\RelV w u2:=by
  cases r1 with
  | cons p q=>
   cases q with
   | cons p' q'=>
    cases q'
    exact ⟨_,_,rfl,p,p'⟩
 refine wO1 ?_ (by show 2<=sizeLine;decide)
 have I2:Inv X pins σ H1 {s1 with heap:=s1.heap.push {cls:=.type "tuple",data:=.seq [u1,u2].toArray}}:=I1.kept (t':=s1.toks) fun b o e=>hP1 _ e
 rw [hw]
 refine wB1 (wP1 ?_)
 show wpAny (model X.prog X.w) X.A (do rule "assign.swapped-stores";let items<-unpackItems (.ref s1.heap.objs.size) 2 none;assignInOrder [fun v=>bindName X.env y v,fun v=>bindName X.env x v] items.reverse;pure Flow.next) _ _ _
 refine wB1 (wpAny_rule (wB1 (unpackItems_tuple (items:= #[u1,u2]) (I.ok.hd hc) (IsTup.new s1.heap _) fun h' hx'=>?_)))
 have I3:=I2.kept (h':=h') (t':=s1.toks) fun b o e=>hx' b o (nN1 (hL1 e)) e
 show wpAny _ _ (assignInOrder [fun v=>bindName X.env y v,fun v=>bindName X.env x v] [u2,u1] >>= fun _=>pure Flow.next) _ _ _
 refine wB1 (assignInOrder_cons (wpAny_bindName (store_ok I3 hN hj (.inl hy) rw' (fun s2 I4=>?_) (.inr hy))))
 refine assignInOrder_cons (wpAny_bindName (store_ok I4 hN hi (.inl hx) rv (fun s3 I5=>assignInOrder_nil (wP1 ?_)) (.inr hx)))
 rw [List.set_comm _ _ (Ne.symm hij)] at I5
 exact ⟨_,H1,I5,q1⟩
noncomputable def tAug (i:Nat)(te:TE)(ti:TIp):TS:=fun D σ H=>∃ x,σ[i]? = some (some x)/\te σ H fun y H1=>ti x y H1 fun z H2=>D.nx (σ.set i (some z)) H2
theorem ps_aug {i:Nat}{x:Str}{e:Expr}{te:TE}{op:Operator}{ti:TIp}{pos':Pos}(hN:X.N.Nodup)(hi:X.N[i]? = some x)(hx:Loc X.env.scope x)(he:PE X e te)(ho:PIp X op ti)(hf:X.fn x=true\/X.env.scope.names.lookup x=some .local:=by first | exact .inl rfl | exact .inr rfl | assumption):
  PS X (.AugAssign (.Name x pos') op e pos) (tAug i te ti):=by
 intro pins s σ H D I h
 obtain ⟨v,e1,h⟩:=h
 obtain ⟨m,hn,hl⟩:=I.loc
 have vis:Vis X.env.scope x:=by rcases hx with k | k;exact .inl k;exact .inr (.inl k)
 obtain ⟨u,r,l⟩:=hl i x v hi e1 vis
 refine wpAny_AugAssign_Name ?_
 have go:wpAny (model X.prog X.w) X.A (eval e X.env) (fun w s₂=>wpAny (model X.prog X.w) X.A (inplaceOp op u w) (fun r s₃=>wpAny (model X.prog X.w) X.A (storeName X.env x r) (fun _=>SP X pins D .next) X.xe s₃) X.xe s₂) X.xe s:=by
  refine thn (he pins s σ H _ I h) fun w s1 ⟨y,H1,I1,r1,q1⟩=>?_
  refine thn (ho pins s1 σ H1 v y u w _ I1 r r1 q1) fun z s2 ⟨zv,H2,I2,r2,q2⟩=>?_
  exact store_ok I2 hN hi hx r2 (fun s3 I3=>⟨_,H2,I3,q2⟩) hf
 rcases l with ⟨hk,hm⟩ | ⟨hk,c,hc,hcell⟩
 ·exact wpAny_loadName_local I.ok.kind hk hn hm go
 ·rcases hk with hk | hk
  ·exact wpAny_loadName_cell I.ok.kind hk hc hcell go
  ·rcases hx with k | k
   ·have:X.env.scope.names.lookup x=some .free:=hk
    rw [k] at this;cases this
   ·have:X.env.scope.names.lookup x=some .free:=hk
    rw [k] at this;cases this
end
section
variable {X:Cx} {pos:Pos}
noncomputable def tWhile (c:TT)(tb:TS):TS:=fun D σ H=>∃ W:Nat->St->Hp->Prop,(∃ m,W m σ H) /\ ∀ m σ H,W m σ H ->
 c σ H fun b H1=>if b=true then ∃ N:St->Hp->Prop,(∀ σ' H',N σ' H' -> ∃ m',m'<m/\W m' σ' H')/\tb {D with nx:=N,ct:=N,bk:=D.nx} σ H1 else D.nx σ H1
theorem ps_while {c:Expr}{body:List Stmt}{tc:TT}{tb:TS}(hp:PassesOwn (model X.prog X.w) X.A X.env X.xe)(hc:PT X c tc)(hb:PSs X body tb):PS X (.While c body [] pos) (tWhile tc tb):=by
 intro pins s σ H D I h
 obtain ⟨W,⟨m0,w0⟩,turn⟩:=h
 refine wpAny_While (codeAny_whileLoop (fun n s'=>∃ σ' H',Inv X pins σ' H' s'/\W n σ' H') ?_ m0 ⟨σ,H,I,w0⟩)
 rintro n s1 ⟨σ1,H1,I1,w1⟩
 refine wpAny_passesOwn hp (thn (hc pins s1 σ1 H1 _ I1 (turn n σ1 H1 w1)) fun b s2 ⟨H2,I2,q2⟩=>?_)
 cases b with
 | true=>
  obtain ⟨N,hN,q2⟩:=q2
  rw [if_pos rfl]
  refine wpAny_passesOwn hp (thn (hb pins s2 σ1 H2 _ I2 q2) fun f s3 q3=>?_)
  cases f with
  | next=>
   obtain ⟨σ3,H3,I3,n3⟩:=q3
   obtain ⟨m',hm,w3⟩:=hN σ3 H3 n3
   exact ⟨m',hm,σ3,H3,I3,w3⟩
  | cont=>
   obtain ⟨σ3,H3,I3,n3⟩:=q3
   obtain ⟨m',hm,w3⟩:=hN σ3 H3 n3
   exact ⟨m',hm,σ3,H3,I3,w3⟩
  | brk=>exact q3
  | ret v=>exact q3
 | false=>
  rw [if_neg Bool.false_ne_true]
  exact wpAny_execs_nil ⟨σ1,H2,I2,q2⟩
end
structure It where
 go:Nat->Hp->Prop
 yld:Nat->Hp->V->Hp->Prop
 stop:Nat->Hp->Prop
noncomputable def FpOk (X:Cx)(pins:List (Addr×Obj))(H:Hp)(b:Addr):Prop:=
 H b=none/\b≠X.env.locals/\b∉X.fs/\(b∈X.ex\/X.s₀.heap.objs.size<=b)/\(∀ x c,X.env.cells.lookup x=some c->c≠b) /\ ∀ p∈X.pn++pins,p.1≠b
theorem Inv.fpOk {X:Cx}{pins:List (Addr×Obj)}{σ:St}{H H':Hp}{s:Shared}{b:Addr}(I:Inv X pins σ H s)(hb:s.heap.objs.size<=b)(hn:H' b=none):FpOk X pins H' b:=by
 refine ⟨hn,nG1 (nL1 I.lt hb),I.nofs hb,.inr (Nat.le_trans I.sz hb),fun x c e z=>?_,fun p hp z=>?_⟩
 ·obtain ⟨v,q⟩:=I.cell x c e
  exact absurd (nL1 q.lt (by rw [z];exact hb)) (Nat.lt_irrefl _)
 ·exact absurd (nL1 (hL1 (I.pin p hp).1) (by rw [z];exact hb)) (Nat.lt_irrefl _)
structure Turn (P:Program)(w:World)(K:Fg1)(tg:Expr)(J:It)(fp:List Addr)(it:Addr)(tn:Nat->Heap->Prop):Prop where
 mem:it∈fp
 obj:∀ i h,tn i h -> ∀ b∈fp,∃ o,h.get? b=some o /\ ∀ v,o.data ≠ .cell v
 keep:∀ i h h',tn i h->(∀ b∈fp,∀ o,h.get? b=some o->h'.get? b=some o)->tn i h'
 item:∀ (X:Cx),X.prog=P->X.w=w->X.K=K->X.calm=true -> ∀ (i:Nat) (pins:List (Addr×Obj)) (s:Shared) (σ:St) (H:Hp) (E:Value->Shared->Prop),Inv X pins σ H s->(∀ b∈fp,FpOk X pins H b)->tn i s.heap->J.go i H ->
  wpAny (model P w) X.A (pyNext (.ref it)) (fun r s1=>∃ u,r=some u /\
   wpAny (model P w) X.A (letOwnedTupleGo tg (.ref it) u) (fun _ s2=>∃ x H',Inv X pins σ H' s2/\RelV x u/\J.yld i H x H'/\tn (i+1) s2.heap /\ ∀ b∈fp,H' b=none) E s1) E s
 done:∀ (X:Cx),X.prog=P->X.w=w->X.K=K->X.calm=true -> ∀ (i:Nat) (pins:List (Addr×Obj)) (s:Shared) (σ:St) (H:Hp) (E:Value->Shared->Prop),Inv X pins σ H s->(∀ b∈fp,FpOk X pins H b)->tn i s.heap->J.stop i H ->
  wpAny (model P w) X.A (pyNext (.ref it)) (fun r s1=>r=none/\Inv X pins σ H s1) E s
 self:∀ (A:Around) (i:Nat) (s:Shared) (Q:Value->Shared->Prop) (E:Value->Shared->Prop),tn i s.heap->Q (.ref it) s->wpAny (model P w) A (pyIter (.ref it)) Q E s
noncomputable abbrev TI:=St->Hp->(It->Hp->Prop)->Prop
noncomputable def PIE (X:Cx)(pins:List (Addr×Obj))(σ:St)(tg:Expr)(R:It->Hp->Prop)(itv:Value)(s2:Shared):Prop:=
 ∃ (it:Addr) (fp:List Addr) (tn:Nat->Heap->Prop) (J:It) (H':Hp),itv = .ref it/\Inv X pins σ H' s2/\Turn X.prog X.w X.K tg J fp it tn/\tn 0 s2.heap/\(∀ b∈fp,FpOk X pins H' b)/\R J H'
noncomputable def PI (X:Cx)(tg iter:Expr)(wi:TI):Prop:=
 ∀ (pins:List (Addr×Obj)) (s:Shared) (σ:St) (H:Hp) (R:It->Hp->Prop),Inv X pins σ H s->wi σ H R ->
  wpAny (model X.prog X.w) X.A (eval iter X.env) (fun v s1=>wpAny (model X.prog X.w) X.A (pyIter v) (PIE X pins σ tg R) X.xe s1) X.xe s
theorem go_of {M:Model}{A:Around}{E:Value->Shared->Prop}{s:Shared}{tg:Expr}{it:Addr}{u:Value}{o:Obj}{n:String}{vs:Array Value}{Q:Unit->Shared->Prop}(ho:s.heap.get? it=some o)(hc:o.cls = .type n)(hd:o.data = .fields vs)
   (hn:["enumerate","zip","dict_itemiterator","dict_reverseitemiterator","odict_iterator","itertools.zip_longest","itertools.pairwise"].contains n=false) (hQ:Q () s):wpAny M A (letOwnedTupleGo tg (.ref it) u) Q E s:=by
 unfold letOwnedTupleGo
 cases tg <;> first
   | exact wP1 hQ
   | (cases u<;>first
       | exact wP1 hQ
       | (refine wB1 (wpAny_load ho ?_)
          rw [hc,hd]
          show wpAny M A (if (["enumerate","zip","dict_itemiterator","dict_reverseitemiterator","odict_iterator","itertools.zip_longest","itertools.pairwise"].contains n&&vs[0]? == some (rawInt _))=true then _ else _) Q E s
          rw [if_neg (by intro h;rw [hn,Bool.false_and] at h;cases h)]
          exact wP1 hQ))
noncomputable def Itl (K:Fg1)(a:Addr):It:=
 ⟨fun i H=>∃ xs x,SqL K H a xs/\xs[i]? = some x,fun i H x H'=>H'=H /\ ∀ xs,SqL K H a xs->xs[i]? = some x,fun i H=>∃ xs,SqL K H a xs/\xs.length<=i⟩
noncomputable def Itt (K:Fg1)(a:Addr):It:=
 ⟨fun i H=>∃ xs x,SqT K H a xs/\xs[i]? = some x,fun i H x H'=>H'=H /\ ∀ xs,SqT K H a xs->xs[i]? = some x,fun i H=>∃ xs,SqT K H a xs/\xs.length<=i⟩
noncomputable def Itr (lo:Int)(n:Nat):It:=⟨fun i _=>i<n,fun i H x H'=>H'=H/\x = .int (lo+i),fun i _=>n<=i⟩
theorem turn_list {P:Program}{w:World}{K:Fg1}{tg:Expr}(a it:Addr):Turn P w K tg (Itl K a) [it] it (fun i h=>h.IsListIter it a i) where
 mem:=by simp
 obj:=fun i h st b hb=>by
  have e:b=it:=by simpa using hb
  subst e
  obtain ⟨o,e,c,d⟩:=st
  exact ⟨o,e,fun v z=>by rw [d] at z;cases z⟩
 keep:=fun i h h' st k=>st.at fun o e=>k it (by simp) o e
 item:=by
  intro X hP hw hK hc i pins s σ H E I hf st hg
  subst hP hw hK
  obtain ⟨xs,x,hq,hx⟩:=hg
  obtain ⟨its,rv,p,hz⟩:=I.list hq
  obtain ⟨u,hu,ru⟩:=rv.get hx
  obtain ⟨f0,f1,f2,f3,f4,f5⟩:=hf it (by simp)
  refine wpAny_pyNext_list_item st p.isList (x:=u) (by simpa using hu) fun h' st' sb=>?_
  have I1:Inv X pins σ H {s with heap:=h'}:=I.turned (t':=s.toks) (fun b o hb e=>(sb.2 b hb).trans e) f0 f1 f3 f4 f5
  obtain ⟨o,e,c,d⟩:=id st'
  exact ⟨u,rfl,go_of (s:={s with heap:=h'}) e c d (by decide) ⟨x,H,I1,ru,⟨rfl,fun ys hy=>by rw [I.list_inj hy hq];exact hx⟩,st',fun b hb=>(hf b hb).1⟩⟩
 done:=by
  intro X hP hw hK hc i pins s σ H E I hf st hg
  subst hP hw hK
  obtain ⟨xs,hq,hx⟩:=hg
  obtain ⟨its,rv,p,hz⟩:=I.list hq
  obtain ⟨f0,f1,f2,f3,f4,f5⟩:=hf it (by simp)
  have hl:=rv.length
  exact wpAny_pyNext_list_end (I.ok.hd hc) st p.isList (by simp;lia) fun h' eb=>⟨rfl,I.turned (t':=s.toks) (fun b o hb e=>eb b o hb e) f0 f1 f3 f4 f5⟩
 self:=fun _ _ _ _ _ st h=>wpAny_pyIter_listiter st h
theorem turn_tuple {P:Program}{w:World}{K:Fg1}{tg:Expr}(a it:Addr):Turn P w K tg (Itt K a) [it] it (fun i h=>h.IsTupleIter it a i) where
 mem:=by simp
 obj:=fun i h st b hb=>by
  have e:b=it:=by simpa using hb
  subst e
  obtain ⟨o,e,c,d⟩:=st
  exact ⟨o,e,fun v z=>by rw [d] at z;cases z⟩
 keep:=fun i h h' st k=>st.at fun o e=>k it (by simp) o e
 item:=by
  intro X hP hw hK hc i pins s σ H E I hf st hg
  subst hP hw hK
  obtain ⟨xs,x,hq,hx⟩:=hg
  obtain ⟨its,rv,p,hz⟩:=I.tuple hq
  obtain ⟨u,hu,ru⟩:=rv.get hx
  obtain ⟨f0,f1,f2,f3,f4,f5⟩:=hf it (by simp)
  refine wpAny_pyNext_tuple_item st (show s.heap.IsTuple a its.toArray from p) (x:=u) (by simpa using hu) fun h' st' sb=>?_
  have I1:Inv X pins σ H {s with heap:=h'}:=I.turned (t':=s.toks) (fun b o hb e=>(sb.2 b hb).trans e) f0 f1 f3 f4 f5
  obtain ⟨o,e,c,d⟩:=id st'
  exact ⟨u,rfl,go_of (s:={s with heap:=h'}) e c d (by decide) ⟨x,H,I1,ru,⟨rfl,fun ys hy=>by rw [I.tuple_inj hy hq];exact hx⟩,st',fun b hb=>(hf b hb).1⟩⟩
 done:=by
  intro X hP hw hK hc i pins s σ H E I hf st hg
  subst hP hw hK
  obtain ⟨xs,hq,hx⟩:=hg
  obtain ⟨its,rv,p,hz⟩:=I.tuple hq
  obtain ⟨f0,f1,f2,f3,f4,f5⟩:=hf it (by simp)
  have hl:=rv.length
  exact wpAny_pyNext_tuple_end (I.ok.hd hc) st (show s.heap.IsTuple a its.toArray from p) (by simp;lia) fun h' eb=>⟨rfl,I.turned (t':=s.toks) (fun b o hb e=>eb b o hb e) f0 f1 f3 f4 f5⟩
 self:=fun _ _ _ _ _ st h=>wpAny_pyIter_tupleiter st h
theorem turn_range {P:Program}{w:World}{K:Fg1}{tg:Expr}(it:Addr)(lo:Int)(n:Nat):Turn P w K tg (Itr lo n) [it] it (fun i h=>IsRangeIter h it (lo+(i:Nat)*1) ((n:Int)-(i:Nat)) 1) where
 mem:=by simp
 obj:=fun i h st b hb=>by
  have e:b=it:=by simpa using hb
  subst e
  exact ⟨_,st,fun v z=>by
   have z':Data.fields _=Data.cell v:=z
   cases z'⟩
 keep:=fun i h h' st k=>k it (by simp) _ st
 item:=by
  intro X hP hw hK hc i pins s σ H E I hf st hg
  subst hP hw hK
  obtain ⟨f0,f1,f2,f3,f4,f5⟩:=hf it (by simp)
  have W:=Walks.range (prog:=X.prog) (w:=X.w) (I.ok.hd hc) it lo 1 n
  refine W.item i s _ _ hg st fun v h' tk hv st' kk=>?_
  obtain ⟨t,rfl⟩:=hv
  have I1:Inv X pins σ H {s with heap:=h',toks:=tk}:=I.turned (fun b o hb e=>kk b o (by simpa using hb) e) f0 f1 f3 f4 f5
  refine ⟨_,rfl,go_of (s:={s with heap:=h',toks:=tk}) (n:="range_iterator") st' rfl rfl (by decide) ⟨.int (lo+i),H,I1,⟨t,?_⟩,⟨rfl,rfl⟩,st',fun b hb=>(hf b hb).1⟩⟩
  rw [Int.mul_one]
 done:=by
  intro X hP hw hK hc i pins s σ H E I hf st hg
  subst hP hw hK
  obtain ⟨f0,f1,f2,f3,f4,f5⟩:=hf it (by simp)
  exact wpAny_pyNext_range_end (I.ok.hd hc) st (by have:n<=i:=hg;lia) fun h' eb=>⟨rfl,I.turned (t':=s.toks) (fun b o hb e=>eb b o hb e) f0 f1 f3 f4 f5⟩
 self:=fun _ _ _ _ _ st h=>wpAny_pyIter_rangeiter st h
end L2
namespace L2
open PySem PySem.Spec PyProof.Rows
section
variable {X:Cx} {tg:Expr}
noncomputable def iList (K:Fg1)(tl:TE):TI:=fun σ H R=>tl σ H fun x H1=>∃ a,x = .ref a/\(∃ xs,SqL K H1 a xs)/\R (Itl K a) H1
noncomputable def iTup (K:Fg1)(tl:TE):TI:=fun σ H R=>tl σ H fun x H1=>∃ a,x = .ref a/\(∃ xs,SqT K H1 a xs)/\R (Itt K a) H1
theorem pi_list {l:Expr}{tl:TE}(hl:PE X l tl):PI X tg l (iList X.K tl):=by
 intro pins s σ H R I h
 refine thn (hl pins s σ H _ I h) fun v s1 ⟨x,H1,I1,r1,q1⟩=>?_
 obtain ⟨a,e,⟨xs,hq⟩,q⟩:=q1
 subst e
 cases r1
 obtain ⟨its,rv,p,hz⟩:=I1.list hq
 refine wpAny_pyIter_list p.isList ?_
 refine ⟨s1.heap.objs.size,[s1.heap.objs.size],_,_,H1,rfl,I1.kept (t':=s1.toks) fun b o e=>hP1 _ e,turn_list a _,⟨_,hS1 _ rfl,rfl,rfl⟩,fun b hb=>?_,q⟩
 have e:b=s1.heap.objs.size:=by simpa using hb
 subst e
 exact I1.fpOk (nR1 _) (I1.hok.fresh (nR1 _))
theorem pi_tup {l:Expr}{tl:TE}(hl:PE X l tl):PI X tg l (iTup X.K tl):=by
 intro pins s σ H R I h
 refine thn (hl pins s σ H _ I h) fun v s1 ⟨x,H1,I1,r1,q1⟩=>?_
 obtain ⟨a,e,⟨xs,hq⟩,q⟩:=q1
 subst e
 cases r1
 obtain ⟨its,rv,p,hz⟩:=I1.tuple hq
 refine wpAny_pyIter_tuple (show s1.heap.IsTuple a its.toArray from p) ?_
 refine ⟨s1.heap.objs.size,[s1.heap.objs.size],_,_,H1,rfl,I1.kept (t':=s1.toks) fun b o e=>hP1 _ e,turn_tuple a _,⟨_,hS1 _ rfl,rfl,rfl⟩,fun b hb=>?_,q⟩
 have e:b=s1.heap.objs.size:=by simpa using hb
 subst e
 exact I1.fpOk (nR1 _) (I1.hok.fresh (nR1 _))
theorem range_it {pins:List (Addr×Obj)}{σ:St}{H:Hp}{s:Shared}{R:It->Hp->Prop}{E:Value->Shared->Prop}{lo hi:Int}{t u v:Tok}{tk:Nat}(I:Inv X pins σ H s)(h1: -(2^62)<=lo)(h2:lo<2^62)(h3: -(2^62)<=hi)(h4:hi<2^62)
  (q:R (Itr lo (hi-lo).toNat) H):wpAny (model X.prog X.w) X.A (pyIter (.ref s.heap.objs.size)) (PIE X pins σ tg R) E {s with heap:=s.heap.push {cls:=.type "range",data:=.fields #[.int lo t,.int hi u,.int 1 v]},toks:=tk}:=by
 refine wpAny_pyIter_range (IsRange.new ..) (small_one h1 h2 h3 h4) ?_
 have I1:Inv X pins σ H {s with heap:=s.heap.push {cls:=.type "range",data:=.fields #[.int lo t,.int hi u,.int 1 v]},toks:=tk}:=I.kept fun b o e=>hP1 _ e
 refine ⟨(s.heap.push {cls:=.type "range",data:=.fields #[.int lo t,.int hi u,.int 1 v]}).objs.size,[(s.heap.push {cls:=.type "range",data:=.fields #[.int lo t,.int hi u,.int 1 v]}).objs.size],_,_,H,rfl,
  I1.kept (t':=tk) fun b o e=>hP1 _ e,turn_range _ lo (hi-lo).toNat,?_,fun b hb=>?_,q⟩
 ·have e1:lo+((0:Nat):Int)*1=lo:=by simp
  have e2:(((hi-lo).toNat:Nat):Int)-((0:Nat):Int)=Builtin.Range.rangeSize lo hi 1:=by rw [rangeSize_one];split<;>lia
  show IsRangeIter _ _ (lo+((0:Nat):Int)*1) ((((hi-lo).toNat:Nat):Int)-((0:Nat):Int)) 1
  rw [e1,e2]
  exact hS1 _ rfl
 ·have e:b=(s.heap.push {cls:=.type "range",data:=.fields #[.int lo t,.int hi u,.int 1 v]}).objs.size:=by simpa using hb
  subst e
  exact I1.fpOk (nR1 _) (I1.hok.fresh (nR1 _))
noncomputable def iRng1 (ta:TA):TI:=fun σ H R=>ta σ H fun vs H1=>∃ j:Int,vs=[.int j] /\ -(2^62)<=j/\j<2^62/\R (Itr 0 j.toNat) H1
noncomputable def iRng2 (ta:TA):TI:=fun σ H R=>ta σ H fun vs H1=>∃ i j:Int,vs=[.int i,.int j]/\(-(2^62)<=i/\i<2^62 /\ -(2^62)<=j/\j<2^62)/\R (Itr i (j-i).toNat) H1
theorem pi_range1 {a:Expr}{ta:TA}{p pos:Pos}(hg:Gl X "range")(hm:X.mg "range"=none)(ha:PA X [a] ta)(hs:starEach [a] X.env=[(false,eval a X.env)]:=by rfl):PI X tg (.Call (.Name "range" p) [a] [] pos) (iRng1 ta):=by
 intro pins s σ H R I h
 refine Call_ (ld_blt I hg hm boot_range (PyProof.Rows.callWith_type1 (thn (ha pos pins s σ H _ I h) fun us s1 ⟨vs,H1,I1,r1,q1⟩=>?_) hs rfl))
 obtain ⟨j,e,q1,q2,q⟩:=q1
 subst e
 cases r1 with
 | cons r rr=>
  cases rr
  obtain ⟨t,rfl⟩:=r
  exact call_range_1 (range_it I1 (by lia) (by lia) q1 q2 (by simpa using q))
theorem pi_range2 {a b:Expr}{ta:TA}{p pos:Pos}(hg:Gl X "range")(hm:X.mg "range"=none)(ha:PA X [a,b] ta)(hs:starEach [a,b] X.env=[(false,eval a X.env),(false,eval b X.env)]:=by rfl)(hs2:starEach [b] X.env=[(false,eval b X.env)]:=by rfl):
  PI X tg (.Call (.Name "range" p) [a,b] [] pos) (iRng2 ta):=by
 intro pins s σ H R I h
 refine Call_ (ld_blt I hg hm boot_range (PyProof.Rows.callWith_type1 (thn (ha pos pins s σ H _ I h) fun us s1 ⟨vs,H1,I1,r1,q1⟩=>?_) (by rw [hs,hs2]) (by rw [hs2];rfl)))
 obtain ⟨i,j,e,⟨q1,q2,q3,q4⟩,q⟩:=q1
 subst e
 cases r1 with
 | cons r rr=>
  cases rr with
  | cons r' rr=>
   cases rr
   obtain ⟨t,rfl⟩:=r
   obtain ⟨t',rfl⟩:=r'
   exact call_range_2 (range_it I1 q1 q2 q3 q4 q)
noncomputable def tFor (wi:TI)(g:TG)(tb:TS):TS:=fun D σ H=>wi σ H fun J H1=>∃ W:Nat->Nat->St->Hp->Prop,(∃ m,W 0 m σ H1) /\ ∀ i m σ H,W i m σ H ->
 (J.stop i H/\D.nx σ H)\/(J.go i H /\ ∃ N:St->Hp->Prop,(∀ σ' H',N σ' H' -> ∃ m',m'<m/\W (i+1) m' σ' H') /\ ∀ x H',J.yld i H x H'->g x σ H' fun σ2 H2=>tb {D with nx:=N,ct:=N,bk:=D.nx} σ2 H2)
noncomputable def pinsAt (fp:List Addr)(h:Heap):List (Addr×Obj):=fp.filterMap fun b=>(h.get? b).map fun o=>(b,o)
theorem mem_pinsAt {fp:List Addr}{h:Heap}{b:Addr}{o:Obj}(hb:b∈fp)(e:h.get? b=some o):(b,o)∈pinsAt fp h:=List.mem_filterMap.mpr ⟨b,hb,by rw [e];rfl⟩
theorem of_pinsAt {fp:List Addr}{h:Heap}{p:Addr×Obj}(hp:p∈pinsAt fp h):p.1∈fp/\h.get? p.1=some p.2:=by
 obtain ⟨b,hb,e⟩:=List.mem_filterMap.mp hp
 cases q:h.get? b with
 | none=>rw [q] at e;cases e
 | some o=>
  rw [q] at e
  have e':(b,o)=p:=Option.some.inj e
  subst e'
  exact ⟨hb,q⟩
theorem Inv.pinned {pins:List (Addr×Obj)}{σ:St}{H:Hp}{s:Shared}{fp:List Addr}(I:Inv X pins σ H s)(hf:∀ b∈fp,FpOk X pins H b)(ho:∀ b∈fp,∃ o,s.heap.get? b=some o /\ ∀ v,o.data ≠ .cell v):Inv X (pins++pinsAt fp s.heap) σ H s:=
 I.pins_of fun p hp=>(List.mem_append.mp hp).elim (fun z=>I.pin p (mA1 _ z)) fun z=>by
  obtain ⟨hb,e⟩:=of_pinsAt z
  obtain ⟨f0,f1,f2,_⟩:=hf p.1 hb
  obtain ⟨o,e',d⟩:=ho p.1 hb
  rw [e] at e';cases e'
  exact ⟨e,f0,f1,f2,d⟩
theorem Inv.unpinned {pins pl:List (Addr×Obj)}{σ:St}{H:Hp}{s:Shared}(I:Inv X (pins++pl) σ H s):Inv X pins σ H s:=I.pins_of fun p hp=>I.pin p (mA1 _ (List.mem_append_left _ hp))
theorem ps_for {iter:Expr}{body:List Stmt}{wi:TI}{g:TG}{tb:TS}{pos:Pos}(hp:PassesOwn (model X.prog X.w) X.A X.env X.xe)(hc:X.calm=true)(hi:PI X tg iter wi)(hg:PG X tg g)(hb:PSs X body tb)
  (hs:∀ x,foldedSetIterable iter X.env x=pure x:=by intro _;rfl):PS X (.For tg iter body [] pos) (tFor wi g tb):=by
 intro pins s σ H D I h
 refine wpAny_For (thn (hi pins s σ H _ I h) fun v s1 h1=>thn h1 fun itv s2 h2=>?_) hs
 obtain ⟨it,fp,tn,J,H2,e,I2,T,st2,f2,W,⟨m0,w0⟩,turn⟩:=h2
 subst e
 -- what stays true of the iterator's objects through the loop
 have stat:∀ {H':Hp},(∀ b∈fp,H' b=none) -> ∀ b∈fp,FpOk X pins H' b:=fun hn b hb=>⟨hn b hb,(f2 b hb).2⟩
 refine codeAny_forLoop_any (fun n s'=>∃ i σ' H',Inv X pins σ' H' s'/\tn i s'.heap/\(∀ b∈fp,H' b=none)/\W i n σ' H') ?_ m0 ⟨0,σ,H2,I2,st2,fun b hb=>(f2 b hb).1,w0⟩
 rintro n s3 ⟨i,σ3,H3,I3,st3,fr3,w3⟩
 rcases turn i n σ3 H3 w3 with ⟨stop,qn⟩ | ⟨go,N,hN,step⟩
 ·refine wpAny_passesOwn hp (thn (T.done X rfl rfl rfl hc i pins s3 σ3 H3 X.xe I3 (stat fr3) st3 stop) fun r s4 ⟨hr,I4⟩=>?_)
  subst hr
  exact wpAny_execs_nil ⟨σ3,H3,I4,qn⟩
 ·refine wpAny_passesOwn hp (thn (T.item X rfl rfl rfl hc i pins s3 σ3 H3 X.xe I3 (stat fr3) st3 go) fun r s4 ⟨u,hr,h4⟩=>?_)
  subst hr
  refine wpAny_passesOwn hp (thn h4 fun _ s5 ⟨x,H5,I5,r5,y5,st5,fr5⟩=>?_)
  have I5':=I5.pinned (stat fr5) (T.obj _ _ st5)
  refine wpAny_passesOwn hp (thn (hg _ s5 σ3 H5 x u _ I5' r5 (step x H5 y5)) fun _ s6 ⟨σ6,H6,I6,q6⟩=>?_)
  refine wpAny_passesOwn hp (thn (hb _ s6 σ6 H6 _ I6 q6) fun f s7 q7=>?_)
  have again:∀ {σ7:St} {H7:Hp},Inv X (pins++pinsAt fp s5.heap) σ7 H7 s7->N σ7 H7 -> ∃ m,m<n /\ ∃ i σ' H',Inv X pins σ' H' s7/\tn i s7.heap/\(∀ b∈fp,H' b=none)/\W i m σ' H':=fun {σ7 H7} I7 n7=>by
   obtain ⟨m',hm,w7⟩:=hN σ7 H7 n7
   refine ⟨m',hm,i+1,σ7,H7,I7.unpinned,T.keep _ _ _ st5 fun b hb o e=>(I7.pin (b,o) (mA1 _ (mA1 _ (mem_pinsAt hb e)))).1,fun b hb=>?_,w7⟩
   obtain ⟨o,e,d⟩:=T.obj _ _ st5 b hb
   exact (I7.pin (b,o) (mA1 _ (mA1 _ (mem_pinsAt hb e)))).2.1
  cases f with
  | next=>obtain ⟨σ7,H7,I7,n7⟩:=q7;exact again I7 n7
  | cont=>obtain ⟨σ7,H7,I7,n7⟩:=q7;exact again I7 n7
  | brk=>obtain ⟨σ7,H7,I7,q7⟩:=q7;exact ⟨σ7,H7,I7.unpinned,q7⟩
  | ret v=>obtain ⟨x7,σ7,H7,I7,r7,q7⟩:=q7;exact ⟨x7,σ7,H7,I7.unpinned,r7,q7⟩
end
end L2
namespace L2
open PySem PySem.Spec PyProof.Rows
noncomputable abbrev R2:=V->V->Hp->VK->Prop
noncomputable def OpR (X:Cx)(f:Value->Value->Sem Value)(r:R2):Prop:=
 ∀ (pins:List (Addr×Obj)) (s:Shared) (σ:St) (H:Hp) (x y:V) (v u:Value) (Q:VK),Inv X pins σ H s->RelV x v->RelV y u->r x y H Q ->
  wpAny (model X.prog X.w) X.A (f v u) (EP X pins σ Q) X.xe s
noncomputable def UnR (X:Cx)(f:Value->Sem Value)(r:V->Hp->VK->Prop):Prop:=
 ∀ (pins:List (Addr×Obj)) (s:Shared) (σ:St) (H:Hp) (x:V) (v:Value) (Q:VK),Inv X pins σ H s->RelV x v->r x H Q ->
  wpAny (model X.prog X.w) X.A (f v) (EP X pins σ Q) X.xe s
noncomputable def CallR (X:Cx)(f:Value)(r:List V->Hp->VK->Prop):Prop:=
 ∀ (pins:List (Addr×Obj)) (s:Shared) (σ:St) (H:Hp) (xs:List V) (us:List Value) (Q:VK),Inv X pins σ H s->Vals xs us->r xs H Q ->
  wpAny (model X.prog X.w) X.A (call f us) (EP X pins σ Q) X.xe s
noncomputable def TruR (X:Cx)(r:V->Hp->(Bool->Hp->Prop)->Prop):Prop:=
 ∀ (pins:List (Addr×Obj)) (s:Shared) (σ:St) (H:Hp) (x:V) (v:Value) (Q:Bool->Hp->Prop),Inv X pins σ H s->RelV x v->r x H Q ->
  wpAny (model X.prog X.w) X.A (truthy v) (TP X pins σ Q) X.xe s
noncomputable def tOp (r:R2)(ta tb:TE):TE:=fun σ H Q=>ta σ H fun x H1=>tb σ H1 fun y H2=>r x y H2 Q
noncomputable def tUn (r:V->Hp->VK->Prop)(ta:TE):TE:=fun σ H Q=>ta σ H fun x H1=>r x H1 Q
noncomputable def rI (C:Int->Int->Prop)(g:Int->Int->V):R2:=fun x y H Q=>∃ i j,x = .int i/\y = .int j/\C i j/\Q (g i j) H
noncomputable def rI0 (g:Int->Int->V):R2:=fun x y H Q=>∃ i j,x = .int i/\y = .int j/\Q (g i j) H
noncomputable def rU (g:Int->V):V->Hp->VK->Prop:=fun x H Q=>∃ i,x = .int i/\Q (g i) H
section
variable {X:Cx} {a b c:Expr} {ta tb tc:TE} {pos:Pos}
theorem binT (ha:PE X a ta)(hb:PE X b tb){pins:List (Addr×Obj)}{s:Shared}{σ:St}{H:Hp}{R:V->V->Hp->Prop}(I:Inv X pins σ H s)
  (h:ta σ H fun x H1=>tb σ H1 fun y H2=>R x y H2) {Q:Value->Shared->Prop} {f:Value->Value->Sem Value}
  (hf:∀ v u s2 x y H2,Inv X pins σ H2 s2->RelV x v->RelV y u->R x y H2->wpAny (model X.prog X.w) X.A (f v u) Q X.xe s2):
  wpAny (model X.prog X.w) X.A (eval a X.env) (fun v s₁=>wpAny (model X.prog X.w) X.A (eval b X.env) (fun u s₂=>wpAny (model X.prog X.w) X.A (f v u) Q X.xe s₂) X.xe s₁) X.xe s:=by
 refine thn (ha pins s σ H _ I h) fun v s1 ⟨x,H1,I1,r1,q1⟩=>?_
 refine thn (hb pins s1 σ H1 _ I1 q1) fun u s2 ⟨y,H2,I2,r2,q2⟩=>?_
 exact hf v u s2 x y H2 I2 r1 r2 q2
theorem pe_op {op:Operator}{r:R2}(ho:OpR X (binaryOp op) r)(ha:PE X a ta)(hb:PE X b tb):PE X (.BinOp a op b pos) (tOp r ta tb):=by
 intro pins s σ H Q I h
 exact wpAny_BinOp (binT ha hb I h fun v u s2 x y H2 I2 rx ry q=>ho pins s2 σ H2 x y v u Q I2 rx ry q)
theorem pe_un {op:UnaryOp}{r:V->Hp->VK->Prop}(ho:UnR X (unaryOp op) r)(ha:PE X a ta):PE X (.UnaryOp op a pos) (tUn r ta):=by
 intro pins s σ H Q I h
 exact UnaryOp_ (thn (ha pins s σ H _ I h) fun v s1 ⟨x,H1,I1,r1,q1⟩=>ho pins s1 σ H1 x v Q I1 r1 q1)
theorem opI {f:Value->Value->Sem Value}{C:Int->Int->Prop}{g:Int->Int->Int}
  (rule:∀ (i j:Int) (t u:Tok) (s:Shared) (Q:Value->Shared->Prop) (E:Value->Shared->Prop),C i j->Q (.int (g i j) s.toks) {s with toks:=s.toks+1}->wpAny (model X.prog X.w) X.A (f (.int i t) (.int j u)) Q E s):
  OpR X f (rI C fun i j=>.int (g i j)):=by
 intro pins s σ H x y v u Q I rx ry h
 obtain ⟨i,j,rfl,rfl,hc,q⟩:=h
 obtain ⟨t,rfl⟩:=rx
 obtain ⟨t',rfl⟩:=ry
 exact rule i j t t' s _ _ hc ⟨.int (g i j),H,I.tok _,⟨_,rfl⟩,q⟩
theorem opI0 {f:Value->Value->Sem Value}{g:Int->Int->Int}
  (rule:∀ (i j:Int) (t u:Tok) (s:Shared) (Q:Value->Shared->Prop) (E:Value->Shared->Prop),Q (.int (g i j) s.toks) {s with toks:=s.toks+1}->wpAny (model X.prog X.w) X.A (f (.int i t) (.int j u)) Q E s):
  OpR X f (rI0 fun i j=>.int (g i j)):=by
 intro pins s σ H x y v u Q I rx ry h
 obtain ⟨i,j,rfl,rfl,q⟩:=h
 obtain ⟨t,rfl⟩:=rx
 obtain ⟨t',rfl⟩:=ry
 exact rule i j t t' s _ _ ⟨.int (g i j),H,I.tok _,⟨_,rfl⟩,q⟩
theorem opB0 {f:Value->Value->Sem Value}{g:Int->Int->Bool}
  (rule:∀ (i j:Int) (t u:Tok) (s:Shared) (Q:Value->Shared->Prop) (E:Value->Shared->Prop),Q (.bool (g i j)) s->wpAny (model X.prog X.w) X.A (f (.int i t) (.int j u)) Q E s):
  OpR X f (rI0 fun i j=>.bl (g i j)):=by
 intro pins s σ H x y v u Q I rx ry h
 obtain ⟨i,j,rfl,rfl,q⟩:=h
 obtain ⟨t,rfl⟩:=rx
 obtain ⟨t',rfl⟩:=ry
 exact rule i j t t' s _ _ ⟨.bl (g i j),H,I,rfl,q⟩
noncomputable def CDiv (i j:Int):Prop:=0<j/\j<1073741824
noncomputable def CPow (i j:Int):Prop:=0<=j/\j<=1000000/\i.natAbs<2^64
theorem op_add:OpR X (binaryOp .Add) (rI0 fun i j=>.int (i+j)):=opI0 fun _ _ _ _ _ _ _ q=>add_int q
theorem op_sub:OpR X (binaryOp .Sub) (rI0 fun i j=>.int (i-j)):=opI0 fun _ _ _ _ _ _ _ q=>sub_int q
theorem op_fdiv:OpR X (binaryOp .FloorDiv) (rI CDiv fun i j=>.int (i/j)):=opI fun i j _ _ _ _ _ hc q=>by
 have h1:(0:Int)<j:=hc.1
 have h2:j<1073741824:=hc.2
 exact floordiv_int (by lia) (by rw [Int.fdiv_eq_ediv_of_nonneg i (by lia)];exact q) (.inl (PyProof.noPylong_small (by lia)))
theorem op_mod:OpR X (binaryOp .Mod) (rI (fun _ j=>0<j) fun i j=>.int (i%j)):=opI fun i j _ _ _ _ _ hc q=>by
 have h1:(0:Int)<j:=hc
 exact mod_int' (by lia) (by rw [Int.fmod_eq_emod_of_nonneg i (by lia)];exact q)
theorem op_pow:OpR X (binaryOp .Pow) (rI CPow fun i j=>.int (i^j.toNat)):=opI fun _ _ _ _ _ _ _ hc q=>pow_int_small hc.1 hc.2.1 hc.2.2 q
theorem iop_add:OpR X (inplaceOp .Add) (rI0 fun i j=>.int (i+j)):=opI0 fun _ _ _ _ _ _ _ q=>iadd_int q
theorem unI {f:Value->Sem Value}{g:Int->Int}
  (rule:∀ (i:Int) (t:Tok) (s:Shared) (Q:Value->Shared->Prop) (E:Value->Shared->Prop),Q (.int (g i) s.toks) {s with toks:=s.toks+1}->wpAny (model X.prog X.w) X.A (f (.int i t)) Q E s):
  UnR X f (rU fun i=>.int (g i)):=by
 intro pins s σ H x v Q I rx h
 obtain ⟨i,rfl,q⟩:=h
 obtain ⟨t,rfl⟩:=rx
 exact rule i t s _ _ ⟨.int (g i),H,I.tok _,⟨_,rfl⟩,q⟩
theorem un_neg:UnR X (unaryOp .USub) (rU fun i=>.int (-i)):=unI fun _ _ _ _ _ q=>neg_int q
end
section
variable {X:Cx} {a b c:Expr} {ta tb tc:TE} {pos:Pos}
theorem op_le:OpR X (compareOp .LtE) (rI0 fun i j=>.bl (decide (i<=j))):=opB0 fun _ _ _ _ _ _ _ q=>le_int q
theorem op_gt:OpR X (compareOp .Gt) (rI0 fun i j=>.bl (decide (j<i))):=opB0 fun _ _ _ _ _ _ _ q=>gt_int q
theorem op_ge:OpR X (compareOp .GtE) (rI0 fun i j=>.bl (decide (j<=i))):=opB0 fun _ _ _ _ _ _ _ q=>ge_int q
theorem nomark (b:Expr){op:CmpOp}(h:op ≠ .In:=by decide)(h2:op ≠ .NotIn:=by decide):behindInMarks op b=false:=by
 have e1:(op == CmpOp.In)=false:=by cases op<;>first | rfl | exact absurd rfl h
 have e2:(op == CmpOp.NotIn)=false:=by cases op<;>first | rfl | exact absurd rfl h2
 cases b<;>simp [behindInMarks,e1,e2]
theorem pe_cmpR {op:CmpOp}{r:R2}(ho:OpR X (compareOp op) r)(ha:PE X a ta)(hb:PE X b tb)(hm:behindInMarks op b=false):PE X (.Compare a [op] [b] pos) (tOp r ta tb):=by
 intro pins s σ H Q I h
 exact wpAny_Compare1 (binT ha hb I h fun v u s2 x y H2 I2 rx ry q=>ho pins s2 σ H2 x y v u Q I2 rx ry q) hm
noncomputable def tTest (t:TE):TT:=fun σ H Q=>t σ H fun x H'=>∃ k,x = .bl k/\Q k H'
theorem pt_cmpR {op:CmpOp}{r:R2}(ho:OpR X (compareOp op) r)(ha:PE X a ta)(hb:PE X b tb)(hm:behindInMarks op b=false):PT X (.Compare a [op] [b] pos) (tTest (tOp r ta tb)):=by
 intro pins s σ H Q I h
 refine wpAny_isTrue_Compare1 (thn (ha pins s σ H _ I h) fun v s1 ⟨x,H1,I1,r1,q1⟩=>thn (hb pins s1 σ H1 _ I1 q1) fun u s2 ⟨y,H2,I2,r2,q2⟩=>
  thn (ho pins s2 σ H2 x y v u _ I2 r1 r2 q2) fun c s3 ⟨z,H3,I3,r3,k,e,q3⟩=>?_) hm
 subst e
 cases r3
 exact wpAny_truthy_bool ⟨H3,I3,q3⟩
noncomputable def tChain (r r':R2)(ta tb tc:TE):TE:=fun σ H Q=>ta σ H fun x H1=>tb σ H1 fun y H2=>r x y H2 fun z H3=>∃ k,z = .bl k /\
 (if k=true then tc σ H3 fun w' H4=>r' y w' H4 Q else Q (.bl false) H3)
theorem pe_chain {op op':CmpOp}{r r':R2}(ho:OpR X (compareOp op) r)(ho':OpR X (compareOp op') r')(ha:PE X a ta)(hb:PE X b tb)(hc:PE X c tc)
  (hm:lastMarks [op,op'] [b,c]=false:=by with_unfolding_all rfl):PE X (.Compare a [op,op'] [b,c] pos) (tChain r r' ta tb tc):=by
 intro pins s σ H Q I h
 refine Compare_chain (thn (ha pins s σ H _ I h) fun v s1 ⟨x,H1,I1,r1,q1⟩=>chain_link (thn (hb pins s1 σ H1 _ I1 q1) fun u s2 ⟨y,H2,I2,r2,q2⟩=>
  thn (ho pins s2 σ H2 x y v u _ I2 r1 r2 q2) fun d s3 ⟨z,H3,I3,r3,k,e,q3⟩=>?_)) hm
 subst e
 cases r3
 refine wpAny_truthy_bool ?_
 cases k with
 | false=>exact ite_ff ⟨.bl false,H3,I3,rfl,q3⟩
 | true=>exact ite_tt (chain_last (thn (hc pins s3 σ H3 _ I3 q3) fun w' s4 ⟨z',H4,I4,r4,q4⟩=>ho' pins s4 σ H4 y z' u w' Q I4 r2 r4 q4))
theorem pt_chain {op op':CmpOp}{r r':R2}(ho:OpR X (compareOp op) r)(ho':OpR X (compareOp op') r')(ha:PE X a ta)(hb:PE X b tb)(hc:PE X c tc)
  (hm:lastMarks [op,op'] [b,c]=false:=by with_unfolding_all rfl):PT X (.Compare a [op,op'] [b,c] pos) (tTest (tChain r r' ta tb tc)):=by
 intro pins s σ H Q I h
 refine isTrue_chain (thn (ha pins s σ H _ I h) fun v s1 ⟨x,H1,I1,r1,q1⟩=>test_link (thn (hb pins s1 σ H1 _ I1 q1) fun u s2 ⟨y,H2,I2,r2,q2⟩=>
  thn (ho pins s2 σ H2 x y v u _ I2 r1 r2 q2) fun d s3 ⟨z,H3,I3,r3,k,e,q3⟩=>?_)) hm
 subst e
 cases r3
 refine wpAny_truthy_bool ?_
 cases k with
 | false=>
  obtain ⟨k',e',q'⟩:=q3
  cases e'
  exact ite_ff ⟨H3,I3,q'⟩
 | true=>
  refine ite_tt (test_last (thn (hc pins s3 σ H3 _ I3 q3) fun w' s4 ⟨z',H4,I4,r4,q4⟩=>thn (ho' pins s4 σ H4 y z' u w' _ I4 r2 r4 q4) fun d' s5 ⟨z2,H5,I5,r5,k2,e2,q5⟩=>?_))
  subst e2
  cases r5
  exact wpAny_truthy_bool ⟨H5,I5,q5⟩
noncomputable def TruV (K:Fg1)(x:V)(H:Hp)(k:Bool):Prop:=
 match x with
 | .non=>k=false
 | .bl b=>k=b
 | .int i=>k=(i != 0)
 | .str y=>y.length<=sizeLine/\k=((y.length:Int) != 0)
 | .byt y=>y.size<=sizeLine/\k=((y.size:Int) != 0)
 | .ref p=>(∃ xs,SqL K H p xs/\k = !xs.isEmpty)\/(∃ xs,SqT K H p xs/\k = !xs.isEmpty) \/ ∃ kvs,H p=some (.dK kvs)/\k = !kvs.isEmpty
 | _=>False
theorem isEmpty_kv {κ:Type}{kvs:List (κ×V)}{vs:List (κ×Value)}(r:KV kvs vs):(!vs.isEmpty) = !kvs.isEmpty:=by
 cases r<;>rfl
theorem isEmpty_of {xs:List V}{its:List Value}(r:Vals xs its):(!its.toArray.isEmpty) = !xs.isEmpty:=by
 cases r<;>simp
theorem line63:(sizeLine:Nat)<2^63:=by rw [sizeLine_eq];decide
theorem tru_ok:TruR X (fun x H Q=>∃ k,TruV X.K x H k/\Q k H):=by
 intro pins s σ H x v Q I rx h
 obtain ⟨k,e,q⟩:=h
 have hl:=line63
 have hs:sizeLine=16777216:=sizeLine_eq
 cases x with
 | non=>
  cases rx
  have e':k=false:=e
  subst e'
  exact truthy_none ⟨H,I,q⟩
 | bl b=>
  cases rx
  have e':k=b:=e
  subst e'
  exact wpAny_truthy_bool ⟨H,I,q⟩
 | int i=>
  obtain ⟨t,rfl⟩:=rx
  have e':k=(i != 0):=e
  subst e'
  exact PySem.P.truthy_int ⟨H,I,q⟩
 | str y=>
  obtain ⟨t,rfl⟩:=rx
  obtain ⟨hy,e'⟩:y.length<=sizeLine/\k=((y.length:Int) != 0):=e
  subst e'
  exact PySem.P.truthy_str (by lia) ⟨H,I.tok _,q⟩
 | byt y=>
  obtain ⟨t,rfl⟩:=rx
  obtain ⟨hy,e'⟩:y.size<=sizeLine/\k=((y.size:Int) != 0):=e
  subst e'
  exact PySem.W.truthy_bytes (by lia) ⟨H,I.tok _,q⟩
 | ref p=>
  cases rx
  have e':(∃ xs,SqL X.K H p xs/\k = !xs.isEmpty)\/(∃ xs,SqT X.K H p xs/\k = !xs.isEmpty) \/ ∃ kvs,H p=some (.dK kvs)/\k = !kvs.isEmpty:=e
  rcases e' with ⟨xs,hx,e'⟩ | ⟨xs,hx,e'⟩ | ⟨kvs,hx,e'⟩
  ·subst e'
   obtain ⟨its,r,pl,hz⟩:=I.list hx
   have hlen:=r.length
   exact wpAny_truthy_list pl.isList (by simp only [sT1];lia) ⟨H,I.tok _,by rw [isEmpty_of r];exact q⟩
  ·subst e'
   obtain ⟨its,r,pl,hz⟩:=I.tuple hx
   have hlen:=r.length
   exact truthy_tuple pl (by simp only [sT1];lia) ⟨H,I.tok _,by rw [isEmpty_of r];exact q⟩
  ·subst e'
   obtain ⟨hz,hS,vs,r,m⟩:kvs.length<=sizeLine/\(p == sysModules)=false /\ ∃ vs,KV kvs vs/\s.heap.DictOf (mixKind X.prog X.w) p vs:=I.hok p _ hx
   have hlen:kvs.length=vs.length:=Paired.length r
   exact wpAny_truthy_dict hS m (by lia) ⟨H,I.tok _,by rw [isEmpty_kv r];exact q⟩
 | _=>exact (show False from e).elim
theorem pt_truth (ha:PE X a ta)(he:∀ whole,isTrue a X.env whole=(do let v<-whole;standAt a.pos;holding [v] (truthy v))):
  PT X a (fun σ H Q=>ta σ H fun x H'=>∃ k,TruV X.K x H' k/\Q k H'):=by
 intro pins s σ H Q I h
 exact isTrue_plain (thn (ha pins s σ H _ I h) fun v s1 ⟨x,H1,I1,r1,q1⟩=>tru_ok pins s1 σ H1 x v Q I1 r1 q1) (he _)
theorem op_add_str:OpR X (binaryOp .Add) (fun x y H Q=>∃ i j,x = .str i/\y = .str j/\i.length+j.length<=sizeLine/\Q (.str (i++j)) H):=by
 intro pins s σ H x y v u Q I rx ry h
 obtain ⟨i,j,rfl,rfl,hz,q⟩:=h
 obtain ⟨t,rfl⟩:=rx
 obtain ⟨t',rfl⟩:=ry
 exact add_str (fun t' tk=>⟨.str (i++j),H,I.tok _,⟨_,rfl⟩,q⟩) hz
theorem vals1 {x:V}{us:List Value}(r:Vals [x] us):∃ u,us=[u]/\RelV x u:=by
 cases r with
 | cons r1 r2=>cases r2;exact ⟨_,rfl,r1⟩
theorem vals2 {x y:V}{us:List Value}(r:Vals [x,y] us):∃ u w',us=[u,w']/\RelV x u/\RelV y w':=by
 cases r with
 | cons r1 r2=>
  cases r2 with
  | cons r3 r4=>cases r4;exact ⟨_,_,rfl,r1,r3⟩
theorem call_abs:CallR X (.builtin "abs") (fun xs H Q=>∃ i,xs=[.int i]/\Q (.int (if i<0 then-i else i)) H):=by
 intro pins s σ H xs us Q I r h
 obtain ⟨i,rfl,q⟩:=h
 obtain ⟨u,rfl,t,rfl⟩:=vals1 r
 exact call_abs_int fun u tk=>⟨.int (if i<0 then-i else i),H,I.tok _,⟨_,rfl⟩,q⟩
theorem call_min2 (hc:X.calm=true):CallR X (.builtin "min") (fun xs H Q=>∃ i j,xs=[.int i,.int j]/\Q (.int (if j<i then j else i)) H):=by
 intro pins s σ H xs us Q I r h
 obtain ⟨i,j,rfl,q⟩:=h
 obtain ⟨u,w',rfl,⟨t,rfl⟩,⟨t',rfl⟩⟩:=vals2 r
 refine min_two_ints (I.ok.hd hc) fun h' tk k=>⟨_,H,I.kept k,?_,q⟩
 by_cases hj:j<i
 ·rw [if_pos hj,if_pos hj];exact ⟨_,rfl⟩
 ·rw [if_neg hj,if_neg hj];exact ⟨_,rfl⟩
theorem call_int1:CallR X (.type "int") (fun xs H Q=>(∃ i,xs=[.int i]/\Q (.int i) H) \/ ∃ k,xs=[.bl k]/\Q (.int (if k then 1 else 0)) H):=by
 intro pins s σ H xs us Q I r h
 rcases h with ⟨i,rfl,q⟩ | ⟨k,rfl,q⟩
 ·obtain ⟨u,rfl,t,rfl⟩:=vals1 r
  exact call_int_int ⟨.int i,H,I,⟨_,rfl⟩,q⟩
 ·obtain ⟨u,rfl,r1⟩:=vals1 r
  cases r1
  exact call_int_bool ⟨.int (if k then 1 else 0),H,I.tok _,⟨_,rfl⟩,q⟩
end
end L2
namespace L2
open PySem PySem.Spec PyProof.Rows
structure ObjM (h:Heap)(x dx C:Addr)(mA:Str->Option Value):Prop where
 obj:h.get? x=some (PySem.W.instObj C dx)
 ns:h.Ns1 dx mA
 ne:dx≠x
theorem lookIn_ns {h:Heap}{dx:Addr}{mA:Str->Option Value}(n:h.Ns1 dx mA):∃ od,h.get? dx=some od /\ ∀ name,PySem.W.lookIn name od=some (mA name):=by
 obtain ⟨o,es,ep,ho,hd,hk,_,hm⟩:=n
 refine ⟨o,ho,fun name=>?_⟩
 have e:=hm name
 unfold nsFind findBy at e
 rw [<- Array.find?_toList] at e
 unfold PySem.W.lookIn
 rw [hd]
 dsimp only
 split
 ·rename_i y q
  rw [q] at e
  exact congrArg some e
 ·rename_i q
  rw [q] at e
  have a:es.toList.any (·.refKey)=false:=by
   rw [List.any_eq_false]
   intro y hy
   obtain ⟨z,t,hkey⟩:=hk y (Array.mem_toList_iff.mp hy)
   simp [DictEntry.refKey,hkey]
  have a':¬ es.toList.any (·.refKey)=true:=by rw [a];exact Bool.false_ne_true
  rw [if_neg a']
  exact congrArg some e
theorem ObjM.look {h:Heap}{x dx C:Addr}{mA:Str->Option Value}(I:ObjM h x dx C mA):∃ od,PySem.W.InstAt h x (PySem.W.instObj C dx) C (some od) /\ ∀ name,PySem.W.lookIn name od=some (mA name):=
 let ⟨od,ho,hl⟩:=lookIn_ns I.ns
 ⟨od,⟨I.obj,rfl,rfl,ho⟩,hl⟩
section
variable {prog:Program} {w:World} {A:Around} {E:Value->Shared->Prop} {s:Shared} {K:Fg1} {x dx C f:Addr} {mA:Str->Option Value} {name:Str} {v:Value}
end
theorem RelO.some_of {v:V}{o:Option Value}(r:RelO (some v) o):∃ u,o=some u/\RelV v u:=by
 cases o with
 | none=>exact (show False from r).elim
 | some u=>exact ⟨u,rfl,r⟩
section
variable {P:Program} {w:World} {H H':Hp} {h h':Heap} {a C dx:Addr} {fs fs':List (Str×V)}
theorem ins_get (hok:HOk P w H h)(e:H a=some (.ins C dx fs)):∃ mA,ObjM h a dx C mA/\(∀ f,RelO (fs.lookup f) (mA f))/\PySem.Within mA (fs.map (·.1))/\fs.length<=1000/\H dx=some (.own a):=by
 obtain ⟨d,z,ne,ob,mA,n,r,q⟩:=(show ObjOk P w H h a (.ins C dx fs) from hok a _ e)
 exact ⟨mA,⟨ob,n,ne⟩,r,q,z,d⟩
end
structure Cls (K:Fg1)(C:Addr):Prop where
 pg:PySem.W.plainGet K C Str.empty=true
 hd:PySem.W.hasDictIn K C=true
 po:PySem.W.plainOver K C=true
 sa:PySem.W.findIn K (.ref C) "__setattr__"=some (some (.builtin "object.__setattr__"))
theorem Cls.get {K:Fg1}{C:Addr}(c:Cls K C)(f:Str):PySem.W.plainGet K C f=true:=c.pg
structure Con (K:Fg1)(C:Addr)(f:Str)(v:V)(u:Value):Prop where
 at_:PySem.W.findIn K (.ref C) f=some (some u)
 rel:RelV v u
 get:PySem.W.specialIn K u "__get__"=some none
 cp:PySem.W.copiedNames.contains f=false
section
variable {X:Cx} {pins:List (Addr×Obj)} {σ:St} {H:Hp} {s:Shared} {a C dx:Addr} {fs:List (Str×V)} {f:Str} {v:V} {A:Around} {E:Value->Shared->Prop}
end
section
variable {X:Cx} {o e value:Expr} {f:Str} {pos pos' tpos:Pos} {ta tv:TE}
end
section
variable {X:Cx} {pins:List (Addr×Obj)} {σ:St} {H:Hp} {s:Shared} {A:Around} {E:Value->Shared->Prop} {Q:Value->Shared->Prop} {c:Value} {b:Bool}
inductive TyOf (K:Fg1)(H:Hp):V->Value->Prop where
 | non:TyOf K H .non (.type "NoneType")
 | bl (x:Bool):TyOf K H (.bl x) (.type "bool")
 | int (i:Int):TyOf K H (.int i) (.type "int")
 | str (x:Str):TyOf K H (.str x) (.type "str")
 | flt (x:UInt64):TyOf K H (.flt x) (.type "float")
 | lst {a:Addr} {xs:List V} (e:H a=some (.lst xs)):TyOf K H (.ref a) (.type "list")
 | frz {a:Addr} {o:Obj} {xs:List V} (e:H a=some (.frz o (.lst xs))):TyOf K H (.ref a) (.type "list")
 | tup {a:Addr} {xs:List V} (e:H a=some (.tup xs)):TyOf K H (.ref a) (.type "tuple")
 | dK {a:Addr} {kvs:List (Key×V)} (e:H a=some (.dK kvs)):TyOf K H (.ref a) (.type "dict")
 | dT {a:Addr} {kvs:List (List Key×V)} (e:H a=some (.dT kvs)):TyOf K H (.ref a) (.type "dict")
 | ins {a C dx:Addr} {fs:List (Str×V)} (e:H a=some (.ins C dx fs)) (cl:Cls K C) (ha:PySem.W.findIn K (.ref C) "__class__"=some (some (.builtin "object.__class__")))
   (hn:PySem.W.specialIn K (.builtin "object.__class__") "__get__"=some (some (.builtin "getset_descriptor.__get__"))) (htk:PySem.W.takesIn K (.builtin "object.__class__")=some true)
   (hm:PySem.W.mroIn K C (.type "object")=some true):TyOf K H (.ref a) (.ref C)
theorem isinst_ok {x:V}{u t:Value}(I:Inv X pins σ H s)(rx:RelV x u)(ty:TyOf X.K H x t)(e:PySem.W.kitOne X.K t c=some b)(h:∀ tk,Q (.bool b) {s with toks:=tk}):
  wpAny (model X.prog X.w) A (call (.builtin "isinstance") [u,c]) Q E s:=by
 cases ty with
 | non=>cases (show u=Value.none from rx);exact PySem.W.kia_one PySem.W.kitx_none I.kIn True.intro e (fun z=>nomatch z) h
 | bl y=>cases (show u=Value.bool y from rx);exact PySem.W.kia_one PySem.W.kitx_bool I.kIn True.intro e (fun z=>nomatch z) h
 | int i=>obtain ⟨t,q⟩:=(show ∃ t,u=Value.int i t from rx);cases q;exact PySem.W.kia_one PySem.W.kitx_int I.kIn True.intro e (fun z=>nomatch z) h
 | str y=>obtain ⟨t,q⟩:=(show ∃ t,u=Value.str y t from rx);cases q;exact PySem.W.kia_one PySem.W.kitx_str I.kIn True.intro e (fun z=>nomatch z) h
 | flt y=>obtain ⟨t,q⟩:=(show ∃ t,u=Value.float y t from rx);cases q;exact PySem.W.kia_one PySem.W.kitx_float I.kIn True.intro e (fun z=>nomatch z) h
 | @lst a xs ea=>
  cases (show u=Value.ref a from rx)
  obtain ⟨_,_,n,_,h1⟩:=(show ObjOk X.prog X.w H s.heap a (.lst xs) from I.hok a _ ea)
  exact PySem.W.kia_one PySem.W.kitx_list I.kIn ⟨_,h1,rfl⟩ e (fun z=>nomatch z) h
 | @frz a ob xs ea=>
  cases (show u=Value.ref a from rx)
  obtain ⟨_,_,_,n,_,h1⟩:=(show ObjOk X.prog X.w H s.heap a (.frz ob (.lst xs)) from I.hok a _ ea)
  exact PySem.W.kia_one PySem.W.kitx_list I.kIn ⟨_,h1,rfl⟩ e (fun z=>nomatch z) h
 | @tup a xs ea=>
  cases (show u=Value.ref a from rx)
  obtain ⟨_,_,_,p⟩:=(show ObjOk X.prog X.w H s.heap a (.tup xs) from I.hok a _ ea)
  obtain ⟨o,h1,h2,_⟩:=p
  exact PySem.W.kia_one PySem.W.kitx_tuple I.kIn ⟨o,h1,h2⟩ e (fun z=>nomatch z) h
 | @dK a kvs ea=>
  cases (show u=Value.ref a from rx)
  obtain ⟨_,_,vs,_,p⟩:=(show ObjOk X.prog X.w H s.heap a (.dK kvs) from I.hok a _ ea)
  obtain ⟨o,es,ep,h1,h2,_⟩:=p
  exact PySem.W.kia_one PySem.W.kitx_dict I.kIn ⟨o,h1,h2.1⟩ e (fun z=>nomatch z) h
 | @dT a kvs ea=>
  cases (show u=Value.ref a from rx)
  obtain ⟨_,_,xs,_,o,es,ep,h1,h2,_⟩:=(show ObjOk X.prog X.w H s.heap a (.dT kvs) from I.hok a _ ea)
  exact PySem.W.kia_one PySem.W.kitx_dict I.kIn ⟨o,h1,h2.1⟩ e (fun z=>nomatch z) h
 | @ins a C dx fs ea cl ha hn htk hm=>
  cases (show u=Value.ref a from rx)
  obtain ⟨mA,O,_⟩:=ins_get I.hok ea
  obtain ⟨od,J,_⟩:=O.look
  exact PySem.W.kia_one (PySem.W.kitx_own (cl.get _) cl.hd ha hn htk hm) I.kIn J e (fun z=>nomatch z) h
end
end L2
namespace L2
open PySem PySem.Spec PyProof.Rows
structure Room (k:Nat)(A:Around):Prop where
 hd:A.handled=none
 dp:A.depth+3*k+5<recursionLimit
 un:A.units+16*k+200<cLine
 gd:A.guards=some []
theorem Room.mono {j k:Nat}{A:Around}(r:Room k A)(h:j<=k):Room j A:=⟨r.hd,by have:=r.dp;lia,by have:=r.un;lia,r.gd⟩
theorem Room.deeper {k:Nat}{A:Around}(r:Room (k+1) A)(env:Env):Room k (A.deeper env):=
 ⟨r.hd,by have:=r.dp;show A.depth+1+3*k+5<_;lia,by have:=r.un;show A.units+3+16*k+200<_;lia,r.gd⟩
theorem Room.depth {k:Nat}{A:Around}(r:Room k A):A.depth<recursionLimit:=by have:=r.dp;lia
theorem Room.units {k:Nat}{A:Around}(r:Room k A):A.units+64<cLine:=by have:=r.un;lia
noncomputable def tNil:TA:=fun _ H Q=>Q [] H
noncomputable def tCons (ta:TE)(tr:TA):TA:=fun σ H Q=>ta σ H fun x H1=>tr σ H1 fun xs H2=>Q (x::xs) H2
section
variable {X:Cx} {e:Expr} {es:List Expr} {te:TE} {t:TA} {pos:Pos}
theorem pa_nil:PA X [] tNil:=fun _ _ _ _ H Q I h=>Calls.spliced_nil ⟨[],H,I,.nil,h⟩
theorem pa_cons (ha:PE X e te)(hr:PA X es t)(hs:starEach (e::es) X.env=(false,eval e X.env)::starEach es X.env:=by rfl):PA X (e::es) (tCons te t):=by
 intro pos pins s σ H Q I h
 rw [hs]
 show wpAny _ _ (spliced ((false,eval e X.env)::backTo pos (starEach es X.env))) _ _ s
 refine Calls.spliced_cons (thn (ha pins s σ H _ I h) fun u s1 ⟨x,H1,I1,r1,q1⟩=>?_)
 exact thn (hr pos pins s1 σ H1 _ I1 q1) fun us s2 ⟨xs,H2,I2,r2,q2⟩=>⟨x::xs,H2,I2,.cons r1 r2,q2⟩
noncomputable def tTup (t:TA):TE:=fun σ H Q=>t σ H fun xs H1=>xs.length<=sizeLine /\ ∀ p,H1 p=none->Q (.ref p) (upd H1 p (.tup xs))
noncomputable def tLst (t:TA):TE:=fun σ H Q=>t σ H fun xs H1=>xs.length<=sizeLine /\ ∀ p,H1 p=none->Q (.ref p) (upd H1 p (.lst xs))
theorem pe_tup {x1}(h:PA X es t):PE X (.Tuple es x1 pos) (tTup t):=by
 intro pins s σ H Q I hq
 refine wpAny_Tuple_spliced (thn (h pos pins s σ H _ I hq) fun us s1 ⟨xs,H1,I1,r,z,q⟩=>⟨by rw [<- r.length];exact z,?_⟩)
 have hf:H1 s1.heap.objs.size=none:=I1.hok.fresh (nR1 _)
 refine ⟨.ref s1.heap.objs.size,upd H1 s1.heap.objs.size (.tup xs),I1.laid (t':=s1.toks) (fun b u e=>hP1 _ e) (nR1 _) ?_,rfl,q _ hf⟩
 exact ⟨z,us,r,⟨_,hS1 _ rfl,rfl,_,rfl⟩⟩
theorem pe_lst (h:PA X es t):PE X (.List es pos) (tLst t):=by
 intro pins s σ H Q I hq
 refine wpAny_List_spliced (thn (h pos pins s σ H _ I hq) fun us s1 ⟨xs,H1,I1,r,z,q⟩=>⟨by rw [<- r.length];exact z,?_⟩)
 have hf:H1 s1.heap.objs.size=none:=I1.hok.fresh (nR1 _)
 refine ⟨.ref s1.heap.objs.size,upd H1 s1.heap.objs.size (.lst xs),I1.laid (t':=s1.toks) (fun b u e=>hP1 _ e) (nR1 _) ?_,rfl,q _ hf⟩
 exact ⟨z,us,0,r,hS1 _ rfl⟩
end
noncomputable abbrev Sp:=List V->Hp->VK->XK->Prop
noncomputable abbrev CXT:=List Env->Hp->Shared->XK->Value->Shared->Prop
structure Env0 (P:Program)(w:World)(K:Fg1)(mg:Str->Option Value)(base:Heap)(A:Around)(outer:List Env)(s:Shared)(H:Hp):Prop where
 frames:A.frames=some outer
 mod:Mod K mg base
 bs:∀ b o,base.get? b=some o->s.heap.get? b=some o/\H b=none
 bsz:base.objs.size<=s.heap.objs.size
 funs:s.heap.FunFrames base outer
 frf:∀ b∈frs outer,H b=none
 hok:HOk P w H s.heap
 bare:AllBare s.gens
noncomputable def CE (outer:List Env)(P:Program)(w:World)(H:Hp)(s:Shared)(Q:VK)(u:Value)(s':Shared):Prop:=
 ∃ v H',s'.os=s.os/\AllBare s'.gens/\Un (frs outer) [] H H' s.heap s'.heap/\HOk P w H' s'.heap/\RelV v u/\Q v H'
noncomputable def CR (CX:CXT)(outer:List Env)(P:Program)(w:World)(H:Hp)(s:Shared)(Q:VK)(E:XK)(r:Result)(s':Shared):Prop:=
 match r with
 | .ok (.ret u)=>CE outer P w H s Q u s'
 | .ok _=>False
 | .error e=>CX outer H s E e s'
structure FnOk (P:Program)(w:World)(K:Fg1)(mg:Str->Option Value)(base:Heap)(CX:CXT)(k:Nat)(f:Addr)(fd:FuncData)(ps:List Str)(sp:Sp):Prop where
 len:∀ vs H Q E,sp vs H Q E->vs.length=ps.length
 run:∀ (A:Around) (outer:List Env) (s:Shared) (H:Hp) (args:Args) (us:List Value) (vs:List V) (Q:VK) (E:XK),Room k A->Env0 P w K mg base A outer s H->BindsTo s fd args (ps.zip us)->Vals vs us->sp vs H Q E ->
  codeAny (model P w) A (.call (.ref f) args) (CR CX outer P w H s Q E) s
section
variable {X:Cx} {pins:List (Addr×Obj)} {σ:St} {H:Hp} {s s':Shared}
theorem Inv.env0 (I:Inv X pins σ H s):Env0 X.prog X.w X.K X.mg X.base X.A X.stack s H:=
 ⟨I.ok.frames,I.ok.mod,I.bs,Nat.le_trans I.ok.bsz I.sz,I.stack,I.stkFree,I.hok,I.bare⟩
theorem Inv.after {Q:VK}{u:Value}(I:Inv X pins σ H s)(h:CE X.stack X.prog X.w H s Q u s'):EP X pins σ Q u s':=by
 obtain ⟨v,H',os,bare,un,hok,r,q⟩:=h
 obtain ⟨hh,g,d,t,os'⟩:=s'
 obtain rfl:os'=s.os:=os
 exact ⟨v,H',I.call (h':=hh) (g':=g) (d':=d) (t':=t) (ch:=[]) un hok bare (fun b z=>absurd z (by simp)),r,q⟩
end
noncomputable def tCall (sp:Sp)(dvs:List V)(E:XK)(t:TA):TE:=fun σ H Q=>t σ H fun vs H1=>sp (vs++dvs) H1 Q E
noncomputable def Binds (K:Fg1)(fd:FuncData)(ps:List Str)(ds:List Value):Prop:=
 ∀ (s:Shared) (us:List Value),K.In s.heap->(us++ds).length=ps.length->BindsTo s fd ⟨us,[]⟩ (ps.zip (us++ds))
theorem Binds.all {K:Fg1}{fd:FuncData}{ps:List Str}(h:∀ us:List Value,us.length=ps.length->bindArgs fd ⟨us,[]⟩=pure (ps.zip us)):Binds K fd ps []:=fun s us _ hl=>by
 rw [List.append_nil] at hl ⊢
 exact .of_eq (h us hl)
noncomputable def Passes (CX:CXT)(X:Cx)(E:XK):Prop:=∀ (pins:List (Addr×Obj)) (σ:St) (H:Hp) (s:Shared) (e:Value) (s':Shared),Inv X pins σ H s->CX X.stack H s E e s'->X.xe e s'
section
variable {X:Cx} {CX:CXT} {k:Nat} {f C:Addr} {fd:FuncData} {ps:List Str} {sp:Sp} {dvs:List V} {ds:List Value} {E:XK} {x m:Str} {p pos apos:Pos} {e o:Expr} {es:List Expr} {ta:TE} {t:TA}
theorem run_fn {pins:List (Addr×Obj)}{σ:St}{H:Hp}{s:Shared}{Q:VK}{us:List Value}{vs:List V}(F:FnOk X.prog X.w X.K X.mg X.base CX k f fd ps sp)(hr:Room k X.A)(hb:Binds X.K fd ps ds)(hd:Vals dvs ds)(hx:Passes CX X E)
  (I:Inv X pins σ H s) (r:Vals vs us) (h:sp (vs++dvs) H Q E):wpAny (model X.prog X.w) X.A (call (.ref f) us) (EP X pins σ Q) X.xe s:=by
 have r2:Vals (vs++dvs) (us++ds):=r.append hd
 have hl:(us++ds).length=ps.length:=by rw [<- r2.length];exact F.len _ _ _ _ h
 refine wpAny_call (codeAny_mono (F.run X.A X.stack s H ⟨us,[]⟩ (us++ds) (vs++dvs) Q E hr I.env0 (hb s us I.kIn hl) r2 h) fun r s' hq=>?_)
 cases r with
 | error e=>exact hx pins σ H s e s' I hq
 | ok fl=>
  cases fl with
  | ret u=>exact I.after hq
  | next=>exact False.elim hq
  | brk=>exact False.elim hq
  | cont=>exact False.elim hq
theorem pe_call (F:FnOk X.prog X.w X.K X.mg X.base CX k f fd ps sp)(hr:Room k X.A)(hg:Gl X x)(hm:X.mg x=some (.ref f))(hk:wK1 X.K (.ref f)=true)(hb:Binds X.K fd ps ds)(hd:Vals dvs ds)(hx:Passes CX X E)
  (ha:PA X (e::es) t) (hdb:(x == ("__debug__":Str))=false:=by decide) (he:starEach (e::es) X.env=(false,eval e X.env)::starEach es X.env:=by rfl) (hpl:(backTo pos (starEach es X.env)).any (·.1)=false:=by rfl):
  PE X (.Call (.Name x p) (e::es) [] pos) (tCall sp dvs E t):=by
 intro pins s σ H Q I h
 refine wpAny_Call_Name_kw (ld_glob I hg hm ?_ hdb)
 refine PySem.W.callWith_K (h₀:=X.base) I.ok.mod.kin hk (thn (ha pos pins s σ H _ I h) fun us s1 ⟨vs,H1,I1,r,q⟩=>⟨I1.kIn,?_⟩) he hpl
 exact run_fn F hr hb hd hx I1 r q
end
section
variable {X:Cx} {CX:CXT} {k:Nat} {f C:Addr} {fd:FuncData} {ps ks:List Str} {sp:Sp} {E:XK} {x m:Str} {p pos apos kpos:Pos} {e o:Expr} {es:List Expr} {kws:List Keyword} {te ta:TE} {t tk:TA} {nm:Option Str}
variable {g:List Value->List Value->List Value} {gV:List V->List V->List V}
end
structure FnScope (N P:List Str)(sc:Scope):Prop where
 kind:sc.kind = .function
 co:sc.isCoroutine=false
 gen:sc.isGenerator=false
 nd:N.Nodup
 pre:N.take P.length=P
 par:∀ x∈P,sc.names.lookup x=some .local\/sc.names.lookup x=some .cell
 nofree:∀ y∈sc.names,y.2 ≠ .free
theorem bindL_out {kindOf:Str->Option NameKind}{x:Str}:∀ {binds:List (Str×Value)} {m:Str->Option Value},(∀ v,(x,v)∉binds)->bindL kindOf binds m x=m x
 | [],_,_=>rfl
 | (n,v)::r,m,h=>by
  unfold bindL
  rw [bindL_out fun w hw=>h w (mC1 _ hw)]
  split
  ·have:x≠n:=by rintro rfl;exact h v mS1
   simp [this]
  ·rfl
theorem bindC_out {kindOf:Str->Option NameKind}{x:Str}:∀ {binds:List (Str×Value)} {m:Str->Option Value},(∀ v,(x,v)∉binds)->bindC kindOf binds m x=m x
 | [],_,_=>rfl
 | (n,v)::r,m,h=>by
  unfold bindC
  rw [bindC_out fun w hw=>h w (mC1 _ hw)]
  split
  ·rfl
  ·have:x≠n:=by rintro rfl;exact h v mS1
   simp [this]
theorem bindL_get {kindOf:Str->Option NameKind}{x:Str}{v:Value}:∀ {P:List Str} {vs:List Value} {i:Nat} {m:Str->Option Value},P.Nodup->P[i]? = some x->vs[i]? = some v->kindOf x=some .local ->
  bindL kindOf (P.zip vs) m x=some v
 | [],_,_,_,_,h,_,_=>by simp at h
 | _::_,[],_,_,_,_,h,_=>by simp at h
 | p::P,w::vs,0,m,nd,h1,h2,hk=>by
  simp at h1 h2;subst h1;subst h2
  show bindL kindOf ((p,w)::P.zip vs) m p=_
  unfold bindL
  rw [bindL_out fun v hv=>(List.nodup_cons.mp nd).1 (List.of_mem_zip hv).1,if_pos hk]
  simp
 | p::P,w::vs,i+1,m,nd,h1,h2,hk=>by
  show bindL kindOf ((p,w)::P.zip vs) m x=_
  unfold bindL
  exact bindL_get (i:=i) (List.nodup_cons.mp nd).2 (by simpa using h1) (by simpa using h2) hk
theorem bindC_get {kindOf:Str->Option NameKind}{x:Str}{v:Value}:∀ {P:List Str} {vs:List Value} {i:Nat} {m:Str->Option Value},P.Nodup->P[i]? = some x->vs[i]? = some v->kindOf x≠some .local ->
  bindC kindOf (P.zip vs) m x=some v
 | [],_,_,_,_,h,_,_=>by simp at h
 | _::_,[],_,_,_,_,h,_=>by simp at h
 | p::P,w::vs,0,m,nd,h1,h2,hk=>by
  simp at h1 h2;subst h1;subst h2
  show bindC kindOf ((p,w)::P.zip vs) m p=_
  unfold bindC
  rw [bindC_out fun v hv=>(List.nodup_cons.mp nd).1 (List.of_mem_zip hv).1,if_neg hk]
  simp
 | p::P,w::vs,i+1,m,nd,h1,h2,hk=>by
  show bindC kindOf ((p,w)::P.zip vs) m x=_
  unfold bindC
  exact bindC_get (i:=i) (List.nodup_cons.mp nd).2 (by simpa using h1) (by simpa using h2) hk
noncomputable def start (N:List Str)(vs:List V):St:=vs.map some++List.replicate (N.length-vs.length) none
noncomputable def cxOf (CX:CXT)(P:Program)(w:World)(K:Fg1)(mg:Str->Option Value)(base:Heap)(N:List Str)(qual:Str)(scope:Scope)(f:Addr)(cd:Value)(A:Around)(outer:List Env)(s:Shared)(H:Hp)(E:XK):Cx where
 prog:=P
 w:=w
 K:=K
 mg:=mg
 base:=base
 A:=A.deeper (envOfC qual scope s.heap.objs.size f cd)
 N:=N
 s₀:=s
 H₀:=H
 env:=envOfC qual scope s.heap.objs.size f cd
 outer:=outer
 stack:=envOfC qual scope s.heap.objs.size f cd::outer
 ex:=[]
 calm:=true
 fn:=fun _=>true
 pn:=[]
 xe:=fun e s'=>wpAny (model P w) (A.deeper (envOfC qual scope s.heap.objs.size f cd)) (leaving (envOfC qual scope s.heap.objs.size f cd) e) (fun _ s''=>CX outer H s E e s'') (fun e' s''=>CX outer H s E e' s'') s'
theorem cell_has {sc:Scope}{n:Nat}{x:Str}(h:sc.names.lookup x=some .cell):∃ c,(cellsFrom n sc.names []).lookup x=some c:=by
 have q:=PySem.W.cellsFrom_some sc.names n [] (.inl h)
 exact Option.isSome_iff_exists.mp q
theorem inv_start {CX:CXT}{P:Program}{w:World}{K:Fg1}{mg:Str->Option Value}{base:Heap}{N ps:List Str}{qual:Str}{scope:Scope}{f:Addr}{cd:Value}{A:Around}{outer:List Env}{s s1:Shared}{H:Hp}{E:XK}{us:List Value}{vs:List V}
  (S:FnScope N ps scope) (hd:A.handled=none) (e0:Env0 P w K mg base A outer s H) (hl:vs.length=ps.length) (r:Vals vs us)
  (x:InCallC s s.heap.objs.size (bindL (envOfC qual scope s.heap.objs.size f cd).kindOf (ps.zip us) fun _=>none) (cellsFrom (s.heap.objs.size+1) scope.names []) (bindC (envOfC qual scope s.heap.objs.size f cd).kindOf (ps.zip us) fun _=>none) s1):
  Inv (cxOf CX P w K mg base N qual scope f cd A outer s H E) [] (start N vs) H s1:=by
 have hpl:ps.length<=N.length:=by have:=congrArg List.length S.pre;rw [List.length_take] at this;lia
 obtain ⟨h1,tk,rfl,hk⟩:=x.done
 have noA:∀ b:Addr,b∉(cxOf CX P w K mg base N qual scope f cd A outer s H E).ex:=fun b z=>absurd (show b∈([]:List Addr) from z) (by simp)
 refine ⟨⟨e0.mod,S.kind,rfl,rfl,nR1 _,fun y z c h1 h2=>?_,fun y hy=>?_,fun y c _ h=>?_,fun _=>hd,Around.frames_deeper e0.frames,.inr ⟨rfl,rfl⟩,fun b z=>absurd z (noA b),e0.bs,e0.bsz,fun b _ _=>noA b,fun b z=>absurd z (noA b),e0.funs,e0.frf⟩,
  rfl,e0.bare,Un.kept hk,⟨_,x.toInCall.ns,fun i y v h1 h2 h3=>?_⟩,fun y c h=>⟨_,x.cell y c h⟩,e0.hok.fresh (nR1 _),fun y c h=>?_,fun p hp=>absurd (show p∈([]:List (Addr×Obj)) from hp) (by simp),e0.hok.kept hk,?_⟩
 ·exact name_of_addr x.apart (PySem.mem_of_lookup h1) (PySem.mem_of_lookup h2)
 ·have hy:scope.names.lookup y=some .cell\/scope.names.lookup y=some .free:=hy
  rcases hy with hy | hy
  ·exact cell_has hy
  ·exact absurd rfl (S.nofree _ (PySem.mem_of_lookup hy))
 ·exact Nat.le_of_lt (x.above y c (PySem.mem_of_lookup h))
 ·have hi:i<vs.length:=by
   unfold start at h2
   by_cases hi:i<vs.length
   ·exact hi
   ·rw [gR1 (by simpa using hi)] at h2
    rw [List.getElem?_replicate] at h2
    split at h2<;>cases h2
  have ha:vs[i]? = some v:=by
   unfold start at h2
   rw [gL1 (by simpa using hi),gP1] at h2
   cases e:vs[i]? with
   | none=>rw [e] at h2;cases h2
   | some a=>rw [e] at h2;cases h2;rfl
  obtain ⟨u,hu,rv⟩:=r.get ha
  have hp:ps[i]? = some y:=by
   rw [<- S.pre,List.getElem?_take_of_lt (by lia)];exact h1
  have ndP:ps.Nodup:=by rw [<- S.pre];exact S.nd.sublist (List.take_sublist _ _)
  refine ⟨u,rv,?_⟩
  rcases S.par y (gM1 hp) with k | k
  ·exact .inl ⟨k,bindL_get ndP hp hu k⟩
  ·obtain ⟨c,e⟩:=cell_has (n:=s.heap.objs.size+1) k
   refine .inr ⟨.inl k,c,e,?_⟩
   have q:=x.cell y c e
   rw [bindC_get ndP hp hu (by show scope.names.lookup y≠_;rw [k];decide)] at q
   exact q
 ·exact e0.hok.fresh (Nat.le_of_lt (x.above y c (PySem.mem_of_lookup h)))
 ·unfold start
  show _=N.length
  rw [lA1,lM1,lR1]
  lia
theorem fn_of {CX:CXT}{P:Program}{w:World}{K:Fg1}{mg:Str->Option Value}{base:Heap}{k:Nat}{f:Addr}{name qual:Str}{params:Arguments}{body:List Stmt}{scope:Scope}{dV kV doc pm cdv ct oc:Value}{an od:Option Addr}
  {osl:Array (Option Value)} {N ps:List Str} {sp:Sp} (lk:K.lookup f=some ⟨oc,od,.func (wF1 name qual params body scope dV kV doc pm an cdv ct),osl⟩) (hcd:wC1 K cdv qual=true) (S:FnScope N ps scope)
  (len:∀ vs H Q E,sp vs H Q E->vs.length=ps.length)
  (hbody:∀ (A:Around) (outer:List Env) (s:Shared) (H:Hp) (vs:List V) (Q:VK) (E:XK),Room k (A.deeper (envOfC qual scope s.heap.objs.size f cdv))->sp vs H Q E ->
   ∃ t,PSs (cxOf CX P w K mg base N qual scope f cdv A outer s H E) body t/\t {nx:=fun _ H'=>Q .non H',rt:=Q} (start N vs) H):
  FnOk P w K mg base CX (k+1) f (wF1 name qual params body scope dV kV doc pm an cdv ct) ps sp:=by
 refine ⟨len,fun A outer s H args us vs Q E hr e0 hb r hsp=>?_⟩
 have hl:=len _ _ _ _ hsp
 have KX:K.In s.heap:=e0.mod.kin.keeps fun b o e=>(e0.bs b o e).1
 have lim:s.heap.NoLimit:=e0.mod.nolimit.keeps fun b o e=>(e0.bs b o e).1
 have hkind:∀ y∈ps.zip us,scope.names.lookup y.1=some .local\/(scope.names.lookup y.1=some .cell/\((cellsFrom (s.heap.objs.size+1) scope.names []).lookup y.1).isSome=true):=fun ⟨n,v⟩ hy=>by
  rcases S.par n (List.of_mem_zip hy).1 with q | q
  ·exact .inl q
  ·exact .inr ⟨q,PySem.W.cellsFrom_some _ _ _ (.inl q)⟩
 refine codeAny_call_function hr.depth (KX _ _ lk) rfl S.co S.gen rfl (PySem.W.codeRec_of KX hcd) (hb _ _ _ _ ?_)
 refine wpAny_newFunctionEnv_cells S.kind hkind fun env he s1 x=>?_
 subst he
 refine ⟨lim.keeps x.toInCall.keep,codeAny_func ?_⟩
 obtain ⟨t,ht,hq⟩:=hbody A outer s H vs Q E (hr.deeper _) hsp
 have I:Inv (cxOf CX P w K mg base N qual scope f cdv A outer s H E) [] (start N vs) H s1:=inv_start S hr.hd e0 hl r x
 refine wpAny_mono (ht [] s1 (start N vs) H _ I hq) (fun fl s' hs=>?_) fun e s' hs=>hs
 have fin:∀ {σ':St} {H':Hp} {v:V} {u:Value},Inv (cxOf CX P w K mg base N qual scope f cdv A outer s H E) [] σ' H' s'->RelV v u->Q v H'->CE outer P w H s Q u s':=
  fun {σ' H' v u} J rv q=>⟨v,H',J.os,J.bare,J.base,J.hok,rv,q⟩
 cases fl with
 | ret u=>
  obtain ⟨v,σ',H',J,rv,q⟩:=hs
  exact fin J rv q
 | next=>
  obtain ⟨σ',H',J,q⟩:=hs
  exact fin (v:=V.non) (u:=Value.none) J rfl q
 | brk=>
  obtain ⟨_,_,_,q⟩:=hs
  exact False.elim q
 | cont=>
  obtain ⟨_,_,_,q⟩:=hs
  exact False.elim q
end L2
namespace L2
open PySem PySem.Spec PyProof.Rows
section
variable {X:Cx} {x:Str} {p pos:Pos} {e:Expr} {es:List Expr} {t:TA} {id T:String} {r:List V->Hp->VK->Prop}
noncomputable def tCB (r:List V->Hp->VK->Prop)(t:TA):TE:=fun σ H Q=>t σ H fun vs H1=>r vs H1 Q
theorem pe_callB (hc:CallR X (.builtin id) r)(hg:Gl X x)(hm:X.mg x=none)(hv:bootBuiltins x=some (.builtin id))(ha:PA X (e::es) t)(hn:x≠"__name__":=by decide)(hdb:(x == ("__debug__":Str))=false:=by decide)
  (he:starEach (e::es) X.env=(false,eval e X.env)::starEach es X.env:=by rfl) (hpl:(backTo pos (starEach es X.env)).any (·.1)=false:=by rfl):PE X (.Call (.Name x p) (e::es) [] pos) (tCB r t):=by
 intro pins s σ H Q I h
 refine wpAny_Call_Name_kw (ld_blt I hg hm hv ?_ hn hdb)
 exact PyProof.Rows.callWith_builtin1 (thn (ha pos pins s σ H _ I h) fun us s1 ⟨vs,H1,I1,r1,q1⟩=>hc pins s1 σ H1 vs us Q I1 r1 q1) he hpl
theorem pe_callTy (hc:CallR X (.type T) r)(hg:Gl X x)(hm:X.mg x=none)(hv:bootBuiltins x=some (.type T))(ha:PA X (e::es) t)(hn:x≠"__name__":=by decide)(hdb:(x == ("__debug__":Str))=false:=by decide)
  (he:starEach (e::es) X.env=(false,eval e X.env)::starEach es X.env:=by rfl) (hpl:(backTo pos (starEach es X.env)).any (·.1)=false:=by rfl):PE X (.Call (.Name x p) (e::es) [] pos) (tCB r t):=by
 intro pins s σ H Q I h
 refine wpAny_Call_Name_kw (ld_blt I hg hm hv ?_ hn hdb)
 exact PyProof.Rows.callWith_type1 (thn (ha pos pins s σ H _ I h) fun us s1 ⟨vs,H1,I1,r1,q1⟩=>hc pins s1 σ H1 vs us Q I1 r1 q1) he hpl
end
end L2
namespace HT
open PySem PyProof.Rows
section
open PySem.SeqAt
open PySem.AutoSeq1 (wpAny_loadPart')
open PySem.MeetsSeq PySem.MeetsSeq2 PySem.MeetsSeq3
end
section
variable {prog:Program} {w:World} {A:Around} {E:Value->Shared->Prop} {s:Shared}
theorem cat_tup {t b:Addr}{vs ws:List Value}{Q:Value->Shared->Prop}(ht:IsTup s.heap t vs.toArray)(hb:IsTup s.heap b ws.toArray)(hv:vs≠[])
  (h1:ws=[]->Q (.ref t) s) (h2:ws≠[]->Q (.ref s.heap.objs.size) {s with heap:=s.heap.push {cls:=.type "tuple",data:=.seq (vs++ws).toArray}})
  (hsz:vs.length+ws.length<=sizeLine):wpAny (model prog w) A (binaryOp .Add (.ref t) (.ref b)) Q E s:=by
 obtain ⟨⟨cls,dd,data,sl⟩,ho,hc,n,hd⟩:=id ht
 obtain ⟨⟨cls2,dd2,data2,sl2⟩,ho2,hc2,n2,hd2⟩:=id hb
 simp only at hc hd hc2 hd2
 subst hc hd hc2 hd2
 have e:vs.toArray++ws.toArray=(vs++ws).toArray:=by simp
 by_cases hw:ws=[]
 ·exact concat_meets ⟨_,ho,rfl⟩ ⟨_,ho2,rfl⟩ noFill_tuple_add seq_tuple_add PySem.F.slot_tuple_add PySem.F.entry_tuple_add (PySem.F.args_tuple_add_2 _ _)
   (tuple_addW1 t b vs.toArray ws.toArray n n2 dd dd2 sl sl2 (by simpa using hv) (by simp [hw])) ⟨ho,ho2,h1 hw⟩
 ·refine concat_meets ⟨_,ho,rfl⟩ ⟨_,ho2,rfl⟩ noFill_tuple_add seq_tuple_add PySem.F.slot_tuple_add PySem.F.entry_tuple_add (PySem.F.args_tuple_add_2 _ _)
   (tuple_addW2 t b vs.toArray ws.toArray n n2 dd dd2 sl sl2 (by simpa using hv) (by simpa using hw) (by rw [sT1,sT1];exact hsz)) ⟨ho,ho2,?_⟩
  rw [e]
  exact h2 hw
noncomputable def sIx (n d:Nat):Option Int->Nat
 | none=>d
 | some v=>if v<0 then (v+(n:Int)).toNat else min v.toNat n
theorem sIx_none (n d:Nat):sIx n d none=d:=rfl
theorem sIx_nat (n d k:Nat):sIx n d (some (k:Int))=min k n:=by
 show (if (k:Int)<0 then ((k:Int)+(n:Int)).toNat else min (k:Int).toNat n)=min k n
 rw [if_neg (by lia),Int.toNat_natCast]
theorem sIx_le (n d:Nat)(hd:d<=n)(o:Option Int):sIx n d o<=n:=by
 cases o with
 | none=>exact hd
 | some v=>
  show (if v<0 then (v+(n:Int)).toNat else min v.toNat n)<=n
  by_cases hv:v<0
  ·rw [if_pos hv];lia
  ·rw [if_neg hv];exact Nat.min_le_right _ _
theorem clip_eq (v:Int)(n d:Nat):(if v<0 then max (v+(n:Int)) 0 else min v (n:Int))=((sIx n d (some v):Nat):Int):=by
 show (if v<0 then max (v+(n:Int)) 0 else min v (n:Int))=(((if v<0 then (v+(n:Int)).toNat else min v.toNat n):Nat):Int)
 by_cases hv:v<0
 ·simp only [if_pos hv];lia
 ·simp only [if_neg hv];lia
theorem adjust_gen (lo hi:Option Int)(n:Nat):Builtin.Slice.sliceAdjust lo hi 1 (n:Int)=(((sIx n 0 lo:Nat):Int),((sIx n n hi:Nat):Int)):=by
 have h1:¬ ((1:Int)<0):=by lia
 unfold Builtin.Slice.sliceAdjust
 simp only [h1,if_false]
 refine Prod.ext ?_ ?_
 ·cases lo with
  | none=>rfl
  | some v=>exact clip_eq v n 0
 ·cases hi with
  | none=>rfl
  | some v=>exact clip_eq v n n
theorem places_gen (i j:Nat):Builtin.Slice.slicePlaces (i:Int) (j:Int) 1=j-i:=by
 unfold Builtin.Slice.slicePlaces
 have h1:(1:Int)>0:=by lia
 simp only [h1,if_true,Int.ediv_one]
 split<;>lia
theorem slicePart_ {v:Value}{o:Option Int}{Q:Option Int->Shared->Prop}(p:IsPart v o)(h:Q o s):wpAny (model prog w) A (Builtin.Slice.slicePartIndex v) Q E s:=by
 cases p with
 | none=>exact slicePart_none h
 | int i t=>exact slicePart_int h
theorem sliceApplied_gen {sl:Addr}{vl vu:Value}{lo hi:Option Int}{n:Nat}{Q:Int×Int×Nat->Shared->Prop}(hs:s.heap.IsSliceOf sl vl vu .none)(pl:IsPart vl lo)(pu:IsPart vu hi)
  (h:Q (((sIx n 0 lo:Nat):Int),1,sIx n n hi-sIx n 0 lo) s):wpAny (model prog w) A (Builtin.Slice.sliceApplied (.ref sl) (pure (n:Int))) Q E s:=by
 obtain ⟨os,hos,hcs,hds⟩:=id hs
 unfold Builtin.Slice.sliceApplied Builtin.Slice.sliceFields
 refine wB1 (wB1 (wpAny_field hos hds (x:=vl) rfl (wB1 (wpAny_field hos hds (x:=vu) rfl (wB1 (wpAny_field hos hds (x:=.none) rfl (wP1 ?_)))))))
 refine wB1 (slicePart_none ?_)
 show wpAny _ _ (if ((1:Int) == 0)=true then _ else _) _ _ s
 rw [if_neg (by decide)]
 refine wB1 (slicePart_ pl (wB1 (slicePart_ pu (wB1 (wP1 ?_)))))
 show wpAny _ _ (match Builtin.Slice.sliceAdjust lo hi 1 (n:Int) with | (lo,hi)=>pure (lo,(1:Int),Builtin.Slice.slicePlaces lo hi 1)) _ _ s
 rw [adjust_gen lo hi n]
 show wpAny _ _ (pure (((sIx n 0 lo:Nat):Int),(1:Int),Builtin.Slice.slicePlaces ((sIx n 0 lo:Nat):Int) ((sIx n n hi:Nat):Int) 1)) _ _ s
 rw [places_gen]
 exact wP1 h
theorem pick_gen (xs:Array Value)(i k:Nat):((List.range k).filterMap fun (m:Nat)=>xs[((i:Int)+(m:Int)*1).toNat]?).toArray=((xs.toList.drop i).take k).toArray:=by
 have e:(fun (m:Nat)=>xs[((i:Int)+(m:Int)*1).toNat]?)=fun m=>xs[i+m]?:=by
  funext m
  have:((i:Int)+(m:Int)*1).toNat=i+m:=by lia
  rw [this]
 rw [e]
 have:=pick_run xs i k
 rw [List.filterMap_map] at this
 have e2:((fun x=>xs[x]?)∘fun x=>i+x)=fun m=>xs[i+m]?:=rfl
 rw [e2] at this
 rw [this]
theorem getItem_tuple_cut {t sl:Addr}{items:Array Value}{vl vu:Value}{lo hi:Option Int}{Q:Value->Shared->Prop}(ht:IsTup s.heap t items)(hs:s.heap.IsSliceOf sl vl vu .none)(pl:IsPart vl lo)(pu:IsPart vu hi)
  (hw:¬ (sIx items.size 0 lo=0/\sIx items.size items.size hi=items.size))
  (h:Q (.ref s.heap.objs.size) {s with heap:=s.heap.push {cls:=.type "tuple",data:=.seq ((items.toList.drop (sIx items.size 0 lo)).take (sIx items.size items.size hi-sIx items.size 0 lo)).toArray}})
  (hsz:items.size<=sizeLine):wpAny (model prog w) A (getItem (.ref t) (.ref sl)) Q E s:=by
 have htake:sizeOk (.seq ((items.toList.drop (sIx items.size 0 lo)).take (sIx items.size items.size hi-sIx items.size 0 lo)).toArray):=by
  show ((items.toList.drop (sIx items.size 0 lo)).take (sIx items.size items.size hi-sIx items.size 0 lo)).toArray.size<=sizeLine
  rw [sT1,List.length_take,List.length_drop,Array.length_toList]
  omega
 have hj:sIx items.size items.size hi<=items.size:=sIx_le _ _ (nR1 _) hi
 obtain ⟨os,hos,hcs,hds⟩:=id hs
 have hTs:s.TypeIs (.ref sl) "slice":=⟨os,hos,hcs⟩
 unfold getItem
 try with_reducible refine wpAny_holding ?_
 first | refine wB1 (wP1 ?_) | skip
 refine wB1 (wpAny_sequenceKey ht.typeIs (by decide) ?_)
 refine wB1 (wpAny_callSpecial?_slot (name:=Str.ofString "__getitem__") ht.typeIs PyProof.Rows.slot_tuple_getitem
  (wE1 PyProof.Rows.slot_tuple_getitem ht.typeIs entry_tuple_getitem ?_ (args_tuple_getitem _ _)))
 show wpAny _ _ (Builtin.Tuple.tupleItemsOf (.ref t) >>= _) _ _ s
 refine wB1 (tupleItemsOf_ ht ?_)
 refine wB1 (wpAny_typeOf hTs ?_)
 rw [if_pos (by decide)]
 refine wB1 (sliceApplied_gen hs pl pu ?_)
 have hno:¬ ((((sIx items.size 0 lo:Nat):Int) == 0&&(1:Int) == 1&&(sIx items.size items.size hi-sIx items.size 0 lo) == items.size)=true):=by
  intro q
  rw [bA1,bA1] at q
  have q1:((sIx items.size 0 lo:Nat):Int)=0:=eq_of_beq q.1.1
  have q2:sIx items.size items.size hi-sIx items.size 0 lo=items.size:=eq_of_beq q.2
  exact hw ⟨by omega,by omega⟩
 show wpAny _ _ (if (((sIx items.size 0 lo:Nat):Int) == 0&&(1:Int) == 1&&(sIx items.size items.size hi-sIx items.size 0 lo) == items.size)=true then _ else _) _ _ s
 rw [if_neg hno,pick_gen]
 first
  | exact wB1 (m:=Builtin.Tuple.tupleExact _) (wO1 (wP1 ⟨_,rfl,wP1 h⟩) htake)
  | exact wB1 (m:=Builtin.Tuple.tupleExact _) (wO1 (wB1 (wP1 (wP1 ⟨_,rfl,wP1 h⟩))) htake)
  | exact wB1 (wB1 (m:=Builtin.Tuple.tupleExact _) (wO1 (wP1 (wP1 ⟨_,rfl,wP1 h⟩)) htake))
  | exact wB1 (wB1 (m:=Builtin.Tuple.tupleExact _) (wO1 (wP1 ⟨_,rfl,wP1 h⟩) htake))
end
end HT
namespace L2
open PySem PySem.Spec PyProof.Rows
noncomputable abbrev TO:=St->Hp->(Option Int->Hp->Prop)->Prop
noncomputable def PO (X:Cx)(e:Option Expr)(t:TO):Prop:=
 ∀ (pins:List (Addr×Obj)) (s:Shared) (σ:St) (H:Hp) (Q:Option Int->Hp->Prop),Inv X pins σ H s->t σ H Q ->
  wpAny (model X.prog X.w) X.A (evalPart e X.env) (fun u s'=>∃ o H',Inv X pins σ H' s'/\IsPart u o/\Q o H') X.xe s
noncomputable def tNoPart:TO:=fun _ H Q=>Q none H
noncomputable def tPart (t:TE):TO:=fun σ H Q=>t σ H fun x H1=>∃ i,x = .int i/\Q (some i) H1
section
variable {X:Cx} {e:Expr} {te:TE} {lo hi:Option Expr} {tl th:TO} {pos p2:Pos}
theorem po_none:PO X none tNoPart:=by
 intro pins s σ H Q I h
 rw [evalPart_none]
 exact wP1 ⟨none,H,I,.none,h⟩
theorem po_some (h:PE X e te):PO X (some e) (tPart te):=by
 intro pins s σ H Q I hw
 rw [evalPart_some]
 refine thn (h pins s σ H _ I hw) fun u s1 ⟨x,H1,I1,r1,q1⟩=>?_
 obtain ⟨i,rfl,q⟩:=q1
 obtain ⟨t,rfl⟩:=r1
 exact ⟨some i,H1,I1,.int i t,q⟩
noncomputable def SlR (X:Cx)(r:V->Option Int->Option Int->Hp->VK->Prop):Prop:=
 ∀ (pins:List (Addr×Obj)) (s:Shared) (σ:St) (H:Hp) (x:V) (v vl vu:Value) (lo hi:Option Int) (sl:Addr) (Q:VK),Inv X pins σ H s->RelV x v->s.heap.IsSliceOf sl vl vu .none->IsPart vl lo->IsPart vu hi->r x lo hi H Q ->
  ∃ T id,typeLookup (.type T) "__getitem__"=pure (some (.builtin id))/\s.TypeIs v T/\wpAny (model X.prog X.w) X.A (getItem v (.ref sl)) (EP X pins σ Q) X.xe s
theorem SlR.or {r r':V->Option Int->Option Int->Hp->VK->Prop}(h:SlR X r)(h':SlR X r'):SlR X (fun x lo hi H Q=>r x lo hi H Q\/r' x lo hi H Q):=by
 intro pins s σ H x v vl vu lo hi sl Q I rx hs pl pu q
 rcases q with q | q
 ·exact h pins s σ H x v vl vu lo hi sl Q I rx hs pl pu q
 ·exact h' pins s σ H x v vl vu lo hi sl Q I rx hs pl pu q
noncomputable def tSl (r:V->Option Int->Option Int->Hp->VK->Prop)(te:TE)(tl th:TO):TE:=fun σ H Q=>te σ H fun x H1=>tl σ H1 fun l H2=>th σ H2 fun u H3=>r x l u H3 Q
theorem pe_slice {r:V->Option Int->Option Int->Hp->VK->Prop}(hr:SlR X r)(he:PE X e te)(hl:PO X lo tl)(hu:PO X hi th):PE X (.Subscript e (.Slice lo hi none p2) pos) (tSl r te tl th):=by
 intro pins s σ H Q I h
 refine Subscript_ (thn (he pins s σ H _ I h) fun v s1 ⟨x,H1,I1,r1,q1⟩=>?_)
 refine wpAny_Slice (thn (hl pins s1 σ H1 _ I1 q1) fun vl s2 ⟨l,H2,I2,pl,q2⟩=>thn (hu pins s2 σ H2 _ I2 q2) fun vu s3 ⟨u,H3,I3,pu,q3⟩=>?_)
 rw [evalPart_none]
 refine wP1 ?_
 have I4:Inv X pins σ H3 {s3 with heap:=s3.heap.push {cls:=.type "slice",data:=.fields #[vl,vu,.none]}}:=I3.kept (t':=s3.toks) fun b ob q=>hP1 _ q
 obtain ⟨T,id,hT,ht,hg⟩:=hr pins {s3 with heap:=s3.heap.push {cls:=.type "slice",data:=.fields #[vl,vu,.none]}} σ H3 x v vl vu l u s3.heap.objs.size Q I4 r1 (Heap.IsSliceOf.new ..) pl pu q3
 show wpAny (model X.prog X.w) X.A (subscriptTail e (.Slice lo hi none p2) v (.ref s3.heap.objs.size)) (EP X pins σ Q) X.xe {s3 with heap:=s3.heap.push {cls:=.type "slice",data:=.fields #[vl,vu,.none]}}
 exact tail_any (ops:=[.ref s3.heap.objs.size,v]) ht hT hg (by with_unfolding_all rfl)
noncomputable def cutV (xs:List V)(lo hi:Option Int):List V:=(xs.drop (HT.sIx xs.length 0 lo)).take (HT.sIx xs.length xs.length hi-HT.sIx xs.length 0 lo)
theorem cutV_length (xs:List V)(lo hi:Option Int):(cutV xs lo hi).length<=xs.length:=by
 unfold cutV
 rw [List.length_take,List.length_drop]
 lia
noncomputable def rSlT (K:Fg1):V->Option Int->Option Int->Hp->VK->Prop:=fun x lo hi H Q=>∃ a xs,x = .ref a/\SqT K H a xs /\
 ¬ (HT.sIx xs.length 0 lo=0/\HT.sIx xs.length xs.length hi=xs.length) /\ ∀ p,H p=none->Q (.ref p) (upd H p (.tup (cutV xs lo hi)))
theorem sl_tup:SlR X (rSlT X.K):=by
 intro pins s σ H x v vl vu lo hi sl Q I rx hs pl pu h
 obtain ⟨a,xs,rfl,hx,hw,q⟩:=h
 cases rx
 obtain ⟨its,r,ht,hz⟩:=I.tuple hx
 have hlen:its.toArray.size=xs.length:=by rw [sT1];exact r.length.symm
 refine ⟨"tuple",_,PyProof.Rows.slot_tuple_getitem.lookup,ht.typeIs,?_⟩
 refine HT.getItem_tuple_cut ht hs pl pu (by rw [hlen];exact hw) ?_ (by rw [hlen];exact hz)
 rw [hlen]
 refine ⟨.ref s.heap.objs.size,_,I.laid (t':=s.toks) (o:=.tup (cutV xs lo hi)) (fun b ob q=>hP1 _ q) (nR1 _) ?_,rfl,q _ (I.hok.fresh (nR1 _))⟩
 exact ⟨Nat.le_trans (cutV_length xs lo hi) hz,_,(r.drop (HT.sIx xs.length 0 lo)).take (HT.sIx xs.length xs.length hi-HT.sIx xs.length 0 lo),IsTup.new _ _⟩
noncomputable def rCatT (K:Fg1):R2:=fun x y H Q=>∃ a b xs ys,x = .ref a/\y = .ref b/\SqT K H a xs/\SqT K H b ys/\xs≠[]/\xs.length+ys.length<=sizeLine /\
 (ys=[]->Q (.ref a) H)/\(ys≠[] -> ∀ p,H p=none->Q (.ref p) (upd H p (.tup (xs++ys))))
theorem Vals.nil_iff {xs:List V}{us:List Value}(r:Vals xs us):us=[]↔xs=[]:=by
 cases r with
 | nil=>simp
 | cons _ _=>simp
theorem op_catT:OpR X (binaryOp .Add) (rCatT X.K):=by
 intro pins s σ H x y v u Q I rx ry h
 obtain ⟨a,b,xs,ys,rfl,rfl,ha,hb,hx,hz,q1,q2⟩:=h
 cases rx
 cases ry
 obtain ⟨its,r1,p1,_⟩:=I.tuple ha
 obtain ⟨its2,r2,p2,_⟩:=I.tuple hb
 refine HT.cat_tup p1 p2 (fun z=>hx (r1.nil_iff.mp z)) (fun z=>⟨.ref a,H,I,rfl,q1 (r2.nil_iff.mp z)⟩) (fun z=>?_) (by rw [<- r1.length,<- r2.length];exact hz)
 refine ⟨.ref s.heap.objs.size,_,I.laid (t':=s.toks) (o:=.tup (xs++ys)) (fun b ob q=>hP1 _ q) (nR1 _) ?_,rfl,q2 (fun w=>z (r2.nil_iff.mpr w)) _ (I.hok.fresh (nR1 _))⟩
 exact ⟨by rw [lA1];exact hz,_,r1.append r2,IsTup.new _ _⟩
end
end L2
namespace L2
open PySem PySem.Spec PyProof.Rows
noncomputable def ixN (n:Nat)(i:Int):Option Nat:=if 0<=i then (if i<n then some i.toNat else none) else if-(n:Int)<=i then some (i+n).toNat else none
noncomputable def atI {α:Type}(xs:List α)(i:Int):Option α:=(ixN xs.length i).bind fun j=>xs[j]?
theorem ixN_seq {n:Nat}{i:Int}{j:Nat}(h:ixN n i=some j):seqIndex? i n=some j/\j<n /\ -(n:Int)<=i/\i<n:=by
 unfold ixN at h
 by_cases h0:0<=i
 ·rw [if_pos h0] at h
  by_cases h1:i<n
  ·rw [if_pos h1] at h
   have e:i.toNat=j:=Option.some.inj h
   exact ⟨by rw [seqIndex_of h0 h1,e],by lia,by lia,h1⟩
  ·rw [if_neg h1] at h;cases h
 ·rw [if_neg h0] at h
  by_cases h1: -(n:Int)<=i
  ·rw [if_pos h1] at h
   have e:(i+n).toNat=j:=Option.some.inj h
   exact ⟨by rw [seqIndex_neg (by lia) h1,e],by lia,h1,by lia⟩
  ·rw [if_neg h1] at h;cases h
theorem atI_get {α:Type}{xs:List α}{i:Int}{v:α}(h:atI xs i=some v):∃ j,seqIndex? i xs.length=some j/\xs[j]? = some v/\j<xs.length /\ -(xs.length:Int)<=i/\i<xs.length:=by
 unfold atI at h
 cases e:ixN xs.length i with
 | none=>rw [e] at h;cases h
 | some j=>
  rw [e] at h
  obtain ⟨h1,h2,h3,h4⟩:=ixN_seq e
  exact ⟨j,h1,h,h2,h3,h4⟩
theorem atI_nat {α:Type}{xs:List α}{j:Nat}{v:α}(h:xs[j]? = some v):atI xs (j:Int)=some v:=by
 have hj:j<xs.length:=(gE1.mp h).1
 have e:ixN xs.length (j:Int)=some j:=by
  unfold ixN
  rw [if_pos (by lia),if_pos (by lia)];simp
 unfold atI;rw [e];exact h
noncomputable def PlainIx (b:Expr):Prop:=∀ o i,subscripted b false o i=operate [o,i] (getItem o i)
noncomputable def IxR (X:Cx)(r:R2):Prop:=
 ∀ (value slice:Expr) (pins:List (Addr×Obj)) (s:Shared) (σ:St) (H:Hp) (x y:V) (v u:Value) (Q:VK),Inv X pins σ H s->RelV x v->RelV y u->r x y H Q ->
  subscripted slice false v u=operate [v,u] (getItem v u)->wpAny (model X.prog X.w) X.A (subscriptTail value slice v u) (EP X pins σ Q) X.xe s
noncomputable def MtR (X:Cx)(id:String)(r:V->List V->Hp->VK->Prop):Prop:=
 ∀ (pins:List (Addr×Obj)) (s:Shared) (σ:St) (H:Hp) (x:V) (xs:List V) (v:Value) (us:List Value) (Q:VK),Inv X pins σ H s->RelV x v->Vals xs us->r x xs H Q ->
  wpAny (model X.prog X.w) X.A (call (.builtin id) (v::us)) (EP X pins σ Q) X.xe s
section
variable {X:Cx} {a b:Expr} {ta tb:TE} {pos:Pos}
theorem pe_ix {r:R2}(hr:IxR X r)(ha:PE X a ta)(hb:PE X b tb)(hs:PlainIx b):PE X (.Subscript a b pos) (tOp r ta tb):=by
 intro pins s σ H Q I h
 exact Subscript_ (binT ha hb I h fun v u s2 x y H2 I2 rx ry q=>hr a b pins s2 σ H2 x y v u Q I2 rx ry q (hs _ _))
noncomputable def rIxL (K:Fg1):R2:=fun x y H Q=>∃ p xs i v,x = .ref p/\y = .int i/\SqL K H p xs/\atI xs i=some v/\Q v H
noncomputable def rIxT (K:Fg1):R2:=fun x y H Q=>∃ p xs i v,x = .ref p/\y = .int i/\SqT K H p xs/\atI xs i=some v/\Q v H
theorem ix_list:IxR X (rIxL X.K):=by
 intro value slice pins s σ H x y v u Q I rx ry h hs
 obtain ⟨p,xs,i,z,rfl,rfl,hq,he,q⟩:=h
 cases rx
 obtain ⟨t,rfl⟩:=ry
 obtain ⟨its,r,pl,hz⟩:=I.list hq
 obtain ⟨j,h1,h2,h3,h4,h5⟩:=atI_get he
 obtain ⟨w,ew,rw'⟩:=r.get h2
 have hl:=r.length
 have hn:=line63
 have fin:EP X pins σ Q w s:=⟨z,H,I,rw',q⟩
 by_cases h0:0<=i
 ·have hj:i.toNat=j:=by
   rw [seqIndex_of h0 h5] at h1
   exact Option.some.inj h1
  exact item_listR pl.isList h0 (by lia) (by rw [hj];simpa using ew) fin hs
 ·have hj:(i+(its.toArray.size:Int)).toNat=j:=by
   rw [seqIndex_neg (by lia) h4] at h1
   rw [sT1,<- hl]
   exact Option.some.inj h1
  exact subscriptTail_builtinR (x:=w) pl.isList.typeIs slot_list_getitem.lookup
   (wpAny_getItem_list_neg (Q:=fun r s'=>r=w/\EP X pins σ Q r s') pl.isList (by lia) (by rw [sT1]<;>lia) (by lia) (by rw [hj];simpa using ew) ⟨rfl,fin⟩) hs
theorem ix_tup:IxR X (rIxT X.K):=by
 intro value slice pins s σ H x y v u Q I rx ry h hs
 obtain ⟨p,xs,i,z,rfl,rfl,hq,he,q⟩:=h
 cases rx
 obtain ⟨t,rfl⟩:=ry
 obtain ⟨its,r,pl,hz⟩:=I.tuple hq
 obtain ⟨j,h1,h2,h3,h4,h5⟩:=atI_get he
 obtain ⟨w,ew,rw'⟩:=r.get h2
 have hl:=r.length
 have hn:=line63
 have fin:EP X pins σ Q w s:=⟨z,H,I,rw',q⟩
 exact subscriptTail_builtinR (x:=w) pl.typeIs slot_tuple_getitem.lookup
  (getItem_tuple (j:=j) (Q:=fun r s'=>r=w/\EP X pins σ Q r s') pl (by lia) (by lia) (by rw [sT1,<- hl];exact h1) (by simpa using ew) ⟨rfl,fin⟩) hs
theorem mapSeq_set (its:List Value)(n j:Nat)(u:Value):Obj.mapSeq (·.setIfInBounds j u) {cls:=.type "list",data:=.seq its.toArray n}={cls:=.type "list",data:=.seq (its.set j u).toArray n}:=by
 simp [Obj.mapSeq]
theorem Inv.lst {pins:List (Addr×Obj)}{σ:St}{H:Hp}{s:Shared}{p:Addr}{xs:List V}(I:Inv X pins σ H s)(h:H p=some (.lst xs)):
  ∃ (its:List Value) (n:Nat),Vals xs its/\s.heap.get? p=some {cls:=.type "list",data:=.seq its.toArray n}/\xs.length<=sizeLine:=by
 obtain ⟨z,its,n,r,e⟩:=I.hok p _ h
 exact ⟨its,n,r,e,z⟩
theorem Inv.lstUpd {pins:List (Addr×Obj)}{σ:St}{H:Hp}{s:Shared}{p:Addr}{xs ys:List V}{its its':List Value}{n n':Nat}{f:Obj->Obj}(I:Inv X pins σ H s)(h:H p=some (.lst xs))
  (ho:s.heap.get? p=some {cls:=.type "list",data:=.seq its.toArray n}) (hf:f {cls:=.type "list",data:=.seq its.toArray n}={cls:=.type "list",data:=.seq its'.toArray n'}) (r:Vals ys its') (hz:ys.length<=sizeLine) (t:Nat):
  Inv X pins σ (upd H p (.lst ys)) {s with heap:=s.heap.update p f,toks:=t}:=by
 have e:(s.heap.update p f).get? p=some {cls:=.type "list",data:=.seq its'.toArray n'}:=by
  rw [hW1 f ho (by rw [hf]<;>rfl),hf]
 refine I.write (x:=p) (e:=p) (by rw [h];trivial) (.inl rfl) (fun b u hb q=>(Heap.get?_update_other _ _ (Ne.symm hb)).trans q) ⟨_,e⟩ ?_
 exact ⟨hz,its',n',r,e⟩
noncomputable def rSetL:V->V->V->Hp->(Hp->Prop)->Prop:=fun o i v H Q=>∃ p xs k j,o = .ref p/\i = .int k/\H p=some (.lst xs)/\ixN xs.length k=some j/\Q (upd H p (.lst (xs.set j v)))
theorem set_list:PSet X rSetL:=by
 intro pins s σ H o i v ov iv u Q I ro ri rv h
 obtain ⟨p,xs,k,j,rfl,rfl,hp,hj,q⟩:=h
 cases ro
 obtain ⟨t,rfl⟩:=ri
 obtain ⟨its,n,r,ho,hz⟩:=I.lst hp
 obtain ⟨h1,h2,h3,h4⟩:=ixN_seq hj
 have hl:=r.length
 have hn:=line63
 have I':Inv X pins σ (upd H p (.lst (xs.set j v))) {s with heap:=s.heap.update p (Obj.mapSeq (·.setIfInBounds j u))}:=
  I.lstUpd hp ho (mapSeq_set its n j u) (r.set rv j) (by rw [List.length_set];exact hz) s.toks
 by_cases h0:0<=k
 ·have hk:k.toNat=j:=by
   rw [seqIndex_of h0 h4] at h1
   exact Option.some.inj h1
  exact PySem.W.ki_setAt ho h0 (by lia) (by rw [sT1,<- hl];exact h4) (by rw [hk];exact ⟨_,I',q⟩)
 ·have hk:(k+(its.toArray.size:Int)).toNat=j:=by
   rw [seqIndex_neg (by lia) h3] at h1
   rw [sT1,<- hl]
   exact Option.some.inj h1
  exact PySem.W.ki_setBack ho (by lia) (by rw [sT1,<- hl];exact h3) (by lia) (by rw [hk];exact ⟨_,I',q⟩)
theorem slice_bounds (lo hi:Option Int)(n:Nat):(sliceBounds lo hi none n).1=((HT.sIx n 0 lo:Nat):Int)/\(sliceBounds lo hi none n).2.1=((HT.sIx n n hi:Nat):Int)/\(sliceBounds lo hi none n).2.2=1:=by
 refine ⟨?_,?_,rfl⟩
 ·cases lo with
  | none=>simp [sliceBounds,HT.sIx]
  | some i=>
   simp only [sliceBounds,HT.sIx,Option.getD_none,show (1:Int)>0 by decide,if_true]
   by_cases h:i<0
   ·simp only [h,if_true]<;>lia
   ·simp only [h,if_false]<;>lia
 ·cases hi with
  | none=>simp [sliceBounds,HT.sIx]
  | some i=>
   simp only [sliceBounds,HT.sIx,Option.getD_none,show (1:Int)>0 by decide,if_true]
   by_cases h:i<0
   ·simp only [h,if_true]<;>lia
   ·simp only [h,if_false]<;>lia
theorem slicePick_cut (its:List Value)(lo hi:Option Int):slicePick its.toArray lo hi none=((its.drop (HT.sIx its.length 0 lo)).take (HT.sIx its.length its.length hi-HT.sIx its.length 0 lo)).toArray:=by
 obtain ⟨h1,h2,h3⟩:=slice_bounds lo hi its.toArray.size
 unfold slicePick
 rw [h1,h2,h3]
 simp only [sliceRange_one,pick_run,sT1]<;>rfl
noncomputable def rSlL (K:Fg1):V->Option Int->Option Int->Hp->VK->Prop:=fun x lo hi H Q=>∃ a xs,x = .ref a/\SqL K H a xs /\ ∀ p,H p=none->Q (.ref p) (upd H p (.lst (cutV xs lo hi)))
theorem sl_list:SlR X (rSlL X.K):=by
 intro pins s σ H x v vl vu lo hi sl Q I rx hs pl pu h
 obtain ⟨a,xs,rfl,hx,q⟩:=h
 cases rx
 obtain ⟨its,r,ht,hz⟩:=I.list hx
 have hlen:=r.length
 refine ⟨"list",_,slot_list_getitem.lookup,ht.isList.typeIs,?_⟩
 refine wpAny_getItem_list_slice ht.isList hs pl pu .none (by simp) ?_ (by rw [sT1]<;>lia)
 rw [slicePick_cut,<- hlen]
 refine ⟨.ref s.heap.objs.size,_,I.laid (t':=s.toks) (o:=.lst (cutV xs lo hi)) (fun b ob q=>hP1 _ q) (nR1 _) ?_,rfl,q _ (I.hok.fresh (nR1 _))⟩
 exact ⟨Nat.le_trans (cutV_length xs lo hi) hz,_,0,(r.drop (HT.sIx xs.length 0 lo)).take (HT.sIx xs.length xs.length hi-HT.sIx xs.length 0 lo),hS1 _ rfl⟩
noncomputable def flatV:V->Bool
 | .non=>true
 | .bl _=>true
 | .int _=>true
 | .str _=>true
 | _=>false
noncomputable def eqV:V->V->Bool
 | .non,.non=>true
 | .bl a,.bl b=>a == b
 | .bl a,.int b=>(if a then 1 else 0) == b
 | .int a,.bl b=>a == (if b then 1 else 0)
 | .int a,.int b=>a == b
 | .str a,.str b=>a == b
 | _,_=>false
theorem eqAt_V {A:Around}{s:Shared}{y x:V}{u v:Value}(ry:RelV y u)(rx:RelV x v)(fy:flatV y=true)(fx:flatV x=true):SeqAt.EqAt A s u v (eqV y x):=by
 cases y with
 | non=>
  cases ry
  cases x with
  | non=>cases rx;exact SeqAt.EqAt.same _
  | bl b=>cases rx;exact SeqAt.EqAt.none_bool b
  | int b=>obtain ⟨t,rfl⟩:=rx;exact SeqAt.EqAt.none_int b t
  | str b=>obtain ⟨t,rfl⟩:=rx;exact SeqAt.EqAt.none_str b t
  | _=>exact absurd (show false=true from fx) Bool.false_ne_true
 | bl a=>
  cases ry
  cases x with
  | non=>cases rx;exact SeqAt.EqAt.bool_none a
  | bl b=>cases rx;exact SeqAt.EqAt.bool_bool a b
  | int b=>obtain ⟨t,rfl⟩:=rx;exact SeqAt.EqAt.bool_int a b t
  | str b=>obtain ⟨t,rfl⟩:=rx;exact SeqAt.EqAt.bool_str a b t
  | _=>exact absurd (show false=true from fx) Bool.false_ne_true
 | int a=>
  obtain ⟨t',rfl⟩:=ry
  cases x with
  | non=>cases rx;exact SeqAt.EqAt.int_none a t'
  | bl b=>cases rx;exact SeqAt.EqAt.int_bool a t' b
  | int b=>obtain ⟨t,rfl⟩:=rx;exact SeqAt.EqAt.int_int a t' b t
  | str b=>obtain ⟨t,rfl⟩:=rx;exact SeqAt.EqAt.int_str a t' b t
  | _=>exact absurd (show false=true from fx) Bool.false_ne_true
 | str a=>
  obtain ⟨t',rfl⟩:=ry
  cases x with
  | non=>cases rx;exact SeqAt.EqAt.str_none a t'
  | bl b=>cases rx;exact SeqAt.EqAt.str_bool a t' b
  | int b=>obtain ⟨t,rfl⟩:=rx;exact SeqAt.EqAt.str_int a t' b t
  | str b=>obtain ⟨t,rfl⟩:=rx;exact SeqAt.EqAt.str_str a t' b t
  | _=>exact absurd (show false=true from fx) Bool.false_ne_true
 | _=>exact absurd (show false=true from fy) Bool.false_ne_true
theorem call_len_seq:CallR X (.builtin "len") (fun xs H Q=>∃ p ys,xs=[.ref p]/\(SqL X.K H p ys\/SqT X.K H p ys)/\Q (.int ys.length) H):=by
 intro pins s σ H xs us Q I r h
 obtain ⟨p,ys,rfl,hq,q⟩:=h
 obtain ⟨u,rfl,rx⟩:=vals1 r
 cases rx
 have hn:=line63
 rcases hq with hq | hq
 ·obtain ⟨its,r',pl,hz⟩:=I.list hq
  have hlen:=r'.length
  exact Calls.call_len_list pl.isList (by simp only [sT1]<;>lia) ⟨.int ys.length,H,I.tok _,⟨s.toks+1,by rw [sT1,hlen]⟩,q⟩
 ·obtain ⟨its,r',pl,hz⟩:=I.tuple hq
  have hlen:=r'.length
  exact len_tuple pl (by simp only [sT1]<;>lia) ⟨.int ys.length,H,I.tok _,⟨s.toks+1,by rw [sT1,hlen]⟩,q⟩
theorem call_len_str:CallR X (.builtin "len") (fun xs H Q=>∃ z,xs=[.str z]/\z.length<=sizeLine/\Q (.int z.length) H):=by
 intro pins s σ H xs us Q I r h
 obtain ⟨z,rfl,hz,q⟩:=h
 obtain ⟨u,rfl,t,rfl⟩:=vals1 r
 have hn:=line63
 exact len_str (by lia) ⟨.int z.length,H,I.tok _,⟨_,rfl⟩,q⟩
theorem call_list_of:CallR X (.type "list") (fun xs H Q=>∃ p ys,xs=[.ref p]/\(SqL X.K H p ys\/SqT X.K H p ys) /\ ∀ l,H l=none->Q (.ref l) (upd H l (.lst ys))):=by
 intro pins s σ H xs us Q I r h
 obtain ⟨p,ys,rfl,hq,q⟩:=h
 obtain ⟨u,rfl,rx⟩:=vals1 r
 cases rx
 have fin:∀ (its:List Value),Vals ys its->ys.length<=sizeLine -> ∀ (h':Heap) (c':Nat),(∀ b o',s.heap.get? b=some o'->h'.get? b=some o') ->
   h'.get? s.heap.objs.size=some {cls:=.type "list",dict:=none,data:=.seq its.toArray c',slots:= #[]}->EP X pins σ Q (.ref s.heap.objs.size) {s with heap:=h'}:=fun its r' hz h' c' kp e=>
  ⟨.ref s.heap.objs.size,_,I.laid (t':=s.toks) kp (nR1 _) (show ObjOk X.prog X.w _ h' _ (.lst ys) from ⟨hz,its,c',r',e⟩),rfl,q _ (I.hok.fresh (nR1 _))⟩
 rcases hq with hq | hq
 ·obtain ⟨its,r',pl,hz⟩:=I.list hq
  have hlen:=r'.length
  obtain ⟨o,ho,hc,n,hd⟩:=pl.isList
  exact call_list_seq p (.inl rfl) ho hc hd (fun h' c' kp e=>fin its r' hz h' c' kp e) (by simp only [sT1]<;>lia)
 ·obtain ⟨its,r',pl,hz⟩:=I.tuple hq
  have hlen:=r'.length
  obtain ⟨o,ho,hc,n,hd⟩:=pl
  exact call_list_seq p (.inr rfl) ho hc hd (fun h' c' kp e=>fin its r' hz h' c' kp e) (by simp only [sT1]<;>lia)
theorem call_tuple_of:CallR X (.type "tuple") (fun xs H Q=>∃ p ys,xs=[.ref p]/\((SqL X.K H p ys /\ ∀ l,H l=none->Q (.ref l) (upd H l (.tup ys)))\/(SqT X.K H p ys/\Q (.ref p) H))):=by
 intro pins s σ H xs us Q I r h
 obtain ⟨p,ys,rfl,h⟩:=h
 obtain ⟨u,rfl,rx⟩:=vals1 r
 cases rx
 rcases h with ⟨hq,q⟩ | ⟨hq,q⟩
 ·obtain ⟨its,r',pl,hz⟩:=I.list hq
  have hlen:=r'.length
  refine call_tuple_list pl.isList (fun h' kp=>?_) (by simp only [sT1]<;>lia)
  have I1:Inv X pins σ H {s with heap:=h'}:=I.kept (t':=s.toks) kp
  have I2:Inv X pins σ (upd H h'.objs.size (.tup ys)) {s with heap:=h'.push {cls:=.type "tuple",data:=.seq its.toArray}}:=
   I1.laid (t':=s.toks) (fun b o e=>hP1 _ e) (nR1 _) (show ObjOk X.prog X.w _ _ _ (.tup ys) from ⟨hz,its,r',IsTup.new _ _⟩)
  exact ⟨.ref h'.objs.size,_,I2,rfl,q _ (I1.hok.fresh (nR1 _))⟩
 ·obtain ⟨its,r',pl,hz⟩:=I.tuple hq
  exact call_tuple_same pl ⟨.ref p,H,I,rfl,q⟩
noncomputable def tyV (K:Fg1)(T:String)(x:V)(H:Hp):Prop:=match x with
 | .str _=>T="str"
 | .int _=>T="int"
 | .ref p=>(T="list" /\ ∃ xs,SqL K H p xs)\/(T="tuple" /\ ∃ o,K.lookup p=some o/\o.cls = .type "tuple"/\o.dict=none) \/
   (T="dict"/\((∃ kvs,H p=some (.dK kvs)) \/ ∃ kvs,H p=some (.dT kvs)))\/(T="set" /\ ∃ S n,H p=some (.set S n))
 | _=>False
theorem tyV_is {pins:List (Addr×Obj)}{σ:St}{H:Hp}{s:Shared}{T:String}{x:V}{v:Value}(I:Inv X pins σ H s)(r:RelV x v)(ty:tyV X.K T x H):
  s.TypeIs v T /\ ∀ a,v = .ref a -> ∃ ob,s.heap.get? a=some ob/\ob.dict=none:=by
 cases x with
 | str z=>
  obtain ⟨t,rfl⟩:=r
  cases (show T="str" from ty)
  exact ⟨typeIs_str s z t,fun _ e=>nomatch e⟩
 | int i=>
  obtain ⟨t,rfl⟩:=r
  cases (show T="int" from ty)
  exact ⟨typeIs_int s i t,fun _ e=>nomatch e⟩
 | ref p=>
  cases r
  rcases ty with ⟨rfl,xs,hq⟩ | ⟨rfl,o,hk,hc,hd⟩ | ⟨rfl,hk⟩ | ⟨rfl,S,n,hk⟩
  ·obtain ⟨its,_,pl,_⟩:=I.list hq
   refine ⟨pl.isList.typeIs,fun a e=>?_⟩
   cases e
   obtain ⟨o,n,e,c,hd,_⟩:=pl
   exact ⟨o,e,hd⟩
  ·refine ⟨⟨o,I.kIn p o hk,hc⟩,fun a e=>?_⟩
   cases e
   exact ⟨o,I.kIn _ o hk,hd⟩
  ·have z:∃ o,s.heap.get? p=some o/\o.ExactDict:=by
    rcases hk with ⟨kvs,hk⟩ | ⟨kvs,hk⟩
    ·obtain ⟨_,_,_,_,o,_,_,e,ex,_⟩:=I.hok p _ hk
     exact ⟨o,e,ex⟩
    ·obtain ⟨_,_,_,_,o,_,_,e,ex,_⟩:=I.hok p _ hk
     exact ⟨o,e,ex⟩
   obtain ⟨o,e,ex⟩:=z
   refine ⟨⟨o,e,ex.1⟩,fun a e2=>?_⟩
   cases e2
   exact ⟨o,e,ex.2.1⟩
  ·obtain ⟨o,_,_,_,e,ex,_⟩:=I.hok p _ hk
   refine ⟨⟨o,e,ex.1⟩,fun a e2=>?_⟩
   cases e2
   exact ⟨o,e,ex.2.1⟩
 | _=>exact False.elim ty
noncomputable def tBM (K:Fg1)(T:String)(r:V->List V->Hp->VK->Prop)(to:TE)(t:TA):TE:=fun σ H Q=>to σ H fun x H1=>tyV K T x H1/\t σ H1 fun xs H2=>r x xs H2 Q
variable {o e:Expr} {es:List Expr} {to:TE} {t:TA} {name:Str} {apos cpos:Pos} {T id:String} {r:V->List V->Hp->VK->Prop}
theorem pe_bm (pa:PlainAttrs T)(slot:Slot T name id)(hty:typeOf (.builtin id)=pure (.type "method_descriptor"))(hm:MtR X id r)(ho:PE X o to)(ha:PA X (e::es) t)
  (hbase:attributeBase o name X.env (eval o X.env)=eval o X.env:=by rfl)
  (hfew:((backTo cpos (starEach (e::es) X.env)).all (fun x=> !x.1)&&(backToKw cpos (keywordEach [] X.env)).all (fun x=>x.1.isSome)
   && decide ((e::es).length+([]:List Keyword).length+(if ([]:List Keyword).isEmpty then 0 else 1)<30))=true:=by rfl)
  (hline:(apos.endLine == cpos.line)=true:=by rfl) (hs:starEach (e::es) X.env=(false,eval e X.env)::starEach es X.env:=by rfl) (hplain:(backTo cpos (starEach es X.env)).any (·.1)=false:=by rfl):
  PE X (.Call (.Attribute o name apos) (e::es) [] cpos) (tBM X.K T r to t):=by
 intro pins s σ H Q I h
 refine wpAny_Call_method_late hbase hfew hline rfl (thn (ho pins s σ H _ I h) fun v s1 ⟨x,H1,I1,r1,ty,q1⟩=>?_)
 obtain ⟨h1,h2⟩:=tyV_is I1 r1 ty
 refine ⟨T,id,pa,slot,hty,h1,h2,?_⟩
 have hA:=ha cpos pins s1 σ H1 _ I1 q1
 rw [hs] at hA ⊢
 refine Calls.callWith_builtin (by show (false||(backTo cpos (starEach es X.env)).any (·.1))=false;rw [hplain]<;>rfl) (Calls.evalArgs_plain ?_)
 exact thn hA fun us s2 ⟨vs,H2,I2,r2,q2⟩=>hm pins s2 σ H2 x vs v us Q I2 r1 r2 q2
end
end L2
namespace L2
open PySem PySem.Spec PyProof.Rows
noncomputable def MtM (X:Cx)(id:String)(r:V->List V->Hp->VK->Prop):Prop:=
 ∀ (pins:List (Addr×Obj)) (s:Shared) (σ:St) (H:Hp) (x:V) (xs:List V) (v:Value) (us:List Value) (Q:VK),Inv X pins σ H s->RelV x v->Vals xs us->r x xs H Q ->
  wpAny (model X.prog X.w) X.A (call (.builtin id) (v::us)) (EP X pins σ Q) X.xe s
theorem Vals.one:∀ {x:V} {us:List Value},Vals [x] us -> ∃ u,us=[u]/\RelV x u:=by
 intro x us h
 cases h with
 | cons r t=>cases t;exact ⟨_,rfl,r⟩
theorem Vals.eraseIdx:∀ {xs:List V} {us:List Value} (i:Nat),Vals xs us->Vals (xs.eraseIdx i) (us.eraseIdx i)
 | _,_,_,.nil=>.nil
 | _,_,0,.cons _ t=>t
 | _,_,i+1,.cons r t=>.cons r (Vals.eraseIdx i t)
theorem Vals.rep {xs:List V}{us:List Value}(h:Vals xs us):∀ k:Nat,Vals (List.replicate k xs).flatten (List.replicate k us).flatten
 | 0=>.nil
 | k+1=>by
  rw [List.replicate_succ,List.replicate_succ,List.flatten_cons,List.flatten_cons]
  exact Vals.append h (Vals.rep h k)
theorem len_erase {α:Type}:∀ (l:List α) (i:Nat),(l.eraseIdx i).length<=l.length
 | [],_=>nR1 _
 | _::_,0=>Nat.le_succ _
 | _::r,i+1=>Nat.succ_le_succ (len_erase r i)
theorem foldl_rep (its:List Value):∀ (k:Nat) (acc:List Value),
  List.foldl (fun x1 x2=>x1++x2) acc.toArray (List.replicate k its.toArray)=(acc++(List.replicate k its).flatten).toArray
 | 0,acc=>by simp
 | k+1,acc=>by
  have e:acc.toArray++its.toArray=(acc++its).toArray:=by simp
  have e2:(acc++its)++(List.replicate k its).flatten=acc++(List.replicate (k+1) its).flatten:=by
   rw [List.replicate_succ,List.flatten_cons,List.append_assoc]
  rw [<- e2,<- foldl_rep its k (acc++its),<- e,List.replicate_succ,List.foldl_cons]
section
variable {X:Cx} {pins:List (Addr×Obj)} {σ:St} {H:Hp} {s:Shared} {l b:Addr} {xs ys zs:List V}
theorem Inv.lset {its its':List Value}{n:Nat}{f:Array Value->Array Value}{t':Nat}(I:Inv X pins σ H s)(hH:H l=some (.lst xs))
  (e:s.heap.get? l=some {cls:=.type "list",data:=.seq its.toArray n}) (hf:f its.toArray=its'.toArray) (hv:Vals ys its') (hz:ys.length<=sizeLine):
  Inv X pins σ (upd H l (.lst ys)) {s with heap:=s.heap.update l (Obj.mapSeq f),toks:=t'}:=by
 have q:=PySem.IsL.update e f
 rw [hf] at q
 refine I.write (x:=l) (e:=l) (by rw [hH];exact trivial) (.inl rfl) (fun b' u hb hu=>(Heap.get?_update_other s.heap (Obj.mapSeq f) (Ne.symm hb)).trans hu) ⟨_,q⟩ ?_
 exact ⟨hz,its',_,hv,q⟩
theorem Inv.lnew {its:List Value}{t':Nat}(I:Inv X pins σ H s)(hv:Vals ys its)(hz:ys.length<=sizeLine):
  Inv X pins σ (upd H s.heap.objs.size (.lst ys)) {s with heap:=s.heap.push {cls:=.type "list",data:=.seq its.toArray},toks:=t'}:=
 I.laid (fun _ _ q=>hP1 _ q) (nR1 _) ⟨hz,its,0,hv,hS1 _ rfl⟩
theorem Inv.fresh (I:Inv X pins σ H s):H s.heap.objs.size=none:=I.hok.fresh (nR1 _)
theorem Inv.lstM (I:Inv X pins σ H s)(hH:H l=some (.lst xs)):xs.length<=sizeLine /\ ∃ (its:List Value) (n:Nat),Vals xs its/\xs.length=its.length/\s.heap.get? l=some {cls:=.type "list",data:=.seq its.toArray n}:=by
 obtain ⟨z,its,n,r,e⟩:=I.hok l _ hH
 exact ⟨z,its,n,r,r.length,e⟩
theorem notLongL {n:Nat}(h:n<=sizeLine):Builtin.List.listTooLong n=false:=by
 unfold Builtin.List.listTooLong
 exact decide_eq_false (by lia)
end
section
variable {X:Cx}
noncomputable def rAppend:V->List V->Hp->VK->Prop:=fun x vs H Q=>∃ l xs y,x = .ref l/\vs=[y]/\H l=some (.lst xs)/\xs.length<sizeLine/\Q .non (upd H l (.lst (xs++[y])))
theorem mt_append:MtM X "list.append" rAppend:=by
 intro pins s σ H x vs v us Q I rx rv h
 obtain ⟨l,xs,y,rfl,rfl,hH,hz,q⟩:=h
 cases rx
 obtain ⟨u,rfl,ru⟩:=rv.one
 obtain ⟨z,its,n,r,hl,e⟩:=I.lstM hH
 refine call_meets F.slot_list_append ⟨_,e,rfl⟩ F.entry_list_append (F.args_list_append_2 _ _) (PySem.list_append l its.toArray n u (by rw [sT1];lia)) ⟨e,?_⟩
 refine ⟨.non,_,I.lset (its':=its++[u]) hH e (by simp) (r.append (.cons ru .nil)) ?_,rfl,q⟩
 rw [lA1,List.length_singleton]
 lia
noncomputable def rExtend:V->List V->Hp->VK->Prop:=fun x vs H Q=>∃ l b xs zs,x = .ref l/\vs=[.ref b]/\H l=some (.lst xs)/\H b=some (.lst zs)/\xs.length+zs.length<=sizeLine/\Q .non (upd H l (.lst (xs++zs)))
theorem mt_extend:MtM X "list.extend" rExtend:=by
 intro pins s σ H x vs v us Q I rx rv h
 obtain ⟨l,b,xs,zs,rfl,rfl,hH,hB,hz,q⟩:=h
 cases rx
 obtain ⟨u,rfl,ru⟩:=rv.one
 cases ru
 obtain ⟨z,its,n,r,hl,e⟩:=I.lstM hH
 obtain ⟨z2,its2,n2,r2,hl2,e2⟩:=I.lstM hB
 have hsz:its.toArray.size+its2.toArray.size<=sizeLine:=by rw [sT1,sT1];lia
 have hlong:¬ (!its.toArray.isEmpty&&Builtin.List.listTooLong (its.toArray.size+its2.toArray.size))=true:=by
  rw [notLongL hsz,Bool.and_false]
  exact Bool.false_ne_true
 refine call_meets F.slot_list_extend ⟨_,e,rfl⟩ F.entry_list_extend (F.args_list_extend_2 _ _)
  (AutoSeq1.list_extend_list_list_0 l its.toArray n b its2.toArray n2 hlong (by rw [sT1];lia) (by lia)) ⟨e,e2,?_⟩
 refine ⟨.non,_,I.lset (its':=its++its2) hH e (by simp) (r.append r2) ?_,rfl,q⟩
 rw [lA1]
 lia
noncomputable def rPopAt:V->List V->Hp->VK->Prop:=fun x vs H Q=>∃ l xs i k y,x = .ref l/\vs=[.int i]/\H l=some (.lst xs) /\ -(2^63)<=i/\i<2^63/\seqIndex? i xs.length=some k/\xs[k]? = some y/\Q y (upd H l (.lst (xs.eraseIdx k)))
theorem mt_popAt:MtM X "list.pop" rPopAt:=by
 intro pins s σ H x vs v us Q I rx rv h
 obtain ⟨l,xs,i,k,y,rfl,rfl,hH,h1,h2,hk,hy,q⟩:=h
 cases rx
 obtain ⟨u,rfl,ru⟩:=rv.one
 obtain ⟨t,rfl⟩:=ru
 obtain ⟨z,its,n,r,hl,e⟩:=I.lstM hH
 obtain ⟨w,hw,rw'⟩:=r.get hy
 refine call_meets F.slot_list_pop ⟨_,e,rfl⟩ F.entry_list_pop (F.args_list_pop_2 _ _)
  (MeetsSeq.list_pop_at l its.toArray n i t k w (fitsIndex_both h1 h2) (by rw [sT1,<- hl];exact hk) (by rw [<- aT1];exact hw) (by rw [sT1];lia)) ⟨e,?_⟩
 refine ⟨y,_,I.lset (its':=its.eraseIdx k) hH e ?_ (r.eraseIdx k) ?_,rw',q⟩
 ·show its.toArray.eraseIdxIfInBounds k=(its.eraseIdx k).toArray
  rw [List.eraseIdxIfInBounds_toArray]
 ·have:=len_erase xs k
  lia
noncomputable def rCat:R2:=fun x y H Q=>∃ l b xs zs,x = .ref l/\y = .ref b/\H l=some (.lst xs)/\H b=some (.lst zs)/\xs.length+zs.length<=sizeLine /\ ∀ p,H p=none->Q (.ref p) (upd H p (.lst (xs++zs)))
theorem op_cat:OpR X (binaryOp .Add) rCat:=by
 intro pins s σ H x y v u Q I rx ry h
 obtain ⟨l,b,xs,zs,rfl,rfl,hH,hB,hz,q⟩:=h
 cases rx
 cases ry
 obtain ⟨z,its,n,r,hl,e⟩:=I.lstM hH
 obtain ⟨z2,its2,n2,r2,hl2,e2⟩:=I.lstM hB
 refine PySem.P.add_list e e2 ?_ (by rw [sT1,sT1];lia)
 have ea:its.toArray++its2.toArray=(its++its2).toArray:=by simp
 rw [ea]
 exact ⟨.ref _,_,I.lnew (t':=s.toks) (r.append r2) (by rw [lA1];lia),rfl,q _ I.fresh⟩
noncomputable def rRep:R2:=fun x y H Q=>∃ l k xs,x = .ref l/\y = .int k/\H l=some (.lst xs) /\ -(2^63)<=k/\k<2^63/\xs.length*k.toNat<=sizeLine /\
 ∀ p,H p=none->Q (.ref p) (upd H p (.lst (List.replicate k.toNat xs).flatten))
theorem len_rep {α:Type}(xs:List α)(k:Nat):(List.replicate k xs).flatten.length=k*xs.length:=by
 induction k with
 | zero=>simp
 | succ k ih=>rw [List.replicate_succ,List.flatten_cons,lA1,ih,Nat.succ_mul,Nat.add_comm]
theorem op_rep:OpR X (binaryOp .Mult) rRep:=by
 intro pins s σ H x y v u Q I rx ry h
 obtain ⟨l,k,xs,rfl,rfl,hH,h1,h2,hz,q⟩:=h
 cases rx
 obtain ⟨t,rfl⟩:=ry
 obtain ⟨z,its,n,r,hl,e⟩:=I.lstM hH
 have hlen:its.toArray.size*k.toNat<=sizeLine:=by rw [sT1,<- hl];exact hz
 have hcap:¬ its.toArray.size*k.toNat>(2^63-1)/8:=by
  have:(sizeLine:Nat)<=(2^63-1)/8:=by decide
  lia
 have hfit:¬ (!Builtin.List.listFitsIndex k)=true:=by
  rw [fitsIndex_both h1 h2]
  exact Bool.false_ne_true
 have hlong:¬ Builtin.List.listTooLong (its.toArray.size*k.toNat)=true:=by
  rw [notLongL hlen]
  exact Bool.false_ne_true
 have hnew:List.foldl (fun x1 x2=>x1++x2) #[] (List.replicate (if its.toArray.isEmpty=true then 0 else k.toNat) its.toArray)=(List.replicate k.toNat its).flatten.toArray:=by
  have f0:∀ m:Nat,List.foldl (fun x1 x2=>x1++x2) #[] (List.replicate m its.toArray)=(List.replicate m its).flatten.toArray:=fun m=>by
   have:=foldl_rep its m []
   rw [List.nil_append] at this
   exact this
  rw [f0]
  cases its with
  | nil=>simp
  | cons a r'=>rw [if_neg (by simp)]
 refine wpAny_binaryOp_repeat_ref (T:="list") (U:="int") (by decide) ⟨_,e,rfl⟩ (fun s'=>typeIs_int s' k t) noFill_list_mul F.fills_int_mul F.slot_int_rmul repeat_list F.slot_int_index.lookup
  (call_meets F.slot_int_rmul (typeIs_int s k t) F.entry_int_rmul (F.args_int_rmul_2 _ _) (int___rmul___int_list k t l its.toArray n)
   ⟨e,rfl,⟨_,e,rfl⟩,call_meets F.slot_list_mul ⟨_,e,rfl⟩ F.entry_list_mul (F.args_list_mul_2 _ _) (AutoListH.list___mul___list_int_3 l its.toArray n k t hfit hcap hlong) ⟨e,?_⟩⟩)
 rw [hnew]
 exact ⟨.ref _,_,I.lnew (t':=s.toks) (r.rep k.toNat) (by rw [len_rep,Nat.mul_comm];exact hz),rfl,q _ I.fresh⟩
end
section
variable {prog:Program} {w:World} {A:Around} {E:Value->Shared->Prop} {s:Shared}
end
section
variable {X:Cx}
end
end L2
namespace Att
open PySem PySem.W PySem.Calls PyProof.Rows
theorem ints_of_wellAll {P:Params}{h:Heap}:∀ (ns:List Int) (vs:List Value),WellAll P h vs (ns.map WData.int)->IntsAre vs ns:=by
 intro ns
 induction ns with
 | nil=>
  intro vs w
  rw [List.map_nil] at w
  cases w
  exact .nil
 | cons n ns ih=>
  intro vs w
  rw [mP1] at w
  cases w with
  | cons a b=>
   cases a
   exact .cons _ _ (ih _ b)
theorem script_of {l:OpenLaw}{n:Nat}(hn:l.most=some n){P:Params}{h:Heap}{args:List WData}{vals:List Value}
  (hpre:l.row.toRowW.claim.pre args=true) (hwl:WellAll P h vals args):
  ∃ a vs ns,vals=[Value.ref a]/\args=[WData.list (ns.map WData.int)]/\h.get? a=some {cls:=.type "list",data:=.seq vs.toArray}/\IntsAre vs ns/\ns.length<=n:=by
 have hsh:WShape.hasAll [] args [.list .int]=true:=(pre_splitW hpre).1
 have hc:l.pre.holds [] {args:=args}=true:=(pre_splitW hpre).2
 obtain ⟨d,r,rfl,h1,h2⟩:=hasAllW_cons hsh
 obtain rfl:=hasAllW_nil h2
 obtain ⟨xs,rfl,h3⟩:=hasW_list h1
 obtain ⟨ns,rfl⟩:=items_int h3
 have hlen:ns.length<=n:=by
  unfold OpenLaw.pre at hc
  have h4:(WTm.not (.lt (.lit (.int (n:Int))) (.len (.arg 0)))).holds [] {args:=[.list (ns.map .int)]}=true:=by
   have h4:=(holds_andW hc).1
   rw [hn] at h4
   exact h4
  have h5:=condW_of h4 (w_not (w_lt w_lit (w_len_list (w_arg rfl))))
  rw [lM1] at h5
  refine Nat.le_of_not_lt fun q=>?_
  have q':(n:Int)<((ns.length:Nat):Int):=by omega
  first
   | (rw [decide_eq_true q'] at h5;exact absurd h5 (by decide))
   | (simp at h5;omega)
 cases hwl with
 | cons w1 w2=>
  cases w2
  cases w1 with
  | list ho hall=>exact ⟨_,_,ns,rfl,rfl,ho,ints_of_wellAll ns _ hall,hlen⟩
theorem post_true (l:OpenLaw)(args:List WData):l.row.toRowW.claim.post args (.bool true) args=true:=
 postW_of (r:=l.row.toRowW) (X:=(true == true))
  (show WShape.has [] (.bool true) .bool=true by first | rfl | decide | simp [WShape.has,WShape.arms,WShape.armsAll])
  (show (WTm.eq .res (.lit (.bool true))).value [] {args:=args,res:=some (.bool true),after:=args}=some (.bool (true == true)) from w_eq_bool (w_res rfl) w_lit) rfl
theorem attach_call {l:OpenLaw}{n:Nat}{q:Program}{loose:List Str}{XP:(Str->Option Value)->Heap->Prop}{YP:World->Heap->Prop}{d:DefRec}
  (hn:l.most=some n) (hdf:d.params.defaults=[])
  (call:∀ (w:World) (s₀ s₁:Shared) (mg mb:Str->Option Value) (fa:Addr) (o:Obj) (pm cd doc:Value) (a:Addr) (vs:List Value) (ns:List Int),
   Ground q loose [] XP w s₀ mg mb s₁.heap->YP w s₁.heap ->
   s₁.heap.get? fa=some o->o.data = .func (docDef d.name d.params d.body d.scope pm cd doc)->s₁.heap.CodeRec cd d.name->mg d.name=some (.ref fa) ->
   s₁.heap.get? a=some {cls:=.type "list",data:=.seq vs.toArray}->IntsAre vs ns->ns.length<=n->s₁.gens = #[] ->
   codeAny (model l.prog w) callerA (.call (.ref fa) ⟨[.ref a],[]⟩) (fun r s'=>r = .ok (.ret (.bool true))/\OldK s₁.heap s'.heap/\s'.os=s₁.os/\AllBare s'.gens) s₁):
  WalkO q loose XP YP l.row.toRowW d [] (fun f vs=>PySem.call f vs):=by
 intro w s₀ s₁ mg mb G Y fa o pm cd doc dV kV ho hd hcd hD hmg hg args vals as hpre hlay hrd hwl hlo
 obtain rfl:dV = .none:=Dflts.none hD hdf
 obtain rfl:kV = .none:=Dflts.noKw hD
 obtain ⟨a,vs,ns,rfl,rfl,hobj,hints,hlen⟩:=script_of hn hpre hwl
 refine enter_call (codeAny_mono (call w s₀ s₁ mg mb fa o pm cd doc a vs ns G Y ho (fd_plain hd) hcd hmg hobj hints hlen hg) fun r s' hq=>?_)
 obtain ⟨rfl,h2,h3,h4⟩:=hq
 exact ⟨.inl ⟨.bool true,.bool true,[],rfl,fun _=>rfl,.bool true,post_true l _,fun _=>⟨List.Pairwise.nil,fun _ hm=>(nomatch hm)⟩⟩,h2,h3,h4⟩
section
variable {prog:Program} {w:World} {A:Around} {E:Value->Shared->Prop} {s:Shared} {K:Frag}
end
end Att
namespace L2
open PySem PySem.Spec PyProof.Rows
theorem vals_ints:∀ {vs:List Value} {ns:List Int},IntsAre vs ns->Vals (ns.map V.int) vs:=by
 intro vs ns h
 induction h with
 | nil=>exact .nil
 | cons n t h ih=>exact .cons ⟨t,rfl⟩ ih
noncomputable def Only (H:Hp):Prop:=∀ b,H b=none \/ ∃ o xs,H b=some (.frz o (.lst xs))
theorem law_call {P:Program}{w:World}{K:Fg1}{mg mb:Str->Option Value}{CX:CXT}{k:Nat}{fa a:Addr}{fd:FuncData}{x:Str}{sp:Sp}{s₁:Shared}{vs:List Value}{ns:List Int}
  (KX:K.In s₁.heap) (hns:s₁.heap.Ns mainGlobals mg) (hb:s₁.heap.Ns builtinsNs mb) (hbb:∀ x:Str,x≠"__name__"->mb x=bootBuiltins x) (hlim:s₁.heap.NoLimit) (hg:s₁.gens = #[])
  (ha:s₁.heap.get? a=some {cls:=.type "list",data:=.seq vs.toArray}) (hi:IntsAre vs ns) (hl:ns.length<=sizeLine) (hr:Room k callerA)
  (F:∀ base:Heap,K.In base->base.Ns mainGlobals mg->FnOk P w K mg base CX k fa fd [x] sp) (hbind:∀ (s:Shared) (u:Value),BindsTo s fd ⟨[u],[]⟩ [(x,u)])
  (hsp:∀ H:Hp,Only H->SqL K H a (ns.map V.int)->sp [.ref a] H (fun v _=>v = .bl true) fun _ _ _=>False)
  (hCX:∀ H e s',CX [] H s₁ (fun _ _ _=>False) e s'->False):
  codeAny (model P w) callerA (.call (.ref fa) ⟨[.ref a],[]⟩) (fun r s'=>r = .ok (.ret (.bool true))/\OldK s₁.heap s'.heap/\s'.os=s₁.os/\AllBare s'.gens) s₁:=by
 have rv:=vals_ints hi
 have lenV:=hi.length
 -- from an abstract heap in which nothing but the script may be tracked
 have core:∀ H:Hp,Only H->SqL K H a (ns.map V.int)->HOk P w H s₁.heap->(∀ b,H b≠none->b=a)->(H a≠none->K.lookup a=none) ->
   codeAny (model P w) callerA (.call (.ref fa) ⟨[.ref a],[]⟩) (fun r s'=>r = .ok (.ret (.bool true))/\OldK s₁.heap s'.heap/\s'.os=s₁.os/\AllBare s'.gens) s₁:=by
  intro H hO hS hok hA hK
  have base_of:∀ {b:Addr} {o:Obj},s₁.heap.get? b=some o->H b=none->(hidT s₁.heap H).get? b=some o:=fun e n=>hidT_get e n
  have noA:∀ {b:Addr} {o:Obj} {es:Array DictEntry} {ep:Nat},s₁.heap.get? b=some o->o.data = .dict es ep->H b=none:=fun {b o es ep} e d=>by
   cases q:H b with
   | none=>rfl
   | some u=>
    have e':b=a:=hA b (by rw [q];simp)
    subst e'
    rw [ha] at e;cases e
    have d':Data.seq vs.toArray _=Data.dict es ep:=d
    cases d'
  have nsK:∀ {b:Addr} {m:Str->Option Value},s₁.heap.Ns b m->(hidT s₁.heap H).Ns b m:=fun {b m} ⟨o,es,ep,e,d,r⟩=>⟨o,es,ep,base_of e (noA e d),d,r⟩
  have hKb:K.In (hidT s₁.heap H):=fun b o e=>base_of (KX b o e) (by
   cases q:H b with
   | none=>rfl
   | some u=>
    have e':b=a:=hA b (by rw [q];simp)
    subst e'
    rw [hK (by rw [q];simp)] at e;cases e)
  have hM:Mod K mg (hidT s₁.heap H):=⟨hKb,nsK hns,⟨mb,nsK hb,hbb⟩,let ⟨mc,h1,h2⟩:=hlim;⟨mc,nsK h1,h2⟩⟩
  have e0:Env0 P w K mg (hidT s₁.heap H) callerA [] s₁ H:=⟨rfl,hM,fun b o e=>of_hidT e,Nat.le_of_eq (hidT_size _ _),trivial,fun b hb=>absurd (show b∈([]:List Addr) from hb) (by simp),hok,.of_eq hg⟩
  refine codeAny_mono ((F _ hKb (nsK hns)).run callerA [] s₁ H ⟨[.ref a],[]⟩ [.ref a] [.ref a] _ _ hr e0 (hbind s₁ (.ref a)) (.cons rfl .nil) (hsp H hO hS)) fun r s' h=>?_
  cases r with
  | error e=>exact (hCX H e s' h).elim
  | ok fl=>
   cases fl with
   | next=>exact False.elim h
   | brk=>exact False.elim h
   | cont=>exact False.elim h
   | ret u=>
    obtain ⟨v,H',os,bare,un,hok',r',q⟩:=h
    have q':v = .bl true:=q
    subst q'
    obtain rfl:u=Value.bool true:=r'
    refine ⟨rfl,OldK.of_keep fun b o e=>?_,os,bare⟩
    cases q:H b with
    | none=>exact un.keep b o e q (by intro z;exact absurd (show b∈([]:List Addr) from z) (by simp)) (by simp)
    | some u=>
     rcases hO b with z | ⟨ob,xs,z⟩
     ·rw [q] at z;cases z
     ·have z2:=un.frzs b ob _ z
      obtain ⟨e1,_⟩:=hok b _ z
      obtain ⟨e2,_⟩:=hok' b _ z2
      rw [e] at e1;cases e1
      exact e2
 cases hk:K.lookup a with
 | some o=>
  -- the script is one of the module's own objects
  have e:=KX a o hk
  rw [ha] at e
  cases e
  refine core (fun _=>none) (fun _=>.inl rfl) (.inr ⟨_,vs.toArray,_,hk,rfl,rfl,rfl,by rw [sT1,lenV];exact hl,by simpa using rv⟩) (fun b u z=>by have z':(none:Option HO)=some u:=z;cases z') (fun b z=>absurd rfl z) fun z=>absurd rfl z
 | none=>
  refine core (fun b=>if b=a then some (.frz {cls:=.type "list",data:=.seq vs.toArray} (.lst (ns.map V.int))) else none) (fun b=>?_) (.inl (.inr ⟨{cls:=.type "list",data:=.seq vs.toArray},if_pos rfl⟩)) (fun b u z=>?_) (fun b z=>?_) fun _=>hk
  ·by_cases hb:b=a
   ·exact .inr ⟨_,_,if_pos hb⟩
   ·exact .inl (if_neg hb)
  ·by_cases hb:b=a
   ·have z':=(if_pos hb).symm.trans z
    cases z'
    subst hb
    exact ⟨ha,by rw [lM1];exact hl,vs,_,rv,ha⟩
   ·have z':=(if_neg hb).symm.trans z
    cases z'
  ·by_cases hb:b=a
   ·exact hb
   ·exact absurd (if_neg hb) z
end L2
namespace L2
open PySem PySem.Spec PyProof.Rows
theorem walk_of {l:PySem.W.OpenLaw}{n k:Nat}{q:Program}{loose:List Str}{XP:(Str->Option Value)->Heap->Prop}{YP:World->Heap->Prop}{d:DefRec}{K:Params->Fg1}{CX:World->CXT}{sp:World->Sp}{x:Str}
  (hn:l.most=some n) (hn2:n<=sizeLine) (hdf:d.params.defaults=[]) (hr:Room k callerA)
  (hY:∀ (w:World) (h:Heap),YP w h->(K w.params).In h)
  (F:∀ (w:World) (mg:Str->Option Value) (fa:Addr) (h:Heap),(K w.params).In h->h.Ns mainGlobals mg->mg d.name=some (.ref fa) ->
   ∃ fd:FuncData,(∀ (s:Shared) (u:Value),BindsTo s fd ⟨[u],[]⟩ [(x,u)]) /\
    ∀ base:Heap,(K w.params).In base->base.Ns mainGlobals mg->FnOk l.prog w (K w.params) mg base (CX w) k fa fd [x] (sp w))
  (hsp:∀ (w:World) (H:Hp) (a:Addr) (ns:List Int),ns.length<=n->Only H->SqL (K w.params) H a (ns.map V.int)->sp w [.ref a] H (fun v _=>v = .bl true) fun _ _ _=>False)
  (hCX:∀ (w:World) (H:Hp) (s:Shared) (e:Value) (s':Shared),CX w [] H s (fun _ _ _=>False) e s'->False):
  PySem.W.WalkO q loose XP YP l.row.toRowW d [] (fun f vs=>PySem.call f vs):=by
 refine Att.attach_call hn hdf fun w s₀ s₁ mg mb fa o pm cd doc a vs ns G Y ho hd hcd hmg hobj hints hlen hg=>?_
 have KX:=hY w _ Y
 obtain ⟨fd,hb,hF⟩:=F w mg fa _ KX G.T.g hmg
 exact law_call KX G.T.g G.T.b G.T.builtins G.T.nolimit hg hobj hints (Nat.le_trans hlen hn2) hr hF hb (fun H hO hS=>hsp w H a ns hlen hO hS) fun H e s'=>hCX w H s₁ e s'
end L2
namespace L2
open PySem PySem.Spec PyProof.Rows
noncomputable def defArgs (s:Stmt):Arguments:=match s with
 | .FunctionDef _ a _ _ _ _ _ _ _ _=>a
 | _=>{posonlyargs:=[],args:=[],vararg:=none,kwonlyargs:=[],kw_defaults:=[],kwarg:=none,defaults:=[]}
noncomputable def defBody (s:Stmt):List Stmt:=match s with
 | .FunctionDef _ _ b _ _ _ _ _ _ _=>b
 | _=>[]
noncomputable def defScope (s:Stmt):Scope:=match s with
 | .FunctionDef _ _ _ _ _ _ sc _ _ _=>sc
 | _=>{kind:=.function,names:=[],isGenerator:=false,isCoroutine:=false}
noncomputable abbrev CX0:CXT:=fun _ _ _ _ _ _=>False
noncomputable abbrev E0:XK:=fun _ _ _=>False
theorem pass0 {X:Cx}:Passes CX0 X E0:=fun _ _ _ _ _ _ _ h=>h.elim
structure Fun (K:Fg1)(x qual:Str)(st:Stmt)(f:Addr)(fd:FuncData):Prop where
 ex:∃ (oc:Value) (od:Option Addr) (kV doc pm:Value) (an:Option Addr) (cdv ct:Value) (osl:Array (Option Value)),
  fd=wF1 x qual (defArgs st) (defBody st) (defScope st) .none kV doc pm an cdv ct/\K.lookup f=some ⟨oc,od,.func fd,osl⟩/\wC1 K cdv qual=true
 kp:wK1 K (.ref f)=true
section
variable {P:Program} {w:World} {K:Fg1} {mg:Str->Option Value} {base:Heap}
theorem Fun.ok {x qual:Str}{st:Stmt}{f:Addr}{fd:FuncData}{N ps:List Str}{k:Nat}{sp:Sp}(F:Fun K x qual st f fd)(S:FnScope N ps (defScope st))(len:∀ vs H Q E,sp vs H Q E->vs.length=ps.length)
  (hbody:∀ (cdv:Value) (A:Around) (outer:List Env) (s:Shared) (H:Hp) (vs:List V) (Q:VK) (E:XK),Room k (A.deeper (envOfC qual (defScope st) s.heap.objs.size f cdv))->sp vs H Q E ->
   ∃ t,PSs (cxOf CX0 P w K mg base N qual (defScope st) f cdv A outer s H E).nox (defBody st) t/\t {nx:=fun _ H'=>Q .non H',rt:=Q} (start N vs) H):FnOk P w K mg base CX0 (k+1) f fd ps sp:=by
 obtain ⟨oc,od,kV,doc,pm,an,cdv,ct,osl,rfl,lk,hcd⟩:=F.ex
 refine fn_of lk hcd S len fun A outer s H vs Q E hr hsp=>?_
 obtain ⟨t,h,q⟩:=hbody cdv A outer s H vs Q E hr hsp
 exact ⟨t,h.nox,q⟩
theorem Fun.binds {x qual:Str}{st:Stmt}{f:Addr}{fd:FuncData}{ps:List Str}(F:Fun K x qual st f fd)
  (h:∀ (kV doc pm:Value) (an:Option Addr) (cdv ct:Value) (us:List Value),us.length=ps.length->bindArgs (wF1 x qual (defArgs st) (defBody st) (defScope st) .none kV doc pm an cdv ct) ⟨us,[]⟩=pure (ps.zip us)):Binds K fd ps []:=by
 obtain ⟨oc,od,kV,doc,pm,an,cdv,ct,osl,rfl,lk,hcd⟩:=F.ex
 exact .all (h kV doc pm an cdv ct)
theorem fun_mk {x qual:Str}{st:Stmt}{f:Addr}{oc:Value}{od an:Option Addr}{osl:Array (Option Value)}{kV doc pm cdv ct:Value}(l:K.lookup f=some ⟨oc,od,.func (wF1 x qual (defArgs st) (defBody st) (defScope st) .none kV doc pm an cdv ct),osl⟩)
  (c:wC1 K cdv qual=true) (k:wK1 K (.ref f)=true):Fun K x qual st f (wF1 x qual (defArgs st) (defBody st) (defScope st) .none kV doc pm an cdv ct):=⟨⟨oc,od,kV,doc,pm,an,cdv,ct,osl,rfl,l,c⟩,k⟩
end
section
variable {X:Cx}
end
end L2
end
section
namespace L2
open PySem PySem.Spec PyProof.Rows
section
variable {κ:Type} [DecidableEq κ]
noncomputable def valV (kvs:List (κ×V))(k:κ):Option V:=(kvs.find? fun kv=>decide (kv.1=k)).map (·.2)
noncomputable def putK (kvs:List (κ×V))(k:κ)(v:V):List (κ×V):=
 if (kvs.any fun kv=>decide (kv.1=k))=true then kvs.map (fun kv=>if kv.1=k then (kv.1,v) else kv) else kvs++[(k,v)]
theorem valV_pos {p:κ×V}{r:List (κ×V)}{k:κ}(e:p.1=k):valV (p::r) k=some p.2:=by simp [valV,List.find?_cons,e]
theorem valV_neg {p:κ×V}{r:List (κ×V)}{k:κ}(e:¬ p.1=k):valV (p::r) k=valV r k:=by simp [valV,List.find?_cons,e]
theorem valV_any (k:κ):∀ kvs:List (κ×V),(kvs.any fun kv=>decide (kv.1=k))=(valV kvs k).isSome
 | []=>rfl
 | p::r=>by
  rw [List.any_cons]
  by_cases e:p.1=k
  ·simp only [valV_pos e,decide_eq_true e,Bool.true_or,Option.isSome_some]
  ·rw [valV_neg e,decide_eq_false e,Bool.false_or];exact valV_any k r
theorem length_putK (kvs:List (κ×V))(k:κ)(v:V):(putK kvs k v).length<=kvs.length+1:=by
 unfold putK
 split
 ·rw [lM1];lia
 ·rw [lA1,lC1,List.length_nil];lia
theorem RelO.isSome_eq {o:Option V}{u:Option Value}(r:RelO o u):o.isSome=u.isSome:=by
 cases o with
 | none=>cases u with
  | none=>rfl
  | some _=>exact (show False from r).elim
 | some _=>cases u with
  | none=>exact (show False from r).elim
  | some _=>rfl
theorem RelO.getD {o:Option V}{u:Option Value}{d:V}{d':Value}(r:RelO o u)(rd:RelV d d'):RelV (o.getD d) (u.getD d'):=by
 cases o with
 | none=>cases u with
  | none=>exact rd
  | some _=>exact (show False from r).elim
 | some _=>cases u with
  | none=>exact (show False from r).elim
  | some _=>exact r
theorem KV.val {kvs:List (κ×V)}{vs:List (κ×Value)}(r:KV kvs vs)(k:κ):RelO (valV kvs k) (valueAt vs k):=by
 unfold KV at r
 induction r with
 | nil=>exact True.intro
 | @cons p q ps qs h t ih=>
  obtain ⟨h1,h2⟩:=h
  by_cases e:p.1=k
  ·have e':q.1=k:=h1.symm.trans e
   have b:valueAt (q::qs) k=some q.2:=by simp [valueAt,List.find?_cons,e']
   rw [valV_pos e,b];exact h2
  ·have e':¬ q.1=k:=fun z=>e (h1.trans z)
   have b:valueAt (q::qs) k=valueAt qs k:=by simp [valueAt,List.find?_cons,e']
   rw [valV_neg e,b];exact ih
theorem KV.any {kvs:List (κ×V)}{vs:List (κ×Value)}(r:KV kvs vs)(k:κ):(kvs.any fun kv=>decide (kv.1=k))=vs.any fun kv=>decide (kv.1=k):=by
 unfold KV at r
 induction r with
 | nil=>rfl
 | cons h t ih=>rw [List.any_cons,List.any_cons,ih,h.1]
theorem KV.repl {kvs:List (κ×V)}{vs:List (κ×Value)}(r:KV kvs vs)(k:κ){y:V}{u:Value}(ry:RelV y u):
  KV (kvs.map fun kv=>if kv.1=k then (kv.1,y) else kv) (vs.map fun kv=>if kv.1=k then (kv.1,u) else kv):=by
 unfold KV at r ⊢
 induction r with
 | nil=>exact .nil
 | @cons p q ps qs h t ih=>
  rw [mP1,mP1]
  refine .cons ?_ ih
  obtain ⟨h1,h2⟩:=h
  by_cases e:p.1=k
  ·rw [if_pos e,if_pos (h1.symm.trans e)];exact ⟨h1,ry⟩
  ·rw [if_neg e,if_neg (fun z=>e (h1.trans z))];exact ⟨h1,h2⟩
theorem KV.put {kvs:List (κ×V)}{vs:List (κ×Value)}(r:KV kvs vs)(k:κ){y:V}{u:Value}(ry:RelV y u):KV (putK kvs k y) (stored vs k u):=by
 unfold putK stored
 rw [r.any k]
 by_cases e:(vs.any fun kv=>decide (kv.1=k))=true
 ·rw [if_pos e,if_pos e];exact r.repl k ry
 ·rw [if_neg e,if_neg e];exact Paired.snoc r ⟨rfl,ry⟩
theorem KV.keys {kvs:List (κ×V)}{vs:List (κ×Value)}(r:KV kvs vs):kvs.map (·.1)=vs.map (·.1):=by
 unfold KV at r
 induction r with
 | nil=>rfl
 | cons h t ih=>rw [mP1,mP1,ih,h.1]
theorem KV.length {kvs:List (κ×V)}{vs:List (κ×Value)}(r:KV kvs vs):kvs.length=vs.length:=Paired.length r
end
theorem kV_is {P:Program}{w:World}{k:Key}{u:Value}(r:RelV (kV k) u):(mixKind P w).is k u=true:=by
 cases k with
 | inl i=>obtain ⟨t,e⟩:=(show ∃ t,u=Value.int i t from r);subst e;exact mixKind_int P w i t
 | inr x=>obtain ⟨t,e⟩:=(show ∃ t,u=Value.str x t from r);subst e;exact mixKind_str P w x t
theorem items_are {P:Program}{w:World}:∀ {ks:List Key} {us:List Value},Vals (ks.map kV) us->ItemsAre (mixKind P w) ks us
 | [],_,r=>by rw [List.map_nil] at r;cases r;exact .nil
 | k::ks,_,r=>by
  rw [mP1] at r
  cases r with
  | cons h t=>exact .cons (kV_is h) (items_are t)
noncomputable abbrev KT (H:Hp):List (List Key×V)->List (List Key×Addr×Value)->Prop:=Paired fun p q=>p.1=q.1/\H q.2.1=some (.tup (p.1.map kV))/\RelV p.2 q.2.2
theorem KT.val {H:Hp}{kvs:List (List Key×V)}{xs:List (List Key×Addr×Value)}(r:KT H kvs xs)(k:List Key):RelO (valV kvs k) ((atKey xs k).map (·.2)):=by
 induction r with
 | nil=>exact True.intro
 | @cons p q ps qs h t ih=>
  obtain ⟨h1,_,h2⟩:=h
  by_cases e:p.1=k
  ·have e':q.1=k:=h1.symm.trans e
   have b:atKey (q::qs) k=some q.2:=by simp [atKey,List.find?_cons,e']
   rw [valV_pos e,b];exact h2
  ·have e':¬ q.1=k:=fun z=>e (h1.trans z)
   have b:atKey (q::qs) k=atKey qs k:=by simp [atKey,List.find?_cons,e']
   rw [valV_neg e,b];exact ih
theorem KT.repl {H:Hp}{kvs:List (List Key×V)}{xs:List (List Key×Addr×Value)}(r:KT H kvs xs)(k:List Key){y:V}{u:Value}(ry:RelV y u):
  KT H (kvs.map fun kv=>if kv.1=k then (kv.1,y) else kv) (xs.map (putAt k u)):=by
 induction r with
 | nil=>exact .nil
 | @cons p q ps qs h t ih=>
  rw [mP1,mP1]
  refine .cons ?_ ih
  obtain ⟨h1,h2,h3⟩:=h
  unfold putAt
  by_cases e:p.1=k
  ·rw [if_pos e,if_pos (h1.symm.trans e)];exact ⟨h1,h2,ry⟩
  ·rw [if_neg e,if_neg (fun z=>e (h1.trans z))];exact ⟨h1,h2,h3⟩
theorem KT.put {H:Hp}{kvs:List (List Key×V)}{xs:List (List Key×Addr×Value)}(r:KT H kvs xs)(k:List Key){b:Addr}{y:V}{u:Value}(hb:H b=some (.tup (k.map kV)))(ry:RelV y u):
  KT H (putK kvs k y) (storedH xs k b u):=by
 have e:(kvs.any fun kv=>decide (kv.1=k))=(atKey xs k).isSome:=by
  rw [valV_any,(r.val k).isSome_eq,Option.isSome_map]
 unfold putK storedH
 rw [e]
 by_cases q:(atKey xs k).isSome=true
 ·rw [if_pos q,if_pos q];exact r.repl k ry
 ·rw [if_neg q,if_neg q];exact Paired.snoc r ⟨rfl,hb,ry⟩
theorem KT.keeps {H H':Hp}{kvs:List (List Key×V)}{xs:List (List Key×Addr×Value)}(r:KT H kvs xs)(ht:∀ b ys,H b=some (.tup ys)->H' b=some (.tup ys)):KT H' kvs xs:=
 Paired.mapP r fun _ _ z=>⟨z.1,ht _ _ z.2.1,z.2.2⟩
section
variable {P:Program} {w:World} {H:Hp} {h:Heap} {a:Addr}
theorem rd_of {u:HO}(ok:HOk P w H h)(e:Rd H a u):ObjOk P w H h a u:=e.ok ok
theorem dk_rd {kvs:List (Key×V)}(ok:HOk P w H h)(e:Rd H a (.dK kvs)):kvs.length<=sizeLine/\(a == sysModules)=false /\ ∃ vs,KV kvs vs/\h.DictOf (mixKind P w) a vs:=
 show ObjOk P w H h a (.dK kvs) from rd_of ok e
theorem dk_of {kvs:List (Key×V)}(ok:HOk P w H h)(e:H a=some (.dK kvs)):kvs.length<=sizeLine/\(a == sysModules)=false /\ ∃ vs,KV kvs vs/\h.DictOf (mixKind P w) a vs:=dk_rd ok (.inl e)
theorem key_of {ks:List Key}(ok:HOk P w H h)(e:H a=some (.tup (ks.map kV))):(tupleKind (mixKind P w)).is h ks a:=by
 obtain ⟨_,its,r,o,h1,h2,n,h3⟩:=(show ObjOk P w H h a (.tup (ks.map kV)) from ok a _ e)
 exact ⟨o,its.toArray,n,h1,h2,h3,by simpa using items_are r⟩
theorem dt_rd {kvs:List (List Key×V)}(ok:HOk P w H h)(e:Rd H a (.dT kvs)):kvs.length<=sizeLine/\(a == sysModules)=false /\
  ∃ xs,KT H kvs xs/\h.DictOfH (tupleKind (mixKind P w)) a xs:=by
 obtain ⟨z,y,xs,r,o,es,ep,h1,h2,h3,h4,h5⟩:=(show ObjOk P w H h a (.dT kvs) from rd_of ok e)
 refine ⟨z,y,xs,r,o,es,ep,h1,h2,h3,h4,fun x hx=>?_,h5⟩
 have all:∀ {l:List (List Key×V)} {m:List (List Key×Addr×Value)},KT H l m -> ∀ x∈m,(tupleKind (mixKind P w)).is h x.1 x.2.1:=by
  intro l m q
  induction q with
  | nil=>intro x hx;exact nomatch hx
  | @cons p q ps qs hq t ih=>
   intro x hx
   rcases List.mem_cons.mp hx with e | hx
   ·subst e
    exact key_of ok (by rw [<- hq.1];exact hq.2.1)
   ·exact ih x hx
 exact all r x hx
theorem dt_of {kvs:List (List Key×V)}(ok:HOk P w H h)(e:H a=some (.dT kvs)):kvs.length<=sizeLine/\(a == sysModules)=false /\
  ∃ xs,KT H kvs xs/\h.DictOfH (tupleKind (mixKind P w)) a xs:=dt_rd ok (.inl e)
end
noncomputable def DGet (H:Hp)(a:Addr)(y:V)(r:Option V):Prop:=
 (∃ kvs k,Rd H a (.dK kvs)/\y=kV k/\r=valV kvs k) \/ ∃ kvs k b,Rd H a (.dT kvs)/\y = .ref b/\H b=some (.tup (k.map kV))/\r=valV kvs k
noncomputable def DPut (H:Hp)(a:Addr)(y v:V)(H':Hp):Prop:=
 (∃ kvs k,H a=some (.dK kvs)/\y=kV k/\kvs.length<sizeLine/\H'=upd H a (.dK (putK kvs k v))) \/
 ∃ kvs k b,H a=some (.dT kvs)/\y = .ref b/\H b=some (.tup (k.map kV))/\kvs.length<sizeLine/\H'=upd H a (.dT (putK kvs k v))
theorem DGet.k {H:Hp}{a:Addr}{kvs:List (Key×V)}{k:Key}(e:H a=some (.dK kvs)):DGet H a (kV k) (valV kvs k):=.inl ⟨kvs,k,.inl e,rfl,rfl⟩
theorem DGet.t {H:Hp}{a b:Addr}{kvs:List (List Key×V)}{k:List Key}(e:H a=some (.dT kvs))(eb:H b=some (.tup (k.map kV))):DGet H a (.ref b) (valV kvs k):=.inr ⟨kvs,k,b,.inl e,rfl,eb,rfl⟩
theorem DPut.k {H:Hp}{a:Addr}{kvs:List (Key×V)}{k:Key}{v:V}(e:H a=some (.dK kvs))(hl:kvs.length<sizeLine):DPut H a (kV k) v (upd H a (.dK (putK kvs k v))):=.inl ⟨kvs,k,e,rfl,hl,rfl⟩
theorem DPut.t {H:Hp}{a b:Addr}{kvs:List (List Key×V)}{k:List Key}{v:V}(e:H a=some (.dT kvs))(eb:H b=some (.tup (k.map kV)))(hl:kvs.length<sizeLine):
  DPut H a (.ref b) v (upd H a (.dT (putK kvs k v))):=.inr ⟨kvs,k,b,e,rfl,eb,hl,rfl⟩
section
variable {X:Cx} {pins:List (Addr×Obj)} {σ:St} {H:Hp} {s:Shared} {a:Addr} {y v:V} {u r:Value} {o:Option V} {A:Around} {E:Value->Shared->Prop}
theorem Inv.big (I:Inv X pins σ H s):sysModules<s.heap.objs.size:=by
 have h:mainGlobals<s.heap.objs.size:=(I.mod.glob.keeps I.bk).lt
 exact Nat.lt_trans (by decide) h
theorem d_getItem {Q:Value->Shared->Prop}(hu:A.units+1<cLine)(I:Inv X pins σ H s)(g:DGet H a y (some v))(ry:RelV y u)(h:∀ w' s',Inv X pins σ H s'->RelV v w'->Q w' s'):
  wpAny (model X.prog X.w) A (getItem (.ref a) u) Q E s:=by
 rcases g with ⟨kvs,k,e,ey,l⟩ | ⟨kvs,k,b,e,ey,eb,l⟩
 ·subst ey
  obtain ⟨z,hd,vs,rel,dd⟩:=dk_rd I.hok e
  obtain ⟨w',hw,rw'⟩:=RelO.some_of (v:=v) (o:=valueAt vs k) (by rw [l];exact rel.val k)
  exact wpAny_getItem_of (kV_is ry) dd.mapOf hw (h w' _ (I.tok _) rw')
 ·subst ey
  cases (show u=Value.ref b from ry)
  obtain ⟨z,hd,xs,rel,dd⟩:=dt_rd I.hok e
  obtain ⟨w',hw,rw'⟩:=RelO.some_of (v:=v) (o:=(atKey xs k).map (·.2)) (by rw [l];exact rel.val k)
  obtain ⟨p,hp,hp2⟩:=oM1.mp hw
  refine wpAny_getItem_heap (tupleKind_room_in1 hu) (key_of I.hok eb) dd hp ?_
  rw [hp2]
  exact h w' _ (I.tok _) rw'
theorem d_notIn {Q:Value->Shared->Prop}(hu:A.units+1<cLine)(I:Inv X pins σ H s)(g:DGet H a y o)(ry:RelV y u)(h:∀ s',Inv X pins σ H s'->Q (.bool (!o.isSome)) s'):
  wpAny (model X.prog X.w) A (compareOp .NotIn u (.ref a)) Q E s:=by
 rcases g with ⟨kvs,k,e,ey,l⟩ | ⟨kvs,k,b,e,ey,eb,l⟩
 ·subst ey
  obtain ⟨z,hd,vs,rel,dd⟩:=dk_rd I.hok e
  refine wpAny_notIn_of (kV_is ry) hd dd.mapOf ?_
  rw [<- (rel.val k).isSome_eq,<- l]
  exact h _ (I.tok _)
 ·subst ey
  cases (show u=Value.ref b from ry)
  obtain ⟨z,hd,xs,rel,dd⟩:=dt_rd I.hok e
  refine wpAny_notIn_heap (tupleKind_room_in1 hu) (key_of I.hok eb) hd dd ?_
  have q:=(rel.val k).isSome_eq
  rw [Option.isSome_map] at q
  rw [<- q,<- l]
  exact h _ (I.tok _)
theorem d_write {h':Heap}{t':Nat}{ob:HO}(I:Inv X pins σ H s)(mu:Mut (H a))(hs:Heap.SameBut a s.heap h')(he:∃ q,h'.get? a=some q)(new:ObjOk X.prog X.w (upd H a ob) h' a ob):
  Inv X pins σ (upd H a ob) {s with heap:=h',toks:=t'}:=
 I.write (x:=a) (e:=a) mu (.inl rfl) (fun b q hb z=>(hs.2 b hb).trans z) he new
theorem dk_new {P:Program}{w:World}{H':Hp}{h':Heap}{kvs:List (Key×V)}{vs:List (Key×Value)}(z:kvs.length<=sizeLine)(hd:(a == sysModules)=false)(rel:KV kvs vs)(dd:h'.DictOf (mixKind P w) a vs):
  ObjOk P w H' h' a (.dK kvs):=⟨z,hd,vs,rel,dd⟩
theorem d_setItem {H':Hp}{Q:Unit->Shared->Prop}(hu:A.units+1<cLine)(I:Inv X pins σ H s)(g:DPut H a y v H')(ry:RelV y u)(rv:RelV v r)(h:∀ s',Inv X pins σ H' s'->Q () s'):
  wpAny (model X.prog X.w) A (setItem (.ref a) u r) Q E s:=by
 rcases g with ⟨kvs,k,e,ey,l,eH⟩ | ⟨kvs,k,b,e,ey,eb,l,eH⟩
 ·subst ey eH
  obtain ⟨z,hd,vs,rel,dd⟩:=dk_of I.hok e
  have hz:vs.length<=sizeLine:=by rw [<- rel.length];exact z
  have hl:(putK kvs k v).length<=sizeLine:=by have:=length_putK kvs k v;lia
  refine wpAny_setItem_pairs (hsz:=hz) (kV_is ry) dd fun h' dd' hs=>h _ ?_
  have he:∃ q,h'.get? a=some q:=let ⟨q,_,_,hq,_⟩:=dd';⟨q,hq⟩
  exact d_write I (by rw [e];exact True.intro) hs he (dk_new hl hd (rel.put k rv) dd')
 ·subst ey eH
  cases (show u=Value.ref b from ry)
  obtain ⟨z,hd,xs,rel,dd⟩:=dt_of I.hok e
  have hz:xs.length<=sizeLine:=by rw [<- Paired.length rel];exact z
  have hl:(putK kvs k v).length<=sizeLine:=by have:=length_putK kvs k v;lia
  refine wpAny_setItem_heap (hsz:=hz) (tupleKind_room_in1 hu) (key_of I.hok eb) dd fun h' dd' hs=>h _ ?_
  obtain ⟨q,es,ep,hq,h2,h3,h4,_,h5⟩:=dd'
  refine d_write I (by rw [e];exact True.intro) hs ⟨q,hq⟩ ⟨hl,hd,_,(rel.put k eb rv).keeps fun c ys ec=>?_,q,es,ep,hq,h2,h3,h4,h5⟩
  rw [upd_ne (ne_of ec e (fun z=>nomatch z))]
  exact ec
end
section
variable {X:Cx} {pins:List (Addr×Obj)} {σ:St} {H:Hp} {s:Shared} {a:Addr} {kvs:List (Key×V)} {k:Key} {u:Value} {A:Around} {E:Value->Shared->Prop}
end
theorem dict_typeIs {X:Cx}{pins:List (Addr×Obj)}{σ:St}{H:Hp}{s:Shared}{a:Addr}{y:V}{o:Option V}(I:Inv X pins σ H s)(g:DGet H a y o):s.TypeIs (.ref a) "dict":=by
 rcases g with ⟨kvs,k,e,_,_⟩ | ⟨kvs,k,b,e,_,_,_⟩
 ·obtain ⟨_,_,vs,_,dd⟩:=dk_rd I.hok e
  exact dd.typeIs
 ·obtain ⟨_,_,xs,_,dd⟩:=dt_rd I.hok e
  exact dd.typeIs
section
variable {X:Cx} {o i e value:Expr} {pos pos' tpos:Pos} {td ty tv:TE}
end
theorem dk_empty {P:Program}{w:World}{H:Hp}(h:Heap)(hb:sysModules<h.objs.size):ObjOk P w H (h.push {cls:=.type "dict",data:=.dict #[]}) h.objs.size (.dK []):=
 ⟨Nat.zero_le _,beq_eq_false_iff_ne.mpr (Ne.symm (nN1 hb)),[],.nil,Heap.DictOf.new h⟩
noncomputable def tDNewK:TE:=fun _ H Q=>∀ p,H p=none->Q (.ref p) (upd H p (.dK []))
section
variable {X:Cx} {pos:Pos}
theorem pe_dnewK:PE X (.Dict [] [] pos) tDNewK:=fun pins s σ H Q I h=>
 wpAny_Dict_empty ⟨.ref s.heap.objs.size,_,I.laid (a:=s.heap.objs.size) (o:=.dK []) (t':=s.toks) (fun _ _ q=>hP1 _ q) (nR1 _) (dk_empty s.heap I.big),rfl,h _ (I.hok.fresh (nR1 _))⟩
end
noncomputable def tPairs:List (TE×TE)->St->Hp->(List (V×V)->Hp->Prop)->Prop
 | [],_,H,Q=>Q [] H
 | (tk,tv)::r,σ,H,Q=>tk σ H fun x H1=>tv σ H1 fun y H2=>tPairs r σ H2 fun ps H3=>Q ((x,y)::ps) H3
noncomputable abbrev VV:List (V×V)->List (Value×Value)->Prop:=Paired fun p q=>RelV p.1 q.1/\RelV p.2 q.2
noncomputable def PPs (X:Cx)(pos:Pos)(keys:List (Option Expr))(values:List Expr)(trs:List (TE×TE)):Prop:=
 ∀ (pins:List (Addr×Obj)) (s:Shared) (σ:St) (H:Hp) (Q:List (V×V)->Hp->Prop),Inv X pins σ H s->tPairs trs σ H Q ->
  wpAny (model X.prog X.w) X.A (evalPairs (pairTrees keys values X.env pos)) (fun vs s'=>∃ ps H',Inv X pins σ H' s'/\VV ps vs/\Q ps H') X.xe s
theorem pps_nil {X:Cx}{pos:Pos}:PPs X pos [] [] []:=fun pins s σ H Q I h=>pairTrees_nil_walk ⟨[],H,I,.nil,h⟩
theorem pps_cons {X:Cx}{pos:Pos}{k v:Expr}{ks:List (Option Expr)}{vs:List Expr}{tk tv:TE}{trs:List (TE×TE)}(hk:PE X k tk)(hv:PE X v tv)(hr:PPs X pos ks vs trs):
  PPs X pos (some k::ks) (v::vs) ((tk,tv)::trs):=fun pins s σ H Q I h=>
 pairTrees_cons_walk (thn (hk pins s σ H _ I h) fun u s1 ⟨x,H1,I1,rx,q1⟩=>thn (hv pins s1 σ H1 _ I1 q1) fun w2 s2 ⟨y,H2,I2,ry,q2⟩=>
  thn (hr pins s2 σ H2 _ I2 q2) fun ws s3 ⟨ps,H3,I3,rel,q3⟩=>⟨(x,y)::ps,H3,I3,.cons ⟨rx,ry⟩ rel,q3⟩)
noncomputable def mergeK (kvs more:List (Key×V)):List (Key×V):=more.foldl (fun acc kv=>putK acc kv.1 kv.2) kvs
theorem KV.merge:∀ {more:List (Key×V)} {rs:List (Key×Value)} {kvs:List (Key×V)} {vs:List (Key×Value)},KV more rs->KV kvs vs->KV (mergeK kvs more) (merged vs rs):=by
 intro more rs kvs vs r
 unfold KV at r
 induction r generalizing kvs vs with
 | nil=>intro q;exact q
 | @cons p q ps qs h t ih=>
  intro r0
  have e:KV (putK kvs p.1 p.2) (stored vs q.1 q.2):=by
   have:=r0.put p.1 h.2
   rw [<- h.1];exact this
  exact ih e
theorem length_mergeK:∀ (more kvs:List (Key×V)),(mergeK kvs more).length<=kvs.length+more.length
 | [],kvs=>by show kvs.length<=kvs.length+0;lia
 | p::r,kvs=>by
  have h1:=length_mergeK r (putK kvs p.1 p.2)
  have h2:=length_putK kvs p.1 p.2
  show (mergeK (putK kvs p.1 p.2) r).length<=_
  rw [lC1];lia
theorem carries_of {P:Program}{w:World}:∀ {kvs:List (Key×V)} {ws:List (Value×Value)},VV (kvs.map fun kv=>(kV kv.1,kv.2)) ws -> ∃ rs,Carries (mixKind P w) ws rs/\KV kvs rs
 | [],_,r=>by rw [List.map_nil] at r;cases r;exact ⟨[],True.intro,.nil⟩
 | p::kvs,_,r=>by
  rw [mP1] at r
  cases r with
  | @cons a b as bs h t=>
   obtain ⟨rs,c,q⟩:=carries_of (P:=P) (w:=w) t
   obtain ⟨b1,b2⟩:=b
   exact ⟨(p.1,b2)::rs,⟨kV_is h.1,rfl,c⟩,.cons ⟨rfl,h.2⟩ q⟩
noncomputable def tDisp (trs:List (TE×TE)):TE:=fun σ H Q=>∀ p,H p=none->tPairs trs σ (upd H p (.dK [])) fun ps H2=>H2 p=some (.dK []) /\ ∃ kvs:List (Key×V),ps=kvs.map (fun kv=>(kV kv.1,kv.2))/\kvs.length<=15/\Q (.ref p) (upd H2 p (.dK (mergeK [] kvs)))
theorem pe_disp {X:Cx}{pos:Pos}{keys:List (Option Expr)}{values:List Expr}{trs:List (TE×TE)}(h:PPs X pos keys values trs)(hall:keys.all (·.isSome)=true)(hl:keys.length=values.length)(h0:keys≠[])
  (h15:keys.length<=15):PE X (.Dict keys values pos) (tDisp trs):=by
 intro pins s σ H Q I q
 have hn:=I.hok.fresh (nR1 s.heap.objs.size)
 have I1:=I.laid (a:=s.heap.objs.size) (o:=.dK []) (h':=s.heap.push {cls:=.type "dict",data:=.dict #[]}) (t':=s.toks) (fun _ _ q=>hP1 _ q) (nR1 _) (dk_empty s.heap I.big)
 refine wpAny_Dict_walk (knd:=mixKind X.prog X.w) hall hl h0 h15 (thn (h pins _ σ _ _ I1 (q _ hn)) fun ws s2 ⟨ps,H2,I2,rel,e,kvs,ep,lk,q2⟩=>?_)
 subst ep
 obtain ⟨rs,c,rk⟩:=carries_of (P:=X.prog) (w:=X.w) rel
 obtain ⟨z,hd,vs0,r0,dd⟩:=dk_of I2.hok e
 cases r0
 refine ⟨rs,c,dd,fun h' dd' hs=>⟨.ref s.heap.objs.size,_,?_,rfl,q2⟩⟩
 have hz:(mergeK [] kvs).length<=sizeLine:=by
  have h1:=length_mergeK kvs []
  rw [List.length_nil] at h1
  rw [sizeLine_eq];lia
 have he:∃ q,h'.get? s.heap.objs.size=some q:=let ⟨q,_,_,hq,_⟩:=dd';⟨q,hq⟩
 exact d_write I2 (by rw [e];exact True.intro) hs he (dk_new hz hd (rk.merge .nil) dd')
structure M1 (X:Cx)(o:Expr)(m:Str)(apos:Pos)(e:Expr)(cpos:Pos):Prop where
 base:attributeBase o m X.env (eval o X.env)=eval o X.env
 few:((backTo cpos (starEach [e] X.env)).all (fun x=> !x.1)&&(backToKw cpos (keywordEach [] X.env)).all (fun x=>x.1.isSome)
  && decide (([e]:List Expr).length+([]:List Keyword).length+(if ([]:List Keyword).isEmpty then 0 else 1)<30))=true
 line:(apos.endLine == cpos.line)=true
 trees:backTo cpos (starEach [e] X.env)=[(false,eval e X.env)]
noncomputable def IsD (H:Hp)(a:Addr):Prop:=(∃ kvs,Rd H a (.dK kvs)) \/ ∃ kvs,Rd H a (.dT kvs)
theorem isD_at {X:Cx}{pins:List (Addr×Obj)}{σ:St}{H:Hp}{s:Shared}{a:Addr}(I:Inv X pins σ H s)(d:IsD H a):
  s.TypeIs (.ref a) "dict"/\(∀ b,Value.ref a = .ref b -> ∃ ob,s.heap.get? b=some ob/\ob.dict=none)/\(a == sysModules)=false:=by
 rcases d with ⟨kvs,e⟩ | ⟨kvs,e⟩
 ·obtain ⟨_,hd,vs,_,dd⟩:=dk_rd I.hok e
  refine ⟨dd.typeIs,fun b q=>?_,hd⟩
  cases q
  obtain ⟨ob,_,_,h1,h2,_⟩:=dd
  exact ⟨ob,h1,h2.2.1⟩
 ·obtain ⟨_,hd,xs,_,dd⟩:=dt_rd I.hok e
  refine ⟨dd.typeIs,fun b q=>?_,hd⟩
  cases q
  obtain ⟨ob,_,_,h1,h2,_⟩:=dd
  exact ⟨ob,h1,h2.2.1⟩
section
variable {X:Cx} {pins:List (Addr×Obj)} {σ:St} {H:Hp} {s:Shared} {a:Addr} {y d:V} {u r:Value} {o:Option V} {A:Around} {E:Value->Shared->Prop}
theorem d_get1 {Q:Value->Shared->Prop}(hu:A.units+1<cLine)(I:Inv X pins σ H s)(g:DGet H a y o)(ry:RelV y u)(h:∀ w' s',Inv X pins σ H s'->RelV (o.getD .non) w'->Q w' s'):
  wpAny (model X.prog X.w) A (call (.builtin "dict.get") [.ref a,u]) Q E s:=by
 rcases g with ⟨kvs,k,e,ey,l⟩ | ⟨kvs,k,b,e,ey,eb,l⟩
 ·subst ey
  obtain ⟨z,hd,vs,rel,dd⟩:=dk_rd I.hok e
  refine call_meetsIn PySem.F.slot_dict_get dd.typeIs PySem.F.entry_dict_get (PySem.F.args_dict_get_2 _ _) (meets_dict_get (mixKind X.prog X.w) a (kV_is ry) hd) ⟨_,dd.mapOf,h _ _ (I.tok _) ?_⟩
  rw [l]
  exact (rel.val k).getD rfl
 ·subst ey
  cases (show u=Value.ref b from ry)
  obtain ⟨z,hd,xs,rel,dd⟩:=dt_rd I.hok e
  refine call_meetsIn PySem.F.slot_dict_get dd.typeIs PySem.F.entry_dict_get (PySem.F.args_dict_get_2 _ _) (meetsH_dict_get (tupleKind (mixKind X.prog X.w)) a b hd) ⟨tupleKind_room_in1 hu,k,xs,key_of I.hok eb,dd,h _ _ (I.tok _) ?_⟩
  rw [l]
  exact (rel.val k).getD rfl
end
noncomputable def tDGet1 (td ty:TE):TE:=fun σ H Q=>td σ H fun x H1=>∃ a,x = .ref a/\IsD H1 a/\ty σ H1 fun y H2=>∃ o,DGet H2 a y o/\Q (o.getD .non) H2
section
variable {X:Cx} {o e f:Expr} {apos cpos:Pos} {td ty tx:TE}
theorem pe_dget1 (hu:X.A.units+1<cLine)(ho:PE X o td)(he:PE X e ty)(m:M1 X o "get" apos e cpos):PE X (.Call (.Attribute o "get" apos) [e] [] cpos) (tDGet1 td ty):=by
 intro pins s σ H Q I h
 refine wpAny_Call_method m.base m.few m.line PySem.F.plainAttrs_dict PySem.F.slot_dict_get PySem.F.type_dict_get (thn (ho pins s σ H _ I h) fun u s1 ⟨x,H1,I1,rx,a,ex,d,q1⟩=>?_)
 subst ex
 obtain rfl:u=Value.ref a:=rx
 obtain ⟨t1,t2,_⟩:=isD_at I1 d
 refine ⟨t1,t2,?_⟩
 rw [m.trees]
 refine Calls.callWith_builtin rfl (Calls.evalArgs_plain (Calls.spliced_cons (thn (he pins s1 σ H1 _ I1 q1) fun iv s2 ⟨y,H2,I2,ry,ov,g,q2⟩=>Calls.spliced_nil ?_)))
 exact d_get1 hu I2 g ry fun w' s3 I3 rw'=>⟨_,H2,I3,rw',q2⟩
end
section
variable {X:Cx} {pins:List (Addr×Obj)} {σ:St} {H:Hp} {s:Shared} {a:Addr} {kvs:List (Key×V)} {A:Around} {E:Value->Shared->Prop}
end
section
variable {X:Cx} {pins:List (Addr×Obj)} {σ:St} {H:Hp} {s:Shared} {a:Addr} {y:V} {u:Value} {A:Around} {E:Value->Shared->Prop}
end
end L2
end
section
namespace Mi
open PySem PySem.Spec PyProof.Rows L2
inductive TK where
 | non | int (i:Int) | tup (xs:List TK)
noncomputable instance:DecidableEq TK:=fun _ _=>Classical.propDecidable _
mutual
noncomputable def TK.hash:TK->Int
 | .non=>0xFCA86420
 | .int i=>hashInt i
 | .tup xs=>reduceHash (Builtin.Tuple.tupleHashOf (TK.hashes xs))
noncomputable def TK.hashes:List TK->List Int
 | []=>[]
 | x::xs=>TK.hash x::TK.hashes xs
end
mutual
noncomputable def TK.draws:TK->Nat
 | .non=>1
 | .int _=>1
 | .tup xs=>TK.drawsAll xs+1
noncomputable def TK.drawsAll:List TK->Nat
 | []=>0
 | x::xs=>TK.draws x+TK.drawsAll xs
end
mutual
noncomputable def TK.dep:TK->Nat
 | .non=>0
 | .int _=>0
 | .tup xs=>TK.depAll xs+1
noncomputable def TK.depAll:List TK->Nat
 | []=>0
 | x::xs=>max (TK.dep x) (TK.depAll xs)
end
theorem TK.dep_mem:∀ {xs:List TK} {x:TK},x∈xs->x.dep<=TK.depAll xs
 | y::ys,x,h=>by
  rw [TK.depAll]
  rcases List.mem_cons.mp h with e | e
  ·rw [e];exact Nat.le_max_left _ _
  ·exact Nat.le_trans (TK.dep_mem e) (Nat.le_max_right _ _)
theorem TK.hashes_app:∀ a b:List TK,TK.hashes (a++b)=TK.hashes a++TK.hashes b
 | [],_=>rfl
 | x::xs,b=>by rw [List.cons_append,TK.hashes,TK.hashes,TK.hashes_app xs b];rfl
theorem TK.draws_app:∀ a b:List TK,TK.drawsAll (a++b)=TK.drawsAll a+TK.drawsAll b
 | [],_=>by simp [TK.drawsAll]
 | x::xs,b=>by rw [List.cons_append,TK.drawsAll,TK.drawsAll,TK.draws_app xs b,Nat.add_assoc]
inductive D where
 | non | bl (b:Bool) | int (i:Int) | str (x:Str) | tup (xs:List D) | rol (xs:List D) | ref (n:Nat)
inductive Ob where
 | lst (xs:List D) | dct (kvs:List (Key×D)) | dcT (kvs:List (TK×D)) | iset (xs:List Int) | dcF (kvs:List (TK×D))
noncomputable abbrev Sto:=List Ob
noncomputable abbrev Ev:=List (Option D)
noncomputable abbrev FE:=Ev->Sto->Option (D×Sto)
noncomputable abbrev FT:=Ev->Sto->Option (Bool×Sto)
noncomputable abbrev FA:=Ev->Sto->Option (List D×Sto)
noncomputable abbrev FN:=List D->Sto->Option (D×Sto)
inductive Fl where
 | nx | rt (d:D) | bk | ct
noncomputable abbrev FS:=Ev->Sto->Option (Fl×Ev×Sto)
noncomputable def RoL (K:Fg1)(H:Hp)(a:Addr)(xs:List V):Prop:=(∃ o,H a=some (.frz o (.lst xs))) \/
 ∃ (o:Obj) (its:Array Value) (n:Nat),K.lookup a=some o/\o.cls = .type "list"/\o.dict=none/\o.data = .seq its n/\its.size<=sizeLine/\Vals xs its.toList
theorem RoL.sq {K:Fg1}{H:Hp}{a:Addr}{xs:List V}(h:RoL K H a xs):SqL K H a xs:=h.elim (fun ⟨o,q⟩=>.inl (.inr ⟨o,q⟩)) .inr
mutual
inductive Rep (K:Fg1)(H:Hp)(mu:List Addr):D->V->Prop
 | non:Rep K H mu .non .non
 | bl (b:Bool):Rep K H mu (.bl b) (.bl b)
 | int (i:Int):Rep K H mu (.int i) (.int i)
 | str (x:Str):Rep K H mu (.str x) (.str x)
 | tup {ds:List D} {vs:List V} {a:Addr} (h:SqT K H a vs) (r:Reps K H mu ds vs):Rep K H mu (.tup ds) (.ref a)
 | rol {ds:List D} {vs:List V} {a:Addr} (h:RoL K H a vs) (r:Reps K H mu ds vs):Rep K H mu (.rol ds) (.ref a)
 | ref {n:Nat} {a:Addr} (h:mu[n]? = some a):Rep K H mu (.ref n) (.ref a)
inductive Reps (K:Fg1)(H:Hp)(mu:List Addr):List D->List V->Prop
 | nil:Reps K H mu [] []
 | cons {d:D} {v:V} {ds:List D} {vs:List V} (r:Rep K H mu d v) (t:Reps K H mu ds vs):Reps K H mu (d::ds) (v::vs)
end
structure Ext (mu mu':List Addr)(H H':Hp):Prop where
 pre:mu <+: mu'
 old:∀ a o,H a=some o->a∉mu->H' a=some o
 tup:∀ a xs,Rd H a (.tup xs)->Rd H' a (.tup xs)
 frz:∀ a o u,H a=some (.frz o u)->H' a=some (.frz o u)
 new:∀ a∈mu',a∈mu\/H a=none
theorem Ext.refl (mu:List Addr)(H:Hp):Ext mu mu H H:=⟨List.prefix_rfl,fun _ _ h _=>h,fun _ _ h=>h,fun _ _ _ h=>h,fun _ h=>.inl h⟩
theorem Ext.trans {mu m1 m2:List Addr}{H H1 H2:Hp}(a:Ext mu m1 H H1)(b:Ext m1 m2 H1 H2):Ext mu m2 H H2 where
 pre:=a.pre.trans b.pre
 old:=fun c o h n=>b.old c o (a.old c o h n) fun z=>by
  rcases a.new c z with q | q
  ·exact n q
  ·rw [h] at q;cases q
 tup:=fun c xs h=>b.tup c xs (a.tup c xs h)
 frz:=fun c o u h=>b.frz c o u (a.frz c o u h)
 new:=fun c h=>by
  rcases b.new c h with q | q
  ·exact a.new c q
  ·by_cases z:c∈mu
   ·exact .inl z
   ·right
    cases e:H c with
    | none=>rfl
    | some o=>rw [a.old c o e z] at q;cases q
theorem Ext.at {mu mu':List Addr}{H H':Hp}(e:Ext mu mu' H H'){n:Nat}{a:Addr}(h:mu[n]? = some a):mu'[n]? = some a:=by
 obtain ⟨t,rfl⟩:=e.pre
 have hl:n<mu.length:=(gE1.mp h).1
 rw [gL1 hl];exact h
theorem Ext.back {mu mu':List Addr}{H H':Hp}(e:Ext mu mu' H H'):Ext mu mu H H':=⟨List.prefix_rfl,e.old,e.tup,e.frz,fun _ h=>.inl h⟩
structure Exw (mu mu':List Addr)(H H':Hp):Prop where
 pre:mu <+: mu'
 tup:∀ a xs,Rd H a (.tup xs)->Rd H' a (.tup xs)
 frz:∀ a o u,H a=some (.frz o u)->H' a=some (.frz o u)
theorem Ext.w {mu mu':List Addr}{H H':Hp}(e:Ext mu mu' H H'):Exw mu mu' H H':=⟨e.pre,e.tup,e.frz⟩
theorem Exw.trans {mu m1 m2:List Addr}{H H1 H2:Hp}(a:Exw mu m1 H H1)(b:Exw m1 m2 H1 H2):Exw mu m2 H H2:=⟨a.pre.trans b.pre,fun c xs h=>b.tup c xs (a.tup c xs h),fun c o u h=>b.frz c o u (a.frz c o u h)⟩
theorem Exw.at {mu mu':List Addr}{H H':Hp}(e:Exw mu mu' H H'){n:Nat}{a:Addr}(h:mu[n]? = some a):mu'[n]? = some a:=by
 obtain ⟨t,rfl⟩:=e.pre
 have hl:n<mu.length:=(gE1.mp h).1
 rw [gL1 hl];exact h
structure Exv (mu mu':List Addr)(H H':Hp):Prop where
 pre:mu <+: mu'
 tup:∀ a xs,Rd H a (.tup xs)->Rd H' a (.tup xs)
 frl:∀ a o xs,H a=some (.frz o (.lst xs))->H' a=some (.frz o (.lst xs))
theorem Exw.v {mu mu':List Addr}{H H':Hp}(e:Exw mu mu' H H'):Exv mu mu' H H':=⟨e.pre,e.tup,fun a o xs h=>e.frz a o _ h⟩
theorem Ext.v {mu mu':List Addr}{H H':Hp}(e:Ext mu mu' H H'):Exv mu mu' H H':=e.w.v
theorem Exv.at {mu mu':List Addr}{H H':Hp}(e:Exv mu mu' H H'){n:Nat}{a:Addr}(h:mu[n]? = some a):mu'[n]? = some a:=by
 obtain ⟨t,rfl⟩:=e.pre
 have hl:n<mu.length:=(gE1.mp h).1
 rw [gL1 hl];exact h
theorem SqT.exv {K:Fg1}{mu mu':List Addr}{H H':Hp}{a:Addr}{vs:List V}(e:Exv mu mu' H H')(h:SqT K H a vs):SqT K H' a vs:=by
 rcases h with h | h
 ·exact .inl (e.tup a vs h)
 ·exact .inr h
theorem RoL.exv {K:Fg1}{mu mu':List Addr}{H H':Hp}{a:Addr}{vs:List V}(e:Exv mu mu' H H')(h:RoL K H a vs):RoL K H' a vs:=by
 rcases h with ⟨o,h⟩ | h
 ·exact .inl ⟨o,e.frl a o _ h⟩
 ·exact .inr h
theorem Rep.exv {K:Fg1}{mu mu':List Addr}{H H':Hp}(e:Exv mu mu' H H'):∀ {d:D} {v:V},Rep K H mu d v->Rep K H' mu' d v:=fun h=>h.rec (motive_1:=fun d v _=>Rep K H' mu' d v) (motive_2:=fun ds vs _=>Reps K H' mu' ds vs)
  .non .bl .int .str (fun h _ ih=>.tup (SqT.exv e h) ih) (fun h _ ih=>.rol (RoL.exv e h) ih) (fun h=>.ref (e.at h)) .nil (fun _ _ a b=>.cons a b)
theorem Reps.ind {K:Fg1}{mu:List Addr}{H:Hp}{P:(ds:List D)->(vs:List V)->Reps K H mu ds vs->Prop}(hn:P [] [] .nil)(hc:∀ {d v ds vs} (r:Rep K H mu d v) (t:Reps K H mu ds vs),P ds vs t->P (d::ds) (v::vs) (.cons r t)){ds:List D}{vs:List V}(h:Reps K H mu ds vs):P ds vs h:=
 h.rec (motive_1:=fun _ _ _=>True) (motive_2:=P) trivial (fun _=>trivial) (fun _=>trivial) (fun _=>trivial) (fun _ _ _=>trivial) (fun _ _ _=>trivial) (fun _=>trivial) hn (fun r t _ ih=>hc r t ih)
theorem Reps.exv {K:Fg1}{mu mu':List Addr}{H H':Hp}(e:Exv mu mu' H H'):∀ {ds:List D} {vs:List V},Reps K H mu ds vs->Reps K H' mu' ds vs:=fun h=>h.ind (P:=fun ds vs _=>Reps K H' mu' ds vs) .nil fun r _ ih=>.cons (Rep.exv e r) ih
section
variable {K:Fg1} {mu mu':List Addr} {H H':Hp} {a:Addr} {vs:List V}
theorem Rep.exw (e:Exw mu mu' H H'){d:D}{v:V}(h:Rep K H mu d v):Rep K H' mu' d v:=h.exv e.v
theorem Reps.exw (e:Exw mu mu' H H'){ds:List D}(h:Reps K H mu ds vs):Reps K H' mu' ds vs:=h.exv e.v
theorem Rep.ext (e:Ext mu mu' H H'){d:D}{v:V}(h:Rep K H mu d v):Rep K H' mu' d v:=h.exv e.v
theorem Reps.ext (e:Ext mu mu' H H'){ds:List D}(h:Reps K H mu ds vs):Reps K H' mu' ds vs:=h.exv e.v
end
section
variable {K:Fg1} {H:Hp} {mu:List Addr}
theorem Reps.length:∀ {ds:List D} {vs:List V},Reps K H mu ds vs->ds.length=vs.length:=fun h=>h.ind (P:=fun ds vs _=>ds.length=vs.length) rfl fun _ _ ih=>congrArg (· + 1) ih
theorem Reps.get:∀ {ds:List D} {vs:List V} {i:Nat} {d:D},Reps K H mu ds vs->ds[i]? = some d -> ∃ v,vs[i]? = some v/\Rep K H mu d v:=by
 intro ds vs i d h e
 induction h using Reps.ind generalizing i with
 | hn=>cases e
 | hc r t ih=>cases i with
  | zero=>cases e;exact ⟨_,rfl,r⟩
  | succ i=>exact ih (i:=i) e
theorem Reps.getV:∀ {ds:List D} {vs:List V} {i:Nat} {v:V},Reps K H mu ds vs->vs[i]? = some v -> ∃ d,ds[i]? = some d/\Rep K H mu d v:=by
 intro ds vs i d h e
 induction h using Reps.ind generalizing i with
 | hn=>cases e
 | hc r t ih=>cases i with
  | zero=>cases e;exact ⟨_,rfl,r⟩
  | succ i=>exact ih (i:=i) e
theorem Reps.append:∀ {ds es:List D} {vs ws:List V},Reps K H mu ds vs->Reps K H mu es ws->Reps K H mu (ds++es) (vs++ws):=fun h s=>h.ind (P:=fun ds vs _=>Reps K H mu (ds++_) (vs++_)) s fun r _ ih=>.cons r ih
theorem Reps.take:∀ {ds:List D} {vs:List V} (n:Nat),Reps K H mu ds vs->Reps K H mu (ds.take n) (vs.take n):=by
 intro ds vs n h
 induction h using Reps.ind generalizing n with
 | hn=>rw [List.take_nil,List.take_nil];exact .nil
 | hc r t ih=>cases n with
  | zero=>exact .nil
  | succ n=>exact .cons r (ih n)
theorem Reps.drop:∀ {ds:List D} {vs:List V} (n:Nat),Reps K H mu ds vs->Reps K H mu (ds.drop n) (vs.drop n):=by
 intro ds vs n h
 induction h using Reps.ind generalizing n with
 | hn=>rw [List.drop_nil,List.drop_nil];exact .nil
 | hc r t ih=>cases n with
  | zero=>exact .cons r t
  | succ n=>exact ih n
theorem Reps.set {d:D}{v:V}(r:Rep K H mu d v):∀ {ds:List D} {vs:List V} (i:Nat),Reps K H mu ds vs->Reps K H mu (ds.set i d) (vs.set i v):=by
 intro ds vs i h
 induction h using Reps.ind generalizing i with
 | hn=>exact .nil
 | hc q t ih=>cases i with
  | zero=>exact .cons r t
  | succ i=>exact .cons q (ih i)
theorem Reps.eraseIdx:∀ {ds:List D} {vs:List V} (i:Nat),Reps K H mu ds vs->Reps K H mu (ds.eraseIdx i) (vs.eraseIdx i):=by
 intro ds vs i h
 induction h using Reps.ind generalizing i with
 | hn=>exact .nil
 | hc q t ih=>cases i with
  | zero=>exact t
  | succ i=>exact .cons q (ih i)
end
noncomputable def KR {κ:Type}(K:Fg1)(H:Hp)(mu:List Addr):List (κ×D)->List (κ×V)->Prop:=Paired fun p q=>p.1=q.1/\Rep K H mu p.2 q.2
mutual
noncomputable def tkD:TK->D
 | .non=>.non
 | .int i=>.int i
 | .tup xs=>.tup (tkDs xs)
noncomputable def tkDs:List TK->List D
 | []=>[]
 | x::xs=>tkD x::tkDs xs
end
noncomputable def DictAt (a:Addr)(xs:List (TK×Addr×Value))(h:Heap):Prop:=(a == sysModules)=false/\(xs.map (·.1)).Nodup /\ ∃ o es ep,h.get? a=some o/\o.ExactDict/\o.data = .dict es ep/\es.toList=xs.map fun x=>(⟨x.1.hash,.ref x.2.1,x.2.2⟩:DictEntry)
noncomputable def DictO (a:Addr)(xs:List (TK×Addr×Value))(o:Obj):Prop:=(a == sysModules)=false/\(xs.map (·.1)).Nodup/\o.ExactDict /\ ∃ es ep,o.data = .dict es ep/\es.toList=xs.map fun x=>(⟨x.1.hash,.ref x.2.1,x.2.2⟩:DictEntry)
noncomputable def KT (K:Fg1)(H:Hp)(mu:List Addr):List (TK×D)->List (TK×Addr×Value)->Prop:=Paired fun p q=>p.1=q.1/\p.1.dep<=8/\Rep K H mu (tkD p.1) (.ref q.2.1) /\ ∃ v,RelV v q.2.2/\Rep K H mu p.2 v
noncomputable def ObR (K:Fg1)(H:Hp)(mu:List Addr)(a:Addr):Ob->Prop
 | .lst ds=>∃ vs,H a=some (.lst vs)/\Reps K H mu ds vs
 | .dct kvs=>∃ ws,H a=some (.dK ws)/\KR K H mu kvs ws
 | .dcT kvs=>∃ xs,H a=some (.ext (DictAt a xs))/\KT K H mu kvs xs/\xs.length<=sizeLine
 | .iset xs=>H a=some (.set (fun k=>xs.contains k) xs.length)/\xs.Nodup
 | .dcF kvs=>∃ xs,(∃ o u,H a=some (.frz o u)/\DictO a xs o)/\KT K H mu kvs xs/\xs.length<=sizeLine
structure Sim (K:Fg1)(H:Hp)(mu:List Addr)(S:Sto):Prop where
 len:mu.length=S.length
 nd:mu.Nodup
 ob:∀ (n:Nat) (o:Ob) (a:Addr),S[n]? = some o->mu[n]? = some a->ObR K H mu a o
structure EnvR (K:Fg1)(H:Hp)(mu:List Addr)(r:Ev)(σ:L2.St):Prop where
 len:r.length=σ.length
 val:∀ (i:Nat) (d:D),r[i]? = some (some d) -> ∃ v,σ[i]? = some (some v)/\Rep K H mu d v
theorem EnvR.ext {K:Fg1}{mu mu':List Addr}{H H':Hp}{r:Ev}{σ:L2.St}(e:Ext mu mu' H H')(h:EnvR K H mu r σ):EnvR K H' mu' r σ:=⟨h.len,fun i d q=>by
 obtain ⟨v,e1,r1⟩:=h.val i d q
 exact ⟨v,e1,r1.ext e⟩⟩
theorem KR.ext {κ:Type}{K:Fg1}{mu mu':List Addr}{H H':Hp}{ks:List (κ×D)}{ws:List (κ×V)}(e:Ext mu mu' H H')(h:KR K H mu ks ws):KR K H' mu' ks ws:=
 Paired.mapP h fun _ _ z=>⟨z.1,z.2.ext e⟩
theorem KT.ext {K:Fg1}{mu mu':List Addr}{H H':Hp}{ks:List (TK×D)}{ws:List (TK×Addr×Value)}(e:Ext mu mu' H H')(h:KT K H mu ks ws):KT K H' mu' ks ws:=
 Paired.mapP h fun _ _ ⟨z,d,k,v,rv,r⟩=>⟨z,d,k.ext e,v,rv,r.ext e⟩
theorem Sim.nil {K:Fg1}{H:Hp}:Sim K H [] []:=⟨rfl,List.nodup_nil,fun n o a h=>by simp at h⟩
theorem Sim.here {K:Fg1}{H:Hp}{mu:List Addr}{S:Sto}(s:Sim K H mu S){a:Addr}(h:a∈mu):∃ o,H a=some o:=by
 obtain ⟨n,hn⟩:=List.getElem?_of_mem h
 have hl:n<S.length:=by rw [<- s.len];exact (gE1.mp hn).1
 have q:=s.ob n _ a (gG1 hl) hn
 cases e:S[n] with
 | lst ds=>rw [e] at q;obtain ⟨vs,z,_⟩:=q;exact ⟨_,z⟩
 | dct ks=>rw [e] at q;obtain ⟨vs,z,_⟩:=q;exact ⟨_,z⟩
 | dcT ks=>rw [e] at q;obtain ⟨vs,z,_⟩:=q;exact ⟨_,z⟩
 | iset xs=>rw [e] at q;exact ⟨_,q.1⟩
 | dcF ks=>rw [e] at q;obtain ⟨vs,⟨_,_,z,_⟩,_⟩:=q;exact ⟨_,z⟩
noncomputable def Cont (K:Fg1)(mu:List Addr)(H:Hp)(d:D)(S':Sto)(Q:VK):Prop:=∀ v H' mu',Ext mu mu' H H'->Rep K H' mu' d v->Sim K H' mu' S'->Q v H'
inductive tM (K:Fg1)(m:FE)(σ:L2.St)(H:Hp)(Q:VK):Prop
 | mk (r:Ev) (mu:List Addr) (S:Sto) (d:D) (S':Sto) (he:EnvR K H mu r σ) (hs:Sim K H mu S) (hm:m r S=some (d,S')) (hc:Cont K mu H d S' Q)
inductive tMT (K:Fg1)(m:FT)(σ:L2.St)(H:Hp)(Q:Bool->Hp->Prop):Prop
 | mk (r:Ev) (mu:List Addr) (S:Sto) (b:Bool) (S':Sto) (he:EnvR K H mu r σ) (hs:Sim K H mu S) (hm:m r S=some (b,S')) (hc:∀ H' mu',Ext mu mu' H H'->Sim K H' mu' S'->Q b H')
inductive tMA (K:Fg1)(m:FA)(σ:L2.St)(H:Hp)(Q:List V->Hp->Prop):Prop
 | mk (r:Ev) (mu:List Addr) (S:Sto) (ds:List D) (S':Sto) (he:EnvR K H mu r σ) (hs:Sim K H mu S) (hm:m r S=some (ds,S')) (hc:∀ vs H' mu',Ext mu mu' H H'->Reps K H' mu' ds vs->Sim K H' mu' S'->Q vs H')
noncomputable def tMSC (K:Fg1)(mu:List Addr)(H:Hp)(r':Ev)(S':Sto)(E:Ends)(f:Fl):Prop:=match f with
 | .nx=>∀ σ' H' mu',Ext mu mu' H H'->EnvR K H' mu' r' σ'->Sim K H' mu' S'->E.nx σ' H'
 | .bk=>∀ σ' H' mu',Ext mu mu' H H'->EnvR K H' mu' r' σ'->Sim K H' mu' S'->E.bk σ' H'
 | .ct=>∀ σ' H' mu',Ext mu mu' H H'->EnvR K H' mu' r' σ'->Sim K H' mu' S'->E.ct σ' H'
 | .rt d=>Cont K mu H d S' E.rt
inductive tMS (K:Fg1)(m:FS)(E:Ends)(σ:L2.St)(H:Hp):Prop
 | mk (r:Ev) (mu:List Addr) (S:Sto) (f:Fl) (r':Ev) (S':Sto) (he:EnvR K H mu r σ) (hs:Sim K H mu S) (hm:m r S=some (f,r',S')) (hc:tMSC K mu H r' S' E f)
inductive rN (K:Fg1)(f:FN)(vs:List V)(H:Hp)(Q:VK):Prop
 | mk (mu:List Addr) (S:Sto) (ds:List D) (d:D) (S':Sto) (hr:Reps K H mu ds vs) (hs:Sim K H mu S) (hm:f ds S=some (d,S')) (hc:Cont K mu H d S' Q)
noncomputable abbrev ME (X:Cx)(e:Expr)(m:FE):Prop:=PE X e (tM X.K m)
noncomputable abbrev MT (X:Cx)(e:Expr)(m:FT):Prop:=PT X e (tMT X.K m)
noncomputable abbrev MW (X:Cx)(e:Expr)(m:FT):Prop:=PW X e (tMT X.K m)
noncomputable abbrev MA (X:Cx)(es:List Expr)(m:FA):Prop:=PA X es (tMA X.K m)
noncomputable abbrev MS (X:Cx)(st:Stmt)(m:FS):Prop:=PS X st (tMS X.K m)
noncomputable abbrev MSs (X:Cx)(st:List Stmt)(m:FS):Prop:=PSs X st (tMS X.K m)
section
variable {X:Cx} {e:Expr} {es:List Expr} {st:Stmt} {sts:List Stmt}
theorem pe_imp {t t':TE}(h:PE X e t)(i:∀ σ H Q,t' σ H Q->t σ H Q):PE X e t':=fun pins s σ H Q I q=>h pins s σ H Q I (i σ H Q q)
theorem pt_imp {t t':TT}(h:PT X e t)(i:∀ σ H Q,t' σ H Q->t σ H Q):PT X e t':=fun pins s σ H Q I q=>h pins s σ H Q I (i σ H Q q)
theorem pw_imp {t t':TT}(h:PW X e t)(i:∀ σ H Q,t' σ H Q->t σ H Q):PW X e t':=fun wh pins s σ H Q I q=>h wh pins s σ H Q I (i σ H Q q)
theorem pa_imp {t t':TA}(h:PA X es t)(i:∀ σ H Q,t' σ H Q->t σ H Q):PA X es t':=fun pos pins s σ H Q I q=>h pos pins s σ H Q I (i σ H Q q)
theorem ps_imp {t t':TS}(h:PS X st t)(i:∀ E σ H,t' E σ H->t E σ H):PS X st t':=fun pins s σ H E I q=>h pins s σ H E I (i E σ H q)
theorem pss_imp {t t':TS}(h:PSs X sts t)(i:∀ E σ H,t' E σ H->t E σ H):PSs X sts t':=fun pins s σ H E I q=>h pins s σ H E I (i E σ H q)
end
noncomputable def mV (i:Nat):FE:=fun r S=>match r[i]? with
 | some (some d)=>some (d,S)
 | _=>none
noncomputable def mC (d:D):FE:=fun _ S=>some (d,S)
section
variable {X:Cx} {pos:Pos}
theorem me_var (i:Nat){x:Str}(hN:X.N[i]? = some x)(hv:Vis X.env.scope x)(hd:(x == ("__debug__":Str))=false:=by decide)(hcd:(x == ("__classdict__":Str))=false:=by decide):ME X (.Name x pos) (mV i):=
 pe_imp (pe_var hN hv hd hcd) <| by
  rintro σ H Q ⟨r,mu,S,d,S',he,hs,hm,hc⟩
  unfold mV at hm
  split at hm
  ·rename_i d' e
   cases hm
   obtain ⟨v,e1,r1⟩:=he.val i _ e
   exact ⟨v,e1,hc v H mu (.refl _ _) r1 hs⟩
  ·cases hm
theorem me_c {e:Expr}{v:V}(d:D)(h:PE X e (tC v))(hr:∀ H mu,Rep X.K H mu d v):ME X e (mC d):=
 pe_imp h <| by
  rintro σ H Q ⟨r,mu,S,d',S',he,hs,hm,hc⟩
  cases hm
  exact hc v H mu (.refl _ _) (hr H mu) hs
theorem me_int {i:Int}{j}:ME X (.Constant (.int i) j pos) (mC (.int i)):=me_c _ pe_int fun _ _=>.int i
theorem me_bl {b:Bool}{j}:ME X (.Constant (.bool b) j pos) (mC (.bl b)):=me_c _ pe_bl fun _ _=>.bl b
theorem me_non {j}:ME X (.Constant .none j pos) (mC .non):=me_c _ pe_non fun _ _=>.non
end
noncomputable def mNil:FA:=fun _ S=>some ([],S)
noncomputable def mCons (m:FE)(n:FA):FA:=fun r S=>(m r S).bind fun p=>(n r p.2).bind fun q=>some (p.1::q.1,q.2)
section
variable {X:Cx} {pos:Pos} {e:Expr} {es:List Expr} {m:FE} {n:FA}
theorem ma_nil:MA X [] mNil:=pa_imp pa_nil <| by
 rintro σ H Q ⟨r,mu,S,ds,S',he,hs,hm,hc⟩
 cases hm
 exact hc [] H mu (.refl _ _) .nil hs
theorem ma_cons (h:ME X e m)(ht:MA X es n)(hs:starEach (e::es) X.env=(false,eval e X.env)::starEach es X.env:=by rfl):MA X (e::es) (mCons m n):=
 pa_imp (pa_cons h ht hs) <| by
  rintro σ H Q ⟨r,mu,S,ds,S',he,hs,hm,hc⟩
  unfold mCons at hm
  obtain ⟨⟨d,S1⟩,e1,hm⟩:=oB1.mp hm
  obtain ⟨⟨ds1,S2⟩,e2,hm⟩:=oB1.mp hm
  cases hm
  refine ⟨r,mu,S,d,S1,he,hs,e1,fun v H1 mu1 x1 r1 s1=>?_⟩
  refine ⟨r,mu1,S1,ds1,_,he.ext x1,s1,e2,fun vs H2 mu2 x2 r2 s2=>?_⟩
  exact hc _ H2 mu2 (x1.trans x2) (.cons (r1.ext x2) r2) s2
end
noncomputable def m2 (f:FN)(a b:FE):FE:=fun r S=>(a r S).bind fun p=>(b r p.2).bind fun q=>f [p.1,q.1] q.2
noncomputable def m1 (f:FN)(a:FE):FE:=fun r S=>(a r S).bind fun p=>f [p.1] p.2
noncomputable def mN (f:FN)(a:FA):FE:=fun r S=>(a r S).bind fun p=>f p.1 p.2
noncomputable abbrev r2 (K:Fg1)(f:FN):R2:=fun x y H Q=>rN K f [x,y] H Q
section
variable {X:Cx} {K:Fg1} {f:FN} {a b:FE} {σ:L2.St} {H:Hp} {Q:VK}
theorem m2_ok (h:tM K (m2 f a b) σ H Q):tOp (r2 K f) (tM K a) (tM K b) σ H Q:=by
 obtain ⟨r,mu,S,d,S',he,hs,hm,hc⟩:=h
 obtain ⟨⟨d1,S1⟩,e1,hm⟩:=oB1.mp hm
 obtain ⟨⟨d2,S2⟩,e2,hm⟩:=oB1.mp hm
 refine ⟨r,mu,S,d1,S1,he,hs,e1,fun v H1 mu1 x1 r1 s1=>?_⟩
 refine ⟨r,mu1,S1,d2,S2,he.ext x1,s1,e2,fun u H2 mu2 x2 r2 s2=>?_⟩
 exact ⟨mu2,S2,[d1,d2],d,S',.cons (r1.ext x2) (.cons r2 .nil),s2,hm,fun v H3 mu3 x3 r3 s3=>hc v H3 mu3 ((x1.trans x2).trans x3) r3 s3⟩
theorem m1_ok (h:tM K (m1 f a) σ H Q):tUn (fun x H Q=>rN K f [x] H Q) (tM K a) σ H Q:=by
 obtain ⟨r,mu,S,d,S',he,hs,hm,hc⟩:=h
 obtain ⟨⟨d1,S1⟩,e1,hm⟩:=oB1.mp hm
 refine ⟨r,mu,S,d1,S1,he,hs,e1,fun v H1 mu1 x1 r1 s1=>?_⟩
 exact ⟨mu1,S1,[d1],d,S',.cons r1 .nil,s1,hm,fun v H3 mu3 x3 r3 s3=>hc v H3 mu3 (x1.trans x3) r3 s3⟩
theorem mN_ok {a:FA}(h:tM K (mN f a) σ H Q):tMA K a σ H fun vs H1=>rN K f vs H1 Q:=by
 obtain ⟨r,mu,S,d,S',he,hs,hm,hc⟩:=h
 obtain ⟨⟨d1,S1⟩,e1,hm⟩:=oB1.mp hm
 refine ⟨r,mu,S,d1,S1,he,hs,e1,fun v H1 mu1 x1 r1 s1=>?_⟩
 exact ⟨mu1,S1,d1,d,S',r1,s1,hm,fun v H3 mu3 x3 r3 s3=>hc v H3 mu3 (x1.trans x3) r3 s3⟩
theorem me_op {op:Operator}{x y:Expr}{pos:Pos}(ho:OpR X (binaryOp op) (r2 X.K f))(hx:ME X x a)(hy:ME X y b):ME X (.BinOp x op y pos) (m2 f a b):=pe_imp (pe_op ho hx hy) fun _ _ _=>m2_ok
theorem me_un {op:UnaryOp}{x:Expr}{pos:Pos}(ho:UnR X (unaryOp op) (fun x H Q=>rN X.K f [x] H Q))(hx:ME X x a):ME X (.UnaryOp op x pos) (m1 f a):=pe_imp (pe_un ho hx) fun _ _ _=>m1_ok
theorem me_cmp {op:CmpOp}{x y:Expr}{pos:Pos}(ho:OpR X (compareOp op) (r2 X.K f))(hx:ME X x a)(hy:ME X y b)(hm:behindInMarks op y=false):ME X (.Compare x [op] [y] pos) (m2 f a b):=pe_imp (pe_cmpR ho hx hy hm) fun _ _ _=>m2_ok
theorem me_ix {x y:Expr}{pos:Pos}(ho:IxR X (r2 X.K f))(hx:ME X x a)(hy:ME X y b)(hs:PlainIx y):ME X (.Subscript x y pos) (m2 f a b):=pe_imp (pe_ix ho hx hy hs) fun _ _ _=>m2_ok
theorem me_callB {x:Str}{p pos:Pos}{e:Expr}{es:List Expr}{id:String}{a:FA}(hc:CallR X (.builtin id) (rN X.K f))(hg:Gl X x)(hm:X.mg x=none)(hv:bootBuiltins x=some (.builtin id))(ha:MA X (e::es) a)(hn:x≠"__name__":=by decide)(hdb:(x == ("__debug__":Str))=false:=by decide)
  (he:starEach (e::es) X.env=(false,eval e X.env)::starEach es X.env:=by rfl) (hpl:(backTo pos (starEach es X.env)).any (·.1)=false:=by rfl):ME X (.Call (.Name x p) (e::es) [] pos) (mN f a):=
 pe_imp (pe_callB hc hg hm hv ha hn hdb he hpl) fun _ _ _=>mN_ok
theorem me_callTy {x:Str}{p pos:Pos}{e:Expr}{es:List Expr}{T:String}{a:FA}(hc:CallR X (.type T) (rN X.K f))(hg:Gl X x)(hm:X.mg x=none)(hv:bootBuiltins x=some (.type T))(ha:MA X (e::es) a)(hn:x≠"__name__":=by decide)(hdb:(x == ("__debug__":Str))=false:=by decide)
  (he:starEach (e::es) X.env=(false,eval e X.env)::starEach es X.env:=by rfl) (hpl:(backTo pos (starEach es X.env)).any (·.1)=false:=by rfl):ME X (.Call (.Name x p) (e::es) [] pos) (mN f a):=
 pe_imp (pe_callTy hc hg hm hv ha hn hdb he hpl) fun _ _ _=>mN_ok
end
noncomputable def mB (m:FE):FT:=fun r S=>(m r S).bind fun p=>match p.1 with
 | .bl b=>some (b,p.2)
 | _=>none
theorem mB_ok {K:Fg1}{m:FE}{σ:L2.St}{H:Hp}{Q:Bool->Hp->Prop}(h:tMT K (mB m) σ H Q):tB (tM K m) σ H Q:=by
 obtain ⟨r,mu,S,b,S',he,hs,hm,hc⟩:=h
 obtain ⟨⟨d1,S1⟩,e1,hm⟩:=oB1.mp hm
 cases d1 with
 | bl k=>
  cases hm
  refine ⟨r,mu,S,_,_,he,hs,e1,fun v H1 mu1 x1 r1 s1=>?_⟩
  cases r1
  exact ⟨_,rfl,hc H1 mu1 x1 s1⟩
 | _=>cases hm
noncomputable def mAnd (a b:FT):FT:=fun r S=>(a r S).bind fun p=>if p.1=true then b r p.2 else some (false,p.2)
noncomputable def mOr (a b:FT):FT:=fun r S=>(a r S).bind fun p=>if p.1=true then some (true,p.2) else b r p.2
noncomputable def mNot (a:FT):FT:=fun r S=>(a r S).bind fun p=>some (!p.1,p.2)
noncomputable def mAndV (a b:FE):FE:=fun r S=>(a r S).bind fun p=>match p.1 with
 | .bl c=>if c=true then b r p.2 else some (.bl false,p.2)
 | _=>none
noncomputable def mOrV (a b:FE):FE:=fun r S=>(a r S).bind fun p=>match p.1 with
 | .bl c=>if c=true then some (.bl true,p.2) else b r p.2
 | _=>none
noncomputable def mNotV (a:FE):FE:=fun r S=>(a r S).bind fun p=>match p.1 with
 | .bl c=>some (.bl (!c),p.2)
 | _=>none
noncomputable def mIf (c:FT)(a b:FE):FE:=fun r S=>(c r S).bind fun p=>if p.1=true then a r p.2 else b r p.2
section
variable {X:Cx} {x y c:Expr} {rest:List Expr} {pos:Pos} {a b:FT} {f g:FE}
theorem mt_cmp {op:CmpOp}{f:FN}{a b:FE}(ho:OpR X (compareOp op) (r2 X.K f))(hx:ME X x a)(hy:ME X y b)(hm:behindInMarks op y=false):MT X (.Compare x [op] [y] pos) (mB (m2 f a b)):=
 pt_imp (pt_cmpR ho hx hy hm) fun σ H Q h=>by
  obtain ⟨r,mu,S,d,S',he,hs,hm,hc⟩:=mB_ok h
  exact m2_ok ⟨r,mu,S,d,S',he,hs,hm,fun v H' mu' x1 r1 s1=>hc v H' mu' x1 r1 s1⟩
theorem mw_and1 (ha:MT X x a):MW X (.BoolOp .And [x] pos) a:=pw_and1 ha
theorem mw_or1 (ha:MT X x a):MW X (.BoolOp .Or [x] pos) a:=pw_or1 ha
theorem mw_and (ha:MT X x a)(hb:MW X (.BoolOp .And (y::rest) pos) b):MW X (.BoolOp .And (x::y::rest) pos) (mAnd a b):=
 pw_imp (pw_and ha hb) <| by
  rintro σ H Q ⟨r,mu,S,k,S',he,hs,hm,hc⟩
  obtain ⟨⟨b1,S1⟩,e1,hm⟩:=oB1.mp hm
  refine ⟨r,mu,S,b1,S1,he,hs,e1,fun H1 mu1 x1 s1=>?_⟩
  cases b1 with
  | true=>exact ⟨r,mu1,S1,k,S',he.ext x1,s1,hm,fun H2 mu2 x2 s2=>hc H2 mu2 (x1.trans x2) s2⟩
  | false=>cases hm;exact hc H1 mu1 x1 s1
theorem mw_or (ha:MT X x a)(hb:MW X (.BoolOp .Or (y::rest) pos) b):MW X (.BoolOp .Or (x::y::rest) pos) (mOr a b):=
 pw_imp (pw_or ha hb) <| by
  rintro σ H Q ⟨r,mu,S,k,S',he,hs,hm,hc⟩
  obtain ⟨⟨b1,S1⟩,e1,hm⟩:=oB1.mp hm
  refine ⟨r,mu,S,b1,S1,he,hs,e1,fun H1 mu1 x1 s1=>?_⟩
  cases b1 with
  | false=>exact ⟨r,mu1,S1,k,S',he.ext x1,s1,hm,fun H2 mu2 x2 s2=>hc H2 mu2 (x1.trans x2) s2⟩
  | true=>cases hm;exact hc H1 mu1 x1 s1
theorem mt_w (h:MW X x a):MT X x a:=PW.pt h
theorem mt_not (ha:MT X x a):MT X (.UnaryOp .Not x pos) (mNot a):=
 pt_imp (pt_not ha) <| by
  rintro σ H Q ⟨r,mu,S,k,S',he,hs,hm,hc⟩
  obtain ⟨⟨b1,S1⟩,e1,hm⟩:=oB1.mp hm
  cases hm
  exact ⟨r,mu,S,b1,S1,he,hs,e1,fun H1 mu1 x1 s1=>hc H1 mu1 x1 s1⟩
theorem me_one {op}(h:ME X x f):ME X (.BoolOp op [x] pos) f:=pe_one h
theorem me_and (ha:ME X x f)(hb:ME X (.BoolOp .And (y::rest) pos) g):ME X (.BoolOp .And (x::y::rest) pos) (mAndV f g):=
 pe_imp (pe_and ha hb) <| by
  rintro σ H Q ⟨r,mu,S,k,S',he,hs,hm,hc⟩
  obtain ⟨⟨d1,S1⟩,e1,hm⟩:=oB1.mp hm
  refine ⟨r,mu,S,d1,S1,he,hs,e1,fun v H1 mu1 x1 r1 s1=>?_⟩
  cases d1 with
  | bl b1=>
   cases r1
   refine ⟨b1,rfl,?_⟩
   cases b1 with
   | true=>exact ⟨r,mu1,S1,k,S',he.ext x1,s1,hm,fun v2 H2 mu2 x2 r2 s2=>hc v2 H2 mu2 (x1.trans x2) r2 s2⟩
   | false=>cases hm;exact hc _ H1 mu1 x1 (.bl false) s1
  | _=>cases hm
theorem me_not (ha:ME X x f):ME X (.UnaryOp .Not x pos) (mNotV f):=
 pe_imp (pe_not ha) <| by
  rintro σ H Q ⟨r,mu,S,k,S',he,hs,hm,hc⟩
  obtain ⟨⟨d1,S1⟩,e1,hm⟩:=oB1.mp hm
  refine ⟨r,mu,S,d1,S1,he,hs,e1,fun v H1 mu1 x1 r1 s1=>?_⟩
  cases d1 with
  | bl b1=>
   cases r1
   cases hm
   exact ⟨b1,rfl,hc _ H1 mu1 x1 (.bl _) s1⟩
  | _=>cases hm
end
noncomputable def mCh (f g:FN)(a b c:FE):FE:=fun r S=>(a r S).bind fun p=>(b r p.2).bind fun q=>(f [p.1,q.1] q.2).bind fun t=>match t.1 with
 | .bl k=>if k=true then (c r t.2).bind fun z=>g [q.1,z.1] z.2 else some (.bl false,t.2)
 | _=>none
section
variable {X:Cx} {x y z:Expr} {pos:Pos} {f g:FN} {a b c:FE} {op op':CmpOp}
theorem mCh_ok {K:Fg1}{σ:L2.St}{H:Hp}{Q:VK}(h:tM K (mCh f g a b c) σ H Q):tChain (r2 K f) (r2 K g) (tM K a) (tM K b) (tM K c) σ H Q:=by
 obtain ⟨r,mu,S,d,S',he,hs,hm,hc⟩:=h
 obtain ⟨⟨d1,S1⟩,e1,hm⟩:=oB1.mp hm
 obtain ⟨⟨d2,S2⟩,e2,hm⟩:=oB1.mp hm
 obtain ⟨⟨d3,S3⟩,e3,hm⟩:=oB1.mp hm
 refine ⟨r,mu,S,d1,S1,he,hs,e1,fun v1 H1 mu1 x1 r1 s1=>?_⟩
 refine ⟨r,mu1,S1,d2,S2,he.ext x1,s1,e2,fun v2 H2 mu2 x2 r2 s2=>?_⟩
 refine ⟨mu2,S2,[d1,d2],d3,S3,.cons (r1.ext x2) (.cons r2 .nil),s2,e3,fun v3 H3 mu3 x3 r3 s3=>?_⟩
 cases d3 with
 | bl k=>
  cases r3
  refine ⟨k,rfl,?_⟩
  cases k with
  | false=>cases hm;exact hc _ H3 mu3 ((x1.trans x2).trans x3) (.bl false) s3
  | true=>
   obtain ⟨⟨d4,S4⟩,e4,hm⟩:=oB1.mp hm
   refine ⟨r,mu3,S3,d4,S4,he.ext ((x1.trans x2).trans x3),s3,e4,fun v4 H4 mu4 x4 r4 s4=>?_⟩
   exact ⟨mu4,S4,[d2,d4],d,S',.cons ((r2.ext x3).ext x4) (.cons r4 .nil),s4,hm,fun v5 H5 mu5 x5 r5 s5=>hc v5 H5 mu5 ((((x1.trans x2).trans x3).trans x4).trans x5) r5 s5⟩
 | _=>cases hm
theorem me_chain (ho:OpR X (compareOp op) (r2 X.K f))(ho':OpR X (compareOp op') (r2 X.K g))(hx:ME X x a)(hy:ME X y b)(hz:ME X z c)(hm:lastMarks [op,op'] [y,z]=false:=by with_unfolding_all rfl):
  ME X (.Compare x [op,op'] [y,z] pos) (mCh f g a b c):=pe_imp (pe_chain ho ho' hx hy hz hm) fun _ _ _=>mCh_ok
theorem mt_chain (ho:OpR X (compareOp op) (r2 X.K f))(ho':OpR X (compareOp op') (r2 X.K g))(hx:ME X x a)(hy:ME X y b)(hz:ME X z c)(hm:lastMarks [op,op'] [y,z]=false:=by with_unfolding_all rfl):
  MT X (.Compare x [op,op'] [y,z] pos) (mB (mCh f g a b c)):=
 pt_imp (pt_chain ho ho' hx hy hz hm) fun σ H Q h=>by
  obtain ⟨r,mu,S,d,S',he,hs,hm,hc⟩:=mB_ok h
  exact mCh_ok ⟨r,mu,S,d,S',he,hs,hm,fun v H' mu' x1 r1 s1=>hc v H' mu' x1 r1 s1⟩
end
mutual
noncomputable def D.und (n:Nat):D->Bool
 | .tup xs=>D.unds n xs
 | .rol xs=>D.unds n xs
 | .ref k=>decide (k<n)
 | .non=>true
 | .bl _=>true
 | .int _=>true
 | .str _=>true
noncomputable def D.unds (n:Nat):List D->Bool
 | []=>true
 | d::ds=>D.und n d&&D.unds n ds
end
noncomputable def D.sames (a b:List D):Bool:=@decide (a=b) (Classical.propDecidable _)
theorem D.sames_eq {a b:List D}(h:D.sames a b=true):a=b:=@of_decide_eq_true _ (Classical.propDecidable _) h
theorem D.sames_refl (a:List D):D.sames a a=true:=@decide_eq_true _ (Classical.propDecidable _) rfl
section
variable {K:Fg1} {H:Hp} {mu mu':List Addr}
theorem Rep.cut {n:Nat}(h:∀ k,k<n->mu[k]? = mu'[k]?):∀ {d:D} {v:V},Rep K H mu d v->d.und n=true->Rep K H mu' d v:=fun h0=>h0.rec (motive_1:=fun d v _=>d.und n=true->Rep K H mu' d v) (motive_2:=fun ds vs _=>D.unds n ds=true->Reps K H mu' ds vs)
  (fun _=>.non) (fun b _=>.bl b) (fun i _=>.int i) (fun x _=>.str x) (fun q _ ih e=>.tup q (ih (by rw [D.und] at e;exact e))) (fun q _ ih e=>.rol q (ih (by rw [D.und] at e;exact e)))
  (fun q e=>.ref (by rw [D.und] at e;rw [<- h _ (of_decide_eq_true e)];exact q)) (fun _=>.nil) (fun _ _ a b e=>by rw [D.unds,bA1] at e;exact .cons (a e.1) (b e.2))
theorem Reps.cut {n:Nat}(h:∀ k,k<n->mu[k]? = mu'[k]?):∀ {ds:List D} {vs:List V},Reps K H mu ds vs->D.unds n ds=true->Reps K H mu' ds vs:=fun h0=>h0.ind (P:=fun ds vs _=>D.unds n ds=true->Reps K H mu' ds vs) (fun _=>.nil) fun r _ b e=>by rw [D.unds,bA1] at e;exact .cons (Rep.cut h r e.1) (b e.2)
end
noncomputable def Ob.und (n:Nat):Ob->Bool
 | .lst xs=>D.unds n xs
 | .dct kvs=>D.unds n (kvs.map (·.2))
 | .dcT kvs=>D.unds n (kvs.map (·.2))
 | .iset _=>true
 | .dcF kvs=>D.unds n (kvs.map (·.2))
theorem KR.cut {κ:Type}{K:Fg1}{H:Hp}{mu mu':List Addr}{n:Nat}(h:∀ k,k<n->mu[k]? = mu'[k]?):∀ {ks:List (κ×D)} {ws:List (κ×V)},KR K H mu ks ws->D.unds n (ks.map (·.2))=true->KR K H mu' ks ws:=by
 intro ks ws h0 e
 induction h0 with
 | nil=>exact .nil
 | cons r t ih=>
  rw [mP1,D.unds,bA1] at e
  exact .cons ⟨r.1,r.2.cut h e.1⟩ (ih e.2)
mutual
theorem tk_und (n:Nat):∀ k:TK,(tkD k).und n=true
 | .non=>rfl
 | .int _=>rfl
 | .tup xs=>by rw [tkD,D.und];exact tks_und n xs
theorem tks_und (n:Nat):∀ ks:List TK,D.unds n (tkDs ks)=true
 | []=>rfl
 | x::xs=>by rw [tkDs,D.unds,tk_und n x,tks_und n xs];rfl
end
theorem KT.cut {K:Fg1}{H:Hp}{mu mu':List Addr}{n:Nat}(h:∀ k,k<n->mu[k]? = mu'[k]?):∀ {ks:List (TK×D)} {ws:List (TK×Addr×Value)},KT K H mu ks ws->D.unds n (ks.map (·.2))=true->KT K H mu' ks ws:=by
 intro ks ws h0 e
 induction h0 with
 | nil=>exact .nil
 | cons r t ih=>
  rw [mP1,D.unds,bA1] at e
  obtain ⟨z,d,k,v,rv,r⟩:=r
  exact .cons ⟨z,d,k.cut h (tk_und n _),v,rv,r.cut h e.1⟩ (ih e.2)
theorem ObR.cut {K:Fg1}{H:Hp}{mu mu':List Addr}{n:Nat}{a:Addr}(h:∀ k,k<n->mu[k]? = mu'[k]?):∀ {o:Ob},ObR K H mu a o->o.und n=true->ObR K H mu' a o
 | .lst _,⟨vs,e,r⟩,b=>⟨vs,e,r.cut h b⟩
 | .dct _,⟨ws,e,r⟩,b=>⟨ws,e,KR.cut h r b⟩
 | .dcT _,⟨ws,e,r,l⟩,b=>⟨ws,e,KT.cut h r b,l⟩
 | .iset _,q,_=>q
 | .dcF _,⟨ws,e,r,l⟩,b=>⟨ws,e,KT.cut h r b,l⟩
noncomputable def gc (n:Nat)(p:D×Sto):D×Sto:=if p.1.und n&&(p.2.take n).all (Ob.und n) then (p.1,p.2.take n) else p
mutual
noncomputable def D.sh (n:Nat):D->D
 | .tup xs=>.tup (D.shs n xs)
 | .rol xs=>.rol (D.shs n xs)
 | .ref k=>.ref (n+k)
 | .non=>.non
 | .bl b=>.bl b
 | .int i=>.int i
 | .str x=>.str x
noncomputable def D.shs (n:Nat):List D->List D
 | []=>[]
 | d::ds=>D.sh n d::D.shs n ds
end
noncomputable def Ob.sh (n:Nat):Ob->Ob
 | .lst xs=>.lst (D.shs n xs)
 | .dct kvs=>.dct (kvs.map fun p=>(p.1,p.2.sh n))
 | .dcT kvs=>.dcT (kvs.map fun p=>(p.1,p.2.sh n))
 | .iset xs=>.iset xs
 | .dcF kvs=>.dcF (kvs.map fun p=>(p.1,p.2.sh n))
theorem Rep.sh {K:Fg1}{H:Hp}{mu mu':List Addr}:∀ {d:D} {v:V},Rep K H mu' d v->Rep K H (mu++mu') (d.sh mu.length) v:=fun h0=>h0.rec (motive_1:=fun d v _=>Rep K H (mu++mu') (d.sh mu.length) v) (motive_2:=fun ds vs _=>Reps K H (mu++mu') (D.shs mu.length ds) vs)
  .non .bl .int .str (fun h _ ih=>.tup h ih) (fun h _ ih=>.rol h ih) (fun h=>.ref (by rw [gR1 (Nat.le_add_right _ _),Nat.add_sub_cancel_left];exact h)) .nil (fun _ _ a b=>.cons a b)
theorem Reps.sh {K:Fg1}{H:Hp}{mu mu':List Addr}:∀ {ds:List D} {vs:List V},Reps K H mu' ds vs->Reps K H (mu++mu') (D.shs mu.length ds) vs:=fun h=>h.ind (P:=fun ds vs _=>Reps K H (mu++mu') (D.shs mu.length ds) vs) .nil fun r _ ih=>.cons (Rep.sh r) ih
theorem KR.sh {κ:Type}{K:Fg1}{H:Hp}{mu mu':List Addr}:∀ {ks:List (κ×D)} {ws:List (κ×V)},KR K H mu' ks ws->KR K H (mu++mu') (ks.map fun p=>(p.1,p.2.sh mu.length)) ws:=by
 intro ks ws h
 induction h with
 | nil=>exact .nil
 | cons r t ih=>exact .cons ⟨r.1,r.2.sh⟩ ih
mutual
theorem tk_sh (n:Nat):∀ k:TK,(tkD k).sh n=tkD k
 | .non=>rfl
 | .int _=>rfl
 | .tup xs=>by rw [tkD,D.sh,tks_sh n xs]
theorem tks_sh (n:Nat):∀ ks:List TK,D.shs n (tkDs ks)=tkDs ks
 | []=>rfl
 | x::xs=>by rw [tkDs,D.shs,tk_sh n x,tks_sh n xs]
end
theorem KT.sh {K:Fg1}{H:Hp}{mu mu':List Addr}:∀ {ks:List (TK×D)} {ws:List (TK×Addr×Value)},KT K H mu' ks ws->KT K H (mu++mu') (ks.map fun p=>(p.1,p.2.sh mu.length)) ws:=by
 intro ks ws h
 induction h with
 | nil=>exact .nil
 | cons r t ih=>
  obtain ⟨z,d,k,v,rv,r⟩:=r
  exact .cons ⟨z,d,by have:=k.sh (mu:=mu);rw [tk_sh] at this;exact this,v,rv,r.sh⟩ ih
theorem ObR.sh {K:Fg1}{H:Hp}{mu mu':List Addr}{a:Addr}:∀ {o:Ob},ObR K H mu' a o->ObR K H (mu++mu') a (o.sh mu.length)
 | .lst _,⟨vs,e,r⟩=>⟨vs,e,r.sh⟩
 | .dct _,⟨ws,e,r⟩=>⟨ws,e,KR.sh r⟩
 | .dcT _,⟨ws,e,r,l⟩=>⟨ws,e,KT.sh r,l⟩
 | .iset _,q=>q
 | .dcF _,⟨ws,e,r,l⟩=>⟨ws,e,KT.sh r,l⟩
theorem Rep.mor {K:Fg1}{H:Hp}{mu:List Addr}(mu':List Addr):∀ {d:D} {v:V},Rep K H mu d v->Rep K H (mu++mu') d v:=fun h=>h.exv ⟨List.prefix_append _ _,fun _ _ h=>h,fun _ _ _ h=>h⟩
theorem Reps.mor {K:Fg1}{H:Hp}{mu:List Addr}(mu':List Addr):∀ {ds:List D} {vs:List V},Reps K H mu ds vs->Reps K H (mu++mu') ds vs:=fun h=>h.exv ⟨List.prefix_append _ _,fun _ _ h=>h,fun _ _ _ h=>h⟩
theorem KR.mor {κ:Type}{K:Fg1}{H:Hp}{mu:List Addr}(mu':List Addr){ks:List (κ×D)}{ws:List (κ×V)}(h:KR K H mu ks ws):KR K H (mu++mu') ks ws:=Paired.mapP h fun _ _ z=>⟨z.1,z.2.mor mu'⟩
theorem ObR.mor {K:Fg1}{H:Hp}{mu:List Addr}{a:Addr}(mu':List Addr):∀ {o:Ob},ObR K H mu a o->ObR K H (mu++mu') a o
 | .lst _,⟨vs,e,r⟩=>⟨vs,e,r.mor mu'⟩
 | .dct _,⟨ws,e,r⟩=>⟨ws,e,KR.mor mu' r⟩
 | .dcT _,⟨ws,e,r,l⟩=>⟨ws,e,Paired.mapP r fun _ _ ⟨z,d,k,v,rv,r⟩=>⟨z,d,k.mor mu',v,rv,r.mor mu'⟩,l⟩
 | .iset _,q=>q
 | .dcF _,⟨ws,e,r,l⟩=>⟨ws,e,Paired.mapP r fun _ _ ⟨z,d,k,v,rv,r⟩=>⟨z,d,k.mor mu',v,rv,r.mor mu'⟩,l⟩
noncomputable def callG (f:FN):FN:=fun ds S=>if D.unds 0 ds=true then (f ds []).map fun p=>if p.1.und 0=true then (p.1,S) else (p.1.sh S.length,S++p.2.map (Ob.sh S.length)) else (f ds S).map (gc S.length)
theorem ObR.keep {K:Fg1}{H H':Hp}{mu:List Addr}{a:Addr}(e:Ext mu mu H H')(h:∀ o,H a=some o->H' a=some o):∀ {o:Ob},ObR K H mu a o->ObR K H' mu a o
 | .lst _,⟨vs,q,r⟩=>⟨vs,h _ q,r.ext e⟩
 | .dct _,⟨ws,q,r⟩=>⟨ws,h _ q,KR.ext e r⟩
 | .dcT _,⟨ws,q,r,l⟩=>⟨ws,h _ q,KT.ext e r,l⟩
 | .iset _,q=>⟨h _ q.1,q.2⟩
 | .dcF _,⟨ws,⟨o,u,e1,e2⟩,r,l⟩=>⟨ws,⟨o,u,h _ e1,e2⟩,KT.ext e r,l⟩
theorem callG_ok {K:Fg1}{f:FN}{vs:List V}{H:Hp}{Q:VK}(h:rN K (callG f) vs H Q):rN K f vs H Q:=by
 obtain ⟨mu,S,ds,d,S',hr,hs,hm,hc⟩:=h
 unfold callG at hm
 split at hm
 ·rename_i hb
  obtain ⟨⟨d1,S1⟩,e1,hm⟩:=oM1.mp hm
  refine ⟨[],[],ds,d1,S1,hr.cut (n:=0) (fun k hk=>absurd hk (Nat.not_lt_zero _)) hb,.nil,e1,fun v H' mu' x r s=>?_⟩
  have x':Ext mu mu H H':=⟨List.prefix_rfl,fun a o e _=>x.old a o e (by simp),x.tup,x.frz,fun _ z=>.inl z⟩
  dsimp only at hm
  split at hm
  ·rename_i hd
   cases hm
   refine hc v H' mu x' (r.cut (n:=0) (fun k hk=>absurd hk (Nat.not_lt_zero _)) hd) ⟨hs.len,hs.nd,fun n o a h1 h2=>?_⟩
   exact (hs.ob n o a h1 h2).keep x' fun o e=>x.old a o e (by simp)
  ·cases hm
   have fr:∀ a∈mu',H a=none:=fun a ha=>(x.new a ha).resolve_left (by simp)
   have x2:Ext mu (mu++mu') H H':=⟨List.prefix_append _ _,fun a o e _=>x.old a o e (by simp),x.tup,x.frz,fun a z=>by
    rcases List.mem_append.mp z with z | z
    ·exact .inl z
    ·exact .inr (fr a z)⟩
   refine hc v H' (mu++mu') x2 (by rw [<- hs.len];exact r.sh) ⟨by rw [lA1,lA1,lM1,hs.len,s.len],?_,fun n o a h1 h2=>?_⟩
   ·refine List.nodup_append.mpr ⟨hs.nd,s.nd,fun a ha b hb z=>?_⟩
    subst z
    obtain ⟨o,e⟩:=hs.here ha
    rw [fr a hb] at e;cases e
   ·by_cases hn:n<S.length
    ·rw [gL1 hn] at h1
     rw [gL1 (by rw [hs.len];exact hn)] at h2
     exact ((hs.ob n o a h1 h2).keep x' fun o e=>x.old a o e (by simp)).mor mu'
    ·have hn':=Nat.le_of_not_lt hn
     rw [gR1 hn'] at h1
     rw [gR1 (by rw [hs.len];exact hn')] at h2
     rw [gP1] at h1
     obtain ⟨o1,g1,g2⟩:=oM1.mp h1
     subst g2
     have q:=s.ob (n-S.length) o1 a g1 (by rw [hs.len] at h2;exact h2)
     rw [<- hs.len]
     exact q.sh
 ·obtain ⟨⟨d1,S1⟩,e1,hm⟩:=oM1.mp hm
  refine ⟨mu,S,ds,d1,S1,hr,hs,e1,fun v H' mu' x r s=>?_⟩
  unfold gc at hm
  split at hm
  ·rename_i hb
   cases hm
   rw [bA1] at hb
   have hk:∀ k,k<S.length->mu'[k]? = mu[k]?:=fun k hk=>by
    obtain ⟨t,rfl⟩:=x.pre
    rw [gL1 (by rw [hs.len];exact hk)]
   refine hc v H' mu x.back (r.cut hk hb.1) ⟨?_,hs.nd,fun n o a h1 h2=>?_⟩
   ·have:=s.len
    have h3:=x.pre.length_le
    rw [List.length_take,<- s.len]
    rw [hs.len] at h3 ⊢
    exact (Nat.min_eq_left h3).symm
   ·have hn:n<S.length:=by rw [<- hs.len];exact (gE1.mp h2).1
    have h1':S1[n]? = some o:=by rw [List.getElem?_take_of_lt hn] at h1;exact h1
    refine (s.ob n o a h1' ((hk n hn).trans h2)).cut hk ?_
    exact List.all_eq_true.mp hb.2 o (gM1 h1)
  ·cases hm
   exact hc v H' mu' x r s
noncomputable def spM (K:Fg1)(n:Nat)(f:FN):Sp:=fun vs H Q _=>vs.length=n/\rN K f vs H Q
section
variable {X:Cx} {k n:Nat} {f:Addr} {fd:FuncData} {ps:List Str} {x:Str} {p pos:Pos} {e:Expr} {es:List Expr} {m:FN} {a:FA}
noncomputable def mCall (n:Nat)(f:FN):FN:=fun ds S=>if ds.length=n then callG f ds S else none
theorem me_call (F:FnOk X.prog X.w X.K X.mg X.base CX0 k f fd ps (spM X.K n m))(hr:Room k X.A)(hg:Gl X x)(hm:X.mg x=some (.ref f))(hk:wK1 X.K (.ref f)=true)(hb:Binds X.K fd ps [])
  (ha:MA X (e::es) a) (hdb:(x == ("__debug__":Str))=false:=by decide) (he:starEach (e::es) X.env=(false,eval e X.env)::starEach es X.env:=by rfl) (hpl:(backTo pos (starEach es X.env)).any (·.1)=false:=by rfl):
  ME X (.Call (.Name x p) (e::es) [] pos) (mN (mCall n m) a):=
 pe_imp (pe_call (E:=E0) F hr hg hm hk hb .nil pass0 ha hdb he hpl) fun σ H Q h=>by
  obtain ⟨r,mu,S,ds,S',he,hs,hm,hc⟩:=mN_ok h
  refine ⟨r,mu,S,ds,S',he,hs,hm,fun vs H' mu' x1 r1 s1=>?_⟩
  have q:=hc vs H' mu' x1 r1 s1
  show spM X.K n m (vs++[]) H' Q E0
  rw [List.append_nil]
  obtain ⟨mu2,S2,ds2,d2,S3,h1,h2,h3,h4⟩:=q
  unfold mCall at h3
  split at h3
  ·rename_i hl
   exact ⟨by rw [<- h1.length];exact hl,callG_ok ⟨mu2,S2,ds2,d2,S3,h1,h2,h3,h4⟩⟩
  ·cases h3
end
noncomputable def mNx:FS:=fun r S=>some (.nx,r,S)
noncomputable def mBk:FS:=fun r S=>some (.bk,r,S)
noncomputable def mSeq (a b:FS):FS:=fun r S=>(a r S).bind fun p=>match p.1 with
 | .nx=>b p.2.1 p.2.2
 | f=>some (f,p.2.1,p.2.2)
noncomputable def mRet (m:FE):FS:=fun r S=>(m r S).bind fun p=>some (.rt p.1,r,p.2)
noncomputable def mRetN:FS:=fun r S=>some (.rt .non,r,S)
noncomputable def mDrop (m:FE):FS:=fun r S=>(m r S).bind fun p=>some (.nx,r,p.2)
noncomputable def mIfS (c:FT)(a b:FS):FS:=fun r S=>(c r S).bind fun p=>if p.1=true then a r p.2 else b r p.2
section
variable {X:Cx} {pos:Pos} {e c:Expr} {st:Stmt} {rest as bs:List Stmt} {a b:FS} {m:FE} {t:FT}
theorem mss_nil:MSs X [] mNx:=pss_imp pss_nil <| by
 rintro E σ H ⟨r,mu,S,f,r',S',he,hs,hm,hc⟩
 cases hm;exact hc σ H mu (.refl _ _) he hs
theorem mss_cons (h1:MS X st a)(h2:MSs X rest b):MSs X (st::rest) (mSeq a b):=pss_imp (pss_cons h1 h2) <| by
 rintro E σ H ⟨r,mu,S,f,r',S',he,hs,hm,hc⟩
 obtain ⟨⟨f1,r1,S1⟩,e1,hm⟩:=oB1.mp hm
 refine ⟨r,mu,S,f1,r1,S1,he,hs,e1,?_⟩
 cases f1 with
 | nx=>
  intro σ1 H1 mu1 x1 he1 hs1
  refine ⟨r1,mu1,S1,f,r',S',he1,hs1,hm,?_⟩
  cases f with
  | nx=>exact fun σ2 H2 mu2 x2=>hc σ2 H2 mu2 (x1.trans x2)
  | bk=>exact fun σ2 H2 mu2 x2=>hc σ2 H2 mu2 (x1.trans x2)
  | ct=>exact fun σ2 H2 mu2 x2=>hc σ2 H2 mu2 (x1.trans x2)
  | rt d=>exact fun v H2 mu2 x2=>hc v H2 mu2 (x1.trans x2)
 | bk=>cases hm;exact hc
 | ct=>cases hm;exact hc
 | rt d=>cases hm;exact hc
theorem mss_one (h1:MS X st a):MSs X [st] a:=pss_one h1
theorem ms_break:MS X (.Break pos) mBk:=ps_imp ps_break fun E σ H ⟨r,mu,S,f,r',S',he,hs,hm,hc⟩=>by cases hm;exact hc σ H mu (.refl _ _) he hs
theorem ms_expr (h:ME X e m)(hs:swapsWith e none pos.line X.env=pure false:=by rfl):MS X (.Expr e pos) (mDrop m):=ps_imp (ps_expr h hs) <| by
 rintro E σ H ⟨r,mu,S,f,r',S',he,hs,hm,hc⟩
 obtain ⟨⟨d,S1⟩,e1,hm⟩:=oB1.mp hm
 cases hm
 exact ⟨r,mu,S,d,_,he,hs,e1,fun v H' mu' x r1 s1=>hc σ H' mu' x (he.ext x) s1⟩
theorem ms_ret (h:ME X e m):MS X (.Return (some e) pos) (mRet m):=ps_imp (ps_ret h) <| by
 rintro E σ H ⟨r,mu,S,f,r',S',he,hs,hm,hc⟩
 obtain ⟨⟨d,S1⟩,e1,hm⟩:=oB1.mp hm
 cases hm
 exact ⟨r,mu,S,d,_,he,hs,e1,hc⟩
theorem ms_if (hc:MT X c t)(ha:MSs X as a)(hb:MSs X bs b):MS X (.If c as bs pos) (mIfS t a b):=ps_imp (ps_if hc ha hb) <| by
 rintro E σ H ⟨r,mu,S,f,r',S',he,hs,hm,hc⟩
 obtain ⟨⟨k,S1⟩,e1,hm⟩:=oB1.mp hm
 refine ⟨r,mu,S,k,S1,he,hs,e1,fun H1 mu1 x1 s1=>?_⟩
 have go:∀ c:FS,c r S1=some (f,r',S')->tMS X.K c E σ H1:=fun c hm=>by
  refine ⟨r,mu1,S1,f,r',S',he.ext x1,s1,hm,?_⟩
  cases f with
  | nx=>exact fun σ2 H2 mu2 x2=>hc σ2 H2 mu2 (x1.trans x2)
  | bk=>exact fun σ2 H2 mu2 x2=>hc σ2 H2 mu2 (x1.trans x2)
  | ct=>exact fun σ2 H2 mu2 x2=>hc σ2 H2 mu2 (x1.trans x2)
  | rt d=>exact fun v H2 mu2 x2=>hc v H2 mu2 (x1.trans x2)
 cases k with
 | true=>exact go a hm
 | false=>exact go b hm
end
noncomputable abbrev FG:=D->Ev->Sto->Option (Ev×Sto)
noncomputable abbrev FGs:=List D->Ev->Sto->Option (Ev×Sto)
inductive tMG (K:Fg1)(g:FG)(v:V)(σ:L2.St)(H:Hp)(Q:L2.St->Hp->Prop):Prop
 | mk (r:Ev) (mu:List Addr) (S:Sto) (d:D) (r':Ev) (S':Sto) (he:EnvR K H mu r σ) (hs:Sim K H mu S) (hr:Rep K H mu d v) (hm:g d r S=some (r',S')) (hc:∀ σ' H' mu',Ext mu mu' H H'->EnvR K H' mu' r' σ'->Sim K H' mu' S'->Q σ' H')
inductive tMGs (K:Fg1)(g:FGs)(vs:List V)(σ:L2.St)(H:Hp)(Q:L2.St->Hp->Prop):Prop
 | mk (r:Ev) (mu:List Addr) (S:Sto) (ds:List D) (r':Ev) (S':Sto) (he:EnvR K H mu r σ) (hs:Sim K H mu S) (hr:Reps K H mu ds vs) (hm:g ds r S=some (r',S')) (hc:∀ σ' H' mu',Ext mu mu' H H'->EnvR K H' mu' r' σ'->Sim K H' mu' S'->Q σ' H')
noncomputable abbrev MG (X:Cx)(e:Expr)(g:FG):Prop:=PG X e (tMG X.K g)
noncomputable abbrev MGs (X:Cx)(es:List Expr)(g:FGs):Prop:=PGs X es (tMGs X.K g)
noncomputable def gN (i:Nat):FG:=fun d r S=>some (r.set i (some d),S)
noncomputable def gNl:FGs:=fun ds r S=>match ds with
 | []=>some (r,S)
 | _=>none
noncomputable def gCs (g:FG)(gs:FGs):FGs:=fun ds r S=>match ds with
 | d::ds=>(g d r S).bind fun p=>gs ds p.1 p.2
 | []=>none
noncomputable def gT (n:Nat)(gs:FGs):FG:=fun d r S=>match d with
 | .tup ds=>if ds.length=n then gs ds r S else none
 | _=>none
theorem EnvR.set {K:Fg1}{H:Hp}{mu:List Addr}{r:Ev}{σ:L2.St}{i:Nat}{d:D}{v:V}(h:EnvR K H mu r σ)(q:Rep K H mu d v):EnvR K H mu (r.set i (some d)) (σ.set i (some v)):=by
 refine ⟨by rw [List.length_set,List.length_set];exact h.len,fun j d' e=>?_⟩
 by_cases hj:i=j
 ·subst hj
  have hl:i<r.length:=by
   have:=(gE1.mp e).1
   rwa [List.length_set] at this
  rw [List.getElem?_set_self hl] at e
  cases e
  exact ⟨v,List.getElem?_set_self (by rw [<- h.len];exact hl),q⟩
 ·rw [gS1 hj] at e
  obtain ⟨v',e1,r1⟩:=h.val j d' e
  exact ⟨v',by rw [gS1 hj];exact e1,r1⟩
section
variable {X:Cx} {pos:Pos}
theorem pg_imp {e:Expr}{t t':TG}(h:PG X e t)(i:∀ v σ H Q,t' v σ H Q->t v σ H Q):PG X e t':=fun pins s σ H v u Q I r q=>h pins s σ H v u Q I r (i v σ H Q q)
theorem pgs_imp {e:List Expr}{t t':TGs}(h:PGs X e t)(i:∀ v σ H Q,t' v σ H Q->t v σ H Q):PGs X e t':=fun pins s σ H v u Q I r q=>h pins s σ H v u Q I r (i v σ H Q q)
theorem mg_name (i:Nat){x:Str}(hN:X.N.Nodup)(hi:X.N[i]? = some x)(hx:Loc X.env.scope x)(hf:X.fn x=true\/X.env.scope.names.lookup x=some .local:=by first | exact .inl rfl | exact .inr rfl | assumption):MG X (.Name x pos) (gN i):=
 pg_imp (pg_name hN hi hx hf) <| by
  rintro v σ H Q ⟨r,mu,S,d,r',S',he,hs,hr,hm,hc⟩
  cases hm
  exact hc _ H mu (.refl _ _) (he.set hr) hs
theorem mgs_nil:MGs X [] gNl:=pgs_imp pgs_nil <| by
 rintro vs σ H Q ⟨r,mu,S,ds,r',S',he,hs,hr,hm,hc⟩
 unfold gNl at hm
 split at hm
 ·cases hm;cases hr
  exact ⟨rfl,hc σ H mu (.refl _ _) he hs⟩
 ·cases hm
theorem mgs_cons {e:Expr}{es:List Expr}{g:FG}{gs:FGs}(h1:MG X e g)(h2:MGs X es gs)(hs:(assignEach (e::es) X.env).map (·.2)=assign e X.env::(assignEach es X.env).map (·.2):=by rfl):MGs X (e::es) (gCs g gs):=
 pgs_imp (pgs_cons h1 h2 hs) <| by
  rintro vs σ H Q ⟨r,mu,S,ds,r',S',he,hs,hr,hm,hc⟩
  unfold gCs at hm
  split at hm
  ·obtain ⟨⟨r1,S1⟩,e1,hm⟩:=oB1.mp hm
   cases hr with
   | cons q t=>
    exact ⟨_,_,rfl,r,mu,S,_,r1,S1,he,hs,q,e1,fun σ1 H1 mu1 x1 he1 s1=>⟨r1,mu1,S1,_,r',S',he1,s1,t.ext x1,hm,fun σ2 H2 mu2 x2=>hc σ2 H2 mu2 (x1.trans x2)⟩⟩
  ·cases hm
theorem mg_tup {es:List Expr}{k:Nat}{gs:FGs}{n:Nat}(hc:X.calm=true)(h:MGs X es gs)(hn:(assignEach es X.env).length=n:=by rfl)(hst:(assignEach es X.env).findIdx? (·.1)=none:=by rfl):MG X (.Tuple es k pos) (gT n gs):=
 pg_imp (pg_tup hc h hn hst) <| by
  rintro v σ H Q ⟨r,mu,S,d,r',S',he,hs,hr,hm,hc⟩
  cases d with
  | tup ds=>
   rw [gT] at hm
   split at hm
   ·rename_i hl
    cases hr with
    | tup q t=>exact ⟨_,_,rfl,q,by rw [<- t.length];exact hl,r,mu,S,ds,r',S',he,hs,t,hm,hc⟩
   ·cases hm
  | _=>cases hm
inductive rU (K:Fg1)(f:FN)(o i v:V)(H:Hp)(Q:Hp->Prop):Prop
 | mk (mu:List Addr) (S:Sto) (ds:List D) (d:D) (S':Sto) (hr:Reps K H mu ds [o,i,v]) (hs:Sim K H mu S) (hm:f ds S=some (d,S')) (hc:∀ H' mu',Ext mu mu' H H'->Sim K H' mu' S'->Q H')
noncomputable def gS (f:FN)(a b:FE):FG:=fun d r S=>(a r S).bind fun p=>(b r p.2).bind fun q=>(f [p.1,q.1,d] q.2).bind fun t=>some (r,t.2)
theorem mg_sub {o i:Expr}{a b:FE}{f:FN}(ho:ME X o a)(hi:ME X i b)(hs:PSet X (rU X.K f))
  (ha:∀ v,assign (.Subscript o i pos) X.env v=(do
   let ov<-holding [v] (eval o X.env)
   let iv<-holding [v,ov] (eval i X.env)
   standAt pos
   holding [v,ov,iv] (setItem ov iv v)
   release [v,ov,iv] []):=by intro _;rfl):MG X (.Subscript o i pos) (gS f a b):=
 pg_imp (pg_sub ho hi hs ha) <| by
  rintro v σ H Q ⟨r,mu,S,d,r',S',he,hs,hr,hm,hc⟩
  obtain ⟨⟨d1,S1⟩,e1,hm⟩:=oB1.mp hm
  obtain ⟨⟨d2,S2⟩,e2,hm⟩:=oB1.mp hm
  obtain ⟨⟨d3,S3⟩,e3,hm⟩:=oB1.mp hm
  cases hm
  refine ⟨r,mu,S,d1,S1,he,hs,e1,fun v1 H1 mu1 x1 r1 s1=>?_⟩
  refine ⟨r,mu1,S1,d2,S2,he.ext x1,s1,e2,fun v2 H2 mu2 x2 r2 s2=>?_⟩
  exact ⟨mu2,S2,[d1,d2,d],d3,_,.cons (r1.ext x2) (.cons r2 (.cons ((hr.ext x1).ext x2) .nil)),s2,e3,fun H3 mu3 x3 s3=>hc σ H3 mu3 ((x1.trans x2).trans x3) (((he.ext x1).ext x2).ext x3) s3⟩
noncomputable def mAsg (m:FE)(g:FG):FS:=fun r S=>(m r S).bind fun p=>(g p.1 r p.2).bind fun q=>some (.nx,q.1,q.2)
theorem mAsg_ok {K:Fg1}{m:FE}{g:FG}{E:Ends}{σ:L2.St}{H:Hp}(h:tMS K (mAsg m g) E σ H):tAsg (tM K m) (tMG K g) E σ H:=by
 obtain ⟨r,mu,S,f,r',S',he,hs,hm,hc⟩:=h
 obtain ⟨⟨d1,S1⟩,e1,hm⟩:=oB1.mp hm
 obtain ⟨⟨r2,S2⟩,e2,hm⟩:=oB1.mp hm
 cases hm
 refine ⟨r,mu,S,d1,S1,he,hs,e1,fun v1 H1 mu1 x1 r1 s1=>?_⟩
 exact ⟨r,mu1,S1,d1,_,_,he.ext x1,s1,r1,e2,fun σ2 H2 mu2 x2=>hc σ2 H2 mu2 (x1.trans x2)⟩
theorem ms_asg {tg e:Expr}{m:FE}{g:FG}(he:ME X e m)(hg:MG X tg g)(hs:swapsWithSole [tg] e pos.line X.env=pure false:=by rfl)(hw:swappedStores [tg] e X.env=pure none:=by rfl)
  (h1:(assignEach [tg] X.env).map (·.2)=[assign tg X.env]:=by rfl):MS X (.Assign [tg] e pos) (mAsg m g):=ps_imp (ps_asg he hg hs hw h1) fun _ _ _=>mAsg_ok
theorem ms_set (i:Nat){x:Str}{e:Expr}{m:FE}{pos':Pos}(hN:X.N.Nodup)(hi:X.N[i]? = some x)(hx:Loc X.env.scope x)(he:ME X e m)(hs:swapsWith e (some (.Name x pos')) pos.line X.env=pure false:=by rfl)(hf:X.fn x=true\/X.env.scope.names.lookup x=some .local:=by first | exact .inl rfl | exact .inr rfl | assumption):
  MS X (.Assign [.Name x pos'] e pos) (mAsg m (gN i)):=ps_imp (ps_set hN hi hx he hs hf) fun E σ H h=>by
 obtain ⟨r,mu,S,d,S',h1,h2,h3,h4⟩:=mAsg_ok h
 refine ⟨r,mu,S,d,S',h1,h2,h3,fun v H' mu' x1 r1 s1=>?_⟩
 obtain ⟨r2,mu2,S2,d2,r3,S3,q1,q2,q3,q4,q5⟩:=h4 v H' mu' x1 r1 s1
 cases q4
 exact q5 _ H' mu2 (.refl _ _) (q1.set q3) q2
noncomputable def mAug (i:Nat)(f:FN)(m:FE):FS:=fun r S=>match r[i]? with
 | some (some d)=>(m r S).bind fun p=>(f [d,p.1] p.2).bind fun q=>some (.nx,r.set i (some q.1),q.2)
 | _=>none
theorem ms_aug (i:Nat){x:Str}{e:Expr}{m:FE}{op:Operator}{f:FN}{pos':Pos}(hN:X.N.Nodup)(hi:X.N[i]? = some x)(hx:Loc X.env.scope x)(he:ME X e m)(ho:PIp X op (r2 X.K f))(hf:X.fn x=true\/X.env.scope.names.lookup x=some .local:=by first | exact .inl rfl | exact .inr rfl | assumption):
  MS X (.AugAssign (.Name x pos') op e pos) (mAug i f m):=ps_imp (ps_aug hN hi hx he ho hf) <| by
 rintro E σ H ⟨r,mu,S,fl,r',S',he,hs,hm,hc⟩
 unfold mAug at hm
 split at hm
 ·rename_i d e
  obtain ⟨⟨d1,S1⟩,e1,hm⟩:=oB1.mp hm
  obtain ⟨⟨d2,S2⟩,e2,hm⟩:=oB1.mp hm
  cases hm
  obtain ⟨v,ev,rv⟩:=he.val i d e
  refine ⟨v,ev,r,mu,S,d1,S1,he,hs,e1,fun v1 H1 mu1 x1 r1 s1=>?_⟩
  exact ⟨mu1,S1,[d,d1],d2,_,.cons (rv.ext x1) (.cons r1 .nil),s1,e2,fun v3 H3 mu3 x3 r3 s3=>hc _ H3 mu3 (x1.trans x3) (((he.ext x1).ext x3).set r3) s3⟩
 ·cases hm
end
noncomputable def whl (c:FT)(b:FS):Nat->FS
 | 0=>fun _ _=>none
 | n+1=>fun r S=>(c r S).bind fun p=>if p.1=true then (b r p.2).bind fun q=>match q.1 with
   | .nx=>whl c b n q.2.1 q.2.2
   | .ct=>whl c b n q.2.1 q.2.2
   | .bk=>some (.nx,q.2.1,q.2.2)
   | .rt d=>some (.rt d,q.2.1,q.2.2)
  else some (.nx,r,p.2)
theorem whl_ok {K:Fg1}{c:FT}{b:FS}{n:Nat}{E:Ends}{σ:L2.St}{H:Hp}(h:tMS K (whl c b n) E σ H):tWhile (tMT K c) (tMS K b) E σ H:=by
 refine ⟨fun m σ' H'=>tMS K (whl c b m) E σ' H',⟨n,h⟩,fun m σ1 H1 q=>?_⟩
 obtain ⟨r,mu,S,f,r',S',he,hs,hm,hc⟩:=q
 cases m with
 | zero=>cases hm
 | succ m=>
  obtain ⟨⟨k,S1⟩,e1,hm⟩:=oB1.mp hm
  refine ⟨r,mu,S,k,S1,he,hs,e1,fun H2 mu2 x2 s2=>?_⟩
  cases k with
  | false=>
   cases hm
   exact hc σ1 H2 mu2 x2 (he.ext x2) s2
  | true=>
   obtain ⟨⟨f3,r3,S3⟩,e3,hm⟩:=oB1.mp hm
   have go:∀ {σ' H' mu'},Ext mu2 mu' H2 H'->EnvR K H' mu' r3 σ'->Sim K H' mu' S3->whl c b m r3 S3=some (f,r',S')->tMS K (whl c b m) E σ' H':=fun {σ' H' mu'} x he3 s3 hm=>by
    refine ⟨r3,mu',S3,f,r',S',he3,s3,hm,?_⟩
    cases f with
    | nx=>exact fun σ2 H2 mu2 y=>hc σ2 H2 mu2 ((x2.trans x).trans y)
    | bk=>exact fun σ2 H2 mu2 y=>hc σ2 H2 mu2 ((x2.trans x).trans y)
    | ct=>exact fun σ2 H2 mu2 y=>hc σ2 H2 mu2 ((x2.trans x).trans y)
    | rt d=>exact fun v H2 mu2 y=>hc v H2 mu2 ((x2.trans x).trans y)
   refine ⟨fun σ' H'=>tMS K (whl c b m) E σ' H',fun σ' H' q=>⟨m,Nat.lt_succ_self _,q⟩,r,mu2,S1,f3,r3,S3,he.ext x2,s2,e3,?_⟩
   cases f3 with
   | nx=>exact fun σ' H' mu' x he3 s3=>go x he3 s3 hm
   | ct=>exact fun σ' H' mu' x he3 s3=>go x he3 s3 hm
   | bk=>cases hm;exact fun σ' H' mu' x he3 s3=>hc σ' H' mu' (x2.trans x) he3 s3
   | rt d=>cases hm;exact fun v H' mu' x r3 s3=>hc v H' mu' (x2.trans x) r3 s3
theorem ms_while {X:Cx}{pos:Pos}(n:Nat){c:Expr}{body:List Stmt}{t:FT}{b:FS}(hp:PassesOwn (model X.prog X.w) X.A X.env X.xe)(hc:MT X c t)(hb:MSs X body b):MS X (.While c body [] pos) (whl t b n):=
 ps_imp (ps_while hp hc hb) fun _ _ _=>whl_ok
structure Itm where
 items:List D
 chk:List (Nat×List D)
noncomputable def okC (S:Sto):List (Nat×List D)->Bool
 | []=>true
 | (n,xs)::c=>(match S[n]? with
   | some (.lst ys)=>D.sames ys xs
   | _=>false)&&okC S c
noncomputable def ItR (K:Fg1)(j:It)(J:Itm)(mu:List Addr)(H:Hp):Prop:=∀ i H1 mu1 S1,Exw mu mu1 H H1->Sim K H1 mu1 S1->okC S1 J.chk=true ->
 (∀ d,J.items[i]? = some d->j.go i H1 /\ ∀ x H2,j.yld i H1 x H2->Ext mu1 mu1 H1 H2/\Sim K H2 mu1 S1/\Rep K H2 mu1 d x)/\(J.items.length<=i->j.stop i H1)
noncomputable abbrev FI:=Ev->Sto->Option (Itm×Sto)
inductive tMI (K:Fg1)(m:FI)(σ:L2.St)(H:Hp)(R:It->Hp->Prop):Prop
 | mk (r:Ev) (mu:List Addr) (S:Sto) (J:Itm) (S':Sto) (he:EnvR K H mu r σ) (hs:Sim K H mu S) (hm:m r S=some (J,S')) (hc:∀ j H' mu',Ext mu mu' H H'->ItR K j J mu' H'->Sim K H' mu' S'->R j H')
noncomputable abbrev MI (X:Cx)(tg iter:Expr)(m:FI):Prop:=PI X tg iter (tMI X.K m)
theorem pi_imp {X:Cx}{tg e:Expr}{t t':TI}(h:PI X tg e t)(i:∀ σ H R,t' σ H R->t σ H R):PI X tg e t':=fun pins s σ H R I q=>h pins s σ H R I (i σ H R q)
theorem pi_or {X:Cx}{tg e:Expr}{t t':TI}(h:PI X tg e t)(h':PI X tg e t'):PI X tg e (fun σ H R=>t σ H R\/t' σ H R):=fun pins s σ H R I q=>q.elim (h pins s σ H R I) (h' pins s σ H R I)
noncomputable def loopM (c:List (Nat×List D))(g:FG)(b:FS):List D->FS
 | []=>fun r S=>if okC S c=true then some (.nx,r,S) else none
 | d::ds=>fun r S=>if okC S c=true then (g d r S).bind fun p=>(b p.1 p.2).bind fun q=>match q.1 with
   | .nx=>loopM c g b ds q.2.1 q.2.2
   | .ct=>loopM c g b ds q.2.1 q.2.2
   | .bk=>some (.nx,q.2.1,q.2.2)
   | .rt v=>some (.rt v,q.2.1,q.2.2)
  else none
noncomputable def mFor (m:FI)(g:FG)(b:FS):FS:=fun r S=>(m r S).bind fun p=>loopM p.1.chk g b p.1.items r p.2
theorem drop_of_get {α:Type}{l:List α}{i:Nat}{d:α}{ds:List α}(h:l.drop i=d::ds):l[i]? = some d/\l.drop (i+1)=ds:=by
 have h1:l[i]? = some d:=by
  have:=congrArg (·[0]?) h
  simpa using this
 refine ⟨h1,?_⟩
 rw [<- List.drop_drop,h]
 rfl
inductive MFI (K:Fg1)(mu1:List Addr)(H1:Hp)(c:List (Nat×List D))(g:FG)(b:FS)(f:Fl)(r':Ev)(S':Sto)(L:List D)(σ':L2.St)(H':Hp):Prop
 | mk (r2:Ev) (mu2:List Addr) (S2:Sto):Ext mu1 mu2 H1 H'->EnvR K H' mu2 r2 σ'->Sim K H' mu2 S2->loopM c g b L r2 S2=some (f,r',S')->MFI K mu1 H1 c g b f r' S' L σ' H'
theorem mFor_ok {K:Fg1}{m:FI}{g:FG}{b:FS}{E:Ends}{σ:L2.St}{H:Hp}(h:tMS K (mFor m g b) E σ H):tFor (tMI K m) (tMG K g) (tMS K b) E σ H:=by
 obtain ⟨r,mu,S,f,r',S',he,hs,hm,hc⟩:=h
 obtain ⟨⟨J,S1⟩,e1,hm⟩:=oB1.mp hm
 refine ⟨r,mu,S,J,S1,he,hs,e1,fun j H1 mu1 x1 J1 s1=>?_⟩
 refine ⟨fun i k σ' H'=>k=(J.items.drop i).length/\MFI K mu1 H1 J.chk g b f r' S' (J.items.drop i) σ' H',⟨_,rfl,r,mu1,S1,.refl _ _,he.ext x1,s1,hm⟩,?_⟩
 rintro i k σ2 H2 ⟨rfl,r2,mu2,S2,x2,he2,s2,hm2⟩
 cases hl:J.items.drop i with
 | nil=>
  left
  rw [hl] at hm2
  rw [loopM] at hm2
  dsimp only at hm2
  split at hm2
  ·rename_i ok
   cases hm2
   refine ⟨(J1 i H2 mu2 _ x2.w s2 ok).2 (List.drop_eq_nil_iff.mp hl),?_⟩
   exact hc σ2 H2 mu2 (x1.trans x2) he2 s2
  ·cases hm2
 | cons d ds=>
  right
  rw [hl] at hm2
  obtain ⟨hi,hd⟩:=drop_of_get hl
  rw [loopM] at hm2
  dsimp only at hm2
  split at hm2
  ·rename_i ok
   obtain ⟨⟨r3,S3⟩,e3,hm2⟩:=oB1.mp hm2
   obtain ⟨⟨f4,r4,S4⟩,e4,hm2⟩:=oB1.mp hm2
   obtain ⟨go,yl⟩:=(J1 i H2 mu2 _ x2.w s2 ok).1 d hi
   refine ⟨go,MFI K mu1 H1 J.chk g b f r' S' ds,?_,fun x H3 y=>?_⟩
   ·intro σ' H' h5
    exact ⟨ds.length,Nat.lt_succ_self _,(congrArg List.length hd).symm,hd.symm ▸ h5⟩
   ·obtain ⟨x3,s3,q3⟩:=yl x H3 y
    refine ⟨r2,mu2,S2,d,r3,S3,he2.ext x3,s3,q3,e3,fun σ4 H4 mu4 x4 he4 s4=>?_⟩
    refine ⟨r3,mu4,S3,f4,r4,S4,he4,s4,e4,?_⟩
    cases f4 with
    | nx=>exact fun σ5 H5 mu5 x5 he5 s5=>⟨r4,mu5,S4,(x2.trans x3).trans (x4.trans x5),he5,s5,hm2⟩
    | ct=>exact fun σ5 H5 mu5 x5 he5 s5=>⟨r4,mu5,S4,(x2.trans x3).trans (x4.trans x5),he5,s5,hm2⟩
    | bk=>cases hm2;exact fun σ5 H5 mu5 x5 he5 s5=>hc σ5 H5 mu5 ((x1.trans x2).trans (x3.trans (x4.trans x5))) he5 s5
    | rt v=>cases hm2;exact fun v5 H5 mu5 x5 r5 s5=>hc v5 H5 mu5 ((x1.trans x2).trans (x3.trans (x4.trans x5))) r5 s5
  ·cases hm2
theorem ms_for {X:Cx}{pos:Pos}{tg iter:Expr}{body:List Stmt}{m:FI}{g:FG}{b:FS}(hp:PassesOwn (model X.prog X.w) X.A X.env X.xe)(hc:X.calm=true)(hi:MI X tg iter m)(hg:MG X tg g)(hb:MSs X body b)
  (hs:∀ x,foldedSetIterable iter X.env x=pure x:=by intro _;rfl):MS X (.For tg iter body [] pos) (mFor m g b):=ps_imp (ps_for hp hc hi hg hb hs) fun _ _ _=>mFor_ok
noncomputable def startD (n:Nat)(ds:List D):Ev:=ds.map some++List.replicate (n-ds.length) none
noncomputable def fnB (n:Nat)(b:FS):FN:=fun ds S=>(b (startD n ds) S).bind fun p=>match p.1 with
 | .rt d=>some (d,p.2.2)
 | .nx=>some (.non,p.2.2)
 | _=>none
theorem start_env {K:Fg1}{H:Hp}{mu:List Addr}{ds:List D}{vs:List V}(N:List Str)(h:Reps K H mu ds vs):EnvR K H mu (startD N.length ds) (L2.start N vs):=by
 refine ⟨?_,fun i d e=>?_⟩
 ·unfold startD L2.start
  rw [lA1,lA1,lM1,lM1,lR1,lR1,h.length]
 ·unfold startD at e
  unfold L2.start
  by_cases hi:i<ds.length
  ·rw [gL1 (by rw [lM1];exact hi),gP1] at e
   obtain ⟨d',e1,e2⟩:=oM1.mp e
   cases e2
   obtain ⟨v,e3,r⟩:=h.get e1
   refine ⟨v,?_,r⟩
   rw [gL1 (by rw [lM1,<- h.length];exact hi),gP1,e3]
   rfl
  ·rw [gR1 (by rw [lM1];lia)] at e
   have:=gM1 e
   rw [List.mem_replicate] at this
   cases this.2
theorem fn_m {P:Program}{w:World}{K:Fg1}{mg:Str->Option Value}{base:Heap}{x qual:Str}{st:Stmt}{f:Addr}{fd:FuncData}{N ps:List Str}{k:Nat}{b:FS}(F:Fun K x qual st f fd)(S:FnScope N ps (defScope st))
  (hbody:∀ (cdv:Value) (A:Around) (outer:List Env) (s:Shared) (H:Hp) (E:XK),Room k (A.deeper (envOfC qual (defScope st) s.heap.objs.size f cdv)) ->
   MSs (cxOf CX0 P w K mg base N qual (defScope st) f cdv A outer s H E).nox (defBody st) b):FnOk P w K mg base CX0 (k+1) f fd ps (spM K ps.length (fnB N.length b)):=by
 refine Fun.ok F S (fun vs H Q E h=>h.1) fun cdv A outer s H vs Q E hr hsp=>⟨_,hbody cdv A outer s H E hr,?_⟩
 obtain ⟨_,mu,St,ds,d,S',h1,h2,h3,h4⟩:=hsp
 unfold fnB at h3
 obtain ⟨⟨fl,r',S1⟩,e1,h3⟩:=oB1.mp h3
 refine ⟨_,mu,St,fl,r',S1,start_env N h1,h2,e1,?_⟩
 cases fl with
 | nx=>cases h3;exact fun σ' H' mu' x he s=>h4 .non H' mu' x .non s
 | rt d=>cases h3;exact h4
 | bk=>cases h3
 | ct=>cases h3
noncomputable def cloF (cells:List (Str×Addr)):List (Str×NameKind)->List (Str×Addr)->Option (List (Str×Addr))
 | [],acc=>some acc
 | (n,k)::r,acc=>if k == .free then (cells.lookup n).bind fun c=>cloF cells r ((n,c)::acc) else cloF cells r acc
theorem clo_go {env:Env}(f:Str×NameKind->List (Str×Addr)->Sem (ForInStep (List (Str×Addr))))
  (hf:∀ n k cs,f (n,k) cs=if k == .free then (do let c<-cellOf env n;pure (.yield ((n,c)::cs))) else pure (.yield cs)):
  ∀ (names:List (Str×NameKind)) (acc cl:List (Str×Addr)),cloF env.cells names acc=some cl->forIn names acc f=(pure cl:Sem (List (Str×Addr)))
 | [],acc,cl,h=>by cases h;rfl
 | (n,k)::r,acc,cl,h=>by
  rw [List.forIn_cons,hf]
  unfold cloF at h
  split at h
  ·rename_i hk
   rw [if_pos hk]
   obtain ⟨c,e,h⟩:=oB1.mp h
   have:cellOf env n=pure c:=by unfold cellOf;rw [e]
   rw [this,pure_bind,pure_bind]
   exact clo_go f hf r _ cl h
  ·rename_i hk
   rw [if_neg hk,pure_bind]
   exact clo_go f hf r _ cl h
theorem clo_eq {scope:Scope}{env:Env}{cl:List (Str×Addr)}(h:cloF env.cells scope.names []=some cl):closureFor scope env=pure cl:=by
 simp only [closureFor]
 rw [clo_go (env:=env) _ (fun n k cs=>by cases hk:k == NameKind.free<;>simp [hk]) scope.names [] cl h]
 rfl
theorem clo_of {cells:List (Str×Addr)}:∀ {names:List (Str×NameKind)} {acc cl:List (Str×Addr)},cloF cells names acc=some cl->(∀ x c,acc.lookup x=some c->cells.lookup x=some c) -> ∀ x c,cl.lookup x=some c->cells.lookup x=some c
 | [],acc,cl,h,ha=>by cases h;exact ha
 | (n,k)::r,acc,cl,h,ha=>by
  unfold cloF at h
  split at h
  ·obtain ⟨c,e,h⟩:=oB1.mp h
   refine clo_of h fun x c' q=>?_
   rw [List.lookup_cons] at q
   split at q
   ·rename_i hx
    cases q
    rw [beq_iff_eq.mp hx];exact e
   ·exact ha x c' q
  ·exact clo_of h ha
theorem clo_has {cells:List (Str×Addr)}{x:Str}:∀ {names:List (Str×NameKind)} {acc cl:List (Str×Addr)},cloF cells names acc=some cl->(names.lookup x=some .free\/(acc.lookup x).isSome=true)->(cl.lookup x).isSome=true
 | [],acc,cl,h,ha=>by
  cases h
  rcases ha with q | q
  ·cases q
  ·exact q
 | (n,k)::r,acc,cl,h,ha=>by
  unfold cloF at h
  split at h
  ·obtain ⟨c,e,h⟩:=oB1.mp h
   refine clo_has h ?_
   rcases ha with q | q
   ·rw [List.lookup_cons] at q
    split at q
    ·rename_i hx
     right;rw [List.lookup_cons,hx];rfl
    ·exact .inl q
   ·right
    rw [List.lookup_cons]
    split
    ·rfl
    ·exact q
  ·rename_i hk
   refine clo_has h ?_
   rcases ha with q | q
   ·rw [List.lookup_cons] at q
    split at q
    ·cases q
     exact absurd rfl hk
    ·exact .inl q
   ·exact .inr q
theorem cellsFrom_old {x:Str}{c:Addr}:∀ {names:List (Str×NameKind)} {n:Nat} {acc:List (Str×Addr)},(cellsFrom n names acc).lookup x=some c->(n<=c/\(x,c)∈cellsFrom n names [])\/acc.lookup x=some c
 | [],_,_,h=>.inr h
 | (y,k)::r,n,acc,h=>by
  unfold cellsFrom at h ⊢
  split at h
  ·rename_i hk
   rw [if_pos hk]
   have app:∀ (names:List (Str×NameKind)) (m:Nat) (acc:List (Str×Addr)),cellsFrom m names acc=cellsFrom m names []++acc:=by
    intro names
    induction names with
    | nil=>intro m acc;rfl
    | cons p r ih=>
     obtain ⟨z,q⟩:=p
     intro m acc
     unfold cellsFrom
     split
     ·rw [ih _ ((z,m)::acc),ih _ [(z,m)],List.append_assoc];rfl
     ·exact ih m acc
   rcases cellsFrom_old h with ⟨h1,h2⟩ | h1
   ·refine .inl ⟨by lia,?_⟩
    rw [app];exact List.mem_append_left _ h2
   ·rw [List.lookup_cons] at h1
    split at h1
    ·rename_i hx
     cases h1
     refine .inl ⟨nR1 _,?_⟩
     rw [app,beq_iff_eq.mp hx]
     exact mA1 _ mS1
    ·exact .inr h1
  ·rename_i hk
   rw [if_neg hk]
   exact cellsFrom_old h
theorem cellsFrom_own {x:Str}{c:Addr}{n:Nat}{acc:List (Str×Addr)}{names:List (Str×NameKind)}(hx:names.lookup x=some .cell)(h:(cellsFrom n names acc).lookup x=some c):n<=c:=by
 have app:∀ (names:List (Str×NameKind)) (m:Nat) (acc:List (Str×Addr)),cellsFrom m names acc=cellsFrom m names []++acc:=by
  intro names
  induction names with
  | nil=>intro m acc;rfl
  | cons p r ih=>
   obtain ⟨z,q⟩:=p
   intro m acc
   unfold cellsFrom
   split
   ·rw [ih _ ((z,m)::acc),ih _ [(z,m)],List.append_assoc];rfl
   ·exact ih m acc
 rw [app,List.lookup_append] at h
 have q:=PySem.W.cellsFrom_some names n [] (.inl hx)
 obtain ⟨c',e⟩:=Option.isSome_iff_exists.mp q
 rw [e] at h
 cases h
 rcases cellsFrom_old e with ⟨h1,_⟩ | h1
 ·exact h1
 ·cases h1
theorem newEnv_around {M:Model}{A:Around}{E:Value->Shared->Prop}{s:Shared}{scope:Scope}{globals:Addr}{cl:List (Str×Addr)}{qual:Str}{func:Option Addr}{code:Value}{env:Env}{b:Addr}{Q:Env->Shared->Prop}
  (hQ:Q {scope,locals:=s.heap.objs.size,globals,cells:=cellsFrom (s.heap.objs.size+1) scope.names cl,qual,func,code:=env.code,frame:=env.frame,builtins:=env.builtins}
   {s with heap:=pushCells (s.heap.push {cls:=.type "dict",data:=.dict #[]}) scope.names}):
  wpAny M A (newFunctionEnv scope globals cl [] qual func code (some env) b) Q E s:=by
 simp only [newFunctionEnv,Option.isSome_some,if_true]
 refine wB1 (wpAny_alloc ?_)
 refine wB1 (wpAny_layCells _ (fun name kind cells=>by cases hkc:kind == NameKind.cell<;>simp [hkc]) _ _ _ _ ?_)
 rw [show ({s with heap:=s.heap.push {cls:=.type "dict",data:=.dict #[]}}:Shared).heap.objs.size=s.heap.objs.size+1 from hZ1 ..]
 refine wB1 ?_
 rw [List.forIn_nil]
 exact wP1 (wP1 hQ)
noncomputable def cxC (X:Cx)(scope:Scope)(cl:List (Str×Addr))(T:List Str)(keep:List Nat)(s:Shared)(H:Hp)(fp:List Addr):Cx where
 prog:=X.prog
 w:=X.w
 K:=X.K
 mg:=X.mg
 base:=X.base
 A:=X.A
 N:=T++keep.map fun i=>X.N.getD i (Str.ofString "")
 s₀:=s
 H₀:=H
 env:=compEnvC scope (cellsFrom (s.heap.objs.size+1) scope.names cl) s.heap.objs.size X.env
 outer:=X.stack
 stack:=X.stack
 ex:=fp
 fn:=fun x=>scope.names.lookup x == some .cell
 calm:=X.calm
 pn:=[]
 xe:=fun _ _=>False
noncomputable def inSt (k:Nat)(keep:List Nat)(σ:L2.St):L2.St:=List.replicate k none++keep.map fun i=>(σ[i]?).join
theorem lookup_relabel {env:Env}{x:Str}:∀ {names:List (Str×NameKind)},
  (names.map fun (n,k)=>if (k == NameKind.free&&env.scope.kind == .function&&env.kindOf n == some .cell) then (n,NameKind.cell) else (n,k)).lookup x =
   (names.lookup x).map fun k=>if (k == NameKind.free&&env.scope.kind == .function&&env.kindOf x == some .cell) then NameKind.cell else k
 | []=>rfl
 | (n,k)::r=>by
  show List.lookup x ((if (k == NameKind.free&&env.scope.kind == .function&&env.kindOf n == some .cell)=true then (n,NameKind.cell) else (n,k))::_)=_
  cases hx:x == n with
  | true=>
   have e:=beq_iff_eq.mp hx
   subst e
   by_cases hc:(k == NameKind.free&&env.scope.kind == .function&&env.kindOf x == some .cell)=true
   ·rw [if_pos hc,List.lookup_cons,hx,List.lookup_cons,hx];simp only [oP1,if_pos hc]
   ·rw [if_neg hc,List.lookup_cons,hx,List.lookup_cons,hx];simp only [oP1,if_neg hc]
  | false=>
   have ih:=@lookup_relabel env x r
   by_cases hc:(k == NameKind.free&&env.scope.kind == .function&&env.kindOf n == some .cell)=true
   ·rw [if_pos hc,List.lookup_cons,hx,List.lookup_cons,hx];exact ih
   ·rw [if_neg hc,List.lookup_cons,hx,List.lookup_cons,hx];exact ih
structure CSc (X:Cx)(scope:Scope)(T:List Str)(keep:List Nat):Prop where
 kind:scope.kind = .function
 names:∀ x∈scope.names,x.2 = .local->scope.names.lookup x.1=some .local
 free:∀ i∈keep,∃ x,X.N[i]? = some x/\scope.names.lookup x=some .free/\(X.env.kindOf x=some .cell\/X.env.kindOf x=some .free)/\(x,NameKind.cell)∉scope.names
theorem inv_comp {X:Cx} {pins:List (Addr×Obj)} {σ:L2.St} {H:Hp} {s:Shared} {scope:Scope} {cl:List (Str×Addr)} {T:List Str} {keep:List Nat} {fp:List Addr} (I:Inv X pins σ H s)
  (C:CSc X scope T keep) (hcl:cloF X.env.cells scope.names []=some cl) (hf:∀ b∈fp,FpOk X pins H b) (hfo:∀ b∈fp,∃ o,s.heap.get? b=some o):
  Inv (cxC X scope cl T keep s H fp) [] (inSt T.length keep σ) H {s with heap:=pushCells (s.heap.push {cls:=.type "dict",data:=.dict #[]}) scope.names}:=by
 have kept:∀ b o,s.heap.get? b=some o->(pushCells (s.heap.push {cls:=.type "dict",data:=.dict #[]}) scope.names).get? b=some o:=fun b o e=>pushCells_keeps _ _ b o (hP1 _ e)
 have cok:=cellsFrom_ok scope.names (s.heap.push {cls:=.type "dict",data:=.dict #[]}) (s.heap.objs.size+1) [] ⟨fun _ _ hm=>(nomatch hm),List.Pairwise.nil⟩ (by rw [hZ1];exact nR1 _)
 rw [hZ1] at cok
 have clE:=clo_of hcl (fun x c q=>by cases q)
 -- a cell of the block: its own or an elder one
 have cells:∀ x c,(cellsFrom (s.heap.objs.size+1) scope.names cl).lookup x=some c->(s.heap.objs.size+1<=c/\(x,c)∈cellsFrom (s.heap.objs.size+1) scope.names [])\/X.env.cells.lookup x=some c:=fun x c h=>by
  rcases cellsFrom_old h with h1 | h1
  ·exact .inl h1
  ·exact .inr (clE x c h1)
 have oldLt:∀ x c,X.env.cells.lookup x=some c->c<s.heap.objs.size:=fun x c e=>by
  obtain ⟨v,z⟩:=I.cell x c e
  exact z.lt
 have fpLt:∀ b∈fp,b<s.heap.objs.size:=fun b hb=>by
  obtain ⟨o,e⟩:=hfo b hb
  exact hL1 e
 have fst:∀ b∈fp,b∉frs X.stack:=fun b hb z=>by
  rcases List.mem_cons.mp (I.stkSub b z) with q | q
  ·exact (hf b hb).2.1 q
  ·exact (hf b hb).2.2.1 q
 have kindOf:∀ x,(cxC X scope cl T keep s H fp).env.kindOf x=(scope.names.lookup x).map fun k=>if (k == NameKind.free&&X.env.scope.kind == .function&&X.env.kindOf x == some .cell) then NameKind.cell else k:=fun x=>lookup_relabel
 refine ⟨⟨I.ok.mod,C.kind,I.ok.glob,I.ok.blt,nR1 _,fun x y c h1 h2=>?_,fun x hx=>?_,fun x c h1 h2=>?_,I.ok.hd,I.ok.frames,.inl rfl,fun b hb=>⟨nN1 (fpLt b hb),fun x c h z=>?_⟩,fun b o e=>I.bs b o e,Nat.le_trans I.ok.bsz I.sz,fun b o e hb=>?_,fst,I.stack,I.stkFree⟩,
  rfl,I.bare,Un.kept kept,⟨fun _=>none,(Heap.Ns.new s.heap (.type "dict")).keeps (pushCells_keeps _ _),fun i x v h1 h2 h3=>?_⟩,fun x c h=>?_,I.hok.fresh (nR1 _),fun x c h=>?_,fun p hp=>absurd (show p∈([]:List (Addr×Obj)) from hp) (by simp),I.hok.kept kept,?_⟩
 ·rcases cells x c h1 with ⟨a1,a2⟩ | a1<;>rcases cells y c h2 with ⟨b1,b2⟩ | b1
  ·exact name_of_addr cok.apart a2 b2
  ·exact absurd (Nat.lt_of_le_of_lt (Nat.le_of_succ_le a1) (oldLt y c b1)) (Nat.lt_irrefl _)
  ·exact absurd (Nat.lt_of_le_of_lt (Nat.le_of_succ_le b1) (oldLt x c a1)) (Nat.lt_irrefl _)
  ·exact I.ok.inj x y c a1 b1
 ·have hx':scope.names.lookup x=some .cell\/scope.names.lookup x=some .free:=by
   rw [kindOf x] at hx
   cases e:scope.names.lookup x with
   | none=>rw [e] at hx;rcases hx with z | z<;>cases z
   | some k=>
    rw [e] at hx
    simp only [oP1] at hx
    cases k<;>simp_all
  have:((cellsFrom (s.heap.objs.size+1) scope.names cl).lookup x).isSome=true:=by
   rcases hx' with z | z
   ·exact PySem.W.cellsFrom_some _ _ _ (.inl z)
   ·exact PySem.W.cellsFrom_some _ _ _ (.inr (clo_has hcl (.inl z)))
  exact Option.isSome_iff_exists.mp this
 ·have h1':scope.names.lookup x=some .cell:=by simpa [cxC] using h1
  have:=cellsFrom_own h1' h2
  exact Nat.le_trans (Nat.le_succ _) this
 ·subst z
  rcases cells x c h with ⟨a1,_⟩ | a1
  ·exact absurd (Nat.lt_of_le_of_lt (Nat.le_of_succ_le a1) (fpLt c hb)) (Nat.lt_irrefl _)
  ·exact (hf c hb).2.2.2.2.1 x c a1 rfl
 ·rcases (hf b hb).2.2.2.1 with z | z
  ·exact I.ok.noex b o e z
  ·exact absurd (nL1 (hL1 e) (Nat.le_trans I.ok.bsz z)) (Nat.lt_irrefl _)
 ·-- a name of the block that has a value:one of the outer text's
  have hi:T.length<=i:=by
   refine Nat.le_of_not_lt fun hi=>?_
   unfold inSt at h2
   rw [gL1 (by rw [lR1];exact hi),List.getElem?_replicate] at h2
   split at h2<;>cases h2
  unfold inSt at h2
  rw [gR1 (by rw [lR1];exact hi),lR1,gP1] at h2
  obtain ⟨j,ej,h2⟩:=oM1.mp h2
  have h1':X.N.getD j (Str.ofString "")=x:=by
   have h1':(T++keep.map fun i=>X.N.getD i (Str.ofString ""))[i]? = some x:=h1
   rw [gR1 hi,gP1,ej] at h1'
   exact Option.some.inj h1'
  obtain ⟨y,ey,fy,ky,ny⟩:=C.free j (gM1 ej)
  have exy:y=x:=by rw [<- h1',List.getD_eq_getElem?_getD,ey];rfl
  subst exy
  have h2':σ[j]? = some (some v):=by
   cases e:σ[j]? with
   | none=>rw [e] at h2;cases h2
   | some o=>rw [e] at h2;cases h2;rfl
  obtain ⟨m,hn,hl⟩:=I.loc
  obtain ⟨u,ru,lu⟩:=hl j y v ey h2' (by
   rcases ky with z | z
   ·exact .inr (.inl z)
   ·exact .inr (.inr z))
  refine ⟨u,ru,?_⟩
  rcases lu with ⟨z,_⟩ | ⟨_,c,ec,zc⟩
  ·rcases ky with q | q<;>(rw [z] at q;cases q)
  ·right
   refine ⟨?_,c,?_,zc.keeps kept⟩
   ·rw [kindOf,fy]
    simp only [oP1]
    split
    ·exact .inl rfl
    ·exact .inr rfl
   ·obtain ⟨c',e'⟩:=Option.isSome_iff_exists.mp (PySem.W.cellsFrom_some scope.names (s.heap.objs.size+1) cl (.inr (clo_has hcl (.inl fy))):((cellsFrom (s.heap.objs.size+1) scope.names cl).lookup y).isSome=true)
    have e2:(cellsFrom (s.heap.objs.size+1) scope.names cl).lookup y=some c':=e'
    rcases cells y c' e2 with ⟨a1,a2⟩ | a1
    ·-- an own cell of that name:its kind would be cell
     exfalso
     have:∀ (names:List (Str×NameKind)) (n:Nat),(y,c')∈cellsFrom n names []->(y,NameKind.cell)∈names:=by
      have app:∀ (names:List (Str×NameKind)) (m:Nat) (acc:List (Str×Addr)),cellsFrom m names acc=cellsFrom m names []++acc:=by
       intro names
       induction names with
       | nil=>intro m acc;rfl
       | cons p r ih=>
        obtain ⟨z,q⟩:=p
        intro m acc
        unfold cellsFrom
        split
        ·rw [ih _ ((z,m)::acc),ih _ [(z,m)],List.append_assoc];rfl
        ·exact ih m acc
      intro names
      induction names with
      | nil=>intro n h;cases h
      | cons p r ih=>
       obtain ⟨z,q⟩:=p
       intro n h
       unfold cellsFrom at h
       split at h
       ·rename_i hq
        rw [app] at h
        rcases List.mem_append.mp h with h | h
        ·exact mC1 _ (ih _ h)
        ·have:(y,c')=(z,n):=by simpa using h
         cases this
         have hq':q=NameKind.cell:=by simpa using hq
         subst hq'
         exact mS1
       ·exact mC1 _ (ih _ h)
     exact ny (this _ _ a2)
    ·rw [ec] at a1;cases a1
     exact e2
 ·rcases cells x c h with ⟨a1,a2⟩ | a1
  ·exact ⟨_,(cok.empty x c a2).1⟩
  ·obtain ⟨v,z⟩:=I.cell x c a1
   exact ⟨v,z.keeps kept⟩
 ·rcases cells x c h with ⟨a1,a2⟩ | a1
  ·exact I.hok.fresh (Nat.le_of_succ_le a1)
  ·exact I.freeC x c a1
 ·show (inSt T.length keep σ).length=(T++keep.map fun i=>X.N.getD i (Str.ofString "")).length
  unfold inSt
  rw [lA1,lA1,lR1,lM1,lM1]
noncomputable def turnT (p:Pos)(tg:Expr)(ifs:List Expr)(it:Value)(env:Env)(emit:Sem Unit)(c:Code):Sem PySem.Fin:=do
 standAt p
 match<-pyNext it with
 | none=>pure (.done .next)
 | some v=>
  letOwnedTupleGo tg it v
  assign tg env v
  let mut ok:=true
  for c in ifs do
   if ok then ok<-isTrue c env (eval c env)
  if ok then emit
  again c
noncomputable def emitE (elt:Expr)(acc:Value)(env:Env):Sem Unit:=do let _<-call (.builtin "list.append") [acc,<- eval elt env]
noncomputable def emitN (e:Expr)(iter:Expr)(acc:Value)(env:Env):Sem Unit:=do
 let x<-eval iter env
 standAt iter.pos
 let x<-foldedSetIterable iter env x
 let _<-runOwn (.compStart e 1 (<- holding [x] (pyIter x)) acc env) env
theorem turn_A (elt tg iter:Expr)(ifs:List Expr)(scope:Scope)(pos:Pos)(it acc:Value)(env:Env):
  compTurn (.ListComp elt [⟨tg,iter,ifs,0⟩] scope pos) 0 it acc env=turnT iter.pos tg ifs it env (emitE elt acc env) (.compLoop (.ListComp elt [⟨tg,iter,ifs,0⟩] scope pos) 0 it acc env):=by rfl
noncomputable def turnN (p:Pos)(tg:Expr)(ifs:List Expr)(it:Value)(env:Env)(e iter:Expr)(acc:Value)(c:Code):Sem PySem.Fin:=do
 standAt p
 match<-pyNext it with
 | none=>pure (.done .next)
 | some v=>
  letOwnedTupleGo tg it v
  assign tg env v
  let mut ok:=true
  for c in ifs do
   if ok then ok<-isTrue c env (eval c env)
  if ok then
   let x<-eval iter env
   standAt iter.pos
   let x<-foldedSetIterable iter env x
   let _<-runOwn (.compStart e 1 (<- holding [x] (pyIter x)) acc env) env
  again c
theorem turnN_T (p:Pos)(tg:Expr)(ifs:List Expr)(it:Value)(env:Env)(e iter:Expr)(acc:Value)(c:Code):turnN p tg ifs it env e iter acc c=turnT p tg ifs it env (emitN e iter acc env) c:=by
 unfold turnN turnT emitN
 simp only [bind_assoc,pure_bind]
theorem turn_B (elt tg iter tg2 iter2:Expr)(ifs ifs2:List Expr)(scope:Scope)(pos:Pos)(it acc:Value)(env:Env):
  compTurn (.ListComp elt [⟨tg,iter,ifs,0⟩,⟨tg2,iter2,ifs2,0⟩] scope pos) 0 it acc env =
   turnT iter.pos tg ifs it env (emitN (.ListComp elt [⟨tg,iter,ifs,0⟩,⟨tg2,iter2,ifs2,0⟩] scope pos) iter2 acc env) (.compLoop (.ListComp elt [⟨tg,iter,ifs,0⟩,⟨tg2,iter2,ifs2,0⟩] scope pos) 0 it acc env):=by
 rw [<- turnN_T];rfl
theorem turn_C (elt tg iter tg2 iter2:Expr)(ifs ifs2:List Expr)(scope:Scope)(pos:Pos)(it acc:Value)(env:Env):
  compTurn (.ListComp elt [⟨tg,iter,ifs,0⟩,⟨tg2,iter2,ifs2,0⟩] scope pos) 1 it acc env =
   turnT iter2.pos tg2 ifs2 it env (emitE elt acc env) (.compLoop (.ListComp elt [⟨tg,iter,ifs,0⟩,⟨tg2,iter2,ifs2,0⟩] scope pos) 1 it acc env):=by rfl
noncomputable def PIfs (X:Cx)(ifs:List Expr)(t:TT):Prop:=
 ∀ (pins:List (Addr×Obj)) (s:Shared) (σ:L2.St) (H:Hp) (Q:Bool->Hp->Prop),Inv X pins σ H s->t σ H Q ->
  wpAny (model X.prog X.w) X.A (forIn ifs true fun c r=>if r=true then do let ok<-isTrue c X.env (eval c X.env);pure (ForInStep.yield ok) else pure (ForInStep.yield r)) (TP X pins σ Q) X.xe s
theorem pifs_nil {X:Cx}:PIfs X [] (fun σ H Q=>Q true H):=fun pins s σ H Q I h=>wpAny_tests_nil ⟨H,I,h⟩
theorem pifs_one {X:Cx}{c:Expr}{t:TT}(h:PT X c t):PIfs X [c] t:=fun pins s σ H Q I q=>wpAny_tests_one (h pins s σ H Q I q)
noncomputable def PU (X:Cx)(m:Sem Unit)(t:TS):Prop:=
 ∀ (pins:List (Addr×Obj)) (s:Shared) (σ:L2.St) (H:Hp) (E:Ends),Inv X pins σ H s->t E σ H->wpAny (model X.prog X.w) X.A m (fun _ s'=>∃ σ' H',Inv X pins σ' H' s'/\E.nx σ' H') X.xe s
theorem comp_loop {X:Cx}(hx:X.xe=fun _ _=>False)(hc:X.calm=true){elt:Expr}{gens:List Comprehension}{scope:Scope}{pos p:Pos}{d:Nat}{tg:Expr}{ifs:List Expr}{acc:Value}{emit:Sem Unit}{J:It}{fp:List Addr}{it:Addr}{tn:Nat->Heap->Prop}{g:TG}{ti:TT}{tb:TS}
  (eq:compTurn (.ListComp elt gens scope pos) d (.ref it) acc X.env=turnT p tg ifs (.ref it) X.env emit (.compLoop (.ListComp elt gens scope pos) d (.ref it) acc X.env))
  (T:Turn X.prog X.w X.K tg J fp it tn) (hg:PG X tg g) (hi:PIfs X ifs ti) (he:PU X emit tb)
  {pins:List (Addr×Obj)} {s:Shared} {σ:L2.St} {H:Hp} {D:Ends} (I:Inv X pins σ H s) (st:tn 0 s.heap) (f2:∀ b∈fp,FpOk X pins H b)
  (h:∃ W:Nat->Nat->L2.St->Hp->Prop,(∃ m,W 0 m σ H) /\ ∀ i m σ H,W i m σ H ->
   (J.stop i H/\D.nx σ H)\/(J.go i H /\ ∃ N:L2.St->Hp->Prop,(∀ σ' H',N σ' H' -> ∃ m',m'<m/\W (i+1) m' σ' H') /\ ∀ x H',J.yld i H x H'->g x σ H' fun σ2 H2=>ti σ2 H2 fun b H3=>if b=true then tb {D with nx:=N} σ2 H3 else N σ2 H3)):
  codeAny (model X.prog X.w) X.A (.compLoop (.ListComp elt gens scope pos) d (.ref it) acc X.env) (fun r s'=>match r with | .ok _=>∃ σ' H',Inv X pins σ' H' s'/\D.nx σ' H' | .error _=>False) s:=by
 obtain ⟨W,⟨m0,w0⟩,turn⟩:=h
 have stat:∀ {H':Hp},(∀ b∈fp,H' b=none) -> ∀ b∈fp,FpOk X pins H' b:=fun hn b hb=>⟨hn b hb,(f2 b hb).2⟩
 refine codeAny_loop rfl (fun n s'=>∃ i σ' H',Inv X pins σ' H' s'/\tn i s'.heap/\(∀ b∈fp,H' b=none)/\W i n σ' H') ?_ m0 ⟨0,σ,H,I,st,fun b hb=>(f2 b hb).1,w0⟩
 rintro n s3 ⟨i,σ3,H3,I3,st3,fr3,w3⟩
 show wpAny _ _ ((compTurn (.ListComp elt gens scope pos) d (.ref it) acc X.env).onRaise (fun x=>do noteFrame x X.env;theTreesLotGoes x)) _ _ s3
 refine wpAny_noted ?_
 rw [eq]
 have no:∀ {α:Type} {m:Sem α} {Q:α->Shared->Prop} {s:Shared} {E:Value->Shared->Prop},wpAny (model X.prog X.w) X.A m Q X.xe s->wpAny (model X.prog X.w) X.A m Q E s:=fun h=>by
  rw [hx] at h
  exact wpAny_mono h (fun _ _ q=>q) fun _ _ q=>q.elim
 unfold turnT
 refine wB1 (wpAny_standAt (wB1 ?_))
 rcases turn i n σ3 H3 w3 with ⟨stop,qn⟩ | ⟨go,N,hN,step⟩
 ·refine no (thn (T.done X rfl rfl rfl hc i pins s3 σ3 H3 X.xe I3 (stat fr3) st3 stop) fun r s4 ⟨hr,I4⟩=>?_)
  subst hr
  exact wP1 ⟨σ3,H3,I4,qn⟩
 ·refine no (thn (T.item X rfl rfl rfl hc i pins s3 σ3 H3 X.xe I3 (stat fr3) st3 go) fun r s4 ⟨u,hr,h4⟩=>?_)
  subst hr
  refine wB1 (no (thn h4 fun _ s5 ⟨x,H5,I5,r5,y5,st5,fr5⟩=>?_))
  have I5':=I5.pinned (stat fr5) (T.obj _ _ st5)
  refine wB1 (no (thn (hg _ s5 σ3 H5 x u _ I5' r5 (step x H5 y5)) fun _ s6 ⟨σ6,H6,I6,q6⟩=>?_))
  refine wB1 (no (thn (hi _ s6 σ6 H6 _ I6 q6) fun ok s7 ⟨H7,I7,q7⟩=>?_))
  have again':∀ {σ7:L2.St} {H7:Hp} {s7:Shared},Inv X (pins++pinsAt fp s5.heap) σ7 H7 s7->N σ7 H7 -> ∃ m,m<n /\ ∃ i σ' H',Inv X pins σ' H' s7/\tn i s7.heap/\(∀ b∈fp,H' b=none)/\W i m σ' H':=fun {σ7 H7 s7} I7 n7=>by
   obtain ⟨m',hm,w7⟩:=hN σ7 H7 n7
   refine ⟨m',hm,i+1,σ7,H7,I7.unpinned,T.keep _ _ _ st5 fun b hb o e=>(I7.pin (b,o) (mA1 _ (mA1 _ (mem_pinsAt hb e)))).1,fun b hb=>?_,w7⟩
   obtain ⟨o,e,d⟩:=T.obj _ _ st5 b hb
   exact (I7.pin (b,o) (mA1 _ (mA1 _ (mem_pinsAt hb e)))).2.1
  cases ok with
  | false=>exact wP1 ⟨rfl,again' I7 q7⟩
  | true=>exact wB1 (no (thn (he _ s7 σ6 H7 _ I7 q7) fun _ s8 ⟨σ8,H8,I8,q8⟩=>wP1 ⟨rfl,again' I8 q8⟩))
noncomputable def tEmit (p:Addr)(te:TE):TS:=fun D σ H=>te σ H fun x H1=>∃ xs,H1 p=some (.lst xs)/\xs.length<sizeLine/\D.nx σ (upd H1 p (.lst (xs++[x])))
theorem pu_emit {X:Cx}{elt:Expr}{te:TE}(h:PE X elt te)(p:Addr):PU X (emitE elt (.ref p) X.env) (tEmit p te):=by
 intro pins s σ H E I q
 unfold emitE
 refine wB1 (thn (h pins s σ H _ I q) fun u s1 ⟨x,H1,I1,r1,xs,e1,hl,q1⟩=>?_)
 refine wB1 (thn (mt_append pins s1 σ H1 (.ref p) [x] (.ref p) [u] (fun _ H'=>E.nx σ H') I1 rfl (.cons r1 .nil) ⟨p,xs,x,rfl,rfl,e1,hl,q1⟩) fun _ s2 ⟨_,H2,I2,_,q2⟩=>?_)
 exact wP1 ⟨σ,H2,I2,q2⟩
noncomputable def tLoop (J:It)(g:TG)(ti:TT)(tb:TS):TS:=fun D σ H=>∃ W:Nat->Nat->L2.St->Hp->Prop,(∃ m,W 0 m σ H) /\ ∀ i m σ H,W i m σ H ->
 (J.stop i H/\D.nx σ H)\/(J.go i H /\ ∃ N:L2.St->Hp->Prop,(∀ σ' H',N σ' H' -> ∃ m',m'<m/\W (i+1) m' σ' H') /\ ∀ x H',J.yld i H x H'->g x σ H' fun σ2 H2=>ti σ2 H2 fun b H3=>if b=true then tb {D with nx:=N} σ2 H3 else N σ2 H3)
noncomputable def tNest (wi:TI)(g:TG)(ti:TT)(tb:TS):TS:=fun D σ H=>wi σ H fun J H1=>tLoop J g ti tb D σ H1
theorem compStart_1 {prog:Program}{w:World}{A:Around}{R:Result->Shared->Prop}{s:Shared}{elt tg iter tg2 iter2:Expr}{ifs ifs2:List Expr}{scope:Scope}{pos:Pos}{it acc:Value}{env:Env}
  (h0:codeAny (model prog w) A (.compLoop (.ListComp elt [⟨tg,iter,ifs,0⟩,⟨tg2,iter2,ifs2,0⟩] scope pos) 1 it acc env) R s)
  (h:wpAny (model prog w) A (pyIter it) (fun it' s'=>codeAny (model prog w) A (.compLoop (.ListComp elt [⟨tg,iter,ifs,0⟩,⟨tg2,iter2,ifs2,0⟩] scope pos) 1 it' acc env) R s')
   (notedBy (model prog w) A env fun x s'=>R (.error x) s') s):
  codeAny (model prog w) A (.compStart (.ListComp elt [⟨tg,iter,ifs,0⟩,⟨tg2,iter2,ifs2,0⟩] scope pos) 1 it acc env) R s:=by
 refine codeAny_of_tree ?_
 show wpAny _ _ ((compStart (.ListComp elt [⟨tg,iter,ifs,0⟩,⟨tg2,iter2,ifs2,0⟩] scope pos) 1 it acc env).onRaise (fun x=>do noteFrame x env;standAt theWindowsPlace)) _ _ s
 refine wpAny_notedAt ?_
 unfold compStart
 show wpAny _ _ (ask >>= _) _ _ s
 refine wB1 (wpAny_askSetting (wpAny_ite ?_))
 split
 ·first
   | exact wB1 (wP1 (wP1 (And.intro rfl h0)))
   | exact wP1 (And.intro rfl h0)
 ·first
   | exact wB1 (wpAny_rule (wB1 (wpAny_standAt (wB1 (wpAny_mono h (fun it' s' h'=>wP1 (And.intro rfl h')) fun _ _ x=>x)))))
   | (refine wB1 (wpAny_rule ?_);show wpAny _ _ (standAt iter2.pos >>= _) _ _ s;exact wB1 (wpAny_standAt (wB1 (wpAny_mono h (fun it' s' h'=>wP1 (And.intro rfl h')) fun _ _ x=>x))))
theorem pu_nest {X:Cx}(hx:X.xe=fun _ _=>False)(hc:X.calm=true){elt tg iter tg2 iter2:Expr}{ifs ifs2:List Expr}{scope:Scope}{pos:Pos}{acc:Value}{wi:TI}{g:TG}{ti:TT}{tb:TS}
  (hi:PI X tg2 iter2 wi) (hg:PG X tg2 g) (hf:PIfs X ifs2 ti) (he:PU X (emitE elt acc X.env) tb) (hs:∀ x,foldedSetIterable iter2 X.env x=pure x:=by intro _;rfl):
  PU X (emitN (.ListComp elt [⟨tg,iter,ifs,0⟩,⟨tg2,iter2,ifs2,0⟩] scope pos) iter2 acc X.env) (tNest wi g ti tb):=by
 intro pins s σ H E I q
 unfold emitN
 refine wB1 (thn (hi pins s σ H _ I q) fun v s1 h1=>?_)
 refine wB1 (wpAny_standAt (wB1 (wpAny_of_eq (hs v) (wB1 (wpAny_holding (thn h1 fun itv s2 h2=>?_))))))
 obtain ⟨it,fp,tn,J,H2,rfl,I2,T,st2,f2,q2⟩:=h2
 have loop:=comp_loop hx hc (turn_C elt tg iter tg2 iter2 ifs ifs2 scope pos (.ref it) acc X.env) T hg hf he I2 st2 f2 q2
 refine wB1 (wpAny_runOwn (h:=none) ?_)
 refine codeAny_mono (compStart_1 loop (T.self X.A 0 s2 _ _ st2 loop)) fun r s' hr=>?_
 cases r with
 | error e=>exact hr.elim
 | ok f=>
  obtain ⟨σ',H',I',q'⟩:=hr
  exact wP1 ⟨σ',H',I',q'⟩
theorem Un.sameBut {fs ex:List Addr}{H H':Hp}{h h1 h2:Heap}{c:Addr}(u:Un fs ex H H' h h1)(hs:Heap.SameBut c h1 h2)(hc:h.get? c=none):Un fs ex H H' h h2:=by
 have ne:∀ {b o},h.get? b=some o->b≠c:=fun e z=>by rw [z,hc] at e;cases e
 refine ⟨fun b o e n hb hx=>(hs.2 b (ne e)).trans (u.keep b o e n hb hx),fun b o e n hb hx=>?_,u.free,fun b o e hx=>?_,u.tups,u.frzs,u.tbls⟩
 ·obtain ⟨sl,q⟩:=u.slot b o e n hb hx
  exact ⟨sl,(hs.2 b (ne e)).trans q⟩
 ·obtain ⟨o',q⟩:=u.there b o e hx
  exact ⟨o',(hs.2 b (ne e)).trans q⟩
noncomputable def tComp (k:Nat)(keep:List Nat)(wi:TI)(g:TG)(ti:TT)(tb:Addr->TS):TE:=fun σ H Q=>wi σ H fun J H1=>∀ p,H1 p=none ->
 tLoop J g ti (tb p) {nx:=fun _ H'=>Q (.ref p) H',rt:=fun _ _=>False} (inSt k keep σ) (upd H1 p (.lst []))
theorem pe_comp {X:Cx}(hc:X.calm=true){elt tg iter:Expr}{ifs:List Expr}{rest:List Comprehension}{scope:Scope}{pos:Pos}{T:List Str}{keep:List Nat}{cl:List (Str×Addr)}{wi:TI}{g:TG}{ti:TT}{tb:Addr->TS}{emit:Value->Env->Sem Unit}
  (eq:∀ it acc env,compTurn (.ListComp elt (⟨tg,iter,ifs,0⟩::rest) scope pos) 0 it acc env=turnT iter.pos tg ifs it env (emit acc env) (.compLoop (.ListComp elt (⟨tg,iter,ifs,0⟩::rest) scope pos) 0 it acc env))
  (C:CSc X scope T keep) (hcl:cloF X.env.cells scope.names []=some cl) (hi:PI X tg iter wi)
  (hb:∀ s H fp p,PG (cxC X scope cl T keep s H fp) tg g/\PIfs (cxC X scope cl T keep s H fp) ifs ti/\PU (cxC X scope cl T keep s H fp) (emit (.ref p) (cxC X scope cl T keep s H fp).env) (tb p))
  (hs:∀ x,foldedSetIterable iter X.env x=pure x:=by intro _;rfl):
  PE X (.ListComp elt (⟨tg,iter,ifs,0⟩::rest) scope pos) (tComp T.length keep wi g ti tb):=by
 intro pins s σ H Q I h
 rw [eval_ListComp]
 refine wpAny_comprehension_free (use:=none) rfl hs (clo_eq hcl) C.kind C.names ?_
 refine thn (hi pins s σ H _ I h) fun v s1 h1=>thn h1 fun itv s2 h2=>?_
 obtain ⟨it,fp,tn,J,H2,rfl,I2,TT,st2,f2,q2⟩:=h2
 refine wO1 ?_
 have I3:Inv X pins σ (upd H2 s2.heap.objs.size (.lst [])) {s2 with heap:=s2.heap.push {cls:=.type "list",data:=.seq ([]:List Value).toArray}}:=I2.lnew (t':=s2.toks) .nil (Nat.zero_le _)
 have old:∀ b∈fp,∃ o,s2.heap.get? b=some o:=fun b hb=>by
  obtain ⟨o,e,_⟩:=TT.obj 0 s2.heap st2 b hb
  exact ⟨o,e⟩
 have fne:∀ b∈fp,b≠s2.heap.objs.size:=fun b hb z=>by
  obtain ⟨o,e⟩:=old b hb
  have:=hL1 e
  rw [z] at this
  exact Nat.lt_irrefl _ this
 have f3:∀ b∈fp,FpOk X pins (upd H2 s2.heap.objs.size (.lst [])) b:=fun b hb=>⟨by rw [upd_ne (fne b hb)];exact (f2 b hb).1,(f2 b hb).2⟩
 have o3:∀ b∈fp,∃ o,({s2 with heap:=s2.heap.push {cls:=.type "list",data:=.seq ([]:List Value).toArray}}:Shared).heap.get? b=some o:=fun b hb=>by
  obtain ⟨o,e⟩:=old b hb
  exact ⟨o,hP1 _ e⟩
 have I4:=inv_comp I3 C hcl f3 o3
 obtain ⟨hg,hf,he⟩:=hb {s2 with heap:=s2.heap.push {cls:=.type "list",data:=.seq ([]:List Value).toArray}} (upd H2 s2.heap.objs.size (.lst [])) fp s2.heap.objs.size
 refine newEnv_around ?_
 have f4:∀ b∈fp,FpOk (cxC X scope cl T keep {s2 with heap:=s2.heap.push {cls:=.type "list",data:=.seq ([]:List Value).toArray}} (upd H2 s2.heap.objs.size (.lst [])) fp) [] (upd H2 s2.heap.objs.size (.lst [])) b:=fun b hb=>
  ⟨(f3 b hb).1,(I4.ok.exf b hb).1,I4.ok.exfs b hb,.inl hb,(I4.ok.exf b hb).2,fun p hp=>absurd (show p∈([]:List (Addr×Obj)) from hp) (by simp)⟩
 have st4:tn 0 (pushCells ((s2.heap.push {cls:=.type "list",data:=.seq ([]:List Value).toArray}).push {cls:=.type "dict",data:=.dict #[]}) scope.names):=
  TT.keep 0 s2.heap _ st2 fun b hb o e=>pushCells_keeps scope.names _ b o (hP1 _ (hP1 _ e))
 have loop:=comp_loop (X:=cxC X scope cl T keep {s2 with heap:=s2.heap.push {cls:=.type "list",data:=.seq ([]:List Value).toArray}} (upd H2 s2.heap.objs.size (.lst [])) fp) rfl hc (eq (.ref it) (.ref s2.heap.objs.size) _) TT hg hf he I4 st4 f4
  (q2 s2.heap.objs.size (I2.hok.fresh (nR1 _)))
 refine codeAny_mono (codeAny_compStart_list loop (TT.self X.A 0 _ _ _ st4 loop)) fun r s' hr=>?_
 cases r with
 | error e=>exact hr.elim
 | ok f=>
  obtain ⟨σ',H',I',q'⟩:=hr
  obtain ⟨m,hn,_⟩:=id I'.loc
  refine ⟨m,hn,fun h' hs'=>⟨.ref s2.heap.objs.size,H',?_,rfl,q'⟩⟩
  refine I3.call' (s':={s' with heap:=h'}) (ch:=fp) I'.os (Un.sameBut I'.base hs' (Heap.get?_none_of_le (nR1 _))) (fun b ob e=>?_) I'.bare fun b hb=>(f3 b hb).2.2.2 |> fun z=>⟨z.1,(f3 b hb).2.1,z.2.1,z.2.2⟩
  refine (I'.hok b ob e).stay (fun c w' hc q=>(hs'.2 c ?_).trans q) (fun _ q=>q) fun _ _ q=>q
  rintro rfl
  have fr:=I'.free
  rcases hc with rfl | hc
  ·exact nomatch fr.symm.trans e
  ·exact nomatch fr.symm.trans hc
section
variable {K:Fg1} {H:Hp} {mu:List Addr} {S:Sto} {p:Addr} {u:HO} {o:Ob} {n:Nat}
theorem Rd.ne {a:Addr}{x:HO}(h:H p=none)(q:Rd H a x):a≠p:=by
 rintro rfl
 rcases q with q | ⟨_,q⟩<;>(rw [h] at q;cases q)
theorem Ext.fresh (hp:H p=none):Ext mu mu H (upd H p u) where
 pre:=List.prefix_rfl
 old:=fun a o h _=>by rw [upd_ne (ne_of_none h hp)];exact h
 tup:=fun a xs h=>by
  have ne:=Rd.ne hp h
  rcases h with h | ⟨ob,h⟩
  ·exact .inl (by rw [upd_ne ne];exact h)
  ·exact .inr ⟨ob,by rw [upd_ne ne];exact h⟩
 frz:=fun a o x h=>by rw [upd_ne (ne_of_none h hp)];exact h
 new:=fun _ h=>.inl h
theorem Ext.new_ (hp:H p=none):Ext mu (mu++[p]) H (upd H p u) where
 pre:=List.prefix_append _ _
 old:=(Ext.fresh (mu:=mu) hp).old
 tup:=(Ext.fresh (mu:=mu) hp).tup
 frz:=(Ext.fresh (mu:=mu) hp).frz
 new:=fun a h=>by
  rcases List.mem_append.mp h with h | h
  ·exact .inl h
  ·have:a=p:=by simpa using h
   subst this
   exact .inr hp
theorem Sim.fresh (s:Sim K H mu S)(hp:H p=none):Sim K (upd H p u) mu S:=
 ⟨s.len,s.nd,fun k o a h1 h2=>(s.ob k o a h1 h2).keep (Ext.fresh hp) fun ob e=>by rw [upd_ne (ne_of_none e hp)];exact e⟩
theorem Sim.notin (s:Sim K H mu S)(hp:H p=none):p∉mu:=fun h=>by
 obtain ⟨o,e⟩:=s.here h
 rw [hp] at e;cases e
theorem ObR.more {a:Addr}{mu':List Addr}{H':Hp}(e:Ext mu mu' H H')(h:∀ o,H a=some o->H' a=some o):∀ {o:Ob},ObR K H mu a o->ObR K H' mu' a o
 | .lst _,⟨vs,q,r⟩=>⟨vs,h _ q,r.ext e⟩
 | .dct _,⟨ws,q,r⟩=>⟨ws,h _ q,KR.ext e r⟩
 | .dcT _,⟨ws,q,r,l⟩=>⟨ws,h _ q,KT.ext e r,l⟩
 | .iset _,q=>⟨h _ q.1,q.2⟩
 | .dcF _,⟨ws,⟨o,u,e1,e2⟩,r,l⟩=>⟨ws,⟨o,u,h _ e1,e2⟩,KT.ext e r,l⟩
theorem Sim.new (s:Sim K H mu S)(hp:H p=none)(ho:ObR K (upd H p u) (mu++[p]) p o):Sim K (upd H p u) (mu++[p]) (S++[o]):=by
 refine ⟨by rw [lA1,lA1,s.len];rfl,?_,fun k o' a h1 h2=>?_⟩
 ·rw [List.nodup_append]
  refine ⟨s.nd,by simp,fun a ha b hb e=>?_⟩
  have:b=p:=by simpa using hb
  subst this;subst e
  exact s.notin hp ha
 ·by_cases hk:k<S.length
  ·rw [gL1 hk] at h1
   rw [gL1 (by rw [s.len];exact hk)] at h2
   exact (s.ob k o' a h1 h2).more (Ext.new_ hp) fun ob e=>by rw [upd_ne (ne_of_none e hp)];exact e
  ·have hk':k=S.length:=by
    have:=(gE1.mp h1).1
    rw [lA1] at this
    simp at this
    lia
   subst hk'
   rw [gR1 (nR1 _)] at h1
   rw [<- s.len,gR1 (nR1 _)] at h2
   simp at h1 h2
   subst h1;subst h2
   exact ho
theorem Ext.put {x:HO}(hp:H p=some x)(hm:Mut (some x))(hin:p∈mu):Ext mu mu H (upd H p u) where
 pre:=List.prefix_rfl
 old:=fun a o h n=>by rw [upd_ne (fun e=>n (by rw [e];exact hin))];exact h
 tup:=fun a xs h=>by
  have ne:a≠p:=by
   rintro rfl
   rcases h with h | ⟨_,h⟩<;>(rw [hp] at h;cases h;exact hm)
  rcases h with h | ⟨ob,h⟩
  ·exact .inl (by rw [upd_ne ne];exact h)
  ·exact .inr ⟨ob,by rw [upd_ne ne];exact h⟩
 frz:=fun a o y h=>by
  rw [upd_ne (fun e=>?_)]
  ·exact h
  ·subst e;rw [hp] at h;cases h;exact hm
 new:=fun _ h=>.inl h
theorem Sim.put (s:Sim K H mu S){x:HO}(hn:mu[n]? = some p)(hp:H p=some x)(hm:Mut (some x))(ho:ObR K (upd H p u) mu p o):Sim K (upd H p u) mu (S.set n o):=by
 refine ⟨by rw [List.length_set];exact s.len,s.nd,fun k o' a h1 h2=>?_⟩
 by_cases hk:n=k
 ·subst hk
  have hl:n<S.length:=by
   have:=(gE1.mp h1).1
   rwa [List.length_set] at this
  rw [List.getElem?_set_self hl] at h1
  cases h1
  rw [hn] at h2;cases h2
  exact ho
 ·rw [gS1 hk] at h1
  have ne:a≠p:=fun e=>by
   subst e
   obtain ⟨l1,e1⟩:=gE1.mp hn
   obtain ⟨l2,e2⟩:=gE1.mp h2
   exact hk ((List.getElem_inj s.nd).mp (e1.trans e2.symm))
  exact (s.ob k o' a h1 h2).keep (Ext.put hp hm (gM1 hn)) fun ob e=>by rw [upd_ne ne];exact e
theorem Sim.lst (s:Sim K H mu S){ds:List D}{a:Addr}(h:S[n]? = some (.lst ds))(hn:mu[n]? = some a):∃ vs,H a=some (.lst vs)/\Reps K H mu ds vs:=s.ob n _ a h hn
theorem Sim.dcT (s:Sim K H mu S){ks:List (TK×D)}{a:Addr}(h:S[n]? = some (.dcT ks))(hn:mu[n]? = some a):∃ ws,H a=some (.ext (DictAt a ws))/\KT K H mu ks ws/\ws.length<=sizeLine:=s.ob n _ a h hn
theorem Sim.dct (s:Sim K H mu S){ks:List (Key×D)}{a:Addr}(h:S[n]? = some (.dct ks))(hn:mu[n]? = some a):∃ ws,H a=some (.dK ws)/\KR K H mu ks ws:=s.ob n _ a h hn
theorem Sim.newL (s:Sim K H mu S){ds:List D}{vs:List V}(r:Reps K H mu ds vs)(hp:H p=none):Sim K (upd H p (.lst vs)) (mu++[p]) (S++[.lst ds]):=s.new hp ⟨vs,upd_same,r.ext (Ext.new_ hp)⟩
theorem Sim.putL (s:Sim K H mu S){ds:List D}{vs ws:List V}(r:Reps K H mu ds vs)(hn:mu[n]? = some p)(hp:H p=some (.lst ws)):Sim K (upd H p (.lst vs)) mu (S.set n (.lst ds)):=
 s.put hn hp trivial ⟨vs,upd_same,r.ext (Ext.put hp trivial (gM1 hn))⟩
end
theorem new_at {mu:List Addr}{S:Sto}(h:mu.length=S.length)(p:Addr):(mu++[p])[S.length]? = some p:=by
 rw [<- h,gR1 (nR1 _)];simp
noncomputable def mTup (a:FA):FE:=fun r S=>(a r S).bind fun p=>if p.1.length<=sizeLine then some (.tup p.1,p.2) else none
noncomputable def mLst (a:FA):FE:=fun r S=>(a r S).bind fun p=>if p.1.length<=sizeLine then some (.ref p.2.length,p.2++[.lst p.1]) else none
section
variable {X:Cx} {es:List Expr} {pos:Pos} {a:FA}
theorem me_tup {x1}(h:MA X es a):ME X (.Tuple es x1 pos) (mTup a):=pe_imp (pe_tup h) <| by
 rintro σ H Q ⟨r,mu,S,d,S',he,hs,hm,hc⟩
 obtain ⟨⟨ds,S1⟩,e1,hm⟩:=oB1.mp hm
 dsimp only at hm
 split at hm
 ·rename_i hl
  cases hm
  refine ⟨r,mu,S,ds,_,he,hs,e1,fun vs H1 mu1 x1 r1 s1=>⟨by rw [<- r1.length];exact hl,fun p hp=>?_⟩⟩
  exact hc _ _ mu1 (x1.trans (Ext.fresh hp)) (.tup (SqT.of upd_same) (r1.ext (Ext.fresh hp))) (s1.fresh hp)
 ·cases hm
theorem me_lst (h:MA X es a):ME X (.List es pos) (mLst a):=pe_imp (pe_lst h) <| by
 rintro σ H Q ⟨r,mu,S,d,S',he,hs,hm,hc⟩
 obtain ⟨⟨ds,S1⟩,e1,hm⟩:=oB1.mp hm
 dsimp only at hm
 split at hm
 ·rename_i hl
  cases hm
  refine ⟨r,mu,S,ds,_,he,hs,e1,fun vs H1 mu1 x1 r1 s1=>⟨by rw [<- r1.length];exact hl,fun p hp=>?_⟩⟩
  exact hc _ _ (mu1++[p]) (x1.trans (Ext.new_ hp)) (.ref (new_at s1.len p)) (s1.newL r1 hp)
 ·cases hm
end
noncomputable def inEv (k:Nat)(keep:List Nat)(r:Ev):Ev:=List.replicate k none++keep.map fun i=>(r[i]?).join
noncomputable def mTrue:FT:=fun _ S=>some (true,S)
theorem inEnv {K:Fg1}{H:Hp}{mu:List Addr}{r:Ev}{σ:L2.St}(k:Nat)(keep:List Nat)(h:EnvR K H mu r σ):EnvR K H mu (inEv k keep r) (inSt k keep σ):=by
 refine ⟨by unfold inEv inSt;rw [lA1,lA1,lM1,lM1,lR1,lR1],fun i d e=>?_⟩
 unfold inEv at e
 unfold inSt
 by_cases hi:i<k
 ·rw [gL1 (by rw [lR1];exact hi),List.getElem?_replicate] at e
  split at e<;>cases e
 ·rw [gR1 (by rw [lR1];lia),lR1,gP1] at e
  rw [gR1 (by rw [lR1];lia),lR1,gP1]
  obtain ⟨j,ej,e⟩:=oM1.mp e
  rw [ej]
  have e':r[j]? = some (some d):=by
   cases q:r[j]? with
   | none=>rw [q] at e;cases e
   | some o=>rw [q] at e;cases e;rfl
  obtain ⟨v,ev,rv⟩:=h.val j d e'
  exact ⟨v,by rw [oP1,ev];rfl,rv⟩
section
variable {X:Cx}
theorem pifs_imp {ifs:List Expr}{t t':L2.TT}(h:PIfs X ifs t)(i:∀ σ H Q,t' σ H Q->t σ H Q):PIfs X ifs t':=fun pins s σ H Q I q=>h pins s σ H Q I (i σ H Q q)
theorem mif_nil:PIfs X [] (tMT X.K mTrue):=pifs_imp pifs_nil fun σ H Q ⟨r,mu,S,b,S',he,hs,hm,hc⟩=>by cases hm;exact hc H mu (.refl _ _) hs
theorem mif_one {c:Expr}{t:FT}(h:MT X c t):PIfs X [c] (tMT X.K t):=pifs_one h
end
open PySem.AutoSeq1 (wpAny_loadPart')
noncomputable def SIt (b:Bool)(h:Heap)(it a:Addr)(i:Nat):Prop:=match b with
 | true=>h.IsListIter it a i
 | false=>h.IsTupleIter it a i
noncomputable def SCo (b:Bool)(h:Heap)(a:Addr)(xs:Array Value):Prop:=match b with
 | true=>h.IsList a xs
 | false=>h.IsTuple a xs
theorem SIt.to {b:Bool}{h h':Heap}{it a:Addr}{i:Nat}(x:SIt b h it a i)(k:∀ o,h.get? it=some o->h'.get? it=some o):SIt b h' it a i:=by
 cases b<;>(obtain ⟨o,e,r⟩:=x;exact ⟨o,k o e,r⟩)
theorem SIt.rec_ {b:Bool}{h:Heap}{it a:Addr}{i:Nat}(x:SIt b h it a i):∃ o,h.get? it=some o /\ ∀ v,o.data ≠ .cell v:=by
 cases b<;>(obtain ⟨o,e,c,d⟩:=x;exact ⟨o,e,fun v z=>by rw [d] at z;cases z⟩)
theorem SCo.to {b:Bool}{h h':Heap}{a:Addr}{xs:Array Value}(x:SCo b h a xs)(k:∀ o,h.get? a=some o->h'.get? a=some o):SCo b h' a xs:=by
 cases b<;>(obtain ⟨o,e,r⟩:=x;exact ⟨o,k o e,r⟩)
noncomputable def itObj (b:Bool)(a:Addr):Obj:=match b with
 | true=>{cls:=.type "list_iterator",data:=.fields #[.ref a,.int 0 0]}
 | false=>{cls:=.type "tuple_iterator",data:=.fields #[.ref a,.int 0 0]}
section
variable {prog:Program} {w:World} {A:Around} {E:Value->Shared->Prop} {s:Shared}
theorem sit_new {b:Bool}{h:Heap}{it a:Addr}(e:h.get? it=some (itObj b a)):SIt b h it a 0:=by
 cases b<;>exact ⟨_,e,rfl,rfl⟩
theorem sit_iter {b:Bool}{a:Addr}{xs:Array Value}{Q:Value->Shared->Prop}(x:SCo b s.heap a xs)(h:Q (.ref s.heap.objs.size) {s with heap:=s.heap.push (itObj b a)}):wpAny (model prog w) A (pyIter (.ref a)) Q E s:=by
 cases b
 ·exact wpAny_pyIter_tuple x h
 ·exact wpAny_pyIter_list x h
theorem next_tup {it l:Addr}{i:Nat}{xs:Array Value}{x:Value}{Q:Value->Shared->Prop}(ti:s.heap.IsTupleIter it l i)(tl:s.heap.IsTuple l xs)(hx:xs[i]? = some x)
  (hQ:∀ h',h'.IsTupleIter it l (i+1)->Heap.SameBut it s.heap h'->Q x {s with heap:=h'}):wpAny (model prog w) A (Builtin.SmallTypes.nextOf (.ref it)) Q E s:=by
 obtain ⟨o,ho,hc,hd⟩:=id ti;obtain ⟨ob,hob,_,nb,hdb⟩:=tl;unfold Builtin.SmallTypes.nextOf
 refine wB1 (wpAny_callSpecial?_slot (name:=Str.ofString "__next__") ti.typeIs F.slot_tuple_iterator_next (wE1 F.slot_tuple_iterator_next ti.typeIs F.entry_tuple_iterator_next ?_ (F.args_tuple_iterator_next_1 _)))
 show wpAny _ _ (field (.ref it) 0 >>= _) _ _ s;refine wB1 (wpAny_field ho hd (x:=.ref l) rfl ?_)
 show wpAny _ _ (if (Value.ref l == Value.none)=true then _ else _) _ _ s;rw [if_neg (show ¬ ((Value.ref l == Value.none)=true) from Bool.false_ne_true)]
 show wpAny _ _ (field (.ref it) 1 >>= _) _ _ s;refine wB1 (wpAny_field ho hd (x:=.int i 0) rfl ?_)
 show wpAny _ _ (seqItems? (.ref l) >>= _) _ _ s;refine wB1 (wpAny_seqItems hob hdb ?_)
 simp only [Int.toNat_natCast,hx]
 refine wB1 (wpAny_setField ho hd (by simp) (wP1 ⟨x,rfl,wP1 (hQ _ ⟨_,hW1 _ ho (Obj.isFreed_of_fields (Obj.data_mapFields hd _)),(Obj.cls_mapFields ..).trans hc,by rw [Obj.data_mapFields hd];simp [rawInt]⟩ (Heap.SameBut.update ..))⟩))
theorem next_tup_end {it l:Addr}{i:Nat}{xs:Array Value}{Q:Value->Shared->Prop}(hh:A.handled=none)(ti:s.heap.IsTupleIter it l i)(tl:s.heap.IsTuple l xs)(hx:xs[i]? = none)
  (hE:∀ h' e,Heap.ExtBut it s.heap h'->(∃ o,h'.get? e=some o/\o.cls = .type "StopIteration")->E (.ref e) {s with heap:=h'}):wpAny (model prog w) A (Builtin.SmallTypes.nextOf (.ref it)) Q E s:=by
 obtain ⟨o,ho,hc,hd⟩:=id ti;obtain ⟨ob,hob,_,nb,hdb⟩:=tl;unfold Builtin.SmallTypes.nextOf
 refine wB1 (wpAny_callSpecial?_slot (name:=Str.ofString "__next__") ti.typeIs F.slot_tuple_iterator_next (wE1 F.slot_tuple_iterator_next ti.typeIs F.entry_tuple_iterator_next ?_ (F.args_tuple_iterator_next_1 _)))
 show wpAny _ _ (field (.ref it) 0 >>= _) _ _ s;refine wB1 (wpAny_field ho hd (x:=.ref l) rfl ?_)
 show wpAny _ _ (if (Value.ref l == Value.none)=true then _ else _) _ _ s;rw [if_neg (show ¬ ((Value.ref l == Value.none)=true) from Bool.false_ne_true)]
 show wpAny _ _ (field (.ref it) 1 >>= _) _ _ s;refine wB1 (wpAny_field ho hd (x:=.int i 0) rfl ?_)
 show wpAny _ _ (seqItems? (.ref l) >>= _) _ _ s;refine wB1 (wpAny_seqItems hob hdb ?_)
 simp only [Int.toNat_natCast,hx];refine wB1 (wpAny_rule (wB1 (wpAny_setField ho hd (by simp) ?_)))
 show wpAny _ _ (newExc (.type "StopIteration") [] >>= _) _ _ _;refine wB1 ?_
 simp only [newExc,newTuple];refine wB1 (wO1 ?_ (by size_fits))
 refine wB1 (m:=firstArgMember _ _) (wpAny_of_eq (a:=Value.none) (by first | rfl | (simp only [firstArgMember];rfl)) ?_);refine wO1 ?_ (by size_fits)
 simp only [raiseNew];refine wB1 (wpAny_handled ?_)
 first | rw [show A.in1.handled=none from hh] | rw [hh]
 refine wB1 (wP1 (wpAny_throw ?_));exact hE _ _ (((Heap.SameBut.update ..).extBut.push _).push _) ⟨_,hS1 _ rfl,rfl⟩
theorem next_seq {b:Bool}{it l:Addr}{i:Nat}{xs:Array Value}{x:Value}{Q:Value->Shared->Prop}(ti:SIt b s.heap it l i)(tl:SCo b s.heap l xs)(hx:xs[i]? = some x)
  (hQ:∀ h',SIt b h' it l (i+1)->Heap.SameBut it s.heap h'->Q x {s with heap:=h'}):wpAny (model prog w) A (Builtin.SmallTypes.nextOf (.ref it)) Q E s:=by
 cases b
 ·exact next_tup ti tl hx hQ
 ·exact wpAny_nextOf_list_item ti tl hx hQ
theorem next_seq_end {b:Bool}{it l:Addr}{i:Nat}{xs:Array Value}{Q:Value->Shared->Prop}(hh:A.handled=none)(ti:SIt b s.heap it l i)(tl:SCo b s.heap l xs)(hx:xs[i]? = none)
  (hE:∀ h' e,Heap.ExtBut it s.heap h'->(∃ o,h'.get? e=some o/\o.cls = .type "StopIteration")->E (.ref e) {s with heap:=h'}):wpAny (model prog w) A (Builtin.SmallTypes.nextOf (.ref it)) Q E s:=by
 cases b
 ·exact next_tup_end hh ti tl hx hE
 ·exact wpAny_nextOf_list_end hh ti tl hx hE
theorem enum_new {b:Bool}(l:Addr)(xs:Array Value):
  Meets (Builtin.«enumerate.__new__» ⟨[.type "enumerate",.ref l],[]⟩) (fun _ R s=>SCo b s.heap l xs /\
   R (.ok (.ret (.ref (s.heap.push (itObj b l)).objs.size))) {s with heap:=(s.heap.push (itObj b l)).push {cls:=.type "enumerate",data:=.fields #[.none,.bool false,.ref s.heap.objs.size,rawInt 0,.none,.none]}}):=
 .of_wp fun prog w A R s h=>by
  obtain ⟨hp,g,d,tk,os⟩:=s;obtain ⟨hl,h⟩:=h;have hsub:=sub_enumerate
  have hL:SCo b (Shared.heap ⟨hp,g,d,tk,os⟩) l xs:=hl
  obtain ⟨ol,el⟩:∃ o,hp.get? l=some o:=by cases b<;>(obtain ⟨o,e,_⟩:=hl;exact ⟨o,e⟩)
  wp_walk using wpAny_loadPart' el
  refine wpAny_stack_any fun st=>wP1 ?_
  split
  ·rename_i c _ _ _ _ _
   cases (c == Value.type "enumerate")<;>(wp_walk using wpAny_loadPart' el,sit_iter hL;exact ⟨_,rfl,h⟩)
  ·wp_walk using wpAny_loadPart' el,sit_iter hL
   exact ⟨_,rfl,h⟩
theorem enum_call {b:Bool}{l:Addr}{xs:Array Value}{Q:Value->Shared->Prop}(hL:SCo b s.heap l xs)
  (h:∀ h',IsEnum h' (s.heap.objs.size+1) s.heap.objs.size 0 .none->SIt b h' s.heap.objs.size l 0->h'.objs.size=s.heap.objs.size+2->(∀ b o,s.heap.get? b=some o->h'.get? b=some o)->Q (.ref (s.heap.objs.size+1)) {s with heap:=h'}):
  wpAny (model prog w) A (call (.type "enumerate") [.ref l]) Q E s:=by
 refine callType_new F.called_enumerate (by decide) (F.typeCall_enumerate_1 _) (F.newCall_enumerate_1 _) (fun obj=>F.args_object_init_2 obj _) F.entry_enumerate_new (enum_new (b:=b) l xs) ⟨hL,?_⟩
 have hz:(s.heap.push (itObj b l)).objs.size=s.heap.objs.size+1:=hZ1 ..
 show _/\_
 rw [hz]
 have he:IsEnum ((s.heap.push (itObj b l)).push {cls:=.type "enumerate",data:=.fields #[.none,.bool false,.ref s.heap.objs.size,rawInt 0,.none,.none]}) (s.heap.objs.size+1) s.heap.objs.size 0 .none:=by
  have q:=hS1 (s.heap.push (itObj b l)) (o:={cls:=.type "enumerate",data:=.fields #[.none,.bool false,.ref s.heap.objs.size,rawInt 0,.none,.none]}) rfl
  rw [hz] at q;exact q
 have hi:(s.heap.push (itObj b l)).get? s.heap.objs.size=some (itObj b l):=hS1 _ (by cases b<;>rfl)
 refine ⟨⟨_,he,rfl⟩,h _ he (sit_new (hP1 _ hi)) (by rw [hZ1,hz]) fun c o x=>hP1 _ (hP1 _ x)⟩
theorem enum_next {b:Bool}{e it l:Addr}{i:Nat}{xs:Array Value}{x old:Value}{Q:Option Value->Shared->Prop}(he:IsEnum s.heap e it i old)(ti:SIt b s.heap it l i)(tl:SCo b s.heap l xs)(hx:xs[i]? = some x)(hne:e≠it)
  (hQ:∀ h',IsEnumOut h' e it ((i:Int)+1) x s.heap.objs.size->SIt b h' it l (i+1)->h'.get? s.heap.objs.size=some {cls:=.type "tuple",data:=.seq #[.int i s.toks,x]}->h'.objs.size=s.heap.objs.size+1 ->
   (∀ b o,b≠e->b≠it->s.heap.get? b=some o->h'.get? b=some o)->Q (some (.ref s.heap.objs.size)) {s with heap:=h',toks:=s.toks+1}):wpAny (model prog w) A (pyNext (.ref e)) Q E s:=by
 have hT:s.TypeIs (.ref e) "enumerate":=⟨_,he,rfl⟩
 unfold pyNext
 refine wB1 (wpAny_attempt (wpAny_callSpecial?_slot (name:=Str.ofString "__next__") hT F.slot_enumerate_next (wE1 F.slot_enumerate_next hT F.entry_enumerate_next ?_ (F.args_enumerate_next_1 _))))
 obtain ⟨hp,g,d,tk,os⟩:=s
 show wpAny _ _ (field (.ref e) 2 >>= _) _ _ _;refine wB1 (wpAny_field he rfl (x:=.ref it) rfl ?_)
 refine wB1 (next_seq ti tl hx fun h1 ti1 s1=>?_)
 replace s1:Heap.SameBut it hp h1:=s1
 have he1:IsEnum h1 e it i old:=(s1.2 e hne).trans he
 show wpAny _ _ (field (.ref e) 3 >>= _) _ _ ⟨h1,g,d,tk,os⟩;refine wB1 (wpAny_field he1 rfl (x:=rawInt i) rfl ?_)
 show wpAny _ _ (field (.ref e) 4 >>= _) _ _ ⟨h1,g,d,tk,os⟩;refine wB1 (wpAny_field he1 rfl (x:=.none) rfl ?_)
 show wpAny _ _ (mkInt i >>= _) _ _ ⟨h1,g,d,tk,os⟩;refine wB1 (wpAny_mkInt ?_)
 show wpAny _ _ (setField (.ref e) 3 (rawInt ((i:Int)+1)) >>= _) _ _ ⟨h1,g,d,tk+1,os⟩;refine wB1 (wS1 he1 (by simp) fun h2 he2 s2=>?_)
 replace s2:Heap.SameBut e h1 h2:=s2
 replace he2:IsEnum h2 e it ((i:Int)+1) old:=he2
 show wpAny _ _ (setField (.ref e) 4 .none >>= _) _ _ ⟨h2,g,d,tk+1,os⟩;refine wB1 (wS1 he2 (by simp) fun h3 he3 s3=>?_)
 replace s3:Heap.SameBut e h2 h3:=s3
 replace he3:IsEnum h3 e it ((i:Int)+1) old:=he3
 show wpAny _ _ (newTuple [.int i tk,x] >>= _) _ _ ⟨h3,g,d,tk+1,os⟩;refine wB1 (wpAny_newTuple ?_)
 have he4:IsEnum (h3.push {cls:=.type "tuple",data:=.seq #[.int i tk,x]}) e it ((i:Int)+1) old:=hP1 _ he3
 generalize hh4:h3.push {cls:=.type "tuple",data:=.seq #[.int i tk,x]}=h4 at he4
 have hsz:h3.objs.size=hp.objs.size:=by rw [s3.1,s2.1,s1.1]
 have hel:e<hp.objs.size:=hL1 he
 have ht4:h4.get? hp.objs.size=some {cls:=.type "tuple",data:=.seq #[.int i tk,x]}:=by rw [<- hh4,<- hsz];exact hS1 _ rfl
 have hz4:h4.objs.size=hp.objs.size+1:=by rw [<- hh4,hZ1,hsz]
 have hk4:∀ b o,b≠e->b≠it->hp.get? b=some o->h4.get? b=some o:=fun b o hbe hbi hb=>by
  rw [<- hh4];exact hP1 _ (s3.extBut b o hbe (s2.extBut b o hbe (s1.extBut b o hbi hb)))
 have ti4:SIt b h4 it l (i+1):=ti1.to fun o q=>by rw [<- hh4];exact hP1 _ (s3.extBut _ _ (Ne.symm hne) (s2.extBut _ _ (Ne.symm hne) q))
 show wpAny _ _ (Builtin.SmallTypes.ownedTupleIsFree (.ref e) >>= _) _ _ ⟨h4,g,d,tk+1,os⟩
 rw [hsz];clear hh4 he3 s3 he2 s2 he1 s1 ti1 hsz h3 h2 h1
 refine wB1 ?_;unfold Builtin.SmallTypes.ownedTupleIsFree
 refine wB1 (wpAny_field he4 rfl (x:=.none) rfl (wP1 ?_));simp only [if_true]
 refine wB1 (wpAny_rule ?_);refine wB1 (wpAny_field he4 rfl (x:=old) rfl ?_)
 refine wB1 (wS1 he4 (by simp) fun h5 he5 s5=>?_)
 replace s5:Heap.SameBut e h4 h5:=s5
 replace he5:IsEnum h5 e it ((i:Int)+1) x:=he5
 show wpAny _ _ (Builtin.SmallTypes.ownedTupleHandOut (.ref e) (.ref hp.objs.size) >>= _) _ _ ⟨h5,g,d,tk+1,os⟩
 refine wB1 ?_;unfold Builtin.SmallTypes.ownedTupleHandOut
 refine wB1 (wS1 he5 (by simp) fun h6 he6 s6=>?_)
 replace s6:Heap.SameBut e h5 h6:=s6
 replace he6:IsEnumOut h6 e it ((i:Int)+1) x hp.objs.size:=he6
 refine wS1 he6 (by simp) fun h7 he7 s7=>?_
 replace s7:Heap.SameBut e h6 h7:=s7
 replace he7:IsEnumOut h7 e it ((i:Int)+1) x hp.objs.size:=he7
 have up:∀ c o,c≠e->h4.get? c=some o->h7.get? c=some o:=fun c o z q=>s7.extBut _ _ z (s6.extBut _ _ z (s5.extBut _ _ z q))
 refine wB1 (wpAny_letGo (wP1 ⟨_,rfl,wP1 (hQ h7 he7 (ti4.to fun o q=>up _ o (Ne.symm hne) q) (up _ _ (nG1 hel) ht4) (by rw [s7.1,s6.1,s5.1,hz4]) fun c o hbe hbi hb=>up c o hbe (hk4 c o hbe hbi hb))⟩))
theorem enum_end {b:Bool}{e it l:Addr}{i:Nat}{xs:Array Value}{old:Value}{Q:Option Value->Shared->Prop}(hh:A.handled=none)(he:IsEnum s.heap e it i old)(ti:SIt b s.heap it l i)(tl:SCo b s.heap l xs)(hx:xs[i]? = none)
  (hQ:∀ h',Heap.ExtBut it s.heap h'->Q none {s with heap:=h'}):wpAny (model prog w) A (pyNext (.ref e)) Q E s:=by
 have hT:s.TypeIs (.ref e) "enumerate":=⟨_,he,rfl⟩
 unfold pyNext
 refine wB1 (wpAny_attempt (wpAny_callSpecial?_slot (name:=Str.ofString "__next__") hT F.slot_enumerate_next (wE1 F.slot_enumerate_next hT F.entry_enumerate_next ?_ (F.args_enumerate_next_1 _))))
 show wpAny _ _ (field (.ref e) 2 >>= _) _ _ _;refine wB1 (wpAny_field he rfl (x:=.ref it) rfl ?_)
 refine wB1 (next_seq_end hh ti tl hx fun h' x he' hx'=>?_);obtain ⟨o,ho,hc⟩:=hx'
 refine wB1 (wpAny_isInstance (T:="StopIteration") (b:=true) ⟨o,ho,hc⟩ isSubtype_stop ?_);exact wP1 (hQ _ he')
theorem enum_self {e it:Addr}{i:Int}{old:Value}{Q:Value->Shared->Prop}(he:IsEnum s.heap e it i old)(h:Q (.ref e) s):wpAny (model prog w) A (pyIter (.ref e)) Q E s:=by
 have hT:s.TypeIs (.ref e) "enumerate":=⟨_,he,rfl⟩
 refine wpAny_pyIter_slot hT F.slot_enumerate_iter (wE1 F.slot_enumerate_iter hT F.entry_enumerate_iter ?_ (F.args_enumerate_iter_1 _))
 show wpAny _ _ (ret (.ref e)) _ _ s
 exact wP1 ⟨_,rfl,"enumerate",_,hT,F.slot_enumerate_next.lookup,h⟩
end
open PySem.AutoSeq1 (wpAny_loadPart')
section
variable {prog:Program} {w:World} {A:Around} {E:Value->Shared->Prop} {s:Shared} {b1 b2:Bool}
end
noncomputable def SqB (K:Fg1)(b:Bool)(H:Hp)(a:Addr)(xs:List V):Prop:=match b with
 | true=>SqL K H a xs
 | false=>SqT K H a xs
section
variable {X:Cx} {pins:List (Addr×Obj)} {σ:L2.St} {H:Hp} {s:Shared}
theorem sqb_at {b:Bool}{a:Addr}{xs:List V}(I:Inv X pins σ H s)(h:SqB X.K b H a xs):∃ its:List Value,Vals xs its/\SCo b s.heap a its.toArray/\xs.length<=sizeLine:=by
 cases b
 ·obtain ⟨its,r,p,z⟩:=I.tuple h
  exact ⟨its,r,p,z⟩
 ·obtain ⟨its,r,p,z⟩:=I.list h
  exact ⟨its,r,p.isList,z⟩
theorem sqb_inj {b:Bool}{a:Addr}{xs ys:List V}(I:Inv X pins σ H s)(h:SqB X.K b H a xs)(h':SqB X.K b H a ys):xs=ys:=by
 cases b
 ·exact I.tuple_inj h h'
 ·exact I.list_inj h h'
theorem inv_pair (I:Inv X pins σ H s){fp:List Addr}(hf:∀ b∈fp,FpOk X pins H b){h':Heap}{p:Addr}{xs:List V}{its:List Value}{t':Nat}(hp:s.heap.objs.size<=p)(kk:∀ b o,b∉fp->s.heap.get? b=some o->h'.get? b=some o)
  (tp:IsTup h' p its.toArray) (rv:Vals xs its) (hz:xs.length<=sizeLine):Inv X pins σ (upd H p (.tup xs)) {s with heap:=h',toks:=t'}:=by
 have hn:H p=none:=I.hok.fresh hp
 have neP:∀ {b o},s.heap.get? b=some o->b≠p:=fun e=>nN1 (nL1 (hL1 e) hp)
 have nf:∀ {b u},H b=some u->b∉fp:=fun e z=>by rw [(hf _ z).1] at e;cases e
 refine I.step (g':=s.gens) (d':=s.drawn) (ch:=fp) (fun b hb=>⟨(hf b hb).2.2.2.1,(hf b hb).2.1,(hf b hb).2.2.2.2.1,(hf b hb).2.2.2.2.2⟩) (fun b o _ _ hc e _=>kk b o hc e) (fun b o _ _ hc e _=>⟨o.slots,kk b o hc e⟩) (fun b o _ e n=>?_)
  (fun b o hc e=>⟨o,kk b o hc e⟩) (fun b ys e=>?_) (fun b o u e=>?_) (fun b ps e=>⟨#[],?_⟩) (fun m hm=>?_) (fun b u e=>?_) I.bare
 ·rw [upd_ne (neP e)];exact n
 ·rw [upd_ne (ne_of_none e hn)];exact e
 ·rw [upd_ne (ne_of_none e hn)];exact e
 ·rw [upd_ne (ne_of_none e hn),e];simp
 ·obtain ⟨o,es,ep,ho,r⟩:=hm
  exact ⟨o,es,ep,kk _ o (fun z=>(hf _ z).2.1 rfl) ho,r⟩
 ·by_cases hb:b=p
  ·subst hb;rw [upd_same] at e;cases e
   exact ⟨hz,its,rv,tp⟩
  ·rw [upd_ne hb] at e
   refine (I.hok b u e).stay (fun c v hc q=>kk c v ?_ q) (fun c q=>by rw [upd_ne (ne_of_none q hn)];exact q) fun c ys q=>by rw [upd_ne (ne_of_none q hn)];exact q
   rcases hc with z | z
   ·rw [z];exact nf e
   ·exact nf z
theorem inv_turned (I:Inv X pins σ H s){fp:List Addr}(hf:∀ b∈fp,FpOk X pins H b){h':Heap}{t':Nat}(kk:∀ b o,b∉fp->s.heap.get? b=some o->h'.get? b=some o):Inv X pins σ H {s with heap:=h',toks:=t'}:=by
 have nf:∀ {b u},H b=some u->b∉fp:=fun e z=>by rw [(hf _ z).1] at e;cases e
 refine I.step (g':=s.gens) (d':=s.drawn) (ch:=fp) (fun b hb=>⟨(hf b hb).2.2.2.1,(hf b hb).2.1,(hf b hb).2.2.2.2.1,(hf b hb).2.2.2.2.2⟩) (fun b o _ _ hc e _=>kk b o hc e) (fun b o _ _ hc e _=>⟨o.slots,kk b o hc e⟩) (fun b o _ e n=>n)
  (fun b o hc e=>⟨o,kk b o hc e⟩) (fun b ys e=>e) (fun b o u e=>e) (fun b ps e=>⟨#[],by rw [e];simp⟩) (fun m hm=>?_) (fun b u e=>?_) I.bare
 ·obtain ⟨o,es,ep,ho,r⟩:=hm
  exact ⟨o,es,ep,kk _ o (fun z=>(hf _ z).2.1 rfl) ho,r⟩
 ·refine (I.hok b u e).stay (fun c v hc q=>kk c v ?_ q) (fun c q=>q) fun c ys q=>q
  rcases hc with z | z
  ·rw [z];exact nf e
  ·exact nf z
end
theorem two_fits:(2:Nat)<=sizeLine:=by decide
noncomputable def Ite (K:Fg1)(b:Bool)(a:Addr):It:=
 ⟨fun i H=>∃ xs x,SqB K b H a xs/\xs[i]? = some x,fun i H x H'=>∃ p v,H p=none/\x = .ref p/\H'=upd H p (.tup [.int i,v]) /\ ∀ xs,SqB K b H a xs->xs[i]? = some v,fun i H=>∃ xs,SqB K b H a xs/\xs.length<=i⟩
theorem turn_enum {P:Program}{w:World}{K:Fg1}{elts:List Expr}{k:Nat}{pos:Pos}(b:Bool)(a e it:Addr)(ne:e≠it):Turn P w K (.Tuple elts k pos) (Ite K b a) [e,it] e (fun i h=>(∃ old,IsEnum h e it (i:Nat) old)/\SIt b h it a i) where
 mem:=by simp
 obj:=by
  rintro i h ⟨⟨old,st⟩,si⟩ c hc
  rcases List.mem_cons.mp hc with z | z
  ·subst z;exact ⟨_,st,fun v q=>by cases q⟩
  ·have z':c=it:=by simpa using z
   subst z';exact si.rec_
 keep:=fun i h h' ⟨⟨old,st⟩,si⟩ kk=>⟨⟨old,kk e (by simp) _ st⟩,si.to fun o q=>kk it (by simp) o q⟩
 item:=by
  intro X hP hw hK hc i pins s σ H E I hf st hg
  subst hP hw hK
  obtain ⟨⟨old,he⟩,ti⟩:=st
  obtain ⟨xs,x,hq,hx⟩:=hg
  obtain ⟨its,rv,co,hz⟩:=sqb_at I hq
  obtain ⟨u,hu,ru⟩:=rv.get hx
  refine enum_next he ti co (x:=u) (by simpa using hu) ne fun h1 heo ti1 ht1 hz1 hk1=>?_
  refine ⟨.ref s.heap.objs.size,rfl,?_⟩
  refine wpAny_letOwnedTupleGo_enum heo fun h2 he2 hs2=>?_
  have pe:s.heap.objs.size≠e:=nG1 (hL1 he)
  have hk2:∀ c o,c∉[e,it]->s.heap.get? c=some o->h2.get? c=some o:=fun c o hc q=>by
   have c1:c≠e:=fun z=>hc (by simp [z])
   have c2:c≠it:=fun z=>hc (by simp [z])
   exact hs2.extBut _ _ c1 (hk1 c o c1 c2 q)
  have tp:IsTup h2 s.heap.objs.size [.int (i:Nat) s.toks,u].toArray:=⟨_,hs2.extBut _ _ pe ht1,rfl,_,rfl⟩
  have I2:=inv_pair I hf (t':=s.toks+1) (nR1 _) hk2 tp (xs:=[.int i,x]) (.cons ⟨_,rfl⟩ (.cons ru .nil)) two_fits
  have hn:H s.heap.objs.size=none:=I.hok.fresh (nR1 _)
  refine ⟨.ref s.heap.objs.size,_,I2,rfl,⟨_,x,hn,rfl,rfl,fun ys hy=>by rw [sqb_inj I hy hq];exact hx⟩,⟨⟨u,?_⟩,ti1.to fun o q=>hs2.extBut _ _ (Ne.symm ne) q⟩,fun c hc=>?_⟩
  ·have:((i+1:Nat):Int)=(i:Int)+1:=by push_cast;rfl
   rw [this];exact he2
  ·have c1:c≠s.heap.objs.size:=fun z=>by
    rcases List.mem_cons.mp hc with q | q
    ·exact pe (z.symm.trans q)
    ·have q':c=it:=by simpa using q
     obtain ⟨o,eo,_⟩:=ti.rec_
     rw [<- q',z] at eo
     exact Nat.lt_irrefl _ (hL1 eo)
   rw [upd_ne c1];exact (hf c hc).1
 done:=by
  intro X hP hw hK hc i pins s σ H E I hf st hg
  subst hP hw hK
  obtain ⟨⟨old,he⟩,ti⟩:=st
  obtain ⟨xs,hq,hx⟩:=hg
  obtain ⟨its,rv,co,hz⟩:=sqb_at I hq
  have hl:=rv.length
  refine enum_end (I.ok.hd hc) he ti co (by simp;lia) fun h' eb=>⟨rfl,inv_turned I (t':=s.toks) hf fun c o hc q=>eb c o (fun z=>hc (by simp [z])) q⟩
 self:=fun _ _ _ _ _ ⟨⟨_,st⟩,_⟩ h=>enum_self st h
section
variable {X:Cx} {elts:List Expr} {k:Nat} {tpos:Pos}
noncomputable def iEnum (K:Fg1)(ta:TA):TI:=fun σ H R=>ta σ H fun vs H1=>∃ a b,vs=[.ref a]/\(∃ xs,SqB K b H1 a xs)/\R (Ite K b a) H1
theorem pi_enum {a:Expr}{ta:TA}{p pos:Pos}(hg:Gl X "enumerate")(hm:X.mg "enumerate"=none)(ha:PA X [a] ta)(hs:starEach [a] X.env=[(false,eval a X.env)]:=by rfl):PI X (.Tuple elts k tpos) (.Call (.Name "enumerate" p) [a] [] pos) (iEnum X.K ta):=by
 intro pins s σ H R I h
 refine Call_ (ld_blt I hg hm boot_enumerate (PyProof.Rows.callWith_type1 (thn (ha pos pins s σ H _ I h) fun us s1 ⟨vs,H1,I1,r1,q1⟩=>?_) hs rfl))
 obtain ⟨c,b,e,⟨xs,hq⟩,q⟩:=q1
 subst e
 cases r1 with
 | cons r rr=>
  cases rr
  cases r
  obtain ⟨its,rv,co,hz⟩:=sqb_at I1 hq
  refine enum_call co fun h' he ti hz' hk=>enum_self he ?_
  have I2:Inv X pins σ H1 {s1 with heap:=h'}:=I1.kept (t':=s1.toks) hk
  refine ⟨s1.heap.objs.size+1,[s1.heap.objs.size+1,s1.heap.objs.size],_,_,H1,rfl,I2,turn_enum b c _ _ (Nat.succ_ne_self _),⟨⟨.none,he⟩,ti⟩,fun d hd=>?_,q⟩
  rcases List.mem_cons.mp hd with z | z
  ·subst z;exact I1.fpOk (Nat.le_succ _) (I1.hok.fresh (Nat.le_succ _))
  ·have z':d=s1.heap.objs.size:=by simpa using z
   subst z';exact I1.fpOk (nR1 _) (I1.hok.fresh (nR1 _))
end
noncomputable def seqOf (S:Sto):D->Option (Bool×List D)
 | .tup xs=>some (false,xs)
 | .rol xs=>some (true,xs)
 | .ref n=>match S[n]? with
  | some (.lst xs)=>some (true,xs)
  | _=>none
 | _=>none
noncomputable def chkOf (S:Sto):D->List (Nat×List D)
 | .ref n=>match S[n]? with
  | some (.lst xs)=>[(n,xs)]
  | _=>[]
 | _=>[]
section
variable {K:Fg1} {H:Hp} {mu:List Addr} {S:Sto}
theorem seqOf_at {d:D}{v:V}{b:Bool}{xs:List D}(r:Rep K H mu d v)(s:Sim K H mu S)(h:seqOf S d=some (b,xs)):∃ a vs,v = .ref a/\SqB K b H a vs/\Reps K H mu xs vs:=by
 cases d with
 | tup ys=>cases h;cases r with | tup q t=>exact ⟨_,_,rfl,q,t⟩
 | rol ys=>cases h;cases r with | rol q t=>exact ⟨_,_,rfl,q.sq,t⟩
 | ref n=>
  rw [seqOf] at h
  split at h
  ·rename_i ys e
   cases h
   cases r with
   | ref q=>
    obtain ⟨vs,e1,r1⟩:=s.lst e q
    exact ⟨_,vs,rfl,SqL.of e1,r1⟩
  ·cases h
 | _=>cases h
theorem seq_later {d:D}{a:Addr}{b:Bool}{xs:List D}(r:Rep K H mu d (.ref a))(s:Sim K H mu S)(h:seqOf S d=some (b,xs)){H1:Hp}{mu1:List Addr}{S1:Sto}(x:Exw mu mu1 H H1)(s1:Sim K H1 mu1 S1)(ok:okC S1 (chkOf S d)=true):
  ∃ vs,SqB K b H1 a vs/\Reps K H1 mu1 xs vs:=by
 have r1:=r.exw x
 have h1:seqOf S1 d=some (b,xs):=by
  cases d with
  | ref n=>
   rw [seqOf] at h
   split at h
   ·rename_i ys e
    cases h
    rw [chkOf,e] at ok
    dsimp only [okC] at ok
    rw [Bool.and_true] at ok
    rw [seqOf]
    split at ok
    ·rename_i zs ez
     first | rw [ez,D.sames_eq ok] | rw [D.sames_eq ok]
    ·cases ok
   ·cases h
  | _=>exact h
 obtain ⟨a',vs,e,q,t⟩:=seqOf_at r1 s1 h1
 cases e
 exact ⟨vs,q,t⟩
end
noncomputable def iSeq (m:FE):FI:=fun r S=>(m r S).bind fun p=>(seqOf p.2 p.1).bind fun q=>some (⟨q.2,chkOf p.2 p.1⟩,p.2)
noncomputable def enD:Nat->List D->List D
 | _,[]=>[]
 | n,d::ds=>.tup [.int n,d]::enD (n+1) ds
noncomputable def iEn (m:FA):FI:=fun r S=>(m r S).bind fun p=>match p.1 with
 | [d]=>(seqOf p.2 d).bind fun q=>some (⟨enD 0 q.2,chkOf p.2 d⟩,p.2)
 | _=>none
noncomputable def nums (lo:Int):Nat->List D
 | 0=>[]
 | n+1=>.int lo::nums (lo+1) n
noncomputable def iR1 (m:FA):FI:=fun r S=>(m r S).bind fun p=>match p.1 with
 | [.int j]=>if-(2^62)<=j/\j<2^62 then some (⟨nums 0 j.toNat,[]⟩,p.2) else none
 | _=>none
noncomputable def iR2 (m:FA):FI:=fun r S=>(m r S).bind fun p=>match p.1 with
 | [.int i,.int j]=>if-(2^62)<=i/\i<2^62 /\ -(2^62)<=j/\j<2^62 then some (⟨nums i (j-i).toNat,[]⟩,p.2) else none
 | _=>none
theorem enD_get:∀ (ds:List D) (n i:Nat),(enD n ds)[i]? = (ds[i]?).map fun d=>.tup [.int ((n+i:Nat):Int),d]
 | [],n,i=>by simp [enD]
 | d::ds,n,0=>by simp [enD]
 | d::ds,n,i+1=>by
  rw [enD,gC1,enD_get ds (n+1) i,gC1]
  rw [show n+1+i=n+(i+1) by lia]
theorem enD_len:∀ (ds:List D) (n:Nat),(enD n ds).length=ds.length
 | [],_=>rfl
 | d::ds,n=>by rw [enD,lC1,enD_len ds,lC1]
theorem nums_get:∀ (n:Nat) (lo:Int) (i:Nat) (d:D),(nums lo n)[i]? = some d->i<n/\d = .int (lo+i)
 | 0,lo,i,d,h=>by simp [nums] at h
 | n+1,lo,0,d,h=>by simp [nums] at h;exact ⟨Nat.succ_pos _,by rw [<- h];simp⟩
 | n+1,lo,i+1,d,h=>by
  rw [nums,gC1] at h
  obtain ⟨h1,h2⟩:=nums_get n (lo+1) i d h
  refine ⟨Nat.succ_lt_succ h1,?_⟩
  rw [h2,show lo+1+(i:Int)=lo+((i+1:Nat):Int) by push_cast;lia]
theorem nums_len:∀ (n:Nat) (lo:Int),(nums lo n).length=n
 | 0,_=>rfl
 | n+1,lo=>by rw [nums,lC1,nums_len n]
section
variable {X:Cx} {tg:Expr}
theorem itr_nums (K:Fg1)(lo:Int)(n:Nat)(mu:List Addr)(H:Hp):ItR K (Itr lo n) ⟨nums lo n,[]⟩ mu H:=by
 intro i H1 mu1 S1 x s ok
 refine ⟨fun d hd=>?_,fun h=>by rw [nums_len] at h;exact h⟩
 obtain ⟨h1,h2⟩:=nums_get n lo i d hd
 refine ⟨h1,fun y H2 ⟨e1,e2⟩=>?_⟩
 subst e1;subst e2;subst h2
 exact ⟨.refl _ _,s,.int _⟩
theorem mi_seq {e:Expr}{m:FE}(h:ME X e m):MI X tg e (iSeq m):=pi_imp (pi_or (pi_list h) (pi_tup h)) <| by
 rintro σ H R ⟨r,mu,S,J,S',he,hs,hm,hc⟩
 obtain ⟨⟨d,S1⟩,e1,hm⟩:=oB1.mp hm
 obtain ⟨⟨b,xs⟩,e2,hm⟩:=oB1.mp hm
 cases hm
 cases b with
 | true=>
  left
  refine ⟨r,mu,S,d,_,he,hs,e1,fun v H1 mu1 x1 r1 s1=>?_⟩
  obtain ⟨a,vs,rfl,q,t⟩:=seqOf_at r1 s1 e2
  refine ⟨a,rfl,⟨vs,q⟩,hc _ H1 mu1 x1 (fun i H2 mu2 S2 x2 s2 ok=>?_) s1⟩
  obtain ⟨ws,q2,t2⟩:=seq_later r1 s1 e2 x2 s2 ok
  refine ⟨fun d hd=>?_,fun hl=>⟨ws,q2,by rw [<- t2.length];exact hl⟩⟩
  obtain ⟨v,ev,rv⟩:=t2.get hd
  refine ⟨⟨ws,v,q2,ev⟩,fun y H3 ⟨z1,z2⟩=>?_⟩
  subst z1
  have:=z2 ws q2
  rw [ev] at this
  cases this
  exact ⟨.refl _ _,s2,rv⟩
 | false=>
  right
  refine ⟨r,mu,S,d,_,he,hs,e1,fun v H1 mu1 x1 r1 s1=>?_⟩
  obtain ⟨a,vs,rfl,q,t⟩:=seqOf_at r1 s1 e2
  refine ⟨a,rfl,⟨vs,q⟩,hc _ H1 mu1 x1 (fun i H2 mu2 S2 x2 s2 ok=>?_) s1⟩
  obtain ⟨ws,q2,t2⟩:=seq_later r1 s1 e2 x2 s2 ok
  refine ⟨fun d hd=>?_,fun hl=>⟨ws,q2,by rw [<- t2.length];exact hl⟩⟩
  obtain ⟨v,ev,rv⟩:=t2.get hd
  refine ⟨⟨ws,v,q2,ev⟩,fun y H3 ⟨z1,z2⟩=>?_⟩
  subst z1
  have:=z2 ws q2
  rw [ev] at this
  cases this
  exact ⟨.refl _ _,s2,rv⟩
theorem reps_one {K:Fg1}{H:Hp}{mu:List Addr}{d:D}{vs:List V}(r:Reps K H mu [d] vs):∃ v,vs=[v]/\Rep K H mu d v:=by
 cases r with | cons r t=>cases t;exact ⟨_,rfl,r⟩
theorem reps_two {K:Fg1}{H:Hp}{mu:List Addr}{d e:D}{vs:List V}(r:Reps K H mu [d,e] vs):∃ v u,vs=[v,u]/\Rep K H mu d v/\Rep K H mu e u:=by
 cases r with | cons r t=>cases t with | cons q t=>cases t;exact ⟨_,_,rfl,r,q⟩
theorem mi_range1 {a:Expr}{m:FA}{p pos:Pos}(hg:Gl X "range")(hm:X.mg "range"=none)(ha:MA X [a] m)(hs:starEach [a] X.env=[(false,eval a X.env)]:=by rfl):MI X tg (.Call (.Name "range" p) [a] [] pos) (iR1 m):=
 pi_imp (pi_range1 hg hm ha hs) <| by
  rintro σ H R ⟨r,mu,S,J,S',he,hs,hm,hc⟩
  obtain ⟨⟨ds,S1⟩,e1,hm⟩:=oB1.mp hm
  dsimp only at hm
  split at hm
  ·rename_i j
   split at hm
   ·rename_i hb
    cases hm
    refine ⟨r,mu,S,_,_,he,hs,e1,fun vs H1 mu1 x1 r1 s1=>?_⟩
    obtain ⟨v,rfl,rv⟩:=reps_one r1
    cases rv
    exact ⟨j,rfl,hb.1,hb.2,hc _ H1 mu1 x1 (itr_nums _ _ _ _ _) s1⟩
   ·cases hm
  ·cases hm
theorem mi_range2 {a b:Expr}{m:FA}{p pos:Pos}(hg:Gl X "range")(hm:X.mg "range"=none)(ha:MA X [a,b] m)(hs:starEach [a,b] X.env=[(false,eval a X.env),(false,eval b X.env)]:=by rfl)(hs2:starEach [b] X.env=[(false,eval b X.env)]:=by rfl):MI X tg (.Call (.Name "range" p) [a,b] [] pos) (iR2 m):=
 pi_imp (pi_range2 hg hm ha hs hs2) <| by
  rintro σ H R ⟨r,mu,S,J,S',he,hs,hm,hc⟩
  obtain ⟨⟨ds,S1⟩,e1,hm⟩:=oB1.mp hm
  dsimp only at hm
  split at hm
  ·rename_i i j
   split at hm
   ·rename_i hb
    cases hm
    refine ⟨r,mu,S,_,_,he,hs,e1,fun vs H1 mu1 x1 r1 s1=>?_⟩
    obtain ⟨v,u,rfl,rv,ru⟩:=reps_two r1
    cases rv;cases ru
    exact ⟨i,j,rfl,hb,hc _ H1 mu1 x1 (itr_nums _ _ _ _ _) s1⟩
   ·cases hm
  ·cases hm
variable {elts:List Expr} {k:Nat} {tpos:Pos}
theorem mi_enum {a:Expr}{m:FA}{p pos:Pos}(hg:Gl X "enumerate")(hm:X.mg "enumerate"=none)(ha:MA X [a] m)(hs:starEach [a] X.env=[(false,eval a X.env)]:=by rfl):MI X (.Tuple elts k tpos) (.Call (.Name "enumerate" p) [a] [] pos) (iEn m):=
 pi_imp (pi_enum hg hm ha hs) <| by
  rintro σ H R ⟨r,mu,S,J,S',he,hs,hm,hc⟩
  obtain ⟨⟨ds,S1⟩,e1,hm⟩:=oB1.mp hm
  dsimp only at hm
  split at hm
  ·rename_i d
   obtain ⟨⟨b,xs⟩,e2,hm⟩:=oB1.mp hm
   cases hm
   refine ⟨r,mu,S,_,_,he,hs,e1,fun vs H1 mu1 x1 r1 s1=>?_⟩
   obtain ⟨v,rfl,rv⟩:=reps_one r1
   obtain ⟨a,vs,rfl,q,t⟩:=seqOf_at rv s1 e2
   refine ⟨a,b,rfl,⟨vs,q⟩,hc _ H1 mu1 x1 (fun i H2 mu2 S2 x2 s2 ok=>?_) s1⟩
   obtain ⟨ws,q2,t2⟩:=seq_later rv s1 e2 x2 s2 ok
   refine ⟨fun d hd=>?_,fun hl=>⟨ws,q2,by rw [enD_len] at hl;rw [<- t2.length];exact hl⟩⟩
   rw [enD_get] at hd
   obtain ⟨d',ed,hd⟩:=oM1.mp hd
   obtain ⟨v,ev,rv'⟩:=t2.get ed
   refine ⟨⟨ws,v,q2,ev⟩,fun y H3 ⟨p,v',hp,z1,z2,z3⟩=>?_⟩
   have:=z3 ws q2
   rw [ev] at this
   cases this
   subst z1;subst z2;subst hd
   rw [Nat.zero_add]
   exact ⟨Ext.fresh hp,s2.fresh hp,.tup (SqT.of upd_same) (.cons (.int _) (.cons (rv'.ext (Ext.fresh hp)) .nil))⟩
  ·cases hm
end
noncomputable abbrev G1:=D->Sto->Option (D×Sto)
noncomputable abbrev G2:=D->D->Sto->Option (D×Sto)
noncomputable abbrev G3:=D->D->D->Sto->Option (D×Sto)
noncomputable def b1 (f:G1):FN:=fun ds S=>match ds with
 | [a]=>f a S
 | _=>none
noncomputable def b2 (f:G2):FN:=fun ds S=>match ds with
 | [a,b]=>f a b S
 | _=>none
noncomputable def b3 (f:G3):FN:=fun ds S=>match ds with
 | [a,b,c]=>f a b c S
 | _=>none
section
variable {X:Cx} {K:Fg1} {H:Hp} {Q:VK}
theorem rn2 {f:G2}{x y:V}(h:rN K (b2 f) [x,y] H Q):∃ mu S d e r S',Rep K H mu d x/\Rep K H mu e y/\Sim K H mu S/\f d e S=some (r,S')/\Cont K mu H r S' Q:=by
 obtain ⟨mu,S,ds,r,S',hr,hs,hm,hc⟩:=h
 cases hr with
 | cons q t=>cases t with
  | cons q2 t=>cases t;exact ⟨mu,S,_,_,r,S',q,q2,hs,hm,hc⟩
theorem rn1 {f:G1}{xs:List V}(h:rN K (b1 f) xs H Q):∃ x mu S d r S',xs=[x]/\Rep K H mu d x/\Sim K H mu S/\f d S=some (r,S')/\Cont K mu H r S' Q:=by
 obtain ⟨mu,S,ds,r,S',hr,hs,hm,hc⟩:=h
 cases hr with
 | nil=>cases hm
 | cons q t=>cases t with
  | nil=>exact ⟨_,mu,S,_,r,S',rfl,q,hs,hm,hc⟩
  | cons q2 t=>cases hm
theorem rn2l {f:G2}{xs:List V}(h:rN K (b2 f) xs H Q):∃ x y mu S d e r S',xs=[x,y]/\Rep K H mu d x/\Rep K H mu e y/\Sim K H mu S/\f d e S=some (r,S')/\Cont K mu H r S' Q:=by
 obtain ⟨mu,S,ds,r,S',hr,hs,hm,hc⟩:=h
 cases hr with
 | nil=>cases hm
 | cons q t=>cases t with
  | nil=>cases hm
  | cons q2 t=>cases t with
   | nil=>exact ⟨_,_,mu,S,_,_,r,S',rfl,q,q2,hs,hm,hc⟩
   | cons q3 t=>cases hm
theorem Cont.now {mu:List Addr}{S:Sto}{d:D}{v:V}(c:Cont K mu H d S Q)(r:Rep K H mu d v)(s:Sim K H mu S):Q v H:=c v H mu (.refl _ _) r s
end
noncomputable def mulFits (i j:Int):Bool:=(decide (-(2^64)<i)&&decide (i<2^64))||(decide (-(2^64)<j)&&decide (j<2^64))||(decide (i.natAbs<2^1000)&&decide (j.natAbs<2^1000))
noncomputable def gAdd:G2:=fun d e S=>match d,e with
 | .int i,.int j=>some (.int (i+j),S)
 | .tup xs,.tup ys=>if xs.length+ys.length<=sizeLine then some (.tup (xs++ys),S) else none
 | .str x,.str y=>if x.length+y.length<=sizeLine then some (.str (x++y),S) else none
 | .ref a,.ref b=>match S[a]?,S[b]? with
  | some (.lst xs),some (.lst ys)=>if xs.length+ys.length<=sizeLine then some (.ref S.length,S++[.lst (xs++ys)]) else none
  | _,_=>none
 | _,_=>none
noncomputable def gSub:G2:=fun d e S=>match d,e with
 | .int i,.int j=>some (.int (i-j),S)
 | _,_=>none
noncomputable def gMul:G2:=fun d e S=>match d,e with
 | .int i,.int j=>if mulFits i j=true then some (.int (i*j),S) else none
 | _,_=>none
noncomputable def gMod:G2:=fun d e S=>match d,e with
 | .int i,.int j=>if 0<j then some (.int (i%j),S) else none
 | _,_=>none
noncomputable def gDiv:G2:=fun d e S=>match d,e with
 | .int i,.int j=>if 0<j/\j<1073741824 then some (.int (i/j),S) else none
 | _,_=>none
noncomputable def gPow:G2:=fun d e S=>match d,e with
 | .int i,.int j=>if 0<=j/\j<=1000000/\i.natAbs<2^64 then some (.int (i^j.toNat),S) else none
 | _,_=>none
noncomputable def gNeg:G1:=fun d S=>match d with
 | .int i=>some (.int (-i),S)
 | _=>none
section
variable {X:Cx}
theorem mulFits_ok {i j:Int}(h:mulFits i j=true):IntMulOk i j:=by
 unfold mulFits at h
 simp only [Bool.or_eq_true,bA1,decide_eq_true_eq] at h
 rcases h with (⟨h1,h2⟩ | ⟨h1,h2⟩) | ⟨h1,h2⟩
 ·exact .of_left (intBits_le_64 h1 h2)
 ·exact .of_right (intBits_le_64 h1 h2)
 ·exact .of_bits (Nat.le_trans (intBits_le h1) (by decide)) (Nat.le_trans (intBits_le h2) (by decide))
theorem op2_int {f:Value->Value->Sem Value}{g:G2}{c:Int->Int->Prop}{v:Int->Int->D}(hg:∀ d e S r S',g d e S=some (r,S') -> ∃ i j,d = .int i/\e = .int j/\c i j/\r=v i j/\S'=S){vv:Int->Int->V}
  (hv:∀ i j K H mu,Rep K H mu (v i j) (vv i j)) (ho:OpR X f (rI c vv)):OpR X f (r2 X.K (b2 g)):=by
 intro pins s σ H x y u w Q I rx ry h
 obtain ⟨mu,S,d,e,r,S',r1,r2,hs,hm,hc⟩:=rn2 h
 obtain ⟨i,j,rfl,rfl,cc,rfl,rfl⟩:=hg d e S r S' hm
 cases r1;cases r2
 exact ho pins s σ H _ _ u w Q I rx ry ⟨i,j,rfl,rfl,cc,hc.now (hv i j _ _ _) hs⟩
theorem op2_int0 {f:Value->Value->Sem Value}{g:G2}{v:Int->Int->D}(hg:∀ d e S r S',g d e S=some (r,S') -> ∃ i j,d = .int i/\e = .int j/\r=v i j/\S'=S){vv:Int->Int->V}
  (hv:∀ i j K H mu,Rep K H mu (v i j) (vv i j)) (ho:OpR X f (rI0 vv)):OpR X f (r2 X.K (b2 g)):=by
 intro pins s σ H x y u w Q I rx ry h
 obtain ⟨mu,S,d,e,r,S',r1,r2,hs,hm,hc⟩:=rn2 h
 obtain ⟨i,j,rfl,rfl,rfl,rfl⟩:=hg d e S r S' hm
 cases r1;cases r2
 exact ho pins s σ H _ _ u w Q I rx ry ⟨i,j,rfl,rfl,hc.now (hv i j _ _ _) hs⟩
theorem o_sub:OpR X (binaryOp .Sub) (r2 X.K (b2 gSub)):=op2_int0 (v:=fun i j=>.int (i-j)) (fun d e S r S' h=>by
 unfold gSub at h;split at h
 ·cases h;exact ⟨_,_,rfl,rfl,rfl,rfl⟩
 ·cases h) (fun _ _ _ _ _=>.int _) op_sub
theorem o_mul:OpR X (binaryOp .Mult) (r2 X.K (b2 gMul)):=op2_int (c:=fun i j=>IntMulOk i j) (v:=fun i j=>.int (i*j)) (fun d e S r S' h=>by
 unfold gMul at h;split at h
 ·split at h
  ·rename_i q;cases h;exact ⟨_,_,rfl,rfl,mulFits_ok q,rfl,rfl⟩
  ·cases h
 ·cases h) (fun _ _ _ _ _=>.int _) (opI fun _ _ _ _ _ _ _ hc q=>mul_int q hc)
theorem o_mod:OpR X (binaryOp .Mod) (r2 X.K (b2 gMod)):=op2_int (c:=fun _ j=>0<j) (v:=fun i j=>.int (i%j)) (fun d e S r S' h=>by
 unfold gMod at h;split at h
 ·split at h
  ·rename_i q;cases h;exact ⟨_,_,rfl,rfl,q,rfl,rfl⟩
  ·cases h
 ·cases h) (fun _ _ _ _ _=>.int _) op_mod
theorem o_div:OpR X (binaryOp .FloorDiv) (r2 X.K (b2 gDiv)):=op2_int (c:=CDiv) (v:=fun i j=>.int (i/j)) (fun d e S r S' h=>by
 unfold gDiv at h;split at h
 ·split at h
  ·rename_i q;cases h;exact ⟨_,_,rfl,rfl,q,rfl,rfl⟩
  ·cases h
 ·cases h) (fun _ _ _ _ _=>.int _) op_fdiv
theorem o_pow:OpR X (binaryOp .Pow) (r2 X.K (b2 gPow)):=op2_int (c:=CPow) (v:=fun i j=>.int (i^j.toNat)) (fun d e S r S' h=>by
 unfold gPow at h;split at h
 ·split at h
  ·rename_i q;cases h;exact ⟨_,_,rfl,rfl,q,rfl,rfl⟩
  ·cases h
 ·cases h) (fun _ _ _ _ _=>.int _) op_pow
theorem o_neg:UnR X (unaryOp .USub) (fun x H Q=>rN X.K (b1 gNeg) [x] H Q):=by
 intro pins s σ H x v Q I rx h
 obtain ⟨x',mu,S,d,r,S',e,r1,hs,hm,hc⟩:=rn1 h
 cases e
 cases d with
 | int i=>cases hm;cases r1;exact un_neg pins s σ H _ v Q I rx ⟨i,rfl,hc.now (.int _) hs⟩
 | _=>cases hm
theorem cat_empty {s:Shared}{prog:Program}{w:World}{A:Around}{E:Value->Shared->Prop}{t b:Addr}{ws:List Value}{Q:Value->Shared->Prop}(ht:IsTup s.heap t ([]:List Value).toArray)(hb:IsTup s.heap b ws.toArray)(h:Q (.ref b) s):
  wpAny (model prog w) A (binaryOp .Add (.ref t) (.ref b)) Q E s:=by
 obtain ⟨⟨cls,dd,data,sl⟩,ho,hc,n,hd⟩:=id ht
 obtain ⟨⟨cls2,dd2,data2,sl2⟩,ho2,hc2,n2,hd2⟩:=id hb
 simp only at hc hd hc2 hd2;subst hc hd hc2 hd2
 exact concat_meets ⟨_,ho,rfl⟩ ⟨_,ho2,rfl⟩ noFill_tuple_add seq_tuple_add PySem.F.slot_tuple_add PySem.F.entry_tuple_add (PySem.F.args_tuple_add_2 _ _) (tuple_addW0 t b ([]:List Value).toArray ws.toArray n n2 dd dd2 sl sl2 (by simp)) ⟨ho,ho2,h⟩
theorem o_add:OpR X (binaryOp .Add) (r2 X.K (b2 gAdd)):=by
 intro pins s σ H x y u w Q I rx ry h
 obtain ⟨mu,S,d,e,r,S',r1,r2,hs,hm,hc⟩:=rn2 h
 unfold gAdd at hm
 split at hm
 ·cases hm;cases r1;cases r2
  exact op_add pins s σ H _ _ u w Q I rx ry ⟨_,_,rfl,rfl,hc.now (.int _) hs⟩
 ·rename_i xs ys
  split at hm
  ·rename_i hl
   cases hm
   cases r1 with
   | tup q1 t1=>
    cases r2 with
    | tup q2 t2=>
     rename_i vs1 a1 vs2 a2
     by_cases hx:vs1=[]
     ·subst hx
      have:xs=[]:=by cases t1;rfl
      subst this
      cases rx;cases ry
      obtain ⟨its,rv,p1,_⟩:=I.tuple q1
      obtain ⟨its2,rv2,p2,_⟩:=I.tuple q2
      have:its=[]:=rv.nil_iff.mpr rfl
      subst this
      exact cat_empty p1 p2 ⟨.ref a2,H,I,rfl,hc.now (.tup q2 t2) hs⟩
     ·refine op_catT pins s σ H _ _ u w Q I rx ry ⟨a1,a2,vs1,vs2,rfl,rfl,q1,q2,hx,by rw [<- t1.length,<- t2.length];exact hl,fun z=>?_,fun z p hp=>?_⟩
      ·subst z
       have:ys=[]:=by cases t2;rfl
       subst this
       rw [List.append_nil] at hc
       exact hc.now (.tup q1 t1) hs
      ·exact hc _ _ mu (Ext.fresh hp) (.tup (SqT.of upd_same) ((t1.append t2).ext (Ext.fresh hp))) (hs.fresh hp)
  ·cases hm
 ·rename_i i j
  split at hm
  ·rename_i hl
   cases hm;cases r1;cases r2
   exact op_add_str pins s σ H _ _ u w Q I rx ry ⟨i,j,rfl,rfl,hl,hc.now (.str _) hs⟩
  ·cases hm
 ·rename_i a b
  split at hm
  ·rename_i xs ys ea eb
   split at hm
   ·rename_i hl
    cases hm
    cases r1 with
    | ref qa=>
     cases r2 with
     | ref qb=>
      obtain ⟨vs1,e1,t1⟩:=hs.lst ea qa
      obtain ⟨vs2,e2,t2⟩:=hs.lst eb qb
      refine op_cat pins s σ H _ _ u w Q I rx ry ⟨_,_,vs1,vs2,rfl,rfl,e1,e2,by rw [<- t1.length,<- t2.length];exact hl,fun p hp=>?_⟩
      exact hc _ _ (mu++[p]) (Ext.new_ hp) (.ref (new_at hs.len p)) (hs.newL (t1.append t2) hp)
   ·cases hm
  ·cases hm
 ·cases hm
end
noncomputable def gCmp (p:Int->Int->Bool):G2:=fun d e S=>match d,e with
 | .int i,.int j=>some (.bl (p i j),S)
 | _,_=>none
section
variable {X:Cx}
theorem gCmp_of {p:Int->Int->Bool}(d e:D)(S:Sto)(r:D)(S':Sto)(h:gCmp p d e S=some (r,S')):∃ i j,d = .int i/\e = .int j/\r = .bl (p i j)/\S'=S:=by
 unfold gCmp at h;split at h
 ·cases h;exact ⟨_,_,rfl,rfl,rfl,rfl⟩
 ·cases h
theorem o_le:OpR X (compareOp .LtE) (r2 X.K (b2 (gCmp fun i j=>decide (i<=j)))):=op2_int0 gCmp_of (fun _ _ _ _ _=>.bl _) op_le
theorem o_gt:OpR X (compareOp .Gt) (r2 X.K (b2 (gCmp fun i j=>decide (j<i)))):=op2_int0 gCmp_of (fun _ _ _ _ _=>.bl _) op_gt
theorem o_ge:OpR X (compareOp .GtE) (r2 X.K (b2 (gCmp fun i j=>decide (j<=i)))):=op2_int0 gCmp_of (fun _ _ _ _ _=>.bl _) op_ge
end
noncomputable def flatD:D->Bool
 | .non=>true
 | .bl _=>true
 | .int _=>true
 | .str _=>true
 | _=>false
noncomputable def eqF:D->D->Option Bool
 | .non,.non=>some true
 | .bl a,.bl b=>some (a == b)
 | .bl a,.int b=>some ((if a then 1 else 0) == b)
 | .int a,.bl b=>some (a == (if b then 1 else 0))
 | .int a,.int b=>some (a == b)
 | .str a,.str b=>some (a == b)
 | d,e=>if flatD d&&flatD e then some false else none
noncomputable def eqL (f:D->D->Option Bool):List D->List D->Option Bool
 | x::xs,y::ys=>(f x y).bind fun b=>(eqL f xs ys).map fun c=>b&&c
 | [],[]=>some true
 | _,_=>some false
noncomputable def eqN (S:Sto):Nat->D->D->Option Bool
 | 0,_,_=>none
 | n+1,d,e=>match seqOf S d,seqOf S e with
  | some p,some q=>if p.1=q.1 then (if p.1=true/\p.2.length≠q.2.length then some false else eqL (eqN S n) p.2 q.2) else some false
  | some _,none=>if flatD e=true then some false else none
  | none,some _=>if flatD d=true then some false else none
  | none,none=>eqF d e
section
variable {X:Cx} {pins:List (Addr×Obj)} {σ:L2.St} {H:Hp} {s:Shared} {mu:List Addr} {S:Sto}
theorem flat_rep {K:Fg1}{d:D}{v:V}(r:Rep K H mu d v)(h:flatD d=true):flatV v=true /\ ∀ e w,Rep K H mu e w->flatD e=true->eqF d e=some (eqV v w):=by
 cases d with
 | non=>cases r;refine ⟨rfl,fun e w q f=>?_⟩;cases e with
  | non=>cases q;rfl
  | bl _=>cases q;rfl
  | int _=>cases q;rfl
  | str _=>cases q;rfl
  | _=>cases f
 | bl b=>cases r;refine ⟨rfl,fun e w q f=>?_⟩;cases e with
  | non=>cases q;rfl
  | bl _=>cases q;rfl
  | int _=>cases q;rfl
  | str _=>cases q;rfl
  | _=>cases f
 | int i=>cases r;refine ⟨rfl,fun e w q f=>?_⟩;cases e with
  | non=>cases q;rfl
  | bl _=>cases q;rfl
  | int _=>cases q;rfl
  | str _=>cases q;rfl
  | _=>cases f
 | str x=>cases r;refine ⟨rfl,fun e w q f=>?_⟩;cases e with
  | non=>cases q;rfl
  | bl _=>cases q;rfl
  | int _=>cases q;rfl
  | str _=>cases q;rfl
  | _=>cases f
 | _=>cases h
theorem eqF_flat {d e:D}{b:Bool}(h:eqF d e=some b):flatD d=true/\flatD e=true:=by
 cases d<;>cases e<;>first | exact ⟨rfl,rfl⟩ | (cases h;done) | exact nomatch h | (simp [eqF,flatD] at h)
theorem eqV_self {v:V}(h:flatV v=true):eqV v v=true:=by
 cases v<;>first | rfl | (cases h;done) | exact beq_self_eq_true _ | (simp [eqV];done)
theorem eqN_same (I:Inv X pins σ H s)(hs:Sim X.K H mu S):∀ (n:Nat) {d e:D} {v:V} {b:Bool},Rep X.K H mu d v->Rep X.K H mu e v->eqN S n d e=some b->b=true
 | 0,_,_,_,_,_,_,h=>by cases h
 | n + 1,d,e,v,b,rd,re,h=>by
  rw [eqN] at h
  have lists:∀ {xs ys:List D} {vs:List V} {b:Bool},Reps X.K H mu xs vs->Reps X.K H mu ys vs->eqL (eqN S n) xs ys=some b->b=true:=by
   intro xs
   induction xs with
   | nil=>intro ys vs b hx hy h;cases hx;cases hy;cases h;rfl
   | cons x xs ih=>
    intro ys vs b hx hy h
    cases hx with
    | cons r t=>
     cases hy with
     | cons r' t'=>
      rw [eqL] at h
      obtain ⟨b1,e1,h⟩:=oB1.mp h
      obtain ⟨b2,e2,h⟩:=oM1.mp h
      subst h
      rw [eqN_same I hs n r r' e1,ih t t' e2];rfl
  cases hd:seqOf S d with
  | some p=>
   obtain ⟨pb,xs⟩:=p
   obtain ⟨a,vs,rfl,q,t⟩:=seqOf_at rd hs hd
   cases he:seqOf S e with
   | some p2=>
    obtain ⟨qb,ys⟩:=p2
    obtain ⟨a2,vs2,e2,q2,t2⟩:=seqOf_at re hs he
    cases e2
    rw [hd,he] at h
    dsimp only at h
    obtain ⟨its,rv,co,_⟩:=sqb_at I q
    obtain ⟨its2,rv2,co2,_⟩:=sqb_at I q2
    have hb:pb=qb:=by
     cases pb<;>cases qb
     ·rfl
     ·obtain ⟨o,e1,c1,_⟩:=co;obtain ⟨o2,e2,c2,_⟩:=co2;rw [e1] at e2;cases e2;rw [c1] at c2;exact absurd c2 (by decide)
     ·obtain ⟨o,e1,c1,_⟩:=co;obtain ⟨o2,e2,c2,_⟩:=co2;rw [e1] at e2;cases e2;rw [c1] at c2;exact absurd c2 (by decide)
     ·rfl
    subst hb
    have hv:=sqb_inj I q q2
    subst hv
    rw [if_pos rfl,if_neg (by rw [t.length,t2.length];simp)] at h
    exact lists t t2 h
   | none=>
    rw [hd,he] at h
    dsimp only at h
    split at h
    ·rename_i f
     have:=(flat_rep re f).1
     cases this
    ·cases h
  | none=>
   cases he:seqOf S e with
   | some p2=>
    obtain ⟨qb,ys⟩:=p2
    obtain ⟨a2,vs2,e2,q2,t2⟩:=seqOf_at re hs he
    subst e2
    rw [hd,he] at h
    dsimp only at h
    split at h
    ·rename_i f
     have:=(flat_rep rd f).1
     cases this
    ·cases h
   | none=>
    rw [hd,he] at h
    dsimp only at h
    obtain ⟨f1,f2⟩:=eqF_flat h
    obtain ⟨g1,g2⟩:=flat_rep rd f1
    rw [g2 e v re f2] at h
    cases h
    exact eqV_self g1
theorem rc_seq_none {A:Around}{b:Bool}{a:Addr}{its:Array Value}{v:V}{u:Value}(c:SCo b s.heap a its)(r:RelV v u)(f:flatV v=true)(hu:A.units<cLine):
   SeqAt.EqAt A s (.ref a) u false/\SeqAt.EqAt A s u (.ref a) false/\SeqAt.RcAt A s (.ref a) u false/\SeqAt.RcAt A s u (.ref a) false:=by
 cases v with
 | non => cases r;cases b
          · exact ⟨.tuple_none c hu,.none_tuple c hu,.tuple_none c hu,.none_tuple c hu⟩
          · exact ⟨.list_none c hu,.none_list c hu,.list_none c hu,.none_list c hu⟩
 | bl k => cases r;cases b
           · exact ⟨.tuple_bool k c hu,.bool_tuple k c hu,.tuple_bool k c hu,.bool_tuple k c hu⟩
           · exact ⟨.list_bool k c hu,.bool_list k c hu,.list_bool k c hu,.bool_list k c hu⟩
 | int i => obtain ⟨t,rfl⟩:=r;cases b
            · exact ⟨.tuple_int i t c hu,.int_tuple i t c hu,.tuple_int i t c hu,.int_tuple i t c hu⟩
            · exact ⟨.list_int i t c hu,.int_list i t c hu,.list_int i t c hu,.int_list i t c hu⟩
 | str x => obtain ⟨t,rfl⟩:=r;cases b
            · exact ⟨.tuple_str x t c hu,.str_tuple x t c hu,.tuple_str x t c hu,.str_tuple x t c hu⟩
            · exact ⟨.list_str x t c hu,.str_list x t c hu,.list_str x t c hu,.str_list x t c hu⟩
 | _=>cases f
theorem rc_flat {A:Around}{x y:V}{u w:Value}(rx:RelV x u)(ry:RelV y w)(fx:flatV x=true)(fy:flatV y=true):SeqAt.RcAt A s u w (eqV x y):=by
 cases x with
 | non=>cases rx;cases y with
  | non=>cases ry;exact .none_none
  | bl k=>cases ry;exact .none_bool k
  | int i=>obtain ⟨t,rfl⟩:=ry;exact .none_int i t
  | str z=>obtain ⟨t,rfl⟩:=ry;exact .none_str z t
  | _=>cases fy
 | bl k'=>cases rx;cases y with
  | non=>cases ry;exact .bool_none k'
  | bl k=>cases ry;exact .bool_bool k' k
  | int i=>obtain ⟨t,rfl⟩:=ry;exact .bool_int k' i t
  | str z=>obtain ⟨t,rfl⟩:=ry;exact .bool_str k' z t
  | _=>cases fy
 | int i'=>obtain ⟨t',rfl⟩:=rx;cases y with
  | non=>cases ry;exact .int_none i' t'
  | bl k=>cases ry;exact .int_bool i' t' k
  | int i=>obtain ⟨t,rfl⟩:=ry;exact .int_int i' t' i t
  | str z=>obtain ⟨t,rfl⟩:=ry;exact .int_str i' t' z t
  | _=>cases fy
 | str z'=>obtain ⟨t',rfl⟩:=rx;cases y with
  | non=>cases ry;exact .str_none z' t'
  | bl k=>cases ry;exact .str_bool z' t' k
  | int i=>obtain ⟨t,rfl⟩:=ry;exact .str_int z' t' i t
  | str z=>obtain ⟨t,rfl⟩:=ry;exact .str_str z' t' z t
  | _=>cases fy
 | _=>cases fx
theorem eqL_at (f:D->D->Option Bool):∀ {xs ys:List D} {b:Bool},eqL f xs ys=some b -> ∃ e:Nat->Bool,(∀ j x y,xs[j]? = some x->ys[j]? = some y->f x y=some (e j))/\b=((List.range (min xs.length ys.length)).all e&&xs.length == ys.length)
 | [],[],b,h=>by cases h;exact ⟨fun _=>true,fun j x y h=>by simp at h,rfl⟩
 | [],y::ys,b,h=>by cases h;exact ⟨fun _=>true,fun j x y h=>by simp at h,by simp⟩
 | x::xs,[],b,h=>by cases h;exact ⟨fun _=>true,fun j x y h h'=>by simp at h',by simp⟩
 | x::xs,y::ys,b,h=>by
  rw [eqL] at h
  obtain ⟨b1,e1,h⟩:=oB1.mp h
  obtain ⟨b2,e2,h⟩:=oM1.mp h
  obtain ⟨e,he,hb⟩:=eqL_at f e2
  refine ⟨fun j=>match j with | 0=>b1 | j+1=>e j,fun j x' y' hx hy=>?_,?_⟩
  ·cases j with
   | zero=>simp at hx hy;subst hx;subst hy;exact e1
   | succ j=>exact he j x' y' (by simpa using hx) (by simpa using hy)
  ·rw [<- h,hb,lC1,lC1,Nat.succ_min_succ,List.range_succ_eq_map,List.all_cons,List.all_map]
   have:((xs.length+1 == ys.length+1):Bool)=(xs.length == ys.length):=by simp
   rw [this,Bool.and_assoc]
   rfl
theorem eqN_at (I:Inv X pins σ H s) (hs:Sim X.K H mu S):∀ (n:Nat) {A:Around} {d e:D} {v w:V} {u z:Value} {b:Bool},A.units+n<cLine->Rep X.K H mu d v->Rep X.K H mu e w->RelV v u->RelV w z->eqN S n d e=some b->SeqAt.EqAt A s u z b/\SeqAt.RcAt A s u z b
 | 0,_,_,_,_,_,_,_,_,_,_,_,_,_,h=>by cases h
 | n + 1,A,d,e,v,w,u,z,b,hu,rd,re,ru,rz,h=>by
  have hu0:A.units<cLine:=by lia
  have h0:=h
  rw [eqN] at h
  cases hd:seqOf S d with
  | some p=>
   obtain ⟨pb,xs⟩:=p
   obtain ⟨a,vs,rfl,q,t⟩:=seqOf_at rd hs hd
   obtain ⟨its,rv,co,_⟩:=sqb_at I q
   cases ru
   cases he:seqOf S e with
   | some p2=>
    obtain ⟨qb,ys⟩:=p2
    obtain ⟨a2,vs2,rfl,q2,t2⟩:=seqOf_at re hs he
    obtain ⟨its2,rv2,co2,_⟩:=sqb_at I q2
    cases rz
    rw [hd,he] at h
    dsimp only at h
    have both:SeqAt.RcAt A s (.ref a) (.ref a2) b->SeqAt.EqAt A s (.ref a) (.ref a2) b/\SeqAt.RcAt A s (.ref a) (.ref a2) b:=fun rc=>by
     refine ⟨?_,rc⟩
     by_cases ha:a=a2
     ·subst ha
      rw [eqN_same I hs (n+1) rd re h0]
      exact .same _
     ·exact .of_refs ha rc
    split at h
    ·rename_i hb
     have hb':pb=qb:=hb
     subst hb'
     split at h
     ·rename_i hl
      cases h
      obtain ⟨h1,h2⟩:=hl
      subst h1
      refine both (.lists_lengths co co2 ?_ hu0)
      have l1:=t.length;have l2:=t2.length;have l3:=rv.length;have l4:=rv2.length
      simp only [sT1,bne_iff_ne,ne_eq]
      lia
     ·rename_i hl
      obtain ⟨f,hf,hbb⟩:=eqL_at _ h
      have elts:∀ j (h1:j<its.toArray.size) (h2:j<its2.toArray.size),SeqAt.EqAt A.in1 s its.toArray[j] its2.toArray[j] (f j):=fun j h1 h2=>by
       have h1':j<its.length:=by simpa using h1
       have h2':j<its2.length:=by simpa using h2
       have k1:j<vs.length:=by rw [rv.length];exact h1'
       have k2:j<vs2.length:=by rw [rv2.length];exact h2'
       obtain ⟨x,ex,rx⟩:=t.getV (gG1 k1)
       obtain ⟨y,ey,ry⟩:=t2.getV (gG1 k2)
       obtain ⟨u1,eu1,ru1⟩:=rv.get (gG1 k1)
       obtain ⟨u2,eu2,ru2⟩:=rv2.get (gG1 k2)
       have e1:its.toArray[j]=u1:=by
        rw [gG1 h1'] at eu1;simpa using eu1
       have e2:its2.toArray[j]=u2:=by
        rw [gG1 h2'] at eu2;simpa using eu2
       rw [e1,e2]
       exact (eqN_at I hs n (A:=A.in1) (by show A.units+1+n<cLine;lia) rx ry ru1 ru2 (hf j x y ex ey)).1
      have l1:=t.length;have l2:=t2.length;have l3:=rv.length;have l4:=rv2.length
      cases pb with
      | false=>
       refine both ?_
       have:=SeqAt.RcAt.tuples co co2 hu0 elts
       rw [hbb]
       have e1:its.toArray.size=xs.length:=by simp;lia
       have e2:its2.toArray.size=ys.length:=by simp;lia
       rw [e1,e2] at this
       exact this
      | true=>
       refine both ?_
       have hl':xs.length=ys.length:=by
        by_cases z:xs.length=ys.length
        ·exact z
        ·exact absurd ⟨rfl,z⟩ hl
       have:=SeqAt.RcAt.lists co co2 (by simp;lia) hu0 elts
       rw [hbb]
       have e1:its.toArray.size=xs.length:=by simp;lia
       rw [e1] at this
       rw [hl',Nat.min_self,beq_self_eq_true,Bool.and_true,<- hl']
       exact this
    ·rename_i hb
     cases h
     cases pb with
     | true=>
      cases qb with
      | true=>exact absurd rfl hb
      | false=>exact ⟨.list_tuple co co2 hu0,.list_tuple co co2 hu0⟩
     | false=>
      cases qb with
      | false=>exact absurd rfl hb
      | true=>exact ⟨.tuple_list co co2 hu0,.tuple_list co co2 hu0⟩
   | none=>
    rw [hd,he] at h
    dsimp only at h
    split at h
    ·rename_i f
     cases h
     obtain ⟨r1,r2,r3,r4⟩:=rc_seq_none co rz (flat_rep re f).1 hu0
     exact ⟨r1,r3⟩
    ·cases h
  | none=>
   cases he:seqOf S e with
   | some p2=>
    obtain ⟨qb,ys⟩:=p2
    obtain ⟨a2,vs2,rfl,q2,t2⟩:=seqOf_at re hs he
    obtain ⟨its2,rv2,co2,_⟩:=sqb_at I q2
    cases rz
    rw [hd,he] at h
    dsimp only at h
    split at h
    ·rename_i f
     cases h
     obtain ⟨r1,r2,r3,r4⟩:=rc_seq_none co2 ru (flat_rep rd f).1 hu0
     exact ⟨r2,r4⟩
    ·cases h
   | none=>
    rw [hd,he] at h
    dsimp only at h
    obtain ⟨f1,f2⟩:=eqF_flat h
    obtain ⟨g1,g2⟩:=flat_rep rd f1
    have g3:=(flat_rep re f2).1
    rw [g2 e w re f2] at h
    cases h
    exact ⟨eqAt_V ru rz g1 g3,rc_flat ru rz g1 g3⟩
end
noncomputable def deepMost:Nat:=60
noncomputable def gEq:G2:=fun d e S=>(eqN S deepMost d e).map fun b=>(.bl b,S)
section
variable {X:Cx}
theorem o_eq (hu:X.A.units+64<cLine):OpR X (compareOp .Eq) (r2 X.K (b2 gEq)):=by
 intro pins s σ H x y u w Q I rx ry h
 obtain ⟨mu,S,d,e,r,S',r1,r2,hs,hm,hc⟩:=rn2 h
 obtain ⟨b,e1,hm⟩:=oM1.mp hm
 cases hm
 exact (eqN_at I hs deepMost (by show _+60<cLine;lia) r1 r2 rx ry e1).2 X.prog X.w X.xe _ ⟨.bl b,H,I,rfl,hc.now (.bl b) hs⟩
end
section
variable {X:Cx} {pins:List (Addr×Obj)} {σ:L2.St} {H:Hp} {s:Shared} {mu:List Addr} {S:Sto}
theorem ne_flat {A:Around}{x y:V}{u w:Value}(rx:RelV x u)(ry:RelV y w)(fx:flatV x=true)(fy:flatV y=true):SeqAt.RcNeAt A s u w (!eqV x y):=by
 cases x with
 | non=>cases rx;cases y with
  | non=>cases ry;exact .none_none
  | bl k=>cases ry;exact .none_bool k
  | int i=>obtain ⟨t,rfl⟩:=ry;exact .none_int i t
  | str z=>obtain ⟨t,rfl⟩:=ry;exact .none_str z t
  | _=>cases fy
 | bl k'=>cases rx;cases y with
  | non=>cases ry;exact .bool_none k'
  | bl k=>cases ry;exact .bool_bool k' k
  | int i=>obtain ⟨t,rfl⟩:=ry;exact .bool_int k' i t
  | str z=>obtain ⟨t,rfl⟩:=ry;exact .bool_str k' z t
  | _=>cases fy
 | int i'=>obtain ⟨t',rfl⟩:=rx;cases y with
  | non=>cases ry;exact .int_none i' t'
  | bl k=>cases ry;exact .int_bool i' t' k
  | int i=>obtain ⟨t,rfl⟩:=ry;exact .int_int i' t' i t
  | str z=>obtain ⟨t,rfl⟩:=ry;exact .int_str i' t' z t
  | _=>cases fy
 | str z'=>obtain ⟨t',rfl⟩:=rx;cases y with
  | non=>cases ry;exact .str_none z' t'
  | bl k=>cases ry;exact .str_bool z' t' k
  | int i=>obtain ⟨t,rfl⟩:=ry;exact .str_int z' t' i t
  | str z=>obtain ⟨t,rfl⟩:=ry;exact .str_str z' t' z t
  | _=>cases fy
 | _=>cases fx
theorem ne_seq_none {A:Around}{b:Bool}{a:Addr}{its:Array Value}{v:V}{u:Value}(c:SCo b s.heap a its)(r:RelV v u)(f:flatV v=true)(hu:A.units<cLine):SeqAt.RcNeAt A s (.ref a) u true/\SeqAt.RcNeAt A s u (.ref a) true:=by
 cases v with
 | non => cases r;cases b
          · exact ⟨.tuple_none c hu,.none_tuple c hu⟩
          · exact ⟨.list_none c hu,.none_list c hu⟩
 | bl k => cases r;cases b
           · exact ⟨.tuple_bool k c hu,.bool_tuple k c hu⟩
           · exact ⟨.list_bool k c hu,.bool_list k c hu⟩
 | int i => obtain ⟨t,rfl⟩:=r;cases b
            · exact ⟨.tuple_int i t c hu,.int_tuple i t c hu⟩
            · exact ⟨.list_int i t c hu,.int_list i t c hu⟩
 | str x => obtain ⟨t,rfl⟩:=r;cases b
            · exact ⟨.tuple_str x t c hu,.str_tuple x t c hu⟩
            · exact ⟨.list_str x t c hu,.str_list x t c hu⟩
 | _=>cases f
theorem neN_at (I:Inv X pins σ H s) (hs:Sim X.K H mu S) (n:Nat) {A:Around} {d e:D} {v w:V} {u z:Value} {b:Bool} (hu:A.units+n<cLine) (rd:Rep X.K H mu d v) (re:Rep X.K H mu e w) (ru:RelV v u) (rz:RelV w z) (h:eqN S n d e=some b):SeqAt.RcNeAt A s u z (!b):=by
 cases n with
 | zero=>cases h
 | succ n=>
  have hu0:A.units<cLine:=by lia
  rw [eqN] at h
  cases hd:seqOf S d with
  | some p=>
   obtain ⟨pb,xs⟩:=p
   obtain ⟨a,vs,rfl,q,t⟩:=seqOf_at rd hs hd
   obtain ⟨its,rv,co,_⟩:=sqb_at I q
   cases ru
   cases he:seqOf S e with
   | some p2=>
    obtain ⟨qb,ys⟩:=p2
    obtain ⟨a2,vs2,rfl,q2,t2⟩:=seqOf_at re hs he
    obtain ⟨its2,rv2,co2,_⟩:=sqb_at I q2
    cases rz
    rw [hd,he] at h
    dsimp only at h
    have l1:=t.length;have l2:=t2.length;have l3:=rv.length;have l4:=rv2.length
    split at h
    ·rename_i hb
     have hb':pb=qb:=hb
     subst hb'
     split at h
     ·rename_i hl
      cases h
      obtain ⟨h1,h2⟩:=hl
      subst h1
      refine .lists_lengths co co2 ?_ hu0
      simp only [sT1,bne_iff_ne,ne_eq]
      lia
     ·rename_i hl
      obtain ⟨f,hf,hbb⟩:=eqL_at _ h
      have elts:∀ j (h1:j<its.toArray.size) (h2:j<its2.toArray.size),SeqAt.EqAt A.in1 s its.toArray[j] its2.toArray[j] (f j):=fun j h1 h2=>by
       have h1':j<its.length:=by simpa using h1
       have h2':j<its2.length:=by simpa using h2
       have k1:j<vs.length:=by rw [rv.length];exact h1'
       have k2:j<vs2.length:=by rw [rv2.length];exact h2'
       obtain ⟨x,ex,rx⟩:=t.getV (gG1 k1)
       obtain ⟨y,ey,ry⟩:=t2.getV (gG1 k2)
       obtain ⟨u1,eu1,ru1⟩:=rv.get (gG1 k1)
       obtain ⟨u2,eu2,ru2⟩:=rv2.get (gG1 k2)
       have e1:its.toArray[j]=u1:=by
        rw [gG1 h1'] at eu1;simpa using eu1
       have e2:its2.toArray[j]=u2:=by
        rw [gG1 h2'] at eu2;simpa using eu2
       rw [e1,e2]
       exact (eqN_at I hs n (A:=A.in1) (by show A.units+1+n<cLine;lia) rx ry ru1 ru2 (hf j x y ex ey)).1
      cases pb with
      | false=>
       have:=SeqAt.RcNeAt.tuples co co2 hu0 elts
       rw [hbb]
       have e1:its.toArray.size=xs.length:=by simp;lia
       have e2:its2.toArray.size=ys.length:=by simp;lia
       rw [e1,e2] at this
       exact this
      | true=>
       have hl':xs.length=ys.length:=by
        by_cases z:xs.length=ys.length
        ·exact z
        ·exact absurd ⟨rfl,z⟩ hl
       have:=SeqAt.RcNeAt.lists co co2 (by simp;lia) hu0 elts
       rw [hbb]
       have e1:its.toArray.size=xs.length:=by simp;lia
       rw [e1] at this
       rw [hl',Nat.min_self,beq_self_eq_true,Bool.and_true,<- hl']
       exact this
    ·rename_i hb
     cases h
     cases pb with
     | true=>
      cases qb with
      | true=>exact absurd rfl hb
      | false=>exact .list_tuple co co2 hu0
     | false=>
      cases qb with
      | false=>exact absurd rfl hb
      | true=>exact .tuple_list co co2 hu0
   | none=>
    rw [hd,he] at h
    dsimp only at h
    split at h
    ·rename_i f
     cases h
     exact (ne_seq_none co rz (flat_rep re f).1 hu0).1
    ·cases h
  | none=>
   cases he:seqOf S e with
   | some p2=>
    obtain ⟨qb,ys⟩:=p2
    obtain ⟨a2,vs2,rfl,q2,t2⟩:=seqOf_at re hs he
    obtain ⟨its2,rv2,co2,_⟩:=sqb_at I q2
    cases rz
    rw [hd,he] at h
    dsimp only at h
    split at h
    ·rename_i f
     cases h
     exact (ne_seq_none co2 ru (flat_rep rd f).1 hu0).2
    ·cases h
   | none=>
    rw [hd,he] at h
    dsimp only at h
    obtain ⟨f1,f2⟩:=eqF_flat h
    obtain ⟨g1,g2⟩:=flat_rep rd f1
    have g3:=(flat_rep re f2).1
    rw [g2 e w re f2] at h
    cases h
    exact ne_flat ru rz g1 g3
end
noncomputable def gNe:G2:=fun d e S=>(eqN S deepMost d e).map fun b=>(.bl (!b),S)
noncomputable def inL (f:D->D->Option Bool)(x:D):List D->Option Bool
 | []=>some false
 | y::ys=>(f y x).bind fun b=>(inL f x ys).map fun c=>b||c
noncomputable def gIn:G2:=fun d e S=>(seqOf S e).bind fun p=>(inL (eqN S deepMost) d p.2).map fun b=>(.bl b,S)
noncomputable def gNotIn:G2:=fun d e S=>(seqOf S e).bind fun p=>(inL (eqN S deepMost) d p.2).map fun b=>(.bl (!b),S)
section
variable {X:Cx}
theorem o_ne (hu:X.A.units+64<cLine):OpR X (compareOp .NotEq) (r2 X.K (b2 gNe)):=by
 intro pins s σ H x y u w Q I rx ry h
 obtain ⟨mu,S,d,e,r,S',r1,r2,hs,hm,hc⟩:=rn2 h
 obtain ⟨b,e1,hm⟩:=oM1.mp hm
 cases hm
 exact neN_at I hs deepMost (by show _+60<cLine;lia) r1 r2 rx ry e1 X.prog X.w X.xe _ ⟨.bl (!b),H,I,rfl,hc.now (.bl _) hs⟩
theorem inL_at (f:D->D->Option Bool)(x:D):∀ {ys:List D} {b:Bool},inL f x ys=some b -> ∃ bs:List Bool,bs.length=ys.length/\(∀ (j:Nat) (y:D) (k:Bool),ys[j]? = some y->bs[j]? = some k->f y x=some k)/\b=bs.any id
 | [],b,h=>by cases h;exact ⟨[],rfl,fun j y k h=>by simp at h,rfl⟩
 | y::ys,b,h=>by
  rw [inL] at h
  obtain ⟨b1,e1,h⟩:=oB1.mp h
  obtain ⟨b2,e2,h⟩:=oM1.mp h
  obtain ⟨bs,hl,hb,hany⟩:=inL_at f x e2
  refine ⟨b1::bs,by simp [hl],fun j y' k hy hk=>?_,?_⟩
  ·cases j with
   | zero=>simp at hy hk;subst hy;subst hk;exact e1
   | succ j=>exact hb j y' k (by simpa using hy) (by simpa using hk)
  ·rw [<- h,hany];simp
open Classical in
theorem in_at {pins:List (Addr×Obj)}{σ:L2.St}{H:Hp}{s:Shared}{mu:List Addr}{S:Sto}(I:Inv X pins σ H s)(hs:Sim X.K H mu S){A:Around}(hu:A.units+61<cLine){x:D}{v:V}{u:Value}(rx:Rep X.K H mu x v)(ru:RelV v u)
  {ys:List D} {vs:List V} {us:List Value} {b:Bool} (ry:Reps X.K H mu ys vs) (rv:Vals vs us) (h:inL (eqN S deepMost) x ys=some b):∃ e:Value->Bool,(∀ w∈us,SeqAt.EqAt A.in1 s w u (e w))/\us.any e=b:=by
 obtain ⟨bs,hl,hb,rfl⟩:=inL_at _ x h
 have l1:=ry.length
 have l2:=rv.length
 have at_:∀ (j:Nat) w k,us[j]? = some w->bs[j]? = some k->SeqAt.EqAt A.in1 s w u k:=fun j w k hw hk=>by
  have j1:j<us.length:=(gE1.mp hw).1
  obtain ⟨y,ey,r1⟩:=ry.getV (i:=j) (v:=vs[j]'(by lia)) (gG1 (by lia))
  obtain ⟨w',ew,r2⟩:=rv.get (i:=j) (x:=vs[j]'(by lia)) (gG1 (by lia))
  rw [hw] at ew;cases ew
  exact (eqN_at I hs deepMost (A:=A.in1) (by show A.units+1+60<cLine;lia) r1 rx r2 ru (hb j y k ey hk)).1
 refine ⟨fun w=>decide (∃ j:Nat,us[j]? = some w/\bs[j]? = some true),fun w hw=>?_,?_⟩
 ·by_cases z:∃ j:Nat,us[j]? = some w/\bs[j]? = some true
  ·dsimp only;rw [decide_eq_true z]
   obtain ⟨j,e1,e2⟩:=z
   exact at_ j w true e1 e2
  ·dsimp only;rw [decide_eq_false z]
   obtain ⟨j,hj⟩:=List.getElem?_of_mem hw
   have j1:j<us.length:=(gE1.mp hj).1
   have j2:j<bs.length:=by lia
   have e2:=gG1 j2
   cases hk:bs[j] with
   | true=>rw [hk] at e2;exact absurd ⟨j,hj,e2⟩ z
   | false=>rw [hk] at e2;exact at_ j w false hj e2
 ·rw [Bool.eq_iff_iff,List.any_eq_true,List.any_eq_true]
  constructor
  ·rintro ⟨w,hw,z⟩
   obtain ⟨j,e1,e2⟩:=of_decide_eq_true z
   exact ⟨true,gM1 e2,rfl⟩
  ·rintro ⟨k,hk,z⟩
   obtain ⟨j,hj⟩:=List.getElem?_of_mem hk
   have j1:j<bs.length:=(gE1.mp hj).1
   have j2:j<us.length:=by lia
   have z':k=true:=z
   subst z'
   exact ⟨us[j],List.getElem_mem j2,decide_eq_true ⟨j,gG1 j2,hj⟩⟩
theorem o_notIn (hu:X.A.units+64<cLine):OpR X (compareOp .NotIn) (r2 X.K (b2 gNotIn)):=by
 intro pins s σ H x y u w Q I rx ry h
 obtain ⟨mu,S,d,e,r,S',r1,r2,hs,hm,hc⟩:=rn2 h
 obtain ⟨⟨pb,ys⟩,e1,hm⟩:=oB1.mp hm
 obtain ⟨b,e2,hm⟩:=oM1.mp hm
 cases hm
 obtain ⟨a,vs,rfl,q,t⟩:=seqOf_at r2 hs e1
 cases ry
 obtain ⟨its,rv,co,_⟩:=sqb_at I q
 obtain ⟨f,hf,hb⟩:=in_at I hs (A:=X.A) (by lia) r1 rx t rv e2
 have fin:EP X pins σ Q (.bool (!its.toArray.any f)) s:=⟨.bl (!b),H,I,by rw [show its.toArray.any f=its.any f by simp,hb];rfl,hc.now (.bl _) hs⟩
 cases pb
 ·exact SeqAt.notIn_tupleAt f co (fun y hy=>hf y (by simpa using hy)) fin
 ·exact SeqAt.notIn_listAt f co (fun y hy=>hf y (by simpa using hy)) fin
end
noncomputable def gLen:G1:=fun d S=>match d with
 | .str x=>if x.length<=sizeLine then some (.int x.length,S) else none
 | _=>(seqOf S d).map fun p=>(.int p.2.length,S)
noncomputable def gIx:G2:=fun d e S=>match e with
 | .int i=>(seqOf S d).bind fun p=>(atI p.2 i).map fun x=>(x,S)
 | _=>none
noncomputable def gTup:G1:=fun d S=>(seqOf S d).map fun p=>(.tup p.2,S)
noncomputable def gLst:G1:=fun d S=>(seqOf S d).map fun p=>(.ref S.length,S++[.lst p.2])
noncomputable def gSetIx:G3:=fun o i v S=>match o,i with
 | .ref n,.int k=>match S[n]? with
  | some (.lst xs)=>(ixN xs.length k).map fun j=>(.non,S.set n (.lst (xs.set j v)))
  | _=>none
 | _,_=>none
noncomputable def allB:List D->Option Bool
 | []=>some true
 | .bl b::r=>(allB r).map fun c=>b&&c
 | _=>none
noncomputable def gAll:G1:=fun d S=>(seqOf S d).bind fun p=>(allB p.2).map fun b=>(.bl b,S)
noncomputable def gInt:G1:=fun d S=>match d with
 | .int i=>some (.int i,S)
 | .bl b=>some (.int (if b then 1 else 0),S)
 | _=>none
noncomputable def gAbs:G1:=fun d S=>match d with
 | .int i=>some (.int (if i<0 then-i else i),S)
 | _=>none
noncomputable def gMax:G2:=fun d e S=>match d,e with
 | .int i,.int j=>some (.int (if j>i then j else i),S)
 | _,_=>none
noncomputable def gMin:G2:=fun d e S=>match d,e with
 | .int i,.int j=>some (.int (if j<i then j else i),S)
 | _,_=>none
section
variable {X:Cx}
theorem c_len:CallR X (.builtin "len") (rN X.K (b1 gLen)):=by
 intro pins s σ H xs us Q I r h
 obtain ⟨x,mu,S,d,r',S',rfl,r1,hs,hm,hc⟩:=rn1 h
 unfold gLen at hm
 split at hm
 ·split at hm
  ·rename_i z hl
   cases hm;cases r1
   exact call_len_str pins s σ H _ us Q I r ⟨_,rfl,hl,hc.now (.int _) hs⟩
  ·cases hm
 ·obtain ⟨⟨b,ys⟩,e1,hm⟩:=oM1.mp hm
  cases hm
  obtain ⟨a,vs,rfl,q,t⟩:=seqOf_at r1 hs e1
  refine call_len_seq pins s σ H _ us Q I r ⟨a,vs,rfl,?_,?_⟩
  ·cases b
   ·exact .inr q
   ·exact .inl q
  ·rw [<- t.length];exact hc.now (.int _) hs
theorem atI_rep {K:Fg1}{H:Hp}{mu:List Addr}{ds:List D}{vs:List V}{i:Int}{d:D}(t:Reps K H mu ds vs)(h:atI ds i=some d):∃ v,atI vs i=some v/\Rep K H mu d v:=by
 unfold atI at h ⊢
 rw [<- t.length]
 obtain ⟨j,e1,h⟩:=oB1.mp h
 obtain ⟨v,ev,rv⟩:=t.get h
 exact ⟨v,by rw [e1];exact ev,rv⟩
theorem x_ix:IxR X (r2 X.K (b2 gIx)):=by
 intro value slice pins s σ H x y v u Q I rx ry h hs2
 obtain ⟨mu,S,d,e,r,S',r1,r2,hs,hm,hc⟩:=rn2 h
 cases e with
 | int i=>
  obtain ⟨⟨b,ys⟩,e1,hm⟩:=oB1.mp hm
  obtain ⟨z,e2,hm⟩:=oM1.mp hm
  cases hm;cases r2
  obtain ⟨a,vs,rfl,q,t⟩:=seqOf_at r1 hs e1
  obtain ⟨v',ev,rv⟩:=atI_rep t e2
  cases b
  ·exact ix_tup value slice pins s σ H _ _ v u Q I rx ry ⟨a,vs,i,v',rfl,rfl,q,ev,hc.now rv hs⟩ hs2
  ·exact ix_list value slice pins s σ H _ _ v u Q I rx ry ⟨a,vs,i,v',rfl,rfl,q,ev,hc.now rv hs⟩ hs2
 | _=>cases hm
theorem c_tuple:CallR X (.type "tuple") (rN X.K (b1 gTup)):=by
 intro pins s σ H xs us Q I r h
 obtain ⟨x,mu,S,d,r',S',rfl,r1,hs,hm,hc⟩:=rn1 h
 obtain ⟨⟨b,ys⟩,e1,hm⟩:=oM1.mp hm
 cases hm
 obtain ⟨a,vs,rfl,q,t⟩:=seqOf_at r1 hs e1
 refine call_tuple_of pins s σ H _ us Q I r ⟨a,vs,rfl,?_⟩
 cases b
 ·exact .inr ⟨q,hc.now (.tup q t) hs⟩
 ·exact .inl ⟨q,fun l hl=>hc _ _ mu (Ext.fresh hl) (.tup (SqT.of upd_same) (t.ext (Ext.fresh hl))) (hs.fresh hl)⟩
theorem c_list:CallR X (.type "list") (rN X.K (b1 gLst)):=by
 intro pins s σ H xs us Q I r h
 obtain ⟨x,mu,S,d,r',S',rfl,r1,hs,hm,hc⟩:=rn1 h
 obtain ⟨⟨b,ys⟩,e1,hm⟩:=oM1.mp hm
 cases hm
 obtain ⟨a,vs,rfl,q,t⟩:=seqOf_at r1 hs e1
 refine call_list_of pins s σ H _ us Q I r ⟨a,vs,rfl,?_,fun l hl=>hc _ _ (mu++[l]) (Ext.new_ hl) (.ref (new_at hs.len l)) (hs.newL t hl)⟩
 cases b
 ·exact .inr q
 ·exact .inl q
theorem s_set:PSet X (rU X.K (b3 gSetIx)):=by
 intro pins s σ H o i v ov iv u Q I ro ri rv h
 obtain ⟨mu,S,ds,d,S',hr,hs,hm,hc⟩:=h
 cases hr with
 | cons q1 t1=>cases t1 with
  | cons q2 t2=>cases t2 with
   | cons q3 t3=>
    cases t3
    rename_i d1 d2 d3
    dsimp only [b3] at hm
    unfold gSetIx at hm
    split at hm
    ·rename_i n k
     split at hm
     ·rename_i xs e
      obtain ⟨j,ej,hm⟩:=oM1.mp hm
      cases hm
      cases q1 with
      | ref qn=>
       cases q2
       obtain ⟨vs,ev,t⟩:=hs.lst e qn
       refine set_list pins s σ H _ _ v ov iv u Q I ro ri rv ⟨_,vs,k,j,rfl,rfl,ev,by rw [<- t.length];exact ej,?_⟩
       exact hc _ mu (Ext.put ev trivial (gM1 qn)) (hs.putL (t.set q3 j) qn ev)
     ·cases hm
    ·cases hm
theorem allB_at {K:Fg1}{H:Hp}{mu:List Addr}:∀ {ds:List D} {vs:List V} {us:List Value} {b:Bool},Reps K H mu ds vs->Vals vs us->allB ds=some b -> ∃ bs:List Bool,us=bs.map Value.bool/\b=bs.all id:=by
 intro ds
 induction ds with
 | nil=>intro vs us b r v h;cases r;cases v;cases h;exact ⟨[],rfl,rfl⟩
 | cons d ds ih=>
  intro vs us b r v h
  cases r with
  | cons r1 t=>
   cases v with
   | cons r tt=>
    cases r1
    case bl k=>
     obtain ⟨c,e,h⟩:=oM1.mp h
     obtain ⟨bs,e1,e2⟩:=ih t tt e
     cases r
     exact ⟨k::bs,by rw [e1];rfl,by rw [<- h,e2];rfl⟩
    all_goals cases h
theorem range_all (bs:List Bool):(List.range bs.length).all (fun i=>bs.getD i true)=bs.all id:=by
 rw [Bool.eq_iff_iff,List.all_eq_true,List.all_eq_true]
 constructor
 ·intro h b hb
  obtain ⟨i,hi,rfl⟩:=List.mem_iff_getElem.mp hb
  have:=h i (List.mem_range.mpr hi)
  simpa [List.getD_eq_getElem?_getD,hi] using this
 ·intro h i hi
  have hi':=List.mem_range.mp hi
  have:=h _ (List.getElem_mem hi')
  simpa [List.getD_eq_getElem?_getD,hi'] using this
theorem walk_bools {s:Shared}{b:Bool}{a:Addr}{bs:List Bool}(hc:X.A.handled=none)(co:SCo b s.heap a (bs.map Value.bool).toArray){Q:Value->Shared->Prop}
  (all:∀ h' tk,(∀ c o,s.heap.get? c=some o->h'.get? c=some o)->Q (.bool (bs.all id)) {s with heap:=h',toks:=tk}):wpAny (model X.prog X.w) X.A (call (.builtin "all") [.ref a]) Q X.xe s:=by
 refine call_all_walk (sit_iter co ?_)
 have hlt:a<s.heap.objs.size:=by cases b<;>(obtain ⟨o,e,_⟩:=co;exact hL1 e)
 have ne:a≠s.heap.objs.size:=nN1 hlt
 have tr:TruthOf X.prog X.w X.A.in1 (fun i v=>(bs.map Value.bool).toArray[i]? = some v) (fun i=>bs.getD i true):=fun i v s' Q' E' hv hq=>by
  have hv':(bs.map Value.bool)[i]? = some v:=by simpa using hv
  rw [gP1] at hv'
  obtain ⟨k,ek,rfl⟩:=oM1.mp hv'
  dsimp only at hq;rw [List.getD_eq_getElem?_getD,ek] at hq
  exact wpAny_truthy_bool hq
 have keep:∀ (h':Heap),(∀ c o,c∉[s.heap.objs.size]->(s.heap.push (itObj b a)).get? c=some o->h'.get? c=some o) -> ∀ c o,s.heap.get? c=some o->h'.get? c=some o:=fun h' hk c o e=>
  hk c o (by simpa using nN1 (hL1 e)) (hP1 _ e)
 have hi:(s.heap.push (itObj b a)).get? s.heap.objs.size=some (itObj b a):=hS1 _ (by cases b<;>rfl)
 cases b with
 | true=>
  refine ⟨s.heap.objs.size,_,_,_,_,_,_,rfl,Walks.list (A:=X.A.in1) hc s.heap.objs.size a ne (bs.map Value.bool).toArray,⟨⟨_,hi,rfl,rfl⟩,SCo.to (b:=true) co fun o e=>hP1 _ e⟩,tr,fun h' tk hk=>?_⟩
  have e:(bs.map Value.bool).toArray.size=bs.length:=by simp
  rw [e,range_all]
  exact all h' tk (keep h' hk)
 | false=>
  refine ⟨s.heap.objs.size,_,_,_,_,_,_,rfl,Walks.tuple (A:=X.A.in1) hc s.heap.objs.size a ne (bs.map Value.bool).toArray,⟨⟨_,hi,rfl,rfl⟩,SCo.to (b:=false) co fun o e=>hP1 _ e⟩,tr,fun h' tk hk=>?_⟩
  have e:(bs.map Value.bool).toArray.size=bs.length:=by simp
  rw [e,range_all]
  exact all h' tk (keep h' hk)
theorem c_all (hc:X.calm=true):CallR X (.builtin "all") (rN X.K (b1 gAll)):=by
 intro pins s σ H xs us Q I r h
 obtain ⟨x,mu,S,d,r',S',rfl,r1,hs,hm,hcc⟩:=rn1 h
 obtain ⟨⟨b,ys⟩,e1,hm⟩:=oB1.mp hm
 obtain ⟨k,e2,hm⟩:=oM1.mp hm
 cases hm
 obtain ⟨a,vs,rfl,q,t⟩:=seqOf_at r1 hs e1
 obtain ⟨u,rfl,ru⟩:=vals1 r
 cases ru
 obtain ⟨its,rv,co,_⟩:=sqb_at I q
 obtain ⟨bs,rfl,rfl⟩:=allB_at t rv e2
 exact walk_bools (I.ok.hd hc) co fun h' tk hk=>⟨.bl _,H,I.kept hk,rfl,hcc.now (.bl _) hs⟩
theorem c_int:CallR X (.type "int") (rN X.K (b1 gInt)):=by
 intro pins s σ H xs us Q I r h
 obtain ⟨x,mu,S,d,r',S',rfl,r1,hs,hm,hc⟩:=rn1 h
 cases d with
 | int i=>cases hm;cases r1;exact call_int1 pins s σ H _ us Q I r (.inl ⟨i,rfl,hc.now (.int _) hs⟩)
 | bl b=>cases hm;cases r1;exact call_int1 pins s σ H _ us Q I r (.inr ⟨b,rfl,hc.now (.int _) hs⟩)
 | _=>cases hm
theorem c_abs:CallR X (.builtin "abs") (rN X.K (b1 gAbs)):=by
 intro pins s σ H xs us Q I r h
 obtain ⟨x,mu,S,d,r',S',rfl,r1,hs,hm,hc⟩:=rn1 h
 cases d with
 | int i=>cases hm;cases r1;exact call_abs pins s σ H _ us Q I r ⟨i,rfl,hc.now (.int _) hs⟩
 | _=>cases hm
theorem c_min (hc:X.calm=true):CallR X (.builtin "min") (rN X.K (b2 gMin)):=by
 intro pins s σ H xs us Q I r h
 obtain ⟨x,y,mu,S,d,e,r',S',rfl,r1,r2,hs,hm,hcc⟩:=rn2l h
 unfold gMin at hm
 split at hm
 ·cases hm;cases r1;cases r2
  exact call_min2 hc pins s σ H _ us Q I r ⟨_,_,rfl,hcc.now (.int _) hs⟩
 ·cases hm
end
open PySem.SeqAt
open PySem.AutoSeq1 (wpAny_loadPart')
open PySem.MeetsSeq PySem.MeetsSeq2 PySem.MeetsSeq3
noncomputable def RcLt (A:Around)(s:Shared)(y x:Value)(b:Bool):Prop:=∀ (prog:Program) (w:World) (E:Value->Shared->Prop) (Q:Value->Shared->Prop),Q (.bool b) s->wpAny (model prog w) A (richCompare .Lt y x) Q E s
inductive LtS (A:Around)(s:Shared):List Value->List Value->Bool->Prop
 | nn:LtS A s [] [] false
 | nc (y:Value) (ys:List Value):LtS A s [] (y::ys) true
 | cn (x:Value) (xs:List Value):LtS A s (x::xs) [] false
 | eq {x y:Value} {xs ys:List Value} {k:Bool} (e:EqAt A.in1 s x y true) (t:LtS A s xs ys k):LtS A s (x::xs) (y::ys) k
 | lt {x y:Value} {xs ys:List Value} {k:Bool} (e:EqAt A.in1 s x y false) (t:RcLt A.in1 s x y k):LtS A s (x::xs) (y::ys) k
theorem tup_lt (l b:Addr)(items items2:Array Value)(n n2:Nat)(dd dd2:Option Addr)(sl sl2:Array (Option Value))(c:Bool):
  Meets (Builtin.«tuple.__lt__» ⟨[.ref l,.ref b],[]⟩) (fun A R s=>s.heap.get? l=some {cls:=.type "tuple",dict:=dd,data:=.seq items n,slots:=sl}/\s.heap.get? b=some {cls:=.type "tuple",dict:=dd2,data:=.seq items2 n2,slots:=sl2} /\
    LtS A s items.toList items2.toList c/\R (.ok (.ret (.bool c))) s):=
 .of_wp fun prog w A R s h=>by
  obtain ⟨hp,g,d,tk,os⟩:=s;obtain ⟨hl,hb,hs,h⟩:=h;have f2:=AutoSeq1.sub_tuple_tuple
  wp_walk using wpAny_loadPart' hl,wpAny_loadPart' hb,wpAny_forIn_list _ (fun rest b s'=>b.1=none/\s'=⟨hp,g,d,tk,os⟩ /\ ∃ vs ws:List Value,rest=vs.zip ws/\LtS A ⟨hp,g,d,tk,os⟩ vs ws c/\vs.length+items2.size=ws.length+items.size) _
  case turn=>
   rintro ⟨y,x⟩ rest b s' ⟨hb',rfl,vs,ws,hz,hL,hlen⟩
   cases hL with
   | nn=>cases hz
   | nc _ _=>cases hz
   | cn _ _=>cases hz
   | eq e t=>
    rw [List.zip_cons_cons] at hz;injection hz with hyx hrest;injection hyx with hy hx;subst hy hx
    simp only [lC1] at hlen
    refine wB1 (e prog w _ _ ?_)
    wp_walk
    exact ⟨rfl,rfl,_,_,hrest,t,by lia⟩
   | lt e t=>
    rw [List.zip_cons_cons] at hz;injection hz with hyx hrest;injection hyx with hy hx;subst hy hx
    refine wB1 (e prog w _ _ ?_)
    have t':=t prog w
    wp_walk using t'
    exact ⟨_,rfl,by simpa using h⟩
  case fin=>
   rintro ⟨b1,b2⟩ s' ⟨hb',rfl,vs,ws,hz,hL,hlen⟩
   simp only at hb';subst hb'
   have hv:c=decide (items.size<items2.size):=by
    cases hL with
    | nn=>simp only [List.length_nil] at hlen;exact (decide_eq_false (by lia)).symm
    | nc _ _=>simp only [List.length_nil,lC1] at hlen;exact (decide_eq_true (by lia)).symm
    | cn _ _=>simp only [List.length_nil,lC1] at hlen;exact (decide_eq_false (by lia)).symm
    | eq _ _=>rw [List.zip_cons_cons] at hz;cases hz
    | lt _ _=>rw [List.zip_cons_cons] at hz;cases hz
   rw [hv] at h
   wp_walk
   exact ⟨_,rfl,by simpa [Builtin.Tuple.tupleCompareSizes] using h⟩
  case h=>exact ⟨rfl,rfl,items.toList,items2.toList,rfl,hs,by simp;lia⟩
theorem lst_loop (l b:Addr)(items items2:Array Value)(n n2:Nat)(dd dd2:Option Addr)(sl sl2:Array (Option Value))(c:Bool)(k:Nat):
  ∀ i:Nat,items.size-i=k->i<=items.size->i<=items2.size->Meets (Builtin.«list.__eq__.loop» ⟨[.ref l,.ref b,rawInt i,rawInt 0],[]⟩)
   (fun A R s=>s.heap.get? l=some {cls:=.type "list",dict:=dd,data:=.seq items n,slots:=sl}/\s.heap.get? b=some {cls:=.type "list",dict:=dd2,data:=.seq items2 n2,slots:=sl2} /\
    LtS A s (items.toList.drop i) (items2.toList.drop i) c/\R (.ok (.ret (.bool c))) s):=by
 induction k with
 | zero=>
  intro i hk hi1 hi2 prog w A R s h
  obtain ⟨hp,g,d,tk,os⟩:=s;obtain ⟨hl,hb,hL,h⟩:=h
  wp_walk using wpAny_loadPart' hl,wpAny_loadPart' hb
  have e1:items[((i:Nat):Int).toNat]? = none:=by simp;lia
  have d1:items.toList.drop i=[]:=by simp;lia
  rw [d1] at hL;rw [e1]
  wp_walk using wpAny_loadPart' hl,wpAny_loadPart' hb
  have hv:c=decide (items.size<items2.size):=by
   cases h2:items2.toList.drop i with
   | nil=>
    rw [h2] at hL;cases hL
    have:=congrArg List.length h2;simp at this
    exact (decide_eq_false (by lia)).symm
   | cons y ys=>
    rw [h2] at hL;cases hL
    have:=congrArg List.length h2;simp at this
    exact (decide_eq_true (by lia)).symm
  show R (.ok (.ret (.bool (decide (items.size<items2.size))))) _
  rw [<- hv];exact h
 | succ k ih=>
  intro i hk hi1 hi2 prog w A R s h
  obtain ⟨hp,g,d,tk,os⟩:=s;obtain ⟨hl,hb,hL,h⟩:=h
  have hlt:i<items.size:=by lia
  have d1:items.toList.drop i=items[i]::items.toList.drop (i+1):=by simp [List.drop_eq_getElem_cons,hlt]
  have e1:items[((i:Nat):Int).toNat]? = some items[i]:=by simp [hlt]
  have hc:((i:Int)+1)=((i+1:Nat):Int):=by push_cast;rfl
  rw [d1] at hL
  rcases Nat.lt_or_ge i items2.size with hlt2 | hge
  ·have d2:items2.toList.drop i=items2[i]::items2.toList.drop (i+1):=by simp [List.drop_eq_getElem_cons,hlt2]
   have e2:items2[((i:Nat):Int).toNat]? = some items2[i]:=by simp [hlt2]
   rw [d2] at hL
   wp_walk using wpAny_loadPart' hl,wpAny_loadPart' hb
   rw [e1,e2]
   cases hL with
   | eq e t=>
    refine wB1 (e prog w _ _ ?_)
    wp_walk
    rw [hc]
    exact ⟨plainId_quiet plain_eq_loop _,wD1 entry_eq_loop (by rw [Around.under_plainId plain_eq_loop _];exact ih (i+1) (by lia) (by lia) (by lia) prog w A R _ ⟨hl,hb,t,h⟩)⟩
   | lt e t=>
    refine wB1 (e prog w _ _ ?_)
    have t':=t prog w
    wp_walk using wpAny_loadPart' hl,wpAny_loadPart' hb
    rw [e1,e2]
    wp_walk using t'
    simpa using h
  ·have e2:items2[((i:Nat):Int).toNat]? = none:=by simp;lia
   have d2:items2.toList.drop i=[]:=by simp;lia
   rw [d2] at hL;cases hL
   wp_walk using wpAny_loadPart' hl,wpAny_loadPart' hb
   rw [e1,e2]
   wp_walk using wpAny_loadPart' hl,wpAny_loadPart' hb
   show R (.ok (.ret (.bool (decide (items.size<items2.size))))) _
   rw [decide_eq_false (by lia)];exact h
theorem lst_lt (l b:Addr)(items items2:Array Value)(n n2:Nat)(dd dd2:Option Addr)(sl sl2:Array (Option Value))(c:Bool):
  Meets (Builtin.«list.__lt__» ⟨[.ref l,.ref b],[]⟩) (fun A R s=>s.heap.get? l=some {cls:=.type "list",dict:=dd,data:=.seq items n,slots:=sl}/\s.heap.get? b=some {cls:=.type "list",dict:=dd2,data:=.seq items2 n2,slots:=sl2} /\
    LtS A s items.toList items2.toList c/\R (.ok (.ret (.bool c))) s):=by
 intro prog w A R s h
 obtain ⟨hp,g,d,tk,os⟩:=s;obtain ⟨hl,hb,hL,h⟩:=h;have f3:=AutoSeq1.sub_list_list
 wp_walk using wpAny_loadPart' hl,wpAny_loadPart' hb
 exact ⟨plainId_quiet plain_eq_loop _,wD1 entry_eq_loop (by rw [Around.under_plainId plain_eq_loop _];exact lst_loop l b items items2 n n2 dd dd2 sl sl2 c _ 0 rfl (Nat.zero_le _) (Nat.zero_le _) prog w A R _ ⟨hl,hb,by simpa using hL,h⟩)⟩
theorem seq_lt {A:Around}{s:Shared}{k:Bool}{l b:Addr}{xs ys:Array Value}{c:Bool}(c1:SCo k s.heap l xs)(c2:SCo k s.heap b ys)(hu:A.units<cLine)(h:LtS A s xs.toList ys.toList c):RcLt A s (.ref l) (.ref b) c:=fun prog w E Q q=>by
 cases k
 ·obtain ⟨⟨cls,dd,data,sl⟩,ho,hc,n,hd⟩:=id c1
  obtain ⟨⟨cls2,dd2,data2,sl2⟩,ho2,hc2,n2,hd2⟩:=id c2
  simp only at hc hd hc2 hd2;subst hc hd hc2 hd2
  exact richCompare_meets_room (op:=.Lt) ⟨_,ho,rfl⟩ ⟨_,ho2,rfl⟩ PySem.F.slot_tuple_lt PySem.F.entry_tuple_lt (PySem.F.args_tuple_lt_2 _ _) (tup_lt l b xs ys n n2 dd dd2 sl sl2 c) ⟨ho,ho2,h,show Value.bool c≠Value.notImplemented/\Q (.bool c) s from ⟨(fun x=>nomatch x),q⟩⟩ hu
 ·obtain ⟨⟨cls,dd,data,sl⟩,ho,hc,n,hd⟩:=id c1
  obtain ⟨⟨cls2,dd2,data2,sl2⟩,ho2,hc2,n2,hd2⟩:=id c2
  simp only at hc hd hc2 hd2;subst hc hd hc2 hd2
  exact richCompare_meets_room (op:=.Lt) ⟨_,ho,rfl⟩ ⟨_,ho2,rfl⟩ PySem.F.slot_list_lt PySem.F.entry_list_lt (PySem.F.args_list_lt_2 _ _) (lst_lt l b xs ys n n2 dd dd2 sl sl2 c) ⟨ho,ho2,h,show Value.bool c≠Value.notImplemented/\Q (.bool c) s from ⟨(fun x=>nomatch x),q⟩⟩ hu
noncomputable def ltL (f g:D->D->Option Bool):List D->List D->Option Bool
 | [],[]=>some false
 | [],_::_=>some true
 | _::_,[]=>some false
 | x::xs,y::ys=>(f x y).bind fun b=>if b=true then ltL f g xs ys else g x y
noncomputable def ltF:D->D->Option Bool
 | .int i,.int j=>some (decide (i<j))
 | .str x,.str y=>some (decide (x.cps.toList<y.cps.toList))
 | _,_=>none
noncomputable def ltN (S:Sto):Nat->D->D->Option Bool
 | 0,_,_=>none
 | n+1,d,e=>match ltF d e with
  | some b=>some b
  | none=>match seqOf S d,seqOf S e with
   | some p,some q=>if p.1=q.1 then ltL (eqN S n) (ltN S n) p.2 q.2 else none
   | _,_=>none
noncomputable def gLt:G2:=fun d e S=>(ltN S deepMost d e).map fun b=>(.bl b,S)
section
variable {X:Cx} {pins:List (Addr×Obj)} {σ:L2.St} {H:Hp} {s:Shared} {mu:List Addr} {S:Sto}
theorem ltL_at (I:Inv X pins σ H s)(hs:Sim X.K H mu S){n:Nat}{A:Around}(hu:A.units+1+n<cLine)(ih:∀ {d e:D} {v w:V} {u z:Value} {b:Bool},Rep X.K H mu d v->Rep X.K H mu e w->RelV v u->RelV w z->ltN S n d e=some b->RcLt A.in1 s u z b):
  ∀ {xs ys:List D} {vs ws:List V} {us zs:List Value} {b:Bool},Reps X.K H mu xs vs->Reps X.K H mu ys ws->Vals vs us->Vals ws zs->ltL (eqN S n) (ltN S n) xs ys=some b->LtS A s us zs b
 :=by
 intro xs
 induction xs with
 | nil=>
  intro ys vs ws us zs b r1 r2 v1 v2 h
  cases r1;cases v1
  cases r2 with
  | nil=>cases v2;cases h;exact .nn
  | cons _ _=>cases v2;cases h;exact .nc _ _
 | cons x xs jh=>
  intro ys vs ws us zs b r1 r2 v1 v2 h
  cases r1 with
  | cons r1 t1=>
   cases v1 with
   | cons q1 p1=>
    cases r2 with
    | nil=>cases v2;cases h;exact .cn _ _
    | cons r2 t2=>
     cases v2 with
     | cons q2 p2=>
      rw [ltL] at h
      obtain ⟨k,e1,h⟩:=oB1.mp h
      have eq:=(eqN_at I hs n (A:=A.in1) hu r1 r2 q1 q2 e1).1
      cases k with
      | true=>exact .eq eq (jh t1 t2 p1 p2 h)
      | false=>exact .lt eq (ih r1 r2 q1 q2 h)
theorem ltN_at (I:Inv X pins σ H s)(hs:Sim X.K H mu S):∀ (n:Nat) {A:Around} {d e:D} {v w:V} {u z:Value} {b:Bool},A.units+n<cLine->Rep X.K H mu d v->Rep X.K H mu e w->RelV v u->RelV w z->ltN S n d e=some b->RcLt A s u z b
 | 0,_,_,_,_,_,_,_,_,_,_,_,_,_,h=>by cases h
 | n + 1,A,d,e,v,w,u,z,b,hu,rd,re,ru,rz,h=>by
  rw [ltN] at h
  split at h
  ·rename_i k hk
   cases h
   unfold ltF at hk
   split at hk
   ·cases hk;cases rd;cases re
    obtain ⟨t,rfl⟩:=ru;obtain ⟨t',rfl⟩:=rz
    exact fun prog w E Q q=>(PyProof.Rows.lt_int q:wpAny (model prog w) A (compareOp .Lt (.int _ t) (.int _ t')) Q E s)
   ·cases hk;cases rd;cases re
    obtain ⟨t,rfl⟩:=ru;obtain ⟨t',rfl⟩:=rz
    exact fun prog w E Q q=>(PyProof.Rows.lt_str q:wpAny (model prog w) A (compareOp .Lt (.str _ t) (.str _ t')) Q E s)
   ·cases hk
  ·split at h
   ·rename_i p q hd he
    split at h
    ·rename_i hb
     obtain ⟨pb,xs⟩:=p
     obtain ⟨qb,ys⟩:=q
     have hb':pb=qb:=hb
     subst hb'
     obtain ⟨a,vs,rfl,q1,t1⟩:=seqOf_at rd hs hd
     obtain ⟨a2,vs2,rfl,q2,t2⟩:=seqOf_at re hs he
     cases ru;cases rz
     obtain ⟨its,rv,co,_⟩:=sqb_at I q1
     obtain ⟨its2,rv2,co2,_⟩:=sqb_at I q2
     refine seq_lt co co2 (by lia) ?_
     have:=ltL_at I hs (A:=A) (n:=n) (by lia) (fun r1 r2 r3 r4 h=>ltN_at I hs n (A:=A.in1) (by show A.units+1+n<cLine;lia) r1 r2 r3 r4 h) t1 t2 rv rv2 h
     simpa using this
    ·cases h
   ·cases h
theorem o_ltN (hu:X.A.units+64<cLine):OpR X (compareOp .Lt) (r2 X.K (b2 gLt)):=by
 intro pins s σ H x y u w Q I rx ry h
 obtain ⟨mu,S,d,e,r,S',r1,r2,hs,hm,hc⟩:=rn2 h
 obtain ⟨b,e1,hm⟩:=oM1.mp hm
 cases hm
 exact ltN_at I hs deepMost (by show _+60<cLine;lia) r1 r2 rx ry e1 X.prog X.w X.xe _ ⟨.bl b,H,I,rfl,hc.now (.bl b) hs⟩
end
inductive Ty where
 | int | bool | str | tuple | list | dict
 deriving DecidableEq
noncomputable def Ty.nm:Ty->String
 | .int=>"int" | .bool=>"bool" | .str=>"str" | .tuple=>"tuple" | .list=>"list" | .dict=>"dict"
noncomputable def isTy (S:Sto)(T:Ty):D->Option Bool
 | .non=>some false
 | .bl _=>some (decide (T = .bool)||decide (T = .int))
 | .int _=>some (decide (T = .int))
 | .str _=>some (decide (T = .str))
 | .tup _=>some (decide (T = .tuple))
 | .rol _=>some (decide (T = .list))
 | .ref n=>match S[n]? with
  | some (.lst _)=>some (decide (T = .list))
  | some (.dct _)=>some (decide (T = .dict))
  | some (.dcT _)=>some (decide (T = .dict))
  | _=>none
noncomputable def mIsT (T:Ty)(m:FE):FE:=fun r S=>(m r S).bind fun p=>(isTy p.2 T p.1).map fun b=>(.bl b,p.2)
section
variable {X:Cx} {pins:List (Addr×Obj)} {σ:L2.St} {H:Hp} {s:Shared} {mu:List Addr} {S:Sto} {K:Fg1}
theorem kit_non (T:Ty):PySem.W.kitOne K (.type "NoneType") (.type T.nm)=some false:=by cases T<;>rfl
theorem kit_bl (T:Ty):PySem.W.kitOne K (.type "bool") (.type T.nm)=some (decide (T = .bool)||decide (T = .int)):=by cases T<;>rfl
theorem kit_int (T:Ty):PySem.W.kitOne K (.type "int") (.type T.nm)=some (decide (T = .int)):=by cases T<;>rfl
theorem kit_str (T:Ty):PySem.W.kitOne K (.type "str") (.type T.nm)=some (decide (T = .str)):=by cases T<;>rfl
theorem kit_tup (T:Ty):PySem.W.kitOne K (.type "tuple") (.type T.nm)=some (decide (T = .tuple)):=by cases T<;>rfl
theorem kit_lst (T:Ty):PySem.W.kitOne K (.type "list") (.type T.nm)=some (decide (T = .list)):=by cases T<;>rfl
theorem kit_dct (T:Ty):PySem.W.kitOne K (.type "dict") (.type T.nm)=some (decide (T = .dict)):=by cases T<;>rfl
theorem isTy_at {T:Ty}{d:D}{v:V}{u:Value}{b:Bool}{Q:Value->Shared->Prop}{E:Value->Shared->Prop}(I:Inv X pins σ H s)(hs:Sim X.K H mu S)(r:Rep X.K H mu d v)(ru:RelV v u)(h:isTy S T d=some b)(q:∀ tk,Q (.bool b) {s with toks:=tk}):
  wpAny (model X.prog X.w) X.A (call (.builtin "isinstance") [u,.type T.nm]) Q E s:=by
 have seq:∀ {k:Bool} {a:Addr} {vs:List V},SqB X.K k H a vs->b=(match k with | true=>decide (T = .list) | false=>decide (T = .tuple))->wpAny (model X.prog X.w) X.A (call (.builtin "isinstance") [.ref a,.type T.nm]) Q E s:=fun {k a vs} hq hb=>by
  obtain ⟨its,rv,co,_⟩:=sqb_at I hq
  cases k
  ·obtain ⟨o,e,c,_⟩:=co
   subst hb
   exact PySem.W.kia_one PySem.W.kitx_tuple I.kIn ⟨o,e,c⟩ (kit_tup T) (fun z=>nomatch z) q
  ·obtain ⟨o,e,c,_⟩:=co
   subst hb
   exact PySem.W.kia_one PySem.W.kitx_list I.kIn ⟨o,e,c⟩ (kit_lst T) (fun z=>nomatch z) q
 cases d with
 | non=>cases h;cases r;exact isinst_ok I ru .non (kit_non T) q
 | bl k=>cases h;cases r;exact isinst_ok I ru (.bl k) (kit_bl T) q
 | int i=>cases h;cases r;exact isinst_ok I ru (.int i) (kit_int T) q
 | str x=>cases h;cases r;exact isinst_ok I ru (.str x) (kit_str T) q
 | tup xs=>
  cases h
  obtain ⟨a,vs,rfl,hq,t⟩:=seqOf_at (S:=S) r hs rfl
  cases ru
  exact seq hq rfl
 | rol xs=>
  cases h
  obtain ⟨a,vs,rfl,hq,t⟩:=seqOf_at (S:=S) r hs rfl
  cases ru
  exact seq hq rfl
 | ref n=>
  rw [isTy] at h
  split at h
  ·rename_i xs e
   cases h
   obtain ⟨a,vs,rfl,hq,t⟩:=seqOf_at (S:=S) r hs (by rw [seqOf,e])
   cases ru
   exact seq hq rfl
  ·rename_i ks e
   cases h
   cases r with
   | ref qn=>
    obtain ⟨ws,e1,_⟩:=hs.dct e qn
    exact isinst_ok I ru (.dK e1) (kit_dct T) q
  ·rename_i ks e
   cases h
   cases r with
   | @ref _ a qn=>
    cases (show u=Value.ref a from ru)
    obtain ⟨ws,e1,_⟩:=hs.dcT e qn
    obtain ⟨⟨_,_,o,_,_,h3,h4,_⟩,_⟩:=(show ObjOk X.prog X.w H s.heap a (.ext (DictAt a ws)) from I.hok a _ e1)
    exact PySem.W.kia_one PySem.W.kitx_dict I.kIn ⟨o,h3,h4.1⟩ (kit_dct T) (fun z=>nomatch z) q
  ·cases h
theorem c_isinst (T:Ty):CallR X (.builtin "isinstance") (fun xs H Q=>∃ x mu S d b,xs=[x,.ty T.nm]/\Rep X.K H mu d x/\Sim X.K H mu S/\isTy S T d=some b/\Q (.bl b) H):=by
 intro pins s σ H xs us Q I r h
 obtain ⟨x,mu,S,d,b,rfl,r1,hs,hm,hc⟩:=h
 obtain ⟨u,w',rfl,ru,rt⟩:=vals2 r
 cases rt
 exact isTy_at I hs r1 ru hm fun tk=>⟨.bl b,H,I.tok tk,rfl,hc⟩
theorem me_isinst (T:Ty){e:Expr}{m:FE}{nm:Str}{p p2 pos:Pos}(hg:Gl X "isinstance")(hm:X.mg "isinstance"=none)(hg2:Gl X nm)(hm2:X.mg nm=none)(hv2:bootBuiltins nm=some (.type T.nm))(h:ME X e m)
  (hn:nm≠"__name__":=by decide) (hd:(nm == ("__debug__":Str))=false:=by decide)
  (hs1:starEach [e,.Name nm p2] X.env=(false,eval e X.env)::starEach [.Name nm p2] X.env:=by rfl) (hs2:starEach [.Name nm p2] X.env=(false,eval (.Name nm p2) X.env)::starEach [] X.env:=by rfl)
  (hpl:(backTo pos (starEach [.Name nm p2] X.env)).any (·.1)=false:=by rfl):ME X (.Call (.Name "isinstance" p) [e,.Name nm p2] [] pos) (mIsT T m):=
 pe_imp (pe_callB (c_isinst T) hg hm (by decide+kernel) (pa_cons h (pa_cons (pe_bltn (v:=.ty T.nm) hg2 hm2 hv2 rfl hn hd) pa_nil hs2) hs1) (by decide) (by decide) hs1 hpl) <| by
  rintro σ H Q ⟨r,mu,S,d,S',he,hs,hm,hc⟩
  obtain ⟨⟨d1,S1⟩,e1,hm⟩:=oB1.mp hm
  obtain ⟨b,e2,hm⟩:=oM1.mp hm
  cases hm
  refine ⟨r,mu,S,d1,_,he,hs,e1,fun v H1 mu1 x1 r1 s1=>?_⟩
  exact ⟨v,mu1,_,d1,b,rfl,r1,s1,e2,hc _ H1 mu1 x1 (.bl b) s1⟩
end
noncomputable abbrev FO:=Ev->Sto->Option (Option Int×Sto)
noncomputable def tMO (K:Fg1)(m:FO):TO:=fun σ H Q=>∃ r mu S o S',EnvR K H mu r σ/\Sim K H mu S/\m r S=some (o,S') /\ ∀ H' mu',Ext mu mu' H H'->Sim K H' mu' S'->Q o H'
noncomputable abbrev MO (X:Cx)(e:Option Expr)(m:FO):Prop:=PO X e (tMO X.K m)
noncomputable def oNone:FO:=fun _ S=>some (none,S)
noncomputable def oSome (m:FE):FO:=fun r S=>(m r S).bind fun p=>match p.1 with
 | .int i=>some (some i,p.2)
 | _=>none
noncomputable def cutD (xs:List D)(lo hi:Option Int):List D:=(xs.drop (HT.sIx xs.length 0 lo)).take (HT.sIx xs.length xs.length hi-HT.sIx xs.length 0 lo)
section
variable {X:Cx}
theorem mo_none:MO X none oNone:=by
 rintro pins s σ H Q I ⟨r,mu,S,o,S',he,hs,hm,hc⟩
 cases hm
 exact po_none pins s σ H Q I (hc H mu (.refl _ _) hs)
theorem mo_some {e:Expr}{m:FE}(h:ME X e m):MO X (some e) (oSome m):=by
 rintro pins s σ H Q I ⟨r,mu,S,o,S',he,hs,hm,hc⟩
 obtain ⟨⟨d,S1⟩,e1,hm⟩:=oB1.mp hm
 cases d with
 | int i=>
  cases hm
  refine po_some h pins s σ H Q I ⟨r,mu,S,_,_,he,hs,e1,fun v H1 mu1 x1 r1 s1=>?_⟩
  cases r1
  exact ⟨i,rfl,hc H1 mu1 x1 s1⟩
 | _=>cases hm
theorem cut_rep {K:Fg1}{H:Hp}{mu:List Addr}{ds:List D}{vs:List V}(t:Reps K H mu ds vs)(lo hi:Option Int):Reps K H mu (cutD ds lo hi) (cutV vs lo hi):=by
 unfold cutD cutV
 rw [<- t.length]
 exact (t.drop _).take _
end
section
variable {X:Cx}
noncomputable def tRng1 (ta:TA):TE:=fun σ H Q=>ta σ H fun vs H1=>∃ j:Int,vs=[.int j] /\ ∀ p,H1 p=none->Q (.ref p) (upd H1 p (.rng 0 j))
theorem pe_range1 {a:Expr}{ta:TA}{p pos:Pos}(hg:Gl X "range")(hm:X.mg "range"=none)(ha:PA X [a] ta)(hs:starEach [a] X.env=[(false,eval a X.env)]:=by rfl):PE X (.Call (.Name "range" p) [a] [] pos) (tRng1 ta):=by
 intro pins s σ H Q I h
 refine Call_ (ld_blt I hg hm boot_range (PyProof.Rows.callWith_type1 (thn (ha pos pins s σ H _ I h) fun us s1 ⟨vs,H1,I1,r1,q1⟩=>?_) hs rfl))
 obtain ⟨j,e,q⟩:=q1
 subst e
 cases r1 with
 | cons r rr=>
  cases rr
  obtain ⟨t,rfl⟩:=r
  refine call_range_1 ⟨.ref s1.heap.objs.size,_,I1.laid (fun b o e=>hP1 _ e) (nR1 _) (o:=.rng 0 j) ?_,rfl,q _ (I1.hok.fresh (nR1 _))⟩
  exact ⟨_,_,_,hS1 _ rfl⟩
noncomputable def rngV (i:Int):Nat->List V
 | 0=>[]
 | n+1=>.int i::rngV (i+1) n
theorem rngV_len:∀ (n:Nat) (i:Int),(rngV i n).length=n
 | 0,_=>rfl
 | n+1,i=>by rw [rngV,lC1,rngV_len n]
theorem rngV_get:∀ (n:Nat) (i:Int) (k:Nat) (v:V),(rngV i n)[k]? = some v->v = .int (i+k)
 | 0,i,k,v,h=>by simp [rngV] at h
 | n+1,i,0,v,h=>by simp [rngV] at h;rw [<- h];simp
 | n+1,i,k+1,v,h=>by
  rw [rngV,gC1] at h
  rw [rngV_get n (i+1) k v h,show i+1+(k:Int)=i+((k+1:Nat):Int) by push_cast;lia]
theorem rngV_rep {K:Fg1}{H:Hp}{mu:List Addr}:∀ (n:Nat) (i:Int),Reps K H mu (nums i n) (rngV i n)
 | 0,_=>.nil
 | n+1,i=>.cons (.int i) (rngV_rep n (i+1))
theorem vals_of:∀ {xs:List V} {us:List Value},xs.length=us.length->(∀ (i:Nat) x u,xs[i]? = some x->us[i]? = some u->RelV x u)->Vals xs us
 | [],[],_,_=>.nil
 | x::xs,u::us,h,f=>.cons (f 0 x u rfl rfl) (vals_of (by simpa using h) fun i y w h1 h2=>f (i+1) y w (by simpa using h1) (by simpa using h2))
 | [],_::_,h,_=>by simp at h
 | _::_,[],h,_=>by simp at h
theorem c_listR (hc:X.calm=true):CallR X (.type "list") (fun xs H Q=>∃ p i j,xs=[.ref p]/\H p=some (.rng i j)/\(-(2^62)<=i/\i<2^62 /\ -(2^62)<=j/\j<2^62)/\(j-i).toNat<=2^20 /\ ∀ l,H l=none->Q (.ref l) (upd H l (.lst (rngV i (j-i).toNat)))):=by
 intro pins s σ H xs us Q I r h
 obtain ⟨p,i,j,rfl,hp,⟨h1,h2,h3,h4⟩,hl,q⟩:=h
 obtain ⟨u,rfl,ru⟩:=vals1 r
 cases ru
 obtain ⟨t,u,v,e⟩:=I.hok p _ hp
 have hz:(((j-i).toNat:Nat):Int)=Builtin.Range.rangeSize i j 1:=by rw [rangeSize_one];split<;>lia
 refine call_list_range (n:=(j-i).toNat) (I.ok.hd hc) e (small_one h1 h2 h3 h4) hz.symm (Nat.le_trans hl (by decide)) fun h' tk acc c' hk hS hi=>?_
 obtain ⟨hsz,hval⟩:=hi
 have vals:Vals (rngV i (j-i).toNat) acc.toList:=vals_of (by rw [rngV_len];simpa using hsz.symm) fun k x u hx hu=>by
  rw [rngV_get _ _ _ _ hx]
  obtain ⟨t',rfl⟩:=hval k u (by simpa using hu)
  exact ⟨t',by rw [Int.mul_one]⟩
 refine ⟨.ref s.heap.objs.size,_,I.laid (t':=tk) hk (nR1 _) (show ObjOk X.prog X.w _ h' _ (.lst (rngV i (j-i).toNat)) from ⟨?_,acc.toList,c',vals,by simpa using hS⟩),rfl,q _ (I.hok.fresh (nR1 _))⟩
 rw [rngV_len]
 exact Nat.le_trans hl (by decide)
noncomputable def rngOk (i j:Int):Bool:=decide (-(2^62)<=i)&&decide (i<2^62)&&decide (-(2^62)<=j)&&decide (j<2^62)&&decide ((j-i).toNat<=2^20)
noncomputable def mLR1 (m:FA):FE:=fun r S=>(m r S).bind fun p=>match p.1 with
 | [.int j]=>if rngOk 0 j=true then some (.ref p.2.length,p.2++[.lst (nums 0 j.toNat)]) else none
 | _=>none
theorem rngOk_at {i j:Int}(h:rngOk i j=true):(-(2^62)<=i/\i<2^62 /\ -(2^62)<=j/\j<2^62)/\(j-i).toNat<=2^20:=by
 unfold rngOk at h
 simp only [bA1,decide_eq_true_eq] at h
 obtain ⟨⟨⟨⟨h1,h2⟩,h3⟩,h4⟩,h5⟩:=h
 exact ⟨⟨h1,h2,h3,h4⟩,h5⟩
theorem lr_end {K:Fg1}{mu:List Addr}{H H1:Hp}{S1:Sto}{i j:Int}{Q:VK}{mu1:List Addr}(x1:Ext mu mu1 H H1)(s1:Sim K H1 mu1 S1)(hc:Cont K mu H (.ref S1.length) (S1++[.lst (nums i (j-i).toNat)]) Q){p l:Addr}(hp:H1 p=none)(hl:upd H1 p (.rng i j) l=none):
  Q (.ref l) (upd (upd H1 p (.rng i j)) l (.lst (rngV i (j-i).toNat))):=
 hc _ _ (mu1++[l]) ((x1.trans (Ext.fresh hp)).trans (Ext.new_ hl)) (.ref (new_at s1.len l)) ((s1.fresh hp).newL (rngV_rep _ _) hl)
theorem me_listR1 {a:Expr}{m:FA}{p1 p2 pos1 pos2:Pos}(hc:X.calm=true)(hg:Gl X "range")(hm:X.mg "range"=none)(hg2:Gl X "list")(hm2:X.mg "list"=none)(ha:MA X [a] m)(hs:starEach [a] X.env=[(false,eval a X.env)]:=by rfl)
  (hs2:starEach [.Call (.Name "range" p1) [a] [] pos1] X.env=[(false,eval (.Call (.Name "range" p1) [a] [] pos1) X.env)]:=by rfl):ME X (.Call (.Name "list" p2) [.Call (.Name "range" p1) [a] [] pos1] [] pos2) (mLR1 m):=
 pe_imp (pe_callTy (c_listR hc) hg2 hm2 (by decide+kernel) (pa_cons (pe_range1 hg hm ha hs) pa_nil hs2) (by decide) (by decide) hs2) <| by
  rintro σ H Q ⟨r,mu,S,d,S',he,hs,hm,hcc⟩
  obtain ⟨⟨ds,S1⟩,e1,hm⟩:=oB1.mp hm
  dsimp only at hm
  split at hm
  ·rename_i j
   split at hm
   ·rename_i hb
    cases hm
    refine ⟨r,mu,S,_,_,he,hs,e1,fun vs H1 mu1 x1 r1 s1=>?_⟩
    obtain ⟨v,rfl,rv⟩:=reps_one r1
    cases rv
    refine ⟨j,rfl,fun p hp=>⟨p,0,j,rfl,upd_same,(rngOk_at hb).1,(rngOk_at hb).2,fun l hl=>lr_end x1 s1 (by rw [Int.sub_zero];exact hcc) hp hl⟩⟩
   ·cases hm
  ·cases hm
end
noncomputable def gApp:G2:=fun o v S=>match o with
 | .ref n=>match S[n]? with
  | some (.lst xs)=>if xs.length<sizeLine then some (.non,S.set n (.lst (xs++[v]))) else none
  | _=>none
 | _=>none
noncomputable def gPop:G2:=fun o i S=>match o,i with
 | .ref n,.int k=>match S[n]? with
  | some (.lst xs)=>if-(2^63)<=k/\k<2^63 then (ixN xs.length k).bind fun j=>(xs[j]?).map fun y=>(y,S.set n (.lst (xs.eraseIdx j))) else none
  | _=>none
 | _,_=>none
noncomputable def mMt (f:FN)(o:FE)(a:FA):FE:=fun r S=>(o r S).bind fun p=>match p.1 with
 | .ref n=>match p.2[n]? with
  | some (.lst _)=>(a r p.2).bind fun q=>f (p.1::q.1) q.2
  | _=>none
 | _=>none
section
variable {X:Cx}
theorem t_app:MtR X "list.append" (fun x xs H Q=>rN X.K (b2 gApp) (x::xs) H Q):=by
 intro pins s σ H x xs v us Q I rx rv h
 obtain ⟨x',y,mu,S,d,e,r',S',e0,r1,r2,hs,hm,hc⟩:=rn2l h
 cases e0
 cases d with
 | ref n=>
  rw [gApp] at hm
  split at hm
  ·rename_i ys en
   split at hm
   ·rename_i hl
    cases hm
    cases r1 with
    | ref qn=>
     obtain ⟨vs,ev,t⟩:=hs.lst en qn
     refine mt_append pins s σ H _ [y] v us Q I rx rv ⟨_,vs,y,rfl,rfl,ev,by rw [<- t.length];exact hl,?_⟩
     exact hc _ _ mu (Ext.put ev trivial (gM1 qn)) .non (hs.putL (t.append (.cons r2 .nil)) qn ev)
   ·cases hm
  ·cases hm
 | _=>cases hm
theorem t_pop:MtR X "list.pop" (fun x xs H Q=>rN X.K (b2 gPop) (x::xs) H Q):=by
 intro pins s σ H x xs v us Q I rx rv h
 obtain ⟨x',y,mu,S,d,e,r',S',e0,r1,r2,hs,hm,hc⟩:=rn2l h
 cases e0
 unfold gPop at hm
 split at hm
 ·rename_i n k
  split at hm
  ·rename_i ys en
   split at hm
   ·rename_i hb
    obtain ⟨j,ej,hm⟩:=oB1.mp hm
    obtain ⟨z,ez,hm⟩:=oM1.mp hm
    cases hm
    cases r1 with
    | ref qn=>
     cases r2
     obtain ⟨vs,ev,t⟩:=hs.lst en qn
     obtain ⟨w,ew,rw'⟩:=t.get ez
     refine mt_popAt pins s σ H _ [.int k] v us Q I rx rv ⟨_,vs,k,j,w,rfl,rfl,ev,hb.1,hb.2,?_,ew,?_⟩
     ·rw [<- t.length];exact (ixN_seq ej).1
     ·have x:=Ext.put (u:=.lst (vs.eraseIdx j)) ev trivial (gM1 qn)
      exact hc _ _ mu x (rw'.ext x) (hs.putL (t.eraseIdx j) qn ev)
   ·cases hm
  ·cases hm
 ·cases hm
theorem me_lmeth {o e:Expr}{es:List Expr}{m:FE}{a:FA}{f:FN}{name:Str}{apos cpos:Pos}{id:String}(slot:Slot "list" name id)(hty:typeOf (.builtin id)=pure (.type "method_descriptor"))(hm:MtR X id (fun x xs H Q=>rN X.K f (x::xs) H Q))(ho:ME X o m)(ha:MA X (e::es) a)
  (hbase:attributeBase o name X.env (eval o X.env)=eval o X.env:=by rfl)
  (hfew:((backTo cpos (starEach (e::es) X.env)).all (fun x=> !x.1)&&(backToKw cpos (keywordEach [] X.env)).all (fun x=>x.1.isSome)&&decide ((e::es).length+([]:List Keyword).length+(if ([]:List Keyword).isEmpty then 0 else 1)<30))=true:=by rfl)
  (hline:(apos.endLine == cpos.line)=true:=by rfl) (hs:starEach (e::es) X.env=(false,eval e X.env)::starEach es X.env:=by rfl) (hplain:(backTo cpos (starEach es X.env)).any (·.1)=false:=by rfl):
  ME X (.Call (.Attribute o name apos) (e::es) [] cpos) (mMt f m a):=
 pe_imp (pe_bm PySem.F.plainAttrs_list slot hty hm ho ha hbase hfew hline hs hplain) <| by
  rintro σ H Q ⟨r,mu,S,d,S',he,hs,hm,hc⟩
  obtain ⟨⟨d1,S1⟩,e1,hm⟩:=oB1.mp hm
  refine ⟨r,mu,S,d1,S1,he,hs,e1,fun v H1 mu1 x1 r1 s1=>?_⟩
  cases d1 with
  | ref n=>
   dsimp only at hm
   split at hm
   ·rename_i xs en
    obtain ⟨⟨ds,S2⟩,e2,hm⟩:=oB1.mp hm
    refine ⟨?_,r,mu1,S1,ds,S2,he.ext x1,s1,e2,fun vs H2 mu2 x2 r2 s2=>?_⟩
    ·cases r1 with
     | ref qn=>
      obtain ⟨vs,ev,t⟩:=s1.lst en qn
      exact .inl ⟨rfl,vs,SqL.of ev⟩
    ·exact ⟨mu2,S2,.ref n::ds,d,S',.cons (r1.ext x2) r2,s2,hm,fun v3 H3 mu3 x3=>hc v3 H3 mu3 ((x1.trans x2).trans x3)⟩
   ·cases hm
  | _=>cases hm
end
theorem ps_comp {X:Cx}(hc:X.calm=true){elt tg iter:Expr}{ifs:List Expr}{rest:List Comprehension}{scope:Scope}{pos spos py:Pos}{y:Str}{i:Nat}{T:List Str}{keep:List Nat}{cl:List (Str×Addr)}{wi:TI}{g:TG}{ti:TT}{tb:Addr->TS}{emit:Value->Env->Sem Unit}
  (hsw:swapsWith (.ListComp elt (⟨tg,iter,ifs,0⟩::rest) scope pos) (some (.Name y py)) spos.line X.env=pure true)
  (eq:∀ it acc env,compTurn (.ListComp elt (⟨tg,iter,ifs,0⟩::rest) scope pos) 0 it acc env=turnT iter.pos tg ifs it env (emit acc env) (.compLoop (.ListComp elt (⟨tg,iter,ifs,0⟩::rest) scope pos) 0 it acc env))
  (C:CSc X scope T keep) (hcl:cloF X.env.cells scope.names []=some cl) (hi:PI X tg iter wi)
  (hb:∀ s H fp p,PG (cxC X scope cl T keep s H fp) tg g/\PIfs (cxC X scope cl T keep s H fp) ifs ti/\PU (cxC X scope cl T keep s H fp) (emit (.ref p) (cxC X scope cl T keep s H fp).env) (tb p))
  (hN:X.N.Nodup) (hy:X.N[i]? = some y) (hx:Loc X.env.scope y) (hf:X.fn y=true\/X.env.scope.names.lookup y=some .local)
  (hs:∀ x,foldedSetIterable iter X.env x=pure x:=by intro _;rfl):
  PS X (.Assign [.Name y py] (.ListComp elt (⟨tg,iter,ifs,0⟩::rest) scope pos) spos) (tAsg (tComp T.length keep wi g ti tb) (gName i)):=by
 intro pins s σ H D I h
 rw [exec_Assign_Name_used _ _ _ _ hsw]
 refine wB1 (wpAny_standAt (wB1 ?_))
 show wpAny _ X.A (do let _<-comprehension (.ListComp elt (⟨tg,iter,ifs,0⟩::rest) scope pos) scope X.env _ (newList []) false (eval iter X.env) (some (assign (.Name y py) X.env))) _ _ s
 refine wB1 (wpAny_mono (wpAny_comprehension_free (use:=some (assign (.Name y py) X.env)) (Q:=fun _ s'=>SP X pins D .next s') rfl hs (clo_eq hcl) C.kind C.names ?_) (fun _ s' hq=>wP1 (wP1 hq)) fun _ _ e=>e)
 refine thn (hi pins s σ H _ I h) fun v s1 h1=>thn h1 fun itv s2 h2=>?_
 obtain ⟨it,fp,tn,J,H2,rfl,I2,TT,st2,f2,q2⟩:=h2
 refine wO1 ?_
 have I3:Inv X pins σ (upd H2 s2.heap.objs.size (.lst [])) {s2 with heap:=s2.heap.push {cls:=.type "list",data:=.seq ([]:List Value).toArray}}:=I2.lnew (t':=s2.toks) .nil (Nat.zero_le _)
 have old:∀ b∈fp,∃ o,s2.heap.get? b=some o:=fun b hb=>by
  obtain ⟨o,e,_⟩:=TT.obj 0 s2.heap st2 b hb
  exact ⟨o,e⟩
 have fne:∀ b∈fp,b≠s2.heap.objs.size:=fun b hb z=>by
  obtain ⟨o,e⟩:=old b hb
  have:=hL1 e
  rw [z] at this
  exact Nat.lt_irrefl _ this
 have f3:∀ b∈fp,FpOk X pins (upd H2 s2.heap.objs.size (.lst [])) b:=fun b hb=>⟨by rw [upd_ne (fne b hb)];exact (f2 b hb).1,(f2 b hb).2⟩
 have o3:∀ b∈fp,∃ o,({s2 with heap:=s2.heap.push {cls:=.type "list",data:=.seq ([]:List Value).toArray}}:Shared).heap.get? b=some o:=fun b hb=>by
  obtain ⟨o,e⟩:=old b hb
  exact ⟨o,hP1 _ e⟩
 have I4:=inv_comp I3 C hcl f3 o3
 obtain ⟨hg,hf2,he⟩:=hb {s2 with heap:=s2.heap.push {cls:=.type "list",data:=.seq ([]:List Value).toArray}} (upd H2 s2.heap.objs.size (.lst [])) fp s2.heap.objs.size
 refine newEnv_around ?_
 have f4:∀ b∈fp,FpOk (cxC X scope cl T keep {s2 with heap:=s2.heap.push {cls:=.type "list",data:=.seq ([]:List Value).toArray}} (upd H2 s2.heap.objs.size (.lst [])) fp) [] (upd H2 s2.heap.objs.size (.lst [])) b:=fun b hb=>
  ⟨(f3 b hb).1,(I4.ok.exf b hb).1,I4.ok.exfs b hb,.inl hb,(I4.ok.exf b hb).2,fun p hp=>absurd (show p∈([]:List (Addr×Obj)) from hp) (by simp)⟩
 have st4:tn 0 (pushCells ((s2.heap.push {cls:=.type "list",data:=.seq ([]:List Value).toArray}).push {cls:=.type "dict",data:=.dict #[]}) scope.names):=
  TT.keep 0 s2.heap _ st2 fun b hb o e=>pushCells_keeps scope.names _ b o (hP1 _ (hP1 _ e))
 have loop:=comp_loop (X:=cxC X scope cl T keep {s2 with heap:=s2.heap.push {cls:=.type "list",data:=.seq ([]:List Value).toArray}} (upd H2 s2.heap.objs.size (.lst [])) fp) rfl hc (eq (.ref it) (.ref s2.heap.objs.size) _) TT hg hf2 he I4 st4 f4
  (q2 s2.heap.objs.size (I2.hok.fresh (nR1 _)))
 refine codeAny_mono (codeAny_compStart_list loop (TT.self X.A 0 _ _ _ st4 loop)) fun r s' hr=>?_
 cases r with
 | error e=>exact hr.elim
 | ok f=>
  obtain ⟨σ',H',I',q'⟩:=hr
  have J1:Inv X pins σ H' s':=I3.call' (s':=s') (ch:=fp) I'.os I'.base I'.hok I'.bare fun b hb=>(f3 b hb).2.2.2 |> fun z=>⟨z.1,(f3 b hb).2.1,z.2.1,z.2.2⟩
  -- the block's own dict is kept aside
  obtain ⟨m,hn,_⟩:=id I'.loc
  obtain ⟨oC,es,ep,eC,dC,rC⟩:=id hn
  have hCz:(s2.heap.push {cls:=.type "list",data:=.seq ([]:List Value).toArray}).get? (s2.heap.push {cls:=.type "list",data:=.seq ([]:List Value).toArray}).objs.size=none:=Heap.get?_none_of_le (nR1 _)
  have neL:(s2.heap.push {cls:=.type "list",data:=.seq ([]:List Value).toArray}).objs.size≠X.env.locals:=fun z=>by
   have:=I3.lt
   rw [<- z] at this
   exact Nat.lt_irrefl _ this
  have frC:H' (s2.heap.push {cls:=.type "list",data:=.seq ([]:List Value).toArray}).objs.size=none:=I'.free
  have J2:Inv X (pins++[((s2.heap.push {cls:=.type "list",data:=.seq ([]:List Value).toArray}).objs.size,oC)]) σ H' s':=J1.pins_of fun p hp=>by
   rcases List.mem_append.mp hp with z | z
   ·exact J1.pin p (mA1 _ z)
   ·have z':p=((s2.heap.push {cls:=.type "list",data:=.seq ([]:List Value).toArray}).objs.size,oC):=by simpa using z
    subst z'
    exact ⟨eC,frC,neL,I3.nofs (nR1 _),fun v q=>by rw [dC] at q;cases q⟩
  refine thn (pg_name hN hy hx hf _ s' σ H' (.ref s2.heap.objs.size) (.ref s2.heap.objs.size) D.nx J2 rfl q') fun _ s5 ⟨σ5,H5,J5,q5⟩=>?_
  obtain ⟨e5,n5,_⟩:=J5.pin ((s2.heap.push {cls:=.type "list",data:=.seq ([]:List Value).toArray}).objs.size,oC) (mA1 _ (mA1 _ mS1))
  refine ⟨m,⟨oC,es,ep,e5,dC,rC⟩,fun h' hs'=>?_⟩
  have J6:Inv X pins σ5 H5 s5:=J5.unpinned
  refine ⟨σ5,H5,J6.turned (t':=s5.toks) (fun b o hb e=>(hs'.2 b hb).trans e) n5 neL (.inr ?_) (fun x c hcell z=>?_) (fun p hp z=>?_),q5⟩
  ·exact I3.sz
  ·obtain ⟨w',zc⟩:=I3.cell x c hcell
   have hlt:=zc.lt
   rw [z] at hlt
   exact Nat.lt_irrefl _ hlt
  ·obtain ⟨ep',_⟩:=I3.pin p hp
   have hlt:=hL1 ep'
   rw [z] at hlt
   exact Nat.lt_irrefl _ hlt
section
variable {X:Cx}
theorem asg_ok {K:Fg1}{te:TE}{m:FE}{i:Nat}(hm:∀ σ H Q,tM K m σ H Q->te σ H Q){E:Ends}{σ:L2.St}{H:Hp}(h:tMS K (mAsg m (gN i)) E σ H):tAsg te (gName i) E σ H:=by
 obtain ⟨r,mu,S,d,S',h1,h2,h3,h4⟩:=mAsg_ok h
 refine hm _ _ _ ⟨r,mu,S,d,S',h1,h2,h3,fun v H' mu' x1 r1 s1=>?_⟩
 obtain ⟨r2,mu2,S2,d2,r3,S3,q1,q2,q3,q4,q5⟩:=h4 v H' mu' x1 r1 s1
 cases q4
 exact q5 _ H' mu2 (.refl _ _) (q1.set q3) q2
theorem mv (i:Nat){x:Str}{pos:Pos}(hN:X.N[i]? = some x:=by rfl)(hv:Vis X.env.scope x:=by first | exact Or.inl rfl | exact Or.inr (Or.inl rfl) | exact Or.inr (Or.inr rfl))(hd:(x == ("__debug__":Str))=false:=by decide)(hcd:(x == ("__classdict__":Str))=false:=by decide):
  ME X (.Name x pos) (mV i):=me_var i hN hv hd hcd
end
noncomputable def Own (P:Program)(w:World)(K:Fg1)(mg:Str->Option Value)(base:Heap)(k:Nat)(x:Str)(n:Nat)(m:FN):Prop:=
 ∃ (f:Addr) (fd:FuncData) (ps:List Str),FnOk P w K mg base CX0 k f fd ps (spM K n m)/\Binds K fd ps []/\wK1 K (.ref f)=true/\mg x=some (.ref f)
theorem me_own {X:Cx}{k k' n:Nat}{x:Str}{m:FN}{p pos:Pos}{e:Expr}{es:List Expr}{a:FA}(h:Own X.prog X.w X.K X.mg X.base k x n m)(hr:Room k' X.A)(hk:k<=k')(hg:Gl X x)(ha:MA X (e::es) a)(hdb:(x == ("__debug__":Str))=false:=by decide)
  (he:starEach (e::es) X.env=(false,eval e X.env)::starEach es X.env:=by rfl) (hpl:(backTo pos (starEach es X.env)).any (·.1)=false:=by rfl):ME X (.Call (.Name x p) (e::es) [] pos) (mN (mCall n m) a):=by
 obtain ⟨f,fd,ps,F,b,kp,hm⟩:=h
 exact me_call F (hr.mono hk) hg hm kp b ha hdb he hpl
theorem own_mk {P:Program}{w:World}{K:Fg1}{mg:Str->Option Value}{base:Heap}{x qual:Str}{st:Stmt}{f:Addr}{fd:FuncData}{N ps:List Str}{k n:Nat}{b:FS}(F:Fun K x qual st f fd)(hb:Binds K fd ps [])(hm:mg x=some (.ref f))(S:FnScope N ps (defScope st))(hn:ps.length=n)
  (hbody:∀ (cdv:Value) (A:Around) (outer:List Env) (s:Shared) (H:Hp) (E:XK),Room k (A.deeper (envOfC qual (defScope st) s.heap.objs.size f cdv)) ->
   MSs (cxOf CX0 P w K mg base N qual (defScope st) f cdv A outer s H E).nox (defBody st) b):Own P w K mg base (k+1) x n (fnB N.length b):=by
 subst hn
 exact ⟨f,fd,ps,fn_m F S hbody,hb,F.kp,hm⟩
theorem qT (es k pos rest env):starEach (.Tuple es k pos::rest) env=(false,eval (.Tuple es k pos) env)::starEach rest env:=rfl
theorem st_List (es pos rest env):starEach (.List es pos::rest) env=(false,eval (.List es pos) env)::starEach rest env:=rfl
theorem qM (x pos rest env):starEach (.Name x pos::rest) env=(false,eval (.Name x pos) env)::starEach rest env:=rfl
theorem qC (c k pos rest env):starEach (.Constant c k pos::rest) env=(false,eval (.Constant c k pos) env)::starEach rest env:=rfl
theorem qL (f a k pos rest env):starEach (.Call f a k pos::rest) env=(false,eval (.Call f a k pos) env)::starEach rest env:=rfl
theorem qB (a o b pos rest env):starEach (.BinOp a o b pos::rest) env=(false,eval (.BinOp a o b pos) env)::starEach rest env:=rfl
theorem st_Compare (a o b pos rest env):starEach (.Compare a o b pos::rest) env=(false,eval (.Compare a o b pos) env)::starEach rest env:=rfl
theorem qS (a o pos rest env):starEach (.Subscript a o pos::rest) env=(false,eval (.Subscript a o pos) env)::starEach rest env:=rfl
theorem st_ListComp (a o b pos rest env):starEach (.ListComp a o b pos::rest) env=(false,eval (.ListComp a o b pos) env)::starEach rest env:=rfl
theorem st_UnaryOp (a o pos rest env):starEach (.UnaryOp a o pos::rest) env=(false,eval (.UnaryOp a o pos) env)::starEach rest env:=rfl
theorem st_BoolOp (a o pos rest env):starEach (.BoolOp a o pos::rest) env=(false,eval (.BoolOp a o pos) env)::starEach rest env:=rfl
noncomputable def CGl (K:Fg1)(mg:Str->Option Value)(x:Str)(d:D):Prop:=∃ (v:V) (u:Value),mg x=some u/\RelV v u /\ ∀ H mu,Rep K H mu d v
theorem me_glob {X:Cx}{x:Str}{d:D}{pos:Pos}(h:CGl X.K X.mg x d)(hg:Gl X x)(hd:(x == ("__debug__":Str))=false:=by decide):ME X (.Name x pos) (mC d):=by
 obtain ⟨v,u,hm,r,q⟩:=h
 exact me_c d (pe_glob hg hm r hd) q
noncomputable def CV (K:Fg1)(d:D)(u:Value):Prop:=∃ v:V,RelV v u /\ ∀ H mu,Rep K H mu d v
section
variable {K:Fg1}
theorem cv_int {i:Int}{t}:CV K (.int i) (.int i t):=⟨.int i,⟨t,rfl⟩,fun _ _=>.int i⟩
theorem cgl_mk {mg:Str->Option Value}{x:Str}{d:D}{u:Value}(hm:mg x=some u)(h:CV K d u):CGl K mg x d:=by
 obtain ⟨v,r,q⟩:=h
 exact ⟨v,u,hm,r,q⟩
end
theorem reps_ints {K:Fg1}{H:Hp}{mu:List Addr}:∀ ns:List Int,Reps K H mu (ns.map D.int) (ns.map V.int)
 | []=>.nil
 | n::ns=>.cons (.int n) (reps_ints ns)
theorem law_sp {K:Fg1}{m:FN}(hm:∀ ns:List Int,ns.length<=63 -> ∃ S,m [.rol (ns.map D.int)] []=some (.bl true,S))(H:Hp)(a:Addr)(ns:List Int)(hl:ns.length<=63)(hO:Only H)(hS:SqL K H a (ns.map V.int)):
  spM K 1 m [.ref a] H (fun v _=>v = .bl true) fun _ _ _=>False:=by
 refine ⟨rfl,?_⟩
 obtain ⟨S,e⟩:=hm ns hl
 have hR:RoL K H a (ns.map V.int):=by
  rcases hS with h | h
  ·rcases h with h | h
   ·rcases hO a with z | ⟨o,xs,z⟩
    ·rw [h] at z;cases z
    ·rw [h] at z;cases z
   ·exact .inl h
  ·exact .inr h
 refine ⟨[],[],[.rol (ns.map D.int)],.bl true,S,.cons (.rol hR (reps_ints ns)) .nil,.nil,e,fun v H' mu' x r s=>?_⟩
 cases r
 rfl
theorem walk_m {l:PySem.W.OpenLaw}{q:Program}{loose:List Str}{XP:(Str->Option Value)->Heap->Prop}{YP:World->Heap->Prop}{d:DefRec}{K:Params->Fg1}{m:FN}{k:Nat}{x:Str}(hn:l.most=some 63)(hdf:d.params.defaults=[])(hr:Room k callerA)
  (hY:∀ (w:World) (h:Heap),YP w h->(K w.params).In h) (hm:∀ ns:List Int,ns.length<=63 -> ∃ S,m [.rol (ns.map D.int)] []=some (.bl true,S))
  (F:∀ (w:World) (mg:Str->Option Value) (fa:Addr) (h:Heap),(K w.params).In h->h.Ns mainGlobals mg->mg d.name=some (.ref fa) ->
   ∃ fd:FuncData,(∀ (s:Shared) (u:Value),BindsTo s fd ⟨[u],[]⟩ [(x,u)]) /\ ∀ base:Heap,(K w.params).In base->base.Ns mainGlobals mg->FnOk l.prog w (K w.params) mg base CX0 k fa fd [x] (spM (K w.params) 1 m)):
  PySem.W.WalkO q loose XP YP l.row.toRowW d [] (fun f vs=>PySem.call f vs):=
 L2.walk_of (n:=63) (k:=k) (x:=x) (CX:=fun _=>CX0) (sp:=fun w=>spM (K w.params) 1 m) hn (by decide) hdf hr hY F (fun _ H a ns hl hO hS=>law_sp hm H a ns hl hO hS) fun _ _ _ _ _ z=>z
structure XE (X:Cx)(e:Expr)(m:FE):Prop where
 h:ME X e m
structure XT (X:Cx)(e:Expr)(m:FT):Prop where
 h:MT X e m
structure XW (X:Cx)(e:Expr)(m:FT):Prop where
 h:MW X e m
structure XA (X:Cx)(e:List Expr)(m:FA):Prop where
 h:MA X e m
structure XS (X:Cx)(e:Stmt)(m:FS):Prop where
 h:MS X e m
structure XSs (X:Cx)(e:List Stmt)(m:FS):Prop where
 h:MSs X e m
structure XI (X:Cx)(tg e:Expr)(m:FI):Prop where
 h:MI X tg e m
structure XG (X:Cx)(e:Expr)(m:FG):Prop where
 h:MG X e m
structure XGs (X:Cx)(e:List Expr)(m:FGs):Prop where
 h:MGs X e m
structure XO (X:Cx)(e:Option Expr)(m:FO):Prop where
 h:MO X e m
structure XF (X:Cx)(K:Fg1)(ifs:List Expr)(t:FT):Prop where
 h:PIfs X ifs (tMT K t)
theorem xmif_nil {X:Cx}:XF X X.K [] mTrue:=⟨mif_nil⟩
theorem xmif_one {X:Cx}{c:Expr}{t:FT}(h:XT X c t):XF X X.K [c] t:=⟨mif_one h.h⟩
section
variable {X:Cx} {pos:Pos}
theorem qK {i:Int}{j}:XE X (.Constant (.int i) j pos) (mC (.int i)):=⟨me_int⟩
end
section
variable {X:Cx} {pos:Pos}
theorem xme_bl {b:Bool}{j}:XE X (.Constant (.bool b) j pos) (mC (.bl b)):=⟨me_bl⟩
end
section
variable {X:Cx} {pos:Pos}
theorem xme_non {j}:XE X (.Constant .none j pos) (mC .non):=⟨me_non⟩
end
section
variable {X:Cx} {pos:Pos}
end
section
variable {X:Cx} {pos:Pos} {e:Expr} {es:List Expr} {m:FE} {n:FA}
theorem qN:XA X [] mNil:=⟨ma_nil⟩
end
section
variable {X:Cx} {pos:Pos} {e:Expr} {es:List Expr} {m:FE} {n:FA}
theorem qA (h:XE X e m)(ht:XA X es n)(hs:starEach (e::es) X.env=(false,eval e X.env)::starEach es X.env:=by rfl):XA X (e::es) (mCons m n):=⟨ma_cons (h:=h.h) (ht:=ht.h) (hs:=hs)⟩
end
section
variable {X:Cx} {K:Fg1} {f:FN} {a b:FE} {σ:L2.St} {H:Hp} {Q:VK}
theorem qI {op:Operator}{x y:Expr}{pos:Pos}(ho:OpR X (binaryOp op) (r2 X.K f))(hx:XE X x a)(hy:XE X y b):XE X (.BinOp x op y pos) (m2 f a b):=⟨me_op (ho:=ho) (hx:=hx.h) (hy:=hy.h)⟩
end
section
variable {X:Cx} {K:Fg1} {f:FN} {a b:FE} {σ:L2.St} {H:Hp} {Q:VK}
theorem xme_un {op:UnaryOp}{x:Expr}{pos:Pos}(ho:UnR X (unaryOp op) (fun x H Q=>rN X.K f [x] H Q))(hx:XE X x a):XE X (.UnaryOp op x pos) (m1 f a):=⟨me_un (ho:=ho) (hx:=hx.h)⟩
end
section
variable {X:Cx} {K:Fg1} {f:FN} {a b:FE} {σ:L2.St} {H:Hp} {Q:VK}
theorem xme_cmp {op:CmpOp}{x y:Expr}{pos:Pos}(ho:OpR X (compareOp op) (r2 X.K f))(hx:XE X x a)(hy:XE X y b)(hm:behindInMarks op y=false):XE X (.Compare x [op] [y] pos) (m2 f a b):=⟨me_cmp (ho:=ho) (hx:=hx.h) (hy:=hy.h) (hm:=hm)⟩
end
section
variable {X:Cx} {K:Fg1} {f:FN} {a b:FE} {σ:L2.St} {H:Hp} {Q:VK}
theorem qJ {x y:Expr}{pos:Pos}(ho:IxR X (r2 X.K f))(hx:XE X x a)(hy:XE X y b)(hs:PlainIx y):XE X (.Subscript x y pos) (m2 f a b):=⟨me_ix (ho:=ho) (hx:=hx.h) (hy:=hy.h) (hs:=hs)⟩
end
section
variable {X:Cx} {K:Fg1} {f:FN} {a b:FE} {σ:L2.St} {H:Hp} {Q:VK}
theorem qD {x:Str}{p pos:Pos}{e:Expr}{es:List Expr}{id:String}{a:FA}(hc:CallR X (.builtin id) (rN X.K f))(hg:Gl X x)(hm:X.mg x=none)(hv:bootBuiltins x=some (.builtin id))(ha:XA X (e::es) a)(hn:x≠"__name__":=by decide)(hdb:(x == ("__debug__":Str))=false:=by decide)(he:starEach (e::es) X.env=(false,eval e X.env)::starEach es X.env:=by rfl)(hpl:(backTo pos (starEach es X.env)).any (·.1)=false:=by rfl):XE X (.Call (.Name x p) (e::es) [] pos) (mN f a):=⟨me_callB (hc:=hc) (hg:=hg) (hm:=hm) (hv:=hv) (ha:=ha.h) (hn:=hn) (hdb:=hdb) (he:=he) (hpl:=hpl)⟩
end
section
variable {X:Cx} {K:Fg1} {f:FN} {a b:FE} {σ:L2.St} {H:Hp} {Q:VK}
theorem qE {x:Str}{p pos:Pos}{e:Expr}{es:List Expr}{T:String}{a:FA}(hc:CallR X (.type T) (rN X.K f))(hg:Gl X x)(hm:X.mg x=none)(hv:bootBuiltins x=some (.type T))(ha:XA X (e::es) a)(hn:x≠"__name__":=by decide)(hdb:(x == ("__debug__":Str))=false:=by decide)(he:starEach (e::es) X.env=(false,eval e X.env)::starEach es X.env:=by rfl)(hpl:(backTo pos (starEach es X.env)).any (·.1)=false:=by rfl):XE X (.Call (.Name x p) (e::es) [] pos) (mN f a):=⟨me_callTy (hc:=hc) (hg:=hg) (hm:=hm) (hv:=hv) (ha:=ha.h) (hn:=hn) (hdb:=hdb) (he:=he) (hpl:=hpl)⟩
end
section
variable {X:Cx} {x y c:Expr} {rest:List Expr} {pos:Pos} {a b:FT} {f g:FE}
theorem qX {op:CmpOp}{f:FN}{a b:FE}(ho:OpR X (compareOp op) (r2 X.K f))(hx:XE X x a)(hy:XE X y b)(hm:behindInMarks op y=false):XT X (.Compare x [op] [y] pos) (mB (m2 f a b)):=⟨mt_cmp (ho:=ho) (hx:=hx.h) (hy:=hy.h) (hm:=hm)⟩
end
section
variable {X:Cx} {x y c:Expr} {rest:List Expr} {pos:Pos} {a b:FT} {f g:FE}
end
section
variable {X:Cx} {x y c:Expr} {rest:List Expr} {pos:Pos} {a b:FT} {f g:FE}
theorem xmw_and1 (ha:XT X x a):XW X (.BoolOp .And [x] pos) a:=⟨mw_and1 (ha:=ha.h)⟩
end
section
variable {X:Cx} {x y c:Expr} {rest:List Expr} {pos:Pos} {a b:FT} {f g:FE}
theorem xmw_or1 (ha:XT X x a):XW X (.BoolOp .Or [x] pos) a:=⟨mw_or1 (ha:=ha.h)⟩
end
section
variable {X:Cx} {x y c:Expr} {rest:List Expr} {pos:Pos} {a b:FT} {f g:FE}
theorem xmw_and (ha:XT X x a)(hb:XW X (.BoolOp .And (y::rest) pos) b):XW X (.BoolOp .And (x::y::rest) pos) (mAnd a b):=⟨mw_and (ha:=ha.h) (hb:=hb.h)⟩
end
section
variable {X:Cx} {x y c:Expr} {rest:List Expr} {pos:Pos} {a b:FT} {f g:FE}
theorem xmw_or (ha:XT X x a)(hb:XW X (.BoolOp .Or (y::rest) pos) b):XW X (.BoolOp .Or (x::y::rest) pos) (mOr a b):=⟨mw_or (ha:=ha.h) (hb:=hb.h)⟩
end
section
variable {X:Cx} {x y c:Expr} {rest:List Expr} {pos:Pos} {a b:FT} {f g:FE}
theorem xmt_w (h:XW X x a):XT X x a:=⟨mt_w (h:=h.h)⟩
end
section
variable {X:Cx} {x y c:Expr} {rest:List Expr} {pos:Pos} {a b:FT} {f g:FE}
theorem xmt_not (ha:XT X x a):XT X (.UnaryOp .Not x pos) (mNot a):=⟨mt_not (ha:=ha.h)⟩
end
section
variable {X:Cx} {x y c:Expr} {rest:List Expr} {pos:Pos} {a b:FT} {f g:FE}
theorem xme_one {op}(h:XE X x f):XE X (.BoolOp op [x] pos) f:=⟨me_one (h:=h.h)⟩
end
section
variable {X:Cx} {x y c:Expr} {rest:List Expr} {pos:Pos} {a b:FT} {f g:FE}
theorem xme_and (ha:XE X x f)(hb:XE X (.BoolOp .And (y::rest) pos) g):XE X (.BoolOp .And (x::y::rest) pos) (mAndV f g):=⟨me_and (ha:=ha.h) (hb:=hb.h)⟩
end
section
variable {X:Cx} {x y c:Expr} {rest:List Expr} {pos:Pos} {a b:FT} {f g:FE}
end
section
variable {X:Cx} {x y c:Expr} {rest:List Expr} {pos:Pos} {a b:FT} {f g:FE}
theorem xme_not (ha:XE X x f):XE X (.UnaryOp .Not x pos) (mNotV f):=⟨me_not (ha:=ha.h)⟩
end
section
variable {X:Cx} {x y c:Expr} {rest:List Expr} {pos:Pos} {a b:FT} {f g:FE}
end
section
variable {X:Cx} {x y z:Expr} {pos:Pos} {f g:FN} {a b c:FE} {op op':CmpOp}
theorem xme_chain (ho:OpR X (compareOp op) (r2 X.K f))(ho':OpR X (compareOp op') (r2 X.K g))(hx:XE X x a)(hy:XE X y b)(hz:XE X z c)(hm:lastMarks [op,op'] [y,z]=false:=by with_unfolding_all rfl):XE X (.Compare x [op,op'] [y,z] pos) (mCh f g a b c):=⟨me_chain (ho:=ho) (ho':=ho') (hx:=hx.h) (hy:=hy.h) (hz:=hz.h) (hm:=hm)⟩
end
section
variable {X:Cx} {x y z:Expr} {pos:Pos} {f g:FN} {a b c:FE} {op op':CmpOp}
theorem xmt_chain (ho:OpR X (compareOp op) (r2 X.K f))(ho':OpR X (compareOp op') (r2 X.K g))(hx:XE X x a)(hy:XE X y b)(hz:XE X z c)(hm:lastMarks [op,op'] [y,z]=false:=by with_unfolding_all rfl):XT X (.Compare x [op,op'] [y,z] pos) (mB (mCh f g a b c)):=⟨mt_chain (ho:=ho) (ho':=ho') (hx:=hx.h) (hy:=hy.h) (hz:=hz.h) (hm:=hm)⟩
end
section
variable {X:Cx} {pos:Pos} {e c:Expr} {st:Stmt} {rest as bs:List Stmt} {a b:FS} {m:FE} {t:FT}
theorem qQ:XSs X [] mNx:=⟨mss_nil⟩
end
section
variable {X:Cx} {pos:Pos} {e c:Expr} {st:Stmt} {rest as bs:List Stmt} {a b:FS} {m:FE} {t:FT}
theorem qF (h1:XS X st a)(h2:XSs X rest b):XSs X (st::rest) (mSeq a b):=⟨mss_cons (h1:=h1.h) (h2:=h2.h)⟩
end
section
variable {X:Cx} {pos:Pos} {e c:Expr} {st:Stmt} {rest as bs:List Stmt} {a b:FS} {m:FE} {t:FT}
theorem qG (h1:XS X st a):XSs X [st] a:=⟨mss_one (h1:=h1.h)⟩
end
section
variable {X:Cx} {pos:Pos} {e c:Expr} {st:Stmt} {rest as bs:List Stmt} {a b:FS} {m:FE} {t:FT}
end
section
variable {X:Cx} {pos:Pos} {e c:Expr} {st:Stmt} {rest as bs:List Stmt} {a b:FS} {m:FE} {t:FT}
theorem xms_break:XS X (.Break pos) mBk:=⟨ms_break⟩
end
section
variable {X:Cx} {pos:Pos} {e c:Expr} {st:Stmt} {rest as bs:List Stmt} {a b:FS} {m:FE} {t:FT}
end
section
variable {X:Cx} {pos:Pos} {e c:Expr} {st:Stmt} {rest as bs:List Stmt} {a b:FS} {m:FE} {t:FT}
theorem xms_expr (h:XE X e m)(hs:swapsWith e none pos.line X.env=pure false:=by rfl):XS X (.Expr e pos) (mDrop m):=⟨ms_expr (h:=h.h) (hs:=hs)⟩
end
section
variable {X:Cx} {pos:Pos} {e c:Expr} {st:Stmt} {rest as bs:List Stmt} {a b:FS} {m:FE} {t:FT}
theorem qU (h:XE X e m):XS X (.Return (some e) pos) (mRet m):=⟨ms_ret (h:=h.h)⟩
end
section
variable {X:Cx} {pos:Pos} {e c:Expr} {st:Stmt} {rest as bs:List Stmt} {a b:FS} {m:FE} {t:FT}
end
section
variable {X:Cx} {pos:Pos} {e c:Expr} {st:Stmt} {rest as bs:List Stmt} {a b:FS} {m:FE} {t:FT}
theorem qV (hc:XT X c t)(ha:XSs X as a)(hb:XSs X bs b):XS X (.If c as bs pos) (mIfS t a b):=⟨ms_if (hc:=hc.h) (ha:=ha.h) (hb:=hb.h)⟩
end
section
variable {X:Cx} {pos:Pos}
theorem qO (i:Nat){x:Str}(hN:X.N.Nodup)(hi:X.N[i]? = some x)(hx:Loc X.env.scope x)(hf:X.fn x=true\/X.env.scope.names.lookup x=some .local:=by first | exact .inl rfl | exact .inr rfl | assumption):XG X (.Name x pos) (gN i):=⟨mg_name (i:=i) (hN:=hN) (hi:=hi) (hx:=hx) (hf:=hf)⟩
end
section
variable {X:Cx} {pos:Pos}
theorem xmgs_nil:XGs X [] gNl:=⟨mgs_nil⟩
end
section
variable {X:Cx} {pos:Pos}
theorem xmgs_cons {e:Expr}{es:List Expr}{g:FG}{gs:FGs}(h1:XG X e g)(h2:XGs X es gs)(hs:(assignEach (e::es) X.env).map (·.2)=assign e X.env::(assignEach es X.env).map (·.2):=by rfl):XGs X (e::es) (gCs g gs):=⟨mgs_cons (h1:=h1.h) (h2:=h2.h) (hs:=hs)⟩
end
section
variable {X:Cx} {pos:Pos}
theorem xmg_tup {es:List Expr}{k:Nat}{gs:FGs}{n:Nat}(hc:X.calm=true)(h:XGs X es gs)(hn:(assignEach es X.env).length=n:=by rfl)(hst:(assignEach es X.env).findIdx? (·.1)=none:=by rfl):XG X (.Tuple es k pos) (gT n gs):=⟨mg_tup (hc:=hc) (h:=h.h) (hn:=hn) (hst:=hst)⟩
end
section
variable {X:Cx} {pos:Pos}
theorem xmg_sub {o i:Expr}{a b:FE}{f:FN}(ho:XE X o a)(hi:XE X i b)(hs:PSet X (rU X.K f))(ha:∀ v,assign (.Subscript o i pos) X.env v=(do
   let ov<-holding [v] (eval o X.env)
   let iv<-holding [v,ov] (eval i X.env)
   standAt pos
   holding [v,ov,iv] (setItem ov iv v)
   release [v,ov,iv] []):=by intro _;rfl):XG X (.Subscript o i pos) (gS f a b):=⟨mg_sub (ho:=ho.h) (hi:=hi.h) (hs:=hs) (ha:=ha)⟩
end
section
variable {X:Cx} {pos:Pos}
theorem qR {tg e:Expr}{m:FE}{g:FG}(he:XE X e m)(hg:XG X tg g)(hs:swapsWithSole [tg] e pos.line X.env=pure false:=by rfl)(hw:swappedStores [tg] e X.env=pure none:=by rfl)(h1:(assignEach [tg] X.env).map (·.2)=[assign tg X.env]:=by rfl):XS X (.Assign [tg] e pos) (mAsg m g):=⟨ms_asg (he:=he.h) (hg:=hg.h) (hs:=hs) (hw:=hw) (h1:=h1)⟩
end
section
variable {X:Cx} {pos:Pos}
theorem qY (i:Nat){x:Str}{e:Expr}{m:FE}{pos':Pos}(hN:X.N.Nodup)(hi:X.N[i]? = some x)(hx:Loc X.env.scope x)(he:XE X e m)(hs:swapsWith e (some (.Name x pos')) pos.line X.env=pure false:=by rfl)(hf:X.fn x=true\/X.env.scope.names.lookup x=some .local:=by first | exact .inl rfl | exact .inr rfl | assumption):XS X (.Assign [.Name x pos'] e pos) (mAsg m (gN i)):=⟨ms_set (i:=i) (hN:=hN) (hi:=hi) (hx:=hx) (he:=he.h) (hs:=hs) (hf:=hf)⟩
end
section
variable {X:Cx} {pos:Pos}
theorem xms_aug (i:Nat){x:Str}{e:Expr}{m:FE}{op:Operator}{f:FN}{pos':Pos}(hN:X.N.Nodup)(hi:X.N[i]? = some x)(hx:Loc X.env.scope x)(he:XE X e m)(ho:PIp X op (r2 X.K f))(hf:X.fn x=true\/X.env.scope.names.lookup x=some .local:=by first | exact .inl rfl | exact .inr rfl | assumption):XS X (.AugAssign (.Name x pos') op e pos) (mAug i f m):=⟨ms_aug (i:=i) (hN:=hN) (hi:=hi) (hx:=hx) (he:=he.h) (ho:=ho) (hf:=hf)⟩
end
section
theorem xms_while {X:Cx}{pos:Pos}(n:Nat){c:Expr}{body:List Stmt}{t:FT}{b:FS}(hp:PassesOwn (model X.prog X.w) X.A X.env X.xe)(hc:XT X c t)(hb:XSs X body b):XS X (.While c body [] pos) (whl t b n):=⟨ms_while (n:=n) (hp:=hp) (hc:=hc.h) (hb:=hb.h)⟩
end
section
theorem qW {X:Cx}{pos:Pos}{tg iter:Expr}{body:List Stmt}{m:FI}{g:FG}{b:FS}(hp:PassesOwn (model X.prog X.w) X.A X.env X.xe)(hc:X.calm=true)(hi:XI X tg iter m)(hg:XG X tg g)(hb:XSs X body b)(hs:∀ x,foldedSetIterable iter X.env x=pure x:=by intro _;rfl):XS X (.For tg iter body [] pos) (mFor m g b):=⟨ms_for (hp:=hp) (hc:=hc) (hi:=hi.h) (hg:=hg.h) (hb:=hb.h) (hs:=hs)⟩
end
section
variable {X:Cx} {es:List Expr} {pos:Pos} {a:FA}
theorem xme_tup {x1}(h:XA X es a):XE X (.Tuple es x1 pos) (mTup a):=⟨me_tup (h:=h.h)⟩
end
section
variable {X:Cx} {es:List Expr} {pos:Pos} {a:FA}
theorem xme_lst (h:XA X es a):XE X (.List es pos) (mLst a):=⟨me_lst (h:=h.h)⟩
end
section
variable {X:Cx} {tg:Expr}
theorem qd {e:Expr}{m:FE}(h:XE X e m):XI X tg e (iSeq m):=⟨mi_seq (h:=h.h)⟩
end
section
variable {X:Cx} {tg:Expr}
theorem xmi_range1 {a:Expr}{m:FA}{p pos:Pos}(hg:Gl X "range")(hm:X.mg "range"=none)(ha:XA X [a] m)(hs:starEach [a] X.env=[(false,eval a X.env)]:=by rfl):XI X tg (.Call (.Name "range" p) [a] [] pos) (iR1 m):=⟨mi_range1 (hg:=hg) (hm:=hm) (ha:=ha.h) (hs:=hs)⟩
end
section
variable {X:Cx} {tg:Expr}
theorem xmi_range2 {a b:Expr}{m:FA}{p pos:Pos}(hg:Gl X "range")(hm:X.mg "range"=none)(ha:XA X [a,b] m)(hs:starEach [a,b] X.env=[(false,eval a X.env),(false,eval b X.env)]:=by rfl)(hs2:starEach [b] X.env=[(false,eval b X.env)]:=by rfl):XI X tg (.Call (.Name "range" p) [a,b] [] pos) (iR2 m):=⟨mi_range2 (hg:=hg) (hm:=hm) (ha:=ha.h) (hs:=hs) (hs2:=hs2)⟩
end
section
variable {X:Cx} {tg:Expr}
variable {elts:List Expr} {k:Nat} {tpos:Pos}
theorem xmi_enum {a:Expr}{m:FA}{p pos:Pos}(hg:Gl X "enumerate")(hm:X.mg "enumerate"=none)(ha:XA X [a] m)(hs:starEach [a] X.env=[(false,eval a X.env)]:=by rfl):XI X (.Tuple elts k tpos) (.Call (.Name "enumerate" p) [a] [] pos) (iEn m):=⟨mi_enum (hg:=hg) (hm:=hm) (ha:=ha.h) (hs:=hs)⟩
end
section
variable {X:Cx} {tg:Expr}
variable {elts:List Expr} {k:Nat} {tpos:Pos}
end
section
variable {X:Cx} {pins:List (Addr×Obj)} {σ:L2.St} {H:Hp} {s:Shared} {mu:List Addr} {S:Sto} {K:Fg1}
theorem xme_isinst (T:Ty){e:Expr}{m:FE}{nm:Str}{p p2 pos:Pos}(hg:Gl X "isinstance")(hm:X.mg "isinstance"=none)(hg2:Gl X nm)(hm2:X.mg nm=none)(hv2:bootBuiltins nm=some (.type T.nm))(h:XE X e m)(hn:nm≠"__name__":=by decide)(hd:(nm == ("__debug__":Str))=false:=by decide)(hs1:starEach [e,.Name nm p2] X.env=(false,eval e X.env)::starEach [.Name nm p2] X.env:=by rfl)(hs2:starEach [.Name nm p2] X.env=(false,eval (.Name nm p2) X.env)::starEach [] X.env:=by rfl)(hpl:(backTo pos (starEach [.Name nm p2] X.env)).any (·.1)=false:=by rfl):XE X (.Call (.Name "isinstance" p) [e,.Name nm p2] [] pos) (mIsT T m):=⟨me_isinst (T:=T) (hg:=hg) (hm:=hm) (hg2:=hg2) (hm2:=hm2) (hv2:=hv2) (h:=h.h) (hn:=hn) (hd:=hd) (hs1:=hs1) (hs2:=hs2) (hpl:=hpl)⟩
end
section
variable {X:Cx}
theorem xmo_none:XO X none oNone:=⟨mo_none⟩
end
section
variable {X:Cx}
theorem xmo_some {e:Expr}{m:FE}(h:XE X e m):XO X (some e) (oSome m):=⟨mo_some (h:=h.h)⟩
end
section
variable {X:Cx}
end
section
variable {X:Cx}
theorem xme_listR1 {a:Expr}{m:FA}{p1 p2 pos1 pos2:Pos}(hc:X.calm=true)(hg:Gl X "range")(hm:X.mg "range"=none)(hg2:Gl X "list")(hm2:X.mg "list"=none)(ha:XA X [a] m)(hs:starEach [a] X.env=[(false,eval a X.env)]:=by rfl)(hs2:starEach [.Call (.Name "range" p1) [a] [] pos1] X.env=[(false,eval (.Call (.Name "range" p1) [a] [] pos1) X.env)]:=by rfl):XE X (.Call (.Name "list" p2) [.Call (.Name "range" p1) [a] [] pos1] [] pos2) (mLR1 m):=⟨me_listR1 (hc:=hc) (hg:=hg) (hm:=hm) (hg2:=hg2) (hm2:=hm2) (ha:=ha.h) (hs:=hs) (hs2:=hs2)⟩
end
section
variable {X:Cx}
end
section
variable {X:Cx}
theorem qe {o e:Expr}{es:List Expr}{m:FE}{a:FA}{f:FN}{name:Str}{apos cpos:Pos}{id:String}(slot:Slot "list" name id)(hty:typeOf (.builtin id)=pure (.type "method_descriptor"))(hm:MtR X id (fun x xs H Q=>rN X.K f (x::xs) H Q))(ho:XE X o m)(ha:XA X (e::es) a)(hbase:attributeBase o name X.env (eval o X.env)=eval o X.env:=by rfl)(hfew:((backTo cpos (starEach (e::es) X.env)).all (fun x=> !x.1)&&(backToKw cpos (keywordEach [] X.env)).all (fun x=>x.1.isSome)&&decide ((e::es).length+([]:List Keyword).length+(if ([]:List Keyword).isEmpty then 0 else 1)<30))=true:=by rfl)(hline:(apos.endLine == cpos.line)=true:=by rfl)(hs:starEach (e::es) X.env=(false,eval e X.env)::starEach es X.env:=by rfl)(hplain:(backTo cpos (starEach es X.env)).any (·.1)=false:=by rfl):XE X (.Call (.Attribute o name apos) (e::es) [] cpos) (mMt f m a):=⟨me_lmeth (slot:=slot) (hty:=hty) (hm:=hm) (ho:=ho.h) (ha:=ha.h) (hbase:=hbase) (hfew:=hfew) (hline:=hline) (hs:=hs) (hplain:=hplain)⟩
end
section
variable {X:Cx}
theorem xmv (i:Nat){x:Str}{pos:Pos}(hN:X.N[i]? = some x:=by rfl)(hv:Vis X.env.scope x:=by first | exact Or.inl rfl | exact Or.inr (Or.inl rfl) | exact Or.inr (Or.inr rfl))(hd:(x == ("__debug__":Str))=false:=by decide)(hcd:(x == ("__classdict__":Str))=false:=by decide):XE X (.Name x pos) (mV i):=⟨mv (i:=i) (hN:=hN) (hv:=hv) (hd:=hd) (hcd:=hcd)⟩
end
section
theorem qH {X:Cx}{k k' n:Nat}{x:Str}{m:FN}{p pos:Pos}{e:Expr}{es:List Expr}{a:FA}(h:Own X.prog X.w X.K X.mg X.base k x n m)(hr:Room k' X.A)(hk:k<=k')(hg:Gl X x)(ha:XA X (e::es) a)(hdb:(x == ("__debug__":Str))=false:=by decide)(he:starEach (e::es) X.env=(false,eval e X.env)::starEach es X.env:=by rfl)(hpl:(backTo pos (starEach es X.env)).any (·.1)=false:=by rfl):XE X (.Call (.Name x p) (e::es) [] pos) (mN (mCall n m) a):=⟨me_own (h:=h) (hr:=hr) (hk:=hk) (hg:=hg) (ha:=ha.h) (hdb:=hdb) (he:=he) (hpl:=hpl)⟩
end
section
theorem xme_glob {X:Cx}{x:Str}{d:D}{pos:Pos}(h:CGl X.K X.mg x d)(hg:Gl X x)(hd:(x == ("__debug__":Str))=false:=by decide):XE X (.Name x pos) (mC d):=⟨me_glob (h:=h) (hg:=hg) (hd:=hd)⟩
end
section
variable {X:Cx}
structure XB1 (X:Cx)(K:Fg1)(tg:Expr)(ifs:List Expr)(elt:Expr)(g:FG)(t:FT)(e:FE):Prop where
 g:XG X tg g
 t:XF X K ifs t
 e:XE X elt e
structure XB2 (X:Cx)(K:Fg1)(tg:Expr)(ifs:List Expr)(tg2 iter2:Expr)(ifs2:List Expr)(elt:Expr)(g:FG)(t:FT)(m2:FI)(g2:FG)(t2:FT)(e:FE):Prop where
 g:XG X tg g
 t:XF X K ifs t
 i2:XI X tg2 iter2 m2
 g2:XG X tg2 g2
 t2:XF X K ifs2 t2
 e:XE X elt e
end
theorem xown_mk {P:Program}{w:World}{K:Fg1}{mg:Str->Option Value}{base:Heap}{x qual:Str}{st:Stmt}{f:Addr}{fd:FuncData}{N ps:List Str}{k n:Nat}{b:FS}(F:Fun K x qual st f fd)(hb:Binds K fd ps [])(hm:mg x=some (.ref f))(S:FnScope N ps (defScope st))(hn:ps.length=n)
  (hbody:∀ (cdv:Value) (A:Around) (outer:List Env) (s:Shared) (H:Hp) (E:XK),Room k (A.deeper (envOfC qual (defScope st) s.heap.objs.size f cdv)) ->
   XSs (cxOf CX0 P w K mg base N qual (defScope st) f cdv A outer s H E).nox (defBody st) b):Own P w K mg base (k+1) x n (fnB N.length b):=
 own_mk F hb hm S hn fun cdv A outer s H E hr=>(hbody cdv A outer s H E hr).h
theorem xfn_mk {P:Program}{w:World}{K:Fg1}{mg:Str->Option Value}{base:Heap}{x qual:Str}{st:Stmt}{f:Addr}{fd:FuncData}{N ps:List Str}{k n:Nat}{b:FS}(F:Fun K x qual st f fd)(S:FnScope N ps (defScope st))(hn:ps.length=n)
  (hbody:∀ (cdv:Value) (A:Around) (outer:List Env) (s:Shared) (H:Hp) (E:XK),Room k (A.deeper (envOfC qual (defScope st) s.heap.objs.size f cdv)) ->
   XSs (cxOf CX0 P w K mg base N qual (defScope st) f cdv A outer s H E).nox (defBody st) b):FnOk P w K mg base CX0 (k+1) f fd ps (spM K n (fnB N.length b)):=by
 subst hn
 exact fn_m F S fun cdv A outer s H E hr=>(hbody cdv A outer s H E hr).h
noncomputable abbrev FV:=Ev->Sto->Option (List D×Ev×Sto)
noncomputable def loopF (c:List (Nat×List D))(g:FG)(t:FT)(b:FV):List D->FV
 | []=>fun r S=>if okC S c=true then some ([],r,S) else none
 | d::ds=>fun r S=>if okC S c=true then (g d r S).bind fun p=>(t p.1 p.2).bind fun k=>if k.1=true then (b p.1 k.2).bind fun q=>(loopF c g t b ds q.2.1 q.2.2).map fun z=>(q.1++z.1,z.2) else loopF c g t b ds p.1 k.2 else none
noncomputable def fEmit (m:FE):FV:=fun r S=>(m r S).map fun q=>([q.1],r,q.2)
noncomputable def fNest (m:FI)(g:FG)(t:FT)(b:FV):FV:=fun r S=>(m r S).bind fun p=>loopF p.1.chk g t b p.1.items r p.2
noncomputable def fComp (k:Nat)(keep:List Nat)(m:FI)(g:FG)(t:FT)(b:FV):FE:=fun r S=>(m r S).bind fun p=>
 (loopF p.1.chk g t b p.1.items (inEv k keep r) p.2).bind fun q=>if q.1.length<=sizeLine then some (.ref q.2.2.length,q.2.2++[.lst q.1]) else none
section
variable {K:Fg1} {H H' H1:Hp} {mu mu' mu1:List Addr} {S:Sto} {a:Addr}
theorem Ext.aside (x:Ext mu mu' H H'):Ext (a::mu) (a::mu') H H' where
 pre:=List.cons_prefix_cons.mpr ⟨rfl,x.pre⟩
 old:=fun b o h n=>x.old b o h fun z=>n (mC1 _ z)
 tup:=x.tup
 frz:=x.frz
 new:=fun b h=>by
  rcases List.mem_cons.mp h with h | h
  ·exact .inl (by rw [h];exact mS1)
  ·rcases x.new b h with q | q
   ·exact .inl (mC1 _ q)
   ·exact .inr q
theorem Ext.inner (x:Ext (a::mu) (a::mu') H H'):Exw mu mu' H H':=⟨(List.cons_prefix_cons.mp x.pre).2,x.tup,x.frz⟩
theorem Ext.held {o:HO}(x:Ext mu mu' H H')(ha:H a=some o)(hn:a∉mu):H' a=some o/\a∉mu':=by
 refine ⟨x.old a o ha hn,fun z=>?_⟩
 rcases x.new a z with q | q
 ·exact hn q
 ·rw [ha] at q;cases q
theorem EnvR.exw {r:Ev}{σ:L2.St}(e:Exw mu mu' H H')(h:EnvR K H mu r σ):EnvR K H' mu' r σ:=⟨h.len,fun i d q=>by
 obtain ⟨v,e1,r1⟩:=h.val i d q
 exact ⟨v,e1,r1.exw e⟩⟩
theorem ObR.exw {b:Addr}(e:Exw mu mu' H H')(h:∀ o,H b=some o->H' b=some o):∀ {o:Ob},ObR K H mu b o->ObR K H' mu' b o
 | .lst _,⟨vs,q,r⟩=>⟨vs,h _ q,r.exw e⟩
 | .dct _,⟨ws,q,r⟩=>⟨ws,h _ q,Paired.mapP r fun _ _ z=>⟨z.1,z.2.exw e⟩⟩
 | .dcT _,⟨ws,q,r,l⟩=>⟨ws,h _ q,Paired.mapP r fun _ _ ⟨z,d,k,v,rv,r⟩=>⟨z,d,k.exw e,v,rv,r.exw e⟩,l⟩
 | .iset _,q=>⟨h _ q.1,q.2⟩
 | .dcF _,⟨ws,⟨o,u,e1,e2⟩,r,l⟩=>⟨ws,⟨o,u,h _ e1,e2⟩,Paired.mapP r fun _ _ ⟨z,d,k,v,rv,r⟩=>⟨z,d,k.exw e,v,rv,r.exw e⟩,l⟩
theorem Sim.aside {u:HO}(s:Sim K H mu S)(e:Exw mu mu H (upd H a u))(hn:a∉mu):Sim K (upd H a u) mu S:=
 ⟨s.len,s.nd,fun k o b h1 h2=>(s.ob k o b h1 h2).exw e fun o' q=>by rw [upd_ne (fun z=>hn (by rw [<- z];exact gM1 h2))];exact q⟩
end
inductive tMV (K:Fg1)(a:Addr)(m:FV)(E:Ends)(σ:L2.St)(H:Hp):Prop
 | mk (r:Ev) (mu:List Addr) (S:Sto) (acc:List D) (vs:List V) (xs:List D) (r':Ev) (S':Sto):H a=some (.lst vs)->a∉mu->Reps K H mu acc vs->EnvR K H mu r σ->Sim K H mu S->m r S=some (xs,r',S')->vs.length+xs.length<=sizeLine ->
 (∀ σ' H' mu' vs',Ext (a::mu) (a::mu') H H'->H' a=some (.lst vs')->a∉mu'->Reps K H' mu' (acc++xs) vs'->EnvR K H' mu' r' σ'->Sim K H' mu' S'->E.nx σ' H')->tMV K a m E σ H
theorem emitF_ok {K:Fg1}{a:Addr}{m:FE}{E:Ends}{σ:L2.St}{H:Hp}(h:tMV K a (fEmit m) E σ H):tEmit a (tM K m) E σ H:=by
 obtain ⟨r,mu,S,acc,vs,xs,r',S',ha,hna,hr,he,hs,hm,hl,hc⟩:=h
 obtain ⟨⟨d,S1⟩,e1,hm⟩:=oM1.mp hm
 cases hm
 refine ⟨r,mu,S,d,S1,he,hs,e1,fun v H1 mu1 x1 r1 s1=>?_⟩
 obtain ⟨ha1,hn1⟩:=x1.held ha hna
 have put:Ext (a::mu1) (a::mu1) H1 (upd H1 a (.lst (vs++[v]))):=Ext.put ha1 trivial mS1
 refine ⟨vs,ha1,hl,?_⟩
 exact hc σ _ mu1 (vs++[v]) (x1.aside.trans put) upd_same hn1 (((hr.ext x1).append (.cons r1 .nil)).exw put.inner) ((he.ext x1).exw put.inner) (s1.aside put.inner hn1)
inductive LFI (K:Fg1)(a:Addr)(mu2:List Addr)(H:Hp)(c:List (Nat×List D))(g:FG)(t:FT)(b:FV)(r':Ev)(S':Sto)(tot:List D)(L:List D)(σ':L2.St)(H':Hp):Prop
 | mk (r3:Ev) (mu3:List Addr) (S3:Sto) (acc3:List D) (vs3:List V) (xs3:List D):Ext (a::mu2) (a::mu3) H H'->H' a=some (.lst vs3)->a∉mu3->Reps K H' mu3 acc3 vs3->EnvR K H' mu3 r3 σ'->Sim K H' mu3 S3->loopF c g t b L r3 S3=some (xs3,r',S')->acc3++xs3=tot->vs3.length+xs3.length<=sizeLine->LFI K a mu2 H c g t b r' S' tot L σ' H'
theorem loopF_ok {K:Fg1}{a:Addr}{j:It}{J:Itm}{g:FG}{t:FT}{b:FV}{tb:TS}{D:Ends}(hb:∀ E σ H,tMV K a b E σ H->tb E σ H)
  {mu1 mu2:List Addr} {H1 H:Hp} {r r':Ev} {S S':Sto} {σ:L2.St} {acc xs:List Mi.D} {vs:List V} (hJ:ItR K j J mu1 H1) (x:Exw mu1 mu2 H1 H) (ha:H a=some (.lst vs)) (hna:a∉mu2) (hr:Reps K H mu2 acc vs) (he:EnvR K H mu2 r σ) (hs:Sim K H mu2 S)
  (hm:loopF J.chk g t b J.items r S=some (xs,r',S')) (hl:vs.length+xs.length<=sizeLine)
  (hc:∀ σ' H' mu' vs',Ext (a::mu2) (a::mu') H H'->H' a=some (.lst vs')->a∉mu'->Reps K H' mu' (acc++xs) vs'->EnvR K H' mu' r' σ'->Sim K H' mu' S'->D.nx σ' H'):tLoop j (tMG K g) (tMT K t) tb D σ H:=by
 refine ⟨fun i k σ' H'=>k=(J.items.drop i).length/\LFI K a mu2 H J.chk g t b r' S' (acc++xs) (J.items.drop i) σ' H',
  ⟨_,rfl,r,mu2,S,acc,vs,xs,.refl _ _,ha,hna,hr,he,hs,hm,rfl,hl⟩,?_⟩
 rintro i k σ3 H3 ⟨rfl,r3,mu3,S3,acc3,vs3,xs3,x3,ha3,hn3,hr3,he3,s3,hm3,hx3,hl3⟩
 cases hd0:J.items.drop i with
 | nil=>
  left
  rw [hd0,loopF] at hm3
  dsimp only at hm3
  split at hm3
  ·rename_i ok
   cases hm3
   refine ⟨(hJ i H3 mu3 _ (x.trans x3.inner) s3 ok).2 (List.drop_eq_nil_iff.mp hd0),hc σ3 H3 mu3 vs3 x3 ha3 hn3 ?_ he3 s3⟩
   rw [<- hx3,List.append_nil];exact hr3
  ·cases hm3
 | cons d ds=>
  right
  rw [hd0] at hm3
  obtain ⟨hi,hd⟩:=drop_of_get hd0
  rw [loopF] at hm3
  dsimp only at hm3
  split at hm3
  ·rename_i ok
   obtain ⟨⟨r4,S4⟩,e4,hm3⟩:=oB1.mp hm3
   obtain ⟨⟨k5,S5⟩,e5,hm3⟩:=oB1.mp hm3
   obtain ⟨go,yl⟩:=(hJ i H3 mu3 _ (x.trans x3.inner) s3 ok).1 d hi
   refine ⟨go,LFI K a mu2 H J.chk g t b r' S' (acc++xs) ds,?_,fun y H4 yy=>?_⟩
   ·intro σ' H' h6
    exact ⟨ds.length,Nat.lt_succ_self _,(congrArg List.length hd).symm,hd.symm ▸ h6⟩
   ·obtain ⟨x4,s4,q4⟩:=yl y H4 yy
    obtain ⟨ha4,hn4⟩:=x4.held ha3 hn3
    refine ⟨r3,mu3,S3,d,r4,S4,he3.ext x4,s4,q4,e4,fun σ5 H5 mu5 x5 he5 s5=>?_⟩
    obtain ⟨ha5,hn5⟩:=x5.held ha4 hn4
    refine ⟨r4,mu5,S4,k5,S5,he5,s5,e5,fun H6 mu6 x6 s6=>?_⟩
    obtain ⟨ha6,hn6⟩:=x6.held ha5 hn5
    have xx:=((x3.trans x4.aside).trans x5.aside).trans x6.aside
    have hr6:Reps K H6 mu6 acc3 vs3:=((hr3.ext x4).ext x5).ext x6
    cases k5 with
    | true=>
     obtain ⟨⟨q1,r7,S7⟩,e7,hm3⟩:=oB1.mp hm3
     obtain ⟨⟨z1,r8,S8⟩,e8,hm3⟩:=oM1.mp hm3
     cases hm3
     refine hb _ _ _ ⟨r4,mu6,S5,acc3,vs3,q1,r7,S7,ha6,hn6,hr6,he5.ext x6,s6,e7,?_,fun σ8 H8 mu8 vs8 x8 ha8 hn8 hr8 he8 s8=>⟨r7,mu8,S7,acc3++q1,vs8,z1,xx.trans x8,ha8,hn8,hr8,he8,s8,e8,?_,?_⟩⟩
     ·rw [lA1] at hl3;dsimp only at hl3;lia
     ·rw [<- hx3,List.append_assoc]
     ·have:=hr8.length
      have h3:=hr6.length
      rw [lA1] at this hl3
      dsimp only at hl3
      lia
    | false=>exact ⟨r4,mu6,S5,acc3,vs3,xs3,xx,ha6,hn6,hr6,he5.ext x6,s6,hm3,hx3,hl3⟩
  ·cases hm3
theorem nestF_ok {K:Fg1}{a:Addr}{m:FI}{g:FG}{t:FT}{b:FV}{tb:TS}(hb:∀ E σ H,tMV K a b E σ H->tb E σ H){E:Ends}{σ:L2.St}{H:Hp}(h:tMV K a (fNest m g t b) E σ H):tNest (tMI K m) (tMG K g) (tMT K t) tb E σ H:=by
 obtain ⟨r,mu,S,acc,vs,xs,r',S',ha,hna,hr,he,hs,hm,hl,hc⟩:=h
 obtain ⟨⟨J,S1⟩,e1,hm⟩:=oB1.mp hm
 refine ⟨r,mu,S,J,S1,he,hs,e1,fun j H1 mu1 x1 J1 s1=>?_⟩
 obtain ⟨ha1,hn1⟩:=x1.held ha hna
 exact loopF_ok hb J1 (Ext.refl _ _).w ha1 hn1 (hr.ext x1) (he.ext x1) s1 hm hl fun σ' H' mu' vs' x'=>hc σ' H' mu' vs' (x1.aside.trans x')
theorem compF_ok {K:Fg1}{k:Nat}{keep:List Nat}{m:FI}{g:FG}{t:FT}{b:FV}{tb:Addr->TS}(hb:∀ a E σ H,tMV K a b E σ H->tb a E σ H){σ:L2.St}{H:Hp}{Q:VK}(h:tM K (fComp k keep m g t b) σ H Q):
  tComp k keep (tMI K m) (tMG K g) (tMT K t) tb σ H Q:=by
 obtain ⟨r,mu,S,d,S',he,hs,hm,hc⟩:=h
 obtain ⟨⟨J,S1⟩,e1,hm⟩:=oB1.mp hm
 obtain ⟨⟨xs,r2,S2⟩,e2,hm⟩:=oB1.mp hm
 dsimp only at hm
 split at hm
 ·rename_i hl
  cases hm
  refine ⟨r,mu,S,J,S1,he,hs,e1,fun j H1 mu1 x1 J1 s1 p hp=>?_⟩
  have fr:Ext mu1 mu1 H1 (upd H1 p (.lst [])):=Ext.fresh hp
  refine loopF_ok (hb p) J1 fr.w upd_same (s1.notin hp) .nil ((inEnv k keep (he.ext x1)).ext fr) (s1.fresh hp) e2 (by simpa using hl) fun σ' H' mu' vs' x' ha' hn' hr' he' s'=>?_
  have y:Ext mu1 (mu'++[p]) H1 H':=by
   refine ⟨((List.cons_prefix_cons.mp x'.pre).2).trans (List.prefix_append _ _),fun b o e n=>?_,fun b ys e=>x'.tup b ys (fr.tup b ys e),fun b o u e=>x'.frz b o u (fr.frz b o u e),fun b hb'=>?_⟩
   ·have nb:b≠p:=ne_of_none e hp
    exact x'.old b o (by rw [upd_ne nb];exact e) fun z=>by
     rcases List.mem_cons.mp z with z | z
     ·exact nb z
     ·exact n z
   ·rcases List.mem_append.mp hb' with z | z
    ·rcases x'.new b (mC1 _ z) with q | q
     ·rcases List.mem_cons.mp q with q | q
      ·exact .inr (by rw [q];exact hp)
      ·exact .inl q
     ·by_cases hbp:b=p
      ·exact .inr (by rw [hbp];exact hp)
      ·rw [upd_ne hbp] at q;exact .inr q
    ·have:b=p:=by simpa using z
     exact .inr (by rw [this];exact hp)
  refine hc _ H' (mu'++[p]) (x1.trans y) (.ref (new_at s'.len p)) ⟨by rw [lA1,lA1,s'.len];rfl,?_,fun n o b h1 h2=>?_⟩
  ·rw [List.nodup_append]
   refine ⟨s'.nd,by simp,fun b hb c hc e=>?_⟩
   have:c=p:=by simpa using hc
   subst this;subst e
   exact hn' hb
  ·by_cases hk:n<S2.length
   ·rw [gL1 hk] at h1
    rw [gL1 (by rw [s'.len];exact hk)] at h2
    exact (s'.ob n o b h1 h2).mor [p]
   ·have hk':n=S2.length:=by
     have:=(gE1.mp h1).1
     rw [lA1] at this
     simp at this
     lia
    subst hk'
    rw [gR1 (nR1 _)] at h1
    rw [<- s'.len,gR1 (nR1 _)] at h2
    simp at h1 h2
    subst h1;subst h2
    exact ⟨vs',ha',(by simpa using hr':Reps K H' mu' xs vs').mor [p]⟩
 ·cases hm
section
variable {X:Cx}
theorem qZ {elt tg iter:Expr}{ifs:List Expr}{scope:Scope}{pos:Pos}{T:List Str}{keep:List Nat}{cl:List (Str×Addr)}{m:FI}{g:FG}{t:FT}{e:FE}(hc:X.calm=true)
  (C:CSc X scope T keep) (hcl:cloF X.env.cells scope.names []=some cl) (hi:XI X tg iter m) (hb:∀ s H fp,XB1 (cxC X scope cl T keep s H fp) X.K tg ifs elt g t e)
  (hs:∀ x,foldedSetIterable iter X.env x=pure x:=by intro _;rfl):XE X (.ListComp elt [⟨tg,iter,ifs,0⟩] scope pos) (fComp T.length keep m g t (fEmit e)):=
 ⟨pe_imp (pe_comp (emit:=emitE elt) (tb:=fun p=>tEmit p (tM X.K e)) hc (fun it acc env=>turn_A elt tg iter ifs scope pos it acc env) C hcl hi.h (fun s H fp p=>⟨(hb s H fp).g.h,(hb s H fp).t.h,pu_emit (hb s H fp).e.h p⟩) hs)
  fun σ H Q h=>compF_ok (fun a E σ H q=>emitF_ok q) h⟩
theorem xfe_comp2 {elt tg iter tg2 iter2:Expr}{ifs ifs2:List Expr}{scope:Scope}{pos:Pos}{T:List Str}{keep:List Nat}{cl:List (Str×Addr)}{m m2:FI}{g g2:FG}{t t2:FT}{e:FE}(hc:X.calm=true)
  (C:CSc X scope T keep) (hcl:cloF X.env.cells scope.names []=some cl) (hi:XI X tg iter m) (hb:∀ s H fp,XB2 (cxC X scope cl T keep s H fp) X.K tg ifs tg2 iter2 ifs2 elt g t m2 g2 t2 e)
  (hs:∀ x,foldedSetIterable iter X.env x=pure x:=by intro _;rfl) (hs2:∀ env x,foldedSetIterable iter2 env x=pure x:=by intro _ _;rfl):
  XE X (.ListComp elt [⟨tg,iter,ifs,0⟩,⟨tg2,iter2,ifs2,0⟩] scope pos) (fComp T.length keep m g t (fNest m2 g2 t2 (fEmit e))):=
 ⟨pe_imp (pe_comp (emit:=emitN (.ListComp elt [⟨tg,iter,ifs,0⟩,⟨tg2,iter2,ifs2,0⟩] scope pos) iter2) (tb:=fun p=>tNest (tMI X.K m2) (tMG X.K g2) (tMT X.K t2) (tEmit p (tM X.K e))) hc (fun it acc env=>turn_B elt tg iter tg2 iter2 ifs ifs2 scope pos it acc env) C hcl hi.h
   (fun s H fp p=>⟨(hb s H fp).g.h,(hb s H fp).t.h,pu_nest (X:=cxC X scope cl T keep s H fp) rfl hc (hb s H fp).i2.h (hb s H fp).g2.h (hb s H fp).t2.h (pu_emit (hb s H fp).e.h p) (hs2 _)⟩) hs)
  fun σ H Q h=>compF_ok (fun a E σ H q=>nestF_ok (fun _ _ _ z=>emitF_ok z) q) h⟩
theorem xfs_comp1 {elt tg iter:Expr}{ifs:List Expr}{scope:Scope}{pos spos py:Pos}{y:Str}(i:Nat){T:List Str}{keep:List Nat}{cl:List (Str×Addr)}{m:FI}{g:FG}{t:FT}{e:FE}(hc:X.calm=true)
  (C:CSc X scope T keep) (hcl:cloF X.env.cells scope.names []=some cl) (hi:XI X tg iter m) (hb:∀ s H fp,XB1 (cxC X scope cl T keep s H fp) X.K tg ifs elt g t e)
  (hN:X.N.Nodup) (hy:X.N[i]? = some y) (hx:Loc X.env.scope y) (hsw:swapsWith (.ListComp elt [⟨tg,iter,ifs,0⟩] scope pos) (some (.Name y py)) spos.line X.env=pure true:=by rfl)
  (hf:X.fn y=true\/X.env.scope.names.lookup y=some .local:=by first | exact .inl rfl | exact .inr rfl | assumption)
  (hs:∀ x,foldedSetIterable iter X.env x=pure x:=by intro _;rfl):XS X (.Assign [.Name y py] (.ListComp elt [⟨tg,iter,ifs,0⟩] scope pos) spos) (mAsg (fComp T.length keep m g t (fEmit e)) (gN i)):=
 ⟨ps_imp (ps_comp (emit:=emitE elt) (tb:=fun p=>tEmit p (tM X.K e)) hc hsw (fun it acc env=>turn_A elt tg iter ifs scope pos it acc env) C hcl hi.h (fun s H fp p=>⟨(hb s H fp).g.h,(hb s H fp).t.h,pu_emit (hb s H fp).e.h p⟩) hN hy hx hf hs)
  fun E σ H h=>asg_ok (fun σ H Q q=>compF_ok (fun a E σ H q=>emitF_ok q) q) h⟩
end
noncomputable def keyD:D->Option Key
 | .int i=>some (.inl i)
 | .str x=>some (.inr x)
 | _=>none
noncomputable def lookD {κ:Type}[DecidableEq κ](kvs:List (κ×D))(k:κ):Option D:=(kvs.find? fun p=>decide (p.1=k)).map (·.2)
noncomputable def putD {κ:Type}[DecidableEq κ](kvs:List (κ×D))(k:κ)(d:D):List (κ×D):=
 if (kvs.any fun p=>decide (p.1=k))=true then kvs.map (fun p=>if p.1=k then (p.1,d) else p) else kvs++[(k,d)]
section
variable {K:Fg1} {H:Hp} {mu:List Addr}
theorem key_rep {d:D}{v:V}{k:Key}(r:Rep K H mu d v)(h:keyD d=some k):v=kV k:=by
 cases r with
 | int i=>cases h;rfl
 | str x=>cases h;rfl
 | _=>cases h
end
section
variable {κ:Type} [DecidableEq κ] {K:Fg1} {H:Hp} {mu:List Addr}
theorem KR.length:∀ {ks:List (κ×D)} {ws:List (κ×V)},KR K H mu ks ws->ks.length=ws.length:=fun h=>Paired.length h
theorem KR.look {k:κ}:∀ {ks:List (κ×D)} {ws:List (κ×V)},KR K H mu ks ws ->
  (∀ d,lookD ks k=some d -> ∃ v,valV ws k=some v/\Rep K H mu d v)/\(lookD ks k=none->valV ws k=none):=by
 intro ks ws h
 induction h with
 | nil=>exact ⟨fun d h=>by simp [lookD] at h,fun _=>rfl⟩
 | @cons p q ks ws r t ih=>
  obtain ⟨k1,d1⟩:=p
  obtain ⟨k2,v2⟩:=q
  obtain ⟨e,r⟩:=r
  dsimp only at e r
  subst e
  obtain ⟨h1,h2⟩:=ih
  by_cases hk:k1=k
  ·subst hk
   refine ⟨fun d h=>?_,fun h=>?_⟩
   ·have:d1=d:=by simpa [lookD] using h
    subst this
    exact ⟨v2,by simp [valV],r⟩
   ·simp [lookD] at h
  ·have e1:lookD ((k1,d1)::ks) k=lookD ks k:=by simp [lookD,List.find?_cons,hk]
   have e2:valV ((k1,v2)::ws) k=valV ws k:=by simp [valV,List.find?_cons,hk]
   rw [e1,e2]
   exact ⟨h1,h2⟩
theorem KR.any {k:κ}:∀ {ks:List (κ×D)} {ws:List (κ×V)},KR K H mu ks ws->(ks.any fun p=>decide (p.1=k))=ws.any fun p=>decide (p.1=k):=by
 intro ks ws h
 induction h with
 | nil=>rfl
 | cons r t ih=>rw [List.any_cons,List.any_cons,ih,r.1]
theorem KR.repl {k:κ}{d:D}{v:V}(q:Rep K H mu d v):∀ {ks:List (κ×D)} {ws:List (κ×V)},KR K H mu ks ws ->
  KR K H mu (ks.map fun p=>if p.1=k then (p.1,d) else p) (ws.map fun p=>if p.1=k then (p.1,v) else p):=by
 intro ks ws h
 induction h with
 | nil=>exact .nil
 | @cons a b ks ws r t ih=>
  refine .cons ?_ ih
  obtain ⟨e,r⟩:=r
  dsimp only
  by_cases h:a.1=k
  ·rw [if_pos h,if_pos (e ▸ h)];exact ⟨e,q⟩
  ·rw [if_neg h,if_neg (e ▸ h)];exact ⟨e,r⟩
theorem KR.snoc {k:κ}{d:D}{v:V}(q:Rep K H mu d v):∀ {ks:List (κ×D)} {ws:List (κ×V)},KR K H mu ks ws->KR K H mu (ks++[(k,d)]) (ws++[(k,v)]):=by
 intro ks ws h
 induction h with
 | nil=>exact .cons ⟨rfl,q⟩ .nil
 | cons r t ih=>exact .cons r ih
theorem KR.put {k:κ}{d:D}{v:V}(q:Rep K H mu d v){ks:List (κ×D)}{ws:List (κ×V)}(h:KR K H mu ks ws):KR K H mu (putD ks k d) (putK ws k v):=by
 unfold putD putK
 rw [h.any]
 split
 ·exact h.repl q
 ·exact h.snoc q
end
noncomputable def gInX:G2:=fun d e S=>match e with
 | .ref n=>match S[n]? with
  | some (.dct kvs)=>(keyD d).map fun k=>(.bl (lookD kvs k).isSome,S)
  | _=>gIn d e S
 | _=>gIn d e S
noncomputable def gNotInX:G2:=fun d e S=>match e with
 | .ref n=>match S[n]? with
  | some (.dct kvs)=>(keyD d).map fun k=>(.bl (!(lookD kvs k).isSome),S)
  | _=>gNotIn d e S
 | _=>gNotIn d e S
noncomputable def gIxX:G2:=fun d e S=>match d with
 | .ref n=>match S[n]? with
  | some (.dct kvs)=>(keyD e).bind fun k=>(lookD kvs k).map fun x=>(x,S)
  | _=>gIx d e S
 | _=>gIx d e S
noncomputable def gSetX:G3:=fun o i v S=>match o with
 | .ref n=>match S[n]? with
  | some (.dct kvs)=>(keyD i).bind fun k=>if kvs.length<sizeLine then some (.non,S.set n (.dct (putD kvs k v))) else none
  | _=>gSetIx o i v S
 | _=>gSetIx o i v S
section
variable {X:Cx}
theorem look_get {K:Fg1}{H:Hp}{mu:List Addr}{S:Sto}(hs:Sim K H mu S){n:Nat}{a:Addr}{kvs:List (Key×D)}{k:Key}{y:V}(hn:mu[n]? = some a)(he:S[n]? = some (.dct kvs))(hy:y=kV k):
  ∃ o:Option V,DGet H a y o/\(∀ d,lookD kvs k=some d -> ∃ v,o=some v/\Rep K H mu d v)/\(lookD kvs k=none->o=none)/\o.isSome=(lookD kvs k).isSome:=by
 obtain ⟨ws,hw,hk⟩:=hs.dct he hn
 subst hy
 obtain ⟨h1,h2⟩:=hk.look (k:=k)
 refine ⟨valV ws k,DGet.k hw,h1,h2,?_⟩
 cases e:lookD kvs k with
 | none=>rw [h2 e];rfl
 | some d=>obtain ⟨v,e2,_⟩:=h1 d e;rw [e2];rfl
theorem o_notInX (hu:X.A.units+64<cLine):OpR X (compareOp .NotIn) (r2 X.K (b2 gNotInX)):=by
 intro pins s σ H x y u w Q I rx ry h
 obtain ⟨mu,S,d,e,r,S',r1,r2',hs,hm,hc⟩:=rn2 h
 have back:gNotIn d e S=some (r,S')->wpAny (model X.prog X.w) X.A (compareOp .NotIn u w) (EP X pins σ Q) X.xe s:=fun hm=>o_notIn hu pins s σ H x y u w Q I rx ry ⟨mu,S,[d,e],r,S',.cons r1 (.cons r2' .nil),hs,hm,hc⟩
 unfold gNotInX at hm
 split at hm
 ·rename_i n
  split at hm
  ·rename_i kvs en
   obtain ⟨k,ek,hm⟩:=oM1.mp hm
   cases hm
   cases r2' with
   | ref hn=>
    cases ry
    obtain ⟨o,g,_,_,hi⟩:=look_get hs hn en (key_rep r1 ek)
    exact d_notIn (by lia) I g rx fun s' I'=>⟨.bl (!o.isSome),H,I',rfl,by rw [hi];exact hc.now (.bl _) hs⟩
  ·exact back hm
 ·exact back hm
theorem x_ixX (hu:X.A.units+64<cLine):IxR X (r2 X.K (b2 gIxX)):=by
 intro value slice pins s σ H x y v u Q I rx ry h hs2
 obtain ⟨mu,S,d,e,r,S',r1,r2',hs,hm,hc⟩:=rn2 h
 have back:gIx d e S=some (r,S')->wpAny (model X.prog X.w) X.A (subscriptTail value slice v u) (EP X pins σ Q) X.xe s:=fun hm=>x_ix value slice pins s σ H x y v u Q I rx ry ⟨mu,S,[d,e],r,S',.cons r1 (.cons r2' .nil),hs,hm,hc⟩ hs2
 unfold gIxX at hm
 split at hm
 ·rename_i n
  split at hm
  ·rename_i kvs en
   obtain ⟨k,ek,hm⟩:=oB1.mp hm
   obtain ⟨z,ez,hm⟩:=oM1.mp hm
   cases hm
   cases r1 with
   | @ref _ a hn=>
    cases rx
    obtain ⟨o,g,h1,_,_⟩:=look_get hs hn en (key_rep r2' ek)
    obtain ⟨v',ev,rv⟩:=h1 _ ez
    subst ev
    have hT:=dict_typeIs I g
    unfold subscriptTail
    refine wB1 ?_
    rw [getitemInPython_of_ne hT.not_modules]
    refine wB1 (wpAny_specialOf hT PySem.F.slot_dict_getitem.lookup ?_)
    have fin:wpAny (model X.prog X.w) X.A (subscripted slice false (.ref a) u) (fun r s₃=>wpAny (model X.prog X.w) X.A (letTemporaryGo value (.ref a) r >>= fun _=>pure r) (EP X pins σ Q) X.xe s₃) X.xe s:=by
     rw [hs2]
     exact wpAny_operating (wpAny_mono (d_getItem (by lia) I g ry fun w' s3 I3 rw'=>(⟨v',H,I3,rw',hc.now rv hs⟩:EP X pins σ Q w' s3)) (fun r s₃ h₃=>wB1 (wpAny_letTemporaryGo (wP1 h₃))) fun _ _ x=>x)
    first
     | exact wP1 (wB1 fin)
     | exact wB1 fin
     | exact fin
  ·exact back hm
 ·exact back hm
theorem s_setX (hu:X.A.units+64<cLine):PSet X (rU X.K (b3 gSetX)):=by
 intro pins s σ H o i v ov iv u Q I ro ri rv h
 obtain ⟨mu,S,ds,d,S',hr,hs,hm,hc⟩:=id h
 cases hr with
 | cons q1 t1=>cases t1 with
  | cons q2 t2=>cases t2 with
   | cons q3 t3=>
    cases t3
    rename_i d1 d2 d3
    dsimp only [b3] at hm
    have back:gSetIx d1 d2 d3 S=some (d,S')->wpAny (model X.prog X.w) X.A (setItem ov iv u) (fun _ s'=>∃ H',Inv X pins σ H' s'/\Q H') X.xe s:=fun hm=>s_set pins s σ H o i v ov iv u Q I ro ri rv ⟨mu,S,[d1,d2,d3],d,S',.cons q1 (.cons q2 (.cons q3 .nil)),hs,hm,hc⟩
    unfold gSetX at hm
    split at hm
    ·rename_i n
     split at hm
     ·rename_i kvs en
      obtain ⟨k,ek,hm⟩:=oB1.mp hm
      split at hm
      ·rename_i hl
       cases hm
       cases q1 with
       | ref hn=>
        cases ro
        obtain ⟨ws,hw,hk⟩:=hs.dct en hn
        have ey:=key_rep q2 ek
        subst ey
        refine d_setItem (by lia) I (DPut.k hw (by rw [<- hk.length];exact hl)) ri rv fun s' I'=>⟨_,I',?_⟩
        have put:Ext mu mu H (upd H _ (.dK (putK ws k v))):=Ext.put hw trivial (gM1 hn)
        exact hc _ mu put (hs.put hn hw trivial ⟨_,upd_same,(hk.put q3).ext put⟩)
      ·cases hm
     ·exact back hm
    ·exact back hm
noncomputable def mDnew:FE:=fun _ S=>some (.ref S.length,S++[.dct []])
theorem xme_dnew {pos:Pos}:XE X (.Dict [] [] pos) mDnew:=⟨pe_imp pe_dnewK <| by
 rintro σ H Q ⟨r,mu,S,d,S',he,hs,hm,hc⟩ p hp
 cases hm
 exact hc _ _ (mu++[p]) (Ext.new_ hp) (.ref (new_at hs.len p)) (hs.new hp ⟨[],upd_same,.nil⟩)⟩
noncomputable def mPrs:List (FE×FE)->Ev->Sto->Option (List (D×D)×Sto)
 | [],_,S=>some ([],S)
 | (a,b)::l,r,S=>(a r S).bind fun p=>(b r p.2).bind fun q=>(mPrs l r q.2).map fun t=>((p.1,q.1)::t.1,t.2)
noncomputable def keyed:List (D×D)->Option (List (Key×D))
 | []=>some []
 | (k,d)::l=>(keyD k).bind fun k=>(keyed l).map fun t=>(k,d)::t
noncomputable def mDisp (l:List (FE×FE)):FE:=fun r S=>(mPrs l r S).bind fun p=>(keyed p.1).bind fun kvs=>if kvs.length<=15 then some (.ref p.2.length,p.2++[.dct (kvs.foldl (fun acc kv=>putD acc kv.1 kv.2) [])]) else none
structure XP (X:Cx)(pos:Pos)(ks:List (Option Expr))(vs:List Expr)(l:List (FE×FE)):Prop where
 h:PPs X pos ks vs (l.map fun p=>(tM X.K p.1,tM X.K p.2))
theorem xmp_nil {pos:Pos}:XP X pos [] [] []:=⟨pps_nil⟩
theorem xmp_cons {pos:Pos}{k v:Expr}{ks:List (Option Expr)}{vs:List Expr}{a b:FE}{l:List (FE×FE)}(hk:XE X k a)(hv:XE X v b)(t:XP X pos ks vs l):XP X pos (some k::ks) (v::vs) ((a,b)::l):=⟨pps_cons hk.h hv.h t.h⟩
theorem prs_ok {K:Fg1}{σ:L2.St}:∀ {l:List (FE×FE)} {r:Ev} {mu:List Addr} {H:Hp} {S S':Sto} {ps:List (D×D)} {Q:List (V×V)->Hp->Prop},EnvR K H mu r σ->Sim K H mu S->mPrs l r S=some (ps,S') ->
  (∀ vs H' mu',Ext mu mu' H H'->Paired (fun (p:D×D) (q:V×V)=>Rep K H' mu' p.1 q.1/\Rep K H' mu' p.2 q.2) ps vs->Sim K H' mu' S'->Q vs H')->tPairs (l.map fun p=>(tM K p.1,tM K p.2)) σ H Q
 | [],r,mu,H,S,S',ps,Q,he,hs,hm,hc=>by cases hm;exact hc [] H mu (.refl _ _) .nil hs
 | (a,b)::l,r,mu,H,S,S',ps,Q,he,hs,hm,hc=>by
  obtain ⟨⟨d,S1⟩,e1,hm⟩:=oB1.mp hm
  obtain ⟨⟨d2,S2⟩,e2,hm⟩:=oB1.mp hm
  obtain ⟨⟨t,S3⟩,e3,hm⟩:=oM1.mp hm
  cases hm
  refine ⟨r,mu,S,d,S1,he,hs,e1,fun v H1 mu1 x1 r1 s1=>⟨r,mu1,S1,d2,S2,he.ext x1,s1,e2,fun v2 H2 mu2 x2 r2 s2=>?_⟩⟩
  refine prs_ok ((he.ext x1).ext x2) s2 e3 fun vs H3 mu3 x3 q3 s3=>hc _ H3 mu3 ((x1.trans x2).trans x3) (.cons ⟨(r1.ext x2).ext x3,r2.ext x3⟩ q3) s3
theorem keyed_ok {K:Fg1}{H:Hp}{mu:List Addr}:∀ {ps:List (D×D)} {vs:List (V×V)} {kvs:List (Key×D)},Paired (fun (p:D×D) (q:V×V)=>Rep K H mu p.1 q.1/\Rep K H mu p.2 q.2) ps vs->keyed ps=some kvs ->
  ∃ ws:List (Key×V),vs=ws.map (fun kv=>(kV kv.1,kv.2))/\KR K H mu kvs ws:=by
 intro ps vs kvs h0 h
 induction h0 generalizing kvs with
 | nil=>cases h;exact ⟨[],rfl,.nil⟩
 | @cons a b ps vs q t ih=>
  obtain ⟨k,d⟩:=a
  obtain ⟨v1,v2⟩:=b
  obtain ⟨kk,ek,h⟩:=oB1.mp h
  obtain ⟨rest,er,h⟩:=oM1.mp h
  cases h
  obtain ⟨ws,e,r⟩:=ih er
  have:=key_rep q.1 ek
  dsimp only at this
  subst this
  exact ⟨(kk,v2)::ws,by rw [mP1,<- e],.cons ⟨rfl,q.2⟩ r⟩
theorem merge_ok {K:Fg1}{H:Hp}{mu:List Addr}:∀ {kvs:List (Key×D)} {ws:List (Key×V)} {acc:List (Key×D)} {acw:List (Key×V)},KR K H mu kvs ws->KR K H mu acc acw->KR K H mu (kvs.foldl (fun acc kv=>putD acc kv.1 kv.2) acc) (mergeK acw ws):=by
 intro kvs ws acc acw h0 h
 induction h0 generalizing acc acw with
 | nil=>exact h
 | @cons a b kvs ws r t ih=>
  obtain ⟨k,d⟩:=a
  obtain ⟨k2,v⟩:=b
  obtain ⟨e,r⟩:=r
  dsimp only at e r
  subst e
  show KR K H mu (kvs.foldl _ (putD acc k d)) (mergeK (putK acw k v) ws)
  exact ih (h.put r)
theorem xme_disp {pos:Pos}{ks:List (Option Expr)}{vs:List Expr}{l:List (FE×FE)}(h:XP X pos ks vs l)(hall:ks.all (·.isSome)=true:=by rfl)(hl:ks.length=vs.length:=by rfl)(h0:ks≠[]:=by (intro z;cases z))(h15:ks.length<=15:=by decide):XE X (.Dict ks vs pos) (mDisp l):=
 ⟨pe_imp (pe_disp h.h hall hl h0 h15) <| by
  rintro σ H Q ⟨r,mu,S,d,S',he,hs,hm,hc⟩ p hp
  obtain ⟨⟨ps,S1⟩,e1,hm⟩:=oB1.mp hm
  obtain ⟨kvs,e2,hm⟩:=oB1.mp hm
  dsimp only at hm
  split at hm
  ·rename_i hlen
   cases hm
   have fr:Ext mu mu H (upd H p (.dK [])):=Ext.fresh hp
   refine prs_ok (he.ext fr) (hs.fresh hp) e1 fun vs H1 mu1 x1 q1 s1=>?_
   obtain ⟨hp1,hn1⟩:=x1.held (a:=p) (o:=.dK []) upd_same (hs.notin hp)
   obtain ⟨ws,ew,rk⟩:=keyed_ok q1 e2
   refine ⟨hp1,ws,ew,by rw [<- rk.length];exact hlen,?_⟩
   have put:Ext (p::mu1) (p::mu1) H1 (upd H1 p (.dK (mergeK [] ws))):=Ext.put hp1 trivial mS1
   have s2:=s1.aside put.inner hn1
   have y:Ext mu (mu1++[p]) H (upd H1 p (.dK (mergeK [] ws))):=by
    refine ⟨x1.pre.trans (List.prefix_append _ _),fun b o e n=>?_,fun b ys e=>put.tup b ys (x1.tup b ys (fr.tup b ys e)),fun b o u e=>put.frz b o u (x1.frz b o u (fr.frz b o u e)),fun b hb'=>?_⟩
    ·have nb:b≠p:=ne_of_none e hp
     rw [upd_ne nb]
     exact x1.old b o (by rw [upd_ne nb];exact e) n
    ·rcases List.mem_append.mp hb' with z | z
     ·rcases x1.new b z with q | q
      ·exact .inl q
      ·by_cases hbp:b=p
       ·exact .inr (by rw [hbp];exact hp)
       ·rw [upd_ne hbp] at q;exact .inr q
     ·have:b=p:=by simpa using z
      exact .inr (by rw [this];exact hp)
   have rk2:=merge_ok rk (acc:=[]) (acw:=[]) .nil
   refine hc _ _ (mu1++[p]) y (.ref (new_at s1.len p)) ⟨by rw [lA1,lA1,s1.len];rfl,?_,fun n o b h1 h2=>?_⟩
   ·rw [List.nodup_append]
    refine ⟨s1.nd,by simp,fun b hb c hc e=>?_⟩
    have:c=p:=by simpa using hc
    subst this;subst e
    exact hn1 hb
   ·by_cases hk:n<S1.length
    ·rw [gL1 hk] at h1
     rw [gL1 (by rw [s1.len];exact hk)] at h2
     exact (s2.ob n o b h1 h2).mor [p]
    ·have hk':n=S1.length:=by
      have:=(gE1.mp h1).1
      rw [lA1] at this
      simp at this
      lia
     subst hk'
     rw [gR1 (nR1 _)] at h1
     rw [<- s1.len,gR1 (nR1 _)] at h2
     simp at h1 h2
     subst h1;subst h2
     exact ⟨_,upd_same,KR.mor [p] (Paired.mapP rk2 fun _ _ z=>⟨z.1,z.2.exw put.inner⟩)⟩
  ·cases hm⟩
noncomputable def mDGet1 (m a:FE):FE:=fun r S=>(m r S).bind fun p=>match p.1 with
 | .ref n=>match p.2[n]? with
  | some (.dct _)=>(a r p.2).bind fun q=>match q.2[n]? with
   | some (.dct kvs)=>(keyD q.1).map fun k=>((lookD kvs k).getD .non,q.2)
   | _=>none
  | _=>none
 | _=>none
theorem isD_of {K:Fg1}{H:Hp}{mu:List Addr}{S:Sto}(hs:Sim K H mu S){n:Nat}{a:Addr}{kvs:List (Key×D)}(hn:mu[n]? = some a)(he:S[n]? = some (.dct kvs)):IsD H a:=by
 obtain ⟨ws,hw,_⟩:=hs.dct he hn
 exact .inl ⟨ws,.inl hw⟩
theorem xme_dget1 {o e:Expr}{apos cpos:Pos}{m a:FE}(hu:X.A.units+64<cLine)(ho:XE X o m)(he:XE X e a)(hm:M1 X o "get" apos e cpos:=by exact ⟨rfl,rfl,rfl,rfl⟩):XE X (.Call (.Attribute o "get" apos) [e] [] cpos) (mDGet1 m a):=
 ⟨pe_imp (pe_dget1 (by lia) ho.h he.h hm) <| by
  rintro σ H Q ⟨r,mu,S,d,S',he,hs,hm,hc⟩
  obtain ⟨⟨d1,S1⟩,e1,hm⟩:=oB1.mp hm
  refine ⟨r,mu,S,d1,S1,he,hs,e1,fun v1 H1 mu1 x1 r1 s1=>?_⟩
  dsimp only at hm
  split at hm
  ·rename_i n
   split at hm
   ·rename_i kv0 en0
    cases r1 with
    | ref hn=>
     refine ⟨_,rfl,isD_of s1 hn en0,?_⟩
     obtain ⟨⟨d2,S2⟩,e2,hm⟩:=oB1.mp hm
     refine ⟨r,mu1,S1,d2,S2,he.ext x1,s1,e2,fun v2 H2 mu2 x2 r2 s2=>?_⟩
     dsimp only at hm
     split at hm
     ·rename_i kvs en
      obtain ⟨k,ek,hm⟩:=oM1.mp hm
      cases hm
      obtain ⟨ov,g,h1,h2,_⟩:=look_get s2 (x2.at hn) en (key_rep r2 ek)
      refine ⟨ov,g,?_⟩
      cases e:lookD kvs k with
      | none=>rw [h2 e];rw [e] at hc;exact hc _ H2 mu2 (x1.trans x2) .non s2
      | some z=>obtain ⟨v,ev,rv⟩:=h1 z e;subst ev;rw [e] at hc;exact hc _ H2 mu2 (x1.trans x2) rv s2
     ·cases hm
   ·cases hm
  ·cases hm⟩
end
section
variable {X:Cx}
end
section
variable {K:Fg1} {H H':Hp} {mu mu':List Addr} {S:Sto}
end
theorem xms_par {X:Cx}(i j:Nat){x y:Str}{a b:Expr}{m:FA}{px py pt pos:Pos}{kt k2 pt2}(hc:X.calm=true)(hN:X.N.Nodup)(hi:X.N[i]? = some x)(hj:X.N[j]? = some y)(hij:i≠j)
  (hx:X.env.scope.names.lookup x=some .local) (hy:X.env.scope.names.lookup y=some .local) (ha:XA X [a,b] m)
  (hw:swappedStores [.Tuple [.Name x px,.Name y py] kt pt] (.Tuple [a,b] k2 pt2) X.env=pure (some [x,y]):=by rfl)
  (hs:swapsWithSole [.Tuple [.Name x px,.Name y py] kt pt] (.Tuple [a,b] k2 pt2) pos.line X.env=pure false:=by rfl):
  XS X (.Assign [.Tuple [.Name x px,.Name y py] kt pt] (.Tuple [a,b] k2 pt2) pos) (mAsg (mTup m) (gT 2 (gCs (gN i) (gCs (gN j) gNl)))):=
 ⟨ps_imp (ps_par hc hN hi hj hij hx hy ha.h hw hs) <| by
  rintro E σ H ⟨r,mu,S,f,r',S',he,hs,hm,hc⟩
  obtain ⟨⟨d,S1⟩,e1,hm⟩:=oB1.mp hm
  obtain ⟨⟨r2,S2⟩,e2,hm⟩:=oB1.mp hm
  cases hm
  obtain ⟨⟨ds,S3⟩,e3,e1⟩:=oB1.mp e1
  dsimp only at e1
  split at e1
  ·cases e1
   refine ⟨r,mu,S,ds,_,he,hs,e3,fun vs H1 mu1 x1 r1 s1=>?_⟩
   dsimp only at e2
   rw [gT] at e2
   split at e2
   ·cases r1 with
    | nil=>cases e2
    | cons q1 r1=>cases r1 with
     | nil=>cases e2
     | cons q2 r1=>cases r1 with
      | nil=>
       cases e2
       exact ⟨_,_,rfl,hc _ H1 mu1 x1 (((he.ext x1).set q1).set q2) s1⟩
      | cons _ _=>cases e2
   ·cases e2
  ·cases e1⟩
noncomputable def gAddI:G2:=fun d e S=>match d,e with
 | .int i,.int j=>some (.int (i+j),S)
 | _,_=>none
theorem ip_addI {X:Cx}:PIp X .Add (r2 X.K (b2 gAddI)):=by
 intro pins s σ H x y v u Q I rx ry h
 obtain ⟨mu,S,d,e,r,S',r1,r2',hs,hm,hc⟩:=rn2 h
 unfold gAddI at hm
 split at hm
 ·rename_i i j
  cases hm;cases r1;cases r2'
  exact iop_add pins s σ H _ _ v u Q I rx ry ⟨i,j,rfl,rfl,hc.now (.int _) hs⟩
 ·cases hm
theorem st_Dict (ks vs pos rest env):starEach (.Dict ks vs pos::rest) env=(false,eval (.Dict ks vs pos) env)::starEach rest env:=rfl
end Mi
end
section
namespace HT
open PySem PySem.Spec PyProof.Rows
variable {prog:Program} {w:World} {A:Around} {E:Value->Shared->Prop} {s:Shared}
theorem getItem_tuple_whole {t sl:Addr}{items:Array Value}{vl vu:Value}{lo hi:Option Int}{Q:Value->Shared->Prop}(ht:IsTup s.heap t items)(hs:s.heap.IsSliceOf sl vl vu .none)(pl:IsPart vl lo)(pu:IsPart vu hi)
  (hw:sIx items.size 0 lo=0/\sIx items.size items.size hi=items.size) (h:Q (.ref t) s):wpAny (model prog w) A (getItem (.ref t) (.ref sl)) Q E s:=by
 obtain ⟨os,hos,hcs,hds⟩:=id hs
 have hTs:s.TypeIs (.ref sl) "slice":=⟨os,hos,hcs⟩
 unfold getItem
 try with_reducible refine wpAny_holding ?_
 first | refine wB1 (wP1 ?_) | skip
 refine wB1 (wpAny_sequenceKey ht.typeIs (by decide) ?_)
 refine wB1 (wpAny_callSpecial?_slot (name:=Str.ofString "__getitem__") ht.typeIs PyProof.Rows.slot_tuple_getitem
  (wE1 PyProof.Rows.slot_tuple_getitem ht.typeIs entry_tuple_getitem ?_ (args_tuple_getitem _ _)))
 show wpAny _ _ (Builtin.Tuple.tupleItemsOf (.ref t) >>= _) _ _ s
 refine wB1 (tupleItemsOf_ ht ?_)
 refine wB1 (wpAny_typeOf hTs ?_)
 rw [if_pos (by decide)]
 refine wB1 (sliceApplied_gen hs pl pu ?_)
 have hyes:((((sIx items.size 0 lo:Nat):Int) == 0&&(1:Int) == 1&&(sIx items.size items.size hi-sIx items.size 0 lo) == items.size)=true):=by
  rw [hw.1,hw.2];simp
 show wpAny _ _ (if (((sIx items.size 0 lo:Nat):Int) == 0&&(1:Int) == 1&&(sIx items.size items.size hi-sIx items.size 0 lo) == items.size)=true then _ else _) _ _ s
 rw [if_pos hyes]
 refine wB1 ?_
 unfold Builtin.Tuple.tupleIsExact
 refine wB1 (wpAny_typeOf ht.typeIs (wP1 ?_))
 rw [if_pos (by decide)]
 first
  | exact wB1 (wpAny_rule (wP1 ⟨_,rfl,wP1 h⟩))
  | exact wB1 (wpAny_rule (wB1 (wP1 ⟨_,rfl,wP1 h⟩)))
end HT
namespace Mi
open PySem PySem.Spec PyProof.Rows L2
noncomputable def rSlW (K:Fg1):V->Option Int->Option Int->Hp->VK->Prop:=fun x lo hi H Q=>∃ a xs,x = .ref a/\SqT K H a xs/\(HT.sIx xs.length 0 lo=0/\HT.sIx xs.length xs.length hi=xs.length)/\Q (.ref a) H
section
variable {X:Cx}
theorem sl_tupW:SlR X (rSlW X.K):=by
 intro pins s σ H x v vl vu lo hi sl Q I rx hs pl pu h
 obtain ⟨a,xs,rfl,hx,hw,q⟩:=h
 cases rx
 obtain ⟨its,r,ht,hz⟩:=I.tuple hx
 have hlen:its.toArray.size=xs.length:=by rw [sT1];exact r.length.symm
 refine ⟨"tuple",_,PyProof.Rows.slot_tuple_getitem.lookup,ht.typeIs,?_⟩
 exact HT.getItem_tuple_whole ht hs pl pu (by rw [hlen];exact hw) ⟨.ref a,H,I,rfl,q⟩
noncomputable def sliceX (S:Sto)(d:D)(lo hi:Option Int):Option (D×Sto):=(seqOf S d).map fun p=>if p.1=true then (.ref S.length,S++[.lst (Mi.cutD p.2 lo hi)]) else (.tup (Mi.cutD p.2 lo hi),S)
noncomputable def mSlX (m:FE)(lo hi:FO):FE:=fun r S=>(m r S).bind fun p=>(lo r p.2).bind fun a=>(hi r a.2).bind fun b=>sliceX b.2 p.1 a.1 b.1
theorem cut_whole {xs:List D}{lo hi:Option Int}(h:HT.sIx xs.length 0 lo=0/\HT.sIx xs.length xs.length hi=xs.length):Mi.cutD xs lo hi=xs:=by
 unfold Mi.cutD
 rw [h.1,h.2,List.drop_zero,Nat.sub_zero,List.take_length]
theorem xme_sliceX {e:Expr}{lo hi:Option Expr}{m:FE}{a b:FO}{pos p2:Pos}(h:XE X e m)(hl:XO X lo a)(hh:XO X hi b):XE X (.Subscript e (.Slice lo hi none p2) pos) (mSlX m a b):=
 ⟨pe_imp (pe_slice (SlR.or sl_tupW (SlR.or sl_tup sl_list)) h.h hl.h hh.h) <| by
  rintro σ H Q ⟨r,mu,S,d,S',he,hs,hm,hc⟩
  obtain ⟨⟨d1,S1⟩,e1,hm⟩:=oB1.mp hm
  obtain ⟨⟨o1,S2⟩,e2,hm⟩:=oB1.mp hm
  obtain ⟨⟨o2,S3⟩,e3,hm⟩:=oB1.mp hm
  refine ⟨r,mu,S,d1,S1,he,hs,e1,fun v H1 mu1 x1 r1 s1=>?_⟩
  refine ⟨r,mu1,S1,o1,S2,he.ext x1,s1,e2,fun H2 mu2 x2 s2=>?_⟩
  refine ⟨r,mu2,S2,o2,S3,(he.ext x1).ext x2,s2,e3,fun H3 mu3 x3 s3=>?_⟩
  obtain ⟨⟨k,xs⟩,e4,hm⟩:=oM1.mp hm
  have xx:=(x1.trans x2).trans x3
  obtain ⟨c,vs,rfl,q,t⟩:=seqOf_at ((r1.ext x2).ext x3) s3 e4
  cases k with
  | true=>
   cases hm
   right;right
   exact ⟨c,vs,rfl,q,fun p hp=>hc _ _ (mu3++[p]) (xx.trans (Ext.new_ hp)) (.ref (new_at s3.len p)) (s3.newL (cut_rep t o1 o2) hp)⟩
  | false=>
   simp only [bF1,if_false] at hm
   cases hm
   by_cases hw:HT.sIx xs.length 0 o1=0/\HT.sIx xs.length xs.length o2=xs.length
   ·left
    rw [cut_whole hw] at hc
    exact ⟨c,vs,rfl,q,by rw [<- t.length];exact hw,hc _ _ mu3 xx (.tup q t) s3⟩
   ·right;left
    exact ⟨c,vs,rfl,q,by rw [<- t.length];exact hw,fun p hp=>hc _ _ mu3 (xx.trans (Ext.fresh hp)) (.tup (SqT.of upd_same) ((cut_rep t o1 o2).ext (Ext.fresh hp))) (s3.fresh hp)⟩⟩
end
mutual
inductive IsTK (h:Heap):TK->Value->Prop
 | non:IsTK h .non .none
 | int (i t):IsTK h (.int i) (.int i t)
 | tup {a o items n xs}:h.get? a=some o->o.cls = .type "tuple"->o.data = .seq items n->IsTKs h xs items.toList->IsTK h (.tup xs) (.ref a)
inductive IsTKs (h:Heap):List TK->List Value->Prop
 | nil:IsTKs h [] []
 | cons {k v ks vs}:IsTK h k v->IsTKs h ks vs->IsTKs h (k::ks) (v::vs)
end
section
variable {prog:Program} {w:World} {A:Around} {E:Value->Shared->Prop} {s:Shared}
theorem pyHash_none {Q:Int->Shared->Prop}(h:Q 0xFCA86420 {s with toks:=s.toks+1}):wpAny (model prog w) A (pyHash .none) Q E s:=by
 have hT:s.TypeIs .none "NoneType":=rfl
 unfold pyHash
 first | unfold pyHashByItsType | skip
 have hv:[Value.none].any Value.onHeap=false:=rfl
 refine wB1 ?_
 rw [cRoomFor,if_neg (by rw [hv];exact Bool.false_ne_true)];refine wP1 ?_
 refine wB1 (wpAny_specialOf hT F.slot_NoneType_hash.lookup ?_)
 show wpAny _ _ (if (some (Value.builtin "NoneType.__hash__") == some Value.none)=true then _ else _) Q E s
 rw [if_neg (by rw [beq_builtin_none];exact Bool.false_ne_true)]
 refine wB1 (wpAny_specialOf hT F.slot_NoneType_hash.lookup ?_)
 show wpAny _ _ (callSpecialIfBoundUnlessNone? .none "__hash__" _ >>= _) Q E s
 refine wB1 (wpAny_callSpecialIfBoundUnlessNone?_slot hT F.slot_NoneType_hash (wE1 F.slot_NoneType_hash hT F.entry_NoneType_hash (show wpAny _ _ (retInt 0xFCA86420) _ _ s from wpAny_ret_mkInt ?_) (F.args_NoneType_hash_1 _)))
 exact wP1 h
noncomputable def HashOk (prog:Program)(w:World)(k:TK):Prop:=∀ {A:Around} {E:Value->Shared->Prop} {s:Shared} {v:Value} {Q:Int->Shared->Prop},A.units+k.dep<cLine->IsTK s.heap k v->Q k.hash {s with toks:=s.toks+k.draws}->wpAny (model prog w) A (pyHash v) Q E s
theorem IsTKs.split {h:Heap}:∀ {ks:List TK} {vs:List Value},IsTKs h ks vs->ks.length=vs.length:=fun h0=>h0.rec (motive_1:=fun _ _ _=>True) (motive_2:=fun ks vs _=>ks.length=vs.length) trivial (fun _ _=>trivial) (fun _ _ _ _ _=>trivial) rfl (fun _ _ _ ih=>congrArg (· + 1) ih)
theorem hash_tup {xs:List TK}(all:∀ k∈xs,HashOk prog w k):HashOk prog w (.tup xs):=by
 intro A E s v Q hu hk h
 cases hk with
 | @tup a o items n _ ho hc hd hi=>
  have hT:s.TypeIs (.ref a) "tuple":=⟨o,ho,hc⟩
  rw [TK.dep] at hu
  unfold pyHash
  first | unfold pyHashByItsType | skip
  first | refine wB1 (wpAny_cRoomFor_or (.inr (by lia)) ?_) | skip
  refine wB1 (wpAny_specialOf hT F.slot_tuple_hash.lookup ?_)
  show wpAny _ _ (if (some (Value.builtin "tuple.__hash__") == some Value.none)=true then _ else _) Q E s
  rw [if_neg (by rw [beq_builtin_none];exact Bool.false_ne_true)]
  refine wB1 (wpAny_specialOf hT F.slot_tuple_hash.lookup ?_)
  show wpAny _ _ (callSpecialIfBoundUnlessNone? (.ref a) "__hash__" _ >>= _) Q E s
  refine wB1 (wpAny_callSpecialIfBoundUnlessNone?_slot hT F.slot_tuple_hash (wE1 F.slot_tuple_hash hT F.entry_tuple_hash ?_ (F.args_tuple_hash_1 _)))
  show wpAny _ _ (Builtin.Tuple.tupleItemsOf (.ref a) >>= _) _ _ s
  refine wB1 (wpAny_tupleItemsOf ho hd ?_)
  refine wB1 ?_
  rw [<- Array.forIn_toList]
  refine wpAny_forIn_list _
   (fun rest (b:Array Int) s'=>∃ done left,xs=done++left/\IsTKs s.heap left rest/\b.toList=TK.hashes done/\s'={s with toks:=s.toks+TK.drawsAll done})
   _ ?_ ?_ _ _ ⟨[],xs,rfl,hi,rfl,rfl⟩
  ·rintro x rest b s' ⟨done,left,e,hl,hb,rfl⟩
   cases hl with
   | @cons k _ ks' _ h1 hl'=>
    have hm:k∈xs:=by rw [e];simp
    refine wB1 (all k hm (show A.in1.units+k.dep<cLine by have:=TK.dep_mem hm;rw [show A.in1.units=A.units+1 from rfl];lia) h1 ?_)
    first
     | exact wP1 ⟨done++[k],ks',by simp [e],hl',by rw [TK.hashes_app];simp [hb,TK.hashes],by rw [TK.draws_app];simp [TK.drawsAll,Nat.add_assoc]⟩
     | exact wB1 (wP1 (wP1 ⟨done++[k],ks',by simp [e],hl',by rw [TK.hashes_app];simp [hb,TK.hashes],by rw [TK.draws_app];simp [TK.drawsAll,Nat.add_assoc]⟩))
  ·rintro b s' ⟨done,left,e,hl,hb,rfl⟩
   cases hl
   rw [List.append_nil] at e
   subst e
   show wpAny _ _ (retInt (Builtin.Tuple.tupleHashOf b.toList)) _ _ _
   rw [hb]
   refine wpAny_ret_mkInt ?_
   show wpAny _ _ (if (decide (-(2:Int)^63<=Builtin.Tuple.tupleHashOf (TK.hashes xs))&&decide (Builtin.Tuple.tupleHashOf (TK.hashes xs)<2^63))=true then _ else _) Q E _
   rw [TK.hash,TK.draws] at h
   unfold reduceHash at h
   by_cases hr:(decide (-(2:Int)^63<=Builtin.Tuple.tupleHashOf (TK.hashes xs))&&decide (Builtin.Tuple.tupleHashOf (TK.hashes xs)<2^63))=true
   ·rw [if_pos hr]
    rw [if_pos hr] at h
    exact wP1 (by simpa [Nat.add_assoc] using h)
   ·rw [if_neg hr]
    rw [if_neg hr] at h
    exact wB1 (wpAny_rule (wP1 (by simpa [Nat.add_assoc] using h)))
mutual
theorem hash_ok:∀ k:TK,HashOk prog w k
 | .non=>fun hu hk h=>by cases hk;exact pyHash_none h
 | .int i=>fun hu hk h=>by cases hk;exact wpAny_pyHash_int h
 | .tup xs=>hash_tup (hash_oks xs)
theorem hash_oks:∀ ks:List TK,∀ k∈ks,HashOk prog w k
 | [],k,h=>by simp at h
 | x::xs,k,h=>by
  by_cases e:k=x
  ·rw [e];exact hash_ok x
  ·exact hash_oks xs k ((List.mem_cons.mp h).resolve_left e)
end
end
theorem IsTK.inj {h:Heap}:∀ {k k':TK} {v:Value},IsTK h k v->IsTK h k' v->k=k':=fun h0=>h0.rec (motive_1:=fun k v _=>∀ k',IsTK h k' v->k=k') (motive_2:=fun k v _=>∀ k',IsTKs h k' v->k=k')
  (fun k' g=>by cases g;rfl) (fun _ _ k' g=>by cases g;rfl)
  (fun e1 c1 d1 t1 ih k' g=>by
   cases g with
   | tup e2 c2 d2 t2=>
    rw [e1] at e2;cases e2
    rw [d1] at d2;cases d2
    rw [ih _ t2])
  (fun k' g=>by cases g;rfl) (fun _ _ a b k' g=>by cases g with | cons r' t'=>rw [a _ r',b _ t']) _
theorem IsTK.keeps {h h':Heap}{d:Addr}{o:Obj}{es ep}(ho:h.get? d=some o)(hd:o.data = .dict es ep)(hs:Heap.SameBut d h h'):∀ {k:TK} {v:Value},IsTK h k v->IsTK h' k v:=fun h0=>h0.rec (motive_1:=fun k v _=>IsTK h' k v) (motive_2:=fun k v _=>IsTKs h' k v) .non .int
  (fun {a} _ _ _ _ e1 c1 d1 _ ih=>.tup ((hs.2 a (fun z=>by subst z;rw [e1] at ho;cases ho;rw [d1] at hd;cases hd)).trans e1) c1 d1 ih) .nil (fun _ _ a b=>.cons a b)
theorem IsTKs.at {h:Heap}:∀ {ks:List TK} {vs:List Value} (j:Nat) (h1:j<ks.length) (h2:j<vs.length),IsTKs h ks vs->IsTK h ks[j] vs[j]
 | _::_,_::_,0,_,_,.cons r _=>r
 | _::ks,_::vs,j+1,h1,h2,.cons _ t=>IsTKs.at j (by simpa using h1) (by simpa using h2) t
theorem all_same {xs ys:List TK}(hl:xs.length=ys.length):((List.range (min xs.length ys.length)).all fun j=>decide (xs[j]? = ys[j]?))=decide (xs=ys):=by
 by_cases h:xs=ys
 ·subst h
  simp
 ·rw [decide_eq_false h,List.all_eq_false]
  have:∃ j,xs[j]? ≠ ys[j]?:=Classical.byContradiction fun z=>h (List.ext_getElem? fun j=>Classical.byContradiction fun q=>z ⟨j,q⟩)
  obtain ⟨j,hj⟩:=this
  refine ⟨j,?_,by simpa using hj⟩
  rw [List.mem_range,hl,Nat.min_self]
  apply Classical.byContradiction
  intro hn
  exact hj (by rw [List.getElem?_eq_none (by lia),List.getElem?_eq_none (by lia)])
theorem eq_tk:∀ (n:Nat) {k k':TK} {A:Around} {s:Shared} {u v:Value},k.dep<=n->A.units+n<cLine->IsTK s.heap k u->IsTK s.heap k' v->SeqAt.EqAt A s u v (decide (k=k')):=by
 intro n
 induction n with
 | zero=>
  intro k k' A s u v hd hu r r'
  cases r with
  | tup _ _ _ _=>simp [TK.dep] at hd
  | non=>
   cases r' with
   | non=>simpa using SeqAt.EqAt.same (A:=A) (s:=s) Value.none
   | int i t=>simpa [eqV] using eqAt_V (A:=A) (s:=s) (y:=.non) (x:=.int i) rfl ⟨t,rfl⟩ rfl rfl
   | tup e c d t=>simpa using (rc_seq_none (A:=A) (s:=s) (b:=false) (v:=.non) (u:=.none) ⟨_,e,c,_,d⟩ rfl rfl (by lia)).2.1
  | int i t=>
   cases r' with
   | non=>simpa [eqV] using eqAt_V (A:=A) (s:=s) (y:=.int i) (x:=.non) ⟨t,rfl⟩ rfl rfl rfl
   | int j t'=>
    have:=eqAt_V (A:=A) (s:=s) (y:=.int i) (x:=.int j) ⟨t,rfl⟩ ⟨t',rfl⟩ rfl rfl
    have e:eqV (.int i) (.int j)=decide (TK.int i=TK.int j):=by
     by_cases h:i=j
     ·subst h;simp [eqV]
     ·rw [decide_eq_false (fun z=>h (by injection z))];simp [eqV,h]
    rw [e] at this;exact this
   | tup e c d q=>simpa using (rc_seq_none (A:=A) (s:=s) (b:=false) (v:=.int i) (u:=.int i t) ⟨_,e,c,_,d⟩ ⟨t,rfl⟩ rfl (by lia)).2.1
 | succ n ih=>
  intro k k' A s u v hd hu r r'
  cases r with
  | non=>
   cases r' with
   | non=>simpa using SeqAt.EqAt.same (A:=A) (s:=s) Value.none
   | int i t=>simpa [eqV] using eqAt_V (A:=A) (s:=s) (y:=.non) (x:=.int i) rfl ⟨t,rfl⟩ rfl rfl
   | tup e c d t=>simpa using (rc_seq_none (A:=A) (s:=s) (b:=false) (v:=.non) (u:=.none) ⟨_,e,c,_,d⟩ rfl rfl (by lia)).2.1
  | int i t=>
   cases r' with
   | non=>simpa [eqV] using eqAt_V (A:=A) (s:=s) (y:=.int i) (x:=.non) ⟨t,rfl⟩ rfl rfl rfl
   | int j t'=>
    have:=eqAt_V (A:=A) (s:=s) (y:=.int i) (x:=.int j) ⟨t,rfl⟩ ⟨t',rfl⟩ rfl rfl
    have e:eqV (.int i) (.int j)=decide (TK.int i=TK.int j):=by
     by_cases h:i=j
     ·subst h;simp [eqV]
     ·rw [decide_eq_false (fun z=>h (by injection z))];simp [eqV,h]
    rw [e] at this;exact this
   | tup e c d q=>simpa using (rc_seq_none (A:=A) (s:=s) (b:=false) (v:=.int i) (u:=.int i t) ⟨_,e,c,_,d⟩ ⟨t,rfl⟩ rfl (by lia)).2.1
  | @tup a o items m xs e1 c1 d1 t1=>
   cases r' with
   | non=>simpa using (rc_seq_none (A:=A) (s:=s) (b:=false) (v:=.non) (u:=.none) ⟨_,e1,c1,_,d1⟩ rfl rfl (by lia)).1
   | int i t=>simpa using (rc_seq_none (A:=A) (s:=s) (b:=false) (v:=.int i) (u:=.int i t) ⟨_,e1,c1,_,d1⟩ ⟨t,rfl⟩ rfl (by lia)).1
   | @tup a2 o2 items2 m2 ys e2 c2 d2 t2=>
    by_cases ha:a=a2
    ·subst ha
     have:TK.tup xs=TK.tup ys:=IsTK.inj (.tup e1 c1 d1 t1) (.tup e2 c2 d2 t2)
     rw [decide_eq_true this]
     exact .same _
    ·refine .of_refs ha ?_
     have l1:=t1.split
     have l2:=t2.split
     have rc:=SeqAt.RcAt.tuples (A:=A) (s:=s) (e:=fun j=>decide (xs[j]? = ys[j]?)) ⟨o,e1,c1,m,d1⟩ ⟨o2,e2,c2,m2,d2⟩ (by lia) (fun j h1 h2=>by
      have g1:j<xs.length:=by rw [l1];simpa using h1
      have g2:j<ys.length:=by rw [l2];simpa using h2
      rw [TK.dep] at hd
      have hm:=TK.dep_mem (List.getElem_mem g1)
      have q:=ih (k:=xs[j]) (k':=ys[j]) (A:=A.in1) (s:=s) (by lia) (by show A.units+1+n<cLine;lia) (t1.at j g1 (by simpa using h1)) (t2.at j g2 (by simpa using h2))
      have e:decide (xs[j]? = ys[j]?)=decide (xs[j]=ys[j]):=by
       rw [gG1 g1,gG1 g2];simp
      rw [e]
      simpa using q)
     have z1:items.size=xs.length:=by rw [l1];simp
     have z2:items2.size=ys.length:=by rw [l2];simp
     rw [z1,z2] at rc
     have fin:((List.range (min xs.length ys.length)).all (fun j=>decide (xs[j]? = ys[j]?))&&xs.length == ys.length)=decide (TK.tup xs=TK.tup ys):=by
      by_cases hl:xs.length=ys.length
      ·rw [all_same hl,hl,beq_self_eq_true,Bool.and_true]
       by_cases h:xs=ys
       ·subst h;simp
       ·rw [decide_eq_false h,decide_eq_false (fun z=>h (by injection z))]
      ·have hb:(xs.length == ys.length)=false:=by simpa using hl
       rw [hb,Bool.and_false,decide_eq_false (fun z=>hl (by injection z with z;rw [z]))]
     rw [fin] at rc
     exact rc
theorem quiet_tk {prog:Program}{w:World}:∀ (n:Nat) {k:TK} {A:Around} {E:Value->Shared->Prop} {s:Shared} {v:Value} {Q:Bool->Shared->Prop},k.dep<=n->IsTK s.heap k v->Q true s->wpAny (model prog w) A (eqIsQuiet n v) Q E s:=by
 intro n
 induction n with
 | zero=>
  intro k A E s v Q hd r h
  cases r with
  | non=>rw [eqIsQuiet_byValue 0 rfl];exact wP1 h
  | int i t=>rw [eqIsQuiet_byValue 0 rfl];exact wP1 h
  | tup _ _ _ _=>simp [TK.dep] at hd
 | succ n ih=>
  intro k A E s v Q hd r h
  cases r with
  | non=>rw [eqIsQuiet_byValue _ rfl];exact wP1 h
  | int i t=>rw [eqIsQuiet_byValue _ rfl];exact wP1 h
  | @tup a o items m xs e1 c1 d1 t1=>
   have hT:s.TypeIs (.ref a) "tuple":=⟨o,e1,c1⟩
   rw [TK.dep] at hd
   unfold eqIsQuiet
   refine wB1 (wpAny_specialOf hT F.slot_tuple_eq.lookup ?_)
   show wpAny _ _ (isInstance (.ref a) (.type "tuple") >>= _) _ _ s
   refine wB1 (wpAny_isInstance hT isSubtype_tuple_tuple ?_)
   simp only [Bool.not_true,bF1,if_false]
   refine wB1 (wpAny_seqItems e1 d1 ?_)
   refine wB1 ?_
   show wpAny _ _ (forIn items _ _) _ _ s
   rw [<- Array.forIn_toList]
   refine wpAny_forIn_list _ (fun rest r s'=>r.1=none/\s'=s /\ ∃ ks,IsTKs s.heap ks rest/\TK.depAll ks<=n) _ ?_ ?_ _ _ ⟨rfl,rfl,xs,t1,by lia⟩
   ·rintro v rest r s' ⟨hr,rfl,ks,hk,hn⟩
    cases hk with
    | @cons k1 _ ks1 _ q1 q2=>
     rw [TK.depAll] at hn
     refine wB1 (ih (k:=k1) (by lia) q1 ?_)
     simp only [Bool.not_true,bF1,if_false]
     exact wP1 ⟨rfl,rfl,ks1,q2,by lia⟩
   ·rintro ⟨r1,r2⟩ s' ⟨hr,rfl,_⟩
    simp only at hr
    subst hr
    exact wP1 h
noncomputable def tkKind (prog:Program)(w:World):HeapKind prog w TK where
 is:=fun h k a=>IsTK h k (.ref a)/\k.dep<=8
 hash:=TK.hash
 draws:=TK.draws
 room:=fun A=>A.units+8<cLine
 inj:=fun hx hy=>hx.1.inj hy.1
 keeps:=fun x ho hd hs=>⟨x.1.keeps ho hd hs,x.2⟩
 pyHash:=fun hu hk h=>hash_ok _ (by have:=hk.2;omega) hk.1 h
 eqBool:=fun hu hx hy h=>eq_tk 8 hx.2 hu hx.1 hy.1 _ _ _ _ h
 quiet:=fun hk h=>quiet_tk 8 hk.2 hk.1 h
noncomputable def gExt:G2:=fun o v S=>match o,v with
 | .ref n,.ref b=>match S[n]?,S[b]? with
  | some (.lst xs),some (.lst ys)=>if xs.length+ys.length<=sizeLine then some (.non,S.set n (.lst (xs++ys))) else none
  | _,_=>none
 | _,_=>none
noncomputable def insN (n:Nat)(k:Int):Nat:=if k<0 then (k+(n:Int)).toNat else min k.toNat n
noncomputable def gIns:G3:=fun o i v S=>match o,i with
 | .ref n,.int k=>match S[n]? with
  | some (.lst xs)=>if-(2^63)<=k/\k<2^63/\xs.length<sizeLine then some (.non,S.set n (.lst (xs.take (insN xs.length k)++v::xs.drop (insN xs.length k)))) else none
  | _=>none
 | _,_=>none
noncomputable def eqsL (f:D->D->Option Bool)(x:D):List D->Option (List Bool)
 | []=>some []
 | y::ys=>(f y x).bind fun b=>(eqsL f x ys).map (b :: ·)
noncomputable def gIdx:G2:=fun o x S=>match o with
 | .ref n=>match S[n]? with
  | some (.lst ys)=>(eqsL (eqN S deepMost) x ys).bind fun bs=>if bs.length<2^62 then (bs.findIdx? id).map fun j=>(.int (j:Nat),S) else none
  | _=>none
 | _=>none
theorem eqsL_at (f:D->D->Option Bool)(x:D):∀ {ys:List D} {bs:List Bool},eqsL f x ys=some bs->bs.length=ys.length /\ ∀ (j:Nat) (y:D) (k:Bool),ys[j]? = some y->bs[j]? = some k->f y x=some k
 | [],bs,h=>by cases h;exact ⟨rfl,fun j y k h=>by simp at h⟩
 | y::ys,bs,h=>by
  rw [eqsL] at h
  obtain ⟨b,eb,h⟩:=oB1.mp h
  obtain ⟨bt,et,h⟩:=oM1.mp h
  obtain ⟨l1,a1⟩:=eqsL_at f x et
  subst h
  refine ⟨by simp [l1],fun j=>?_⟩
  cases j with
  | zero=>intro y' k h1 h2;simp at h1 h2;subst h1;subst h2;exact eb
  | succ j=>intro y' k h1 h2;exact a1 j y' k (by simpa using h1) (by simpa using h2)
section
open PySem.MeetsSeq PySem.MeetsSeq2 PySem.MeetsSeq3 PySem.SeqRoads2
theorem idx_loop {l:Addr}{its:Array Value}{n:Nat}{x:Value}{e:Nat->Bool}{top:Int}{j:Nat}(hj:j<its.size)(ht:(j:Int)<top)(hit:e j=true):∀ (k i:Nat),i+k=j->(∀ m,i<=m->m<j->e m=false) ->
  Meets (Builtin.«list.index.loop» ⟨[.ref l,x,rawInt i,rawInt top],[]⟩)
   (fun A R s=>s.heap.get? l=some {cls:=.type "list",data:=.seq its n}/\(∀ m (h:m<its.size),SeqAt.EqAt A.in1 s its[m] x (e m))/\R (.ok (.ret (.int j s.toks))) {s with toks:=s.toks+1})
 | 0,i,hk,hno,prog,w,A,R,⟨hp,g,d,tk,os⟩,⟨hl,he,h⟩=>by
  have ei:i=j:=by lia
  subst ei
  wp_walk using AutoSeq1.wpAny_loadPart' hl
  rw [show (if (i:Int)<top then its[((i:Nat):Int).toNat]? else none)=some its[i] by simp [ht,hj]]
  refine wB1 (he i hj prog w _ _ ?_)
  rw [hit]
  wp_walk
  exact h
 | k+1,i,hk,hno,prog,w,A,R,⟨hp,g,d,tk,os⟩,⟨hl,he,h⟩=>by
  have h1:i<its.size:=by lia
  have h2:(i:Int)<top:=by lia
  wp_walk using AutoSeq1.wpAny_loadPart' hl
  rw [show (if (i:Int)<top then its[((i:Nat):Int).toNat]? else none)=some its[i] by simp [h1,h2]]
  refine wB1 (he i h1 prog w _ _ ?_)
  rw [hno i (nR1 i) (by lia)]
  wp_walk
  rw [show ((i:Int)+1)=((i+1:Nat):Int) by push_cast;rfl]
  have z:=idx_loop (l:=l) (n:=n) (x:=x) hj ht hit k (i+1) (by lia) (fun m a b=>hno m (by lia) b) prog w A R _ ⟨hl,he,h⟩
  exact ⟨plainId_quiet plain_index_loop _,wD1 entry_index_loop (by rw [Around.under_plainId plain_index_loop _];exact z)⟩
theorem idx_list {l:Addr}{its:Array Value}{n:Nat}{x:Value}{e:Nat->Bool}{j:Nat}(hj:j<its.size)(ht:(j:Int)<2^63-1)(hit:e j=true)(hno:∀ m,m<j->e m=false):
  Meets (Builtin.«list.index» ⟨[.ref l,x],[]⟩)
   (fun A R s=>s.heap.get? l=some {cls:=.type "list",data:=.seq its n}/\(∀ m (h:m<its.size),SeqAt.EqAt A.in1 s its[m] x (e m))/\R (.ok (.ret (.int j s.toks))) {s with toks:=s.toks+1}):=by
 intro prog w A R ⟨hp,g,d,tk,os⟩ ⟨hl,he,h⟩
 wp_walk using AutoSeq1.wpAny_loadPart' hl
 rw [show ((fun i:Int=>if i<0 then max 0 (i+(its.size:Int)) else i) ((none:Option Int).getD 0))=((0:Nat):Int) by simp,show ((fun i:Int=>if i<0 then max 0 (i+(its.size:Int)) else i) ((none:Option Int).getD (2^63-1)))=2^63-1 by simp]
 have z:=idx_loop (l:=l) (n:=n) (x:=x) hj ht hit j 0 (by lia) (fun m _ b=>hno m b) prog w A R _ ⟨hl,he,h⟩
 exact ⟨plainId_quiet plain_index_loop _,wD1 entry_index_loop (by rw [Around.under_plainId plain_index_loop _];exact z)⟩
end
section
variable {X:Cx}
theorem t_ext:MtR X "list.extend" (fun x xs H Q=>rN X.K (b2 gExt) (x::xs) H Q):=by
 intro pins s σ H x xs v us Q I rx rv h
 obtain ⟨x',y,mu,S,d,e,r',S',e0,r1,r2,hs,hm,hc⟩:=rn2l h
 cases e0
 unfold gExt at hm
 split at hm
 ·rename_i n b
  split at hm
  ·rename_i ys zs en eb
   split at hm
   ·rename_i hl
    cases hm
    cases r1 with
    | ref qn=>cases r2 with
     | ref qb=>
      obtain ⟨vs,ev,t⟩:=hs.lst en qn
      obtain ⟨ws,ew,t2⟩:=hs.lst eb qb
      refine mt_extend pins s σ H _ _ v us Q I rx rv ⟨_,_,vs,ws,rfl,rfl,ev,ew,by rw [<- t.length,<- t2.length];exact hl,?_⟩
      exact hc _ _ mu (Ext.put ev trivial (gM1 qn)) .non (hs.putL (t.append t2) qn ev)
   ·cases hm
  ·cases hm
 ·cases hm
theorem t_idx (hu:X.A.units+64<cLine):MtR X "list.index" (fun x xs H Q=>rN X.K (b2 gIdx) (x::xs) H Q):=by
 intro pins s σ H x xs v us Q I rx rv h
 obtain ⟨x',y,mu,S,d,e,r',S',e0,r1,r2,hs,hm,hc⟩:=rn2l h
 cases e0
 unfold gIdx at hm
 split at hm
 ·rename_i n
  split at hm
  ·rename_i ys en
   obtain ⟨bs,eb,hm⟩:=oB1.mp hm
   split at hm
   ·rename_i hlen
    obtain ⟨j,ej,hm⟩:=oM1.mp hm
    cases hm
    cases r1 with
    | ref qn=>
     obtain ⟨vs,ev,t⟩:=hs.lst en qn
     cases rx
     obtain ⟨u,rfl,ru⟩:=rv.one
     obtain ⟨z,its,n',rvs,hl,e⟩:=I.lstM ev
     obtain ⟨l1,at1⟩:=eqsL_at _ _ eb
     have l2:=t.length
     have l3:=rvs.length
     rw [List.findIdx?_eq_some_iff_getElem] at ej
     obtain ⟨hj,hit,hno⟩:=ej
     have ats:∀ m (hm:m<its.toArray.size),SeqAt.EqAt X.A.in1 s its.toArray[m] u (bs[m]?.getD false):=fun m hm=>by
      have m1:m<its.length:=by simpa using hm
      obtain ⟨y',ey,q1⟩:=t.getV (i:=m) (v:=vs[m]'(by lia)) (gG1 (by lia))
      obtain ⟨w',ew,q2⟩:=rvs.get (i:=m) (x:=vs[m]'(by lia)) (gG1 (by lia))
      have m2:m<bs.length:=by lia
      have e3:its.toArray[m]=w':=by
       have:=gG1 m1
       rw [this] at ew
       simpa using ew
      rw [e3,gG1 m2]
      exact (eqN_at I hs deepMost (A:=X.A.in1) (by show X.A.units+1+60<cLine;lia) q1 r2 q2 ru (at1 m y' bs[m] ey (gG1 m2))).1
     refine call_meets F.slot_list_index ⟨_,e,rfl⟩ F.entry_list_index (F.args_list_index_2 _ _)
      (idx_list (n:=n') (e:=fun m=>bs[m]?.getD false) (j:=j) (by simp;lia) (by lia) ?_ ?_) ⟨e,ats,?_⟩
     ·simp only [gG1 hj,Option.getD_some];simpa using hit
     ·intro m hm
      have m2:m<bs.length:=by lia
      have:=hno m hm
      simp only [gG1 m2,Option.getD_some]
      simpa using this
     ·exact ⟨.int j,H,I.tok _,⟨_,rfl⟩,hc.now (.int _) hs⟩
   ·cases hm
  ·cases hm
 ·cases hm
end
mutual
noncomputable def kD:D->Option TK
 | .non=>some .non
 | .int i=>some (.int i)
 | .tup xs=>(kDs xs).map .tup
 | _=>none
noncomputable def kDs:List D->Option (List TK)
 | []=>some []
 | x::xs=>(kD x).bind fun k=>(kDs xs).map (k :: ·)
end
noncomputable def keyT:D->Option TK
 | .tup xs=>(kDs xs).bind fun ks=>if (TK.tup ks).dep<=8 then some (.tup ks) else none
 | _=>none
mutual
theorem kD_tk:∀ {d:D} {k:TK},kD d=some k->tkD k=d
 | .non,k,h=>by cases h;rfl
 | .int i,k,h=>by cases h;rfl
 | .tup xs,k,h=>by
  rw [kD] at h
  obtain ⟨ks,e,h⟩:=oM1.mp h
  subst h
  rw [tkD,kDs_tk e]
 | .bl _,k,h=>by simp [kD] at h
 | .str _,k,h=>by simp [kD] at h
 | .rol _,k,h=>by simp [kD] at h
 | .ref _,k,h=>by simp [kD] at h
theorem kDs_tk:∀ {ds:List D} {ks:List TK},kDs ds=some ks->tkDs ks=ds
 | [],ks,h=>by cases h;rfl
 | x::xs,ks,h=>by
  rw [kDs] at h
  obtain ⟨k,e1,h⟩:=oB1.mp h
  obtain ⟨t,e2,h⟩:=oM1.mp h
  subst h
  rw [tkDs,kD_tk e1,kDs_tk e2]
end
theorem keyT_tk {d:D}{k:TK}(h:keyT d=some k):tkD k=d/\k.dep<=8 /\ ∃ xs,k = .tup xs:=by
 cases d with
 | tup xs=>
  rw [keyT] at h
  obtain ⟨ks,e,h⟩:=oB1.mp h
  split at h
  ·rename_i hd
   cases h
   exact ⟨by rw [tkD,kDs_tk e],hd,ks,rfl⟩
  ·cases h
 | _=>cases h
section
variable {X:Cx} {pins:List (Addr×Obj)} {σ:L2.St} {H:Hp} {s:Shared} {mu:List Addr}
mutual
theorem tk_is (I:Inv X pins σ H s):∀ (k:TK) {v:V} {u:Value},Rep X.K H mu (tkD k) v->RelV v u->IsTK s.heap k u
 | .non,v,u,r,q=>by
  rw [tkD] at r;cases r;cases q;exact .non
 | .int i,v,u,r,q=>by
  rw [tkD] at r;cases r;obtain ⟨t,rfl⟩:=q;exact .int i t
 | .tup xs,v,u,r,q=>by
  rw [tkD] at r
  cases r with
  | tup h t=>
   cases q
   obtain ⟨its,rv,⟨o,e1,e2,n,e3⟩,_⟩:=I.tuple h
   exact .tup e1 e2 e3 (by simpa using tks_is I xs t rv)
theorem tks_is (I:Inv X pins σ H s):∀ (ks:List TK) {vs:List V} {us:List Value},Reps X.K H mu (tkDs ks) vs->Vals vs us->IsTKs s.heap ks us
 | [],vs,us,r,q=>by rw [tkDs] at r;cases r;cases q;exact .nil
 | k::ks,vs,us,r,q=>by
  rw [tkDs] at r
  cases r with
  | cons r t=>cases q with
   | cons q p=>exact .cons (tk_is I k r q) (tks_is I ks t p)
end
theorem paired_map {α β γ δ:Type}{F:α->β->Prop}{G:γ->δ->Prop}{f:α->γ}{g:β->δ}:∀ {l₁:List α} {l₂:List β},Paired F l₁ l₂->(∀ a b,F a b->G (f a) (g b))->Paired G (l₁.map f) (l₂.map g):=by
 intro a b h g
 induction h with
 | nil=>exact .nil
 | cons r t ih=>exact .cons (g _ _ r) ih
theorem paired_app {α β:Type}{F:α->β->Prop}:∀ {l₁ m₁:List α} {l₂ m₂:List β},Paired F l₁ l₂->Paired F m₁ m₂->Paired F (l₁++m₁) (l₂++m₂):=by
 intro a b c d h g
 induction h with
 | nil=>exact g
 | cons r t ih=>exact .cons r ih
theorem KT.length {K:Fg1}:∀ {ks:List (TK×D)} {ws:List (TK×Addr×Value)},KT K H mu ks ws->ks.length=ws.length:=fun h=>Paired.length h
theorem KT.mem {K:Fg1}:∀ {ks:List (TK×D)} {ws:List (TK×Addr×Value)},KT K H mu ks ws -> ∀ x∈ws,x.1.dep<=8/\Rep K H mu (tkD x.1) (.ref x.2.1):=by
 intro ks ws h0 x h
 induction h0 with
 | nil=>cases h
 | cons r t ih=>
  rcases List.mem_cons.mp h with e | e
  ·subst e;rw [<- r.1];exact ⟨r.2.1,r.2.2.1⟩
  ·exact ih e
theorem KT.look {K:Fg1}{k:TK}:∀ {ks:List (TK×D)} {ws:List (TK×Addr×Value)},KT K H mu ks ws ->
  (∀ d,lookD ks k=some d -> ∃ p v,atKey ws k=some p/\RelV v p.2/\Rep K H mu d v)/\(atKey ws k).isSome=(lookD ks k).isSome:=by
 intro ks ws h
 induction h with
 | nil=>exact ⟨fun d h=>by simp [lookD] at h,rfl⟩
 | @cons p q0 ks ws r t ih=>
  obtain ⟨k1,d1⟩:=p
  obtain ⟨k2,a2,v2⟩:=q0
  obtain ⟨z,d,q,v,rv,r⟩:=r
  dsimp only at z q rv r
  subst z
  obtain ⟨h1,h2⟩:=ih
  by_cases hk:k1=k
  ·subst hk
   refine ⟨fun d h=>?_,by simp [atKey,lookD]⟩
   have:d1=d:=by simpa [lookD] using h
   subst this
   exact ⟨(a2,v2),v,by simp [atKey],rv,r⟩
  ·have e1:lookD ((k1,d1)::ks) k=lookD ks k:=by simp [lookD,List.find?_cons,hk]
   have e2:atKey ((k1,a2,v2)::ws) k=atKey ws k:=by simp [atKey,List.find?_cons,hk]
   rw [e1,e2]
   exact ⟨h1,h2⟩
theorem KT.put {K:Fg1}{k:TK}{d:D}{v:V}{a:Addr}{u:Value}(hk:k.dep<=8)(qk:Rep K H mu (tkD k) (.ref a))(rv:RelV v u)(q:Rep K H mu d v){ks:List (TK×D)}{ws:List (TK×Addr×Value)}(h:KT K H mu ks ws):KT K H mu (putD ks k d) (storedH ws k a u):=by
 unfold putD storedH
 have e:(ks.any fun p=>decide (p.1=k))=(atKey ws k).isSome:=by
  rw [h.look.2]
  unfold lookD
  rw [Option.isSome_map,Bool.eq_iff_iff,List.find?_isSome,List.any_eq_true]
 rw [e]
 split
 ·clear e
  refine paired_map h fun p w ⟨z,d',k',v',rv',r'⟩=>?_
  unfold putAt
  by_cases hp:p.1=k
  ·rw [if_pos hp,if_pos (by rw [<- z];exact hp)]
   exact ⟨z,d',k',v,rv,q⟩
  ·rw [if_neg hp,if_neg (by rw [<- z];exact hp)]
   exact ⟨z,d',k',v',rv',r'⟩
 ·exact paired_app h (.cons ⟨rfl,hk,qk,v,rv,q⟩ .nil)
theorem dh_of (I:Inv X pins σ H s){a:Addr}{xs:List (TK×Addr×Value)}{kvs:List (TK×D)}(e:H a=some (.ext (DictAt a xs)))(h:KT X.K H mu kvs xs):(a == sysModules)=false/\s.heap.DictOfH (tkKind X.prog X.w) a xs:=by
 obtain ⟨⟨h1,h2,o,es,ep,h3,h4,h5,h6⟩,_⟩:=(show ObjOk X.prog X.w H s.heap a (.ext (DictAt a xs)) from I.hok a _ e)
 exact ⟨h1,o,es,ep,h3,h4,h5,h6,fun x hx=>⟨tk_is I _ (h.mem x hx).2 rfl,(h.mem x hx).1⟩,h2⟩
theorem ext_new {h:Heap}{a:Addr}{xs:List (TK×Addr×Value)}(hd:(a == sysModules)=false)(hm:h.DictOfH (tkKind X.prog X.w) a xs):ObjOk X.prog X.w H h a (.ext (DictAt a xs)):=by
 obtain ⟨o,es,ep,h3,h4,h5,h6,h7,h8⟩:=hm
 refine ⟨⟨hd,h8,o,es,ep,h3,h4,h5,h6⟩,⟨o,h3⟩,fun g1 g2 ⟨a1,a2,o',es',ep',b3,b4,b5,b6⟩ st=>⟨a1,a2,o',es',ep',st _ b3,b4,b5,b6⟩⟩
end
noncomputable def gInY:G2:=fun d e S=>match e with
 | .ref n=>match S[n]? with
  | some (.dcT kvs)=>(keyT d).map fun k=>(.bl (lookD kvs k).isSome,S)
  | _=>gInX d e S
 | _=>gInX d e S
noncomputable def gNotInY:G2:=fun d e S=>match e with
 | .ref n=>match S[n]? with
  | some (.dcT kvs)=>(keyT d).map fun k=>(.bl (!(lookD kvs k).isSome),S)
  | _=>gNotInX d e S
 | _=>gNotInX d e S
noncomputable def gIxY:G2:=fun d e S=>match d with
 | .ref n=>match S[n]? with
  | some (.dcT kvs)=>(keyT e).bind fun k=>(lookD kvs k).map fun x=>(x,S)
  | some (.dcF kvs)=>(keyT e).bind fun k=>(lookD kvs k).map fun x=>(x,S)
  | _=>gIxX d e S
 | _=>gIxX d e S
noncomputable def gSetY:G3:=fun o i v S=>match o with
 | .ref n=>match S[n]? with
  | some (.dcT kvs)=>(keyT i).bind fun k=>if kvs.length<sizeLine then some (.non,S.set n (.dcT (putD kvs k v))) else none
  | some (.dct [])=>match keyT i with
   | some k=>some (.non,S.set n (.dcT [(k,v)]))
   | none=>gSetX o i v S
  | _=>gSetX o i v S
 | _=>gSetX o i v S
section
variable {X:Cx}
theorem length_putD {κ:Type}[DecidableEq κ](kvs:List (κ×D))(k:κ)(d:D):(putD kvs k d).length<=kvs.length+1:=by
 unfold putD
 split
 ·rw [lM1];lia
 ·simp
theorem empty_of {h:Heap}{a:Addr}(dd:h.DictOf (mixKind X.prog X.w) a []):h.DictOfH (tkKind X.prog X.w) a []:=by
 obtain ⟨o,es,ep,h1,h2,h3,_,h4,_⟩:=dd
 have e:es.toList=[]:=by
  generalize es.toList=l at h4
  cases h4
  rfl
 exact ⟨o,es,ep,h1,h2,h3,e,(fun x hx=>by simp at hx),List.nodup_nil⟩
theorem room_of {A:Around}(hu:A.units+64<cLine):(tkKind X.prog X.w).room A.in1:=by
 show A.units+1+8<cLine
 lia
theorem key_at {pins:List (Addr×Obj)}{σ:L2.St}{H:Hp}{s:Shared}{mu:List Addr}(I:Inv X pins σ H s){d:D}{v:V}{u:Value}{k:TK}(r:Rep X.K H mu d v)(q:RelV v u)(h:keyT d=some k):
  ∃ a,u = .ref a/\v = .ref a/\Rep X.K H mu (tkD k) (.ref a)/\k.dep<=8/\(tkKind X.prog X.w).is s.heap k a:=by
 obtain ⟨e,hd,xs,ex⟩:=keyT_tk h
 subst e
 have is:=tk_is I k r q
 subst ex
 cases id is with
 | @tup a _ _ _ _ _ _ _ _=>
  rw [tkD] at r
  cases r with
  | tup h1 h2=>
   cases q
   exact ⟨a,rfl,rfl,by rw [tkD];exact .tup h1 h2,hd,is,hd⟩
theorem o_notInY (hu:X.A.units+64<cLine):OpR X (compareOp .NotIn) (r2 X.K (b2 gNotInY)):=by
 intro pins s σ H x y u w Q I rx ry h
 obtain ⟨mu,S,d,e,r,S',r1,r2',hs,hm,hc⟩:=rn2 h
 have back:gNotInX d e S=some (r,S')->wpAny (model X.prog X.w) X.A (compareOp .NotIn u w) (EP X pins σ Q) X.xe s:=fun hm=>o_notInX hu pins s σ H x y u w Q I rx ry ⟨mu,S,[d,e],r,S',.cons r1 (.cons r2' .nil),hs,hm,hc⟩
 unfold gNotInY at hm
 split at hm
 ·rename_i n
  split at hm
  ·rename_i kvs en
   obtain ⟨k,ek,hm⟩:=oM1.mp hm
   cases hm
   cases r2' with
   | ref hn=>
    cases ry
    obtain ⟨xs,hx,hk,_⟩:=hs.dcT en hn
    obtain ⟨hd,dd⟩:=dh_of I hx hk
    obtain ⟨a,rfl,rfl,_,_,hi⟩:=key_at I r1 rx ek
    refine wpAny_notIn_heap (room_of hu) hi hd dd ?_
    exact ⟨.bl (!(atKey xs k).isSome),H,I.tok _,rfl,by rw [hk.look.2];exact hc.now (.bl _) hs⟩
  ·exact back hm
 ·exact back hm
theorem dh_frz {pins:List (Addr×Obj)}{σ:L2.St}{H:Hp}{s:Shared}{mu:List Addr}(I:Inv X pins σ H s){a:Addr}{xs:List (TK×Addr×Value)}{kvs:List (TK×D)}(e:∃ o u,H a=some (.frz o u)/\DictO a xs o)(h:KT X.K H mu kvs xs):(a == sysModules)=false/\s.heap.DictOfH (tkKind X.prog X.w) a xs:=by
 obtain ⟨o,u,e,h1,h2,h4,es,ep,h5,h6⟩:=e
 obtain ⟨h3,_⟩:=(show ObjOk X.prog X.w H s.heap a (.frz o u) from I.hok a _ e)
 exact ⟨h1,o,es,ep,h3,h4,h5,h6,fun x hx=>⟨tk_is I _ (h.mem x hx).2 rfl,(h.mem x hx).1⟩,h2⟩
theorem qP (hu:X.A.units+64<cLine):IxR X (r2 X.K (b2 gIxY)):=by
 intro value slice pins s σ H x y v u Q I rx ry h hs2
 obtain ⟨mu,S,d,e,r,S',r1,r2',hs,hm,hc⟩:=rn2 h
 have back:gIxX d e S=some (r,S')->wpAny (model X.prog X.w) X.A (subscriptTail value slice v u) (EP X pins σ Q) X.xe s:=fun hm=>x_ixX hu value slice pins s σ H x y v u Q I rx ry ⟨mu,S,[d,e],r,S',.cons r1 (.cons r2' .nil),hs,hm,hc⟩ hs2
 have main:∀ kvs a xs,v = .ref a->KT X.K H mu kvs xs->s.heap.DictOfH (tkKind X.prog X.w) a xs->((keyT e).bind fun k=>(lookD kvs k).map fun x=>(x,S))=some (r,S')->wpAny (model X.prog X.w) X.A (subscriptTail value slice v u) (EP X pins σ Q) X.xe s:=fun kvs a xs ev hk dd hm=>by
  obtain ⟨k,ek,hm⟩:=oB1.mp hm
  obtain ⟨z,ez,hm⟩:=oM1.mp hm
  cases hm
  subst ev
  obtain ⟨b,rfl,rfl,_,_,hi⟩:=key_at I r2' ry ek
  obtain ⟨p,v',ep,rv,rd⟩:=hk.look.1 _ ez
  have hT:=dd.typeIs
  unfold subscriptTail
  refine wB1 ?_
  rw [getitemInPython_of_ne hT.not_modules]
  refine wB1 (wpAny_specialOf hT PySem.F.slot_dict_getitem.lookup ?_)
  have fin:wpAny (model X.prog X.w) X.A (subscripted slice false (.ref a) (.ref b)) (fun r s₃=>wpAny (model X.prog X.w) X.A (letTemporaryGo value (.ref a) r >>= fun _=>pure r) (EP X pins σ Q) X.xe s₃) X.xe s:=by
   rw [hs2]
   exact wpAny_operating (wpAny_mono (wpAny_getItem_heap (room_of hu) hi dd ep (show EP X pins σ Q p.2 _ from ⟨v',H,I.tok _,rv,hc.now rd hs⟩)) (fun r s₃ h₃=>wB1 (wpAny_letTemporaryGo (wP1 h₃))) fun _ _ x=>x)
  first
   | exact wP1 (wB1 fin)
   | exact wB1 fin
   | exact fin
 unfold gIxY at hm
 split at hm
 ·rename_i n
  split at hm
  ·rename_i kvs en
   cases r1 with
   | @ref _ a hn=>
    cases rx
    obtain ⟨xs,hx,hk,_⟩:=hs.dcT en hn
    exact main kvs a xs rfl hk (dh_of I hx hk).2 hm
  ·rename_i kvs en
   cases r1 with
   | @ref _ a hn=>
    cases rx
    obtain ⟨xs,hx,hk,_⟩:=(show ObR X.K H mu a (.dcF kvs) from hs.ob n _ a en hn)
    exact main kvs a xs rfl hk (dh_frz I hx hk).2 hm
  ·exact back hm
 ·exact back hm
theorem s_setY (hu:X.A.units+64<cLine):PSet X (rU X.K (b3 gSetY)):=by
 intro pins s σ H o i v ov iv u Q I ro ri rv h
 obtain ⟨mu,S,ds,d,S',hr,hs,hm,hc⟩:=id h
 cases hr with
 | cons q1 t1=>cases t1 with
  | cons q2 t2=>cases t2 with
   | cons q3 t3=>
    cases t3
    rename_i d1 d2 d3
    dsimp only [b3] at hm
    have back:gSetX d1 d2 d3 S=some (d,S')->wpAny (model X.prog X.w) X.A (setItem ov iv u) (fun _ s'=>∃ H',Inv X pins σ H' s'/\Q H') X.xe s:=fun hm=>s_setX hu pins s σ H o i v ov iv u Q I ro ri rv ⟨mu,S,[d1,d2,d3],d,S',.cons q1 (.cons q2 (.cons q3 .nil)),hs,hm,hc⟩
    unfold gSetY at hm
    split at hm
    ·rename_i n
     split at hm
     ·rename_i kvs en
      obtain ⟨k,ek,hm⟩:=oB1.mp hm
      split at hm
      ·rename_i hl
       cases hm
       cases q1 with
       | @ref _ ad hn=>
        cases ro
        obtain ⟨xs,hx,hk,hz⟩:=hs.dcT en hn
        obtain ⟨hd,dd⟩:=dh_of I hx hk
        obtain ⟨b,rfl,rfl,rk,dk,hi⟩:=key_at I q2 ri ek
        refine wpAny_setItem_heap (hsz:=hz) (room_of hu) hi dd fun h' dd' hsame=>?_
        have hq:∃ q,h'.get? _=some q:=let ⟨q,_,_,hq,_⟩:=dd';⟨q,hq⟩
        have put:Ext mu mu H (upd H ad (.ext (DictAt ad (storedH xs k b u)))):=Ext.put hx trivial (gM1 hn)
        refine ⟨_,d_write I (by rw [hx];exact True.intro) hsame hq (ext_new hd dd'),hc _ mu put (hs.put hn hx trivial ⟨_,upd_same,((hk.put dk rk rv q3).ext put),?_⟩)⟩
        rw [<- (hk.put dk rk rv q3).length]
        have:=length_putD kvs k d3
        lia
      ·cases hm
     ·rename_i en
      split at hm
      ·rename_i k ek
       cases hm
       cases q1 with
       | @ref _ ad hn=>
        cases ro
        obtain ⟨ws,hw,hk⟩:=hs.dct en hn
        cases hk
        obtain ⟨z,hd,vs,rel,dd⟩:=dk_of I.hok hw
        cases rel
        obtain ⟨b,rfl,rfl,rk,dk,hi⟩:=key_at I q2 ri ek
        have dd2:s.heap.DictOfH (tkKind X.prog X.w) _ []:=empty_of dd
        refine wpAny_setItem_heap (hsz:=Nat.zero_le _) (room_of hu) hi dd2 fun h' dd' hsame=>?_
        have hq:∃ q,h'.get? _=some q:=let ⟨q,_,_,hq,_⟩:=dd';⟨q,hq⟩
        have put:Ext mu mu H (upd H ad (.ext (DictAt ad (storedH [] k b u)))):=Ext.put hw trivial (gM1 hn)
        exact ⟨_,d_write I (by rw [hw];exact True.intro) hsame hq (ext_new hd dd'),hc _ mu put (hs.put hn hw trivial ⟨_,upd_same,KT.ext put (.cons ⟨rfl,dk,rk,v,rv,q3⟩ .nil),(show 1<=sizeLine by decide)⟩)⟩
      ·exact back hm
     ·exact back hm
    ·exact back hm
end
noncomputable def tPar3 (i j k:Nat)(ta:TA):TS:=fun D σ H=>ta σ H fun vs H1=>∃ u v w,vs=[u,v,w]/\D.nx (((σ.set i (some u)).set j (some v)).set k (some w)) H1
theorem ps_par3 {X:Cx}{i j k:Nat}{x y z:Str}{es:List Expr}{ta:TA}{px py pz pt pos:Pos}{kt k2 pt2}(hc:X.calm=true)(hN:X.N.Nodup)(hi:X.N[i]? = some x)(hj:X.N[j]? = some y)(hk:X.N[k]? = some z)(hij:i≠j)(hik:i≠k)(hjk:j≠k)
  (hx:X.env.scope.names.lookup x=some .local) (hy:X.env.scope.names.lookup y=some .local) (hz:X.env.scope.names.lookup z=some .local) (ha:PA X es ta)
  (hw:swappedStores [.Tuple [.Name x px,.Name y py,.Name z pz] kt pt] (.Tuple es k2 pt2) X.env=pure (some [x,y,z]))
  (hs:swapsWithSole [.Tuple [.Name x px,.Name y py,.Name z pz] kt pt] (.Tuple es k2 pt2) pos.line X.env=pure false):
  PS X (.Assign [.Tuple [.Name x px,.Name y py,.Name z pz] kt pt] (.Tuple es k2 pt2) pos) (tPar3 i j k ta):=by
 intro pins s σ H D I h
 rw [exec_Assign_arm]
 refine wB1 (wpAny_standAt ?_)
 rw [hs]
 refine wB1 (wP1 ?_)
 rw [if_neg (by decide)]
 refine wB1 (Tuple_ (thn (ha _ pins s σ H _ I h) fun us s1 ⟨vs,H1,I1,r1,a,b,c,ev,fin⟩=>?_))
 subst ev
 obtain ⟨u1,u2,u3,rfl,ra,rb,rc⟩:∃ u1 u2 u3,us=[u1,u2,u3]/\RelV a u1/\RelV b u2/\RelV c u3:=by
  cases r1 with
  | cons p t=>cases t with
   | cons p' t=>cases t with
    | cons p'' t=>cases t;exact ⟨_,_,_,rfl,p,p',p''⟩
 refine wO1 ?_ (by show 3<=sizeLine;decide)
 have J:Inv X pins σ H1 {s1 with heap:=s1.heap.push {cls:=.type "tuple",data:=.seq [u1,u2,u3].toArray}}:=I1.kept (t':=s1.toks) fun b o e=>hP1 _ e
 rw [hw]
 refine wB1 (wP1 ?_)
 show wpAny (model X.prog X.w) X.A (do rule "assign.swapped-stores";let items<-unpackItems (.ref s1.heap.objs.size) 3 none;assignInOrder [fun v=>bindName X.env z v,fun v=>bindName X.env y v,fun v=>bindName X.env x v] items.reverse;pure Flow.next) _ _ _
 refine wB1 (wpAny_rule (wB1 (unpackItems_tuple (items:= #[u1,u2,u3]) (I.ok.hd hc) (IsTup.new s1.heap _) fun h' grow=>?_)))
 have J3:=J.kept (h':=h') (t':=s1.toks) fun b o e=>grow b o (nN1 (hL1 e)) e
 show wpAny _ _ (assignInOrder [fun v=>bindName X.env z v,fun v=>bindName X.env y v,fun v=>bindName X.env x v] [u3,u2,u1] >>= fun _=>pure Flow.next) _ _ _
 refine wB1 (assignInOrder_cons (wpAny_bindName (store_ok J3 hN hk (.inl hz) rc (fun s2 J4=>?_) (.inr hz))))
 refine assignInOrder_cons (wpAny_bindName (store_ok J4 hN hj (.inl hy) rb (fun s3 J5=>?_) (.inr hy)))
 refine assignInOrder_cons (wpAny_bindName (store_ok J5 hN hi (.inl hx) ra (fun s4 J6=>assignInOrder_nil (wP1 ?_)) (.inr hx)))
 rw [List.set_comm _ _ (Ne.symm hij),List.set_comm _ _ (Ne.symm hik),List.set_comm _ _ (Ne.symm hjk)] at J6
 exact ⟨_,H1,J6,fin⟩
theorem xms_par3 {X:Cx} (i j k:Nat) {x y z:Str} {es:List Expr} {m:FA} {px py pz pt pos:Pos} {kt k2 pt2} (hc:X.calm=true) (hN:X.N.Nodup) (hi:X.N[i]? = some x) (hj:X.N[j]? = some y) (hk:X.N[k]? = some z) (hij:i≠j) (hik:i≠k) (hjk:j≠k)
  (hx:X.env.scope.names.lookup x=some .local) (hy:X.env.scope.names.lookup y=some .local) (hz:X.env.scope.names.lookup z=some .local) (ha:XA X es m)
  (hw:swappedStores [.Tuple [.Name x px,.Name y py,.Name z pz] kt pt] (.Tuple es k2 pt2) X.env=pure (some [x,y,z]):=by rfl)
  (hs:swapsWithSole [.Tuple [.Name x px,.Name y py,.Name z pz] kt pt] (.Tuple es k2 pt2) pos.line X.env=pure false:=by rfl):
  XS X (.Assign [.Tuple [.Name x px,.Name y py,.Name z pz] kt pt] (.Tuple es k2 pt2) pos) (mAsg (mTup m) (gT 3 (gCs (gN i) (gCs (gN j) (gCs (gN k) gNl))))):=
 ⟨ps_imp (ps_par3 hc hN hi hj hk hij hik hjk hx hy hz ha.h hw hs) <| by
  rintro E σ H ⟨r,mu,S,f,r',S',he,hs,hm,hc⟩
  obtain ⟨⟨d,S1⟩,e1,hm⟩:=oB1.mp hm
  obtain ⟨⟨r2,S2⟩,e2,hm⟩:=oB1.mp hm
  cases hm
  obtain ⟨⟨ds,S3⟩,e3,e1⟩:=oB1.mp e1
  dsimp only at e1
  split at e1
  ·cases e1
   refine ⟨r,mu,S,ds,_,he,hs,e3,fun vs H1 mu1 x1 r1 s1=>?_⟩
   dsimp only at e2
   rw [gT] at e2
   split at e2
   ·cases r1 with
    | nil=>cases e2
    | cons q1 r1=>cases r1 with
     | nil=>cases e2
     | cons q2 r1=>cases r1 with
      | nil=>cases e2
      | cons q3 r1=>cases r1 with
       | nil=>
        cases e2
        exact ⟨_,_,_,rfl,hc _ H1 mu1 x1 ((((he.ext x1).set q1).set q2).set q3) s1⟩
       | cons _ _=>cases e2
   ·cases e2
  ·cases e1⟩
noncomputable def truD (S:Sto)(d:D):Option Bool:=match d with
 | .non=>some false
 | .bl b=>some b
 | .int i=>some (i != 0)
 | .str y=>if y.length<=sizeLine then some ((y.length:Int) != 0) else none
 | .ref n=>match S[n]? with
  | some (.dct kvs)=>some (!kvs.isEmpty)
  | _=>(seqOf S d).map fun p=> !p.2.isEmpty
 | _=>(seqOf S d).map fun p=> !p.2.isEmpty
noncomputable def mTr (m:FE):FT:=fun r S=>(m r S).bind fun p=>(truD p.2 p.1).map fun b=>(b,p.2)
section
variable {K:Fg1} {H:Hp} {mu:List Addr} {S:Sto}
theorem seq_tru {d:D}{v:V}{b:Bool}(r:Rep K H mu d v)(s:Sim K H mu S)(h:((seqOf S d).map fun p=> !p.2.isEmpty)=some b):TruV K v H b:=by
 obtain ⟨⟨k,xs⟩,e,h⟩:=oM1.mp h
 obtain ⟨a,vs,rfl,q,t⟩:=seqOf_at r s e
 have z:(!xs.isEmpty) = !vs.isEmpty:=by cases t<;>rfl
 dsimp only at h
 rw [z] at h
 cases k
 ·exact .inr (.inl ⟨vs,q,h.symm⟩)
 ·exact .inl ⟨vs,q,h.symm⟩
theorem tru_at {d:D}{v:V}{b:Bool}(r:Rep K H mu d v)(s:Sim K H mu S)(h:truD S d=some b):TruV K v H b:=by
 cases d with
 | non=>cases r;cases h;rfl
 | bl k=>cases r;cases h;rfl
 | int i=>cases r;cases h;rfl
 | str y=>
  rw [truD] at h
  split at h
  ·rename_i hl
   cases r;cases h;exact ⟨hl,rfl⟩
  ·cases h
 | tup xs=>exact seq_tru r s h
 | rol xs=>exact seq_tru r s h
 | ref n=>
  rw [truD] at h
  split at h
  ·rename_i kvs en
   cases h
   cases r with
   | ref hn=>
    obtain ⟨ws,hw,hk⟩:=s.dct en hn
    refine .inr (.inr ⟨ws,hw,?_⟩)
    cases hk<;>rfl
  ·exact seq_tru r s h
end
theorem xmt_tru {X:Cx}{x:Expr}{f:FE}(h:XE X x f)(he:∀ whole,isTrue x X.env whole=(do let v<-whole;standAt x.pos;holding [v] (truthy v)):=by intro _;rfl):XT X x (mTr f):=
 ⟨pt_imp (pt_truth h.h he) <| by
  rintro σ H Q ⟨r,mu,S,b,S',he,hs,hm,hc⟩
  obtain ⟨⟨d1,S1⟩,e1,hm⟩:=oB1.mp hm
  obtain ⟨b1,e2,hm⟩:=oM1.mp hm
  cases hm
  exact ⟨r,mu,S,_,_,he,hs,e1,fun v H1 mu1 x1 r1 s1=>⟨_,tru_at r1 s1 e2,hc H1 mu1 x1 s1⟩⟩⟩
section
variable {X:Cx} {pins:List (Addr×Obj)} {σ:L2.St} {H:Hp} {s:Shared} {mu:List Addr}
end
section
variable {X:Cx}
noncomputable def intsOf:List D->Option (List Int)
 | []=>some []
 | .int i::ds=>(intsOf ds).map fun is=>i::is
 | _=>none
noncomputable def ddI (ns:List Int):List Int:=ns.foldl step_dedup []
noncomputable def gSetOf:G1:=fun d S=>match seqOf S d with
 | some (true,xs)=>(intsOf xs).bind fun ns=>if ns.length+1<scanBound then some (.ref S.length,S++[.iset (ddI ns)]) else none
 | _=>none
noncomputable def gLenS:G1:=fun d S=>match d with
 | .ref n=>match S[n]? with
  | some (.iset xs)=>some (.int xs.length,S)
  | _=>gLen d S
 | _=>gLen d S
noncomputable def gMulL:G2:=fun d e S=>match d,e with
 | .ref n,.int k=>match S[n]? with
  | some (.lst xs)=>if-(2^63)<=k/\k<2^63/\xs.length*k.toNat<=sizeLine then some (.ref S.length,S++[.lst (List.replicate k.toNat xs).flatten]) else none
  | _=>none
 | _,_=>none
theorem Reps.rep {K:Fg1}{H:Hp}{mu:List Addr}{ds:List D}{vs:List V}(r:Reps K H mu ds vs):∀ k:Nat,Reps K H mu (List.replicate k ds).flatten (List.replicate k vs).flatten
 | 0=>.nil
 | k+1=>by rw [List.replicate_succ,List.replicate_succ,List.flatten_cons,List.flatten_cons];exact Reps.append r (Reps.rep r k)
theorem o_mulL:OpR X (binaryOp .Mult) (r2 X.K (b2 gMulL)):=by
 intro pins s σ H x y u w Q I rx ry h
 obtain ⟨mu,S,d,e,r,S',r1,r2,hs,hm,hc⟩:=rn2 h
 unfold gMulL at hm
 split at hm
 ·rename_i n k
  split at hm
  ·rename_i xs en
   split at hm
   ·rename_i hl
    cases hm
    cases r1 with
    | ref qn=>
     cases r2
     obtain ⟨vs,ev,t⟩:=hs.lst en qn
     refine op_rep pins s σ H _ _ u w Q I rx ry ⟨_,k,vs,rfl,rfl,ev,hl.1,hl.2.1,by rw [<- t.length];exact hl.2.2,fun p hp=>?_⟩
     exact hc _ _ (mu++[p]) (Ext.new_ hp) (.ref (new_at hs.len p)) (hs.newL (Reps.rep t k.toNat) hp)
   ·cases hm
  ·cases hm
 ·cases hm
end
@[elab_as_elim] theorem ln0 {P:List Value->Prop}{us:List Value}(l:us.length=0)(f:P []):P us:=by
 cases us with
 | nil=>exact f
 | cons _ _=>cases l
@[elab_as_elim] theorem ln1 {P:List Value->Prop}{us:List Value}(l:us.length=1)(f:∀ a,P [a]):P us:=by
 cases us with
 | nil=>cases l
 | cons a us=>exact ln0 (P:=fun us=>P (a::us)) (Nat.succ.inj l) (f a)
@[elab_as_elim] theorem ln2 {P:List Value->Prop}{us:List Value}(l:us.length=2)(f:∀ a b,P [a,b]):P us:=by
 cases us with
 | nil=>cases l
 | cons a us=>exact ln1 (P:=fun us=>P (a::us)) (Nat.succ.inj l) (f a)
@[elab_as_elim] theorem ln3 {P:List Value->Prop}{us:List Value}(l:us.length=3)(f:∀ a b c,P [a,b,c]):P us:=by
 cases us with
 | nil=>cases l
 | cons a us=>exact ln2 (P:=fun us=>P (a::us)) (Nat.succ.inj l) (f a)
@[elab_as_elim] theorem ln4 {P:List Value->Prop}{us:List Value}(l:us.length=4)(f:∀ a b c d,P [a,b,c,d]):P us:=by
 cases us with
 | nil=>cases l
 | cons a us=>exact ln3 (P:=fun us=>P (a::us)) (Nat.succ.inj l) (f a)
end Mi
end
section
namespace HT
open PySem PySem.Spec PyProof.Rows
variable {prog:Program} {w:World} {A:Around} {E:Value->Shared->Prop} {s:Shared}
end HT
namespace Mi
open PySem PySem.Spec PyProof.Rows L2
section
variable {X:Cx}
end
end Mi
end
section
namespace HT
open PySem PySem.Spec PyProof.Rows
section
variable {prog:Program} {w:World} {A:Around} {R:Result->Shared->Prop} {I ax L:Addr} {xs:Array Value}
end
section
variable {prog:Program} {w:World} {A:Around} {E:Value->Shared->Prop} {s:Shared}
end
end HT
namespace Mi
open PySem PySem.Spec PyProof.Rows L2
section
variable {X:Cx}
end
section
variable {X:Cx}
end
section
variable {elt tg iter tg2 iter2 tg3 iter3:Expr} {ifs ifs2 ifs3:List Expr} {scope:Scope} {pos:Pos}
end
section
variable {X:Cx}
end
noncomputable def intsD:List D->Option (List Int)
 | []=>some []
 | .int i::l=>(intsD l).map fun t=>i::t
 | _=>none
section
variable {X:Cx}
theorem ints_vals {K:Fg1}{H:Hp}{mu:List Addr}:∀ {ds:List D} {vs:List V} {us:List Value} {ns:List Int},Reps K H mu ds vs->Vals vs us->intsD ds=some ns->IntsAre us ns:=by
 intro ds
 induction ds with
 | nil=>intro vs us ns r v h;cases r;cases v;cases h;exact .nil
 | cons d ds ih=>
  intro vs us ns r v h
  cases r with
  | cons r1 t=>
   cases v with
   | cons q1 tt=>
    cases r1
    case int i=>
     obtain ⟨m,e,h⟩:=oM1.mp h
     subst h
     obtain ⟨tk,rfl⟩:=q1
     exact .cons i tk (ih t tt e)
    all_goals cases h
end
end Mi
namespace Mi
open PySem PySem.Spec PyProof.Rows L2
section
variable {X:Cx}
end
section
variable {X:Cx}
end
theorem unds_ints (n:Nat):∀ ns:List Int,D.unds n (ns.map D.int)=true
 | []=>rfl
 | _::ns=>by rw [mP1,D.unds,unds_ints n ns];rfl
theorem gc_same {n:Nat}{d:D}{S:Sto}(h:S.length=n):gc n (d,S)=(d,S):=by
 unfold gc
 split
 ·rw [show (d,S).2=S from rfl,<- h,List.take_length]
 ·rfl
theorem call_shut {n:Nat}{f:FN}{ds:List D}{S S1:Sto}{d:D}(h:f ds []=some (d,S1))(hn:ds.length=n)(hu:D.unds 0 ds=true)(hd:d.und 0=true):mCall n f ds S=some (d,S):=by
 unfold mCall callG
 rw [if_pos hn,if_pos hu,h,oP1,if_pos hd]
theorem call_new {n:Nat}{f:FN}{ds:List D}{S S1:Sto}{d:D}(h:f ds []=some (d,S1))(hn:ds.length=n)(hu:D.unds 0 ds=true)(hd:d.und 0=false):mCall n f ds S=some (d.sh S.length,S++S1.map (Ob.sh S.length)):=by
 unfold mCall callG
 rw [if_pos hn,if_pos hu,h,oP1,if_neg (by dsimp only;rw [hd];decide)]
theorem call_open {n:Nat}{f:FN}{ds:List D}{S S1:Sto}{d:D}(h:f ds S=some (d,S1))(hn:ds.length=n)(hu:D.unds 0 ds=false):mCall n f ds S=some (gc S.length (d,S1)):=by
 unfold mCall callG
 rw [if_pos hn,if_neg (by rw [hu];decide),h,oP1]
theorem call_same {n:Nat}{f:FN}{ds:List D}{S S1:Sto}{d:D}(h:f ds S=some (d,S1))(hn:ds.length=n)(hu:D.unds 0 ds=false)(hl:S1.length=S.length):mCall n f ds S=some (d,S1):=by
 rw [call_open h hn hu,gc_same hl]
theorem mulF1 {i j:Int}(h1: -(2^64)<i)(h2:i<2^64):mulFits i j=true:=by
 unfold mulFits;simp only [Bool.or_eq_true,bA1,decide_eq_true_eq];exact .inl (.inl ⟨h1,h2⟩)
theorem mulF2 {i j:Int}(h1: -(2^64)<j)(h2:j<2^64):mulFits i j=true:=by
 unfold mulFits;simp only [Bool.or_eq_true,bA1,decide_eq_true_eq];exact .inl (.inr ⟨h1,h2⟩)
theorem okC_one {S:Sto}{n:Nat}{xs:List D}(h:S[n]? = some (.lst xs)):okC S [(n,xs)]=true:=by
 rw [okC,h];simp [D.sames_refl,okC]
noncomputable def refs (n:Nat):Nat->List D
 | 0=>[]
 | k+1=>.ref n::refs (n+1) k
theorem loopF_fresh {g:FG}{t:FT}{e:FE}(P:Ev->Prop)(F:D->List D):∀ (items:List D) (r:Ev) (S:Sto),P r ->
  (∀ d∈items,∀ r S,P r -> ∃ r1,g d r S=some (r1,S)/\t r1 S=some (true,S)/\e r1 S=some (.ref S.length,S++[.lst (F d)])/\P r1) ->
  ∃ r',loopF [] g t (fEmit e) items r S=some (refs S.length items.length,r',S++items.map fun d=>.lst (F d))/\P r'
 | [],r,S,hp,_=>⟨r,by rw [loopF];simp [okC,refs],hp⟩
 | d::ds,r,S,hp,h=>by
  obtain ⟨r1,e1,e2,e3,p1⟩:=h d mS1 r S hp
  obtain ⟨r2,e4,p2⟩:=loopF_fresh P F ds r1 (S++[.lst (F d)]) p1 fun d hd=>h d (mC1 _ hd)
  refine ⟨r2,?_,p2⟩
  rw [lA1] at e4
  rw [loopF];simp [okC,e1,e2,fEmit,e3,refs]
  simp at e4
  simp [e4]
theorem unds_mem {n:Nat}:∀ {xs:List D} {x:D},D.unds n xs=true->x∈xs->x.und n=true
 | y::ys,x,h,hx=>by
  rw [D.unds,bA1] at h
  rcases List.mem_cons.mp hx with e | e
  ·rw [e];exact h.1
  ·exact unds_mem h.2 e
open Classical in
noncomputable def rkV (ws:List Value)(x:Value):Nat:=ws.findIdx fun y=>decide (y=x)
theorem rkV_at {ws:List Value}{x:Value}(h:x∈ws):ws[rkV ws x]? = some x:=by
 have hl:rkV ws x<ws.length:=List.findIdx_lt_length_of_exists ⟨x,h,by simp⟩
 rw [gG1 hl]
 have:=List.findIdx_getElem (w:=hl)
 have e:ws[rkV ws x]=x:=of_decide_eq_true this
 rw [e]
noncomputable def kR (ws:List Value)(xs:Array Keyed)(i:Nat):Nat:=(xs[i]?.map fun p=>rkV ws p.1).getD 0
structure SoC (prog:Program)(w:World)(A:Around)(s:Shared)(κ:SortKind)(ws:List Value)(a₀:Array Keyed):Prop where
 nd:ws.Nodup
 keys:(a₀.toList.map (·.1)).Perm ws
 lt:∀ (x y:Value) (i j:Nat),ws[i]? = some x->ws[j]? = some y->i≠j -> ∀ (E:Value->Shared->Prop) (Q:Bool->Shared->Prop),Q (decide (i<j)) s->wpAny (model prog w) A (keyLt' κ x y) Q E s
section
variable {prog:Program} {w:World} {A:Around} {E:Value->Shared->Prop} {s:Shared} {κ:SortKind} {ws:List Value} {a₀:Array Keyed}
theorem SoC.at_ (C:SoC prog w A s κ ws a₀){xs:Array Keyed}(p:xs.Perm a₀){i:Nat}(hi:i<a₀.size):∃ x q,xs[i]? = some (x,q)/\ws[kR ws xs i]? = some x:=by
 have hi':i<xs.size:=by rw [p.size_eq];exact hi
 refine ⟨xs[i].1,xs[i].2,aG1 hi',?_⟩
 have hm:xs[i]∈a₀.toList:=(Array.perm_iff_toList_perm.mp p).mem_iff.mp (by simp)
 have:=rkV_at (C.keys.mem_iff.mp (List.mem_map.mpr ⟨_,hm,rfl⟩))
 unfold kR
 rw [aG1 hi']
 exact this
end
section
variable {prog:Program} {w:World} {A:Around} {E:Value->Shared->Prop} {s:Shared}
end
section
variable {prog:Program} {w:World} {A:Around} {E:Value->Shared->Prop} {s:Shared}
end
section
variable {prog:Program} {w:World} {A:Around} {E:Value->Shared->Prop} {s:Shared}
end
section
variable {prog:Program} {w:World} {A:Around} {E:Value->Shared->Prop} {R:Result->Shared->Prop}
end
section
variable {prog:Program} {w:World} {A:Around} {E:Value->Shared->Prop} {s:Shared}
end
section
variable {X:Cx}
end
section
variable {X:Cx}
end
section
variable {prog:Program} {w:World} {A:Around} {E:Value->Shared->Prop} {s:Shared}
end
section
variable {prog:Program} {w:World} {A:Around} {E:Value->Shared->Prop} {R:Result->Shared->Prop}
end
section
variable {X:Cx}
theorem KT.keys {K:Fg1}{H:Hp}{mu:List Addr}:∀ {ks:List (TK×D)} {ws:List (TK×Addr×Value)},KT K H mu ks ws->Reps K H mu (ks.map fun p=>tkD p.1) (ws.map fun x=>V.ref x.2.1)
 | _,_,.nil=>.nil
 | _,_,.cons ⟨z,d,k,_⟩ t=>.cons k (KT.keys t)
end
section
variable {X:Cx}
end
section
variable {X:Cx} {pins:List (Addr×Obj)} {σ:L2.St} {H:Hp} {s:Shared} {a:Addr} {u v:HO}
end
section
variable {K:Fg1} {H H':Hp} {mu mu':List Addr} {S:Sto} {n:Nat} {a:Addr} {o:Obj} {u:HO}
end
noncomputable def Ris (xs:Array Nat):Prop:=xs.toList.Pairwise (· < ·)
theorem Ris.lt {xs:Array Nat}(h:Ris xs){a b u v:Nat}(hab:a<b)(ea:xs[a]? = some u)(eb:xs[b]? = some v):u<v:=by
 rw [<- aT1] at ea eb
 obtain ⟨la,ea⟩:=gE1.mp ea
 obtain ⟨lb,eb⟩:=gE1.mp eb
 have:=List.pairwise_iff_getElem.mp h a b la lb hab
 rw [ea,eb] at this
 exact this
structure TS (l:Bool)(t:SetTable):Prop where
 up:Ris t.place
 du:t.dummies = #[]
 ld:t.led=l
noncomputable def kOf (e:Int×Value):Int:=match e.2 with
 | .int k _=>k
 | _=>0
structure Els (es:Array (Int×Value))(ns:List Int):Prop where
 el:∀ e∈es.toList,∃ k t,e=(hashInt k,Value.int k t)
 pm:(es.toList.map kOf).Perm ns
theorem Els.size {es:Array (Int×Value)}{ns:List Int}(h:Els es ns):es.size=ns.length:=by
 have:=h.pm.length_eq
 rw [lM1,Array.length_toList] at this
 exact this
section
variable {P:Program} {w:World} {A:Around} {E:Value->Shared->Prop} {s:Shared} {b:Bool} {p:Addr} {ns:List Int}
end
section
variable {P:Program} {w:World} {A:Around} {E:Value->Shared->Prop} {s:Shared}
end
section
variable {P:Program} {w:World} {A:Around} {E:Value->Shared->Prop} {b:Bool}
end
section
variable {P:Program} {w:World} {A:Around} {E:Value->Shared->Prop} {s:Shared} {it a:Addr} {f:Value} {i ep:Nat} {es:Array (Int×Value)} {t:SetTable} {pl:List Value}
end
section
variable {P:Program} {w:World} {A:Around} {E:Value->Shared->Prop} {s:Shared} {it a:Addr} {f:Value} {i ep:Nat} {es:Array (Int×Value)} {t:SetTable} {pl:List Value}
end
section
variable {P:Program} {w:World} {A:Around} {E:Value->Shared->Prop}
end
section
variable {X:Cx}
end
section
variable {X:Cx} {pins:List (Addr×Obj)} {σ:L2.St} {H:Hp} {s:Shared} {a:Addr} {kvs:List (Key×V)} {k:Key} {v:V} {u r:Value} {A:Around} {E:Value->Shared->Prop}
end
section
variable {X:Cx}
end
open AutoSeq1 (wpAny_loadPart')
section
variable {prog:Program} {w:World} {A:Around} {E:Value->Shared->Prop} {s:Shared}
end
section
variable {X:Cx}
end
section
variable {P:Program} {w:World} {A:Around} {E:Value->Shared->Prop} {s:Shared}
end
section
variable {X:Cx}
end
section
variable {X:Cx} {a b:Expr} {rest:List Expr} {pos:Pos} {ta tb:TE} {f g:FE}
end
section
variable {X:Cx}
end
section
variable {P:Program} {w:World} {A:Around} {E:Value->Shared->Prop} {b:Bool}
end
section
variable {X:Cx}
end
theorem ints_items:∀ {us:List Value} {ns:List Int},IntsAre us ns -> ∃ xs:Array (Int×Tok),us.toArray=intItems xs/\xs.toList.map (·.1)=ns:=by
 intro us ns h
 induction h with
 | nil=>exact ⟨#[],by simp [intItems],rfl⟩
 | cons n t _ ih=>
  obtain ⟨xs,e1,e2⟩:=ih
  refine ⟨((n,t)::xs.toList).toArray,?_,by rw [mP1,e2]⟩
  have e3:=congrArg Array.toList e1
  unfold intItems at e3 ⊢
  rw [Array.toList_map] at e3
  rw [List.map_toArray,mP1]
  congr 1
  rw [<- e3]
noncomputable def maxI:List Int->Int
 | []=>0
 | [x]=>x
 | x::y::l=>let m:=maxI (y::l);if x<m then m else x
theorem maxI_ok:∀ {l:List Int},l≠[]->maxI l∈l /\ ∀ a∈l,a<=maxI l
 | [],h=>(h rfl).elim
 | [x],_=>⟨by simp [maxI],fun a h=>by simp at h;subst h;simp [maxI]⟩
 | x::y::l,_=>by
  obtain ⟨h1,h2⟩:=maxI_ok (l:=y::l) (by simp)
  rw [maxI]
  split
  ·refine ⟨mC1 _ h1,fun a ha=>?_⟩
   rcases List.mem_cons.mp ha with rfl | ha
   ·lia
   ·exact h2 a ha
  ·refine ⟨mS1,fun a ha=>?_⟩
   rcases List.mem_cons.mp ha with rfl | ha
   ·exact Int.le_refl _
   ·have:=h2 a ha;lia
theorem num_mem {xs:Array (Int×Tok)}{ns:List Int}(e:xs.toList.map (·.1)=ns){j:Nat}(hj:j<ns.length):numAt xs j∈ns:=by
 rw [numAt_eq,e,List.getD_eq_getElem?_getD,gG1 hj]
 exact List.getElem_mem hj
theorem mem_num {xs:Array (Int×Tok)}{ns:List Int}(e:xs.toList.map (·.1)=ns){a:Int}(h:a∈ns):∃ j,j<ns.length/\numAt xs j=a:=by
 obtain ⟨j,hj,rfl⟩:=List.getElem_of_mem h
 exact ⟨j,hj,by rw [numAt_eq,e,List.getD_eq_getElem?_getD,gG1 hj];rfl⟩
noncomputable def gMaxL:G1:=fun d S=>match seqOf S d with
 | some (true,xs)=>(intsD xs).bind fun ns=>if ns=[] then none else some (.int (maxI ns),S)
 | _=>none
section
variable {X:Cx}
theorem c_maxL (hcl:X.calm=true):CallR X (.builtin "max") (rN X.K (b1 gMaxL)):=by
 intro pins s σ H xs us Q I r h
 obtain ⟨x,mu,S,d,r',S',rfl,r1,hs,hm,hc⟩:=rn1 h
 unfold gMaxL at hm
 split at hm
 ·rename_i ds en
  obtain ⟨ns,e1,hm⟩:=oB1.mp hm
  split at hm
  ·cases hm
  ·rename_i hne
   cases hm
   obtain ⟨a,vs,rfl,q,t⟩:=seqOf_at r1 hs en
   obtain ⟨u,rfl,r2⟩:=vals1 r
   cases r2
   obtain ⟨its,rv,ht,hz⟩:=I.list q
   have hI:=ints_vals t rv e1
   obtain ⟨xs,e2,e3⟩:=ints_items hI
   have hlen:xs.size=ns.length:=by rw [<- Array.length_toList,<- e3,lM1]
   have hp:0<ns.length:=List.length_pos_iff.mpr hne
   refine max_intList (I.ok.hd hcl) (by rw [<- e2];exact ht.isList) (by lia) fun v h' tk hv keep=>?_
   obtain ⟨tk',rfl⟩:=intItems_at hv
   obtain ⟨g1,g2⟩:=argBest_gt (numAt xs) (xs.size-1)
   have em:numAt xs (argBest (fun i j=>decide (numAt xs i>numAt xs j)) (xs.size-1))=maxI ns:=by
    obtain ⟨m1,m2⟩:=maxI_ok hne
    obtain ⟨j,hj,ej⟩:=mem_num e3 m1
    have h1:=g2 j (by lia)
    have h2:=m2 _ (num_mem e3 (j:=argBest (fun i j=>decide (numAt xs i>numAt xs j)) (xs.size-1)) (by lia))
    rw [ej] at h1
    exact Int.le_antisymm h2 h1
   rw [em]
   exact ⟨.int (maxI ns),H,I.kept keep,⟨_,rfl⟩,hc.now (.int _) hs⟩
 ·cases hm
end
noncomputable def W {α:Type}(o:Option α)(Q:α->Prop):Prop:=∃ x,o=some x/\Q x
section
variable {α β:Type} {Q:α->Prop}
theorem W_some {x:α}:W (some x) Q↔Q x:=⟨fun ⟨_,e,h⟩=>(by cases e;exact h),fun h=>⟨x,rfl,h⟩⟩
theorem W_none:W (none:Option α) Q↔False:=⟨fun ⟨_,e,_⟩=>(by cases e),False.elim⟩
theorem W_bind {o:Option β}{f:β->Option α}:W (o.bind f) Q↔W o fun x=>W (f x) Q:=by
 cases o with
 | none=>exact ⟨fun ⟨_,e,_⟩=>(by cases e),fun ⟨_,e,_⟩=>(by cases e)⟩
 | some x=>exact ⟨fun h=>⟨x,rfl,h⟩,fun ⟨_,e,h⟩=>by cases e;exact h⟩
theorem W_map {o:Option β}{f:β->α}:W (o.map f) Q↔W o fun x=>Q (f x):=by
 cases o with
 | none=>exact ⟨fun ⟨_,e,_⟩=>(by cases e),fun ⟨_,e,_⟩=>(by cases e)⟩
 | some x=>exact ⟨fun ⟨_,e,h⟩=>(by cases e;exact ⟨x,rfl,h⟩),fun ⟨_,e,h⟩=>(by cases e;exact ⟨_,rfl,h⟩)⟩
theorem W_ite {c:Prop}[Decidable c]{a b:Option α}:W (if c then a else b) Q↔if c then W a Q else W b Q:=by split<;>exact Iff.rfl
theorem W.mono {o:Option α}{Q':α->Prop}(h:W o Q)(k:∀ x,Q x->Q' x):W o Q':=let ⟨x,e,q⟩:=h;⟨x,e,k x q⟩
theorem W.of {o:Option α}{x:α}(e:o=some x)(h:Q x):W o Q:=⟨x,e,h⟩
end
theorem seqW {a b:FS}{r:Ev}{S:Sto}{Q:Fl×Ev×Sto->Prop}(R:Ev->Sto->Prop)(h1:W (a r S) fun p=>p.1 = .nx/\R p.2.1 p.2.2)(h2:∀ r S,R r S->W (b r S) Q):W (mSeq a b r S) Q:=by
 obtain ⟨⟨f,r1,S1⟩,e,hf,hR⟩:=h1
 dsimp only at hf hR
 subst hf
 unfold mSeq
 rw [e]
 exact h2 r1 S1 hR
theorem fnW {n:Nat}{b:FS}{ds:List D}{S:Sto}{Q:D×Sto->Prop}(h:W (b (startD n ds) S) fun p=>match p.1 with
  | .rt d=>Q (d,p.2.2)
  | .nx=>Q (.non,p.2.2)
  | _=>False):W (fnB n b ds S) Q:=by
 obtain ⟨⟨f,r1,S1⟩,e,q⟩:=h
 unfold fnB
 rw [e]
 cases f with
 | rt d=>exact ⟨_,rfl,q⟩
 | nx=>exact ⟨_,rfl,q⟩
 | bk=>exact q.elim
 | ct=>exact q.elim
theorem callW {n:Nat}{f:FN}{ds:List D}{S:Sto}{Q:D×Sto->Prop}(hn:ds.length=n)(hu:D.unds 0 ds=false)(h:W (f ds S) fun p=>Q (gc S.length p)):W (mCall n f ds S) Q:=by
 obtain ⟨⟨d,S1⟩,e,q⟩:=h
 exact ⟨_,call_open e hn hu,q⟩
theorem callP {n:Nat}{f:FN}{ds:List D}{S:Sto}{Q:D×Sto->Prop}(hn:ds.length=n)(hu:D.unds 0 ds=true)(h:W (f ds []) fun p=>p.1.und 0=true/\Q (p.1,S)):W (mCall n f ds S) Q:=by
 obtain ⟨⟨d,S1⟩,e,q1,q2⟩:=h
 exact ⟨_,call_shut e hn hu q1,q2⟩
mutual
theorem und_mono {n:Nat}:∀ {d:D},d.und 0=true->d.und n=true
 | .non,_=>rfl
 | .bl _,_=>rfl
 | .int _,_=>rfl
 | .str _,_=>rfl
 | .tup xs,h=>by rw [D.und] at h ⊢;exact unds_mono h
 | .rol xs,h=>by rw [D.und] at h ⊢;exact unds_mono h
 | .ref k,h=>by simp [D.und] at h
theorem unds_mono {n:Nat}:∀ {ds:List D},D.unds 0 ds=true->D.unds n ds=true
 | [],_=>rfl
 | d::ds,h=>by
  rw [D.unds,bA1] at h ⊢
  exact ⟨und_mono h.1,unds_mono h.2⟩
end
theorem loopM_W {c:List (Nat×List D)}{g:FG}{b:FS}{Q:Fl×Ev×Sto->Prop}(I:Nat->Ev->Sto->Prop):∀ (items:List D) (k:Nat) (r:Ev) (S:Sto),I k r S ->
  (∀ i r S,I i r S->okC S c=true) ->
  (∀ i d,items[i]? = some d -> ∀ r S,I (k+i) r S->W (g d r S) fun p=>W (b p.1 p.2) fun q=>q.1 = .nx/\I (k+i+1) q.2.1 q.2.2) ->
  (∀ r S,I (k+items.length) r S->Q (.nx,r,S))->W (loopM c g b items r S) Q
 | [],k,r,S,hi,hok,_,hq=>by rw [loopM];dsimp only;rw [if_pos (hok _ _ _ hi),W_some];exact hq r S (by simpa using hi)
 | d::ds,k,r,S,hi,hok,hs,hq=>by
  rw [loopM];dsimp only;rw [if_pos (hok _ _ _ hi),W_bind]
  obtain ⟨p,e1,h1⟩:=hs 0 d rfl r S (by simpa using hi)
  refine ⟨p,e1,?_⟩
  dsimp only
  rw [W_bind]
  obtain ⟨⟨f,r1,S1⟩,e2,h2,h3⟩:=h1
  refine ⟨_,e2,?_⟩
  dsimp only at h2 h3 ⊢
  subst h2
  refine loopM_W I ds (k+1) r1 S1 (by simpa using h3) hok (fun i d' hd r S hI=>?_) fun r S hI=>hq r S (by rw [lC1,show k+(ds.length+1)=k+1+ds.length by lia];exact hI)
  have:=hs (i+1) d' (by simpa using hd) r S (by rw [show k+(i+1)=k+1+i by lia];exact hI)
  rw [show k+(i+1)+1=k+1+i+1 by lia] at this
  exact this
theorem loopF_W {c:List (Nat×List D)}{g:FG}{t:FT}{e:FE}{Q:List D×Ev×Sto->Prop}(I:Nat->List D->Ev->Sto->Prop):∀ (items:List D) (k:Nat) (acc:List D) (r:Ev) (S:Sto),I k acc r S ->
  (∀ i acc r S,I i acc r S->okC S c=true) ->
  (∀ i d,items[i]? = some d -> ∀ acc r S,I (k+i) acc r S->W (g d r S) fun p=>W (t p.1 p.2) fun b=>if b.1=true then W (e p.1 b.2) fun x=>I (k+i+1) (acc++[x.1]) p.1 x.2 else I (k+i+1) acc p.1 b.2) ->
  (∀ xs r S,I (k+items.length) (acc++xs) r S->Q (xs,r,S))->W (loopF c g t (fEmit e) items r S) Q
 | [],k,acc,r,S,hi,hok,_,hq=>by rw [loopF];dsimp only;rw [if_pos (hok _ _ _ _ hi),W_some];exact hq [] r S (by simpa using hi)
 | d::ds,k,acc,r,S,hi,hok,hs,hq=>by
  rw [loopF];dsimp only;rw [if_pos (hok _ _ _ _ hi),W_bind]
  obtain ⟨p,e1,h1⟩:=hs 0 d rfl acc r S (by simpa using hi)
  refine ⟨p,e1,?_⟩
  dsimp only
  rw [W_bind]
  obtain ⟨⟨b,S1⟩,e2,h2⟩:=h1
  refine ⟨_,e2,?_⟩
  have step:∀ i d',ds[i]? = some d' -> ∀ acc r S,I (k+1+i) acc r S->W (g d' r S) fun p=>W (t p.1 p.2) fun b=>if b.1=true then W (e p.1 b.2) fun x=>I (k+1+i+1) (acc++[x.1]) p.1 x.2 else I (k+1+i+1) acc p.1 b.2:=fun i d' hd acc r S hI=>by
   have:=hs (i+1) d' (by simpa using hd) acc r S (by rw [show k+(i+1)=k+1+i by lia];exact hI)
   rw [show k+(i+1)+1=k+1+i+1 by lia] at this
   exact this
  dsimp only at h2 ⊢
  cases b with
  | true=>
   rw [if_pos rfl] at h2 ⊢
   rw [W_bind,fEmit,W_map]
   obtain ⟨⟨x,S2⟩,e3,h3⟩:=h2
   refine ⟨_,e3,?_⟩
   dsimp only at h3 ⊢
   rw [W_map]
   refine loopF_W I ds (k+1) (acc++[x]) p.1 S2 (by simpa using h3) hok step fun xs r S hI=>?_
   refine hq _ r S ?_
   rw [lC1,show k+(ds.length+1)=k+1+ds.length by lia]
   simpa using hI
  | false=>
   rw [if_neg (by decide)] at h2 ⊢
   refine loopF_W I ds (k+1) acc p.1 S1 (by simpa using h2) hok step fun xs r S hI=>?_
   refine hq _ r S ?_
   rw [lC1,show k+(ds.length+1)=k+1+ds.length by lia]
   exact hI
theorem tru_bl {S:Sto}{b:Bool}:truD S (.bl b)=some b:=rfl
theorem tru_non {S:Sto}:truD S .non=some false:=rfl
theorem tru_int {S:Sto}{i:Int}:truD S (.int i)=some (i != 0):=rfl
theorem gEq_int {x y:Int}{S:Sto}:gEq (.int x) (.int y) S=some (.bl (x == y),S):=rfl
theorem gNe_int {x y:Int}{S:Sto}:gNe (.int x) (.int y) S=some (.bl (!(x == y)),S):=rfl
theorem gLt_int {x y:Int}{S:Sto}:gLt (.int x) (.int y) S=some (.bl (decide (x<y)),S):=rfl
theorem gEq_str {x y:Str}{S:Sto}:gEq (.str x) (.str y) S=some (.bl (x == y),S):=rfl
theorem gNe_str {x y:Str}{S:Sto}:gNe (.str x) (.str y) S=some (.bl (!(x == y)),S):=rfl
theorem ite_and' {c p:Prop}[Decidable c]:(if c then p else False)↔c/\p:=by split<;>simp [*]
noncomputable def bnd (j:Int):Bool:=decide (-(2^62)<=j)&&decide (j<2^62)
theorem bnd_nat {n:Nat}(h:n<2^60):bnd n=true:=by
 unfold bnd
 rw [bA1,decide_eq_true_eq,decide_eq_true_eq]
 lia
theorem bnd_of {j:Int}(h: -(2^60)<=j)(h':j<2^60):bnd j=true:=by
 unfold bnd
 rw [bA1,decide_eq_true_eq,decide_eq_true_eq]
 lia
noncomputable def rW1 (p:List D×Sto)(Q:Itm×Sto->Prop):Prop:=match p.1 with
 | [.int j]=>bnd j=true/\Q (⟨nums 0 j.toNat,[]⟩,p.2)
 | _=>False
noncomputable def rW2 (p:List D×Sto)(Q:Itm×Sto->Prop):Prop:=match p.1 with
 | [.int i,.int j]=>bnd i=true/\bnd j=true/\Q (⟨nums i (j-i).toNat,[]⟩,p.2)
 | _=>False
theorem W_iR1 {m:FA}{r:Ev}{S:Sto}{Q:Itm×Sto->Prop}:W (iR1 m r S) Q↔W (m r S) fun p=>rW1 p Q:=by
 unfold iR1
 rw [W_bind]
 constructor
 ·refine fun h=>h.mono fun p q=>?_
  unfold rW1
  split at q
  ·rename_i j e
   try rw [e]
   rw [W_ite] at q
   split at q
   ·rename_i hc
    exact ⟨by unfold bnd;rw [bA1,decide_eq_true_eq,decide_eq_true_eq];exact hc,W_some.mp q⟩
   ·exact (W_none.mp q).elim
  ·exact (W_none.mp q).elim
 ·refine fun h=>h.mono fun p q=>?_
  unfold rW1 at q
  split at q
  ·rename_i j e
   obtain ⟨q1,q2⟩:=q
   unfold bnd at q1
   rw [bA1,decide_eq_true_eq,decide_eq_true_eq] at q1
   try rw [e]
   try dsimp only
   rw [if_pos q1]
   exact W_some.mpr q2
  ·exact q.elim
theorem W_iR2 {m:FA}{r:Ev}{S:Sto}{Q:Itm×Sto->Prop}:W (iR2 m r S) Q↔W (m r S) fun p=>rW2 p Q:=by
 unfold iR2
 rw [W_bind]
 constructor
 ·refine fun h=>h.mono fun p q=>?_
  unfold rW2
  split at q
  ·rename_i i j e
   try rw [e]
   rw [W_ite] at q
   split at q
   ·rename_i hc
    refine ⟨?_,?_,W_some.mp q⟩
    ·unfold bnd;rw [bA1,decide_eq_true_eq,decide_eq_true_eq];exact ⟨hc.1,hc.2.1⟩
    ·unfold bnd;rw [bA1,decide_eq_true_eq,decide_eq_true_eq];exact hc.2.2
   ·exact (W_none.mp q).elim
  ·exact (W_none.mp q).elim
 ·refine fun h=>h.mono fun p q=>?_
  unfold rW2 at q
  split at q
  ·rename_i i j e
   obtain ⟨q1,q3,q2⟩:=q
   unfold bnd at q1 q3
   rw [bA1,decide_eq_true_eq,decide_eq_true_eq] at q1 q3
   try rw [e]
   try dsimp only
   rw [if_pos ⟨q1.1,q1.2,q3⟩]
   exact W_some.mpr q2
  ·exact q.elim
noncomputable def fits (n:Nat):Bool:=decide (n<=sizeLine)
theorem fits_le {n:Nat}(h:n<=100000):fits n=true:=by unfold fits;rw [decide_eq_true_eq];exact Nat.le_trans h (by decide)
theorem fits_iff {n:Nat}:fits n=true↔n<=sizeLine:=by unfold fits;rw [decide_eq_true_eq]
theorem ft0:fits 0=true:=fits_le (by decide)
theorem ft1:fits 1=true:=fits_le (by decide)
theorem ft2:fits 2=true:=fits_le (by decide)
theorem ft3:fits 3=true:=fits_le (by decide)
theorem ft4:fits 4=true:=fits_le (by decide)
theorem ft5:fits 5=true:=fits_le (by decide)
theorem ft6:fits 6=true:=fits_le (by decide)
theorem ft7:fits 7=true:=fits_le (by decide)
theorem ft8:fits 8=true:=fits_le (by decide)
theorem W_fits {α:Type}{n:Nat}{o:Option α}{Q:α->Prop}:W (if n<=sizeLine then o else none) Q↔fits n=true/\W o Q:=by
 rw [fits_iff,W_ite]
 split
 ·rename_i h;exact ⟨fun q=>⟨h,q⟩,fun q=>q.2⟩
 ·rename_i h;exact ⟨fun q=>(W_none.mp q).elim,fun q=>absurd q.1 h⟩
theorem W_mTup {a:FA}{r:Ev}{S:Sto}{Q:D×Sto->Prop}:W (mTup a r S) Q↔W (a r S) fun p=>fits p.1.length=true/\Q (.tup p.1,p.2):=by
 unfold mTup
 rw [W_bind]
 exact ⟨fun h=>h.mono fun p q=>(W_fits.mp q).imp_right W_some.mp,fun h=>h.mono fun p q=>W_fits.mpr (q.imp_right W_some.mpr)⟩
theorem W_mLst {a:FA}{r:Ev}{S:Sto}{Q:D×Sto->Prop}:W (mLst a r S) Q↔W (a r S) fun p=>fits p.1.length=true/\Q (.ref p.2.length,p.2++[.lst p.1]):=by
 unfold mLst
 rw [W_bind]
 exact ⟨fun h=>h.mono fun p q=>(W_fits.mp q).imp_right W_some.mp,fun h=>h.mono fun p q=>W_fits.mpr (q.imp_right W_some.mpr)⟩
theorem W_fComp {k:Nat}{keep:List Nat}{m:FI}{g:FG}{t:FT}{b:FV}{r:Ev}{S:Sto}{Q:D×Sto->Prop}:W (fComp k keep m g t b r S) Q↔W (m r S) fun p=>W (loopF p.1.chk g t b p.1.items (inEv k keep r) p.2) fun q=>fits q.1.length=true/\Q (.ref q.2.2.length,q.2.2++[.lst q.1]):=by
 unfold fComp
 rw [W_bind]
 refine ⟨fun h=>h.mono fun p q=>?_,fun h=>h.mono fun p q=>?_⟩
 ·rw [W_bind] at q
  exact q.mono fun z w=>(W_fits.mp w).imp_right W_some.mp
 ·rw [W_bind]
  exact q.mono fun z w=>W_fits.mpr (w.imp_right W_some.mpr)
theorem W_addT {xs ys:List D}{S:Sto}{Q:D×Sto->Prop}:W (gAdd (.tup xs) (.tup ys) S) Q↔fits (xs.length+ys.length)=true/\Q (.tup (xs++ys),S):=
 ⟨fun q=>(W_fits.mp q).imp_right W_some.mp,fun q=>W_fits.mpr (q.imp_right W_some.mpr)⟩
theorem W_addI {x y:Int}{S:Sto}{Q:D×Sto->Prop}:W (gAdd (.int x) (.int y) S) Q↔Q (.int (x+y),S):=W_some
theorem W_app {n:Nat}{v:D}{xs:List D}{S:Sto}{Q:D×Sto->Prop}(h:S[n]? = some (.lst xs)):W (gApp (.ref n) v S) Q↔fits (xs.length+1)=true/\Q (.non,S.set n (.lst (xs++[v]))):=by
 rw [gApp];simp only [h]
 rw [W_ite,fits_iff]
 split
 ·rename_i hl;exact ⟨fun q=>⟨hl,W_some.mp q⟩,fun q=>W_some.mpr q.2⟩
 ·rename_i hl;exact ⟨fun q=>(W_none.mp q).elim,fun q=>absurd q.1 hl⟩
theorem W_mulL {n:Nat}{k:Nat}{xs:List D}{S:Sto}{Q:D×Sto->Prop}(h:S[n]? = some (.lst xs))(hk:k<=1000)(hx:xs.length<=1000)(q:Q (.ref S.length,S++[.lst (List.replicate k xs).flatten])):W (gMulL (.ref n) (.int k) S) Q:=by
 rw [gMulL];simp only [h]
 have hm:xs.length*k<=sizeLine:=Nat.le_trans (Nat.mul_le_mul hx hk) (by decide)
 rw [if_pos ⟨by lia,by lia,by rw [Int.toNat_natCast];exact hm⟩,W_some,Int.toNat_natCast]
 exact q
theorem W_ixL {n:Nat}{i:Nat}{xs:List D}{x:D}{S:Sto}{Q:D×Sto->Prop}(h:S[n]? = some (.lst xs))(hx:xs[i]? = some x)(q:Q (x,S)):W (gIxY (.ref n) (.int i) S) Q:=by
 refine W.of (x:=(x,S)) ?_ q
 have hl:=(gE1.mp hx).1
 simp only [gIxY,gIxX,gIx,h,seqOf,atI,ixN,oS1,if_pos (show (0:Int)<=i by lia)]
 rw [if_pos (by lia)]
 simp [hx]
theorem W_ixT {i:Nat}{xs:List D}{x:D}{S:Sto}{Q:D×Sto->Prop}(hx:xs[i]? = some x)(q:Q (x,S)):W (gIxY (.tup xs) (.int i) S) Q:=by
 refine W.of (x:=(x,S)) ?_ q
 have hl:=(gE1.mp hx).1
 simp only [gIxY,gIxX,gIx,seqOf,atI,ixN,oS1,if_pos (show (0:Int)<=i by lia)]
 rw [if_pos (by lia)]
 simp [hx]
theorem W_setL {n:Nat}{i:Nat}{xs:List D}{v:D}{S:Sto}{Q:D×Sto->Prop}(h:S[n]? = some (.lst xs))(hx:i<xs.length)(q:Q (.non,S.set n (.lst (xs.set i v)))):W (gSetY (.ref n) (.int i) v S) Q:=by
 refine W.of (x:=(.non,S.set n (.lst (xs.set i v)))) ?_ q
 simp only [gSetY,gSetX,gSetIx,h,ixN,if_pos (show (0:Int)<=i by lia)]
 rw [if_pos (by lia)]
 simp
theorem rp0:List.replicate 0 (none:Option D)=[]:=rfl
theorem rp1:List.replicate 1 (none:Option D)=[none]:=rfl
theorem rp2:List.replicate 2 (none:Option D)=[none,none]:=rfl
theorem rp3:List.replicate 3 (none:Option D)=[none,none,none]:=rfl
theorem rp4:List.replicate 4 (none:Option D)=[none,none,none,none]:=rfl
theorem rp5:List.replicate 5 (none:Option D)=[none,none,none,none,none]:=rfl
theorem rp6:List.replicate 6 (none:Option D)=[none,none,none,none,none,none]:=rfl
theorem rp7:List.replicate 7 (none:Option D)=[none,none,none,none,none,none,none]:=rfl
theorem rp8:List.replicate 8 (none:Option D)=[none,none,none,none,none,none,none,none]:=rfl
theorem rp9:List.replicate 9 (none:Option D)=[none,none,none,none,none,none,none,none,none]:=rfl
theorem rp10:List.replicate 10 (none:Option D)=[none,none,none,none,none,none,none,none,none,none]:=rfl
theorem rp11:List.replicate 11 (none:Option D)=[none,none,none,none,none,none,none,none,none,none,none]:=rfl
theorem rp12:List.replicate 12 (none:Option D)=[none,none,none,none,none,none,none,none,none,none,none,none]:=rfl
theorem rp13:List.replicate 13 (none:Option D)=[none,none,none,none,none,none,none,none,none,none,none,none,none]:=rfl
theorem rp14:List.replicate 14 (none:Option D)=[none,none,none,none,none,none,none,none,none,none,none,none,none,none]:=rfl
theorem rp15:List.replicate 15 (none:Option D)=[none,none,none,none,none,none,none,none,none,none,none,none,none,none,none]:=rfl
theorem rp16:List.replicate 16 (none:Option D)=[none,none,none,none,none,none,none,none,none,none,none,none,none,none,none,none]:=rfl
theorem rp17:List.replicate 17 (none:Option D)=[none,none,none,none,none,none,none,none,none,none,none,none,none,none,none,none,none]:=rfl
theorem rp18:List.replicate 18 (none:Option D)=[none,none,none,none,none,none,none,none,none,none,none,none,none,none,none,none,none,none]:=rfl
theorem rp19:List.replicate 19 (none:Option D)=[none,none,none,none,none,none,none,none,none,none,none,none,none,none,none,none,none,none,none]:=rfl
theorem rp20:List.replicate 20 (none:Option D)=[none,none,none,none,none,none,none,none,none,none,none,none,none,none,none,none,none,none,none,none]:=rfl
theorem get_app {α:Type}{T G:List α}{k:Nat}:(T++G)[T.length+k]? = G[k]?:=by rw [gR1 (by lia)];congr 1;lia
theorem get_app0 {α:Type}{T G:List α}:(T++G)[T.length]? = G[0]?:=by rw [gR1 (by lia)];congr 1;lia
theorem gEq_nil {S:Sto}{i j:Nat}{xs:List D}(h:S[i]? = some (.lst xs))(h':S[j]? = some (.lst [])):gEq (.ref i) (.ref j) S=some (.bl xs.isEmpty,S):=by
 unfold gEq deepMost
 rw [show (60:Nat)=59+1 from rfl,eqN]
 simp only [seqOf,h,h']
 cases xs with
 | nil=>simp [eqL]
 | cons x xs=>simp
theorem nums_eq:∀ (n:Nat) (lo:Int),nums lo n=(List.range n).map fun i:Nat=>D.int (lo+i)
 | 0,lo=>rfl
 | n+1,lo=>by
  rw [nums,nums_eq n (lo+1),List.range_succ_eq_map,mP1,List.map_map]
  congr 1
  ·simp
  ·apply List.map_congr_left
   intro i _
   simp only [Function.comp_apply,Nat.succ_eq_add_one]
   congr 1
   push_cast
   lia
theorem nums0 (n:Nat):nums 0 n=(List.range n).map fun i:Nat=>D.int i:=by
 rw [nums_eq]
 apply List.map_congr_left
 intro i _
 simp
theorem mapW {α:Type}{c:List (Nat×List D)}{g:FG}{t:FT}{e:FE}{S:Sto}{f:α->D}{Q:List D×Ev×Sto->Prop}(F:α->D)(P:Ev->Prop)(hok:okC S c=true):∀ (xs:List α) (r:Ev),P r ->
  (∀ a∈xs,∀ r,P r->W (g (f a) r S) fun p=>W (t p.1 p.2) fun b=>b.1=true/\W (e p.1 b.2) fun x=>x.1=F a/\x.2=S/\P p.1) ->
  (∀ r',P r'->Q (xs.map F,r',S))->W (loopF c g t (fEmit e) (xs.map f) r S) Q
 | [],r,hr,_,h=>by rw [List.map_nil,loopF];dsimp only;rw [if_pos hok,W_some];exact h r hr
 | a::xs,r,hr,hs,h=>by
  rw [mP1,loopF];dsimp only;rw [if_pos hok,W_bind]
  obtain ⟨p,e1,⟨b,e2,hb,⟨x,e3,hx,hS,hp⟩⟩⟩:=hs a mS1 r hr
  refine ⟨p,e1,?_⟩
  dsimp only;rw [W_bind]
  refine ⟨b,e2,?_⟩
  dsimp only;rw [if_pos hb,W_bind,fEmit,W_map]
  refine ⟨x,e3,?_⟩
  dsimp only
  rw [hS,W_map]
  refine mapW F P hok xs p.1 hp (fun a ha=>hs a (mC1 _ ha)) fun r' hr'=>?_
  have:=h r' hr'
  rw [mP1,<- hx] at this
  exact this
theorem filterW {α:Type}{c:List (Nat×List D)}{g:FG}{t:FT}{e:FE}{S:Sto}{f:α->D}{Q:List D×Ev×Sto->Prop}(k:α->Bool)(F:α->D)(P:Ev->Prop)(hok:okC S c=true):∀ (xs:List α) (r:Ev),P r ->
  (∀ a∈xs,∀ r,P r->W (g (f a) r S) fun p=>W (t p.1 p.2) fun b=>b.1=k a/\b.2=S/\P p.1/\(k a=true->W (e p.1 S) fun x=>x.1=F a/\x.2=S)) ->
  (∀ r',P r'->Q ((xs.filter k).map F,r',S))->W (loopF c g t (fEmit e) (xs.map f) r S) Q
 | [],r,hr,_,h=>by rw [List.map_nil,loopF];dsimp only;rw [if_pos hok,W_some];exact h r hr
 | a::xs,r,hr,hs,h=>by
  rw [mP1,loopF];dsimp only;rw [if_pos hok,W_bind]
  obtain ⟨p,e1,⟨b,e2,hb,hS,hp,hx⟩⟩:=hs a mS1 r hr
  refine ⟨p,e1,?_⟩
  dsimp only;rw [W_bind]
  refine ⟨b,e2,?_⟩
  dsimp only
  cases hk:k a with
  | true=>
   rw [hb,hk,if_pos rfl,W_bind,fEmit,W_map,hS]
   obtain ⟨x,e3,hx,hS2⟩:=hx hk
   refine ⟨x,e3,?_⟩
   dsimp only
   rw [hS2,W_map]
   refine filterW k F P hok xs p.1 hp (fun a ha=>hs a (mC1 _ ha)) fun r' hr'=>?_
   have:=h r' hr'
   rw [List.filter_cons,hk,if_pos rfl,mP1,<- hx] at this
   exact this
  | false=>
   rw [hb,hk,if_neg (by decide),hS]
   refine filterW k F P hok xs p.1 hp (fun a ha=>hs a (mC1 _ ha)) fun r' hr'=>?_
   have:=h r' hr'
   rw [List.filter_cons,hk,if_neg (by decide)] at this
   exact this
mutual
theorem und_le {n m:Nat}(h:n<=m):∀ {d:D},d.und n=true->d.und m=true
 | .non,_=>rfl
 | .bl _,_=>rfl
 | .int _,_=>rfl
 | .str _,_=>rfl
 | .tup xs,q=>by rw [D.und] at q ⊢;exact unds_le h q
 | .rol xs,q=>by rw [D.und] at q ⊢;exact unds_le h q
 | .ref k,q=>by simp [D.und] at q ⊢;lia
theorem unds_le {n m:Nat}(h:n<=m):∀ {ds:List D},D.unds n ds=true->D.unds m ds=true
 | [],_=>rfl
 | d::ds,q=>by
  rw [D.unds,bA1] at q ⊢
  exact ⟨und_le h q.1,unds_le h q.2⟩
end
theorem obund_le {n m:Nat}(h:n<=m):∀ {o:Ob},o.und n=true->o.und m=true
 | .lst xs,q=>by rw [Ob.und] at q ⊢;exact unds_le h q
 | .dct xs,q=>by rw [Ob.und] at q ⊢;exact unds_le h q
 | .dcT xs,q=>by rw [Ob.und] at q ⊢;exact unds_le h q
 | .dcF xs,q=>by rw [Ob.und] at q ⊢;exact unds_le h q
 | .iset _,_=>rfl
theorem unds_map {α:Type}{n:Nat}{f:α->D}:∀ {xs:List α},(∀ x∈xs,(f x).und n=true)->D.unds n (xs.map f)=true
 | [],_=>rfl
 | x::xs,h=>by rw [mP1,D.unds,h x mS1,unds_map fun y hy=>h y (mC1 _ hy)];rfl
theorem al1 {x:Nat}:x+1+1=x+2:=rfl
theorem al2 {x:Nat}:x+2+1=x+3:=rfl
theorem al3 {x:Nat}:x+3+1=x+4:=rfl
theorem al4 {x:Nat}:x+4+1=x+5:=rfl
theorem al5 {x:Nat}:x+5+1=x+6:=rfl
theorem al6 {x:Nat}:x+6+1=x+7:=rfl
theorem al7 {x:Nat}:x+1+2=x+3:=rfl
theorem len_tup {xs:List D}{S:Sto}:gLen (.tup xs) S=some (.int xs.length,S):=rfl
theorem len_rol {xs:List D}{S:Sto}:gLen (.rol xs) S=some (.int xs.length,S):=rfl
theorem len_str0 {S:Sto}:gLen (.str "") S=some (.int 0,S):=rfl
theorem seq_tup {xs:List D}{S:Sto}:seqOf S (.tup xs)=some (false,xs):=rfl
theorem seq_rol {xs:List D}{S:Sto}:seqOf S (.rol xs)=some (true,xs):=rfl
theorem chk_tup {xs:List D}{S:Sto}:chkOf S (.tup xs)=[]:=rfl
theorem chk_rol {xs:List D}{S:Sto}:chkOf S (.rol xs)=[]:=rfl
theorem seq_ref {n:Nat}{xs:List D}{S:Sto}(h:S[n]? = some (.lst xs)):seqOf S (.ref n)=some (true,xs):=by simp only [seqOf,h]
theorem chk_ref {n:Nat}{xs:List D}{S:Sto}(h:S[n]? = some (.lst xs)):chkOf S (.ref n)=[(n,xs)]:=by simp only [chkOf,h]
noncomputable def sW (S:Sto)(d:D)(Q:List D×List (Nat×List D)->Prop):Prop:=W (seqOf S d) fun q=>Q (q.2,chkOf S d)
theorem sW_tup {xs:List D}{S:Sto}{Q:List D×List (Nat×List D)->Prop}:sW S (.tup xs) Q↔Q (xs,[]):=W_some
theorem sW_ref {n:Nat}{xs:List D}{S:Sto}{Q:List D×List (Nat×List D)->Prop}(h:S[n]? = some (.lst xs))(q:Q (xs,[(n,xs)])):sW S (.ref n) Q:=by
 unfold sW
 rw [seq_ref h,chk_ref h,W_some]
 exact q
theorem W_iSeq {m:FE}{r:Ev}{S:Sto}{Q:Itm×Sto->Prop}:W (iSeq m r S) Q↔W (m r S) fun p=>sW p.2 p.1 fun q=>Q (⟨q.1,q.2⟩,p.2):=by
 unfold iSeq
 rw [W_bind]
 refine ⟨fun h=>h.mono fun p q=>?_,fun h=>h.mono fun p q=>?_⟩
 ·rw [W_bind] at q
  exact q.mono fun z w=>W_some.mp w
 ·rw [W_bind]
  exact W.mono (show W (seqOf p.2 p.1) _ from q) fun z w=>W_some.mpr w
theorem W_gTup {d:D}{S:Sto}{Q:D×Sto->Prop}:W (Mi.gTup d S) Q↔sW S d fun q=>Q (.tup q.1,S):=by
 unfold Mi.gTup
 rw [W_map]
 exact Iff.rfl
theorem W_len {n:Nat}{S:Sto}{Q:D×Sto->Prop}:W (gLen (.ref n) S) Q↔sW S (.ref n) fun q=>Q (.int q.1.length,S):=by
 unfold gLen sW
 rw [W_map]
noncomputable def pD (e:Nat×Nat):D:=.tup [.int e.1,.int e.2]
theorem eqN_pD {S:Sto}{n:Nat}{a b:Nat×Nat}:eqN S (n+2) (pD a) (pD b)=some (a == b):=by
 obtain ⟨a1,a2⟩:=a
 obtain ⟨b1,b2⟩:=b
 rw [eqN]
 have e1:∀ x y:Nat,eqN S (n+1) (.int x) (.int y)=some ((x:Int) == (y:Int)):=fun x y=>rfl
 have e2:∀ x y:Nat,((x:Int) == (y:Int))=(x == y):=fun x y=>by
  rw [Bool.eq_iff_iff,beq_iff_eq,beq_iff_eq];lia
 simp [pD,seqOf,eqL,e1,e2]
 rfl
theorem eqsL_pD {S:Sto}{n:Nat}{e:Nat×Nat}:∀ row:List (Nat×Nat),eqsL (eqN S (n+2)) (pD e) (row.map pD)=some (row.map fun a=>a == e)
 | []=>rfl
 | a::row=>by rw [mP1,eqsL,eqN_pD,eqsL_pD row];rfl
theorem W_idxP {S:Sto}{n j:Nat}{row:List (Nat×Nat)}{e:Nat×Nat}{Q:D×Sto->Prop}(h:S[n]? = some (.lst (row.map pD)))(hl:row.length<1000)(hj:row.findIdx? (· == e)=some j)(q:Q (.int j,S)):W (gIdx (.ref n) (pD e) S) Q:=by
 refine W.of ?_ q
 unfold gIdx deepMost
 simp only [h,show (60:Nat)=58+2 from rfl,eqsL_pD,oS1,lM1]
 rw [if_pos (by lia),List.findIdx?_map]
 simp [Function.comp_def,hj]
theorem W_mMt {f:FN}{o:FE}{a:FA}{r:Ev}{S:Sto}{Q:D×Sto->Prop}(h:W (o r S) fun p=>∃ n xs,p.1 = .ref n/\p.2[n]? = some (.lst xs)/\W (a r p.2) fun q=>W (f (.ref n::q.1) q.2) Q):W (mMt f o a r S) Q:=by
 unfold mMt
 rw [W_bind]
 refine h.mono ?_
 rintro ⟨d,S1⟩ ⟨n,xs,rfl,e,q⟩
 dsimp only at e q ⊢
 rw [e]
 dsimp only
 rw [W_bind]
 exact q
noncomputable def rowOb (row:List (Nat×Nat)):Ob:=.lst (row.map pD)
theorem rowOb_und {n:Nat}{row:List (Nat×Nat)}:(rowOb row).und n=true:=by
 unfold rowOb;rw [Ob.und];exact unds_map fun _ _=>rfl
theorem refs_at:∀ {k n i:Nat},i<k->(refs n k)[i]? = some (.ref (n+i))
 | k+1,n,0,_=>rfl
 | k+1,n,i+1,h=>by rw [refs,gC1,refs_at (Nat.lt_of_succ_lt_succ h),show n+1+i=n+(i+1) by lia]
theorem refs_len:∀ k n:Nat,(refs n k).length=k
 | 0,_=>rfl
 | k+1,n=>by rw [refs,lC1,refs_len]
noncomputable def tot (E:List (List (Nat×Nat))):Nat:=(E.map List.length).sum
theorem tot_ge:∀ {E:List (List (Nat×Nat))} {k:Nat},k<=E.length->(∀ i row,i<k->E[i]? = some row->4<=row.length)->4*k<=tot E
 | E,0,_,_=>by lia
 | [],k+1,h,_=>by simp at h
 | a::E,k+1,h,q=>by
  have h1:=q 0 a (by lia) rfl
  have h2:=tot_ge (E:=E) (k:=k) (by simpa using h) fun i row hi hr=>q (i+1) row (by lia) (by simpa using hr)
  simp [tot] at h2 ⊢
  lia
noncomputable def nmD (rs:List Nat):List D:=rs.map fun i:Nat=>D.int i
theorem nm_len (rs:List Nat):(nmD rs).length=rs.length:=by simp [nmD]
theorem nm_und (rs:List Nat):D.unds 0 (nmD rs)=true:=unds_map fun _ _=>rfl
theorem look_nil {κ:Type}[DecidableEq κ]{k:κ}:lookD ([]:List (κ×D)) k=none:=rfl
theorem look_cons {κ:Type}[DecidableEq κ]{k a:κ}{d:D}{r:List (κ×D)}:lookD ((a,d)::r) k=if a=k then some d else lookD r k:=by
 unfold lookD
 rw [List.find?_cons]
 by_cases h:a=k
 ·simp [h]
 ·simp [h]
theorem look_app {κ:Type}[DecidableEq κ]{k:κ}{b:List (κ×D)}:∀ {a:List (κ×D)},lookD (a++b) k=(lookD a k).or (lookD b k)
 | []=>rfl
 | (x,d)::a=>by
  rw [List.cons_append,look_cons,look_cons,look_app (a:=a)]
  split<;>rfl
theorem look_none {κ:Type}[DecidableEq κ]{k:κ}:∀ {a:List (κ×D)},(a.any fun p=>decide (p.1=k))=false->lookD a k=none
 | [],_=>rfl
 | (x,d)::a,h=>by
  simp only [List.any_cons,Bool.or_eq_false_iff,decide_eq_false_iff_not] at h
  rw [look_cons,if_neg h.1]
  exact look_none h.2
theorem look_repl {κ:Type}[DecidableEq κ]{k k':κ}{v:D}:∀ {a:List (κ×D)},(a.any fun p=>decide (p.1=k))=true->lookD (a.map fun p=>if p.1=k then (p.1,v) else p) k'=if k'=k then some v else lookD a k'
 | [],h=>by simp at h
 | (x,d)::a,h=>by
  rw [mP1]
  by_cases hx:x=k
  ·subst hx
   rw [if_pos (show (x,d).1=x from rfl)]
   rw [look_cons,look_cons]
   by_cases hk:k'=x
   ·subst hk;simp
   ·rw [if_neg (Ne.symm hk),if_neg (Ne.symm hk),if_neg hk]
    by_cases ha:(a.any fun p=>decide (p.1=x))=true
    ·rw [look_repl ha,if_neg hk]
    ·have:(a.map fun p=>if p.1=x then (p.1,v) else p)=a:=by
      have ha':(a.any fun p=>decide (p.1=x))=false:=Bool.eq_false_iff.mpr ha
      rw [List.any_eq_false] at ha'
      conv=>rhs;rw [<- List.map_id a]
      apply List.map_congr_left
      intro p hp
      have:=ha' p hp
      simp at this
      simp [this]
     rw [this]
  ·simp only [List.any_cons,decide_eq_false hx,Bool.false_or] at h
   rw [if_neg (show ¬ (x,d).1=k from hx)]
   rw [look_cons,look_cons,look_repl h]
   by_cases hxk:x=k'
   ·subst hxk;simp [hx]
   ·simp [hxk]
theorem look_put {κ:Type}[DecidableEq κ]{k k':κ}{v:D}{a:List (κ×D)}:lookD (putD a k v) k'=if k'=k then some v else lookD a k':=by
 unfold putD
 split
 ·rename_i h;exact look_repl h
 ·rename_i h
  have h':(a.any fun p=>decide (p.1=k))=false:=Bool.eq_false_iff.mpr h
  rw [look_app,look_cons,look_nil]
  by_cases hk:k'=k
  ·subst hk
   rw [look_none h',if_pos rfl];rfl
  ·rw [if_neg (Ne.symm hk),if_neg hk]
   cases lookD a k'<;>rfl
theorem put_len {κ:Type}[DecidableEq κ]{k:κ}{v:D}{a:List (κ×D)}:(putD a k v).length<=a.length+1:=by
 unfold putD
 split
 ·rw [lM1];lia
 ·rw [lA1];simp
theorem put_ne {κ:Type}[DecidableEq κ]{k:κ}{v:D}{a:List (κ×D)}:putD a k v≠[]:=by
 unfold putD
 split
 ·rename_i h
  intro z
  cases a with
  | nil=>simp at h
  | cons x xs=>simp at z
 ·simp
noncomputable def dO (F:List (TK×D)):Ob:=if F=[] then .dct [] else .dcT F
theorem W_setD {U:Sto}{n:Nat}{F:List (TK×D)}{key v:D}{k:TK}{Q:D×Sto->Prop}(h:U[n]? = some (dO F))(hk:keyT key=some k)(hl:F.length<1000)(q:Q (.non,U.set n (dO (putD F k v)))):W (gSetY (.ref n) key v U) Q:=by
 refine W.of ?_ q
 unfold dO at h ⊢
 rw [if_neg put_ne]
 by_cases hF:F=[]
 ·subst hF
  rw [if_pos rfl] at h
  simp only [gSetY,h,hk]
  rfl
 ·rw [if_neg hF] at h
  simp only [gSetY,h,hk,oS1]
  rw [if_pos (nL1 hl (by decide))]
theorem W_getD {U:Sto}{n:Nat}{F:List (TK×D)}{key v:D}{k:TK}{Q:D×Sto->Prop}(h:U[n]? = some (dO F))(hk:keyT key=some k)(hv:lookD F k=some v)(q:Q (v,U)):W (gIxY (.ref n) key U) Q:=by
 refine W.of ?_ q
 unfold dO at h
 by_cases hF:F=[]
 ·subst hF;cases hv
 ·rw [if_neg hF] at h
  simp only [gIxY,h,hk,oS1,hv,oP1]
noncomputable def tkP (e:Nat×Nat):TK:=.tup [.int e.1,.int e.2]
theorem tkP_inj {a b:Nat×Nat}(h:tkP a=tkP b):a=b:=by
 obtain ⟨a1,a2⟩:=a
 obtain ⟨b1,b2⟩:=b
 simp [tkP] at h
 ext<;>simp<;>lia
theorem keyT_pD {e:Nat×Nat}:keyT (pD e)=some (tkP e):=rfl
theorem W_popL {U:Sto}{n i:Nat}{xs:List D}{x:D}{Q:D×Sto->Prop}(h:U[n]? = some (.lst xs))(hx:xs[i]? = some x)(hb:i<1000)(q:Q (x,U.set n (.lst (xs.eraseIdx i)))):W (gPop (.ref n) (.int i) U) Q:=by
 have hl:=(gE1.mp hx).1
 refine W.of ?_ q
 simp only [gPop,h]
 rw [if_pos ⟨by lia,by lia⟩]
 simp only [ixN,if_pos (show (0:Int)<=i by lia)]
 rw [if_pos (by lia)]
 simp [hx]
theorem W_enT {m:FA}{r:Ev}{S:Sto}{xs:List D}{Q:Itm×Sto->Prop}(hm:m r S=some ([.tup xs],S))(q:Q (⟨enD 0 xs,[]⟩,S)):W (iEn m r S) Q:=by
 refine W.of (x:=(⟨enD 0 xs,[]⟩,S)) ?_ q
 simp only [iEn,hm,oS1,seq_tup,chk_tup]
mutual
theorem sh_und {n:Nat}:∀ {d:D},d.und 0=true->d.sh n=d
 | .non,_=>rfl
 | .bl _,_=>rfl
 | .int _,_=>rfl
 | .str _,_=>rfl
 | .tup xs,h=>by rw [D.und] at h;rw [D.sh,shs_und h]
 | .rol xs,h=>by rw [D.und] at h;rw [D.sh,shs_und h]
 | .ref k,h=>by simp [D.und] at h
theorem shs_und {n:Nat}:∀ {ds:List D},D.unds 0 ds=true->D.shs n ds=ds
 | [],_=>rfl
 | d::ds,h=>by
  rw [D.unds,bA1] at h
  rw [D.shs,sh_und h.1,shs_und h.2]
end
end Mi
end
local macro_rules | `(tactic| walk_at "own wq") => `(tactic| simp only [Mi.W_some, Mi.W_none, Mi.ite_and', Mi.W_bind, Mi.W_map, Mi.W_ite, Mi.mSeq, Mi.mAsg, Mi.mIfS, Mi.mRet, Mi.mDrop, Mi.mNx, Mi.mN, Mi.mCons, Mi.mNil, Mi.m2, Mi.m1, Mi.mV, Mi.mC, Mi.W_mTup, Mi.W_mLst, Mi.mB, Mi.mAnd, Mi.mOr, Mi.mNot, Mi.mAndV, Mi.mNotV, Mi.mTrue, Mi.mTr, Mi.tru_bl, Mi.gN, Mi.gT, Mi.gCs, Mi.gNl, Mi.gS, Mi.b1, Mi.b2, Mi.b3, Mi.fnB, Mi.startD, Mi.W_fComp, Mi.W_iR1, Mi.W_iR2, Mi.rW1, Mi.rW2, Mi.mFor, Mi.inEv, Mi.W_addT, Mi.W_addI, Mi.gSub, Mi.gCmp, Mi.gInt, Mi.gEq_int, Mi.gLt_int, Mi.ft0, Mi.ft1, Mi.ft2, Mi.ft3, Mi.ft4, Mi.ft8, true_and, Mi.get_app, Mi.get_app0, List.append_assoc, lA1, List.getElem?_cons_zero, gC1, List.getElem?_nil, List.set_cons_zero, List.set_cons_succ, lC1, List.length_nil, mP1, List.map_nil, Mi.rp0, Mi.rp1, Mi.rp2, Mi.rp3, Mi.rp4, Mi.rp5, Mi.rp6, Mi.rp7, Mi.rp8, Mi.rp10, Mi.rp12, List.nil_append, List.cons_append, List.append_nil, Nat.reduceAdd, Nat.reduceSub, Option.join_some, Option.join_none, oP1, Option.map_none, oS1, Option.bind_none, if_true, if_false, bF1, Bool.not_true, Bool.not_false, ite_true, ite_false, reduceIte, decide_true, decide_false, Mi.al1, Mi.al7, Mi.len_tup, Mi.W_iSeq, Mi.W_gTup, Mi.W_len])
local macro_rules | `(tactic| walk_at "own wv") => `(tactic| simp -implicitDefEqProofs only [Mi.W_some, true_and, Mi.mV, Mi.mNx, Mi.mNil, Mi.mN, Mi.mIfS, Mi.mCons, Mi.mB, Mi.mAsg, Mi.m2, Mi.gS, Mi.ft2, Mi.b3, Mi.b2, Mi.al1, Mi.W_mTup, Mi.W_ite, Mi.W_bind, oS1, Nat.reduceAdd, List.length_nil, lC1, List.getElem?_cons_zero, gC1])
section
namespace Law
open PySem PySem.Spec PyProof.Rows L2 Mi
noncomputable def top (i:Nat):Stmt:=PySem.Challenge.pw_ringmeet_k01_webs_known.main.body.getD i (.Pass ⟨0,0,0,0⟩)
structure Blt (mg:Str->Option Value):Prop where
 z_abs:mg "abs"=none
 z_all:mg "all"=none
 z_bool:mg "bool"=none
 z_enumerate:mg "enumerate"=none
 z_int:mg "int"=none
 z_isinstance:mg "isinstance"=none
 z_len:mg "len"=none
 z_list:mg "list"=none
 z_max:mg "max"=none
 z_min:mg "min"=none
 z_range:mg "range"=none
 z_tuple:mg "tuple"=none
noncomputable def d_MOST_ROOMS:D:=(D.int (8))
noncomputable def d_MOST_DOORS:D:=(D.int (4))
noncomputable abbrev s_is_whole:Stmt:=top 1
noncomputable def b_is_whole:FS:=(mRet (mAndV (mIsT .int (mV 0)) (mNotV (mIsT .bool (mV 0)))))
noncomputable def m_is_whole:FN:=fnB 1 b_is_whole
theorem sc_is_whole:FnScope ["thing"] ["thing"] (defScope s_is_whole):=⟨rfl,rfl,rfl,by decide+kernel,rfl,by decide+kernel,by decide+kernel⟩
theorem ok_is_whole {P:Program}{w:World}{K:Fg1}{mg:Str->Option Value}{base:Heap}{f:Addr}{fd:FuncData}(F:Fun K "is_whole" "is_whole" s_is_whole f fd)(hb:Binds K fd ["thing"] [])(hm:mg "is_whole"=some (.ref f))(B:Blt mg):
  Own P w K mg base 1 "is_whole" 1 m_is_whole:=xown_mk (k:=0) (n:=1) (N:=["thing"]) (ps:=["thing"]) (b:=b_is_whole) F hb hm sc_is_whole rfl fun cdv A outer s H E hr=>
 (qG (qU (xme_and (xme_isinst .int rfl B.z_isinstance rfl B.z_int (by decide+kernel) (xmv 0)) (xme_one (xme_not (xme_isinst .bool rfl B.z_isinstance rfl B.z_bool (by decide+kernel) (xmv 0)))))))
noncomputable abbrev s_is_tuple_of:Stmt:=top 2
noncomputable def b_is_tuple_of:FS:=(mRet (mAndV (mIsT .tuple (mV 0)) (m2 (b2 gEq) (mN (b1 gLen) (mCons (mV 0) mNil)) (mV 1))))
noncomputable def m_is_tuple_of:FN:=fnB 2 b_is_tuple_of
theorem sc_is_tuple_of:FnScope ["thing","many"] ["thing","many"] (defScope s_is_tuple_of):=⟨rfl,rfl,rfl,by decide+kernel,rfl,by decide+kernel,by decide+kernel⟩
theorem ok_is_tuple_of {P:Program}{w:World}{K:Fg1}{mg:Str->Option Value}{base:Heap}{f:Addr}{fd:FuncData}(F:Fun K "is_tuple_of" "is_tuple_of" s_is_tuple_of f fd)(hb:Binds K fd ["thing","many"] [])(hm:mg "is_tuple_of"=some (.ref f))(B:Blt mg):
  Own P w K mg base 1 "is_tuple_of" 2 m_is_tuple_of:=xown_mk (k:=0) (n:=2) (N:=["thing","many"]) (ps:=["thing","many"]) (b:=b_is_tuple_of) F hb hm sc_is_tuple_of rfl fun cdv A outer s H E hr=>
 (qG (qU (xme_and (xme_isinst .tuple rfl B.z_isinstance rfl B.z_tuple (by decide+kernel) (xmv 0)) (xme_one (xme_cmp (o_eq hr.units) (qD c_len rfl B.z_len (by decide+kernel) (qA (xmv 0) qN (qM ..))) (xmv 1) (nomark _))))))
noncomputable abbrev s_ways:Stmt:=top 4
noncomputable def p_ways_1:FS:=(mIfS (mB (m2 (b2 gNotInY) (mV 7) (mV 2))) (mSeq (mAsg (m2 (b2 gAdd) (m2 (b2 gIxY) (mV 2) (mV 5)) (mTup (mCons (mV 6) mNil))) (gS (b3 gSetY) (mV 2) (mV 7)))
  (mDrop (mMt (b2 gApp) (mV 3) (mCons (mV 7) mNil)))) mNx)
noncomputable def p_ways_2:FT:=(mB (m2 (b2 gLt) (mV 4) (mN (b1 gLen) (mCons (mV 3) mNil))))
noncomputable def p_ways_3:FS:=(mSeq (mAsg (m2 (b2 gIxY) (mV 3) (mV 4)) (gN 5))
  (mSeq (mFor (iEn (mCons (m2 (b2 gIxY) (mV 0) (mV 5)) mNil)) (gT 2 (gCs (gN 6) (gCs (gT 2 (gCs (gN 7) (gCs (gN 8) gNl))) gNl))) p_ways_1)
  (mAug 4 (b2 gAddI) (mC (D.int (1))))))
noncomputable def b_ways:FS:=(mSeq (mAsg (mDisp [((mV 1),(mTup mNil))]) (gN 2))
  (mSeq (mAsg (mLst (mCons (mV 1) mNil)) (gN 3))
  (mSeq (mAsg (mC (D.int (0))) (gN 4))
  (mSeq (whl p_ways_2 p_ways_3 100000)
  (mRet (mN (b1 gTup) (mCons (fComp 1 [2] (iR1 (mCons (mN (b1 gLen) (mCons (mV 0) mNil)) mNil)) (gN 0) mTrue (fEmit (mDGet1 (mV 1) (mV 0)))) mNil)))))))
noncomputable def m_ways:FN:=fnB 9 b_ways
theorem sc_ways:FnScope ["web","room","found","queue","at","here","door","there","back"] ["web","room"] (defScope s_ways):=⟨rfl,rfl,rfl,by decide+kernel,rfl,by decide+kernel,by decide+kernel⟩
theorem ok_ways {P:Program}{w:World}{K:Fg1}{mg:Str->Option Value}{base:Heap}{f:Addr}{fd:FuncData}(F:Fun K "ways" "ways" s_ways f fd)(hb:Binds K fd ["web","room"] [])(hm:mg "ways"=some (.ref f))(B:Blt mg):
  Own P w K mg base 1 "ways" 2 m_ways:=xown_mk (k:=0) (n:=2) (N:=["web","room","found","queue","at","here","door","there","back"]) (ps:=["web","room"]) (b:=b_ways) F hb hm sc_ways rfl fun cdv A outer s H E hr=>
 (qF (qY 2 sc_ways.nd rfl (by first|exact Or.inl rfl|exact Or.inr rfl) (xme_disp (xmp_cons (xmv 1) (xme_tup qN) xmp_nil)))
  (qF (qY 3 sc_ways.nd rfl (by first|exact Or.inl rfl|exact Or.inr rfl) (xme_lst (qA (xmv 1) qN (qM ..))))
  (qF (qY 4 sc_ways.nd rfl (by first|exact Or.inl rfl|exact Or.inr rfl) qK)
  (qF (xms_while 100000 PassesOwn.never (qX (o_ltN hr.units) (xmv 4) (qD c_len rfl B.z_len (by decide+kernel) (qA (xmv 3) qN (qM ..))) (nomark _)) (qF (qY 5 sc_ways.nd rfl (by first|exact Or.inl rfl|exact Or.inr rfl) (qJ (qP hr.units) (xmv 3) (xmv 4) (fun _ _=>rfl)))
  (qF (qW PassesOwn.never rfl (xmi_enum rfl B.z_enumerate (qA (qJ (qP hr.units) (xmv 0) (xmv 5) (fun _ _=>rfl)) qN (qS ..))) (xmg_tup rfl (xmgs_cons (qO 6 sc_ways.nd rfl (by first|exact Or.inl rfl|exact Or.inr rfl)) (xmgs_cons (xmg_tup rfl (xmgs_cons (qO 7 sc_ways.nd rfl (by first|exact Or.inl rfl|exact Or.inr rfl)) (xmgs_cons (qO 8 sc_ways.nd rfl (by first|exact Or.inl rfl|exact Or.inr rfl)) xmgs_nil))) xmgs_nil))) (qG (qV (qX (o_notInY hr.units) (xmv 7) (xmv 2) (by with_unfolding_all rfl)) (qF (qR (qI o_add (qJ (qP hr.units) (xmv 2) (xmv 5) (fun _ _=>rfl)) (xme_tup (qA (xmv 6) qN (qM ..)))) (xmg_sub (xmv 2) (xmv 7) (s_setY hr.units)))
  (qG (xms_expr (qe PySem.F.slot_list_append PySem.F.type_list_append t_app (xmv 3) (qA (xmv 7) qN (qM ..)))))) qQ)))
  (qG (xms_aug 4 sc_ways.nd rfl (by first|exact Or.inl rfl|exact Or.inr rfl) qK ip_addI)))))
  (qG (qU (qE c_tuple rfl B.z_tuple (by decide+kernel) (qA (qZ rfl (T:=["other"]) (keep:=[2]) ⟨rfl,by decide+kernel,(List.forall_mem_cons.mpr ⟨⟨_,rfl,rfl,(by first|exact Or.inl rfl|exact Or.inr rfl),(by first | decide+kernel | (show ¬ (("found":Str),NameKind.cell)∈(_:List (Str×NameKind));decide+kernel))⟩,(List.forall_mem_nil _)⟩)⟩ rfl (xmi_range1 rfl B.z_range (qA (qD c_len rfl B.z_len (by decide+kernel) (qA (xmv 0) qN (qM ..))) qN (qL ..))) (fun _ _ _=>⟨(qO 0 (show List.Nodup (["other","found"]:List Str) by decide+kernel) rfl (by first|exact Or.inl rfl|exact Or.inr rfl)),xmif_nil,(xme_dget1 hr.units (xmv 1) (xmv 0))⟩)) qN (st_ListComp ..)))))))))
noncomputable abbrev s_is_paired:Stmt:=top 12
noncomputable def b_is_paired:FS:=(mSeq (mAsg (m2 (b2 gIxY) (m2 (b2 gIxY) (mV 0) (mV 1)) (mV 2)) (gT 2 (gCs (gN 3) (gCs (gN 4) gNl))))
  (mSeq (mIfS (mOr (mB (m2 (b2 gEq) (mTup (mCons (mV 3) (mCons (mV 4) mNil))) (mTup (mCons (mV 1) (mCons (mV 2) mNil))))) (mNot (mB (mCh (b2 (gCmp fun i j=>decide (i<=j))) (b2 gLt) (mC (D.int (0))) (mV 3) (mN (b1 gLen) (mCons (mV 0) mNil)))))) (mRet (mC (D.bl false))) mNx)
  (mRet (mAndV (mCh (b2 (gCmp fun i j=>decide (i<=j))) (b2 gLt) (mC (D.int (0))) (mV 4) (mN (b1 gLen) (mCons (m2 (b2 gIxY) (mV 0) (mV 3)) mNil))) (m2 (b2 gEq) (m2 (b2 gIxY) (m2 (b2 gIxY) (mV 0) (mV 3)) (mV 4)) (mTup (mCons (mV 1) (mCons (mV 2) mNil))))))))
noncomputable def m_is_paired:FN:=fnB 5 b_is_paired
theorem sc_is_paired:FnScope ["rooms","room","door","there","back"] ["rooms","room","door"] (defScope s_is_paired):=⟨rfl,rfl,rfl,by decide+kernel,rfl,by decide+kernel,by decide+kernel⟩
theorem ok_is_paired {P:Program}{w:World}{K:Fg1}{mg:Str->Option Value}{base:Heap}{f:Addr}{fd:FuncData}(F:Fun K "is_paired" "is_paired" s_is_paired f fd)(hb:Binds K fd ["rooms","room","door"] [])(hm:mg "is_paired"=some (.ref f))(B:Blt mg):
  Own P w K mg base 1 "is_paired" 3 m_is_paired:=xown_mk (k:=0) (n:=3) (N:=["rooms","room","door","there","back"]) (ps:=["rooms","room","door"]) (b:=b_is_paired) F hb hm sc_is_paired rfl fun cdv A outer s H E hr=>
 (qF (qR (qJ (qP hr.units) (qJ (qP hr.units) (xmv 0) (xmv 1) (fun _ _=>rfl)) (xmv 2) (fun _ _=>rfl)) (xmg_tup rfl (xmgs_cons (qO 3 sc_is_paired.nd rfl (by first|exact Or.inl rfl|exact Or.inr rfl)) (xmgs_cons (qO 4 sc_is_paired.nd rfl (by first|exact Or.inl rfl|exact Or.inr rfl)) xmgs_nil))))
  (qF (qV (xmt_w (xmw_or (qX (o_eq hr.units) (xme_tup (qA (xmv 3) (qA (xmv 4) qN (qM ..)) (qM ..))) (xme_tup (qA (xmv 1) (qA (xmv 2) qN (qM ..)) (qM ..))) (nomark _)) (xmw_or1 (xmt_not (xmt_chain o_le (o_ltN hr.units) qK (xmv 3) (qD c_len rfl B.z_len (by decide+kernel) (qA (xmv 0) qN (qM ..)))))))) (qG (qU xme_bl)) qQ)
  (qG (qU (xme_and (xme_chain o_le (o_ltN hr.units) qK (xmv 4) (qD c_len rfl B.z_len (by decide+kernel) (qA (qJ (qP hr.units) (xmv 0) (xmv 3) (fun _ _=>rfl)) qN (qS ..)))) (xme_one (xme_cmp (o_eq hr.units) (qJ (qP hr.units) (qJ (qP hr.units) (xmv 0) (xmv 3) (fun _ _=>rfl)) (xmv 4) (fun _ _=>rfl)) (xme_tup (qA (xmv 1) (qA (xmv 2) qN (qM ..)) (qM ..))) (nomark _))))))))
noncomputable abbrev s__law_hand:Stmt:=top 15
noncomputable def p__law_hand_1:FS:=(mSeq (mAsg (m2 (b2 gMod) (m2 (b2 gAdd) (m2 (b2 gAdd) (m2 (b2 gMul) (mV 1) (mC (D.int (1000003)))) (m2 (b2 gMod) (mV 4) (m2 (b2 gPow) (mC (D.int (10))) (mC (D.int (30)))))) (m2 (b2 gMul) (mC (D.int (31))) (mV 3))) (mC (D.int (2305843009213693951)))) (gN 1))
  (mIfS (mB (m2 (b2 (gCmp fun i j=>decide (j<=i))) (mN (b1 gAbs) (mCons (mV 4) mNil)) (m2 (b2 gPow) (mC (D.int (10))) (mC (D.int (18)))))) (mDrop (mMt (b2 gApp) (mV 2) (mCons (m2 (b2 gMod) (mN (b1 gAbs) (mCons (mV 4) mNil)) (m2 (b2 gMul) (m2 (b2 gPow) (mC (D.int (10))) (mC (D.int (60)))) (m2 (b2 gPow) (mC (D.int (10))) (mC (D.int (30)))))) mNil))) mNx))
noncomputable def b__law_hand:FS:=(mSeq (mAsg (mTup (mCons (m2 (b2 gAdd) (mN (b1 gLen) (mCons (mV 0) mNil)) (mC (D.int (7)))) (mCons (mLst mNil) mNil))) (gT 2 (gCs (gN 1) (gCs (gN 2) gNl))))
  (mSeq (mFor (iEn (mCons (mSlX (mV 0) oNone (oSome (mC (D.int (63))))) mNil)) (gT 2 (gCs (gN 3) (gCs (gN 4) gNl))) p__law_hand_1)
  (mRet (mLst (mCons (mV 2) (mCons (mV 1) (mCons (mC (D.int (0))) mNil)))))))
noncomputable def m__law_hand:FN:=fnB 5 b__law_hand
theorem sc__law_hand:FnScope ["_law_script","_law_seed","_law_own","_law_k","_law_cell"] ["_law_script"] (defScope s__law_hand):=⟨rfl,rfl,rfl,by decide+kernel,rfl,by decide+kernel,by decide+kernel⟩
theorem ok__law_hand {P:Program}{w:World}{K:Fg1}{mg:Str->Option Value}{base:Heap}{f:Addr}{fd:FuncData}(F:Fun K "_law_hand" "_law_hand" s__law_hand f fd)(hb:Binds K fd ["_law_script"] [])(hm:mg "_law_hand"=some (.ref f))(B:Blt mg):
  Own P w K mg base 1 "_law_hand" 1 m__law_hand:=xown_mk (k:=0) (n:=1) (N:=["_law_script","_law_seed","_law_own","_law_k","_law_cell"]) (ps:=["_law_script"]) (b:=b__law_hand) F hb hm sc__law_hand rfl fun cdv A outer s H E hr=>
 (qF (xms_par 1 2 rfl sc__law_hand.nd rfl rfl (by decide) rfl rfl (qA (qI o_add (qD c_len rfl B.z_len (by decide+kernel) (qA (xmv 0) qN (qM ..))) qK) (qA (xme_lst qN) qN (st_List ..)) (qB ..)))
  (qF (qW PassesOwn.never rfl (xmi_enum rfl B.z_enumerate (qA (xme_sliceX (xmv 0) xmo_none (xmo_some qK)) qN (qS ..))) (xmg_tup rfl (xmgs_cons (qO 3 sc__law_hand.nd rfl (by first|exact Or.inl rfl|exact Or.inr rfl)) (xmgs_cons (qO 4 sc__law_hand.nd rfl (by first|exact Or.inl rfl|exact Or.inr rfl)) xmgs_nil))) (qF (qY 1 sc__law_hand.nd rfl (by first|exact Or.inl rfl|exact Or.inr rfl) (qI o_mod (qI o_add (qI o_add (qI o_mul (xmv 1) qK) (qI o_mod (xmv 4) (qI o_pow qK qK))) (qI o_mul qK (xmv 3))) qK))
  (qG (qV (qX o_ge (qD c_abs rfl B.z_abs (by decide+kernel) (qA (xmv 4) qN (qM ..))) (qI o_pow qK qK) (nomark _)) (qG (xms_expr (qe PySem.F.slot_list_append PySem.F.type_list_append t_app (xmv 2) (qA (qI o_mod (qD c_abs rfl B.z_abs (by decide+kernel) (qA (xmv 4) qN (qM ..))) (qI o_mul (qI o_pow qK qK) (qI o_pow qK qK))) qN (qB ..))))) qQ))))
  (qG (qU (xme_lst (qA (xmv 2) (qA (xmv 1) (qA qK qN (qC ..)) (qM ..)) (qM ..)))))))
noncomputable abbrev s__law_take:Stmt:=top 16
noncomputable def p__law_take_1:FT:=(mAnd (mB (m2 (b2 gNe) (m2 (b2 gIxY) (mV 0) (mC (D.int (0)))) (mLst mNil))) (mB (m2 (b2 gEq) (m2 (b2 gIxY) (m2 (b2 gIxY) (mV 0) (mC (D.int (0)))) (mC (D.int (0)))) (mC (D.int (0))))))
noncomputable def p__law_take_2:FS:=(mDrop (mMt (b2 gPop) (m2 (b2 gIxY) (mV 0) (mC (D.int (0)))) (mCons (mC (D.int (0))) mNil)))
noncomputable def b__law_take:FS:=(mSeq (whl p__law_take_1 p__law_take_2 100000)
  (mSeq (mIfS (mB (m2 (b2 gNe) (m2 (b2 gIxY) (mV 0) (mC (D.int (0)))) (mLst mNil))) (mSeq (mAsg (m2 (b2 gMod) (m2 (b2 gIxY) (m2 (b2 gIxY) (mV 0) (mC (D.int (0)))) (mC (D.int (0)))) (mV 1)) (gN 2))
  (mSeq (mAsg (m2 (b2 gDiv) (m2 (b2 gIxY) (m2 (b2 gIxY) (mV 0) (mC (D.int (0)))) (mC (D.int (0)))) (mV 1)) (gS (b3 gSetY) (m2 (b2 gIxY) (mV 0) (mC (D.int (0)))) (mC (D.int (0)))))
  (mRet (mV 2)))) mNx)
  (mSeq (mAsg (m2 (b2 gAdd) (m2 (b2 gIxY) (mV 0) (mC (D.int (2)))) (mC (D.int (1)))) (gS (b3 gSetY) (mV 0) (mC (D.int (2)))))
  (mSeq (mAsg (m2 (b2 gMod) (m2 (b2 gMul) (m2 (b2 gAdd) (m2 (b2 gAdd) (m2 (b2 gIxY) (mV 0) (mC (D.int (1)))) (m2 (b2 gMul) (m2 (b2 gMul) (mC (D.int (65537))) (m2 (b2 gIxY) (mV 0) (mC (D.int (2))))) (m2 (b2 gIxY) (mV 0) (mC (D.int (2)))))) (mC (D.int (11)))) (mC (D.int (48271)))) (mC (D.int (2305843009213693921)))) (gN 3))
  (mSeq (mAsg (m2 (b2 gMod) (m2 (b2 gMul) (mV 3) (m2 (b2 gAdd) (m2 (b2 gMod) (mV 3) (mC (D.int (1000003)))) (m2 (b2 gMul) (mC (D.int (99991))) (m2 (b2 gIxY) (mV 0) (mC (D.int (2))))))) (mC (D.int (2305843009213693907)))) (gN 3))
  (mRet (m2 (b2 gMod) (m2 (b2 gAdd) (m2 (b2 gDiv) (mV 3) (mC (D.int (97)))) (m2 (b2 gDiv) (mV 3) (mC (D.int (1000033))))) (mV 1))))))))
noncomputable def m__law_take:FN:=fnB 4 b__law_take
theorem sc__law_take:FnScope ["_law_hand_here","_law_many","_law_digit","_law_mixed"] ["_law_hand_here","_law_many"] (defScope s__law_take):=⟨rfl,rfl,rfl,by decide+kernel,rfl,by decide+kernel,by decide+kernel⟩
theorem ok__law_take {P:Program}{w:World}{K:Fg1}{mg:Str->Option Value}{base:Heap}{f:Addr}{fd:FuncData}(F:Fun K "_law_take" "_law_take" s__law_take f fd)(hb:Binds K fd ["_law_hand_here","_law_many"] [])(hm:mg "_law_take"=some (.ref f))(B:Blt mg):
  Own P w K mg base 1 "_law_take" 2 m__law_take:=xown_mk (k:=0) (n:=2) (N:=["_law_hand_here","_law_many","_law_digit","_law_mixed"]) (ps:=["_law_hand_here","_law_many"]) (b:=b__law_take) F hb hm sc__law_take rfl fun cdv A outer s H E hr=>
 (qF (xms_while 100000 PassesOwn.never (xmt_w (xmw_and (qX (o_ne hr.units) (qJ (qP hr.units) (xmv 0) qK (fun _ _=>rfl)) (xme_lst qN) (nomark _)) (xmw_and1 (qX (o_eq hr.units) (qJ (qP hr.units) (qJ (qP hr.units) (xmv 0) qK (fun _ _=>rfl)) qK (fun _ _=>rfl)) qK (nomark _))))) (qG (xms_expr (qe PySem.F.slot_list_pop PySem.F.type_list_pop t_pop (qJ (qP hr.units) (xmv 0) qK (fun _ _=>rfl)) (qA qK qN (qC ..))))))
  (qF (qV (qX (o_ne hr.units) (qJ (qP hr.units) (xmv 0) qK (fun _ _=>rfl)) (xme_lst qN) (nomark _)) (qF (qY 2 sc__law_take.nd rfl (by first|exact Or.inl rfl|exact Or.inr rfl) (qI o_mod (qJ (qP hr.units) (qJ (qP hr.units) (xmv 0) qK (fun _ _=>rfl)) qK (fun _ _=>rfl)) (xmv 1)))
  (qF (qR (qI o_div (qJ (qP hr.units) (qJ (qP hr.units) (xmv 0) qK (fun _ _=>rfl)) qK (fun _ _=>rfl)) (xmv 1)) (xmg_sub (qJ (qP hr.units) (xmv 0) qK (fun _ _=>rfl)) qK (s_setY hr.units)))
  (qG (qU (xmv 2))))) qQ)
  (qF (qR (qI o_add (qJ (qP hr.units) (xmv 0) qK (fun _ _=>rfl)) qK) (xmg_sub (xmv 0) qK (s_setY hr.units)))
  (qF (qY 3 sc__law_take.nd rfl (by first|exact Or.inl rfl|exact Or.inr rfl) (qI o_mod (qI o_mul (qI o_add (qI o_add (qJ (qP hr.units) (xmv 0) qK (fun _ _=>rfl)) (qI o_mul (qI o_mul qK (qJ (qP hr.units) (xmv 0) qK (fun _ _=>rfl))) (qJ (qP hr.units) (xmv 0) qK (fun _ _=>rfl)))) qK) qK) qK))
  (qF (qY 3 sc__law_take.nd rfl (by first|exact Or.inl rfl|exact Or.inr rfl) (qI o_mod (qI o_mul (xmv 3) (qI o_add (qI o_mod (xmv 3) qK) (qI o_mul qK (qJ (qP hr.units) (xmv 0) qK (fun _ _=>rfl))))) qK))
  (qG (qU (qI o_mod (qI o_add (qI o_div (xmv 3) qK) (qI o_div (xmv 3) qK)) (xmv 1)))))))))
noncomputable abbrev s__law_joined:Stmt:=top 18
noncomputable def b__law_joined:FS:=(mSeq (mIfS (mOr (mB (m2 (b2 (gCmp fun i j=>decide (j<i))) (mN (b1 gLen) (mCons (m2 (b2 gIxY) (mV 0) (mV 1)) mNil)) (m2 (b2 gSub) (mC (D.int (3))) (mN (b1 gInt) (mCons (m2 (b2 gEq) (mV 1) (mV 2)) mNil))))) (mB (m2 (b2 (gCmp fun i j=>decide (j<i))) (mN (b1 gLen) (mCons (m2 (b2 gIxY) (mV 0) (mV 2)) mNil)) (mC (D.int (3)))))) (mRet (mV 3)) mNx)
  (mSeq (mDrop (mMt (b2 gApp) (m2 (b2 gIxY) (mV 0) (mV 1)) (mCons (mTup (mCons (mV 3) (mCons (mC (D.int (0))) mNil))) mNil)))
  (mSeq (mDrop (mMt (b2 gApp) (m2 (b2 gIxY) (mV 0) (mV 2)) (mCons (mTup (mCons (mV 3) (mCons (mC (D.int (1))) mNil))) mNil)))
  (mRet (m2 (b2 gAdd) (mV 3) (mC (D.int (1))))))))
noncomputable def m__law_joined:FN:=fnB 4 b__law_joined
theorem sc__law_joined:FnScope ["_law_ends","_law_one","_law_other","_law_edge"] ["_law_ends","_law_one","_law_other","_law_edge"] (defScope s__law_joined):=⟨rfl,rfl,rfl,by decide+kernel,rfl,by decide+kernel,by decide+kernel⟩
theorem ok__law_joined {P:Program}{w:World}{K:Fg1}{mg:Str->Option Value}{base:Heap}{f:Addr}{fd:FuncData}(F:Fun K "_law_joined" "_law_joined" s__law_joined f fd)(hb:Binds K fd ["_law_ends","_law_one","_law_other","_law_edge"] [])(hm:mg "_law_joined"=some (.ref f))(B:Blt mg):
  Own P w K mg base 1 "_law_joined" 4 m__law_joined:=xown_mk (k:=0) (n:=4) (N:=["_law_ends","_law_one","_law_other","_law_edge"]) (ps:=["_law_ends","_law_one","_law_other","_law_edge"]) (b:=b__law_joined) F hb hm sc__law_joined rfl fun cdv A outer s H E hr=>
 (qF (qV (xmt_w (xmw_or (qX o_gt (qD c_len rfl B.z_len (by decide+kernel) (qA (qJ (qP hr.units) (xmv 0) (xmv 1) (fun _ _=>rfl)) qN (qS ..))) (qI o_sub qK (qE c_int rfl B.z_int (by decide+kernel) (qA (xme_cmp (o_eq hr.units) (xmv 1) (xmv 2) (nomark _)) qN (st_Compare ..)))) (nomark _)) (xmw_or1 (qX o_gt (qD c_len rfl B.z_len (by decide+kernel) (qA (qJ (qP hr.units) (xmv 0) (xmv 2) (fun _ _=>rfl)) qN (qS ..))) qK (nomark _))))) (qG (qU (xmv 3))) qQ)
  (qF (xms_expr (qe PySem.F.slot_list_append PySem.F.type_list_append t_app (qJ (qP hr.units) (xmv 0) (xmv 1) (fun _ _=>rfl)) (qA (xme_tup (qA (xmv 3) (qA qK qN (qC ..)) (qM ..))) qN (qT ..))))
  (qF (xms_expr (qe PySem.F.slot_list_append PySem.F.type_list_append t_app (qJ (qP hr.units) (xmv 0) (xmv 2) (fun _ _=>rfl)) (qA (xme_tup (qA (xmv 3) (qA qK qN (qC ..)) (qM ..))) qN (qT ..))))
  (qG (qU (qI o_add (xmv 3) qK))))))
noncomputable abbrev s__law_round:Stmt:=top 22
noncomputable def b__law_round:FS:=(mRet (mN (b1 gTup) (mCons (fComp 1 [0] (iR1 (mCons (mV 0) mNil)) (gN 0) mTrue (fEmit (mTup (mCons (mTup (mCons (m2 (b2 gMod) (m2 (b2 gAdd) (mV 0) (mC (D.int (1)))) (mV 1)) (mCons (mC (D.int (1))) mNil))) (mCons (mTup (mCons (m2 (b2 gMod) (m2 (b2 gSub) (m2 (b2 gAdd) (mV 0) (mV 1)) (mC (D.int (1)))) (mV 1)) (mCons (mC (D.int (0))) mNil))) mNil))))) mNil)))
noncomputable def m__law_round:FN:=fnB 1 b__law_round
theorem sc__law_round:FnScope ["_law_many"] ["_law_many"] (defScope s__law_round):=⟨rfl,rfl,rfl,by decide+kernel,rfl,by decide+kernel,by decide+kernel⟩
theorem ok__law_round {P:Program}{w:World}{K:Fg1}{mg:Str->Option Value}{base:Heap}{f:Addr}{fd:FuncData}(F:Fun K "_law_round" "_law_round" s__law_round f fd)(hb:Binds K fd ["_law_many"] [])(hm:mg "_law_round"=some (.ref f))(B:Blt mg):
  Own P w K mg base 1 "_law_round" 1 m__law_round:=xown_mk (k:=0) (n:=1) (N:=["_law_many"]) (ps:=["_law_many"]) (b:=b__law_round) F hb hm sc__law_round rfl fun cdv A outer s H E hr=>
 (qG (qU (qE c_tuple rfl B.z_tuple (by decide+kernel) (qA (qZ rfl (T:=["_law_room"]) (keep:=[0]) ⟨rfl,by decide+kernel,(List.forall_mem_cons.mpr ⟨⟨_,rfl,rfl,(by first|exact Or.inl rfl|exact Or.inr rfl),(by first | decide+kernel | (show ¬ (("_law_many":Str),NameKind.cell)∈(_:List (Str×NameKind));decide+kernel))⟩,(List.forall_mem_nil _)⟩)⟩ rfl (xmi_range1 rfl B.z_range (qA (xmv 0) qN (qM ..))) (fun _ _ _=>⟨(qO 0 (show List.Nodup (["_law_room","_law_many"]:List Str) by decide+kernel) rfl (by first|exact Or.inl rfl|exact Or.inr rfl)),xmif_nil,(xme_tup (qA (xme_tup (qA (qI o_mod (qI o_add (xmv 0) qK) (xmv 1)) (qA qK qN (qC ..)) (qB ..))) (qA (xme_tup (qA (qI o_mod (qI o_sub (qI o_add (xmv 0) (xmv 1)) qK) (xmv 1)) (qA qK qN (qC ..)) (qB ..))) qN (qT ..)) (qT ..)))⟩)) qN (st_ListComp ..)))))
noncomputable abbrev s__law_places:Stmt:=top 24
noncomputable def p__law_places_1:FS:=(mDrop (mMt (b2 gExt) (mV 1) (mCons (fComp 1 [2] (iR1 (mCons (mN (b1 gLen) (mCons (mV 3) mNil)) mNil)) (gN 0) mTrue (fEmit (mTup (mCons (mV 1) (mCons (mV 0) mNil))))) mNil)))
noncomputable def b__law_places:FS:=(mSeq (mAsg (mLst mNil) (gN 1))
  (mSeq (mFor (iEn (mCons (mV 0) mNil)) (gT 2 (gCs (gN 2) (gCs (gN 3) gNl))) p__law_places_1)
  (mRet (mV 1))))
noncomputable def m__law_places:FN:=fnB 4 b__law_places
theorem sc__law_places:FnScope ["_law_rooms","_law_places_here","_law_room","_law_doors"] ["_law_rooms"] (defScope s__law_places):=⟨rfl,rfl,rfl,by decide+kernel,rfl,by decide+kernel,by decide+kernel⟩
theorem ok__law_places {P:Program}{w:World}{K:Fg1}{mg:Str->Option Value}{base:Heap}{f:Addr}{fd:FuncData}(F:Fun K "_law_places" "_law_places" s__law_places f fd)(hb:Binds K fd ["_law_rooms"] [])(hm:mg "_law_places"=some (.ref f))(B:Blt mg):
  Own P w K mg base 1 "_law_places" 1 m__law_places:=xown_mk (k:=0) (n:=1) (N:=["_law_rooms","_law_places_here","_law_room","_law_doors"]) (ps:=["_law_rooms"]) (b:=b__law_places) F hb hm sc__law_places rfl fun cdv A outer s H E hr=>
 (qF (qY 1 sc__law_places.nd rfl (by first|exact Or.inl rfl|exact Or.inr rfl) (xme_lst qN))
  (qF (qW PassesOwn.never rfl (xmi_enum rfl B.z_enumerate (qA (xmv 0) qN (qM ..))) (xmg_tup rfl (xmgs_cons (qO 2 sc__law_places.nd rfl (by first|exact Or.inl rfl|exact Or.inr rfl)) (xmgs_cons (qO 3 sc__law_places.nd rfl (by first|exact Or.inl rfl|exact Or.inr rfl)) xmgs_nil))) (qG (xms_expr (qe PySem.F.slot_list_extend PySem.F.type_list_extend t_ext (xmv 1) (qA (qZ rfl (T:=["_law_door"]) (keep:=[2]) ⟨rfl,by decide+kernel,(List.forall_mem_cons.mpr ⟨⟨_,rfl,rfl,(by first|exact Or.inl rfl|exact Or.inr rfl),(by first | decide+kernel | (show ¬ (("_law_room":Str),NameKind.cell)∈(_:List (Str×NameKind));decide+kernel))⟩,(List.forall_mem_nil _)⟩)⟩ rfl (xmi_range1 rfl B.z_range (qA (qD c_len rfl B.z_len (by decide+kernel) (qA (xmv 3) qN (qM ..))) qN (qL ..))) (fun _ _ _=>⟨(qO 0 (show List.Nodup (["_law_door","_law_room"]:List Str) by decide+kernel) rfl (by first|exact Or.inl rfl|exact Or.inr rfl)),xmif_nil,(xme_tup (qA (xmv 1) (qA (xmv 0) qN (qM ..)) (qM ..)))⟩)) qN (st_ListComp ..))))))
  (qG (qU (xmv 1)))))
noncomputable abbrev s__law_put:Stmt:=top 27
noncomputable def b__law_put:FS:=(mSeq (mAsg (fComp 1 [] (iSeq (mV 0)) (gN 0) mTrue (fEmit (mN (b1 gLst) (mCons (mV 0) mNil)))) (gN 3))
  (mSeq (mAsg (mV 2) (gS (b3 gSetY) (m2 (b2 gIxY) (mV 3) (m2 (b2 gIxY) (mV 1) (mC (D.int (0))))) (m2 (b2 gIxY) (mV 1) (mC (D.int (1))))))
  (mRet (mN (b1 gTup) (mCons (fComp 1 [] (iSeq (mV 3)) (gN 0) mTrue (fEmit (mN (b1 gTup) (mCons (mV 0) mNil)))) mNil)))))
noncomputable def m__law_put:FN:=fnB 4 b__law_put
theorem sc__law_put:FnScope ["_law_rooms","_law_place","_law_goal","_law_made"] ["_law_rooms","_law_place","_law_goal"] (defScope s__law_put):=⟨rfl,rfl,rfl,by decide+kernel,rfl,by decide+kernel,by decide+kernel⟩
theorem ok__law_put {P:Program}{w:World}{K:Fg1}{mg:Str->Option Value}{base:Heap}{f:Addr}{fd:FuncData}(F:Fun K "_law_put" "_law_put" s__law_put f fd)(hb:Binds K fd ["_law_rooms","_law_place","_law_goal"] [])(hm:mg "_law_put"=some (.ref f))(B:Blt mg):
  Own P w K mg base 1 "_law_put" 3 m__law_put:=xown_mk (k:=0) (n:=3) (N:=["_law_rooms","_law_place","_law_goal","_law_made"]) (ps:=["_law_rooms","_law_place","_law_goal"]) (b:=b__law_put) F hb hm sc__law_put rfl fun cdv A outer s H E hr=>
 (qF (xfs_comp1 3 rfl (T:=["_law_doors"]) (keep:=[]) ⟨rfl,by decide+kernel,(List.forall_mem_nil _)⟩ rfl (qd (xmv 0)) (fun _ _ _=>⟨(qO 0 (show List.Nodup (["_law_doors"]:List Str) by decide+kernel) rfl (by first|exact Or.inl rfl|exact Or.inr rfl)),xmif_nil,(qE c_list rfl B.z_list (by decide+kernel) (qA (xmv 0) qN (qM ..)))⟩) sc__law_put.nd rfl (by first|exact Or.inl rfl|exact Or.inr rfl))
  (qF (qR (xmv 2) (xmg_sub (qJ (qP hr.units) (xmv 3) (qJ (qP hr.units) (xmv 1) qK (fun _ _=>rfl)) (fun _ _=>rfl)) (qJ (qP hr.units) (xmv 1) qK (fun _ _=>rfl)) (s_setY hr.units)))
  (qG (qU (qE c_tuple rfl B.z_tuple (by decide+kernel) (qA (qZ rfl (T:=["_law_doors"]) (keep:=[]) ⟨rfl,by decide+kernel,(List.forall_mem_nil _)⟩ rfl (qd (xmv 3)) (fun _ _ _=>⟨(qO 0 (show List.Nodup (["_law_doors"]:List Str) by decide+kernel) rfl (by first|exact Or.inl rfl|exact Or.inr rfl)),xmif_nil,(qE c_tuple rfl B.z_tuple (by decide+kernel) (qA (xmv 0) qN (qM ..)))⟩)) qN (st_ListComp ..)))))))
noncomputable abbrev s_is_room:Stmt:=top 10
noncomputable def b_is_room:FS:=(mSeq (mIfS (mOr (mNot (mTr (mIsT .tuple (mV 0)))) (mB (m2 (b2 (gCmp fun i j=>decide (j<i))) (mN (b1 gLen) (mCons (mV 0) mNil)) (mC d_MOST_DOORS)))) (mRet (mC (D.bl false))) mNx)
  (mRet (mN (b1 gAll) (mCons (fComp 1 [] (iSeq (mV 0)) (gN 0) mTrue (fEmit (mAndV (mN (mCall 2 m_is_tuple_of) (mCons (mV 0) (mCons (mC (D.int (2))) mNil))) (mAndV (mN (mCall 1 m_is_whole) (mCons (m2 (b2 gIxY) (mV 0) (mC (D.int (0)))) mNil)) (mN (mCall 1 m_is_whole) (mCons (m2 (b2 gIxY) (mV 0) (mC (D.int (1)))) mNil)))))) mNil))))
noncomputable def m_is_room:FN:=fnB 1 b_is_room
theorem sc_is_room:FnScope ["thing"] ["thing"] (defScope s_is_room):=⟨rfl,rfl,rfl,by decide+kernel,rfl,by decide+kernel,by decide+kernel⟩
theorem ok_is_room {P:Program}{w:World}{K:Fg1}{mg:Str->Option Value}{base:Heap}{f:Addr}{fd:FuncData}(F:Fun K "is_room" "is_room" s_is_room f fd)(hb:Binds K fd ["thing"] [])(hm:mg "is_room"=some (.ref f))(B:Blt mg)(c_MOST_DOORS:CGl K mg "MOST_DOORS" d_MOST_DOORS)(o_is_tuple_of:Own P w K mg base 1 "is_tuple_of" 2 m_is_tuple_of)(o_is_whole:Own P w K mg base 1 "is_whole" 1 m_is_whole):
  Own P w K mg base 2 "is_room" 1 m_is_room:=xown_mk (k:=1) (n:=1) (N:=["thing"]) (ps:=["thing"]) (b:=b_is_room) F hb hm sc_is_room rfl fun cdv A outer s H E hr=>
 (qF (qV (xmt_w (xmw_or (xmt_not (xmt_tru (xme_isinst .tuple rfl B.z_isinstance rfl B.z_tuple (by decide+kernel) (xmv 0)))) (xmw_or1 (qX o_gt (qD c_len rfl B.z_len (by decide+kernel) (qA (xmv 0) qN (qM ..))) (xme_glob c_MOST_DOORS rfl) (nomark _))))) (qG (qU xme_bl)) qQ)
  (qG (qU (qD (c_all rfl) rfl B.z_all (by decide+kernel) (qA (qZ rfl (T:=["door"]) (keep:=[]) ⟨rfl,by decide+kernel,(List.forall_mem_nil _)⟩ rfl (qd (xmv 0)) (fun _ _ _=>⟨(qO 0 (show List.Nodup (["door"]:List Str) by decide+kernel) rfl (by first|exact Or.inl rfl|exact Or.inr rfl)),xmif_nil,(xme_and (qH o_is_tuple_of hr (by first|decide|omega) rfl (qA (xmv 0) (qA qK qN (qC ..)) (qM ..))) (xme_and (qH o_is_whole hr (by first|decide|omega) rfl (qA (qJ (qP hr.units) (xmv 0) qK (fun _ _=>rfl)) qN (qS ..))) (xme_one (qH o_is_whole hr (by first|decide|omega) rfl (qA (qJ (qP hr.units) (xmv 0) qK (fun _ _=>rfl)) qN (qS ..))))))⟩)) qN (st_ListComp ..))))))
noncomputable abbrev s_leads_back:Stmt:=top 11
noncomputable def b_leads_back:FS:=(mRet (mN (b1 gAll) (mCons (fComp 2 [0] (iR1 (mCons (mN (b1 gLen) (mCons (mV 0) mNil)) mNil)) (gN 0) mTrue (fNest (iR1 (mCons (mN (b1 gLen) (mCons (m2 (b2 gIxY) (mV 2) (mV 0)) mNil)) mNil)) (gN 1) mTrue (fEmit (mN (mCall 3 m_is_paired) (mCons (mV 2) (mCons (mV 0) (mCons (mV 1) mNil))))))) mNil)))
noncomputable def m_leads_back:FN:=fnB 1 b_leads_back
theorem sc_leads_back:FnScope ["rooms"] ["rooms"] (defScope s_leads_back):=⟨rfl,rfl,rfl,by decide+kernel,rfl,by decide+kernel,by decide+kernel⟩
theorem ok_leads_back {P:Program}{w:World}{K:Fg1}{mg:Str->Option Value}{base:Heap}{f:Addr}{fd:FuncData}(F:Fun K "leads_back" "leads_back" s_leads_back f fd)(hb:Binds K fd ["rooms"] [])(hm:mg "leads_back"=some (.ref f))(B:Blt mg)(o_is_paired:Own P w K mg base 1 "is_paired" 3 m_is_paired):
  Own P w K mg base 2 "leads_back" 1 m_leads_back:=xown_mk (k:=1) (n:=1) (N:=["rooms"]) (ps:=["rooms"]) (b:=b_leads_back) F hb hm sc_leads_back rfl fun cdv A outer s H E hr=>
 (qG (qU (qD (c_all rfl) rfl B.z_all (by decide+kernel) (qA (xfe_comp2 rfl (T:=["room","door"]) (keep:=[0]) ⟨rfl,by decide+kernel,(List.forall_mem_cons.mpr ⟨⟨_,rfl,rfl,(by first|exact Or.inl rfl|exact Or.inr rfl),(by first | decide+kernel | (show ¬ (("rooms":Str),NameKind.cell)∈(_:List (Str×NameKind));decide+kernel))⟩,(List.forall_mem_nil _)⟩)⟩ rfl (xmi_range1 rfl B.z_range (qA (qD c_len rfl B.z_len (by decide+kernel) (qA (xmv 0) qN (qM ..))) qN (qL ..))) (fun _ _ _=>⟨(qO 0 (show List.Nodup (["room","door","rooms"]:List Str) by decide+kernel) rfl (by first|exact Or.inl rfl|exact Or.inr rfl)),xmif_nil,(xmi_range1 rfl B.z_range (qA (qD c_len rfl B.z_len (by decide+kernel) (qA (qJ (qP hr.units) (xmv 2) (xmv 0) (fun _ _=>rfl)) qN (qS ..))) qN (qL ..))),(qO 1 (show List.Nodup (["room","door","rooms"]:List Str) by decide+kernel) rfl (by first|exact Or.inl rfl|exact Or.inr rfl)),xmif_nil,(qH o_is_paired hr (by first|decide|omega) rfl (qA (xmv 2) (qA (xmv 0) (qA (xmv 1) qN (qM ..)) (qM ..)) (qM ..)))⟩)) qN (st_ListComp ..)))))
noncomputable abbrev s_hangs_together:Stmt:=top 13
noncomputable def b_hangs_together:FS:=(mRet (m2 (b2 gNotInY) (mC D.non) (mN (mCall 2 m_ways) (mCons (mV 0) (mCons (mC (D.int (0))) mNil)))))
noncomputable def m_hangs_together:FN:=fnB 1 b_hangs_together
theorem sc_hangs_together:FnScope ["rooms"] ["rooms"] (defScope s_hangs_together):=⟨rfl,rfl,rfl,by decide+kernel,rfl,by decide+kernel,by decide+kernel⟩
theorem ok_hangs_together {P:Program}{w:World}{K:Fg1}{mg:Str->Option Value}{base:Heap}{f:Addr}{fd:FuncData}(F:Fun K "hangs_together" "hangs_together" s_hangs_together f fd)(hb:Binds K fd ["rooms"] [])(hm:mg "hangs_together"=some (.ref f))(B:Blt mg)(o_ways:Own P w K mg base 1 "ways" 2 m_ways):
  Own P w K mg base 2 "hangs_together" 1 m_hangs_together:=xown_mk (k:=1) (n:=1) (N:=["rooms"]) (ps:=["rooms"]) (b:=b_hangs_together) F hb hm sc_hangs_together rfl fun cdv A outer s H E hr=>
 (qG (qU (xme_cmp (o_notInY hr.units) xme_non (qH o_ways hr (by first|decide|omega) rfl (qA (xmv 0) (qA qK qN (qC ..)) (qM ..))) (by with_unfolding_all rfl))))
noncomputable abbrev s__law_of:Stmt:=top 17
noncomputable def b__law_of:FS:=(mRet (m2 (b2 gIxY) (mV 1) (mN (mCall 2 m__law_take) (mCons (mV 0) (mCons (mN (b1 gLen) (mCons (mV 1) mNil)) mNil)))))
noncomputable def m__law_of:FN:=fnB 2 b__law_of
theorem sc__law_of:FnScope ["_law_hand_here","_law_some"] ["_law_hand_here","_law_some"] (defScope s__law_of):=⟨rfl,rfl,rfl,by decide+kernel,rfl,by decide+kernel,by decide+kernel⟩
theorem ok__law_of {P:Program}{w:World}{K:Fg1}{mg:Str->Option Value}{base:Heap}{f:Addr}{fd:FuncData}(F:Fun K "_law_of" "_law_of" s__law_of f fd)(hb:Binds K fd ["_law_hand_here","_law_some"] [])(hm:mg "_law_of"=some (.ref f))(B:Blt mg)(o__law_take:Own P w K mg base 1 "_law_take" 2 m__law_take):
  Own P w K mg base 2 "_law_of" 2 m__law_of:=xown_mk (k:=1) (n:=2) (N:=["_law_hand_here","_law_some"]) (ps:=["_law_hand_here","_law_some"]) (b:=b__law_of) F hb hm sc__law_of rfl fun cdv A outer s H E hr=>
 (qG (qU (qJ (qP hr.units) (xmv 1) (qH o__law_take hr (by first|decide|omega) rfl (qA (xmv 0) (qA (qD c_len rfl B.z_len (by decide+kernel) (qA (xmv 1) qN (qM ..))) qN (qL ..)) (qM ..))) (fun _ _=>rfl))))
noncomputable abbrev s__law_order:Stmt:=top 20
noncomputable def b__law_order:FS:=(mSeq (mAsg (mN (b1 gLst) (mCons (mV 1) mNil)) (gN 2))
  (mRet (fComp 1 [2,0] (iR1 (mCons (mN (b1 gLen) (mCons (mV 1) mNil)) mNil)) (gN 0) mTrue (fEmit (mMt (b2 gPop) (mV 1) (mCons (mN (mCall 2 m__law_take) (mCons (mV 2) (mCons (mN (b1 gLen) (mCons (mV 1) mNil)) mNil))) mNil))))))
noncomputable def m__law_order:FN:=fnB 3 b__law_order
theorem sc__law_order:FnScope ["_law_hand_here","_law_some","_law_left"] ["_law_hand_here","_law_some"] (defScope s__law_order):=⟨rfl,rfl,rfl,by decide+kernel,rfl,by decide+kernel,by decide+kernel⟩
theorem ok__law_order {P:Program}{w:World}{K:Fg1}{mg:Str->Option Value}{base:Heap}{f:Addr}{fd:FuncData}(F:Fun K "_law_order" "_law_order" s__law_order f fd)(hb:Binds K fd ["_law_hand_here","_law_some"] [])(hm:mg "_law_order"=some (.ref f))(B:Blt mg)(o__law_take:Own P w K mg base 1 "_law_take" 2 m__law_take):
  Own P w K mg base 2 "_law_order" 2 m__law_order:=xown_mk (k:=1) (n:=2) (N:=["_law_hand_here","_law_some","_law_left"]) (ps:=["_law_hand_here","_law_some"]) (b:=b__law_order) F hb hm sc__law_order rfl fun cdv A outer s H E hr=>
 (qF (qY 2 sc__law_order.nd rfl (by first|exact Or.inl rfl|exact Or.inr rfl) (qE c_list rfl B.z_list (by decide+kernel) (qA (xmv 1) qN (qM ..))))
  (qG (qU (qZ rfl (T:=["_law_k"]) (keep:=[2,0]) ⟨rfl,by decide+kernel,(List.forall_mem_cons.mpr ⟨⟨_,rfl,rfl,(by first|exact Or.inl rfl|exact Or.inr rfl),(by first | decide+kernel | (show ¬ (("_law_left":Str),NameKind.cell)∈(_:List (Str×NameKind));decide+kernel))⟩,(List.forall_mem_cons.mpr ⟨⟨_,rfl,rfl,(by first|exact Or.inl rfl|exact Or.inr rfl),(by first | decide+kernel | (show ¬ (("_law_hand_here":Str),NameKind.cell)∈(_:List (Str×NameKind));decide+kernel))⟩,(List.forall_mem_nil _)⟩)⟩)⟩ rfl (xmi_range1 rfl B.z_range (qA (qD c_len rfl B.z_len (by decide+kernel) (qA (xmv 1) qN (qM ..))) qN (qL ..))) (fun _ _ _=>⟨(qO 0 (show List.Nodup (["_law_k","_law_left","_law_hand_here"]:List Str) by decide+kernel) rfl (by first|exact Or.inl rfl|exact Or.inr rfl)),xmif_nil,(qe PySem.F.slot_list_pop PySem.F.type_list_pop t_pop (xmv 1) (qA (qH o__law_take hr (by first|decide|omega) rfl (qA (xmv 2) (qA (qD c_len rfl B.z_len (by decide+kernel) (qA (xmv 1) qN (qM ..))) qN (qL ..)) (qM ..))) qN (qL ..)))⟩)))))
noncomputable abbrev s__law_is_web:Stmt:=top 25
noncomputable def p__law_is_web_1:FS:=(mSeq (mAsg (m2 (b2 gIxY) (m2 (b2 gIxY) (mV 0) (mV 2)) (mV 3)) (gN 4))
  (mIfS (mOr (mB (m2 (b2 gNotInY) (mV 4) (mV 1))) (mOr (mB (m2 (b2 gEq) (mV 4) (mTup (mCons (mV 2) (mCons (mV 3) mNil))))) (mB (m2 (b2 gNe) (m2 (b2 gIxY) (m2 (b2 gIxY) (mV 0) (m2 (b2 gIxY) (mV 4) (mC (D.int (0))))) (m2 (b2 gIxY) (mV 4) (mC (D.int (1))))) (mTup (mCons (mV 2) (mCons (mV 3) mNil))))))) (mRet (mC (D.bl false))) mNx))
noncomputable def p__law_is_web_2:FS:=(mAsg (mN (b2 gMin) (mCons (m2 (b2 gIxY) (mV 5) (mV 2)) (mCons (m2 (b2 gIxY) (mV 5) (m2 (b2 gIxY) (m2 (b2 gIxY) (m2 (b2 gIxY) (mV 0) (mV 2)) (mV 3)) (mC (D.int (0))))) mNil))) (gS (b3 gSetY) (mV 5) (mV 2)))
noncomputable def p__law_is_web_3:FS:=(mFor (iSeq (mV 1)) (gT 2 (gCs (gN 2) (gCs (gN 3) gNl))) p__law_is_web_2)
noncomputable def b__law_is_web:FS:=(mSeq (mIfS (mOr (mNot (mB (mCh (b2 (gCmp fun i j=>decide (i<=j))) (b2 (gCmp fun i j=>decide (i<=j))) (mC (D.int (1))) (mN (b1 gLen) (mCons (mV 0) mNil)) (mC (D.int (8)))))) (mB (m2 (b2 (gCmp fun i j=>decide (j<i))) (mN (b1 gMaxL) (mCons (fComp 1 [] (iSeq (mV 0)) (gN 0) mTrue (fEmit (mN (b1 gLen) (mCons (mV 0) mNil)))) mNil)) (mC (D.int (4)))))) (mRet (mC (D.bl false))) mNx)
  (mSeq (mAsg (mN (mCall 1 m__law_places) (mCons (mV 0) mNil)) (gN 1))
  (mSeq (mFor (iSeq (mV 1)) (gT 2 (gCs (gN 2) (gCs (gN 3) gNl))) p__law_is_web_1)
  (mSeq (mAsg (mLR1 (mCons (mN (b1 gLen) (mCons (mV 0) mNil)) mNil)) (gN 5))
  (mSeq (mFor (iR1 (mCons (mN (b1 gLen) (mCons (mV 0) mNil)) mNil)) (gN 6) p__law_is_web_3)
  (mRet (m2 (b2 gEq) (mV 5) (m2 (b2 gMulL) (mLst (mCons (mC (D.int (0))) mNil)) (mN (b1 gLen) (mCons (mV 0) mNil))))))))))
noncomputable def m__law_is_web:FN:=fnB 7 b__law_is_web
theorem sc__law_is_web:FnScope ["_law_rooms","_law_places_here","_law_room","_law_door","_law_goal","_law_least","_law_turn"] ["_law_rooms"] (defScope s__law_is_web):=⟨rfl,rfl,rfl,by decide+kernel,rfl,by decide+kernel,by decide+kernel⟩
theorem ok__law_is_web {P:Program}{w:World}{K:Fg1}{mg:Str->Option Value}{base:Heap}{f:Addr}{fd:FuncData}(F:Fun K "_law_is_web" "_law_is_web" s__law_is_web f fd)(hb:Binds K fd ["_law_rooms"] [])(hm:mg "_law_is_web"=some (.ref f))(B:Blt mg)(o__law_places:Own P w K mg base 1 "_law_places" 1 m__law_places):
  Own P w K mg base 2 "_law_is_web" 1 m__law_is_web:=xown_mk (k:=1) (n:=1) (N:=["_law_rooms","_law_places_here","_law_room","_law_door","_law_goal","_law_least","_law_turn"]) (ps:=["_law_rooms"]) (b:=b__law_is_web) F hb hm sc__law_is_web rfl fun cdv A outer s H E hr=>
 (qF (qV (xmt_w (xmw_or (xmt_not (xmt_chain o_le o_le qK (qD c_len rfl B.z_len (by decide+kernel) (qA (xmv 0) qN (qM ..))) qK)) (xmw_or1 (qX o_gt (qD (c_maxL rfl) rfl B.z_max (by decide+kernel) (qA (qZ rfl (T:=["_law_doors"]) (keep:=[]) ⟨rfl,by decide+kernel,(List.forall_mem_nil _)⟩ rfl (qd (xmv 0)) (fun _ _ _=>⟨(qO 0 (show List.Nodup (["_law_doors"]:List Str) by decide+kernel) rfl (by first|exact Or.inl rfl|exact Or.inr rfl)),xmif_nil,(qD c_len rfl B.z_len (by decide+kernel) (qA (xmv 0) qN (qM ..)))⟩)) qN (st_ListComp ..))) qK (nomark _))))) (qG (qU xme_bl)) qQ)
  (qF (qY 1 sc__law_is_web.nd rfl (by first|exact Or.inl rfl|exact Or.inr rfl) (qH o__law_places hr (by first|decide|omega) rfl (qA (xmv 0) qN (qM ..))))
  (qF (qW PassesOwn.never rfl (qd (xmv 1)) (xmg_tup rfl (xmgs_cons (qO 2 sc__law_is_web.nd rfl (by first|exact Or.inl rfl|exact Or.inr rfl)) (xmgs_cons (qO 3 sc__law_is_web.nd rfl (by first|exact Or.inl rfl|exact Or.inr rfl)) xmgs_nil))) (qF (qY 4 sc__law_is_web.nd rfl (by first|exact Or.inl rfl|exact Or.inr rfl) (qJ (qP hr.units) (qJ (qP hr.units) (xmv 0) (xmv 2) (fun _ _=>rfl)) (xmv 3) (fun _ _=>rfl)))
  (qG (qV (xmt_w (xmw_or (qX (o_notInY hr.units) (xmv 4) (xmv 1) (by with_unfolding_all rfl)) (xmw_or (qX (o_eq hr.units) (xmv 4) (xme_tup (qA (xmv 2) (qA (xmv 3) qN (qM ..)) (qM ..))) (nomark _)) (xmw_or1 (qX (o_ne hr.units) (qJ (qP hr.units) (qJ (qP hr.units) (xmv 0) (qJ (qP hr.units) (xmv 4) qK (fun _ _=>rfl)) (fun _ _=>rfl)) (qJ (qP hr.units) (xmv 4) qK (fun _ _=>rfl)) (fun _ _=>rfl)) (xme_tup (qA (xmv 2) (qA (xmv 3) qN (qM ..)) (qM ..))) (nomark _)))))) (qG (qU xme_bl)) qQ))))
  (qF (qY 5 sc__law_is_web.nd rfl (by first|exact Or.inl rfl|exact Or.inr rfl) (xme_listR1 rfl rfl B.z_range rfl B.z_list (qA (qD c_len rfl B.z_len (by decide+kernel) (qA (xmv 0) qN (qM ..))) qN (qL ..))))
  (qF (qW PassesOwn.never rfl (xmi_range1 rfl B.z_range (qA (qD c_len rfl B.z_len (by decide+kernel) (qA (xmv 0) qN (qM ..))) qN (qL ..))) (qO 6 sc__law_is_web.nd rfl (by first|exact Or.inl rfl|exact Or.inr rfl)) (qG (qW PassesOwn.never rfl (qd (xmv 1)) (xmg_tup rfl (xmgs_cons (qO 2 sc__law_is_web.nd rfl (by first|exact Or.inl rfl|exact Or.inr rfl)) (xmgs_cons (qO 3 sc__law_is_web.nd rfl (by first|exact Or.inl rfl|exact Or.inr rfl)) xmgs_nil))) (qG (qR (qD (c_min rfl) rfl B.z_min (by decide+kernel) (qA (qJ (qP hr.units) (xmv 5) (xmv 2) (fun _ _=>rfl)) (qA (qJ (qP hr.units) (xmv 5) (qJ (qP hr.units) (qJ (qP hr.units) (qJ (qP hr.units) (xmv 0) (xmv 2) (fun _ _=>rfl)) (xmv 3) (fun _ _=>rfl)) qK (fun _ _=>rfl)) (fun _ _=>rfl)) qN (qS ..)) (qS ..))) (xmg_sub (xmv 5) (xmv 2) (s_setY hr.units)))))))
  (qG (qU (xme_cmp (o_eq hr.units) (xmv 5) (qI o_mulL (xme_lst (qA qK qN (qC ..))) (qD c_len rfl B.z_len (by decide+kernel) (qA (xmv 0) qN (qM ..)))) (nomark _)))))))))
noncomputable abbrev s_has_form:Stmt:=top 9
noncomputable def b_has_form:FS:=(mSeq (mIfS (mOr (mNot (mTr (mIsT .tuple (mV 0)))) (mNot (mB (mCh (b2 (gCmp fun i j=>decide (i<=j))) (b2 (gCmp fun i j=>decide (i<=j))) (mC (D.int (1))) (mN (b1 gLen) (mCons (mV 0) mNil)) (mC d_MOST_ROOMS))))) (mRet (mC (D.bl false))) mNx)
  (mRet (mN (b1 gAll) (mCons (fComp 1 [] (iSeq (mV 0)) (gN 0) mTrue (fEmit (mN (mCall 1 m_is_room) (mCons (mV 0) mNil)))) mNil))))
noncomputable def m_has_form:FN:=fnB 1 b_has_form
theorem sc_has_form:FnScope ["thing"] ["thing"] (defScope s_has_form):=⟨rfl,rfl,rfl,by decide+kernel,rfl,by decide+kernel,by decide+kernel⟩
theorem ok_has_form {P:Program}{w:World}{K:Fg1}{mg:Str->Option Value}{base:Heap}{f:Addr}{fd:FuncData}(F:Fun K "has_form" "has_form" s_has_form f fd)(hb:Binds K fd ["thing"] [])(hm:mg "has_form"=some (.ref f))(B:Blt mg)(c_MOST_ROOMS:CGl K mg "MOST_ROOMS" d_MOST_ROOMS)(o_is_room:Own P w K mg base 2 "is_room" 1 m_is_room):
  Own P w K mg base 3 "has_form" 1 m_has_form:=xown_mk (k:=2) (n:=1) (N:=["thing"]) (ps:=["thing"]) (b:=b_has_form) F hb hm sc_has_form rfl fun cdv A outer s H E hr=>
 (qF (qV (xmt_w (xmw_or (xmt_not (xmt_tru (xme_isinst .tuple rfl B.z_isinstance rfl B.z_tuple (by decide+kernel) (xmv 0)))) (xmw_or1 (xmt_not (xmt_chain o_le o_le qK (qD c_len rfl B.z_len (by decide+kernel) (qA (xmv 0) qN (qM ..))) (xme_glob c_MOST_ROOMS rfl)))))) (qG (qU xme_bl)) qQ)
  (qG (qU (qD (c_all rfl) rfl B.z_all (by decide+kernel) (qA (qZ rfl (T:=["room"]) (keep:=[]) ⟨rfl,by decide+kernel,(List.forall_mem_nil _)⟩ rfl (qd (xmv 0)) (fun _ _ _=>⟨(qO 0 (show List.Nodup (["room"]:List Str) by decide+kernel) rfl (by first|exact Or.inl rfl|exact Or.inr rfl)),xmif_nil,(qH o_is_room hr (by first|decide|omega) rfl (qA (xmv 0) qN (qM ..)))⟩)) qN (st_ListComp ..))))))
noncomputable abbrev s__law_drawn:Stmt:=top 19
noncomputable def p__law_drawn_1:FS:=(mSeq (mAsg (fComp 1 [4] (iR1 (mCons (mV 5) mNil)) (gN 0) (mB (m2 (b2 gLt) (mN (b1 gLen) (mCons (m2 (b2 gIxY) (mV 1) (mV 0)) mNil)) (mC (D.int (4))))) (fEmit (mV 0))) (gN 6))
  (mAsg (mN (mCall 4 m__law_joined) (mCons (mV 4) (mCons (mN (mCall 2 m__law_of) (mCons (mV 0) (mCons (mV 6) mNil))) (mCons (mV 5) (mCons (mV 3) mNil))))) (gN 3)))
noncomputable def p__law_drawn_2:FS:=(mSeq (mAsg (mN (mCall 2 m__law_take) (mCons (mV 0) (mCons (mV 2) mNil))) (gN 8))
  (mAsg (mN (mCall 4 m__law_joined) (mCons (mV 4) (mCons (mV 8) (mCons (mN (mCall 2 m__law_take) (mCons (mV 0) (mCons (mV 2) mNil))) (mCons (mV 3) mNil))))) (gN 3)))
noncomputable def p__law_drawn_3:FS:=(mAsg (mTup (mCons (mV 5) (mCons (mV 12) mNil))) (gS (b3 gSetY) (mV 10) (mV 13)))
noncomputable def p__law_drawn_4:FS:=(mFor (iEn (mCons (mV 11) mNil)) (gT 2 (gCs (gN 12) (gCs (gN 13) gNl))) p__law_drawn_3)
noncomputable def b__law_drawn:FS:=(mSeq (mAsg (mTup (mCons (m2 (b2 gAdd) (mC (D.int (1))) (mN (mCall 2 m__law_take) (mCons (mV 0) (mCons (mV 1) mNil)))) (mCons (mC (D.int (0))) mNil))) (gT 2 (gCs (gN 2) (gCs (gN 3) gNl))))
  (mSeq (mAsg (fComp 1 [] (iR1 (mCons (mV 2) mNil)) (gN 0) mTrue (fEmit (mLst mNil))) (gN 4))
  (mSeq (mFor (iR2 (mCons (mC (D.int (1))) (mCons (mV 2) mNil))) (gN 5) p__law_drawn_1)
  (mSeq (mFor (iR1 (mCons (mN (mCall 2 m__law_take) (mCons (mV 0) (mCons (mC (D.int (10))) mNil))) mNil)) (gN 7) p__law_drawn_2)
  (mSeq (mAsg (fComp 1 [0] (iSeq (mV 4)) (gN 0) mTrue (fEmit (mN (mCall 2 m__law_order) (mCons (mV 1) (mCons (mV 0) mNil))))) (gN 9))
  (mSeq (mAsg mDnew (gN 10))
  (mSeq (mFor (iEn (mCons (mV 9) mNil)) (gT 2 (gCs (gN 5) (gCs (gN 11) gNl))) p__law_drawn_4)
  (mRet (mN (b1 gTup) (mCons (fComp 1 [10] (iSeq (mV 9)) (gN 0) mTrue (fEmit (mN (b1 gTup) (mCons (fComp 2 [1] (iSeq (mV 0)) (gT 2 (gCs (gN 0) (gCs (gN 1) gNl))) mTrue (fEmit (m2 (b2 gIxY) (mV 2) (mTup (mCons (mV 0) (mCons (m2 (b2 gSub) (mC (D.int (1))) (mV 1)) mNil)))))) mNil)))) mNil))))))))))
noncomputable def m__law_drawn:FN:=fnB 14 b__law_drawn
theorem sc__law_drawn:FnScope ["_law_hand_here","_law_most","_law_many","_law_edge","_law_ends","_law_room","_law_free","_law_k","_law_one","_law_doors","_law_places_here","_law_some","_law_door","_law_end"] ["_law_hand_here","_law_most"] (defScope s__law_drawn):=⟨rfl,rfl,rfl,by decide+kernel,rfl,by decide+kernel,by decide+kernel⟩
theorem ok__law_drawn {P:Program}{w:World}{K:Fg1}{mg:Str->Option Value}{base:Heap}{f:Addr}{fd:FuncData}(F:Fun K "_law_drawn" "_law_drawn" s__law_drawn f fd)(hb:Binds K fd ["_law_hand_here","_law_most"] [])(hm:mg "_law_drawn"=some (.ref f))(B:Blt mg)(o__law_joined:Own P w K mg base 1 "_law_joined" 4 m__law_joined)(o__law_of:Own P w K mg base 2 "_law_of" 2 m__law_of)(o__law_order:Own P w K mg base 2 "_law_order" 2 m__law_order)(o__law_take:Own P w K mg base 1 "_law_take" 2 m__law_take):
  Own P w K mg base 3 "_law_drawn" 2 m__law_drawn:=xown_mk (k:=2) (n:=2) (N:=["_law_hand_here","_law_most","_law_many","_law_edge","_law_ends","_law_room","_law_free","_law_k","_law_one","_law_doors","_law_places_here","_law_some","_law_door","_law_end"]) (ps:=["_law_hand_here","_law_most"]) (b:=b__law_drawn) F hb hm sc__law_drawn rfl fun cdv A outer s H E hr=>
 (qF (xms_par 2 3 rfl sc__law_drawn.nd rfl rfl (by decide) rfl rfl (qA (qI o_add qK (qH o__law_take hr (by first|decide|omega) rfl (qA (xmv 0) (qA (xmv 1) qN (qM ..)) (qM ..)))) (qA qK qN (qC ..)) (qB ..)))
  (qF (qY 4 sc__law_drawn.nd rfl (by first|exact Or.inl rfl|exact Or.inr rfl) (qZ rfl (T:=["_law_room"]) (keep:=[]) ⟨rfl,by decide+kernel,(List.forall_mem_nil _)⟩ rfl (xmi_range1 rfl B.z_range (qA (xmv 2) qN (qM ..))) (fun _ _ _=>⟨(qO 0 (show List.Nodup (["_law_room"]:List Str) by decide+kernel) rfl (by first|exact Or.inl rfl|exact Or.inr rfl)),xmif_nil,(xme_lst qN)⟩)))
  (qF (qW PassesOwn.never rfl (xmi_range2 rfl B.z_range (qA qK (qA (xmv 2) qN (qM ..)) (qC ..))) (qO 5 sc__law_drawn.nd rfl (by first|exact Or.inl rfl|exact Or.inr rfl)) (qF (xfs_comp1 6 rfl (T:=["_law_one"]) (keep:=[4]) ⟨rfl,by decide+kernel,(List.forall_mem_cons.mpr ⟨⟨_,rfl,rfl,(by first|exact Or.inl rfl|exact Or.inr rfl),(by first | decide+kernel | (show ¬ (("_law_ends":Str),NameKind.cell)∈(_:List (Str×NameKind));decide+kernel))⟩,(List.forall_mem_nil _)⟩)⟩ rfl (xmi_range1 rfl B.z_range (qA (xmv 5) qN (qM ..))) (fun _ _ _=>⟨(qO 0 (show List.Nodup (["_law_one","_law_ends"]:List Str) by decide+kernel) rfl (by first|exact Or.inl rfl|exact Or.inr rfl)),(xmif_one (qX (o_ltN hr.units) (qD c_len rfl B.z_len (by decide+kernel) (qA (qJ (qP hr.units) (xmv 1) (xmv 0) (fun _ _=>rfl)) qN (qS ..))) qK (nomark _))),(xmv 0)⟩) sc__law_drawn.nd rfl (by first|exact Or.inl rfl|exact Or.inr rfl))
  (qG (qY 3 sc__law_drawn.nd rfl (by first|exact Or.inl rfl|exact Or.inr rfl) (qH o__law_joined hr (by first|decide|omega) rfl (qA (xmv 4) (qA (qH o__law_of hr (by first|decide|omega) rfl (qA (xmv 0) (qA (xmv 6) qN (qM ..)) (qM ..))) (qA (xmv 5) (qA (xmv 3) qN (qM ..)) (qM ..)) (qL ..)) (qM ..)))))))
  (qF (qW PassesOwn.never rfl (xmi_range1 rfl B.z_range (qA (qH o__law_take hr (by first|decide|omega) rfl (qA (xmv 0) (qA qK qN (qC ..)) (qM ..))) qN (qL ..))) (qO 7 sc__law_drawn.nd rfl (by first|exact Or.inl rfl|exact Or.inr rfl)) (qF (qY 8 sc__law_drawn.nd rfl (by first|exact Or.inl rfl|exact Or.inr rfl) (qH o__law_take hr (by first|decide|omega) rfl (qA (xmv 0) (qA (xmv 2) qN (qM ..)) (qM ..))))
  (qG (qY 3 sc__law_drawn.nd rfl (by first|exact Or.inl rfl|exact Or.inr rfl) (qH o__law_joined hr (by first|decide|omega) rfl (qA (xmv 4) (qA (xmv 8) (qA (qH o__law_take hr (by first|decide|omega) rfl (qA (xmv 0) (qA (xmv 2) qN (qM ..)) (qM ..))) (qA (xmv 3) qN (qM ..)) (qL ..)) (qM ..)) (qM ..)))))))
  (qF (xfs_comp1 9 rfl (T:=["_law_some"]) (keep:=[0]) ⟨rfl,by decide+kernel,(List.forall_mem_cons.mpr ⟨⟨_,rfl,rfl,(by first|exact Or.inl rfl|exact Or.inr rfl),(by first | decide+kernel | (show ¬ (("_law_hand_here":Str),NameKind.cell)∈(_:List (Str×NameKind));decide+kernel))⟩,(List.forall_mem_nil _)⟩)⟩ rfl (qd (xmv 4)) (fun _ _ _=>⟨(qO 0 (show List.Nodup (["_law_some","_law_hand_here"]:List Str) by decide+kernel) rfl (by first|exact Or.inl rfl|exact Or.inr rfl)),xmif_nil,(qH o__law_order hr (by first|decide|omega) rfl (qA (xmv 1) (qA (xmv 0) qN (qM ..)) (qM ..)))⟩) sc__law_drawn.nd rfl (by first|exact Or.inl rfl|exact Or.inr rfl))
  (qF (qY 10 sc__law_drawn.nd rfl (by first|exact Or.inl rfl|exact Or.inr rfl) xme_dnew)
  (qF (qW PassesOwn.never rfl (xmi_enum rfl B.z_enumerate (qA (xmv 9) qN (qM ..))) (xmg_tup rfl (xmgs_cons (qO 5 sc__law_drawn.nd rfl (by first|exact Or.inl rfl|exact Or.inr rfl)) (xmgs_cons (qO 11 sc__law_drawn.nd rfl (by first|exact Or.inl rfl|exact Or.inr rfl)) xmgs_nil))) (qG (qW PassesOwn.never rfl (xmi_enum rfl B.z_enumerate (qA (xmv 11) qN (qM ..))) (xmg_tup rfl (xmgs_cons (qO 12 sc__law_drawn.nd rfl (by first|exact Or.inl rfl|exact Or.inr rfl)) (xmgs_cons (qO 13 sc__law_drawn.nd rfl (by first|exact Or.inl rfl|exact Or.inr rfl)) xmgs_nil))) (qG (qR (xme_tup (qA (xmv 5) (qA (xmv 12) qN (qM ..)) (qM ..))) (xmg_sub (xmv 10) (xmv 13) (s_setY hr.units)))))))
  (qG (qU (qE c_tuple rfl B.z_tuple (by decide+kernel) (qA (qZ rfl (T:=["_law_some"]) (keep:=[10]) ⟨rfl,by decide+kernel,(List.forall_mem_cons.mpr ⟨⟨_,rfl,rfl,(by first|exact Or.inl rfl|exact Or.inr rfl),(by first | decide+kernel | (show ¬ (("_law_places_here":Str),NameKind.cell)∈(_:List (Str×NameKind));decide+kernel))⟩,(List.forall_mem_nil _)⟩)⟩ rfl (qd (xmv 9)) (fun _ _ _=>⟨(qO 0 (show List.Nodup (["_law_some","_law_places_here"]:List Str) by decide+kernel) rfl (by first|exact Or.inl rfl|exact Or.inr rfl)),xmif_nil,(qE c_tuple rfl B.z_tuple (by decide+kernel) (qA (qZ rfl (T:=["_law_edge","_law_side"]) (keep:=[1]) ⟨rfl,by decide+kernel,(List.forall_mem_cons.mpr ⟨⟨_,rfl,rfl,(by first|exact Or.inl rfl|exact Or.inr rfl),(by first | decide+kernel | (show ¬ (("_law_places_here":Str),NameKind.cell)∈(_:List (Str×NameKind));decide+kernel))⟩,(List.forall_mem_nil _)⟩)⟩ rfl (qd (xmv 0)) (fun _ _ _=>⟨(xmg_tup rfl (xmgs_cons (qO 0 (show List.Nodup (["_law_edge","_law_side","_law_places_here"]:List Str) by decide+kernel) rfl (by first|exact Or.inl rfl|exact Or.inr rfl)) (xmgs_cons (qO 1 (show List.Nodup (["_law_edge","_law_side","_law_places_here"]:List Str) by decide+kernel) rfl (by first|exact Or.inl rfl|exact Or.inr rfl)) xmgs_nil))),xmif_nil,(qJ (qP hr.units) (xmv 2) (xme_tup (qA (xmv 0) (qA (qI o_sub qK (xmv 1)) qN (qB ..)) (qM ..))) (fun _ _=>rfl))⟩)) qN (st_ListComp ..)))⟩)) qN (st_ListComp ..))))))))))))
noncomputable abbrev s__law_cover:Stmt:=top 21
noncomputable def p__law_cover_1:FS:=(mIfS (mB (m2 (b2 gLt) (mTup (mCons (mV 6) (mCons (mV 8) mNil))) (mV 9))) (mAsg (mN (mCall 2 m__law_order) (mCons (mV 0) (mCons (mLR1 (mCons (mV 2) mNil)) mNil))) (gS (b3 gSetY) (mV 3) (mTup (mCons (mV 6) (mCons (mV 8) mNil))))) mNx)
noncomputable def p__law_cover_2:FS:=(mFor (iEn (mCons (mV 7) mNil)) (gT 2 (gCs (gN 8) (gCs (gN 9) gNl))) p__law_cover_1)
noncomputable def p__law_cover_3:FS:=(mSeq (mIfS (mB (m2 (b2 gLt) (mTup (mCons (mV 6) (mCons (mV 8) mNil))) (mV 9))) (mAsg (mTup (mCons (m2 (b2 gIxY) (mV 9) (mC (D.int (0)))) (mCons (m2 (b2 gIxY) (m2 (b2 gIxY) (mV 3) (mTup (mCons (mV 6) (mCons (mV 8) mNil)))) (mV 10)) mNil))) (gN 12)) (mAsg (mTup (mCons (m2 (b2 gIxY) (mV 9) (mC (D.int (0)))) (mCons (mMt (b2 gIdx) (m2 (b2 gIxY) (mV 3) (mV 9)) (mCons (mV 10) mNil)) mNil))) (gN 12)))
  (mSeq (mIfS (mB (m2 (b2 gNotInY) (mV 12) (mV 4))) (mDrop (mMt (b2 gApp) (mV 4) (mCons (mV 12) mNil))) mNx)
  (mDrop (mMt (b2 gApp) (mV 11) (mCons (mTup (mCons (mMt (b2 gIdx) (mV 4) (mCons (mV 12) mNil)) (mCons (m2 (b2 gIxY) (mV 9) (mC (D.int (1)))) mNil))) mNil)))))
noncomputable def p__law_cover_4:FT:=(mB (m2 (b2 gLt) (mN (b1 gLen) (mCons (mV 5) mNil)) (mN (b1 gLen) (mCons (mV 4) mNil))))
noncomputable def p__law_cover_5:FS:=(mSeq (mAsg (m2 (b2 gIxY) (mV 4) (mN (b1 gLen) (mCons (mV 5) mNil))) (gT 2 (gCs (gN 6) (gCs (gN 10) gNl))))
  (mSeq (mAsg (mLst mNil) (gN 11))
  (mSeq (mFor (iEn (mCons (m2 (b2 gIxY) (mV 1) (mV 6)) mNil)) (gT 2 (gCs (gN 8) (gCs (gN 9) gNl))) p__law_cover_3)
  (mDrop (mMt (b2 gApp) (mV 5) (mCons (mN (b1 gTup) (mCons (mV 11) mNil)) mNil))))))
noncomputable def b__law_cover:FS:=(mSeq (mAsg (mTup (mCons mDnew (mCons (mLst (mCons (mTup (mCons (mC (D.int (0))) (mCons (mC (D.int (0))) mNil))) mNil)) (mCons (mLst mNil) mNil)))) (gT 3 (gCs (gN 3) (gCs (gN 4) (gCs (gN 5) gNl)))))
  (mSeq (mFor (iEn (mCons (mV 1) mNil)) (gT 2 (gCs (gN 6) (gCs (gN 7) gNl))) p__law_cover_2)
  (mSeq (whl p__law_cover_4 p__law_cover_5 100000)
  (mRet (mTup (mCons (mN (b1 gTup) (mCons (mV 5) mNil)) (mCons (fComp 2 [] (iSeq (mV 4)) (gT 2 (gCs (gN 0) (gCs (gN 1) gNl))) mTrue (fEmit (mV 0))) mNil)))))))
noncomputable def m__law_cover:FN:=fnB 13 b__law_cover
theorem sc__law_cover:FnScope ["_law_hand_here","_law_web_here","_law_copies","_law_orders","_law_met","_law_rooms","_law_room","_law_doors","_law_door","_law_goal","_law_copy","_law_some","_law_above"] ["_law_hand_here","_law_web_here","_law_copies"] (defScope s__law_cover):=⟨rfl,rfl,rfl,by decide+kernel,rfl,by decide+kernel,by decide+kernel⟩
theorem ok__law_cover {P:Program}{w:World}{K:Fg1}{mg:Str->Option Value}{base:Heap}{f:Addr}{fd:FuncData}(F:Fun K "_law_cover" "_law_cover" s__law_cover f fd)(hb:Binds K fd ["_law_hand_here","_law_web_here","_law_copies"] [])(hm:mg "_law_cover"=some (.ref f))(B:Blt mg)(o__law_order:Own P w K mg base 2 "_law_order" 2 m__law_order):
  Own P w K mg base 3 "_law_cover" 3 m__law_cover:=xown_mk (k:=2) (n:=3) (N:=["_law_hand_here","_law_web_here","_law_copies","_law_orders","_law_met","_law_rooms","_law_room","_law_doors","_law_door","_law_goal","_law_copy","_law_some","_law_above"]) (ps:=["_law_hand_here","_law_web_here","_law_copies"]) (b:=b__law_cover) F hb hm sc__law_cover rfl fun cdv A outer s H E hr=>
 (qF (xms_par3 3 4 5 rfl sc__law_cover.nd rfl rfl rfl (by decide) (by decide) (by decide) rfl rfl rfl (qA xme_dnew (qA (xme_lst (qA (xme_tup (qA qK (qA qK qN (qC ..)) (qC ..))) qN (qT ..))) (qA (xme_lst qN) qN (st_List ..)) (st_List ..)) (st_Dict ..)))
  (qF (qW PassesOwn.never rfl (xmi_enum rfl B.z_enumerate (qA (xmv 1) qN (qM ..))) (xmg_tup rfl (xmgs_cons (qO 6 sc__law_cover.nd rfl (by first|exact Or.inl rfl|exact Or.inr rfl)) (xmgs_cons (qO 7 sc__law_cover.nd rfl (by first|exact Or.inl rfl|exact Or.inr rfl)) xmgs_nil))) (qG (qW PassesOwn.never rfl (xmi_enum rfl B.z_enumerate (qA (xmv 7) qN (qM ..))) (xmg_tup rfl (xmgs_cons (qO 8 sc__law_cover.nd rfl (by first|exact Or.inl rfl|exact Or.inr rfl)) (xmgs_cons (qO 9 sc__law_cover.nd rfl (by first|exact Or.inl rfl|exact Or.inr rfl)) xmgs_nil))) (qG (qV (qX (o_ltN hr.units) (xme_tup (qA (xmv 6) (qA (xmv 8) qN (qM ..)) (qM ..))) (xmv 9) (nomark _)) (qG (qR (qH o__law_order hr (by first|decide|omega) rfl (qA (xmv 0) (qA (xme_listR1 rfl rfl B.z_range rfl B.z_list (qA (xmv 2) qN (qM ..))) qN (qL ..)) (qM ..))) (xmg_sub (xmv 3) (xme_tup (qA (xmv 6) (qA (xmv 8) qN (qM ..)) (qM ..))) (s_setY hr.units)))) qQ)))))
  (qF (xms_while 100000 PassesOwn.never (qX (o_ltN hr.units) (qD c_len rfl B.z_len (by decide+kernel) (qA (xmv 5) qN (qM ..))) (qD c_len rfl B.z_len (by decide+kernel) (qA (xmv 4) qN (qM ..))) (nomark _)) (qF (qR (qJ (qP hr.units) (xmv 4) (qD c_len rfl B.z_len (by decide+kernel) (qA (xmv 5) qN (qM ..))) (fun _ _=>rfl)) (xmg_tup rfl (xmgs_cons (qO 6 sc__law_cover.nd rfl (by first|exact Or.inl rfl|exact Or.inr rfl)) (xmgs_cons (qO 10 sc__law_cover.nd rfl (by first|exact Or.inl rfl|exact Or.inr rfl)) xmgs_nil))))
  (qF (qY 11 sc__law_cover.nd rfl (by first|exact Or.inl rfl|exact Or.inr rfl) (xme_lst qN))
  (qF (qW PassesOwn.never rfl (xmi_enum rfl B.z_enumerate (qA (qJ (qP hr.units) (xmv 1) (xmv 6) (fun _ _=>rfl)) qN (qS ..))) (xmg_tup rfl (xmgs_cons (qO 8 sc__law_cover.nd rfl (by first|exact Or.inl rfl|exact Or.inr rfl)) (xmgs_cons (qO 9 sc__law_cover.nd rfl (by first|exact Or.inl rfl|exact Or.inr rfl)) xmgs_nil))) (qF (qV (qX (o_ltN hr.units) (xme_tup (qA (xmv 6) (qA (xmv 8) qN (qM ..)) (qM ..))) (xmv 9) (nomark _)) (qG (qY 12 sc__law_cover.nd rfl (by first|exact Or.inl rfl|exact Or.inr rfl) (xme_tup (qA (qJ (qP hr.units) (xmv 9) qK (fun _ _=>rfl)) (qA (qJ (qP hr.units) (qJ (qP hr.units) (xmv 3) (xme_tup (qA (xmv 6) (qA (xmv 8) qN (qM ..)) (qM ..))) (fun _ _=>rfl)) (xmv 10) (fun _ _=>rfl)) qN (qS ..)) (qS ..))))) (qG (qY 12 sc__law_cover.nd rfl (by first|exact Or.inl rfl|exact Or.inr rfl) (xme_tup (qA (qJ (qP hr.units) (xmv 9) qK (fun _ _=>rfl)) (qA (qe PySem.F.slot_list_index PySem.F.type_list_index (t_idx hr.units) (qJ (qP hr.units) (xmv 3) (xmv 9) (fun _ _=>rfl)) (qA (xmv 10) qN (qM ..))) qN (qL ..)) (qS ..))))))
  (qF (qV (qX (o_notInY hr.units) (xmv 12) (xmv 4) (by with_unfolding_all rfl)) (qG (xms_expr (qe PySem.F.slot_list_append PySem.F.type_list_append t_app (xmv 4) (qA (xmv 12) qN (qM ..))))) qQ)
  (qG (xms_expr (qe PySem.F.slot_list_append PySem.F.type_list_append t_app (xmv 11) (qA (xme_tup (qA (qe PySem.F.slot_list_index PySem.F.type_list_index (t_idx hr.units) (xmv 4) (qA (xmv 12) qN (qM ..))) (qA (qJ (qP hr.units) (xmv 9) qK (fun _ _=>rfl)) qN (qS ..)) (qL ..))) qN (qT ..))))))))
  (qG (xms_expr (qe PySem.F.slot_list_append PySem.F.type_list_append t_app (xmv 5) (qA (qE c_tuple rfl B.z_tuple (by decide+kernel) (qA (xmv 11) qN (qM ..))) qN (qL ..)))))))))
  (qG (qU (xme_tup (qA (qE c_tuple rfl B.z_tuple (by decide+kernel) (qA (xmv 5) qN (qM ..))) (qA (qZ rfl (T:=["_law_room","_law_copy"]) (keep:=[]) ⟨rfl,by decide+kernel,(List.forall_mem_nil _)⟩ rfl (qd (xmv 4)) (fun _ _ _=>⟨(xmg_tup rfl (xmgs_cons (qO 0 (show List.Nodup (["_law_room","_law_copy"]:List Str) by decide+kernel) rfl (by first|exact Or.inl rfl|exact Or.inr rfl)) (xmgs_cons (qO 1 (show List.Nodup (["_law_room","_law_copy"]:List Str) by decide+kernel) rfl (by first|exact Or.inl rfl|exact Or.inr rfl)) xmgs_nil))),xmif_nil,(xmv 0)⟩)) qN (st_ListComp ..)) (qL ..))))))))
noncomputable abbrev s__law_number:Stmt:=top 26
noncomputable def b__law_number:FS:=(mRet (mN (mCall 2 m__law_of) (mCons (mV 0) (mCons (mLst (mCons (mC (D.int (0))) (mCons (mC (D.int (1))) (mCons (m2 (b2 gSub) (mV 1) (mC (D.int (1)))) (mCons (mV 1) (mCons (m1 (b1 gNeg) (mC (D.int (1)))) (mCons (mN (mCall 2 m__law_take) (mCons (mV 0) (mCons (mC (D.int (9))) mNil))) (mCons (m2 (b2 gPow) (mC (D.int (10))) (mC (D.int (30)))) (mCons (m1 (b1 gNeg) (mC (D.int (2)))) mNil))))))))) mNil))))
noncomputable def m__law_number:FN:=fnB 2 b__law_number
theorem sc__law_number:FnScope ["_law_hand_here","_law_many"] ["_law_hand_here","_law_many"] (defScope s__law_number):=⟨rfl,rfl,rfl,by decide+kernel,rfl,by decide+kernel,by decide+kernel⟩
theorem ok__law_number {P:Program}{w:World}{K:Fg1}{mg:Str->Option Value}{base:Heap}{f:Addr}{fd:FuncData}(F:Fun K "_law_number" "_law_number" s__law_number f fd)(hb:Binds K fd ["_law_hand_here","_law_many"] [])(hm:mg "_law_number"=some (.ref f))(B:Blt mg)(o__law_of:Own P w K mg base 2 "_law_of" 2 m__law_of)(o__law_take:Own P w K mg base 1 "_law_take" 2 m__law_take):
  Own P w K mg base 3 "_law_number" 2 m__law_number:=xown_mk (k:=2) (n:=2) (N:=["_law_hand_here","_law_many"]) (ps:=["_law_hand_here","_law_many"]) (b:=b__law_number) F hb hm sc__law_number rfl fun cdv A outer s H E hr=>
 (qG (qU (qH o__law_of hr (by first|decide|omega) rfl (qA (xmv 0) (qA (xme_lst (qA qK (qA qK (qA (qI o_sub (xmv 1) qK) (qA (xmv 1) (qA (xme_un o_neg qK) (qA (qH o__law_take hr (by first|decide|omega) rfl (qA (xmv 0) (qA qK qN (qC ..)) (qM ..))) (qA (qI o_pow qK qK) (qA (xme_un o_neg qK) qN (st_UnaryOp ..)) (qB ..)) (qL ..)) (st_UnaryOp ..)) (qM ..)) (qB ..)) (qC ..)) (qC ..))) qN (st_List ..)) (qM ..)))))
noncomputable abbrev s_is_web:Stmt:=top 8
noncomputable def b_is_web:FS:=(mRet (mAndV (mN (mCall 1 m_has_form) (mCons (mV 0) mNil)) (mAndV (mN (mCall 1 m_leads_back) (mCons (mV 0) mNil)) (mN (mCall 1 m_hangs_together) (mCons (mV 0) mNil)))))
noncomputable def m_is_web:FN:=fnB 1 b_is_web
theorem sc_is_web:FnScope ["thing"] ["thing"] (defScope s_is_web):=⟨rfl,rfl,rfl,by decide+kernel,rfl,by decide+kernel,by decide+kernel⟩
theorem ok_is_web {P:Program}{w:World}{K:Fg1}{mg:Str->Option Value}{base:Heap}{f:Addr}{fd:FuncData}(F:Fun K "is_web" "is_web" s_is_web f fd)(hb:Binds K fd ["thing"] [])(hm:mg "is_web"=some (.ref f))(B:Blt mg)(o_hangs_together:Own P w K mg base 2 "hangs_together" 1 m_hangs_together)(o_has_form:Own P w K mg base 3 "has_form" 1 m_has_form)(o_leads_back:Own P w K mg base 2 "leads_back" 1 m_leads_back):
  Own P w K mg base 4 "is_web" 1 m_is_web:=xown_mk (k:=3) (n:=1) (N:=["thing"]) (ps:=["thing"]) (b:=b_is_web) F hb hm sc_is_web rfl fun cdv A outer s H E hr=>
 (qG (qU (xme_and (qH o_has_form hr (by first|decide|omega) rfl (qA (xmv 0) qN (qM ..))) (xme_and (qH o_leads_back hr (by first|decide|omega) rfl (qA (xmv 0) qN (qM ..))) (xme_one (qH o_hangs_together hr (by first|decide|omega) rfl (qA (xmv 0) qN (qM ..))))))))
noncomputable abbrev s__law_web:Stmt:=top 23
noncomputable def b__law_web:FS:=(mSeq (mAsg (mN (mCall 2 m__law_take) (mCons (mV 0) (mCons (mC (D.int (5))) mNil))) (gN 1))
  (mSeq (mIfS (mB (m2 (b2 gEq) (mV 1) (mC (D.int (0))))) (mRet (mN (mCall 1 m__law_round) (mCons (m2 (b2 gAdd) (mC (D.int (1))) (mN (mCall 2 m__law_take) (mCons (mV 0) (mCons (mC (D.int (8))) mNil)))) mNil))) mNx)
  (mSeq (mIfS (mB (m2 (b2 gEq) (mV 1) (mC (D.int (1))))) (mSeq (mAsg (mN (mCall 2 m__law_drawn) (mCons (mV 0) (mCons (mC (D.int (4))) mNil))) (gN 2))
  (mRet (m2 (b2 gIxY) (mN (mCall 3 m__law_cover) (mCons (mV 0) (mCons (mV 2) (mCons (m2 (b2 gAdd) (mC (D.int (1))) (mN (mCall 2 m__law_take) (mCons (mV 0) (mCons (m2 (b2 gDiv) (mC (D.int (8))) (mN (b1 gLen) (mCons (mV 2) mNil))) mNil)))) mNil)))) (mC (D.int (0)))))) mNx)
  (mRet (mN (mCall 2 m__law_drawn) (mCons (mV 0) (mCons (mC (D.int (8))) mNil)))))))
noncomputable def m__law_web:FN:=fnB 3 b__law_web
theorem sc__law_web:FnScope ["_law_hand_here","_law_way","_law_web_here"] ["_law_hand_here"] (defScope s__law_web):=⟨rfl,rfl,rfl,by decide+kernel,rfl,by decide+kernel,by decide+kernel⟩
theorem ok__law_web {P:Program}{w:World}{K:Fg1}{mg:Str->Option Value}{base:Heap}{f:Addr}{fd:FuncData}(F:Fun K "_law_web" "_law_web" s__law_web f fd)(hb:Binds K fd ["_law_hand_here"] [])(hm:mg "_law_web"=some (.ref f))(B:Blt mg)(o__law_cover:Own P w K mg base 3 "_law_cover" 3 m__law_cover)(o__law_drawn:Own P w K mg base 3 "_law_drawn" 2 m__law_drawn)(o__law_round:Own P w K mg base 1 "_law_round" 1 m__law_round)(o__law_take:Own P w K mg base 1 "_law_take" 2 m__law_take):
  Own P w K mg base 4 "_law_web" 1 m__law_web:=xown_mk (k:=3) (n:=1) (N:=["_law_hand_here","_law_way","_law_web_here"]) (ps:=["_law_hand_here"]) (b:=b__law_web) F hb hm sc__law_web rfl fun cdv A outer s H E hr=>
 (qF (qY 1 sc__law_web.nd rfl (by first|exact Or.inl rfl|exact Or.inr rfl) (qH o__law_take hr (by first|decide|omega) rfl (qA (xmv 0) (qA qK qN (qC ..)) (qM ..))))
  (qF (qV (qX (o_eq hr.units) (xmv 1) qK (nomark _)) (qG (qU (qH o__law_round hr (by first|decide|omega) rfl (qA (qI o_add qK (qH o__law_take hr (by first|decide|omega) rfl (qA (xmv 0) (qA qK qN (qC ..)) (qM ..)))) qN (qB ..))))) qQ)
  (qF (qV (qX (o_eq hr.units) (xmv 1) qK (nomark _)) (qF (qY 2 sc__law_web.nd rfl (by first|exact Or.inl rfl|exact Or.inr rfl) (qH o__law_drawn hr (by first|decide|omega) rfl (qA (xmv 0) (qA qK qN (qC ..)) (qM ..))))
  (qG (qU (qJ (qP hr.units) (qH o__law_cover hr (by first|decide|omega) rfl (qA (xmv 0) (qA (xmv 2) (qA (qI o_add qK (qH o__law_take hr (by first|decide|omega) rfl (qA (xmv 0) (qA (qI o_div qK (qD c_len rfl B.z_len (by decide+kernel) (qA (xmv 2) qN (qM ..)))) qN (qB ..)) (qM ..)))) qN (qB ..)) (qM ..)) (qM ..))) qK (fun _ _=>rfl))))) qQ)
  (qG (qU (qH o__law_drawn hr (by first|decide|omega) rfl (qA (xmv 0) (qA qK qN (qC ..)) (qM ..))))))))
noncomputable abbrev s__law_doors_otherwise:Stmt:=top 28
noncomputable def p__law_doors_otherwise_1:FS:=(mAsg (mN (mCall 3 m__law_put) (mCons (mV 1) (mCons (mV 9) (mCons (mV 10) mNil)))) (gN 1))
noncomputable def b__law_doors_otherwise:FS:=(mSeq (mAsg (mN (mCall 1 m__law_places) (mCons (mV 1) mNil)) (gN 3))
  (mSeq (mIfS (mB (m2 (b2 gEq) (mV 3) (mLst mNil))) (mRet (mV 1)) mNx)
  (mSeq (mAsg (mTup (mCons (mN (mCall 2 m__law_of) (mCons (mV 0) (mCons (mV 3) mNil))) (mCons (mN (mCall 2 m__law_of) (mCons (mV 0) (mCons (mV 3) mNil))) mNil))) (gT 2 (gCs (gN 4) (gCs (gN 5) gNl))))
  (mSeq (mAsg (mTup (mCons (m2 (b2 gIxY) (m2 (b2 gIxY) (mV 1) (m2 (b2 gIxY) (mV 4) (mC (D.int (0))))) (m2 (b2 gIxY) (mV 4) (mC (D.int (1))))) (mCons (m2 (b2 gIxY) (m2 (b2 gIxY) (mV 1) (m2 (b2 gIxY) (mV 5) (mC (D.int (0))))) (m2 (b2 gIxY) (mV 5) (mC (D.int (1))))) mNil))) (gT 2 (gCs (gN 6) (gCs (gN 7) gNl))))
  (mSeq (mIfS (mB (m2 (b2 gEq) (mV 2) (mC (D.int (0))))) (mRet (mN (mCall 3 m__law_put) (mCons (mV 1) (mCons (mV 4) (mCons (mTup (mCons (mN (mCall 2 m__law_number) (mCons (mV 0) (mCons (mN (b1 gLen) (mCons (mV 1) mNil)) mNil))) (mCons (m2 (b2 gIxY) (mV 6) (mC (D.int (1)))) mNil))) mNil))))) mNx)
  (mSeq (mIfS (mB (m2 (b2 gEq) (mV 2) (mC (D.int (1))))) (mRet (mN (mCall 3 m__law_put) (mCons (mV 1) (mCons (mV 4) (mCons (mTup (mCons (m2 (b2 gIxY) (mV 6) (mC (D.int (0)))) (mCons (mN (mCall 2 m__law_number) (mCons (mV 0) (mCons (mC (D.int (4))) mNil))) mNil))) mNil))))) mNx)
  (mSeq (mIfS (mB (m2 (b2 gEq) (mV 2) (mC (D.int (2))))) (mRet (mN (mCall 3 m__law_put) (mCons (mN (mCall 3 m__law_put) (mCons (mV 1) (mCons (mV 4) (mCons (mV 7) mNil)))) (mCons (mV 5) (mCons (mV 6) mNil))))) mNx)
  (mSeq (mAsg (mLst (mCons (mTup (mCons (mV 4) (mCons (mV 5) mNil))) (mCons (mTup (mCons (mV 5) (mCons (mV 4) mNil))) (mCons (mTup (mCons (mV 6) (mCons (mV 7) mNil))) (mCons (mTup (mCons (mV 7) (mCons (mV 6) mNil))) mNil))))) (gN 8))
  (mSeq (mIfS (mOr (mB (m2 (b2 gNotInY) (mV 6) (mV 3))) (mB (m2 (b2 gNotInY) (mV 7) (mV 3)))) (mRet (mN (mCall 3 m__law_put) (mCons (mV 1) (mCons (mV 4) (mCons (mV 5) mNil))))) mNx)
  (mSeq (mFor (iSeq (mV 8)) (gT 2 (gCs (gN 9) (gCs (gN 10) gNl))) p__law_doors_otherwise_1)
  (mRet (mV 1))))))))))))
noncomputable def m__law_doors_otherwise:FN:=fnB 11 b__law_doors_otherwise
theorem sc__law_doors_otherwise:FnScope ["_law_hand_here","_law_rooms","_law_way","_law_places_here","_law_one","_law_other","_law_goal","_law_also","_law_pairs","_law_place","_law_there"] ["_law_hand_here","_law_rooms","_law_way"] (defScope s__law_doors_otherwise):=⟨rfl,rfl,rfl,by decide+kernel,rfl,by decide+kernel,by decide+kernel⟩
theorem ok__law_doors_otherwise {P:Program}{w:World}{K:Fg1}{mg:Str->Option Value}{base:Heap}{f:Addr}{fd:FuncData}(F:Fun K "_law_doors_otherwise" "_law_doors_otherwise" s__law_doors_otherwise f fd)(hb:Binds K fd ["_law_hand_here","_law_rooms","_law_way"] [])(hm:mg "_law_doors_otherwise"=some (.ref f))(B:Blt mg)(o__law_number:Own P w K mg base 3 "_law_number" 2 m__law_number)(o__law_of:Own P w K mg base 2 "_law_of" 2 m__law_of)(o__law_places:Own P w K mg base 1 "_law_places" 1 m__law_places)(o__law_put:Own P w K mg base 1 "_law_put" 3 m__law_put):
  Own P w K mg base 4 "_law_doors_otherwise" 3 m__law_doors_otherwise:=xown_mk (k:=3) (n:=3) (N:=["_law_hand_here","_law_rooms","_law_way","_law_places_here","_law_one","_law_other","_law_goal","_law_also","_law_pairs","_law_place","_law_there"]) (ps:=["_law_hand_here","_law_rooms","_law_way"]) (b:=b__law_doors_otherwise) F hb hm sc__law_doors_otherwise rfl fun cdv A outer s H E hr=>
 (qF (qY 3 sc__law_doors_otherwise.nd rfl (by first|exact Or.inl rfl|exact Or.inr rfl) (qH o__law_places hr (by first|decide|omega) rfl (qA (xmv 1) qN (qM ..))))
  (qF (qV (qX (o_eq hr.units) (xmv 3) (xme_lst qN) (nomark _)) (qG (qU (xmv 1))) qQ)
  (qF (xms_par 4 5 rfl sc__law_doors_otherwise.nd rfl rfl (by decide) rfl rfl (qA (qH o__law_of hr (by first|decide|omega) rfl (qA (xmv 0) (qA (xmv 3) qN (qM ..)) (qM ..))) (qA (qH o__law_of hr (by first|decide|omega) rfl (qA (xmv 0) (qA (xmv 3) qN (qM ..)) (qM ..))) qN (qL ..)) (qL ..)))
  (qF (xms_par 6 7 rfl sc__law_doors_otherwise.nd rfl rfl (by decide) rfl rfl (qA (qJ (qP hr.units) (qJ (qP hr.units) (xmv 1) (qJ (qP hr.units) (xmv 4) qK (fun _ _=>rfl)) (fun _ _=>rfl)) (qJ (qP hr.units) (xmv 4) qK (fun _ _=>rfl)) (fun _ _=>rfl)) (qA (qJ (qP hr.units) (qJ (qP hr.units) (xmv 1) (qJ (qP hr.units) (xmv 5) qK (fun _ _=>rfl)) (fun _ _=>rfl)) (qJ (qP hr.units) (xmv 5) qK (fun _ _=>rfl)) (fun _ _=>rfl)) qN (qS ..)) (qS ..)))
  (qF (qV (qX (o_eq hr.units) (xmv 2) qK (nomark _)) (qG (qU (qH o__law_put hr (by first|decide|omega) rfl (qA (xmv 1) (qA (xmv 4) (qA (xme_tup (qA (qH o__law_number hr (by first|decide|omega) rfl (qA (xmv 0) (qA (qD c_len rfl B.z_len (by decide+kernel) (qA (xmv 1) qN (qM ..))) qN (qL ..)) (qM ..))) (qA (qJ (qP hr.units) (xmv 6) qK (fun _ _=>rfl)) qN (qS ..)) (qL ..))) qN (qT ..)) (qM ..)) (qM ..))))) qQ)
  (qF (qV (qX (o_eq hr.units) (xmv 2) qK (nomark _)) (qG (qU (qH o__law_put hr (by first|decide|omega) rfl (qA (xmv 1) (qA (xmv 4) (qA (xme_tup (qA (qJ (qP hr.units) (xmv 6) qK (fun _ _=>rfl)) (qA (qH o__law_number hr (by first|decide|omega) rfl (qA (xmv 0) (qA qK qN (qC ..)) (qM ..))) qN (qL ..)) (qS ..))) qN (qT ..)) (qM ..)) (qM ..))))) qQ)
  (qF (qV (qX (o_eq hr.units) (xmv 2) qK (nomark _)) (qG (qU (qH o__law_put hr (by first|decide|omega) rfl (qA (qH o__law_put hr (by first|decide|omega) rfl (qA (xmv 1) (qA (xmv 4) (qA (xmv 7) qN (qM ..)) (qM ..)) (qM ..))) (qA (xmv 5) (qA (xmv 6) qN (qM ..)) (qM ..)) (qL ..))))) qQ)
  (qF (qY 8 sc__law_doors_otherwise.nd rfl (by first|exact Or.inl rfl|exact Or.inr rfl) (xme_lst (qA (xme_tup (qA (xmv 4) (qA (xmv 5) qN (qM ..)) (qM ..))) (qA (xme_tup (qA (xmv 5) (qA (xmv 4) qN (qM ..)) (qM ..))) (qA (xme_tup (qA (xmv 6) (qA (xmv 7) qN (qM ..)) (qM ..))) (qA (xme_tup (qA (xmv 7) (qA (xmv 6) qN (qM ..)) (qM ..))) qN (qT ..)) (qT ..)) (qT ..)) (qT ..))))
  (qF (qV (xmt_w (xmw_or (qX (o_notInY hr.units) (xmv 6) (xmv 3) (by with_unfolding_all rfl)) (xmw_or1 (qX (o_notInY hr.units) (xmv 7) (xmv 3) (by with_unfolding_all rfl))))) (qG (qU (qH o__law_put hr (by first|decide|omega) rfl (qA (xmv 1) (qA (xmv 4) (qA (xmv 5) qN (qM ..)) (qM ..)) (qM ..))))) qQ)
  (qF (qW PassesOwn.never rfl (qd (xmv 8)) (xmg_tup rfl (xmgs_cons (qO 9 sc__law_doors_otherwise.nd rfl (by first|exact Or.inl rfl|exact Or.inr rfl)) (xmgs_cons (qO 10 sc__law_doors_otherwise.nd rfl (by first|exact Or.inl rfl|exact Or.inr rfl)) xmgs_nil))) (qG (qY 1 sc__law_doors_otherwise.nd rfl (by first|exact Or.inl rfl|exact Or.inr rfl) (qH o__law_put hr (by first|decide|omega) rfl (qA (xmv 1) (qA (xmv 9) (qA (xmv 10) qN (qM ..)) (qM ..)) (qM ..))))))
  (qG (qU (xmv 1)))))))))))))
noncomputable abbrev s__law_rooms_otherwise:Stmt:=top 29
noncomputable def b__law_rooms_otherwise:FS:=(mSeq (mAsg (mN (mCall 2 m__law_take) (mCons (mV 0) (mCons (mN (b1 gLen) (mCons (mV 1) mNil)) mNil))) (gN 3))
  (mSeq (mAsg (m2 (b2 gIxY) (mV 1) (mV 3)) (gN 4))
  (mSeq (mAsg (mN (mCall 2 m__law_take) (mCons (mV 0) (mCons (m2 (b2 gAdd) (mN (b1 gLen) (mCons (mV 4) mNil)) (mC (D.int (1)))) mNil))) (gN 5))
  (mSeq (mIfS (mB (m2 (b2 gEq) (mV 2) (mC (D.int (4))))) (mAsg (m2 (b2 gAdd) (mSlX (mV 4) oNone (oSome (mV 5))) (mSlX (mV 4) (oSome (m2 (b2 gAdd) (mV 5) (mC (D.int (1))))) oNone)) (gN 4)) mNx)
  (mSeq (mIfS (mB (m2 (b2 gEq) (mV 2) (mC (D.int (5))))) (mAsg (m2 (b2 gAdd) (m2 (b2 gAdd) (mSlX (mV 4) oNone (oSome (mV 5))) (mTup (mCons (mTup (mCons (mN (mCall 2 m__law_take) (mCons (mV 0) (mCons (mN (b1 gLen) (mCons (mV 1) mNil)) mNil))) (mCons (mN (mCall 2 m__law_take) (mCons (mV 0) (mCons (mC (D.int (5))) mNil))) mNil))) mNil))) (mSlX (mV 4) (oSome (mV 5)) oNone)) (gN 4)) mNx)
  (mSeq (mIfS (mB (m2 (b2 gEq) (mV 2) (mC (D.int (6))))) (mAsg (m2 (b2 gAdd) (mV 4) (mSlX (mV 4) (oSome (mV 5)) (oSome (m2 (b2 gAdd) (mV 5) (mC (D.int (1))))))) (gN 4)) mNx)
  (mSeq (mIfS (mB (m2 (b2 gEq) (mV 2) (mC (D.int (7))))) (mRet (m2 (b2 gAdd) (mSlX (mV 1) oNone (oSome (mV 3))) (mSlX (mV 1) (oSome (m2 (b2 gAdd) (mV 3) (mC (D.int (1))))) oNone))) mNx)
  (mSeq (mIfS (mB (m2 (b2 gEq) (mV 2) (mC (D.int (8))))) (mRet (m2 (b2 gAdd) (m2 (b2 gAdd) (mSlX (mV 1) oNone (oSome (mV 3))) (mTup (mCons (mN (mCall 2 m__law_of) (mCons (mV 0) (mCons (mLst (mCons (mTup mNil) (mCons (mV 4) mNil))) mNil))) mNil))) (mSlX (mV 1) (oSome (mV 3)) oNone))) mNx)
  (mSeq (mIfS (mB (m2 (b2 gEq) (mV 2) (mC (D.int (9))))) (mRet (m2 (b2 gAdd) (mV 1) (mN (b1 gTup) (mCons (fComp 1 [1] (iSeq (mN (mCall 1 m__law_web) (mCons (mV 0) mNil))) (gN 0) mTrue (fEmit (mN (b1 gTup) (mCons (fComp 2 [1] (iSeq (mV 0)) (gT 2 (gCs (gN 0) (gCs (gN 1) gNl))) mTrue (fEmit (mTup (mCons (m2 (b2 gAdd) (mN (b1 gLen) (mCons (mV 2) mNil)) (mV 0)) (mCons (mV 1) mNil))))) mNil)))) mNil)))) mNx)
  (mRet (m2 (b2 gAdd) (m2 (b2 gAdd) (mSlX (mV 1) oNone (oSome (mV 3))) (mTup (mCons (mV 4) mNil))) (mSlX (mV 1) (oSome (m2 (b2 gAdd) (mV 3) (mC (D.int (1))))) oNone))))))))))))
noncomputable def m__law_rooms_otherwise:FN:=fnB 6 b__law_rooms_otherwise
theorem sc__law_rooms_otherwise:FnScope ["_law_hand_here","_law_rooms","_law_way","_law_room","_law_doors","_law_at"] ["_law_hand_here","_law_rooms","_law_way"] (defScope s__law_rooms_otherwise):=⟨rfl,rfl,rfl,by decide+kernel,rfl,by decide+kernel,by decide+kernel⟩
theorem ok__law_rooms_otherwise {P:Program}{w:World}{K:Fg1}{mg:Str->Option Value}{base:Heap}{f:Addr}{fd:FuncData}(F:Fun K "_law_rooms_otherwise" "_law_rooms_otherwise" s__law_rooms_otherwise f fd)(hb:Binds K fd ["_law_hand_here","_law_rooms","_law_way"] [])(hm:mg "_law_rooms_otherwise"=some (.ref f))(B:Blt mg)(o__law_of:Own P w K mg base 2 "_law_of" 2 m__law_of)(o__law_take:Own P w K mg base 1 "_law_take" 2 m__law_take)(o__law_web:Own P w K mg base 4 "_law_web" 1 m__law_web):
  Own P w K mg base 5 "_law_rooms_otherwise" 3 m__law_rooms_otherwise:=xown_mk (k:=4) (n:=3) (N:=["_law_hand_here","_law_rooms","_law_way","_law_room","_law_doors","_law_at"]) (ps:=["_law_hand_here","_law_rooms","_law_way"]) (b:=b__law_rooms_otherwise) F hb hm sc__law_rooms_otherwise rfl fun cdv A outer s H E hr=>
 (qF (qY 3 sc__law_rooms_otherwise.nd rfl (by first|exact Or.inl rfl|exact Or.inr rfl) (qH o__law_take hr (by first|decide|omega) rfl (qA (xmv 0) (qA (qD c_len rfl B.z_len (by decide+kernel) (qA (xmv 1) qN (qM ..))) qN (qL ..)) (qM ..))))
  (qF (qY 4 sc__law_rooms_otherwise.nd rfl (by first|exact Or.inl rfl|exact Or.inr rfl) (qJ (qP hr.units) (xmv 1) (xmv 3) (fun _ _=>rfl)))
  (qF (qY 5 sc__law_rooms_otherwise.nd rfl (by first|exact Or.inl rfl|exact Or.inr rfl) (qH o__law_take hr (by first|decide|omega) rfl (qA (xmv 0) (qA (qI o_add (qD c_len rfl B.z_len (by decide+kernel) (qA (xmv 4) qN (qM ..))) qK) qN (qB ..)) (qM ..))))
  (qF (qV (qX (o_eq hr.units) (xmv 2) qK (nomark _)) (qG (qY 4 sc__law_rooms_otherwise.nd rfl (by first|exact Or.inl rfl|exact Or.inr rfl) (qI o_add (xme_sliceX (xmv 4) xmo_none (xmo_some (xmv 5))) (xme_sliceX (xmv 4) (xmo_some (qI o_add (xmv 5) qK)) xmo_none)))) qQ)
  (qF (qV (qX (o_eq hr.units) (xmv 2) qK (nomark _)) (qG (qY 4 sc__law_rooms_otherwise.nd rfl (by first|exact Or.inl rfl|exact Or.inr rfl) (qI o_add (qI o_add (xme_sliceX (xmv 4) xmo_none (xmo_some (xmv 5))) (xme_tup (qA (xme_tup (qA (qH o__law_take hr (by first|decide|omega) rfl (qA (xmv 0) (qA (qD c_len rfl B.z_len (by decide+kernel) (qA (xmv 1) qN (qM ..))) qN (qL ..)) (qM ..))) (qA (qH o__law_take hr (by first|decide|omega) rfl (qA (xmv 0) (qA qK qN (qC ..)) (qM ..))) qN (qL ..)) (qL ..))) qN (qT ..)))) (xme_sliceX (xmv 4) (xmo_some (xmv 5)) xmo_none)))) qQ)
  (qF (qV (qX (o_eq hr.units) (xmv 2) qK (nomark _)) (qG (qY 4 sc__law_rooms_otherwise.nd rfl (by first|exact Or.inl rfl|exact Or.inr rfl) (qI o_add (xmv 4) (xme_sliceX (xmv 4) (xmo_some (xmv 5)) (xmo_some (qI o_add (xmv 5) qK)))))) qQ)
  (qF (qV (qX (o_eq hr.units) (xmv 2) qK (nomark _)) (qG (qU (qI o_add (xme_sliceX (xmv 1) xmo_none (xmo_some (xmv 3))) (xme_sliceX (xmv 1) (xmo_some (qI o_add (xmv 3) qK)) xmo_none)))) qQ)
  (qF (qV (qX (o_eq hr.units) (xmv 2) qK (nomark _)) (qG (qU (qI o_add (qI o_add (xme_sliceX (xmv 1) xmo_none (xmo_some (xmv 3))) (xme_tup (qA (qH o__law_of hr (by first|decide|omega) rfl (qA (xmv 0) (qA (xme_lst (qA (xme_tup qN) (qA (xmv 4) qN (qM ..)) (qT ..))) qN (st_List ..)) (qM ..))) qN (qL ..)))) (xme_sliceX (xmv 1) (xmo_some (xmv 3)) xmo_none)))) qQ)
  (qF (qV (qX (o_eq hr.units) (xmv 2) qK (nomark _)) (qG (qU (qI o_add (xmv 1) (qE c_tuple rfl B.z_tuple (by decide+kernel) (qA (qZ rfl (T:=["_law_some"]) (keep:=[1]) ⟨rfl,by decide+kernel,(List.forall_mem_cons.mpr ⟨⟨_,rfl,rfl,(by first|exact Or.inl rfl|exact Or.inr rfl),(by first | decide+kernel | (show ¬ (("_law_rooms":Str),NameKind.cell)∈(_:List (Str×NameKind));decide+kernel))⟩,(List.forall_mem_nil _)⟩)⟩ rfl (qd (qH o__law_web hr (by first|decide|omega) rfl (qA (xmv 0) qN (qM ..)))) (fun _ _ _=>⟨(qO 0 (show List.Nodup (["_law_some","_law_rooms"]:List Str) by decide+kernel) rfl (by first|exact Or.inl rfl|exact Or.inr rfl)),xmif_nil,(qE c_tuple rfl B.z_tuple (by decide+kernel) (qA (qZ rfl (T:=["_law_there","_law_back"]) (keep:=[1]) ⟨rfl,by decide+kernel,(List.forall_mem_cons.mpr ⟨⟨_,rfl,rfl,(by first|exact Or.inl rfl|exact Or.inr rfl),(by first | decide+kernel | (show ¬ (("_law_rooms":Str),NameKind.cell)∈(_:List (Str×NameKind));decide+kernel))⟩,(List.forall_mem_nil _)⟩)⟩ rfl (qd (xmv 0)) (fun _ _ _=>⟨(xmg_tup rfl (xmgs_cons (qO 0 (show List.Nodup (["_law_there","_law_back","_law_rooms"]:List Str) by decide+kernel) rfl (by first|exact Or.inl rfl|exact Or.inr rfl)) (xmgs_cons (qO 1 (show List.Nodup (["_law_there","_law_back","_law_rooms"]:List Str) by decide+kernel) rfl (by first|exact Or.inl rfl|exact Or.inr rfl)) xmgs_nil))),xmif_nil,(xme_tup (qA (qI o_add (qD c_len rfl B.z_len (by decide+kernel) (qA (xmv 2) qN (qM ..))) (xmv 0)) (qA (xmv 1) qN (qM ..)) (qB ..)))⟩)) qN (st_ListComp ..)))⟩)) qN (st_ListComp ..)))))) qQ)
  (qG (qU (qI o_add (qI o_add (xme_sliceX (xmv 1) xmo_none (xmo_some (xmv 3))) (xme_tup (qA (xmv 4) qN (qM ..)))) (xme_sliceX (xmv 1) (xmo_some (qI o_add (xmv 3) qK)) xmo_none)))))))))))))
noncomputable abbrev s__law_right:Stmt:=top 30
noncomputable def b__law_right:FS:=(mSeq (mAsg (mN (mCall 1 m_is_web) (mCons (mV 0) mNil)) (gN 2))
  (mRet (mAndV (mIsT .bool (mV 2)) (mAndV (m2 (b2 gEq) (mV 2) (mV 1)) (m2 (b2 gEq) (mN (mCall 1 m_is_web) (mCons (mV 0) mNil)) (mV 1))))))
noncomputable def m__law_right:FN:=fnB 3 b__law_right
theorem sc__law_right:FnScope ["_law_thing","_law_due","_law_found"] ["_law_thing","_law_due"] (defScope s__law_right):=⟨rfl,rfl,rfl,by decide+kernel,rfl,by decide+kernel,by decide+kernel⟩
theorem ok__law_right {P:Program}{w:World}{K:Fg1}{mg:Str->Option Value}{base:Heap}{f:Addr}{fd:FuncData}(F:Fun K "_law_right" "_law_right" s__law_right f fd)(hb:Binds K fd ["_law_thing","_law_due"] [])(hm:mg "_law_right"=some (.ref f))(B:Blt mg)(o_is_web:Own P w K mg base 4 "is_web" 1 m_is_web):
  Own P w K mg base 5 "_law_right" 2 m__law_right:=xown_mk (k:=4) (n:=2) (N:=["_law_thing","_law_due","_law_found"]) (ps:=["_law_thing","_law_due"]) (b:=b__law_right) F hb hm sc__law_right rfl fun cdv A outer s H E hr=>
 (qF (qY 2 sc__law_right.nd rfl (by first|exact Or.inl rfl|exact Or.inr rfl) (qH o_is_web hr (by first|decide|omega) rfl (qA (xmv 0) qN (qM ..))))
  (qG (qU (xme_and (xme_isinst .bool rfl B.z_isinstance rfl B.z_bool (by decide+kernel) (xmv 2)) (xme_and (xme_cmp (o_eq hr.units) (xmv 2) (xmv 1) (nomark _)) (xme_one (xme_cmp (o_eq hr.units) (qH o_is_web hr (by first|decide|omega) rfl (qA (xmv 0) qN (qM ..))) (xmv 1) (nomark _))))))))
noncomputable abbrev s_law:Stmt:=top 31
noncomputable def p_law_1:FS:=(mSeq (mAsg (mN (mCall 2 m__law_take) (mCons (mV 1) (mCons (mC (D.int (10))) mNil))) (gN 5))
  (mSeq (mIfS (mB (m2 (b2 gEq) (mV 3) (mTup mNil))) mBk mNx)
  (mSeq (mIfS (mB (m2 (b2 gLt) (mV 5) (mC (D.int (4))))) (mAsg (mN (mCall 3 m__law_doors_otherwise) (mCons (mV 1) (mCons (mV 3) (mCons (mV 5) mNil)))) (gN 3)) (mAsg (mN (mCall 3 m__law_rooms_otherwise) (mCons (mV 1) (mCons (mV 3) (mCons (mV 5) mNil)))) (gN 3)))
  (mIfS (mNot (mTr (mN (mCall 2 m__law_right) (mCons (mV 3) (mCons (mAndV (m2 (b2 gNe) (mV 3) (mTup mNil)) (mN (mCall 1 m__law_is_web) (mCons (mV 3) mNil))) mNil))))) (mRet (mC (D.bl false))) mNx))))
noncomputable def p_law_2:FS:=(mSeq (mAsg (mN (mCall 1 m__law_web) (mCons (mV 1) mNil)) (gN 3))
  (mSeq (mIfS (mNot (mTr (mN (mCall 2 m__law_right) (mCons (mV 3) (mCons (mC (D.bl true)) mNil))))) (mRet (mC (D.bl false))) mNx)
  (mFor (iR1 (mCons (mC (D.int (3))) mNil)) (gN 4) p_law_1)))
noncomputable def b_law:FS:=(mSeq (mAsg (mN (mCall 1 m__law_hand) (mCons (mV 0) mNil)) (gN 1))
  (mSeq (mFor (iR1 (mCons (m2 (b2 gAdd) (mC (D.int (6))) (mN (b2 gMin) (mCons (mN (b1 gLen) (mCons (mV 0) mNil)) (mCons (mC (D.int (20))) mNil)))) mNil)) (gN 2) p_law_2)
  (mRet (mC (D.bl true)))))
noncomputable def m_law:FN:=fnB 6 b_law
theorem sc_law:FnScope ["_law_script","_law_hand_here","_law_turn","_law_rooms","_law_again","_law_way"] ["_law_script"] (defScope s_law):=⟨rfl,rfl,rfl,by decide+kernel,rfl,by decide+kernel,by decide+kernel⟩
theorem ok_law {P:Program}{w:World}{K:Fg1}{mg:Str->Option Value}{base:Heap}{f:Addr}{fd:FuncData}(F:Fun K "law" "law" s_law f fd)(hb:Binds K fd ["_law_script"] [])(hm:mg "law"=some (.ref f))(B:Blt mg)(o__law_doors_otherwise:Own P w K mg base 4 "_law_doors_otherwise" 3 m__law_doors_otherwise)(o__law_hand:Own P w K mg base 1 "_law_hand" 1 m__law_hand)(o__law_is_web:Own P w K mg base 2 "_law_is_web" 1 m__law_is_web)(o__law_right:Own P w K mg base 5 "_law_right" 2 m__law_right)(o__law_rooms_otherwise:Own P w K mg base 5 "_law_rooms_otherwise" 3 m__law_rooms_otherwise)(o__law_take:Own P w K mg base 1 "_law_take" 2 m__law_take)(o__law_web:Own P w K mg base 4 "_law_web" 1 m__law_web):
  FnOk P w K mg base CX0 6 f fd ["_law_script"] (spM K 1 m_law):=xfn_mk (k:=5) (n:=1) (N:=["_law_script","_law_hand_here","_law_turn","_law_rooms","_law_again","_law_way"]) (ps:=["_law_script"]) (b:=b_law) F sc_law rfl fun cdv A outer s H E hr=>
 (qF (qY 1 sc_law.nd rfl (by first|exact Or.inl rfl|exact Or.inr rfl) (qH o__law_hand hr (by first|decide|omega) rfl (qA (xmv 0) qN (qM ..))))
  (qF (qW PassesOwn.never rfl (xmi_range1 rfl B.z_range (qA (qI o_add qK (qD (c_min rfl) rfl B.z_min (by decide+kernel) (qA (qD c_len rfl B.z_len (by decide+kernel) (qA (xmv 0) qN (qM ..))) (qA qK qN (qC ..)) (qL ..)))) qN (qB ..))) (qO 2 sc_law.nd rfl (by first|exact Or.inl rfl|exact Or.inr rfl)) (qF (qY 3 sc_law.nd rfl (by first|exact Or.inl rfl|exact Or.inr rfl) (qH o__law_web hr (by first|decide|omega) rfl (qA (xmv 1) qN (qM ..))))
  (qF (qV (xmt_not (xmt_tru (qH o__law_right hr (by first|decide|omega) rfl (qA (xmv 3) (qA xme_bl qN (qC ..)) (qM ..))))) (qG (qU xme_bl)) qQ)
  (qG (qW PassesOwn.never rfl (xmi_range1 rfl B.z_range (qA qK qN (qC ..))) (qO 4 sc_law.nd rfl (by first|exact Or.inl rfl|exact Or.inr rfl)) (qF (qY 5 sc_law.nd rfl (by first|exact Or.inl rfl|exact Or.inr rfl) (qH o__law_take hr (by first|decide|omega) rfl (qA (xmv 1) (qA qK qN (qC ..)) (qM ..))))
  (qF (qV (qX (o_eq hr.units) (xmv 3) (xme_tup qN) (nomark _)) (qG xms_break) qQ)
  (qF (qV (qX (o_ltN hr.units) (xmv 5) qK (nomark _)) (qG (qY 3 sc_law.nd rfl (by first|exact Or.inl rfl|exact Or.inr rfl) (qH o__law_doors_otherwise hr (by first|decide|omega) rfl (qA (xmv 1) (qA (xmv 3) (qA (xmv 5) qN (qM ..)) (qM ..)) (qM ..))))) (qG (qY 3 sc_law.nd rfl (by first|exact Or.inl rfl|exact Or.inr rfl) (qH o__law_rooms_otherwise hr (by first|decide|omega) rfl (qA (xmv 1) (qA (xmv 3) (qA (xmv 5) qN (qM ..)) (qM ..)) (qM ..))))))
  (qG (qV (xmt_not (xmt_tru (qH o__law_right hr (by first|decide|omega) rfl (qA (xmv 3) (qA (xme_and (xme_cmp (o_ne hr.units) (xmv 3) (xme_tup qN) (nomark _)) (xme_one (qH o__law_is_web hr (by first|decide|omega) rfl (qA (xmv 3) qN (qM ..))))) qN (st_BoolOp ..)) (qM ..))))) (qG (qU xme_bl)) qQ))))))))))
  (qG (qU xme_bl))))
theorem all_mk {l:PySem.W.OpenLaw}{w:World}{K:Fg1}{h:Heap}{mg:Str->Option Value}{fa f1 f2 f3 f4 f5 f6 f7 f8 f9 f10 f11 f12 f13 f14 f15 f16 f17 f18 f19 f20 f21 f22 f23 f24 f25 f26:Addr}(X:K.In h)(G:h.Ns mainGlobals mg)(hfa:mg "law"=some (.ref fa))
  {oe1 oe2 oe3 oe4 oe5 oe6 oe7 oe8 oe9 oe10 oe11 oe12 oe13 oe14 oe15 oe16 oe17 oe18 oe19 oe20 oe21 oe22 oe23 oe24 oe25 oe26 an1 an2 an3 an4 an5 an6 an7 an8 an9 an10 an11 an12 an13 an14 an15 an16 an17 an18 an19 an20 an21 an22 an23 an24 an25 an26:Option Addr} {sn1 sn2 sn3 sn4 sn5 sn6 sn7 sn8 sn9 sn10 sn11 sn12 sn13 sn14 sn15 sn16 sn17 sn18 sn19 sn20 sn21 sn22 sn23 sn24 sn25 sn26:Array (Option Value)} {oc1 oc2 oc3 oc4 oc5 oc6 oc7 oc8 oc9 oc10 oc11 oc12 oc13 oc14 oc15 oc16 oc17 oc18 oc19 oc20 oc21 oc22 oc23 oc24 oc25 oc26 kV1 kV2 kV3 kV4 kV5 kV6 kV7 kV8 kV9 kV10 kV11 kV12 kV13 kV14 kV15 kV16 kV17 kV18 kV19 kV20 kV21 kV22 kV23 kV24 kV25 kV26 dc1 dc2 dc3 dc4 dc5 dc6 dc7 dc8 dc9 dc10 dc11 dc12 dc13 dc14 dc15 dc16 dc17 dc18 dc19 dc20 dc21 dc22 dc23 dc24 dc25 dc26 pm1 pm2 pm3 pm4 pm5 pm6 pm7 pm8 pm9 pm10 pm11 pm12 pm13 pm14 pm15 pm16 pm17 pm18 pm19 pm20 pm21 pm22 pm23 pm24 pm25 pm26 cd1 cd2 cd3 cd4 cd5 cd6 cd7 cd8 cd9 cd10 cd11 cd12 cd13 cd14 cd15 cd16 cd17 cd18 cd19 cd20 cd21 cd22 cd23 cd24 cd25 cd26 ct1 ct2 ct3 ct4 ct5 ct6 ct7 ct8 ct9 ct10 ct11 ct12 ct13 ct14 ct15 ct16 ct17 ct18 ct19 ct20 ct21 ct22 ct23 ct24 ct25 ct26:Value}
  {t1 t2:Tok}
  (a1:wN1 K mainGlobals "is_whole"=some (some (.ref f1)))
  (l1:K.lookup f1=some ⟨oc1,oe1,.func (wF1 "is_whole" "is_whole" (defArgs s_is_whole) (defBody s_is_whole) (defScope s_is_whole) .none kV1 dc1 pm1 an1 cd1 ct1),sn1⟩)
  (c1:wC1 K cd1 "is_whole"=true)
  (k1:wK1 K (.ref f1)=true)
  (a2:wN1 K mainGlobals "is_tuple_of"=some (some (.ref f2)))
  (l2:K.lookup f2=some ⟨oc2,oe2,.func (wF1 "is_tuple_of" "is_tuple_of" (defArgs s_is_tuple_of) (defBody s_is_tuple_of) (defScope s_is_tuple_of) .none kV2 dc2 pm2 an2 cd2 ct2),sn2⟩)
  (c2:wC1 K cd2 "is_tuple_of"=true)
  (k2:wK1 K (.ref f2)=true)
  (a3:wN1 K mainGlobals "ways"=some (some (.ref f3)))
  (l3:K.lookup f3=some ⟨oc3,oe3,.func (wF1 "ways" "ways" (defArgs s_ways) (defBody s_ways) (defScope s_ways) .none kV3 dc3 pm3 an3 cd3 ct3),sn3⟩)
  (c3:wC1 K cd3 "ways"=true)
  (k3:wK1 K (.ref f3)=true)
  (a4:wN1 K mainGlobals "is_paired"=some (some (.ref f4)))
  (l4:K.lookup f4=some ⟨oc4,oe4,.func (wF1 "is_paired" "is_paired" (defArgs s_is_paired) (defBody s_is_paired) (defScope s_is_paired) .none kV4 dc4 pm4 an4 cd4 ct4),sn4⟩)
  (c4:wC1 K cd4 "is_paired"=true)
  (k4:wK1 K (.ref f4)=true)
  (a5:wN1 K mainGlobals "_law_hand"=some (some (.ref f5)))
  (l5:K.lookup f5=some ⟨oc5,oe5,.func (wF1 "_law_hand" "_law_hand" (defArgs s__law_hand) (defBody s__law_hand) (defScope s__law_hand) .none kV5 dc5 pm5 an5 cd5 ct5),sn5⟩)
  (c5:wC1 K cd5 "_law_hand"=true)
  (k5:wK1 K (.ref f5)=true)
  (a6:wN1 K mainGlobals "_law_take"=some (some (.ref f6)))
  (l6:K.lookup f6=some ⟨oc6,oe6,.func (wF1 "_law_take" "_law_take" (defArgs s__law_take) (defBody s__law_take) (defScope s__law_take) .none kV6 dc6 pm6 an6 cd6 ct6),sn6⟩)
  (c6:wC1 K cd6 "_law_take"=true)
  (k6:wK1 K (.ref f6)=true)
  (a7:wN1 K mainGlobals "_law_joined"=some (some (.ref f7)))
  (l7:K.lookup f7=some ⟨oc7,oe7,.func (wF1 "_law_joined" "_law_joined" (defArgs s__law_joined) (defBody s__law_joined) (defScope s__law_joined) .none kV7 dc7 pm7 an7 cd7 ct7),sn7⟩)
  (c7:wC1 K cd7 "_law_joined"=true)
  (k7:wK1 K (.ref f7)=true)
  (a8:wN1 K mainGlobals "_law_round"=some (some (.ref f8)))
  (l8:K.lookup f8=some ⟨oc8,oe8,.func (wF1 "_law_round" "_law_round" (defArgs s__law_round) (defBody s__law_round) (defScope s__law_round) .none kV8 dc8 pm8 an8 cd8 ct8),sn8⟩)
  (c8:wC1 K cd8 "_law_round"=true)
  (k8:wK1 K (.ref f8)=true)
  (a9:wN1 K mainGlobals "_law_places"=some (some (.ref f9)))
  (l9:K.lookup f9=some ⟨oc9,oe9,.func (wF1 "_law_places" "_law_places" (defArgs s__law_places) (defBody s__law_places) (defScope s__law_places) .none kV9 dc9 pm9 an9 cd9 ct9),sn9⟩)
  (c9:wC1 K cd9 "_law_places"=true)
  (k9:wK1 K (.ref f9)=true)
  (a10:wN1 K mainGlobals "_law_put"=some (some (.ref f10)))
  (l10:K.lookup f10=some ⟨oc10,oe10,.func (wF1 "_law_put" "_law_put" (defArgs s__law_put) (defBody s__law_put) (defScope s__law_put) .none kV10 dc10 pm10 an10 cd10 ct10),sn10⟩)
  (c10:wC1 K cd10 "_law_put"=true)
  (k10:wK1 K (.ref f10)=true)
  (a11:wN1 K mainGlobals "is_room"=some (some (.ref f11)))
  (l11:K.lookup f11=some ⟨oc11,oe11,.func (wF1 "is_room" "is_room" (defArgs s_is_room) (defBody s_is_room) (defScope s_is_room) .none kV11 dc11 pm11 an11 cd11 ct11),sn11⟩)
  (c11:wC1 K cd11 "is_room"=true)
  (k11:wK1 K (.ref f11)=true)
  (a12:wN1 K mainGlobals "leads_back"=some (some (.ref f12)))
  (l12:K.lookup f12=some ⟨oc12,oe12,.func (wF1 "leads_back" "leads_back" (defArgs s_leads_back) (defBody s_leads_back) (defScope s_leads_back) .none kV12 dc12 pm12 an12 cd12 ct12),sn12⟩)
  (c12:wC1 K cd12 "leads_back"=true)
  (k12:wK1 K (.ref f12)=true)
  (a13:wN1 K mainGlobals "hangs_together"=some (some (.ref f13)))
  (l13:K.lookup f13=some ⟨oc13,oe13,.func (wF1 "hangs_together" "hangs_together" (defArgs s_hangs_together) (defBody s_hangs_together) (defScope s_hangs_together) .none kV13 dc13 pm13 an13 cd13 ct13),sn13⟩)
  (c13:wC1 K cd13 "hangs_together"=true)
  (k13:wK1 K (.ref f13)=true)
  (a14:wN1 K mainGlobals "_law_of"=some (some (.ref f14)))
  (l14:K.lookup f14=some ⟨oc14,oe14,.func (wF1 "_law_of" "_law_of" (defArgs s__law_of) (defBody s__law_of) (defScope s__law_of) .none kV14 dc14 pm14 an14 cd14 ct14),sn14⟩)
  (c14:wC1 K cd14 "_law_of"=true)
  (k14:wK1 K (.ref f14)=true)
  (a15:wN1 K mainGlobals "_law_order"=some (some (.ref f15)))
  (l15:K.lookup f15=some ⟨oc15,oe15,.func (wF1 "_law_order" "_law_order" (defArgs s__law_order) (defBody s__law_order) (defScope s__law_order) .none kV15 dc15 pm15 an15 cd15 ct15),sn15⟩)
  (c15:wC1 K cd15 "_law_order"=true)
  (k15:wK1 K (.ref f15)=true)
  (a16:wN1 K mainGlobals "_law_is_web"=some (some (.ref f16)))
  (l16:K.lookup f16=some ⟨oc16,oe16,.func (wF1 "_law_is_web" "_law_is_web" (defArgs s__law_is_web) (defBody s__law_is_web) (defScope s__law_is_web) .none kV16 dc16 pm16 an16 cd16 ct16),sn16⟩)
  (c16:wC1 K cd16 "_law_is_web"=true)
  (k16:wK1 K (.ref f16)=true)
  (a17:wN1 K mainGlobals "has_form"=some (some (.ref f17)))
  (l17:K.lookup f17=some ⟨oc17,oe17,.func (wF1 "has_form" "has_form" (defArgs s_has_form) (defBody s_has_form) (defScope s_has_form) .none kV17 dc17 pm17 an17 cd17 ct17),sn17⟩)
  (c17:wC1 K cd17 "has_form"=true)
  (k17:wK1 K (.ref f17)=true)
  (a18:wN1 K mainGlobals "_law_drawn"=some (some (.ref f18)))
  (l18:K.lookup f18=some ⟨oc18,oe18,.func (wF1 "_law_drawn" "_law_drawn" (defArgs s__law_drawn) (defBody s__law_drawn) (defScope s__law_drawn) .none kV18 dc18 pm18 an18 cd18 ct18),sn18⟩)
  (c18:wC1 K cd18 "_law_drawn"=true)
  (k18:wK1 K (.ref f18)=true)
  (a19:wN1 K mainGlobals "_law_cover"=some (some (.ref f19)))
  (l19:K.lookup f19=some ⟨oc19,oe19,.func (wF1 "_law_cover" "_law_cover" (defArgs s__law_cover) (defBody s__law_cover) (defScope s__law_cover) .none kV19 dc19 pm19 an19 cd19 ct19),sn19⟩)
  (c19:wC1 K cd19 "_law_cover"=true)
  (k19:wK1 K (.ref f19)=true)
  (a20:wN1 K mainGlobals "_law_number"=some (some (.ref f20)))
  (l20:K.lookup f20=some ⟨oc20,oe20,.func (wF1 "_law_number" "_law_number" (defArgs s__law_number) (defBody s__law_number) (defScope s__law_number) .none kV20 dc20 pm20 an20 cd20 ct20),sn20⟩)
  (c20:wC1 K cd20 "_law_number"=true)
  (k20:wK1 K (.ref f20)=true)
  (a21:wN1 K mainGlobals "is_web"=some (some (.ref f21)))
  (l21:K.lookup f21=some ⟨oc21,oe21,.func (wF1 "is_web" "is_web" (defArgs s_is_web) (defBody s_is_web) (defScope s_is_web) .none kV21 dc21 pm21 an21 cd21 ct21),sn21⟩)
  (c21:wC1 K cd21 "is_web"=true)
  (k21:wK1 K (.ref f21)=true)
  (a22:wN1 K mainGlobals "_law_web"=some (some (.ref f22)))
  (l22:K.lookup f22=some ⟨oc22,oe22,.func (wF1 "_law_web" "_law_web" (defArgs s__law_web) (defBody s__law_web) (defScope s__law_web) .none kV22 dc22 pm22 an22 cd22 ct22),sn22⟩)
  (c22:wC1 K cd22 "_law_web"=true)
  (k22:wK1 K (.ref f22)=true)
  (a23:wN1 K mainGlobals "_law_doors_otherwise"=some (some (.ref f23)))
  (l23:K.lookup f23=some ⟨oc23,oe23,.func (wF1 "_law_doors_otherwise" "_law_doors_otherwise" (defArgs s__law_doors_otherwise) (defBody s__law_doors_otherwise) (defScope s__law_doors_otherwise) .none kV23 dc23 pm23 an23 cd23 ct23),sn23⟩)
  (c23:wC1 K cd23 "_law_doors_otherwise"=true)
  (k23:wK1 K (.ref f23)=true)
  (a24:wN1 K mainGlobals "_law_rooms_otherwise"=some (some (.ref f24)))
  (l24:K.lookup f24=some ⟨oc24,oe24,.func (wF1 "_law_rooms_otherwise" "_law_rooms_otherwise" (defArgs s__law_rooms_otherwise) (defBody s__law_rooms_otherwise) (defScope s__law_rooms_otherwise) .none kV24 dc24 pm24 an24 cd24 ct24),sn24⟩)
  (c24:wC1 K cd24 "_law_rooms_otherwise"=true)
  (k24:wK1 K (.ref f24)=true)
  (a25:wN1 K mainGlobals "_law_right"=some (some (.ref f25)))
  (l25:K.lookup f25=some ⟨oc25,oe25,.func (wF1 "_law_right" "_law_right" (defArgs s__law_right) (defBody s__law_right) (defScope s__law_right) .none kV25 dc25 pm25 an25 cd25 ct25),sn25⟩)
  (c25:wC1 K cd25 "_law_right"=true)
  (k25:wK1 K (.ref f25)=true)
  (a26:wN1 K mainGlobals "law"=some (some (.ref f26)))
  (l26:K.lookup f26=some ⟨oc26,oe26,.func (wF1 "law" "law" (defArgs s_law) (defBody s_law) (defScope s_law) .none kV26 dc26 pm26 an26 cd26 ct26),sn26⟩)
  (c26:wC1 K cd26 "law"=true)
  (k26:wK1 K (.ref f26)=true)
  (z_abs:wN1 K mainGlobals "abs"=some none)
  (z_all:wN1 K mainGlobals "all"=some none)
  (z_bool:wN1 K mainGlobals "bool"=some none)
  (z_enumerate:wN1 K mainGlobals "enumerate"=some none)
  (z_int:wN1 K mainGlobals "int"=some none)
  (z_isinstance:wN1 K mainGlobals "isinstance"=some none)
  (z_len:wN1 K mainGlobals "len"=some none)
  (z_list:wN1 K mainGlobals "list"=some none)
  (z_max:wN1 K mainGlobals "max"=some none)
  (z_min:wN1 K mainGlobals "min"=some none)
  (z_range:wN1 K mainGlobals "range"=some none)
  (z_tuple:wN1 K mainGlobals "tuple"=some none)
  (e_MOST_DOORS:wN1 K mainGlobals "MOST_DOORS"=some (some (Value.int (4) t1)))
  (e_MOST_ROOMS:wN1 K mainGlobals "MOST_ROOMS"=some (some (Value.int (8) t2)))
  :∃ fd:FuncData,(∀ (s:Shared) (v:Value),BindsTo s fd ⟨[v],[]⟩ [("_law_script",v)]) /\ ∀ base:Heap,K.In base->base.Ns mainGlobals mg->FnOk l.prog w K mg base CX0 6 fa fd ["_law_script"] (spM K 1 m_law):=by
 have e:=hfa.symm.trans (wM1 X G a26)
 cases e
 have B:Blt mg:=⟨PySem.W.mg_none_of X G z_abs,PySem.W.mg_none_of X G z_all,PySem.W.mg_none_of X G z_bool,PySem.W.mg_none_of X G z_enumerate,PySem.W.mg_none_of X G z_int,PySem.W.mg_none_of X G z_isinstance,PySem.W.mg_none_of X G z_len,PySem.W.mg_none_of X G z_list,PySem.W.mg_none_of X G z_max,PySem.W.mg_none_of X G z_min,PySem.W.mg_none_of X G z_range,PySem.W.mg_none_of X G z_tuple⟩
 have c_MOST_DOORS:CGl K mg "MOST_DOORS" d_MOST_DOORS:=cgl_mk (wM1 X G e_MOST_DOORS) cv_int
 have c_MOST_ROOMS:CGl K mg "MOST_ROOMS" d_MOST_ROOMS:=cgl_mk (wM1 X G e_MOST_ROOMS) cv_int
 have F1:=fun_mk (st:=s_is_whole) l1 c1 k1
 have b1:=F1.binds (ps:=["thing"]) fun _ _ _ _ _ _ us hl=>ln1 hl fun _=>rfl
 have F2:=fun_mk (st:=s_is_tuple_of) l2 c2 k2
 have b2:=F2.binds (ps:=["thing","many"]) fun _ _ _ _ _ _ us hl=>ln2 hl fun _ _=>rfl
 have F3:=fun_mk (st:=s_ways) l3 c3 k3
 have b3:=F3.binds (ps:=["web","room"]) fun _ _ _ _ _ _ us hl=>ln2 hl fun _ _=>rfl
 have F4:=fun_mk (st:=s_is_paired) l4 c4 k4
 have b4:=F4.binds (ps:=["rooms","room","door"]) fun _ _ _ _ _ _ us hl=>ln3 hl fun _ _ _=>rfl
 have F5:=fun_mk (st:=s__law_hand) l5 c5 k5
 have b5:=F5.binds (ps:=["_law_script"]) fun _ _ _ _ _ _ us hl=>ln1 hl fun _=>rfl
 have F6:=fun_mk (st:=s__law_take) l6 c6 k6
 have b6:=F6.binds (ps:=["_law_hand_here","_law_many"]) fun _ _ _ _ _ _ us hl=>ln2 hl fun _ _=>rfl
 have F7:=fun_mk (st:=s__law_joined) l7 c7 k7
 have b7:=F7.binds (ps:=["_law_ends","_law_one","_law_other","_law_edge"]) fun _ _ _ _ _ _ us hl=>ln4 hl fun _ _ _ _=>rfl
 have F8:=fun_mk (st:=s__law_round) l8 c8 k8
 have b8:=F8.binds (ps:=["_law_many"]) fun _ _ _ _ _ _ us hl=>ln1 hl fun _=>rfl
 have F9:=fun_mk (st:=s__law_places) l9 c9 k9
 have b9:=F9.binds (ps:=["_law_rooms"]) fun _ _ _ _ _ _ us hl=>ln1 hl fun _=>rfl
 have F10:=fun_mk (st:=s__law_put) l10 c10 k10
 have b10:=F10.binds (ps:=["_law_rooms","_law_place","_law_goal"]) fun _ _ _ _ _ _ us hl=>ln3 hl fun _ _ _=>rfl
 have F11:=fun_mk (st:=s_is_room) l11 c11 k11
 have b11:=F11.binds (ps:=["thing"]) fun _ _ _ _ _ _ us hl=>ln1 hl fun _=>rfl
 have F12:=fun_mk (st:=s_leads_back) l12 c12 k12
 have b12:=F12.binds (ps:=["rooms"]) fun _ _ _ _ _ _ us hl=>ln1 hl fun _=>rfl
 have F13:=fun_mk (st:=s_hangs_together) l13 c13 k13
 have b13:=F13.binds (ps:=["rooms"]) fun _ _ _ _ _ _ us hl=>ln1 hl fun _=>rfl
 have F14:=fun_mk (st:=s__law_of) l14 c14 k14
 have b14:=F14.binds (ps:=["_law_hand_here","_law_some"]) fun _ _ _ _ _ _ us hl=>ln2 hl fun _ _=>rfl
 have F15:=fun_mk (st:=s__law_order) l15 c15 k15
 have b15:=F15.binds (ps:=["_law_hand_here","_law_some"]) fun _ _ _ _ _ _ us hl=>ln2 hl fun _ _=>rfl
 have F16:=fun_mk (st:=s__law_is_web) l16 c16 k16
 have b16:=F16.binds (ps:=["_law_rooms"]) fun _ _ _ _ _ _ us hl=>ln1 hl fun _=>rfl
 have F17:=fun_mk (st:=s_has_form) l17 c17 k17
 have b17:=F17.binds (ps:=["thing"]) fun _ _ _ _ _ _ us hl=>ln1 hl fun _=>rfl
 have F18:=fun_mk (st:=s__law_drawn) l18 c18 k18
 have b18:=F18.binds (ps:=["_law_hand_here","_law_most"]) fun _ _ _ _ _ _ us hl=>ln2 hl fun _ _=>rfl
 have F19:=fun_mk (st:=s__law_cover) l19 c19 k19
 have b19:=F19.binds (ps:=["_law_hand_here","_law_web_here","_law_copies"]) fun _ _ _ _ _ _ us hl=>ln3 hl fun _ _ _=>rfl
 have F20:=fun_mk (st:=s__law_number) l20 c20 k20
 have b20:=F20.binds (ps:=["_law_hand_here","_law_many"]) fun _ _ _ _ _ _ us hl=>ln2 hl fun _ _=>rfl
 have F21:=fun_mk (st:=s_is_web) l21 c21 k21
 have b21:=F21.binds (ps:=["thing"]) fun _ _ _ _ _ _ us hl=>ln1 hl fun _=>rfl
 have F22:=fun_mk (st:=s__law_web) l22 c22 k22
 have b22:=F22.binds (ps:=["_law_hand_here"]) fun _ _ _ _ _ _ us hl=>ln1 hl fun _=>rfl
 have F23:=fun_mk (st:=s__law_doors_otherwise) l23 c23 k23
 have b23:=F23.binds (ps:=["_law_hand_here","_law_rooms","_law_way"]) fun _ _ _ _ _ _ us hl=>ln3 hl fun _ _ _=>rfl
 have F24:=fun_mk (st:=s__law_rooms_otherwise) l24 c24 k24
 have b24:=F24.binds (ps:=["_law_hand_here","_law_rooms","_law_way"]) fun _ _ _ _ _ _ us hl=>ln3 hl fun _ _ _=>rfl
 have F25:=fun_mk (st:=s__law_right) l25 c25 k25
 have b25:=F25.binds (ps:=["_law_thing","_law_due"]) fun _ _ _ _ _ _ us hl=>ln2 hl fun _ _=>rfl
 have F26:=fun_mk (st:=s_law) l26 c26 k26
 have b26:=F26.binds (ps:=["_law_script"]) fun _ _ _ _ _ _ us hl=>ln1 hl fun _=>rfl
 refine ⟨wF1 "law" "law" (defArgs s_law) (defBody s_law) (defScope s_law) .none kV26 dc26 pm26 an26 cd26 ct26,fun s v=>.of_eq rfl,fun base _ _=>?_⟩
 have o_is_whole:=ok_is_whole (P:=l.prog) (w:=w) (base:=base) F1 b1 (wM1 X G a1) B
 have o_is_tuple_of:=ok_is_tuple_of (P:=l.prog) (w:=w) (base:=base) F2 b2 (wM1 X G a2) B
 have o_ways:=ok_ways (P:=l.prog) (w:=w) (base:=base) F3 b3 (wM1 X G a3) B
 have o_is_paired:=ok_is_paired (P:=l.prog) (w:=w) (base:=base) F4 b4 (wM1 X G a4) B
 have o__law_hand:=ok__law_hand (P:=l.prog) (w:=w) (base:=base) F5 b5 (wM1 X G a5) B
 have o__law_take:=ok__law_take (P:=l.prog) (w:=w) (base:=base) F6 b6 (wM1 X G a6) B
 have o__law_joined:=ok__law_joined (P:=l.prog) (w:=w) (base:=base) F7 b7 (wM1 X G a7) B
 have o__law_round:=ok__law_round (P:=l.prog) (w:=w) (base:=base) F8 b8 (wM1 X G a8) B
 have o__law_places:=ok__law_places (P:=l.prog) (w:=w) (base:=base) F9 b9 (wM1 X G a9) B
 have o__law_put:=ok__law_put (P:=l.prog) (w:=w) (base:=base) F10 b10 (wM1 X G a10) B
 have o_is_room:=ok_is_room (P:=l.prog) (w:=w) (base:=base) F11 b11 (wM1 X G a11) B c_MOST_DOORS o_is_tuple_of o_is_whole
 have o_leads_back:=ok_leads_back (P:=l.prog) (w:=w) (base:=base) F12 b12 (wM1 X G a12) B o_is_paired
 have o_hangs_together:=ok_hangs_together (P:=l.prog) (w:=w) (base:=base) F13 b13 (wM1 X G a13) B o_ways
 have o__law_of:=ok__law_of (P:=l.prog) (w:=w) (base:=base) F14 b14 (wM1 X G a14) B o__law_take
 have o__law_order:=ok__law_order (P:=l.prog) (w:=w) (base:=base) F15 b15 (wM1 X G a15) B o__law_take
 have o__law_is_web:=ok__law_is_web (P:=l.prog) (w:=w) (base:=base) F16 b16 (wM1 X G a16) B o__law_places
 have o_has_form:=ok_has_form (P:=l.prog) (w:=w) (base:=base) F17 b17 (wM1 X G a17) B c_MOST_ROOMS o_is_room
 have o__law_drawn:=ok__law_drawn (P:=l.prog) (w:=w) (base:=base) F18 b18 (wM1 X G a18) B o__law_joined o__law_of o__law_order o__law_take
 have o__law_cover:=ok__law_cover (P:=l.prog) (w:=w) (base:=base) F19 b19 (wM1 X G a19) B o__law_order
 have o__law_number:=ok__law_number (P:=l.prog) (w:=w) (base:=base) F20 b20 (wM1 X G a20) B o__law_of o__law_take
 have o_is_web:=ok_is_web (P:=l.prog) (w:=w) (base:=base) F21 b21 (wM1 X G a21) B o_hangs_together o_has_form o_leads_back
 have o__law_web:=ok__law_web (P:=l.prog) (w:=w) (base:=base) F22 b22 (wM1 X G a22) B o__law_cover o__law_drawn o__law_round o__law_take
 have o__law_doors_otherwise:=ok__law_doors_otherwise (P:=l.prog) (w:=w) (base:=base) F23 b23 (wM1 X G a23) B o__law_number o__law_of o__law_places o__law_put
 have o__law_rooms_otherwise:=ok__law_rooms_otherwise (P:=l.prog) (w:=w) (base:=base) F24 b24 (wM1 X G a24) B o__law_of o__law_take o__law_web
 have o__law_right:=ok__law_right (P:=l.prog) (w:=w) (base:=base) F25 b25 (wM1 X G a25) B o_is_web
 have o_law:=ok_law (P:=l.prog) (w:=w) (base:=base) F26 b26 (wM1 X G a26) B o__law_doors_otherwise o__law_hand o__law_is_web o__law_right o__law_rooms_otherwise o__law_take o__law_web
 exact o_law
noncomputable abbrev Web:=List (List (Nat×Nat))
noncomputable def dP (p:Nat×Nat):D:=.tup [.int p.1,.int p.2]
noncomputable def dR (r:List (Nat×Nat)):D:=.tup (r.map dP)
noncomputable def dW (w:Web):D:=.tup (w.map dR)
theorem ix_tup {xs:List D}{i:Nat}{d:D}{S:Sto}(h:xs[i]? = some d):gIxY (.tup xs) (.int i) S=some (d,S):=by
 show gIx (.tup xs) (.int i) S=some (d,S)
 unfold gIx seqOf
 simp [atI_nat h]
theorem ix_row {w:Web}{r:Nat}{row:List (Nat×Nat)}{S:Sto}(h:w[r]? = some row):gIxY (dW w) (.int r) S=some (dR row,S):=ix_tup (by rw [gP1,h];rfl)
theorem und_dP (n:Nat)(p:Nat×Nat):(dP p).und n=true:=rfl
theorem unds_map {α:Type}{f:α->D}{n:Nat}(h:∀ x,(f x).und n=true):∀ xs:List α,D.unds n (xs.map f)=true
 | []=>rfl
 | x::xs=>by rw [mP1,D.unds,h x,unds_map h xs];rfl
theorem und_dR (n:Nat)(r:List (Nat×Nat)):(dR r).und n=true:=by unfold dR;rw [D.und];exact unds_map (und_dP n) r
theorem und_dW (n:Nat)(w:Web):(dW w).und n=true:=by unfold dW;rw [D.und];exact unds_map (und_dR n) w
theorem len_tup {xs:List D}{S:Sto}:gLen (.tup xs) S=some (.int xs.length,S):=rfl
noncomputable def hd (g:Nat)(m c:Int):Ob:=.lst [.ref g,.int m,.int c]
theorem at0 {a b c:D}:atI [a,b,c] 0=some a:=by rfl
theorem at1 {a b c:D}:atI [a,b,c] 1=some b:=by rfl
theorem at2 {a b c:D}:atI [a,b,c] 2=some c:=by rfl
theorem ne_new {S:Sto}{g:Nat}{own:List Int}(h:S[g]? = some (.lst (own.map D.int))):gNe (.ref g) (.ref S.length) (S++[.lst []])=some (.bl (!own.isEmpty),S++[.lst []]):=by
 have hg:g<S.length:=(gE1.mp h).1
 have s1:seqOf (S++[.lst []]) (.ref g)=some (true,own.map D.int):=by rw [seqOf,gL1 hg,h]
 have s2:seqOf (S++[.lst []]) (.ref S.length)=some (true,[]):=by rw [seqOf,List.getElem?_concat_length]
 unfold gNe deepMost
 rw [show (60:Nat)=59+1 from rfl,eqN,s1,s2]
 cases own with
 | nil=>simp [eqL]
 | cons x xs=>simp
theorem ix_hand {S:Sto}{h g:Nat}{m c:Int}(e:S[h]? = some (hd g m c)):gIxY (.ref h) (.int 0) S=some (.ref g,S)/\gIxY (.ref h) (.int 1) S=some (.int m,S)/\gIxY (.ref h) (.int 2) S=some (.int c,S):=by
 unfold hd at e
 refine ⟨?_,?_,?_⟩<;>simp [gIxY,gIxX,gIx,seqOf,e,at0,at1,at2]
theorem ix_own {S:Sto}{g:Nat}{x:Int}{own:List Int}(e:S[g]? = some (.lst ((x::own).map D.int))):gIxY (.ref g) (.int 0) S=some (.int x,S):=by
 simp [gIxY,gIxX,gIx,seqOf,e,atI,ixN]
theorem test_ok {S:Sto}{h g:Nat}{m c:Int}{own:List Int}{o1 o2 o3:Option D}(e:S[h]? = some (hd g m c))(e2:S[g]? = some (.lst (own.map D.int))):
  p__law_take_1 [some (.ref h),o1,o2,o3] S=some (match own with | []=>false | x::_=>x == 0,S++[.lst []]):=by
 have hh:h<S.length:=(gE1.mp e).1
 have hg:g<S.length:=(gE1.mp e2).1
 have e':(S++[.lst []])[h]? = some (hd g m c):=by rw [gL1 hh];exact e
 have e2':(S++[.lst []])[g]? = some (.lst (own.map D.int)):=by rw [gL1 hg];exact e2
 cases own with
 | nil=>simp [p__law_take_1,mAnd,mB,m2,b2,mV,mC,(ix_hand e).1,mLst,mNil,ne_new e2]
 | cons x xs=>
  have eq0:∀ (x:Int) (S:Sto),gEq (.int x) (.int 0) S=some (.bl (x == 0),S):=fun x S=>by rfl
  simp [p__law_take_1,mAnd,mB,m2,b2,mV,mC,(ix_hand e).1,mLst,mNil,ne_new e2,(ix_hand e').1,ix_own e2',eq0]
theorem pop_ok {S:Sto}{h g:Nat}{m c x:Int}{own:List Int}{o1 o2 o3:Option D}(e:S[h]? = some (hd g m c))(e2:S[g]? = some (.lst ((x::own).map D.int))):
  p__law_take_2 [some (.ref h),o1,o2,o3] S=some (.nx,[some (.ref h),o1,o2,o3],S.set g (.lst (own.map D.int))):=by
 have hi:ixN (own.length+1) 0=some 0:=by unfold ixN;rw [if_pos (by decide),if_pos (by omega)];rfl
 simp [p__law_take_2,mDrop,mMt,m2,b2,mV,mC,(ix_hand e).1,e2,mCons,mNil,gPop,hi]
theorem skip_ok {h g:Nat}{m c:Int}{o1 o2 o3:Option D}(hgh:g≠h):∀ (own:List Int) (S:Sto) (f:Nat),own.length<f->S[h]? = some (hd g m c)->S[g]? = some (Ob.lst (own.map D.int))->(∀ x∈own,0<=x) ->
  ∃ (own':List Int) (n:Nat),whl p__law_take_1 p__law_take_2 f [some (.ref h),o1,o2,o3] S=some (.nx,[some (.ref h),o1,o2,o3],S.set g (Ob.lst (own'.map D.int))++List.replicate n (Ob.lst []))/\(∀ x∈own',0<=x)/\(∀ x r,own'=x::r->0<x)/\own'.length<=own.length
 | [],S,f+1,hf,e,e2,hp=>by
  refine ⟨[],1,?_,by simp,by simp,nR1 _⟩
  have hg:g<S.length:=(gE1.mp e2).1
  have:S.set g (Ob.lst (([]:List Int).map D.int))=S:=by
   obtain ⟨hl,hx⟩:=gE1.mp e2
   rw [<- hx];exact List.set_getElem_self hl
  rw [whl];dsimp only;rw [test_ok e e2]
  simp only [oS1,this]
  rfl
 | x :: own,S,f+1,hf,e,e2,hp=>by
  have hg:g<S.length:=(gE1.mp e2).1
  have hh:h<S.length:=(gE1.mp e).1
  by_cases hx:x=0
  ·have e':(S++[Ob.lst []])[h]? = some (hd g m c):=by rw [gL1 hh];exact e
   have e2':(S++[Ob.lst []])[g]? = some (Ob.lst ((x::own).map D.int)):=by rw [gL1 hg];exact e2
   have e3:((S++[Ob.lst []]).set g (Ob.lst (own.map D.int)))[h]? = some (hd g m c):=by rw [gS1 hgh];exact e'
   have e4:((S++[Ob.lst []]).set g (Ob.lst (own.map D.int)))[g]? = some (Ob.lst (own.map D.int)):=List.getElem?_set_self (by simp;omega)
   obtain ⟨own',n,q,q1,q2,q3⟩:=skip_ok (o1:=o1) (o2:=o2) (o3:=o3) hgh own _ f (by simp at hf;omega) e3 e4 (fun y hy=>hp y (mC1 _ hy))
   refine ⟨own',n+1,?_,q1,q2,by simp;omega⟩
   rw [whl];dsimp only;rw [test_ok e e2]
   subst hx
   simp only [oS1,beq_self_eq_true,if_true,pop_ok e' e2']
   rw [q,List.set_set,List.set_append_left _ _ hg,List.append_assoc]
   rfl
  ·refine ⟨x::own,1,?_,hp,fun y r e=>?_,nR1 _⟩
   ·have:S.set g (Ob.lst ((x::own).map D.int))=S:=by
     obtain ⟨hl,hx⟩:=gE1.mp e2
     rw [<- hx];exact List.set_getElem_self hl
    have hb:(x == 0)=false:=by simpa using hx
    rw [whl];dsimp only;rw [test_ok e e2]
    simp only [oS1,this,hb]
    rfl
   ·cases e
    have:=hp x mS1
    omega
noncomputable def mix1 (m c:Int):Int:=(m+65537*c*c+11)*48271%2305843009213693921
noncomputable def mix2 (m c:Int):Int:=mix1 m c*(mix1 m c%1000003+99991*c)%2305843009213693907
theorem take_ok {S:Sto}{h g:Nat}{m c k:Int}{own:List Int}(hgh:g≠h)(e:S[h]? = some (hd g m c))(e2:S[g]? = some (Ob.lst (own.map D.int)))(hp:∀ x∈own,0<=x)(hl:own.length<=1000)(hk:0<k)(hk2:k<1073741824)(hc:0<=c)(hc2:c<2^60):
  ∃ (d:Int) (own':List Int) (c':Int) (n:Nat),m__law_take [.ref h,.int k] S=some (.int d,(S.set g (Ob.lst (own'.map D.int))).set h (hd g m c')++List.replicate n (Ob.lst []))/\0<=d/\d<k/\(∀ x∈own',0<=x)/\own'.length<=own.length/\0<=c'/\c'<=c+1:=by
 obtain ⟨own',n,q,q1,q2,q3⟩:=skip_ok (o1:=some (.int k)) (o2:=none) (o3:=none) hgh own S 100000 (by omega) e e2 hp
 have hg:g<S.length:=(gE1.mp e2).1
 have hh:h<S.length:=(gE1.mp e).1
 generalize hT:S.set g (Ob.lst (own'.map D.int))=T at q
 have tl:T.length=S.length:=by rw [<- hT,List.length_set]
 have t1:T[h]? = some (hd g m c):=by rw [<- hT,gS1 hgh];exact e
 have t2:T[g]? = some (Ob.lst (own'.map D.int)):=by rw [<- hT];exact List.getElem?_set_self hg
 generalize hU:T++List.replicate n (Ob.lst [])=U at q
 have u1:U[h]? = some (hd g m c):=by rw [<- hU,gL1 (by omega)];exact t1
 have u2:U[g]? = some (Ob.lst (own'.map D.int)):=by rw [<- hU,gL1 (by omega)];exact t2
 have uh:h<U.length:=(gE1.mp u1).1
 have ug:g<U.length:=(gE1.mp u2).1
 have u3:(U++[Ob.lst []])[h]? = some (hd g m c):=by rw [gL1 uh];exact u1
 have u4:(U++[Ob.lst []])[g]? = some (Ob.lst (own'.map D.int)):=by rw [gL1 ug];exact u2
 have whole:∀ V:Sto,V.length=T.length->(V++List.replicate n (Ob.lst []))++[Ob.lst []]=V++List.replicate (n+1) (Ob.lst []):=fun V _=>by rw [List.append_assoc,<- List.replicate_succ']
 have st:startD 4 [.ref h,.int k]=[some (.ref h),some (.int k),none,none]:=rfl
 cases own' with
 | cons x r=>
  have hx:=q2 x r rfl
  refine ⟨x%k,(x/k)::r,c,n+1,?_,Int.emod_nonneg _ (by omega),Int.emod_lt_of_pos _ hk,?_,q3,hc,by omega⟩
  ·have hi:ixN (r.length+1) 0=some 0:=by unfold ixN;rw [if_pos (by decide),if_pos (by omega)];rfl
   have fin:(U++[Ob.lst []]).set g (Ob.lst (((x/k)::r).map D.int))=((S.set g (Ob.lst (((x/k)::r).map D.int))).set h (hd g m c))++List.replicate (n+1) (Ob.lst []):=by
    rw [<- whole _ (by rw [List.length_set,List.length_set,tl]),<- hU,List.set_append_left _ _ (by simp;omega),List.set_append_left _ _ (by omega),<- hT,List.set_set]
    congr 2
    have:(S.set g (Ob.lst (((x/k)::r).map D.int)))[h]? = some (hd g m c):=by rw [gS1 hgh];exact e
    obtain ⟨hl,hx⟩:=gE1.mp this
    rw [<- hx];exact (List.set_getElem_self hl).symm
   simp only [m__law_take,fnB,st,b__law_take,mSeq,q,oS1]
   simp [mIfS,mB,m2,b2,mV,mC,(ix_hand u1).1,mLst,mNil,ne_new u2,mSeq,mAsg,(ix_hand u3).1,ix_own u4,gMod,hk,gN,gDiv,hk2,gS,b3,gSetY,gSetX,u4,gSetIx,hi,mRet]
   simpa using fin
  ·intro y hy
   rcases List.mem_cons.mp hy with z | z
   ·rw [z];exact Int.ediv_nonneg (by omega) (by omega)
   ·exact q1 y (mC1 _ z)
 | nil=>
  refine ⟨(mix2 m (c+1)/97+mix2 m (c+1)/1000033)%k,[],c+1,n+1,?_,Int.emod_nonneg _ (by omega),Int.emod_lt_of_pos _ hk,by simp,q3,by omega,by omega⟩
  have f1:mulFits 65537 (c+1)=true:=mulF1 (by decide) (by decide)
  have f2:mulFits (65537*(c+1)) (c+1)=true:=mulF2 (by omega) (by omega)
  have f3:mulFits (m+65537*(c+1)*(c+1)+11) 48271=true:=mulF2 (by decide) (by decide)
  have f4:mulFits 99991 (c+1)=true:=mulF1 (by decide) (by decide)
  have w:=Int.emod_lt_of_pos ((m+65537*(c+1)*(c+1)+11)*48271) (show (0:Int)<2305843009213693921 by decide)
  have w':=Int.emod_nonneg ((m+65537*(c+1)*(c+1)+11)*48271) (show (2305843009213693921:Int)≠0 by decide)
  have f5:mulFits ((m+65537*(c+1)*(c+1)+11)*48271%2305843009213693921) ((m+65537*(c+1)*(c+1)+11)*48271%2305843009213693921%1000003+99991*(c+1))=true:=mulF1 (by omega) (by omega)
  have fin:(U++[Ob.lst []]).set h (hd g m (c+1))=((S.set g (Ob.lst (([]:List Int).map D.int))).set h (hd g m (c+1)))++List.replicate (n+1) (Ob.lst []):=by
   rw [<- whole _ (by rw [List.length_set,List.length_set,tl]),<- hU,List.set_append_left _ _ (by simp;omega),List.set_append_left _ _ (by omega),<- hT]
  have u5:((U++[Ob.lst []]).set h (hd g m (c+1)))[h]? = some (hd g m (c+1)):=List.getElem?_set_self (by simp;omega)
  have i3:=ix_hand u5
  have set2:gSetY (.ref h) (.int 2) (.int (c+1)) (U++[Ob.lst []])=some (.non,(U++[Ob.lst []]).set h (hd g m (c+1))):=by
   unfold hd at u3 ⊢
   simp [gSetY,gSetX,u3,gSetIx,ixN]
  simp only [m__law_take,fnB,st,b__law_take,mSeq,q,oS1]
  simp [mIfS,mB,m2,b2,mV,mC,(ix_hand u1).1,mLst,mNil,ne_new u2,mSeq,mAsg,(ix_hand u3).2.2,gMod,hk,gN,gDiv,gS,b3,set2,mRet,mNx,gAdd,gMul,i3.2.1,i3.2.2,f1,f2,f3,f4,f5,mix1,mix2]
  simpa using fin
structure Hand (h g:Nat)(n:Nat)(S:Sto):Prop where
 ne:g≠h
 at_:∃ (m c:Int) (own:List Int),S[h]? = some (hd g m c)/\S[g]? = some (Ob.lst (own.map D.int))/\(∀ x∈own,0<=x)/\own.length<=1000/\0<=c/\c<=n
noncomputable def Shut (S:Sto):Prop:=S.all (Ob.und S.length)=true
structure Chg (h g:Nat)(S S':Sto):Prop where
 len:S'.length=S.length
 same:∀ i,i≠h->i≠g->S'[i]? = S[i]?
theorem gc_drop {n:Nat}{d:D}{S G:Sto}(hl:S.length=n)(hd:d.und n=true)(ha:S.all (Ob.und n)=true):gc n (d,S++G)=(d,S):=by
 have e:(S++G).take n=S:=by rw [<- hl,List.take_left]
 unfold gc
 dsimp only
 rw [if_pos (by rw [e,hd,ha];rfl),e]
theorem all_set {p:Ob->Bool}{S:Sto}{i:Nat}{o:Ob}(h:S.all p=true)(ho:p o=true):(S.set i o).all p=true:=by
 rw [List.all_eq_true] at h ⊢
 intro x hx
 rcases List.mem_or_eq_of_mem_set hx with h1 | h1
 ·exact h x h1
 ·rw [h1];exact ho
theorem take_call {S:Sto}{h g n:Nat}{k:Int}(H:Hand h g n S)(hS:Shut S)(hn:n<2^59)(hk:0<k)(hk2:k<1073741824):
  ∃ (d:Nat) (S':Sto),mCall 2 m__law_take [.ref h,.int k] S=some (.int d,S')/\(d:Int)<k/\Hand h g (n+1) S'/\Shut S'/\Chg h g S S':=by
 obtain ⟨m,c,own,e1,e2,hp,hl,c0,cn⟩:=H.at_
 obtain ⟨d,own',c',z,q,d0,d1,p',l',c0',c1'⟩:=take_ok H.ne e1 e2 hp hl hk hk2 c0 (by omega)
 have hh:h<S.length:=(gE1.mp e1).1
 have hg:g<S.length:=(gE1.mp e2).1
 obtain ⟨k',rfl⟩:=Int.eq_ofNat_of_zero_le d0
 have sh:((S.set g (Ob.lst (own'.map D.int))).set h (hd g m c')).all (Ob.und S.length)=true:=
  all_set (all_set hS (by rw [Ob.und];exact unds_ints _ _)) (by unfold hd;rw [Ob.und,D.unds,D.unds,D.unds,D.unds,D.und,D.und,D.und];simp [hg])
 refine ⟨k',(S.set g (Ob.lst (own'.map D.int))).set h (hd g m c'),?_,d1,⟨H.ne,m,c',own',?_,?_,p',by omega,c0',by push_cast;omega⟩,?_,?_,?_⟩
 ·rw [call_open (n:=2) q rfl rfl,gc_drop (by simp) rfl sh]
 ·rw [List.getElem?_set_self (by simpa using hh)]
 ·rw [gS1 H.ne.symm,List.getElem?_set_self hg]
 ·unfold Shut
  rw [List.length_set,List.length_set]
  exact sh
 ·simp
 ·intro i h1 h2
  rw [gS1 (Ne.symm h1),gS1 (Ne.symm h2)]
structure HS (h g n:Nat)(B U:Sto):Prop where
 hl:h<B.length
 gl:g<B.length
 len:B.length<=U.length
 same:∀ i,i<B.length->i≠h->i≠g->U[i]? = B[i]?
 hand:Hand h g n U
 shut:Shut U
theorem HS.more {h g n n':Nat}{B U:Sto}(s:HS h g n B U)(hn:n<=n'):HS h g n' B U:=by
 obtain ⟨m,c,own,e1,e2,e3,e4,e5,e6⟩:=s.hand.at_
 exact ⟨s.hl,s.gl,s.len,s.same,⟨s.hand.ne,m,c,own,e1,e2,e3,e4,e5,by omega⟩,s.shut⟩
theorem HS.self {h g n:Nat}{U:Sto}(H:Hand h g n U)(hS:Shut U):HS h g n U U:=by
 obtain ⟨m,c,own,e1,e2,_⟩:=H.at_
 exact ⟨(gE1.mp e1).1,(gE1.mp e2).1,nR1 _,fun _ _ _ _=>rfl,H,hS⟩
theorem HS.trans {h g n n':Nat}{B U V:Sto}(a:HS h g n B U)(b:HS h g n' U V):HS h g n' B V:=
 ⟨a.hl,a.gl,Nat.le_trans a.len b.len,fun i hi h1 h2=>(b.same i (nL1 hi a.len) h1 h2).trans (a.same i hi h1 h2),b.hand,b.shut⟩
theorem HS.at {h g n:Nat}{B U:Sto}(s:HS h g n B U){i:Nat}{o:Ob}(e:B[i]? = some o)(h1:i≠h)(h2:i≠g):U[i]? = some o:=by
 rw [s.same i (gE1.mp e).1 h1 h2];exact e
theorem shut_app {U:Sto}{G:Sto}(s:Shut U)(hg:∀ o∈G,o.und (U++G).length=true):Shut (U++G):=by
 unfold Shut at *
 rw [List.all_append,bA1]
 rw [List.all_eq_true] at s
 refine ⟨List.all_eq_true.mpr fun o ho=>obund_le (by rw [lA1];omega) (s o ho),List.all_eq_true.mpr hg⟩
theorem shut_set {U:Sto}{i:Nat}{o:Ob}(s:Shut U)(ho:o.und U.length=true):Shut (U.set i o):=by
 unfold Shut at *
 rw [List.length_set]
 exact all_set s ho
theorem HS.app {h g n:Nat}{B U G:Sto}(s:HS h g n B U)(hg:∀ o∈G,o.und (U++G).length=true):HS h g n B (U++G):=by
 obtain ⟨m,c,own,e1,e2,e3,e4,e5,e6⟩:=s.hand.at_
 refine ⟨s.hl,s.gl,by rw [lA1];have:=s.len;omega,fun i hi h1 h2=>?_,⟨s.hand.ne,m,c,own,?_,?_,e3,e4,e5,e6⟩,shut_app s.shut hg⟩
 ·rw [gL1 (by have:=s.len;omega)];exact s.same i hi h1 h2
 ·rw [gL1 (gE1.mp e1).1];exact e1
 ·rw [gL1 (gE1.mp e2).1];exact e2
theorem HS.set {h g n i:Nat}{B U:Sto}{o:Ob}(s:HS h g n B U)(hi:B.length<=i)(ho:o.und U.length=true):HS h g n B (U.set i o):=by
 obtain ⟨m,c,own,e1,e2,e3,e4,e5,e6⟩:=s.hand.at_
 have h1:=s.hl
 have h2:=s.gl
 refine ⟨s.hl,s.gl,by rw [List.length_set];exact s.len,fun j hj a b=>?_,⟨s.hand.ne,m,c,own,?_,?_,e3,e4,e5,e6⟩,shut_set s.shut ho⟩
 ·rw [gS1 (by omega)];exact s.same j hj a b
 ·rw [gS1 (by omega)];exact e1
 ·rw [gS1 (by omega)];exact e2
theorem take_W {h g n:Nat}{B U:Sto}{k:Int}{Q:D×Sto->Prop}(s:HS h g n B U)(hn:n<=2^50)(hk:0<k)(hk2:k<1073741824)
  (q:∀ (d:Nat) U',HS h g (n+1) B U'->HS h g (n+1) U U'->U'.length=U.length->(d:Int)<k->Q (.int d,U')):W (mCall 2 m__law_take [.ref h,.int k] U) Q:=by
 obtain ⟨d,U',e,hd,H',S',C⟩:=take_call s.hand s.shut (by omega) hk hk2
 have h1:=s.hl
 have h2:=s.gl
 have h3:=s.len
 have u:HS h g (n+1) U U':=⟨by omega,by omega,by rw [C.len];omega,fun i _ a b=>C.same i a b,H',S'⟩
 exact ⟨_,e,q d U' (s.trans u) u C.len hd⟩
theorem callB {n h g c c':Nat}{f:FN}{ds:List D}{B U:Sto}{Q:D×Sto->Prop}(hn:ds.length=n)(hu:D.unds 0 ds=false)(s:HS h g c B U)
  (q:W (f ds U) fun p=>HS h g c' U p.2/\p.1.und 0=true /\ ∀ U',HS h g c' B U'->HS h g c' U U'->U'.length=U.length->Q (p.1,U')):W (mCall n f ds U) Q:=by
 refine callW hn hu (q.mono ?_)
 rintro ⟨d,V⟩ ⟨v,hd,q⟩
 dsimp only at v hd q
 have hl:=v.len
 have l1:=s.hl
 have l2:=s.gl
 have l3:=s.len
 have tl:(V.take U.length).length=U.length:=by rw [List.length_take];omega
 obtain ⟨m,cc,own,e1,e2,e3,e4,e5,e6⟩:=v.hand.at_
 have get:∀ i,i<U.length->(V.take U.length)[i]? = V[i]?:=fun i hi=>by rw [List.getElem?_take_of_lt hi]
 have sh:(V.take U.length).all (Ob.und U.length)=true:=by
  rw [List.all_eq_true]
  intro o ho
  obtain ⟨i,hi⟩:=List.getElem?_of_mem ho
  have hlt:i<U.length:=by rw [<- tl];exact (gE1.mp hi).1
  rw [get i hlt] at hi
  by_cases a:i=h
  ·subst a
   rw [e1] at hi;cases hi
   simp [hd,Law.hd,Ob.und,D.unds,D.und];omega
  ·by_cases b:i=g
   ·subst b
    rw [e2] at hi;cases hi
    rw [Ob.und];exact unds_ints _ _
   ·rw [v.same i hlt a b] at hi
    have:=s.shut
    unfold Shut at this
    rw [List.all_eq_true] at this
    exact this o (gM1 hi)
 have u:HS h g c' U (V.take U.length):=by
  refine ⟨v.hl,v.gl,by rw [tl];omega,fun i hi a b=>by rw [get i hi];exact v.same i hi a b,⟨v.hand.ne,m,cc,own,by rw [get h (by omega)];exact e1,by rw [get g (by omega)];exact e2,e3,e4,e5,e6⟩,?_⟩
  unfold Shut;rw [tl];exact sh
 have e:gc U.length (d,V)=(d,V.take U.length):=by
  unfold gc
  dsimp only
  rw [if_pos (by rw [und_mono hd,sh];rfl)]
 rw [e]
 exact q _ (s.trans u) u tl
theorem erase_perm:∀ {xs:List D} {i:Nat} (h:i<xs.length),(xs[i]::xs.eraseIdx i).Perm xs
 | x::xs,0,h=>List.Perm.refl _
 | x::xs,i+1,h=>by
  have:=erase_perm (xs:=xs) (i:=i) (by simpa using h)
  rw [List.eraseIdx_cons_succ,List.getElem_cons_succ]
  exact (List.Perm.swap _ _ _).trans (this.cons x)
theorem unds_erase {n:Nat}{xs:List D}{i:Nat}(h:D.unds n xs=true):D.unds n (xs.eraseIdx i)=true:=by
 induction xs generalizing i with
 | nil=>simpa using h
 | cons x xs ih=>
  rw [D.unds,bA1] at h
  cases i with
  | zero=>exact h.2
  | succ i=>rw [List.eraseIdx_cons_succ,D.unds,h.1,ih h.2];rfl
theorem order_W {h g c r:Nat}{B U:Sto}{xs:List D}{Q:D×Sto->Prop}(s:HS h g c B U)(hc:c<=2^45)(hr:U[r]? = some (.lst xs))(hrh:r≠h)(hrg:r≠g)(hl:xs.length<=100)(hx:D.unds 0 xs=true)
  (q:∀ k ys U',HS h g (c+xs.length) B U'->HS h g (c+xs.length) U U'->U.length<=k->U'[k]? = some (.lst ys)->ys.Perm xs->Q (.ref k,U')):W (mCall 2 m__law_order [.ref h,.ref r] U) Q:=by
 refine callW rfl rfl ?_
 unfold m__law_order
 refine fnW ?_
 unfold b__law_order
 have h1:=s.hl
 have h2:=s.gl
 have h3:=s.len
 have s0:HS h g c U U:=HS.self s.hand s.shut
 refine seqW (fun r' S=>S=U++[.lst xs]/\r'=[some (.ref h),some (.ref r),some (.ref U.length)]) ?_ ?_
 ·((try walk_at "own wq");repeat (simp only [gLst,seq_ref hr];try walk_at "own wq"))
 rintro r' S ⟨rfl,rfl⟩
 have hr2:(U++[Ob.lst xs])[r]? = some (.lst xs):=by rw [gL1 (gE1.mp hr).1];exact hr
 walk_at "own wq"
 refine sW_ref hr2 ?_
 dsimp only
 rw [Int.toNat_natCast]
 refine ⟨bnd_nat (by omega),?_⟩
 refine loopF_W (fun i acc r' S=>∃ x left,i<=xs.length/\r'=[x,some (.ref U.length),some (.ref h)]/\HS h g (c+i) U S/\S.length=U.length+1/\S[U.length]? = some (.lst left)/\(acc++left).Perm xs/\acc.length=i/\D.unds 0 left=true) (nums 0 xs.length) 0 [] _ _ ⟨none,xs,by omega,rfl,s0.app (fun o ho=>by simp at ho;subst ho;rw [Ob.und];exact unds_mono hx),by simp,by simp,by simp,rfl,hx⟩ (fun _ _ _ _ _=>rfl) ?_ ?_
 ·rintro i d hd acc r' S ⟨x,left,hi,rfl,hs,hsl,hleft,hp,ha,hu⟩
  have hlt:=(gE1.mp hd).1
  rw [nums_len] at hlt
  rw [Nat.zero_add] at *
  have hll:left.length=xs.length-i:=by
   have:=hp.length_eq
   rw [lA1] at this
   omega
  walk_at "own wq"
  refine W_mMt ?_
  walk_at "own wq"
  refine ⟨U.length,left,rfl,hleft,?_⟩
  refine sW_ref hleft ?_
  dsimp only
  refine take_W hs (by omega) (by omega) (by omega) fun j S' hs1 hs2 hl2 hj=>?_
  have hj':j<left.length:=by omega
  have hleft':S'[U.length]? = some (.lst left):=hs2.at hleft (by omega) (by omega)
  walk_at "own wq"
  refine W_popL hleft' (gG1 hj') (by omega) ?_
  refine ⟨_,left.eraseIdx j,by omega,rfl,hs1.set (nR1 _) (by rw [Ob.und];exact unds_mono (unds_erase hu)),by rw [List.length_set];omega,by rw [List.getElem?_set_self (by omega)],?_,by omega,unds_erase hu⟩
  have:=erase_perm hj'
  exact (List.Perm.append_left acc this).trans hp
 ·rintro ys r' S ⟨x,left,hi,rfl,hs,hsl,hleft,hp,ha,hu⟩
  rw [List.nil_append,Nat.zero_add,nums_len] at *
  have hll:left=[]:=by
   have:=hp.length_eq
   rw [lA1] at this
   exact List.eq_nil_of_length_eq_zero (by omega)
  subst hll
  rw [List.append_nil] at hp
  walk_at "own wq"
  refine ⟨fits_le (by omega),?_⟩
  have hu2:D.unds 0 ys=true:=unds_of' fun y hy=>unds_mem hx (hp.mem_iff.mp hy)
  have hv:HS h g (c+xs.length) U (S++[.lst ys]):=hs.app fun o ho=>by simp at ho;subst ho;rw [Ob.und];exact unds_mono hu2
  have hg:gc U.length (.ref S.length,S++[.lst ys])=(.ref S.length,S++[.lst ys]):=by
   unfold gc
   rw [if_neg]
   simp [D.und]
   intro z;omega
  rw [hg]
  exact q S.length ys _ (s.trans hv) hv (by omega) (by rw [List.getElem?_concat_length]) hp
where
 unds_of' {xs:List D}:(∀ x∈xs,x.und 0=true)->D.unds 0 xs=true:=by
  induction xs with
  | nil=>intro _;rfl
  | cons x xs ih=>intro h;rw [D.unds,h x mS1,ih fun y hy=>h y (mC1 _ hy)];rfl
noncomputable abbrev Rows2:=List (List (Nat×Nat))
structure EW (b m:Nat)(E:Rows2)(U:Sto):Prop where
 el:E.length=m
 row:∀ (i:Nat) (row:List (Nat×Nat)),E[i]? = some row->U[b+i]? = some (rowOb row)
 ends:U[b+m]? = some (.lst (refs b m))
theorem EW.over {h g n b m:Nat}{E:Rows2}{U V:Sto}(e:EW b m E U)(s:HS h g n U V)(hh:h<b)(hg:g<b):EW b m E V:=
 ⟨e.el,fun i row hr=>s.at (e.row i row hr) (by omega) (by omega),s.at e.ends (by omega) (by omega)⟩
theorem EW.setRow {b m i:Nat}{E:Rows2}{U:Sto}{row:List (Nat×Nat)}(w:EW b m E U)(hi:i<m):EW b m (E.set i row) (U.set (b+i) (rowOb row)):=by
 have hl:b+m<U.length:=(gE1.mp w.ends).1
 refine ⟨by rw [List.length_set];exact w.el,fun j row' h=>?_,by rw [gS1 (by omega)];exact w.ends⟩
 by_cases e:i=j
 ·subst e
  rw [List.getElem?_set_self (by rw [w.el];exact hi)] at h
  cases h
  rw [List.getElem?_set_self (by omega)]
 ·rw [gS1 e] at h
  rw [gS1 (by omega)]
  exact w.row j row' h
theorem W_endsE {b m i:Nat}{E:Rows2}{U:Sto}{Q:D×Sto->Prop}(w:EW b m E U)(hi:i<m)(q:Q (.ref (b+i),U)):W (gIxY (.ref (b+m)) (.int i) U) Q:=
 W_ixL (xs:=refs b m) (x:=.ref (b+i)) w.ends (refs_at hi) q
theorem joined_W {b m a c e:Nat}{E:Rows2}{U:Sto}{Q:D×Sto->Prop}(w:EW b m E U)(ha:a<m)(hc:c<m){ra:List (Nat×Nat)}(hra:E[a]? = some ra)(la:ra.length<=4){rc:List (Nat×Nat)}(hrc:E[c]? = some rc)(lc:rc.length<=4)
  (q0:(ra.length+(if a=c then 1 else 0)>3\/rc.length>3)->Q (.int e,U))
  (q1:ra.length+(if a=c then 1 else 0)<=3->rc.length<=3 -> ∀ rb,(E.set a (ra++[(e,0)]))[c]? = some rb->Q (.int ((e+1:Nat):Int),(U.set (b+a) (rowOb (ra++[(e,0)]))).set (b+c) (rowOb (rb++[(e,1)])))):
  W (mCall 4 m__law_joined [.ref (b+m),.int a,.int c,.int e] U) Q:=by
 have key:W (m__law_joined [.ref (b+m),.int a,.int c,.int e] U) fun p=>p.2.length=U.length/\Q p:=by
  unfold m__law_joined
  refine fnW ?_
  unfold b__law_joined
  have e1:((a:Int) == (c:Int))=decide (a=c):=by
   rw [Bool.eq_iff_iff,beq_iff_eq,decide_eq_true_eq];omega
  walk_at "own wq"
  refine W_endsE w ha ?_
  walk_at "own wq"
  refine sW_ref (xs:=ra.map pD) (w.row a ra hra) ?_
  ((try walk_at "own wq");repeat (simp only [e1];try walk_at "own wq"))
  have go:ra.length+(if a=c then 1 else 0)<=3->rc.length<=3->W (mMt (b2 gApp) (m2 (b2 gIxY) (mV 0) (mV 1)) (mCons (mTup (mCons (mV 3) (mCons (mC (D.int 0)) mNil))) mNil) [some (.ref (b+m)),some (.int a),some (.int c),some (.int e)] U) fun x=>
    W (mMt (b2 gApp) (m2 (b2 gIxY) (mV 0) (mV 2)) (mCons (mTup (mCons (mV 3) (mCons (mC (D.int 1)) mNil))) mNil) [some (.ref (b+m)),some (.int a),some (.int c),some (.int e)] x.2) fun x=>
     x.2.length=U.length/\Q (.int ((e:Int)+1),x.2):=by
   intro c1 c2
   refine W_mMt ?_
   walk_at "own wq"
   refine W_endsE w ha ?_
   refine ⟨b+a,ra.map pD,rfl,w.row a ra hra,?_⟩
   walk_at "own wq"
   rw [W_app (xs:=ra.map pD) (w.row a ra hra)]
   refine ⟨fits_le (by rw [lM1];omega),?_⟩
   have er:(ra.map pD++[D.tup [D.int ↑e,D.int 0]])=(ra++[(e,0)]).map pD:=by simp [pD]
   rw [er]
   have w1:=w.setRow (row:=ra++[(e,0)]) ha
   obtain ⟨rb,hrb⟩:∃ rb,(E.set a (ra++[(e,0)]))[c]? = some rb:=⟨_,gG1 (by rw [w1.el];exact hc)⟩
   have lb:rb.length<=8:=by
    by_cases z:a=c
    ·subst z
     rw [List.getElem?_set_self (by rw [w.el];exact ha)] at hrb
     cases hrb;simp;omega
    ·rw [gS1 z,hrc] at hrb
     cases hrb;omega
   refine W_mMt ?_
   walk_at "own wq"
   refine W_endsE w1 hc ?_
   refine ⟨b+c,rb.map pD,rfl,w1.row c rb hrb,?_⟩
   walk_at "own wq"
   refine (W_app (xs:=rb.map pD) (w1.row c rb hrb)).mpr ?_
   refine ⟨fits_le (by rw [lM1];omega),?_⟩
   have er2:(rb.map pD++[D.tup [D.int ↑e,D.int 1]])=(rb++[(e,1)]).map pD:=by simp [pD]
   rw [er2]
   have:=q1 c1 c2 rb hrb
   refine ⟨by simp,?_⟩
   simpa [rowOb] using this
  have ei:(if decide (a=c)=true then (1:Int) else 0)=((if a=c then 1 else 0:Nat):Int):=by
   by_cases z:a=c<;>simp [z]
  rw [ei,lM1]
  by_cases c1:ra.length+(if a=c then 1 else 0)<=3
  ·rw [if_neg (by rw [decide_eq_true_eq];omega)]
   refine W_endsE w hc ?_
   walk_at "own wq"
   refine sW_ref (xs:=rc.map pD) (w.row c rc hrc) ?_
   walk_at "own wq"
   rw [lM1]
   by_cases c2:rc.length<=3
   ·rw [if_neg (by rw [decide_eq_true_eq];omega)]
    exact go c1 c2
   ·rw [if_pos (by rw [decide_eq_true_eq];omega)]
    exact q0 (.inr (by omega))
  ·rw [if_pos (by rw [decide_eq_true_eq];omega)]
   exact q0 (.inl (by omega))
 obtain ⟨⟨d,S1⟩,ek,hl,q⟩:=key
 exact ⟨_,call_same ek rfl rfl hl,q⟩
noncomputable def allE:Nat->List (Nat×Nat)
 | 0=>[]
 | e+1=>(e,1)::(e,0)::allE e
theorem allE_len:∀ e,(allE e).length=2*e
 | 0=>rfl
 | e+1=>by rw [allE,lC1,lC1,allE_len e];omega
theorem mem_allE:∀ {e:Nat} {x:Nat×Nat},x∈allE e↔x.1<e/\x.2<=1
 | 0,x=>by simp [allE]
 | e+1,x=>by
  rw [allE,List.mem_cons,List.mem_cons,mem_allE (e:=e)]
  obtain ⟨a,b⟩:=x
  simp only [Prod.mk.injEq]
  omega
theorem nodup_allE:∀ e,(allE e).Nodup
 | 0=>List.nodup_nil
 | e+1=>by
  rw [allE,List.nodup_cons,List.nodup_cons]
  refine ⟨fun h=>?_,fun h=>?_,nodup_allE e⟩
  ·rcases List.mem_cons.mp h with h | h
   ·simp at h
   ·have:=(mem_allE.mp h).1;simp at this
  ·have:=(mem_allE.mp h).1;simp at this
theorem flat_set:∀ {E:Rows2} {i:Nat} {row:List (Nat×Nat)} {x:Nat×Nat},E[i]? = some row->(E.set i (row++[x])).flatten.Perm (x::E.flatten)
 | [],i,_,_,h=>by simp at h
 | a::E,0,row,x,h=>by
  simp at h;subst h
  rw [List.set_cons_zero,List.flatten_cons,List.flatten_cons,List.append_assoc]
  exact List.perm_middle
 | a::E,i+1,row,x,h=>by
  have:=flat_set (E:=E) (i:=i) (row:=row) (x:=x) (by simpa using h)
  rw [List.set_cons_succ,List.flatten_cons,List.flatten_cons]
  exact (List.Perm.append_left a this).trans List.perm_middle
structure DI (m:Nat)(E:Rows2)(e:Nat):Prop where
 len:E.length=m
 all:E.flatten.Perm (allE e)
 le:∀ (i:Nat) (row:List (Nat×Nat)),E[i]? = some row->row.length<=4
 tie:∀ j:Nat,1<=j->j<m->j<=e -> ∃ (k x:Nat) (ra rj:List (Nat×Nat)),k<j/\E[k]? = some ra/\E[j]? = some rj/\(x,0)∈ra/\(x,1)∈rj
theorem DI.start (m:Nat):DI m (List.replicate m []) 0:=by
 refine ⟨by simp,by simp [allE],fun i row h=>?_,fun j h1 _ h2=>by omega⟩
 rw [List.getElem?_replicate] at h
 split at h
 ·cases h;simp
 ·cases h
theorem DI.tot {m:Nat}{E:Rows2}{e:Nat}(d:DI m E e):Mi.tot E=2*e:=by
 unfold Mi.tot
 rw [<- List.length_flatten,d.all.length_eq,allE_len]
theorem set_grow {E:Rows2}{a:Nat}{ra:List (Nat×Nat)}{x:Nat×Nat}(h:E[a]? = some ra)(k:Nat)(row:List (Nat×Nat))(hk:E[k]? = some row):∃ row',(E.set a (ra++[x]))[k]? = some row' /\ ∀ y∈row,y∈row':=by
 by_cases z:a=k
 ·subst z
  rw [h] at hk
  cases hk
  exact ⟨ra++[x],List.getElem?_set_self (gE1.mp h).1,fun y hy=>List.mem_append_left _ hy⟩
 ·exact ⟨row,by rw [gS1 z];exact hk,fun y hy=>hy⟩
theorem DI.join {m a c e:Nat}{E:Rows2}{ra rb:List (Nat×Nat)}(d:DI m E e)(ha:E[a]? = some ra)(la:ra.length<4)(hb:(E.set a (ra++[(e,0)]))[c]? = some rb)(lb:rb.length<4)(ht:e+1<m->a<e+1/\c=e+1):
  DI m ((E.set a (ra++[(e,0)])).set c (rb++[(e,1)])) (e+1):=by
 refine ⟨by rw [List.length_set,List.length_set];exact d.len,?_,fun j row hj=>?_,fun j h1 h2 h3=>?_⟩
 ·exact (flat_set hb).trans (((flat_set ha).trans (d.all.cons _)).cons _)
 ·by_cases z:c=j
  ·subst z
   rw [List.getElem?_set_self (gE1.mp hb).1] at hj
   cases hj;simp;omega
  ·rw [gS1 z] at hj
   by_cases z2:a=j
   ·subst z2
    rw [List.getElem?_set_self (gE1.mp ha).1] at hj
    cases hj;simp;omega
   ·rw [gS1 z2] at hj
    exact d.le j row hj
 ·by_cases z:j<=e
  ·obtain ⟨k,x,r1,r2,hk,e1,e2,m1,m2⟩:=d.tie j h1 h2 z
   obtain ⟨r1',f1,g1⟩:=set_grow (x:=(e,0)) ha k r1 e1
   obtain ⟨r1'',f1',g1'⟩:=set_grow (x:=(e,1)) hb k r1' f1
   obtain ⟨r2',f2,g2⟩:=set_grow (x:=(e,0)) ha j r2 e2
   obtain ⟨r2'',f2',g2'⟩:=set_grow (x:=(e,1)) hb j r2' f2
   exact ⟨k,x,r1'',r2'',hk,f1',f2',g1' _ (g1 _ m1),g2' _ (g2 _ m2)⟩
  ·have hj:j=e+1:=by omega
   subst hj
   obtain ⟨q1,q2⟩:=ht h2
   subst q2
   exact ⟨a,e,ra++[(e,0)],rb++[(e,1)],q1,by rw [gS1 (by omega)];exact List.getElem?_set_self (gE1.mp ha).1,List.getElem?_set_self (gE1.mp hb).1,by simp,by simp⟩
theorem of_W {h g c r:Nat}{B U:Sto}{xs:List D}{Q:D×Sto->Prop}(s:HS h g c B U)(hc:c<=2^45)(hr:U[r]? = some (.lst xs))(hrh:r≠h)(hrg:r≠g)(hl:xs.length<=100)(hne:0<xs.length)(hx:∀ x∈xs,x.und 0=true)
  (q:∀ x U',x∈xs->HS h g (c+1) B U'->HS h g (c+1) U U'->U'.length=U.length->Q (x,U')):W (mCall 2 m__law_of [.ref h,.ref r] U) Q:=by
 refine callB (c':=c+1) rfl rfl s ?_
 unfold m__law_of
 refine fnW ?_
 unfold b__law_of
 walk_at "own wq"
 refine sW_ref hr ?_
 dsimp only
 have s0:HS h g c U U:=HS.self s.hand s.shut
 refine take_W s0 (by omega) (by omega) (by omega) fun j U' h1 h2 h3 hj=>?_
 have hj':j<xs.length:=by omega
 refine W_ixL (i:=j) (h2.at hr hrh hrg) (gG1 hj') ?_
 exact ⟨h2,hx _ (List.getElem_mem hj'),fun U'' a b e=>q _ U'' (List.getElem_mem hj') a b e⟩
theorem tree_W {h g n b m i:Nat}{most:Int}{U0 U:Sto}{E:Rows2}{x6:Option D}{Q:Fl×Ev×Sto->Prop}(s:HS h g n U0 U)(hb:U0.length=b)(hn:n<=2^44)(w:EW b m E U)(d:DI m E i)(hi:i+1<m)(hm:m<=8)
  (he:∀ (j:Nat) (row:List (Nat×Nat)),i+1<=j->E[j]? = some row->row=[])
  (q:∀ E' U' x6',HS h g (n+1) U0 U'->EW b m E' U'->DI m E' (i+1)->(∀ (j:Nat) (row:List (Nat×Nat)),i+2<=j->E'[j]? = some row->row=[]) ->
   Q (.nx,[some (.ref h),some (.int most),some (.int m),some (.int ((i+1:Nat):Int)),some (.ref (b+m)),some (.int ((i+1:Nat):Int)),x6',none,none,none,none,none,none,none],U')):
  W (p__law_drawn_1 [some (.ref h),some (.int most),some (.int m),some (.int (i:Int)),some (.ref (b+m)),some (.int ((i+1:Nat):Int)),x6,none,none,none,none,none,none,none] U) Q:=by
 have hh:=s.hl
 have hg:=s.gl
 have hbl:=s.len
 have rowAt:∀ j,j<m -> ∃ row,E[j]? = some row:=fun j hj=>⟨_,gG1 (by rw [d.len];exact hj)⟩
 let k:Nat->Bool:=fun j=>decide ((E.getD j []).length<4)
 unfold p__law_drawn_1
 walk_at "own wq"
 rw [nums0,Int.toNat_natCast]
 refine ⟨bnd_nat (by omega),?_⟩
 refine filterW k (fun j:Nat=>.int j) (fun r=>∃ x,r=[x,some (.ref (b+m))]) rfl (List.range (i+1)) _ ⟨_,rfl⟩ ?_ ?_
 ·rintro j hj r ⟨x,rfl⟩
  have hj':j<m:=by have:=List.mem_range.mp hj;omega
  obtain ⟨row,hrow⟩:=rowAt j hj'
  walk_at "own wq"
  refine W_endsE w hj' ?_
  walk_at "own wq"
  refine sW_ref (xs:=row.map pD) (w.row j row hrow) ?_
  walk_at "own wq"
  refine ⟨?_,⟨_,rfl⟩,fun _=>trivial⟩
  simp only [k,List.getD_eq_getElem?_getD,hrow,Option.getD_some,lM1]
  rw [Bool.eq_iff_iff,decide_eq_true_eq,decide_eq_true_eq]
  omega
 ·rintro r' _
  walk_at "own wq"
  have hne:(List.range (i+1)).filter k≠[]:=by
   intro z
   have all4:∀ (j:Nat) (row:List (Nat×Nat)),j<i+1->E[j]? = some row->4<=row.length:=fun j row hj hr=>by
    have:=List.filter_eq_nil_iff.mp z j (List.mem_range.mpr hj)
    simp only [k,List.getD_eq_getElem?_getD,hr,Option.getD_some,decide_eq_true_eq] at this
    omega
   have:=tot_ge (E:=E) (k:=i+1) (by rw [d.len];omega) all4
   have:=d.tot
   omega
  generalize hL:(List.range (i+1)).filter k=L at hne
  have hLm:∀ j∈L,j<i+1/\k j=true:=fun j hj=>by
   rw [<- hL,List.mem_filter] at hj
   exact ⟨List.mem_range.mp hj.1,hj.2⟩
  have hLl:L.length<=8:=by
   rw [<- hL]
   have:=List.length_filter_le k (List.range (i+1))
   simp at this
   omega
  refine ⟨fits_le (by rw [lM1];omega),?_⟩
  have s1:HS h g n U0 (U++[.lst (L.map fun j:Nat=>D.int j)]):=s.app fun o ho=>by simp at ho;subst ho;rw [Ob.und];exact Mi.unds_map fun _ _=>rfl
  have s1':HS h g n U (U++[.lst (L.map fun j:Nat=>D.int j)]):=(HS.self s.hand s.shut).app fun o ho=>by simp at ho;subst ho;rw [Ob.und];exact Mi.unds_map fun _ _=>rfl
  refine of_W s1 (by omega) (xs:=L.map fun j:Nat=>D.int j) (by rw [get_app0];rfl) (by omega) (by omega) (by rw [lM1];omega) (by rw [lM1];exact List.length_pos_iff.mpr hne) (fun x hx=>by obtain ⟨y,_,rfl⟩:=List.mem_map.mp hx;rfl) fun x U2 hx s2 s2' l2=>?_
  obtain ⟨j,hj,rfl⟩:=List.mem_map.mp hx
  obtain ⟨hj1,hj2⟩:=hLm j hj
  obtain ⟨row,hrow⟩:=rowAt j (by omega)
  have hrl:row.length<4:=by
   simp only [k,List.getD_eq_getElem?_getD,hrow,Option.getD_some,decide_eq_true_eq] at hj2
   exact hj2
  obtain ⟨rb,hrb⟩:=rowAt (i+1) hi
  have hrb0:=he (i+1) rb (nR1 _) hrb
  subst hrb0
  have w2:EW b m E U2:=(w.over s1' (by omega) (by omega)).over s2' (by omega) (by omega)
  have hne2:j≠i+1:=by omega
  walk_at "own wq"
  refine joined_W (a:=j) (c:=i+1) (e:=i) w2 (by omega) hi hrow (by omega) hrb (by simp) (fun z=>?_) fun _ _ rb' hrb'=>?_
  ·rw [if_neg hne2] at z
   simp at z
   omega
  ·have hrb3:rb'=[]:=by
    rw [gS1 hne2,hrb] at hrb'
    cases hrb';rfl
   subst hrb3
   have w3:=(w2.setRow (row:=row++[(i,0)]) (show j<m by omega)).setRow (row:=[]++[(i,1)]) hi
   have s3:=(s2.set (i:=b+j) (o:=rowOb (row++[(i,0)])) (by omega) rowOb_und).set (i:=b+(i+1)) (o:=rowOb ([]++[(i,1)])) (by omega) rowOb_und
   refine q _ _ _ s3 w3 (d.join hrow hrl hrb' (by simp) fun _=>⟨hj1,rfl⟩) fun j' row' hj' hr'=>?_
   rw [gS1 (by omega),gS1 (by omega)] at hr'
   exact he j' row' (by omega) hr'
theorem more_W {h g n b m e:Nat}{most:Int}{U0 U:Sto}{E:Rows2}{x5 x6 x7 x8:Option D}{Q:Fl×Ev×Sto->Prop}(s:HS h g n U0 U)(hb:U0.length=b)(hn:n<=2^44)(w:EW b m E U)(d:DI m E e)(hm0:0<m)(hm:m<=8)(hme:m<=e+1)
  (q:∀ E' U' e' x8',HS h g (n+2) U0 U'->EW b m E' U'->DI m E' e'->e'<=e+1->e<=e' ->
   Q (.nx,[some (.ref h),some (.int most),some (.int m),some (.int (e':Nat)),some (.ref (b+m)),x5,x6,x7,x8',none,none,none,none,none],U')):
  W (p__law_drawn_2 [some (.ref h),some (.int most),some (.int m),some (.int (e:Nat)),some (.ref (b+m)),x5,x6,x7,x8,none,none,none,none,none] U) Q:=by
 have hh:=s.hl
 have hg:=s.gl
 have hbl:=s.len
 have rowAt:∀ j,j<m -> ∃ row,E[j]? = some row:=fun j hj=>⟨_,gG1 (by rw [d.len];exact hj)⟩
 unfold p__law_drawn_2
 walk_at "own wq"
 refine take_W s (by omega) (by omega) (by omega) fun a U1 s1 s1' l1 ha=>?_
 walk_at "own wq"
 refine take_W s1 (by omega) (by omega) (by omega) fun c U2 s2 s2' l2 hc=>?_
 have w2:EW b m E U2:=(w.over s1' (by omega) (by omega)).over s2' (by omega) (by omega)
 obtain ⟨ra,hra⟩:=rowAt a (by omega)
 obtain ⟨rc,hrc⟩:=rowAt c (by omega)
 walk_at "own wq"
 refine joined_W (a:=a) (c:=c) (e:=e) w2 (by omega) (by omega) hra (d.le a ra hra) hrc (d.le c rc hrc) (fun _=>?_) fun c1 c2 rb hrb=>?_
 ·exact q E U2 e _ s2 w2 d (by omega) (by omega)
 ·have lb:rb.length<4:=by
   by_cases z:a=c
   ·subst z
    rw [List.getElem?_set_self (by rw [d.len];omega)] at hrb
    cases hrb
    rw [if_pos rfl] at c1
    simp;omega
   ·rw [gS1 z,hrc] at hrb
    cases hrb;omega
  have la:ra.length<4:=by split at c1<;>omega
  have w3:=(w2.setRow (row:=ra++[(e,0)]) (show a<m by omega)).setRow (row:=rb++[(e,1)]) (show c<m by omega)
  have s3:=(s2.set (i:=b+a) (o:=rowOb (ra++[(e,0)])) (by omega) rowOb_und).set (i:=b+c) (o:=rowOb (rb++[(e,1)])) (by omega) rowOb_und
  exact q _ _ (e+1) _ s3 w3 (d.join hra la hrb lb fun z=>by omega) (by omega) (by omega)
noncomputable def At (R:Rows2)(r d:Nat)(x:Nat×Nat):Prop:=∃ row,R[r]? = some row/\row[d]? = some x
theorem At.mem {R:Rows2}{r d:Nat}{x:Nat×Nat}(h:At R r d x):x∈R.flatten:=by
 obtain ⟨row,h1,h2⟩:=h
 exact List.mem_flatten.mpr ⟨row,gM1 h1,gM1 h2⟩
theorem at_of_mem {R:Rows2}{x:Nat×Nat}(h:x∈R.flatten):∃ p:Nat×Nat,At R p.1 p.2 x:=by
 obtain ⟨row,h1,h2⟩:=List.mem_flatten.mp h
 obtain ⟨r,hr⟩:=List.getElem?_of_mem h1
 obtain ⟨d,hd⟩:=List.getElem?_of_mem h2
 exact ⟨(r,d),row,hr,hd⟩
theorem nodup_get {α:Type}:∀ {l:List α} {i j:Nat} {x:α},l.Nodup->l[i]? = some x->l[j]? = some x->i=j
 | [],i,j,x,_,h,_=>by simp at h
 | a::l,0,0,x,_,_,_=>rfl
 | a::l,0,j+1,x,n,h1,h2=>by
  simp at h1 h2;subst h1
  exact absurd (gM1 h2) (List.nodup_cons.mp n).1
 | a::l,i+1,0,x,n,h1,h2=>by
  simp at h1 h2;subst h2
  exact absurd (gM1 h1) (List.nodup_cons.mp n).1
 | a::l,i+1,j+1,x,n,h1,h2=>by
  exact congrArg (· + 1) (nodup_get (i:=i) (j:=j) (x:=x) (List.nodup_cons.mp n).2 (by simpa using h1) (by simpa using h2))
theorem at_uniq:∀ {R:Rows2} {r d r' d':Nat} {x:Nat×Nat},R.flatten.Nodup->At R r d x->At R r' d' x->r=r'/\d=d'
 | [],r,d,r',d',x,_,⟨_,h,_⟩,_=>by simp at h
 | a::R,r,d,r',d',x,n,⟨row,h1,h2⟩,⟨row',h1',h2'⟩=>by
  rw [List.flatten_cons,List.nodup_append] at n
  cases r with
  | zero=>
   simp at h1;subst h1
   cases r' with
   | zero=>
    simp at h1';subst h1'
    exact ⟨rfl,nodup_get n.1 h2 h2'⟩
   | succ r'=>
    have m1:x∈R.flatten:=List.mem_flatten.mpr ⟨row',gM1 (by simpa using h1'),gM1 h2'⟩
    exact absurd rfl (n.2.2 x (gM1 h2) x m1)
  | succ r=>
   cases r' with
   | zero=>
    simp at h1';subst h1'
    have m1:x∈R.flatten:=List.mem_flatten.mpr ⟨row,gM1 (by simpa using h1),gM1 h2⟩
    exact absurd rfl (n.2.2 x (gM1 h2') x m1)
   | succ r'=>
    obtain ⟨e1,e2⟩:=at_uniq (R:=R) n.2.1 ⟨row,by simpa using h1,h2⟩ ⟨row',by simpa using h1',h2'⟩
    exact ⟨by rw [e1],e2⟩
open Classical in
noncomputable def plc (R:Rows2)(x:Nat×Nat):Nat×Nat:=if h:∃ p:Nat×Nat,At R p.1 p.2 x then Classical.choose h else (0,0)
theorem plc_at {R:Rows2}{x:Nat×Nat}(h:x∈R.flatten):At R (plc R x).1 (plc R x).2 x:=by
 have h':=at_of_mem h
 unfold plc
 rw [dif_pos h']
 exact Classical.choose_spec h'
theorem plc_is {R:Rows2}{r d:Nat}{x:Nat×Nat}(n:R.flatten.Nodup)(h:At R r d x):plc R x=(r,d):=by
 obtain ⟨e1,e2⟩:=at_uniq n (plc_at h.mem) h
 exact Prod.ext e1 e2
noncomputable def opp (x:Nat×Nat):Nat×Nat:=(x.1,1-x.2)
noncomputable def webR (R:Rows2):Rows2:=R.map fun row=>row.map fun x=>plc R (opp x)
structure WebG (m:Nat)(w:Rows2):Prop where
 len:w.length=m
 le:∀ row∈w,row.length<=4
 back:∀ r d p,At w r d p->At w p.1 p.2 (r,d)
 ne:∀ r d p,At w r d p->p≠(r,d)
 tie:∀ j:Nat,1<=j->j<m -> ∃ d p,At w j d p/\p.1<j
theorem webR_at {R:Rows2}{r d:Nat}{p:Nat×Nat}:At (webR R) r d p ↔ ∃ x,At R r d x/\p=plc R (opp x):=by
 unfold At webR
 constructor
 ·rintro ⟨row,h1,h2⟩
  rw [gP1] at h1
  obtain ⟨row',e1,rfl⟩:=oM1.mp h1
  rw [gP1] at h2
  obtain ⟨x,e2,rfl⟩:=oM1.mp h2
  exact ⟨x,⟨row',e1,e2⟩,rfl⟩
 ·rintro ⟨x,⟨row,h1,h2⟩,rfl⟩
  exact ⟨row.map fun x=>plc R (opp x),by rw [gP1,h1];rfl,by rw [gP1,h2];rfl⟩
theorem webR_ok {m e:Nat}{R:Rows2}(d:DI m R e)(he:m<=e+1):WebG m (webR R):=by
 have n:R.flatten.Nodup:=d.all.nodup_iff.mpr (nodup_allE e)
 have opp_mem:∀ x,x∈R.flatten->opp x∈R.flatten/\opp (opp x)=x/\opp x≠x:=fun x hx=>by
  have:=mem_allE.mp (d.all.mem_iff.mp hx)
  obtain ⟨a,b⟩:=x
  simp at this
  refine ⟨d.all.mem_iff.mpr (mem_allE.mpr ⟨this.1,by simp [opp]⟩),?_,?_⟩
  ·simp [opp];omega
  ·simp [opp];omega
 refine ⟨by unfold webR;rw [lM1];exact d.len,?_,?_,?_,?_⟩
 ·intro row hr
  obtain ⟨r,hr',rfl⟩:=List.mem_map.mp hr
  obtain ⟨i,hi⟩:=List.getElem?_of_mem hr'
  rw [lM1]
  exact d.le i r hi
 ·intro r dd p hp
  obtain ⟨x,hx,rfl⟩:=webR_at.mp hp
  obtain ⟨h1,h2,_⟩:=opp_mem x hx.mem
  exact webR_at.mpr ⟨opp x,plc_at h1,by rw [h2,plc_is n hx]⟩
 ·intro r dd p hp z
  obtain ⟨x,hx,rfl⟩:=webR_at.mp hp
  obtain ⟨h1,_,h3⟩:=opp_mem x hx.mem
  have h4:=plc_at h1
  rw [z] at h4
  obtain ⟨row,a1,a2⟩:=hx
  obtain ⟨row',b1,b2⟩:=h4
  rw [a1] at b1;cases b1
  rw [a2] at b2
  exact h3 (Option.some.inj b2).symm
 ·intro j h1 h2
  obtain ⟨k,x,ra,rj,hk,e1,e2,m1,m2⟩:=d.tie j h1 h2 (by omega)
  obtain ⟨dd,hd⟩:=List.getElem?_of_mem m2
  obtain ⟨d2,hd2⟩:=List.getElem?_of_mem m1
  refine ⟨dd,plc R (opp (x,1)),webR_at.mpr ⟨(x,1),⟨rj,e2,hd⟩,rfl⟩,?_⟩
  have:opp (x,1)=(x,0):=rfl
  rw [this,plc_is n ⟨ra,e1,hd2⟩]
  exact hk
theorem perm_inv {f:Nat×Nat->D}:∀ {a b:List D},a.Perm b -> ∀ l:List (Nat×Nat),b=l.map f -> ∃ l':List (Nat×Nat),a=l'.map f/\l'.Perm l:=by
 intro a b h
 induction h with
 | nil=>intro l e;exact ⟨[],rfl,by cases l with | nil=>exact .refl _ | cons _ _=>simp at e⟩
 | cons x _ ih=>
  intro l e
  cases l with
  | nil=>simp at e
  | cons y l=>
   simp at e
   obtain ⟨l',e1,p⟩:=ih l e.2
   exact ⟨y::l',by rw [mP1,e.1,e1],p.cons y⟩
 | swap x y l0=>
  intro l e
  match l,e with
  | a::b::l,e=>
   simp at e
   exact ⟨b::a::l,by rw [mP1,mP1,e.1,e.2.1,e.2.2],List.Perm.swap _ _ _⟩
 | trans _ _ ih1 ih2=>
  intro l e
  obtain ⟨l1,e1,p1⟩:=ih2 l e
  obtain ⟨l2,e2,p2⟩:=ih1 l1 e1
  exact ⟨l2,e2,p2.trans p1⟩
theorem refs_snoc:∀ (k n:Nat),refs n (k+1)=refs n k++[.ref (n+k)]
 | 0,n=>rfl
 | k+1,n=>by
  rw [refs,refs_snoc k (n+1),refs,List.cons_append,show n+1+k=n+(k+1) by omega]
theorem refs_und {n k m:Nat}(h:n+k<=m):D.unds m (refs n k)=true:=by
 induction k generalizing n with
 | zero=>rfl
 | succ k ih=>rw [refs,D.unds,ih (by omega),D.und];simp;omega
theorem ew_start {U:Sto}{m:Nat}:EW U.length m (List.replicate m []) (U++(List.replicate m (.lst [])++[.lst (refs U.length m)])):=by
 refine ⟨by simp,fun i row h=>?_,?_⟩
 ·have hi:i<m:=by have:=(gE1.mp h).1;simpa using this
  rw [List.getElem?_replicate,if_pos hi] at h
  cases h
  rw [get_app,gL1 (by simpa using hi),List.getElem?_replicate,if_pos hi]
  rfl
 ·rw [get_app,gR1 (by simp)]
  simp
structure KRows (b:Nat)(ks:List Nat)(R:Rows2)(V:Sto):Prop where
 len:ks.length=R.length
 at_:∀ (i k:Nat) (row:List (Nat×Nat)),ks[i]? = some k->R[i]? = some row->V[k]? = some (rowOb row)
 low:∀ k∈ks,b<=k
theorem KRows.over {h g n b:Nat}{ks:List Nat}{R:Rows2}{U V:Sto}(e:KRows b ks R U)(s:HS h g n U V)(hh:h<b)(hg:g<b):KRows b ks R V:=
 ⟨e.len,fun i k row h1 h2=>s.at (e.at_ i k row h1 h2) (by have:=e.low k (gM1 h1);omega) (by have:=e.low k (gM1 h1);omega),e.low⟩
noncomputable def refD (k:Nat):D:=.ref k
theorem flat_perm:∀ {R E:Rows2},R.length=E.length->(∀ (i:Nat) (r e:List (Nat×Nat)),R[i]? = some r->E[i]? = some e->r.Perm e)->R.flatten.Perm E.flatten
 | [],[],_,_=>.refl _
 | [],_::_,h,_=>by simp at h
 | _::_,[],h,_=>by simp at h
 | r::R,e::E,h,q=>by
  rw [List.flatten_cons,List.flatten_cons]
  exact (q 0 r e rfl rfl).append (flat_perm (by simpa using h) fun i r' e' h1 h2=>q (i+1) r' e' (by simpa using h1) (by simpa using h2))
theorem doors_W {h g n b m e:Nat}{U0 U:Sto}{E:Rows2}{Q:List D×Ev×Sto->Prop}(s:HS h g n U0 U)(hb:U0.length=b)(hn:n<=2^44)(w:EW b m E U)(d:DI m E e)(hm:m<=8)
  (q:∀ ks R V x,HS h g (n+40) U0 V->KRows b ks R V->DI m R e->(∀ k∈ks,k<V.length)->Q (ks.map refD,[x,some (.ref h)],V)):
  W (loopF [(b+m,refs b m)] (gN 0) mTrue (fEmit (mN (mCall 2 m__law_order) (mCons (mV 1) (mCons (mV 0) mNil)))) (refs b m) [none,some (.ref h)] U) Q:=by
 have hh:=s.hl
 have hg:=s.gl
 have hbl:=s.len
 have rowAt:∀ j,j<m -> ∃ row,E[j]? = some row:=fun j hj=>⟨_,gG1 (by rw [d.len];exact hj)⟩
 refine loopF_W (fun i acc r S=>∃ ks R x,i<=m/\HS h g (n+5*i) U0 S/\EW b m E S/\acc=ks.map refD/\r=[x,some (.ref h)]/\ks.length=i/\KRows b ks R S/\(∀ (j:Nat) (r e:List (Nat×Nat)),R[j]? = some r->E[j]? = some e->r.Perm e)/\(∀ k∈ks,k<S.length)) (refs b m) 0 [] _ _ ⟨[],[],none,by omega,s,w,rfl,rfl,rfl,⟨rfl,fun i k row h1=>by simp at h1,fun k hk=>by simp at hk⟩,fun j r e h1=>by simp at h1,fun k hk=>by simp at hk⟩ ?_ ?_ ?_
 ·rintro i acc r S ⟨ks,R,x,_,_,hw,_⟩
  exact okC_one hw.ends
 ·rintro i dd hd acc r S ⟨ks,R,x,hi,hs,hw,rfl,rfl,hk,hkr,hp,hks⟩
  have hlt:=(gE1.mp hd).1
  rw [refs_len] at hlt
  rw [refs_at hlt] at hd
  cases hd
  rw [Nat.zero_add] at *
  obtain ⟨row,hrow⟩:=rowAt i hlt
  have hrl:=d.le i row hrow
  walk_at "own wq"
  refine order_W hs (by omega) (hw.row i row hrow) (by omega) (by omega) (by rw [lM1];omega) (Mi.unds_map fun _ _=>rfl) fun k ys V hv hv' hkl hky hpy=>?_
  rw [lM1] at hv hv'
  obtain ⟨row',rfl,hp'⟩:=perm_inv hpy row rfl
  have hSl:=hs.len
  have hkr':=hkr.over hv' (by omega) (by omega)
  refine ⟨ks++[k],R++[row'],_,by omega,hv.more (by omega),hw.over hv' (by omega) (by omega),by simp [refD],rfl,by simp [hk],⟨by simp [hkr.len],fun j k' r' h1 h2=>?_,fun k' hk'=>?_⟩,fun j r' e' h1 h2=>?_,fun k' hk'=>?_⟩
  ·by_cases hj:j<ks.length
   ·rw [gL1 hj] at h1
    rw [gL1 (by rw [<- hkr.len];exact hj)] at h2
    exact hkr'.at_ j k' r' h1 h2
   ·have hj2:j=ks.length:=by have:=(gE1.mp h1).1;simp at this;omega
    subst hj2
    rw [List.getElem?_concat_length] at h1
    rw [hkr.len,List.getElem?_concat_length] at h2
    cases h1;cases h2
    exact hky
  ·rcases List.mem_append.mp hk' with z | z
   ·exact hkr.low k' z
   ·simp at z;omega
  ·by_cases hj:j<R.length
   ·rw [gL1 hj] at h1
    exact hp j r' e' h1 h2
   ·have hj2:j=R.length:=by have:=(gE1.mp h1).1;simp at this;omega
    subst hj2
    rw [List.getElem?_concat_length] at h1
    cases h1
    rw [<- hkr.len,hk,hrow] at h2
    cases h2
    exact hp'
  ·have hv2:=hv'.len
   show k'<V.length
   rcases List.mem_append.mp hk' with z | z
   ·have:=hks k' z;omega
   ·simp at z;subst z;exact (gE1.mp hky).1
 ·rintro xs r S ⟨ks,R,x,hi,hs,hw,e1,rfl,hk,hkr,hp,hks⟩
  rw [List.nil_append] at e1
  subst e1
  rw [Nat.zero_add,refs_len] at hs hk
  have hRl:R.length=E.length:=by rw [<- hkr.len,hk,d.len]
  have dR:DI m R e:=⟨by rw [hRl];exact d.len,(flat_perm hRl hp).trans d.all,fun j row hj=>by
   obtain ⟨row',hr'⟩:=rowAt j (by rw [<- d.len,<- hRl];exact (gE1.mp hj).1)
   rw [(hp j row row' hj hr').length_eq]
   exact d.le j row' hr',fun j h1 h2 h3=>by
   obtain ⟨k,x,ra,rj,hk,e1,e2,m1,m2⟩:=d.tie j h1 h2 h3
   obtain ⟨ra',f1⟩:∃ r,R[k]? = some r:=⟨_,gG1 (by rw [hRl];exact (gE1.mp e1).1)⟩
   obtain ⟨rj',f2⟩:∃ r,R[j]? = some r:=⟨_,gG1 (by rw [hRl];exact (gE1.mp e2).1)⟩
   exact ⟨k,x,ra',rj',hk,f1,f2,(hp k ra' ra f1 e1).mem_iff.mpr m1,(hp j rj' rj f2 e2).mem_iff.mpr m2⟩⟩
  exact q ks R S x (hs.more (by omega)) hkr dR hks
theorem W_iEn {m:FA}{r:Ev}{S:Sto}{Q:Itm×Sto->Prop}{d:D}{S1:Sto}(h:m r S=some ([d],S1))(q:sW S1 d fun p=>Q (⟨enD 0 p.1,p.2⟩,S1)):W (iEn m r S) Q:=by
 unfold iEn
 rw [h,oS1]
 dsimp only
 rw [W_bind]
 exact W.mono (show W (seqOf S1 d) _ from q) fun z w=>W_some.mpr w
theorem put_und {F:List (TK×D)}{k:TK}{v:D}{n:Nat}(h:∀ p∈F,p.2.und n=true)(hv:v.und n=true):∀ p∈putD F k v,p.2.und n=true:=by
 intro p hp
 unfold putD at hp
 split at hp
 ·obtain ⟨q,hq,rfl⟩:=List.mem_map.mp hp
  split
  ·exact hv
  ·exact h q hq
 ·rcases List.mem_append.mp hp with z | z
  ·exact h p z
  ·simp at z;subst z;exact hv
theorem room_W {V:Sto}{pl k r:Nat}{F:List (TK×D)}{R:Rows2}{row:List (Nat×Nat)}{o0 o1 o2 o3 o4 o6 o7 o8 o9 o12 o13:Option D}{Q:Fl×Ev×Sto->Prop}(nd:R.flatten.Nodup)(hr:R[r]? = some row)(hpl:pl<V.length)(hk:V[k]? = some (rowOb row))(hkp:k≠pl)(hF:F.length+row.length<500)
  (hu:∀ p∈F,p.2.und 0=true) (hold:∀ r' d x,r'<r->At R r' d x->lookD F (tkP x)=some (pD (r',d)))
  (q:∀ F' o12' o13',F'.length<=F.length+row.length->(∀ p∈F',p.2.und 0=true)->(∀ r' d x,r'<r+1->At R r' d x->lookD F' (tkP x)=some (pD (r',d))) ->
   Q (.nx,[o0,o1,o2,o3,o4,some (.int (r:Nat)),o6,o7,o8,o9,some (.ref pl),some (.ref k),o12',o13'],V.set pl (dO F'))):
  W (p__law_drawn_4 [o0,o1,o2,o3,o4,some (.int (r:Nat)),o6,o7,o8,o9,some (.ref pl),some (.ref k),o12,o13] (V.set pl (dO F))) Q:=by
 unfold p__law_drawn_4 mFor
 rw [W_bind]
 refine W_iEn (d:=.ref k) (S1:=V.set pl (dO F)) rfl ?_
 refine sW_ref (xs:=row.map pD) (by rw [gS1 hkp.symm];exact hk) ?_
 refine loopM_W (fun i r' S=>∃ F' o12' o13',i<=row.length/\F'.length<=F.length+i/\(∀ p∈F',p.2.und 0=true)/\S=V.set pl (dO F')/\r'=[o0,o1,o2,o3,o4,some (.int (r:Nat)),o6,o7,o8,o9,some (.ref pl),some (.ref k),o12',o13']/\(∀ r' d x,r'<r->At R r' d x->lookD F' (tkP x)=some (pD (r',d)))/\(∀ d x,d<i->row[d]? = some x->lookD F' (tkP x)=some (pD (r,d)))) _ 0 _ _ ⟨F,_,_,by omega,by omega,hu,rfl,rfl,hold,fun d x hd=>by omega⟩ ?_ ?_ ?_
 ·rintro i r' S ⟨F',_,_,_,_,_,rfl,_⟩
  exact okC_one (by rw [gS1 hkp.symm];exact hk)
 ·rintro i dd hd r' S ⟨F',p12,p13,hi,hl,hu',rfl,rfl,h1,h2⟩
  dsimp only at hd
  rw [enD_get,gP1] at hd
  obtain ⟨z,hz,rfl⟩:=oM1.mp hd
  obtain ⟨x,hx,rfl⟩:=oM1.mp hz
  have hlt:=(gE1.mp hx).1
  rw [Nat.zero_add] at *
  walk_at "own wq"
  unfold p__law_drawn_3
  walk_at "own wq"
  refine W_setD (F:=F') (by rw [List.getElem?_set_self hpl]) keyT_pD (by omega) ?_
  have hme:At R r i x:=⟨row,hr,hx⟩
  refine ⟨putD F' (tkP x) (pD (r,i)),_,_,by omega,by have:=put_len (k:=tkP x) (v:=pD (r,i)) (a:=F');omega,put_und hu' rfl,by rw [List.set_set];rfl,rfl,fun r' d y hr' hy=>?_,fun d y hd' hy=>?_⟩
  ·rw [look_put]
   by_cases e:tkP y=tkP x
   ·have:=tkP_inj e
    subst this
    have:=(at_uniq nd hy hme).1
    omega
   ·rw [if_neg e];exact h1 r' d y hr' hy
  ·rw [look_put]
   by_cases e:tkP y=tkP x
   ·have:=tkP_inj e
    subst this
    have:=(at_uniq nd ⟨row,hr,hy⟩ hme).2
    subst this
    rw [if_pos rfl]
   ·rw [if_neg e]
    by_cases z:d<i
    ·exact h2 d y z hy
    ·have:d=i:=by omega
     subst this
     rw [hx] at hy
     cases hy
     exact absurd rfl e
 ·rintro r' S ⟨F',p12,p13,hi,hl,hu',rfl,rfl,h1,h2⟩
  rw [enD_len,lM1,Nat.zero_add] at hl h2
  refine q F' _ _ hl hu' fun r' d x hr' hx=>?_
  by_cases z:r'<r
  ·exact h1 r' d x z hx
  ·have:r'=r:=by omega
   subst this
   obtain ⟨row',e1,e2⟩:=hx
   rw [hr] at e1;cases e1
   exact h2 d x (gE1.mp e2).1 e2
theorem dO_und {F:List (TK×D)}{n:Nat}(h:∀ p∈F,p.2.und n=true):(dO F).und n=true:=by
 unfold dO
 split
 ·rfl
 ·rw [Ob.und]
  exact Mi.unds_map fun p hp=>h p hp
theorem lpD {R:Rows2}{x:Nat×Nat}:dW (webR R) = .tup (R.map fun row=>.tup (row.map fun x=>pD (plc R (opp x)))):=by
 unfold dW webR
 simp only [List.map_map]
 congr 1
 apply List.map_congr_left
 intro row _
 simp only [Function.comp_apply,dR,List.map_map]
 rfl
theorem drawn_W {h g c most:Nat}{B U:Sto}{Q:D×Sto->Prop}(s:HS h g c B U)(hc:c<=2^40)(hm0:0<most)(hm8:most<=8)
  (q:∀ m w U',0<m->m<=most->WebG m w->HS h g (c+200) B U'->HS h g (c+200) U U'->U'.length=U.length->Q (dW w,U')):W (mCall 2 m__law_drawn [.ref h,.int most] U) Q:=by
 have hh:=s.hl
 have hg:=s.gl
 have hbl:=s.len
 refine callB (c':=c+200) rfl rfl s ?_
 have s0:HS h g c U U:=HS.self s.hand s.shut
 unfold m__law_drawn
 refine fnW ?_
 unfold b__law_drawn
 refine seqW (fun r S=>∃ m,0<m/\m<=most/\HS h g (c+1) U S/\S.length=U.length/\r=[some (.ref h),some (.int most),some (.int (m:Nat)),some (.int ((0:Nat):Int)),none,none,none,none,none,none,none,none,none,none]) ?_ ?_
 ·walk_at "own wq"
  refine take_W s0 (by omega) (by omega) (by omega) fun k U1 s1 _ l1 hk=>?_
  walk_at "own wq"
  exact ⟨k+1,by omega,by omega,s1,l1,by simp [Int.add_comm]⟩
 rintro r S ⟨m,m0,mm,s1,l1,rfl⟩
 refine seqW (fun r V=>HS h g (c+1) U V/\EW U.length m (List.replicate m []) V/\r=[some (.ref h),some (.int most),some (.int (m:Nat)),some (.int ((0:Nat):Int)),some (.ref (U.length+m)),none,none,none,none,none,none,none,none,none]) ?_ ?_
 ·walk_at "own wq"
  refine ⟨bnd_nat (by omega),?_⟩
  rw [Int.toNat_natCast]
  refine loopF_W (fun i acc r V=>acc=refs U.length i/\V=S++List.replicate i (.lst []) /\ ∃ x,r=[x]) (nums 0 m) 0 [] _ _ ⟨rfl,by simp,_,rfl⟩ (fun _ _ _ _ _=>rfl) ?_ ?_
  ·rintro i d hd acc r V ⟨rfl,rfl,x,rfl⟩
   walk_at "own wq"
   rw [Nat.zero_add]
   refine ⟨?_,?_,_,rfl⟩
   ·rw [refs_snoc,l1,lR1]
   ·rw [List.replicate_succ']
  ·rintro xs r V ⟨e,rfl,_⟩
   rw [List.nil_append,Nat.zero_add,nums_len] at e
   subst e
   rw [Nat.zero_add,nums_len]
   walk_at "own wq"
   rw [refs_len]
   refine ⟨fits_le (by omega),s1.app fun o ho=>?_,?_,?_⟩
   ·rcases List.mem_append.mp ho with z | z
    ·rw [List.eq_of_mem_replicate z];rfl
    ·simp at z;subst z
     rw [Ob.und]
     exact refs_und (by simp [l1])
   ·have:=ew_start (U:=S) (m:=m)
    rw [l1] at this
    exact this
   ·simp [l1]
 rintro r V ⟨sV,w0,rfl⟩
 refine seqW (fun r V=>∃ E x5 x6,HS h g (c+20) U V/\EW U.length m E V/\DI m E (m-1)/\r=[some (.ref h),some (.int most),some (.int (m:Nat)),some (.int ((m-1:Nat):Int)),some (.ref (U.length+m)),x5,x6,none,none,none,none,none,none,none]) ?_ ?_
 ·walk_at "own wq"
  refine ⟨bnd_of (by decide) (by decide),bnd_nat (by omega),?_⟩
  refine loopM_W (fun i r V=>i<=m-1 /\ ∃ E x5 x6,HS h g (c+1+i) U V/\EW U.length m E V/\DI m E i/\(∀ (j:Nat) (row:List (Nat×Nat)),i+1<=j->E[j]? = some row->row=[])/\r=[some (.ref h),some (.int most),some (.int (m:Nat)),some (.int (i:Nat)),some (.ref (U.length+m)),x5,x6,none,none,none,none,none,none,none]) _ 0 _ _ ?_ (fun _ _ _ _=>rfl) ?_ ?_
  ·refine ⟨by omega,_,none,none,sV,w0,DI.start m,fun j row _ hr=>?_,rfl⟩
   rw [List.getElem?_replicate] at hr
   split at hr
   ·cases hr;rfl
   ·cases hr
  ·rintro i d hd r V ⟨hi,E,x5,x6,sE,w,dE,he,rfl⟩
   have hlen:=(gE1.mp hd).1
   rw [nums_len] at hlen
   have hd':d = .int ((i+1:Nat):Int):=by
    rw [nums_eq,gP1,List.getElem?_range hlen] at hd
    simp at hd
    rw [<- hd]
    push_cast
    congr 1
    omega
   subst hd'
   rw [Nat.zero_add] at *
   walk_at "own wq"
   refine tree_W sE rfl (by omega) w dE (by omega) (by omega) he fun E' V' x6' s' w' d' he'=>?_
   exact ⟨rfl,by omega,E',_,_,s',w',d',he',rfl⟩
  ·rintro r V ⟨hi,E,x5,x6,sE,w,dE,he,rfl⟩
   rw [nums_len] at *
   have e1:0+((m:Int)-1).toNat=m-1:=by omega
   rw [e1] at sE dE
   rw [e1]
   exact ⟨rfl,E,_,_,sE.more (by omega),w,dE,rfl⟩
 rintro r V ⟨E,x5,x6,sE,w,dE,rfl⟩
 refine seqW (fun r V=>∃ E e x5 x6 x7 x8,HS h g (c+60) U V/\EW U.length m E V/\DI m E e/\e<=20/\m<=e+1/\r=[some (.ref h),some (.int most),some (.int (m:Nat)),some (.int (e:Nat)),some (.ref (U.length+m)),x5,x6,x7,x8,none,none,none,none,none]) ?_ ?_
 ·walk_at "own wq"
  refine take_W sE (by omega) (by omega) (by omega) fun k V1 s1 s1' l1 hk=>?_
  walk_at "own wq"
  have hVl:=sE.len
  refine ⟨bnd_nat (by omega),?_⟩
  rw [Int.toNat_natCast]
  refine loopM_W (fun i r V=>i<=k /\ ∃ E e x5 x6 x7 x8,HS h g (c+21+2*i) U V/\EW U.length m E V/\DI m E e/\e<=8+i/\m<=e+1/\r=[some (.ref h),some (.int most),some (.int (m:Nat)),some (.int (e:Nat)),some (.ref (U.length+m)),x5,x6,x7,x8,none,none,none,none,none]) _ 0 _ _ ⟨by omega,E,m-1,_,_,_,_,s1,w.over s1' (by omega) (by omega),dE,by omega,by omega,rfl⟩ (fun _ _ _ _=>rfl) ?_ ?_
  ·rintro i d hd r V ⟨hi,E,e,x5,x6,x7,x8,sE,w,dE,he,he1,rfl⟩
   have hlen:=(gE1.mp hd).1
   rw [nums_len] at hlen
   rw [Nat.zero_add] at *
   walk_at "own wq"
   refine more_W sE rfl (by omega) w dE m0 (by omega) he1 fun E' V' e' x8' s' w' d' he' he2=>?_
   exact ⟨rfl,by omega,E',e',_,_,_,_,s',w',d',by omega,by omega,rfl⟩
  ·rintro r V ⟨hi,E,e,x5,x6,x7,x8,sE,w,dE,he,he1,rfl⟩
   rw [nums_len,Nat.zero_add] at *
   exact ⟨rfl,E,e,_,_,_,_,sE.more (by omega),w,dE,by omega,he1,rfl⟩
 rintro r V ⟨E,e,x5,x6,x7,x8,sE,w,dE,he,he1,rfl⟩
 refine seqW (fun r V=>∃ ks R x5 x6 x7 x8 dp,HS h g (c+100) U V/\KRows U.length ks R V/\DI m R e/\(∀ k∈ks,k<dp)/\U.length<=dp/\V.length=dp+1/\V[dp]? = some (.lst (ks.map refD))/\r=[some (.ref h),some (.int most),some (.int (m:Nat)),some (.int (e:Nat)),some (.ref (U.length+m)),x5,x6,x7,x8,some (.ref dp),none,none,none,none]) ?_ ?_
 ·walk_at "own wq"
  refine sW_ref w.ends ?_
  refine doors_W sE rfl (by omega) w dE (by omega) fun ks R V2 x s2 hk2 dR hks=>?_
  walk_at "own wq"
  have hl2:=s2.len
  refine ⟨fits_le (by rw [lM1,hk2.len,dR.len];omega),ks,R,_,_,_,_,V2.length,s2.app fun o ho=>?_,⟨hk2.len,fun i k row h1 h2=>?_,hk2.low⟩,dR,hks,hl2,by simp,by rw [List.getElem?_concat_length],rfl⟩
  ·simp at ho;subst ho
   rw [Ob.und]
   refine Mi.unds_map fun k hk=>?_
   have:=hks k hk
   simp [refD,D.und];omega
  ·have:=hk2.at_ i k row h1 h2
   rw [gL1 (gE1.mp this).1];exact this
 rintro r V ⟨ks,R,x5,x6,x7,x8,dp,sV,hk,dR,hks,hdp,hVl,hdV,rfl⟩
 have nd:R.flatten.Nodup:=dR.all.nodup_iff.mpr (nodup_allE e)
 refine seqW (fun r V1=>V1=V++[.dct []]/\r=[some (.ref h),some (.int most),some (.int (m:Nat)),some (.int (e:Nat)),some (.ref (U.length+m)),x5,x6,x7,x8,some (.ref dp),some (.ref V.length),none,none,none]) ?_ ?_
 ·((try walk_at "own wq");repeat (simp only [mDnew];try walk_at "own wq"))
 rintro r V1 ⟨rfl,rfl⟩
 generalize hV1:V++[Ob.dct []]=V1
 have hpl:V.length<V1.length:=by rw [<- hV1];simp
 have sV1:HS h g (c+100) U V1:=by rw [<- hV1];exact sV.app fun o ho=>by simp at ho;subst ho;rfl
 have low1:∀ (i:Nat) (o:Ob),V[i]? = some o->V1[i]? = some o:=fun i o hi=>by rw [<- hV1,gL1 (gE1.mp hi).1];exact hi
 have hset0:V1=V1.set V.length (dO []):=by
  have:V1[V.length]? = some (dO []):=by rw [<- hV1,List.getElem?_concat_length];rfl
  obtain ⟨hl,hx⟩:=gE1.mp this
  rw [<- hx,List.set_getElem_self]
 refine seqW (fun r V2=>∃ F x5 x11 x12 x13,V2=V1.set V.length (dO F)/\(∀ r' d x,At R r' d x->lookD F (tkP x)=some (pD (r',d)))/\(∀ p∈F,p.2.und 0=true)/\r=[some (.ref h),some (.int most),some (.int (m:Nat)),some (.int (e:Nat)),some (.ref (U.length+m)),x5,x6,x7,x8,some (.ref dp),some (.ref V.length),x11,x12,x13]) ?_ ?_
 ·unfold mFor
  rw [W_bind]
  refine W_iEn (d:=.ref dp) (S1:=V1) rfl ?_
  refine sW_ref (low1 dp _ hdV) ?_
  refine loopM_W (fun i r V2=>∃ F x5 x11 x12 x13,i<=m/\F.length<=4*i/\V2=V1.set V.length (dO F)/\(∀ r' d x,r'<i->At R r' d x->lookD F (tkP x)=some (pD (r',d)))/\(∀ p∈F,p.2.und 0=true)/\r=[some (.ref h),some (.int most),some (.int (m:Nat)),some (.int (e:Nat)),some (.ref (U.length+m)),x5,x6,x7,x8,some (.ref dp),some (.ref V.length),x11,x12,x13]) _ 0 _ _ ⟨[],_,_,_,_,by omega,by simp,hset0,fun r' d x hr=>by omega,fun p hp=>by simp at hp,rfl⟩ ?_ ?_ ?_
  ·rintro i r V2 ⟨F,_,_,_,_,_,_,rfl,_⟩
   exact okC_one (by rw [gS1 (by omega)];exact low1 dp _ hdV)
  ·rintro i dd hd r V2 ⟨F,y5,y11,y12,y13,hi,hF,rfl,h1,hu,rfl⟩
   dsimp only at hd
   rw [enD_get,gP1] at hd
   obtain ⟨z,hz,rfl⟩:=oM1.mp hd
   obtain ⟨k,hkk,rfl⟩:=oM1.mp hz
   have hlt:=(gE1.mp hkk).1
   rw [Nat.zero_add] at *
   obtain ⟨row,hrow⟩:∃ row,R[i]? = some row:=⟨_,gG1 (by rw [<- hk.len];exact hlt)⟩
   have him:i<m:=by rw [<- dR.len,<- hk.len];exact hlt
   have hkd:=hks k (gM1 hkk)
   have hrl:=dR.le i row hrow
   ((try walk_at "own wq");repeat (simp only [refD];try walk_at "own wq"))
   refine room_W (r:=i) nd hrow hpl (low1 k _ (hk.at_ i k row hkk hrow)) (by omega) (by omega) hu h1 fun F' o12 o13 hl hu' h1'=>?_
   exact ⟨rfl,F',_,_,_,_,by omega,by omega,rfl,h1',hu',rfl⟩
  ·rintro r V2 ⟨F,y5,y11,y12,y13,hi,hF,rfl,h1,hu,rfl⟩
   rw [enD_len,lM1,Nat.zero_add] at h1
   refine ⟨rfl,F,_,_,_,_,rfl,fun r' d x hx=>h1 r' d x ?_ hx,hu,rfl⟩
   obtain ⟨row,e1,_⟩:=hx
   rw [hk.len]
   exact (gE1.mp e1).1
 rintro r V2 ⟨F,y5,y11,y12,y13,rfl,hF,hu,rfl⟩
 generalize hV2:V1.set V.length (dO F)=V2
 have sV2:HS h g (c+100) U V2:=by rw [<- hV2];exact sV1.set (by omega) (dO_und fun p hp=>und_mono (hu p hp))
 have low2:∀ (i:Nat) (o:Ob),V[i]? = some o->V2[i]? = some o:=fun i o hi=>by
  rw [<- hV2,gS1 (by have:=(gE1.mp hi).1;omega)];exact low1 i o hi
 have hplc:V2[V.length]? = some (dO F):=by rw [<- hV2,List.getElem?_set_self hpl]
 have hmem:∀ x∈R.flatten,opp x∈R.flatten:=fun x hx=>by
  have:=mem_allE.mp (dR.all.mem_iff.mp hx)
  exact dR.all.mem_iff.mpr (mem_allE.mpr ⟨this.1,by simp [opp]⟩)
 walk_at "own wq"
 refine sW_ref (S:=V2) (low2 dp _ hdV) ?_
 refine loopF_W (fun i acc r S=>∃ G x,S=V2++G/\(∀ o∈G,o.und 0=true)/\r=[x,some (.ref V.length)]/\acc=(R.take i).map fun row=>D.tup (row.map fun x=>pD (plc R (opp x)))) (ks.map refD) 0 [] _ _ ⟨[],none,by simp,fun o ho=>by simp at ho,rfl,rfl⟩ ?_ ?_ ?_
 ·rintro i acc r S ⟨G,x,rfl,_⟩
  exact okC_one (by rw [gL1 (gE1.mp (low2 dp _ hdV)).1];exact low2 dp _ hdV)
 ·rintro i d hd acc r S ⟨G,x,rfl,hG,rfl,rfl⟩
  rw [gP1] at hd
  obtain ⟨k,hkk,rfl⟩:=oM1.mp hd
  have hlt:=(gE1.mp hkk).1
  obtain ⟨row,hrow⟩:∃ row,R[i]? = some row:=⟨_,gG1 (by rw [<- hk.len];exact hlt)⟩
  have hrl:=dR.le i row hrow
  have hk2:=low2 k _ (hk.at_ i k row hkk hrow)
  have hk3:(V2++G)[k]? = some (.lst (row.map pD)):=by rw [gL1 (gE1.mp hk2).1];exact hk2
  ((try walk_at "own wq");repeat (simp only [refD];try walk_at "own wq"))
  refine sW_ref hk3 ?_
  refine mapW (fun x=>pD (plc R (opp x))) (fun r=>∃ x y,r=[x,y,some (.ref V.length)]) (okC_one hk3) row _ ⟨_,_,rfl⟩ ?_ ?_
  ·rintro y hy r ⟨a,b,rfl⟩
   rw [pD]
   walk_at "own wq"
   have hy2:=(mem_allE.mp (dR.all.mem_iff.mp (List.mem_flatten.mpr ⟨row,gM1 hrow,hy⟩)))
   rw [show ((1:Int)-(y.2:Int))=((1-y.2:Nat):Int) by omega]
   have hopp:=hmem y (List.mem_flatten.mpr ⟨row,gM1 hrow,hy⟩)
   have hlook:=hF _ _ _ (plc_at hopp)
   refine W_getD (F:=F) (k:=tkP (opp y)) (by rw [gL1 (gE1.mp hplc).1];exact hplc) (keyT_pD (e:=opp y)) hlook ?_
   exact ⟨rfl,rfl,_,_,rfl⟩
  ·rintro r' _
   walk_at "own wq"
   refine ⟨fits_le (by rw [lM1];omega),?_⟩
   refine sW_ref (xs:=row.map fun x=>pD (plc R (opp x))) (by rw [<- List.append_assoc,<- lA1,get_app0];rfl) ?_
   refine ⟨G++[Ob.lst (row.map fun x=>pD (plc R (opp x)))],_,rfl,fun o ho=>?_,rfl,?_⟩
   ·rcases List.mem_append.mp ho with z | z
    ·exact hG o z
    ·simp at z;subst z;rw [Ob.und];exact Mi.unds_map fun _ _=>rfl
   ·rw [Nat.zero_add,List.take_succ,hrow]
    simp
 ·rintro xs r S ⟨G,x,rfl,hG,rfl,e1⟩
  rw [List.nil_append,Nat.zero_add,lM1,hk.len,List.take_length] at e1
  subst e1
  walk_at "own wq"
  have hRl:=dR.len
  refine ⟨fits_le (by rw [lM1];omega),?_⟩
  refine sW_ref (xs:=R.map fun row=>D.tup (row.map fun x=>pD (plc R (opp x)))) (by rw [<- List.append_assoc,<- lA1,get_app0];rfl) ?_
  have e2:=lpD (R:=R) (x:=(0,0))
  have hund:D.unds 0 (R.map fun row=>D.tup (row.map fun x=>pD (plc R (opp x))))=true:=Mi.unds_map fun row _=>by rw [D.und];exact Mi.unds_map fun _ _=>rfl
  refine ⟨(sV2.app fun o ho=>?_).more (by omega),by rw [D.und];exact hund,fun U' a b l=>?_⟩
  ·rcases List.mem_append.mp ho with z | z
   ·exact obund_le (Nat.zero_le _) (hG o z)
   ·simp at z;subst z;rw [Ob.und];exact unds_mono hund
  ·rw [<- e2]
   exact q m _ U' m0 mm (webR_ok dR he1) a b l
theorem whl_W {c:FT}{b:FS}{Q:Fl×Ev×Sto->Prop}(I:Nat->Ev->Sto->Prop)(N:Nat)
  (step:∀ k r S,I k r S->W (c r S) fun p=>if p.1=true then k<N/\W (b r p.2) fun q=>q.1 = .nx/\I (k+1) q.2.1 q.2.2 else Q (.nx,r,p.2)):
  ∀ (fuel k:Nat) (r:Ev) (S:Sto),N-k<fuel->I k r S->W (whl c b fuel r S) Q
 | 0,k,r,S,hf,_=>by omega
 | fuel+1,k,r,S,hf,hi=>by
  rw [whl]
  dsimp only
  rw [W_bind]
  obtain ⟨⟨t,S1⟩,e,h⟩:=step k r S hi
  refine ⟨_,e,?_⟩
  dsimp only at h ⊢
  cases t with
  | true=>
   rw [if_pos rfl] at h ⊢
   obtain ⟨hk,⟨f,r1,S2⟩,e2,hf2,hi2⟩:=h
   dsimp only at hf2 hi2
   subst hf2
   rw [e2,oS1]
   exact whl_W I N step fuel (k+1) r1 S2 (by omega) hi2
  | false=>
   rw [if_neg (by decide)] at h ⊢
   exact W_some.mpr h
noncomputable def lex (a b:Nat×Nat):Bool:=decide (a.1<b.1)||(decide (a.1=b.1)&&decide (a.2<b.2))
theorem gLt_pD {a b:Nat×Nat}{S:Sto}:gLt (pD a) (pD b) S=some (.bl (lex a b),S):=by
 have e1:∀ (n x y:Nat),eqN S (n+1) (.int x) (.int y)=some (decide (x=y)):=fun n x y=>by
  show some ((x:Int) == (y:Int))=_
  congr 1
  rw [Bool.eq_iff_iff,beq_iff_eq,decide_eq_true_eq];omega
 have e2:∀ (n x y:Nat),ltN S (n+1) (.int x) (.int y)=some (decide (x<y)):=fun n x y=>by
  show some (decide ((x:Int)<(y:Int)))=_
  congr 1
  rw [Bool.eq_iff_iff,decide_eq_true_eq,decide_eq_true_eq];omega
 unfold gLt deepMost
 rw [show (60:Nat)=58+1+1 from rfl,ltN]
 simp only [pD,ltF,seqOf,if_true,ltL,e1,e2,oS1]
 unfold lex
 by_cases h1:a.1=b.1
 ·by_cases h2:a.2=b.2
  ·simp [h1,h2]
  ·simp [h1,h2]
 ·simp [h1]
theorem lex_not {a b:Nat×Nat}(h:lex a b=false)(hne:b≠a):lex b a=true:=by
 unfold lex at *
 obtain ⟨a1,a2⟩:=a
 obtain ⟨b1,b2⟩:=b
 simp at *
 omega
theorem few:∀ {N:Nat} {l:List Nat},l.Nodup->(∀ x∈l,x<N)->l.length<=N
 | 0,l,_,h=>by
  cases l with
  | nil=>simp
  | cons a l=>have:=h a mS1;omega
 | N+1,l,n,h=>by
  by_cases hm:N∈l
  ·have h1:=few (N:=N) (l:=l.erase N) (n.erase N) fun x hx=>by
    have hx':=(List.Nodup.mem_erase_iff n).mp hx
    have:=h x hx'.2
    have:=hx'.1
    omega
   have:=List.length_erase_of_mem hm
   omega
  ·have:=few (N:=N) (l:=l) n fun x hx=>by
    have h1:=h x hx
    have:x≠N:=fun z=>hm (z ▸ hx)
    omega
   omega
theorem few2 {A B:Nat}{l:List (Nat×Nat)}(n:l.Nodup)(h:∀ x∈l,x.1<A/\x.2<B):l.length<=A*B:=by
 have h1:=few (N:=A*B) (l:=l.map fun x=>x.1*B+x.2) ?_ ?_
 ·simpa using h1
 ·rw [List.nodup_iff_pairwise_ne,List.pairwise_map]
  refine List.Pairwise.imp_of_mem ?_ n
  intro x y hx hy hne e
  apply hne
  have h1:=h x hx
  have h2:=h y hy
  have ex:x.1=(x.1*B+x.2)/B:=by rw [Nat.mul_comm,Nat.mul_add_div (by omega),Nat.div_eq_of_lt h1.2,Nat.add_zero]
  have ey:y.1=(y.1*B+y.2)/B:=by rw [Nat.mul_comm,Nat.mul_add_div (by omega),Nat.div_eq_of_lt h2.2,Nat.add_zero]
  have e1:x.1=y.1:=by rw [ex,ey,e]
  rw [e1] at e
  exact Prod.ext e1 (by omega)
 ·intro z hz
  obtain ⟨x,hx,rfl⟩:=List.mem_map.mp hz
  have h1:=h x hx
  have:(x.1+1)*B<=A*B:=Nat.mul_le_mul_right B h1.1
  rw [Nat.add_mul] at this
  omega
noncomputable def rndW (m:Nat):Rows2:=(List.range m).map fun r=>[((r+1)%m,1),((r+m-1)%m,0)]
noncomputable def okW (w:Rows2):Bool:=w.zipIdx.all fun p=>decide (p.1.length<=4)&&p.1.zipIdx.all fun q=>(match w[q.1.1]? with | some row=>decide (row[q.1.2]? = some (p.2,q.2)) | none=>false)&&decide (q.1≠(p.2,q.2))
theorem okW_ok {w:Rows2}(h:okW w=true)(ht:∀ j:Nat,1<=j->j<w.length -> ∃ d p,At w j d p/\p.1<j):WebG w.length w:=by
 unfold okW at h
 rw [List.all_eq_true] at h
 have get:∀ (r:Nat) (row:List (Nat×Nat)),w[r]? = some row->row.length<=4 /\ ∀ (d:Nat) (p:Nat×Nat),row[d]? = some p->At w p.1 p.2 (r,d)/\p≠(r,d):=fun r row hr=>by
  have h1:=h (row,r) (by rw [List.mem_zipIdx_iff_getElem?];exact hr)
  simp only [bA1,decide_eq_true_eq,List.all_eq_true] at h1
  refine ⟨h1.1,fun d p hp=>?_⟩
  have h2:=h1.2 (p,d) (by rw [List.mem_zipIdx_iff_getElem?];exact hp)
  dsimp only at h2
  refine ⟨?_,h2.2⟩
  have h3:=h2.1
  split at h3
  ·rename_i row' e
   exact ⟨row',e,by simpa using h3⟩
  ·cases h3
 refine ⟨rfl,fun row hr=>?_,fun r d p ⟨row,h1,h2⟩=>((get r row h1).2 d p h2).1,fun r d p ⟨row,h1,h2⟩=>((get r row h1).2 d p h2).2,ht⟩
 obtain ⟨i,hi⟩:=List.getElem?_of_mem hr
 exact (get i row hi).1
theorem round_ok {m:Nat}(h0:0<m)(h8:m<=8):WebG m (rndW m):=by
 have q:∀ m:Fin 9,0<m.val->okW (rndW m.val)=true/\(rndW m.val).length=m.val:=by decide+kernel
 obtain ⟨q2,q3⟩:=q ⟨m,by omega⟩ h0
 dsimp only at q2 q3
 have:=okW_ok q2 fun j h1 h2=>by
  rw [q3] at h2
  refine ⟨1,((j+m-1)%m,0),⟨[((j+1)%m,1),((j+m-1)%m,0)],by unfold rndW;rw [gP1,List.getElem?_range h2];rfl,rfl⟩,?_⟩
  dsimp only
  rw [show j+m-1=(j-1)+m by omega,Nat.add_mod_right,Nat.mod_eq_of_lt (by omega)]
  omega
 rw [q3] at this
 exact this
theorem round_W {m:Nat}{S:Sto}{Q:D×Sto->Prop}(h0:0<m)(h8:m<=8)(q:Q (dW (rndW m),S)):W (mCall 1 m__law_round [.int m] S) Q:=by
 refine callP rfl rfl ?_
 unfold m__law_round
 refine fnW ?_
 unfold b__law_round
 walk_at "own wq"
 refine ⟨bnd_nat (by omega),?_⟩
 rw [nums0,Int.toNat_natCast]
 refine mapW (fun r:Nat=>dR [((r+1)%m,1),((r+m-1)%m,0)]) (fun r=>∃ x,r=[x,some (.int m)]) rfl (List.range m) _ ⟨_,rfl⟩ ?_ ?_
 ·rintro r hr r' ⟨x,rfl⟩
  ((try walk_at "own wq");repeat (simp only [gMod];try walk_at "own wq"))
  refine ⟨by omega,by omega,?_,_,rfl⟩
  have e1:(((r+1)%m:Nat):Int)=((r:Int)+1)%(m:Int):=by push_cast;rfl
  have e2:(((r+m-1)%m:Nat):Int)=((r:Int)+(m:Int)-1)%(m:Int):=by
   rw [Int.natCast_emod]
   congr 1
   omega
  simp [dR,dP,e1,e2]
 ·rintro r' _
  walk_at "own wq"
  refine ⟨fits_le (by simp;omega),?_⟩
  refine sW_ref rfl ?_
  refine ⟨by rw [D.und];exact Mi.unds_map fun _ _=>und_dR _ _,?_⟩
  have e:dW (rndW m) = .tup ((List.range m).map fun r:Nat=>dR [((r+1)%m,1),((r+m-1)%m,0)]):=by
   unfold dW rndW
   rw [List.map_map];rfl
  rw [<- e]
  exact q
theorem rngOk_nat {k:Nat}(h:k<=1000):rngOk 0 (k:Int)=true:=by
 unfold rngOk
 simp only [bA1,decide_eq_true_eq]
 omega
theorem W_LR1 {m:FA}{r:Ev}{S S1:Sto}{k:Nat}{Q:D×Sto->Prop}(h:m r S=some ([.int k],S1))(hk:k<=1000)(q:Q (.ref S1.length,S1++[.lst (nums 0 k)])):W (mLR1 m r S) Q:=by
 refine W.of ?_ q
 unfold mLR1
 rw [h,oS1]
 dsimp only
 rw [if_pos (rngOk_nat hk),Int.toNat_natCast]
theorem perm_nm:∀ {a b:List D},a.Perm b -> ∀ l:List Nat,b=nmD l -> ∃ l':List Nat,a=nmD l'/\l'.Perm l:=by
 intro a b h
 induction h with
 | nil=>intro l e;exact ⟨[],rfl,by cases l with | nil=>exact .refl _ | cons _ _=>simp [nmD] at e⟩
 | cons x _ ih=>
  intro l e
  cases l with
  | nil=>simp [nmD] at e
  | cons y l=>
   simp [nmD] at e
   obtain ⟨l',e1,p⟩:=ih l e.2
   exact ⟨y::l',by rw [nmD,mP1,e.1,e1];rfl,p.cons y⟩
 | swap x y l0=>
  intro l e
  match l,e with
  | a::b::l,e=>
   simp [nmD] at e
   exact ⟨b::a::l,by rw [nmD,mP1,mP1,e.1,e.2.1,e.2.2],List.Perm.swap _ _ _⟩
 | trans _ _ ih1 ih2=>
  intro l e
  obtain ⟨l1,e1,p1⟩:=ih2 l e
  obtain ⟨l2,e2,p2⟩:=ih1 l1 e1
  exact ⟨l2,e2,p2.trans p1⟩
theorem eqsL_nm {S:Sto}{n x:Nat}:∀ ys:List Nat,eqsL (eqN S (n+1)) (.int x) (nmD ys)=some (ys.map fun y=>y == x)
 | []=>rfl
 | y::ys=>by
  have e1:eqN S (n+1) (.int y) (.int x)=some ((y:Int) == (x:Int)):=rfl
  have e2:((y:Int) == (x:Int))=(y == x):=by rw [Bool.eq_iff_iff,beq_iff_eq,beq_iff_eq];omega
  have ih:=eqsL_nm (S:=S) (n:=n) (x:=x) ys
  rw [nmD] at ih ⊢
  rw [mP1,eqsL,e1,e2,ih];rfl
theorem find_some {α:Type}[BEq α][LawfulBEq α]{l:List α}{x:α}(h:x∈l):∃ j,l.findIdx? (· == x)=some j/\l[j]? = some x:=by
 cases e:l.findIdx? (· == x) with
 | none=>
  rw [List.findIdx?_eq_none_iff] at e
  have:=e x h
  simp at this
 | some j=>
  obtain ⟨hj,h1,_⟩:=List.findIdx?_eq_some_iff_getElem.mp e
  exact ⟨j,rfl,by rw [gG1 hj];simp at h1;rw [h1]⟩
theorem W_idxN {S:Sto}{n x:Nat}{ys:List Nat}{Q:D×Sto->Prop}(h:S[n]? = some (.lst (nmD ys)))(hl:ys.length<1000)(hx:x∈ys)(q:∀ j:Nat,ys[j]? = some x->Q (.int j,S)):W (gIdx (.ref n) (.int x) S) Q:=by
 obtain ⟨j,hj,hj2⟩:=find_some hx
 refine W.of ?_ (q j hj2)
 unfold gIdx deepMost
 simp only [h,show (60:Nat)=59+1 from rfl,eqsL_nm,oS1,lM1]
 rw [if_pos (by omega),List.findIdx?_map]
 simp [Function.comp_def,hj]
theorem W_idxM {S:Sto}{n:Nat}{row:List (Nat×Nat)}{e:Nat×Nat}{Q:D×Sto->Prop}(h:S[n]? = some (.lst (row.map pD)))(hl:row.length<1000)(he:e∈row)(q:∀ j:Nat,row[j]? = some e->Q (.int j,S)):W (gIdx (.ref n) (pD e) S) Q:=by
 obtain ⟨j,hj,hj2⟩:=find_some he
 exact W_idxP h hl hj (q j hj2)
theorem inL_pD {S:Sto}{n:Nat}{x:Nat×Nat}:∀ row:List (Nat×Nat),inL (eqN S (n+2)) (pD x) (row.map pD)=some (row.contains x)
 | []=>rfl
 | y::row=>by
  rw [mP1,inL,eqN_pD,inL_pD row,List.contains_cons,show (y == x)=(x == y) from Bool.beq_comm];rfl
theorem W_notIn {S:Sto}{n:Nat}{row:List (Nat×Nat)}{x:Nat×Nat}{Q:D×Sto->Prop}(h:S[n]? = some (.lst (row.map pD)))(q:Q (.bl (!row.contains x),S)):W (gNotInY (pD x) (.ref n) S) Q:=by
 refine W.of ?_ q
 simp only [gNotInY,h,gNotInX,gNotIn,seq_ref h,oS1,deepMost,show (60:Nat)=58+2 from rfl,inL_pD,oP1]
structure Ords (w:Rows2)(cp b:Nat)(done:Nat->Nat->Prop)(F:List (TK×D))(V:Sto):Prop where
 ord:∀ r d p,done r d->At w r d p->lex (r,d) p=true -> ∃ k ys,lookD F (tkP (r,d))=some (.ref k)/\b<=k/\V[k]? = some (.lst (nmD ys))/\ys.Perm (List.range cp)
 und:∀ p∈F,p.2.und V.length=true
theorem Ords.over {h g n cp b:Nat}{w:Rows2}{done:Nat->Nat->Prop}{F:List (TK×D)}{U V:Sto}(o:Ords w cp b done F U)(s:HS h g n U V)(hh:h<b)(hg:g<b):Ords w cp b done F V:=
 ⟨fun r d p h1 h2 h3=>by
  obtain ⟨k,ys,a1,a2,a3,a4⟩:=o.ord r d p h1 h2 h3
  exact ⟨k,ys,a1,a2,s.at a3 (by omega) (by omega),a4⟩,fun p hp=>und_le s.len (o.und p hp)⟩
theorem ord_W {h g n b cp r d od:Nat}{w:Rows2}{p:Nat×Nat}{U0 V:Sto}{F:List (TK×D)}{x4 x5 x7 x10 x11 x12:Option D}{Q:Fl×Ev×Sto->Prop}(s:HS h g n U0 V)(hb:U0.length<=b)(hod:b<=od)(hn:n<=2^44)(hcp:cp<=8)(hF:F.length<500)(hd:V[od]? = some (dO F))(o:Ords w cp b (fun r' d'=>r'<r\/(r'=r/\d'<d)) F V)(hod2:od<b+3)
  (q:∀ F' V',HS h g (n+8) U0 V'->V'[od]? = some (dO F')->F'.length<=F.length+1->Ords w cp b (fun r' d'=>r'<r\/(r'=r/\d'<d+1)) F' V'->(∀ i,i≠od->i≠h->i≠g->i<V.length->V'[i]? = V[i]?)->V.length<=V'.length->(∀ (r' d' k:Nat),lookD F' (tkP (r',d'))=some (.ref k)->lookD F (tkP (r',d'))=some (.ref k)\/V.length<=k) ->
   Q (.nx,[some (.ref h),some (dW w),some (.int cp),some (.ref od),x4,x5,some (.int (r:Nat)),x7,some (.int (d:Nat)),some (pD p),x10,x11,x12],V')) (hp:At w r d p) (hkb:∀ (r' d' k:Nat),lookD F (tkP (r',d'))=some (.ref k)->k≠od):
  W (p__law_cover_1 [some (.ref h),some (dW w),some (.int cp),some (.ref od),x4,x5,some (.int (r:Nat)),x7,some (.int (d:Nat)),some (pD p),x10,x11,x12] V) Q:=by
 have hh:=s.hl
 have hg:=s.gl
 have hVl:=s.len
 have hodV:od<V.length:=(gE1.mp hd).1
 unfold p__law_cover_1
 walk_at "own wv"
 have e:∀ S,gLt (D.tup [D.int ↑r,D.int ↑d]) (pD p) S=some (.bl (lex (r,d) p),S):=fun S=>gLt_pD (a:=(r,d)) (b:=p)
 ((try walk_at "own wv");repeat (simp-implicitDefEqProofs only [e];try walk_at "own wv"))
 by_cases hl:lex (r,d) p=true
 ·rw [if_pos hl]
  refine W_LR1 (k:=cp) (S1:=V) rfl (by omega) ?_
  walk_at "own wv"
  have s1:HS h g n U0 (V++[.lst (nums 0 cp)]):=s.app fun o ho=>by simp at ho;subst ho;rw [Ob.und,nums0];exact Mi.unds_map fun _ _=>rfl
  have s1':HS h g n V (V++[.lst (nums 0 cp)]):=(HS.self s.hand s.shut).app fun o ho=>by simp at ho;subst ho;rw [Ob.und,nums0];exact Mi.unds_map fun _ _=>rfl
  refine order_W (r:=V.length) (xs:=nums 0 cp) s1 (by omega) (by rw [get_app0];rfl) (by omega) (by omega) (by rw [nums_len];omega) (by rw [nums0];exact Mi.unds_map fun _ _=>rfl) fun k ys V2 s2 s2' hkl hky hp'=>?_
  obtain ⟨zs,rfl,hz⟩:=perm_nm hp' (List.range cp) (by rw [nums0];rfl)
  rw [nums_len] at s2 s2'
  have l12:=s1'.len
  have l22:=s2'.len
  have hd2:V2[od]? = some (dO F):=s2'.at (s1'.at hd (by omega) (by omega)) (by omega) (by omega)
  walk_at "own wv"
  refine W_setD (F:=F) hd2 (keyT_pD (e:=(r,d))) (by omega) ?_
  have hkod:k≠od:=by rw [lA1] at hkl;simp at hkl;omega
  have o2:=(o.over s1' (by omega) (by omega)).over s2' (by omega) (by omega)
  have kl2:k<V2.length:=(gE1.mp hky).1
  refine q (putD F (tkP (r,d)) (.ref k)) (V2.set od (dO (putD F (tkP (r,d)) (.ref k)))) ((s2.set (by omega) (dO_und (put_und o2.und (by simp [D.und];omega)))).more (by omega)) (by rw [List.getElem?_set_self (by omega)]) put_len ⟨fun r' d' p' hd' hat hlx=>?_,fun p' hp'=>by rw [List.length_set];exact put_und o2.und (by simp [D.und];omega) p' hp'⟩ (fun i h1 h2 h3 h4=>?_) (by rw [List.length_set];rw [lA1] at l22;omega) (fun r' d' k' hk'=>?_)
  ·rw [look_put]
   by_cases ek:tkP (r',d')=tkP (r,d)
   ·have:=tkP_inj ek
    cases this
    rw [if_pos rfl]
    exact ⟨k,zs,rfl,by rw [lA1] at hkl;omega,by rw [gS1 hkod.symm];exact hky,hz⟩
   ·rw [if_neg ek]
    have hd'':r'<r\/(r'=r/\d'<d):=by
     rcases hd' with z | ⟨z1,z2⟩
     ·exact .inl z
     ·refine .inr ⟨z1,?_⟩
      by_cases z3:d'=d
      ·subst z1;subst z3;exact absurd rfl ek
      ·omega
    obtain ⟨k',ys',a1,a2,a3,a4⟩:=o2.ord r' d' p' hd'' hat hlx
    exact ⟨k',ys',a1,a2,by rw [gS1 (hkb r' d' k' a1).symm];exact a3,a4⟩
  ·rw [gS1 (Ne.symm h1),s2'.same i (by rw [lA1];omega) h2 h3,s1'.same i h4 h2 h3]
  ·rw [look_put] at hk'
   split at hk'
   ·cases hk'
    rw [lA1] at hkl
    exact .inr (by omega)
   ·exact .inl hk'
 ·rw [if_neg hl]
  have hlf:lex (r,d) p=false:=Bool.eq_false_iff.mpr hl
  refine q F V (s.more (by omega)) hd (by omega) ⟨fun r' d' p' hd' hat hlx=>?_,o.und⟩ (fun i _ _ _ _=>rfl) (nR1 _) (fun _ _ _ hk'=>.inl hk')
  refine o.ord r' d' p' ?_ hat hlx
  rcases hd' with z | ⟨z1,z2⟩
  ·exact .inl z
  ·refine .inr ⟨z1,?_⟩
   by_cases z3:d'=d
   ·subst z1;subst z3
    obtain ⟨row,b1,b2⟩:=hat
    obtain ⟨row',c1,c2⟩:=hp
    rw [b1] at c1;cases c1
    rw [b2] at c2;cases c2
    rw [hlf] at hlx;cases hlx
   ·omega
theorem dP_pD {p:Nat×Nat}:dP p=pD p:=rfl
theorem ords_W {h g n b cp:Nat}{w:Rows2}{U0 V:Sto}{x10 x11 x12:Option D}{Q:Fl×Ev×Sto->Prop}(s:HS h g n U0 V)(hb:U0.length=b)(hn:n<=2^43)(hcp:cp<=8)(hw:w.length<=8)(hw4:∀ row∈w,row.length<=4)(hV:V.length=b+3)(hd:V[b]? = some (dO []))
  (q:∀ F V' x6 x7 x8 x9,HS h g (n+300) U0 V'->V'[b]? = some (dO F)->Ords w cp b (fun _ _=>True) F V'->(∀ (r' d' k:Nat),lookD F (tkP (r',d'))=some (.ref k)->b+3<=k)->(∀ i,i≠b->i≠h->i≠g->i<V.length->V'[i]? = V[i]?)->V.length<=V'.length ->
   Q (.nx,[some (.ref h),some (dW w),some (.int cp),some (.ref b),some (.ref (b+1)),some (.ref (b+2)),x6,x7,x8,x9,x10,x11,x12],V')):
  W (mFor (iEn (mCons (mV 1) mNil)) (gT 2 (gCs (gN 6) (gCs (gN 7) gNl))) p__law_cover_2 [some (.ref h),some (dW w),some (.int cp),some (.ref b),some (.ref (b+1)),some (.ref (b+2)),none,none,none,none,x10,x11,x12] V) Q:=by
 unfold mFor
 rw [W_bind]
 refine W_iEn (d:=dW w) (S1:=V) rfl ?_
 refine sW_tup.mpr ?_
 refine loopM_W (fun i r V'=>∃ F x6 x7 x8 x9,i<=w.length/\F.length<=4*i/\HS h g (n+32*i) U0 V'/\V'[b]? = some (dO F)/\Ords w cp b (fun r' _=>r'<i) F V'/\(∀ (r' d' k:Nat),lookD F (tkP (r',d'))=some (.ref k)->b+3<=k)/\(∀ i,i≠b->i≠h->i≠g->i<V.length->V'[i]? = V[i]?)/\V.length<=V'.length/\r=[some (.ref h),some (dW w),some (.int cp),some (.ref b),some (.ref (b+1)),some (.ref (b+2)),x6,x7,x8,x9,x10,x11,x12]) _ 0 _ _ ⟨[],none,none,none,none,by omega,by simp,s,hd,⟨fun r d p hr=>by omega,fun p hp=>by simp at hp⟩,(fun r' d' k hk=>by rw [look_nil] at hk;cases hk),fun _ _ _ _ _=>rfl,nR1 _,rfl⟩ (fun _ _ _ _=>rfl) ?_ ?_
 ·rintro i dd hdd r V1 ⟨F,x6,x7,x8,x9,hi,hF,s1,hd1,o1,hk1,hs1,hl1,rfl⟩
  dsimp only at hdd
  rw [enD_get,gP1] at hdd
  obtain ⟨z,hz,rfl⟩:=oM1.mp hdd
  obtain ⟨row,hrow,rfl⟩:=oM1.mp hz
  have hlt:=(gE1.mp hrow).1
  have hr4:=hw4 row (gM1 hrow)
  rw [Nat.zero_add] at *
  walk_at "own wq"
  unfold p__law_cover_2 mFor
  rw [W_bind]
  refine W_iEn (d:=dR row) (S1:=V1) rfl ?_
  refine sW_tup.mpr ?_
  refine loopM_W (fun j r V'=>∃ F' x8 x9,j<=row.length/\F'.length<=F.length+j/\HS h g (n+32*i+8*j) U0 V'/\V'[b]? = some (dO F')/\Ords w cp b (fun r' d'=>r'<i\/(r'=i/\d'<j)) F' V'/\(∀ (r' d' k:Nat),lookD F' (tkP (r',d'))=some (.ref k)->b+3<=k)/\(∀ i,i≠b->i≠h->i≠g->i<V.length->V'[i]? = V[i]?)/\V.length<=V'.length/\r=[some (.ref h),some (dW w),some (.int cp),some (.ref b),some (.ref (b+1)),some (.ref (b+2)),some (.int (i:Nat)),some (dR row),x8,x9,x10,x11,x12]) _ 0 _ _ ⟨F,x8,x9,by omega,by omega,s1,hd1,⟨fun r d p hr=>o1.ord r d p (by omega),o1.und⟩,hk1,hs1,hl1,rfl⟩ (fun _ _ _ _=>rfl) ?_ ?_
  ·rintro j dd hdd r V2 ⟨F2,y8,y9,hj,hF2,s2,hd2,o2,hk2,hs2,hl2,rfl⟩
   dsimp only at hdd
   rw [enD_get,gP1] at hdd
   obtain ⟨z,hz,rfl⟩:=oM1.mp hdd
   obtain ⟨p,hp,rfl⟩:=oM1.mp hz
   have hjlt:=(gE1.mp hp).1
   rw [Nat.zero_add] at *
   ((try walk_at "own wq");repeat (simp only [dP_pD];try walk_at "own wq"))
   refine ord_W (b:=b) (od:=b) s2 (by omega) (nR1 _) (by omega) hcp (by omega) hd2 o2 (by omega) (fun F' V' a1 a2 a3 a4 a5 a6 a7=>?_) ⟨row,hrow,hp⟩ fun r' d' k hk=>by have:=hk2 r' d' k hk;omega
   refine ⟨rfl,F',_,_,by omega,by omega,a1.more (by omega),a2,a4,fun r' d' k hk=>?_,fun i' b1 b2 b3 b4=>?_,Nat.le_trans hl2 a6,rfl⟩
   ·rcases a7 r' d' k hk with z | z
    ·exact hk2 r' d' k z
    ·omega
   ·rw [a5 i' b1 b2 b3 (by omega),hs2 i' b1 b2 b3 b4]
  ·rintro r V2 ⟨F2,y8,y9,hj,hF2,s2,hd2,o2,hk2,hs2,hl2,rfl⟩
   rw [enD_len,lM1,Nat.zero_add] at *
   refine ⟨rfl,F2,_,_,_,_,by omega,by omega,s2.more (by omega),hd2,⟨fun r d p hr hat=>o2.ord r d p ?_ hat,o2.und⟩,hk2,hs2,hl2,rfl⟩
   by_cases z:r<i
   ·exact .inl z
   ·have:r=i:=by omega
    subst this
    obtain ⟨row',e1,e2⟩:=hat
    rw [hrow] at e1;cases e1
    exact .inr ⟨rfl,(gE1.mp e2).1⟩
 ·rintro r V1 ⟨F,x6,x7,x8,x9,hi,hF,s1,hd1,o1,hk1,hs1,hl1,rfl⟩
  rw [enD_len,lM1,Nat.zero_add] at *
  refine q F V1 _ _ _ _ (s1.more (by omega)) hd1 ⟨fun r d p _ hat=>o1.ord r d p ?_ hat,o1.und⟩ hk1 hs1 hl1
  obtain ⟨row',e1,e2⟩:=hat
  exact (gE1.mp e1).1
structure BS (h g n b:Nat)(U0 V0:Sto)(F:List (TK×D))(met:List (Nat×Nat))(rooms:Rows2)(V:Sto):Prop where
 hs:HS h g n U0 V
 dic:V[b]? = some (dO F)
 same:∀ i,b+3<=i->i<V0.length->V[i]? = V0[i]?
 len:V0.length<=V.length
 mt:V[b+1]? = some (.lst (met.map pD))
 rm:V[b+2]? = some (.lst (rooms.map dR))
structure MI (w:Rows2)(cp:Nat)(met:List (Nat×Nat)):Prop where
 nd:met.Nodup
 inn:∀ x∈met,x.1<w.length/\x.2<cp
theorem MI.few {w:Rows2}{cp:Nat}{met:List (Nat×Nat)}(m:MI w cp met)(h:w.length*cp<=8):met.length<=8:=Nat.le_trans (few2 m.nd m.inn) h
theorem BS.set {h g n b i:Nat}{U0 V0 V:Sto}{F:List (TK×D)}{met met':List (Nat×Nat)}{rooms rooms':Rows2}{o:Ob}(s:BS h g n b U0 V0 F met rooms V)(hb:U0.length=b)(hi:V0.length<=i\/i=b+1\/i=b+2)(h0:b+3<=V0.length)(hil:i<V.length)(ho:o.und V.length=true)
  (hm:(V.set i o)[b+1]? = some (.lst (met'.map pD))) (hr:(V.set i o)[b+2]? = some (.lst (rooms'.map dR))):BS h g n b U0 V0 F met' rooms' (V.set i o):=
 ⟨s.hs.set (by omega) ho,by rw [gS1 (by omega)];exact s.dic,fun j h1 h2=>by rw [gS1 (by omega)];exact s.same j h1 h2,by rw [List.length_set];exact s.len,hm,hr⟩
theorem pDs_und {n:Nat}(l:List (Nat×Nat)):D.unds n (l.map pD)=true:=Mi.unds_map fun _ _=>rfl
noncomputable def OL (F:List (TK×D))(V0:Sto)(a:Nat×Nat)(c c':Nat):Prop:=∃ k ys,lookD F (tkP a)=some (.ref k)/\V0[k]? = some (.lst (nmD ys))/\ys.Nodup/\ys[c]? = some c'
noncomputable def OK2 (F:List (TK×D))(V0:Sto)(a goal:Nat×Nat)(c c':Nat):Prop:=(lex a goal=true/\OL F V0 a c c')\/(lex a goal=false/\OL F V0 goal c' c)
theorem nm_inj {xs ys:List Nat}(h:nmD xs=nmD ys):xs=ys:=by
 unfold nmD at h
 exact List.map_inj_right (f:=fun x:Nat=>D.int (x:Int)) (fun a b e=>by injection e with e;omega) |>.mp h
theorem OL.inj {F:List (TK×D)}{V0:Sto}{a:Nat×Nat}{c c1 c':Nat}(h:OL F V0 a c c')(h1:OL F V0 a c1 c'):c=c1:=by
 obtain ⟨k,ys,a1,a2,a3,a4⟩:=h
 obtain ⟨k',ys',b1,b2,_,b4⟩:=h1
 rw [a1] at b1
 cases b1
 rw [a2] at b2
 have e:ys=ys':=by
  have:=Option.some.inj b2
  injection this with this
  exact nm_inj this
 subst e
 have l1:=(gE1.mp a4).1
 exact (List.getElem?_inj l1 a3).mp (a4.trans b4.symm)
theorem OL.det {F:List (TK×D)}{V0:Sto}{a:Nat×Nat}{c c1 c':Nat}(h:OL F V0 a c c')(h1:OL F V0 a c c1):c'=c1:=by
 obtain ⟨k,ys,a1,a2,a3,a4⟩:=h
 obtain ⟨k',ys',b1,b2,_,b4⟩:=h1
 rw [a1] at b1
 cases b1
 rw [a2] at b2
 have e:ys=ys':=by
  have:=Option.some.inj b2
  injection this with this
  exact nm_inj this
 subst e
 rw [a4] at b4
 exact Option.some.inj b4
theorem lex_asym {a b:Nat×Nat}(h:lex a b=true):lex b a=false:=by
 obtain ⟨a1,a2⟩:=a
 obtain ⟨b1,b2⟩:=b
 unfold lex at *
 simp at *
 omega
theorem OK2.back {F:List (TK×D)}{V0:Sto}{a goal:Nat×Nat}{c c' c2:Nat}(hne:goal≠a)(h:OK2 F V0 a goal c c')(h1:OK2 F V0 goal a c' c2):c2=c:=by
 rcases h with ⟨l,h⟩ | ⟨l,h⟩
 ·rcases h1 with ⟨l1,h1⟩ | ⟨l1,h1⟩
  ·rw [lex_asym l] at l1;cases l1
  ·exact h1.inj h
 ·have l2:=lex_not l hne
  rcases h1 with ⟨l1,h1⟩ | ⟨l1,h1⟩
  ·exact h1.det h
  ·rw [l2] at l1;cases l1
theorem door_W {h g n b cp r c d sp:Nat}{w:Rows2}{m:Nat}{goal:Nat×Nat}{U0 V0 V:Sto}{F:List (TK×D)}{met some_:List (Nat×Nat)}{rooms:Rows2}{x7 x12:Option D}{Q:Fl×Ev×Sto->Prop}(hw:WebG m w)(h8:w.length*cp<=8)(hb:U0.length=b)(h0:b+3<=V0.length)
  (o:Ords w cp b (fun _ _=>True) F V0) (hkb:∀ (r' d' k:Nat),lookD F (tkP (r',d'))=some (.ref k)->b+3<=k) (s:BS h g n b U0 V0 F met rooms V) (mi:MI w cp met) (hsp:V0.length<=sp) (hs:V[sp]? = some (.lst (some_.map pD))) (hsl:some_.length<100) (hc:c<cp) (hat:At w r d goal)
  (q:∀ met' e V' x12',met <+: met'->MI w cp met'->BS h g n b U0 V0 F met' rooms V'->V'[sp]? = some (.lst ((some_++[e]).map pD))->e.2=goal.2->(∃ c',met'[e.1]? = some (goal.1,c')/\OK2 F V0 (r,d) goal c c')->V'.length=V.length->(∀ j,met.length<=j->j<met'.length->e.1=j) ->
   Q (.nx,[some (.ref h),some (dW w),some (.int cp),some (.ref b),some (.ref (b+1)),some (.ref (b+2)),some (.int (r:Nat)),x7,some (.int (d:Nat)),some (pD goal),some (.int (c:Nat)),some (.ref sp),x12'],V')):
  W (p__law_cover_3 [some (.ref h),some (dW w),some (.int cp),some (.ref b),some (.ref (b+1)),some (.ref (b+2)),some (.int (r:Nat)),x7,some (.int (d:Nat)),some (pD goal),some (.int (c:Nat)),some (.ref sp),x12] V) Q:=by
 have hspl:sp<V.length:=(gE1.mp hs).1
 have look:∀ r d p,At w r d p->lex (r,d) p=true -> ∃ k ys,lookD F (tkP (r,d))=some (.ref k)/\V[k]? = some (.lst (nmD ys))/\ys.Perm (List.range cp)/\V0[k]? = some (.lst (nmD ys)):=fun r d p h1 h2=>by
  obtain ⟨k,ys,a1,a2,a3,a4⟩:=o.ord r d p trivial h1 h2
  exact ⟨k,ys,a1,by rw [s.same k (hkb r d k a1) (gE1.mp a3).1];exact a3,a4,a3⟩
 have i0:∀ (S:Sto) (Q:D×Sto->Prop),Q (.int goal.1,S)->W (gIxY (pD goal) (.int 0) S) Q:=fun S Q q=>W_ixT (i:=0) rfl q
 have i1:∀ (S:Sto) (Q:D×Sto->Prop),Q (.int goal.2,S)->W (gIxY (pD goal) (.int 1) S) Q:=fun S Q q=>W_ixT (i:=1) rfl q
 have hg1:goal.1<w.length:=by obtain ⟨row,a1,_⟩:=hw.back r d goal hat;exact (gE1.mp a1).1
 unfold p__law_cover_3
 refine seqW (fun r' S=>S=V /\ ∃ c',c'<cp/\OK2 F V0 (r,d) goal c c'/\r'=[some (.ref h),some (dW w),some (.int cp),some (.ref b),some (.ref (b+1)),some (.ref (b+2)),some (.int (r:Nat)),x7,some (.int (d:Nat)),some (pD goal),some (.int (c:Nat)),some (.ref sp),some (pD (goal.1,c'))]) ?_ ?_
 ·walk_at "own wq"
  have e:∀ S,gLt (D.tup [D.int ↑r,D.int ↑d]) (pD goal) S=some (.bl (lex (r,d) goal),S):=fun S=>gLt_pD (a:=(r,d)) (b:=goal)
  ((try walk_at "own wq");repeat (simp only [e];try walk_at "own wq"))
  by_cases hl:lex (r,d) goal=true
  ·rw [if_pos hl]
   obtain ⟨k,ys,a1,a2,a3,a5⟩:=look r d goal hat hl
   have hyl:ys.length=cp:=by rw [a3.length_eq];simp
   refine i0 _ _ ?_
   refine W_getD (F:=F) s.dic (keyT_pD (e:=(r,d))) a1 ?_
   refine W_ixL (i:=c) (xs:=nmD ys) (x:=.int (ys[c]'(by omega):Nat)) a2 (by rw [nmD,gP1,gG1 (by omega)];rfl) ?_
   walk_at "own wq"
   refine ⟨ys[c]'(by omega),?_,.inl ⟨hl,k,ys,a1,a5,a3.nodup_iff.mpr List.nodup_range,gG1 (by omega)⟩,rfl⟩
   exact List.mem_range.mp (a3.mem_iff.mp (List.getElem_mem _))
  ·rw [if_neg hl]
   have hl':=lex_not (Bool.eq_false_iff.mpr hl) (hw.ne r d goal hat)
   obtain ⟨k,ys,a1,a2,a3,a5⟩:=look goal.1 goal.2 (r,d) (hw.back r d goal hat) hl'
   have hyl:ys.length=cp:=by rw [a3.length_eq];simp
   have hcp8:cp<=8:=by
    have:0<w.length:=by omega
    exact Nat.le_trans (Nat.le_mul_of_pos_left cp this) h8
   refine i0 _ _ ?_
   refine W_mMt ?_
   walk_at "own wq"
   refine W_getD (F:=F) s.dic (keyT_pD (e:=goal)) a1 ?_
   refine ⟨k,nmD ys,rfl,a2,?_⟩
   refine W_idxN a2 (by omega) (a3.mem_iff.mpr (List.mem_range.mpr hc)) fun j hj=>?_
   walk_at "own wq"
   exact ⟨j,by rw [<- hyl];exact (gE1.mp hj).1,.inr ⟨Bool.eq_false_iff.mpr hl,k,ys,a1,a5,a3.nodup_iff.mpr List.nodup_range,hj⟩,rfl⟩
 rintro r' S ⟨hSV,c',hc',hok,rfl⟩
 have hVS:=hSV.symm
 clear hSV
 subst hVS
 refine seqW (fun r' S=>∃ met',met <+: met'/\MI w cp met'/\(goal.1,c')∈met'/\(met'=met\/met'=met++[(goal.1,c')])/\BS h g n b U0 V0 F met' rooms S/\S[sp]? = some (.lst (some_.map pD))/\S.length=V.length/\r'=[some (.ref h),some (dW w),some (.int cp),some (.ref b),some (.ref (b+1)),some (.ref (b+2)),some (.int (r:Nat)),x7,some (.int (d:Nat)),some (pD goal),some (.int (c:Nat)),some (.ref sp),some (pD (goal.1,c'))]) ?_ ?_
 ·walk_at "own wq"
  refine W_notIn s.mt ?_
  walk_at "own wq"
  have hfew:=mi.few h8
  by_cases hin:(goal.1,c')∈met
  ·rw [if_neg (by simpa using hin)]
   exact ⟨met,List.prefix_rfl,mi,hin,.inl rfl,s,hs,trivial⟩
  ·rw [if_pos (by simpa using hin)]
   refine W_mMt ?_
   walk_at "own wq"
   refine ⟨b+1,met.map pD,rfl,s.mt,?_⟩
   refine (W_app s.mt).mpr ⟨fits_le (by rw [lM1];omega),?_⟩
   have e:met.map pD++[pD (goal.1,c')]=(met++[(goal.1,c')]).map pD:=by simp
   rw [e]
   have hb1:b+1<V.length:=(gE1.mp s.mt).1
   refine ⟨met++[(goal.1,c')],List.prefix_append _ _,⟨?_,fun x hx=>?_⟩,by simp,.inr rfl,s.set hb (.inr (.inl rfl)) h0 hb1 (by rw [Ob.und];exact pDs_und _) (by rw [List.getElem?_set_self hb1]) (by rw [gS1 (by omega)];exact s.rm),by rw [gS1 (by omega)];exact hs,by rw [List.length_set],trivial⟩
   ·rw [List.nodup_append]
    refine ⟨mi.nd,by simp,fun x hx y hy z=>?_⟩
    simp at hy
    rw [z,hy] at hx
    exact hin hx
   ·rcases List.mem_append.mp hx with z | z
    ·exact mi.inn x z
    ·simp at z;subst z;exact ⟨hg1,hc'⟩
 rintro r' S ⟨met',hpre,mi',hin,hor,s',hs',hl',rfl⟩
 have hfew':=mi'.few h8
 walk_at "own wq"
 refine W_mMt ?_
 walk_at "own wq"
 refine ⟨sp,some_.map pD,rfl,hs',?_⟩
 refine W_mMt ?_
 walk_at "own wq"
 refine ⟨b+1,met'.map pD,rfl,s'.mt,?_⟩
 refine W_idxM s'.mt (by omega) hin fun j hj=>?_
 refine i1 _ _ ?_
 walk_at "own wq"
 refine (W_app hs').mpr ⟨fits_le (by rw [lM1];omega),?_⟩
 have e:some_.map pD++[D.tup [D.int ↑j,D.int ↑goal.2]]=(some_++[(j,goal.2)]).map pD:=by simp [pD]
 rw [e]
 exact q met' (j,goal.2) _ _ hpre mi' (s'.set hb (.inl hsp) h0 (by omega) (by rw [Ob.und];exact pDs_und _) (by rw [gS1 (by omega)];exact s'.mt) (by rw [gS1 (by omega)];exact s'.rm)) (by rw [List.getElem?_set_self (by omega)]) rfl ⟨c',hj,hok⟩ (by rw [List.length_set];exact hl') (fun i h1 h2=>by
  rcases hor with z | z
  ·subst z;omega
  ·subst z
   rw [lA1,List.length_singleton] at h2
   have hi:i=met.length:=by omega
   subst hi
   exact nodup_get mi'.nd hj (by rw [List.getElem?_concat_length]))
structure WebO (w:Rows2):Prop where
 pos:0<w.length
 few:w.length<=8
 le:∀ row∈w,row.length<=4
 to:∀ row∈w,∀ e∈row,∃ r,w[e.1]? = some r/\e.2<r.length
 back:∀ r d p,At w r d p->At w p.1 p.2 (r,d)
 tie:∀ j:Nat,1<=j->j<w.length -> ∃ d p,At w j d p/\p.1<j
 ne:∀ r d p,At w r d p->p≠(r,d)
theorem WebG.o {m:Nat}{w:Rows2}(h:WebG m w)(h0:0<m)(h8:m<=8):WebO w:=by
 refine ⟨by rw [h.len];exact h0,by rw [h.len];exact h8,h.le,fun row hr e he=>?_,h.back,by rw [h.len];exact h.tie,h.ne⟩
 obtain ⟨r,hr'⟩:=List.getElem?_of_mem hr
 obtain ⟨d,hd⟩:=List.getElem?_of_mem he
 obtain ⟨row',h1,h2⟩:=h.back r d e ⟨row,hr',hd⟩
 exact ⟨row',h1,(gE1.mp h2).1⟩
noncomputable def RowOf (F:List (TK×D))(V0:Sto)(x:Nat×Nat)(met:List (Nat×Nat))(crow row:List (Nat×Nat)):Prop:=∀ (d:Nat) (e goal:Nat×Nat),crow[d]? = some e->row[d]? = some goal->e.2=goal.2 /\ ∃ c':Nat,met[e.1]? = some (goal.1,c')/\OK2 F V0 (x.1,d) goal x.2 c'
noncomputable def RF (F:List (TK×D))(V0:Sto)(w:Rows2)(met:List (Nat×Nat))(rooms:Rows2):Prop:=∀ (i:Nat) (crow:List (Nat×Nat)),rooms[i]? = some crow -> ∃ x row,met[i]? = some x/\w[x.1]? = some row/\crow.length=row.length/\RowOf F V0 x met crow row
noncomputable def TI (met:List (Nat×Nat))(rooms:Rows2):Prop:=∀ j:Nat,1<=j->j<met.length -> ∃ (k:Nat) (crow:List (Nat×Nat)) (e:Nat×Nat),k<j/\rooms[k]? = some crow/\e∈crow/\e.1=j
noncomputable def TI2 (met:List (Nat×Nat))(rooms:Rows2)(so:List (Nat×Nat)):Prop:=∀ j:Nat,1<=j->j<met.length->(∃ (k:Nat) (crow:List (Nat×Nat)) (e:Nat×Nat),k<j/\rooms[k]? = some crow/\e∈crow/\e.1=j)\/(rooms.length<j /\ ∃ e∈so,e.1=j)
theorem pre_get {α:Type}{a b:List α}{i:Nat}{x:α}(h:a <+: b)(e:a[i]? = some x):b[i]? = some x:=by
 obtain ⟨t,rfl⟩:=h
 rw [gL1 (gE1.mp e).1];exact e
theorem RowOf.mono {F:List (TK×D)}{V0:Sto}{x:Nat×Nat}{met met' crow row:List (Nat×Nat)}(h:RowOf F V0 x met crow row)(p:met <+: met'):RowOf F V0 x met' crow row:=fun d e goal h1 h2=>by
 obtain ⟨a,y,b1,b2⟩:=h d e goal h1 h2
 exact ⟨a,y,pre_get p b1,b2⟩
theorem RF.mono {F:List (TK×D)}{V0:Sto}{w:Rows2}{met met':List (Nat×Nat)}{rooms:Rows2}(h:RF F V0 w met rooms)(p:met <+: met'):RF F V0 w met' rooms:=fun i crow hi=>by
 obtain ⟨x,row,a1,a2,a3,a4⟩:=h i crow hi
 exact ⟨x,row,pre_get p a1,a2,a3,a4.mono p⟩
theorem dRs_und {n:Nat}(l:Rows2):D.unds n (l.map dR)=true:=Mi.unds_map fun _ _=>und_dR _ _
theorem cover_W {h g c m cp:Nat}{w:Rows2}{B U:Sto}{Q:D×Sto->Prop}(s:HS h g c B U)(hc:c<=2^42)(hw:WebG m w)(hm0:0<m)(hcp0:0<cp)(h8':m*cp<=8)
  (q:∀ cw k V,WebO cw->HS h g (c+400) B V->HS h g (c+400) U V->Q (.tup [dW cw,.ref k],V)):W (mCall 3 m__law_cover [.ref h,dW w,.int cp] U) Q:=by
 have hh:=s.hl
 have hg:=s.gl
 have hbl:=s.len
 have h8:w.length*cp<=8:=by rw [hw.len];exact h8'
 have hcp8:cp<=8:=Nat.le_trans (Nat.le_mul_of_pos_left cp hm0) h8'
 have hw8:w.length<=8:=Nat.le_trans (Nat.le_mul_of_pos_right w.length hcp0) h8
 refine callW rfl (by simp [D.unds,D.und]) ?_
 have s0:HS h g c U U:=HS.self s.hand s.shut
 unfold m__law_cover
 refine fnW ?_
 unfold b__law_cover
 generalize hbU:U.length=b
 refine seqW (fun r S=>S=U++[.dct [],.lst [pD (0,0)],.lst []]/\r=[some (.ref h),some (dW w),some (.int cp),some (.ref b),some (.ref (b+1)),some (.ref (b+2)),none,none,none,none,none,none,none]) ?_ ?_
 ·((try walk_at "own wq");repeat (simp only [mDnew];try walk_at "own wq"))
  simp [hbU,pD]
 rintro r S ⟨rfl,rfl⟩
 generalize hVi:U++[Ob.dct [],.lst [pD (0,0)],.lst []]=Vi
 have sVi:HS h g c U Vi:=by
  rw [<- hVi]
  refine s0.app fun o ho=>?_
  simp at ho
  rcases ho with rfl | rfl | rfl<;>rfl
 have vl:Vi.length=b+3:=by rw [<- hVi];simp [hbU]
 have v0:Vi[b]? = some (dO []):=by rw [<- hVi,<- hbU,get_app0];rfl
 have v1:Vi[b+1]? = some (.lst [pD (0,0)]):=by rw [<- hVi,<- hbU,get_app];rfl
 have v2:Vi[b+2]? = some (.lst []):=by rw [<- hVi,<- hbU,get_app];rfl
 refine seqW (fun r V0=>∃ F x6 x7 x8 x9,HS h g (c+300) U V0/\V0[b]? = some (dO F)/\Ords w cp b (fun _ _=>True) F V0/\(∀ (r' d' k:Nat),lookD F (tkP (r',d'))=some (.ref k)->b+3<=k)/\V0[b+1]? = some (.lst [pD (0,0)])/\V0[b+2]? = some (.lst [])/\b+3<=V0.length/\r=[some (.ref h),some (dW w),some (.int cp),some (.ref b),some (.ref (b+1)),some (.ref (b+2)),x6,x7,x8,x9,none,none,none]) ?_ ?_
 ·refine ords_W sVi hbU (by omega) hcp8 hw8 hw.le vl v0 fun F V' x6 x7 x8 x9 a1 a2 a3 a4 a5 a6=>?_
  refine ⟨rfl,F,_,_,_,_,a1,a2,a3,a4,?_,?_,by rw [vl] at a6;exact a6,rfl⟩
  ·rw [a5 (b+1) (by omega) (by omega) (by omega) (by omega)];exact v1
  ·rw [a5 (b+2) (by omega) (by omega) (by omega) (by omega)];exact v2
 rintro r V0 ⟨F,x6,x7,x8,x9,sV0,hd0,o0,hkb,m0,r0,hl0,rfl⟩
 have bs0:BS h g (c+300) b U V0 F [(0,0)] [] V0:=⟨sV0,hd0,fun _ _ _=>rfl,nR1 _,m0,r0⟩
 have mi0:MI w cp [(0,0)]:=⟨by simp,fun x hx=>by simp at hx;subst hx;exact ⟨by rw [hw.len];exact hm0,hcp0⟩⟩
 refine seqW (fun r V=>∃ met rooms x6 x7 x8 x9 x10 x11 x12,BS h g (c+300) b U V0 F met rooms V/\MI w cp met/\RF F V0 w met rooms/\TI met rooms/\rooms.length=met.length/\0<met.length/\r=[some (.ref h),some (dW w),some (.int cp),some (.ref b),some (.ref (b+1)),some (.ref (b+2)),x6,x7,x8,x9,x10,x11,x12]) ?_ ?_
 ·refine whl_W (fun k r V=>∃ met rooms x6 x7 x8 x9 x10 x11 x12,BS h g (c+300) b U V0 F met rooms V/\MI w cp met/\RF F V0 w met rooms/\TI met rooms/\rooms.length=k/\k<=met.length/\0<met.length/\r=[some (.ref h),some (dW w),some (.int cp),some (.ref b),some (.ref (b+1)),some (.ref (b+2)),x6,x7,x8,x9,x10,x11,x12]) 8 ?_ 100000 0 _ _ (by omega) ⟨[(0,0)],[],_,_,_,_,_,_,_,bs0,mi0,fun i crow hi=>by simp at hi,fun j h1 h2=>by simp at h2;omega,rfl,by omega,by simp,rfl⟩
  rintro k r V ⟨met,rooms,y6,y7,y8,y9,y10,y11,y12,bs,mi,rf,ti,hk,hkm,hmp,rfl⟩
  have hfew:=mi.few h8
  unfold p__law_cover_4
  walk_at "own wq"
  refine sW_ref bs.rm ?_
  refine sW_ref bs.mt ?_
  walk_at "own wq"
  rw [lM1,lM1,hk]
  by_cases hlt:k<met.length
  ·rw [if_pos (by rw [decide_eq_true_eq];omega)]
   refine ⟨by omega,?_⟩
   obtain ⟨x,hx⟩:∃ x,met[k]? = some x:=⟨_,gG1 hlt⟩
   have hxi:=mi.inn x (gM1 hx)
   obtain ⟨row,hrow⟩:∃ row,w[x.1]? = some row:=⟨_,gG1 hxi.1⟩
   have hr4:=hw.le row (gM1 hrow)
   unfold p__law_cover_5
   refine seqW (fun r S=>S=V/\r=[some (.ref h),some (dW w),some (.int cp),some (.ref b),some (.ref (b+1)),some (.ref (b+2)),some (.int (x.1:Nat)),y7,y8,y9,some (.int (x.2:Nat)),y11,y12]) ?_ ?_
   ·walk_at "own wq"
    refine sW_ref bs.rm ?_
    walk_at "own wq"
    rw [lM1,hk]
    refine W_ixL (i:=k) (xs:=met.map pD) (x:=pD x) bs.mt (by rw [gP1,hx];rfl) ?_
    rw [pD]
    walk_at "own wq"
   rintro r S ⟨hS,rfl⟩
   have hS':=hS.symm
   clear hS
   subst hS'
   refine seqW (fun r S=>S=V++[.lst []]/\r=[some (.ref h),some (dW w),some (.int cp),some (.ref b),some (.ref (b+1)),some (.ref (b+2)),some (.int (x.1:Nat)),y7,y8,y9,some (.int (x.2:Nat)),some (.ref V.length),y12]) ?_ ?_
   ·walk_at "own wq"
   rintro r S ⟨rfl,rfl⟩
   have bl:=bs.len
   have bs1:BS h g (c+300) b U V0 F met rooms (V++[.lst []]):=by
    refine ⟨bs.hs.app fun o ho=>by simp at ho;subst ho;rfl,?_,fun i h1 h2=>?_,by rw [lA1];omega,?_,?_⟩
    ·rw [gL1 (gE1.mp bs.dic).1];exact bs.dic
    ·rw [gL1 (by omega)];exact bs.same i h1 h2
    ·rw [gL1 (gE1.mp bs.mt).1];exact bs.mt
    ·rw [gL1 (gE1.mp bs.rm).1];exact bs.rm
   refine seqW (fun r S=>∃ met' some_ z8 z9 z12,met <+: met'/\MI w cp met'/\BS h g (c+300) b U V0 F met' rooms S/\S[V.length]? = some (.lst (some_.map pD))/\some_.length=row.length/\RowOf F V0 x met' some_ row/\TI2 met' rooms some_/\r=[some (.ref h),some (dW w),some (.int cp),some (.ref b),some (.ref (b+1)),some (.ref (b+2)),some (.int (x.1:Nat)),y7,z8,z9,some (.int (x.2:Nat)),some (.ref V.length),z12]) ?_ ?_
   ·unfold mFor
    rw [W_bind]
    refine W_iEn (d:=dR row) (S1:=V++[.lst []]) ?_ ?_
    ·simp only [mCons,mNil,m2,b2,mV,gC1,List.getElem?_cons_zero,oS1,ix_row hrow]
    refine sW_tup.mpr ?_
    refine loopM_W (fun j r S=>∃ met' some_ z8 z9 z12,j<=row.length/\met <+: met'/\MI w cp met'/\BS h g (c+300) b U V0 F met' rooms S/\S[V.length]? = some (.lst (some_.map pD))/\some_.length=j/\RowOf F V0 x met' some_ row/\TI2 met' rooms some_/\r=[some (.ref h),some (dW w),some (.int cp),some (.ref b),some (.ref (b+1)),some (.ref (b+2)),some (.int (x.1:Nat)),y7,z8,z9,some (.int (x.2:Nat)),some (.ref V.length),z12]) _ 0 _ _ ⟨met,[],_,_,_,by omega,List.prefix_rfl,mi,bs1,by rw [get_app0];rfl,rfl,fun d e goal h1=>by simp at h1,fun j h1 h2=>.inl (ti j h1 h2),rfl⟩ (fun _ _ _ _=>rfl) ?_ ?_
    ·rintro j dd hdd r S ⟨met',some_,z8,z9,z12,hj,hpre,mi',bs',hs',hsl,ro,ti',rfl⟩
     dsimp only at hdd
     rw [enD_get,gP1] at hdd
     obtain ⟨z,hz,rfl⟩:=oM1.mp hdd
     obtain ⟨goal,hgoal,rfl⟩:=oM1.mp hz
     have hjlt:=(gE1.mp hgoal).1
     rw [Nat.zero_add] at *
     ((try walk_at "own wq");repeat (simp only [dP_pD];try walk_at "own wq"))
     refine door_W hw h8 hbU hl0 o0 hkb bs' mi' (by omega) hs' (by omega) hxi.2 ⟨row,hrow,hgoal⟩ fun met2 e V2 x12' c1 c2 c3 c4 c5 c6 c7 c8=>?_
     refine ⟨rfl,met2,some_++[e],_,_,_,by omega,hpre.trans c1,c2,c3,c4,by simp [hsl],fun d e' goal' h1 h2=>?_,fun i h1 h2=>?_,rfl⟩
     rotate_left
     ·by_cases hi:i<met'.length
      ·rcases ti' i h1 hi with z | ⟨z1,f,z2,z3⟩
       ·exact .inl z
       ·exact .inr ⟨z1,f,List.mem_append_left _ z2,z3⟩
      ·have:=hpre.length_le
       exact .inr ⟨by omega,e,by simp,c8 i (by omega) h2⟩
     by_cases hd:d<some_.length
     ·rw [gL1 hd] at h1
      exact (ro.mono c1) d e' goal' h1 h2
     ·have hd2:d=some_.length:=by have:=(gE1.mp h1).1;simp at this;omega
      subst hd2
      rw [List.getElem?_concat_length] at h1
      cases h1
      rw [hsl,hgoal] at h2
      cases h2
      exact ⟨c5,by rw [hsl];exact c6⟩
    ·rintro r S ⟨met',some_,z8,z9,z12,hj,hpre,mi',bs',hs',hsl,ro,ti',rfl⟩
     rw [enD_len,lM1,Nat.zero_add] at hsl
     exact ⟨rfl,met',some_,_,_,_,hpre,mi',bs',hs',hsl,ro,ti',rfl⟩
   rintro r S ⟨met',some_,z8,z9,z12,hpre,mi',bs',hs',hsl,ro,ti',rfl⟩
   have hfew':=mi'.few h8
   walk_at "own wq"
   refine W_mMt ?_
   walk_at "own wq"
   refine ⟨b+2,rooms.map dR,rfl,bs'.rm,?_⟩
   refine sW_ref hs' ?_
   refine (W_app bs'.rm).mpr ⟨fits_le (by rw [lM1];omega),?_⟩
   have e:rooms.map dR++[D.tup (some_.map pD)]=(rooms++[some_]).map dR:=by rw [List.map_append];rfl
   rw [e]
   have hb2:b+2<S.length:=(gE1.mp bs'.rm).1
   refine ⟨met',rooms++[some_],_,_,_,_,_,_,_,bs'.set hbU (.inr (.inr rfl)) hl0 hb2 (by rw [Ob.und];exact dRs_und _) (by rw [gS1 (by omega)];exact bs'.mt) (by rw [List.getElem?_set_self hb2]),mi',fun i crow hi=>?_,fun j h1 h2=>?_,by simp [hk],?_,?_,rfl⟩
   ·by_cases hik:i<rooms.length
    ·rw [gL1 hik] at hi
     exact (rf.mono hpre) i crow hi
    ·have hi2:i=rooms.length:=by have:=(gE1.mp hi).1;simp at this;omega
     subst hi2
     rw [List.getElem?_concat_length] at hi
     cases hi
     exact ⟨x,row,by rw [hk];exact pre_get hpre hx,hrow,hsl,ro⟩
   ·rcases ti' j h1 h2 with ⟨k1,cr,f,z1,z2,z3,z4⟩ | ⟨z1,f,z2,z3⟩
    ·exact ⟨k1,cr,f,z1,by rw [gL1 (gE1.mp z2).1];exact z2,z3,z4⟩
    ·exact ⟨rooms.length,some_,f,z1,by rw [List.getElem?_concat_length],z2,z3⟩
   ·have:=hpre.length_le;omega
   ·have:=hpre.length_le;omega
  ·rw [if_neg (by rw [decide_eq_true_eq];omega)]
   exact ⟨met,rooms,_,_,_,_,_,_,_,bs,mi,rf,ti,by omega,hmp,rfl⟩
 rintro r V ⟨met,rooms,y6,y7,y8,y9,y10,y11,y12,bs,mi,rf,ti,hrl,hmp,rfl⟩
 have hfew:=mi.few h8
 have hback:∀ r d p,At rooms r d p->At rooms p.1 p.2 (r,d):=by
  rintro i d e ⟨crow,hi,hd⟩
  obtain ⟨x,row',a1,a2,a3,a4⟩:=rf i crow hi
  obtain ⟨goal,hgoal⟩:∃ goal,row'[d]? = some goal:=⟨_,gG1 (by rw [<- a3];exact (gE1.mp hd).1)⟩
  obtain ⟨b1,y,b2,b3⟩:=a4 d e goal hd hgoal
  obtain ⟨crow2,hc2⟩:∃ cr,rooms[e.1]? = some cr:=⟨_,gG1 (by rw [hrl];exact (gE1.mp b2).1)⟩
  obtain ⟨x2,row2,d1,d2,d3,d4⟩:=rf e.1 crow2 hc2
  rw [b2] at d1
  cases d1
  obtain ⟨row3,e1,e2⟩:=hw.back x.1 d goal ⟨row',a2,hgoal⟩
  dsimp only at d2
  rw [e1] at d2
  cases d2
  obtain ⟨f,hf⟩:∃ f,crow2[goal.2]? = some f:=⟨_,gG1 (by rw [d3];exact (gE1.mp e2).1)⟩
  obtain ⟨g1,c2,g2,g3⟩:=d4 goal.2 f (x.1,d) hf e2
  dsimp only at g1 g2 g3
  have hcc:=b3.back (hw.ne x.1 d goal ⟨row',a2,hgoal⟩) g3
  subst hcc
  have l1:=(gE1.mp g2).1
  have hfi:f.1=i:=(List.getElem?_inj l1 mi.nd).mp (g2.trans a1.symm)
  refine ⟨crow2,hc2,?_⟩
  rw [b1,hf]
  obtain ⟨f1,f2⟩:=f
  dsimp only at g1 hfi
  rw [g1,hfi]
 have wo:WebO rooms:=by
  refine ⟨by omega,by omega,fun row hr=>?_,fun crow hr e he=>?_,hback,fun j h1 h2=>?_,?_⟩
  ·obtain ⟨i,hi⟩:=List.getElem?_of_mem hr
   obtain ⟨x,row',a1,a2,a3,a4⟩:=rf i row hi
   rw [a3];exact hw.le row' (gM1 a2)
  ·obtain ⟨i,hi⟩:=List.getElem?_of_mem hr
   obtain ⟨d,hd⟩:=List.getElem?_of_mem he
   obtain ⟨x,row',a1,a2,a3,a4⟩:=rf i crow hi
   obtain ⟨goal,hgoal⟩:∃ goal,row'[d]? = some goal:=⟨_,gG1 (by rw [<- a3];exact (gE1.mp hd).1)⟩
   obtain ⟨b1,y,b2,b3⟩:=a4 d e goal hd hgoal
   obtain ⟨crow2,hc2⟩:∃ cr,rooms[e.1]? = some cr:=⟨_,gG1 (by rw [hrl];exact (gE1.mp b2).1)⟩
   obtain ⟨x2,row2,d1,d2,d3,d4⟩:=rf e.1 crow2 hc2
   rw [b2] at d1
   cases d1
   obtain ⟨row3,e1,e2⟩:=hw.back x.1 d goal ⟨row',a2,hgoal⟩
   dsimp only at d2
   rw [e1] at d2
   cases d2
   exact ⟨crow2,hc2,by rw [b1,d3];exact (gE1.mp e2).1⟩
  ·obtain ⟨k,crow,e,z1,z2,z3,z4⟩:=ti j h1 (by omega)
   obtain ⟨d,hd⟩:=List.getElem?_of_mem z3
   have:=hback k d e ⟨crow,z2,hd⟩
   rw [z4] at this
   exact ⟨e.2,(k,d),this,z1⟩
  ·rintro i d p ⟨crow,hi,hd⟩ rfl
   obtain ⟨x,row',a1,a2,a3,a4⟩:=rf i crow hi
   obtain ⟨goal,hgoal⟩:∃ goal,row'[d]? = some goal:=⟨_,gG1 (by rw [<- a3];exact (gE1.mp hd).1)⟩
   obtain ⟨b1,y,b2,b3⟩:=a4 d (i,d) goal hd hgoal
   dsimp only at b1 b2
   rw [a1] at b2
   cases b2
   exact hw.ne goal.1 d goal ⟨row',a2,hgoal⟩ (by rw [b1])
 walk_at "own wq"
 refine sW_ref bs.rm ?_
 refine sW_ref bs.mt ?_
 refine mapW (fun x:Nat×Nat=>.int x.1) (fun r=>∃ x y,r=[x,y]) (okC_one bs.mt) met _ ⟨_,_,rfl⟩ ?_ ?_
 ·rintro x hx r ⟨a,b',rfl⟩
  rw [pD]
  walk_at "own wq"
  exact ⟨_,_,rfl⟩
 ·rintro r' _
  walk_at "own wq"
  refine ⟨fits_le (by rw [lM1];omega),?_⟩
  have sf:HS h g (c+400) U (V++[.lst (met.map fun x:Nat×Nat=>D.int x.1)]):=(bs.hs.app fun o ho=>by simp at ho;subst ho;rw [Ob.und];exact Mi.unds_map fun _ _=>rfl).more (by omega)
  have hVl:=bs.hs.len
  have hgc:∀ d S,d=D.tup [dW rooms,D.ref V.length]->gc b (d,S)=(d,S):=fun d S e=>by
   unfold gc
   rw [if_neg]
   subst e
   simp [D.und,D.unds]
   intro _ z;omega
  have:=q rooms V.length _ wo (s.trans sf) sf
  rw [hgc]
  ·exact this
  ·rfl
theorem len_dW {w:Rows2}{S:Sto}:gLen (dW w) S=some (.int w.length,S):=by simp [dW,gLen,seqOf]
theorem web_W {h g c:Nat}{B U:Sto}{Q:D×Sto->Prop}(s:HS h g c B U)(hc:c<=2^39)
  (q:∀ w U',WebO w->HS h g (c+1000) B U'->HS h g (c+1000) U U'->U'.length=U.length->Q (dW w,U')):W (mCall 1 m__law_web [.ref h] U) Q:=by
 refine callB (c':=c+1000) rfl rfl s ?_
 have s0:HS h g c U U:=HS.self s.hand s.shut
 unfold m__law_web
 refine fnW ?_
 unfold b__law_web
 walk_at "own wq"
 refine take_W s0 (by omega) (by omega) (by omega) fun k U1 s1 _ l1 hk=>?_
 walk_at "own wq"
 split
 ·refine take_W s1 (by omega) (by omega) (by omega) fun m U2 s2 _ l2 hm=>?_
  walk_at "own wq"
  rw [show ((1:Int)+(m:Int))=((m+1:Nat):Int) by omega]
  refine round_W (by omega) (by omega) ?_
  exact ⟨s2.more (by omega),und_dW 0 _,fun U' a b l=>q _ U' ((round_ok (by omega) (by omega)).o (by omega) (by omega)) a b l⟩
 ·split
  ·refine drawn_W (most:=4) s1 (by omega) (by omega) (by omega) fun m w U2 hm0 hm hw s2 s2' l2=>?_
   ((try walk_at "own wq");repeat (simp only [len_dW];try walk_at "own wq"))
   have hdiv:gDiv (D.int 8) (D.int w.length) U2=some (.int ((8/w.length:Nat):Int),U2):=by
    have hl:=hw.len
    simp only [gDiv]
    rw [if_pos ⟨by omega,by omega⟩]
    simp
   ((try walk_at "own wq");repeat (simp only [hdiv];try walk_at "own wq"))
   have hd:0<8/w.length:=by rw [hw.len];exact Nat.div_pos (by omega) hm0
   have hd8:8/w.length<=8:=Nat.div_le_self _ _
   refine take_W s2 (by omega) (by omega) (by omega) fun cp U3 s3 s3' l3 hcp=>?_
   walk_at "own wq"
   rw [show ((1:Int)+(cp:Int))=((cp+1:Nat):Int) by omega]
   have hmul:m*(cp+1)<=8:=by
    have h1:cp+1<=8/m:=by rw [hw.len] at hcp;omega
    exact Nat.le_trans (Nat.mul_le_mul_left m h1) (Nat.mul_div_le 8 m)
   refine cover_W s3 (by omega) hw hm0 (by omega) hmul fun cw k' V wo a b=>?_
   refine W_ixT (i:=0) rfl ?_
   exact ⟨a.more (by omega),und_dW 0 _,fun U' a b l=>q _ U' wo a b l⟩
  ·refine drawn_W (most:=8) s1 (by omega) (by omega) (by omega) fun m w U2 hm0 hm hw s2 s2' l2=>?_
   exact ⟨s2.more (by omega),und_dW 0 _,fun U' a b l=>q _ U' (hw.o hm0 hm) a b l⟩
theorem modW {x y:Int}{S:Sto}{Q:D×Sto->Prop}(h:0<y)(q:Q (.int (x%y),S)):W (gMod (.int x) (.int y) S) Q:=by
 refine W.of ?_ q
 simp only [gMod,if_pos h]
theorem mulW {x y:Int}{S:Sto}{Q:D×Sto->Prop}(h:mulFits x y=true)(q:Q (.int (x*y),S)):W (gMul (.int x) (.int y) S) Q:=by
 refine W.of ?_ q
 simp only [gMul,if_pos h]
theorem powW {x y:Nat}{S:Sto}{Q:D×Sto->Prop}(h:y<=1000)(hx:x<=100)(q:Q (.int ((x:Int)^y),S)):W (gPow (.int x) (.int y) S) Q:=by
 refine W.of ?_ q
 simp only [gPow]
 rw [if_pos ⟨by omega,by omega,by omega⟩,Int.toNat_natCast]
theorem absW {x:Int}{S:Sto}{Q:D×Sto->Prop}(q:∀ y:Int,0<=y->Q (.int y,S)):W (gAbs (.int x) S) Q:=by
 refine W.of (x:=(.int (if x<0 then-x else x),S)) rfl (q _ ?_)
 split<;>omega
theorem hand_W (ns:List Int)(hl:ns.length<=63):W (m__law_hand [.rol (ns.map D.int)] []) fun p=>p.1 = .ref 2 /\ ∃ (own:List Int) (seed:Int),p.2=[.lst (own.map D.int),.lst (ns.map D.int),hd 0 seed 0]/\(∀ x∈own,0<=x)/\own.length<=63:=by
 unfold m__law_hand
 refine fnW ?_
 unfold b__law_hand
 generalize hN:D.rol (ns.map D.int)=N
 have hlen:gLen N []=some (.int ns.length,[]):=by rw [<- hN];simp [gLen,seqOf]
 refine seqW (fun r S=>∃ seed,S=[.lst (([]:List Int).map D.int)]/\r=[some N,some (.int seed),some (.ref 0),none,none]) ?_ ?_
 ·((try walk_at "own wq");repeat (simp only [hlen];try walk_at "own wq"))
  exact ⟨_,rfl⟩
 rintro r S ⟨seed,rfl,rfl⟩
 refine seqW (fun r S=>∃ (own:List Int) (seed:Int) (x3 x4:Option D),S=[.lst (own.map D.int),.lst (ns.map D.int)]/\r=[some N,some (.int seed),some (.ref 0),x3,x4]/\(∀ x∈own,0<=x)/\own.length<=63) ?_ ?_
 ·unfold mFor
  rw [W_bind]
  have hsl:mCons (mSlX (mV 0) oNone (oSome (mC (D.int 63)))) mNil [some N,some (.int seed),some (.ref 0),none,none] [Ob.lst (([]:List Int).map D.int)]=some ([.ref 1],[.lst (([]:List Int).map D.int),.lst (ns.map D.int)]):=by
   have hc:Mi.cutD (ns.map D.int) none (some 63)=ns.map D.int:=cut_whole ⟨rfl,by
    have:=HT.sIx_nat (ns.map D.int).length (ns.map D.int).length 63
    rw [show (some (63:Int))=some ((63:Nat):Int) from rfl,this,lM1]
    omega⟩
   rw [<- hN]
   simp [mCons,mSlX,mV,oNone,oSome,mC,sliceX,seqOf,hc,mNil]
  refine W_iEn hsl ?_
  refine sW_ref (xs:=ns.map D.int) rfl ?_
  refine loopM_W (fun i r S=>∃ (own:List Int) (seed:Int) (x3 x4:Option D),i<=ns.length/\S=[.lst (own.map D.int),.lst (ns.map D.int)]/\r=[some N,some (.int seed),some (.ref 0),x3,x4]/\(∀ x∈own,0<=x)/\own.length<=i) _ 0 _ _ ⟨[],seed,none,none,by omega,rfl,rfl,by simp,by simp⟩ ?_ ?_ ?_
  ·rintro i r S ⟨own,_,_,_,_,rfl,_⟩
   exact okC_one rfl
  ·rintro i dd hdd r S ⟨own,seed,x3,x4,hi,rfl,rfl,hown,hol⟩
   dsimp only at hdd
   rw [enD_get,gP1] at hdd
   obtain ⟨z,hz,rfl⟩:=oM1.mp hdd
   obtain ⟨cell,hcell,rfl⟩:=oM1.mp hz
   have hlt:=(gE1.mp hcell).1
   rw [Nat.zero_add] at *
   walk_at "own wq"
   unfold p__law_hand_1
   refine seqW (fun r S=>∃ seed,S=[.lst (own.map D.int),.lst (ns.map D.int)]/\r=[some N,some (.int seed),some (.ref 0),some (.int (i:Nat)),some (.int cell)]) ?_ ?_
   ·walk_at "own wq"
    refine mulW (mulF2 (by decide) (by decide)) ?_
    refine powW (x:=10) (y:=30) (by decide) (by decide) ?_
    refine modW (by exact Int.pow_pos (by decide)) ?_
    walk_at "own wq"
    refine mulW (mulF1 (by decide) (by decide)) ?_
    walk_at "own wq"
    refine modW (by decide) ?_
    exact ⟨_,rfl,rfl⟩
   rintro r S ⟨seed,rfl,rfl⟩
   walk_at "own wq"
   refine absW fun ab hab=>?_
   refine powW (x:=10) (y:=18) (by decide) (by decide) ?_
   walk_at "own wq"
   split
   ·refine W_mMt ?_
    walk_at "own wq"
    refine ⟨0,own.map D.int,rfl,rfl,?_⟩
    refine absW fun ab2 hab2=>?_
    refine powW (x:=10) (y:=60) (by decide) (by decide) ?_
    refine powW (x:=10) (y:=30) (by decide) (by decide) ?_
    refine mulW (show mulFits (10^60) (10^30)=true by decide+kernel) ?_
    refine modW (by exact Int.mul_pos (Int.pow_pos (by decide)) (Int.pow_pos (by decide))) ?_
    walk_at "own wq"
    refine (W_app (xs:=own.map D.int) rfl).mpr ⟨fits_le (by rw [lM1];omega),?_⟩
    refine ⟨own++[_],_,_,_,by omega,by rw [List.map_append];rfl,rfl,fun x hx=>?_,by simp;omega⟩
    rcases List.mem_append.mp hx with z | z
    ·exact hown x z
    ·simp only [List.mem_singleton] at z
     rw [z]
     exact Int.emod_nonneg _ (Int.ne_of_gt (Int.mul_pos (Int.pow_pos (by decide)) (Int.pow_pos (by decide))))
   ·exact ⟨own,_,_,_,by omega,rfl,rfl,hown,by omega⟩
  ·rintro r S ⟨own,seed,x3,x4,hi,rfl,rfl,hown,hol⟩
   rw [enD_len,lM1,Nat.zero_add] at hol
   exact ⟨rfl,own,_,_,_,rfl,rfl,hown,by omega⟩
 rintro r S ⟨own,seed,x3,x4,rfl,rfl,hown,hol⟩
 walk_at "own wq"
 exact ⟨own,seed,rfl,hown,hol⟩
mutual
theorem sh_zero:∀ d:D,d.sh 0=d
 | .non=>rfl
 | .bl _=>rfl
 | .int _=>rfl
 | .str _=>rfl
 | .tup xs=>by rw [D.sh,shs_zero xs]
 | .rol xs=>by rw [D.sh,shs_zero xs]
 | .ref k=>by rw [D.sh,Nat.zero_add]
theorem shs_zero:∀ ds:List D,D.shs 0 ds=ds
 | []=>rfl
 | d::ds=>by rw [D.shs,sh_zero d,shs_zero ds]
end
theorem start_W (ns:List Int)(hl:ns.length<=63):W (mCall 1 m__law_hand [.rol (ns.map D.int)] []) fun p=>p.1 = .ref 2/\HS 2 0 0 p.2 p.2:=by
 obtain ⟨⟨d,S⟩,e,hd,own,seed,hS,hown,hol⟩:=hand_W ns hl
 dsimp only at hd hS
 subst hd;subst hS
 refine ⟨_,call_new (n:=1) e rfl (by rw [D.unds,D.und,unds_ints];rfl) (by simp [D.und]),?_⟩
 refine ⟨rfl,?_⟩
 have e2:([Ob.lst (own.map D.int),.lst (ns.map D.int),hd 0 seed 0].map (Ob.sh ([]:Sto).length))=[Ob.lst (own.map D.int),.lst (ns.map D.int),hd 0 seed 0]:=by
  simp [Ob.sh,hd,shs_zero]
 dsimp only
 rw [e2,List.nil_append]
 refine HS.self ⟨by decide,seed,0,own,rfl,rfl,hown,by omega,Int.le_refl _,Int.le_refl _⟩ ?_
 unfold Shut
 simp [Ob.und,unds_ints,hd,D.unds,D.und]
theorem W_slT {m:FE}{lo hi:FO}{r:Ev}{S:Sto}{xs:List D}{a b:Option Int}{Q:D×Sto->Prop}(hm:m r S=some (.tup xs,S))(hl:lo r S=some (a,S))(hh:hi r S=some (b,S))(q:Q (.tup (Mi.cutD xs a b),S)):W (mSlX m lo hi r S) Q:=by
 refine W.of ?_ q
 unfold mSlX
 rw [hm,oS1]
 dsimp only
 rw [hl,oS1]
 dsimp only
 rw [hh,oS1]
 simp only [sliceX,seq_tup,oP1,bF1,if_false]
theorem cutT (xs:List D)(k:Nat):Mi.cutD xs none (some (k:Int))=xs.take k:=by
 unfold Mi.cutD
 rw [HT.sIx_none,HT.sIx_nat,List.drop_zero,Nat.sub_zero]
 by_cases h:k<=xs.length
 ·rw [Nat.min_eq_left h]
 ·rw [Nat.min_eq_right (by omega),List.take_length,List.take_of_length_le (by omega)]
theorem cutU (xs:List D)(k:Nat):Mi.cutD xs (some (k:Int)) none=xs.drop k:=by
 unfold Mi.cutD
 rw [HT.sIx_none,HT.sIx_nat]
 by_cases h:k<=xs.length
 ·rw [Nat.min_eq_left h,List.take_of_length_le (by simp)]
 ·rw [Nat.min_eq_right (by omega),List.drop_length,List.drop_of_length_le (by omega)];simp
theorem loopM_WR {c:List (Nat×List D)}{g:FG}{b:FS}{Q:Fl×Ev×Sto->Prop}(I:Nat->Ev->Sto->Prop):∀ (items:List D) (k:Nat) (r:Ev) (S:Sto),I k r S ->
  (∀ i r S,I i r S->okC S c=true) ->
  (∀ i d,items[i]? = some d -> ∀ r S,I (k+i) r S->W (g d r S) fun p=>W (b p.1 p.2) fun q=>(q.1 = .nx/\I (k+i+1) q.2.1 q.2.2)\/(∃ v,q.1 = .rt v/\Q (.rt v,q.2))\/(q.1 = .bk/\Q (.nx,q.2))) ->
  (∀ r S,I (k+items.length) r S->Q (.nx,r,S))->W (loopM c g b items r S) Q:=by
 intro items
 induction items with
 | nil=>intro k r S hi hok _ hq;rw [loopM];dsimp only;rw [if_pos (hok _ _ _ hi),W_some];exact hq r S (by simpa using hi)
 | cons d ds ih=>
  intro k r S hi hok hs hq
  rw [loopM];dsimp only;rw [if_pos (hok _ _ _ hi),W_bind]
  obtain ⟨p,e1,⟨f,r1,S1⟩,e2,h⟩:=hs 0 d rfl r S (by simpa using hi)
  refine ⟨p,e1,?_⟩
  dsimp only;rw [W_bind]
  refine ⟨_,e2,?_⟩
  dsimp only at h ⊢
  rcases h with ⟨rfl,hI⟩ | ⟨v,rfl,hQ⟩ | ⟨rfl,hQ⟩
  ·exact ih (k+1) r1 S1 hI hok (fun i d hd r S hI=>by
    have:=hs (i+1) d hd r S (by rw [show k+(i+1)=k+1+i by lia];exact hI)
    rw [show k+(i+1)+1=k+1+i+1 by lia] at this
    exact this) fun r S hI=>hq r S (by rw [lC1,show k+(ds.length+1)=k+1+ds.length by lia];exact hI)
  ·exact W_some.mpr hQ
  ·exact W_some.mpr hQ
theorem seqWR {a b:FS}{r:Ev}{S:Sto}{Q:Fl×Ev×Sto->Prop}(h:W (a r S) fun p=>(p.1 = .nx/\W (b p.2.1 p.2.2) Q) \/ ∃ v,p.1 = .rt v/\Q (.rt v,p.2)):W (mSeq a b r S) Q:=by
 obtain ⟨⟨f,r1,S1⟩,e,h⟩:=h
 unfold mSeq
 rw [e]
 dsimp only at h
 rcases h with ⟨rfl,h⟩ | ⟨v,rfl,h⟩
 ·exact h
 ·exact W_some.mpr h
theorem flatW {α:Type}{c:List (Nat×List D)}{g:FG}{t:FT}{b:FV}{S:Sto}{f:α->D}{Q:List D×Ev×Sto->Prop}(F:α->List D)(P:Ev->Prop)(hok:okC S c=true):∀ (xs:List α) (r:Ev),P r ->
  (∀ a∈xs,∀ r,P r->W (g (f a) r S) fun p=>W (t p.1 p.2) fun k=>k.1=true/\W (b p.1 k.2) fun x=>x.1=F a/\x.2.2=S/\P x.2.1) ->
  (∀ r',P r'->Q (xs.flatMap F,r',S))->W (loopF c g t b (xs.map f) r S) Q
 | [],r,hr,_,h=>by rw [List.map_nil,loopF];dsimp only;rw [if_pos hok,W_some];exact h r hr
 | a::xs,r,hr,hs,h=>by
  rw [mP1,loopF];dsimp only;rw [if_pos hok,W_bind]
  obtain ⟨p,e1,⟨k,e2,hb,⟨x,e3,hx,hS,hp⟩⟩⟩:=hs a mS1 r hr
  refine ⟨p,e1,?_⟩
  dsimp only;rw [W_bind]
  refine ⟨k,e2,?_⟩
  dsimp only;rw [if_pos hb,W_bind]
  refine ⟨x,e3,?_⟩
  dsimp only
  rw [hS,W_map]
  refine flatW F P hok xs x.2.1 hp (fun a ha=>hs a (mC1 _ ha)) fun r' hr'=>?_
  have:=h r' hr'
  rw [List.flatMap_cons,<- hx] at this
  exact this
theorem W_fNest {m:FI}{g:FG}{t:FT}{b:FV}{r:Ev}{S:Sto}{Q:List D×Ev×Sto->Prop}:W (fNest m g t b r S) Q↔W (m r S) fun p=>W (loopF p.1.chk g t b p.1.items r p.2) Q:=by
 unfold fNest
 rw [W_bind]
theorem W_mCh {f g:FN}{a b c:FE}{r:Ev}{S:Sto}{Q:D×Sto->Prop}:W (mCh f g a b c r S) Q↔W (a r S) fun p=>W (b r p.2) fun q=>W (f [p.1,q.1] q.2) fun t=>W (match t.1 with | .bl k=>if k=true then (c r t.2).bind fun z=>g [q.1,z.1] z.2 else some (.bl false,t.2) | _=>none) Q:=by
 unfold mCh
 simp only [W_bind]
 try exact Iff.rfl
theorem sum_le {α:Type}{f:α->Nat}{k:Nat}:∀ {l:List α},(∀ x∈l,f x<=k)->(l.map f).sum<=k*l.length
 | [],_=>by simp
 | x::l,h=>by
  have h1:=h x mS1
  have h2:=sum_le (l:=l) fun y hy=>h y (mC1 _ hy)
  rw [mP1,List.sum_cons,lC1,Nat.mul_add]
  lia
open Classical in
noncomputable def tf (P:Prop):Bool:=decide P
theorem tf_e {P:Prop}:tf P=true↔P:=by unfold tf;exact @decide_eq_true_iff P (Classical.propDecidable P)
theorem tf_t {P:Prop}(h:P):tf P=true:=tf_e.mpr h
theorem tf_b {P:Prop}{b:Bool}(h:b=true↔P):b=tf P:=by rw [Bool.eq_iff_iff,tf_e];exact h
theorem tf_f {P:Prop}(h:¬ P):tf P=false:=(tf_b ⟨fun z=>(by cases z),fun z=>(h z).elim⟩).symm
theorem tf_i {P Q:Prop}(h:P↔Q):tf P=tf Q:=tf_b (tf_e.trans h)
noncomputable abbrev RZ:=List (List (Int×Int))
noncomputable def zP (p:Int×Int):D:=.tup [.int p.1,.int p.2]
noncomputable def zR (r:List (Int×Int)):D:=.tup (r.map zP)
noncomputable def zW (w:RZ):D:=.tup (w.map zR)
theorem und_zP (n:Nat)(p:Int×Int):(zP p).und n=true:=rfl
theorem und_zR (n:Nat)(r:List (Int×Int)):(zR r).und n=true:=by unfold zR;rw [D.und];exact Law.unds_map (und_zP n) r
theorem und_zW (n:Nat)(w:RZ):(zW w).und n=true:=by unfold zW;rw [D.und];exact Law.unds_map (und_zR n) w
noncomputable def up (p:Nat×Nat):Int×Int:=(p.1,p.2)
noncomputable def upW (w:Rows2):RZ:=w.map fun r=>r.map up
theorem up_inj {a b:Nat×Nat}(h:up a=up b):a=b:=by
 obtain ⟨a1,a2⟩:=a
 obtain ⟨b1,b2⟩:=b
 injection h with h1 h2
 exact Prod.ext (by dsimp only;lia) (by dsimp only;lia)
theorem dW_up (w:Rows2):zW (upW w)=dW w:=by
 unfold zW upW dW
 rw [List.map_map]
 refine congrArg D.tup (List.map_congr_left fun r _=>?_)
 show zR (r.map up)=dR r
 unfold zR dR
 rw [List.map_map]
 exact congrArg D.tup (List.map_congr_left fun p _=>rfl)
noncomputable def AtZ (w:RZ)(r d:Nat)(p:Int×Int):Prop:=∃ row,w[r]? = some row/\row[d]? = some p
theorem AtZ.det {w:RZ}{r d:Nat}{p q:Int×Int}(h:AtZ w r d p)(h':AtZ w r d q):p=q:=by
 obtain ⟨row,h1,h2⟩:=h
 obtain ⟨row',h3,h4⟩:=h'
 rw [h1] at h3;cases h3
 rw [h2] at h4;cases h4
 rfl
theorem at_up {w:Rows2}{r d:Nat}{p:Int×Int}:AtZ (upW w) r d p ↔ ∃ q,At w r d q/\p=up q:=by
 unfold AtZ At upW
 rw [gP1]
 constructor
 ·rintro ⟨row,h1,h2⟩
  obtain ⟨row',h3,rfl⟩:=oM1.mp h1
  rw [gP1] at h2
  obtain ⟨q,h4,rfl⟩:=oM1.mp h2
  exact ⟨q,⟨row',h3,h4⟩,rfl⟩
 ·rintro ⟨q,⟨row,h1,h2⟩,rfl⟩
  exact ⟨row.map up,by rw [h1];rfl,by rw [gP1,h2];rfl⟩
noncomputable def FormZ (w:RZ):Prop:=1<=w.length/\w.length<=8 /\ ∀ row∈w,row.length<=4
noncomputable def Par (w:RZ)(r d:Nat)(p:Int×Int):Prop:=p≠((r:Int),(d:Int))/\0<=p.1/\0<=p.2/\AtZ w p.1.toNat p.2.toNat ((r:Int),(d:Int))
noncomputable def PairZ (w:RZ):Prop:=∀ r d p,AtZ w r d p->Par w r d p
structure WP (w:Rows2):Prop where
 pos:0<w.length
 few:w.length<=8
 le:∀ (r:Nat) (row:List (Nat×Nat)),w[r]? = some row->row.length<=4
 back:∀ r d p,At w r d p->At w p.1 p.2 (r,d)
 ne:∀ r d p,At w r d p->p≠(r,d)
noncomputable def Con (w:Rows2):Prop:=∀ P:Nat->Prop,P 0->(∀ r d p,At w r d p->P r->P p.1) -> ∀ v,v<w.length->P v
theorem At.lt {w:Rows2}{r d:Nat}{p:Nat×Nat}(h:At w r d p):r<w.length:=by
 obtain ⟨row,h1,_⟩:=h
 exact (gE1.mp h1).1
theorem At.det {w:Rows2}{r d:Nat}{p q:Nat×Nat}(h:At w r d p)(h':At w r d q):p=q:=by
 obtain ⟨row,h1,h2⟩:=h
 obtain ⟨row',h3,h4⟩:=h'
 rw [h1] at h3;cases h3
 rw [h2] at h4;cases h4
 rfl
theorem wp_of {w:RZ}(hf:FormZ w)(hp:PairZ w):∃ w',w=upW w'/\WP w':=by
 let w':Rows2:=w.map fun r=>r.map fun p=>(p.1.toNat,p.2.toNat)
 have e:w=upW w':=by
  refine List.ext_getElem? fun r=>?_
  unfold upW
  rw [gP1,gP1]
  cases hr:w[r]? with
  | none=>rfl
  | some row=>
   show some row=some ((row.map fun p=>(p.1.toNat,p.2.toNat)).map up)
   refine congrArg some (List.ext_getElem? fun d=>?_)
   rw [gP1,gP1]
   cases hd:row[d]? with
   | none=>rfl
   | some p=>
    obtain ⟨_,h1,h2,_⟩:=hp r d p ⟨row,hr,hd⟩
    show some p=some (up (p.1.toNat,p.2.toNat))
    refine congrArg some (Prod.ext ?_ ?_)
    ·show p.1=((p.1.toNat:Nat):Int);lia
    ·show p.2=((p.2.toNat:Nat):Int);lia
 refine ⟨w',e,?_⟩
 generalize w'=v at e
 subst e
 have hl:(upW v).length=v.length:=by unfold upW;rw [lM1]
 have key:∀ r d p,At v r d p->p≠(r,d)/\At v p.1 p.2 (r,d):=fun r d p h=>by
  obtain ⟨h1,_,_,h2⟩:=hp r d (up p) (at_up.mpr ⟨p,h,rfl⟩)
  refine ⟨fun z=>h1 (by rw [z];rfl),?_⟩
  obtain ⟨q,h3,h4⟩:=at_up.mp h2
  have:q=(r,d):=up_inj (by rw [<- h4];rfl)
  rw [this] at h3
  have e1:(up p).1.toNat=p.1:=Int.toNat_natCast _
  have e2:(up p).2.toNat=p.2:=Int.toNat_natCast _
  rw [e1,e2] at h3
  exact h3
 obtain ⟨f1,f2,f3⟩:=hf
 rw [hl] at f1 f2
 refine ⟨by lia,f2,fun r row h=>?_,fun r d p h=>(key r d p h).2,fun r d p h=>(key r d p h).1⟩
 have:=f3 (row.map up) (by unfold upW;exact List.mem_map.mpr ⟨row,gM1 h,rfl⟩)
 rwa [lM1] at this
theorem WP.form {w:Rows2}(h:WP w):FormZ (upW w)/\PairZ (upW w):=by
 refine ⟨⟨?_,?_,fun row hr=>?_⟩,fun r d p hp=>?_⟩
 ·unfold upW;rw [lM1];exact h.pos
 ·unfold upW;rw [lM1];exact h.few
 ·obtain ⟨row',h1,rfl⟩:=List.mem_map.mp hr
  obtain ⟨i,hi⟩:=List.getElem?_of_mem h1
  rw [lM1]
  exact h.le i row' hi
 ·obtain ⟨q,h1,rfl⟩:=at_up.mp hp
  refine ⟨fun z=>h.ne r d q h1 (up_inj z),by unfold up;lia,by unfold up;lia,?_⟩
  rw [show (up q).1.toNat=q.1 from Int.toNat_natCast _,show (up q).2.toNat=q.2 from Int.toNat_natCast _]
  exact at_up.mpr ⟨_,h.back r d q h1,rfl⟩
theorem ixz_row {w:RZ}{r:Nat}{row:List (Int×Int)}{S:Sto}(h:w[r]? = some row):gIxY (zW w) (.int r) S=some (zR row,S):=ix_tup (by rw [gP1,h];rfl)
theorem ixz_door {row:List (Int×Int)}{i:Nat}{p:Int×Int}{S:Sto}(h:row[i]? = some p):gIxY (zR row) (.int i) S=some (zP p,S):=ix_tup (by rw [gP1,h];rfl)
theorem len_zR {row:List (Int×Int)}{S:Sto}:gLen (zR row) S=some (.int row.length,S):=by simp [zR,gLen,seqOf]
theorem len_zW {w:RZ}{S:Sto}:gLen (zW w) S=some (.int w.length,S):=by simp [zW,gLen,seqOf]
theorem eqN_zP {S:Sto}{n:Nat}{a b:Int×Int}:eqN S (n+2) (zP a) (zP b)=some (tf (a=b)):=by
 obtain ⟨a1,a2⟩:=a
 obtain ⟨b1,b2⟩:=b
 rw [eqN]
 have e1:∀ x y:Int,eqN S (n+1) (.int x) (.int y)=some (x == y):=fun x y=>rfl
 have e2:(a1 == b1&&a2 == b2)=tf ((a1,a2)=(b1,b2)):=tf_b (by rw [bA1,beq_iff_eq,beq_iff_eq,Prod.mk.injEq])
 rw [<- e2]
 simp [zP,seqOf,eqL,e1]
theorem gEq_zP {a b:Int×Int}{S:Sto}:gEq (zP a) (zP b) S=some (.bl (tf (a=b)),S):=by
 show (eqN S deepMost (zP a) (zP b)).map _=_
 rw [show deepMost=58+2 from rfl,eqN_zP]
 rfl
theorem allB_tf:∀ {l:List D},(∀ x∈l,∃ b,x=D.bl b)->Mi.allB l=some (tf (∀ x∈l,x=D.bl true))
 | [],_=>by rw [tf_t (fun x hx=>by cases hx)];rfl
 | x::l,h=>by
  obtain ⟨b,rfl⟩:=h x mS1
  rw [Mi.allB,allB_tf fun y hy=>h y (mC1 _ hy)]
  refine congrArg some (tf_b ?_)
  rw [bA1,tf_e,List.forall_mem_cons]
  refine and_congr ?_ Iff.rfl
  cases b<;>simp
theorem W_all {n:Nat}{xs:List D}{S:Sto}{Q:D×Sto->Prop}(h:S[n]? = some (.lst xs))(hx:∀ x∈xs,∃ b,x=D.bl b)(q:Q (.bl (tf (∀ x∈xs,x=D.bl true)),S)):W (gAll (.ref n) S) Q:=by
 refine W.of ?_ q
 unfold gAll
 rw [seq_ref h,oS1]
 dsimp only
 rw [allB_tf hx];rfl
theorem W_mIsT {T:Ty}{m:FE}{r:Ev}{S:Sto}{Q:D×Sto->Prop}:W (mIsT T m r S) Q↔W (m r S) fun p=>W (isTy p.2 T p.1) fun b=>Q (.bl b,p.2):=by
 unfold mIsT
 rw [W_bind]
 simp only [W_map]
theorem it_tup {S:Sto}{T:Ty}{xs:List D}:isTy S T (.tup xs)=some (decide (T = .tuple)):=rfl
theorem bl_inj {a:Bool}:D.bl a=D.bl true↔a=true:=⟨fun h=>(by injection h),fun h=>(by rw [h])⟩
theorem isroom_W {row:List (Int×Int)}{S:Sto}{Q:D×Sto->Prop}(q:Q (.bl (tf (row.length<=4)),S)):W (mCall 1 m_is_room [zR row] S) Q:=by
 refine callP rfl (by rw [D.unds,und_zR];rfl) ?_
 unfold m_is_room
 refine fnW ?_
 unfold b_is_room
 rw [show zR row = .tup (row.map zP) from rfl]
 by_cases hl:row.length<=4
 ·rw [tf_t hl] at q
  refine seqW (fun r V=>V=[]/\r=[some (.tup (row.map zP))]) ?_ ?_
  ·((try walk_at "own wq");repeat (simp only [W_mIsT,it_tup];try walk_at "own wq"))
   simp only [decide_true,Bool.not_true,d_MOST_DOORS]
   walk_at "own wq"
   rw [lM1,if_neg (by rw [decide_eq_true_eq];lia)]
   walk_at "own wq"
  rintro r V ⟨rfl,rfl⟩
  walk_at "own wq"
  refine sW_tup.mpr ?_
  refine mapW (f:=zP) (fun _=>D.bl true) (fun r'=>∃ x,r'=[x]) rfl row _ ⟨_,rfl⟩ ?_ ?_
  ·rintro e _ r' ⟨x,rfl⟩
   have h1:mCall 2 m_is_tuple_of [zP e,.int 2] []=some (.bl true,[]):=rfl
   have h2:∀ i:Int,mCall 1 m_is_whole [.int i] []=some (.bl true,[]):=fun i=>rfl
   have i0:gIxY (zP e) (.int 0) []=some (.int e.1,[]):=rfl
   have i1:gIxY (zP e) (.int 1) []=some (.int e.2,[]):=rfl
   ((try walk_at "own wq");repeat (simp only [h1,h2,i0,i1];try walk_at "own wq"))
   exact ⟨_,rfl⟩
  ·rintro r' _
   refine ⟨fits_le (by rw [lM1];lia),?_⟩
   walk_at "own wq"
   refine W_all rfl (fun x hx=>by obtain ⟨_,_,rfl⟩:=List.mem_map.mp hx;exact ⟨_,rfl⟩) ?_
   rw [tf_t fun x hx=>by obtain ⟨_,_,rfl⟩:=List.mem_map.mp hx;rfl]
   exact ⟨rfl,q⟩
 ·rw [tf_f hl] at q
  ((try walk_at "own wq");repeat (simp only [W_mIsT,it_tup];try walk_at "own wq"))
  simp only [decide_true,Bool.not_true,d_MOST_DOORS]
  walk_at "own wq"
  rw [lM1,if_pos (by rw [decide_eq_true_eq];lia)]
  exact ⟨rfl,q⟩
theorem form_W {w:RZ}{S:Sto}{Q:D×Sto->Prop}(q:Q (.bl (tf (FormZ w)),S)):W (mCall 1 m_has_form [zW w] S) Q:=by
 refine callP rfl (by rw [D.unds,und_zW];rfl) ?_
 unfold m_has_form
 refine fnW ?_
 unfold b_has_form
 rw [show zW w = .tup (w.map zR) from rfl]
 by_cases hp:1<=w.length
 rotate_left
 ·rw [tf_f fun h=>hp h.1] at q
  ((try walk_at "own wq");repeat (simp only [W_mIsT,it_tup,W_mCh];try walk_at "own wq"))
  simp only [decide_true,Bool.not_true,d_MOST_ROOMS]
  walk_at "own wq"
  rw [lM1,decide_eq_false (show ¬ (1:Int)<=(w.length:Int) by lia)]
  walk_at "own wq"
  exact ⟨rfl,q⟩
 by_cases hf:w.length<=8
 rotate_left
 ·rw [tf_f fun h=>hf h.2.1] at q
  ((try walk_at "own wq");repeat (simp only [W_mIsT,it_tup,W_mCh];try walk_at "own wq"))
  simp only [decide_true,Bool.not_true,d_MOST_ROOMS]
  walk_at "own wq"
  rw [lM1,decide_eq_true (show (1:Int)<=(w.length:Int) by lia)]
  walk_at "own wq"
  rw [decide_eq_false (show ¬ (w.length:Int)<=8 by lia)]
  walk_at "own wq"
  exact ⟨rfl,q⟩
 refine seqW (fun r V=>V=[]/\r=[some (.tup (w.map zR))]) ?_ ?_
 ·((try walk_at "own wq");repeat (simp only [W_mIsT,it_tup,W_mCh];try walk_at "own wq"))
  simp only [decide_true,Bool.not_true,d_MOST_ROOMS]
  walk_at "own wq"
  rw [lM1,decide_eq_true (show (1:Int)<=(w.length:Int) by lia)]
  walk_at "own wq"
  rw [decide_eq_true (show (w.length:Int)<=8 by lia)]
  walk_at "own wq"
 rintro r V ⟨rfl,rfl⟩
 walk_at "own wq"
 refine sW_tup.mpr ?_
 refine mapW (f:=zR) (fun row=>D.bl (tf (row.length<=4))) (fun r'=>∃ x,r'=[x]) rfl w _ ⟨_,rfl⟩ ?_ ?_
 ·rintro row hr r' ⟨x,rfl⟩
  walk_at "own wq"
  refine isroom_W ?_
  exact ⟨rfl,rfl,_,rfl⟩
 ·rintro r' _
  refine ⟨fits_le (by rw [lM1];lia),?_⟩
  walk_at "own wq"
  refine W_all rfl (fun x hx=>by obtain ⟨_,_,rfl⟩:=List.mem_map.mp hx;exact ⟨_,rfl⟩) ?_
  refine ⟨rfl,?_⟩
  have:tf (∀ x∈w.map fun row=>D.bl (tf (row.length<=4)),x=D.bl true)=tf (FormZ w):=tf_i (by
   rw [List.forall_mem_map]
   constructor
   ·exact fun h=>⟨hp,hf,fun row hr=>tf_e.mp (bl_inj.mp (h row hr))⟩
   ·exact fun h row hr=>bl_inj.mpr (tf_e.mpr (h.2.2 row hr)))
  rw [this]
  exact q
theorem pair_W {w:RZ}{r d:Nat}{p:Int×Int}{S:Sto}{Q:D×Sto->Prop}(h:AtZ w r d p)(q:Q (.bl (tf (Par w r d p)),S)):W (mCall 3 m_is_paired [zW w,.int r,.int d] S) Q:=by
 refine callP rfl (by rw [D.unds,und_zW,D.unds,D.unds,D.und,D.und];rfl) ?_
 unfold m_is_paired
 refine fnW ?_
 unfold b_is_paired
 obtain ⟨row,a1,a2⟩:=h
 refine seqW (fun r' V=>V=[]/\r'=[some (zW w),some (.int r),some (.int d),some (.int p.1),some (.int p.2)]) ?_ ?_
 ·((try walk_at "own wq");repeat (simp only [ixz_row a1,ixz_door a2];try walk_at "own wq"))
  unfold zP
  walk_at "own wq"
 rintro r' V ⟨rfl,rfl⟩
 have e1:gEq (.tup [.int p.1,.int p.2]) (.tup [.int r,.int d]) []=some (.bl (tf (p=((r:Int),(d:Int)))),[]):=gEq_zP (a:=p) (b:=((r:Int),(d:Int)))
 ((try walk_at "own wq");repeat (simp only [e1];try walk_at "own wq"))
 by_cases c1:p=((r:Int),(d:Int))
 ·rw [tf_f (fun h=>h.1 c1)] at q
  rw [tf_t c1]
  walk_at "own wq"
  exact ⟨rfl,q⟩
 rw [tf_f c1]
 ((try walk_at "own wq");repeat (simp only [mCh,len_zW];try walk_at "own wq"))
 by_cases c2:0<=p.1
 rotate_left
 ·rw [tf_f (fun h=>c2 h.2.1)] at q
  rw [decide_eq_false c2]
  walk_at "own wq"
  exact ⟨rfl,q⟩
 rw [decide_eq_true c2]
 ((try walk_at "own wq");repeat (simp only [len_zW];try walk_at "own wq"))
 by_cases c3:p.1<(w.length:Int)
 rotate_left
 ·rw [tf_f (fun h=>by
   obtain ⟨_,_,_,row2,b1,_⟩:=h
   have:=(gE1.mp b1).1
   lia)] at q
  rw [decide_eq_false c3]
  walk_at "own wq"
  exact ⟨rfl,q⟩
 rw [decide_eq_true c3]
 obtain ⟨k,hk⟩:=Int.eq_ofNat_of_zero_le c2
 have hkl:k<w.length:=by lia
 obtain ⟨row2,hrow2⟩:∃ row2,w[k]? = some row2:=⟨_,gG1 hkl⟩
 have ek:p.1.toNat=k:=by lia
 rw [hk]
 ((try walk_at "own wq");repeat (simp only [mCh];try walk_at "own wq"))
 by_cases c4:0<=p.2
 rotate_left
 ·rw [tf_f (fun h=>c4 h.2.2.1)] at q
  rw [decide_eq_false c4]
  walk_at "own wq"
  exact ⟨rfl,q⟩
 rw [decide_eq_true c4]
 have e0:gIxY (zW w) (.int (k:Int)) []=some (zR row2,[]):=ixz_row hrow2
 ((try walk_at "own wq");repeat (simp only [e0,len_zR];try walk_at "own wq"))
 by_cases c5:p.2<(row2.length:Int)
 rotate_left
 ·rw [tf_f (fun h=>by
   obtain ⟨_,_,_,row3,b1,b2⟩:=h
   rw [ek,hrow2] at b1;cases b1
   have:=(gE1.mp b2).1
   lia)] at q
  rw [decide_eq_false c5]
  walk_at "own wq"
  exact ⟨rfl,q⟩
 rw [decide_eq_true c5]
 obtain ⟨l,hl⟩:=Int.eq_ofNat_of_zero_le c4
 have hll:l<row2.length:=by lia
 obtain ⟨g,hg⟩:∃ g,row2[l]? = some g:=⟨_,gG1 hll⟩
 have el:p.2.toNat=l:=by lia
 rw [hl]
 have e2:gEq (zP g) (.tup [.int r,.int d]) []=some (.bl (tf (g=((r:Int),(d:Int)))),[]):=gEq_zP (a:=g) (b:=((r:Int),(d:Int)))
 have e3:gIxY (zR row2) (.int (l:Int)) []=some (zP g,[]):=ixz_door hg
 ((try walk_at "own wq");repeat (simp only [e0,e3,e2];try walk_at "own wq"))
 refine ⟨rfl,?_⟩
 have:tf (g=((r:Int),(d:Int)))=tf (Par w r d p):=tf_i (by
  constructor
  ·rintro rfl
   exact ⟨c1,c2,c4,by rw [ek,el];exact ⟨row2,hrow2,hg⟩⟩
  ·rintro ⟨_,_,_,h⟩
   rw [ek,el] at h
   exact (AtZ.det ⟨row2,hrow2,hg⟩ h))
 rw [this]
 exact q
noncomputable def rowZ (w:RZ)(r:Nat):List (Int×Int):=w[r]?.getD []
theorem leads_W {w:RZ}{S:Sto}{Q:D×Sto->Prop}(hf:FormZ w)(q:Q (.bl (tf (PairZ w)),S)):W (mCall 1 m_leads_back [zW w] S) Q:=by
 obtain ⟨f1,f2,f3⟩:=hf
 refine callP rfl (by rw [D.unds,und_zW];rfl) ?_
 unfold m_leads_back
 refine fnW ?_
 unfold b_leads_back
 ((try walk_at "own wq");repeat (simp only [len_zW];try walk_at "own wq"))
 rw [nums0,Int.toNat_natCast]
 refine ⟨bnd_nat (by lia),?_⟩
 refine flatW (f:=fun j:Nat=>D.int j) (fun r=>(List.range (rowZ w r).length).map fun d=>D.bl (tf (∀ p,AtZ w r d p->Par w r d p))) (fun r=>∃ x0 x1,r=[x0,x1,some (zW w)]) rfl (List.range w.length) _ ⟨_,_,rfl⟩ ?_ ?_
 ·rintro m hm r ⟨x0,x1,rfl⟩
  have hm:=List.mem_range.mp hm
  obtain ⟨row,hrow⟩:∃ row,w[m]? = some row:=⟨_,gG1 hm⟩
  have h4:=f3 row (gM1 hrow)
  have hro:rowZ w m=row:=by unfold rowZ;rw [hrow];rfl
  ((try walk_at "own wq");repeat (simp only [W_fNest,ixz_row hrow,len_zR];try walk_at "own wq"))
  rw [nums0,Int.toNat_natCast,hro]
  refine ⟨bnd_nat (by lia),?_⟩
  refine mapW (f:=fun j:Nat=>D.int j) (fun d=>D.bl (tf (∀ p,AtZ w m d p->Par w m d p))) (fun r=>∃ x1,r=[some (.int (m:Nat)),x1,some (zW w)]) rfl (List.range row.length) _ ⟨_,rfl⟩ ?_ ?_
  ·rintro d hd r ⟨x1,rfl⟩
   have hd:=List.mem_range.mp hd
   have hat:AtZ w m d row[d]:=⟨row,hrow,gG1 hd⟩
   walk_at "own wq"
   refine pair_W hat ?_
   refine ⟨congrArg D.bl (tf_i ⟨fun h p hp=>by rw [<- hat.det hp];exact h,fun h=>h _ hat⟩),rfl,_,rfl⟩
  ·rintro r' ⟨x1,rfl⟩
   exact ⟨rfl,rfl,_,_,rfl⟩
 ·rintro r' _
  have hl:((List.range w.length).flatMap fun r=>(List.range (rowZ w r).length).map fun d=>D.bl (tf (∀ p,AtZ w r d p->Par w r d p))).length<=1000:=by
   rw [List.length_flatMap]
   refine Nat.le_trans (sum_le (k:=4) fun x hx=>?_) (show 4*_<=1000 by rw [List.length_range];lia)
   rw [lM1,List.length_range]
   have hm:=List.mem_range.mp hx
   have hrow:w[x]? = some w[x]:=gG1 hm
   unfold rowZ
   rw [hrow]
   exact f3 _ (gM1 hrow)
  refine ⟨fits_le (Nat.le_trans hl (by decide)),?_⟩
  walk_at "own wq"
  refine W_all rfl (fun x hx=>by
   obtain ⟨r,_,hx⟩:=List.mem_flatMap.mp hx
   obtain ⟨_,_,rfl⟩:=List.mem_map.mp hx
   exact ⟨_,rfl⟩) ?_
  refine ⟨rfl,?_⟩
  have:tf (∀ x∈(List.range w.length).flatMap fun r=>(List.range (rowZ w r).length).map fun d=>D.bl (tf (∀ p,AtZ w r d p->Par w r d p)),x=D.bl true)=tf (PairZ w):=tf_i (by
   constructor
   ·intro h r d p hp
    obtain ⟨row,h1,h2⟩:=hp
    have hro:rowZ w r=row:=by unfold rowZ;rw [h1];rfl
    have:=h _ (List.mem_flatMap.mpr ⟨r,List.mem_range.mpr (gE1.mp h1).1,List.mem_map.mpr ⟨d,List.mem_range.mpr (by rw [hro];exact (gE1.mp h2).1),rfl⟩⟩)
    exact tf_e.mp (bl_inj.mp this) p ⟨row,h1,h2⟩
   ·intro h x hx
    obtain ⟨r,_,hx⟩:=List.mem_flatMap.mp hx
    obtain ⟨d,_,rfl⟩:=List.mem_map.mp hx
    exact bl_inj.mpr (tf_e.mpr fun p hp=>h r d p hp))
  rw [this]
  exact q
theorem nm_snoc {xs:List Nat}{x:Nat}:nmD xs++[D.int (x:Int)]=nmD (xs++[x]):=by simp [nmD]
theorem row_of {w:Rows2}{r:Nat}(hr:r<w.length):∃ row,w[r]? = some row:=⟨_,gG1 hr⟩
theorem W_row {w:Rows2}{r:Nat}{row:List (Nat×Nat)}{S:Sto}{Q:D×Sto->Prop}(h:w[r]? = some row)(q:Q (.tup (row.map dP),S)):W (gIxY (dW w) (.int r) S) Q:=
 W_ixT (i:=r) (x:=.tup (row.map dP)) (by rw [gP1,h];rfl) q
noncomputable def dF (L:List (Nat×List Nat)):List (Key×D):=L.map fun p=>(Sum.inl (p.1:Int),D.tup (nmD p.2))
noncomputable def stL (L:List (Nat×List Nat)):Sto:=[.dct (dF L),.lst (nmD (L.map (·.1)))]
theorem look_in:∀ {L:List (Nat×List Nat)} {p:Nat×List Nat},(L.map (·.1)).Nodup->p∈L->lookD (dF L) (Sum.inl (p.1:Int))=some (.tup (nmD p.2))
 | [],_,_,h=>by cases h
 | x::L,p,nd,h=>by
  rw [mP1,List.nodup_cons] at nd
  unfold dF lookD
  rw [mP1,List.find?_cons]
  rcases List.mem_cons.mp h with z | z
  ·subst z;simp
  ·have hne:x.1≠p.1:=fun e=>nd.1 (by rw [e];exact List.mem_map.mpr ⟨p,z,rfl⟩)
   have:decide ((Sum.inl (x.1:Int):Key)=Sum.inl (p.1:Int))=false:=decide_eq_false fun e=>hne (by injection e with e;lia)
   dsimp only
   rw [this]
   exact look_in (L:=L) nd.2 z
theorem any_not {L:List (Nat×List Nat)}{v:Nat}(h:v∉L.map (·.1)):((dF L).any fun p=>decide (p.1=Sum.inl (v:Int)))=false:=by
 rw [Bool.eq_false_iff]
 intro z
 obtain ⟨x,hx,e⟩:=List.any_eq_true.mp z
 obtain ⟨p,hp,rfl⟩:=List.mem_map.mp hx
 have e:=of_decide_eq_true e
 dsimp only at e
 injection e with e
 exact h (List.mem_map.mpr ⟨p,hp,by lia⟩)
theorem look_not {L:List (Nat×List Nat)}{v:Nat}(h:v∉L.map (·.1)):lookD (dF L) (Sum.inl (v:Int))=none:=by
 unfold lookD
 rw [Option.map_eq_none_iff,List.find?_eq_none]
 intro x hx z
 have:=any_not h
 rw [Bool.eq_false_iff] at this
 exact this (List.any_eq_true.mpr ⟨x,hx,z⟩)
theorem put_not {L:List (Nat×List Nat)}{v:Nat}{ws:List Nat}(h:v∉L.map (·.1)):putD (dF L) (Sum.inl (v:Int)) (.tup (nmD ws))=dF (L++[(v,ws)]):=by
 unfold putD
 rw [any_not h,if_neg (by decide)]
 unfold dF
 rw [List.map_append]
 rfl
theorem notIn_dF {S:Sto}{n v:Nat}{F:List (Key×D)}(h:S[n]? = some (.dct F)):gNotInY (.int (v:Nat)) (.ref n) S=some (.bl (!(lookD F (Sum.inl (v:Int))).isSome),S):=by
 simp only [gNotInY,gNotInX,h,keyD,oP1]
theorem ix_dF {S:Sto}{n v:Nat}{F:List (Key×D)}{d:D}(h:S[n]? = some (.dct F))(hl:lookD F (Sum.inl (v:Int))=some d):gIxY (.ref n) (.int (v:Nat)) S=some (d,S):=by
 simp only [gIxY,gIxX,h,keyD,oS1,hl,oP1]
theorem set_dF {S:Sto}{n v:Nat}{F:List (Key×D)}{d:D}(h:S[n]? = some (.dct F))(hne:F≠[])(hl:F.length<1000):gSetY (.ref n) (.int (v:Nat)) d S=some (.non,S.set n (.dct (putD F (Sum.inl (v:Int)) d))):=by
 cases F with
 | nil=>exact absurd rfl hne
 | cons x F=>
  have h2:gSetY (.ref n) (.int (v:Nat)) d S=gSetX (.ref n) (.int (v:Nat)) d S:=by simp only [gSetY,h]
  rw [h2]
  simp only [gSetX,h,keyD,oS1]
  rw [if_pos (Nat.lt_trans hl (by decide))]
structure BI (m:Nat)(w:Rows2)(L:List (Nat×List Nat))(a j:Nat):Prop where
 nd:(L.map (·.1)).Nodup
 inn:∀ p∈L,p.1<m
 hd:0∈L.map (·.1)
 len:∀ (i:Nat) (p:Nat×List Nat),L[i]? = some p->p.2.length<=i
 rch:∀ P:Nat->Prop,P 0->(∀ r d p,At w r d p->P r->P p.1) -> ∀ p∈L,P p.1
 cl:∀ (i d:Nat) (p:Nat×List Nat) (e:Nat×Nat),L[i]? = some p->At w p.1 d e->(i<a\/(i=a/\d<j))->e.1∈L.map (·.1)
theorem BI.few {m a j:Nat}{w:Rows2}{L:List (Nat×List Nat)}(b:BI m w L a j):L.length<=m:=by
 have:=Law.few b.nd (N:=m) fun x hx=>by
  obtain ⟨p,hp,rfl⟩:=List.mem_map.mp hx
  exact b.inn p hp
 rwa [lM1] at this
theorem BI.old {m a j:Nat}{w:Rows2}{L:List (Nat×List Nat)}{p0:Nat×List Nat}{e:Nat×Nat}(b:BI m w L a j)(h0:L[a]? = some p0)(hat:At w p0.1 j e)(hin:e.1∈L.map (·.1)):BI m w L a (j+1):=by
 refine ⟨b.nd,b.inn,b.hd,b.len,b.rch,fun i d p e' h1 h2 h3=>?_⟩
 by_cases hz:i=a/\d=j
 ·obtain ⟨rfl,rfl⟩:=hz
  rw [h0] at h1;cases h1
  obtain ⟨r1,g1,g2⟩:=hat
  obtain ⟨r2,g3,g4⟩:=h2
  rw [g1] at g3;cases g3
  rw [g2] at g4;cases g4
  exact hin
 ·exact b.cl i d p e' h1 h2 (by lia)
theorem BI.new {m a j:Nat}{w:Rows2}{L:List (Nat×List Nat)}{p0:Nat×List Nat}{e:Nat×Nat}(b:BI m w L a j)(h0:L[a]? = some p0)(hat:At w p0.1 j e)(hm:e.1<m)(hin:e.1∉L.map (·.1)):BI m w (L++[(e.1,p0.2++[j])]) a (j+1):=by
 have hal:=(gE1.mp h0).1
 have sub:∀ x,x∈L.map (·.1)->x∈(L++[(e.1,p0.2++[j])]).map (·.1):=fun x hx=>by rw [List.map_append];exact List.mem_append_left _ hx
 refine ⟨?_,fun p hp=>?_,sub 0 b.hd,fun i p h=>?_,fun P h0' hc p hp=>?_,fun i d p e' h1 h2 h3=>?_⟩
 ·rw [List.map_append,List.nodup_append]
  refine ⟨b.nd,by simp,fun x hx y hy z=>?_⟩
  have:y=e.1:=by simpa using hy
  exact hin (by rw [<- this,<- z];exact hx)
 ·rcases List.mem_append.mp hp with hp | hp
  ·exact b.inn p hp
  ·rw [List.mem_singleton] at hp;subst hp;exact hm
 ·by_cases hlt:i<L.length
  ·rw [gL1 hlt] at h
   exact b.len i p h
  ·have:=(gE1.mp h).1
   rw [lA1,List.length_singleton] at this
   have e2:i=L.length:=by lia
   subst e2
   rw [List.getElem?_concat_length] at h
   cases h
   have:=b.len a p0 h0
   rw [lA1,List.length_singleton]
   lia
 ·rcases List.mem_append.mp hp with hp | hp
  ·exact b.rch P h0' hc p hp
  ·rw [List.mem_singleton] at hp;subst hp
   exact hc _ _ _ hat (b.rch P h0' hc p0 (gM1 h0))
 ·rw [gL1 (by lia)] at h1
  by_cases hz:i=a/\d=j
  ·obtain ⟨rfl,rfl⟩:=hz
   rw [h0] at h1;cases h1
   obtain ⟨r1,g1,g2⟩:=hat
   obtain ⟨r2,g3,g4⟩:=h2
   rw [g1] at g3;cases g3
   rw [g2] at g4;cases g4
   rw [List.map_append]
   exact mA1 _ (by simp)
  ·exact sub _ (b.cl i d p e' h1 h2 (by lia))
theorem BI.all {a:Nat}{w:Rows2}{L:List (Nat×List Nat)}(b:BI w.length w L a 0)(ha:L.length<=a):(∀ v,v<w.length->v∈L.map (·.1))↔Con w:=by
 constructor
 ·intro h P h0 hc v hv
  obtain ⟨p,hp,rfl⟩:=List.mem_map.mp (h v hv)
  exact b.rch P h0 hc p hp
 ·intro hw
  refine hw (fun v=>v∈L.map (·.1)) b.hd fun r d e h1 h2=>?_
  obtain ⟨p,hp,e1⟩:=List.mem_map.mp h2
  obtain ⟨i,hi⟩:=List.getElem?_of_mem hp
  exact b.cl i d p e hi (by rw [e1];exact h1) (.inl (by have:=(gE1.mp hi).1;lia))
noncomputable def oL:Option (List Nat)->D
 | none=>.non
 | some x=>.tup (nmD x)
theorem oL_und {n:Nat}:∀ x,(oL x).und n=true
 | none=>rfl
 | some x=>by rw [oL,D.und];exact unds_mono (nm_und _)
noncomputable def wayD (ws:List (Option (List Nat))):D:=.tup (ws.map oL)
theorem ways_W {w:Rows2}{S:Sto}{Q:D×Sto->Prop}(hw:WP w)(q:∀ ws:List (Option (List Nat)),(none∉ws↔Con w)->Q (wayD ws,S)):W (mCall 2 m_ways [dW w,.int 0] S) Q:=by
 refine callP rfl (by rw [D.unds,und_dW,D.unds,D.und];rfl) ?_
 have hm0:=hw.pos
 have hm:=hw.few
 unfold m_ways
 refine fnW ?_
 unfold b_ways
 refine seqW (fun r' V=>V=[.dct (dF [(0,[])])]/\r'=[some (dW w),some (.int 0),some (.ref 0),none,none,none,none,none,none]) ?_ ?_
 ·have e:mDisp [((mV 1),(mTup mNil))] [some (dW w),some (.int 0),none,none,none,none,none,none,none] []=some (.ref 0,[.dct (dF [(0,[])])]):=rfl
  ((try walk_at "own wq");repeat (simp only [e];try walk_at "own wq"))
 rintro r' V ⟨rfl,rfl⟩
 refine seqW (fun r' V=>V=stL [(0,[])]/\r'=[some (dW w),some (.int 0),some (.ref 0),some (.ref 1),none,none,none,none,none]) ?_ ?_
 ·walk_at "own wq"
  exact ⟨rfl,trivial⟩
 rintro r' V ⟨rfl,rfl⟩
 refine seqW (fun r' V=>V=stL [(0,[])]/\r'=[some (dW w),some (.int 0),some (.ref 0),some (.ref 1),some (.int ((0:Nat):Int)),none,none,none,none]) ?_ ?_
 ·walk_at "own wq"
  rfl
 rintro r' V ⟨rfl,rfl⟩
 refine seqW (fun r' V=>∃ L a x4 x5 x6 x7 x8,BI w.length w L a 0/\L.length<=a/\V=stL L/\r'=[some (dW w),some (.int 0),some (.ref 0),some (.ref 1),x4,x5,x6,x7,x8]) ?_ ?_
 ·refine whl_W (fun k r' V=>∃ L x5 x6 x7 x8,BI w.length w L k 0/\V=stL L/\r'=[some (dW w),some (.int 0),some (.ref 0),some (.ref 1),some (.int (k:Nat)),x5,x6,x7,x8]) 8 ?_ 100000 0 _ _ (by lia) ⟨[(0,[])],_,_,_,_,⟨by simp,fun p hp=>by simp at hp;subst hp;exact hm0,by simp,fun i p h=>by cases i with | zero=>cases h;simp | succ i=>simp at h,fun P h0 _ p hp=>by simp at hp;subst hp;exact h0,fun i d p e _ _ h=>by lia⟩,rfl,rfl⟩
  rintro k r' V ⟨L,x5,x6,x7,x8,b,rfl,rfl⟩
  have hLf:=b.few
  unfold p_ways_2
  walk_at "own wq"
  refine sW_ref (xs:=nmD (L.map (·.1))) rfl ?_
  walk_at "own wq"
  rw [nm_len,lM1]
  by_cases hlt:k<L.length
  ·rw [if_pos (by rw [decide_eq_true_eq];lia)]
   refine ⟨by lia,?_⟩
   obtain ⟨p0,h0⟩:∃ p,L[k]? = some p:=⟨_,gG1 hlt⟩
   have hp0:=b.inn p0 (gM1 h0)
   obtain ⟨row,hrow⟩:=row_of hp0
   have hr4:=hw.le _ row hrow
   unfold p_ways_3
   refine seqW (fun r' V=>V=stL L/\r'=[some (dW w),some (.int 0),some (.ref 0),some (.ref 1),some (.int (k:Nat)),some (.int (p0.1:Nat)),x6,x7,x8]) ?_ ?_
   ·walk_at "own wq"
    refine W_ixL (i:=k) (xs:=nmD (L.map (·.1))) (x:=.int (p0.1:Nat)) rfl (by rw [nmD,gP1,gP1,h0];rfl) ?_
    walk_at "own wq"
   rintro r' V ⟨rfl,rfl⟩
   refine seqW (fun r' V=>∃ L' y6 y7 y8,BI w.length w L' k row.length/\L'[k]? = some p0/\V=stL L'/\r'=[some (dW w),some (.int 0),some (.ref 0),some (.ref 1),some (.int (k:Nat)),some (.int (p0.1:Nat)),y6,y7,y8]) ?_ ?_
   ·unfold mFor
    rw [W_bind]
    refine W_enT (xs:=row.map dP) ?_ ?_
    ·obtain ⟨p,e,rfl⟩:=W_row (S:=stL L) (Q:=fun p=>p=(.tup (row.map dP),stL L)) hrow rfl
     simp only [mCons,mNil,m2,b2,mV,gC1,List.getElem?_cons_zero,oS1,e]
    refine loopM_W (fun j r' V=>∃ L' y6 y7 y8,j<=row.length/\BI w.length w L' k j/\L'[k]? = some p0/\V=stL L'/\r'=[some (dW w),some (.int 0),some (.ref 0),some (.ref 1),some (.int (k:Nat)),some (.int (p0.1:Nat)),y6,y7,y8]) _ 0 _ _ ⟨L,_,_,_,by lia,b,h0,rfl,rfl⟩ (fun _ _ _ _=>rfl) ?_ ?_
    ·rintro j dd hdd r' V ⟨L',y6,y7,y8,hj,b',h0',rfl,rfl⟩
     rw [enD_get,gP1] at hdd
     obtain ⟨z,hz,rfl⟩:=oM1.mp hdd
     obtain ⟨goal,hgoal,rfl⟩:=oM1.mp hz
     have hjlt:=(gE1.mp hgoal).1
     rw [Nat.zero_add] at *
     have hat:At w p0.1 j goal:=⟨row,hrow,hgoal⟩
     have hLf':=b'.few
     have hp0':=look_in b'.nd (gM1 h0')
     have hne:L'≠[]:=fun z=>by rw [z] at h0';simp at h0'
     unfold dP
     walk_at "own wq"
     unfold p_ways_1
     ((try walk_at "own wq");repeat (simp only [notIn_dF (S:=stL L') (n:=0) (F:=dF L') rfl];try walk_at "own wq"))
     by_cases hin:goal.1∈L'.map (·.1)
     ·obtain ⟨p',hp',e'⟩:=List.mem_map.mp hin
      have hlook:=look_in b'.nd hp'
      rw [e'] at hlook
      rw [hlook,if_neg (by simp)]
      exact ⟨L',_,_,_,by lia,b'.old h0' hat hin,h0',rfl,rfl⟩
     ·rw [look_not hin,if_pos (by simp)]
      ((try walk_at "own wq");repeat (simp only [ix_dF (S:=stL L') (n:=0) (F:=dF L') rfl hp0'];try walk_at "own wq"))
      have hpl:p0.2.length<=8:=by
       have h1:=b'.len k p0 h0'
       have h2:=(gE1.mp h0').1
       lia
      refine ⟨fits_le (by rw [nm_len];lia),?_⟩
      rw [nm_snoc]
      ((try walk_at "own wq");repeat (simp only [set_dF (S:=stL L') (n:=0) (v:=goal.1) (F:=dF L') (d:=.tup (nmD (p0.2++[j]))) rfl (by unfold dF;simpa using hne) (by unfold dF;rw [lM1];lia)];try walk_at "own wq"))
      rw [put_not hin]
      refine W_mMt ?_
      walk_at "own wq"
      refine ⟨1,nmD (L'.map (·.1)),rfl,rfl,?_⟩
      refine (W_app (n:=1) (xs:=nmD (L'.map (·.1))) rfl).mpr ⟨fits_le (by rw [nm_len,lM1];lia),?_⟩
      refine ⟨L'++[(goal.1,p0.2++[j])],_,_,_,by lia,b'.new h0' hat (hw.back _ _ _ hat).lt hin,by rw [gL1 (gE1.mp h0').1];exact h0',?_,rfl⟩
      unfold stL
      simp [nmD]
    ·rintro r' V ⟨L',y6,y7,y8,hj,b',h0',rfl,rfl⟩
     rw [enD_len,lM1,Nat.zero_add] at b'
     exact ⟨rfl,L',_,_,_,b',h0',rfl,rfl⟩
   rintro r' V ⟨L',y6,y7,y8,b',h0',rfl,rfl⟩
   refine W.of (x:=(.nx,[some (dW w),some (.int 0),some (.ref 0),some (.ref 1),some (.int ((k+1:Nat):Int)),some (.int (p0.1:Nat)),y6,y7,y8],stL L')) rfl ?_
   refine ⟨rfl,L',_,_,_,_,⟨b'.nd,b'.inn,b'.hd,b'.len,b'.rch,fun i d p e h1 h2 h3=>b'.cl i d p e h1 h2 ?_⟩,rfl,rfl⟩
   rcases (show i<k\/i=k by lia) with h | rfl
   ·exact .inl h
   ·rw [h0'] at h1;cases h1
    obtain ⟨row',g1,g2⟩:=h2
    rw [hrow] at g1;cases g1
    exact .inr ⟨rfl,(gE1.mp g2).1⟩
  ·rw [if_neg (by rw [decide_eq_true_eq];lia)]
   exact ⟨L,k,_,_,_,_,_,b,by lia,rfl,rfl⟩
 rintro r' V ⟨L,a,x4,x5,x6,x7,x8,b,ha,rfl,rfl⟩
 have each:∀ v:Nat,∃ x:Option (List Nat),(lookD (dF L) (Sum.inl (v:Int))).getD .non=oL x/\(x=none↔v∉L.map (·.1)):=fun v=>by
  by_cases hv:v∈L.map (·.1)
  ·obtain ⟨p,hp,e⟩:=List.mem_map.mp hv
   have h1:=look_in b.nd hp
   rw [e] at h1
   exact ⟨some p.2,by rw [h1];rfl,⟨fun z=>(by cases z),fun z=>(z hv).elim⟩⟩
  ·exact ⟨none,by rw [look_not hv];rfl,⟨fun _=>hv,fun _=>rfl⟩⟩
 obtain ⟨f,hf⟩:=Classical.axiomOfChoice each
 ((try walk_at "own wq");repeat (simp only [len_dW];try walk_at "own wq"))
 refine ⟨bnd_nat (by lia),?_⟩
 rw [nums0,Int.toNat_natCast]
 refine mapW (f:=fun j:Nat=>D.int j) (fun v=>oL (f v)) (fun r'=>∃ x,r'=[x,some (.ref 0)]) rfl (List.range w.length) _ ⟨_,rfl⟩ ?_ ?_
 ·rintro v hv r' ⟨x,rfl⟩
  walk_at "own wq"
  refine W.of (x:=(oL (f v),stL L)) ?_ ⟨rfl,rfl,_,rfl⟩
  show (some ((lookD (dF L) (Sum.inl (v:Int))).getD .non,stL L))=_
  rw [(hf v).1]
 ·rintro r' ⟨x,rfl⟩
  refine ⟨fits_le (by rw [lM1,List.length_range];lia),?_⟩
  walk_at "own wq"
  refine sW_ref rfl ?_
  refine ⟨?_,?_⟩
  ·rw [D.und]
   exact Mi.unds_map fun _ _=>oL_und _
  ·have:=q ((List.range w.length).map f) (by
    rw [<- b.all ha]
    constructor
    ·intro h v hv
     refine Classical.byContradiction fun z=>h (List.mem_map.mpr ⟨v,List.mem_range.mpr hv,(hf v).2.mpr z⟩)
    ·intro h z
     obtain ⟨v,hv,e⟩:=List.mem_map.mp z
     exact (hf v).2.mp e (h v (List.mem_range.mp hv)))
   unfold wayD at this
   rw [List.map_map] at this
   exact this
theorem notNon {S:Sto}:∀ xs:List (Option (List Nat)),inL (eqN S deepMost) .non (xs.map oL)=some (tf (none∈xs))
 | []=>by rw [tf_f (by simp)];rfl
 | x::xs=>by
  rw [mP1,inL,notNon xs]
  cases x with
  | none=>
   have:tf (none∈none::xs)=true:=tf_t mS1
   rw [this];rfl
  | some x=>
   have:tf (none∈some x::xs)=tf (none∈xs):=tf_i (by simp)
   rw [this];rfl
theorem hangs_W {w:Rows2}{S:Sto}{Q:D×Sto->Prop}(hw:WP w)(q:Q (.bl (tf (Con w)),S)):W (mCall 1 m_hangs_together [dW w] S) Q:=by
 refine callP rfl (by rw [D.unds,und_dW];rfl) ?_
 unfold m_hangs_together
 refine fnW ?_
 unfold b_hangs_together
 walk_at "own wq"
 refine ways_W hw fun ws h=>?_
 have en:gNotInY .non (wayD ws) []=some (.bl (!tf (none∈ws)),[]):=by
  show (inL (eqN [] deepMost) .non (ws.map oL)).map _=_
  rw [notNon]
  rfl
 ((try walk_at "own wq");repeat (simp only [en];try walk_at "own wq"))
 refine ⟨rfl,?_⟩
 have:(!tf (none∈ws))=tf (Con w):=tf_b (by rw [<- h,Bool.not_eq_true',<- Bool.not_eq_true,tf_e])
 rw [this]
 exact q
noncomputable def GoodZ (w:RZ):Prop:=∃ w',w=upW w'/\WP w'/\Con w'
theorem upW_inj {a b:Rows2}(h:upW a=upW b):a=b:=by
 unfold upW at h
 exact (List.map_inj_right fun x y e=>(List.map_inj_right fun _ _=>up_inj).mp e).mp h
theorem isweb_W {w:RZ}{S:Sto}{Q:D×Sto->Prop}(q:Q (.bl (tf (GoodZ w)),S)):W (mCall 1 m_is_web [zW w] S) Q:=by
 refine callP rfl (by rw [D.unds,und_zW];rfl) ?_
 unfold m_is_web
 refine fnW ?_
 unfold b_is_web
 walk_at "own wq"
 refine form_W ?_
 by_cases hf:FormZ w
 rotate_left
 ·rw [tf_f (fun ⟨w',e,h,_⟩=>hf (by rw [e];exact h.form.1))] at q
  rw [tf_f hf]
  walk_at "own wq"
  exact ⟨rfl,q⟩
 rw [tf_t hf]
 walk_at "own wq"
 refine leads_W hf ?_
 by_cases hp:PairZ w
 rotate_left
 ·rw [tf_f (fun ⟨w',e,h,_⟩=>hp (by rw [e];exact h.form.2))] at q
  rw [tf_f hp]
  walk_at "own wq"
  exact ⟨rfl,q⟩
 rw [tf_t hp]
 walk_at "own wq"
 obtain ⟨w',rfl,hw⟩:=wp_of hf hp
 rw [dW_up]
 refine hangs_W hw ?_
 refine ⟨rfl,?_⟩
 have:tf (Con w')=tf (GoodZ (upW w')):=tf_i ⟨fun h=>⟨w',rfl,hw,h⟩,fun ⟨v,e,_,h⟩=>by rw [upW_inj e];exact h⟩
 rw [this]
 exact q
noncomputable def pls (w:RZ)(i:Nat):List (Nat×Nat):=(List.range i).flatMap fun r=>(List.range (rowZ w r).length).map fun d=>(r,d)
theorem pls_succ (w:RZ)(i:Nat):pls w (i+1)=pls w i++(List.range (rowZ w i).length).map fun d=>(i,d):=by
 unfold pls
 rw [List.range_succ,List.flatMap_append]
 simp
theorem mem_pls {w:RZ}{r d:Nat}:(r,d)∈pls w w.length ↔ ∃ p,AtZ w r d p:=by
 unfold pls
 rw [List.mem_flatMap]
 constructor
 ·rintro ⟨r',h1,h2⟩
  obtain ⟨d',h3,e⟩:=List.mem_map.mp h2
  cases e
  have h1:=List.mem_range.mp h1
  have h3:=List.mem_range.mp h3
  have hr:w[r]? = some w[r]:=gG1 h1
  have:rowZ w r=w[r]:=by unfold rowZ;rw [hr];rfl
  rw [this] at h3
  exact ⟨w[r][d],w[r],hr,gG1 h3⟩
 ·rintro ⟨p,row,h1,h2⟩
  have:rowZ w r=row:=by unfold rowZ;rw [h1];rfl
  exact ⟨r,List.mem_range.mpr (gE1.mp h1).1,List.mem_map.mpr ⟨d,List.mem_range.mpr (by rw [this];exact (gE1.mp h2).1),rfl⟩⟩
theorem pls_len {w:RZ}{k:Nat}(h:∀ row∈w,row.length<=k):∀ i,i<=w.length->(pls w i).length<=k*i
 | 0,_=>by simp [pls]
 | i+1,hi=>by
  have:=pls_len h i (by lia)
  rw [pls_succ,lA1,lM1,List.length_range]
  have hr:w[i]? = some w[i]:=gG1 (by lia)
  have e:rowZ w i=w[i]:=by unfold rowZ;rw [hr];rfl
  have h2:=h w[i] (List.getElem_mem _)
  rw [e,Nat.mul_add]
  lia
noncomputable def Gar (G:Sto):Prop:=∀ o∈G,∃ l:List (Nat×Nat),o = .lst (l.map pD)
theorem Gar.sh {G:Sto}(h:Gar G)(n:Nat):G.map (Ob.sh n)=G:=by
 have:G.map (Ob.sh n)=G.map id:=List.map_congr_left fun o ho=>by
  obtain ⟨l,rfl⟩:=h o ho
  rw [Ob.sh,shs_und (pDs_und l)];rfl
 rw [this,List.map_id]
theorem Gar.und {G:Sto}(h:Gar G){n:Nat}:∀ o∈G,o.und n=true:=fun o ho=>by
 obtain ⟨l,rfl⟩:=h o ho
 rw [Ob.und];exact pDs_und l
theorem places_W {w:RZ}{S:Sto}{Q:D×Sto->Prop}(h8:∀ row∈w,row.length<=100)(hl:w.length<=100)(q:∀ G,Gar G->Q (.ref S.length,S ++ .lst ((pls w w.length).map pD)::G)):W (mCall 1 m__law_places [zW w] S) Q:=by
 have key:W (m__law_places [zW w] []) fun p=>∃ G,Gar G/\p=(.ref 0,.lst ((pls w w.length).map pD)::G):=by
  unfold m__law_places
  refine fnW ?_
  unfold b__law_places
  refine seqW (fun r V=>V=[.lst ((pls w 0).map pD)]/\r=[some (zW w),some (.ref 0),none,none]) ?_ ?_
  ·walk_at "own wq"
   exact ⟨rfl,trivial⟩
  rintro r V ⟨rfl,rfl⟩
  refine seqW (fun r V=>∃ G x2 x3,Gar G/\V = .lst ((pls w w.length).map pD)::G/\r=[some (zW w),some (.ref 0),x2,x3]) ?_ ?_
  ·unfold mFor
   rw [W_bind]
   refine W_enT (xs:=w.map zR) rfl ?_
   refine loopM_W (fun i r V=>i<=w.length /\ ∃ G x2 x3,Gar G/\V = .lst ((pls w i).map pD)::G/\r=[some (zW w),some (.ref 0),x2,x3]) _ 0 _ _ ⟨by lia,[],_,_,fun o ho=>(by cases ho),rfl,rfl⟩ (fun _ _ _ _=>rfl) ?_ ?_
   ·rintro i dd hdd r V ⟨hi,G,x2,x3,hG,rfl,rfl⟩
    rw [enD_get,gP1] at hdd
    obtain ⟨z,hz,rfl⟩:=oM1.mp hdd
    obtain ⟨row,hrow,rfl⟩:=oM1.mp hz
    have hil:=(gE1.mp hrow).1
    rw [Nat.zero_add] at *
    have hr8:=h8 row (gM1 hrow)
    have hro:rowZ w i=row:=by unfold rowZ;rw [hrow];rfl
    have hpl:=pls_len (k:=100) h8 i (Nat.le_of_lt hil)
    have hpm:100*i<=10000:=by have:i<100:=nL1 hil hl;lia
    walk_at "own wq"
    unfold p__law_places_1
    walk_at "own wq"
    refine W_mMt ?_
    walk_at "own wq"
    refine ⟨0,(pls w i).map pD,rfl,rfl,?_⟩
    ((try walk_at "own wq");repeat (simp only [len_zR];try walk_at "own wq"))
    refine ⟨bnd_nat (by lia),?_⟩
    rw [nums0,Int.toNat_natCast]
    refine mapW (f:=fun j:Nat=>D.int j) (fun d=>pD (i,d)) (fun r=>∃ x,r=[x,some (.int (i:Nat))]) rfl (List.range row.length) _ ⟨_,rfl⟩ ?_ ?_
    ·rintro d hd r ⟨x,rfl⟩
     walk_at "own wq"
     exact ⟨rfl,_,rfl⟩
    ·rintro r' _
     refine ⟨fits_le (by rw [lM1,List.length_range];lia),?_⟩
     refine W.of (x:=(.non,.lst ((pls w (i+1)).map pD)::(G++[.lst ((List.range row.length).map fun d=>pD (i,d))]))) ?_ ⟨by lia,_,_,_,?_,rfl,rfl⟩
     ·have e2:(Ob.lst ((pls w i).map pD)::G++[Ob.lst ((List.range row.length).map fun d=>pD (i,d))])[(Ob.lst ((pls w i).map pD)::G).length]? = some (.lst ((List.range row.length).map fun d=>pD (i,d))):=by rw [get_app0];rfl
      have e1:(Ob.lst ((pls w i).map pD)::G++[Ob.lst ((List.range row.length).map fun d=>pD (i,d))])[0]? = some (.lst ((pls w i).map pD)):=rfl
      simp only [gExt,e1,e2]
      rw [if_pos (by rw [lM1,lM1,List.length_range];exact Nat.le_trans (show _<=20000 by lia) (by decide))]
      rw [pls_succ,hro,List.map_append,List.map_map]
      rfl
     ·intro o ho
      rcases List.mem_append.mp ho with ho | ho
      ·exact hG o ho
      ·rw [List.mem_singleton] at ho
       exact ⟨(List.range row.length).map fun d=>(i,d),by rw [ho,List.map_map];rfl⟩
   ·rintro r V ⟨hi,G,x2,x3,hG,rfl,rfl⟩
    rw [enD_len,lM1,Nat.zero_add]
    exact ⟨rfl,G,_,_,hG,rfl,rfl⟩
  rintro r V ⟨G,x2,x3,hG,rfl,rfl⟩
  walk_at "own wq"
  exact ⟨G,hG,rfl⟩
 obtain ⟨p,e,G,hG,rfl⟩:=key
 refine ⟨_,call_new e rfl (by rw [D.unds,und_zW];rfl) rfl,?_⟩
 have e1:(D.ref 0).sh S.length = .ref S.length:=rfl
 have e2:(Ob.lst ((pls w w.length).map pD)::G).map (Ob.sh S.length)=Ob.lst ((pls w w.length).map pD)::G:=by rw [mP1,hG.sh,Ob.sh,shs_und (pDs_und _)]
 rw [e1,e2]
 exact q G hG
theorem cnt_le:∀ {a b:List Nat},a.length=b.length->(∀ r:Nat,a[r]? = some 0->b[r]? = some 0)->a.count 0<=b.count 0
 | [],[],_,_=>nR1 _
 | [],_::_,h,_=>by simp at h
 | _::_,[],h,_=>by simp at h
 | x::a,y::b,h,k=>by
  have:=cnt_le (a:=a) (b:=b) (by simpa using h) fun r hr=>by simpa using k (r+1) (by simpa using hr)
  rw [List.count_cons,List.count_cons]
  by_cases hx:x=0
  ·subst hx
   have:=k 0 rfl
   have:y=0:=by simpa using this
   subst this
   simpa using ‹a.count 0<=b.count 0›
  ·rw [if_neg (by simpa using hx)]
   lia
theorem cnt_lt:∀ {a b:List Nat} {i:Nat},a.length=b.length->(∀ r:Nat,a[r]? = some 0->b[r]? = some 0)->a[i]? ≠ some 0->b[i]? = some 0->a.count 0<b.count 0
 | [],[],_,_,_,_,h=>by simp at h
 | [],_::_,_,h,_,_,_=>by simp at h
 | _::_,[],_,h,_,_,_=>by simp at h
 | x::a,y::b,0,h,k,h1,h2=>by
  have:=cnt_le (a:=a) (b:=b) (by simpa using h) fun r hr=>by simpa using k (r+1) (by simpa using hr)
  have e2:y=0:=by simpa using h2
  have e1:¬ x=0:=by simpa using h1
  subst e2
  rw [List.count_cons,List.count_cons,if_neg (by simpa using e1)]
  simp
  lia
 | x::a,y::b,i+1,h,k,h1,h2=>by
  have:=cnt_lt (a:=a) (b:=b) (i:=i) (by simpa using h) (fun r hr=>by simpa using k (r+1) (by simpa using hr)) (by simpa using h1) (by simpa using h2)
  rw [List.count_cons,List.count_cons]
  by_cases hx:x=0
  ·subst hx
   have:=k 0 rfl
   have:y=0:=by simpa using this
   subst this
   simp
   lia
  ·rw [if_neg (by simpa using hx)]
   lia
structure Lab (w:Rows2)(t:Nat)(lab:List Nat):Prop where
 len:lab.length=w.length
 hd:lab[0]? = some 0
 snd:∀ P:Nat->Prop,(∀ r d p,At w r d p->P r->P p.1) -> ∀ r v:Nat,lab[r]? = some v->P v->P r
 prg:Con w->(t+1<=lab.count 0\/lab.count 0=w.length)
structure LabI (w:Rows2)(t:Nat)(lab0:List Nat)(xs:List (Nat×Nat))(i:Nat)(lab:List Nat):Prop where
 len:lab.length=w.length
 hd:lab[0]? = some 0
 snd:∀ P:Nat->Prop,(∀ r d p,At w r d p->P r->P p.1) -> ∀ r v:Nat,lab[r]? = some v->P v->P r
 z:∀ r:Nat,lab0[r]? = some 0->lab[r]? = some 0
 did:∀ (j r d:Nat) (e:Nat×Nat),j<i->xs[j]? = some (r,d)->At w r d e->lab0[e.1]? = some 0->lab[r]? = some 0
theorem Lab.start {w:Rows2}(hw:WP w):Lab w 0 (List.range w.length):=by
 have hp:=hw.pos
 refine ⟨List.length_range,by rw [List.getElem?_range hp],fun P _ r v h hv=>?_,fun _=>.inl ?_⟩
 ·have hr:r<w.length:=by have:=(gE1.mp h).1;rwa [List.length_range] at this
  rw [List.getElem?_range hr] at h
  cases h;exact hv
 ·exact List.count_pos_iff.mpr (List.mem_range.mpr hp)
theorem Lab.go {w:Rows2}{t:Nat}{lab:List Nat}{xs:List (Nat×Nat)}(h:Lab w t lab):LabI w t lab xs 0 lab:=⟨h.len,h.hd,h.snd,fun _ z=>z,fun j r d e hj=>by lia⟩
theorem LabI.step {w:Rows2}{t i r d a b:Nat}{lab0 lab:List Nat}{xs:List (Nat×Nat)}{e:Nat×Nat}(hw:WP w)(h:LabI w t lab0 xs i lab)(hx:xs[i]? = some (r,d))(hat:At w r d e)(ha:lab[r]? = some a)(hb:lab[e.1]? = some b):LabI w t lab0 xs (i+1) (lab.set r (min a b)):=by
 have hr:=(gE1.mp ha).1
 have keep:∀ r':Nat,lab[r']? = some 0->(lab.set r (min a b))[r']? = some 0:=fun r' h'=>by
  by_cases e1:r=r'
  ·subst e1
   rw [ha] at h';cases h'
   rw [List.getElem?_set_self hr,Nat.zero_min]
  ·rw [gS1 e1];exact h'
 refine ⟨by rw [List.length_set];exact h.len,keep 0 h.hd,fun P hc r' v h1 hv=>?_,fun r' h1=>keep r' (h.z r' h1),fun j r' d' e' hj h1 h2 h3=>?_⟩
 ·by_cases e1:r=r'
  ·subst e1
   rw [List.getElem?_set_self hr] at h1
   cases h1
   rcases (show min a b=a\/min a b=b by lia) with z | z
   ·rw [z] at hv
    exact h.snd P hc r a ha hv
   ·rw [z] at hv
    exact hc _ _ _ (hw.back _ _ _ hat) (h.snd P hc e.1 b hb hv)
  ·rw [gS1 e1] at h1
   exact h.snd P hc r' v h1 hv
 ·by_cases e1:j=i
  ·subst e1
   rw [hx] at h1;cases h1
   have:=hat.det h2
   subst this
   have:=h.z _ h3
   rw [hb] at this;cases this
   rw [List.getElem?_set_self hr,Nat.min_zero]
  ·exact keep r' (h.did j r' d' e' (by lia) h1 h2 h3)
theorem LabI.done {w:Rows2}{t:Nat}{lab0 lab:List Nat}{xs:List (Nat×Nat)}(hw:WP w)(h0:Lab w t lab0)(hxs:∀ r d e,At w r d e->(r,d)∈xs)(h:LabI w t lab0 xs xs.length lab):Lab w (t+1) lab:=by
 refine ⟨h.len,h.hd,h.snd,fun hc=>?_⟩
 have hle:lab.count 0<=w.length:=by rw [<- h.len];exact List.count_le_length
 have hmono:=cnt_le (a:=lab0) (b:=lab) (by rw [h0.len,h.len]) h.z
 rcases h0.prg hc with z | z
 ·by_cases hall:∀ v,v<w.length->lab0[v]? = some 0
  ·have:lab0.count 0=lab0.length:=List.count_eq_length.mpr fun b hb=>by
    obtain ⟨i,hi⟩:=List.getElem?_of_mem hb
    have:=hall i (by rw [<- h0.len];exact (gE1.mp hi).1)
    rw [hi] at this;cases this;rfl
   rw [h0.len] at this
   right;lia
  ·have:∃ r d p,At w r d p/\lab0[r]? = some 0/\lab0[p.1]? ≠ some 0:=Classical.byContradiction fun hn=>by
    refine hall (hc (fun v=>lab0[v]? = some 0) h0.hd fun r d p h1 h2=>Classical.byContradiction fun h3=>hn ⟨r,d,p,h1,h2,h3⟩)
   obtain ⟨r,d,p,h1,h2,h3⟩:=this
   have hb:=hw.back r d p h1
   obtain ⟨j,hj⟩:=List.getElem?_of_mem (hxs _ _ _ hb)
   have:=h.did j p.1 p.2 (r,d) (gE1.mp hj).1 hj hb h2
   have:=cnt_lt (a:=lab0) (b:=lab) (i:=p.1) (by rw [h0.len,h.len]) h.z h3 this
   left;lia
 ·right;lia
theorem Lab.end {w:Rows2}{lab:List Nat}(h:Lab w w.length lab):lab=List.replicate w.length 0↔Con w:=by
 constructor
 ·intro e P h0 hc v hv
  refine h.snd P hc v 0 ?_ h0
  rw [e,List.getElem?_replicate,if_pos hv]
 ·intro hc
  have hle:lab.count 0<=w.length:=by rw [<- h.len];exact List.count_le_length
  have hcnt:lab.count 0=lab.length:=by
   rw [h.len]
   rcases h.prg hc with z | z<;>lia
  rw [<- h.len]
  exact List.eq_replicate_iff.mpr ⟨rfl,fun b hb=>(List.count_eq_length.mp hcnt b hb).symm⟩
theorem inL_zP {S:Sto}{p:Int×Int}:∀ l:List (Nat×Nat),inL (eqN S deepMost) (zP p) (l.map pD)=some (tf (∃ e∈l,up e=p))
 | []=>by rw [tf_f (fun ⟨_,h,_⟩=>by cases h)];rfl
 | x::l=>by
  rw [mP1,inL,inL_zP l]
  have e1:eqN S deepMost (pD x) (zP p)=some (tf (up x=p)):=eqN_zP (n:=58) (a:=up x) (b:=p)
  rw [e1]
  refine congrArg some (tf_b ?_)
  rw [Bool.or_eq_true,tf_e,tf_e]
  constructor
  ·rintro (h | ⟨e,h1,h2⟩)
   ·exact ⟨x,mS1,h⟩
   ·exact ⟨e,mC1 _ h1,h2⟩
  ·rintro ⟨e,h1,h2⟩
   rcases List.mem_cons.mp h1 with rfl | h1
   ·exact .inl h2
   ·exact .inr ⟨e,h1,h2⟩
theorem notin_zP {S:Sto}{p:Int×Int}{n:Nat}{l:List (Nat×Nat)}(h:S[n]? = some (.lst (l.map pD))):gNotInY (zP p) (.ref n) S=some (.bl (!tf (∃ e∈l,up e=p)),S):=by
 simp only [gNotInY,gNotInX,h,gNotIn,seqOf,oS1]
 rw [inL_zP]
 rfl
theorem eqL_nm {f:D->D->Option Bool}(hf:∀ x y:Nat,f (.int x) (.int y)=some (x == y)):∀ {a b:List Nat},a.length=b.length->eqL f (nmD a) (nmD b)=some (tf (a=b))
 | [],[],_=>by rw [tf_t rfl];rfl
 | [],_::_,h=>by simp at h
 | _::_,[],h=>by simp at h
 | x::a,y::b,h=>by
  have ih:=eqL_nm hf (a:=a) (b:=b) (by simpa using h)
  show eqL f (.int x::nmD a) (.int y::nmD b)=_
  rw [eqL,hf,ih]
  refine congrArg some (tf_b ?_)
  rw [bA1,beq_iff_eq,tf_e,List.cons.injEq]
theorem gEq_nm {S:Sto}{i j:Nat}{a b:List Nat}(h1:S[i]? = some (.lst (nmD a)))(h2:S[j]? = some (.lst (nmD b)))(hl:a.length=b.length):gEq (.ref i) (.ref j) S=some (.bl (tf (a=b)),S):=by
 show (eqN S deepMost (.ref i) (.ref j)).map _=_
 rw [show deepMost=59+1 from rfl,eqN]
 simp only [seqOf,h1,h2]
 rw [if_pos trivial,if_neg (by rw [nm_len,nm_len];exact fun z=>z.2 hl),eqL_nm (fun x y=>by
  show some ((x:Int) == (y:Int))=_
  refine congrArg some ?_
  rw [Bool.eq_iff_iff,beq_iff_eq,beq_iff_eq];lia) hl]
 rfl
theorem rep_nm (n:Nat):(List.replicate n [D.int 0]).flatten=nmD (List.replicate n 0):=by
 induction n with
 | zero=>rfl
 | succ n ih=>rw [List.replicate_succ,List.flatten_cons,ih,List.replicate_succ];rfl
theorem nums_nm (n:Nat):nums 0 n=nmD (List.range n):=by rw [nums0];rfl
theorem ints_lens (w:RZ):intsD (w.map fun row=>D.int (row.length:Nat))=some (w.map fun row=>((row.length:Nat):Int)):=by
 induction w with
 | nil=>rfl
 | cons r w ih=>rw [mP1,mP1,intsD,ih];rfl
theorem W_maxL {w:RZ}{S:Sto}{n:Nat}{Q:D×Sto->Prop}(h:S[n]? = some (.lst (w.map fun row=>D.int (row.length:Nat))))(hw:w≠[])(q:∀ k:Int,(4<k ↔ ¬ ∀ row∈w,row.length<=4)->Q (.int k,S)):W (gMaxL (.ref n) S) Q:=by
 have hne:(w.map fun row=>((row.length:Nat):Int))≠[]:=by simpa using hw
 refine W.of (x:=(.int (maxI (w.map fun row=>((row.length:Nat):Int))),S)) ?_ (q _ ?_)
 ·simp only [gMaxL,seqOf,h]
  rw [ints_lens,oS1,if_neg hne]
 ·obtain ⟨h1,h2⟩:=maxI_ok hne
  constructor
  ·intro hk hall
   obtain ⟨row,hr,e⟩:=List.mem_map.mp h1
   have:=hall row hr
   lia
  ·intro hn
   refine Classical.byContradiction fun hk=>hn fun row hr=>?_
   have:=h2 _ (List.mem_map.mpr ⟨row,hr,rfl⟩)
   lia
theorem min_int {x y:Nat}{S:Sto}:gMin (.int (x:Int)) (.int (y:Int)) S=some (.int ((min x y:Nat):Int),S):=by
 show some (D.int (if (y:Int)<(x:Int) then (y:Int) else (x:Int)),S)=_
 refine congrArg (fun z=>some (D.int z,S)) ?_
 split<;>lia
theorem pair0 {p:Int×Int}{S:Sto}:gIxY (zP p) (.int 0) S=some (.int p.1,S):=rfl
theorem pair1 {p:Int×Int}{S:Sto}:gIxY (zP p) (.int 1) S=some (.int p.2,S):=rfl
theorem gNe_zP {a b:Int×Int}{S:Sto}:gNe (zP a) (zP b) S=some (.bl (!tf (a=b)),S):=by
 show (eqN S deepMost (zP a) (zP b)).map _=_
 rw [show deepMost=58+2 from rfl,eqN_zP]
 rfl
theorem clause_W {w:RZ}{r d:Nat}{p:Int×Int}{S:Sto}{x4 x5 x6:Option D}{Q:Fl×Ev×Sto->Prop}(hn:S[1]? = some (.lst ((pls w w.length).map pD)))(h:AtZ w r d p)
  (q0:¬ Par w r d p -> ∀ r',Q (.rt (.bl false),r',S)) (q1:Par w r d p -> ∀ x4,Q (.nx,[some (zW w),some (.ref 1),some (.int r),some (.int d),x4,x5,x6],S)):
  W (p__law_is_web_1 [some (zW w),some (.ref 1),some (.int r),some (.int d),x4,x5,x6] S) Q:=by
 obtain ⟨row,a1,a2⟩:=h
 unfold p__law_is_web_1
 ((try walk_at "own wq");repeat (simp only [ixz_row a1,ixz_door a2];try walk_at "own wq"))
 ((try walk_at "own wq");repeat (simp only [notin_zP hn];try walk_at "own wq"))
 by_cases c1:∃ e∈pls w w.length,up e=p
 rotate_left
 ·rw [tf_f c1]
  walk_at "own wq"
  refine q0 (fun h=>c1 ?_) _
  obtain ⟨_,h1,h2,h3⟩:=h
  exact ⟨(p.1.toNat,p.2.toNat),mem_pls.mpr ⟨_,h3⟩,Prod.ext (by show ((p.1.toNat:Nat):Int)=p.1;lia) (by show ((p.2.toNat:Nat):Int)=p.2;lia)⟩
 rw [tf_t c1]
 walk_at "own wq"
 have e1:∀ S,gEq (zP p) (.tup [.int r,.int d]) S=some (.bl (tf (p=((r:Int),(d:Int)))),S):=fun S=>gEq_zP (a:=p) (b:=((r:Int),(d:Int)))
 ((try walk_at "own wq");repeat (simp only [e1];try walk_at "own wq"))
 by_cases c2:p=((r:Int),(d:Int))
 ·rw [tf_t c2]
  walk_at "own wq"
  exact q0 (fun h=>h.1 c2) _
 rw [tf_f c2]
 obtain ⟨e,he,rfl⟩:=c1
 obtain ⟨g,hg⟩:=mem_pls.mp he
 have hgg:=hg
 obtain ⟨row2,b1,b2⟩:=hg
 have e2:∀ S,gIxY (zP (up e)) (.int 0) S=some (.int (e.1:Nat),S):=fun S=>rfl
 have e3:∀ S,gIxY (zP (up e)) (.int 1) S=some (.int (e.2:Nat),S):=fun S=>rfl
 have e4:∀ S,gNe (zP g) (.tup [.int r,.int d]) S=some (.bl (!tf (g=((r:Int),(d:Int)))),S):=fun S=>gNe_zP (a:=g) (b:=((r:Int),(d:Int)))
 ((try walk_at "own wq");repeat (simp only [e2,e3,ixz_row b1,ixz_door b2,e4];try walk_at "own wq"))
 have t1:(up e).1.toNat=e.1:=Int.toNat_natCast _
 have t2:(up e).2.toNat=e.2:=Int.toNat_natCast _
 by_cases c3:g=((r:Int),(d:Int))
 ·rw [tf_t c3]
  walk_at "own wq"
  refine q1 ⟨c2,by unfold up;lia,by unfold up;lia,?_⟩ _
  rw [t1,t2,<- c3]
  exact hgg
 ·rw [tf_f c3]
  walk_at "own wq"
  refine q0 (fun h=>c3 ?_) _
  have h4:=h.2.2.2
  rw [t1,t2] at h4
  exact hgg.det h4
theorem lawisweb_W {w:RZ}{S:Sto}{Q:D×Sto->Prop}(q:Q (.bl (tf (GoodZ w)),S)):W (mCall 1 m__law_is_web [zW w] S) Q:=by
 refine callP rfl (by rw [D.unds,und_zW];rfl) ?_
 unfold m__law_is_web
 refine fnW ?_
 unfold b__law_is_web
 have bad:∀ {V},¬ FormZ w->(D.bl false,V)=((D.bl false,V):D×Sto)->Q (.bl false,S):=fun hf _=>by
  rw [tf_f (fun ⟨w',e,h,_⟩=>hf (by rw [e];exact h.form.1))] at q
  exact q
 by_cases hp:1<=w.length
 rotate_left
 ·((try walk_at "own wq");repeat (simp only [W_mCh,len_zW];try walk_at "own wq"))
  rw [decide_eq_false (show ¬ (1:Int)<=(w.length:Int) by lia)]
  walk_at "own wq"
  exact ⟨rfl,bad (V:=[]) (fun h=>hp h.1) rfl⟩
 by_cases hf:w.length<=8
 rotate_left
 ·((try walk_at "own wq");repeat (simp only [W_mCh,len_zW];try walk_at "own wq"))
  rw [decide_eq_true (show (1:Int)<=(w.length:Int) by lia)]
  walk_at "own wq"
  rw [decide_eq_false (show ¬ (w.length:Int)<=8 by lia)]
  walk_at "own wq"
  exact ⟨rfl,bad (V:=[]) (fun h=>hf h.2.1) rfl⟩
 have hne:w≠[]:=fun z=>by rw [z] at hp;simp at hp
 by_cases hrows:∀ row∈w,row.length<=4
 rotate_left
 ·refine seqWR ?_
  ((try walk_at "own wq");repeat (simp only [W_mCh,len_zW];try walk_at "own wq"))
  rw [decide_eq_true (show (1:Int)<=(w.length:Int) by lia)]
  walk_at "own wq"
  rw [decide_eq_true (show (w.length:Int)<=8 by lia)]
  walk_at "own wq"
  rw [show zW w = .tup (w.map zR) from rfl]
  refine sW_tup.mpr ?_
  refine mapW (f:=zR) (fun row=>D.int (row.length:Nat)) (fun r'=>∃ x,r'=[x]) rfl w _ ⟨_,rfl⟩ ?_ ?_
  ·rintro row hr r' ⟨x,rfl⟩
   ((try walk_at "own wq");repeat (simp only [len_zR];try walk_at "own wq"))
   exact ⟨_,rfl⟩
  rintro r' _
  refine ⟨fits_le (by rw [lM1];lia),?_⟩
  refine W_maxL (w:=w) rfl hne fun k hk=>?_
  have hk4:=hk.mpr hrows
  walk_at "own wq"
  rw [if_pos (decide_eq_true hk4)]
  exact .inr ⟨_,rfl,rfl,bad (V:=[]) (fun h=>hrows h.2.2) rfl⟩
 generalize hA0:([Ob.lst (w.map fun row=>D.int (row.length:Nat))]:Sto)=A0
 have lA0:A0.length=1:=by rw [<- hA0];rfl
 refine seqW (fun r V=>V=A0/\r=[some (zW w),none,none,none,none,none,none]) ?_ ?_
 ·((try walk_at "own wq");repeat (simp only [W_mCh,len_zW];try walk_at "own wq"))
  rw [decide_eq_true (show (1:Int)<=(w.length:Int) by lia)]
  walk_at "own wq"
  rw [decide_eq_true (show (w.length:Int)<=8 by lia)]
  walk_at "own wq"
  rw [show zW w = .tup (w.map zR) from rfl]
  refine sW_tup.mpr ?_
  refine mapW (f:=zR) (fun row=>D.int (row.length:Nat)) (fun r'=>∃ x,r'=[x]) rfl w _ ⟨_,rfl⟩ ?_ ?_
  ·rintro row hr r' ⟨x,rfl⟩
   ((try walk_at "own wq");repeat (simp only [len_zR];try walk_at "own wq"))
   exact ⟨_,rfl⟩
  rintro r' _
  refine ⟨fits_le (by rw [lM1];lia),?_⟩
  refine W_maxL (w:=w) rfl hne fun k hk=>?_
  have hk4:¬ 4<k:=fun z=>hk.mp z hrows
  walk_at "own wq"
  rw [if_neg (by rw [decide_eq_true_eq];exact hk4)]
  exact ⟨hA0,trivial⟩
 rintro r V ⟨e0,rfl⟩
 rw [e0]
 clear e0
 have hform:FormZ w:=⟨hp,hf,hrows⟩
 refine seqW (fun r V=>∃ G,Gar G/\V=A0 ++ .lst ((pls w w.length).map pD)::G/\r=[some (zW w),some (.ref 1),none,none,none,none,none]) ?_ ?_
 ·walk_at "own wq"
  refine places_W (fun row hr=>Nat.le_trans (hform.2.2 row hr) (by lia)) (by lia) fun G hG=>?_
  walk_at "own wq"
  exact ⟨G,hG,rfl,by rw [lA0]⟩
 rintro r V ⟨G,hG,rfl,rfl⟩
 generalize hA:A0++Ob.lst ((pls w w.length).map pD)::G=A
 have a1:A[1]? = some (.lst ((pls w w.length).map pD)):=by rw [<- hA,<- lA0,get_app0];rfl
 have l1:1<A.length:=(gE1.mp a1).1
 by_cases hpz:PairZ w
 rotate_left
 ·refine seqWR ?_
  rw [tf_f (fun ⟨w',e,h,_⟩=>hpz (by rw [e];exact h.form.2))] at q
  walk_at "own wq"
  refine sW_ref a1 ?_
  refine loopM_WR (fun i r V=>(∀ j r d p,j<i->(pls w w.length)[j]? = some (r,d)->AtZ w r d p->Par w r d p) /\ ∃ x2 x3 x4,V=A/\r=[some (zW w),some (.ref 1),x2,x3,x4,none,none]) _ 0 _ _ ⟨fun j _ _ _ h=>by lia,_,_,_,rfl,rfl⟩ (fun i r V h=>by
   obtain ⟨_,_,_,_,rfl,rfl⟩:=h
   exact okC_one a1) ?_ ?_
  ·rintro i dd hdd r V ⟨hdone,x2,x3,x4,rfl,rfl⟩
   rw [gP1] at hdd
   obtain ⟨⟨a,b⟩,hx,rfl⟩:=oM1.mp hdd
   obtain ⟨p,hat⟩:=mem_pls.mp (gM1 hx)
   unfold pD
   walk_at "own wq"
   refine clause_W a1 hat (fun hno r'=>?_) fun hyes x4=>?_
   ·exact .inr (.inl ⟨_,rfl,.inr ⟨_,rfl,rfl,q⟩⟩)
   ·refine .inl ⟨rfl,fun j r d p' hj h1 h2=>?_,_,_,_,rfl,rfl⟩
    by_cases e:j=0+i
    ·subst e
     rw [Nat.zero_add,hx] at h1;cases h1
     rw [<- hat.det h2];exact hyes
    ·exact hdone j r d p' (by lia) h1 h2
  ·rintro r V ⟨hdone,x2,x3,x4,rfl,rfl⟩
   refine (hpz fun r d p h=>?_).elim
   obtain ⟨j,hj⟩:=List.getElem?_of_mem (mem_pls.mpr ⟨p,h⟩)
   exact hdone j r d p (by have:=(gE1.mp hj).1;rw [lM1];lia) hj h
 obtain ⟨w',rfl,hw⟩:=wp_of hform hpz
 have hlw:(upW w').length=w'.length:=by unfold upW;rw [lM1]
 have hgood:tf (GoodZ (upW w'))=tf (Con w'):=tf_i ⟨fun ⟨v,e,_,h⟩=>by rw [upW_inj e];exact h,fun h=>⟨w',rfl,hw,h⟩⟩
 rw [hgood] at q
 refine seqW (fun r V=>∃ x2 x3 x4,V=A/\r=[some (zW (upW w')),some (.ref 1),x2,x3,x4,none,none]) ?_ ?_
 ·walk_at "own wq"
  refine sW_ref a1 ?_
  refine loopM_W (fun i r V=>∃ x2 x3 x4,V=A/\r=[some (zW (upW w')),some (.ref 1),x2,x3,x4,none,none]) _ 0 _ _ ⟨_,_,_,rfl,rfl⟩ (fun i r V h=>by
    obtain ⟨_,_,_,rfl,rfl⟩:=h
    exact okC_one a1) ?_ ?_
  ·rintro i dd hdd r V ⟨x2,x3,x4,rfl,rfl⟩
   rw [gP1] at hdd
   obtain ⟨⟨a,b⟩,hx,rfl⟩:=oM1.mp hdd
   obtain ⟨p,hat⟩:=mem_pls.mp (gM1 hx)
   unfold pD
   walk_at "own wq"
   refine clause_W a1 hat (fun hno r'=>(hno (hpz _ _ _ hat)).elim) fun hyes x4=>?_
   exact ⟨rfl,_,_,_,rfl,rfl⟩
  rintro r V ⟨x2,x3,x4,rfl,rfl⟩
  exact ⟨rfl,_,_,_,rfl,rfl⟩
 rintro r V ⟨x2,x3,x4,e0,rfl⟩
 rw [e0]
 clear e0
 have h8:=hw.few
 refine seqW (fun r V=>V=A++[.lst (nmD (List.range w'.length))]/\r=[some (zW (upW w')),some (.ref 1),x2,x3,x4,some (.ref A.length),none]) ?_ ?_
 ·unfold mAsg
  rw [W_bind]
  refine W_LR1 (k:=w'.length) (S1:=A) ?_ (by lia) ?_
  ·simp only [mCons,mNil,mN,mV,b1,List.getElem?_cons_zero,oS1,len_zW,hlw,oP1]
  ·walk_at "own wq"
   rw [nums_nm]
   exact ⟨rfl,trivial⟩
 rintro r V ⟨rfl,rfl⟩
 have hxs:∀ r d e,At w' r d e->(r,d)∈pls (upW w') (upW w').length:=fun r d e h=>mem_pls.mpr ⟨up e,at_up.mpr ⟨e,h,rfl⟩⟩
 refine seqW (fun r V=>∃ lab x2 x3 x4 x6,Lab w' w'.length lab/\V=A++[.lst (nmD lab)]/\r=[some (zW (upW w')),some (.ref 1),x2,x3,x4,some (.ref A.length),x6]) ?_ ?_
 ·((try walk_at "own wq");repeat (simp only [len_zW,hlw];try walk_at "own wq"))
  refine ⟨bnd_nat (by lia),?_⟩
  rw [nums0,Int.toNat_natCast]
  refine loopM_W (fun t r V=>∃ lab x2 x3 x4 x6,Lab w' t lab/\V=A++[.lst (nmD lab)]/\r=[some (zW (upW w')),some (.ref 1),x2,x3,x4,some (.ref A.length),x6]) _ 0 _ _ ⟨_,_,_,_,_,Lab.start hw,rfl,rfl⟩ (fun _ _ _ _=>rfl) ?_ ?_
  ·rintro t dd hdd r V ⟨lab0,x2,x3,x4,x6,L0,rfl,rfl⟩
   walk_at "own wq"
   unfold p__law_is_web_3
   have a1':∀ l:List D,(A++[Ob.lst l])[1]? = some (.lst ((pls (upW w') (upW w').length).map pD)):=fun l=>by rw [gL1 l1];exact a1
   walk_at "own wq"
   refine sW_ref (a1' _) ?_
   refine loopM_W (fun i r V=>∃ lab x2 x3 x4 x6,i<=(pls (upW w') (upW w').length).length/\LabI w' (0+t) lab0 (pls (upW w') (upW w').length) i lab/\V=A++[.lst (nmD lab)]/\r=[some (zW (upW w')),some (.ref 1),x2,x3,x4,some (.ref A.length),x6]) _ 0 _ _ ⟨_,_,_,_,_,by lia,L0.go,rfl,rfl⟩ (fun i r V h=>by
    obtain ⟨_,_,_,_,_,_,_,rfl,rfl⟩:=h
    exact okC_one (a1' _)) ?_ ?_
   ·rintro i dd hdd r V ⟨lab,x2,x3,x4,x6,hi,L,rfl,rfl⟩
    rw [gP1] at hdd
    obtain ⟨⟨a,b⟩,hx,rfl⟩:=oM1.mp hdd
    have hil:=(gE1.mp hx).1
    obtain ⟨p,hat⟩:=mem_pls.mp (gM1 hx)
    obtain ⟨e,hat',rfl⟩:=at_up.mp hat
    have halt:=hat'.lt
    have hblt:=(hw.back _ _ _ hat').lt
    obtain ⟨va,hva⟩:∃ v,lab[a]? = some v:=⟨_,gG1 (by rw [L.len];exact halt)⟩
    obtain ⟨vb,hvb⟩:∃ v,lab[e.1]? = some v:=⟨_,gG1 (by rw [L.len];exact hblt)⟩
    obtain ⟨row,c1,c2⟩:=hat
    have e2:∀ S,gIxY (zP (up e)) (.int 0) S=some (.int (e.1:Nat),S):=fun S=>rfl
    unfold pD
    walk_at "own wq"
    unfold p__law_is_web_2
    walk_at "own wq"
    have g0:(A++[Ob.lst (nmD lab)])[A.length]? = some (.lst (nmD lab)):=by rw [get_app0];rfl
    refine W_ixL (i:=a) g0 (x:=.int (va:Nat)) (by rw [nmD,gP1,hva];rfl) ?_
    ((try walk_at "own wq");repeat (simp only [ixz_row c1,ixz_door c2,e2];try walk_at "own wq"))
    refine W_ixL (i:=e.1) g0 (x:=.int (vb:Nat)) (by rw [nmD,gP1,hvb];rfl) ?_
    ((try walk_at "own wq");repeat (simp only [min_int];try walk_at "own wq"))
    refine W_setL (i:=a) g0 (by rw [nm_len,L.len];exact halt) ?_
    refine ⟨lab.set a (min va vb),_,_,_,_,by lia,?_,?_,rfl⟩
    ·simp only [Nat.zero_add] at L ⊢
     exact L.step hw hx hat' hva hvb
    ·rw [List.set_append_right _ _ (nR1 _),Nat.sub_self]
     unfold nmD
     rw [List.map_set]
     rfl
   ·rintro r V ⟨lab,x2,x3,x4,x6,hi,L,rfl,rfl⟩
    rw [lM1] at L
    simp only [Nat.zero_add] at L L0 ⊢
    exact ⟨trivial,_,_,_,_,_,L.done hw L0 hxs,rfl,rfl⟩
  ·rintro r V ⟨lab,x2,x3,x4,x6,L,rfl,rfl⟩
   rw [lM1,List.length_range,Nat.zero_add] at L
   exact ⟨rfl,_,_,_,_,_,L,rfl,rfl⟩
 rintro r V ⟨lab,x2',x3',x4',x6,L,rfl,rfl⟩
 ((try walk_at "own wq");repeat (simp only [len_zW,hlw];try walk_at "own wq"))
 refine W_mulL (k:=w'.length) (xs:=[.int 0]) (by rw [get_app];rfl) (by lia) (by decide) ?_
 rw [rep_nm]
 have g1:(A++[Ob.lst (nmD lab),Ob.lst [D.int 0]]++[Ob.lst (nmD (List.replicate w'.length 0))])[A.length]? = some (.lst (nmD lab)):=by simp
 have g2:(A++[Ob.lst (nmD lab),Ob.lst [D.int 0]]++[Ob.lst (nmD (List.replicate w'.length 0))])[(A++[Ob.lst (nmD lab),Ob.lst [D.int 0]]).length]? = some (.lst (nmD (List.replicate w'.length 0))):=by rw [get_app0];rfl
 refine W.of (gEq_nm g1 g2 (by rw [lR1];exact L.len)) ?_
 refine ⟨rfl,?_⟩
 have:tf (lab=List.replicate w'.length 0)=tf (Con w'):=tf_i L.end
 rw [this]
 exact q
noncomputable def putZ (w:RZ)(r d:Nat)(g:Int×Int):RZ:=w.set r ((rowZ w r).set d g)
noncomputable def Shp (w w':RZ):Prop:=w'.map List.length=w.map List.length
theorem Shp.refl (w:RZ):Shp w w:=rfl
theorem Shp.trans {a b c:RZ}(h:Shp a b)(k:Shp b c):Shp a c:=Eq.trans k h
theorem Shp.len {a b:RZ}(h:Shp a b):b.length=a.length:=by
 have:=congrArg List.length h
 rwa [lM1,lM1] at this
theorem Shp.row {a b:RZ}(h:Shp a b){r:Nat}:(b[r]?).map List.length=(a[r]?).map List.length:=by
 have:=congrArg (·[r]?) h
 simpa using this
theorem Shp.at {a b:RZ}(h:Shp a b){r d:Nat}(k:∃ p,AtZ a r d p):∃ p,AtZ b r d p:=by
 obtain ⟨p,row,h1,h2⟩:=k
 have h3:=h.row (r:=r)
 rw [h1] at h3
 obtain ⟨row',h4,h5⟩:=oM1.mp h3
 have h6:=(gE1.mp h2).1
 exact ⟨row'[d]'(by lia),row',h4,gG1 (by lia)⟩
theorem Shp.le {a b:RZ}(h:Shp a b){k:Nat}(hk:∀ row∈a,row.length<=k):∀ row∈b,row.length<=k:=fun row hr=>by
 have:row.length∈b.map List.length:=List.mem_map.mpr ⟨row,hr,rfl⟩
 rw [show b.map List.length=a.map List.length from h] at this
 obtain ⟨row',h1,h2⟩:=List.mem_map.mp this
 rw [<- h2]
 exact hk row' h1
theorem put_shp {w:RZ}{r d:Nat}{g:Int×Int}:Shp w (putZ w r d g):=by
 unfold Shp putZ
 refine List.ext_getElem? fun i=>?_
 rw [gP1,gP1,List.getElem?_set]
 by_cases h:r=i
 ·subst h
  rw [if_pos rfl]
  by_cases hl:r<w.length
  ·rw [if_pos hl,gG1 hl]
   unfold rowZ
   rw [gG1 hl]
   simp
  ·rw [if_neg hl,List.getElem?_eq_none (by lia)]
 ·rw [if_neg h]
theorem refs_range:∀ n k:Nat,refs k n=(List.range n).map fun i=>D.ref (k+i)
 | 0,k=>rfl
 | n+1,k=>by
  rw [refs,refs_range n,List.range_succ_eq_map,mP1,List.map_map]
  refine congrArg (D.ref k :: ·) (List.map_congr_left fun i _=>?_)
  show D.ref (k+1+i)=D.ref (k+(i+1))
  rw [show k+1+i=k+(i+1) by lia]
theorem range_rows {β:Type}(f:List (Int×Int)->β)(w:RZ):((List.range w.length).map fun i=>f (rowZ w i))=w.map f:=by
 refine List.ext_getElem? fun i=>?_
 rw [gP1,gP1]
 by_cases h:i<w.length
 ·rw [List.getElem?_range h,gG1 h]
  have e:rowZ w i=w[i]:=by unfold rowZ;rw [gG1 h];rfl
  show some (f (rowZ w i))=some (f w[i])
  rw [e]
 ·rw [List.getElem?_eq_none (by rw [List.length_range];lia),List.getElem?_eq_none (by lia)]
  rfl
noncomputable def rOb (row:List (Int×Int)):Ob:=.lst (row.map zP)
noncomputable def itm:D->List D
 | .tup xs=>xs
 | _=>[]
theorem put_W {w:RZ}{r d:Nat}{g:Int×Int}{S:Sto}{Q:D×Sto->Prop}(h:∃ p,AtZ w r d p)(hl:w.length<=100)(h8:∀ row∈w,row.length<=100)(q:Q (zW (putZ w r d g),S)):W (mCall 3 m__law_put [zW w,pD (r,d),zP g] S) Q:=by
 refine callP rfl (by rw [D.unds,und_zW];rfl) ?_
 unfold m__law_put
 refine fnW ?_
 unfold b__law_put
 obtain ⟨p,row,h1,h2⟩:=h
 have hr:=(gE1.mp h1).1
 have hd:=(gE1.mp h2).1
 have hro:rowZ w r=row:=by unfold rowZ;rw [h1];rfl
 refine seqW (fun r' V=>V=w.map rOb++[.lst (refs 0 w.length)]/\r'=[some (zW w),some (pD (r,d)),some (zP g),some (.ref w.length)]) ?_ ?_
 ·walk_at "own wq"
  rw [show zW w = .tup (w.map zR) from rfl]
  refine sW_tup.mpr ?_
  obtain ⟨r',e,_⟩:=loopF_fresh (g:=gN 0) (t:=mTrue) (e:=mN (b1 gLst) (mCons (mV 0) mNil)) (fun r=>∃ x,r=[x]) itm (w.map zR) [none] [] ⟨_,rfl⟩ (fun x hx r V ⟨y,hy⟩=>by
   subst hy
   obtain ⟨row,_,rfl⟩:=List.mem_map.mp hx
   exact ⟨[some (zR row)],rfl,rfl,rfl,_,rfl⟩)
  refine W.of e ?_
  rw [lM1]
  refine ⟨fits_le (by rw [refs_len];exact Nat.le_trans hl (by decide)),?_⟩
  have e3:([]++(w.map zR).map fun d=>Ob.lst (itm d))=w.map rOb:=by rw [List.nil_append,List.map_map];rfl
  rw [e3]
  walk_at "own wq"
  rw [lM1]
 rintro r' V ⟨rfl,rfl⟩
 have gl:∀ l:List Ob,l.length=w.length->(l++[Ob.lst (refs 0 w.length)])[w.length]? = some (.lst (refs 0 w.length)):=fun l e=>by rw [<- e,get_app0];rfl
 have p0:∀ S,gIxY (pD (r,d)) (.int 0) S=some (.int (r:Nat),S):=fun S=>rfl
 have p1:∀ S,gIxY (pD (r,d)) (.int 1) S=some (.int (d:Nat),S):=fun S=>rfl
 refine seqW (fun r' V=>V=(putZ w r d g).map rOb++[.lst (refs 0 w.length)]/\r'=[some (zW w),some (pD (r,d)),some (zP g),some (.ref w.length)]) ?_ ?_
 ·((try walk_at "own wq");repeat (simp only [p0];try walk_at "own wq"))
  refine W_ixL (i:=r) (gl _ (by rw [lM1])) (x:=.ref (0+r)) (refs_at hr) ?_
  rw [Nat.zero_add]
  ((try walk_at "own wq");repeat (simp only [p1];try walk_at "own wq"))
  have g2:(w.map rOb++[Ob.lst (refs 0 w.length)])[r]? = some (.lst (row.map zP)):=by
   rw [gL1 (by rw [lM1];exact hr),gP1,h1];rfl
  refine W_setL (i:=d) g2 (by rw [lM1];exact hd) ?_
  refine ⟨?_,trivial⟩
  rw [List.set_append_left _ _ (by rw [lM1];exact hr)]
  unfold putZ
  rw [List.map_set,hro]
  unfold rOb
  rw [List.map_set]
 rintro r' V ⟨rfl,rfl⟩
 have hpl:(putZ w r d g).length=w.length:=by unfold putZ;rw [List.length_set]
 have g3:=gl ((putZ w r d g).map rOb) (by rw [lM1];exact hpl)
 walk_at "own wq"
 refine sW_ref g3 ?_
 rw [refs_range]
 refine mapW (f:=fun i:Nat=>D.ref (0+i)) (fun i=>zR (rowZ (putZ w r d g) i)) (fun r=>∃ x,r=[x]) (okC_one (by rw [<- refs_range];exact g3)) (List.range w.length) _ ⟨_,rfl⟩ ?_ ?_
 ·rintro i hi r' ⟨x,rfl⟩
  have hi:=List.mem_range.mp hi
  have hrow:(putZ w r d g)[i]? = some (rowZ (putZ w r d g) i):=by
   unfold rowZ
   rw [gG1 (by rw [hpl];exact hi)];rfl
  rw [Nat.zero_add]
  walk_at "own wq"
  refine sW_ref (xs:=(rowZ (putZ w r d g) i).map zP) ?_ ?_
  ·rw [gL1 (by rw [lM1,hpl];exact hi),gP1,hrow];rfl
  ·exact ⟨rfl,_,rfl⟩
 ·rintro r' _
  refine ⟨fits_le (by rw [lM1,List.length_range];exact Nat.le_trans hl (by decide)),?_⟩
  walk_at "own wq"
  refine sW_ref (by rw [get_app];rfl) ?_
  have e:D.tup ((List.range w.length).map fun i=>zR (rowZ (putZ w r d g) i))=zW (putZ w r d g):=by
   unfold zW
   rw [<- hpl,range_rows]
  rw [e]
  exact ⟨und_zW 0 _,q⟩
theorem of_W2 {h g c r:Nat}{B U:Sto}{xs:List D}{Q:D×Sto->Prop}(s:HS h g c B U)(hc:c<=2^45)(hr:U[r]? = some (.lst xs))(hrh:r≠h)(hrg:r≠g)(hl:xs.length<=20000)(hne:0<xs.length)(hx:∀ x∈xs,x.und 0=true)
  (q:∀ x U',x∈xs->HS h g (c+1) B U'->HS h g (c+1) U U'->U'.length=U.length->Q (x,U')):W (mCall 2 m__law_of [.ref h,.ref r] U) Q:=by
 refine callB (c':=c+1) rfl rfl s ?_
 unfold m__law_of
 refine fnW ?_
 unfold b__law_of
 walk_at "own wq"
 refine sW_ref hr ?_
 dsimp only
 have s0:HS h g c U U:=HS.self s.hand s.shut
 refine take_W s0 (by lia) (by lia) (by lia) fun j U' h1 h2 h3 hj=>?_
 have hj':j<xs.length:=by lia
 refine W_ixL (i:=j) (h2.at hr hrh hrg) (gG1 hj') ?_
 exact ⟨h2,hx _ (List.getElem_mem hj'),fun U'' a b e=>q _ U'' (List.getElem_mem hj') a b e⟩
theorem number_W {h g c m:Nat}{B U:Sto}{Q:D×Sto->Prop}(s:HS h g c B U)(hc:c<=2^44)(q:∀ z U',HS h g (c+3) B U'->HS h g (c+3) U U'->U'.length=U.length->Q (.int z,U')):W (mCall 2 m__law_number [.ref h,.int m] U) Q:=by
 refine callB (c':=c+3) rfl rfl s ?_
 have hh:=s.hl
 have hg:=s.gl
 have hbl:=s.len
 have s0:HS h g c U U:=HS.self s.hand s.shut
 unfold m__law_number
 refine fnW ?_
 unfold b__law_number
 ((try walk_at "own wq");repeat (simp only [Mi.gSub,gNeg];try walk_at "own wq"))
 refine take_W s0 (by lia) (by lia) (by lia) fun k U1 s1 _ l1 hk=>?_
 ((try walk_at "own wq");repeat (simp only [gNeg];try walk_at "own wq"))
 refine powW (x:=10) (y:=30) (by decide) (by decide) ?_
 ((try walk_at "own wq");repeat (simp only [gNeg];try walk_at "own wq"))
 generalize hxs:[D.int 0,D.int 1,D.int ((m:Int)-1),D.int (m:Int),D.int (-1),D.int (k:Int),D.int (((10:Nat):Int)^30),D.int (-2)]=xs
 have hall:∀ x∈xs,∃ z,x=D.int z:=by
  rw [<- hxs]
  intro x hx
  simp only [List.mem_cons,List.not_mem_nil,or_false] at hx
  rcases hx with rfl | rfl | rfl | rfl | rfl | rfl | rfl | rfl<;>exact ⟨_,rfl⟩
 have hlen:xs.length=8:=by rw [<- hxs];rfl
 have hu:D.unds (U1++[Ob.lst xs]).length xs=true:=by
  rw [<- hxs];rfl
 have s2:HS h g (c+1) U (U1++[.lst xs]):=s1.app fun o ho=>by
  rw [List.mem_singleton] at ho;subst ho;rw [Ob.und];exact hu
 refine of_W2 s2 (by lia) (r:=U1.length) (xs:=xs) (by rw [get_app0];rfl) (by lia) (by lia) (by lia) (by lia) (fun x hx=>by obtain ⟨z,rfl⟩:=hall x hx;rfl) fun x U2 hx s3 _ _=>?_
 obtain ⟨z,rfl⟩:=hall x hx
 exact ⟨s3.more (by lia),rfl,fun U' a b l=>q z U' a b l⟩
theorem ifretW {c:FT}{m:FE}{b:FS}{r:Ev}{S:Sto}{Q:Fl×Ev×Sto->Prop}(C:Bool×Sto->Prop)(h1:W (c r S) C)(h2:∀ V,C (true,V)->W (m r V) fun p=>Q (.rt p.1,r,p.2))(h3:∀ V,C (false,V)->W (b r V) Q):W (mSeq (mIfS c (mRet m) mNx) b r S) Q:=by
 obtain ⟨⟨t,V⟩,e,hC⟩:=h1
 unfold mSeq mIfS
 simp only [e,oS1]
 cases t with
 | true=>
  rw [if_pos rfl]
  unfold mRet
  rw [W_bind,W_bind]
  exact (h2 V hC).mono fun p hp=>W_some.mpr (W_some.mpr hp)
 | false=>
  rw [if_neg (by decide)]
  exact h3 V hC
theorem eqI_W {i:Nat}{k:Nat}{z:Int}{r:Ev}{S:Sto}(h:r[i]? = some (some (.int (k:Int)))):W (mB (m2 (b2 gEq) (mV i) (mC (D.int z))) r S) fun t=>t=(((k:Int) == z),S):=by
 refine W.of (x:=(((k:Int) == z),S)) ?_ rfl
 simp only [mB,m2,b2,mV,mC,h,oS1,gEq_int]
theorem otherD_W {h g c k:Nat}{w:RZ}{B U:Sto}{Q:D×Sto->Prop}(s:HS h g c B U)(hc:c<=2^40)(hl:w.length<=100)(h8:∀ row∈w,row.length<=100)(q:∀ w' U',Shp w w'->HS h g (c+10) B U'->HS h g (c+10) U U'->U'.length=U.length->Q (zW w',U')):W (mCall 3 m__law_doors_otherwise [.ref h,zW w,.int k] U) Q:=by
 refine callB (c':=c+10) rfl (by rw [D.unds,D.unds,und_zW];rfl) s ?_
 have hh:h<U.length:=nL1 s.hl s.len
 have hg:g<U.length:=nL1 s.gl s.len
 have s0:HS h g c U U:=HS.self s.hand s.shut
 have fin:∀ w' V,Shp w w'->HS h g (c+10) U V->HS h g (c+10) U V/\(zW w').und 0=true /\ ∀ U',HS h g (c+10) B U'->HS h g (c+10) U U'->U'.length=U.length->Q (zW w',U'):=fun w' V a b=>⟨b,und_zW 0 _,fun U' x y z=>q w' U' a x y z⟩
 unfold m__law_doors_otherwise
 refine fnW ?_
 unfold b__law_doors_otherwise
 generalize hP:pls w w.length=P
 generalize hb:U.length=b at *
 have hPl:P.length<=20000:=by
  have:=pls_len (k:=100) h8 w.length (nR1 _)
  rw [hP] at this
  exact Nat.le_trans this (by lia)
 have hat:∀ e∈P,∃ p,AtZ w e.1 e.2 p:=fun e he=>mem_pls.mp (by rw [hP];exact he)
 refine seqW (fun r V=>HS h g c U V/\V[b]? = some (.lst (P.map pD))/\r=[some (.ref h),some (zW w),some (.int k),some (.ref b),none,none,none,none,none,none,none]) ?_ ?_
 ·walk_at "own wq"
  refine places_W h8 hl fun G hG=>?_
  rw [hP]
  walk_at "own wq"
  refine ⟨s0.app fun o ho=>?_,by rw [<- hb,get_app0];rfl,by rw [hb]⟩
  rcases List.mem_cons.mp ho with rfl | ho
  ·rw [Ob.und];exact pDs_und _
  ·exact hG.und o ho
 rintro r V ⟨s1,gb,rfl⟩
 refine ifretW (fun t=>t=(P.isEmpty,V++[.lst []])) ?_ (fun V1 e=>?_) fun V1 e=>?_
 ·walk_at "own wq"
  refine W.of (gEq_nil (xs:=P.map pD) (by rw [gL1 (gE1.mp gb).1];exact gb) (by rw [get_app0];rfl)) ?_
  walk_at "own wq"
  cases P<;>rfl
 ·injection e with e1 e2
  subst e2
  walk_at "own wq"
  exact fin _ _ (Shp.refl w) ((s1.app fun o ho=>by rw [List.mem_singleton] at ho;subst ho;rfl).more (by lia))
 injection e with e1 e2
 have hne:0<P.length:=by cases P with | nil=>cases e1 | cons=>simp
 subst e2
 have s2:HS h g c U (V++[.lst []]):=s1.app fun o ho=>by rw [List.mem_singleton] at ho;subst ho;rfl
 have gb2:(V++[Ob.lst []])[b]? = some (.lst (P.map pD)):=by rw [gL1 (gE1.mp gb).1];exact gb
 generalize V++[Ob.lst []]=V2 at s2 gb2
 have hbh:b≠h:=by lia
 have hbg:b≠g:=by lia
 refine seqW (fun r V=>∃ a o,a∈P/\o∈P/\HS h g (c+2) U V/\V[b]? = some (.lst (P.map pD))/\r=[some (.ref h),some (zW w),some (.int k),some (.ref b),some (pD a),some (pD o),none,none,none,none,none]) ?_ ?_
 ·walk_at "own wq"
  refine of_W2 s2 (by lia) gb2 hbh hbg (by rw [lM1];exact hPl) (by rw [lM1];exact hne) (fun x hx=>by obtain ⟨e,_,rfl⟩:=List.mem_map.mp hx;rfl) fun x V3 hx s3 s3' _=>?_
  obtain ⟨a,ha,rfl⟩:=List.mem_map.mp hx
  have gb3:=s3'.at gb2 hbh hbg
  walk_at "own wq"
  refine of_W2 s3 (by lia) gb3 hbh hbg (by rw [lM1];exact hPl) (by rw [lM1];exact hne) (fun x hx=>by obtain ⟨e,_,rfl⟩:=List.mem_map.mp hx;rfl) fun x V4 hx s4 s4' _=>?_
  obtain ⟨o,ho,rfl⟩:=List.mem_map.mp hx
  walk_at "own wq"
  exact ⟨a,o,ha,ho,s4,s4'.at gb3 hbh hbg,rfl⟩
 rintro r V ⟨a,o,ha,ho,s3,gb3,rfl⟩
 obtain ⟨pa,ha'⟩:=hat a ha
 obtain ⟨po,ho'⟩:=hat o ho
 have pix:∀ (e:Nat×Nat) S,gIxY (pD e) (.int 0) S=some (.int (e.1:Nat),S):=fun e S=>rfl
 have pix1:∀ (e:Nat×Nat) S,gIxY (pD e) (.int 1) S=some (.int (e.2:Nat),S):=fun e S=>rfl
 refine seqW (fun r V'=>V'=V/\r=[some (.ref h),some (zW w),some (.int k),some (.ref b),some (pD a),some (pD o),some (zP pa),some (zP po),none,none,none]) ?_ ?_
 ·obtain ⟨ra,a1,a2⟩:=ha'
  obtain ⟨ro,o1,o2⟩:=ho'
  ((try walk_at "own wq");repeat (simp only [pix,pix1,ixz_row a1,ixz_door a2];try walk_at "own wq"))
  ((try walk_at "own wq");repeat (simp only [pix,pix1,ixz_row o1,ixz_door o2];try walk_at "own wq"))
 rintro r V' ⟨e0,rfl⟩
 rw [e0]
 clear e0
 refine ifretW (fun t=>t=(((k:Int) == 0),V)) (eqI_W rfl) (fun V1 e=>?_) fun V1 e=>?_
 ·injection e with e1 e2
  subst e2
  ((try walk_at "own wq");repeat (simp only [len_zW];try walk_at "own wq"))
  refine number_W s3 (by lia) fun z V4 s4 _ _=>?_
  ((try walk_at "own wq");repeat (simp only [pair1];try walk_at "own wq"))
  refine put_W (g:=(z,pa.2)) (hat a ha) hl h8 ?_
  exact fin _ _ put_shp (s4.more (by lia))
 injection e with _ e2
 subst e2
 refine ifretW (fun t=>t=(((k:Int) == 1),V1)) (eqI_W rfl) (fun V1 e=>?_) fun V1 e=>?_
 ·injection e with e1 e2
  subst e2
  ((try walk_at "own wq");repeat (simp only [pair0];try walk_at "own wq"))
  refine number_W (m:=4) s3 (by lia) fun z V4 s4 _ _=>?_
  walk_at "own wq"
  refine put_W (g:=(pa.1,z)) (hat a ha) hl h8 ?_
  exact fin _ _ put_shp (s4.more (by lia))
 injection e with _ e2
 subst e2
 refine ifretW (fun t=>t=(((k:Int) == 2),V1)) (eqI_W rfl) (fun V1 e=>?_) fun V1 e=>?_
 ·injection e with e1 e2
  subst e2
  walk_at "own wq"
  refine put_W (hat a ha) hl h8 ?_
  walk_at "own wq"
  have sp:Shp w (putZ w a.1 a.2 po):=put_shp
  refine put_W (sp.at (hat o ho)) (by rw [sp.len];exact hl) (sp.le h8) ?_
  exact fin _ _ (sp.trans put_shp) (s3.more (by lia))
 injection e with _ e2
 subst e2
 generalize hxs:[D.tup [pD a,pD o],D.tup [pD o,pD a],D.tup [zP pa,zP po],D.tup [zP po,zP pa]]=xs
 have hxu:∀ n,D.unds n xs=true:=fun n=>by rw [<- hxs];rfl
 refine seqW (fun r V'=>V'=V1++[.lst xs]/\r=[some (.ref h),some (zW w),some (.int k),some (.ref b),some (pD a),some (pD o),some (zP pa),some (zP po),some (.ref V1.length),none,none]) ?_ ?_
 ·walk_at "own wq"
  rw [hxs]
  exact ⟨rfl,trivial⟩
 rintro r V' ⟨e0,rfl⟩
 rw [e0]
 clear e0
 have s4:HS h g (c+2) U (V1++[.lst xs]):=s3.app fun o ho=>by rw [List.mem_singleton] at ho;subst ho;rw [Ob.und];exact hxu _
 have gb4:(V1++[Ob.lst xs])[b]? = some (.lst (P.map pD)):=by rw [gL1 (gE1.mp gb3).1];exact gb3
 have gx:(V1++[Ob.lst xs])[V1.length]? = some (.lst xs):=by rw [get_app0];rfl
 generalize V1++[Ob.lst xs]=V4 at s4 gb4 gx
 generalize V1.length=n at gx
 refine ifretW (fun t=>t=((!(tf (∃ e∈P,up e=pa)&&tf (∃ e∈P,up e=po))),V4)) ?_ (fun V1 e=>?_) fun V1 e=>?_
 ·((try walk_at "own wq");repeat (simp only [notin_zP gb4];try walk_at "own wq"))
  cases tf (∃ e∈P,up e=pa) with
  | false=>
   walk_at "own wq"
   rfl
  | true=>
   ((try walk_at "own wq");repeat (simp only [notin_zP gb4];try walk_at "own wq"))
   cases tf (∃ e∈P,up e=po)<;>rfl
 ·injection e with e1 e2
  subst e2
  walk_at "own wq"
  refine put_W (g:=up o) (hat a ha) hl h8 ?_
  exact fin _ _ put_shp (s4.more (by lia))
 injection e with e1 e2
 subst e2
 have e1:(tf (∃ e∈P,up e=pa)&&tf (∃ e∈P,up e=po))=true:=by
  cases h:(tf (∃ e∈P,up e=pa)&&tf (∃ e∈P,up e=po)) with
  | true=>rfl
  | false=>rw [h] at e1;cases e1
 rw [bA1,tf_e,tf_e] at e1
 obtain ⟨⟨ea,hea,rfl⟩,⟨eo,heo,rfl⟩⟩:=e1
 have hitem:∀ d∈xs,∃ e p,e∈P/\d = .tup [pD e,zP p]:=fun d hd=>by
  rw [<- hxs] at hd
  simp only [List.mem_cons,List.not_mem_nil,or_false] at hd
  rcases hd with rfl | rfl | rfl | rfl
  ·exact ⟨a,up o,ha,rfl⟩
  ·exact ⟨o,up a,ho,rfl⟩
  ·exact ⟨ea,up eo,hea,rfl⟩
  ·exact ⟨eo,up ea,heo,rfl⟩
 refine seqW (fun r V'=>∃ w' y9 y10,Shp w w'/\V'=V1/\r=[some (.ref h),some (zW w'),some (.int k),some (.ref b),some (pD a),some (pD o),some (zP (up ea)),some (zP (up eo)),some (.ref n),y9,y10]) ?_ ?_
 ·walk_at "own wq"
  refine sW_ref gx ?_
  refine loopM_W (fun i r V'=>∃ w' y9 y10,Shp w w'/\V'=V1/\r=[some (.ref h),some (zW w'),some (.int k),some (.ref b),some (pD a),some (pD o),some (zP (up ea)),some (zP (up eo)),some (.ref n),y9,y10]) _ 0 _ _ ⟨w,_,_,Shp.refl w,rfl,rfl⟩ (fun i r V h=>by
   obtain ⟨_,_,_,_,rfl,rfl⟩:=h
   exact okC_one gx) ?_ ?_
  ·rintro i d hd r V' ⟨w',y9,y10,sp,rfl,rfl⟩
   obtain ⟨e,p,he,rfl⟩:=hitem d (gM1 hd)
   walk_at "own wq"
   unfold p__law_doors_otherwise_1
   walk_at "own wq"
   refine put_W (sp.at (hat e he)) (by rw [sp.len];exact hl) (sp.le h8) ?_
   walk_at "own wq"
   exact ⟨_,_,_,sp.trans put_shp,rfl⟩
  ·rintro r V' ⟨w',y9,y10,sp,rfl,rfl⟩
   exact ⟨rfl,w',_,_,sp,rfl,rfl⟩
 rintro r V' ⟨w',y9,y10,sp,e0,rfl⟩
 rw [e0]
 walk_at "own wq"
 exact fin _ _ sp (s4.more (by lia))
theorem cutB {α:Type}(f:α->D)(l:List α)(a:Nat):∃ ys:List α,Mi.cutD (l.map f) (some (a:Int)) (some ((a:Int)+1))=ys.map f/\ys.length<=1:=by
 refine ⟨(l.drop (min a l.length)).take (min (a+1) l.length-min a l.length),?_,?_⟩
 ·unfold Mi.cutD
  rw [show ((a:Int)+1)=((a+1:Nat):Int) by lia,HT.sIx_nat,HT.sIx_nat,lM1,List.map_take,List.map_drop]
 ·rw [List.length_take]
  lia
theorem cutTf {α:Type}(f:α->D)(l:List α)(k:Nat):Mi.cutD (l.map f) none (some (k:Int))=(l.take k).map f:=by rw [cutT,List.map_take]
theorem cutUf {α:Type}(f:α->D)(l:List α)(k:Nat):Mi.cutD (l.map f) (some (k:Int)) none=(l.drop k).map f:=by rw [cutU,List.map_drop]
theorem cutUf1 {α:Type}(f:α->D)(l:List α)(k:Nat):Mi.cutD (l.map f) (some ((k:Int)+1)) none=(l.drop (k+1)).map f:=by rw [show ((k:Int)+1)=((k+1:Nat):Int) by lia,cutUf]
theorem ifsW {c:FT}{a b:FS}{r:Ev}{S:Sto}{Q:Fl×Ev×Sto->Prop}(C:Bool×Sto->Prop)(R:Ev->Sto->Prop)(h1:W (c r S) C)(h2:∀ V,C (true,V)->W (a r V) fun p=>p.1 = .nx/\R p.2.1 p.2.2)(h3:∀ V,C (false,V)->R r V)(h4:∀ r V,R r V->W (b r V) Q):W (mSeq (mIfS c a mNx) b r S) Q:=by
 refine seqW R ?_ h4
 obtain ⟨⟨t,V⟩,e,hC⟩:=h1
 unfold mIfS
 simp only [e,oS1]
 cases t with
 | true=>rw [if_pos rfl];exact h2 V hC
 | false=>rw [if_neg (by decide)];exact W_some.mpr ⟨rfl,h3 V hC⟩
noncomputable def Few (n k:Nat)(w:RZ):Prop:=w.length<=n /\ ∀ row∈w,row.length<=k
theorem web_few {w:Rows2}(h:WebO w):Few 8 4 (upW w):=by
 refine ⟨by unfold upW;rw [lM1];exact h.few,fun row hr=>?_⟩
 obtain ⟨row',h1,rfl⟩:=List.mem_map.mp hr
 rw [lM1]
 exact h.le row' h1
theorem otherR_W {h g c k N K:Nat}{w:RZ}{B U:Sto}{Q:D×Sto->Prop}(s:HS h g c B U)(hc:c<=2^38)(hf:Few N K w)(hN:N<=80)(hK:K<=80)(h4:4<=K)(hw0:0<w.length)(q:∀ w' U',Few (N+8) (K+1) w'->HS h g (c+1010) B U'->HS h g (c+1010) U U'->U'.length=U.length->Q (zW w',U')):W (mCall 3 m__law_rooms_otherwise [.ref h,zW w,.int k] U) Q:=by
 refine callB (c':=c+1010) rfl (by rw [D.unds,D.unds,und_zW];rfl) s ?_
 have hh:h<U.length:=nL1 s.hl s.len
 have hg:g<U.length:=nL1 s.gl s.len
 have s0:HS h g c U U:=HS.self s.hand s.shut
 have fin:∀ w' V,Few (N+8) (K+1) w'->HS h g (c+1010) U V->HS h g (c+1010) U V/\(zW w').und 0=true /\ ∀ U',HS h g (c+1010) B U'->HS h g (c+1010) U U'->U'.length=U.length->Q (zW w',U'):=fun w' V a b=>⟨b,und_zW 0 _,fun U' x y z=>q w' U' a x y z⟩
 obtain ⟨hl,h8⟩:=hf
 unfold m__law_rooms_otherwise
 refine fnW ?_
 unfold b__law_rooms_otherwise
 refine seqW (fun r V=>∃ ro:Nat,ro<w.length/\HS h g (c+1) U V/\r=[some (.ref h),some (zW w),some (.int k),some (.int ro),none,none]) ?_ ?_
 ·((try walk_at "own wq");repeat (simp only [len_zW];try walk_at "own wq"))
  refine take_W s0 (by lia) (by lia) (by lia) fun ro V s1 _ _ hr=>?_
  walk_at "own wq"
  exact ⟨ro,by lia,s1,rfl⟩
 rintro r V ⟨ro,hro,s1,rfl⟩
 obtain ⟨row,hrow⟩:∃ row,w[ro]? = some row:=⟨_,gG1 hro⟩
 have hrl:=h8 row (gM1 hrow)
 refine seqW (fun r V'=>V'=V/\r=[some (.ref h),some (zW w),some (.int k),some (.int ro),some (zR row),none]) ?_ ?_
 ·((try walk_at "own wq");repeat (simp only [ixz_row hrow];try walk_at "own wq"))
 rintro r V' ⟨e0,rfl⟩
 rw [e0]
 clear e0
 refine seqW (fun r V=>∃ at_:Nat,at_<=row.length/\HS h g (c+2) U V/\r=[some (.ref h),some (zW w),some (.int k),some (.int ro),some (zR row),some (.int at_)]) ?_ ?_
 ·((try walk_at "own wq");repeat (simp only [len_zR];try walk_at "own wq"))
  refine take_W s1 (by lia) (by lia) (by lia) fun a V s2 _ _ hr=>?_
  walk_at "own wq"
  exact ⟨a,by lia,s2,rfl⟩
 rintro r V2 ⟨a,ha,s2,rfl⟩
 clear s1 V V'
 refine ifsW (fun t=>t=(((k:Int) == 4),V2)) (fun r V=>∃ row1:List (Int×Int),row1.length<=K/\V=V2/\r=[some (.ref h),some (zW w),some (.int k),some (.int ro),some (zR row1),some (.int a)]) (eqI_W rfl) (fun V1 e=>?_) (fun V1 e=>?_) ?_
 ·injection e with e1 e2
  subst e2
  unfold mAsg
  rw [W_bind]
  refine W.of (x:=(zR (row.take a++row.drop (a+1)),V1)) ?_ ?_
  ·obtain ⟨x,ex,rfl⟩:W (mSlX (mV 4) oNone (oSome (mV 5)) [some (.ref h),some (zW w),some (.int k),some (.int ro),some (zR row),some (.int a)] V1) fun x=>x=(.tup ((row.take a).map zP),V1):=W_slT (xs:=row.map zP) (a:=none) (b:=some (a:Int)) rfl rfl rfl (by rw [cutTf])
   obtain ⟨y,ey,rfl⟩:W (mSlX (mV 4) (oSome (m2 (b2 gAdd) (mV 5) (mC (D.int 1)))) oNone [some (.ref h),some (zW w),some (.int k),some (.int ro),some (zR row),some (.int a)] V1) fun x=>x=(.tup ((row.drop (a+1)).map zP),V1):=W_slT (xs:=row.map zP) (a:=some ((a:Int)+1)) (b:=none) rfl rfl rfl (by rw [cutUf1])
   have ef:fits (((row.take a).map zP).length+((row.drop (a+1)).map zP).length)=true:=fits_le (by simp only [lM1,List.length_take,List.length_drop];lia)
   obtain ⟨z,ez,rfl⟩:W (gAdd (.tup ((row.take a).map zP)) (.tup ((row.drop (a+1)).map zP)) V1) fun z=>z=(zR (row.take a++row.drop (a+1)),V1):=W_addT.mpr ⟨ef,by rw [<- List.map_append];rfl⟩
   show ((mSlX (mV 4) oNone (oSome (mV 5)) _ V1).bind fun p=>(mSlX (mV 4) (oSome (m2 (b2 gAdd) (mV 5) (mC (D.int 1)))) oNone _ p.2).bind fun q=>b2 gAdd [p.1,q.1] q.2)=_
   rw [ex,oS1]
   dsimp only
   rw [ey,oS1]
   exact ez
  ·walk_at "own wq"
   exact ⟨row.take a++row.drop (a+1),by simp only [lA1,List.length_take,List.length_drop];lia,rfl⟩
 ·injection e with e1 e2
  exact ⟨row,hrl,e2,rfl⟩
 rintro r V ⟨row1,hl1,e0,rfl⟩
 rw [e0]
 clear e0 hrl hrow ha row
 refine ifsW (fun t=>t=(((k:Int) == 5),V2)) (fun r V=>∃ row2:List (Int×Int),row2.length<=K+1/\(k≠5->row2.length<=K)/\HS h g (c+4) U V/\r=[some (.ref h),some (zW w),some (.int k),some (.int ro),some (zR row2),some (.int a)]) (eqI_W rfl) (fun V1 e=>?_) (fun V1 e=>?_) ?_
 ·injection e with e1 e2
  subst e2
  have hk5:k=5:=by have:=beq_iff_eq.mp e1.symm;lia
  walk_at "own wq"
  refine W_slT (xs:=row1.map zP) (a:=none) (b:=some (a:Int)) rfl rfl rfl ?_
  rw [cutTf]
  ((try walk_at "own wq");repeat (simp only [len_zW];try walk_at "own wq"))
  refine take_W s2 (by lia) (by lia) (by lia) fun x V3 s3 _ _ _=>?_
  walk_at "own wq"
  refine take_W s3 (by lia) (by lia) (by lia) fun y V4 s4 _ _ _=>?_
  walk_at "own wq"
  refine ⟨fits_le (by simp only [lM1,List.length_take];lia),?_⟩
  refine W_slT (xs:=row1.map zP) (a:=some (a:Int)) (b:=none) rfl rfl rfl ?_
  rw [cutUf]
  walk_at "own wq"
  refine ⟨fits_le (by simp only [lA1,lM1,List.length_take,List.length_drop,lC1,List.length_nil];lia),row1.take a++[((x:Int),(y:Int))]++row1.drop a,?_,fun z=>(z hk5).elim,s4,?_⟩
  ·simp only [lA1,List.length_take,List.length_drop,lC1,List.length_nil];lia
  ·unfold zR
   rw [List.map_append,List.map_append,List.append_assoc]
   rfl
 ·injection e with e1 e2
  subst e2
  exact ⟨row1,by lia,fun _=>hl1,s2.more (by lia),rfl⟩
 rintro r V3 ⟨row2,hl2,hl2',s3,rfl⟩
 clear hl1 row1 s2 V2 V
 refine ifsW (fun t=>t=(((k:Int) == 6),V3)) (fun r V=>∃ row3:List (Int×Int),row3.length<=K+1/\V=V3/\r=[some (.ref h),some (zW w),some (.int k),some (.int ro),some (zR row3),some (.int a)]) (eqI_W rfl) (fun V1 e=>?_) (fun V1 e=>?_) ?_
 ·injection e with e1 e2
  subst e2
  have hk6:k=6:=by have:=beq_iff_eq.mp e1.symm;lia
  have hl3:=hl2' (by lia)
  walk_at "own wq"
  obtain ⟨ys,ey,hy⟩:=cutB zP row2 a
  refine W_slT (xs:=row2.map zP) (a:=some (a:Int)) (b:=some ((a:Int)+1)) rfl rfl rfl ?_
  rw [ey]
  refine W_addT.mpr ⟨fits_le (by simp only [lM1];lia),?_⟩
  walk_at "own wq"
  refine ⟨row2++ys,by rw [lA1];lia,?_⟩
  unfold zR
  rw [List.map_append]
 ·injection e with e1 e2
  exact ⟨row2,hl2,e2,rfl⟩
 rintro r V ⟨row3,hl3,e0,rfl⟩
 rw [e0]
 clear e0 hl2 hl2' row2
 have tkl:∀ j,(w.take j).length<=N:=fun j=>by rw [List.length_take];lia
 have mem_t:∀ {j:Nat} {row:List (Int×Int)},row∈w.take j->row.length<=K+1:=fun hr=>Nat.le_succ_of_le (h8 _ (List.mem_of_mem_take hr))
 have mem_d:∀ {j:Nat} {row:List (Int×Int)},row∈w.drop j->row.length<=K+1:=fun hr=>Nat.le_succ_of_le (h8 _ (List.mem_of_mem_drop hr))
 refine ifretW (fun t=>t=(((k:Int) == 7),V3)) (eqI_W rfl) (fun V1 e=>?_) fun V1 e=>?_
 ·injection e with e1 e2
  subst e2
  walk_at "own wq"
  refine W_slT (xs:=w.map zR) (a:=none) (b:=some (ro:Int)) rfl rfl rfl ?_
  rw [cutTf]
  refine W_slT (xs:=w.map zR) (a:=some ((ro:Int)+1)) (b:=none) rfl rfl rfl ?_
  rw [cutUf1]
  refine W_addT.mpr ⟨fits_le (by simp only [lM1,List.length_take,List.length_drop];lia),?_⟩
  rw [<- List.map_append]
  refine fin (w.take ro++w.drop (ro+1)) _ ⟨by simp only [lA1,List.length_take,List.length_drop];lia,fun row hr=>?_⟩ (s3.more (by lia))
  rcases List.mem_append.mp hr with hr | hr
  ·exact mem_t hr
  ·exact mem_d hr
 injection e with _ e2
 subst e2
 refine ifretW (fun t=>t=(((k:Int) == 8),V1)) (eqI_W rfl) (fun V2 e=>?_) fun V2 e=>?_
 ·injection e with e1 e2
  subst e2
  walk_at "own wq"
  refine W_slT (xs:=w.map zR) (a:=none) (b:=some (ro:Int)) rfl rfl rfl ?_
  rw [cutTf]
  walk_at "own wq"
  have s4:HS h g (c+4) U (V2++[.lst [.tup [],zR row3]]):=s3.app fun o ho=>by
   rw [List.mem_singleton] at ho;subst ho;rw [Ob.und,D.unds,D.unds,und_zR];rfl
  have hVl:=s3.len
  refine of_W2 s4 (by lia) (r:=V2.length) (xs:=[.tup [],zR row3]) (by rw [get_app0];rfl) (by lia) (by lia) (by simp) (by simp) (fun x hx=>by
   simp only [List.mem_cons,List.not_mem_nil,or_false] at hx
   rcases hx with rfl | rfl
   ·rfl
   ·exact und_zR 0 _) fun x V4 hx s5 _ _=>?_
  have:∃ row4:List (Int×Int),row4.length<=K+1/\x=zR row4:=by
   simp only [List.mem_cons,List.not_mem_nil,or_false] at hx
   rcases hx with rfl | rfl
   ·exact ⟨[],by simp,rfl⟩
   ·exact ⟨row3,hl3,rfl⟩
  obtain ⟨row4,hl4,rfl⟩:=this
  walk_at "own wq"
  refine ⟨fits_le (by simp only [lM1,List.length_take];lia),?_⟩
  refine W_slT (xs:=w.map zR) (a:=some (ro:Int)) (b:=none) rfl rfl rfl ?_
  rw [cutUf]
  refine W_addT.mpr ⟨fits_le (by simp only [lA1,lM1,List.length_take,List.length_drop,lC1,List.length_nil];lia),?_⟩
  have e:D.tup (((w.take ro).map zR++[zR row4])++(w.drop ro).map zR)=zW (w.take ro++[row4]++w.drop ro):=by
   unfold zW
   rw [List.map_append,List.map_append]
   rfl
  rw [e]
  refine fin _ _ ⟨by simp only [lA1,List.length_take,List.length_drop,lC1,List.length_nil];lia,fun row hr=>?_⟩ (s5.more (by lia))
  rcases List.mem_append.mp hr with hr | hr
  ·rcases List.mem_append.mp hr with hr | hr
   ·exact mem_t hr
   ·rw [List.mem_singleton] at hr;rw [hr];exact hl4
  ·exact mem_d hr
 injection e with _ e2
 subst e2
 refine ifretW (fun t=>t=(((k:Int) == 9),V2)) (eqI_W rfl) (fun V4 e=>?_) fun V4 e=>?_
 ·injection e with e1 e2
  subst e2
  walk_at "own wq"
  refine web_W s3 (by lia) fun w2 V5 hw2 s5 _ _=>?_
  rw [show dW w2 = .tup (w2.map dR) from rfl]
  refine sW_tup.mpr ?_
  have hw8:=hw2.few
  refine loopF_W (fun i acc r V=>i<=w2.length/\HS h g (c+1004) U V/\acc=(w2.take i).map (fun row=>zR (row.map fun p=>((w.length:Int)+(p.1:Int),(p.2:Int)))) /\ ∃ x,r=[x,some (zW w)]) _ 0 [] _ _ ⟨by lia,s5.more (by lia),rfl,_,rfl⟩ (fun _ _ _ _ _=>rfl) ?_ ?_
  ·rintro i d hd acc r V ⟨hi,sV,rfl,x,rfl⟩
   rw [gP1] at hd
   obtain ⟨row,hr,rfl⟩:=oM1.mp hd
   have hil:=(gE1.mp hr).1
   have hr4:=hw2.le row (gM1 hr)
   rw [Nat.zero_add] at *
   walk_at "own wq"
   rw [show dR row = .tup (row.map dP) from rfl]
   refine sW_tup.mpr ?_
   refine mapW (f:=dP) (fun p=>zP ((w.length:Int)+(p.1:Int),(p.2:Int))) (fun r=>∃ x y,r=[x,y,some (zW w)]) rfl row _ ⟨_,_,rfl⟩ ?_ ?_
   ·rintro p _ r ⟨x,y,rfl⟩
    unfold dP
    ((try walk_at "own wq");repeat (simp only [len_zW];try walk_at "own wq"))
    exact ⟨rfl,_,_,rfl⟩
   ·rintro r' _
    refine ⟨fits_le (by rw [lM1];lia),?_⟩
    refine sW_ref (by rw [get_app0];rfl) ?_
    refine ⟨by lia,sV.app fun o ho=>?_,?_,_,rfl⟩
    ·rw [List.mem_singleton] at ho;subst ho;rw [Ob.und];exact Mi.unds_map fun _ _=>rfl
    ·rw [List.take_succ,hr,List.map_append]
     refine congrArg _ ?_
     show [_]=[zR _]
     unfold zR
     rw [List.map_map]
     rfl
  ·rintro xs r V ⟨_,sV,hxs,_⟩
   rw [lM1,Nat.zero_add,List.take_length,List.nil_append] at hxs
   subst hxs
   refine ⟨fits_le (by rw [lM1];lia),?_⟩
   walk_at "own wq"
   refine sW_ref (by rw [get_app0];rfl) ?_
   refine W_addT.mpr ⟨fits_le (by simp only [lM1];lia),?_⟩
   have e:D.tup (w.map zR++w2.map fun row=>zR (row.map fun p=>((w.length:Int)+(p.1:Int),(p.2:Int))))=zW (w++w2.map fun row=>row.map fun p=>((w.length:Int)+(p.1:Int),(p.2:Int))):=by
    unfold zW
    rw [List.map_append,List.map_map]
    rfl
   rw [e]
   refine fin _ _ ⟨by rw [lA1,lM1];lia,fun row hr=>?_⟩ ((sV.app fun o ho=>?_).more (by lia))
   ·rcases List.mem_append.mp hr with hr | hr
    ·exact Nat.le_succ_of_le (h8 _ hr)
    ·obtain ⟨row',h1,rfl⟩:=List.mem_map.mp hr
     rw [lM1]
     have:=hw2.le row' h1
     lia
   ·rw [List.mem_singleton] at ho;subst ho;rw [Ob.und];exact Mi.unds_map fun _ _=>und_zR _ _
 injection e with _ e2
 subst e2
 walk_at "own wq"
 refine W_slT (xs:=w.map zR) (a:=none) (b:=some (ro:Int)) rfl rfl rfl ?_
 rw [cutTf]
 walk_at "own wq"
 refine ⟨fits_le (by simp only [lM1,List.length_take];lia),?_⟩
 refine W_slT (xs:=w.map zR) (a:=some ((ro:Int)+1)) (b:=none) rfl rfl rfl ?_
 rw [cutUf1]
 refine W_addT.mpr ⟨fits_le (by simp only [lA1,lM1,List.length_take,List.length_drop,lC1,List.length_nil];lia),?_⟩
 have e:D.tup (((w.take ro).map zR++[zR row3])++(w.drop (ro+1)).map zR)=zW (w.take ro++[row3]++w.drop (ro+1)):=by
  unfold zW
  rw [List.map_append,List.map_append]
  rfl
 rw [e]
 refine fin _ _ ⟨by simp only [lA1,List.length_take,List.length_drop,lC1,List.length_nil];lia,fun row hr=>?_⟩ (s3.more (by lia))
 rcases List.mem_append.mp hr with hr | hr
 ·rcases List.mem_append.mp hr with hr | hr
  ·exact mem_t hr
  ·rw [List.mem_singleton] at hr;rw [hr];exact hl3
 ·exact mem_d hr
theorem good_of {w:Rows2}(h:WebO w):GoodZ (upW w):=by
 refine ⟨w,rfl,⟨h.pos,h.few,fun r row hr=>h.le row (gM1 hr),h.back,h.ne⟩,fun P h0 hc v=>?_⟩
 induction v using Nat.strongRecOn with
 | ind v ih=>
  intro hv
  by_cases z:v=0
  ·subst z;exact h0
  ·obtain ⟨d,p,h1,h2⟩:=h.tie v (by lia) hv
   exact hc _ _ _ (h.back _ _ _ h1) (ih p.1 h2 (by lia))
theorem eq_nil {w:RZ}{S:Sto}:gEq (zW w) (.tup []) S=some (.bl w.isEmpty,S):=by
 cases w with
 | nil=>rfl
 | cons r w=>rfl
theorem ne_nil {w:RZ}{S:Sto}:gNe (zW w) (.tup []) S=some (.bl (!w.isEmpty),S):=by
 cases w with
 | nil=>rfl
 | cons r w=>rfl
theorem right_W {w:RZ}{b:Bool}{S:Sto}{Q:D×Sto->Prop}(hb:b=tf (GoodZ w))(q:Q (.bl true,S)):W (mCall 2 m__law_right [zW w,.bl b] S) Q:=by
 refine callP rfl (by rw [D.unds,und_zW];rfl) ?_
 unfold m__law_right
 refine fnW ?_
 unfold b__law_right
 have e1:∀ b S,gEq (.bl b) (.bl b) S=some (.bl true,S):=fun b S=>by cases b<;>rfl
 have e2:∀ b S,isTy S .bool (.bl b)=some true:=fun b S=>rfl
 subst hb
 walk_at "own wq"
 refine isweb_W ?_
 ((try walk_at "own wq");repeat (simp only [W_mIsT,e2];try walk_at "own wq"))
 ((try walk_at "own wq");repeat (simp only [e1];try walk_at "own wq"))
 refine isweb_W ?_
 ((try walk_at "own wq");repeat (simp only [e1];try walk_at "own wq"))
 exact ⟨rfl,q⟩
theorem turn_W {c:Nat}{B S:Sto}{N:D}{y2 y3 y4 y5:Option D}(hs:HS 2 0 c B S)(hc:c<=2^30):
  W (p_law_2 [some N,some (.ref 2),y2,y3,y4,y5] S) fun p=>p.1 = .nx/\HS 2 0 (c+5000) B p.2.2 /\ ∃ z3 z4 z5,p.2.1=[some N,some (.ref 2),y2,z3,z4,z5]:=by
 unfold p_law_2
 refine seqW (fun r V=>∃ w,WebO w/\HS 2 0 (c+1000) B V/\r=[some N,some (.ref 2),y2,some (dW w),y4,y5]) ?_ ?_
 ·walk_at "own wq"
  refine web_W hs (by lia) fun w U hw s1 _ _=>?_
  exact ⟨w,hw,s1,rfl⟩
 rintro r V ⟨w,hw,s1,rfl⟩
 rw [<- dW_up]
 refine seqW (fun r V'=>V'=V/\r=[some N,some (.ref 2),y2,some (zW (upW w)),y4,y5]) ?_ ?_
 ·walk_at "own wq"
  refine right_W (tf_t (good_of hw)).symm ?_
  walk_at "own wq"
 rintro r V' ⟨e0,rfl⟩
 rw [e0]
 walk_at "own wq"
 refine ⟨by decide,?_⟩
 refine loopM_WR (fun i r V=>i<=3 /\ ∃ w z4 z5,Few (8+8*i) (4+i) w/\HS 2 0 (c+1000+1020*i) B V/\r=[some N,some (.ref 2),y2,some (zW w),z4,z5]) _ 0 _ _ ⟨by lia,upW w,_,_,web_few hw,s1,rfl⟩ (fun _ _ _ _=>rfl) ?_ ?_
 ·rintro i d hd r V ⟨hi,w,z4,z5,hf,sV,rfl⟩
  have hlt:i<3:=by
   have:=(gE1.mp hd).1
   rw [nums_len] at this
   exact this
  rw [Nat.zero_add] at *
  walk_at "own wq"
  unfold p_law_1
  refine seqW (fun r V=>∃ k:Nat,HS 2 0 (c+1000+1020*i+1) B V/\r=[some N,some (.ref 2),y2,some (zW w),some d,some (.int k)]) ?_ ?_
  ·walk_at "own wq"
   refine take_W sV (by lia) (by lia) (by lia) fun k V2 s2 _ _ _=>?_
   walk_at "own wq"
   exact ⟨k,s2,rfl⟩
  rintro r V2 ⟨k,s2,rfl⟩
  by_cases hw0:w=[]
  ·((try walk_at "own wq");repeat (simp only [eq_nil];try walk_at "own wq"))
   rw [if_pos (by rw [hw0];rfl)]
   refine W_some.mpr ?_
   exact W_some.mpr (Or.inr (Or.inr ⟨rfl,s2.more (by lia),_,_,_,rfl⟩))
  have hpos:0<w.length:=List.length_pos_iff.mpr hw0
  have hemp:w.isEmpty=false:=by cases w with | nil=>exact (hw0 rfl).elim | cons=>rfl
  refine seqW (fun r V'=>V'=V2/\r=[some N,some (.ref 2),y2,some (zW w),some d,some (.int k)]) ?_ ?_
  ·((try walk_at "own wq");repeat (simp only [eq_nil,hemp];try walk_at "own wq"))
  rintro r V' ⟨e0,rfl⟩
  rw [e0]
  clear e0
  refine seqW (fun r V=>∃ w',Few (8+8*(i+1)) (4+(i+1)) w'/\HS 2 0 (c+1000+1020*(i+1)) B V/\r=[some N,some (.ref 2),y2,some (zW w'),some d,some (.int k)]) ?_ ?_
  ·walk_at "own wq"
   split
   ·refine otherD_W s2 (by lia) (Nat.le_trans hf.1 (by lia)) (fun row hr=>Nat.le_trans (hf.2 row hr) (by lia)) fun w' V3 sp s3 _ _=>?_
    walk_at "own wq"
    exact ⟨w',⟨by rw [sp.len];exact Nat.le_trans hf.1 (by lia),fun row hr=>Nat.le_trans (sp.le hf.2 row hr) (by lia)⟩,s3.more (by lia),rfl⟩
   ·refine otherR_W s2 (by lia) hf (by lia) (by lia) (by lia) hpos fun w' V3 hf' s3 _ _=>?_
    walk_at "own wq"
    exact ⟨w',hf',s3.more (by lia),rfl⟩
  rintro r V3 ⟨w',hf',s3,rfl⟩
  have hgn:w'=[]->tf (GoodZ w')=false:=fun e=>tf_f fun ⟨v,e1,h1,_⟩=>by
   have:=h1.pos
   rw [e] at e1
   have:=congrArg List.length e1
   unfold upW at this
   rw [lM1] at this
   simp at this
   lia
  ((try walk_at "own wq");repeat (simp only [ne_nil];try walk_at "own wq"))
  cases hem:w'.isEmpty with
  | true=>
   have:w'=[]:=List.isEmpty_iff.mp hem
   walk_at "own wq"
   refine right_W (hgn this).symm ?_
   walk_at "own wq"
   exact .inl ⟨by lia,w',_,_,hf',s3,rfl⟩
  | false=>
   walk_at "own wq"
   refine lawisweb_W ?_
   walk_at "own wq"
   refine right_W rfl ?_
   walk_at "own wq"
   exact .inl ⟨by lia,w',_,_,hf',s3,rfl⟩
 ·rintro r V ⟨hi,w,z4,z5,hf,sV,rfl⟩
  exact ⟨rfl,sV.more (by lia),_,_,_,rfl⟩
theorem truth (ns:List Int)(hl:ns.length<=63):∃ S,m_law [.rol (ns.map D.int)] []=some (.bl true,S):=by
 have key:W (m_law [.rol (ns.map D.int)] []) fun p=>p.1 = .bl true:=by
  unfold m_law
  refine fnW ?_
  unfold b_law
  have hst:=start_W ns hl
  generalize hN:D.rol (ns.map D.int)=N at *
  have hlen:∀ S,gLen N S=some (.int ns.length,S):=fun S=>by rw [<- hN];simp [gLen,seqOf]
  refine seqW (fun r S=>HS 2 0 0 S S/\r=[some N,some (.ref 2),none,none,none,none]) ?_ ?_
  ·walk_at "own wq"
   refine hst.mono fun p hp=>?_
   rw [hp.1]
   exact ⟨hp.2,rfl⟩
  rintro r B ⟨sB,rfl⟩
  refine seqW (fun r S=>True) ?_ ?_
  ·((try walk_at "own wq");repeat (simp only [hlen,gMin];try walk_at "own wq"))
   have hb:∃ t:Nat,t<=38/\((6:Int)+(if (20:Int)<(ns.length:Int) then 20 else (ns.length:Int)))=(t:Int):=by
    by_cases h1:(20:Int)<(ns.length:Int)
    ·rw [if_pos h1];exact ⟨26,by lia,by decide⟩
    ·rw [if_neg h1];exact ⟨6+ns.length,by lia,by push_cast;rfl⟩
   obtain ⟨t,t1,te⟩:=hb
   rw [te,Int.toNat_natCast]
   refine ⟨bnd_nat (by lia),?_⟩
   refine loopM_W (fun i r S=>i<=t/\HS 2 0 (5000*i) B S /\ ∃ y2 y3 y4 y5,r=[some N,some (.ref 2),y2,y3,y4,y5]) _ 0 _ _ ⟨by lia,sB,_,_,_,_,rfl⟩ (fun _ _ _ _=>rfl) ?_ ?_
   ·rintro i d hd r S ⟨hi,hs,y2,y3,y4,y5,rfl⟩
    have hlt:=(gE1.mp hd).1
    rw [nums_len] at hlt
    rw [Nat.zero_add] at *
    walk_at "own wq"
    refine (turn_W hs (by lia)).mono fun p hp=>?_
    obtain ⟨h1,h2,z3,z4,z5,h3⟩:=hp
    exact ⟨h1,by lia,h2.more (by lia),_,_,_,_,h3⟩
   ·rintro r S _
    exact ⟨rfl,trivial⟩
  rintro r S _
  walk_at "own wq"
 obtain ⟨⟨d,S⟩,e,h⟩:=key
 dsimp only at h
 subst h
 exact ⟨S,e⟩
end Law
end
open PySem PySem.W PyProof.Rows
set_option maxRecDepth 100000 in
set_option maxHeartbeats 0 in
theorem PySem.Challenge.cw_ringmeet_k01_webs_known_holds : PySem.Challenge.rw_ringmeet_k01_webs_known.Holds := by
 w_on;refine PySem.W.holds_law (by decide+kernel) fun said=>?_;k_head;(case hw=>w_witness2)
 k_fill
 refine Mi.walk_m (l:=PySem.Challenge.rw_ringmeet_k01_webs_known) (m:=Law.m_law) (k:=6) (x:="_law_script") rfl rfl ⟨rfl,by decide,by decide,rfl⟩ (fun w h Y=>PySem.W.kIn_of Y) Law.truth ?F
 case F=>
  intro w mg fa h KX G hmg
  refine' Law.all_mk KX G hmg ?a1 ?l1 ?c1 ?k1 ?a2 ?l2 ?c2 ?k2 ?a3 ?l3 ?c3 ?k3 ?a4 ?l4 ?c4 ?k4 ?a5 ?l5 ?c5 ?k5 ?a6 ?l6 ?c6 ?k6 ?a7 ?l7 ?c7 ?k7 ?a8 ?l8 ?c8 ?k8 ?a9 ?l9 ?c9 ?k9 ?a10 ?l10 ?c10 ?k10 ?a11 ?l11 ?c11 ?k11 ?a12 ?l12 ?c12 ?k12 ?a13 ?l13 ?c13 ?k13 ?a14 ?l14 ?c14 ?k14 ?a15 ?l15 ?c15 ?k15 ?a16 ?l16 ?c16 ?k16 ?a17 ?l17 ?c17 ?k17 ?a18 ?l18 ?c18 ?k18 ?a19 ?l19 ?c19 ?k19 ?a20 ?l20 ?c20 ?k20 ?a21 ?l21 ?c21 ?k21 ?a22 ?l22 ?c22 ?k22 ?a23 ?l23 ?c23 ?k23 ?a24 ?l24 ?c24 ?k24 ?a25 ?l25 ?c25 ?k25 ?a26 ?l26 ?c26 ?k26 ?z_abs ?z_all ?z_bool ?z_enumerate ?z_int ?z_isinstance ?z_len ?z_list ?z_max ?z_min ?z_range ?z_tuple ?e_MOST_DOORS ?e_MOST_ROOMS
  (case a1=>k_is)
  (case l1=>k_is)
  (case c1=>k_is)
  (case k1=>k_is)
  (case a2=>k_is)
  (case l2=>k_is)
  (case c2=>k_is)
  (case k2=>k_is)
  (case a3=>k_is)
  (case l3=>k_is)
  (case c3=>k_is)
  (case k3=>k_is)
  (case a4=>k_is)
  (case l4=>k_is)
  (case c4=>k_is)
  (case k4=>k_is)
  (case a5=>k_is)
  (case l5=>k_is)
  (case c5=>k_is)
  (case k5=>k_is)
  (case a6=>k_is)
  (case l6=>k_is)
  (case c6=>k_is)
  (case k6=>k_is)
  (case a7=>k_is)
  (case l7=>k_is)
  (case c7=>k_is)
  (case k7=>k_is)
  (case a8=>k_is)
  (case l8=>k_is)
  (case c8=>k_is)
  (case k8=>k_is)
  (case a9=>k_is)
  (case l9=>k_is)
  (case c9=>k_is)
  (case k9=>k_is)
  (case a10=>k_is)
  (case l10=>k_is)
  (case c10=>k_is)
  (case k10=>k_is)
  (case a11=>k_is)
  (case l11=>k_is)
  (case c11=>k_is)
  (case k11=>k_is)
  (case a12=>k_is)
  (case l12=>k_is)
  (case c12=>k_is)
  (case k12=>k_is)
  (case a13=>k_is)
  (case l13=>k_is)
  (case c13=>k_is)
  (case k13=>k_is)
  (case a14=>k_is)
  (case l14=>k_is)
  (case c14=>k_is)
  (case k14=>k_is)
  (case a15=>k_is)
  (case l15=>k_is)
  (case c15=>k_is)
  (case k15=>k_is)
  (case a16=>k_is)
  (case l16=>k_is)
  (case c16=>k_is)
  (case k16=>k_is)
  (case a17=>k_is)
  (case l17=>k_is)
  (case c17=>k_is)
  (case k17=>k_is)
  (case a18=>k_is)
  (case l18=>k_is)
  (case c18=>k_is)
  (case k18=>k_is)
  (case a19=>k_is)
  (case l19=>k_is)
  (case c19=>k_is)
  (case k19=>k_is)
  (case a20=>k_is)
  (case l20=>k_is)
  (case c20=>k_is)
  (case k20=>k_is)
  (case a21=>k_is)
  (case l21=>k_is)
  (case c21=>k_is)
  (case k21=>k_is)
  (case a22=>k_is)
  (case l22=>k_is)
  (case c22=>k_is)
  (case k22=>k_is)
  (case a23=>k_is)
  (case l23=>k_is)
  (case c23=>k_is)
  (case k23=>k_is)
  (case a24=>k_is)
  (case l24=>k_is)
  (case c24=>k_is)
  (case k24=>k_is)
  (case a25=>k_is)
  (case l25=>k_is)
  (case c25=>k_is)
  (case k25=>k_is)
  (case a26=>k_is)
  (case l26=>k_is)
  (case c26=>k_is)
  (case k26=>k_is)
  (case z_abs=>k_is)
  (case z_all=>k_is)
  (case z_bool=>k_is)
  (case z_enumerate=>k_is)
  (case z_int=>k_is)
  (case z_isinstance=>k_is)
  (case z_len=>k_is)
  (case z_list=>k_is)
  (case z_max=>k_is)
  (case z_min=>k_is)
  (case z_range=>k_is)
  (case z_tuple=>k_is)
  (case e_MOST_DOORS=>k_is)
  (case e_MOST_ROOMS=>k_is)

