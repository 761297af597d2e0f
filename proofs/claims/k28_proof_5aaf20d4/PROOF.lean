import PyProof.Rows.All
import Wide.All
import OpenK.AllK
import Wide.FinOn
import Lean
import PyProof.EqAt
import PyProof.EqKinds
import PyProof.TupleCall
import PySem.Challenge.RW_ringmeet_k28_rooms_without_names
set_option Elab.async false
set_option compiler.extract_closed false
set_option linter.all false
set_option maxRecDepth 100000
set_option maxHeartbeats 4000000
open List renaming getElem?_eq_some_iff → gE1, getElem?_append_left → gL1, getElem?_eq_getElem → gG1, mem_of_getElem? → gM1, getElem?_set_ne → gS1, length_append → lA1, length_map → lM1, getElem?_cons_succ → gC1, mem_cons_of_mem → mC1, mem_cons_self → mS1, getElem?_map → gP1, getElem?_append_right → gR1, size_toArray → sT1, map_cons → mP1, length_cons → lC1, length_replicate → lR1, mem_append_right → mA1
open Option renaming bind_eq_some_iff → oB1, map_eq_some_iff → oM1, bind_some → oS1, map_some → oP1
open Nat renaming le_refl → nR1, lt_of_lt_of_le → nL1, ne_of_lt → nN1, ne_of_gt → nG1
open Bool renaming and_eq_true → bA1, false_eq_true → bF1
open Array renaming getElem?_eq_getElem → aG1, getElem?_toList → aT1
open PySem.W renaming Frag → Fg1, nsIn → wN1, keepIn → wK1, codeIn → wC1, fnOf → wF1, mg_of → wM1
open PySem.Heap renaming get?_push_of_some → hP1, get?_push_size → hS1, lt_size → hL1, size_push → hZ1, get?_update_ne → hU1, get?_update_self → hW1
open PySem renaming wpAny_bind → wB1, wpAny_pure → wP1, wpAny_setField_rec → wS1, wpAny_newObj_type → wO1, codeAny_builtin → wD1, wpAny_call_entry → wE1
section
namespace L2
open PySem PySem.Spec PyProof.Rows
noncomputable abbrev Key:=Sum Int Str
noncomputable def keyIs:Key->Value->Bool
 | .inl k,v=>Value.isInt k v
 | .inr x,v=>Value.isStrOf x v
noncomputable def keyH (w:World):Key->Int
 | .inl k=>hashInt k
 | .inr x=>hashStr w x
theorem keyIs_shape:∀ {k:Key} {v:Value},keyIs k v=true->(∃ i t,k=Sum.inl i/\v=Value.int i t)\/(∃ x t,k=Sum.inr x/\v=Value.str x t)
 | .inl i,v,h=>by
  obtain ⟨t,e⟩:=Value.isInt_shape (k:=i) (v:=v) h
  exact .inl ⟨i,t,rfl,e⟩
 | .inr x,v,h=>by
  obtain ⟨t,e⟩:=Value.isStrOf_shape (x:=x) (v:=v) h
  exact .inr ⟨x,t,rfl,e⟩
theorem keyIs_int (i:Int)(t:Tok):keyIs (.inl i) (.int i t)=true:=by simp [keyIs,Value.isInt]
theorem keyIs_str (x:Str)(t:Tok):keyIs (.inr x) (.str x t)=true:=by simp [keyIs,Value.isStrOf]
theorem key_ll (a b:Int):decide ((Sum.inl a:Key)=Sum.inl b)=(a == b):=by
 by_cases e:a=b
 ·subst e;simp
 ·have h:¬ (Sum.inl a:Key)=Sum.inl b:=fun q=>e (Sum.inl.inj q)
  rw [decide_eq_false h]
  exact (beq_eq_false_iff_ne.mpr e).symm
theorem key_rr (a b:Str):decide ((Sum.inr a:Key)=Sum.inr b)=decide (a=b):=by
 by_cases e:a=b
 ·subst e;simp
 ·have h:¬ (Sum.inr a:Key)=Sum.inr b:=fun q=>e (Sum.inr.inj q)
  rw [decide_eq_false h,decide_eq_false e]
theorem key_lr (a:Int)(b:Str):decide ((Sum.inl a:Key)=Sum.inr b)=false:=decide_eq_false (fun q=>nomatch q)
theorem key_rl (a:Str)(b:Int):decide ((Sum.inr a:Key)=Sum.inl b)=false:=decide_eq_false (fun q=>nomatch q)
noncomputable def mixKind (prog:Program)(w:World):PySem.KeyKind prog w Key where
 is:=keyIs
 hash:=keyH w
 inj:=fun v a b ha hb=>by
  rcases keyIs_shape ha with ⟨i,t,rfl,rfl⟩ | ⟨x,t,rfl,rfl⟩
  ·rcases keyIs_shape hb with ⟨j,u,rfl,e⟩ | ⟨y,u,rfl,e⟩
   ·injection e with e1 _;rw [e1]
   ·exact nomatch e
  ·rcases keyIs_shape hb with ⟨j,u,rfl,e⟩ | ⟨y,u,rfl,e⟩
   ·exact nomatch e
   ·injection e with e1 _;rw [e1]
 byValue:=fun k v h=>by
  rcases keyIs_shape h with ⟨i,t,rfl,rfl⟩ | ⟨x,t,rfl,rfl⟩<;>rfl
 pyHash:=fun hv h=>by
  rcases keyIs_shape hv with ⟨i,t,rfl,rfl⟩ | ⟨x,t,rfl,rfl⟩
  ·exact wpAny_pyHash_int h
  ·exact wpAny_pyHash_str h
 eqBool:=fun hu hv h=>by
  rcases keyIs_shape hu with ⟨i,t,rfl,rfl⟩ | ⟨x,t,rfl,rfl⟩
  ·rcases keyIs_shape hv with ⟨j,u,rfl,rfl⟩ | ⟨y,u,rfl,rfl⟩
   ·rw [key_ll] at h;exact wpAny_eqBool_int h
   ·rw [key_lr] at h;exact SeqAt.EqAt.int_str i t y u _ _ _ _ h
  ·rcases keyIs_shape hv with ⟨j,u,rfl,rfl⟩ | ⟨y,u,rfl,rfl⟩
   ·rw [key_rl] at h;exact SeqAt.EqAt.str_int x t j u _ _ _ _ h
   ·rw [key_rr] at h;exact wpAny_eqBool_str h
 «strs» :=fun k x t v h=>by
  rcases keyIs_shape h with ⟨i,u,rfl,e⟩ | ⟨y,u,rfl,e⟩
  ·exact nomatch e
  ·injection e with e1 _
   subst e1
   cases v<;>rfl
theorem mixKind_int (prog:Program)(w:World)(i:Int)(t:Tok):(mixKind prog w).is (.inl i) (.int i t)=true:=keyIs_int i t
theorem mixKind_str (prog:Program)(w:World)(x:Str)(t:Tok):(mixKind prog w).is (.inr x) (.str x t)=true:=keyIs_str x t
end L2
namespace L2
open PySem PySem.Spec PyProof.Rows
inductive V where
 | non | bl (b:Bool) | int (i:Int) | str (x:Str) | byt (b:Array UInt8) | flt (b:UInt64) | ref (a:Addr) | ty (n:String)
 deriving DecidableEq
noncomputable def RelV:V->Value->Prop
 | .non,u=>u=Value.none
 | .bl b,u=>u=Value.bool b
 | .int i,u=>∃ t,u=Value.int i t
 | .str x,u=>∃ t,u=Value.str x t
 | .byt b,u=>∃ t,u=Value.bytes b t
 | .flt b,u=>∃ t,u=Value.float b t
 | .ref a,u=>u=Value.ref a
 | .ty n,u=>u=Value.type n
noncomputable abbrev Vals:List V->List Value->Prop:=Paired RelV
theorem Vals.length {xs:List V}{us:List Value}(r:Vals xs us):xs.length=us.length:=Paired.length r
theorem Vals.get:∀ {xs:List V} {us:List Value} {i:Nat} {x:V},Vals xs us->xs[i]? = some x -> ∃ u,us[i]? = some u/\RelV x u:=by
 intro xs us i x h e
 induction h generalizing i with
 | nil=>cases e
 | cons r t ih=>cases i with
  | zero=>cases e;exact ⟨_,rfl,r⟩
  | succ i=>exact ih (i:=i) e
theorem Vals.set {x:V}{u:Value}(r:RelV x u):∀ {xs:List V} {us:List Value} (i:Nat),Vals xs us->Vals (xs.set i x) (us.set i u):=by
 intro xs us i h
 induction h generalizing i with
 | nil=>exact .nil
 | cons q t ih=>cases i with
  | zero=>exact .cons r t
  | succ i=>exact .cons q (ih i)
theorem Vals.append:∀ {xs ys:List V} {us ws:List Value},Vals xs us->Vals ys ws->Vals (xs++ys) (us++ws):=by
 intro xs ys us ws h s
 induction h with
 | nil=>exact s
 | cons r t ih=>exact .cons r ih
theorem Vals.take:∀ {xs:List V} {us:List Value} (n:Nat),Vals xs us->Vals (xs.take n) (us.take n):=by
 intro xs us n h
 induction h generalizing n with
 | nil=>rw [List.take_nil,List.take_nil];exact .nil
 | cons r t ih=>cases n with
  | zero=>exact .nil
  | succ n=>exact .cons r (ih n)
theorem Vals.drop:∀ {xs:List V} {us:List Value} (n:Nat),Vals xs us->Vals (xs.drop n) (us.drop n):=by
 intro xs us n h
 induction h generalizing n with
 | nil=>rw [List.drop_nil,List.drop_nil];exact .nil
 | cons r t ih=>cases n with
  | zero=>exact .cons r t
  | succ n=>exact ih n
noncomputable def RelO:Option V->Option Value->Prop
 | some v,some u=>RelV v u
 | none,none=>True
 | _,_=>False
noncomputable def KV {κ:Type}:List (κ×V)->List (κ×Value)->Prop:=Paired fun (p:κ×V) (q:κ×Value)=>p.1=q.1/\RelV p.2 q.2
noncomputable def kV:Key->V
 | .inl i=>.int i
 | .inr x=>.str x
inductive HO where
 /-- a list -/
 | lst (xs:List V)
 /-- a tuple (never changes) -/
 | tup (xs:List V)
 /-- a dict whose keys are ints and texts; one whose keys are tuples of ints and texts (the empty one is both) -/
 | dK (kvs:List (Key×V)) | dT (kvs:List (List Key×V))
 /-- a set of ints: its members, its size -/
 | set (S:Int->Bool) (n:Nat)
 /-- an instance of the class at C, its dict at dx, its attributes -/
 | ins (C dx:Addr) (fs:List (Str×V))
 /-- the dict of the instance at x -/
 | own (x:Addr)
 /-- the dict of an exception -/
 | xd (fs:List (Str×V))
 /-- a bound method, f of x -/
 | met (f x:Addr)
 /-- a range object lo, lo + 1, .. below hi -/
 | rng (lo hi:Int)
 /-- a thing that is known to the object (the script; a dict while a loop walks it): read, never written while it is so -/
 | frz (o:Obj) (u:HO)
 /-- a code object's table -/
 | tbl (ps:Array Value)
 /-- any other thing, by what is true of its one object (a def of one's own: SetO a S n := HO.ext fun h => ..) -/
 | ext (φ:Heap->Prop)
noncomputable abbrev Hp:=Addr->Option HO
noncomputable def upd (H:Hp)(a:Addr)(o:HO):Hp:=fun b=>if b=a then some o else H b
theorem upd_same {H:Hp}{a:Addr}{o:HO}:upd H a o a=some o:=by unfold upd;rw [if_pos rfl]
theorem upd_ne {H:Hp}{a b:Addr}{o:HO}(h:b≠a):upd H a o b=H b:=by unfold upd;rw [if_neg h]
theorem ne_of {H:Hp}{a b:Addr}{o u:HO}(h:H a=some o)(h':H b=some u)(d:o≠u):a≠b:=by
 intro e;subst e;rw [h] at h';exact d (Option.some.inj h')
theorem ne_of_none {H:Hp}{a b:Addr}{o:HO}(h:H a=some o)(h':H b=none):a≠b:=by
 intro e;subst e;rw [h] at h';cases h'
section
variable (P:Program) (w:World)
noncomputable def ObjOk (H:Hp)(h:Heap)(a:Addr):HO->Prop
 | .lst xs=>xs.length<=sizeLine /\ ∃ (its:List Value) (n:Nat),Vals xs its/\h.get? a=some {cls:=.type "list",data:=.seq its.toArray n}
 | .tup xs=>xs.length<=sizeLine /\ ∃ its:List Value,Vals xs its/\IsTup h a its.toArray
 | .dK kvs=>kvs.length<=sizeLine/\(a == sysModules)=false /\ ∃ vs,KV kvs vs/\h.DictOf (mixKind P w) a vs
 | .dT kvs=>kvs.length<=sizeLine/\(a == sysModules)=false /\ ∃ xs:List (List Key×Addr×Value),
   Paired (fun (p:List Key×V) (q:List Key×Addr×Value)=>p.1=q.1/\H q.2.1=some (.tup (p.1.map kV))/\RelV p.2 q.2.2) kvs xs /\
   ∃ o es ep,h.get? a=some o/\o.ExactDict/\o.data = .dict es ep/\es.toList=xs.map (entryOfKey (tupleKind (mixKind P w)))/\(xs.map (·.1)).Nodup
 | .set S n=>h.SetOf (intKind P w) a S n
 | .ins C dx fs=>H dx=some (.own a)/\fs.length<=1000/\dx≠a/\h.get? a=some (PySem.W.instObj C dx) /\
   ∃ mA,h.Ns1 dx mA/\(∀ f,RelO (fs.lookup f) (mA f))/\PySem.Within mA (fs.map (·.1))
 | .own _=>∃ o,h.get? a=some o
 | .xd fs=>∃ mA,h.Ns1 a mA /\ ∀ f,RelO (fs.lookup f) (mA f)
 | .rng lo hi=>∃ t u v,h.get? a=some {cls:=.type "range",data:=.fields #[.int lo t,.int hi u,.int 1 v]}
 | .frz o u=>h.get? a=some o/\ObjOk H h a u
 | .tbl ps=>h.get? a=some {cls:=.none,data:=.fields ps}
 | .met f x=>h.get? a=some (PySem.W.methodObj (.ref f) (.ref x))
 | .ext φ=>φ h/\(∃ o,h.get? a=some o) /\ ∀ h1 h2:Heap,φ h1->(∀ o,h1.get? a=some o->h2.get? a=some o)->φ h2
noncomputable def HOk (H:Hp)(h:Heap):Prop:=∀ a o,H a=some o->ObjOk P w H h a o
end
section
variable {P:Program} {w:World} {H H':Hp} {h h':Heap} {a:Addr} {o:HO}
theorem ObjOk.lt (x:ObjOk P w H h a o):a<h.objs.size:=by
 cases o with
 | lst xs=>obtain ⟨_,_,_,_,e⟩:=x;exact hL1 e
 | tup xs=>obtain ⟨_,_,_,p⟩:=x;exact p.lt
 | dK kvs=>obtain ⟨_,_,_,_,o,_,_,e,_⟩:=x;exact hL1 e
 | dT kvs=>obtain ⟨_,_,_,_,o,_,_,e,_⟩:=x;exact hL1 e
 | set S n=>obtain ⟨o,_,_,_,e,_⟩:=x;exact hL1 e
 | ins C dx fs=>obtain ⟨_,_,_,e,_⟩:=x;exact hL1 e
 | own y=>obtain ⟨_,e⟩:=x;exact hL1 e
 | xd fs=>obtain ⟨_,⟨_,_,_,e,_⟩,_⟩:=x;exact hL1 e
 | rng lo hi=>obtain ⟨_,_,_,e⟩:=x;exact hL1 e
 | frz ob u=>obtain ⟨e,_⟩:=x;exact hL1 e
 | tbl ps=>exact hL1 (show h.get? a=some _ from x)
 | met f y=>exact hL1 (show h.get? a=some _ from x)
 | ext φ=>obtain ⟨_,⟨_,e⟩,_⟩:=x;exact hL1 e
theorem Paired.mapP {α β:Type}{F G:α->β->Prop}:∀ {l₁:List α} {l₂:List β},Paired F l₁ l₂->(∀ a b,F a b->G a b)->Paired G l₁ l₂:=by
 intro a b h f
 induction h with
 | nil=>exact .nil
 | cons r t ih=>exact .cons (f _ _ r) ih
theorem ObjOk.stay (x:ObjOk P w H h a o)(k:∀ b u,(b=a\/H b=some (.own a))->h.get? b=some u->h'.get? b=some u)
  (ho:∀ b,H b=some (.own a)->H' b=some (.own a)) (ht:∀ b xs,H b=some (.tup xs)->H' b=some (.tup xs)):ObjOk P w H' h' a o:=by
 induction o with
 | lst xs=>obtain ⟨z,its,n,r,e⟩:=x;exact ⟨z,its,n,r,k _ _ (.inl rfl) e⟩
 | tup xs=>obtain ⟨z,its,r,ob,e,c⟩:=x;exact ⟨z,its,r,ob,k _ _ (.inl rfl) e,c⟩
 | dK kvs=>obtain ⟨z,y,vs,r,ob,es,ep,e,c⟩:=x;exact ⟨z,y,vs,r,ob,es,ep,k _ _ (.inl rfl) e,c⟩
 | dT kvs=>
  obtain ⟨z,y,xs,r,ob,es,ep,e,c⟩:=x
  exact ⟨z,y,xs,Paired.mapP r fun p q z=>⟨z.1,ht _ _ z.2.1,z.2.2⟩,ob,es,ep,k _ _ (.inl rfl) e,c⟩
 | set S n=>obtain ⟨ob,es,ep,t,e,c⟩:=x;exact ⟨ob,es,ep,t,k _ _ (.inl rfl) e,c⟩
 | ins C dx fs=>
  obtain ⟨d,z,ne,e,mA,⟨od,es,ep,e2,c⟩,r⟩:=x
  exact ⟨ho _ d,z,ne,k _ _ (.inl rfl) e,mA,⟨od,es,ep,k _ _ (.inr d) e2,c⟩,r⟩
 | own y=>obtain ⟨ob,e⟩:=x;exact ⟨ob,k _ _ (.inl rfl) e⟩
 | xd fs=>obtain ⟨mA,⟨od,es,ep,e,c⟩,r⟩:=x;exact ⟨mA,⟨od,es,ep,k _ _ (.inl rfl) e,c⟩,r⟩
 | rng lo hi=>obtain ⟨t,u,v,e⟩:=x;exact ⟨t,u,v,k _ _ (.inl rfl) e⟩
 | frz ob u ih=>obtain ⟨e,q⟩:=x;exact ⟨k _ _ (.inl rfl) e,ih q⟩
 | tbl ps=>
  have e:h.get? a=some {cls:=.none,data:=.fields ps}:=x
  show h'.get? a=some {cls:=.none,data:=.fields ps}
  exact k a _ (.inl rfl) e
 | met f y=>
  have e:h.get? a=some (PySem.W.methodObj (.ref f) (.ref y)):=x
  show h'.get? a=some (PySem.W.methodObj (.ref f) (.ref y))
  exact k a _ (.inl rfl) e
 | ext φ=>obtain ⟨p,⟨o,e⟩,st⟩:=x;exact ⟨st _ _ p fun o q=>k _ _ (.inl rfl) q,⟨o,k _ _ (.inl rfl) e⟩,st⟩
theorem HOk.lt (x:HOk P w H h)(e:H a=some o):a<h.objs.size:=(x a o e).lt
theorem HOk.fresh (x:HOk P w H h)(e:h.objs.size<=a):H a=none:=by
 cases q:H a with
 | none=>rfl
 | some u=>exact absurd (nL1 (x.lt q) e) (Nat.lt_irrefl _)
theorem HOk.kept (x:HOk P w H h)(k:∀ b u,h.get? b=some u->h'.get? b=some u):HOk P w H h':=fun a o e=>
 (x a o e).stay (fun b u _ q=>k b u q) (fun _ q=>q) fun _ _ q=>q
theorem HOk.laid (x:HOk P w H h)(k:∀ b u,h.get? b=some u->h'.get? b=some u)(hp:h.objs.size<=a)(new:ObjOk P w (upd H a o) h' a o):HOk P w (upd H a o) h':=fun b u e=>by
 have hn:=x.fresh hp
 by_cases hb:b=a
 ·subst hb;rw [upd_same] at e;cases e;exact new
 ·rw [upd_ne hb] at e
  exact (x b u e).stay (fun c v _ q=>k c v q) (fun c q=>by rw [upd_ne (ne_of_none q hn)];exact q) fun c xs q=>by rw [upd_ne (ne_of_none q hn)];exact q
end
noncomputable def Rd (H:Hp)(a:Addr)(u:HO):Prop:=H a=some u \/ ∃ o,H a=some (.frz o u)
theorem Rd.of {H:Hp}{a:Addr}{u:HO}(h:H a=some u):Rd H a u:=.inl h
theorem Rd.ok {P:Program}{w:World}{H:Hp}{h:Heap}{a:Addr}{u:HO}(r:Rd H a u)(x:HOk P w H h):ObjOk P w H h a u:=by
 rcases r with r | ⟨o,r⟩
 ·exact x a u r
 ·obtain ⟨_,q⟩:=x a _ r
  exact q
noncomputable def Mut:Option HO->Prop
 | some (.lst _)=>True
 | some (.dK _)=>True
 | some (.dT _)=>True
 | some (.set _ _)=>True
 | some (.ins _ _ _)=>True
 | some (.ext _)=>True
 | _=>False
section
variable {P:Program} {w:World} {H:Hp} {h h':Heap} {x e:Addr} {o':HO}
theorem HOk.write (ok:HOk P w H h)(mu:Mut (H x))(he:e=x\/H e=some (.own x))(k:∀ b u,b≠e->h.get? b=some u->h'.get? b=some u)(heo:∃ u,h'.get? e=some u)
  (new:ObjOk P w (upd H x o') h' x o'):HOk P w (upd H x o') h':=fun b u q=>by
 have nown:∀ c y,H c=some (.own y)->c≠x:=fun c y r z=>by subst z;rw [r] at mu;exact mu
 have ntup:∀ c xs,H c=some (.tup xs)->c≠x:=fun c xs r z=>by subst z;rw [r] at mu;exact mu
 by_cases hb:b=x
 ·subst hb;rw [upd_same] at q;cases q;exact new
 ·rw [upd_ne hb] at q
  by_cases hbe:b=e
  ·have q':H b=some (.own x):=by
    rcases he with z | z
    ·exact absurd (hbe.trans z) hb
    ·rw [hbe];exact z
   rw [q] at q';cases q'
   obtain ⟨v,hv⟩:=heo
   exact ⟨v,by rw [hbe];exact hv⟩
  ·refine (ok b u q).stay (fun c v hc r=>k c v ?_ r) (fun c r=>by rw [upd_ne (nown c b r)];exact r) fun c xs r=>by rw [upd_ne (ntup c xs r)];exact r
   rcases hc with rfl | hc
   ·exact hbe
   ·rintro rfl
    rcases he with z | z
    ·exact nown c b hc z
    ·rw [hc] at z;cases z;exact hb rfl
end
structure Un (fs ex:List Addr)(H H':Hp)(h h':Heap):Prop where
 keep:∀ b o,h.get? b=some o->H b=none->b∉fs->b∉ex->h'.get? b=some o
 slot:∀ b o,h.get? b=some o->H b=none->b∈fs->b∉ex -> ∃ sl,h'.get? b=some {o with slots:=sl}
 free:∀ b o,h.get? b=some o->H b=none->b∉ex->H' b=none
 there:∀ b o,h.get? b=some o->b∉ex -> ∃ o',h'.get? b=some o'
 tups:∀ b xs,H b=some (.tup xs)->H' b=some (.tup xs)
 frzs:∀ b o u,H b=some (.frz o u)->H' b=some (.frz o u)
 tbls:∀ b ps,H b=some (.tbl ps) -> ∃ more,H' b=some (.tbl (ps++more))
section
variable {fs fs' ex ex':List Addr} {H H1 H2:Hp} {h h1 h2 h':Heap} {a x e:Addr} {o:HO}
theorem Un.any (u:Un fs ex H H1 h h1){b:Addr}{ob:Obj}(q:h.get? b=some ob)(n:H b=none)(hx:b∉ex):∃ sl,h1.get? b=some {ob with slots:=sl}:=by
 by_cases hb:b∈fs
 ·exact u.slot b ob q n hb hx
 ·exact ⟨ob.slots,u.keep b ob q n hb hx⟩
theorem Un.trans (a:Un fs ex H H1 h h1)(b:Un fs ex H1 H2 h1 h2):Un fs ex H H2 h h2 where
 keep:=fun c ob q n hc hx=>b.keep c ob (a.keep c ob q n hc hx) (a.free c ob q n hx) hc hx
 slot:=fun c ob q n hc hx=>by
  obtain ⟨sl,e1⟩:=a.slot c ob q n hc hx
  obtain ⟨sl',e2⟩:=b.slot c _ e1 (a.free c ob q n hx) hc hx
  exact ⟨sl',e2⟩
 free:=fun c ob q n hx=>by
  obtain ⟨o',e1⟩:=a.there c ob q hx
  exact b.free c o' e1 (a.free c ob q n hx) hx
 there:=fun c ob q hx=>by
  obtain ⟨o',e1⟩:=a.there c ob q hx
  exact b.there c o' e1 hx
 tups:=fun c xs q=>b.tups c xs (a.tups c xs q)
 frzs:=fun c ob xs q=>b.frzs c ob xs (a.frzs c ob xs q)
 tbls:=fun c ps q=>by
  obtain ⟨m1,e1⟩:=a.tbls c ps q
  obtain ⟨m2,e2⟩:=b.tbls c _ e1
  exact ⟨m1++m2,by rw [e2,Array.append_assoc]⟩
theorem Un.kept (k:∀ b u,h.get? b=some u->h'.get? b=some u):Un fs ex H H h h':=
 ⟨fun b ob q _ _ _=>k b ob q,fun b ob q _ _ _=>⟨ob.slots,k b ob q⟩,fun _ _ _ n _=>n,fun b ob q _=>⟨ob,k b ob q⟩,fun _ _ q=>q,fun _ _ _ q=>q,fun _ ps q=>⟨#[],by rw [q];simp⟩⟩
theorem Un.refl:Un fs ex H H h h:=Un.kept fun _ _ q=>q
theorem Un.laid (k:∀ b u,h.get? b=some u->h'.get? b=some u)(hp:h.objs.size<=a)(hn:H a=none):Un fs ex H (upd H a o) h h' where
 keep:=fun b u q _ _ _=>k b u q
 slot:=fun b u q _ _ _=>⟨u.slots,k b u q⟩
 free:=fun b u q n _=>by rw [upd_ne (nN1 (nL1 (hL1 q) hp))];exact n
 there:=fun b u q _=>⟨u,k b u q⟩
 tups:=fun b xs q=>by rw [upd_ne (ne_of_none q hn)];exact q
 frzs:=fun b u xs q=>by rw [upd_ne (ne_of_none q hn)];exact q
 tbls:=fun b ps q=>⟨#[],by rw [upd_ne (ne_of_none q hn),q];simp⟩
theorem Un.write (mu:Mut (H x))(he:e=x\/H e=some (.own x))(k:∀ b u,b≠e->h.get? b=some u->h'.get? b=some u)(heo:∃ u,h'.get? e=some u):Un fs ex H (upd H x o) h h':=by
 have hx:∀ b,H b=none->b≠x:=fun b n z=>by subst z;rw [n] at mu;exact mu
 have hb:∀ b,H b=none->b≠e:=fun b n z=>by
  subst z
  rcases he with r | r
  ·exact hx b n r
  ·rw [n] at r;cases r
 have hm:∀ b u,H b=some u -> ¬ Mut (some u)->b≠x:=fun b u q nm z=>by subst z;rw [q] at mu;exact nm mu
 refine ⟨fun b u q n _ _=>k b u (hb b n) q,fun b u q n _ _=>⟨u.slots,k b u (hb b n) q⟩,fun b u q n _=>by rw [upd_ne (hx b n)];exact n,fun b u q _=>?_,
  fun b xs q=>by rw [upd_ne (hm b _ q fun z=>z)];exact q,fun b u xs q=>by rw [upd_ne (hm b _ q fun z=>z)];exact q,fun b ps q=>⟨#[],by rw [upd_ne (hm b _ q fun z=>z),q];simp⟩⟩
 by_cases hbe:b=e
 ·subst hbe;exact heo
 ·exact ⟨u,k b u hbe q⟩
end
noncomputable def trk (h:Heap)(H:Hp):List Addr:=(List.range h.objs.size).filter fun a=>(H a).isSome
noncomputable def hidT (h:Heap)(H:Hp):Heap:=PySem.W.hideAll h (trk h H)
theorem hidT_size (h:Heap)(H:Hp):(hidT h H).objs.size=h.objs.size:=PySem.W.hideAll_size _ _
theorem hidT_get {h:Heap}{H:Hp}{b:Addr}{o:Obj}(e:h.get? b=some o)(n:H b=none):(hidT h H).get? b=some o:=
 PySem.W.hideAll_get _ e fun hm=>by
  have q:(H b).isSome=true:=(List.mem_filter.mp hm).2
  rw [n] at q;simp at q
theorem of_hidT {h:Heap}{H:Hp}{b:Addr}{o:Obj}(e:(hidT h H).get? b=some o):h.get? b=some o/\H b=none:=by
 have e':h.get? b=some o:=PySem.W.of_hideAll (trk h H) e
 refine ⟨e',?_⟩
 cases q:H b with
 | none=>rfl
 | some x=>
  have hm:b∈trk h H:=List.mem_filter.mpr ⟨List.mem_range.mpr (hL1 e'),by simp [q]⟩
  have z:(hidT h H).get? b=none:=PySem.W.hideAll_none (trk h H) hm
  rw [z] at e;cases e
noncomputable def allNews (g h:Heap)(L:Addr):List (Addr×Obj):=(List.range h.objs.size).filterMap fun a=>if a=L\/(g.get? a).isSome=true then none else (h.get? a).map fun o=>(a,o)
noncomputable def rest (g h:Heap)(L d:Addr):List (Addr×Obj):=(allNews g h L).filter fun p=>decide (p.1≠d)
end L2
namespace L2
open PySem PySem.Spec PyProof.Rows
structure Mod (K:Fg1)(mg:Str->Option Value)(base:Heap):Prop where
 kin:K.In base
 glob:base.Ns mainGlobals mg
 blt:∃ mb,base.Ns builtinsNs mb /\ ∀ x:Str,x≠"__name__"->mb x=bootBuiltins x
 nolimit:base.NoLimit
structure Cx where
 prog:Program
 w:World
 K:Fg1
 mg:Str->Option Value
 base:Heap
 A:Around
 N:List Str
 s₀:Shared
 H₀:Hp
 env:Env
 outer:List Env
 stack:List Env
 ex:List Addr
 fn:Str->Bool
 calm:Bool
 pn:List (Addr×Obj)
 xe:Value->Shared->Prop
noncomputable def frs (l:List Env):List Addr:=l.filterMap (·.frame)
noncomputable abbrev Cx.fs (X:Cx):List Addr:=frs X.outer
noncomputable def Vis (sc:Scope)(x:Str):Prop:=sc.names.lookup x=some .local\/sc.names.lookup x=some .cell\/sc.names.lookup x=some .free
noncomputable def Loc (sc:Scope)(x:Str):Prop:=sc.names.lookup x=some .local\/sc.names.lookup x=some .cell
noncomputable def Look (env:Env)(h:Heap)(m:Str->Option Value)(x:Str)(u:Value):Prop:=
 (env.kindOf x=some .local/\m x=some u)\/((env.kindOf x=some .cell\/env.kindOf x=some .free) /\ ∃ c,env.cells.lookup x=some c/\h.IsCell c (some u))
structure Cx.Ok (X:Cx):Prop where
 mod:Mod X.K X.mg X.base
 kind:X.env.scope.kind = .function
 glob:X.env.globals=mainGlobals
 blt:X.env.builtins=builtinsNs
 above:X.s₀.heap.objs.size<=X.env.locals
 inj:∀ x y c,X.env.cells.lookup x=some c->X.env.cells.lookup y=some c->x=y
 has:∀ x,(X.env.kindOf x=some .cell\/X.env.kindOf x=some .free) -> ∃ c,X.env.cells.lookup x=some c
 cab:∀ x c,X.fn x=true->X.env.cells.lookup x=some c->X.s₀.heap.objs.size<=c
 hd:X.calm=true->X.A.handled=none
 frames:X.A.frames=some X.stack
 stk:X.stack=X.outer\/(X.stack=X.env::X.outer/\X.env.frame=some X.env.locals)
 exf:∀ b∈X.ex,b≠X.env.locals /\ ∀ x c,X.env.cells.lookup x=some c->c≠b
 bs:∀ b o,X.base.get? b=some o->X.s₀.heap.get? b=some o/\X.H₀ b=none
 bsz:X.base.objs.size<=X.s₀.heap.objs.size
 noex:∀ b o,X.base.get? b=some o->b∉X.ex
 exfs:∀ b∈X.ex,b∉X.fs
 funs:X.s₀.heap.FunFrames X.base X.outer
 frf:∀ b∈X.fs,X.H₀ b=none
structure Inv (X:Cx)(pins:List (Addr×Obj))(σ:List (Option V))(H:Hp)(s:Shared):Prop where
 ok:X.Ok
 os:s.os=X.s₀.os
 bare:AllBare s.gens
 base:Un X.fs X.ex X.H₀ H X.s₀.heap s.heap
 loc:∃ m,s.heap.Ns X.env.locals m /\ ∀ (i:Nat) (x:Str) (v:V),X.N[i]? = some x->σ[i]? = some (some v)->Vis X.env.scope x -> ∃ u,RelV v u/\Look X.env s.heap m x u
 cell:∀ x c,X.env.cells.lookup x=some c -> ∃ v,s.heap.IsCell c v
 free:H X.env.locals=none
 freeC:∀ x c,X.env.cells.lookup x=some c->H c=none
 pin:∀ p∈X.pn++pins,s.heap.get? p.1=some p.2/\H p.1=none/\p.1≠X.env.locals/\p.1∉X.fs /\ ∀ v,p.2.data ≠ .cell v
 hok:HOk X.prog X.w H s.heap
 len:σ.length=X.N.length
section
variable {X:Cx} {pins:List (Addr×Obj)} {σ:List (Option V)} {H H':Hp} {s:Shared} {h':Heap}
theorem Cx.Ok.nofr (ok:X.Ok){b:Addr}{o:Obj}(e:X.base.get? b=some o):b∉X.fs:=fun hb=>by
 have:=(ok.funs.mem hb).1
 rw [e] at this;cases this
theorem Inv.bs (I:Inv X pins σ H s):∀ b o,X.base.get? b=some o->s.heap.get? b=some o/\H b=none:=fun b o e=>
 ⟨I.base.keep b o (I.ok.bs b o e).1 (I.ok.bs b o e).2 (I.ok.nofr e) (I.ok.noex b o e),I.base.free b o (I.ok.bs b o e).1 (I.ok.bs b o e).2 (I.ok.noex b o e)⟩
theorem Inv.bk (I:Inv X pins σ H s):∀ b o,X.base.get? b=some o->s.heap.get? b=some o:=fun b o e=>(I.bs b o e).1
theorem Inv.mod (I:Inv X pins σ H s):Mod X.K X.mg X.base:=I.ok.mod
theorem Inv.kIn (I:Inv X pins σ H s):X.K.In s.heap:=I.ok.mod.kin.keeps I.bk
theorem Inv.lt (I:Inv X pins σ H s):X.env.locals<s.heap.objs.size:=let ⟨_,hn,_⟩:=I.loc;hn.lt
theorem Inv.sz (I:Inv X pins σ H s):X.s₀.heap.objs.size<=s.heap.objs.size:=Nat.le_trans I.ok.above (Nat.le_of_lt I.lt)
theorem Inv.nofs (I:Inv X pins σ H s){a:Addr}(h:s.heap.objs.size<=a):a∉X.fs:=fun hb=>by
 obtain ⟨_,o,ho,_⟩:=I.ok.funs.mem hb
 exact absurd (nL1 (hL1 ho) (Nat.le_trans I.sz h)) (Nat.lt_irrefl _)
theorem Inv.cne (I:Inv X pins σ H s):∀ x c,X.env.cells.lookup x=some c->c≠X.env.locals:=fun x c e z=>by
 obtain ⟨v,o,ho,hd⟩:=I.cell x c e
 obtain ⟨m,⟨o',es,ep,ho',hd',_⟩,_⟩:=I.loc
 rw [z,ho'] at ho;cases ho;rw [hd'] at hd;cases hd
theorem Inv.funs (I:Inv X pins σ H s):s.heap.FunFrames X.base X.outer:=by
 have all:∀ (l:List Env),(∀ b∈frs l,b∈X.fs)->X.s₀.heap.FunFrames X.base l->s.heap.FunFrames X.base l:=by
  intro l
  induction l with
  | nil=>intro _ _;trivial
  | cons env r ih=>
   intro hs hl
   obtain ⟨hk,⟨L,o,hf,hn,ho,hd⟩,hr⟩:=hl
   have hL:L∈X.fs:=hs L (by unfold frs;rw [List.filterMap_cons,hf];exact mS1)
   obtain ⟨sl,e⟩:=I.base.slot L o ho (I.ok.frf L hL) hL fun z=>I.ok.exfs L z hL
   exact ⟨hk,⟨L,_,hf,hn,e,hd⟩,ih (fun b hb=>hs b (by unfold frs;rw [List.filterMap_cons,hf];exact mC1 _ hb)) hr⟩
 exact all X.outer (fun _ hb=>hb) I.ok.funs
theorem Inv.stack (I:Inv X pins σ H s):s.heap.FunFrames X.base X.stack:=by
 rcases I.ok.stk with e | ⟨e,hf⟩
 ·rw [e];exact I.funs
 ·rw [e]
  obtain ⟨m,hn,_⟩:=I.loc
  refine .cons (by rw [I.ok.kind];decide) hf hn ?_ I.funs
  exact Heap.get?_none_of_le (Nat.le_trans I.ok.bsz I.ok.above)
theorem Inv.stkSub (I:Inv X pins σ H s):∀ b∈frs X.stack,b∈X.env.locals::X.fs:=fun b hb=>by
 rcases I.ok.stk with e | ⟨e,hf⟩
 ·rw [e] at hb;exact mC1 _ hb
 ·rw [e] at hb
  unfold frs at hb
  rw [List.filterMap_cons,hf] at hb
  exact hb
theorem Inv.stkFree (I:Inv X pins σ H s):∀ b∈frs X.stack,H b=none:=fun b hb=>by
 rcases List.mem_cons.mp (I.stkSub b hb) with e | hb
 ·rw [e];exact I.free
 ·obtain ⟨_,o,ho,_⟩:=I.ok.funs.mem hb
  exact I.base.free b o ho (I.ok.frf b hb) fun z=>I.ok.exfs b z hb
theorem Inv.step {g':Array GenState}{t':Nat}{d':Drawn}{ch:List Addr}(I:Inv X pins σ H s)
  (hch:∀ b∈ch,(b∈X.ex\/X.s₀.heap.objs.size<=b)/\b≠X.env.locals/\(∀ x c,X.env.cells.lookup x=some c->c≠b) /\ ∀ p∈X.pn++pins,p.1≠b)
  (keep:∀ b o,b≠X.env.locals->b∉X.fs->b∉ch->s.heap.get? b=some o->H b=none->h'.get? b=some o)
  (slot:∀ b o,b≠X.env.locals->b∈X.fs->b∉ch->s.heap.get? b=some o->H b=none -> ∃ sl,h'.get? b=some {o with slots:=sl}) (free:∀ b o,b∉ch->s.heap.get? b=some o->H b=none->H' b=none)
  (there:∀ b o,b∉ch->s.heap.get? b=some o -> ∃ o',h'.get? b=some o')
  (tups:∀ b xs,H b=some (.tup xs)->H' b=some (.tup xs)) (frzs:∀ b o u,H b=some (.frz o u)->H' b=some (.frz o u)) (tbls:∀ b ps,H b=some (.tbl ps) -> ∃ more,H' b=some (.tbl (ps++more)))
  (ns:∀ m,s.heap.Ns X.env.locals m->h'.Ns X.env.locals m) (hok:HOk X.prog X.w H' h') (hg:AllBare g'):
  Inv X pins σ H' {s with heap:=h',gens:=g',drawn:=d',toks:=t'}:=by
 have neL:∀ b o,X.s₀.heap.get? b=some o->b≠X.env.locals:=fun b o e=>nN1 (nL1 (hL1 e) I.ok.above)
 have neC:∀ b o,X.s₀.heap.get? b=some o->b∉X.ex->b∉ch:=fun b o e hx hb=>by
  rcases (hch b hb).1 with z | z
  ·exact hx z
  ·exact absurd (nL1 (hL1 e) z) (Nat.lt_irrefl _)
 have cellK:∀ x c,X.env.cells.lookup x=some c -> ∀ v,s.heap.IsCell c v->h'.IsCell c v:=fun x c e v ⟨o,ho,hd⟩=>by
  have nch:c∉ch:=fun z=>(hch c z).2.2.1 x c e rfl
  by_cases hc:c∈X.fs
  ·obtain ⟨sl,q⟩:=slot c o (I.cne x c e) hc nch ho (I.freeC x c e)
   exact ⟨_,q,hd⟩
  ·exact ⟨o,keep c o (I.cne x c e) hc nch ho (I.freeC x c e),hd⟩
 refine ⟨I.ok,I.os,hg,⟨fun b o e n hb hx=>?_,fun b o e n hb hx=>?_,fun b o e n hx=>?_,fun b o e hx=>?_,fun b xs e=>tups b xs (I.base.tups b xs e),fun b o xs e=>frzs b o xs (I.base.frzs b o xs e),fun b ps e=>?_⟩,?_,fun x c e=>?_,?_,fun x c e=>?_,fun p hp=>?_,hok,I.len⟩
 ·exact keep b o (neL b o e) hb (neC b o e hx) (I.base.keep b o e n hb hx) (I.base.free b o e n hx)
 ·obtain ⟨sl,e1⟩:=I.base.slot b o e n hb hx
  obtain ⟨sl',e2⟩:=slot b _ (neL b o e) hb (neC b o e hx) e1 (I.base.free b o e n hx)
  exact ⟨sl',e2⟩
 ·obtain ⟨o',e1⟩:=I.base.there b o e hx
  exact free b o' (neC b o e hx) e1 (I.base.free b o e n hx)
 ·obtain ⟨o',e1⟩:=I.base.there b o e hx
  exact there b o' (neC b o e hx) e1
 ·obtain ⟨m1,e1⟩:=I.base.tbls b ps e
  obtain ⟨m2,e2⟩:=tbls b _ e1
  exact ⟨m1++m2,by rw [e2,Array.append_assoc]⟩
 ·obtain ⟨m,hn,hl⟩:=I.loc
  refine ⟨m,ns m hn,fun i x v e1 e2 e3=>?_⟩
  obtain ⟨u,r,l⟩:=hl i x v e1 e2 e3
  refine ⟨u,r,?_⟩
  rcases l with l | ⟨k,c,e,z⟩
  ·exact .inl l
  ·exact .inr ⟨k,c,e,cellK x c e _ z⟩
 ·obtain ⟨v,z⟩:=I.cell x c e
  exact ⟨v,cellK x c e v z⟩
 ·obtain ⟨m,⟨o,_,_,ho,_⟩,_⟩:=I.loc
  exact free _ o (fun z=>(hch _ z).2.1 rfl) ho I.free
 ·obtain ⟨v,o,ho,hd⟩:=I.cell x c e
  exact free c o (fun z=>(hch c z).2.2.1 x c e rfl) ho (I.freeC x c e)
 ·obtain ⟨e,n,ne,nf,d⟩:=I.pin p hp
  have nch:p.1∉ch:=fun z=>(hch p.1 z).2.2.2 p hp rfl
  exact ⟨keep p.1 p.2 ne nf nch e n,free p.1 p.2 nch e n,ne,nf,d⟩
theorem Inv.un {t':Nat}(I:Inv X pins σ H s)(u:Un X.fs [] H H' s.heap h')(hok:HOk X.prog X.w H' h'):Inv X pins σ H' {s with heap:=h',toks:=t'}:=by
 obtain ⟨m,⟨o,es,ep,ho,r⟩,_⟩:=id I.loc
 obtain ⟨sl,hL⟩:=u.any ho I.free (by simp)
 exact I.step (g':=s.gens) (d':=s.drawn) (ch:=[]) (fun _ z=>nomatch z) (fun b o _ hb _ e n=>u.keep b o e n hb (by simp)) (fun b o _ hb _ e n=>u.slot b o e n hb (by simp)) (fun b o _ e n=>u.free b o e n (by simp)) (fun b o _ e=>u.there b o e (by simp)) u.tups u.frzs u.tbls (fun m' hm=>by
  obtain ⟨o',es',ep',ho',r'⟩:=hm
  rw [ho] at ho';cases ho'
  exact ⟨_,es',ep',hL,r'⟩) hok I.bare
theorem Inv.call {g':Array GenState}{t':Nat}{d':Drawn}{ch:List Addr}(I:Inv X pins σ H s)(u:Un (frs X.stack) ch H H' s.heap h')(hok:HOk X.prog X.w H' h')(hg:AllBare g')
  (hch:∀ b∈ch,(b∈X.ex\/X.s₀.heap.objs.size<=b)/\b≠X.env.locals/\(∀ x c,X.env.cells.lookup x=some c->c≠b) /\ ∀ p∈X.pn++pins,p.1≠b):
  Inv X pins σ H' {s with heap:=h',gens:=g',drawn:=d',toks:=t'}:=by
 obtain ⟨m,⟨o,es,ep,ho,r⟩,_⟩:=id I.loc
 obtain ⟨sl,hL⟩:=u.any ho I.free fun z=>(hch _ z).2.1 rfl
 exact I.step (ch:=ch) hch (fun b o hL hb hc e n=>u.keep b o e n (fun z=>(List.mem_cons.mp (I.stkSub b z)).elim hL hb) hc) (fun b o _ _ hc e n=>u.any e n hc) (fun b o hc e n=>u.free b o e n hc) (fun b o hc e=>u.there b o e hc) u.tups u.frzs u.tbls (fun m' hm=>by
  obtain ⟨o',es',ep',ho',r'⟩:=hm
  rw [ho] at ho';cases ho'
  exact ⟨_,es',ep',hL,r'⟩) hok hg
theorem Inv.turned {t':Nat}{it:Addr}(I:Inv X pins σ H s)(k:∀ b o,b≠it->s.heap.get? b=some o->h'.get? b=some o)(hn:H it=none)(hL:it≠X.env.locals)
  (h1:it∈X.ex\/X.s₀.heap.objs.size<=it) (h2:∀ x c,X.env.cells.lookup x=some c->c≠it) (h3:∀ p∈X.pn++pins,p.1≠it):Inv X pins σ H {s with heap:=h',toks:=t'}:=by
 have nit:∀ b u,H b=some u->b≠it:=fun b u e z=>by rw [z,hn] at e;cases e
 refine I.step (g':=s.gens) (d':=s.drawn) (ch:=[it]) (fun b hb=>?_) (fun b o _ _ hc e _=>k b o (fun z=>hc (by simp [z])) e) (fun b o _ _ hc e _=>⟨o.slots,k b o (fun z=>hc (by simp [z])) e⟩) (fun _ _ _ _ n=>n)
  (fun b o hc e=>⟨o,k b o (fun z=>hc (by simp [z])) e⟩) (fun _ _ e=>e) (fun _ _ _ e=>e) (fun b ps e=>⟨#[],by rw [e];simp⟩) (fun m hm=>?_) (fun b u e=>?_) I.bare
 ·have e:b=it:=by simpa using hb
  subst e
  exact ⟨h1,hL,h2,h3⟩
 ·obtain ⟨o,es,ep,ho,r⟩:=hm
  exact ⟨o,es,ep,k _ o (Ne.symm hL) ho,r⟩
 ·refine (I.hok b u e).stay (fun c v hc q=>k c v ?_ q) (fun _ q=>q) fun _ _ q=>q
  rcases hc with z | z
  ·rw [z];exact nit b u e
  ·exact nit c _ z
theorem Inv.tok (I:Inv X pins σ H s)(t:Nat):Inv X pins σ H {s with toks:=t}:=I.un (h':=s.heap) (t':=t) Un.refl I.hok
theorem Inv.kept {t':Nat}(I:Inv X pins σ H s)(k:∀ b u,s.heap.get? b=some u->h'.get? b=some u):Inv X pins σ H {s with heap:=h',toks:=t'}:=I.un (Un.kept k) (I.hok.kept k)
theorem Inv.laid {a:Addr}{o:HO}{t':Nat}(I:Inv X pins σ H s)(k:∀ b u,s.heap.get? b=some u->h'.get? b=some u)(hp:s.heap.objs.size<=a)(new:ObjOk X.prog X.w (upd H a o) h' a o):
  Inv X pins σ (upd H a o) {s with heap:=h',toks:=t'}:=I.un (Un.laid k hp (I.hok.fresh hp)) (I.hok.laid k hp new)
theorem Inv.write {x e:Addr}{o:HO}{t':Nat}(I:Inv X pins σ H s)(mu:Mut (H x))(he:e=x\/H e=some (.own x))(k:∀ b u,b≠e->s.heap.get? b=some u->h'.get? b=some u)(heo:∃ u,h'.get? e=some u)
  (new:ObjOk X.prog X.w (upd H x o) h' x o):Inv X pins σ (upd H x o) {s with heap:=h',toks:=t'}:=I.un (Un.write mu he k heo) (I.hok.write mu he k heo new)
theorem Inv.pins_of {pins':List (Addr×Obj)}(I:Inv X pins σ H s)(h:∀ p∈pins',s.heap.get? p.1=some p.2/\H p.1=none/\p.1≠X.env.locals/\p.1∉X.fs /\ ∀ v,p.2.data ≠ .cell v):Inv X pins' σ H s:=
 ⟨I.ok,I.os,I.bare,I.base,I.loc,I.cell,I.free,I.freeC,fun p hp=>(List.mem_append.mp hp).elim (fun z=>I.pin p (List.mem_append_left _ z)) (h p),I.hok,I.len⟩
theorem nodup_ix {N:List Str}(hN:N.Nodup){i j:Nat}{x:Str}(a:N[i]? = some x)(b:N[j]? = some x):i=j:=by
 obtain ⟨h1,e1⟩:=gE1.mp a
 obtain ⟨h2,e2⟩:=gE1.mp b
 exact (List.getElem_inj hN).mp (e1.trans e2.symm)
theorem store_ok2 {M:Model}{A:Around}{E:Value->Shared->Prop}{i:Nat}{x:Str}{v:V}{u:Value}{Q:Unit->Shared->Prop}(I:Inv X pins σ H s)(hN:X.N.Nodup)(hi:X.N[i]? = some x)(hx:Loc X.env.scope x)(r:RelV v u)
  (h:∀ s',Inv X pins (σ.set i (some v)) H s'->(∃ a,Heap.SameBut a s.heap s'.heap/\(a=X.env.locals\/X.env.cells.lookup x=some a))->Q () s') (hf:X.fn x=true\/X.env.scope.names.lookup x=some .local:=by first | exact .inl rfl | exact .inr rfl | assumption):wpAny M A (storeName X.env x u) Q E s:=by
 obtain ⟨m,hn,hl⟩:=id I.loc
 have hcls:(X.env.scope.kind == .class||(X.env.scope.kind == .module&&X.env.locals != X.env.globals))=false:=by rw [I.ok.kind];rfl
 have hiσ:i<σ.length:=by rw [I.len];exact (gE1.mp hi).1
 have cne:=I.cne
 have tracked:∀ {a:Addr} {h':Heap},(∃ o,s.heap.get? a=some o/\H a=none)->Heap.SameBut a s.heap h'->HOk X.prog X.w H h':=fun {a h'} ha hs b ob e=>by
  obtain ⟨_,_,hfree⟩:=ha
  refine (I.hok b ob e).stay (fun c w' hc q=>(hs.2 c ?_).trans q) (fun _ q=>q) fun _ _ q=>q
  rintro rfl
  rcases hc with rfl | hc
  ·rw [hfree] at e;cases e
  ·rw [hfree] at hc;cases hc
 rcases hx with hk | hk
 ·refine wpAny_storeName_local hk hn (fun h' hn' hs=>?_) hcls
  obtain ⟨oL,_,_,hoL,_⟩:=id hn
  refine h _ ⟨I.ok,I.os,I.bare,⟨fun b o e n hb hx=>?_,fun b o e n hb hx=>?_,I.base.free,fun b o e hx=>?_,I.base.tups,I.base.frzs,I.base.tbls⟩,⟨_,hn',fun j y v' e1 e2 e3=>?_⟩,fun y c e=>?_,I.free,I.freeC,fun p hp=>?_,tracked ⟨oL,hoL,I.free⟩ hs,by simpa using I.len⟩ ⟨_,hs,.inl rfl⟩
  ·exact (hs.2 b (nN1 (nL1 (hL1 e) I.ok.above))).trans (I.base.keep b o e n hb hx)
  ·obtain ⟨sl,e1⟩:=I.base.slot b o e n hb hx
   exact ⟨sl,(hs.2 b (nN1 (nL1 (hL1 e) I.ok.above))).trans e1⟩
  ·obtain ⟨o',e1⟩:=I.base.there b o e hx
   exact ⟨o',(hs.2 b (nN1 (nL1 (hL1 e) I.ok.above))).trans e1⟩
  ·by_cases hj:j=i
   ·subst hj
    rw [hi] at e1;cases e1
    rw [List.getElem?_set_self hiσ] at e2
    cases e2
    exact ⟨u,r,.inl ⟨hk,by simp⟩⟩
   ·rw [gS1 (Ne.symm hj)] at e2
    obtain ⟨u',r',q⟩:=hl j y v' e1 e2 e3
    refine ⟨u',r',?_⟩
    rcases q with ⟨k,e⟩ | ⟨k,c,e,z⟩
    ·refine .inl ⟨k,?_⟩
     have:y≠x:=fun e=>hj (nodup_ix hN e1 (e ▸ hi))
     simp [this,e]
    ·exact .inr ⟨k,c,e,z.sameBut hs (cne y c e)⟩
  ·obtain ⟨w',z⟩:=I.cell y c e
   exact ⟨w',z.sameBut hs (cne y c e)⟩
  ·obtain ⟨e,n,ne,nf,d⟩:=I.pin p hp
   exact ⟨(hs.2 p.1 ne).trans e,n,ne,nf,d⟩
 ·have hfn:X.fn x=true:=by
   rcases hf with z | z
   ·exact z
   ·rw [z] at hk;cases hk
  obtain ⟨c,hc⟩:=I.ok.has x (.inl hk)
  obtain ⟨w',z⟩:=I.cell x c hc
  refine wpAny_storeName_cell I.ok.kind hk hc z (fun h' hc' hs=>?_)
  obtain ⟨oc,hoc,hocd⟩:=id z
  refine h {s with heap:=h'} ⟨I.ok,I.os,I.bare,⟨fun b o e n hb hx=>?_,fun b o e n hb hx=>?_,I.base.free,fun b o e hx=>?_,I.base.tups,I.base.frzs,I.base.tbls⟩,⟨m,hn.sameBut hs (Ne.symm (cne x c hc)),fun j y v' e1 e2 e3=>?_⟩,fun y c' e=>?_,I.free,I.freeC,fun p hp=>?_,tracked ⟨oc,hoc,I.freeC x c hc⟩ hs,by simpa using I.len⟩ ⟨c,hs,.inr hc⟩
  ·exact (hs.2 b (nN1 (nL1 (hL1 e) (I.ok.cab x c hfn hc)))).trans (I.base.keep b o e n hb hx)
  ·obtain ⟨sl,e1⟩:=I.base.slot b o e n hb hx
   exact ⟨sl,(hs.2 b (nN1 (nL1 (hL1 e) (I.ok.cab x c hfn hc)))).trans e1⟩
  ·obtain ⟨o',e1⟩:=I.base.there b o e hx
   exact ⟨o',(hs.2 b (nN1 (nL1 (hL1 e) (I.ok.cab x c hfn hc)))).trans e1⟩
  ·by_cases hj:j=i
   ·subst hj
    rw [hi] at e1;cases e1
    rw [List.getElem?_set_self hiσ] at e2
    cases e2
    exact ⟨u,r,.inr ⟨.inl hk,c,hc,hc'⟩⟩
   ·rw [gS1 (Ne.symm hj)] at e2
    obtain ⟨u',r',q⟩:=hl j y v' e1 e2 e3
    refine ⟨u',r',?_⟩
    rcases q with q | ⟨k,c',e,z'⟩
    ·exact .inl q
    ·refine .inr ⟨k,c',e,z'.sameBut hs ?_⟩
     rintro rfl
     exact hj (nodup_ix hN e1 (I.ok.inj _ _ _ e hc ▸ hi))
  ·by_cases hcc:c'=c
   ·subst hcc;exact ⟨_,hc'⟩
   ·obtain ⟨w2,z2⟩:=I.cell y c' e
    exact ⟨w2,z2.sameBut hs hcc⟩
  ·obtain ⟨e,n,ne,nf,d⟩:=I.pin p hp
   refine ⟨(hs.2 p.1 ?_).trans e,n,ne,nf,d⟩
   intro q
   rw [q,hoc] at e
   have q':oc=p.2:=Option.some.inj e
   exact d w' (by rw [<- q'];exact hocd)
theorem store_ok {M:Model}{A:Around}{E:Value->Shared->Prop}{i:Nat}{x:Str}{v:V}{u:Value}{Q:Unit->Shared->Prop}(I:Inv X pins σ H s)(hN:X.N.Nodup)(hi:X.N[i]? = some x)(hx:Loc X.env.scope x)(r:RelV v u)
  (h:∀ s',Inv X pins (σ.set i (some v)) H s'->Q () s') (hf:X.fn x=true\/X.env.scope.names.lookup x=some .local:=by first | exact .inl rfl | exact .inr rfl | assumption):wpAny M A (storeName X.env x u) Q E s:=
 store_ok2 I hN hi hx r (fun s' I' _=>h s' I') hf
theorem Inv.call' {s':Shared}{ch:List Addr}(I:Inv X pins σ H s)(ho:s'.os=s.os)(u:Un (frs X.stack) ch H H' s.heap s'.heap)(hok:HOk X.prog X.w H' s'.heap)(hg:AllBare s'.gens)
  (hch:∀ b∈ch,(b∈X.ex\/X.s₀.heap.objs.size<=b)/\b≠X.env.locals/\(∀ x c,X.env.cells.lookup x=some c->c≠b) /\ ∀ p∈X.pn++pins,p.1≠b):Inv X pins σ H' s':=by
 obtain ⟨h',g',d',t',o'⟩:=s'
 have e:o'=s.os:=ho
 subst e
 exact I.call (g':=g') (t':=t') (d':=d') u hok hg hch
end
noncomputable abbrev XK:=Value->Option Addr->Hp->Prop
noncomputable abbrev St:=List (Option V)
noncomputable abbrev VK:=V->Hp->Prop
noncomputable abbrev TE:=St->Hp->VK->Prop
noncomputable abbrev TT:=St->Hp->(Bool->Hp->Prop)->Prop
noncomputable abbrev TA:=St->Hp->(List V->Hp->Prop)->Prop
structure Ends where
 nx:St->Hp->Prop
 rt:VK
 bk:St->Hp->Prop:=fun _ _=>False
 ct:St->Hp->Prop:=fun _ _=>False
noncomputable abbrev TS:=Ends->St->Hp->Prop
noncomputable def EP (X:Cx)(pins:List (Addr×Obj))(σ:St)(Q:VK)(u:Value)(s':Shared):Prop:=∃ v H',Inv X pins σ H' s'/\RelV v u/\Q v H'
noncomputable def TP (X:Cx)(pins:List (Addr×Obj))(σ:St)(Q:Bool->Hp->Prop)(b:Bool)(s':Shared):Prop:=∃ H',Inv X pins σ H' s'/\Q b H'
noncomputable def AP (X:Cx)(pins:List (Addr×Obj))(σ:St)(Q:List V->Hp->Prop)(us:List Value)(s':Shared):Prop:=∃ vs H',Inv X pins σ H' s'/\Vals vs us/\Q vs H'
noncomputable def SP (X:Cx)(pins:List (Addr×Obj))(D:Ends)(f:Flow)(s':Shared):Prop:=
 match f with
 | .next=>∃ σ' H',Inv X pins σ' H' s'/\D.nx σ' H'
 | .brk=>∃ σ' H',Inv X pins σ' H' s'/\D.bk σ' H'
 | .cont=>∃ σ' H',Inv X pins σ' H' s'/\D.ct σ' H'
 | .ret u=>∃ v σ' H',Inv X pins σ' H' s'/\RelV v u/\D.rt v H'
noncomputable def PE (X:Cx)(e:Expr)(t:TE):Prop:=
 ∀ (pins:List (Addr×Obj)) (s:Shared) (σ:St) (H:Hp) (Q:VK),Inv X pins σ H s->t σ H Q->wpAny (model X.prog X.w) X.A (eval e X.env) (EP X pins σ Q) X.xe s
noncomputable def PT (X:Cx)(e:Expr)(t:TT):Prop:=
 ∀ (pins:List (Addr×Obj)) (s:Shared) (σ:St) (H:Hp) (Q:Bool->Hp->Prop),Inv X pins σ H s->t σ H Q->wpAny (model X.prog X.w) X.A (isTrue e X.env (eval e X.env)) (TP X pins σ Q) X.xe s
noncomputable def PW (X:Cx)(e:Expr)(t:TT):Prop:=
 ∀ (whole:Sem Value) (pins:List (Addr×Obj)) (s:Shared) (σ:St) (H:Hp) (Q:Bool->Hp->Prop),Inv X pins σ H s->t σ H Q->wpAny (model X.prog X.w) X.A (isTrue e X.env whole) (TP X pins σ Q) X.xe s
theorem PW.pt {X:Cx}{e:Expr}{t:TT}(h:PW X e t):PT X e t:=h _
noncomputable def PA (X:Cx)(es:List Expr)(t:TA):Prop:=
 ∀ (pos:Pos) (pins:List (Addr×Obj)) (s:Shared) (σ:St) (H:Hp) (Q:List V->Hp->Prop),Inv X pins σ H s->t σ H Q->wpAny (model X.prog X.w) X.A (spliced (backTo pos (starEach es X.env))) (AP X pins σ Q) X.xe s
noncomputable def PS (X:Cx)(st:Stmt)(t:TS):Prop:=
 ∀ (pins:List (Addr×Obj)) (s:Shared) (σ:St) (H:Hp) (D:Ends),Inv X pins σ H s->t D σ H->wpAny (model X.prog X.w) X.A (exec st X.env) (SP X pins D) X.xe s
noncomputable def PSs (X:Cx)(st:List Stmt)(t:TS):Prop:=
 ∀ (pins:List (Addr×Obj)) (s:Shared) (σ:St) (H:Hp) (D:Ends),Inv X pins σ H s->t D σ H->wpAny (model X.prog X.w) X.A (execs st X.env) (SP X pins D) X.xe s
theorem thn {α:Type}{t:Sem α}{Q Q':α->Shared->Prop}{M:Model}{A:Around}{E:Value->Shared->Prop}{s:Shared}(h:wpAny M A t Q E s)(hQ:∀ a s,Q a s->Q' a s):wpAny M A t Q' E s:=wpAny_mono h hQ fun _ _ x=>x
end L2
namespace L2
open PySem PySem.Spec PyProof.Rows
section
variable {X:Cx}
theorem bin {a b:Expr}{ta tb:TE}(ha:PE X a ta)(hb:PE X b tb){pins:List (Addr×Obj)}{s:Shared}{σ:St}{H:Hp}{R:V->V->Hp->Prop}(I:Inv X pins σ H s)(h:ta σ H fun x H1=>tb σ H1 fun y H2=>R x y H2)
  {α:Type} {Q:α->Shared->Prop} {f:Value->Value->Sem α}
  (hf:∀ v u s2 x y H2,Inv X pins σ H2 s2->RelV x v->RelV y u->R x y H2->wpAny (model X.prog X.w) X.A (f v u) Q X.xe s2):
  wpAny (model X.prog X.w) X.A (eval a X.env) (fun v s₁=>wpAny (model X.prog X.w) X.A (eval b X.env) (fun u s₂=>wpAny (model X.prog X.w) X.A (f v u) Q X.xe s₂) X.xe s₁) X.xe s:=by
 refine thn (ha pins s σ H _ I h) fun v s1 ⟨x,H1,I1,r1,q1⟩=>?_
 refine thn (hb pins s1 σ H1 _ I1 q1) fun u s2 ⟨y,H2,I2,r2,q2⟩=>?_
 exact hf v u s2 x y H2 I2 r1 r2 q2
noncomputable def tVar (i:Nat):TE:=fun σ H Q=>∃ v,σ[i]? = some (some v)/\Q v H
noncomputable def tC (v:V):TE:=fun _ H Q=>Q v H
theorem pe_var {i:Nat}{x:Str}{pos:Pos}(hN:X.N[i]? = some x)(hv:Vis X.env.scope x)(hd:(x == ("__debug__":Str))=false:=by decide)(hcd:(x == ("__classdict__":Str))=false:=by decide):PE X (.Name x pos) (tVar i):=by
 intro pins s σ H Q I h
 obtain ⟨v,e,h⟩:=h
 obtain ⟨m,hn,hl⟩:=I.loc
 obtain ⟨u,r,l⟩:=hl i x v hN e hv
 have fin:EP X pins σ Q u s:=⟨v,H,I,r,h⟩
 rcases l with ⟨hk,hm⟩ | ⟨hk,c,hc,hcell⟩
 ·exact wpAny_Name (wpAny_loadName_local I.ok.kind hk hn hm fin) hd
 ·rcases hk with hk | hk
  ·exact wpAny_Name (wpAny_loadName_cell I.ok.kind hk hc hcell fin) hd
  ·exact wpAny_Name (wpAny_loadName_free I.ok.kind hk hc hcell fin hcd) hd
theorem pe_int {i j pos}:PE X (.Constant (.int i) j pos) (tC (.int i)):=fun _ _ _ H _ I h=>wpAny_Constant_int ⟨.int i,H,I.tok _,⟨_,rfl⟩,h⟩
theorem pe_bl {b j pos}:PE X (.Constant (.bool b) j pos) (tC (.bl b)):=fun _ _ _ H _ I h=>Constant_bool ⟨.bl b,H,I,rfl,h⟩
theorem pe_non {j pos}:PE X (.Constant .none j pos) (tC .non):=fun _ _ _ H _ I h=>Constant_none ⟨.non,H,I,rfl,h⟩
theorem pe_str {x j pos}:PE X (.Constant (.str x) j pos) (tC (.str x)):=fun _ _ _ H _ I h=>Calls.Constant_str ⟨.str x,H,I.tok _,⟨_,rfl⟩,h⟩
noncomputable def Gl (X:Cx)(x:Str):Prop:=X.env.kindOf x=some .globalImplicit
theorem ld_glob {E:Value->Shared->Prop}{pins:List (Addr×Obj)}{s:Shared}{σ:St}{H:Hp}{x:Str}{u:Value}{pos:Pos}{Q:Value->Shared->Prop}(I:Inv X pins σ H s)(hg:Gl X x)(hm:X.mg x=some u)(h:Q u s)
  (hd:(x == ("__debug__":Str))=false:=by decide):wpAny (model X.prog X.w) X.A (eval (.Name x pos) X.env) Q E s:=
 Calls.Name_function_global I.ok.kind hg (Calls.loadGlobal_global (by rw [I.ok.glob];exact I.mod.glob.keeps I.bk) hm h) hd
theorem ld_blt {E:Value->Shared->Prop}{pins:List (Addr×Obj)}{s:Shared}{σ:St}{H:Hp}{x:Str}{u:Value}{pos:Pos}{Q:Value->Shared->Prop}(I:Inv X pins σ H s)(hg:Gl X x)(hm:X.mg x=none)(hv:bootBuiltins x=some u)(h:Q u s)
  (hn:x≠"__name__":=by decide) (hd:(x == ("__debug__":Str))=false:=by decide):wpAny (model X.prog X.w) X.A (eval (.Name x pos) X.env) Q E s:=by
 obtain ⟨mb,h1,h2⟩:=I.mod.blt
 exact Calls.Name_function_global I.ok.kind hg (Calls.loadGlobal_builtin (by rw [I.ok.glob];exact I.mod.glob.keeps I.bk) hm (by rw [I.ok.blt];exact h1.keeps I.bk) ((h2 x hn).trans hv) h) hd
theorem pe_glob {x:Str}{v:V}{u:Value}{pos:Pos}(hg:Gl X x)(hm:X.mg x=some u)(r:RelV v u)(hd:(x == ("__debug__":Str))=false:=by decide):PE X (.Name x pos) (tC v):=
 fun _ _ _ H _ I h=>ld_glob I hg hm ⟨v,H,I,r,h⟩ hd
variable {a b:Expr} {ta tb:TE} {pos:Pos}
noncomputable def tB (t:TE):TT:=fun σ H Q=>t σ H fun x H1=>∃ c,x = .bl c/\Q c H1
variable {tA tB':TT} {rest:List Expr}
noncomputable def tAnd (t u:TT):TT:=fun σ H Q=>t σ H fun c H1=>if c=true then u σ H1 Q else Q false H1
noncomputable def tOr (t u:TT):TT:=fun σ H Q=>t σ H fun c H1=>if c=true then Q true H1 else u σ H1 Q
theorem pw_and1 (ha:PT X a tA):PW X (.BoolOp .And [a] pos) tA:=by
 intro wh pins s σ H Q I h
 refine isTrue_and (thn (ha pins s σ H Q I h) fun c s1 e=>?_)
 cases c with
 | true=>exact isTrue_and_nil e
 | false=>exact e
theorem pw_or1 (ha:PT X a tA):PW X (.BoolOp .Or [a] pos) tA:=by
 intro wh pins s σ H Q I h
 refine isTrue_or (thn (ha pins s σ H Q I h) fun c s1 e=>?_)
 cases c with
 | false=>exact isTrue_or_nil e
 | true=>exact e
theorem pw_and (ha:PT X a tA)(hb:PW X (.BoolOp .And (b::rest) pos) tB'):PW X (.BoolOp .And (a::b::rest) pos) (tAnd tA tB'):=by
 intro wh pins s σ H Q I h
 refine isTrue_and (thn (ha pins s σ H _ I h) fun c s1 ⟨H1,I1,q1⟩=>?_)
 cases c with
 | true=>exact hb wh pins s1 σ H1 Q I1 q1
 | false=>exact ⟨H1,I1,q1⟩
theorem pw_or (ha:PT X a tA)(hb:PW X (.BoolOp .Or (b::rest) pos) tB'):PW X (.BoolOp .Or (a::b::rest) pos) (tOr tA tB'):=by
 intro wh pins s σ H Q I h
 refine isTrue_or (thn (ha pins s σ H _ I h) fun c s1 ⟨H1,I1,q1⟩=>?_)
 cases c with
 | true=>exact ⟨H1,I1,q1⟩
 | false=>exact hb wh pins s1 σ H1 Q I1 q1
noncomputable def tIf (t:TT)(ta tb:TE):TE:=fun σ H Q=>t σ H fun c H1=>if c=true then ta σ H1 Q else tb σ H1 Q
theorem pe_ifExp {c:Expr}(hc:PT X c tA)(ha:PE X a ta)(hb:PE X b tb):PE X (.IfExp c a b pos) (tIf tA ta tb):=by
 intro pins s σ H Q I h
 refine wpAny_IfExp (thn (hc pins s σ H _ I h) fun d s1 ⟨H1,I1,q1⟩=>?_)
 cases d with
 | true=>exact ha pins s1 σ H1 Q I1 q1
 | false=>exact hb pins s1 σ H1 Q I1 q1
end
end L2
namespace L2
open PySem PySem.Spec PyProof.Rows
noncomputable def SqL (K:Fg1)(H:Hp)(a:Addr)(xs:List V):Prop:=
 Rd H a (.lst xs) \/
  ∃ (o:Obj) (its:Array Value) (n:Nat),K.lookup a=some o/\o.cls = .type "list"/\o.dict=none/\o.data = .seq its n/\its.size<=sizeLine/\Vals xs its.toList
noncomputable def SqT (K:Fg1)(H:Hp)(a:Addr)(xs:List V):Prop:=
 Rd H a (.tup xs) \/
  ∃ (o:Obj) (its:Array Value) (n:Nat),K.lookup a=some o/\o.cls = .type "tuple"/\o.data = .seq its n/\its.size<=sizeLine/\Vals xs its.toList
noncomputable def absV:Value->Option V
 | .none=>some .non
 | .bool b=>some (.bl b)
 | .int i _=>some (.int i)
 | .str x _=>some (.str x)
 | .bytes b _=>some (.byt b)
 | .float b _=>some (.flt b)
 | .ref a=>some (.ref a)
 | .type n=>some (.ty n)
 | _=>none
theorem RelV.abs {x:V}{u:Value}(r:RelV x u):absV u=some x:=by
 cases x with
 | non=>cases r;rfl
 | bl _=>cases r;rfl
 | int _=>obtain ⟨t,rfl⟩:=r;rfl
 | str _=>obtain ⟨t,rfl⟩:=r;rfl
 | byt _=>obtain ⟨t,rfl⟩:=r;rfl
 | flt _=>obtain ⟨t,rfl⟩:=r;rfl
 | ref _=>cases r;rfl
 | ty _=>cases r;rfl
theorem RelV.inj {x y:V}{u:Value}(r:RelV x u)(q:RelV y u):x=y:=Option.some.inj (r.abs.symm.trans q.abs)
theorem Vals.inj:∀ {xs ys:List V} {us:List Value},Vals xs us->Vals ys us->xs=ys:=by
 intro xs ys us h g
 induction h generalizing ys with
 | nil=>cases g;rfl
 | cons r t ih=>cases g with
  | cons r' t'=>rw [r.inj r',ih t']
section
variable {X:Cx} {pins:List (Addr×Obj)} {σ:St} {H:Hp} {s:Shared} {a:Addr} {xs ys:List V}
theorem SqL.of {K:Fg1}(h:H a=some (.lst xs)):SqL K H a xs:=.inl (.inl h)
theorem SqT.of {K:Fg1}(h:H a=some (.tup xs)):SqT K H a xs:=.inl (.inl h)
theorem Inv.list (I:Inv X pins σ H s)(h:SqL X.K H a xs):∃ its:List Value,Vals xs its/\PlainL s.heap a its.toArray/\xs.length<=sizeLine:=by
 rcases h with h | ⟨o,its,n,hk,hc,hd,hs,hz,r⟩
 ·obtain ⟨z,its,n,r,e⟩:=h.ok I.hok
  exact ⟨its,r,⟨_,n,e,rfl,rfl,rfl⟩,z⟩
 ·refine ⟨its.toList,r,⟨o,n,I.kIn a o hk,hc,hd,by simpa using hs⟩,?_⟩
  have e:=r.length
  simp only [Array.length_toList] at e
  lia
theorem Inv.tuple (I:Inv X pins σ H s)(h:SqT X.K H a xs):∃ its:List Value,Vals xs its/\IsTup s.heap a its.toArray/\xs.length<=sizeLine:=by
 rcases h with h | ⟨o,its,n,hk,hc,hs,hz,r⟩
 ·obtain ⟨z,its,r,p⟩:=h.ok I.hok
  exact ⟨its,r,p,z⟩
 ·refine ⟨its.toList,r,⟨o,I.kIn a o hk,hc,n,by simpa using hs⟩,?_⟩
  have e:=r.length
  simp only [Array.length_toList] at e
  lia
theorem Inv.list_inj (I:Inv X pins σ H s)(h:SqL X.K H a xs)(h':SqL X.K H a ys):xs=ys:=by
 obtain ⟨its,r,⟨o,n,e,_,_,d⟩,_⟩:=I.list h
 obtain ⟨its',r',⟨o',n',e',_,_,d'⟩,_⟩:=I.list h'
 rw [e] at e';cases e'
 rw [d] at d'
 injection d' with d1 _
 have:its=its':=by simpa using congrArg Array.toList d1
 subst this
 exact r.inj r'
theorem Inv.tuple_inj (I:Inv X pins σ H s)(h:SqT X.K H a xs)(h':SqT X.K H a ys):xs=ys:=by
 obtain ⟨its,r,⟨o,e,_,n,d⟩,_⟩:=I.tuple h
 obtain ⟨its',r',⟨o',e',_,n',d'⟩,_⟩:=I.tuple h'
 rw [e] at e';cases e'
 rw [d] at d'
 injection d' with d1 _
 have:its=its':=by simpa using congrArg Array.toList d1
 subst this
 exact r.inj r'
end
noncomputable abbrev Cx.wish (X:Cx)(E:Value->Shared->Prop):Cx:={X with xe:=E}
noncomputable abbrev Cx.nox (X:Cx):Cx:=X.wish fun _ _=>False
theorem Cx.Ok.wish {X:Cx}(ok:X.Ok)(E:Value->Shared->Prop):(X.wish E).Ok:=
 ⟨ok.mod,ok.kind,ok.glob,ok.blt,ok.above,ok.inj,ok.has,ok.cab,ok.hd,ok.frames,ok.stk,ok.exf,ok.bs,ok.bsz,ok.noex,ok.exfs,ok.funs,ok.frf⟩
theorem Cx.Ok.unwish {X:Cx}{E:Value->Shared->Prop}(ok:(X.wish E).Ok):X.Ok:=
 ⟨ok.mod,ok.kind,ok.glob,ok.blt,ok.above,ok.inj,ok.has,ok.cab,ok.hd,ok.frames,ok.stk,ok.exf,ok.bs,ok.bsz,ok.noex,ok.exfs,ok.funs,ok.frf⟩
section
variable {X:Cx} {pins:List (Addr×Obj)} {σ:St} {H:Hp} {s:Shared} {E:Value->Shared->Prop}
theorem Inv.wish (I:Inv X pins σ H s)(E:Value->Shared->Prop):Inv (X.wish E) pins σ H s:=⟨I.ok.wish E,I.os,I.bare,I.base,I.loc,I.cell,I.free,I.freeC,I.pin,I.hok,I.len⟩
theorem Inv.unwish (I:Inv (X.wish E) pins σ H s):Inv X pins σ H s:=⟨I.ok.unwish,I.os,I.bare,I.base,I.loc,I.cell,I.free,I.freeC,I.pin,I.hok,I.len⟩
theorem SP.unwish {D:Ends}{f:Flow}{s':Shared}(h:SP (X.wish E) pins D f s'):SP X pins D f s':=by
 cases f with
 | next=>obtain ⟨σ',H',I,q⟩:=h;exact ⟨σ',H',I.unwish,q⟩
 | brk=>obtain ⟨σ',H',I,q⟩:=h;exact ⟨σ',H',I.unwish,q⟩
 | cont=>obtain ⟨σ',H',I,q⟩:=h;exact ⟨σ',H',I.unwish,q⟩
 | ret u=>obtain ⟨v,σ',H',I,r,q⟩:=h;exact ⟨v,σ',H',I.unwish,r,q⟩
theorem PSs.nox {st:List Stmt}{t:TS}(h:PSs X.nox st t):PSs X st t:=fun pins s σ H D I hw=>
 wpAny_mono (h pins s σ H D (I.wish _) hw) (fun _ _ q=>q.unwish) fun _ _ z=>False.elim z
end
section
variable {X:Cx} {st:Stmt} {rest:List Stmt} {t u:TS} {e:Expr} {te:TE} {pos:Pos}
noncomputable def tNext:TS:=fun D σ H=>D.nx σ H
noncomputable def tSeq (t u:TS):TS:=fun D σ H=>t {D with nx:=u D} σ H
theorem pss_nil:PSs X [] tNext:=fun _ _ σ H _ I h=>wpAny_execs_nil ⟨σ,H,I,h⟩
theorem pss_cons (h1:PS X st t)(h2:PSs X rest u):PSs X (st::rest) (tSeq t u):=by
 intro pins s σ H D I h
 refine wpAny_execs_cons (thn (h1 pins s σ H {D with nx:=u D} I h) fun f s1 q=>?_)
 cases f with
 | next=>
  obtain ⟨σ',H',I',q⟩:=q
  exact h2 pins s1 σ' H' D I' q
 | ret v=>exact q
 | brk=>exact q
 | cont=>exact q
theorem pss_one (h1:PS X st t):PSs X [st] t:=by
 intro pins s σ H D I h
 refine wpAny_execs_cons (thn (h1 pins s σ H D I h) fun f s1 q=>?_)
 cases f with
 | next=>exact wpAny_execs_nil q
 | ret v=>exact q
 | brk=>exact q
 | cont=>exact q
theorem Inv.quiet {pins:List (Addr×Obj)}{σ:St}{H:Hp}{s:Shared}(I:Inv X pins σ H s):interactive X.env=false:=by simp [interactive,I.ok.kind]
noncomputable def tDrop (te:TE):TS:=fun D σ H=>te σ H fun _ H1=>D.nx σ H1
theorem ps_expr (he:PE X e te)(hs:swapsWith e none pos.line X.env=pure false:=by rfl):PS X (.Expr e pos) (tDrop te):=by
 intro pins s σ H D I h
 exact wpAny_Expr_any (thn (he pins s σ H _ I h) fun v s1 ⟨x,H1,I1,r1,q1⟩=>⟨σ,H1,I1,q1⟩) I.quiet hs
noncomputable def tRet (te:TE):TS:=fun D σ H=>te σ H D.rt
theorem ps_ret (he:PE X e te):PS X (.Return (some e) pos) (tRet te):=by
 intro pins s σ H D I h
 exact wpAny_Return_some (thn (he pins s σ H _ I h) fun v s1 ⟨x,H1,I1,r1,q1⟩=>⟨x,σ,H1,I1,r1,q1⟩)
noncomputable def tIfS (c:TT)(t u:TS):TS:=fun D σ H=>c σ H fun b H1=>if b=true then t D σ H1 else u D σ H1
theorem ps_if {c:Expr}{a b:List Stmt}{tc:TT}(hc:PT X c tc)(ha:PSs X a t)(hb:PSs X b u):PS X (.If c a b pos) (tIfS tc t u):=by
 intro pins s σ H D I h
 refine wpAny_If (thn (hc pins s σ H _ I h) fun d s1 ⟨H1,I1,q1⟩=>?_)
 cases d with
 | true=>exact ha pins s1 σ H1 D I1 q1
 | false=>exact hb pins s1 σ H1 D I1 q1
end
noncomputable abbrev TG:=V->St->Hp->(St->Hp->Prop)->Prop
noncomputable abbrev TGs:=List V->St->Hp->(St->Hp->Prop)->Prop
noncomputable def PG (X:Cx)(target:Expr)(t:TG):Prop:=
 ∀ (pins:List (Addr×Obj)) (s:Shared) (σ:St) (H:Hp) (v:V) (u:Value) (Q:St->Hp->Prop),Inv X pins σ H s->RelV v u->t v σ H Q ->
  wpAny (model X.prog X.w) X.A (assign target X.env u) (fun _ s'=>∃ σ' H',Inv X pins σ' H' s'/\Q σ' H') X.xe s
noncomputable def PGs (X:Cx)(ts:List Expr)(t:TGs):Prop:=
 ∀ (pins:List (Addr×Obj)) (s:Shared) (σ:St) (H:Hp) (vs:List V) (us:List Value) (Q:St->Hp->Prop),Inv X pins σ H s->Vals vs us->t vs σ H Q ->
  wpAny (model X.prog X.w) X.A (assignInOrder ((assignEach ts X.env).map (·.2)) us) (fun _ s'=>∃ σ' H',Inv X pins σ' H' s'/\Q σ' H') X.xe s
noncomputable abbrev TSet:=V->V->V->Hp->(Hp->Prop)->Prop
noncomputable def PSet (X:Cx)(t:TSet):Prop:=
 ∀ (pins:List (Addr×Obj)) (s:Shared) (σ:St) (H:Hp) (o i v:V) (ov iv u:Value) (Q:Hp->Prop),Inv X pins σ H s->RelV o ov->RelV i iv->RelV v u->t o i v H Q ->
  wpAny (model X.prog X.w) X.A (setItem ov iv u) (fun _ s'=>∃ H',Inv X pins σ H' s'/\Q H') X.xe s
noncomputable abbrev TIp:=V->V->Hp->VK->Prop
noncomputable def PIp (X:Cx)(op:Operator)(t:TIp):Prop:=
 ∀ (pins:List (Addr×Obj)) (s:Shared) (σ:St) (H:Hp) (x y:V) (v u:Value) (Q:VK),Inv X pins σ H s->RelV x v->RelV y u->t x y H Q ->
  wpAny (model X.prog X.w) X.A (inplaceOp op v u) (EP X pins σ Q) X.xe s
section
variable {X:Cx} {pos:Pos}
noncomputable def gName (i:Nat):TG:=fun v σ H Q=>Q (σ.set i (some v)) H
theorem pg_name {i:Nat}{x:Str}(hN:X.N.Nodup)(hi:X.N[i]? = some x)(hx:Loc X.env.scope x)(hf:X.fn x=true\/X.env.scope.names.lookup x=some .local:=by first | exact .inl rfl | exact .inr rfl | assumption):PG X (.Name x pos) (gName i):=by
 intro pins s σ H v u Q I r h
 exact wpAny_assign_Name (store_ok I hN hi hx r (fun s' I'=>⟨_,H,I',h⟩) hf)
noncomputable def gNil:TGs:=fun vs σ H Q=>vs=[]/\Q σ H
noncomputable def gCons (t:TG)(u:TGs):TGs:=fun vs σ H Q=>∃ v r,vs=v::r/\t v σ H fun σ' H'=>u r σ' H' Q
theorem pgs_nil:PGs X [] gNil:=by
 intro pins s σ H vs us Q I r h
 obtain ⟨e,h⟩:=h
 subst e
 cases r
 exact assignInOrder_nil ⟨σ,H,I,h⟩
theorem pgs_cons {e:Expr}{es:List Expr}{t:TG}{u:TGs}(h1:PG X e t)(h2:PGs X es u)
  (hs:(assignEach (e::es) X.env).map (·.2)=assign e X.env::(assignEach es X.env).map (·.2):=by rfl):PGs X (e::es) (gCons t u):=by
 intro pins s σ H vs us Q I r h
 obtain ⟨v,vr,e1,h⟩:=h
 subst e1
 cases r with
 | cons r rr=>
  rw [hs]
  refine assignInOrder_cons (thn (h1 pins s σ H _ _ _ I r h) fun _ s1 ⟨σ1,H1,I1,q1⟩=>?_)
  exact h2 pins s1 σ1 H1 _ _ Q I1 rr q1
noncomputable def gTup (K:Fg1)(n:Nat)(t:TGs):TG:=fun v σ H Q=>∃ a xs,v = .ref a/\SqT K H a xs/\xs.length=n/\t xs σ H Q
theorem pg_tup {es:List Expr}{k:Nat}{t:TGs}{n:Nat}(hc:X.calm=true)(h:PGs X es t)
  (hn:(assignEach es X.env).length=n:=by rfl) (hst:(assignEach es X.env).findIdx? (·.1)=none:=by rfl):PG X (.Tuple es k pos) (gTup X.K n t):=by
 intro pins s σ H v u Q I r hw
 obtain ⟨a,xs,e1,hq,hl,hw⟩:=hw
 subst e1
 cases r
 obtain ⟨its,rv,ht,hz⟩:=I.tuple hq
 refine assign_Tuple_tuple (I.ok.hd hc) ht (by simp [hn,<- hl,rv.length]) hst fun h' hx=>?_
 have I1:Inv X pins σ H {s with heap:=h'}:=I.kept (t':=s.toks) fun b o e=>hx b o (nN1 (hL1 e)) e
 exact h pins _ σ H xs _ Q I1 (by simpa using rv) hw
noncomputable def gSub (to ti:TE)(t:TSet):TG:=fun v σ H Q=>to σ H fun o H1=>ti σ H1 fun i H2=>t o i v H2 fun H3=>Q σ H3
theorem pg_sub {o i:Expr}{to ti:TE}{t:TSet}(ho:PE X o to)(hi:PE X i ti)(hs:PSet X t)
  (ha:∀ v,assign (.Subscript o i pos) X.env v=(do
   let ov<-holding [v] (eval o X.env)
   let iv<-holding [v,ov] (eval i X.env)
   standAt pos
   holding [v,ov,iv] (setItem ov iv v)
   release [v,ov,iv] []):=by intro _;rfl):PG X (.Subscript o i pos) (gSub to ti t):=by
 intro pins s σ H v u Q I r h
 rw [ha]
 refine wB1 (wpAny_holding (thn (ho pins s σ H _ I h) fun ov s1 ⟨x,H1,I1,r1,q1⟩=>?_))
 refine wB1 (wpAny_holding (thn (hi pins s1 σ H1 _ I1 q1) fun iv s2 ⟨y,H2,I2,r2,q2⟩=>?_))
 refine wB1 (wpAny_standAt (wB1 (wpAny_holding (thn (hs pins s2 σ H2 x y v ov iv u _ I2 r1 r2 r q2) fun _ s3 ⟨H3,I3,q3⟩=>?_))))
 exact wpAny_release ⟨σ,H3,I3,q3⟩
noncomputable def tAsg (te:TE)(g:TG):TS:=fun D σ H=>te σ H fun x H1=>g x σ H1 D.nx
theorem ps_asg {tg e:Expr}{te:TE}{g:TG}(he:PE X e te)(hg:PG X tg g)(hs:swapsWithSole [tg] e pos.line X.env=pure false:=by rfl)(hw:swappedStores [tg] e X.env=pure none:=by rfl)
  (h1:(assignEach [tg] X.env).map (·.2)=[assign tg X.env]:=by rfl):PS X (.Assign [tg] e pos) (tAsg te g):=by
 intro pins s σ H D I h
 refine wpAny_Assign_stores (thn (he pins s σ H _ I h) fun v s1 ⟨x,H1,I1,r1,q1⟩=>?_) hs hw
 rw [h1]
 exact thn (hg pins s1 σ H1 x v _ I1 r1 q1) fun _ s2 q=>q
theorem ps_set {i:Nat}{x:Str}{e:Expr}{te:TE}{pos':Pos}(hN:X.N.Nodup)(hi:X.N[i]? = some x)(hx:Loc X.env.scope x)(he:PE X e te)(hs:swapsWith e (some (.Name x pos')) pos.line X.env=pure false:=by rfl)(hf:X.fn x=true\/X.env.scope.names.lookup x=some .local:=by first | exact .inl rfl | exact .inr rfl | assumption):
  PS X (.Assign [.Name x pos'] e pos) (tAsg te (gName i)):=by
 intro pins s σ H D I h
 refine wpAny_Assign_Name (thn (he pins s σ H _ I h) fun v s1 ⟨y,H1,I1,r1,q1⟩=>?_) hs
 exact store_ok I1 hN hi hx r1 (fun s2 I2=>⟨_,H1,I2,q1⟩) hf
noncomputable def tPar (i j:Nat)(ta:TA):TS:=fun D σ H=>ta σ H fun vs H1=>∃ v w,vs=[v,w]/\D.nx ((σ.set i (some v)).set j (some w)) H1
theorem ps_par {i j:Nat}{x y:Str}{a b:Expr}{ta:TA}{px py pt:Pos}{kt k2 pt2}(hc:X.calm=true)(hN:X.N.Nodup)(hi:X.N[i]? = some x)(hj:X.N[j]? = some y)(hij:i≠j)
  (hx:X.env.scope.names.lookup x=some .local) (hy:X.env.scope.names.lookup y=some .local) (ha:PA X [a,b] ta)
  (hw:swappedStores [.Tuple [.Name x px,.Name y py] kt pt] (.Tuple [a,b] k2 pt2) X.env=pure (some [x,y]))
  (hs:swapsWithSole [.Tuple [.Name x px,.Name y py] kt pt] (.Tuple [a,b] k2 pt2) pos.line X.env=pure false:=by rfl):
  PS X (.Assign [.Tuple [.Name x px,.Name y py] kt pt] (.Tuple [a,b] k2 pt2) pos) (tPar i j ta):=by
 intro pins s σ H D I h
 rw [exec_Assign_arm]
 refine wB1 (wpAny_standAt ?_)
 rw [hs]
 refine wB1 (wP1 ?_)
 rw [if_neg (by decide)]
 refine wB1 (Tuple_ (thn (ha _ pins s σ H _ I h) fun us s1 ⟨vs,H1,I1,r1,q1⟩=>?_))
 obtain ⟨v,w,e1,q1⟩:=q1
 subst e1
 obtain ⟨u1,u2,rfl,rv,rw'⟩:∃ u1 u2,us=[u1,u2]/\RelV v u1/\RelV w u2:=by
  cases r1 with
  | cons p q=>
   cases q with
   | cons p' q'=>
    cases q'
    exact ⟨_,_,rfl,p,p'⟩
 refine wO1 ?_ (by show 2<=sizeLine;decide)
 have I2:Inv X pins σ H1 {s1 with heap:=s1.heap.push {cls:=.type "tuple",data:=.seq [u1,u2].toArray}}:=I1.kept (t':=s1.toks) fun b o e=>hP1 _ e
 rw [hw]
 refine wB1 (wP1 ?_)
 show wpAny (model X.prog X.w) X.A (do rule "assign.swapped-stores";let items<-unpackItems (.ref s1.heap.objs.size) 2 none;assignInOrder [fun v=>bindName X.env y v,fun v=>bindName X.env x v] items.reverse;pure Flow.next) _ _ _
 refine wB1 (wpAny_rule (wB1 (unpackItems_tuple (items:= #[u1,u2]) (I.ok.hd hc) (IsTup.new s1.heap _) fun h' hx'=>?_)))
 have I3:=I2.kept (h':=h') (t':=s1.toks) fun b o e=>hx' b o (nN1 (hL1 e)) e
 show wpAny _ _ (assignInOrder [fun v=>bindName X.env y v,fun v=>bindName X.env x v] [u2,u1] >>= fun _=>pure Flow.next) _ _ _
 refine wB1 (assignInOrder_cons (wpAny_bindName (store_ok I3 hN hj (.inl hy) rw' (fun s2 I4=>?_) (.inr hy))))
 refine assignInOrder_cons (wpAny_bindName (store_ok I4 hN hi (.inl hx) rv (fun s3 I5=>assignInOrder_nil (wP1 ?_)) (.inr hx)))
 rw [List.set_comm _ _ (Ne.symm hij)] at I5
 exact ⟨_,H1,I5,q1⟩
noncomputable def tAug (i:Nat)(te:TE)(ti:TIp):TS:=fun D σ H=>∃ x,σ[i]? = some (some x)/\te σ H fun y H1=>ti x y H1 fun z H2=>D.nx (σ.set i (some z)) H2
theorem ps_aug {i:Nat}{x:Str}{e:Expr}{te:TE}{op:Operator}{ti:TIp}{pos':Pos}(hN:X.N.Nodup)(hi:X.N[i]? = some x)(hx:Loc X.env.scope x)(he:PE X e te)(ho:PIp X op ti)(hf:X.fn x=true\/X.env.scope.names.lookup x=some .local:=by first | exact .inl rfl | exact .inr rfl | assumption):
  PS X (.AugAssign (.Name x pos') op e pos) (tAug i te ti):=by
 intro pins s σ H D I h
 obtain ⟨v,e1,h⟩:=h
 obtain ⟨m,hn,hl⟩:=I.loc
 have vis:Vis X.env.scope x:=by rcases hx with k | k;exact .inl k;exact .inr (.inl k)
 obtain ⟨u,r,l⟩:=hl i x v hi e1 vis
 refine wpAny_AugAssign_Name ?_
 have go:wpAny (model X.prog X.w) X.A (eval e X.env) (fun w s₂=>wpAny (model X.prog X.w) X.A (inplaceOp op u w) (fun r s₃=>wpAny (model X.prog X.w) X.A (storeName X.env x r) (fun _=>SP X pins D .next) X.xe s₃) X.xe s₂) X.xe s:=by
  refine thn (he pins s σ H _ I h) fun w s1 ⟨y,H1,I1,r1,q1⟩=>?_
  refine thn (ho pins s1 σ H1 v y u w _ I1 r r1 q1) fun z s2 ⟨zv,H2,I2,r2,q2⟩=>?_
  exact store_ok I2 hN hi hx r2 (fun s3 I3=>⟨_,H2,I3,q2⟩) hf
 rcases l with ⟨hk,hm⟩ | ⟨hk,c,hc,hcell⟩
 ·exact wpAny_loadName_local I.ok.kind hk hn hm go
 ·rcases hk with hk | hk
  ·exact wpAny_loadName_cell I.ok.kind hk hc hcell go
  ·rcases hx with k | k
   ·have:X.env.scope.names.lookup x=some .free:=hk
    rw [k] at this;cases this
   ·have:X.env.scope.names.lookup x=some .free:=hk
    rw [k] at this;cases this
end
section
variable {X:Cx} {pos:Pos}
noncomputable def tWhile (c:TT)(tb:TS):TS:=fun D σ H=>∃ W:Nat->St->Hp->Prop,(∃ m,W m σ H) /\ ∀ m σ H,W m σ H ->
 c σ H fun b H1=>if b=true then ∃ N:St->Hp->Prop,(∀ σ' H',N σ' H' -> ∃ m',m'<m/\W m' σ' H')/\tb {D with nx:=N,ct:=N,bk:=D.nx} σ H1 else D.nx σ H1
theorem ps_while {c:Expr}{body:List Stmt}{tc:TT}{tb:TS}(hp:PassesOwn (model X.prog X.w) X.A X.env X.xe)(hc:PT X c tc)(hb:PSs X body tb):PS X (.While c body [] pos) (tWhile tc tb):=by
 intro pins s σ H D I h
 obtain ⟨W,⟨m0,w0⟩,turn⟩:=h
 refine wpAny_While (codeAny_whileLoop (fun n s'=>∃ σ' H',Inv X pins σ' H' s'/\W n σ' H') ?_ m0 ⟨σ,H,I,w0⟩)
 rintro n s1 ⟨σ1,H1,I1,w1⟩
 refine wpAny_passesOwn hp (thn (hc pins s1 σ1 H1 _ I1 (turn n σ1 H1 w1)) fun b s2 ⟨H2,I2,q2⟩=>?_)
 cases b with
 | true=>
  obtain ⟨N,hN,q2⟩:=q2
  rw [if_pos rfl]
  refine wpAny_passesOwn hp (thn (hb pins s2 σ1 H2 _ I2 q2) fun f s3 q3=>?_)
  cases f with
  | next=>
   obtain ⟨σ3,H3,I3,n3⟩:=q3
   obtain ⟨m',hm,w3⟩:=hN σ3 H3 n3
   exact ⟨m',hm,σ3,H3,I3,w3⟩
  | cont=>
   obtain ⟨σ3,H3,I3,n3⟩:=q3
   obtain ⟨m',hm,w3⟩:=hN σ3 H3 n3
   exact ⟨m',hm,σ3,H3,I3,w3⟩
  | brk=>exact q3
  | ret v=>exact q3
 | false=>
  rw [if_neg Bool.false_ne_true]
  exact wpAny_execs_nil ⟨σ1,H2,I2,q2⟩
end
structure It where
 go:Nat->Hp->Prop
 yld:Nat->Hp->V->Hp->Prop
 stop:Nat->Hp->Prop
noncomputable def FpOk (X:Cx)(pins:List (Addr×Obj))(H:Hp)(b:Addr):Prop:=
 H b=none/\b≠X.env.locals/\b∉X.fs/\(b∈X.ex\/X.s₀.heap.objs.size<=b)/\(∀ x c,X.env.cells.lookup x=some c->c≠b) /\ ∀ p∈X.pn++pins,p.1≠b
theorem Inv.fpOk {X:Cx}{pins:List (Addr×Obj)}{σ:St}{H H':Hp}{s:Shared}{b:Addr}(I:Inv X pins σ H s)(hb:s.heap.objs.size<=b)(hn:H' b=none):FpOk X pins H' b:=by
 refine ⟨hn,nG1 (nL1 I.lt hb),I.nofs hb,.inr (Nat.le_trans I.sz hb),fun x c e z=>?_,fun p hp z=>?_⟩
 ·obtain ⟨v,q⟩:=I.cell x c e
  exact absurd (nL1 q.lt (by rw [z];exact hb)) (Nat.lt_irrefl _)
 ·exact absurd (nL1 (hL1 (I.pin p hp).1) (by rw [z];exact hb)) (Nat.lt_irrefl _)
structure Turn (P:Program)(w:World)(K:Fg1)(tg:Expr)(J:It)(fp:List Addr)(it:Addr)(tn:Nat->Heap->Prop):Prop where
 mem:it∈fp
 obj:∀ i h,tn i h -> ∀ b∈fp,∃ o,h.get? b=some o /\ ∀ v,o.data ≠ .cell v
 keep:∀ i h h',tn i h->(∀ b∈fp,∀ o,h.get? b=some o->h'.get? b=some o)->tn i h'
 item:∀ (X:Cx),X.prog=P->X.w=w->X.K=K->X.calm=true -> ∀ (i:Nat) (pins:List (Addr×Obj)) (s:Shared) (σ:St) (H:Hp) (E:Value->Shared->Prop),Inv X pins σ H s->(∀ b∈fp,FpOk X pins H b)->tn i s.heap->J.go i H ->
  wpAny (model P w) X.A (pyNext (.ref it)) (fun r s1=>∃ u,r=some u /\
   wpAny (model P w) X.A (letOwnedTupleGo tg (.ref it) u) (fun _ s2=>∃ x H',Inv X pins σ H' s2/\RelV x u/\J.yld i H x H'/\tn (i+1) s2.heap /\ ∀ b∈fp,H' b=none) E s1) E s
 done:∀ (X:Cx),X.prog=P->X.w=w->X.K=K->X.calm=true -> ∀ (i:Nat) (pins:List (Addr×Obj)) (s:Shared) (σ:St) (H:Hp) (E:Value->Shared->Prop),Inv X pins σ H s->(∀ b∈fp,FpOk X pins H b)->tn i s.heap->J.stop i H ->
  wpAny (model P w) X.A (pyNext (.ref it)) (fun r s1=>r=none/\Inv X pins σ H s1) E s
 self:∀ (A:Around) (i:Nat) (s:Shared) (Q:Value->Shared->Prop) (E:Value->Shared->Prop),tn i s.heap->Q (.ref it) s->wpAny (model P w) A (pyIter (.ref it)) Q E s
noncomputable abbrev TI:=St->Hp->(It->Hp->Prop)->Prop
noncomputable def PIE (X:Cx)(pins:List (Addr×Obj))(σ:St)(tg:Expr)(R:It->Hp->Prop)(itv:Value)(s2:Shared):Prop:=
 ∃ (it:Addr) (fp:List Addr) (tn:Nat->Heap->Prop) (J:It) (H':Hp),itv = .ref it/\Inv X pins σ H' s2/\Turn X.prog X.w X.K tg J fp it tn/\tn 0 s2.heap/\(∀ b∈fp,FpOk X pins H' b)/\R J H'
noncomputable def PI (X:Cx)(tg iter:Expr)(wi:TI):Prop:=
 ∀ (pins:List (Addr×Obj)) (s:Shared) (σ:St) (H:Hp) (R:It->Hp->Prop),Inv X pins σ H s->wi σ H R ->
  wpAny (model X.prog X.w) X.A (eval iter X.env) (fun v s1=>wpAny (model X.prog X.w) X.A (pyIter v) (PIE X pins σ tg R) X.xe s1) X.xe s
theorem go_of {M:Model}{A:Around}{E:Value->Shared->Prop}{s:Shared}{tg:Expr}{it:Addr}{u:Value}{o:Obj}{n:String}{vs:Array Value}{Q:Unit->Shared->Prop}(ho:s.heap.get? it=some o)(hc:o.cls = .type n)(hd:o.data = .fields vs)
   (hn:["enumerate","zip","dict_itemiterator","dict_reverseitemiterator","odict_iterator","itertools.zip_longest","itertools.pairwise"].contains n=false) (hQ:Q () s):wpAny M A (letOwnedTupleGo tg (.ref it) u) Q E s:=by
 unfold letOwnedTupleGo
 cases tg <;> first
   | exact wP1 hQ
   | (cases u<;>first
       | exact wP1 hQ
       | (refine wB1 (wpAny_load ho ?_)
          rw [hc,hd]
          show wpAny M A (if (["enumerate","zip","dict_itemiterator","dict_reverseitemiterator","odict_iterator","itertools.zip_longest","itertools.pairwise"].contains n&&vs[0]? == some (rawInt _))=true then _ else _) Q E s
          rw [if_neg (by intro h;rw [hn,Bool.false_and] at h;cases h)]
          exact wP1 hQ))
noncomputable def Itl (K:Fg1)(a:Addr):It:=
 ⟨fun i H=>∃ xs x,SqL K H a xs/\xs[i]? = some x,fun i H x H'=>H'=H /\ ∀ xs,SqL K H a xs->xs[i]? = some x,fun i H=>∃ xs,SqL K H a xs/\xs.length<=i⟩
noncomputable def Itt (K:Fg1)(a:Addr):It:=
 ⟨fun i H=>∃ xs x,SqT K H a xs/\xs[i]? = some x,fun i H x H'=>H'=H /\ ∀ xs,SqT K H a xs->xs[i]? = some x,fun i H=>∃ xs,SqT K H a xs/\xs.length<=i⟩
noncomputable def Itr (lo:Int)(n:Nat):It:=⟨fun i _=>i<n,fun i H x H'=>H'=H/\x = .int (lo+i),fun i _=>n<=i⟩
theorem turn_list {P:Program}{w:World}{K:Fg1}{tg:Expr}(a it:Addr):Turn P w K tg (Itl K a) [it] it (fun i h=>h.IsListIter it a i) where
 mem:=by simp
 obj:=fun i h st b hb=>by
  have e:b=it:=by simpa using hb
  subst e
  obtain ⟨o,e,c,d⟩:=st
  exact ⟨o,e,fun v z=>by rw [d] at z;cases z⟩
 keep:=fun i h h' st k=>st.at fun o e=>k it (by simp) o e
 item:=by
  intro X hP hw hK hc i pins s σ H E I hf st hg
  subst hP hw hK
  obtain ⟨xs,x,hq,hx⟩:=hg
  obtain ⟨its,rv,p,hz⟩:=I.list hq
  obtain ⟨u,hu,ru⟩:=rv.get hx
  obtain ⟨f0,f1,f2,f3,f4,f5⟩:=hf it (by simp)
  refine wpAny_pyNext_list_item st p.isList (x:=u) (by simpa using hu) fun h' st' sb=>?_
  have I1:Inv X pins σ H {s with heap:=h'}:=I.turned (t':=s.toks) (fun b o hb e=>(sb.2 b hb).trans e) f0 f1 f3 f4 f5
  obtain ⟨o,e,c,d⟩:=id st'
  exact ⟨u,rfl,go_of (s:={s with heap:=h'}) e c d (by decide) ⟨x,H,I1,ru,⟨rfl,fun ys hy=>by rw [I.list_inj hy hq];exact hx⟩,st',fun b hb=>(hf b hb).1⟩⟩
 done:=by
  intro X hP hw hK hc i pins s σ H E I hf st hg
  subst hP hw hK
  obtain ⟨xs,hq,hx⟩:=hg
  obtain ⟨its,rv,p,hz⟩:=I.list hq
  obtain ⟨f0,f1,f2,f3,f4,f5⟩:=hf it (by simp)
  have hl:=rv.length
  exact wpAny_pyNext_list_end (I.ok.hd hc) st p.isList (by simp;lia) fun h' eb=>⟨rfl,I.turned (t':=s.toks) (fun b o hb e=>eb b o hb e) f0 f1 f3 f4 f5⟩
 self:=fun _ _ _ _ _ st h=>wpAny_pyIter_listiter st h
theorem turn_tuple {P:Program}{w:World}{K:Fg1}{tg:Expr}(a it:Addr):Turn P w K tg (Itt K a) [it] it (fun i h=>h.IsTupleIter it a i) where
 mem:=by simp
 obj:=fun i h st b hb=>by
  have e:b=it:=by simpa using hb
  subst e
  obtain ⟨o,e,c,d⟩:=st
  exact ⟨o,e,fun v z=>by rw [d] at z;cases z⟩
 keep:=fun i h h' st k=>st.at fun o e=>k it (by simp) o e
 item:=by
  intro X hP hw hK hc i pins s σ H E I hf st hg
  subst hP hw hK
  obtain ⟨xs,x,hq,hx⟩:=hg
  obtain ⟨its,rv,p,hz⟩:=I.tuple hq
  obtain ⟨u,hu,ru⟩:=rv.get hx
  obtain ⟨f0,f1,f2,f3,f4,f5⟩:=hf it (by simp)
  refine wpAny_pyNext_tuple_item st (show s.heap.IsTuple a its.toArray from p) (x:=u) (by simpa using hu) fun h' st' sb=>?_
  have I1:Inv X pins σ H {s with heap:=h'}:=I.turned (t':=s.toks) (fun b o hb e=>(sb.2 b hb).trans e) f0 f1 f3 f4 f5
  obtain ⟨o,e,c,d⟩:=id st'
  exact ⟨u,rfl,go_of (s:={s with heap:=h'}) e c d (by decide) ⟨x,H,I1,ru,⟨rfl,fun ys hy=>by rw [I.tuple_inj hy hq];exact hx⟩,st',fun b hb=>(hf b hb).1⟩⟩
 done:=by
  intro X hP hw hK hc i pins s σ H E I hf st hg
  subst hP hw hK
  obtain ⟨xs,hq,hx⟩:=hg
  obtain ⟨its,rv,p,hz⟩:=I.tuple hq
  obtain ⟨f0,f1,f2,f3,f4,f5⟩:=hf it (by simp)
  have hl:=rv.length
  exact wpAny_pyNext_tuple_end (I.ok.hd hc) st (show s.heap.IsTuple a its.toArray from p) (by simp;lia) fun h' eb=>⟨rfl,I.turned (t':=s.toks) (fun b o hb e=>eb b o hb e) f0 f1 f3 f4 f5⟩
 self:=fun _ _ _ _ _ st h=>wpAny_pyIter_tupleiter st h
theorem turn_range {P:Program}{w:World}{K:Fg1}{tg:Expr}(it:Addr)(lo:Int)(n:Nat):Turn P w K tg (Itr lo n) [it] it (fun i h=>IsRangeIter h it (lo+(i:Nat)*1) ((n:Int)-(i:Nat)) 1) where
 mem:=by simp
 obj:=fun i h st b hb=>by
  have e:b=it:=by simpa using hb
  subst e
  exact ⟨_,st,fun v z=>by
   have z':Data.fields _=Data.cell v:=z
   cases z'⟩
 keep:=fun i h h' st k=>k it (by simp) _ st
 item:=by
  intro X hP hw hK hc i pins s σ H E I hf st hg
  subst hP hw hK
  obtain ⟨f0,f1,f2,f3,f4,f5⟩:=hf it (by simp)
  have W:=Walks.range (prog:=X.prog) (w:=X.w) (I.ok.hd hc) it lo 1 n
  refine W.item i s _ _ hg st fun v h' tk hv st' kk=>?_
  obtain ⟨t,rfl⟩:=hv
  have I1:Inv X pins σ H {s with heap:=h',toks:=tk}:=I.turned (fun b o hb e=>kk b o (by simpa using hb) e) f0 f1 f3 f4 f5
  refine ⟨_,rfl,go_of (s:={s with heap:=h',toks:=tk}) (n:="range_iterator") st' rfl rfl (by decide) ⟨.int (lo+i),H,I1,⟨t,?_⟩,⟨rfl,rfl⟩,st',fun b hb=>(hf b hb).1⟩⟩
  rw [Int.mul_one]
 done:=by
  intro X hP hw hK hc i pins s σ H E I hf st hg
  subst hP hw hK
  obtain ⟨f0,f1,f2,f3,f4,f5⟩:=hf it (by simp)
  exact wpAny_pyNext_range_end (I.ok.hd hc) st (by have:n<=i:=hg;lia) fun h' eb=>⟨rfl,I.turned (t':=s.toks) (fun b o hb e=>eb b o hb e) f0 f1 f3 f4 f5⟩
 self:=fun _ _ _ _ _ st h=>wpAny_pyIter_rangeiter st h
end L2
namespace L2
open PySem PySem.Spec PyProof.Rows
section
variable {X:Cx} {tg:Expr}
noncomputable def iList (K:Fg1)(tl:TE):TI:=fun σ H R=>tl σ H fun x H1=>∃ a,x = .ref a/\(∃ xs,SqL K H1 a xs)/\R (Itl K a) H1
noncomputable def iTup (K:Fg1)(tl:TE):TI:=fun σ H R=>tl σ H fun x H1=>∃ a,x = .ref a/\(∃ xs,SqT K H1 a xs)/\R (Itt K a) H1
theorem pi_list {l:Expr}{tl:TE}(hl:PE X l tl):PI X tg l (iList X.K tl):=by
 intro pins s σ H R I h
 refine thn (hl pins s σ H _ I h) fun v s1 ⟨x,H1,I1,r1,q1⟩=>?_
 obtain ⟨a,e,⟨xs,hq⟩,q⟩:=q1
 subst e
 cases r1
 obtain ⟨its,rv,p,hz⟩:=I1.list hq
 refine wpAny_pyIter_list p.isList ?_
 refine ⟨s1.heap.objs.size,[s1.heap.objs.size],_,_,H1,rfl,I1.kept (t':=s1.toks) fun b o e=>hP1 _ e,turn_list a _,⟨_,hS1 _ rfl,rfl,rfl⟩,fun b hb=>?_,q⟩
 have e:b=s1.heap.objs.size:=by simpa using hb
 subst e
 exact I1.fpOk (nR1 _) (I1.hok.fresh (nR1 _))
theorem pi_tup {l:Expr}{tl:TE}(hl:PE X l tl):PI X tg l (iTup X.K tl):=by
 intro pins s σ H R I h
 refine thn (hl pins s σ H _ I h) fun v s1 ⟨x,H1,I1,r1,q1⟩=>?_
 obtain ⟨a,e,⟨xs,hq⟩,q⟩:=q1
 subst e
 cases r1
 obtain ⟨its,rv,p,hz⟩:=I1.tuple hq
 refine wpAny_pyIter_tuple (show s1.heap.IsTuple a its.toArray from p) ?_
 refine ⟨s1.heap.objs.size,[s1.heap.objs.size],_,_,H1,rfl,I1.kept (t':=s1.toks) fun b o e=>hP1 _ e,turn_tuple a _,⟨_,hS1 _ rfl,rfl,rfl⟩,fun b hb=>?_,q⟩
 have e:b=s1.heap.objs.size:=by simpa using hb
 subst e
 exact I1.fpOk (nR1 _) (I1.hok.fresh (nR1 _))
theorem range_it {pins:List (Addr×Obj)}{σ:St}{H:Hp}{s:Shared}{R:It->Hp->Prop}{E:Value->Shared->Prop}{lo hi:Int}{t u v:Tok}{tk:Nat}(I:Inv X pins σ H s)(h1: -(2^62)<=lo)(h2:lo<2^62)(h3: -(2^62)<=hi)(h4:hi<2^62)
  (q:R (Itr lo (hi-lo).toNat) H):wpAny (model X.prog X.w) X.A (pyIter (.ref s.heap.objs.size)) (PIE X pins σ tg R) E {s with heap:=s.heap.push {cls:=.type "range",data:=.fields #[.int lo t,.int hi u,.int 1 v]},toks:=tk}:=by
 refine wpAny_pyIter_range (IsRange.new ..) (small_one h1 h2 h3 h4) ?_
 have I1:Inv X pins σ H {s with heap:=s.heap.push {cls:=.type "range",data:=.fields #[.int lo t,.int hi u,.int 1 v]},toks:=tk}:=I.kept fun b o e=>hP1 _ e
 refine ⟨(s.heap.push {cls:=.type "range",data:=.fields #[.int lo t,.int hi u,.int 1 v]}).objs.size,[(s.heap.push {cls:=.type "range",data:=.fields #[.int lo t,.int hi u,.int 1 v]}).objs.size],_,_,H,rfl,
  I1.kept (t':=tk) fun b o e=>hP1 _ e,turn_range _ lo (hi-lo).toNat,?_,fun b hb=>?_,q⟩
 ·have e1:lo+((0:Nat):Int)*1=lo:=by simp
  have e2:(((hi-lo).toNat:Nat):Int)-((0:Nat):Int)=Builtin.Range.rangeSize lo hi 1:=by rw [rangeSize_one];split<;>lia
  show IsRangeIter _ _ (lo+((0:Nat):Int)*1) ((((hi-lo).toNat:Nat):Int)-((0:Nat):Int)) 1
  rw [e1,e2]
  exact hS1 _ rfl
 ·have e:b=(s.heap.push {cls:=.type "range",data:=.fields #[.int lo t,.int hi u,.int 1 v]}).objs.size:=by simpa using hb
  subst e
  exact I1.fpOk (nR1 _) (I1.hok.fresh (nR1 _))
noncomputable def iRng1 (ta:TA):TI:=fun σ H R=>ta σ H fun vs H1=>∃ j:Int,vs=[.int j] /\ -(2^62)<=j/\j<2^62/\R (Itr 0 j.toNat) H1
noncomputable def iRng2 (ta:TA):TI:=fun σ H R=>ta σ H fun vs H1=>∃ i j:Int,vs=[.int i,.int j]/\(-(2^62)<=i/\i<2^62 /\ -(2^62)<=j/\j<2^62)/\R (Itr i (j-i).toNat) H1
theorem pi_range1 {a:Expr}{ta:TA}{p pos:Pos}(hg:Gl X "range")(hm:X.mg "range"=none)(ha:PA X [a] ta)(hs:starEach [a] X.env=[(false,eval a X.env)]:=by rfl):PI X tg (.Call (.Name "range" p) [a] [] pos) (iRng1 ta):=by
 intro pins s σ H R I h
 refine Call_ (ld_blt I hg hm boot_range (PyProof.Rows.callWith_type1 (thn (ha pos pins s σ H _ I h) fun us s1 ⟨vs,H1,I1,r1,q1⟩=>?_) hs rfl))
 obtain ⟨j,e,q1,q2,q⟩:=q1
 subst e
 cases r1 with
 | cons r rr=>
  cases rr
  obtain ⟨t,rfl⟩:=r
  exact call_range_1 (range_it I1 (by lia) (by lia) q1 q2 (by simpa using q))
theorem pi_range2 {a b:Expr}{ta:TA}{p pos:Pos}(hg:Gl X "range")(hm:X.mg "range"=none)(ha:PA X [a,b] ta)(hs:starEach [a,b] X.env=[(false,eval a X.env),(false,eval b X.env)]:=by rfl)(hs2:starEach [b] X.env=[(false,eval b X.env)]:=by rfl):
  PI X tg (.Call (.Name "range" p) [a,b] [] pos) (iRng2 ta):=by
 intro pins s σ H R I h
 refine Call_ (ld_blt I hg hm boot_range (PyProof.Rows.callWith_type1 (thn (ha pos pins s σ H _ I h) fun us s1 ⟨vs,H1,I1,r1,q1⟩=>?_) (by rw [hs,hs2]) (by rw [hs2];rfl)))
 obtain ⟨i,j,e,⟨q1,q2,q3,q4⟩,q⟩:=q1
 subst e
 cases r1 with
 | cons r rr=>
  cases rr with
  | cons r' rr=>
   cases rr
   obtain ⟨t,rfl⟩:=r
   obtain ⟨t',rfl⟩:=r'
   exact call_range_2 (range_it I1 q1 q2 q3 q4 q)
noncomputable def tFor (wi:TI)(g:TG)(tb:TS):TS:=fun D σ H=>wi σ H fun J H1=>∃ W:Nat->Nat->St->Hp->Prop,(∃ m,W 0 m σ H1) /\ ∀ i m σ H,W i m σ H ->
 (J.stop i H/\D.nx σ H)\/(J.go i H /\ ∃ N:St->Hp->Prop,(∀ σ' H',N σ' H' -> ∃ m',m'<m/\W (i+1) m' σ' H') /\ ∀ x H',J.yld i H x H'->g x σ H' fun σ2 H2=>tb {D with nx:=N,ct:=N,bk:=D.nx} σ2 H2)
noncomputable def pinsAt (fp:List Addr)(h:Heap):List (Addr×Obj):=fp.filterMap fun b=>(h.get? b).map fun o=>(b,o)
theorem mem_pinsAt {fp:List Addr}{h:Heap}{b:Addr}{o:Obj}(hb:b∈fp)(e:h.get? b=some o):(b,o)∈pinsAt fp h:=List.mem_filterMap.mpr ⟨b,hb,by rw [e];rfl⟩
theorem of_pinsAt {fp:List Addr}{h:Heap}{p:Addr×Obj}(hp:p∈pinsAt fp h):p.1∈fp/\h.get? p.1=some p.2:=by
 obtain ⟨b,hb,e⟩:=List.mem_filterMap.mp hp
 cases q:h.get? b with
 | none=>rw [q] at e;cases e
 | some o=>
  rw [q] at e
  have e':(b,o)=p:=Option.some.inj e
  subst e'
  exact ⟨hb,q⟩
theorem Inv.pinned {pins:List (Addr×Obj)}{σ:St}{H:Hp}{s:Shared}{fp:List Addr}(I:Inv X pins σ H s)(hf:∀ b∈fp,FpOk X pins H b)(ho:∀ b∈fp,∃ o,s.heap.get? b=some o /\ ∀ v,o.data ≠ .cell v):Inv X (pins++pinsAt fp s.heap) σ H s:=
 I.pins_of fun p hp=>(List.mem_append.mp hp).elim (fun z=>I.pin p (mA1 _ z)) fun z=>by
  obtain ⟨hb,e⟩:=of_pinsAt z
  obtain ⟨f0,f1,f2,_⟩:=hf p.1 hb
  obtain ⟨o,e',d⟩:=ho p.1 hb
  rw [e] at e';cases e'
  exact ⟨e,f0,f1,f2,d⟩
theorem Inv.unpinned {pins pl:List (Addr×Obj)}{σ:St}{H:Hp}{s:Shared}(I:Inv X (pins++pl) σ H s):Inv X pins σ H s:=I.pins_of fun p hp=>I.pin p (mA1 _ (List.mem_append_left _ hp))
theorem ps_for {iter:Expr}{body:List Stmt}{wi:TI}{g:TG}{tb:TS}{pos:Pos}(hp:PassesOwn (model X.prog X.w) X.A X.env X.xe)(hc:X.calm=true)(hi:PI X tg iter wi)(hg:PG X tg g)(hb:PSs X body tb)
  (hs:∀ x,foldedSetIterable iter X.env x=pure x:=by intro _;rfl):PS X (.For tg iter body [] pos) (tFor wi g tb):=by
 intro pins s σ H D I h
 refine wpAny_For (thn (hi pins s σ H _ I h) fun v s1 h1=>thn h1 fun itv s2 h2=>?_) hs
 obtain ⟨it,fp,tn,J,H2,e,I2,T,st2,f2,W,⟨m0,w0⟩,turn⟩:=h2
 subst e
 -- what stays true of the iterator's objects through the loop
 have stat:∀ {H':Hp},(∀ b∈fp,H' b=none) -> ∀ b∈fp,FpOk X pins H' b:=fun hn b hb=>⟨hn b hb,(f2 b hb).2⟩
 refine codeAny_forLoop_any (fun n s'=>∃ i σ' H',Inv X pins σ' H' s'/\tn i s'.heap/\(∀ b∈fp,H' b=none)/\W i n σ' H') ?_ m0 ⟨0,σ,H2,I2,st2,fun b hb=>(f2 b hb).1,w0⟩
 rintro n s3 ⟨i,σ3,H3,I3,st3,fr3,w3⟩
 rcases turn i n σ3 H3 w3 with ⟨stop,qn⟩ | ⟨go,N,hN,step⟩
 ·refine wpAny_passesOwn hp (thn (T.done X rfl rfl rfl hc i pins s3 σ3 H3 X.xe I3 (stat fr3) st3 stop) fun r s4 ⟨hr,I4⟩=>?_)
  subst hr
  exact wpAny_execs_nil ⟨σ3,H3,I4,qn⟩
 ·refine wpAny_passesOwn hp (thn (T.item X rfl rfl rfl hc i pins s3 σ3 H3 X.xe I3 (stat fr3) st3 go) fun r s4 ⟨u,hr,h4⟩=>?_)
  subst hr
  refine wpAny_passesOwn hp (thn h4 fun _ s5 ⟨x,H5,I5,r5,y5,st5,fr5⟩=>?_)
  have I5':=I5.pinned (stat fr5) (T.obj _ _ st5)
  refine wpAny_passesOwn hp (thn (hg _ s5 σ3 H5 x u _ I5' r5 (step x H5 y5)) fun _ s6 ⟨σ6,H6,I6,q6⟩=>?_)
  refine wpAny_passesOwn hp (thn (hb _ s6 σ6 H6 _ I6 q6) fun f s7 q7=>?_)
  have again:∀ {σ7:St} {H7:Hp},Inv X (pins++pinsAt fp s5.heap) σ7 H7 s7->N σ7 H7 -> ∃ m,m<n /\ ∃ i σ' H',Inv X pins σ' H' s7/\tn i s7.heap/\(∀ b∈fp,H' b=none)/\W i m σ' H':=fun {σ7 H7} I7 n7=>by
   obtain ⟨m',hm,w7⟩:=hN σ7 H7 n7
   refine ⟨m',hm,i+1,σ7,H7,I7.unpinned,T.keep _ _ _ st5 fun b hb o e=>(I7.pin (b,o) (mA1 _ (mA1 _ (mem_pinsAt hb e)))).1,fun b hb=>?_,w7⟩
   obtain ⟨o,e,d⟩:=T.obj _ _ st5 b hb
   exact (I7.pin (b,o) (mA1 _ (mA1 _ (mem_pinsAt hb e)))).2.1
  cases f with
  | next=>obtain ⟨σ7,H7,I7,n7⟩:=q7;exact again I7 n7
  | cont=>obtain ⟨σ7,H7,I7,n7⟩:=q7;exact again I7 n7
  | brk=>obtain ⟨σ7,H7,I7,q7⟩:=q7;exact ⟨σ7,H7,I7.unpinned,q7⟩
  | ret v=>obtain ⟨x7,σ7,H7,I7,r7,q7⟩:=q7;exact ⟨x7,σ7,H7,I7.unpinned,r7,q7⟩
end
end L2
namespace L2
open PySem PySem.Spec PyProof.Rows
noncomputable abbrev R2:=V->V->Hp->VK->Prop
noncomputable def OpR (X:Cx)(f:Value->Value->Sem Value)(r:R2):Prop:=
 ∀ (pins:List (Addr×Obj)) (s:Shared) (σ:St) (H:Hp) (x y:V) (v u:Value) (Q:VK),Inv X pins σ H s->RelV x v->RelV y u->r x y H Q ->
  wpAny (model X.prog X.w) X.A (f v u) (EP X pins σ Q) X.xe s
noncomputable def CallR (X:Cx)(f:Value)(r:List V->Hp->VK->Prop):Prop:=
 ∀ (pins:List (Addr×Obj)) (s:Shared) (σ:St) (H:Hp) (xs:List V) (us:List Value) (Q:VK),Inv X pins σ H s->Vals xs us->r xs H Q ->
  wpAny (model X.prog X.w) X.A (call f us) (EP X pins σ Q) X.xe s
noncomputable def tOp (r:R2)(ta tb:TE):TE:=fun σ H Q=>ta σ H fun x H1=>tb σ H1 fun y H2=>r x y H2 Q
noncomputable def rI (C:Int->Int->Prop)(g:Int->Int->V):R2:=fun x y H Q=>∃ i j,x = .int i/\y = .int j/\C i j/\Q (g i j) H
noncomputable def rI0 (g:Int->Int->V):R2:=fun x y H Q=>∃ i j,x = .int i/\y = .int j/\Q (g i j) H
noncomputable def rU (g:Int->V):V->Hp->VK->Prop:=fun x H Q=>∃ i,x = .int i/\Q (g i) H
section
variable {X:Cx} {a b c:Expr} {ta tb tc:TE} {pos:Pos}
theorem binT (ha:PE X a ta)(hb:PE X b tb){pins:List (Addr×Obj)}{s:Shared}{σ:St}{H:Hp}{R:V->V->Hp->Prop}(I:Inv X pins σ H s)
  (h:ta σ H fun x H1=>tb σ H1 fun y H2=>R x y H2) {Q:Value->Shared->Prop} {f:Value->Value->Sem Value}
  (hf:∀ v u s2 x y H2,Inv X pins σ H2 s2->RelV x v->RelV y u->R x y H2->wpAny (model X.prog X.w) X.A (f v u) Q X.xe s2):
  wpAny (model X.prog X.w) X.A (eval a X.env) (fun v s₁=>wpAny (model X.prog X.w) X.A (eval b X.env) (fun u s₂=>wpAny (model X.prog X.w) X.A (f v u) Q X.xe s₂) X.xe s₁) X.xe s:=by
 refine thn (ha pins s σ H _ I h) fun v s1 ⟨x,H1,I1,r1,q1⟩=>?_
 refine thn (hb pins s1 σ H1 _ I1 q1) fun u s2 ⟨y,H2,I2,r2,q2⟩=>?_
 exact hf v u s2 x y H2 I2 r1 r2 q2
theorem pe_op {op:Operator}{r:R2}(ho:OpR X (binaryOp op) r)(ha:PE X a ta)(hb:PE X b tb):PE X (.BinOp a op b pos) (tOp r ta tb):=by
 intro pins s σ H Q I h
 exact wpAny_BinOp (binT ha hb I h fun v u s2 x y H2 I2 rx ry q=>ho pins s2 σ H2 x y v u Q I2 rx ry q)
theorem opI {f:Value->Value->Sem Value}{C:Int->Int->Prop}{g:Int->Int->Int}
  (rule:∀ (i j:Int) (t u:Tok) (s:Shared) (Q:Value->Shared->Prop) (E:Value->Shared->Prop),C i j->Q (.int (g i j) s.toks) {s with toks:=s.toks+1}->wpAny (model X.prog X.w) X.A (f (.int i t) (.int j u)) Q E s):
  OpR X f (rI C fun i j=>.int (g i j)):=by
 intro pins s σ H x y v u Q I rx ry h
 obtain ⟨i,j,rfl,rfl,hc,q⟩:=h
 obtain ⟨t,rfl⟩:=rx
 obtain ⟨t',rfl⟩:=ry
 exact rule i j t t' s _ _ hc ⟨.int (g i j),H,I.tok _,⟨_,rfl⟩,q⟩
theorem opI0 {f:Value->Value->Sem Value}{g:Int->Int->Int}
  (rule:∀ (i j:Int) (t u:Tok) (s:Shared) (Q:Value->Shared->Prop) (E:Value->Shared->Prop),Q (.int (g i j) s.toks) {s with toks:=s.toks+1}->wpAny (model X.prog X.w) X.A (f (.int i t) (.int j u)) Q E s):
  OpR X f (rI0 fun i j=>.int (g i j)):=by
 intro pins s σ H x y v u Q I rx ry h
 obtain ⟨i,j,rfl,rfl,q⟩:=h
 obtain ⟨t,rfl⟩:=rx
 obtain ⟨t',rfl⟩:=ry
 exact rule i j t t' s _ _ ⟨.int (g i j),H,I.tok _,⟨_,rfl⟩,q⟩
theorem opB0 {f:Value->Value->Sem Value}{g:Int->Int->Bool}
  (rule:∀ (i j:Int) (t u:Tok) (s:Shared) (Q:Value->Shared->Prop) (E:Value->Shared->Prop),Q (.bool (g i j)) s->wpAny (model X.prog X.w) X.A (f (.int i t) (.int j u)) Q E s):
  OpR X f (rI0 fun i j=>.bl (g i j)):=by
 intro pins s σ H x y v u Q I rx ry h
 obtain ⟨i,j,rfl,rfl,q⟩:=h
 obtain ⟨t,rfl⟩:=rx
 obtain ⟨t',rfl⟩:=ry
 exact rule i j t t' s _ _ ⟨.bl (g i j),H,I,rfl,q⟩
noncomputable def CDiv (i j:Int):Prop:=0<j/\j<1073741824
noncomputable def CPow (i j:Int):Prop:=0<=j/\j<=1000000/\i.natAbs<2^64
theorem op_add:OpR X (binaryOp .Add) (rI0 fun i j=>.int (i+j)):=opI0 fun _ _ _ _ _ _ _ q=>add_int q
theorem op_sub:OpR X (binaryOp .Sub) (rI0 fun i j=>.int (i-j)):=opI0 fun _ _ _ _ _ _ _ q=>sub_int q
theorem op_fdiv:OpR X (binaryOp .FloorDiv) (rI CDiv fun i j=>.int (i/j)):=opI fun i j _ _ _ _ _ hc q=>by
 have h1:(0:Int)<j:=hc.1
 have h2:j<1073741824:=hc.2
 exact floordiv_int (by lia) (by rw [Int.fdiv_eq_ediv_of_nonneg i (by lia)];exact q) (.inl (PyProof.noPylong_small (by lia)))
theorem op_mod:OpR X (binaryOp .Mod) (rI (fun _ j=>0<j) fun i j=>.int (i%j)):=opI fun i j _ _ _ _ _ hc q=>by
 have h1:(0:Int)<j:=hc
 exact mod_int' (by lia) (by rw [Int.fmod_eq_emod_of_nonneg i (by lia)];exact q)
theorem op_pow:OpR X (binaryOp .Pow) (rI CPow fun i j=>.int (i^j.toNat)):=opI fun _ _ _ _ _ _ _ hc q=>pow_int_small hc.1 hc.2.1 hc.2.2 q
theorem iop_add:OpR X (inplaceOp .Add) (rI0 fun i j=>.int (i+j)):=opI0 fun _ _ _ _ _ _ _ q=>iadd_int q
end
section
variable {X:Cx} {a b c:Expr} {ta tb tc:TE} {pos:Pos}
theorem fin_bl {pins:List (Addr×Obj)}{σ:St}{H:Hp}{s:Shared}{Q:VK}{k k':Bool}(I:Inv X pins σ H s)(q:Q (.bl k) H)(e:k=k'):EP X pins σ Q (.bool k') s:=by
 subst e
 exact ⟨.bl k,H,I,rfl,q⟩
theorem op_gt:OpR X (compareOp .Gt) (rI0 fun i j=>.bl (decide (j<i))):=opB0 fun _ _ _ _ _ _ _ q=>gt_int q
theorem op_ge:OpR X (compareOp .GtE) (rI0 fun i j=>.bl (decide (j<=i))):=opB0 fun _ _ _ _ _ _ _ q=>ge_int q
theorem op_isN:OpR X (compareOp .Is) (fun x y H Q=>y = .non/\Q (.bl (decide (x = .non))) H):=by
 intro pins s σ H x y v u Q I rx ry h
 obtain ⟨rfl,q⟩:=h
 cases ry
 refine is_none_gen (fin_bl I q ?_)
 cases x<;>first
  | (cases rx;rfl)
  | (obtain ⟨t,rfl⟩:=rx;rfl)
theorem op_notN:OpR X (compareOp .IsNot) (fun x y H Q=>y = .non/\Q (.bl (!decide (x = .non))) H):=by
 intro pins s σ H x y v u Q I rx ry h
 obtain ⟨rfl,q⟩:=h
 cases ry
 refine isnot_none_gen (fin_bl I q ?_)
 cases x<;>first
  | (cases rx;rfl)
  | (obtain ⟨t,rfl⟩:=rx;rfl)
theorem nomark (b:Expr){op:CmpOp}(h:op ≠ .In:=by decide)(h2:op ≠ .NotIn:=by decide):behindInMarks op b=false:=by
 have e1:(op == CmpOp.In)=false:=by cases op<;>first | rfl | exact absurd rfl h
 have e2:(op == CmpOp.NotIn)=false:=by cases op<;>first | rfl | exact absurd rfl h2
 cases b<;>simp [behindInMarks,e1,e2]
theorem pe_cmpR {op:CmpOp}{r:R2}(ho:OpR X (compareOp op) r)(ha:PE X a ta)(hb:PE X b tb)(hm:behindInMarks op b=false):PE X (.Compare a [op] [b] pos) (tOp r ta tb):=by
 intro pins s σ H Q I h
 exact wpAny_Compare1 (binT ha hb I h fun v u s2 x y H2 I2 rx ry q=>ho pins s2 σ H2 x y v u Q I2 rx ry q) hm
noncomputable def tTest (t:TE):TT:=fun σ H Q=>t σ H fun x H'=>∃ k,x = .bl k/\Q k H'
theorem pt_cmpR {op:CmpOp}{r:R2}(ho:OpR X (compareOp op) r)(ha:PE X a ta)(hb:PE X b tb)(hm:behindInMarks op b=false):PT X (.Compare a [op] [b] pos) (tTest (tOp r ta tb)):=by
 intro pins s σ H Q I h
 refine wpAny_isTrue_Compare1 (thn (ha pins s σ H _ I h) fun v s1 ⟨x,H1,I1,r1,q1⟩=>thn (hb pins s1 σ H1 _ I1 q1) fun u s2 ⟨y,H2,I2,r2,q2⟩=>
  thn (ho pins s2 σ H2 x y v u _ I2 r1 r2 q2) fun c s3 ⟨z,H3,I3,r3,k,e,q3⟩=>?_) hm
 subst e
 cases r3
 exact wpAny_truthy_bool ⟨H3,I3,q3⟩
theorem line63:(sizeLine:Nat)<2^63:=by rw [sizeLine_eq];decide
theorem op_add_str:OpR X (binaryOp .Add) (fun x y H Q=>∃ i j,x = .str i/\y = .str j/\i.length+j.length<=sizeLine/\Q (.str (i++j)) H):=by
 intro pins s σ H x y v u Q I rx ry h
 obtain ⟨i,j,rfl,rfl,hz,q⟩:=h
 obtain ⟨t,rfl⟩:=rx
 obtain ⟨t',rfl⟩:=ry
 exact add_str (fun t' tk=>⟨.str (i++j),H,I.tok _,⟨_,rfl⟩,q⟩) hz
theorem vals1 {x:V}{us:List Value}(r:Vals [x] us):∃ u,us=[u]/\RelV x u:=by
 cases r with
 | cons r1 r2=>cases r2;exact ⟨_,rfl,r1⟩
theorem vals2 {x y:V}{us:List Value}(r:Vals [x,y] us):∃ u w',us=[u,w']/\RelV x u/\RelV y w':=by
 cases r with
 | cons r1 r2=>
  cases r2 with
  | cons r3 r4=>cases r4;exact ⟨_,_,rfl,r1,r3⟩
theorem call_max2 (hc:X.calm=true):CallR X (.builtin "max") (fun xs H Q=>∃ i j,xs=[.int i,.int j]/\Q (.int (if j>i then j else i)) H):=by
 intro pins s σ H xs us Q I r h
 obtain ⟨i,j,rfl,q⟩:=h
 obtain ⟨u,w',rfl,⟨t,rfl⟩,⟨t',rfl⟩⟩:=vals2 r
 refine max_two_ints (I.ok.hd hc) fun h' tk k=>⟨_,H,I.kept k,?_,q⟩
 by_cases hj:j>i
 ·rw [if_pos hj,if_pos hj];exact ⟨_,rfl⟩
 ·rw [if_neg hj,if_neg hj];exact ⟨_,rfl⟩
theorem call_min2 (hc:X.calm=true):CallR X (.builtin "min") (fun xs H Q=>∃ i j,xs=[.int i,.int j]/\Q (.int (if j<i then j else i)) H):=by
 intro pins s σ H xs us Q I r h
 obtain ⟨i,j,rfl,q⟩:=h
 obtain ⟨u,w',rfl,⟨t,rfl⟩,⟨t',rfl⟩⟩:=vals2 r
 refine min_two_ints (I.ok.hd hc) fun h' tk k=>⟨_,H,I.kept k,?_,q⟩
 by_cases hj:j<i
 ·rw [if_pos hj,if_pos hj];exact ⟨_,rfl⟩
 ·rw [if_neg hj,if_neg hj];exact ⟨_,rfl⟩
theorem call_int1:CallR X (.type "int") (fun xs H Q=>(∃ i,xs=[.int i]/\Q (.int i) H) \/ ∃ k,xs=[.bl k]/\Q (.int (if k then 1 else 0)) H):=by
 intro pins s σ H xs us Q I r h
 rcases h with ⟨i,rfl,q⟩ | ⟨k,rfl,q⟩
 ·obtain ⟨u,rfl,t,rfl⟩:=vals1 r
  exact call_int_int ⟨.int i,H,I,⟨_,rfl⟩,q⟩
 ·obtain ⟨u,rfl,r1⟩:=vals1 r
  cases r1
  exact call_int_bool ⟨.int (if k then 1 else 0),H,I.tok _,⟨_,rfl⟩,q⟩
end
end L2
namespace L2
open PySem PySem.Spec PyProof.Rows
section
variable {prog:Program} {w:World} {A:Around} {E:Value->Shared->Prop} {s:Shared} {K:Fg1} {x dx C f:Addr} {mA:Str->Option Value} {name:Str} {v:Value}
end
theorem RelO.some_of {v:V}{o:Option Value}(r:RelO (some v) o):∃ u,o=some u/\RelV v u:=by
 cases o with
 | none=>exact (show False from r).elim
 | some u=>exact ⟨u,rfl,r⟩
section
variable {P:Program} {w:World} {H H':Hp} {h h':Heap} {a C dx:Addr} {fs fs':List (Str×V)}
end
section
variable {X:Cx} {pins:List (Addr×Obj)} {σ:St} {H:Hp} {s:Shared} {a C dx:Addr} {fs:List (Str×V)} {f:Str} {v:V} {A:Around} {E:Value->Shared->Prop}
end
section
variable {X:Cx} {o e value:Expr} {f:Str} {pos pos' tpos:Pos} {ta tv:TE}
end
section
variable {X:Cx} {pins:List (Addr×Obj)} {σ:St} {H:Hp} {s:Shared} {A:Around} {E:Value->Shared->Prop} {Q:Value->Shared->Prop} {c:Value} {b:Bool}
end
end L2
namespace L2
open PySem PySem.Spec PyProof.Rows
structure Room (k:Nat)(A:Around):Prop where
 hd:A.handled=none
 dp:A.depth+3*k+5<recursionLimit
 un:A.units+16*k+200<cLine
 gd:A.guards=some []
theorem Room.mono {j k:Nat}{A:Around}(r:Room k A)(h:j<=k):Room j A:=⟨r.hd,by have:=r.dp;lia,by have:=r.un;lia,r.gd⟩
theorem Room.deeper {k:Nat}{A:Around}(r:Room (k+1) A)(env:Env):Room k (A.deeper env):=
 ⟨r.hd,by have:=r.dp;show A.depth+1+3*k+5<_;lia,by have:=r.un;show A.units+3+16*k+200<_;lia,r.gd⟩
theorem Room.depth {k:Nat}{A:Around}(r:Room k A):A.depth<recursionLimit:=by have:=r.dp;lia
theorem Room.units {k:Nat}{A:Around}(r:Room k A):A.units+64<cLine:=by have:=r.un;lia
noncomputable def tNil:TA:=fun _ H Q=>Q [] H
noncomputable def tCons (ta:TE)(tr:TA):TA:=fun σ H Q=>ta σ H fun x H1=>tr σ H1 fun xs H2=>Q (x::xs) H2
section
variable {X:Cx} {e:Expr} {es:List Expr} {te:TE} {t:TA} {pos:Pos}
theorem pa_nil:PA X [] tNil:=fun _ _ _ _ H Q I h=>Calls.spliced_nil ⟨[],H,I,.nil,h⟩
theorem pa_cons (ha:PE X e te)(hr:PA X es t)(hs:starEach (e::es) X.env=(false,eval e X.env)::starEach es X.env:=by rfl):PA X (e::es) (tCons te t):=by
 intro pos pins s σ H Q I h
 rw [hs]
 show wpAny _ _ (spliced ((false,eval e X.env)::backTo pos (starEach es X.env))) _ _ s
 refine Calls.spliced_cons (thn (ha pins s σ H _ I h) fun u s1 ⟨x,H1,I1,r1,q1⟩=>?_)
 exact thn (hr pos pins s1 σ H1 _ I1 q1) fun us s2 ⟨xs,H2,I2,r2,q2⟩=>⟨x::xs,H2,I2,.cons r1 r2,q2⟩
noncomputable def tTup (t:TA):TE:=fun σ H Q=>t σ H fun xs H1=>xs.length<=sizeLine /\ ∀ p,H1 p=none->Q (.ref p) (upd H1 p (.tup xs))
noncomputable def tLst (t:TA):TE:=fun σ H Q=>t σ H fun xs H1=>xs.length<=sizeLine /\ ∀ p,H1 p=none->Q (.ref p) (upd H1 p (.lst xs))
theorem pe_tup {x1}(h:PA X es t):PE X (.Tuple es x1 pos) (tTup t):=by
 intro pins s σ H Q I hq
 refine wpAny_Tuple_spliced (thn (h pos pins s σ H _ I hq) fun us s1 ⟨xs,H1,I1,r,z,q⟩=>⟨by rw [<- r.length];exact z,?_⟩)
 have hf:H1 s1.heap.objs.size=none:=I1.hok.fresh (nR1 _)
 refine ⟨.ref s1.heap.objs.size,upd H1 s1.heap.objs.size (.tup xs),I1.laid (t':=s1.toks) (fun b u e=>hP1 _ e) (nR1 _) ?_,rfl,q _ hf⟩
 exact ⟨z,us,r,⟨_,hS1 _ rfl,rfl,_,rfl⟩⟩
theorem pe_lst (h:PA X es t):PE X (.List es pos) (tLst t):=by
 intro pins s σ H Q I hq
 refine wpAny_List_spliced (thn (h pos pins s σ H _ I hq) fun us s1 ⟨xs,H1,I1,r,z,q⟩=>⟨by rw [<- r.length];exact z,?_⟩)
 have hf:H1 s1.heap.objs.size=none:=I1.hok.fresh (nR1 _)
 refine ⟨.ref s1.heap.objs.size,upd H1 s1.heap.objs.size (.lst xs),I1.laid (t':=s1.toks) (fun b u e=>hP1 _ e) (nR1 _) ?_,rfl,q _ hf⟩
 exact ⟨z,us,0,r,hS1 _ rfl⟩
end
noncomputable abbrev Sp:=List V->Hp->VK->XK->Prop
noncomputable abbrev CXT:=List Env->Hp->Shared->XK->Value->Shared->Prop
structure Env0 (P:Program)(w:World)(K:Fg1)(mg:Str->Option Value)(base:Heap)(A:Around)(outer:List Env)(s:Shared)(H:Hp):Prop where
 frames:A.frames=some outer
 mod:Mod K mg base
 bs:∀ b o,base.get? b=some o->s.heap.get? b=some o/\H b=none
 bsz:base.objs.size<=s.heap.objs.size
 funs:s.heap.FunFrames base outer
 frf:∀ b∈frs outer,H b=none
 hok:HOk P w H s.heap
 bare:AllBare s.gens
noncomputable def CE (outer:List Env)(P:Program)(w:World)(H:Hp)(s:Shared)(Q:VK)(u:Value)(s':Shared):Prop:=
 ∃ v H',s'.os=s.os/\AllBare s'.gens/\Un (frs outer) [] H H' s.heap s'.heap/\HOk P w H' s'.heap/\RelV v u/\Q v H'
noncomputable def CR (CX:CXT)(outer:List Env)(P:Program)(w:World)(H:Hp)(s:Shared)(Q:VK)(E:XK)(r:Result)(s':Shared):Prop:=
 match r with
 | .ok (.ret u)=>CE outer P w H s Q u s'
 | .ok _=>False
 | .error e=>CX outer H s E e s'
structure FnOk (P:Program)(w:World)(K:Fg1)(mg:Str->Option Value)(base:Heap)(CX:CXT)(k:Nat)(f:Addr)(fd:FuncData)(ps:List Str)(sp:Sp):Prop where
 len:∀ vs H Q E,sp vs H Q E->vs.length=ps.length
 run:∀ (A:Around) (outer:List Env) (s:Shared) (H:Hp) (args:Args) (us:List Value) (vs:List V) (Q:VK) (E:XK),Room k A->Env0 P w K mg base A outer s H->BindsTo s fd args (ps.zip us)->Vals vs us->sp vs H Q E ->
  codeAny (model P w) A (.call (.ref f) args) (CR CX outer P w H s Q E) s
section
variable {X:Cx} {pins:List (Addr×Obj)} {σ:St} {H:Hp} {s s':Shared}
theorem Inv.env0 (I:Inv X pins σ H s):Env0 X.prog X.w X.K X.mg X.base X.A X.stack s H:=
 ⟨I.ok.frames,I.ok.mod,I.bs,Nat.le_trans I.ok.bsz I.sz,I.stack,I.stkFree,I.hok,I.bare⟩
theorem Inv.after {Q:VK}{u:Value}(I:Inv X pins σ H s)(h:CE X.stack X.prog X.w H s Q u s'):EP X pins σ Q u s':=by
 obtain ⟨v,H',os,bare,un,hok,r,q⟩:=h
 obtain ⟨hh,g,d,t,os'⟩:=s'
 obtain rfl:os'=s.os:=os
 exact ⟨v,H',I.call (h':=hh) (g':=g) (d':=d) (t':=t) (ch:=[]) un hok bare (fun b z=>absurd z (by simp)),r,q⟩
end
noncomputable def tCall (sp:Sp)(dvs:List V)(E:XK)(t:TA):TE:=fun σ H Q=>t σ H fun vs H1=>sp (vs++dvs) H1 Q E
noncomputable def Binds (K:Fg1)(fd:FuncData)(ps:List Str)(ds:List Value):Prop:=
 ∀ (s:Shared) (us:List Value),K.In s.heap->(us++ds).length=ps.length->BindsTo s fd ⟨us,[]⟩ (ps.zip (us++ds))
theorem Binds.all {K:Fg1}{fd:FuncData}{ps:List Str}(h:∀ us:List Value,us.length=ps.length->bindArgs fd ⟨us,[]⟩=pure (ps.zip us)):Binds K fd ps []:=fun s us _ hl=>by
 rw [List.append_nil] at hl ⊢
 exact .of_eq (h us hl)
noncomputable def Passes (CX:CXT)(X:Cx)(E:XK):Prop:=∀ (pins:List (Addr×Obj)) (σ:St) (H:Hp) (s:Shared) (e:Value) (s':Shared),Inv X pins σ H s->CX X.stack H s E e s'->X.xe e s'
section
variable {X:Cx} {CX:CXT} {k:Nat} {f C:Addr} {fd:FuncData} {ps:List Str} {sp:Sp} {dvs:List V} {ds:List Value} {E:XK} {x m:Str} {p pos apos:Pos} {e o:Expr} {es:List Expr} {ta:TE} {t:TA}
theorem run_fn {pins:List (Addr×Obj)}{σ:St}{H:Hp}{s:Shared}{Q:VK}{us:List Value}{vs:List V}(F:FnOk X.prog X.w X.K X.mg X.base CX k f fd ps sp)(hr:Room k X.A)(hb:Binds X.K fd ps ds)(hd:Vals dvs ds)(hx:Passes CX X E)
  (I:Inv X pins σ H s) (r:Vals vs us) (h:sp (vs++dvs) H Q E):wpAny (model X.prog X.w) X.A (call (.ref f) us) (EP X pins σ Q) X.xe s:=by
 have r2:Vals (vs++dvs) (us++ds):=r.append hd
 have hl:(us++ds).length=ps.length:=by rw [<- r2.length];exact F.len _ _ _ _ h
 refine wpAny_call (codeAny_mono (F.run X.A X.stack s H ⟨us,[]⟩ (us++ds) (vs++dvs) Q E hr I.env0 (hb s us I.kIn hl) r2 h) fun r s' hq=>?_)
 cases r with
 | error e=>exact hx pins σ H s e s' I hq
 | ok fl=>
  cases fl with
  | ret u=>exact I.after hq
  | next=>exact False.elim hq
  | brk=>exact False.elim hq
  | cont=>exact False.elim hq
theorem pe_call (F:FnOk X.prog X.w X.K X.mg X.base CX k f fd ps sp)(hr:Room k X.A)(hg:Gl X x)(hm:X.mg x=some (.ref f))(hk:wK1 X.K (.ref f)=true)(hb:Binds X.K fd ps ds)(hd:Vals dvs ds)(hx:Passes CX X E)
  (ha:PA X (e::es) t) (hdb:(x == ("__debug__":Str))=false:=by decide) (he:starEach (e::es) X.env=(false,eval e X.env)::starEach es X.env:=by rfl) (hpl:(backTo pos (starEach es X.env)).any (·.1)=false:=by rfl):
  PE X (.Call (.Name x p) (e::es) [] pos) (tCall sp dvs E t):=by
 intro pins s σ H Q I h
 refine wpAny_Call_Name_kw (ld_glob I hg hm ?_ hdb)
 refine PySem.W.callWith_K (h₀:=X.base) I.ok.mod.kin hk (thn (ha pos pins s σ H _ I h) fun us s1 ⟨vs,H1,I1,r,q⟩=>⟨I1.kIn,?_⟩) he hpl
 exact run_fn F hr hb hd hx I1 r q
end
section
variable {X:Cx} {CX:CXT} {k:Nat} {f C:Addr} {fd:FuncData} {ps ks:List Str} {sp:Sp} {E:XK} {x m:Str} {p pos apos kpos:Pos} {e o:Expr} {es:List Expr} {kws:List Keyword} {te ta:TE} {t tk:TA} {nm:Option Str}
variable {g:List Value->List Value->List Value} {gV:List V->List V->List V}
end
structure FnScope (N P:List Str)(sc:Scope):Prop where
 kind:sc.kind = .function
 co:sc.isCoroutine=false
 gen:sc.isGenerator=false
 nd:N.Nodup
 pre:N.take P.length=P
 par:∀ x∈P,sc.names.lookup x=some .local\/sc.names.lookup x=some .cell
 nofree:∀ y∈sc.names,y.2 ≠ .free
theorem bindL_out {kindOf:Str->Option NameKind}{x:Str}:∀ {binds:List (Str×Value)} {m:Str->Option Value},(∀ v,(x,v)∉binds)->bindL kindOf binds m x=m x
 | [],_,_=>rfl
 | (n,v)::r,m,h=>by
  unfold bindL
  rw [bindL_out fun w hw=>h w (mC1 _ hw)]
  split
  ·have:x≠n:=by rintro rfl;exact h v mS1
   simp [this]
  ·rfl
theorem bindC_out {kindOf:Str->Option NameKind}{x:Str}:∀ {binds:List (Str×Value)} {m:Str->Option Value},(∀ v,(x,v)∉binds)->bindC kindOf binds m x=m x
 | [],_,_=>rfl
 | (n,v)::r,m,h=>by
  unfold bindC
  rw [bindC_out fun w hw=>h w (mC1 _ hw)]
  split
  ·rfl
  ·have:x≠n:=by rintro rfl;exact h v mS1
   simp [this]
theorem bindL_get {kindOf:Str->Option NameKind}{x:Str}{v:Value}:∀ {P:List Str} {vs:List Value} {i:Nat} {m:Str->Option Value},P.Nodup->P[i]? = some x->vs[i]? = some v->kindOf x=some .local ->
  bindL kindOf (P.zip vs) m x=some v
 | [],_,_,_,_,h,_,_=>by simp at h
 | _::_,[],_,_,_,_,h,_=>by simp at h
 | p::P,w::vs,0,m,nd,h1,h2,hk=>by
  simp at h1 h2;subst h1;subst h2
  show bindL kindOf ((p,w)::P.zip vs) m p=_
  unfold bindL
  rw [bindL_out fun v hv=>(List.nodup_cons.mp nd).1 (List.of_mem_zip hv).1,if_pos hk]
  simp
 | p::P,w::vs,i+1,m,nd,h1,h2,hk=>by
  show bindL kindOf ((p,w)::P.zip vs) m x=_
  unfold bindL
  exact bindL_get (i:=i) (List.nodup_cons.mp nd).2 (by simpa using h1) (by simpa using h2) hk
theorem bindC_get {kindOf:Str->Option NameKind}{x:Str}{v:Value}:∀ {P:List Str} {vs:List Value} {i:Nat} {m:Str->Option Value},P.Nodup->P[i]? = some x->vs[i]? = some v->kindOf x≠some .local ->
  bindC kindOf (P.zip vs) m x=some v
 | [],_,_,_,_,h,_,_=>by simp at h
 | _::_,[],_,_,_,_,h,_=>by simp at h
 | p::P,w::vs,0,m,nd,h1,h2,hk=>by
  simp at h1 h2;subst h1;subst h2
  show bindC kindOf ((p,w)::P.zip vs) m p=_
  unfold bindC
  rw [bindC_out fun v hv=>(List.nodup_cons.mp nd).1 (List.of_mem_zip hv).1,if_neg hk]
  simp
 | p::P,w::vs,i+1,m,nd,h1,h2,hk=>by
  show bindC kindOf ((p,w)::P.zip vs) m x=_
  unfold bindC
  exact bindC_get (i:=i) (List.nodup_cons.mp nd).2 (by simpa using h1) (by simpa using h2) hk
noncomputable def start (N:List Str)(vs:List V):St:=vs.map some++List.replicate (N.length-vs.length) none
noncomputable def cxOf (CX:CXT)(P:Program)(w:World)(K:Fg1)(mg:Str->Option Value)(base:Heap)(N:List Str)(qual:Str)(scope:Scope)(f:Addr)(cd:Value)(A:Around)(outer:List Env)(s:Shared)(H:Hp)(E:XK):Cx where
 prog:=P
 w:=w
 K:=K
 mg:=mg
 base:=base
 A:=A.deeper (envOfC qual scope s.heap.objs.size f cd)
 N:=N
 s₀:=s
 H₀:=H
 env:=envOfC qual scope s.heap.objs.size f cd
 outer:=outer
 stack:=envOfC qual scope s.heap.objs.size f cd::outer
 ex:=[]
 calm:=true
 fn:=fun _=>true
 pn:=[]
 xe:=fun e s'=>wpAny (model P w) (A.deeper (envOfC qual scope s.heap.objs.size f cd)) (leaving (envOfC qual scope s.heap.objs.size f cd) e) (fun _ s''=>CX outer H s E e s'') (fun e' s''=>CX outer H s E e' s'') s'
theorem cell_has {sc:Scope}{n:Nat}{x:Str}(h:sc.names.lookup x=some .cell):∃ c,(cellsFrom n sc.names []).lookup x=some c:=by
 have q:=PySem.W.cellsFrom_some sc.names n [] (.inl h)
 exact Option.isSome_iff_exists.mp q
theorem inv_start {CX:CXT}{P:Program}{w:World}{K:Fg1}{mg:Str->Option Value}{base:Heap}{N ps:List Str}{qual:Str}{scope:Scope}{f:Addr}{cd:Value}{A:Around}{outer:List Env}{s s1:Shared}{H:Hp}{E:XK}{us:List Value}{vs:List V}
  (S:FnScope N ps scope) (hd:A.handled=none) (e0:Env0 P w K mg base A outer s H) (hl:vs.length=ps.length) (r:Vals vs us)
  (x:InCallC s s.heap.objs.size (bindL (envOfC qual scope s.heap.objs.size f cd).kindOf (ps.zip us) fun _=>none) (cellsFrom (s.heap.objs.size+1) scope.names []) (bindC (envOfC qual scope s.heap.objs.size f cd).kindOf (ps.zip us) fun _=>none) s1):
  Inv (cxOf CX P w K mg base N qual scope f cd A outer s H E) [] (start N vs) H s1:=by
 have hpl:ps.length<=N.length:=by have:=congrArg List.length S.pre;rw [List.length_take] at this;lia
 obtain ⟨h1,tk,rfl,hk⟩:=x.done
 have noA:∀ b:Addr,b∉(cxOf CX P w K mg base N qual scope f cd A outer s H E).ex:=fun b z=>absurd (show b∈([]:List Addr) from z) (by simp)
 refine ⟨⟨e0.mod,S.kind,rfl,rfl,nR1 _,fun y z c h1 h2=>?_,fun y hy=>?_,fun y c _ h=>?_,fun _=>hd,Around.frames_deeper e0.frames,.inr ⟨rfl,rfl⟩,fun b z=>absurd z (noA b),e0.bs,e0.bsz,fun b _ _=>noA b,fun b z=>absurd z (noA b),e0.funs,e0.frf⟩,
  rfl,e0.bare,Un.kept hk,⟨_,x.toInCall.ns,fun i y v h1 h2 h3=>?_⟩,fun y c h=>⟨_,x.cell y c h⟩,e0.hok.fresh (nR1 _),fun y c h=>?_,fun p hp=>absurd (show p∈([]:List (Addr×Obj)) from hp) (by simp),e0.hok.kept hk,?_⟩
 ·exact name_of_addr x.apart (PySem.mem_of_lookup h1) (PySem.mem_of_lookup h2)
 ·have hy:scope.names.lookup y=some .cell\/scope.names.lookup y=some .free:=hy
  rcases hy with hy | hy
  ·exact cell_has hy
  ·exact absurd rfl (S.nofree _ (PySem.mem_of_lookup hy))
 ·exact Nat.le_of_lt (x.above y c (PySem.mem_of_lookup h))
 ·have hi:i<vs.length:=by
   unfold start at h2
   by_cases hi:i<vs.length
   ·exact hi
   ·rw [gR1 (by simpa using hi)] at h2
    rw [List.getElem?_replicate] at h2
    split at h2<;>cases h2
  have ha:vs[i]? = some v:=by
   unfold start at h2
   rw [gL1 (by simpa using hi),gP1] at h2
   cases e:vs[i]? with
   | none=>rw [e] at h2;cases h2
   | some a=>rw [e] at h2;cases h2;rfl
  obtain ⟨u,hu,rv⟩:=r.get ha
  have hp:ps[i]? = some y:=by
   rw [<- S.pre,List.getElem?_take_of_lt (by lia)];exact h1
  have ndP:ps.Nodup:=by rw [<- S.pre];exact S.nd.sublist (List.take_sublist _ _)
  refine ⟨u,rv,?_⟩
  rcases S.par y (gM1 hp) with k | k
  ·exact .inl ⟨k,bindL_get ndP hp hu k⟩
  ·obtain ⟨c,e⟩:=cell_has (n:=s.heap.objs.size+1) k
   refine .inr ⟨.inl k,c,e,?_⟩
   have q:=x.cell y c e
   rw [bindC_get ndP hp hu (by show scope.names.lookup y≠_;rw [k];decide)] at q
   exact q
 ·exact e0.hok.fresh (Nat.le_of_lt (x.above y c (PySem.mem_of_lookup h)))
 ·unfold start
  show _=N.length
  rw [lA1,lM1,lR1]
  lia
theorem fn_of {CX:CXT}{P:Program}{w:World}{K:Fg1}{mg:Str->Option Value}{base:Heap}{k:Nat}{f:Addr}{name qual:Str}{params:Arguments}{body:List Stmt}{scope:Scope}{dV kV doc pm cdv ct oc:Value}{an od:Option Addr}
  {osl:Array (Option Value)} {N ps:List Str} {sp:Sp} (lk:K.lookup f=some ⟨oc,od,.func (wF1 name qual params body scope dV kV doc pm an cdv ct),osl⟩) (hcd:wC1 K cdv qual=true) (S:FnScope N ps scope)
  (len:∀ vs H Q E,sp vs H Q E->vs.length=ps.length)
  (hbody:∀ (A:Around) (outer:List Env) (s:Shared) (H:Hp) (vs:List V) (Q:VK) (E:XK),Room k (A.deeper (envOfC qual scope s.heap.objs.size f cdv))->sp vs H Q E ->
   ∃ t,PSs (cxOf CX P w K mg base N qual scope f cdv A outer s H E) body t/\t {nx:=fun _ H'=>Q .non H',rt:=Q} (start N vs) H):
  FnOk P w K mg base CX (k+1) f (wF1 name qual params body scope dV kV doc pm an cdv ct) ps sp:=by
 refine ⟨len,fun A outer s H args us vs Q E hr e0 hb r hsp=>?_⟩
 have hl:=len _ _ _ _ hsp
 have KX:K.In s.heap:=e0.mod.kin.keeps fun b o e=>(e0.bs b o e).1
 have lim:s.heap.NoLimit:=e0.mod.nolimit.keeps fun b o e=>(e0.bs b o e).1
 have hkind:∀ y∈ps.zip us,scope.names.lookup y.1=some .local\/(scope.names.lookup y.1=some .cell/\((cellsFrom (s.heap.objs.size+1) scope.names []).lookup y.1).isSome=true):=fun ⟨n,v⟩ hy=>by
  rcases S.par n (List.of_mem_zip hy).1 with q | q
  ·exact .inl q
  ·exact .inr ⟨q,PySem.W.cellsFrom_some _ _ _ (.inl q)⟩
 refine codeAny_call_function hr.depth (KX _ _ lk) rfl S.co S.gen rfl (PySem.W.codeRec_of KX hcd) (hb _ _ _ _ ?_)
 refine wpAny_newFunctionEnv_cells S.kind hkind fun env he s1 x=>?_
 subst he
 refine ⟨lim.keeps x.toInCall.keep,codeAny_func ?_⟩
 obtain ⟨t,ht,hq⟩:=hbody A outer s H vs Q E (hr.deeper _) hsp
 have I:Inv (cxOf CX P w K mg base N qual scope f cdv A outer s H E) [] (start N vs) H s1:=inv_start S hr.hd e0 hl r x
 refine wpAny_mono (ht [] s1 (start N vs) H _ I hq) (fun fl s' hs=>?_) fun e s' hs=>hs
 have fin:∀ {σ':St} {H':Hp} {v:V} {u:Value},Inv (cxOf CX P w K mg base N qual scope f cdv A outer s H E) [] σ' H' s'->RelV v u->Q v H'->CE outer P w H s Q u s':=
  fun {σ' H' v u} J rv q=>⟨v,H',J.os,J.bare,J.base,J.hok,rv,q⟩
 cases fl with
 | ret u=>
  obtain ⟨v,σ',H',J,rv,q⟩:=hs
  exact fin J rv q
 | next=>
  obtain ⟨σ',H',J,q⟩:=hs
  exact fin (v:=V.non) (u:=Value.none) J rfl q
 | brk=>
  obtain ⟨_,_,_,q⟩:=hs
  exact False.elim q
 | cont=>
  obtain ⟨_,_,_,q⟩:=hs
  exact False.elim q
end L2
namespace L2
open PySem PySem.Spec PyProof.Rows
section
variable {X:Cx} {x:Str} {p pos:Pos} {e:Expr} {es:List Expr} {t:TA} {id T:String} {r:List V->Hp->VK->Prop}
noncomputable def tCB (r:List V->Hp->VK->Prop)(t:TA):TE:=fun σ H Q=>t σ H fun vs H1=>r vs H1 Q
theorem pe_callB (hc:CallR X (.builtin id) r)(hg:Gl X x)(hm:X.mg x=none)(hv:bootBuiltins x=some (.builtin id))(ha:PA X (e::es) t)(hn:x≠"__name__":=by decide)(hdb:(x == ("__debug__":Str))=false:=by decide)
  (he:starEach (e::es) X.env=(false,eval e X.env)::starEach es X.env:=by rfl) (hpl:(backTo pos (starEach es X.env)).any (·.1)=false:=by rfl):PE X (.Call (.Name x p) (e::es) [] pos) (tCB r t):=by
 intro pins s σ H Q I h
 refine wpAny_Call_Name_kw (ld_blt I hg hm hv ?_ hn hdb)
 exact PyProof.Rows.callWith_builtin1 (thn (ha pos pins s σ H _ I h) fun us s1 ⟨vs,H1,I1,r1,q1⟩=>hc pins s1 σ H1 vs us Q I1 r1 q1) he hpl
theorem pe_callTy (hc:CallR X (.type T) r)(hg:Gl X x)(hm:X.mg x=none)(hv:bootBuiltins x=some (.type T))(ha:PA X (e::es) t)(hn:x≠"__name__":=by decide)(hdb:(x == ("__debug__":Str))=false:=by decide)
  (he:starEach (e::es) X.env=(false,eval e X.env)::starEach es X.env:=by rfl) (hpl:(backTo pos (starEach es X.env)).any (·.1)=false:=by rfl):PE X (.Call (.Name x p) (e::es) [] pos) (tCB r t):=by
 intro pins s σ H Q I h
 refine wpAny_Call_Name_kw (ld_blt I hg hm hv ?_ hn hdb)
 exact PyProof.Rows.callWith_type1 (thn (ha pos pins s σ H _ I h) fun us s1 ⟨vs,H1,I1,r1,q1⟩=>hc pins s1 σ H1 vs us Q I1 r1 q1) he hpl
end
end L2
namespace HT
open PySem PyProof.Rows
section
open PySem.SeqAt
open PySem.AutoSeq1 (wpAny_loadPart')
open PySem.MeetsSeq PySem.MeetsSeq2 PySem.MeetsSeq3
end
section
variable {prog:Program} {w:World} {A:Around} {E:Value->Shared->Prop} {s:Shared}
theorem cat_tup {t b:Addr}{vs ws:List Value}{Q:Value->Shared->Prop}(ht:IsTup s.heap t vs.toArray)(hb:IsTup s.heap b ws.toArray)(hv:vs≠[])
  (h1:ws=[]->Q (.ref t) s) (h2:ws≠[]->Q (.ref s.heap.objs.size) {s with heap:=s.heap.push {cls:=.type "tuple",data:=.seq (vs++ws).toArray}})
  (hsz:vs.length+ws.length<=sizeLine):wpAny (model prog w) A (binaryOp .Add (.ref t) (.ref b)) Q E s:=by
 obtain ⟨⟨cls,dd,data,sl⟩,ho,hc,n,hd⟩:=id ht
 obtain ⟨⟨cls2,dd2,data2,sl2⟩,ho2,hc2,n2,hd2⟩:=id hb
 simp only at hc hd hc2 hd2
 subst hc hd hc2 hd2
 have e:vs.toArray++ws.toArray=(vs++ws).toArray:=by simp
 by_cases hw:ws=[]
 ·exact concat_meets ⟨_,ho,rfl⟩ ⟨_,ho2,rfl⟩ noFill_tuple_add seq_tuple_add PySem.F.slot_tuple_add PySem.F.entry_tuple_add (PySem.F.args_tuple_add_2 _ _)
   (tuple_addW1 t b vs.toArray ws.toArray n n2 dd dd2 sl sl2 (by simpa using hv) (by simp [hw])) ⟨ho,ho2,h1 hw⟩
 ·refine concat_meets ⟨_,ho,rfl⟩ ⟨_,ho2,rfl⟩ noFill_tuple_add seq_tuple_add PySem.F.slot_tuple_add PySem.F.entry_tuple_add (PySem.F.args_tuple_add_2 _ _)
   (tuple_addW2 t b vs.toArray ws.toArray n n2 dd dd2 sl sl2 (by simpa using hv) (by simpa using hw) (by rw [sT1,sT1];exact hsz)) ⟨ho,ho2,?_⟩
  rw [e]
  exact h2 hw
noncomputable def sIx (n d:Nat):Option Int->Nat
 | none=>d
 | some v=>if v<0 then (v+(n:Int)).toNat else min v.toNat n
end
end HT
namespace L2
open PySem PySem.Spec PyProof.Rows
noncomputable abbrev TO:=St->Hp->(Option Int->Hp->Prop)->Prop
section
variable {X:Cx} {e:Expr} {te:TE} {lo hi:Option Expr} {tl th:TO} {pos p2:Pos}
noncomputable def SlR (X:Cx)(r:V->Option Int->Option Int->Hp->VK->Prop):Prop:=
 ∀ (pins:List (Addr×Obj)) (s:Shared) (σ:St) (H:Hp) (x:V) (v vl vu:Value) (lo hi:Option Int) (sl:Addr) (Q:VK),Inv X pins σ H s->RelV x v->s.heap.IsSliceOf sl vl vu .none->IsPart vl lo->IsPart vu hi->r x lo hi H Q ->
  ∃ T id,typeLookup (.type T) "__getitem__"=pure (some (.builtin id))/\s.TypeIs v T/\wpAny (model X.prog X.w) X.A (getItem v (.ref sl)) (EP X pins σ Q) X.xe s
noncomputable def cutV (xs:List V)(lo hi:Option Int):List V:=(xs.drop (HT.sIx xs.length 0 lo)).take (HT.sIx xs.length xs.length hi-HT.sIx xs.length 0 lo)
theorem cutV_length (xs:List V)(lo hi:Option Int):(cutV xs lo hi).length<=xs.length:=by
 unfold cutV
 rw [List.length_take,List.length_drop]
 lia
noncomputable def rCatT (K:Fg1):R2:=fun x y H Q=>∃ a b xs ys,x = .ref a/\y = .ref b/\SqT K H a xs/\SqT K H b ys/\xs≠[]/\xs.length+ys.length<=sizeLine /\
 (ys=[]->Q (.ref a) H)/\(ys≠[] -> ∀ p,H p=none->Q (.ref p) (upd H p (.tup (xs++ys))))
theorem Vals.nil_iff {xs:List V}{us:List Value}(r:Vals xs us):us=[]↔xs=[]:=by
 cases r with
 | nil=>simp
 | cons _ _=>simp
theorem op_catT:OpR X (binaryOp .Add) (rCatT X.K):=by
 intro pins s σ H x y v u Q I rx ry h
 obtain ⟨a,b,xs,ys,rfl,rfl,ha,hb,hx,hz,q1,q2⟩:=h
 cases rx
 cases ry
 obtain ⟨its,r1,p1,_⟩:=I.tuple ha
 obtain ⟨its2,r2,p2,_⟩:=I.tuple hb
 refine HT.cat_tup p1 p2 (fun z=>hx (r1.nil_iff.mp z)) (fun z=>⟨.ref a,H,I,rfl,q1 (r2.nil_iff.mp z)⟩) (fun z=>?_) (by rw [<- r1.length,<- r2.length];exact hz)
 refine ⟨.ref s.heap.objs.size,_,I.laid (t':=s.toks) (o:=.tup (xs++ys)) (fun b ob q=>hP1 _ q) (nR1 _) ?_,rfl,q2 (fun w=>z (r2.nil_iff.mpr w)) _ (I.hok.fresh (nR1 _))⟩
 exact ⟨by rw [lA1];exact hz,_,r1.append r2,IsTup.new _ _⟩
end
end L2
namespace L2
open PySem PySem.Spec PyProof.Rows
noncomputable def ixN (n:Nat)(i:Int):Option Nat:=if 0<=i then (if i<n then some i.toNat else none) else if-(n:Int)<=i then some (i+n).toNat else none
noncomputable def atI {α:Type}(xs:List α)(i:Int):Option α:=(ixN xs.length i).bind fun j=>xs[j]?
theorem ixN_seq {n:Nat}{i:Int}{j:Nat}(h:ixN n i=some j):seqIndex? i n=some j/\j<n /\ -(n:Int)<=i/\i<n:=by
 unfold ixN at h
 by_cases h0:0<=i
 ·rw [if_pos h0] at h
  by_cases h1:i<n
  ·rw [if_pos h1] at h
   have e:i.toNat=j:=Option.some.inj h
   exact ⟨by rw [seqIndex_of h0 h1,e],by lia,by lia,h1⟩
  ·rw [if_neg h1] at h;cases h
 ·rw [if_neg h0] at h
  by_cases h1: -(n:Int)<=i
  ·rw [if_pos h1] at h
   have e:(i+n).toNat=j:=Option.some.inj h
   exact ⟨by rw [seqIndex_neg (by lia) h1,e],by lia,h1,by lia⟩
  ·rw [if_neg h1] at h;cases h
theorem atI_get {α:Type}{xs:List α}{i:Int}{v:α}(h:atI xs i=some v):∃ j,seqIndex? i xs.length=some j/\xs[j]? = some v/\j<xs.length /\ -(xs.length:Int)<=i/\i<xs.length:=by
 unfold atI at h
 cases e:ixN xs.length i with
 | none=>rw [e] at h;cases h
 | some j=>
  rw [e] at h
  obtain ⟨h1,h2,h3,h4⟩:=ixN_seq e
  exact ⟨j,h1,h,h2,h3,h4⟩
noncomputable def PlainIx (b:Expr):Prop:=∀ o i,subscripted b false o i=operate [o,i] (getItem o i)
noncomputable def IxR (X:Cx)(r:R2):Prop:=
 ∀ (value slice:Expr) (pins:List (Addr×Obj)) (s:Shared) (σ:St) (H:Hp) (x y:V) (v u:Value) (Q:VK),Inv X pins σ H s->RelV x v->RelV y u->r x y H Q ->
  subscripted slice false v u=operate [v,u] (getItem v u)->wpAny (model X.prog X.w) X.A (subscriptTail value slice v u) (EP X pins σ Q) X.xe s
noncomputable def MtR (X:Cx)(id:String)(r:V->List V->Hp->VK->Prop):Prop:=
 ∀ (pins:List (Addr×Obj)) (s:Shared) (σ:St) (H:Hp) (x:V) (xs:List V) (v:Value) (us:List Value) (Q:VK),Inv X pins σ H s->RelV x v->Vals xs us->r x xs H Q ->
  wpAny (model X.prog X.w) X.A (call (.builtin id) (v::us)) (EP X pins σ Q) X.xe s
section
variable {X:Cx} {a b:Expr} {ta tb:TE} {pos:Pos}
theorem pe_ix {r:R2}(hr:IxR X r)(ha:PE X a ta)(hb:PE X b tb)(hs:PlainIx b):PE X (.Subscript a b pos) (tOp r ta tb):=by
 intro pins s σ H Q I h
 exact Subscript_ (binT ha hb I h fun v u s2 x y H2 I2 rx ry q=>hr a b pins s2 σ H2 x y v u Q I2 rx ry q (hs _ _))
noncomputable def rIxL (K:Fg1):R2:=fun x y H Q=>∃ p xs i v,x = .ref p/\y = .int i/\SqL K H p xs/\atI xs i=some v/\Q v H
noncomputable def rIxT (K:Fg1):R2:=fun x y H Q=>∃ p xs i v,x = .ref p/\y = .int i/\SqT K H p xs/\atI xs i=some v/\Q v H
theorem ix_list:IxR X (rIxL X.K):=by
 intro value slice pins s σ H x y v u Q I rx ry h hs
 obtain ⟨p,xs,i,z,rfl,rfl,hq,he,q⟩:=h
 cases rx
 obtain ⟨t,rfl⟩:=ry
 obtain ⟨its,r,pl,hz⟩:=I.list hq
 obtain ⟨j,h1,h2,h3,h4,h5⟩:=atI_get he
 obtain ⟨w,ew,rw'⟩:=r.get h2
 have hl:=r.length
 have hn:=line63
 have fin:EP X pins σ Q w s:=⟨z,H,I,rw',q⟩
 by_cases h0:0<=i
 ·have hj:i.toNat=j:=by
   rw [seqIndex_of h0 h5] at h1
   exact Option.some.inj h1
  exact item_listR pl.isList h0 (by lia) (by rw [hj];simpa using ew) fin hs
 ·have hj:(i+(its.toArray.size:Int)).toNat=j:=by
   rw [seqIndex_neg (by lia) h4] at h1
   rw [sT1,<- hl]
   exact Option.some.inj h1
  exact subscriptTail_builtinR (x:=w) pl.isList.typeIs slot_list_getitem.lookup
   (wpAny_getItem_list_neg (Q:=fun r s'=>r=w/\EP X pins σ Q r s') pl.isList (by lia) (by rw [sT1]<;>lia) (by lia) (by rw [hj];simpa using ew) ⟨rfl,fin⟩) hs
theorem ix_tup:IxR X (rIxT X.K):=by
 intro value slice pins s σ H x y v u Q I rx ry h hs
 obtain ⟨p,xs,i,z,rfl,rfl,hq,he,q⟩:=h
 cases rx
 obtain ⟨t,rfl⟩:=ry
 obtain ⟨its,r,pl,hz⟩:=I.tuple hq
 obtain ⟨j,h1,h2,h3,h4,h5⟩:=atI_get he
 obtain ⟨w,ew,rw'⟩:=r.get h2
 have hl:=r.length
 have hn:=line63
 have fin:EP X pins σ Q w s:=⟨z,H,I,rw',q⟩
 exact subscriptTail_builtinR (x:=w) pl.typeIs slot_tuple_getitem.lookup
  (getItem_tuple (j:=j) (Q:=fun r s'=>r=w/\EP X pins σ Q r s') pl (by lia) (by lia) (by rw [sT1,<- hl];exact h1) (by simpa using ew) ⟨rfl,fin⟩) hs
theorem mapSeq_set (its:List Value)(n j:Nat)(u:Value):Obj.mapSeq (·.setIfInBounds j u) {cls:=.type "list",data:=.seq its.toArray n}={cls:=.type "list",data:=.seq (its.set j u).toArray n}:=by
 simp [Obj.mapSeq]
theorem Inv.lst {pins:List (Addr×Obj)}{σ:St}{H:Hp}{s:Shared}{p:Addr}{xs:List V}(I:Inv X pins σ H s)(h:H p=some (.lst xs)):
  ∃ (its:List Value) (n:Nat),Vals xs its/\s.heap.get? p=some {cls:=.type "list",data:=.seq its.toArray n}/\xs.length<=sizeLine:=by
 obtain ⟨z,its,n,r,e⟩:=I.hok p _ h
 exact ⟨its,n,r,e,z⟩
theorem Inv.lstUpd {pins:List (Addr×Obj)}{σ:St}{H:Hp}{s:Shared}{p:Addr}{xs ys:List V}{its its':List Value}{n n':Nat}{f:Obj->Obj}(I:Inv X pins σ H s)(h:H p=some (.lst xs))
  (ho:s.heap.get? p=some {cls:=.type "list",data:=.seq its.toArray n}) (hf:f {cls:=.type "list",data:=.seq its.toArray n}={cls:=.type "list",data:=.seq its'.toArray n'}) (r:Vals ys its') (hz:ys.length<=sizeLine) (t:Nat):
  Inv X pins σ (upd H p (.lst ys)) {s with heap:=s.heap.update p f,toks:=t}:=by
 have e:(s.heap.update p f).get? p=some {cls:=.type "list",data:=.seq its'.toArray n'}:=by
  rw [hW1 f ho (by rw [hf]<;>rfl),hf]
 refine I.write (x:=p) (e:=p) (by rw [h];trivial) (.inl rfl) (fun b u hb q=>(Heap.get?_update_other _ _ (Ne.symm hb)).trans q) ⟨_,e⟩ ?_
 exact ⟨hz,its',n',r,e⟩
noncomputable def rSetL:V->V->V->Hp->(Hp->Prop)->Prop:=fun o i v H Q=>∃ p xs k j,o = .ref p/\i = .int k/\H p=some (.lst xs)/\ixN xs.length k=some j/\Q (upd H p (.lst (xs.set j v)))
theorem set_list:PSet X rSetL:=by
 intro pins s σ H o i v ov iv u Q I ro ri rv h
 obtain ⟨p,xs,k,j,rfl,rfl,hp,hj,q⟩:=h
 cases ro
 obtain ⟨t,rfl⟩:=ri
 obtain ⟨its,n,r,ho,hz⟩:=I.lst hp
 obtain ⟨h1,h2,h3,h4⟩:=ixN_seq hj
 have hl:=r.length
 have hn:=line63
 have I':Inv X pins σ (upd H p (.lst (xs.set j v))) {s with heap:=s.heap.update p (Obj.mapSeq (·.setIfInBounds j u))}:=
  I.lstUpd hp ho (mapSeq_set its n j u) (r.set rv j) (by rw [List.length_set];exact hz) s.toks
 by_cases h0:0<=k
 ·have hk:k.toNat=j:=by
   rw [seqIndex_of h0 h4] at h1
   exact Option.some.inj h1
  exact PySem.W.ki_setAt ho h0 (by lia) (by rw [sT1,<- hl];exact h4) (by rw [hk];exact ⟨_,I',q⟩)
 ·have hk:(k+(its.toArray.size:Int)).toNat=j:=by
   rw [seqIndex_neg (by lia) h3] at h1
   rw [sT1,<- hl]
   exact Option.some.inj h1
  exact PySem.W.ki_setBack ho (by lia) (by rw [sT1,<- hl];exact h3) (by lia) (by rw [hk];exact ⟨_,I',q⟩)
theorem slice_bounds (lo hi:Option Int)(n:Nat):(sliceBounds lo hi none n).1=((HT.sIx n 0 lo:Nat):Int)/\(sliceBounds lo hi none n).2.1=((HT.sIx n n hi:Nat):Int)/\(sliceBounds lo hi none n).2.2=1:=by
 refine ⟨?_,?_,rfl⟩
 ·cases lo with
  | none=>simp [sliceBounds,HT.sIx]
  | some i=>
   simp only [sliceBounds,HT.sIx,Option.getD_none,show (1:Int)>0 by decide,if_true]
   by_cases h:i<0
   ·simp only [h,if_true]<;>lia
   ·simp only [h,if_false]<;>lia
 ·cases hi with
  | none=>simp [sliceBounds,HT.sIx]
  | some i=>
   simp only [sliceBounds,HT.sIx,Option.getD_none,show (1:Int)>0 by decide,if_true]
   by_cases h:i<0
   ·simp only [h,if_true]<;>lia
   ·simp only [h,if_false]<;>lia
theorem slicePick_cut (its:List Value)(lo hi:Option Int):slicePick its.toArray lo hi none=((its.drop (HT.sIx its.length 0 lo)).take (HT.sIx its.length its.length hi-HT.sIx its.length 0 lo)).toArray:=by
 obtain ⟨h1,h2,h3⟩:=slice_bounds lo hi its.toArray.size
 unfold slicePick
 rw [h1,h2,h3]
 simp only [sliceRange_one,pick_run,sT1]<;>rfl
noncomputable def rSlL (K:Fg1):V->Option Int->Option Int->Hp->VK->Prop:=fun x lo hi H Q=>∃ a xs,x = .ref a/\SqL K H a xs /\ ∀ p,H p=none->Q (.ref p) (upd H p (.lst (cutV xs lo hi)))
theorem sl_list:SlR X (rSlL X.K):=by
 intro pins s σ H x v vl vu lo hi sl Q I rx hs pl pu h
 obtain ⟨a,xs,rfl,hx,q⟩:=h
 cases rx
 obtain ⟨its,r,ht,hz⟩:=I.list hx
 have hlen:=r.length
 refine ⟨"list",_,slot_list_getitem.lookup,ht.isList.typeIs,?_⟩
 refine wpAny_getItem_list_slice ht.isList hs pl pu .none (by simp) ?_ (by rw [sT1]<;>lia)
 rw [slicePick_cut,<- hlen]
 refine ⟨.ref s.heap.objs.size,_,I.laid (t':=s.toks) (o:=.lst (cutV xs lo hi)) (fun b ob q=>hP1 _ q) (nR1 _) ?_,rfl,q _ (I.hok.fresh (nR1 _))⟩
 exact ⟨Nat.le_trans (cutV_length xs lo hi) hz,_,0,(r.drop (HT.sIx xs.length 0 lo)).take (HT.sIx xs.length xs.length hi-HT.sIx xs.length 0 lo),hS1 _ rfl⟩
noncomputable def flatV:V->Bool
 | .non=>true
 | .bl _=>true
 | .int _=>true
 | .str _=>true
 | _=>false
noncomputable def eqV:V->V->Bool
 | .non,.non=>true
 | .bl a,.bl b=>a == b
 | .bl a,.int b=>(if a then 1 else 0) == b
 | .int a,.bl b=>a == (if b then 1 else 0)
 | .int a,.int b=>a == b
 | .str a,.str b=>a == b
 | _,_=>false
theorem eqAt_V {A:Around}{s:Shared}{y x:V}{u v:Value}(ry:RelV y u)(rx:RelV x v)(fy:flatV y=true)(fx:flatV x=true):SeqAt.EqAt A s u v (eqV y x):=by
 cases y with
 | non=>
  cases ry
  cases x with
  | non=>cases rx;exact SeqAt.EqAt.same _
  | bl b=>cases rx;exact SeqAt.EqAt.none_bool b
  | int b=>obtain ⟨t,rfl⟩:=rx;exact SeqAt.EqAt.none_int b t
  | str b=>obtain ⟨t,rfl⟩:=rx;exact SeqAt.EqAt.none_str b t
  | _=>exact absurd (show false=true from fx) Bool.false_ne_true
 | bl a=>
  cases ry
  cases x with
  | non=>cases rx;exact SeqAt.EqAt.bool_none a
  | bl b=>cases rx;exact SeqAt.EqAt.bool_bool a b
  | int b=>obtain ⟨t,rfl⟩:=rx;exact SeqAt.EqAt.bool_int a b t
  | str b=>obtain ⟨t,rfl⟩:=rx;exact SeqAt.EqAt.bool_str a b t
  | _=>exact absurd (show false=true from fx) Bool.false_ne_true
 | int a=>
  obtain ⟨t',rfl⟩:=ry
  cases x with
  | non=>cases rx;exact SeqAt.EqAt.int_none a t'
  | bl b=>cases rx;exact SeqAt.EqAt.int_bool a t' b
  | int b=>obtain ⟨t,rfl⟩:=rx;exact SeqAt.EqAt.int_int a t' b t
  | str b=>obtain ⟨t,rfl⟩:=rx;exact SeqAt.EqAt.int_str a t' b t
  | _=>exact absurd (show false=true from fx) Bool.false_ne_true
 | str a=>
  obtain ⟨t',rfl⟩:=ry
  cases x with
  | non=>cases rx;exact SeqAt.EqAt.str_none a t'
  | bl b=>cases rx;exact SeqAt.EqAt.str_bool a t' b
  | int b=>obtain ⟨t,rfl⟩:=rx;exact SeqAt.EqAt.str_int a t' b t
  | str b=>obtain ⟨t,rfl⟩:=rx;exact SeqAt.EqAt.str_str a t' b t
  | _=>exact absurd (show false=true from fx) Bool.false_ne_true
 | _=>exact absurd (show false=true from fy) Bool.false_ne_true
theorem call_len_seq:CallR X (.builtin "len") (fun xs H Q=>∃ p ys,xs=[.ref p]/\(SqL X.K H p ys\/SqT X.K H p ys)/\Q (.int ys.length) H):=by
 intro pins s σ H xs us Q I r h
 obtain ⟨p,ys,rfl,hq,q⟩:=h
 obtain ⟨u,rfl,rx⟩:=vals1 r
 cases rx
 have hn:=line63
 rcases hq with hq | hq
 ·obtain ⟨its,r',pl,hz⟩:=I.list hq
  have hlen:=r'.length
  exact Calls.call_len_list pl.isList (by simp only [sT1]<;>lia) ⟨.int ys.length,H,I.tok _,⟨s.toks+1,by rw [sT1,hlen]⟩,q⟩
 ·obtain ⟨its,r',pl,hz⟩:=I.tuple hq
  have hlen:=r'.length
  exact len_tuple pl (by simp only [sT1]<;>lia) ⟨.int ys.length,H,I.tok _,⟨s.toks+1,by rw [sT1,hlen]⟩,q⟩
theorem call_len_str:CallR X (.builtin "len") (fun xs H Q=>∃ z,xs=[.str z]/\z.length<=sizeLine/\Q (.int z.length) H):=by
 intro pins s σ H xs us Q I r h
 obtain ⟨z,rfl,hz,q⟩:=h
 obtain ⟨u,rfl,t,rfl⟩:=vals1 r
 have hn:=line63
 exact len_str (by lia) ⟨.int z.length,H,I.tok _,⟨_,rfl⟩,q⟩
theorem call_tuple_of:CallR X (.type "tuple") (fun xs H Q=>∃ p ys,xs=[.ref p]/\((SqL X.K H p ys /\ ∀ l,H l=none->Q (.ref l) (upd H l (.tup ys)))\/(SqT X.K H p ys/\Q (.ref p) H))):=by
 intro pins s σ H xs us Q I r h
 obtain ⟨p,ys,rfl,h⟩:=h
 obtain ⟨u,rfl,rx⟩:=vals1 r
 cases rx
 rcases h with ⟨hq,q⟩ | ⟨hq,q⟩
 ·obtain ⟨its,r',pl,hz⟩:=I.list hq
  have hlen:=r'.length
  refine call_tuple_list pl.isList (fun h' kp=>?_) (by simp only [sT1]<;>lia)
  have I1:Inv X pins σ H {s with heap:=h'}:=I.kept (t':=s.toks) kp
  have I2:Inv X pins σ (upd H h'.objs.size (.tup ys)) {s with heap:=h'.push {cls:=.type "tuple",data:=.seq its.toArray}}:=
   I1.laid (t':=s.toks) (fun b o e=>hP1 _ e) (nR1 _) (show ObjOk X.prog X.w _ _ _ (.tup ys) from ⟨hz,its,r',IsTup.new _ _⟩)
  exact ⟨.ref h'.objs.size,_,I2,rfl,q _ (I1.hok.fresh (nR1 _))⟩
 ·obtain ⟨its,r',pl,hz⟩:=I.tuple hq
  exact call_tuple_same pl ⟨.ref p,H,I,rfl,q⟩
noncomputable def tyV (K:Fg1)(T:String)(x:V)(H:Hp):Prop:=match x with
 | .str _=>T="str"
 | .int _=>T="int"
 | .ref p=>(T="list" /\ ∃ xs,SqL K H p xs)\/(T="tuple" /\ ∃ o,K.lookup p=some o/\o.cls = .type "tuple"/\o.dict=none) \/
   (T="dict"/\((∃ kvs,H p=some (.dK kvs)) \/ ∃ kvs,H p=some (.dT kvs)))\/(T="set" /\ ∃ S n,H p=some (.set S n))
 | _=>False
theorem tyV_is {pins:List (Addr×Obj)}{σ:St}{H:Hp}{s:Shared}{T:String}{x:V}{v:Value}(I:Inv X pins σ H s)(r:RelV x v)(ty:tyV X.K T x H):
  s.TypeIs v T /\ ∀ a,v = .ref a -> ∃ ob,s.heap.get? a=some ob/\ob.dict=none:=by
 cases x with
 | str z=>
  obtain ⟨t,rfl⟩:=r
  cases (show T="str" from ty)
  exact ⟨typeIs_str s z t,fun _ e=>nomatch e⟩
 | int i=>
  obtain ⟨t,rfl⟩:=r
  cases (show T="int" from ty)
  exact ⟨typeIs_int s i t,fun _ e=>nomatch e⟩
 | ref p=>
  cases r
  rcases ty with ⟨rfl,xs,hq⟩ | ⟨rfl,o,hk,hc,hd⟩ | ⟨rfl,hk⟩ | ⟨rfl,S,n,hk⟩
  ·obtain ⟨its,_,pl,_⟩:=I.list hq
   refine ⟨pl.isList.typeIs,fun a e=>?_⟩
   cases e
   obtain ⟨o,n,e,c,hd,_⟩:=pl
   exact ⟨o,e,hd⟩
  ·refine ⟨⟨o,I.kIn p o hk,hc⟩,fun a e=>?_⟩
   cases e
   exact ⟨o,I.kIn _ o hk,hd⟩
  ·have z:∃ o,s.heap.get? p=some o/\o.ExactDict:=by
    rcases hk with ⟨kvs,hk⟩ | ⟨kvs,hk⟩
    ·obtain ⟨_,_,_,_,o,_,_,e,ex,_⟩:=I.hok p _ hk
     exact ⟨o,e,ex⟩
    ·obtain ⟨_,_,_,_,o,_,_,e,ex,_⟩:=I.hok p _ hk
     exact ⟨o,e,ex⟩
   obtain ⟨o,e,ex⟩:=z
   refine ⟨⟨o,e,ex.1⟩,fun a e2=>?_⟩
   cases e2
   exact ⟨o,e,ex.2.1⟩
  ·obtain ⟨o,_,_,_,e,ex,_⟩:=I.hok p _ hk
   refine ⟨⟨o,e,ex.1⟩,fun a e2=>?_⟩
   cases e2
   exact ⟨o,e,ex.2.1⟩
 | _=>exact False.elim ty
noncomputable def tBM (K:Fg1)(T:String)(r:V->List V->Hp->VK->Prop)(to:TE)(t:TA):TE:=fun σ H Q=>to σ H fun x H1=>tyV K T x H1/\t σ H1 fun xs H2=>r x xs H2 Q
variable {o e:Expr} {es:List Expr} {to:TE} {t:TA} {name:Str} {apos cpos:Pos} {T id:String} {r:V->List V->Hp->VK->Prop}
theorem pe_bm (pa:PlainAttrs T)(slot:Slot T name id)(hty:typeOf (.builtin id)=pure (.type "method_descriptor"))(hm:MtR X id r)(ho:PE X o to)(ha:PA X (e::es) t)
  (hbase:attributeBase o name X.env (eval o X.env)=eval o X.env:=by rfl)
  (hfew:((backTo cpos (starEach (e::es) X.env)).all (fun x=> !x.1)&&(backToKw cpos (keywordEach [] X.env)).all (fun x=>x.1.isSome)
   && decide ((e::es).length+([]:List Keyword).length+(if ([]:List Keyword).isEmpty then 0 else 1)<30))=true:=by rfl)
  (hline:(apos.endLine == cpos.line)=true:=by rfl) (hs:starEach (e::es) X.env=(false,eval e X.env)::starEach es X.env:=by rfl) (hplain:(backTo cpos (starEach es X.env)).any (·.1)=false:=by rfl):
  PE X (.Call (.Attribute o name apos) (e::es) [] cpos) (tBM X.K T r to t):=by
 intro pins s σ H Q I h
 refine wpAny_Call_method_late hbase hfew hline rfl (thn (ho pins s σ H _ I h) fun v s1 ⟨x,H1,I1,r1,ty,q1⟩=>?_)
 obtain ⟨h1,h2⟩:=tyV_is I1 r1 ty
 refine ⟨T,id,pa,slot,hty,h1,h2,?_⟩
 have hA:=ha cpos pins s1 σ H1 _ I1 q1
 rw [hs] at hA ⊢
 refine Calls.callWith_builtin (by show (false||(backTo cpos (starEach es X.env)).any (·.1))=false;rw [hplain]<;>rfl) (Calls.evalArgs_plain ?_)
 exact thn hA fun us s2 ⟨vs,H2,I2,r2,q2⟩=>hm pins s2 σ H2 x vs v us Q I2 r1 r2 q2
end
end L2
namespace L2
open PySem PySem.Spec PyProof.Rows
noncomputable def MtM (X:Cx)(id:String)(r:V->List V->Hp->VK->Prop):Prop:=
 ∀ (pins:List (Addr×Obj)) (s:Shared) (σ:St) (H:Hp) (x:V) (xs:List V) (v:Value) (us:List Value) (Q:VK),Inv X pins σ H s->RelV x v->Vals xs us->r x xs H Q ->
  wpAny (model X.prog X.w) X.A (call (.builtin id) (v::us)) (EP X pins σ Q) X.xe s
theorem Vals.one:∀ {x:V} {us:List Value},Vals [x] us -> ∃ u,us=[u]/\RelV x u:=by
 intro x us h
 cases h with
 | cons r t=>cases t;exact ⟨_,rfl,r⟩
theorem Vals.two:∀ {x y:V} {us:List Value},Vals [x,y] us -> ∃ u v,us=[u,v]/\RelV x u/\RelV y v:=by
 intro x y us h
 cases h with
 | cons r t=>obtain ⟨v,rfl,q⟩:=Vals.one t;exact ⟨_,_,rfl,r,q⟩
section
variable {X:Cx} {pins:List (Addr×Obj)} {σ:St} {H:Hp} {s:Shared} {l b:Addr} {xs ys zs:List V}
theorem Inv.lset {its its':List Value}{n:Nat}{f:Array Value->Array Value}{t':Nat}(I:Inv X pins σ H s)(hH:H l=some (.lst xs))
  (e:s.heap.get? l=some {cls:=.type "list",data:=.seq its.toArray n}) (hf:f its.toArray=its'.toArray) (hv:Vals ys its') (hz:ys.length<=sizeLine):
  Inv X pins σ (upd H l (.lst ys)) {s with heap:=s.heap.update l (Obj.mapSeq f),toks:=t'}:=by
 have q:=PySem.IsL.update e f
 rw [hf] at q
 refine I.write (x:=l) (e:=l) (by rw [hH];exact trivial) (.inl rfl) (fun b' u hb hu=>(Heap.get?_update_other s.heap (Obj.mapSeq f) (Ne.symm hb)).trans hu) ⟨_,q⟩ ?_
 exact ⟨hz,its',_,hv,q⟩
theorem Inv.lnew {its:List Value}{t':Nat}(I:Inv X pins σ H s)(hv:Vals ys its)(hz:ys.length<=sizeLine):
  Inv X pins σ (upd H s.heap.objs.size (.lst ys)) {s with heap:=s.heap.push {cls:=.type "list",data:=.seq its.toArray},toks:=t'}:=
 I.laid (fun _ _ q=>hP1 _ q) (nR1 _) ⟨hz,its,0,hv,hS1 _ rfl⟩
theorem Inv.fresh (I:Inv X pins σ H s):H s.heap.objs.size=none:=I.hok.fresh (nR1 _)
theorem Inv.lstM (I:Inv X pins σ H s)(hH:H l=some (.lst xs)):xs.length<=sizeLine /\ ∃ (its:List Value) (n:Nat),Vals xs its/\xs.length=its.length/\s.heap.get? l=some {cls:=.type "list",data:=.seq its.toArray n}:=by
 obtain ⟨z,its,n,r,e⟩:=I.hok l _ hH
 exact ⟨z,its,n,r,r.length,e⟩
theorem notLongL {n:Nat}(h:n<=sizeLine):Builtin.List.listTooLong n=false:=by
 unfold Builtin.List.listTooLong
 exact decide_eq_false (by lia)
end
section
variable {X:Cx}
noncomputable def rAppend:V->List V->Hp->VK->Prop:=fun x vs H Q=>∃ l xs y,x = .ref l/\vs=[y]/\H l=some (.lst xs)/\xs.length<sizeLine/\Q .non (upd H l (.lst (xs++[y])))
theorem mt_append:MtM X "list.append" rAppend:=by
 intro pins s σ H x vs v us Q I rx rv h
 obtain ⟨l,xs,y,rfl,rfl,hH,hz,q⟩:=h
 cases rx
 obtain ⟨u,rfl,ru⟩:=rv.one
 obtain ⟨z,its,n,r,hl,e⟩:=I.lstM hH
 refine call_meets F.slot_list_append ⟨_,e,rfl⟩ F.entry_list_append (F.args_list_append_2 _ _) (PySem.list_append l its.toArray n u (by rw [sT1];lia)) ⟨e,?_⟩
 refine ⟨.non,_,I.lset (its':=its++[u]) hH e (by simp) (r.append (.cons ru .nil)) ?_,rfl,q⟩
 rw [lA1,List.length_singleton]
 lia
noncomputable def rExtend:V->List V->Hp->VK->Prop:=fun x vs H Q=>∃ l b xs zs,x = .ref l/\vs=[.ref b]/\H l=some (.lst xs)/\H b=some (.lst zs)/\xs.length+zs.length<=sizeLine/\Q .non (upd H l (.lst (xs++zs)))
theorem mt_extend:MtM X "list.extend" rExtend:=by
 intro pins s σ H x vs v us Q I rx rv h
 obtain ⟨l,b,xs,zs,rfl,rfl,hH,hB,hz,q⟩:=h
 cases rx
 obtain ⟨u,rfl,ru⟩:=rv.one
 cases ru
 obtain ⟨z,its,n,r,hl,e⟩:=I.lstM hH
 obtain ⟨z2,its2,n2,r2,hl2,e2⟩:=I.lstM hB
 have hsz:its.toArray.size+its2.toArray.size<=sizeLine:=by rw [sT1,sT1];lia
 have hlong:¬ (!its.toArray.isEmpty&&Builtin.List.listTooLong (its.toArray.size+its2.toArray.size))=true:=by
  rw [notLongL hsz,Bool.and_false]
  exact Bool.false_ne_true
 refine call_meets F.slot_list_extend ⟨_,e,rfl⟩ F.entry_list_extend (F.args_list_extend_2 _ _)
  (AutoSeq1.list_extend_list_list_0 l its.toArray n b its2.toArray n2 hlong (by rw [sT1];lia) (by lia)) ⟨e,e2,?_⟩
 refine ⟨.non,_,I.lset (its':=its++its2) hH e (by simp) (r.append r2) ?_,rfl,q⟩
 rw [lA1]
 lia
noncomputable def rCat:R2:=fun x y H Q=>∃ l b xs zs,x = .ref l/\y = .ref b/\H l=some (.lst xs)/\H b=some (.lst zs)/\xs.length+zs.length<=sizeLine /\ ∀ p,H p=none->Q (.ref p) (upd H p (.lst (xs++zs)))
theorem op_cat:OpR X (binaryOp .Add) rCat:=by
 intro pins s σ H x y v u Q I rx ry h
 obtain ⟨l,b,xs,zs,rfl,rfl,hH,hB,hz,q⟩:=h
 cases rx
 cases ry
 obtain ⟨z,its,n,r,hl,e⟩:=I.lstM hH
 obtain ⟨z2,its2,n2,r2,hl2,e2⟩:=I.lstM hB
 refine PySem.P.add_list e e2 ?_ (by rw [sT1,sT1];lia)
 have ea:its.toArray++its2.toArray=(its++its2).toArray:=by simp
 rw [ea]
 exact ⟨.ref _,_,I.lnew (t':=s.toks) (r.append r2) (by rw [lA1];lia),rfl,q _ I.fresh⟩
end
section
variable {prog:Program} {w:World} {A:Around} {E:Value->Shared->Prop} {s:Shared}
end
section
variable {X:Cx}
end
end L2
namespace Att
open PySem PySem.W PySem.Calls PyProof.Rows
theorem ints_of_wellAll {P:Params}{h:Heap}:∀ (ns:List Int) (vs:List Value),WellAll P h vs (ns.map WData.int)->IntsAre vs ns:=by
 intro ns
 induction ns with
 | nil=>
  intro vs w
  rw [List.map_nil] at w
  cases w
  exact .nil
 | cons n ns ih=>
  intro vs w
  rw [mP1] at w
  cases w with
  | cons a b=>
   cases a
   exact .cons _ _ (ih _ b)
theorem script_of {l:OpenLaw}{n:Nat}(hn:l.most=some n){P:Params}{h:Heap}{args:List WData}{vals:List Value}
  (hpre:l.row.toRowW.claim.pre args=true) (hwl:WellAll P h vals args):
  ∃ a vs ns,vals=[Value.ref a]/\args=[WData.list (ns.map WData.int)]/\h.get? a=some {cls:=.type "list",data:=.seq vs.toArray}/\IntsAre vs ns/\ns.length<=n:=by
 have hsh:WShape.hasAll [] args [.list .int]=true:=(pre_splitW hpre).1
 have hc:l.pre.holds [] {args:=args}=true:=(pre_splitW hpre).2
 obtain ⟨d,r,rfl,h1,h2⟩:=hasAllW_cons hsh
 obtain rfl:=hasAllW_nil h2
 obtain ⟨xs,rfl,h3⟩:=hasW_list h1
 obtain ⟨ns,rfl⟩:=items_int h3
 have hlen:ns.length<=n:=by
  unfold OpenLaw.pre at hc
  have h4:(WTm.not (.lt (.lit (.int (n:Int))) (.len (.arg 0)))).holds [] {args:=[.list (ns.map .int)]}=true:=by
   have h4:=(holds_andW hc).1
   rw [hn] at h4
   exact h4
  have h5:=condW_of h4 (w_not (w_lt w_lit (w_len_list (w_arg rfl))))
  rw [lM1] at h5
  refine Nat.le_of_not_lt fun q=>?_
  have q':(n:Int)<((ns.length:Nat):Int):=by omega
  first
   | (rw [decide_eq_true q'] at h5;exact absurd h5 (by decide))
   | (simp at h5;omega)
 cases hwl with
 | cons w1 w2=>
  cases w2
  cases w1 with
  | list ho hall=>exact ⟨_,_,ns,rfl,rfl,ho,ints_of_wellAll ns _ hall,hlen⟩
theorem post_true (l:OpenLaw)(args:List WData):l.row.toRowW.claim.post args (.bool true) args=true:=
 postW_of (r:=l.row.toRowW) (X:=(true == true))
  (show WShape.has [] (.bool true) .bool=true by first | rfl | decide | simp [WShape.has,WShape.arms,WShape.armsAll])
  (show (WTm.eq .res (.lit (.bool true))).value [] {args:=args,res:=some (.bool true),after:=args}=some (.bool (true == true)) from w_eq_bool (w_res rfl) w_lit) rfl
theorem attach_call {l:OpenLaw}{n:Nat}{q:Program}{loose:List Str}{XP:(Str->Option Value)->Heap->Prop}{YP:World->Heap->Prop}{d:DefRec}
  (hn:l.most=some n) (hdf:d.params.defaults=[])
  (call:∀ (w:World) (s₀ s₁:Shared) (mg mb:Str->Option Value) (fa:Addr) (o:Obj) (pm cd doc:Value) (a:Addr) (vs:List Value) (ns:List Int),
   Ground q loose [] XP w s₀ mg mb s₁.heap->YP w s₁.heap ->
   s₁.heap.get? fa=some o->o.data = .func (docDef d.name d.params d.body d.scope pm cd doc)->s₁.heap.CodeRec cd d.name->mg d.name=some (.ref fa) ->
   s₁.heap.get? a=some {cls:=.type "list",data:=.seq vs.toArray}->IntsAre vs ns->ns.length<=n->s₁.gens = #[] ->
   codeAny (model l.prog w) callerA (.call (.ref fa) ⟨[.ref a],[]⟩) (fun r s'=>r = .ok (.ret (.bool true))/\OldK s₁.heap s'.heap/\s'.os=s₁.os/\AllBare s'.gens) s₁):
  WalkO q loose XP YP l.row.toRowW d [] (fun f vs=>PySem.call f vs):=by
 intro w s₀ s₁ mg mb G Y fa o pm cd doc dV kV ho hd hcd hD hmg hg args vals as hpre hlay hrd hwl hlo
 obtain rfl:dV = .none:=Dflts.none hD hdf
 obtain rfl:kV = .none:=Dflts.noKw hD
 obtain ⟨a,vs,ns,rfl,rfl,hobj,hints,hlen⟩:=script_of hn hpre hwl
 refine enter_call (codeAny_mono (call w s₀ s₁ mg mb fa o pm cd doc a vs ns G Y ho (fd_plain hd) hcd hmg hobj hints hlen hg) fun r s' hq=>?_)
 obtain ⟨rfl,h2,h3,h4⟩:=hq
 exact ⟨.inl ⟨.bool true,.bool true,[],rfl,fun _=>rfl,.bool true,post_true l _,fun _=>⟨List.Pairwise.nil,fun _ hm=>(nomatch hm)⟩⟩,h2,h3,h4⟩
section
variable {prog:Program} {w:World} {A:Around} {E:Value->Shared->Prop} {s:Shared} {K:Frag}
end
end Att
namespace L2
open PySem PySem.Spec PyProof.Rows
theorem vals_ints:∀ {vs:List Value} {ns:List Int},IntsAre vs ns->Vals (ns.map V.int) vs:=by
 intro vs ns h
 induction h with
 | nil=>exact .nil
 | cons n t h ih=>exact .cons ⟨t,rfl⟩ ih
noncomputable def Only (H:Hp):Prop:=∀ b,H b=none \/ ∃ o xs,H b=some (.frz o (.lst xs))
theorem law_call {P:Program}{w:World}{K:Fg1}{mg mb:Str->Option Value}{CX:CXT}{k:Nat}{fa a:Addr}{fd:FuncData}{x:Str}{sp:Sp}{s₁:Shared}{vs:List Value}{ns:List Int}
  (KX:K.In s₁.heap) (hns:s₁.heap.Ns mainGlobals mg) (hb:s₁.heap.Ns builtinsNs mb) (hbb:∀ x:Str,x≠"__name__"->mb x=bootBuiltins x) (hlim:s₁.heap.NoLimit) (hg:s₁.gens = #[])
  (ha:s₁.heap.get? a=some {cls:=.type "list",data:=.seq vs.toArray}) (hi:IntsAre vs ns) (hl:ns.length<=sizeLine) (hr:Room k callerA)
  (F:∀ base:Heap,K.In base->base.Ns mainGlobals mg->FnOk P w K mg base CX k fa fd [x] sp) (hbind:∀ (s:Shared) (u:Value),BindsTo s fd ⟨[u],[]⟩ [(x,u)])
  (hsp:∀ H:Hp,Only H->SqL K H a (ns.map V.int)->sp [.ref a] H (fun v _=>v = .bl true) fun _ _ _=>False)
  (hCX:∀ H e s',CX [] H s₁ (fun _ _ _=>False) e s'->False):
  codeAny (model P w) callerA (.call (.ref fa) ⟨[.ref a],[]⟩) (fun r s'=>r = .ok (.ret (.bool true))/\OldK s₁.heap s'.heap/\s'.os=s₁.os/\AllBare s'.gens) s₁:=by
 have rv:=vals_ints hi
 have lenV:=hi.length
 -- from an abstract heap in which nothing but the script may be tracked
 have core:∀ H:Hp,Only H->SqL K H a (ns.map V.int)->HOk P w H s₁.heap->(∀ b,H b≠none->b=a)->(H a≠none->K.lookup a=none) ->
   codeAny (model P w) callerA (.call (.ref fa) ⟨[.ref a],[]⟩) (fun r s'=>r = .ok (.ret (.bool true))/\OldK s₁.heap s'.heap/\s'.os=s₁.os/\AllBare s'.gens) s₁:=by
  intro H hO hS hok hA hK
  have base_of:∀ {b:Addr} {o:Obj},s₁.heap.get? b=some o->H b=none->(hidT s₁.heap H).get? b=some o:=fun e n=>hidT_get e n
  have noA:∀ {b:Addr} {o:Obj} {es:Array DictEntry} {ep:Nat},s₁.heap.get? b=some o->o.data = .dict es ep->H b=none:=fun {b o es ep} e d=>by
   cases q:H b with
   | none=>rfl
   | some u=>
    have e':b=a:=hA b (by rw [q];simp)
    subst e'
    rw [ha] at e;cases e
    have d':Data.seq vs.toArray _=Data.dict es ep:=d
    cases d'
  have nsK:∀ {b:Addr} {m:Str->Option Value},s₁.heap.Ns b m->(hidT s₁.heap H).Ns b m:=fun {b m} ⟨o,es,ep,e,d,r⟩=>⟨o,es,ep,base_of e (noA e d),d,r⟩
  have hKb:K.In (hidT s₁.heap H):=fun b o e=>base_of (KX b o e) (by
   cases q:H b with
   | none=>rfl
   | some u=>
    have e':b=a:=hA b (by rw [q];simp)
    subst e'
    rw [hK (by rw [q];simp)] at e;cases e)
  have hM:Mod K mg (hidT s₁.heap H):=⟨hKb,nsK hns,⟨mb,nsK hb,hbb⟩,let ⟨mc,h1,h2⟩:=hlim;⟨mc,nsK h1,h2⟩⟩
  have e0:Env0 P w K mg (hidT s₁.heap H) callerA [] s₁ H:=⟨rfl,hM,fun b o e=>of_hidT e,Nat.le_of_eq (hidT_size _ _),trivial,fun b hb=>absurd (show b∈([]:List Addr) from hb) (by simp),hok,.of_eq hg⟩
  refine codeAny_mono ((F _ hKb (nsK hns)).run callerA [] s₁ H ⟨[.ref a],[]⟩ [.ref a] [.ref a] _ _ hr e0 (hbind s₁ (.ref a)) (.cons rfl .nil) (hsp H hO hS)) fun r s' h=>?_
  cases r with
  | error e=>exact (hCX H e s' h).elim
  | ok fl=>
   cases fl with
   | next=>exact False.elim h
   | brk=>exact False.elim h
   | cont=>exact False.elim h
   | ret u=>
    obtain ⟨v,H',os,bare,un,hok',r',q⟩:=h
    have q':v = .bl true:=q
    subst q'
    obtain rfl:u=Value.bool true:=r'
    refine ⟨rfl,OldK.of_keep fun b o e=>?_,os,bare⟩
    cases q:H b with
    | none=>exact un.keep b o e q (by intro z;exact absurd (show b∈([]:List Addr) from z) (by simp)) (by simp)
    | some u=>
     rcases hO b with z | ⟨ob,xs,z⟩
     ·rw [q] at z;cases z
     ·have z2:=un.frzs b ob _ z
      obtain ⟨e1,_⟩:=hok b _ z
      obtain ⟨e2,_⟩:=hok' b _ z2
      rw [e] at e1;cases e1
      exact e2
 cases hk:K.lookup a with
 | some o=>
  -- the script is one of the module's own objects
  have e:=KX a o hk
  rw [ha] at e
  cases e
  refine core (fun _=>none) (fun _=>.inl rfl) (.inr ⟨_,vs.toArray,_,hk,rfl,rfl,rfl,by rw [sT1,lenV];exact hl,by simpa using rv⟩) (fun b u z=>by have z':(none:Option HO)=some u:=z;cases z') (fun b z=>absurd rfl z) fun z=>absurd rfl z
 | none=>
  refine core (fun b=>if b=a then some (.frz {cls:=.type "list",data:=.seq vs.toArray} (.lst (ns.map V.int))) else none) (fun b=>?_) (.inl (.inr ⟨{cls:=.type "list",data:=.seq vs.toArray},if_pos rfl⟩)) (fun b u z=>?_) (fun b z=>?_) fun _=>hk
  ·by_cases hb:b=a
   ·exact .inr ⟨_,_,if_pos hb⟩
   ·exact .inl (if_neg hb)
  ·by_cases hb:b=a
   ·have z':=(if_pos hb).symm.trans z
    cases z'
    subst hb
    exact ⟨ha,by rw [lM1];exact hl,vs,_,rv,ha⟩
   ·have z':=(if_neg hb).symm.trans z
    cases z'
  ·by_cases hb:b=a
   ·exact hb
   ·exact absurd (if_neg hb) z
end L2
namespace L2
open PySem PySem.Spec PyProof.Rows
theorem walk_of {l:PySem.W.OpenLaw}{n k:Nat}{q:Program}{loose:List Str}{XP:(Str->Option Value)->Heap->Prop}{YP:World->Heap->Prop}{d:DefRec}{K:Params->Fg1}{CX:World->CXT}{sp:World->Sp}{x:Str}
  (hn:l.most=some n) (hn2:n<=sizeLine) (hdf:d.params.defaults=[]) (hr:Room k callerA)
  (hY:∀ (w:World) (h:Heap),YP w h->(K w.params).In h)
  (F:∀ (w:World) (mg:Str->Option Value) (fa:Addr) (h:Heap),(K w.params).In h->h.Ns mainGlobals mg->mg d.name=some (.ref fa) ->
   ∃ fd:FuncData,(∀ (s:Shared) (u:Value),BindsTo s fd ⟨[u],[]⟩ [(x,u)]) /\
    ∀ base:Heap,(K w.params).In base->base.Ns mainGlobals mg->FnOk l.prog w (K w.params) mg base (CX w) k fa fd [x] (sp w))
  (hsp:∀ (w:World) (H:Hp) (a:Addr) (ns:List Int),ns.length<=n->Only H->SqL (K w.params) H a (ns.map V.int)->sp w [.ref a] H (fun v _=>v = .bl true) fun _ _ _=>False)
  (hCX:∀ (w:World) (H:Hp) (s:Shared) (e:Value) (s':Shared),CX w [] H s (fun _ _ _=>False) e s'->False):
  PySem.W.WalkO q loose XP YP l.row.toRowW d [] (fun f vs=>PySem.call f vs):=by
 refine Att.attach_call hn hdf fun w s₀ s₁ mg mb fa o pm cd doc a vs ns G Y ho hd hcd hmg hobj hints hlen hg=>?_
 have KX:=hY w _ Y
 obtain ⟨fd,hb,hF⟩:=F w mg fa _ KX G.T.g hmg
 exact law_call KX G.T.g G.T.b G.T.builtins G.T.nolimit hg hobj hints (Nat.le_trans hlen hn2) hr hF hb (fun H hO hS=>hsp w H a ns hlen hO hS) fun H e s'=>hCX w H s₁ e s'
end L2
namespace L2
open PySem PySem.Spec PyProof.Rows
noncomputable def defArgs (s:Stmt):Arguments:=match s with
 | .FunctionDef _ a _ _ _ _ _ _ _ _=>a
 | _=>{posonlyargs:=[],args:=[],vararg:=none,kwonlyargs:=[],kw_defaults:=[],kwarg:=none,defaults:=[]}
noncomputable def defBody (s:Stmt):List Stmt:=match s with
 | .FunctionDef _ _ b _ _ _ _ _ _ _=>b
 | _=>[]
noncomputable def defScope (s:Stmt):Scope:=match s with
 | .FunctionDef _ _ _ _ _ _ sc _ _ _=>sc
 | _=>{kind:=.function,names:=[],isGenerator:=false,isCoroutine:=false}
noncomputable abbrev CX0:CXT:=fun _ _ _ _ _ _=>False
noncomputable abbrev E0:XK:=fun _ _ _=>False
theorem pass0 {X:Cx}:Passes CX0 X E0:=fun _ _ _ _ _ _ _ h=>h.elim
structure Fun (K:Fg1)(x qual:Str)(st:Stmt)(f:Addr)(fd:FuncData):Prop where
 ex:∃ (oc:Value) (od:Option Addr) (kV doc pm:Value) (an:Option Addr) (cdv ct:Value) (osl:Array (Option Value)),
  fd=wF1 x qual (defArgs st) (defBody st) (defScope st) .none kV doc pm an cdv ct/\K.lookup f=some ⟨oc,od,.func fd,osl⟩/\wC1 K cdv qual=true
 kp:wK1 K (.ref f)=true
section
variable {P:Program} {w:World} {K:Fg1} {mg:Str->Option Value} {base:Heap}
theorem Fun.ok {x qual:Str}{st:Stmt}{f:Addr}{fd:FuncData}{N ps:List Str}{k:Nat}{sp:Sp}(F:Fun K x qual st f fd)(S:FnScope N ps (defScope st))(len:∀ vs H Q E,sp vs H Q E->vs.length=ps.length)
  (hbody:∀ (cdv:Value) (A:Around) (outer:List Env) (s:Shared) (H:Hp) (vs:List V) (Q:VK) (E:XK),Room k (A.deeper (envOfC qual (defScope st) s.heap.objs.size f cdv))->sp vs H Q E ->
   ∃ t,PSs (cxOf CX0 P w K mg base N qual (defScope st) f cdv A outer s H E).nox (defBody st) t/\t {nx:=fun _ H'=>Q .non H',rt:=Q} (start N vs) H):FnOk P w K mg base CX0 (k+1) f fd ps sp:=by
 obtain ⟨oc,od,kV,doc,pm,an,cdv,ct,osl,rfl,lk,hcd⟩:=F.ex
 refine fn_of lk hcd S len fun A outer s H vs Q E hr hsp=>?_
 obtain ⟨t,h,q⟩:=hbody cdv A outer s H vs Q E hr hsp
 exact ⟨t,h.nox,q⟩
theorem Fun.binds {x qual:Str}{st:Stmt}{f:Addr}{fd:FuncData}{ps:List Str}(F:Fun K x qual st f fd)
  (h:∀ (kV doc pm:Value) (an:Option Addr) (cdv ct:Value) (us:List Value),us.length=ps.length->bindArgs (wF1 x qual (defArgs st) (defBody st) (defScope st) .none kV doc pm an cdv ct) ⟨us,[]⟩=pure (ps.zip us)):Binds K fd ps []:=by
 obtain ⟨oc,od,kV,doc,pm,an,cdv,ct,osl,rfl,lk,hcd⟩:=F.ex
 exact .all (h kV doc pm an cdv ct)
theorem fun_mk {x qual:Str}{st:Stmt}{f:Addr}{oc:Value}{od an:Option Addr}{osl:Array (Option Value)}{kV doc pm cdv ct:Value}(l:K.lookup f=some ⟨oc,od,.func (wF1 x qual (defArgs st) (defBody st) (defScope st) .none kV doc pm an cdv ct),osl⟩)
  (c:wC1 K cdv qual=true) (k:wK1 K (.ref f)=true):Fun K x qual st f (wF1 x qual (defArgs st) (defBody st) (defScope st) .none kV doc pm an cdv ct):=⟨⟨oc,od,kV,doc,pm,an,cdv,ct,osl,rfl,l,c⟩,k⟩
end
section
variable {X:Cx}
end
noncomputable def Same (H H':Hp):Prop:=∀ b o,H b=some o->H' b=some o
theorem Same.trans {H H1 H2:Hp}(a:Same H H1)(b:Same H1 H2):Same H H2:=fun c o h=>b c o (a c o h)
theorem Same.free {H H':Hp}(e:Same H H'){l:Addr}(h:H' l=Option.none):H l=Option.none:=by
 cases q:H l with
 | none=>rfl
 | some o=>
  rw [e l o q] at h
  cases h
end L2
end
section
namespace L2
open PySem PySem.Spec PyProof.Rows
section
variable {κ:Type} [DecidableEq κ]
noncomputable def valV (kvs:List (κ×V))(k:κ):Option V:=(kvs.find? fun kv=>decide (kv.1=k)).map (·.2)
noncomputable def putK (kvs:List (κ×V))(k:κ)(v:V):List (κ×V):=
 if (kvs.any fun kv=>decide (kv.1=k))=true then kvs.map (fun kv=>if kv.1=k then (kv.1,v) else kv) else kvs++[(k,v)]
noncomputable def dropK (kvs:List (κ×V))(k:κ):List (κ×V):=kvs.filter fun kv=>decide (kv.1≠k)
theorem valV_pos {p:κ×V}{r:List (κ×V)}{k:κ}(e:p.1=k):valV (p::r) k=some p.2:=by simp [valV,List.find?_cons,e]
theorem valV_neg {p:κ×V}{r:List (κ×V)}{k:κ}(e:¬ p.1=k):valV (p::r) k=valV r k:=by simp [valV,List.find?_cons,e]
theorem valV_any (k:κ):∀ kvs:List (κ×V),(kvs.any fun kv=>decide (kv.1=k))=(valV kvs k).isSome
 | []=>rfl
 | p::r=>by
  rw [List.any_cons]
  by_cases e:p.1=k
  ·simp only [valV_pos e,decide_eq_true e,Bool.true_or,Option.isSome_some]
  ·rw [valV_neg e,decide_eq_false e,Bool.false_or];exact valV_any k r
theorem length_putK (kvs:List (κ×V))(k:κ)(v:V):(putK kvs k v).length<=kvs.length+1:=by
 unfold putK
 split
 ·rw [lM1];lia
 ·rw [lA1,lC1,List.length_nil];lia
theorem RelO.isSome_eq {o:Option V}{u:Option Value}(r:RelO o u):o.isSome=u.isSome:=by
 cases o with
 | none=>cases u with
  | none=>rfl
  | some _=>exact (show False from r).elim
 | some _=>cases u with
  | none=>exact (show False from r).elim
  | some _=>rfl
theorem KV.val {kvs:List (κ×V)}{vs:List (κ×Value)}(r:KV kvs vs)(k:κ):RelO (valV kvs k) (valueAt vs k):=by
 unfold KV at r
 induction r with
 | nil=>exact True.intro
 | @cons p q ps qs h t ih=>
  obtain ⟨h1,h2⟩:=h
  by_cases e:p.1=k
  ·have e':q.1=k:=h1.symm.trans e
   have b:valueAt (q::qs) k=some q.2:=by simp [valueAt,List.find?_cons,e']
   rw [valV_pos e,b];exact h2
  ·have e':¬ q.1=k:=fun z=>e (h1.trans z)
   have b:valueAt (q::qs) k=valueAt qs k:=by simp [valueAt,List.find?_cons,e']
   rw [valV_neg e,b];exact ih
theorem KV.any {kvs:List (κ×V)}{vs:List (κ×Value)}(r:KV kvs vs)(k:κ):(kvs.any fun kv=>decide (kv.1=k))=vs.any fun kv=>decide (kv.1=k):=by
 unfold KV at r
 induction r with
 | nil=>rfl
 | cons h t ih=>rw [List.any_cons,List.any_cons,ih,h.1]
theorem KV.repl {kvs:List (κ×V)}{vs:List (κ×Value)}(r:KV kvs vs)(k:κ){y:V}{u:Value}(ry:RelV y u):
  KV (kvs.map fun kv=>if kv.1=k then (kv.1,y) else kv) (vs.map fun kv=>if kv.1=k then (kv.1,u) else kv):=by
 unfold KV at r ⊢
 induction r with
 | nil=>exact .nil
 | @cons p q ps qs h t ih=>
  rw [mP1,mP1]
  refine .cons ?_ ih
  obtain ⟨h1,h2⟩:=h
  by_cases e:p.1=k
  ·rw [if_pos e,if_pos (h1.symm.trans e)];exact ⟨h1,ry⟩
  ·rw [if_neg e,if_neg (fun z=>e (h1.trans z))];exact ⟨h1,h2⟩
theorem KV.put {kvs:List (κ×V)}{vs:List (κ×Value)}(r:KV kvs vs)(k:κ){y:V}{u:Value}(ry:RelV y u):KV (putK kvs k y) (stored vs k u):=by
 unfold putK stored
 rw [r.any k]
 by_cases e:(vs.any fun kv=>decide (kv.1=k))=true
 ·rw [if_pos e,if_pos e];exact r.repl k ry
 ·rw [if_neg e,if_neg e];exact Paired.snoc r ⟨rfl,ry⟩
theorem KV.drop {kvs:List (κ×V)}{vs:List (κ×Value)}(r:KV kvs vs)(k:κ):KV (dropK kvs k) (without vs k):=by
 unfold KV at r ⊢
 unfold dropK without
 induction r with
 | nil=>exact .nil
 | @cons p q ps qs h t ih=>
  obtain ⟨h1,h2⟩:=h
  rw [List.filter_cons,List.filter_cons]
  by_cases e:p.1=k
  ·have a:¬ decide (p.1≠k)=true:=by simp [e]
   have b:¬ decide (q.1≠k)=true:=by simp [h1.symm.trans e]
   rw [if_neg a,if_neg b];exact ih
  ·have e':¬ q.1=k:=fun z=>e (h1.trans z)
   have a:decide (p.1≠k)=true:=by simp [e]
   have b:decide (q.1≠k)=true:=by simp [e']
   rw [if_pos a,if_pos b];exact .cons ⟨h1,h2⟩ ih
theorem KV.length {kvs:List (κ×V)}{vs:List (κ×Value)}(r:KV kvs vs):kvs.length=vs.length:=Paired.length r
end
theorem kV_is {P:Program}{w:World}{k:Key}{u:Value}(r:RelV (kV k) u):(mixKind P w).is k u=true:=by
 cases k with
 | inl i=>obtain ⟨t,e⟩:=(show ∃ t,u=Value.int i t from r);subst e;exact mixKind_int P w i t
 | inr x=>obtain ⟨t,e⟩:=(show ∃ t,u=Value.str x t from r);subst e;exact mixKind_str P w x t
theorem items_are {P:Program}{w:World}:∀ {ks:List Key} {us:List Value},Vals (ks.map kV) us->ItemsAre (mixKind P w) ks us
 | [],_,r=>by rw [List.map_nil] at r;cases r;exact .nil
 | k::ks,_,r=>by
  rw [mP1] at r
  cases r with
  | cons h t=>exact .cons (kV_is h) (items_are t)
noncomputable abbrev KT (H:Hp):List (List Key×V)->List (List Key×Addr×Value)->Prop:=Paired fun p q=>p.1=q.1/\H q.2.1=some (.tup (p.1.map kV))/\RelV p.2 q.2.2
theorem KT.val {H:Hp}{kvs:List (List Key×V)}{xs:List (List Key×Addr×Value)}(r:KT H kvs xs)(k:List Key):RelO (valV kvs k) ((atKey xs k).map (·.2)):=by
 induction r with
 | nil=>exact True.intro
 | @cons p q ps qs h t ih=>
  obtain ⟨h1,_,h2⟩:=h
  by_cases e:p.1=k
  ·have e':q.1=k:=h1.symm.trans e
   have b:atKey (q::qs) k=some q.2:=by simp [atKey,List.find?_cons,e']
   rw [valV_pos e,b];exact h2
  ·have e':¬ q.1=k:=fun z=>e (h1.trans z)
   have b:atKey (q::qs) k=atKey qs k:=by simp [atKey,List.find?_cons,e']
   rw [valV_neg e,b];exact ih
theorem KT.repl {H:Hp}{kvs:List (List Key×V)}{xs:List (List Key×Addr×Value)}(r:KT H kvs xs)(k:List Key){y:V}{u:Value}(ry:RelV y u):
  KT H (kvs.map fun kv=>if kv.1=k then (kv.1,y) else kv) (xs.map (putAt k u)):=by
 induction r with
 | nil=>exact .nil
 | @cons p q ps qs h t ih=>
  rw [mP1,mP1]
  refine .cons ?_ ih
  obtain ⟨h1,h2,h3⟩:=h
  unfold putAt
  by_cases e:p.1=k
  ·rw [if_pos e,if_pos (h1.symm.trans e)];exact ⟨h1,h2,ry⟩
  ·rw [if_neg e,if_neg (fun z=>e (h1.trans z))];exact ⟨h1,h2,h3⟩
theorem KT.put {H:Hp}{kvs:List (List Key×V)}{xs:List (List Key×Addr×Value)}(r:KT H kvs xs)(k:List Key){b:Addr}{y:V}{u:Value}(hb:H b=some (.tup (k.map kV)))(ry:RelV y u):
  KT H (putK kvs k y) (storedH xs k b u):=by
 have e:(kvs.any fun kv=>decide (kv.1=k))=(atKey xs k).isSome:=by
  rw [valV_any,(r.val k).isSome_eq,Option.isSome_map]
 unfold putK storedH
 rw [e]
 by_cases q:(atKey xs k).isSome=true
 ·rw [if_pos q,if_pos q];exact r.repl k ry
 ·rw [if_neg q,if_neg q];exact Paired.snoc r ⟨rfl,hb,ry⟩
theorem KT.keeps {H H':Hp}{kvs:List (List Key×V)}{xs:List (List Key×Addr×Value)}(r:KT H kvs xs)(ht:∀ b ys,H b=some (.tup ys)->H' b=some (.tup ys)):KT H' kvs xs:=
 Paired.mapP r fun _ _ z=>⟨z.1,ht _ _ z.2.1,z.2.2⟩
section
variable {P:Program} {w:World} {H:Hp} {h:Heap} {a:Addr}
theorem rd_of {u:HO}(ok:HOk P w H h)(e:Rd H a u):ObjOk P w H h a u:=e.ok ok
theorem dk_rd {kvs:List (Key×V)}(ok:HOk P w H h)(e:Rd H a (.dK kvs)):kvs.length<=sizeLine/\(a == sysModules)=false /\ ∃ vs,KV kvs vs/\h.DictOf (mixKind P w) a vs:=
 show ObjOk P w H h a (.dK kvs) from rd_of ok e
theorem dk_of {kvs:List (Key×V)}(ok:HOk P w H h)(e:H a=some (.dK kvs)):kvs.length<=sizeLine/\(a == sysModules)=false /\ ∃ vs,KV kvs vs/\h.DictOf (mixKind P w) a vs:=dk_rd ok (.inl e)
theorem key_of {ks:List Key}(ok:HOk P w H h)(e:H a=some (.tup (ks.map kV))):(tupleKind (mixKind P w)).is h ks a:=by
 obtain ⟨_,its,r,o,h1,h2,n,h3⟩:=(show ObjOk P w H h a (.tup (ks.map kV)) from ok a _ e)
 exact ⟨o,its.toArray,n,h1,h2,h3,by simpa using items_are r⟩
theorem dt_rd {kvs:List (List Key×V)}(ok:HOk P w H h)(e:Rd H a (.dT kvs)):kvs.length<=sizeLine/\(a == sysModules)=false /\
  ∃ xs,KT H kvs xs/\h.DictOfH (tupleKind (mixKind P w)) a xs:=by
 obtain ⟨z,y,xs,r,o,es,ep,h1,h2,h3,h4,h5⟩:=(show ObjOk P w H h a (.dT kvs) from rd_of ok e)
 refine ⟨z,y,xs,r,o,es,ep,h1,h2,h3,h4,fun x hx=>?_,h5⟩
 have all:∀ {l:List (List Key×V)} {m:List (List Key×Addr×Value)},KT H l m -> ∀ x∈m,(tupleKind (mixKind P w)).is h x.1 x.2.1:=by
  intro l m q
  induction q with
  | nil=>intro x hx;exact nomatch hx
  | @cons p q ps qs hq t ih=>
   intro x hx
   rcases List.mem_cons.mp hx with e | hx
   ·subst e
    exact key_of ok (by rw [<- hq.1];exact hq.2.1)
   ·exact ih x hx
 exact all r x hx
theorem dt_of {kvs:List (List Key×V)}(ok:HOk P w H h)(e:H a=some (.dT kvs)):kvs.length<=sizeLine/\(a == sysModules)=false /\
  ∃ xs,KT H kvs xs/\h.DictOfH (tupleKind (mixKind P w)) a xs:=dt_rd ok (.inl e)
end
noncomputable def DGet (H:Hp)(a:Addr)(y:V)(r:Option V):Prop:=
 (∃ kvs k,Rd H a (.dK kvs)/\y=kV k/\r=valV kvs k) \/ ∃ kvs k b,Rd H a (.dT kvs)/\y = .ref b/\H b=some (.tup (k.map kV))/\r=valV kvs k
noncomputable def DPut (H:Hp)(a:Addr)(y v:V)(H':Hp):Prop:=
 (∃ kvs k,H a=some (.dK kvs)/\y=kV k/\kvs.length<sizeLine/\H'=upd H a (.dK (putK kvs k v))) \/
 ∃ kvs k b,H a=some (.dT kvs)/\y = .ref b/\H b=some (.tup (k.map kV))/\kvs.length<sizeLine/\H'=upd H a (.dT (putK kvs k v))
theorem DGet.k {H:Hp}{a:Addr}{kvs:List (Key×V)}{k:Key}(e:H a=some (.dK kvs)):DGet H a (kV k) (valV kvs k):=.inl ⟨kvs,k,.inl e,rfl,rfl⟩
theorem DGet.t {H:Hp}{a b:Addr}{kvs:List (List Key×V)}{k:List Key}(e:H a=some (.dT kvs))(eb:H b=some (.tup (k.map kV))):DGet H a (.ref b) (valV kvs k):=.inr ⟨kvs,k,b,.inl e,rfl,eb,rfl⟩
theorem DPut.k {H:Hp}{a:Addr}{kvs:List (Key×V)}{k:Key}{v:V}(e:H a=some (.dK kvs))(hl:kvs.length<sizeLine):DPut H a (kV k) v (upd H a (.dK (putK kvs k v))):=.inl ⟨kvs,k,e,rfl,hl,rfl⟩
theorem DPut.t {H:Hp}{a b:Addr}{kvs:List (List Key×V)}{k:List Key}{v:V}(e:H a=some (.dT kvs))(eb:H b=some (.tup (k.map kV)))(hl:kvs.length<sizeLine):
  DPut H a (.ref b) v (upd H a (.dT (putK kvs k v))):=.inr ⟨kvs,k,b,e,rfl,eb,hl,rfl⟩
section
variable {X:Cx} {pins:List (Addr×Obj)} {σ:St} {H:Hp} {s:Shared} {a:Addr} {y v:V} {u r:Value} {o:Option V} {A:Around} {E:Value->Shared->Prop}
theorem Inv.big (I:Inv X pins σ H s):sysModules<s.heap.objs.size:=by
 have h:mainGlobals<s.heap.objs.size:=(I.mod.glob.keeps I.bk).lt
 exact Nat.lt_trans (by decide) h
theorem d_getItem {Q:Value->Shared->Prop}(hu:A.units+1<cLine)(I:Inv X pins σ H s)(g:DGet H a y (some v))(ry:RelV y u)(h:∀ w' s',Inv X pins σ H s'->RelV v w'->Q w' s'):
  wpAny (model X.prog X.w) A (getItem (.ref a) u) Q E s:=by
 rcases g with ⟨kvs,k,e,ey,l⟩ | ⟨kvs,k,b,e,ey,eb,l⟩
 ·subst ey
  obtain ⟨z,hd,vs,rel,dd⟩:=dk_rd I.hok e
  obtain ⟨w',hw,rw'⟩:=RelO.some_of (v:=v) (o:=valueAt vs k) (by rw [l];exact rel.val k)
  exact wpAny_getItem_of (kV_is ry) dd.mapOf hw (h w' _ (I.tok _) rw')
 ·subst ey
  cases (show u=Value.ref b from ry)
  obtain ⟨z,hd,xs,rel,dd⟩:=dt_rd I.hok e
  obtain ⟨w',hw,rw'⟩:=RelO.some_of (v:=v) (o:=(atKey xs k).map (·.2)) (by rw [l];exact rel.val k)
  obtain ⟨p,hp,hp2⟩:=oM1.mp hw
  refine wpAny_getItem_heap (tupleKind_room_in1 hu) (key_of I.hok eb) dd hp ?_
  rw [hp2]
  exact h w' _ (I.tok _) rw'
theorem d_in {Q:Value->Shared->Prop}(hu:A.units+1<cLine)(I:Inv X pins σ H s)(g:DGet H a y o)(ry:RelV y u)(h:∀ s',Inv X pins σ H s'->Q (.bool o.isSome) s'):
  wpAny (model X.prog X.w) A (compareOp .In u (.ref a)) Q E s:=by
 rcases g with ⟨kvs,k,e,ey,l⟩ | ⟨kvs,k,b,e,ey,eb,l⟩
 ·subst ey
  obtain ⟨z,hd,vs,rel,dd⟩:=dk_rd I.hok e
  refine wpAny_in_of (kV_is ry) hd dd.mapOf ?_
  rw [<- (rel.val k).isSome_eq,<- l]
  exact h _ (I.tok _)
 ·subst ey
  cases (show u=Value.ref b from ry)
  obtain ⟨z,hd,xs,rel,dd⟩:=dt_rd I.hok e
  refine wpAny_in_heap (tupleKind_room_in1 hu) (key_of I.hok eb) hd dd ?_
  have q:=(rel.val k).isSome_eq
  rw [Option.isSome_map] at q
  rw [<- q,<- l]
  exact h _ (I.tok _)
theorem d_notIn {Q:Value->Shared->Prop}(hu:A.units+1<cLine)(I:Inv X pins σ H s)(g:DGet H a y o)(ry:RelV y u)(h:∀ s',Inv X pins σ H s'->Q (.bool (!o.isSome)) s'):
  wpAny (model X.prog X.w) A (compareOp .NotIn u (.ref a)) Q E s:=by
 rcases g with ⟨kvs,k,e,ey,l⟩ | ⟨kvs,k,b,e,ey,eb,l⟩
 ·subst ey
  obtain ⟨z,hd,vs,rel,dd⟩:=dk_rd I.hok e
  refine wpAny_notIn_of (kV_is ry) hd dd.mapOf ?_
  rw [<- (rel.val k).isSome_eq,<- l]
  exact h _ (I.tok _)
 ·subst ey
  cases (show u=Value.ref b from ry)
  obtain ⟨z,hd,xs,rel,dd⟩:=dt_rd I.hok e
  refine wpAny_notIn_heap (tupleKind_room_in1 hu) (key_of I.hok eb) hd dd ?_
  have q:=(rel.val k).isSome_eq
  rw [Option.isSome_map] at q
  rw [<- q,<- l]
  exact h _ (I.tok _)
theorem d_write {h':Heap}{t':Nat}{ob:HO}(I:Inv X pins σ H s)(mu:Mut (H a))(hs:Heap.SameBut a s.heap h')(he:∃ q,h'.get? a=some q)(new:ObjOk X.prog X.w (upd H a ob) h' a ob):
  Inv X pins σ (upd H a ob) {s with heap:=h',toks:=t'}:=
 I.write (x:=a) (e:=a) mu (.inl rfl) (fun b q hb z=>(hs.2 b hb).trans z) he new
theorem dk_new {P:Program}{w:World}{H':Hp}{h':Heap}{kvs:List (Key×V)}{vs:List (Key×Value)}(z:kvs.length<=sizeLine)(hd:(a == sysModules)=false)(rel:KV kvs vs)(dd:h'.DictOf (mixKind P w) a vs):
  ObjOk P w H' h' a (.dK kvs):=⟨z,hd,vs,rel,dd⟩
theorem d_setItem {H':Hp}{Q:Unit->Shared->Prop}(hu:A.units+1<cLine)(I:Inv X pins σ H s)(g:DPut H a y v H')(ry:RelV y u)(rv:RelV v r)(h:∀ s',Inv X pins σ H' s'->Q () s'):
  wpAny (model X.prog X.w) A (setItem (.ref a) u r) Q E s:=by
 rcases g with ⟨kvs,k,e,ey,l,eH⟩ | ⟨kvs,k,b,e,ey,eb,l,eH⟩
 ·subst ey eH
  obtain ⟨z,hd,vs,rel,dd⟩:=dk_of I.hok e
  have hz:vs.length<=sizeLine:=by rw [<- rel.length];exact z
  have hl:(putK kvs k v).length<=sizeLine:=by have:=length_putK kvs k v;lia
  refine wpAny_setItem_pairs (hsz:=hz) (kV_is ry) dd fun h' dd' hs=>h _ ?_
  have he:∃ q,h'.get? a=some q:=let ⟨q,_,_,hq,_⟩:=dd';⟨q,hq⟩
  exact d_write I (by rw [e];exact True.intro) hs he (dk_new hl hd (rel.put k rv) dd')
 ·subst ey eH
  cases (show u=Value.ref b from ry)
  obtain ⟨z,hd,xs,rel,dd⟩:=dt_of I.hok e
  have hz:xs.length<=sizeLine:=by rw [<- Paired.length rel];exact z
  have hl:(putK kvs k v).length<=sizeLine:=by have:=length_putK kvs k v;lia
  refine wpAny_setItem_heap (hsz:=hz) (tupleKind_room_in1 hu) (key_of I.hok eb) dd fun h' dd' hs=>h _ ?_
  obtain ⟨q,es,ep,hq,h2,h3,h4,_,h5⟩:=dd'
  refine d_write I (by rw [e];exact True.intro) hs ⟨q,hq⟩ ⟨hl,hd,_,(rel.put k eb rv).keeps fun c ys ec=>?_,q,es,ep,hq,h2,h3,h4,h5⟩
  rw [upd_ne (ne_of ec e (fun z=>nomatch z))]
  exact ec
end
section
variable {X:Cx} {pins:List (Addr×Obj)} {σ:St} {H:Hp} {s:Shared} {a:Addr} {kvs:List (Key×V)} {k:Key} {u:Value} {A:Around} {E:Value->Shared->Prop}
end
theorem dict_typeIs {X:Cx}{pins:List (Addr×Obj)}{σ:St}{H:Hp}{s:Shared}{a:Addr}{y:V}{o:Option V}(I:Inv X pins σ H s)(g:DGet H a y o):s.TypeIs (.ref a) "dict":=by
 rcases g with ⟨kvs,k,e,_,_⟩ | ⟨kvs,k,b,e,_,_,_⟩
 ·obtain ⟨_,_,vs,_,dd⟩:=dk_rd I.hok e
  exact dd.typeIs
 ·obtain ⟨_,_,xs,_,dd⟩:=dt_rd I.hok e
  exact dd.typeIs
section
variable {X:Cx} {o i e value:Expr} {pos pos' tpos:Pos} {td ty tv:TE}
end
theorem dk_empty {P:Program}{w:World}{H:Hp}(h:Heap)(hb:sysModules<h.objs.size):ObjOk P w H (h.push {cls:=.type "dict",data:=.dict #[]}) h.objs.size (.dK []):=
 ⟨Nat.zero_le _,beq_eq_false_iff_ne.mpr (Ne.symm (nN1 hb)),[],.nil,Heap.DictOf.new h⟩
noncomputable def tDNewK:TE:=fun _ H Q=>∀ p,H p=none->Q (.ref p) (upd H p (.dK []))
section
variable {X:Cx} {pos:Pos}
theorem pe_dnewK:PE X (.Dict [] [] pos) tDNewK:=fun pins s σ H Q I h=>
 wpAny_Dict_empty ⟨.ref s.heap.objs.size,_,I.laid (a:=s.heap.objs.size) (o:=.dK []) (t':=s.toks) (fun _ _ q=>hP1 _ q) (nR1 _) (dk_empty s.heap I.big),rfl,h _ (I.hok.fresh (nR1 _))⟩
end
noncomputable def tPairs:List (TE×TE)->St->Hp->(List (V×V)->Hp->Prop)->Prop
 | [],_,H,Q=>Q [] H
 | (tk,tv)::r,σ,H,Q=>tk σ H fun x H1=>tv σ H1 fun y H2=>tPairs r σ H2 fun ps H3=>Q ((x,y)::ps) H3
noncomputable abbrev VV:List (V×V)->List (Value×Value)->Prop:=Paired fun p q=>RelV p.1 q.1/\RelV p.2 q.2
noncomputable def PPs (X:Cx)(pos:Pos)(keys:List (Option Expr))(values:List Expr)(trs:List (TE×TE)):Prop:=
 ∀ (pins:List (Addr×Obj)) (s:Shared) (σ:St) (H:Hp) (Q:List (V×V)->Hp->Prop),Inv X pins σ H s->tPairs trs σ H Q ->
  wpAny (model X.prog X.w) X.A (evalPairs (pairTrees keys values X.env pos)) (fun vs s'=>∃ ps H',Inv X pins σ H' s'/\VV ps vs/\Q ps H') X.xe s
theorem pps_nil {X:Cx}{pos:Pos}:PPs X pos [] [] []:=fun pins s σ H Q I h=>pairTrees_nil_walk ⟨[],H,I,.nil,h⟩
theorem pps_cons {X:Cx}{pos:Pos}{k v:Expr}{ks:List (Option Expr)}{vs:List Expr}{tk tv:TE}{trs:List (TE×TE)}(hk:PE X k tk)(hv:PE X v tv)(hr:PPs X pos ks vs trs):
  PPs X pos (some k::ks) (v::vs) ((tk,tv)::trs):=fun pins s σ H Q I h=>
 pairTrees_cons_walk (thn (hk pins s σ H _ I h) fun u s1 ⟨x,H1,I1,rx,q1⟩=>thn (hv pins s1 σ H1 _ I1 q1) fun w2 s2 ⟨y,H2,I2,ry,q2⟩=>
  thn (hr pins s2 σ H2 _ I2 q2) fun ws s3 ⟨ps,H3,I3,rel,q3⟩=>⟨(x,y)::ps,H3,I3,.cons ⟨rx,ry⟩ rel,q3⟩)
noncomputable def mergeK (kvs more:List (Key×V)):List (Key×V):=more.foldl (fun acc kv=>putK acc kv.1 kv.2) kvs
theorem KV.merge:∀ {more:List (Key×V)} {rs:List (Key×Value)} {kvs:List (Key×V)} {vs:List (Key×Value)},KV more rs->KV kvs vs->KV (mergeK kvs more) (merged vs rs):=by
 intro more rs kvs vs r
 unfold KV at r
 induction r generalizing kvs vs with
 | nil=>intro q;exact q
 | @cons p q ps qs h t ih=>
  intro r0
  have e:KV (putK kvs p.1 p.2) (stored vs q.1 q.2):=by
   have:=r0.put p.1 h.2
   rw [<- h.1];exact this
  exact ih e
theorem length_mergeK:∀ (more kvs:List (Key×V)),(mergeK kvs more).length<=kvs.length+more.length
 | [],kvs=>by show kvs.length<=kvs.length+0;lia
 | p::r,kvs=>by
  have h1:=length_mergeK r (putK kvs p.1 p.2)
  have h2:=length_putK kvs p.1 p.2
  show (mergeK (putK kvs p.1 p.2) r).length<=_
  rw [lC1];lia
theorem carries_of {P:Program}{w:World}:∀ {kvs:List (Key×V)} {ws:List (Value×Value)},VV (kvs.map fun kv=>(kV kv.1,kv.2)) ws -> ∃ rs,Carries (mixKind P w) ws rs/\KV kvs rs
 | [],_,r=>by rw [List.map_nil] at r;cases r;exact ⟨[],True.intro,.nil⟩
 | p::kvs,_,r=>by
  rw [mP1] at r
  cases r with
  | @cons a b as bs h t=>
   obtain ⟨rs,c,q⟩:=carries_of (P:=P) (w:=w) t
   obtain ⟨b1,b2⟩:=b
   exact ⟨(p.1,b2)::rs,⟨kV_is h.1,rfl,c⟩,.cons ⟨rfl,h.2⟩ q⟩
noncomputable def tDisp (trs:List (TE×TE)):TE:=fun σ H Q=>∀ p,H p=none->tPairs trs σ (upd H p (.dK [])) fun ps H2=>H2 p=some (.dK []) /\ ∃ kvs:List (Key×V),ps=kvs.map (fun kv=>(kV kv.1,kv.2))/\kvs.length<=15/\Q (.ref p) (upd H2 p (.dK (mergeK [] kvs)))
theorem pe_disp {X:Cx}{pos:Pos}{keys:List (Option Expr)}{values:List Expr}{trs:List (TE×TE)}(h:PPs X pos keys values trs)(hall:keys.all (·.isSome)=true)(hl:keys.length=values.length)(h0:keys≠[])
  (h15:keys.length<=15):PE X (.Dict keys values pos) (tDisp trs):=by
 intro pins s σ H Q I q
 have hn:=I.hok.fresh (nR1 s.heap.objs.size)
 have I1:=I.laid (a:=s.heap.objs.size) (o:=.dK []) (h':=s.heap.push {cls:=.type "dict",data:=.dict #[]}) (t':=s.toks) (fun _ _ q=>hP1 _ q) (nR1 _) (dk_empty s.heap I.big)
 refine wpAny_Dict_walk (knd:=mixKind X.prog X.w) hall hl h0 h15 (thn (h pins _ σ _ _ I1 (q _ hn)) fun ws s2 ⟨ps,H2,I2,rel,e,kvs,ep,lk,q2⟩=>?_)
 subst ep
 obtain ⟨rs,c,rk⟩:=carries_of (P:=X.prog) (w:=X.w) rel
 obtain ⟨z,hd,vs0,r0,dd⟩:=dk_of I2.hok e
 cases r0
 refine ⟨rs,c,dd,fun h' dd' hs=>⟨.ref s.heap.objs.size,_,?_,rfl,q2⟩⟩
 have hz:(mergeK [] kvs).length<=sizeLine:=by
  have h1:=length_mergeK kvs []
  rw [List.length_nil] at h1
  rw [sizeLine_eq];lia
 have he:∃ q,h'.get? s.heap.objs.size=some q:=let ⟨q,_,_,hq,_⟩:=dd';⟨q,hq⟩
 exact d_write I2 (by rw [e];exact True.intro) hs he (dk_new hz hd (rk.merge .nil) dd')
structure M2 (X:Cx)(o:Expr)(m:Str)(apos:Pos)(e f:Expr)(cpos:Pos):Prop where
 base:attributeBase o m X.env (eval o X.env)=eval o X.env
 few:((backTo cpos (starEach [e,f] X.env)).all (fun x=> !x.1)&&(backToKw cpos (keywordEach [] X.env)).all (fun x=>x.1.isSome)
  && decide (([e,f]:List Expr).length+([]:List Keyword).length+(if ([]:List Keyword).isEmpty then 0 else 1)<30))=true
 line:(apos.endLine == cpos.line)=true
 trees:backTo cpos (starEach [e,f] X.env)=[(false,eval e X.env),(false,eval f X.env)]
section
variable {X:Cx} {pins:List (Addr×Obj)} {σ:St} {H:Hp} {s:Shared} {a:Addr} {y d:V} {u r:Value} {o:Option V} {A:Around} {E:Value->Shared->Prop}
end
section
variable {X:Cx} {o e f:Expr} {apos cpos:Pos} {td ty tx:TE}
end
section
variable {X:Cx} {pins:List (Addr×Obj)} {σ:St} {H:Hp} {s:Shared} {a:Addr} {kvs:List (Key×V)} {A:Around} {E:Value->Shared->Prop}
end
section
variable {X:Cx} {pins:List (Addr×Obj)} {σ:St} {H:Hp} {s:Shared} {a:Addr} {y:V} {u:Value} {A:Around} {E:Value->Shared->Prop}
end
end L2
end
section
namespace Mi
open PySem PySem.Spec PyProof.Rows L2
inductive TK where
 | non | int (i:Int) | tup (xs:List TK)
noncomputable instance:DecidableEq TK:=fun _ _=>Classical.propDecidable _
mutual
noncomputable def TK.hash:TK->Int
 | .non=>0xFCA86420
 | .int i=>hashInt i
 | .tup xs=>reduceHash (Builtin.Tuple.tupleHashOf (TK.hashes xs))
noncomputable def TK.hashes:List TK->List Int
 | []=>[]
 | x::xs=>TK.hash x::TK.hashes xs
end
mutual
noncomputable def TK.draws:TK->Nat
 | .non=>1
 | .int _=>1
 | .tup xs=>TK.drawsAll xs+1
noncomputable def TK.drawsAll:List TK->Nat
 | []=>0
 | x::xs=>TK.draws x+TK.drawsAll xs
end
mutual
noncomputable def TK.dep:TK->Nat
 | .non=>0
 | .int _=>0
 | .tup xs=>TK.depAll xs+1
noncomputable def TK.depAll:List TK->Nat
 | []=>0
 | x::xs=>max (TK.dep x) (TK.depAll xs)
end
theorem TK.dep_mem:∀ {xs:List TK} {x:TK},x∈xs->x.dep<=TK.depAll xs
 | y::ys,x,h=>by
  rw [TK.depAll]
  rcases List.mem_cons.mp h with e | e
  ·rw [e];exact Nat.le_max_left _ _
  ·exact Nat.le_trans (TK.dep_mem e) (Nat.le_max_right _ _)
theorem TK.hashes_app:∀ a b:List TK,TK.hashes (a++b)=TK.hashes a++TK.hashes b
 | [],_=>rfl
 | x::xs,b=>by rw [List.cons_append,TK.hashes,TK.hashes,TK.hashes_app xs b];rfl
theorem TK.draws_app:∀ a b:List TK,TK.drawsAll (a++b)=TK.drawsAll a+TK.drawsAll b
 | [],_=>by simp [TK.drawsAll]
 | x::xs,b=>by rw [List.cons_append,TK.drawsAll,TK.drawsAll,TK.draws_app xs b,Nat.add_assoc]
inductive D where
 | non | bl (b:Bool) | int (i:Int) | str (x:Str) | tup (xs:List D) | rol (xs:List D) | ref (n:Nat)
inductive Ob where
 | lst (xs:List D) | dct (kvs:List (Key×D)) | dcT (kvs:List (TK×D)) | iset (xs:List Int) | dcF (kvs:List (TK×D))
noncomputable abbrev Sto:=List Ob
noncomputable abbrev Ev:=List (Option D)
noncomputable abbrev FE:=Ev->Sto->Option (D×Sto)
noncomputable abbrev FT:=Ev->Sto->Option (Bool×Sto)
noncomputable abbrev FA:=Ev->Sto->Option (List D×Sto)
noncomputable abbrev FN:=List D->Sto->Option (D×Sto)
inductive Fl where
 | nx | rt (d:D) | bk | ct
noncomputable abbrev FS:=Ev->Sto->Option (Fl×Ev×Sto)
noncomputable def RoL (K:Fg1)(H:Hp)(a:Addr)(xs:List V):Prop:=(∃ o,H a=some (.frz o (.lst xs))) \/
 ∃ (o:Obj) (its:Array Value) (n:Nat),K.lookup a=some o/\o.cls = .type "list"/\o.dict=none/\o.data = .seq its n/\its.size<=sizeLine/\Vals xs its.toList
theorem RoL.sq {K:Fg1}{H:Hp}{a:Addr}{xs:List V}(h:RoL K H a xs):SqL K H a xs:=h.elim (fun ⟨o,q⟩=>.inl (.inr ⟨o,q⟩)) .inr
mutual
inductive Rep (K:Fg1)(H:Hp)(mu:List Addr):D->V->Prop
 | non:Rep K H mu .non .non
 | bl (b:Bool):Rep K H mu (.bl b) (.bl b)
 | int (i:Int):Rep K H mu (.int i) (.int i)
 | str (x:Str):Rep K H mu (.str x) (.str x)
 | tup {ds:List D} {vs:List V} {a:Addr} (h:SqT K H a vs) (r:Reps K H mu ds vs):Rep K H mu (.tup ds) (.ref a)
 | rol {ds:List D} {vs:List V} {a:Addr} (h:RoL K H a vs) (r:Reps K H mu ds vs):Rep K H mu (.rol ds) (.ref a)
 | ref {n:Nat} {a:Addr} (h:mu[n]? = some a):Rep K H mu (.ref n) (.ref a)
inductive Reps (K:Fg1)(H:Hp)(mu:List Addr):List D->List V->Prop
 | nil:Reps K H mu [] []
 | cons {d:D} {v:V} {ds:List D} {vs:List V} (r:Rep K H mu d v) (t:Reps K H mu ds vs):Reps K H mu (d::ds) (v::vs)
end
structure Ext (mu mu':List Addr)(H H':Hp):Prop where
 pre:mu <+: mu'
 old:∀ a o,H a=some o->a∉mu->H' a=some o
 tup:∀ a xs,Rd H a (.tup xs)->Rd H' a (.tup xs)
 frz:∀ a o u,H a=some (.frz o u)->H' a=some (.frz o u)
 new:∀ a∈mu',a∈mu\/H a=none
theorem Ext.refl (mu:List Addr)(H:Hp):Ext mu mu H H:=⟨List.prefix_rfl,fun _ _ h _=>h,fun _ _ h=>h,fun _ _ _ h=>h,fun _ h=>.inl h⟩
theorem Ext.trans {mu m1 m2:List Addr}{H H1 H2:Hp}(a:Ext mu m1 H H1)(b:Ext m1 m2 H1 H2):Ext mu m2 H H2 where
 pre:=a.pre.trans b.pre
 old:=fun c o h n=>b.old c o (a.old c o h n) fun z=>by
  rcases a.new c z with q | q
  ·exact n q
  ·rw [h] at q;cases q
 tup:=fun c xs h=>b.tup c xs (a.tup c xs h)
 frz:=fun c o u h=>b.frz c o u (a.frz c o u h)
 new:=fun c h=>by
  rcases b.new c h with q | q
  ·exact a.new c q
  ·by_cases z:c∈mu
   ·exact .inl z
   ·right
    cases e:H c with
    | none=>rfl
    | some o=>rw [a.old c o e z] at q;cases q
theorem Ext.at {mu mu':List Addr}{H H':Hp}(e:Ext mu mu' H H'){n:Nat}{a:Addr}(h:mu[n]? = some a):mu'[n]? = some a:=by
 obtain ⟨t,rfl⟩:=e.pre
 have hl:n<mu.length:=(gE1.mp h).1
 rw [gL1 hl];exact h
theorem Ext.back {mu mu':List Addr}{H H':Hp}(e:Ext mu mu' H H'):Ext mu mu H H':=⟨List.prefix_rfl,e.old,e.tup,e.frz,fun _ h=>.inl h⟩
structure Exw (mu mu':List Addr)(H H':Hp):Prop where
 pre:mu <+: mu'
 tup:∀ a xs,Rd H a (.tup xs)->Rd H' a (.tup xs)
 frz:∀ a o u,H a=some (.frz o u)->H' a=some (.frz o u)
theorem Ext.w {mu mu':List Addr}{H H':Hp}(e:Ext mu mu' H H'):Exw mu mu' H H':=⟨e.pre,e.tup,e.frz⟩
theorem Exw.trans {mu m1 m2:List Addr}{H H1 H2:Hp}(a:Exw mu m1 H H1)(b:Exw m1 m2 H1 H2):Exw mu m2 H H2:=⟨a.pre.trans b.pre,fun c xs h=>b.tup c xs (a.tup c xs h),fun c o u h=>b.frz c o u (a.frz c o u h)⟩
theorem Exw.at {mu mu':List Addr}{H H':Hp}(e:Exw mu mu' H H'){n:Nat}{a:Addr}(h:mu[n]? = some a):mu'[n]? = some a:=by
 obtain ⟨t,rfl⟩:=e.pre
 have hl:n<mu.length:=(gE1.mp h).1
 rw [gL1 hl];exact h
structure Exv (mu mu':List Addr)(H H':Hp):Prop where
 pre:mu <+: mu'
 tup:∀ a xs,Rd H a (.tup xs)->Rd H' a (.tup xs)
 frl:∀ a o xs,H a=some (.frz o (.lst xs))->H' a=some (.frz o (.lst xs))
theorem Exw.v {mu mu':List Addr}{H H':Hp}(e:Exw mu mu' H H'):Exv mu mu' H H':=⟨e.pre,e.tup,fun a o xs h=>e.frz a o _ h⟩
theorem Ext.v {mu mu':List Addr}{H H':Hp}(e:Ext mu mu' H H'):Exv mu mu' H H':=e.w.v
theorem Exv.at {mu mu':List Addr}{H H':Hp}(e:Exv mu mu' H H'){n:Nat}{a:Addr}(h:mu[n]? = some a):mu'[n]? = some a:=by
 obtain ⟨t,rfl⟩:=e.pre
 have hl:n<mu.length:=(gE1.mp h).1
 rw [gL1 hl];exact h
theorem SqT.exv {K:Fg1}{mu mu':List Addr}{H H':Hp}{a:Addr}{vs:List V}(e:Exv mu mu' H H')(h:SqT K H a vs):SqT K H' a vs:=by
 rcases h with h | h
 ·exact .inl (e.tup a vs h)
 ·exact .inr h
theorem RoL.exv {K:Fg1}{mu mu':List Addr}{H H':Hp}{a:Addr}{vs:List V}(e:Exv mu mu' H H')(h:RoL K H a vs):RoL K H' a vs:=by
 rcases h with ⟨o,h⟩ | h
 ·exact .inl ⟨o,e.frl a o _ h⟩
 ·exact .inr h
theorem Rep.exv {K:Fg1}{mu mu':List Addr}{H H':Hp}(e:Exv mu mu' H H'):∀ {d:D} {v:V},Rep K H mu d v->Rep K H' mu' d v:=fun h=>h.rec (motive_1:=fun d v _=>Rep K H' mu' d v) (motive_2:=fun ds vs _=>Reps K H' mu' ds vs)
  .non .bl .int .str (fun h _ ih=>.tup (SqT.exv e h) ih) (fun h _ ih=>.rol (RoL.exv e h) ih) (fun h=>.ref (e.at h)) .nil (fun _ _ a b=>.cons a b)
theorem Reps.ind {K:Fg1}{mu:List Addr}{H:Hp}{P:(ds:List D)->(vs:List V)->Reps K H mu ds vs->Prop}(hn:P [] [] .nil)(hc:∀ {d v ds vs} (r:Rep K H mu d v) (t:Reps K H mu ds vs),P ds vs t->P (d::ds) (v::vs) (.cons r t)){ds:List D}{vs:List V}(h:Reps K H mu ds vs):P ds vs h:=
 h.rec (motive_1:=fun _ _ _=>True) (motive_2:=P) trivial (fun _=>trivial) (fun _=>trivial) (fun _=>trivial) (fun _ _ _=>trivial) (fun _ _ _=>trivial) (fun _=>trivial) hn (fun r t _ ih=>hc r t ih)
theorem Reps.exv {K:Fg1}{mu mu':List Addr}{H H':Hp}(e:Exv mu mu' H H'):∀ {ds:List D} {vs:List V},Reps K H mu ds vs->Reps K H' mu' ds vs:=fun h=>h.ind (P:=fun ds vs _=>Reps K H' mu' ds vs) .nil fun r _ ih=>.cons (Rep.exv e r) ih
section
variable {K:Fg1} {mu mu':List Addr} {H H':Hp} {a:Addr} {vs:List V}
theorem Rep.exw (e:Exw mu mu' H H'){d:D}{v:V}(h:Rep K H mu d v):Rep K H' mu' d v:=h.exv e.v
theorem Reps.exw (e:Exw mu mu' H H'){ds:List D}(h:Reps K H mu ds vs):Reps K H' mu' ds vs:=h.exv e.v
theorem Rep.ext (e:Ext mu mu' H H'){d:D}{v:V}(h:Rep K H mu d v):Rep K H' mu' d v:=h.exv e.v
theorem Reps.ext (e:Ext mu mu' H H'){ds:List D}(h:Reps K H mu ds vs):Reps K H' mu' ds vs:=h.exv e.v
end
section
variable {K:Fg1} {H:Hp} {mu:List Addr}
theorem Reps.length:∀ {ds:List D} {vs:List V},Reps K H mu ds vs->ds.length=vs.length:=fun h=>h.ind (P:=fun ds vs _=>ds.length=vs.length) rfl fun _ _ ih=>congrArg (· + 1) ih
theorem Reps.get:∀ {ds:List D} {vs:List V} {i:Nat} {d:D},Reps K H mu ds vs->ds[i]? = some d -> ∃ v,vs[i]? = some v/\Rep K H mu d v:=by
 intro ds vs i d h e
 induction h using Reps.ind generalizing i with
 | hn=>cases e
 | hc r t ih=>cases i with
  | zero=>cases e;exact ⟨_,rfl,r⟩
  | succ i=>exact ih (i:=i) e
theorem Reps.getV:∀ {ds:List D} {vs:List V} {i:Nat} {v:V},Reps K H mu ds vs->vs[i]? = some v -> ∃ d,ds[i]? = some d/\Rep K H mu d v:=by
 intro ds vs i d h e
 induction h using Reps.ind generalizing i with
 | hn=>cases e
 | hc r t ih=>cases i with
  | zero=>cases e;exact ⟨_,rfl,r⟩
  | succ i=>exact ih (i:=i) e
theorem Reps.append:∀ {ds es:List D} {vs ws:List V},Reps K H mu ds vs->Reps K H mu es ws->Reps K H mu (ds++es) (vs++ws):=fun h s=>h.ind (P:=fun ds vs _=>Reps K H mu (ds++_) (vs++_)) s fun r _ ih=>.cons r ih
theorem Reps.take:∀ {ds:List D} {vs:List V} (n:Nat),Reps K H mu ds vs->Reps K H mu (ds.take n) (vs.take n):=by
 intro ds vs n h
 induction h using Reps.ind generalizing n with
 | hn=>rw [List.take_nil,List.take_nil];exact .nil
 | hc r t ih=>cases n with
  | zero=>exact .nil
  | succ n=>exact .cons r (ih n)
theorem Reps.drop:∀ {ds:List D} {vs:List V} (n:Nat),Reps K H mu ds vs->Reps K H mu (ds.drop n) (vs.drop n):=by
 intro ds vs n h
 induction h using Reps.ind generalizing n with
 | hn=>rw [List.drop_nil,List.drop_nil];exact .nil
 | hc r t ih=>cases n with
  | zero=>exact .cons r t
  | succ n=>exact ih n
theorem Reps.set {d:D}{v:V}(r:Rep K H mu d v):∀ {ds:List D} {vs:List V} (i:Nat),Reps K H mu ds vs->Reps K H mu (ds.set i d) (vs.set i v):=by
 intro ds vs i h
 induction h using Reps.ind generalizing i with
 | hn=>exact .nil
 | hc q t ih=>cases i with
  | zero=>exact .cons r t
  | succ i=>exact .cons q (ih i)
end
noncomputable def KR {κ:Type}(K:Fg1)(H:Hp)(mu:List Addr):List (κ×D)->List (κ×V)->Prop:=Paired fun p q=>p.1=q.1/\Rep K H mu p.2 q.2
mutual
noncomputable def tkD:TK->D
 | .non=>.non
 | .int i=>.int i
 | .tup xs=>.tup (tkDs xs)
noncomputable def tkDs:List TK->List D
 | []=>[]
 | x::xs=>tkD x::tkDs xs
end
noncomputable def DictAt (a:Addr)(xs:List (TK×Addr×Value))(h:Heap):Prop:=(a == sysModules)=false/\(xs.map (·.1)).Nodup /\ ∃ o es ep,h.get? a=some o/\o.ExactDict/\o.data = .dict es ep/\es.toList=xs.map fun x=>(⟨x.1.hash,.ref x.2.1,x.2.2⟩:DictEntry)
noncomputable def DictO (a:Addr)(xs:List (TK×Addr×Value))(o:Obj):Prop:=(a == sysModules)=false/\(xs.map (·.1)).Nodup/\o.ExactDict /\ ∃ es ep,o.data = .dict es ep/\es.toList=xs.map fun x=>(⟨x.1.hash,.ref x.2.1,x.2.2⟩:DictEntry)
noncomputable def KT (K:Fg1)(H:Hp)(mu:List Addr):List (TK×D)->List (TK×Addr×Value)->Prop:=Paired fun p q=>p.1=q.1/\p.1.dep<=8/\Rep K H mu (tkD p.1) (.ref q.2.1) /\ ∃ v,RelV v q.2.2/\Rep K H mu p.2 v
noncomputable def ObR (K:Fg1)(H:Hp)(mu:List Addr)(a:Addr):Ob->Prop
 | .lst ds=>∃ vs,H a=some (.lst vs)/\Reps K H mu ds vs
 | .dct kvs=>∃ ws,H a=some (.dK ws)/\KR K H mu kvs ws
 | .dcT kvs=>∃ xs,H a=some (.ext (DictAt a xs))/\KT K H mu kvs xs/\xs.length<=sizeLine
 | .iset xs=>H a=some (.set (fun k=>xs.contains k) xs.length)/\xs.Nodup
 | .dcF kvs=>∃ xs,(∃ o u,H a=some (.frz o u)/\DictO a xs o)/\KT K H mu kvs xs/\xs.length<=sizeLine
structure Sim (K:Fg1)(H:Hp)(mu:List Addr)(S:Sto):Prop where
 len:mu.length=S.length
 nd:mu.Nodup
 ob:∀ (n:Nat) (o:Ob) (a:Addr),S[n]? = some o->mu[n]? = some a->ObR K H mu a o
structure EnvR (K:Fg1)(H:Hp)(mu:List Addr)(r:Ev)(σ:L2.St):Prop where
 len:r.length=σ.length
 val:∀ (i:Nat) (d:D),r[i]? = some (some d) -> ∃ v,σ[i]? = some (some v)/\Rep K H mu d v
theorem EnvR.ext {K:Fg1}{mu mu':List Addr}{H H':Hp}{r:Ev}{σ:L2.St}(e:Ext mu mu' H H')(h:EnvR K H mu r σ):EnvR K H' mu' r σ:=⟨h.len,fun i d q=>by
 obtain ⟨v,e1,r1⟩:=h.val i d q
 exact ⟨v,e1,r1.ext e⟩⟩
theorem KR.ext {κ:Type}{K:Fg1}{mu mu':List Addr}{H H':Hp}{ks:List (κ×D)}{ws:List (κ×V)}(e:Ext mu mu' H H')(h:KR K H mu ks ws):KR K H' mu' ks ws:=
 Paired.mapP h fun _ _ z=>⟨z.1,z.2.ext e⟩
theorem KT.ext {K:Fg1}{mu mu':List Addr}{H H':Hp}{ks:List (TK×D)}{ws:List (TK×Addr×Value)}(e:Ext mu mu' H H')(h:KT K H mu ks ws):KT K H' mu' ks ws:=
 Paired.mapP h fun _ _ ⟨z,d,k,v,rv,r⟩=>⟨z,d,k.ext e,v,rv,r.ext e⟩
theorem Sim.nil {K:Fg1}{H:Hp}:Sim K H [] []:=⟨rfl,List.nodup_nil,fun n o a h=>by simp at h⟩
theorem Sim.here {K:Fg1}{H:Hp}{mu:List Addr}{S:Sto}(s:Sim K H mu S){a:Addr}(h:a∈mu):∃ o,H a=some o:=by
 obtain ⟨n,hn⟩:=List.getElem?_of_mem h
 have hl:n<S.length:=by rw [<- s.len];exact (gE1.mp hn).1
 have q:=s.ob n _ a (gG1 hl) hn
 cases e:S[n] with
 | lst ds=>rw [e] at q;obtain ⟨vs,z,_⟩:=q;exact ⟨_,z⟩
 | dct ks=>rw [e] at q;obtain ⟨vs,z,_⟩:=q;exact ⟨_,z⟩
 | dcT ks=>rw [e] at q;obtain ⟨vs,z,_⟩:=q;exact ⟨_,z⟩
 | iset xs=>rw [e] at q;exact ⟨_,q.1⟩
 | dcF ks=>rw [e] at q;obtain ⟨vs,⟨_,_,z,_⟩,_⟩:=q;exact ⟨_,z⟩
noncomputable def Cont (K:Fg1)(mu:List Addr)(H:Hp)(d:D)(S':Sto)(Q:VK):Prop:=∀ v H' mu',Ext mu mu' H H'->Rep K H' mu' d v->Sim K H' mu' S'->Q v H'
inductive tM (K:Fg1)(m:FE)(σ:L2.St)(H:Hp)(Q:VK):Prop
 | mk (r:Ev) (mu:List Addr) (S:Sto) (d:D) (S':Sto) (he:EnvR K H mu r σ) (hs:Sim K H mu S) (hm:m r S=some (d,S')) (hc:Cont K mu H d S' Q)
inductive tMT (K:Fg1)(m:FT)(σ:L2.St)(H:Hp)(Q:Bool->Hp->Prop):Prop
 | mk (r:Ev) (mu:List Addr) (S:Sto) (b:Bool) (S':Sto) (he:EnvR K H mu r σ) (hs:Sim K H mu S) (hm:m r S=some (b,S')) (hc:∀ H' mu',Ext mu mu' H H'->Sim K H' mu' S'->Q b H')
inductive tMA (K:Fg1)(m:FA)(σ:L2.St)(H:Hp)(Q:List V->Hp->Prop):Prop
 | mk (r:Ev) (mu:List Addr) (S:Sto) (ds:List D) (S':Sto) (he:EnvR K H mu r σ) (hs:Sim K H mu S) (hm:m r S=some (ds,S')) (hc:∀ vs H' mu',Ext mu mu' H H'->Reps K H' mu' ds vs->Sim K H' mu' S'->Q vs H')
noncomputable def tMSC (K:Fg1)(mu:List Addr)(H:Hp)(r':Ev)(S':Sto)(E:Ends)(f:Fl):Prop:=match f with
 | .nx=>∀ σ' H' mu',Ext mu mu' H H'->EnvR K H' mu' r' σ'->Sim K H' mu' S'->E.nx σ' H'
 | .bk=>∀ σ' H' mu',Ext mu mu' H H'->EnvR K H' mu' r' σ'->Sim K H' mu' S'->E.bk σ' H'
 | .ct=>∀ σ' H' mu',Ext mu mu' H H'->EnvR K H' mu' r' σ'->Sim K H' mu' S'->E.ct σ' H'
 | .rt d=>Cont K mu H d S' E.rt
inductive tMS (K:Fg1)(m:FS)(E:Ends)(σ:L2.St)(H:Hp):Prop
 | mk (r:Ev) (mu:List Addr) (S:Sto) (f:Fl) (r':Ev) (S':Sto) (he:EnvR K H mu r σ) (hs:Sim K H mu S) (hm:m r S=some (f,r',S')) (hc:tMSC K mu H r' S' E f)
inductive rN (K:Fg1)(f:FN)(vs:List V)(H:Hp)(Q:VK):Prop
 | mk (mu:List Addr) (S:Sto) (ds:List D) (d:D) (S':Sto) (hr:Reps K H mu ds vs) (hs:Sim K H mu S) (hm:f ds S=some (d,S')) (hc:Cont K mu H d S' Q)
noncomputable abbrev ME (X:Cx)(e:Expr)(m:FE):Prop:=PE X e (tM X.K m)
noncomputable abbrev MT (X:Cx)(e:Expr)(m:FT):Prop:=PT X e (tMT X.K m)
noncomputable abbrev MW (X:Cx)(e:Expr)(m:FT):Prop:=PW X e (tMT X.K m)
noncomputable abbrev MA (X:Cx)(es:List Expr)(m:FA):Prop:=PA X es (tMA X.K m)
noncomputable abbrev MS (X:Cx)(st:Stmt)(m:FS):Prop:=PS X st (tMS X.K m)
noncomputable abbrev MSs (X:Cx)(st:List Stmt)(m:FS):Prop:=PSs X st (tMS X.K m)
section
variable {X:Cx} {e:Expr} {es:List Expr} {st:Stmt} {sts:List Stmt}
theorem pe_imp {t t':TE}(h:PE X e t)(i:∀ σ H Q,t' σ H Q->t σ H Q):PE X e t':=fun pins s σ H Q I q=>h pins s σ H Q I (i σ H Q q)
theorem pt_imp {t t':TT}(h:PT X e t)(i:∀ σ H Q,t' σ H Q->t σ H Q):PT X e t':=fun pins s σ H Q I q=>h pins s σ H Q I (i σ H Q q)
theorem pw_imp {t t':TT}(h:PW X e t)(i:∀ σ H Q,t' σ H Q->t σ H Q):PW X e t':=fun wh pins s σ H Q I q=>h wh pins s σ H Q I (i σ H Q q)
theorem pa_imp {t t':TA}(h:PA X es t)(i:∀ σ H Q,t' σ H Q->t σ H Q):PA X es t':=fun pos pins s σ H Q I q=>h pos pins s σ H Q I (i σ H Q q)
theorem ps_imp {t t':TS}(h:PS X st t)(i:∀ E σ H,t' E σ H->t E σ H):PS X st t':=fun pins s σ H E I q=>h pins s σ H E I (i E σ H q)
theorem pss_imp {t t':TS}(h:PSs X sts t)(i:∀ E σ H,t' E σ H->t E σ H):PSs X sts t':=fun pins s σ H E I q=>h pins s σ H E I (i E σ H q)
end
noncomputable def mV (i:Nat):FE:=fun r S=>match r[i]? with
 | some (some d)=>some (d,S)
 | _=>none
noncomputable def mC (d:D):FE:=fun _ S=>some (d,S)
section
variable {X:Cx} {pos:Pos}
theorem me_var (i:Nat){x:Str}(hN:X.N[i]? = some x)(hv:Vis X.env.scope x)(hd:(x == ("__debug__":Str))=false:=by decide)(hcd:(x == ("__classdict__":Str))=false:=by decide):ME X (.Name x pos) (mV i):=
 pe_imp (pe_var hN hv hd hcd) <| by
  rintro σ H Q ⟨r,mu,S,d,S',he,hs,hm,hc⟩
  unfold mV at hm
  split at hm
  ·rename_i d' e
   cases hm
   obtain ⟨v,e1,r1⟩:=he.val i _ e
   exact ⟨v,e1,hc v H mu (.refl _ _) r1 hs⟩
  ·cases hm
theorem me_c {e:Expr}{v:V}(d:D)(h:PE X e (tC v))(hr:∀ H mu,Rep X.K H mu d v):ME X e (mC d):=
 pe_imp h <| by
  rintro σ H Q ⟨r,mu,S,d',S',he,hs,hm,hc⟩
  cases hm
  exact hc v H mu (.refl _ _) (hr H mu) hs
theorem me_int {i:Int}{j}:ME X (.Constant (.int i) j pos) (mC (.int i)):=me_c _ pe_int fun _ _=>.int i
theorem me_bl {b:Bool}{j}:ME X (.Constant (.bool b) j pos) (mC (.bl b)):=me_c _ pe_bl fun _ _=>.bl b
theorem me_non {j}:ME X (.Constant .none j pos) (mC .non):=me_c _ pe_non fun _ _=>.non
theorem me_str {x:Str}{j}:ME X (.Constant (.str x) j pos) (mC (.str x)):=me_c _ pe_str fun _ _=>.str x
end
noncomputable def mNil:FA:=fun _ S=>some ([],S)
noncomputable def mCons (m:FE)(n:FA):FA:=fun r S=>(m r S).bind fun p=>(n r p.2).bind fun q=>some (p.1::q.1,q.2)
section
variable {X:Cx} {pos:Pos} {e:Expr} {es:List Expr} {m:FE} {n:FA}
theorem ma_nil:MA X [] mNil:=pa_imp pa_nil <| by
 rintro σ H Q ⟨r,mu,S,ds,S',he,hs,hm,hc⟩
 cases hm
 exact hc [] H mu (.refl _ _) .nil hs
theorem ma_cons (h:ME X e m)(ht:MA X es n)(hs:starEach (e::es) X.env=(false,eval e X.env)::starEach es X.env:=by rfl):MA X (e::es) (mCons m n):=
 pa_imp (pa_cons h ht hs) <| by
  rintro σ H Q ⟨r,mu,S,ds,S',he,hs,hm,hc⟩
  unfold mCons at hm
  obtain ⟨⟨d,S1⟩,e1,hm⟩:=oB1.mp hm
  obtain ⟨⟨ds1,S2⟩,e2,hm⟩:=oB1.mp hm
  cases hm
  refine ⟨r,mu,S,d,S1,he,hs,e1,fun v H1 mu1 x1 r1 s1=>?_⟩
  refine ⟨r,mu1,S1,ds1,_,he.ext x1,s1,e2,fun vs H2 mu2 x2 r2 s2=>?_⟩
  exact hc _ H2 mu2 (x1.trans x2) (.cons (r1.ext x2) r2) s2
end
noncomputable def m2 (f:FN)(a b:FE):FE:=fun r S=>(a r S).bind fun p=>(b r p.2).bind fun q=>f [p.1,q.1] q.2
noncomputable def m1 (f:FN)(a:FE):FE:=fun r S=>(a r S).bind fun p=>f [p.1] p.2
noncomputable def mN (f:FN)(a:FA):FE:=fun r S=>(a r S).bind fun p=>f p.1 p.2
noncomputable abbrev r2 (K:Fg1)(f:FN):R2:=fun x y H Q=>rN K f [x,y] H Q
section
variable {X:Cx} {K:Fg1} {f:FN} {a b:FE} {σ:L2.St} {H:Hp} {Q:VK}
theorem m2_ok (h:tM K (m2 f a b) σ H Q):tOp (r2 K f) (tM K a) (tM K b) σ H Q:=by
 obtain ⟨r,mu,S,d,S',he,hs,hm,hc⟩:=h
 obtain ⟨⟨d1,S1⟩,e1,hm⟩:=oB1.mp hm
 obtain ⟨⟨d2,S2⟩,e2,hm⟩:=oB1.mp hm
 refine ⟨r,mu,S,d1,S1,he,hs,e1,fun v H1 mu1 x1 r1 s1=>?_⟩
 refine ⟨r,mu1,S1,d2,S2,he.ext x1,s1,e2,fun u H2 mu2 x2 r2 s2=>?_⟩
 exact ⟨mu2,S2,[d1,d2],d,S',.cons (r1.ext x2) (.cons r2 .nil),s2,hm,fun v H3 mu3 x3 r3 s3=>hc v H3 mu3 ((x1.trans x2).trans x3) r3 s3⟩
theorem mN_ok {a:FA}(h:tM K (mN f a) σ H Q):tMA K a σ H fun vs H1=>rN K f vs H1 Q:=by
 obtain ⟨r,mu,S,d,S',he,hs,hm,hc⟩:=h
 obtain ⟨⟨d1,S1⟩,e1,hm⟩:=oB1.mp hm
 refine ⟨r,mu,S,d1,S1,he,hs,e1,fun v H1 mu1 x1 r1 s1=>?_⟩
 exact ⟨mu1,S1,d1,d,S',r1,s1,hm,fun v H3 mu3 x3 r3 s3=>hc v H3 mu3 (x1.trans x3) r3 s3⟩
theorem me_op {op:Operator}{x y:Expr}{pos:Pos}(ho:OpR X (binaryOp op) (r2 X.K f))(hx:ME X x a)(hy:ME X y b):ME X (.BinOp x op y pos) (m2 f a b):=pe_imp (pe_op ho hx hy) fun _ _ _=>m2_ok
theorem me_cmp {op:CmpOp}{x y:Expr}{pos:Pos}(ho:OpR X (compareOp op) (r2 X.K f))(hx:ME X x a)(hy:ME X y b)(hm:behindInMarks op y=false):ME X (.Compare x [op] [y] pos) (m2 f a b):=pe_imp (pe_cmpR ho hx hy hm) fun _ _ _=>m2_ok
theorem me_ix {x y:Expr}{pos:Pos}(ho:IxR X (r2 X.K f))(hx:ME X x a)(hy:ME X y b)(hs:PlainIx y):ME X (.Subscript x y pos) (m2 f a b):=pe_imp (pe_ix ho hx hy hs) fun _ _ _=>m2_ok
theorem me_callB {x:Str}{p pos:Pos}{e:Expr}{es:List Expr}{id:String}{a:FA}(hc:CallR X (.builtin id) (rN X.K f))(hg:Gl X x)(hm:X.mg x=none)(hv:bootBuiltins x=some (.builtin id))(ha:MA X (e::es) a)(hn:x≠"__name__":=by decide)(hdb:(x == ("__debug__":Str))=false:=by decide)
  (he:starEach (e::es) X.env=(false,eval e X.env)::starEach es X.env:=by rfl) (hpl:(backTo pos (starEach es X.env)).any (·.1)=false:=by rfl):ME X (.Call (.Name x p) (e::es) [] pos) (mN f a):=
 pe_imp (pe_callB hc hg hm hv ha hn hdb he hpl) fun _ _ _=>mN_ok
theorem me_callTy {x:Str}{p pos:Pos}{e:Expr}{es:List Expr}{T:String}{a:FA}(hc:CallR X (.type T) (rN X.K f))(hg:Gl X x)(hm:X.mg x=none)(hv:bootBuiltins x=some (.type T))(ha:MA X (e::es) a)(hn:x≠"__name__":=by decide)(hdb:(x == ("__debug__":Str))=false:=by decide)
  (he:starEach (e::es) X.env=(false,eval e X.env)::starEach es X.env:=by rfl) (hpl:(backTo pos (starEach es X.env)).any (·.1)=false:=by rfl):ME X (.Call (.Name x p) (e::es) [] pos) (mN f a):=
 pe_imp (pe_callTy hc hg hm hv ha hn hdb he hpl) fun _ _ _=>mN_ok
end
noncomputable def mB (m:FE):FT:=fun r S=>(m r S).bind fun p=>match p.1 with
 | .bl b=>some (b,p.2)
 | _=>none
theorem mB_ok {K:Fg1}{m:FE}{σ:L2.St}{H:Hp}{Q:Bool->Hp->Prop}(h:tMT K (mB m) σ H Q):tB (tM K m) σ H Q:=by
 obtain ⟨r,mu,S,b,S',he,hs,hm,hc⟩:=h
 obtain ⟨⟨d1,S1⟩,e1,hm⟩:=oB1.mp hm
 cases d1 with
 | bl k=>
  cases hm
  refine ⟨r,mu,S,_,_,he,hs,e1,fun v H1 mu1 x1 r1 s1=>?_⟩
  cases r1
  exact ⟨_,rfl,hc H1 mu1 x1 s1⟩
 | _=>cases hm
noncomputable def mAnd (a b:FT):FT:=fun r S=>(a r S).bind fun p=>if p.1=true then b r p.2 else some (false,p.2)
noncomputable def mOr (a b:FT):FT:=fun r S=>(a r S).bind fun p=>if p.1=true then some (true,p.2) else b r p.2
noncomputable def mNot (a:FT):FT:=fun r S=>(a r S).bind fun p=>some (!p.1,p.2)
noncomputable def mAndV (a b:FE):FE:=fun r S=>(a r S).bind fun p=>match p.1 with
 | .bl c=>if c=true then b r p.2 else some (.bl false,p.2)
 | _=>none
noncomputable def mOrV (a b:FE):FE:=fun r S=>(a r S).bind fun p=>match p.1 with
 | .bl c=>if c=true then some (.bl true,p.2) else b r p.2
 | _=>none
noncomputable def mNotV (a:FE):FE:=fun r S=>(a r S).bind fun p=>match p.1 with
 | .bl c=>some (.bl (!c),p.2)
 | _=>none
noncomputable def mIf (c:FT)(a b:FE):FE:=fun r S=>(c r S).bind fun p=>if p.1=true then a r p.2 else b r p.2
section
variable {X:Cx} {x y c:Expr} {rest:List Expr} {pos:Pos} {a b:FT} {f g:FE}
theorem mt_cmp {op:CmpOp}{f:FN}{a b:FE}(ho:OpR X (compareOp op) (r2 X.K f))(hx:ME X x a)(hy:ME X y b)(hm:behindInMarks op y=false):MT X (.Compare x [op] [y] pos) (mB (m2 f a b)):=
 pt_imp (pt_cmpR ho hx hy hm) fun σ H Q h=>by
  obtain ⟨r,mu,S,d,S',he,hs,hm,hc⟩:=mB_ok h
  exact m2_ok ⟨r,mu,S,d,S',he,hs,hm,fun v H' mu' x1 r1 s1=>hc v H' mu' x1 r1 s1⟩
theorem mw_and1 (ha:MT X x a):MW X (.BoolOp .And [x] pos) a:=pw_and1 ha
theorem mw_or1 (ha:MT X x a):MW X (.BoolOp .Or [x] pos) a:=pw_or1 ha
theorem mw_and (ha:MT X x a)(hb:MW X (.BoolOp .And (y::rest) pos) b):MW X (.BoolOp .And (x::y::rest) pos) (mAnd a b):=
 pw_imp (pw_and ha hb) <| by
  rintro σ H Q ⟨r,mu,S,k,S',he,hs,hm,hc⟩
  obtain ⟨⟨b1,S1⟩,e1,hm⟩:=oB1.mp hm
  refine ⟨r,mu,S,b1,S1,he,hs,e1,fun H1 mu1 x1 s1=>?_⟩
  cases b1 with
  | true=>exact ⟨r,mu1,S1,k,S',he.ext x1,s1,hm,fun H2 mu2 x2 s2=>hc H2 mu2 (x1.trans x2) s2⟩
  | false=>cases hm;exact hc H1 mu1 x1 s1
theorem mw_or (ha:MT X x a)(hb:MW X (.BoolOp .Or (y::rest) pos) b):MW X (.BoolOp .Or (x::y::rest) pos) (mOr a b):=
 pw_imp (pw_or ha hb) <| by
  rintro σ H Q ⟨r,mu,S,k,S',he,hs,hm,hc⟩
  obtain ⟨⟨b1,S1⟩,e1,hm⟩:=oB1.mp hm
  refine ⟨r,mu,S,b1,S1,he,hs,e1,fun H1 mu1 x1 s1=>?_⟩
  cases b1 with
  | false=>exact ⟨r,mu1,S1,k,S',he.ext x1,s1,hm,fun H2 mu2 x2 s2=>hc H2 mu2 (x1.trans x2) s2⟩
  | true=>cases hm;exact hc H1 mu1 x1 s1
theorem mt_w (h:MW X x a):MT X x a:=PW.pt h
theorem me_if (hc:MT X c a)(hx:ME X x f)(hy:ME X y g):ME X (.IfExp c x y pos) (mIf a f g):=
 pe_imp (pe_ifExp hc hx hy) <| by
  rintro σ H Q ⟨r,mu,S,k,S',he,hs,hm,hc⟩
  obtain ⟨⟨b1,S1⟩,e1,hm⟩:=oB1.mp hm
  refine ⟨r,mu,S,b1,S1,he,hs,e1,fun H1 mu1 x1 s1=>?_⟩
  cases b1 with
  | true=>exact ⟨r,mu1,S1,k,S',he.ext x1,s1,hm,fun v2 H2 mu2 x2 r2 s2=>hc v2 H2 mu2 (x1.trans x2) r2 s2⟩
  | false=>exact ⟨r,mu1,S1,k,S',he.ext x1,s1,hm,fun v2 H2 mu2 x2 r2 s2=>hc v2 H2 mu2 (x1.trans x2) r2 s2⟩
end
section
variable {X:Cx} {x y z:Expr} {pos:Pos} {f g:FN} {a b c:FE} {op op':CmpOp}
end
mutual
noncomputable def D.und (n:Nat):D->Bool
 | .tup xs=>D.unds n xs
 | .rol xs=>D.unds n xs
 | .ref k=>decide (k<n)
 | .non=>true
 | .bl _=>true
 | .int _=>true
 | .str _=>true
noncomputable def D.unds (n:Nat):List D->Bool
 | []=>true
 | d::ds=>D.und n d&&D.unds n ds
end
noncomputable def D.sames (a b:List D):Bool:=@decide (a=b) (Classical.propDecidable _)
theorem D.sames_eq {a b:List D}(h:D.sames a b=true):a=b:=@of_decide_eq_true _ (Classical.propDecidable _) h
theorem D.sames_refl (a:List D):D.sames a a=true:=@decide_eq_true _ (Classical.propDecidable _) rfl
section
variable {K:Fg1} {H:Hp} {mu mu':List Addr}
theorem Rep.cut {n:Nat}(h:∀ k,k<n->mu[k]? = mu'[k]?):∀ {d:D} {v:V},Rep K H mu d v->d.und n=true->Rep K H mu' d v:=fun h0=>h0.rec (motive_1:=fun d v _=>d.und n=true->Rep K H mu' d v) (motive_2:=fun ds vs _=>D.unds n ds=true->Reps K H mu' ds vs)
  (fun _=>.non) (fun b _=>.bl b) (fun i _=>.int i) (fun x _=>.str x) (fun q _ ih e=>.tup q (ih (by rw [D.und] at e;exact e))) (fun q _ ih e=>.rol q (ih (by rw [D.und] at e;exact e)))
  (fun q e=>.ref (by rw [D.und] at e;rw [<- h _ (of_decide_eq_true e)];exact q)) (fun _=>.nil) (fun _ _ a b e=>by rw [D.unds,bA1] at e;exact .cons (a e.1) (b e.2))
theorem Reps.cut {n:Nat}(h:∀ k,k<n->mu[k]? = mu'[k]?):∀ {ds:List D} {vs:List V},Reps K H mu ds vs->D.unds n ds=true->Reps K H mu' ds vs:=fun h0=>h0.ind (P:=fun ds vs _=>D.unds n ds=true->Reps K H mu' ds vs) (fun _=>.nil) fun r _ b e=>by rw [D.unds,bA1] at e;exact .cons (Rep.cut h r e.1) (b e.2)
end
noncomputable def Ob.und (n:Nat):Ob->Bool
 | .lst xs=>D.unds n xs
 | .dct kvs=>D.unds n (kvs.map (·.2))
 | .dcT kvs=>D.unds n (kvs.map (·.2))
 | .iset _=>true
 | .dcF kvs=>D.unds n (kvs.map (·.2))
theorem KR.cut {κ:Type}{K:Fg1}{H:Hp}{mu mu':List Addr}{n:Nat}(h:∀ k,k<n->mu[k]? = mu'[k]?):∀ {ks:List (κ×D)} {ws:List (κ×V)},KR K H mu ks ws->D.unds n (ks.map (·.2))=true->KR K H mu' ks ws:=by
 intro ks ws h0 e
 induction h0 with
 | nil=>exact .nil
 | cons r t ih=>
  rw [mP1,D.unds,bA1] at e
  exact .cons ⟨r.1,r.2.cut h e.1⟩ (ih e.2)
mutual
theorem tk_und (n:Nat):∀ k:TK,(tkD k).und n=true
 | .non=>rfl
 | .int _=>rfl
 | .tup xs=>by rw [tkD,D.und];exact tks_und n xs
theorem tks_und (n:Nat):∀ ks:List TK,D.unds n (tkDs ks)=true
 | []=>rfl
 | x::xs=>by rw [tkDs,D.unds,tk_und n x,tks_und n xs];rfl
end
theorem KT.cut {K:Fg1}{H:Hp}{mu mu':List Addr}{n:Nat}(h:∀ k,k<n->mu[k]? = mu'[k]?):∀ {ks:List (TK×D)} {ws:List (TK×Addr×Value)},KT K H mu ks ws->D.unds n (ks.map (·.2))=true->KT K H mu' ks ws:=by
 intro ks ws h0 e
 induction h0 with
 | nil=>exact .nil
 | cons r t ih=>
  rw [mP1,D.unds,bA1] at e
  obtain ⟨z,d,k,v,rv,r⟩:=r
  exact .cons ⟨z,d,k.cut h (tk_und n _),v,rv,r.cut h e.1⟩ (ih e.2)
theorem ObR.cut {K:Fg1}{H:Hp}{mu mu':List Addr}{n:Nat}{a:Addr}(h:∀ k,k<n->mu[k]? = mu'[k]?):∀ {o:Ob},ObR K H mu a o->o.und n=true->ObR K H mu' a o
 | .lst _,⟨vs,e,r⟩,b=>⟨vs,e,r.cut h b⟩
 | .dct _,⟨ws,e,r⟩,b=>⟨ws,e,KR.cut h r b⟩
 | .dcT _,⟨ws,e,r,l⟩,b=>⟨ws,e,KT.cut h r b,l⟩
 | .iset _,q,_=>q
 | .dcF _,⟨ws,e,r,l⟩,b=>⟨ws,e,KT.cut h r b,l⟩
noncomputable def gc (n:Nat)(p:D×Sto):D×Sto:=if p.1.und n&&(p.2.take n).all (Ob.und n) then (p.1,p.2.take n) else p
mutual
noncomputable def D.sh (n:Nat):D->D
 | .tup xs=>.tup (D.shs n xs)
 | .rol xs=>.rol (D.shs n xs)
 | .ref k=>.ref (n+k)
 | .non=>.non
 | .bl b=>.bl b
 | .int i=>.int i
 | .str x=>.str x
noncomputable def D.shs (n:Nat):List D->List D
 | []=>[]
 | d::ds=>D.sh n d::D.shs n ds
end
noncomputable def Ob.sh (n:Nat):Ob->Ob
 | .lst xs=>.lst (D.shs n xs)
 | .dct kvs=>.dct (kvs.map fun p=>(p.1,p.2.sh n))
 | .dcT kvs=>.dcT (kvs.map fun p=>(p.1,p.2.sh n))
 | .iset xs=>.iset xs
 | .dcF kvs=>.dcF (kvs.map fun p=>(p.1,p.2.sh n))
theorem Rep.sh {K:Fg1}{H:Hp}{mu mu':List Addr}:∀ {d:D} {v:V},Rep K H mu' d v->Rep K H (mu++mu') (d.sh mu.length) v:=fun h0=>h0.rec (motive_1:=fun d v _=>Rep K H (mu++mu') (d.sh mu.length) v) (motive_2:=fun ds vs _=>Reps K H (mu++mu') (D.shs mu.length ds) vs)
  .non .bl .int .str (fun h _ ih=>.tup h ih) (fun h _ ih=>.rol h ih) (fun h=>.ref (by rw [gR1 (Nat.le_add_right _ _),Nat.add_sub_cancel_left];exact h)) .nil (fun _ _ a b=>.cons a b)
theorem Reps.sh {K:Fg1}{H:Hp}{mu mu':List Addr}:∀ {ds:List D} {vs:List V},Reps K H mu' ds vs->Reps K H (mu++mu') (D.shs mu.length ds) vs:=fun h=>h.ind (P:=fun ds vs _=>Reps K H (mu++mu') (D.shs mu.length ds) vs) .nil fun r _ ih=>.cons (Rep.sh r) ih
theorem KR.sh {κ:Type}{K:Fg1}{H:Hp}{mu mu':List Addr}:∀ {ks:List (κ×D)} {ws:List (κ×V)},KR K H mu' ks ws->KR K H (mu++mu') (ks.map fun p=>(p.1,p.2.sh mu.length)) ws:=by
 intro ks ws h
 induction h with
 | nil=>exact .nil
 | cons r t ih=>exact .cons ⟨r.1,r.2.sh⟩ ih
mutual
theorem tk_sh (n:Nat):∀ k:TK,(tkD k).sh n=tkD k
 | .non=>rfl
 | .int _=>rfl
 | .tup xs=>by rw [tkD,D.sh,tks_sh n xs]
theorem tks_sh (n:Nat):∀ ks:List TK,D.shs n (tkDs ks)=tkDs ks
 | []=>rfl
 | x::xs=>by rw [tkDs,D.shs,tk_sh n x,tks_sh n xs]
end
theorem KT.sh {K:Fg1}{H:Hp}{mu mu':List Addr}:∀ {ks:List (TK×D)} {ws:List (TK×Addr×Value)},KT K H mu' ks ws->KT K H (mu++mu') (ks.map fun p=>(p.1,p.2.sh mu.length)) ws:=by
 intro ks ws h
 induction h with
 | nil=>exact .nil
 | cons r t ih=>
  obtain ⟨z,d,k,v,rv,r⟩:=r
  exact .cons ⟨z,d,by have:=k.sh (mu:=mu);rw [tk_sh] at this;exact this,v,rv,r.sh⟩ ih
theorem ObR.sh {K:Fg1}{H:Hp}{mu mu':List Addr}{a:Addr}:∀ {o:Ob},ObR K H mu' a o->ObR K H (mu++mu') a (o.sh mu.length)
 | .lst _,⟨vs,e,r⟩=>⟨vs,e,r.sh⟩
 | .dct _,⟨ws,e,r⟩=>⟨ws,e,KR.sh r⟩
 | .dcT _,⟨ws,e,r,l⟩=>⟨ws,e,KT.sh r,l⟩
 | .iset _,q=>q
 | .dcF _,⟨ws,e,r,l⟩=>⟨ws,e,KT.sh r,l⟩
theorem Rep.mor {K:Fg1}{H:Hp}{mu:List Addr}(mu':List Addr):∀ {d:D} {v:V},Rep K H mu d v->Rep K H (mu++mu') d v:=fun h=>h.exv ⟨List.prefix_append _ _,fun _ _ h=>h,fun _ _ _ h=>h⟩
theorem Reps.mor {K:Fg1}{H:Hp}{mu:List Addr}(mu':List Addr):∀ {ds:List D} {vs:List V},Reps K H mu ds vs->Reps K H (mu++mu') ds vs:=fun h=>h.exv ⟨List.prefix_append _ _,fun _ _ h=>h,fun _ _ _ h=>h⟩
theorem KR.mor {κ:Type}{K:Fg1}{H:Hp}{mu:List Addr}(mu':List Addr){ks:List (κ×D)}{ws:List (κ×V)}(h:KR K H mu ks ws):KR K H (mu++mu') ks ws:=Paired.mapP h fun _ _ z=>⟨z.1,z.2.mor mu'⟩
theorem ObR.mor {K:Fg1}{H:Hp}{mu:List Addr}{a:Addr}(mu':List Addr):∀ {o:Ob},ObR K H mu a o->ObR K H (mu++mu') a o
 | .lst _,⟨vs,e,r⟩=>⟨vs,e,r.mor mu'⟩
 | .dct _,⟨ws,e,r⟩=>⟨ws,e,KR.mor mu' r⟩
 | .dcT _,⟨ws,e,r,l⟩=>⟨ws,e,Paired.mapP r fun _ _ ⟨z,d,k,v,rv,r⟩=>⟨z,d,k.mor mu',v,rv,r.mor mu'⟩,l⟩
 | .iset _,q=>q
 | .dcF _,⟨ws,e,r,l⟩=>⟨ws,e,Paired.mapP r fun _ _ ⟨z,d,k,v,rv,r⟩=>⟨z,d,k.mor mu',v,rv,r.mor mu'⟩,l⟩
noncomputable def callG (f:FN):FN:=fun ds S=>if D.unds 0 ds=true then (f ds []).map fun p=>if p.1.und 0=true then (p.1,S) else (p.1.sh S.length,S++p.2.map (Ob.sh S.length)) else (f ds S).map (gc S.length)
theorem ObR.keep {K:Fg1}{H H':Hp}{mu:List Addr}{a:Addr}(e:Ext mu mu H H')(h:∀ o,H a=some o->H' a=some o):∀ {o:Ob},ObR K H mu a o->ObR K H' mu a o
 | .lst _,⟨vs,q,r⟩=>⟨vs,h _ q,r.ext e⟩
 | .dct _,⟨ws,q,r⟩=>⟨ws,h _ q,KR.ext e r⟩
 | .dcT _,⟨ws,q,r,l⟩=>⟨ws,h _ q,KT.ext e r,l⟩
 | .iset _,q=>⟨h _ q.1,q.2⟩
 | .dcF _,⟨ws,⟨o,u,e1,e2⟩,r,l⟩=>⟨ws,⟨o,u,h _ e1,e2⟩,KT.ext e r,l⟩
theorem callG_ok {K:Fg1}{f:FN}{vs:List V}{H:Hp}{Q:VK}(h:rN K (callG f) vs H Q):rN K f vs H Q:=by
 obtain ⟨mu,S,ds,d,S',hr,hs,hm,hc⟩:=h
 unfold callG at hm
 split at hm
 ·rename_i hb
  obtain ⟨⟨d1,S1⟩,e1,hm⟩:=oM1.mp hm
  refine ⟨[],[],ds,d1,S1,hr.cut (n:=0) (fun k hk=>absurd hk (Nat.not_lt_zero _)) hb,.nil,e1,fun v H' mu' x r s=>?_⟩
  have x':Ext mu mu H H':=⟨List.prefix_rfl,fun a o e _=>x.old a o e (by simp),x.tup,x.frz,fun _ z=>.inl z⟩
  dsimp only at hm
  split at hm
  ·rename_i hd
   cases hm
   refine hc v H' mu x' (r.cut (n:=0) (fun k hk=>absurd hk (Nat.not_lt_zero _)) hd) ⟨hs.len,hs.nd,fun n o a h1 h2=>?_⟩
   exact (hs.ob n o a h1 h2).keep x' fun o e=>x.old a o e (by simp)
  ·cases hm
   have fr:∀ a∈mu',H a=none:=fun a ha=>(x.new a ha).resolve_left (by simp)
   have x2:Ext mu (mu++mu') H H':=⟨List.prefix_append _ _,fun a o e _=>x.old a o e (by simp),x.tup,x.frz,fun a z=>by
    rcases List.mem_append.mp z with z | z
    ·exact .inl z
    ·exact .inr (fr a z)⟩
   refine hc v H' (mu++mu') x2 (by rw [<- hs.len];exact r.sh) ⟨by rw [lA1,lA1,lM1,hs.len,s.len],?_,fun n o a h1 h2=>?_⟩
   ·refine List.nodup_append.mpr ⟨hs.nd,s.nd,fun a ha b hb z=>?_⟩
    subst z
    obtain ⟨o,e⟩:=hs.here ha
    rw [fr a hb] at e;cases e
   ·by_cases hn:n<S.length
    ·rw [gL1 hn] at h1
     rw [gL1 (by rw [hs.len];exact hn)] at h2
     exact ((hs.ob n o a h1 h2).keep x' fun o e=>x.old a o e (by simp)).mor mu'
    ·have hn':=Nat.le_of_not_lt hn
     rw [gR1 hn'] at h1
     rw [gR1 (by rw [hs.len];exact hn')] at h2
     rw [gP1] at h1
     obtain ⟨o1,g1,g2⟩:=oM1.mp h1
     subst g2
     have q:=s.ob (n-S.length) o1 a g1 (by rw [hs.len] at h2;exact h2)
     rw [<- hs.len]
     exact q.sh
 ·obtain ⟨⟨d1,S1⟩,e1,hm⟩:=oM1.mp hm
  refine ⟨mu,S,ds,d1,S1,hr,hs,e1,fun v H' mu' x r s=>?_⟩
  unfold gc at hm
  split at hm
  ·rename_i hb
   cases hm
   rw [bA1] at hb
   have hk:∀ k,k<S.length->mu'[k]? = mu[k]?:=fun k hk=>by
    obtain ⟨t,rfl⟩:=x.pre
    rw [gL1 (by rw [hs.len];exact hk)]
   refine hc v H' mu x.back (r.cut hk hb.1) ⟨?_,hs.nd,fun n o a h1 h2=>?_⟩
   ·have:=s.len
    have h3:=x.pre.length_le
    rw [List.length_take,<- s.len]
    rw [hs.len] at h3 ⊢
    exact (Nat.min_eq_left h3).symm
   ·have hn:n<S.length:=by rw [<- hs.len];exact (gE1.mp h2).1
    have h1':S1[n]? = some o:=by rw [List.getElem?_take_of_lt hn] at h1;exact h1
    refine (s.ob n o a h1' ((hk n hn).trans h2)).cut hk ?_
    exact List.all_eq_true.mp hb.2 o (gM1 h1)
  ·cases hm
   exact hc v H' mu' x r s
noncomputable def spM (K:Fg1)(n:Nat)(f:FN):Sp:=fun vs H Q _=>vs.length=n/\rN K f vs H Q
section
variable {X:Cx} {k n:Nat} {f:Addr} {fd:FuncData} {ps:List Str} {x:Str} {p pos:Pos} {e:Expr} {es:List Expr} {m:FN} {a:FA}
noncomputable def mCall (n:Nat)(f:FN):FN:=fun ds S=>if ds.length=n then callG f ds S else none
theorem me_call (F:FnOk X.prog X.w X.K X.mg X.base CX0 k f fd ps (spM X.K n m))(hr:Room k X.A)(hg:Gl X x)(hm:X.mg x=some (.ref f))(hk:wK1 X.K (.ref f)=true)(hb:Binds X.K fd ps [])
  (ha:MA X (e::es) a) (hdb:(x == ("__debug__":Str))=false:=by decide) (he:starEach (e::es) X.env=(false,eval e X.env)::starEach es X.env:=by rfl) (hpl:(backTo pos (starEach es X.env)).any (·.1)=false:=by rfl):
  ME X (.Call (.Name x p) (e::es) [] pos) (mN (mCall n m) a):=
 pe_imp (pe_call (E:=E0) F hr hg hm hk hb .nil pass0 ha hdb he hpl) fun σ H Q h=>by
  obtain ⟨r,mu,S,ds,S',he,hs,hm,hc⟩:=mN_ok h
  refine ⟨r,mu,S,ds,S',he,hs,hm,fun vs H' mu' x1 r1 s1=>?_⟩
  have q:=hc vs H' mu' x1 r1 s1
  show spM X.K n m (vs++[]) H' Q E0
  rw [List.append_nil]
  obtain ⟨mu2,S2,ds2,d2,S3,h1,h2,h3,h4⟩:=q
  unfold mCall at h3
  split at h3
  ·rename_i hl
   exact ⟨by rw [<- h1.length];exact hl,callG_ok ⟨mu2,S2,ds2,d2,S3,h1,h2,h3,h4⟩⟩
  ·cases h3
end
noncomputable def mNx:FS:=fun r S=>some (.nx,r,S)
noncomputable def mSeq (a b:FS):FS:=fun r S=>(a r S).bind fun p=>match p.1 with
 | .nx=>b p.2.1 p.2.2
 | f=>some (f,p.2.1,p.2.2)
noncomputable def mRet (m:FE):FS:=fun r S=>(m r S).bind fun p=>some (.rt p.1,r,p.2)
noncomputable def mRetN:FS:=fun r S=>some (.rt .non,r,S)
noncomputable def mDrop (m:FE):FS:=fun r S=>(m r S).bind fun p=>some (.nx,r,p.2)
noncomputable def mIfS (c:FT)(a b:FS):FS:=fun r S=>(c r S).bind fun p=>if p.1=true then a r p.2 else b r p.2
section
variable {X:Cx} {pos:Pos} {e c:Expr} {st:Stmt} {rest as bs:List Stmt} {a b:FS} {m:FE} {t:FT}
theorem mss_nil:MSs X [] mNx:=pss_imp pss_nil <| by
 rintro E σ H ⟨r,mu,S,f,r',S',he,hs,hm,hc⟩
 cases hm;exact hc σ H mu (.refl _ _) he hs
theorem mss_cons (h1:MS X st a)(h2:MSs X rest b):MSs X (st::rest) (mSeq a b):=pss_imp (pss_cons h1 h2) <| by
 rintro E σ H ⟨r,mu,S,f,r',S',he,hs,hm,hc⟩
 obtain ⟨⟨f1,r1,S1⟩,e1,hm⟩:=oB1.mp hm
 refine ⟨r,mu,S,f1,r1,S1,he,hs,e1,?_⟩
 cases f1 with
 | nx=>
  intro σ1 H1 mu1 x1 he1 hs1
  refine ⟨r1,mu1,S1,f,r',S',he1,hs1,hm,?_⟩
  cases f with
  | nx=>exact fun σ2 H2 mu2 x2=>hc σ2 H2 mu2 (x1.trans x2)
  | bk=>exact fun σ2 H2 mu2 x2=>hc σ2 H2 mu2 (x1.trans x2)
  | ct=>exact fun σ2 H2 mu2 x2=>hc σ2 H2 mu2 (x1.trans x2)
  | rt d=>exact fun v H2 mu2 x2=>hc v H2 mu2 (x1.trans x2)
 | bk=>cases hm;exact hc
 | ct=>cases hm;exact hc
 | rt d=>cases hm;exact hc
theorem mss_one (h1:MS X st a):MSs X [st] a:=pss_one h1
theorem ms_expr (h:ME X e m)(hs:swapsWith e none pos.line X.env=pure false:=by rfl):MS X (.Expr e pos) (mDrop m):=ps_imp (ps_expr h hs) <| by
 rintro E σ H ⟨r,mu,S,f,r',S',he,hs,hm,hc⟩
 obtain ⟨⟨d,S1⟩,e1,hm⟩:=oB1.mp hm
 cases hm
 exact ⟨r,mu,S,d,_,he,hs,e1,fun v H' mu' x r1 s1=>hc σ H' mu' x (he.ext x) s1⟩
theorem ms_ret (h:ME X e m):MS X (.Return (some e) pos) (mRet m):=ps_imp (ps_ret h) <| by
 rintro E σ H ⟨r,mu,S,f,r',S',he,hs,hm,hc⟩
 obtain ⟨⟨d,S1⟩,e1,hm⟩:=oB1.mp hm
 cases hm
 exact ⟨r,mu,S,d,_,he,hs,e1,hc⟩
theorem ms_if (hc:MT X c t)(ha:MSs X as a)(hb:MSs X bs b):MS X (.If c as bs pos) (mIfS t a b):=ps_imp (ps_if hc ha hb) <| by
 rintro E σ H ⟨r,mu,S,f,r',S',he,hs,hm,hc⟩
 obtain ⟨⟨k,S1⟩,e1,hm⟩:=oB1.mp hm
 refine ⟨r,mu,S,k,S1,he,hs,e1,fun H1 mu1 x1 s1=>?_⟩
 have go:∀ c:FS,c r S1=some (f,r',S')->tMS X.K c E σ H1:=fun c hm=>by
  refine ⟨r,mu1,S1,f,r',S',he.ext x1,s1,hm,?_⟩
  cases f with
  | nx=>exact fun σ2 H2 mu2 x2=>hc σ2 H2 mu2 (x1.trans x2)
  | bk=>exact fun σ2 H2 mu2 x2=>hc σ2 H2 mu2 (x1.trans x2)
  | ct=>exact fun σ2 H2 mu2 x2=>hc σ2 H2 mu2 (x1.trans x2)
  | rt d=>exact fun v H2 mu2 x2=>hc v H2 mu2 (x1.trans x2)
 cases k with
 | true=>exact go a hm
 | false=>exact go b hm
end
noncomputable abbrev FG:=D->Ev->Sto->Option (Ev×Sto)
noncomputable abbrev FGs:=List D->Ev->Sto->Option (Ev×Sto)
inductive tMG (K:Fg1)(g:FG)(v:V)(σ:L2.St)(H:Hp)(Q:L2.St->Hp->Prop):Prop
 | mk (r:Ev) (mu:List Addr) (S:Sto) (d:D) (r':Ev) (S':Sto) (he:EnvR K H mu r σ) (hs:Sim K H mu S) (hr:Rep K H mu d v) (hm:g d r S=some (r',S')) (hc:∀ σ' H' mu',Ext mu mu' H H'->EnvR K H' mu' r' σ'->Sim K H' mu' S'->Q σ' H')
inductive tMGs (K:Fg1)(g:FGs)(vs:List V)(σ:L2.St)(H:Hp)(Q:L2.St->Hp->Prop):Prop
 | mk (r:Ev) (mu:List Addr) (S:Sto) (ds:List D) (r':Ev) (S':Sto) (he:EnvR K H mu r σ) (hs:Sim K H mu S) (hr:Reps K H mu ds vs) (hm:g ds r S=some (r',S')) (hc:∀ σ' H' mu',Ext mu mu' H H'->EnvR K H' mu' r' σ'->Sim K H' mu' S'->Q σ' H')
noncomputable abbrev MG (X:Cx)(e:Expr)(g:FG):Prop:=PG X e (tMG X.K g)
noncomputable abbrev MGs (X:Cx)(es:List Expr)(g:FGs):Prop:=PGs X es (tMGs X.K g)
noncomputable def gN (i:Nat):FG:=fun d r S=>some (r.set i (some d),S)
noncomputable def gNl:FGs:=fun ds r S=>match ds with
 | []=>some (r,S)
 | _=>none
noncomputable def gCs (g:FG)(gs:FGs):FGs:=fun ds r S=>match ds with
 | d::ds=>(g d r S).bind fun p=>gs ds p.1 p.2
 | []=>none
noncomputable def gT (n:Nat)(gs:FGs):FG:=fun d r S=>match d with
 | .tup ds=>if ds.length=n then gs ds r S else none
 | _=>none
theorem EnvR.set {K:Fg1}{H:Hp}{mu:List Addr}{r:Ev}{σ:L2.St}{i:Nat}{d:D}{v:V}(h:EnvR K H mu r σ)(q:Rep K H mu d v):EnvR K H mu (r.set i (some d)) (σ.set i (some v)):=by
 refine ⟨by rw [List.length_set,List.length_set];exact h.len,fun j d' e=>?_⟩
 by_cases hj:i=j
 ·subst hj
  have hl:i<r.length:=by
   have:=(gE1.mp e).1
   rwa [List.length_set] at this
  rw [List.getElem?_set_self hl] at e
  cases e
  exact ⟨v,List.getElem?_set_self (by rw [<- h.len];exact hl),q⟩
 ·rw [gS1 hj] at e
  obtain ⟨v',e1,r1⟩:=h.val j d' e
  exact ⟨v',by rw [gS1 hj];exact e1,r1⟩
section
variable {X:Cx} {pos:Pos}
theorem pg_imp {e:Expr}{t t':TG}(h:PG X e t)(i:∀ v σ H Q,t' v σ H Q->t v σ H Q):PG X e t':=fun pins s σ H v u Q I r q=>h pins s σ H v u Q I r (i v σ H Q q)
theorem pgs_imp {e:List Expr}{t t':TGs}(h:PGs X e t)(i:∀ v σ H Q,t' v σ H Q->t v σ H Q):PGs X e t':=fun pins s σ H v u Q I r q=>h pins s σ H v u Q I r (i v σ H Q q)
theorem mg_name (i:Nat){x:Str}(hN:X.N.Nodup)(hi:X.N[i]? = some x)(hx:Loc X.env.scope x)(hf:X.fn x=true\/X.env.scope.names.lookup x=some .local:=by first | exact .inl rfl | exact .inr rfl | assumption):MG X (.Name x pos) (gN i):=
 pg_imp (pg_name hN hi hx hf) <| by
  rintro v σ H Q ⟨r,mu,S,d,r',S',he,hs,hr,hm,hc⟩
  cases hm
  exact hc _ H mu (.refl _ _) (he.set hr) hs
theorem mgs_nil:MGs X [] gNl:=pgs_imp pgs_nil <| by
 rintro vs σ H Q ⟨r,mu,S,ds,r',S',he,hs,hr,hm,hc⟩
 unfold gNl at hm
 split at hm
 ·cases hm;cases hr
  exact ⟨rfl,hc σ H mu (.refl _ _) he hs⟩
 ·cases hm
theorem mgs_cons {e:Expr}{es:List Expr}{g:FG}{gs:FGs}(h1:MG X e g)(h2:MGs X es gs)(hs:(assignEach (e::es) X.env).map (·.2)=assign e X.env::(assignEach es X.env).map (·.2):=by rfl):MGs X (e::es) (gCs g gs):=
 pgs_imp (pgs_cons h1 h2 hs) <| by
  rintro vs σ H Q ⟨r,mu,S,ds,r',S',he,hs,hr,hm,hc⟩
  unfold gCs at hm
  split at hm
  ·obtain ⟨⟨r1,S1⟩,e1,hm⟩:=oB1.mp hm
   cases hr with
   | cons q t=>
    exact ⟨_,_,rfl,r,mu,S,_,r1,S1,he,hs,q,e1,fun σ1 H1 mu1 x1 he1 s1=>⟨r1,mu1,S1,_,r',S',he1,s1,t.ext x1,hm,fun σ2 H2 mu2 x2=>hc σ2 H2 mu2 (x1.trans x2)⟩⟩
  ·cases hm
theorem mg_tup {es:List Expr}{k:Nat}{gs:FGs}{n:Nat}(hc:X.calm=true)(h:MGs X es gs)(hn:(assignEach es X.env).length=n:=by rfl)(hst:(assignEach es X.env).findIdx? (·.1)=none:=by rfl):MG X (.Tuple es k pos) (gT n gs):=
 pg_imp (pg_tup hc h hn hst) <| by
  rintro v σ H Q ⟨r,mu,S,d,r',S',he,hs,hr,hm,hc⟩
  cases d with
  | tup ds=>
   rw [gT] at hm
   split at hm
   ·rename_i hl
    cases hr with
    | tup q t=>exact ⟨_,_,rfl,q,by rw [<- t.length];exact hl,r,mu,S,ds,r',S',he,hs,t,hm,hc⟩
   ·cases hm
  | _=>cases hm
inductive rU (K:Fg1)(f:FN)(o i v:V)(H:Hp)(Q:Hp->Prop):Prop
 | mk (mu:List Addr) (S:Sto) (ds:List D) (d:D) (S':Sto) (hr:Reps K H mu ds [o,i,v]) (hs:Sim K H mu S) (hm:f ds S=some (d,S')) (hc:∀ H' mu',Ext mu mu' H H'->Sim K H' mu' S'->Q H')
noncomputable def gS (f:FN)(a b:FE):FG:=fun d r S=>(a r S).bind fun p=>(b r p.2).bind fun q=>(f [p.1,q.1,d] q.2).bind fun t=>some (r,t.2)
theorem mg_sub {o i:Expr}{a b:FE}{f:FN}(ho:ME X o a)(hi:ME X i b)(hs:PSet X (rU X.K f))
  (ha:∀ v,assign (.Subscript o i pos) X.env v=(do
   let ov<-holding [v] (eval o X.env)
   let iv<-holding [v,ov] (eval i X.env)
   standAt pos
   holding [v,ov,iv] (setItem ov iv v)
   release [v,ov,iv] []):=by intro _;rfl):MG X (.Subscript o i pos) (gS f a b):=
 pg_imp (pg_sub ho hi hs ha) <| by
  rintro v σ H Q ⟨r,mu,S,d,r',S',he,hs,hr,hm,hc⟩
  obtain ⟨⟨d1,S1⟩,e1,hm⟩:=oB1.mp hm
  obtain ⟨⟨d2,S2⟩,e2,hm⟩:=oB1.mp hm
  obtain ⟨⟨d3,S3⟩,e3,hm⟩:=oB1.mp hm
  cases hm
  refine ⟨r,mu,S,d1,S1,he,hs,e1,fun v1 H1 mu1 x1 r1 s1=>?_⟩
  refine ⟨r,mu1,S1,d2,S2,he.ext x1,s1,e2,fun v2 H2 mu2 x2 r2 s2=>?_⟩
  exact ⟨mu2,S2,[d1,d2,d],d3,_,.cons (r1.ext x2) (.cons r2 (.cons ((hr.ext x1).ext x2) .nil)),s2,e3,fun H3 mu3 x3 s3=>hc σ H3 mu3 ((x1.trans x2).trans x3) (((he.ext x1).ext x2).ext x3) s3⟩
noncomputable def mAsg (m:FE)(g:FG):FS:=fun r S=>(m r S).bind fun p=>(g p.1 r p.2).bind fun q=>some (.nx,q.1,q.2)
theorem mAsg_ok {K:Fg1}{m:FE}{g:FG}{E:Ends}{σ:L2.St}{H:Hp}(h:tMS K (mAsg m g) E σ H):tAsg (tM K m) (tMG K g) E σ H:=by
 obtain ⟨r,mu,S,f,r',S',he,hs,hm,hc⟩:=h
 obtain ⟨⟨d1,S1⟩,e1,hm⟩:=oB1.mp hm
 obtain ⟨⟨r2,S2⟩,e2,hm⟩:=oB1.mp hm
 cases hm
 refine ⟨r,mu,S,d1,S1,he,hs,e1,fun v1 H1 mu1 x1 r1 s1=>?_⟩
 exact ⟨r,mu1,S1,d1,_,_,he.ext x1,s1,r1,e2,fun σ2 H2 mu2 x2=>hc σ2 H2 mu2 (x1.trans x2)⟩
theorem ms_asg {tg e:Expr}{m:FE}{g:FG}(he:ME X e m)(hg:MG X tg g)(hs:swapsWithSole [tg] e pos.line X.env=pure false:=by rfl)(hw:swappedStores [tg] e X.env=pure none:=by rfl)
  (h1:(assignEach [tg] X.env).map (·.2)=[assign tg X.env]:=by rfl):MS X (.Assign [tg] e pos) (mAsg m g):=ps_imp (ps_asg he hg hs hw h1) fun _ _ _=>mAsg_ok
theorem ms_set (i:Nat){x:Str}{e:Expr}{m:FE}{pos':Pos}(hN:X.N.Nodup)(hi:X.N[i]? = some x)(hx:Loc X.env.scope x)(he:ME X e m)(hs:swapsWith e (some (.Name x pos')) pos.line X.env=pure false:=by rfl)(hf:X.fn x=true\/X.env.scope.names.lookup x=some .local:=by first | exact .inl rfl | exact .inr rfl | assumption):
  MS X (.Assign [.Name x pos'] e pos) (mAsg m (gN i)):=ps_imp (ps_set hN hi hx he hs hf) fun E σ H h=>by
 obtain ⟨r,mu,S,d,S',h1,h2,h3,h4⟩:=mAsg_ok h
 refine ⟨r,mu,S,d,S',h1,h2,h3,fun v H' mu' x1 r1 s1=>?_⟩
 obtain ⟨r2,mu2,S2,d2,r3,S3,q1,q2,q3,q4,q5⟩:=h4 v H' mu' x1 r1 s1
 cases q4
 exact q5 _ H' mu2 (.refl _ _) (q1.set q3) q2
noncomputable def mAug (i:Nat)(f:FN)(m:FE):FS:=fun r S=>match r[i]? with
 | some (some d)=>(m r S).bind fun p=>(f [d,p.1] p.2).bind fun q=>some (.nx,r.set i (some q.1),q.2)
 | _=>none
theorem ms_aug (i:Nat){x:Str}{e:Expr}{m:FE}{op:Operator}{f:FN}{pos':Pos}(hN:X.N.Nodup)(hi:X.N[i]? = some x)(hx:Loc X.env.scope x)(he:ME X e m)(ho:PIp X op (r2 X.K f))(hf:X.fn x=true\/X.env.scope.names.lookup x=some .local:=by first | exact .inl rfl | exact .inr rfl | assumption):
  MS X (.AugAssign (.Name x pos') op e pos) (mAug i f m):=ps_imp (ps_aug hN hi hx he ho hf) <| by
 rintro E σ H ⟨r,mu,S,fl,r',S',he,hs,hm,hc⟩
 unfold mAug at hm
 split at hm
 ·rename_i d e
  obtain ⟨⟨d1,S1⟩,e1,hm⟩:=oB1.mp hm
  obtain ⟨⟨d2,S2⟩,e2,hm⟩:=oB1.mp hm
  cases hm
  obtain ⟨v,ev,rv⟩:=he.val i d e
  refine ⟨v,ev,r,mu,S,d1,S1,he,hs,e1,fun v1 H1 mu1 x1 r1 s1=>?_⟩
  exact ⟨mu1,S1,[d,d1],d2,_,.cons (rv.ext x1) (.cons r1 .nil),s1,e2,fun v3 H3 mu3 x3 r3 s3=>hc _ H3 mu3 (x1.trans x3) (((he.ext x1).ext x3).set r3) s3⟩
 ·cases hm
end
noncomputable def whl (c:FT)(b:FS):Nat->FS
 | 0=>fun _ _=>none
 | n+1=>fun r S=>(c r S).bind fun p=>if p.1=true then (b r p.2).bind fun q=>match q.1 with
   | .nx=>whl c b n q.2.1 q.2.2
   | .ct=>whl c b n q.2.1 q.2.2
   | .bk=>some (.nx,q.2.1,q.2.2)
   | .rt d=>some (.rt d,q.2.1,q.2.2)
  else some (.nx,r,p.2)
theorem whl_ok {K:Fg1}{c:FT}{b:FS}{n:Nat}{E:Ends}{σ:L2.St}{H:Hp}(h:tMS K (whl c b n) E σ H):tWhile (tMT K c) (tMS K b) E σ H:=by
 refine ⟨fun m σ' H'=>tMS K (whl c b m) E σ' H',⟨n,h⟩,fun m σ1 H1 q=>?_⟩
 obtain ⟨r,mu,S,f,r',S',he,hs,hm,hc⟩:=q
 cases m with
 | zero=>cases hm
 | succ m=>
  obtain ⟨⟨k,S1⟩,e1,hm⟩:=oB1.mp hm
  refine ⟨r,mu,S,k,S1,he,hs,e1,fun H2 mu2 x2 s2=>?_⟩
  cases k with
  | false=>
   cases hm
   exact hc σ1 H2 mu2 x2 (he.ext x2) s2
  | true=>
   obtain ⟨⟨f3,r3,S3⟩,e3,hm⟩:=oB1.mp hm
   have go:∀ {σ' H' mu'},Ext mu2 mu' H2 H'->EnvR K H' mu' r3 σ'->Sim K H' mu' S3->whl c b m r3 S3=some (f,r',S')->tMS K (whl c b m) E σ' H':=fun {σ' H' mu'} x he3 s3 hm=>by
    refine ⟨r3,mu',S3,f,r',S',he3,s3,hm,?_⟩
    cases f with
    | nx=>exact fun σ2 H2 mu2 y=>hc σ2 H2 mu2 ((x2.trans x).trans y)
    | bk=>exact fun σ2 H2 mu2 y=>hc σ2 H2 mu2 ((x2.trans x).trans y)
    | ct=>exact fun σ2 H2 mu2 y=>hc σ2 H2 mu2 ((x2.trans x).trans y)
    | rt d=>exact fun v H2 mu2 y=>hc v H2 mu2 ((x2.trans x).trans y)
   refine ⟨fun σ' H'=>tMS K (whl c b m) E σ' H',fun σ' H' q=>⟨m,Nat.lt_succ_self _,q⟩,r,mu2,S1,f3,r3,S3,he.ext x2,s2,e3,?_⟩
   cases f3 with
   | nx=>exact fun σ' H' mu' x he3 s3=>go x he3 s3 hm
   | ct=>exact fun σ' H' mu' x he3 s3=>go x he3 s3 hm
   | bk=>cases hm;exact fun σ' H' mu' x he3 s3=>hc σ' H' mu' (x2.trans x) he3 s3
   | rt d=>cases hm;exact fun v H' mu' x r3 s3=>hc v H' mu' (x2.trans x) r3 s3
theorem ms_while {X:Cx}{pos:Pos}(n:Nat){c:Expr}{body:List Stmt}{t:FT}{b:FS}(hp:PassesOwn (model X.prog X.w) X.A X.env X.xe)(hc:MT X c t)(hb:MSs X body b):MS X (.While c body [] pos) (whl t b n):=
 ps_imp (ps_while hp hc hb) fun _ _ _=>whl_ok
structure Itm where
 items:List D
 chk:List (Nat×List D)
noncomputable def okC (S:Sto):List (Nat×List D)->Bool
 | []=>true
 | (n,xs)::c=>(match S[n]? with
   | some (.lst ys)=>D.sames ys xs
   | _=>false)&&okC S c
noncomputable def ItR (K:Fg1)(j:It)(J:Itm)(mu:List Addr)(H:Hp):Prop:=∀ i H1 mu1 S1,Exw mu mu1 H H1->Sim K H1 mu1 S1->okC S1 J.chk=true ->
 (∀ d,J.items[i]? = some d->j.go i H1 /\ ∀ x H2,j.yld i H1 x H2->Ext mu1 mu1 H1 H2/\Sim K H2 mu1 S1/\Rep K H2 mu1 d x)/\(J.items.length<=i->j.stop i H1)
noncomputable abbrev FI:=Ev->Sto->Option (Itm×Sto)
inductive tMI (K:Fg1)(m:FI)(σ:L2.St)(H:Hp)(R:It->Hp->Prop):Prop
 | mk (r:Ev) (mu:List Addr) (S:Sto) (J:Itm) (S':Sto) (he:EnvR K H mu r σ) (hs:Sim K H mu S) (hm:m r S=some (J,S')) (hc:∀ j H' mu',Ext mu mu' H H'->ItR K j J mu' H'->Sim K H' mu' S'->R j H')
noncomputable abbrev MI (X:Cx)(tg iter:Expr)(m:FI):Prop:=PI X tg iter (tMI X.K m)
theorem pi_imp {X:Cx}{tg e:Expr}{t t':TI}(h:PI X tg e t)(i:∀ σ H R,t' σ H R->t σ H R):PI X tg e t':=fun pins s σ H R I q=>h pins s σ H R I (i σ H R q)
theorem pi_or {X:Cx}{tg e:Expr}{t t':TI}(h:PI X tg e t)(h':PI X tg e t'):PI X tg e (fun σ H R=>t σ H R\/t' σ H R):=fun pins s σ H R I q=>q.elim (h pins s σ H R I) (h' pins s σ H R I)
noncomputable def loopM (c:List (Nat×List D))(g:FG)(b:FS):List D->FS
 | []=>fun r S=>if okC S c=true then some (.nx,r,S) else none
 | d::ds=>fun r S=>if okC S c=true then (g d r S).bind fun p=>(b p.1 p.2).bind fun q=>match q.1 with
   | .nx=>loopM c g b ds q.2.1 q.2.2
   | .ct=>loopM c g b ds q.2.1 q.2.2
   | .bk=>some (.nx,q.2.1,q.2.2)
   | .rt v=>some (.rt v,q.2.1,q.2.2)
  else none
noncomputable def mFor (m:FI)(g:FG)(b:FS):FS:=fun r S=>(m r S).bind fun p=>loopM p.1.chk g b p.1.items r p.2
theorem drop_of_get {α:Type}{l:List α}{i:Nat}{d:α}{ds:List α}(h:l.drop i=d::ds):l[i]? = some d/\l.drop (i+1)=ds:=by
 have h1:l[i]? = some d:=by
  have:=congrArg (·[0]?) h
  simpa using this
 refine ⟨h1,?_⟩
 rw [<- List.drop_drop,h]
 rfl
inductive MFI (K:Fg1)(mu1:List Addr)(H1:Hp)(c:List (Nat×List D))(g:FG)(b:FS)(f:Fl)(r':Ev)(S':Sto)(L:List D)(σ':L2.St)(H':Hp):Prop
 | mk (r2:Ev) (mu2:List Addr) (S2:Sto):Ext mu1 mu2 H1 H'->EnvR K H' mu2 r2 σ'->Sim K H' mu2 S2->loopM c g b L r2 S2=some (f,r',S')->MFI K mu1 H1 c g b f r' S' L σ' H'
theorem mFor_ok {K:Fg1}{m:FI}{g:FG}{b:FS}{E:Ends}{σ:L2.St}{H:Hp}(h:tMS K (mFor m g b) E σ H):tFor (tMI K m) (tMG K g) (tMS K b) E σ H:=by
 obtain ⟨r,mu,S,f,r',S',he,hs,hm,hc⟩:=h
 obtain ⟨⟨J,S1⟩,e1,hm⟩:=oB1.mp hm
 refine ⟨r,mu,S,J,S1,he,hs,e1,fun j H1 mu1 x1 J1 s1=>?_⟩
 refine ⟨fun i k σ' H'=>k=(J.items.drop i).length/\MFI K mu1 H1 J.chk g b f r' S' (J.items.drop i) σ' H',⟨_,rfl,r,mu1,S1,.refl _ _,he.ext x1,s1,hm⟩,?_⟩
 rintro i k σ2 H2 ⟨rfl,r2,mu2,S2,x2,he2,s2,hm2⟩
 cases hl:J.items.drop i with
 | nil=>
  left
  rw [hl] at hm2
  rw [loopM] at hm2
  dsimp only at hm2
  split at hm2
  ·rename_i ok
   cases hm2
   refine ⟨(J1 i H2 mu2 _ x2.w s2 ok).2 (List.drop_eq_nil_iff.mp hl),?_⟩
   exact hc σ2 H2 mu2 (x1.trans x2) he2 s2
  ·cases hm2
 | cons d ds=>
  right
  rw [hl] at hm2
  obtain ⟨hi,hd⟩:=drop_of_get hl
  rw [loopM] at hm2
  dsimp only at hm2
  split at hm2
  ·rename_i ok
   obtain ⟨⟨r3,S3⟩,e3,hm2⟩:=oB1.mp hm2
   obtain ⟨⟨f4,r4,S4⟩,e4,hm2⟩:=oB1.mp hm2
   obtain ⟨go,yl⟩:=(J1 i H2 mu2 _ x2.w s2 ok).1 d hi
   refine ⟨go,MFI K mu1 H1 J.chk g b f r' S' ds,?_,fun x H3 y=>?_⟩
   ·intro σ' H' h5
    exact ⟨ds.length,Nat.lt_succ_self _,(congrArg List.length hd).symm,hd.symm ▸ h5⟩
   ·obtain ⟨x3,s3,q3⟩:=yl x H3 y
    refine ⟨r2,mu2,S2,d,r3,S3,he2.ext x3,s3,q3,e3,fun σ4 H4 mu4 x4 he4 s4=>?_⟩
    refine ⟨r3,mu4,S3,f4,r4,S4,he4,s4,e4,?_⟩
    cases f4 with
    | nx=>exact fun σ5 H5 mu5 x5 he5 s5=>⟨r4,mu5,S4,(x2.trans x3).trans (x4.trans x5),he5,s5,hm2⟩
    | ct=>exact fun σ5 H5 mu5 x5 he5 s5=>⟨r4,mu5,S4,(x2.trans x3).trans (x4.trans x5),he5,s5,hm2⟩
    | bk=>cases hm2;exact fun σ5 H5 mu5 x5 he5 s5=>hc σ5 H5 mu5 ((x1.trans x2).trans (x3.trans (x4.trans x5))) he5 s5
    | rt v=>cases hm2;exact fun v5 H5 mu5 x5 r5 s5=>hc v5 H5 mu5 ((x1.trans x2).trans (x3.trans (x4.trans x5))) r5 s5
  ·cases hm2
theorem ms_for {X:Cx}{pos:Pos}{tg iter:Expr}{body:List Stmt}{m:FI}{g:FG}{b:FS}(hp:PassesOwn (model X.prog X.w) X.A X.env X.xe)(hc:X.calm=true)(hi:MI X tg iter m)(hg:MG X tg g)(hb:MSs X body b)
  (hs:∀ x,foldedSetIterable iter X.env x=pure x:=by intro _;rfl):MS X (.For tg iter body [] pos) (mFor m g b):=ps_imp (ps_for hp hc hi hg hb hs) fun _ _ _=>mFor_ok
noncomputable def startD (n:Nat)(ds:List D):Ev:=ds.map some++List.replicate (n-ds.length) none
noncomputable def fnB (n:Nat)(b:FS):FN:=fun ds S=>(b (startD n ds) S).bind fun p=>match p.1 with
 | .rt d=>some (d,p.2.2)
 | .nx=>some (.non,p.2.2)
 | _=>none
theorem start_env {K:Fg1}{H:Hp}{mu:List Addr}{ds:List D}{vs:List V}(N:List Str)(h:Reps K H mu ds vs):EnvR K H mu (startD N.length ds) (L2.start N vs):=by
 refine ⟨?_,fun i d e=>?_⟩
 ·unfold startD L2.start
  rw [lA1,lA1,lM1,lM1,lR1,lR1,h.length]
 ·unfold startD at e
  unfold L2.start
  by_cases hi:i<ds.length
  ·rw [gL1 (by rw [lM1];exact hi),gP1] at e
   obtain ⟨d',e1,e2⟩:=oM1.mp e
   cases e2
   obtain ⟨v,e3,r⟩:=h.get e1
   refine ⟨v,?_,r⟩
   rw [gL1 (by rw [lM1,<- h.length];exact hi),gP1,e3]
   rfl
  ·rw [gR1 (by rw [lM1];lia)] at e
   have:=gM1 e
   rw [List.mem_replicate] at this
   cases this.2
theorem fn_m {P:Program}{w:World}{K:Fg1}{mg:Str->Option Value}{base:Heap}{x qual:Str}{st:Stmt}{f:Addr}{fd:FuncData}{N ps:List Str}{k:Nat}{b:FS}(F:Fun K x qual st f fd)(S:FnScope N ps (defScope st))
  (hbody:∀ (cdv:Value) (A:Around) (outer:List Env) (s:Shared) (H:Hp) (E:XK),Room k (A.deeper (envOfC qual (defScope st) s.heap.objs.size f cdv)) ->
   MSs (cxOf CX0 P w K mg base N qual (defScope st) f cdv A outer s H E).nox (defBody st) b):FnOk P w K mg base CX0 (k+1) f fd ps (spM K ps.length (fnB N.length b)):=by
 refine Fun.ok F S (fun vs H Q E h=>h.1) fun cdv A outer s H vs Q E hr hsp=>⟨_,hbody cdv A outer s H E hr,?_⟩
 obtain ⟨_,mu,St,ds,d,S',h1,h2,h3,h4⟩:=hsp
 unfold fnB at h3
 obtain ⟨⟨fl,r',S1⟩,e1,h3⟩:=oB1.mp h3
 refine ⟨_,mu,St,fl,r',S1,start_env N h1,h2,e1,?_⟩
 cases fl with
 | nx=>cases h3;exact fun σ' H' mu' x he s=>h4 .non H' mu' x .non s
 | rt d=>cases h3;exact h4
 | bk=>cases h3
 | ct=>cases h3
noncomputable def cloF (cells:List (Str×Addr)):List (Str×NameKind)->List (Str×Addr)->Option (List (Str×Addr))
 | [],acc=>some acc
 | (n,k)::r,acc=>if k == .free then (cells.lookup n).bind fun c=>cloF cells r ((n,c)::acc) else cloF cells r acc
theorem clo_go {env:Env}(f:Str×NameKind->List (Str×Addr)->Sem (ForInStep (List (Str×Addr))))
  (hf:∀ n k cs,f (n,k) cs=if k == .free then (do let c<-cellOf env n;pure (.yield ((n,c)::cs))) else pure (.yield cs)):
  ∀ (names:List (Str×NameKind)) (acc cl:List (Str×Addr)),cloF env.cells names acc=some cl->forIn names acc f=(pure cl:Sem (List (Str×Addr)))
 | [],acc,cl,h=>by cases h;rfl
 | (n,k)::r,acc,cl,h=>by
  rw [List.forIn_cons,hf]
  unfold cloF at h
  split at h
  ·rename_i hk
   rw [if_pos hk]
   obtain ⟨c,e,h⟩:=oB1.mp h
   have:cellOf env n=pure c:=by unfold cellOf;rw [e]
   rw [this,pure_bind,pure_bind]
   exact clo_go f hf r _ cl h
  ·rename_i hk
   rw [if_neg hk,pure_bind]
   exact clo_go f hf r _ cl h
theorem clo_eq {scope:Scope}{env:Env}{cl:List (Str×Addr)}(h:cloF env.cells scope.names []=some cl):closureFor scope env=pure cl:=by
 simp only [closureFor]
 rw [clo_go (env:=env) _ (fun n k cs=>by cases hk:k == NameKind.free<;>simp [hk]) scope.names [] cl h]
 rfl
theorem clo_of {cells:List (Str×Addr)}:∀ {names:List (Str×NameKind)} {acc cl:List (Str×Addr)},cloF cells names acc=some cl->(∀ x c,acc.lookup x=some c->cells.lookup x=some c) -> ∀ x c,cl.lookup x=some c->cells.lookup x=some c
 | [],acc,cl,h,ha=>by cases h;exact ha
 | (n,k)::r,acc,cl,h,ha=>by
  unfold cloF at h
  split at h
  ·obtain ⟨c,e,h⟩:=oB1.mp h
   refine clo_of h fun x c' q=>?_
   rw [List.lookup_cons] at q
   split at q
   ·rename_i hx
    cases q
    rw [beq_iff_eq.mp hx];exact e
   ·exact ha x c' q
  ·exact clo_of h ha
theorem clo_has {cells:List (Str×Addr)}{x:Str}:∀ {names:List (Str×NameKind)} {acc cl:List (Str×Addr)},cloF cells names acc=some cl->(names.lookup x=some .free\/(acc.lookup x).isSome=true)->(cl.lookup x).isSome=true
 | [],acc,cl,h,ha=>by
  cases h
  rcases ha with q | q
  ·cases q
  ·exact q
 | (n,k)::r,acc,cl,h,ha=>by
  unfold cloF at h
  split at h
  ·obtain ⟨c,e,h⟩:=oB1.mp h
   refine clo_has h ?_
   rcases ha with q | q
   ·rw [List.lookup_cons] at q
    split at q
    ·rename_i hx
     right;rw [List.lookup_cons,hx];rfl
    ·exact .inl q
   ·right
    rw [List.lookup_cons]
    split
    ·rfl
    ·exact q
  ·rename_i hk
   refine clo_has h ?_
   rcases ha with q | q
   ·rw [List.lookup_cons] at q
    split at q
    ·cases q
     exact absurd rfl hk
    ·exact .inl q
   ·exact .inr q
theorem cellsFrom_old {x:Str}{c:Addr}:∀ {names:List (Str×NameKind)} {n:Nat} {acc:List (Str×Addr)},(cellsFrom n names acc).lookup x=some c->(n<=c/\(x,c)∈cellsFrom n names [])\/acc.lookup x=some c
 | [],_,_,h=>.inr h
 | (y,k)::r,n,acc,h=>by
  unfold cellsFrom at h ⊢
  split at h
  ·rename_i hk
   rw [if_pos hk]
   have app:∀ (names:List (Str×NameKind)) (m:Nat) (acc:List (Str×Addr)),cellsFrom m names acc=cellsFrom m names []++acc:=by
    intro names
    induction names with
    | nil=>intro m acc;rfl
    | cons p r ih=>
     obtain ⟨z,q⟩:=p
     intro m acc
     unfold cellsFrom
     split
     ·rw [ih _ ((z,m)::acc),ih _ [(z,m)],List.append_assoc];rfl
     ·exact ih m acc
   rcases cellsFrom_old h with ⟨h1,h2⟩ | h1
   ·refine .inl ⟨by lia,?_⟩
    rw [app];exact List.mem_append_left _ h2
   ·rw [List.lookup_cons] at h1
    split at h1
    ·rename_i hx
     cases h1
     refine .inl ⟨nR1 _,?_⟩
     rw [app,beq_iff_eq.mp hx]
     exact mA1 _ mS1
    ·exact .inr h1
  ·rename_i hk
   rw [if_neg hk]
   exact cellsFrom_old h
theorem cellsFrom_own {x:Str}{c:Addr}{n:Nat}{acc:List (Str×Addr)}{names:List (Str×NameKind)}(hx:names.lookup x=some .cell)(h:(cellsFrom n names acc).lookup x=some c):n<=c:=by
 have app:∀ (names:List (Str×NameKind)) (m:Nat) (acc:List (Str×Addr)),cellsFrom m names acc=cellsFrom m names []++acc:=by
  intro names
  induction names with
  | nil=>intro m acc;rfl
  | cons p r ih=>
   obtain ⟨z,q⟩:=p
   intro m acc
   unfold cellsFrom
   split
   ·rw [ih _ ((z,m)::acc),ih _ [(z,m)],List.append_assoc];rfl
   ·exact ih m acc
 rw [app,List.lookup_append] at h
 have q:=PySem.W.cellsFrom_some names n [] (.inl hx)
 obtain ⟨c',e⟩:=Option.isSome_iff_exists.mp q
 rw [e] at h
 cases h
 rcases cellsFrom_old e with ⟨h1,_⟩ | h1
 ·exact h1
 ·cases h1
theorem newEnv_around {M:Model}{A:Around}{E:Value->Shared->Prop}{s:Shared}{scope:Scope}{globals:Addr}{cl:List (Str×Addr)}{qual:Str}{func:Option Addr}{code:Value}{env:Env}{b:Addr}{Q:Env->Shared->Prop}
  (hQ:Q {scope,locals:=s.heap.objs.size,globals,cells:=cellsFrom (s.heap.objs.size+1) scope.names cl,qual,func,code:=env.code,frame:=env.frame,builtins:=env.builtins}
   {s with heap:=pushCells (s.heap.push {cls:=.type "dict",data:=.dict #[]}) scope.names}):
  wpAny M A (newFunctionEnv scope globals cl [] qual func code (some env) b) Q E s:=by
 simp only [newFunctionEnv,Option.isSome_some,if_true]
 refine wB1 (wpAny_alloc ?_)
 refine wB1 (wpAny_layCells _ (fun name kind cells=>by cases hkc:kind == NameKind.cell<;>simp [hkc]) _ _ _ _ ?_)
 rw [show ({s with heap:=s.heap.push {cls:=.type "dict",data:=.dict #[]}}:Shared).heap.objs.size=s.heap.objs.size+1 from hZ1 ..]
 refine wB1 ?_
 rw [List.forIn_nil]
 exact wP1 (wP1 hQ)
noncomputable def cxC (X:Cx)(scope:Scope)(cl:List (Str×Addr))(T:List Str)(keep:List Nat)(s:Shared)(H:Hp)(fp:List Addr):Cx where
 prog:=X.prog
 w:=X.w
 K:=X.K
 mg:=X.mg
 base:=X.base
 A:=X.A
 N:=T++keep.map fun i=>X.N.getD i (Str.ofString "")
 s₀:=s
 H₀:=H
 env:=compEnvC scope (cellsFrom (s.heap.objs.size+1) scope.names cl) s.heap.objs.size X.env
 outer:=X.stack
 stack:=X.stack
 ex:=fp
 fn:=fun x=>scope.names.lookup x == some .cell
 calm:=X.calm
 pn:=[]
 xe:=fun _ _=>False
noncomputable def inSt (k:Nat)(keep:List Nat)(σ:L2.St):L2.St:=List.replicate k none++keep.map fun i=>(σ[i]?).join
theorem lookup_relabel {env:Env}{x:Str}:∀ {names:List (Str×NameKind)},
  (names.map fun (n,k)=>if (k == NameKind.free&&env.scope.kind == .function&&env.kindOf n == some .cell) then (n,NameKind.cell) else (n,k)).lookup x =
   (names.lookup x).map fun k=>if (k == NameKind.free&&env.scope.kind == .function&&env.kindOf x == some .cell) then NameKind.cell else k
 | []=>rfl
 | (n,k)::r=>by
  show List.lookup x ((if (k == NameKind.free&&env.scope.kind == .function&&env.kindOf n == some .cell)=true then (n,NameKind.cell) else (n,k))::_)=_
  cases hx:x == n with
  | true=>
   have e:=beq_iff_eq.mp hx
   subst e
   by_cases hc:(k == NameKind.free&&env.scope.kind == .function&&env.kindOf x == some .cell)=true
   ·rw [if_pos hc,List.lookup_cons,hx,List.lookup_cons,hx];simp only [oP1,if_pos hc]
   ·rw [if_neg hc,List.lookup_cons,hx,List.lookup_cons,hx];simp only [oP1,if_neg hc]
  | false=>
   have ih:=@lookup_relabel env x r
   by_cases hc:(k == NameKind.free&&env.scope.kind == .function&&env.kindOf n == some .cell)=true
   ·rw [if_pos hc,List.lookup_cons,hx,List.lookup_cons,hx];exact ih
   ·rw [if_neg hc,List.lookup_cons,hx,List.lookup_cons,hx];exact ih
structure CSc (X:Cx)(scope:Scope)(T:List Str)(keep:List Nat):Prop where
 kind:scope.kind = .function
 names:∀ x∈scope.names,x.2 = .local->scope.names.lookup x.1=some .local
 free:∀ i∈keep,∃ x,X.N[i]? = some x/\scope.names.lookup x=some .free/\(X.env.kindOf x=some .cell\/X.env.kindOf x=some .free)/\(x,NameKind.cell)∉scope.names
theorem inv_comp {X:Cx} {pins:List (Addr×Obj)} {σ:L2.St} {H:Hp} {s:Shared} {scope:Scope} {cl:List (Str×Addr)} {T:List Str} {keep:List Nat} {fp:List Addr} (I:Inv X pins σ H s)
  (C:CSc X scope T keep) (hcl:cloF X.env.cells scope.names []=some cl) (hf:∀ b∈fp,FpOk X pins H b) (hfo:∀ b∈fp,∃ o,s.heap.get? b=some o):
  Inv (cxC X scope cl T keep s H fp) [] (inSt T.length keep σ) H {s with heap:=pushCells (s.heap.push {cls:=.type "dict",data:=.dict #[]}) scope.names}:=by
 have kept:∀ b o,s.heap.get? b=some o->(pushCells (s.heap.push {cls:=.type "dict",data:=.dict #[]}) scope.names).get? b=some o:=fun b o e=>pushCells_keeps _ _ b o (hP1 _ e)
 have cok:=cellsFrom_ok scope.names (s.heap.push {cls:=.type "dict",data:=.dict #[]}) (s.heap.objs.size+1) [] ⟨fun _ _ hm=>(nomatch hm),List.Pairwise.nil⟩ (by rw [hZ1];exact nR1 _)
 rw [hZ1] at cok
 have clE:=clo_of hcl (fun x c q=>by cases q)
 -- a cell of the block: its own or an elder one
 have cells:∀ x c,(cellsFrom (s.heap.objs.size+1) scope.names cl).lookup x=some c->(s.heap.objs.size+1<=c/\(x,c)∈cellsFrom (s.heap.objs.size+1) scope.names [])\/X.env.cells.lookup x=some c:=fun x c h=>by
  rcases cellsFrom_old h with h1 | h1
  ·exact .inl h1
  ·exact .inr (clE x c h1)
 have oldLt:∀ x c,X.env.cells.lookup x=some c->c<s.heap.objs.size:=fun x c e=>by
  obtain ⟨v,z⟩:=I.cell x c e
  exact z.lt
 have fpLt:∀ b∈fp,b<s.heap.objs.size:=fun b hb=>by
  obtain ⟨o,e⟩:=hfo b hb
  exact hL1 e
 have fst:∀ b∈fp,b∉frs X.stack:=fun b hb z=>by
  rcases List.mem_cons.mp (I.stkSub b z) with q | q
  ·exact (hf b hb).2.1 q
  ·exact (hf b hb).2.2.1 q
 have kindOf:∀ x,(cxC X scope cl T keep s H fp).env.kindOf x=(scope.names.lookup x).map fun k=>if (k == NameKind.free&&X.env.scope.kind == .function&&X.env.kindOf x == some .cell) then NameKind.cell else k:=fun x=>lookup_relabel
 refine ⟨⟨I.ok.mod,C.kind,I.ok.glob,I.ok.blt,nR1 _,fun x y c h1 h2=>?_,fun x hx=>?_,fun x c h1 h2=>?_,I.ok.hd,I.ok.frames,.inl rfl,fun b hb=>⟨nN1 (fpLt b hb),fun x c h z=>?_⟩,fun b o e=>I.bs b o e,Nat.le_trans I.ok.bsz I.sz,fun b o e hb=>?_,fst,I.stack,I.stkFree⟩,
  rfl,I.bare,Un.kept kept,⟨fun _=>none,(Heap.Ns.new s.heap (.type "dict")).keeps (pushCells_keeps _ _),fun i x v h1 h2 h3=>?_⟩,fun x c h=>?_,I.hok.fresh (nR1 _),fun x c h=>?_,fun p hp=>absurd (show p∈([]:List (Addr×Obj)) from hp) (by simp),I.hok.kept kept,?_⟩
 ·rcases cells x c h1 with ⟨a1,a2⟩ | a1<;>rcases cells y c h2 with ⟨b1,b2⟩ | b1
  ·exact name_of_addr cok.apart a2 b2
  ·exact absurd (Nat.lt_of_le_of_lt (Nat.le_of_succ_le a1) (oldLt y c b1)) (Nat.lt_irrefl _)
  ·exact absurd (Nat.lt_of_le_of_lt (Nat.le_of_succ_le b1) (oldLt x c a1)) (Nat.lt_irrefl _)
  ·exact I.ok.inj x y c a1 b1
 ·have hx':scope.names.lookup x=some .cell\/scope.names.lookup x=some .free:=by
   rw [kindOf x] at hx
   cases e:scope.names.lookup x with
   | none=>rw [e] at hx;rcases hx with z | z<;>cases z
   | some k=>
    rw [e] at hx
    simp only [oP1] at hx
    cases k<;>simp_all
  have:((cellsFrom (s.heap.objs.size+1) scope.names cl).lookup x).isSome=true:=by
   rcases hx' with z | z
   ·exact PySem.W.cellsFrom_some _ _ _ (.inl z)
   ·exact PySem.W.cellsFrom_some _ _ _ (.inr (clo_has hcl (.inl z)))
  exact Option.isSome_iff_exists.mp this
 ·have h1':scope.names.lookup x=some .cell:=by simpa [cxC] using h1
  have:=cellsFrom_own h1' h2
  exact Nat.le_trans (Nat.le_succ _) this
 ·subst z
  rcases cells x c h with ⟨a1,_⟩ | a1
  ·exact absurd (Nat.lt_of_le_of_lt (Nat.le_of_succ_le a1) (fpLt c hb)) (Nat.lt_irrefl _)
  ·exact (hf c hb).2.2.2.2.1 x c a1 rfl
 ·rcases (hf b hb).2.2.2.1 with z | z
  ·exact I.ok.noex b o e z
  ·exact absurd (nL1 (hL1 e) (Nat.le_trans I.ok.bsz z)) (Nat.lt_irrefl _)
 ·-- a name of the block that has a value:one of the outer text's
  have hi:T.length<=i:=by
   refine Nat.le_of_not_lt fun hi=>?_
   unfold inSt at h2
   rw [gL1 (by rw [lR1];exact hi),List.getElem?_replicate] at h2
   split at h2<;>cases h2
  unfold inSt at h2
  rw [gR1 (by rw [lR1];exact hi),lR1,gP1] at h2
  obtain ⟨j,ej,h2⟩:=oM1.mp h2
  have h1':X.N.getD j (Str.ofString "")=x:=by
   have h1':(T++keep.map fun i=>X.N.getD i (Str.ofString ""))[i]? = some x:=h1
   rw [gR1 hi,gP1,ej] at h1'
   exact Option.some.inj h1'
  obtain ⟨y,ey,fy,ky,ny⟩:=C.free j (gM1 ej)
  have exy:y=x:=by rw [<- h1',List.getD_eq_getElem?_getD,ey];rfl
  subst exy
  have h2':σ[j]? = some (some v):=by
   cases e:σ[j]? with
   | none=>rw [e] at h2;cases h2
   | some o=>rw [e] at h2;cases h2;rfl
  obtain ⟨m,hn,hl⟩:=I.loc
  obtain ⟨u,ru,lu⟩:=hl j y v ey h2' (by
   rcases ky with z | z
   ·exact .inr (.inl z)
   ·exact .inr (.inr z))
  refine ⟨u,ru,?_⟩
  rcases lu with ⟨z,_⟩ | ⟨_,c,ec,zc⟩
  ·rcases ky with q | q<;>(rw [z] at q;cases q)
  ·right
   refine ⟨?_,c,?_,zc.keeps kept⟩
   ·rw [kindOf,fy]
    simp only [oP1]
    split
    ·exact .inl rfl
    ·exact .inr rfl
   ·obtain ⟨c',e'⟩:=Option.isSome_iff_exists.mp (PySem.W.cellsFrom_some scope.names (s.heap.objs.size+1) cl (.inr (clo_has hcl (.inl fy))):((cellsFrom (s.heap.objs.size+1) scope.names cl).lookup y).isSome=true)
    have e2:(cellsFrom (s.heap.objs.size+1) scope.names cl).lookup y=some c':=e'
    rcases cells y c' e2 with ⟨a1,a2⟩ | a1
    ·-- an own cell of that name:its kind would be cell
     exfalso
     have:∀ (names:List (Str×NameKind)) (n:Nat),(y,c')∈cellsFrom n names []->(y,NameKind.cell)∈names:=by
      have app:∀ (names:List (Str×NameKind)) (m:Nat) (acc:List (Str×Addr)),cellsFrom m names acc=cellsFrom m names []++acc:=by
       intro names
       induction names with
       | nil=>intro m acc;rfl
       | cons p r ih=>
        obtain ⟨z,q⟩:=p
        intro m acc
        unfold cellsFrom
        split
        ·rw [ih _ ((z,m)::acc),ih _ [(z,m)],List.append_assoc];rfl
        ·exact ih m acc
      intro names
      induction names with
      | nil=>intro n h;cases h
      | cons p r ih=>
       obtain ⟨z,q⟩:=p
       intro n h
       unfold cellsFrom at h
       split at h
       ·rename_i hq
        rw [app] at h
        rcases List.mem_append.mp h with h | h
        ·exact mC1 _ (ih _ h)
        ·have:(y,c')=(z,n):=by simpa using h
         cases this
         have hq':q=NameKind.cell:=by simpa using hq
         subst hq'
         exact mS1
       ·exact mC1 _ (ih _ h)
     exact ny (this _ _ a2)
    ·rw [ec] at a1;cases a1
     exact e2
 ·rcases cells x c h with ⟨a1,a2⟩ | a1
  ·exact ⟨_,(cok.empty x c a2).1⟩
  ·obtain ⟨v,z⟩:=I.cell x c a1
   exact ⟨v,z.keeps kept⟩
 ·rcases cells x c h with ⟨a1,a2⟩ | a1
  ·exact I.hok.fresh (Nat.le_of_succ_le a1)
  ·exact I.freeC x c a1
 ·show (inSt T.length keep σ).length=(T++keep.map fun i=>X.N.getD i (Str.ofString "")).length
  unfold inSt
  rw [lA1,lA1,lR1,lM1,lM1]
noncomputable def turnT (p:Pos)(tg:Expr)(ifs:List Expr)(it:Value)(env:Env)(emit:Sem Unit)(c:Code):Sem PySem.Fin:=do
 standAt p
 match<-pyNext it with
 | none=>pure (.done .next)
 | some v=>
  letOwnedTupleGo tg it v
  assign tg env v
  let mut ok:=true
  for c in ifs do
   if ok then ok<-isTrue c env (eval c env)
  if ok then emit
  again c
noncomputable def emitE (elt:Expr)(acc:Value)(env:Env):Sem Unit:=do let _<-call (.builtin "list.append") [acc,<- eval elt env]
theorem turn_A (elt tg iter:Expr)(ifs:List Expr)(scope:Scope)(pos:Pos)(it acc:Value)(env:Env):
  compTurn (.ListComp elt [⟨tg,iter,ifs,0⟩] scope pos) 0 it acc env=turnT iter.pos tg ifs it env (emitE elt acc env) (.compLoop (.ListComp elt [⟨tg,iter,ifs,0⟩] scope pos) 0 it acc env):=by rfl
noncomputable def PIfs (X:Cx)(ifs:List Expr)(t:TT):Prop:=
 ∀ (pins:List (Addr×Obj)) (s:Shared) (σ:L2.St) (H:Hp) (Q:Bool->Hp->Prop),Inv X pins σ H s->t σ H Q ->
  wpAny (model X.prog X.w) X.A (forIn ifs true fun c r=>if r=true then do let ok<-isTrue c X.env (eval c X.env);pure (ForInStep.yield ok) else pure (ForInStep.yield r)) (TP X pins σ Q) X.xe s
theorem pifs_nil {X:Cx}:PIfs X [] (fun σ H Q=>Q true H):=fun pins s σ H Q I h=>wpAny_tests_nil ⟨H,I,h⟩
theorem pifs_one {X:Cx}{c:Expr}{t:TT}(h:PT X c t):PIfs X [c] t:=fun pins s σ H Q I q=>wpAny_tests_one (h pins s σ H Q I q)
noncomputable def PU (X:Cx)(m:Sem Unit)(t:TS):Prop:=
 ∀ (pins:List (Addr×Obj)) (s:Shared) (σ:L2.St) (H:Hp) (E:Ends),Inv X pins σ H s->t E σ H->wpAny (model X.prog X.w) X.A m (fun _ s'=>∃ σ' H',Inv X pins σ' H' s'/\E.nx σ' H') X.xe s
theorem comp_loop {X:Cx}(hx:X.xe=fun _ _=>False)(hc:X.calm=true){elt:Expr}{gens:List Comprehension}{scope:Scope}{pos p:Pos}{d:Nat}{tg:Expr}{ifs:List Expr}{acc:Value}{emit:Sem Unit}{J:It}{fp:List Addr}{it:Addr}{tn:Nat->Heap->Prop}{g:TG}{ti:TT}{tb:TS}
  (eq:compTurn (.ListComp elt gens scope pos) d (.ref it) acc X.env=turnT p tg ifs (.ref it) X.env emit (.compLoop (.ListComp elt gens scope pos) d (.ref it) acc X.env))
  (T:Turn X.prog X.w X.K tg J fp it tn) (hg:PG X tg g) (hi:PIfs X ifs ti) (he:PU X emit tb)
  {pins:List (Addr×Obj)} {s:Shared} {σ:L2.St} {H:Hp} {D:Ends} (I:Inv X pins σ H s) (st:tn 0 s.heap) (f2:∀ b∈fp,FpOk X pins H b)
  (h:∃ W:Nat->Nat->L2.St->Hp->Prop,(∃ m,W 0 m σ H) /\ ∀ i m σ H,W i m σ H ->
   (J.stop i H/\D.nx σ H)\/(J.go i H /\ ∃ N:L2.St->Hp->Prop,(∀ σ' H',N σ' H' -> ∃ m',m'<m/\W (i+1) m' σ' H') /\ ∀ x H',J.yld i H x H'->g x σ H' fun σ2 H2=>ti σ2 H2 fun b H3=>if b=true then tb {D with nx:=N} σ2 H3 else N σ2 H3)):
  codeAny (model X.prog X.w) X.A (.compLoop (.ListComp elt gens scope pos) d (.ref it) acc X.env) (fun r s'=>match r with | .ok _=>∃ σ' H',Inv X pins σ' H' s'/\D.nx σ' H' | .error _=>False) s:=by
 obtain ⟨W,⟨m0,w0⟩,turn⟩:=h
 have stat:∀ {H':Hp},(∀ b∈fp,H' b=none) -> ∀ b∈fp,FpOk X pins H' b:=fun hn b hb=>⟨hn b hb,(f2 b hb).2⟩
 refine codeAny_loop rfl (fun n s'=>∃ i σ' H',Inv X pins σ' H' s'/\tn i s'.heap/\(∀ b∈fp,H' b=none)/\W i n σ' H') ?_ m0 ⟨0,σ,H,I,st,fun b hb=>(f2 b hb).1,w0⟩
 rintro n s3 ⟨i,σ3,H3,I3,st3,fr3,w3⟩
 show wpAny _ _ ((compTurn (.ListComp elt gens scope pos) d (.ref it) acc X.env).onRaise (fun x=>do noteFrame x X.env;theTreesLotGoes x)) _ _ s3
 refine wpAny_noted ?_
 rw [eq]
 have no:∀ {α:Type} {m:Sem α} {Q:α->Shared->Prop} {s:Shared} {E:Value->Shared->Prop},wpAny (model X.prog X.w) X.A m Q X.xe s->wpAny (model X.prog X.w) X.A m Q E s:=fun h=>by
  rw [hx] at h
  exact wpAny_mono h (fun _ _ q=>q) fun _ _ q=>q.elim
 unfold turnT
 refine wB1 (wpAny_standAt (wB1 ?_))
 rcases turn i n σ3 H3 w3 with ⟨stop,qn⟩ | ⟨go,N,hN,step⟩
 ·refine no (thn (T.done X rfl rfl rfl hc i pins s3 σ3 H3 X.xe I3 (stat fr3) st3 stop) fun r s4 ⟨hr,I4⟩=>?_)
  subst hr
  exact wP1 ⟨σ3,H3,I4,qn⟩
 ·refine no (thn (T.item X rfl rfl rfl hc i pins s3 σ3 H3 X.xe I3 (stat fr3) st3 go) fun r s4 ⟨u,hr,h4⟩=>?_)
  subst hr
  refine wB1 (no (thn h4 fun _ s5 ⟨x,H5,I5,r5,y5,st5,fr5⟩=>?_))
  have I5':=I5.pinned (stat fr5) (T.obj _ _ st5)
  refine wB1 (no (thn (hg _ s5 σ3 H5 x u _ I5' r5 (step x H5 y5)) fun _ s6 ⟨σ6,H6,I6,q6⟩=>?_))
  refine wB1 (no (thn (hi _ s6 σ6 H6 _ I6 q6) fun ok s7 ⟨H7,I7,q7⟩=>?_))
  have again':∀ {σ7:L2.St} {H7:Hp} {s7:Shared},Inv X (pins++pinsAt fp s5.heap) σ7 H7 s7->N σ7 H7 -> ∃ m,m<n /\ ∃ i σ' H',Inv X pins σ' H' s7/\tn i s7.heap/\(∀ b∈fp,H' b=none)/\W i m σ' H':=fun {σ7 H7 s7} I7 n7=>by
   obtain ⟨m',hm,w7⟩:=hN σ7 H7 n7
   refine ⟨m',hm,i+1,σ7,H7,I7.unpinned,T.keep _ _ _ st5 fun b hb o e=>(I7.pin (b,o) (mA1 _ (mA1 _ (mem_pinsAt hb e)))).1,fun b hb=>?_,w7⟩
   obtain ⟨o,e,d⟩:=T.obj _ _ st5 b hb
   exact (I7.pin (b,o) (mA1 _ (mA1 _ (mem_pinsAt hb e)))).2.1
  cases ok with
  | false=>exact wP1 ⟨rfl,again' I7 q7⟩
  | true=>exact wB1 (no (thn (he _ s7 σ6 H7 _ I7 q7) fun _ s8 ⟨σ8,H8,I8,q8⟩=>wP1 ⟨rfl,again' I8 q8⟩))
noncomputable def tEmit (p:Addr)(te:TE):TS:=fun D σ H=>te σ H fun x H1=>∃ xs,H1 p=some (.lst xs)/\xs.length<sizeLine/\D.nx σ (upd H1 p (.lst (xs++[x])))
theorem pu_emit {X:Cx}{elt:Expr}{te:TE}(h:PE X elt te)(p:Addr):PU X (emitE elt (.ref p) X.env) (tEmit p te):=by
 intro pins s σ H E I q
 unfold emitE
 refine wB1 (thn (h pins s σ H _ I q) fun u s1 ⟨x,H1,I1,r1,xs,e1,hl,q1⟩=>?_)
 refine wB1 (thn (mt_append pins s1 σ H1 (.ref p) [x] (.ref p) [u] (fun _ H'=>E.nx σ H') I1 rfl (.cons r1 .nil) ⟨p,xs,x,rfl,rfl,e1,hl,q1⟩) fun _ s2 ⟨_,H2,I2,_,q2⟩=>?_)
 exact wP1 ⟨σ,H2,I2,q2⟩
noncomputable def tLoop (J:It)(g:TG)(ti:TT)(tb:TS):TS:=fun D σ H=>∃ W:Nat->Nat->L2.St->Hp->Prop,(∃ m,W 0 m σ H) /\ ∀ i m σ H,W i m σ H ->
 (J.stop i H/\D.nx σ H)\/(J.go i H /\ ∃ N:L2.St->Hp->Prop,(∀ σ' H',N σ' H' -> ∃ m',m'<m/\W (i+1) m' σ' H') /\ ∀ x H',J.yld i H x H'->g x σ H' fun σ2 H2=>ti σ2 H2 fun b H3=>if b=true then tb {D with nx:=N} σ2 H3 else N σ2 H3)
theorem Un.sameBut {fs ex:List Addr}{H H':Hp}{h h1 h2:Heap}{c:Addr}(u:Un fs ex H H' h h1)(hs:Heap.SameBut c h1 h2)(hc:h.get? c=none):Un fs ex H H' h h2:=by
 have ne:∀ {b o},h.get? b=some o->b≠c:=fun e z=>by rw [z,hc] at e;cases e
 refine ⟨fun b o e n hb hx=>(hs.2 b (ne e)).trans (u.keep b o e n hb hx),fun b o e n hb hx=>?_,u.free,fun b o e hx=>?_,u.tups,u.frzs,u.tbls⟩
 ·obtain ⟨sl,q⟩:=u.slot b o e n hb hx
  exact ⟨sl,(hs.2 b (ne e)).trans q⟩
 ·obtain ⟨o',q⟩:=u.there b o e hx
  exact ⟨o',(hs.2 b (ne e)).trans q⟩
noncomputable def tComp (k:Nat)(keep:List Nat)(wi:TI)(g:TG)(ti:TT)(tb:Addr->TS):TE:=fun σ H Q=>wi σ H fun J H1=>∀ p,H1 p=none ->
 tLoop J g ti (tb p) {nx:=fun _ H'=>Q (.ref p) H',rt:=fun _ _=>False} (inSt k keep σ) (upd H1 p (.lst []))
theorem pe_comp {X:Cx}(hc:X.calm=true){elt tg iter:Expr}{ifs:List Expr}{rest:List Comprehension}{scope:Scope}{pos:Pos}{T:List Str}{keep:List Nat}{cl:List (Str×Addr)}{wi:TI}{g:TG}{ti:TT}{tb:Addr->TS}{emit:Value->Env->Sem Unit}
  (eq:∀ it acc env,compTurn (.ListComp elt (⟨tg,iter,ifs,0⟩::rest) scope pos) 0 it acc env=turnT iter.pos tg ifs it env (emit acc env) (.compLoop (.ListComp elt (⟨tg,iter,ifs,0⟩::rest) scope pos) 0 it acc env))
  (C:CSc X scope T keep) (hcl:cloF X.env.cells scope.names []=some cl) (hi:PI X tg iter wi)
  (hb:∀ s H fp p,PG (cxC X scope cl T keep s H fp) tg g/\PIfs (cxC X scope cl T keep s H fp) ifs ti/\PU (cxC X scope cl T keep s H fp) (emit (.ref p) (cxC X scope cl T keep s H fp).env) (tb p))
  (hs:∀ x,foldedSetIterable iter X.env x=pure x:=by intro _;rfl):
  PE X (.ListComp elt (⟨tg,iter,ifs,0⟩::rest) scope pos) (tComp T.length keep wi g ti tb):=by
 intro pins s σ H Q I h
 rw [eval_ListComp]
 refine wpAny_comprehension_free (use:=none) rfl hs (clo_eq hcl) C.kind C.names ?_
 refine thn (hi pins s σ H _ I h) fun v s1 h1=>thn h1 fun itv s2 h2=>?_
 obtain ⟨it,fp,tn,J,H2,rfl,I2,TT,st2,f2,q2⟩:=h2
 refine wO1 ?_
 have I3:Inv X pins σ (upd H2 s2.heap.objs.size (.lst [])) {s2 with heap:=s2.heap.push {cls:=.type "list",data:=.seq ([]:List Value).toArray}}:=I2.lnew (t':=s2.toks) .nil (Nat.zero_le _)
 have old:∀ b∈fp,∃ o,s2.heap.get? b=some o:=fun b hb=>by
  obtain ⟨o,e,_⟩:=TT.obj 0 s2.heap st2 b hb
  exact ⟨o,e⟩
 have fne:∀ b∈fp,b≠s2.heap.objs.size:=fun b hb z=>by
  obtain ⟨o,e⟩:=old b hb
  have:=hL1 e
  rw [z] at this
  exact Nat.lt_irrefl _ this
 have f3:∀ b∈fp,FpOk X pins (upd H2 s2.heap.objs.size (.lst [])) b:=fun b hb=>⟨by rw [upd_ne (fne b hb)];exact (f2 b hb).1,(f2 b hb).2⟩
 have o3:∀ b∈fp,∃ o,({s2 with heap:=s2.heap.push {cls:=.type "list",data:=.seq ([]:List Value).toArray}}:Shared).heap.get? b=some o:=fun b hb=>by
  obtain ⟨o,e⟩:=old b hb
  exact ⟨o,hP1 _ e⟩
 have I4:=inv_comp I3 C hcl f3 o3
 obtain ⟨hg,hf,he⟩:=hb {s2 with heap:=s2.heap.push {cls:=.type "list",data:=.seq ([]:List Value).toArray}} (upd H2 s2.heap.objs.size (.lst [])) fp s2.heap.objs.size
 refine newEnv_around ?_
 have f4:∀ b∈fp,FpOk (cxC X scope cl T keep {s2 with heap:=s2.heap.push {cls:=.type "list",data:=.seq ([]:List Value).toArray}} (upd H2 s2.heap.objs.size (.lst [])) fp) [] (upd H2 s2.heap.objs.size (.lst [])) b:=fun b hb=>
  ⟨(f3 b hb).1,(I4.ok.exf b hb).1,I4.ok.exfs b hb,.inl hb,(I4.ok.exf b hb).2,fun p hp=>absurd (show p∈([]:List (Addr×Obj)) from hp) (by simp)⟩
 have st4:tn 0 (pushCells ((s2.heap.push {cls:=.type "list",data:=.seq ([]:List Value).toArray}).push {cls:=.type "dict",data:=.dict #[]}) scope.names):=
  TT.keep 0 s2.heap _ st2 fun b hb o e=>pushCells_keeps scope.names _ b o (hP1 _ (hP1 _ e))
 have loop:=comp_loop (X:=cxC X scope cl T keep {s2 with heap:=s2.heap.push {cls:=.type "list",data:=.seq ([]:List Value).toArray}} (upd H2 s2.heap.objs.size (.lst [])) fp) rfl hc (eq (.ref it) (.ref s2.heap.objs.size) _) TT hg hf he I4 st4 f4
  (q2 s2.heap.objs.size (I2.hok.fresh (nR1 _)))
 refine codeAny_mono (codeAny_compStart_list loop (TT.self X.A 0 _ _ _ st4 loop)) fun r s' hr=>?_
 cases r with
 | error e=>exact hr.elim
 | ok f=>
  obtain ⟨σ',H',I',q'⟩:=hr
  obtain ⟨m,hn,_⟩:=id I'.loc
  refine ⟨m,hn,fun h' hs'=>⟨.ref s2.heap.objs.size,H',?_,rfl,q'⟩⟩
  refine I3.call' (s':={s' with heap:=h'}) (ch:=fp) I'.os (Un.sameBut I'.base hs' (Heap.get?_none_of_le (nR1 _))) (fun b ob e=>?_) I'.bare fun b hb=>(f3 b hb).2.2.2 |> fun z=>⟨z.1,(f3 b hb).2.1,z.2.1,z.2.2⟩
  refine (I'.hok b ob e).stay (fun c w' hc q=>(hs'.2 c ?_).trans q) (fun _ q=>q) fun _ _ q=>q
  rintro rfl
  have fr:=I'.free
  rcases hc with rfl | hc
  ·exact nomatch fr.symm.trans e
  ·exact nomatch fr.symm.trans hc
section
variable {K:Fg1} {H:Hp} {mu:List Addr} {S:Sto} {p:Addr} {u:HO} {o:Ob} {n:Nat}
theorem Rd.ne {a:Addr}{x:HO}(h:H p=none)(q:Rd H a x):a≠p:=by
 rintro rfl
 rcases q with q | ⟨_,q⟩<;>(rw [h] at q;cases q)
theorem Ext.fresh (hp:H p=none):Ext mu mu H (upd H p u) where
 pre:=List.prefix_rfl
 old:=fun a o h _=>by rw [upd_ne (ne_of_none h hp)];exact h
 tup:=fun a xs h=>by
  have ne:=Rd.ne hp h
  rcases h with h | ⟨ob,h⟩
  ·exact .inl (by rw [upd_ne ne];exact h)
  ·exact .inr ⟨ob,by rw [upd_ne ne];exact h⟩
 frz:=fun a o x h=>by rw [upd_ne (ne_of_none h hp)];exact h
 new:=fun _ h=>.inl h
theorem Ext.new_ (hp:H p=none):Ext mu (mu++[p]) H (upd H p u) where
 pre:=List.prefix_append _ _
 old:=(Ext.fresh (mu:=mu) hp).old
 tup:=(Ext.fresh (mu:=mu) hp).tup
 frz:=(Ext.fresh (mu:=mu) hp).frz
 new:=fun a h=>by
  rcases List.mem_append.mp h with h | h
  ·exact .inl h
  ·have:a=p:=by simpa using h
   subst this
   exact .inr hp
theorem Sim.fresh (s:Sim K H mu S)(hp:H p=none):Sim K (upd H p u) mu S:=
 ⟨s.len,s.nd,fun k o a h1 h2=>(s.ob k o a h1 h2).keep (Ext.fresh hp) fun ob e=>by rw [upd_ne (ne_of_none e hp)];exact e⟩
theorem Sim.notin (s:Sim K H mu S)(hp:H p=none):p∉mu:=fun h=>by
 obtain ⟨o,e⟩:=s.here h
 rw [hp] at e;cases e
theorem ObR.more {a:Addr}{mu':List Addr}{H':Hp}(e:Ext mu mu' H H')(h:∀ o,H a=some o->H' a=some o):∀ {o:Ob},ObR K H mu a o->ObR K H' mu' a o
 | .lst _,⟨vs,q,r⟩=>⟨vs,h _ q,r.ext e⟩
 | .dct _,⟨ws,q,r⟩=>⟨ws,h _ q,KR.ext e r⟩
 | .dcT _,⟨ws,q,r,l⟩=>⟨ws,h _ q,KT.ext e r,l⟩
 | .iset _,q=>⟨h _ q.1,q.2⟩
 | .dcF _,⟨ws,⟨o,u,e1,e2⟩,r,l⟩=>⟨ws,⟨o,u,h _ e1,e2⟩,KT.ext e r,l⟩
theorem Sim.new (s:Sim K H mu S)(hp:H p=none)(ho:ObR K (upd H p u) (mu++[p]) p o):Sim K (upd H p u) (mu++[p]) (S++[o]):=by
 refine ⟨by rw [lA1,lA1,s.len];rfl,?_,fun k o' a h1 h2=>?_⟩
 ·rw [List.nodup_append]
  refine ⟨s.nd,by simp,fun a ha b hb e=>?_⟩
  have:b=p:=by simpa using hb
  subst this;subst e
  exact s.notin hp ha
 ·by_cases hk:k<S.length
  ·rw [gL1 hk] at h1
   rw [gL1 (by rw [s.len];exact hk)] at h2
   exact (s.ob k o' a h1 h2).more (Ext.new_ hp) fun ob e=>by rw [upd_ne (ne_of_none e hp)];exact e
  ·have hk':k=S.length:=by
    have:=(gE1.mp h1).1
    rw [lA1] at this
    simp at this
    lia
   subst hk'
   rw [gR1 (nR1 _)] at h1
   rw [<- s.len,gR1 (nR1 _)] at h2
   simp at h1 h2
   subst h1;subst h2
   exact ho
theorem Ext.put {x:HO}(hp:H p=some x)(hm:Mut (some x))(hin:p∈mu):Ext mu mu H (upd H p u) where
 pre:=List.prefix_rfl
 old:=fun a o h n=>by rw [upd_ne (fun e=>n (by rw [e];exact hin))];exact h
 tup:=fun a xs h=>by
  have ne:a≠p:=by
   rintro rfl
   rcases h with h | ⟨_,h⟩<;>(rw [hp] at h;cases h;exact hm)
  rcases h with h | ⟨ob,h⟩
  ·exact .inl (by rw [upd_ne ne];exact h)
  ·exact .inr ⟨ob,by rw [upd_ne ne];exact h⟩
 frz:=fun a o y h=>by
  rw [upd_ne (fun e=>?_)]
  ·exact h
  ·subst e;rw [hp] at h;cases h;exact hm
 new:=fun _ h=>.inl h
theorem Sim.put (s:Sim K H mu S){x:HO}(hn:mu[n]? = some p)(hp:H p=some x)(hm:Mut (some x))(ho:ObR K (upd H p u) mu p o):Sim K (upd H p u) mu (S.set n o):=by
 refine ⟨by rw [List.length_set];exact s.len,s.nd,fun k o' a h1 h2=>?_⟩
 by_cases hk:n=k
 ·subst hk
  have hl:n<S.length:=by
   have:=(gE1.mp h1).1
   rwa [List.length_set] at this
  rw [List.getElem?_set_self hl] at h1
  cases h1
  rw [hn] at h2;cases h2
  exact ho
 ·rw [gS1 hk] at h1
  have ne:a≠p:=fun e=>by
   subst e
   obtain ⟨l1,e1⟩:=gE1.mp hn
   obtain ⟨l2,e2⟩:=gE1.mp h2
   exact hk ((List.getElem_inj s.nd).mp (e1.trans e2.symm))
  exact (s.ob k o' a h1 h2).keep (Ext.put hp hm (gM1 hn)) fun ob e=>by rw [upd_ne ne];exact e
theorem Sim.lst (s:Sim K H mu S){ds:List D}{a:Addr}(h:S[n]? = some (.lst ds))(hn:mu[n]? = some a):∃ vs,H a=some (.lst vs)/\Reps K H mu ds vs:=s.ob n _ a h hn
theorem Sim.dcT (s:Sim K H mu S){ks:List (TK×D)}{a:Addr}(h:S[n]? = some (.dcT ks))(hn:mu[n]? = some a):∃ ws,H a=some (.ext (DictAt a ws))/\KT K H mu ks ws/\ws.length<=sizeLine:=s.ob n _ a h hn
theorem Sim.dct (s:Sim K H mu S){ks:List (Key×D)}{a:Addr}(h:S[n]? = some (.dct ks))(hn:mu[n]? = some a):∃ ws,H a=some (.dK ws)/\KR K H mu ks ws:=s.ob n _ a h hn
theorem Sim.newL (s:Sim K H mu S){ds:List D}{vs:List V}(r:Reps K H mu ds vs)(hp:H p=none):Sim K (upd H p (.lst vs)) (mu++[p]) (S++[.lst ds]):=s.new hp ⟨vs,upd_same,r.ext (Ext.new_ hp)⟩
theorem Sim.putL (s:Sim K H mu S){ds:List D}{vs ws:List V}(r:Reps K H mu ds vs)(hn:mu[n]? = some p)(hp:H p=some (.lst ws)):Sim K (upd H p (.lst vs)) mu (S.set n (.lst ds)):=
 s.put hn hp trivial ⟨vs,upd_same,r.ext (Ext.put hp trivial (gM1 hn))⟩
end
theorem new_at {mu:List Addr}{S:Sto}(h:mu.length=S.length)(p:Addr):(mu++[p])[S.length]? = some p:=by
 rw [<- h,gR1 (nR1 _)];simp
noncomputable def mTup (a:FA):FE:=fun r S=>(a r S).bind fun p=>if p.1.length<=sizeLine then some (.tup p.1,p.2) else none
noncomputable def mLst (a:FA):FE:=fun r S=>(a r S).bind fun p=>if p.1.length<=sizeLine then some (.ref p.2.length,p.2++[.lst p.1]) else none
section
variable {X:Cx} {es:List Expr} {pos:Pos} {a:FA}
theorem me_tup {x1}(h:MA X es a):ME X (.Tuple es x1 pos) (mTup a):=pe_imp (pe_tup h) <| by
 rintro σ H Q ⟨r,mu,S,d,S',he,hs,hm,hc⟩
 obtain ⟨⟨ds,S1⟩,e1,hm⟩:=oB1.mp hm
 dsimp only at hm
 split at hm
 ·rename_i hl
  cases hm
  refine ⟨r,mu,S,ds,_,he,hs,e1,fun vs H1 mu1 x1 r1 s1=>⟨by rw [<- r1.length];exact hl,fun p hp=>?_⟩⟩
  exact hc _ _ mu1 (x1.trans (Ext.fresh hp)) (.tup (SqT.of upd_same) (r1.ext (Ext.fresh hp))) (s1.fresh hp)
 ·cases hm
theorem me_lst (h:MA X es a):ME X (.List es pos) (mLst a):=pe_imp (pe_lst h) <| by
 rintro σ H Q ⟨r,mu,S,d,S',he,hs,hm,hc⟩
 obtain ⟨⟨ds,S1⟩,e1,hm⟩:=oB1.mp hm
 dsimp only at hm
 split at hm
 ·rename_i hl
  cases hm
  refine ⟨r,mu,S,ds,_,he,hs,e1,fun vs H1 mu1 x1 r1 s1=>⟨by rw [<- r1.length];exact hl,fun p hp=>?_⟩⟩
  exact hc _ _ (mu1++[p]) (x1.trans (Ext.new_ hp)) (.ref (new_at s1.len p)) (s1.newL r1 hp)
 ·cases hm
end
noncomputable def inEv (k:Nat)(keep:List Nat)(r:Ev):Ev:=List.replicate k none++keep.map fun i=>(r[i]?).join
noncomputable def mTrue:FT:=fun _ S=>some (true,S)
theorem inEnv {K:Fg1}{H:Hp}{mu:List Addr}{r:Ev}{σ:L2.St}(k:Nat)(keep:List Nat)(h:EnvR K H mu r σ):EnvR K H mu (inEv k keep r) (inSt k keep σ):=by
 refine ⟨by unfold inEv inSt;rw [lA1,lA1,lM1,lM1,lR1,lR1],fun i d e=>?_⟩
 unfold inEv at e
 unfold inSt
 by_cases hi:i<k
 ·rw [gL1 (by rw [lR1];exact hi),List.getElem?_replicate] at e
  split at e<;>cases e
 ·rw [gR1 (by rw [lR1];lia),lR1,gP1] at e
  rw [gR1 (by rw [lR1];lia),lR1,gP1]
  obtain ⟨j,ej,e⟩:=oM1.mp e
  rw [ej]
  have e':r[j]? = some (some d):=by
   cases q:r[j]? with
   | none=>rw [q] at e;cases e
   | some o=>rw [q] at e;cases e;rfl
  obtain ⟨v,ev,rv⟩:=h.val j d e'
  exact ⟨v,by rw [oP1,ev];rfl,rv⟩
section
variable {X:Cx}
theorem pifs_imp {ifs:List Expr}{t t':L2.TT}(h:PIfs X ifs t)(i:∀ σ H Q,t' σ H Q->t σ H Q):PIfs X ifs t':=fun pins s σ H Q I q=>h pins s σ H Q I (i σ H Q q)
theorem mif_nil:PIfs X [] (tMT X.K mTrue):=pifs_imp pifs_nil fun σ H Q ⟨r,mu,S,b,S',he,hs,hm,hc⟩=>by cases hm;exact hc H mu (.refl _ _) hs
theorem mif_one {c:Expr}{t:FT}(h:MT X c t):PIfs X [c] (tMT X.K t):=pifs_one h
end
open PySem.AutoSeq1 (wpAny_loadPart')
noncomputable def SIt (b:Bool)(h:Heap)(it a:Addr)(i:Nat):Prop:=match b with
 | true=>h.IsListIter it a i
 | false=>h.IsTupleIter it a i
noncomputable def SCo (b:Bool)(h:Heap)(a:Addr)(xs:Array Value):Prop:=match b with
 | true=>h.IsList a xs
 | false=>h.IsTuple a xs
theorem SIt.to {b:Bool}{h h':Heap}{it a:Addr}{i:Nat}(x:SIt b h it a i)(k:∀ o,h.get? it=some o->h'.get? it=some o):SIt b h' it a i:=by
 cases b<;>(obtain ⟨o,e,r⟩:=x;exact ⟨o,k o e,r⟩)
theorem SIt.rec_ {b:Bool}{h:Heap}{it a:Addr}{i:Nat}(x:SIt b h it a i):∃ o,h.get? it=some o /\ ∀ v,o.data ≠ .cell v:=by
 cases b<;>(obtain ⟨o,e,c,d⟩:=x;exact ⟨o,e,fun v z=>by rw [d] at z;cases z⟩)
theorem SCo.to {b:Bool}{h h':Heap}{a:Addr}{xs:Array Value}(x:SCo b h a xs)(k:∀ o,h.get? a=some o->h'.get? a=some o):SCo b h' a xs:=by
 cases b<;>(obtain ⟨o,e,r⟩:=x;exact ⟨o,k o e,r⟩)
noncomputable def itObj (b:Bool)(a:Addr):Obj:=match b with
 | true=>{cls:=.type "list_iterator",data:=.fields #[.ref a,.int 0 0]}
 | false=>{cls:=.type "tuple_iterator",data:=.fields #[.ref a,.int 0 0]}
section
variable {prog:Program} {w:World} {A:Around} {E:Value->Shared->Prop} {s:Shared}
theorem sit_new {b:Bool}{h:Heap}{it a:Addr}(e:h.get? it=some (itObj b a)):SIt b h it a 0:=by
 cases b<;>exact ⟨_,e,rfl,rfl⟩
theorem sit_iter {b:Bool}{a:Addr}{xs:Array Value}{Q:Value->Shared->Prop}(x:SCo b s.heap a xs)(h:Q (.ref s.heap.objs.size) {s with heap:=s.heap.push (itObj b a)}):wpAny (model prog w) A (pyIter (.ref a)) Q E s:=by
 cases b
 ·exact wpAny_pyIter_tuple x h
 ·exact wpAny_pyIter_list x h
theorem next_tup {it l:Addr}{i:Nat}{xs:Array Value}{x:Value}{Q:Value->Shared->Prop}(ti:s.heap.IsTupleIter it l i)(tl:s.heap.IsTuple l xs)(hx:xs[i]? = some x)
  (hQ:∀ h',h'.IsTupleIter it l (i+1)->Heap.SameBut it s.heap h'->Q x {s with heap:=h'}):wpAny (model prog w) A (Builtin.SmallTypes.nextOf (.ref it)) Q E s:=by
 obtain ⟨o,ho,hc,hd⟩:=id ti;obtain ⟨ob,hob,_,nb,hdb⟩:=tl;unfold Builtin.SmallTypes.nextOf
 refine wB1 (wpAny_callSpecial?_slot (name:=Str.ofString "__next__") ti.typeIs F.slot_tuple_iterator_next (wE1 F.slot_tuple_iterator_next ti.typeIs F.entry_tuple_iterator_next ?_ (F.args_tuple_iterator_next_1 _)))
 show wpAny _ _ (field (.ref it) 0 >>= _) _ _ s;refine wB1 (wpAny_field ho hd (x:=.ref l) rfl ?_)
 show wpAny _ _ (if (Value.ref l == Value.none)=true then _ else _) _ _ s;rw [if_neg (show ¬ ((Value.ref l == Value.none)=true) from Bool.false_ne_true)]
 show wpAny _ _ (field (.ref it) 1 >>= _) _ _ s;refine wB1 (wpAny_field ho hd (x:=.int i 0) rfl ?_)
 show wpAny _ _ (seqItems? (.ref l) >>= _) _ _ s;refine wB1 (wpAny_seqItems hob hdb ?_)
 simp only [Int.toNat_natCast,hx]
 refine wB1 (wpAny_setField ho hd (by simp) (wP1 ⟨x,rfl,wP1 (hQ _ ⟨_,hW1 _ ho (Obj.isFreed_of_fields (Obj.data_mapFields hd _)),(Obj.cls_mapFields ..).trans hc,by rw [Obj.data_mapFields hd];simp [rawInt]⟩ (Heap.SameBut.update ..))⟩))
theorem next_tup_end {it l:Addr}{i:Nat}{xs:Array Value}{Q:Value->Shared->Prop}(hh:A.handled=none)(ti:s.heap.IsTupleIter it l i)(tl:s.heap.IsTuple l xs)(hx:xs[i]? = none)
  (hE:∀ h' e,Heap.ExtBut it s.heap h'->(∃ o,h'.get? e=some o/\o.cls = .type "StopIteration")->E (.ref e) {s with heap:=h'}):wpAny (model prog w) A (Builtin.SmallTypes.nextOf (.ref it)) Q E s:=by
 obtain ⟨o,ho,hc,hd⟩:=id ti;obtain ⟨ob,hob,_,nb,hdb⟩:=tl;unfold Builtin.SmallTypes.nextOf
 refine wB1 (wpAny_callSpecial?_slot (name:=Str.ofString "__next__") ti.typeIs F.slot_tuple_iterator_next (wE1 F.slot_tuple_iterator_next ti.typeIs F.entry_tuple_iterator_next ?_ (F.args_tuple_iterator_next_1 _)))
 show wpAny _ _ (field (.ref it) 0 >>= _) _ _ s;refine wB1 (wpAny_field ho hd (x:=.ref l) rfl ?_)
 show wpAny _ _ (if (Value.ref l == Value.none)=true then _ else _) _ _ s;rw [if_neg (show ¬ ((Value.ref l == Value.none)=true) from Bool.false_ne_true)]
 show wpAny _ _ (field (.ref it) 1 >>= _) _ _ s;refine wB1 (wpAny_field ho hd (x:=.int i 0) rfl ?_)
 show wpAny _ _ (seqItems? (.ref l) >>= _) _ _ s;refine wB1 (wpAny_seqItems hob hdb ?_)
 simp only [Int.toNat_natCast,hx];refine wB1 (wpAny_rule (wB1 (wpAny_setField ho hd (by simp) ?_)))
 show wpAny _ _ (newExc (.type "StopIteration") [] >>= _) _ _ _;refine wB1 ?_
 simp only [newExc,newTuple];refine wB1 (wO1 ?_ (by size_fits))
 refine wB1 (m:=firstArgMember _ _) (wpAny_of_eq (a:=Value.none) (by first | rfl | (simp only [firstArgMember];rfl)) ?_);refine wO1 ?_ (by size_fits)
 simp only [raiseNew];refine wB1 (wpAny_handled ?_)
 first | rw [show A.in1.handled=none from hh] | rw [hh]
 refine wB1 (wP1 (wpAny_throw ?_));exact hE _ _ (((Heap.SameBut.update ..).extBut.push _).push _) ⟨_,hS1 _ rfl,rfl⟩
theorem next_seq {b:Bool}{it l:Addr}{i:Nat}{xs:Array Value}{x:Value}{Q:Value->Shared->Prop}(ti:SIt b s.heap it l i)(tl:SCo b s.heap l xs)(hx:xs[i]? = some x)
  (hQ:∀ h',SIt b h' it l (i+1)->Heap.SameBut it s.heap h'->Q x {s with heap:=h'}):wpAny (model prog w) A (Builtin.SmallTypes.nextOf (.ref it)) Q E s:=by
 cases b
 ·exact next_tup ti tl hx hQ
 ·exact wpAny_nextOf_list_item ti tl hx hQ
theorem next_seq_end {b:Bool}{it l:Addr}{i:Nat}{xs:Array Value}{Q:Value->Shared->Prop}(hh:A.handled=none)(ti:SIt b s.heap it l i)(tl:SCo b s.heap l xs)(hx:xs[i]? = none)
  (hE:∀ h' e,Heap.ExtBut it s.heap h'->(∃ o,h'.get? e=some o/\o.cls = .type "StopIteration")->E (.ref e) {s with heap:=h'}):wpAny (model prog w) A (Builtin.SmallTypes.nextOf (.ref it)) Q E s:=by
 cases b
 ·exact next_tup_end hh ti tl hx hE
 ·exact wpAny_nextOf_list_end hh ti tl hx hE
theorem enum_new {b:Bool}(l:Addr)(xs:Array Value):
  Meets (Builtin.«enumerate.__new__» ⟨[.type "enumerate",.ref l],[]⟩) (fun _ R s=>SCo b s.heap l xs /\
   R (.ok (.ret (.ref (s.heap.push (itObj b l)).objs.size))) {s with heap:=(s.heap.push (itObj b l)).push {cls:=.type "enumerate",data:=.fields #[.none,.bool false,.ref s.heap.objs.size,rawInt 0,.none,.none]}}):=
 .of_wp fun prog w A R s h=>by
  obtain ⟨hp,g,d,tk,os⟩:=s;obtain ⟨hl,h⟩:=h;have hsub:=sub_enumerate
  have hL:SCo b (Shared.heap ⟨hp,g,d,tk,os⟩) l xs:=hl
  obtain ⟨ol,el⟩:∃ o,hp.get? l=some o:=by cases b<;>(obtain ⟨o,e,_⟩:=hl;exact ⟨o,e⟩)
  wp_walk using wpAny_loadPart' el
  refine wpAny_stack_any fun st=>wP1 ?_
  split
  ·rename_i c _ _ _ _ _
   cases (c == Value.type "enumerate")<;>(wp_walk using wpAny_loadPart' el,sit_iter hL;exact ⟨_,rfl,h⟩)
  ·wp_walk using wpAny_loadPart' el,sit_iter hL
   exact ⟨_,rfl,h⟩
theorem enum_call {b:Bool}{l:Addr}{xs:Array Value}{Q:Value->Shared->Prop}(hL:SCo b s.heap l xs)
  (h:∀ h',IsEnum h' (s.heap.objs.size+1) s.heap.objs.size 0 .none->SIt b h' s.heap.objs.size l 0->h'.objs.size=s.heap.objs.size+2->(∀ b o,s.heap.get? b=some o->h'.get? b=some o)->Q (.ref (s.heap.objs.size+1)) {s with heap:=h'}):
  wpAny (model prog w) A (call (.type "enumerate") [.ref l]) Q E s:=by
 refine callType_new F.called_enumerate (by decide) (F.typeCall_enumerate_1 _) (F.newCall_enumerate_1 _) (fun obj=>F.args_object_init_2 obj _) F.entry_enumerate_new (enum_new (b:=b) l xs) ⟨hL,?_⟩
 have hz:(s.heap.push (itObj b l)).objs.size=s.heap.objs.size+1:=hZ1 ..
 show _/\_
 rw [hz]
 have he:IsEnum ((s.heap.push (itObj b l)).push {cls:=.type "enumerate",data:=.fields #[.none,.bool false,.ref s.heap.objs.size,rawInt 0,.none,.none]}) (s.heap.objs.size+1) s.heap.objs.size 0 .none:=by
  have q:=hS1 (s.heap.push (itObj b l)) (o:={cls:=.type "enumerate",data:=.fields #[.none,.bool false,.ref s.heap.objs.size,rawInt 0,.none,.none]}) rfl
  rw [hz] at q;exact q
 have hi:(s.heap.push (itObj b l)).get? s.heap.objs.size=some (itObj b l):=hS1 _ (by cases b<;>rfl)
 refine ⟨⟨_,he,rfl⟩,h _ he (sit_new (hP1 _ hi)) (by rw [hZ1,hz]) fun c o x=>hP1 _ (hP1 _ x)⟩
theorem enum_next {b:Bool}{e it l:Addr}{i:Nat}{xs:Array Value}{x old:Value}{Q:Option Value->Shared->Prop}(he:IsEnum s.heap e it i old)(ti:SIt b s.heap it l i)(tl:SCo b s.heap l xs)(hx:xs[i]? = some x)(hne:e≠it)
  (hQ:∀ h',IsEnumOut h' e it ((i:Int)+1) x s.heap.objs.size->SIt b h' it l (i+1)->h'.get? s.heap.objs.size=some {cls:=.type "tuple",data:=.seq #[.int i s.toks,x]}->h'.objs.size=s.heap.objs.size+1 ->
   (∀ b o,b≠e->b≠it->s.heap.get? b=some o->h'.get? b=some o)->Q (some (.ref s.heap.objs.size)) {s with heap:=h',toks:=s.toks+1}):wpAny (model prog w) A (pyNext (.ref e)) Q E s:=by
 have hT:s.TypeIs (.ref e) "enumerate":=⟨_,he,rfl⟩
 unfold pyNext
 refine wB1 (wpAny_attempt (wpAny_callSpecial?_slot (name:=Str.ofString "__next__") hT F.slot_enumerate_next (wE1 F.slot_enumerate_next hT F.entry_enumerate_next ?_ (F.args_enumerate_next_1 _))))
 obtain ⟨hp,g,d,tk,os⟩:=s
 show wpAny _ _ (field (.ref e) 2 >>= _) _ _ _;refine wB1 (wpAny_field he rfl (x:=.ref it) rfl ?_)
 refine wB1 (next_seq ti tl hx fun h1 ti1 s1=>?_)
 replace s1:Heap.SameBut it hp h1:=s1
 have he1:IsEnum h1 e it i old:=(s1.2 e hne).trans he
 show wpAny _ _ (field (.ref e) 3 >>= _) _ _ ⟨h1,g,d,tk,os⟩;refine wB1 (wpAny_field he1 rfl (x:=rawInt i) rfl ?_)
 show wpAny _ _ (field (.ref e) 4 >>= _) _ _ ⟨h1,g,d,tk,os⟩;refine wB1 (wpAny_field he1 rfl (x:=.none) rfl ?_)
 show wpAny _ _ (mkInt i >>= _) _ _ ⟨h1,g,d,tk,os⟩;refine wB1 (wpAny_mkInt ?_)
 show wpAny _ _ (setField (.ref e) 3 (rawInt ((i:Int)+1)) >>= _) _ _ ⟨h1,g,d,tk+1,os⟩;refine wB1 (wS1 he1 (by simp) fun h2 he2 s2=>?_)
 replace s2:Heap.SameBut e h1 h2:=s2
 replace he2:IsEnum h2 e it ((i:Int)+1) old:=he2
 show wpAny _ _ (setField (.ref e) 4 .none >>= _) _ _ ⟨h2,g,d,tk+1,os⟩;refine wB1 (wS1 he2 (by simp) fun h3 he3 s3=>?_)
 replace s3:Heap.SameBut e h2 h3:=s3
 replace he3:IsEnum h3 e it ((i:Int)+1) old:=he3
 show wpAny _ _ (newTuple [.int i tk,x] >>= _) _ _ ⟨h3,g,d,tk+1,os⟩;refine wB1 (wpAny_newTuple ?_)
 have he4:IsEnum (h3.push {cls:=.type "tuple",data:=.seq #[.int i tk,x]}) e it ((i:Int)+1) old:=hP1 _ he3
 generalize hh4:h3.push {cls:=.type "tuple",data:=.seq #[.int i tk,x]}=h4 at he4
 have hsz:h3.objs.size=hp.objs.size:=by rw [s3.1,s2.1,s1.1]
 have hel:e<hp.objs.size:=hL1 he
 have ht4:h4.get? hp.objs.size=some {cls:=.type "tuple",data:=.seq #[.int i tk,x]}:=by rw [<- hh4,<- hsz];exact hS1 _ rfl
 have hz4:h4.objs.size=hp.objs.size+1:=by rw [<- hh4,hZ1,hsz]
 have hk4:∀ b o,b≠e->b≠it->hp.get? b=some o->h4.get? b=some o:=fun b o hbe hbi hb=>by
  rw [<- hh4];exact hP1 _ (s3.extBut b o hbe (s2.extBut b o hbe (s1.extBut b o hbi hb)))
 have ti4:SIt b h4 it l (i+1):=ti1.to fun o q=>by rw [<- hh4];exact hP1 _ (s3.extBut _ _ (Ne.symm hne) (s2.extBut _ _ (Ne.symm hne) q))
 show wpAny _ _ (Builtin.SmallTypes.ownedTupleIsFree (.ref e) >>= _) _ _ ⟨h4,g,d,tk+1,os⟩
 rw [hsz];clear hh4 he3 s3 he2 s2 he1 s1 ti1 hsz h3 h2 h1
 refine wB1 ?_;unfold Builtin.SmallTypes.ownedTupleIsFree
 refine wB1 (wpAny_field he4 rfl (x:=.none) rfl (wP1 ?_));simp only [if_true]
 refine wB1 (wpAny_rule ?_);refine wB1 (wpAny_field he4 rfl (x:=old) rfl ?_)
 refine wB1 (wS1 he4 (by simp) fun h5 he5 s5=>?_)
 replace s5:Heap.SameBut e h4 h5:=s5
 replace he5:IsEnum h5 e it ((i:Int)+1) x:=he5
 show wpAny _ _ (Builtin.SmallTypes.ownedTupleHandOut (.ref e) (.ref hp.objs.size) >>= _) _ _ ⟨h5,g,d,tk+1,os⟩
 refine wB1 ?_;unfold Builtin.SmallTypes.ownedTupleHandOut
 refine wB1 (wS1 he5 (by simp) fun h6 he6 s6=>?_)
 replace s6:Heap.SameBut e h5 h6:=s6
 replace he6:IsEnumOut h6 e it ((i:Int)+1) x hp.objs.size:=he6
 refine wS1 he6 (by simp) fun h7 he7 s7=>?_
 replace s7:Heap.SameBut e h6 h7:=s7
 replace he7:IsEnumOut h7 e it ((i:Int)+1) x hp.objs.size:=he7
 have up:∀ c o,c≠e->h4.get? c=some o->h7.get? c=some o:=fun c o z q=>s7.extBut _ _ z (s6.extBut _ _ z (s5.extBut _ _ z q))
 refine wB1 (wpAny_letGo (wP1 ⟨_,rfl,wP1 (hQ h7 he7 (ti4.to fun o q=>up _ o (Ne.symm hne) q) (up _ _ (nG1 hel) ht4) (by rw [s7.1,s6.1,s5.1,hz4]) fun c o hbe hbi hb=>up c o hbe (hk4 c o hbe hbi hb))⟩))
theorem enum_end {b:Bool}{e it l:Addr}{i:Nat}{xs:Array Value}{old:Value}{Q:Option Value->Shared->Prop}(hh:A.handled=none)(he:IsEnum s.heap e it i old)(ti:SIt b s.heap it l i)(tl:SCo b s.heap l xs)(hx:xs[i]? = none)
  (hQ:∀ h',Heap.ExtBut it s.heap h'->Q none {s with heap:=h'}):wpAny (model prog w) A (pyNext (.ref e)) Q E s:=by
 have hT:s.TypeIs (.ref e) "enumerate":=⟨_,he,rfl⟩
 unfold pyNext
 refine wB1 (wpAny_attempt (wpAny_callSpecial?_slot (name:=Str.ofString "__next__") hT F.slot_enumerate_next (wE1 F.slot_enumerate_next hT F.entry_enumerate_next ?_ (F.args_enumerate_next_1 _))))
 show wpAny _ _ (field (.ref e) 2 >>= _) _ _ _;refine wB1 (wpAny_field he rfl (x:=.ref it) rfl ?_)
 refine wB1 (next_seq_end hh ti tl hx fun h' x he' hx'=>?_);obtain ⟨o,ho,hc⟩:=hx'
 refine wB1 (wpAny_isInstance (T:="StopIteration") (b:=true) ⟨o,ho,hc⟩ isSubtype_stop ?_);exact wP1 (hQ _ he')
theorem enum_self {e it:Addr}{i:Int}{old:Value}{Q:Value->Shared->Prop}(he:IsEnum s.heap e it i old)(h:Q (.ref e) s):wpAny (model prog w) A (pyIter (.ref e)) Q E s:=by
 have hT:s.TypeIs (.ref e) "enumerate":=⟨_,he,rfl⟩
 refine wpAny_pyIter_slot hT F.slot_enumerate_iter (wE1 F.slot_enumerate_iter hT F.entry_enumerate_iter ?_ (F.args_enumerate_iter_1 _))
 show wpAny _ _ (ret (.ref e)) _ _ s
 exact wP1 ⟨_,rfl,"enumerate",_,hT,F.slot_enumerate_next.lookup,h⟩
end
open PySem.AutoSeq1 (wpAny_loadPart')
structure Zap (z ti to i1 i2:Addr):Prop where
 a1:ti≠z
 a2:to≠z
 a3:i1≠z
 a4:i2≠z
 a5:ti≠to
 a6:ti≠i1
 a7:ti≠i2
 a8:to≠i1
 a9:to≠i2
 a10:i1≠i2
section
variable {prog:Program} {w:World} {A:Around} {E:Value->Shared->Prop} {s:Shared} {b1 b2:Bool}
theorem SCo.ne {b:Bool}{h:Heap}{a c:Addr}{xs:Array Value}{o:Obj}(x:SCo b h a xs)(e:h.get? c=some o)(n:∀ ys k,o.data ≠ .seq ys k):a≠c:=by
 rintro rfl
 cases b<;>(obtain ⟨o',e',c',k,d⟩:=x;rw [e] at e';cases e';exact n _ _ d)
theorem SCo.ne_it {b b':Bool}{h:Heap}{a it l:Addr}{xs:Array Value}{i:Nat}(x:SCo b h a xs)(y:SIt b' h it l i):a≠it:=by
 cases b'<;>(obtain ⟨o,e,c,d⟩:=y;exact x.ne e fun ys k z=>by rw [d] at z;cases z)
theorem zip_step {z ti to i1 i2 l1 l2:Addr}{k1 k2:Nat}{xs ys:Array Value}{x y a b:Value}{Q:Option Value->Shared->Prop}(D:Zap z ti to i1 i2)(hz:IsZip s.heap z ti to .none)(hti:IsPair s.heap ti (.ref i1) (.ref i2))(hto:IsPair s.heap to a b)
  (n1:l1≠to) (n2:l2≠to) (h1:SIt b1 s.heap i1 l1 k1) (h2:SIt b2 s.heap i2 l2 k2) (c1:SCo b1 s.heap l1 xs) (c2:SCo b2 s.heap l2 ys) (hx:xs[k1]? = some x) (hy:ys[k2]? = some y)
  (hQ:∀ h',IsZip h' z ti to (rawInt s.heap.objs.size)->IsPair h' to x y->SIt b1 h' i1 l1 (k1+1)->SIt b2 h' i2 l2 (k2+1)->IsPair h' s.heap.objs.size x y->h'.objs.size=s.heap.objs.size+1 ->
   (∀ c o,c≠z->c≠to->c≠i1->c≠i2->s.heap.get? c=some o->h'.get? c=some o)->Q (some (.ref s.heap.objs.size)) {s with heap:=h'}):wpAny (model prog w) A (pyNext (.ref z)) Q E s:=by
 have hT:s.TypeIs (.ref z) "zip":=⟨_,hz,rfl⟩
 have l1z:l1≠z:=c1.ne hz fun _ _ q=>by cases q
 have l2z:l2≠z:=c2.ne hz fun _ _ q=>by cases q
 have l2i1:l2≠i1:=c2.ne_it h1
 unfold pyNext
 refine wB1 (wpAny_attempt (wpAny_callSpecial?_slot (name:=Str.ofString "__next__") hT F.slot_zip_next (wE1 F.slot_zip_next hT F.entry_zip_next ?_ (F.args_zip_next_1 _))))
 show wpAny _ _ (field (.ref z) 2 >>= _) _ _ _;refine wB1 (wpAny_field hz rfl (x:=.bool false) rfl ?_)
 show wpAny _ _ (field (.ref z) 3 >>= _) _ _ _;refine wB1 (wpAny_field hz rfl (x:=.ref ti) rfl ?_)
 refine wB1 (wpAny_seqItems hti rfl ?_)
 show wpAny _ _ (Builtin.SmallTypes.ownedTupleIsFree (.ref z) >>= _) _ _ _;refine wB1 ?_;unfold Builtin.SmallTypes.ownedTupleIsFree
 refine wB1 (wpAny_field hz rfl (x:=.none) rfl (wP1 ?_));simp only [if_true];refine wB1 (wpAny_rule ?_)
 refine wB1 (wpAny_field hz rfl (x:=.ref to) rfl ?_);refine wB1 (wS1 hz (by simp) fun g1 hz1 s1=>?_)
 replace hz1:IsZip g1 z ti to .ellipsis:=hz1
 refine wB1 ?_;simp only [List.zipIdx_cons,List.zipIdx_nil,List.forIn_cons,List.forIn_nil]
 refine wB1 (wB1 (wpAny_onRaise ?_));show wpAny _ _ (Builtin.SmallTypes.nextOf (.ref i1) >>= _) _ _ _
 refine wB1 (next_seq (h1.to fun o q=>s1.extBut _ _ D.a3 q) (c1.to fun o q=>s1.extBut _ _ l1z q) hx fun g2 h12 s2=>wP1 ?_)
 have hto2:IsPair g2 to a b:=s2.extBut _ _ D.a8 (s1.extBut _ _ D.a2 hto)
 refine wB1 (wpAny_seqItems hto2 rfl ?_);refine wB1 (wpAny_updateSeq_pair hto2 fun g3 hto3 s3=>?_)
 replace hto3:IsPair g3 to x b:=hto3
 refine wB1 (wpAny_letGo (wP1 ?_));refine wB1 (wB1 (wpAny_onRaise ?_));show wpAny _ _ (Builtin.SmallTypes.nextOf (.ref i2) >>= _) _ _ _
 refine wB1 (next_seq (h2.to fun o q=>s3.extBut _ _ D.a9.symm (s2.extBut _ _ D.a10.symm (s1.extBut _ _ D.a4 q))) (c2.to fun o q=>s3.extBut _ _ n2 (s2.extBut _ _ l2i1 (s1.extBut _ _ l2z q))) hy fun g4 h24 s4=>wP1 ?_)
 have hto4:IsPair g4 to x b:=s4.extBut _ _ D.a9 hto3
 refine wB1 (wpAny_seqItems hto4 rfl ?_);refine wB1 (wpAny_updateSeq_pair hto4 fun g5 hto5 s5=>?_)
 replace hto5:IsPair g5 to x y:=hto5
 refine wB1 (wpAny_letGo (wP1 (wP1 ?_)));refine wB1 (wpAny_seqItems hto5 rfl ?_);refine wB1 (wpAny_newTuple ?_)
 have hsz:g5.objs.size=s.heap.objs.size:=by rw [s5.1,s4.1,s3.1,s2.1,s1.1]
 have hz5:IsZip g5 z ti to .ellipsis:=s5.extBut _ _ D.a2.symm (s4.extBut _ _ D.a4.symm (s3.extBut _ _ D.a2.symm (s2.extBut _ _ D.a3.symm hz1)))
 have hk5:∀ c o,c≠z->c≠to->c≠i1->c≠i2->s.heap.get? c=some o->g5.get? c=some o:=fun c o q1 q2 q3 q4 q=>s5.extBut _ _ q2 (s4.extBut _ _ q4 (s3.extBut _ _ q2 (s2.extBut _ _ q3 (s1.extBut _ _ q1 q))))
 have h15:SIt b1 g5 i1 l1 (k1+1):=h12.to fun o q=>s5.extBut _ _ D.a8.symm (s4.extBut _ _ D.a10 (s3.extBut _ _ D.a8.symm q))
 have h25:SIt b2 g5 i2 l2 (k2+1):=h24.to fun o q=>s5.extBut _ _ D.a9.symm q
 have hzlt:z<g5.objs.size:=hL1 hz5
 show wpAny _ _ (Builtin.SmallTypes.ownedTupleHandOut (.ref z) (.ref g5.objs.size) >>= _) _ _ _;refine wB1 ?_;unfold Builtin.SmallTypes.ownedTupleHandOut
 have hz6:IsZip (g5.push {cls:=.type "tuple",data:=.seq #[x,y]}) z ti to .ellipsis:=hP1 _ hz5
 refine wB1 (wS1 hz6 (by simp) fun g7 hz7 s7=>?_)
 replace hz7:IsZip g7 z ti to (rawInt g5.objs.size):=hz7
 refine wS1 hz7 (by simp) fun g8 hz8 s8=>?_
 replace hz8:IsZip g8 z ti to (rawInt g5.objs.size):=hz8
 have up:∀ c o,c≠z->g5.get? c=some o->g8.get? c=some o:=fun c o q1 q=>s8.extBut _ _ q1 (s7.extBut _ _ q1 (hP1 _ q))
 have hT8:IsPair g8 g5.objs.size x y:=s8.extBut _ _ (nG1 hzlt) (s7.extBut _ _ (nG1 hzlt) (hS1 _ rfl))
 have hz9:g8.objs.size=g5.objs.size+1:=by rw [s8.1,s7.1,hZ1]
 rw [hsz] at hz8 hT8 hz9;refine wP1 ⟨_,rfl,wP1 ?_⟩;show Q (some (.ref g5.objs.size)) _;rw [hsz]
 exact hQ g8 hz8 (up _ _ D.a2 hto5) (h15.to fun o q=>up _ o D.a3 q) (h25.to fun o q=>up _ o D.a4 q) hT8 hz9 fun c o q1 q2 q3 q4 q=>up c o q1 (hk5 c o q1 q2 q3 q4 q)
theorem zip_end {z ti to i1 i2 l1 l2:Addr}{k1 k2:Nat}{xs ys:Array Value}{a b:Value}{Q:Option Value->Shared->Prop}(hh:A.handled=none)(D:Zap z ti to i1 i2)(hz:IsZip s.heap z ti to .none)(hti:IsPair s.heap ti (.ref i1) (.ref i2))(hto:IsPair s.heap to a b)
  (n1:l1≠to) (n2:l2≠to) (h1:SIt b1 s.heap i1 l1 k1) (h2:SIt b2 s.heap i2 l2 k2) (c1:SCo b1 s.heap l1 xs) (c2:SCo b2 s.heap l2 ys) (hend:xs[k1]? = none\/ys[k2]? = none)
  (hQ:∀ h',(∀ c o,c≠z->c≠to->c≠i1->c≠i2->s.heap.get? c=some o->h'.get? c=some o)->Q none {s with heap:=h'}):wpAny (model prog w) A (pyNext (.ref z)) Q E s:=by
 have hT:s.TypeIs (.ref z) "zip":=⟨_,hz,rfl⟩
 have l1z:l1≠z:=c1.ne hz fun _ _ q=>by cases q
 have l2z:l2≠z:=c2.ne hz fun _ _ q=>by cases q
 have l2i1:l2≠i1:=c2.ne_it h1
 unfold pyNext
 refine wB1 (wpAny_attempt (wpAny_callSpecial?_slot (name:=Str.ofString "__next__") hT F.slot_zip_next (wE1 F.slot_zip_next hT F.entry_zip_next ?_ (F.args_zip_next_1 _))))
 show wpAny _ _ (field (.ref z) 2 >>= _) _ _ _;refine wB1 (wpAny_field hz rfl (x:=.bool false) rfl ?_)
 show wpAny _ _ (field (.ref z) 3 >>= _) _ _ _;refine wB1 (wpAny_field hz rfl (x:=.ref ti) rfl ?_)
 refine wB1 (wpAny_seqItems hti rfl ?_)
 show wpAny _ _ (Builtin.SmallTypes.ownedTupleIsFree (.ref z) >>= _) _ _ _;refine wB1 ?_;unfold Builtin.SmallTypes.ownedTupleIsFree
 refine wB1 (wpAny_field hz rfl (x:=.none) rfl (wP1 ?_));simp only [if_true];refine wB1 (wpAny_rule ?_)
 refine wB1 (wpAny_field hz rfl (x:=.ref to) rfl ?_);refine wB1 (wS1 hz (by simp) fun g1 hz1 s1=>?_)
 replace hz1:IsZip g1 z ti to .ellipsis:=hz1
 refine wB1 ?_;simp only [List.zipIdx_cons,List.zipIdx_nil,List.forIn_cons,List.forIn_nil]
 refine wB1 (wB1 (wpAny_onRaise ?_));show wpAny _ _ (Builtin.SmallTypes.nextOf (.ref i1) >>= _) _ _ _
 cases hx:xs[k1]? with
 | none=>
  refine wB1 (next_seq_end hh (h1.to fun o q=>s1.extBut _ _ D.a3 q) (c1.to fun o q=>s1.extBut _ _ l1z q) hx fun g2 e s2 he=>?_);obtain ⟨oe,hoe,hce⟩:=he
  have hz2:IsZip g2 z ti to .ellipsis:=s2 _ _ D.a3.symm hz1
  have hez:e≠z:=fun q=>by subst q;rw [hz2] at hoe;cases hoe;simp at hce
  refine wS1 hz2 (by simp) fun g3 _ s3=>?_
  refine wB1 (wpAny_isInstance (T:="StopIteration") (b:=true) ⟨oe,s3.extBut _ _ hez hoe,hce⟩ isSubtype_stop ?_)
  exact wP1 (hQ g3 fun c o q1 _ q3 _ q=>s3.extBut _ _ q1 (s2 _ _ q3 (s1.extBut _ _ q1 q)))
 | some x=>
  have hy:ys[k2]? = none:=by rcases hend with h | h;rw [hx] at h;cases h;exact h
  refine wB1 (next_seq (h1.to fun o q=>s1.extBut _ _ D.a3 q) (c1.to fun o q=>s1.extBut _ _ l1z q) hx fun g2 h12 s2=>wP1 ?_)
  have hto2:IsPair g2 to a b:=s2.extBut _ _ D.a8 (s1.extBut _ _ D.a2 hto)
  refine wB1 (wpAny_seqItems hto2 rfl ?_);refine wB1 (wpAny_updateSeq_pair hto2 fun g3 hto3 s3=>?_)
  refine wB1 (wpAny_letGo (wP1 ?_));refine wB1 (wB1 (wpAny_onRaise ?_));show wpAny _ _ (Builtin.SmallTypes.nextOf (.ref i2) >>= _) _ _ _
  refine wB1 (next_seq_end hh (h2.to fun o q=>s3.extBut _ _ D.a9.symm (s2.extBut _ _ D.a10.symm (s1.extBut _ _ D.a4 q))) (c2.to fun o q=>s3.extBut _ _ n2 (s2.extBut _ _ l2i1 (s1.extBut _ _ l2z q))) hy fun g4 e s4 he=>?_)
  obtain ⟨oe,hoe,hce⟩:=he
  have hz4:IsZip g4 z ti to .ellipsis:=s4 _ _ D.a4.symm (s3.extBut _ _ D.a2.symm (s2.extBut _ _ D.a3.symm hz1))
  have hez:e≠z:=fun q=>by subst q;rw [hz4] at hoe;cases hoe;simp at hce
  refine wS1 hz4 (by simp) fun g5 _ s5=>?_
  refine wB1 (wpAny_isInstance (T:="StopIteration") (b:=true) ⟨oe,s5.extBut _ _ hez hoe,hce⟩ isSubtype_stop ?_)
  exact wP1 (hQ g5 fun c o q1 q2 q3 q4 q=>s5.extBut _ _ q1 (s4 _ _ q4 (s3.extBut _ _ q2 (s2.extBut _ _ q3 (s1.extBut _ _ q1 q)))))
noncomputable def zH (b1 b2:Bool)(h:Heap)(l1 l2:Addr):Heap:=((((h.push (itObj b1 l1)).push (itObj b2 l2)).push {cls:=.type "tuple",data:=.seq #[.ref h.objs.size,.ref (h.objs.size+1)]}).push {cls:=.type "tuple",data:=.seq #[.none,.none]}).push
 {cls:=.type "zip",data:=.fields #[.none,.bool false,.bool false,.ref (h.objs.size+2),.ref (h.objs.size+3)]}
theorem zip_new (l1 l2:Addr)(xs ys:Array Value):Meets (Builtin.«zip.__new__» ⟨[.type "zip",.ref l1,.ref l2],[]⟩) (fun _ R s=>SCo b1 s.heap l1 xs/\SCo b2 s.heap l2 ys/\R (.ok (.ret (.ref (s.heap.objs.size+4)))) {s with heap:=zH b1 b2 s.heap l1 l2}):=
 .of_wp fun prog w A R s h=>by
  obtain ⟨hp,g,d,tk,os⟩:=s;obtain ⟨c1,c2,h⟩:=h;have hsub:=sub_zip
  have L1:SCo b1 (Shared.heap ⟨hp,g,d,tk,os⟩) l1 xs:=c1
  have L2:SCo b2 (Shared.heap ⟨hp.push (itObj b1 l1),g,d,tk,os⟩) l2 ys:=c2.to fun o q=>hP1 _ q
  wp_walk using sit_iter L1,sit_iter L2
  refine ⟨_,rfl,?_⟩
  have z1:(hp.push (itObj b1 l1)).objs.size=hp.objs.size+1:=hZ1 ..
  simp only [hZ1,zH] at h ⊢
  exact h
theorem zip_call {l1 l2:Addr}{xs ys:Array Value}{Q:Value->Shared->Prop}(c1:SCo b1 s.heap l1 xs)(c2:SCo b2 s.heap l2 ys)
  (h:∀ h',IsZip h' (s.heap.objs.size+4) (s.heap.objs.size+2) (s.heap.objs.size+3) .none->IsPair h' (s.heap.objs.size+2) (.ref s.heap.objs.size) (.ref (s.heap.objs.size+1))->IsPair h' (s.heap.objs.size+3) .none .none ->
   SIt b1 h' s.heap.objs.size l1 0->SIt b2 h' (s.heap.objs.size+1) l2 0->h'.objs.size=s.heap.objs.size+5->(∀ c o,s.heap.get? c=some o->h'.get? c=some o)->Q (.ref (s.heap.objs.size+4)) {s with heap:=h'}):
  wpAny (model prog w) A (call (.type "zip") [.ref l1,.ref l2]) Q E s:=by
 refine callType_new F.called_zip (by decide) (F.typeCall_zip_2 _ _) (F.newCall_zip_2 _ _) (fun obj=>F.args_object_init_3 obj _ _) F.entry_zip_new (zip_new (b1:=b1) (b2:=b2) l1 l2 xs ys) ⟨c1,c2,?_⟩
 have up:∀ {h:Heap} {o:Obj} {c:Addr} {u:Obj},h.get? c=some u->(h.push o).get? c=some u:=fun q=>hP1 _ q
 have at_:∀ {h:Heap} {o:Obj} {n:Nat},h.objs.size=n->o.isFreed=false->(h.push o).get? n=some o:=fun e f=>by rw [<- e];exact hS1 _ f
 have f1:(itObj b1 l1).isFreed=false:=by cases b1<;>rfl
 have f2:(itObj b2 l2).isFreed=false:=by cases b2<;>rfl
 have g1:(zH b1 b2 s.heap l1 l2).get? s.heap.objs.size=some (itObj b1 l1):=up (up (up (up (at_ rfl f1))))
 have g2:(zH b1 b2 s.heap l1 l2).get? (s.heap.objs.size+1)=some (itObj b2 l2):=up (up (up (at_ (by simp only [hZ1]) f2)))
 have g3:IsPair (zH b1 b2 s.heap l1 l2) (s.heap.objs.size+2) (.ref s.heap.objs.size) (.ref (s.heap.objs.size+1)):=up (up (at_ (by simp only [hZ1]) rfl))
 have g4:IsPair (zH b1 b2 s.heap l1 l2) (s.heap.objs.size+3) .none .none:=up (at_ (by simp only [hZ1]) rfl)
 have g5:IsZip (zH b1 b2 s.heap l1 l2) (s.heap.objs.size+4) (s.heap.objs.size+2) (s.heap.objs.size+3) .none:=at_ (by simp only [hZ1]) rfl
 exact ⟨⟨_,g5,rfl⟩,h _ g5 g3 g4 (sit_new g1) (sit_new g2) (by simp only [zH,hZ1]) fun c o q=>up (up (up (up (up q))))⟩
end
noncomputable def SqB (K:Fg1)(b:Bool)(H:Hp)(a:Addr)(xs:List V):Prop:=match b with
 | true=>SqL K H a xs
 | false=>SqT K H a xs
section
variable {X:Cx} {pins:List (Addr×Obj)} {σ:L2.St} {H:Hp} {s:Shared}
theorem sqb_at {b:Bool}{a:Addr}{xs:List V}(I:Inv X pins σ H s)(h:SqB X.K b H a xs):∃ its:List Value,Vals xs its/\SCo b s.heap a its.toArray/\xs.length<=sizeLine:=by
 cases b
 ·obtain ⟨its,r,p,z⟩:=I.tuple h
  exact ⟨its,r,p,z⟩
 ·obtain ⟨its,r,p,z⟩:=I.list h
  exact ⟨its,r,p.isList,z⟩
theorem sqb_inj {b:Bool}{a:Addr}{xs ys:List V}(I:Inv X pins σ H s)(h:SqB X.K b H a xs)(h':SqB X.K b H a ys):xs=ys:=by
 cases b
 ·exact I.tuple_inj h h'
 ·exact I.list_inj h h'
theorem sqb_ne {b:Bool}{a c:Addr}{xs:List V}(I:Inv X pins σ H s)(h:SqB X.K b H a xs)(f:FpOk X pins H c):a≠c:=by
 rintro rfl
 have ink:∀ {o},X.K.lookup a=some o->False:=fun {o} e=>by
  have e1:=I.ok.mod.kin _ _ e
  rcases f.2.2.2.1 with z | z
  ·exact I.ok.noex _ _ e1 z
  ·exact absurd (nL1 (hL1 e1) (Nat.le_trans I.ok.bsz z)) (Nat.lt_irrefl _)
 cases b
 ·rcases h with (h | ⟨_,h⟩) | ⟨_,_,_,h,_⟩
  ·rw [f.1] at h;cases h
  ·rw [f.1] at h;cases h
  ·exact ink h
 ·rcases h with (h | ⟨_,h⟩) | ⟨_,_,_,h,_⟩
  ·rw [f.1] at h;cases h
  ·rw [f.1] at h;cases h
  ·exact ink h
theorem inv_pair (I:Inv X pins σ H s){fp:List Addr}(hf:∀ b∈fp,FpOk X pins H b){h':Heap}{p:Addr}{xs:List V}{its:List Value}{t':Nat}(hp:s.heap.objs.size<=p)(kk:∀ b o,b∉fp->s.heap.get? b=some o->h'.get? b=some o)
  (tp:IsTup h' p its.toArray) (rv:Vals xs its) (hz:xs.length<=sizeLine):Inv X pins σ (upd H p (.tup xs)) {s with heap:=h',toks:=t'}:=by
 have hn:H p=none:=I.hok.fresh hp
 have neP:∀ {b o},s.heap.get? b=some o->b≠p:=fun e=>nN1 (nL1 (hL1 e) hp)
 have nf:∀ {b u},H b=some u->b∉fp:=fun e z=>by rw [(hf _ z).1] at e;cases e
 refine I.step (g':=s.gens) (d':=s.drawn) (ch:=fp) (fun b hb=>⟨(hf b hb).2.2.2.1,(hf b hb).2.1,(hf b hb).2.2.2.2.1,(hf b hb).2.2.2.2.2⟩) (fun b o _ _ hc e _=>kk b o hc e) (fun b o _ _ hc e _=>⟨o.slots,kk b o hc e⟩) (fun b o _ e n=>?_)
  (fun b o hc e=>⟨o,kk b o hc e⟩) (fun b ys e=>?_) (fun b o u e=>?_) (fun b ps e=>⟨#[],?_⟩) (fun m hm=>?_) (fun b u e=>?_) I.bare
 ·rw [upd_ne (neP e)];exact n
 ·rw [upd_ne (ne_of_none e hn)];exact e
 ·rw [upd_ne (ne_of_none e hn)];exact e
 ·rw [upd_ne (ne_of_none e hn),e];simp
 ·obtain ⟨o,es,ep,ho,r⟩:=hm
  exact ⟨o,es,ep,kk _ o (fun z=>(hf _ z).2.1 rfl) ho,r⟩
 ·by_cases hb:b=p
  ·subst hb;rw [upd_same] at e;cases e
   exact ⟨hz,its,rv,tp⟩
  ·rw [upd_ne hb] at e
   refine (I.hok b u e).stay (fun c v hc q=>kk c v ?_ q) (fun c q=>by rw [upd_ne (ne_of_none q hn)];exact q) fun c ys q=>by rw [upd_ne (ne_of_none q hn)];exact q
   rcases hc with z | z
   ·rw [z];exact nf e
   ·exact nf z
theorem inv_turned (I:Inv X pins σ H s){fp:List Addr}(hf:∀ b∈fp,FpOk X pins H b){h':Heap}{t':Nat}(kk:∀ b o,b∉fp->s.heap.get? b=some o->h'.get? b=some o):Inv X pins σ H {s with heap:=h',toks:=t'}:=by
 have nf:∀ {b u},H b=some u->b∉fp:=fun e z=>by rw [(hf _ z).1] at e;cases e
 refine I.step (g':=s.gens) (d':=s.drawn) (ch:=fp) (fun b hb=>⟨(hf b hb).2.2.2.1,(hf b hb).2.1,(hf b hb).2.2.2.2.1,(hf b hb).2.2.2.2.2⟩) (fun b o _ _ hc e _=>kk b o hc e) (fun b o _ _ hc e _=>⟨o.slots,kk b o hc e⟩) (fun b o _ e n=>n)
  (fun b o hc e=>⟨o,kk b o hc e⟩) (fun b ys e=>e) (fun b o u e=>e) (fun b ps e=>⟨#[],by rw [e];simp⟩) (fun m hm=>?_) (fun b u e=>?_) I.bare
 ·obtain ⟨o,es,ep,ho,r⟩:=hm
  exact ⟨o,es,ep,kk _ o (fun z=>(hf _ z).2.1 rfl) ho,r⟩
 ·refine (I.hok b u e).stay (fun c v hc q=>kk c v ?_ q) (fun c q=>q) fun c ys q=>q
  rcases hc with z | z
  ·rw [z];exact nf e
  ·exact nf z
end
theorem two_fits:(2:Nat)<=sizeLine:=by decide
noncomputable def Ite (K:Fg1)(b:Bool)(a:Addr):It:=
 ⟨fun i H=>∃ xs x,SqB K b H a xs/\xs[i]? = some x,fun i H x H'=>∃ p v,H p=none/\x = .ref p/\H'=upd H p (.tup [.int i,v]) /\ ∀ xs,SqB K b H a xs->xs[i]? = some v,fun i H=>∃ xs,SqB K b H a xs/\xs.length<=i⟩
theorem turn_enum {P:Program}{w:World}{K:Fg1}{elts:List Expr}{k:Nat}{pos:Pos}(b:Bool)(a e it:Addr)(ne:e≠it):Turn P w K (.Tuple elts k pos) (Ite K b a) [e,it] e (fun i h=>(∃ old,IsEnum h e it (i:Nat) old)/\SIt b h it a i) where
 mem:=by simp
 obj:=by
  rintro i h ⟨⟨old,st⟩,si⟩ c hc
  rcases List.mem_cons.mp hc with z | z
  ·subst z;exact ⟨_,st,fun v q=>by cases q⟩
  ·have z':c=it:=by simpa using z
   subst z';exact si.rec_
 keep:=fun i h h' ⟨⟨old,st⟩,si⟩ kk=>⟨⟨old,kk e (by simp) _ st⟩,si.to fun o q=>kk it (by simp) o q⟩
 item:=by
  intro X hP hw hK hc i pins s σ H E I hf st hg
  subst hP hw hK
  obtain ⟨⟨old,he⟩,ti⟩:=st
  obtain ⟨xs,x,hq,hx⟩:=hg
  obtain ⟨its,rv,co,hz⟩:=sqb_at I hq
  obtain ⟨u,hu,ru⟩:=rv.get hx
  refine enum_next he ti co (x:=u) (by simpa using hu) ne fun h1 heo ti1 ht1 hz1 hk1=>?_
  refine ⟨.ref s.heap.objs.size,rfl,?_⟩
  refine wpAny_letOwnedTupleGo_enum heo fun h2 he2 hs2=>?_
  have pe:s.heap.objs.size≠e:=nG1 (hL1 he)
  have hk2:∀ c o,c∉[e,it]->s.heap.get? c=some o->h2.get? c=some o:=fun c o hc q=>by
   have c1:c≠e:=fun z=>hc (by simp [z])
   have c2:c≠it:=fun z=>hc (by simp [z])
   exact hs2.extBut _ _ c1 (hk1 c o c1 c2 q)
  have tp:IsTup h2 s.heap.objs.size [.int (i:Nat) s.toks,u].toArray:=⟨_,hs2.extBut _ _ pe ht1,rfl,_,rfl⟩
  have I2:=inv_pair I hf (t':=s.toks+1) (nR1 _) hk2 tp (xs:=[.int i,x]) (.cons ⟨_,rfl⟩ (.cons ru .nil)) two_fits
  have hn:H s.heap.objs.size=none:=I.hok.fresh (nR1 _)
  refine ⟨.ref s.heap.objs.size,_,I2,rfl,⟨_,x,hn,rfl,rfl,fun ys hy=>by rw [sqb_inj I hy hq];exact hx⟩,⟨⟨u,?_⟩,ti1.to fun o q=>hs2.extBut _ _ (Ne.symm ne) q⟩,fun c hc=>?_⟩
  ·have:((i+1:Nat):Int)=(i:Int)+1:=by push_cast;rfl
   rw [this];exact he2
  ·have c1:c≠s.heap.objs.size:=fun z=>by
    rcases List.mem_cons.mp hc with q | q
    ·exact pe (z.symm.trans q)
    ·have q':c=it:=by simpa using q
     obtain ⟨o,eo,_⟩:=ti.rec_
     rw [<- q',z] at eo
     exact Nat.lt_irrefl _ (hL1 eo)
   rw [upd_ne c1];exact (hf c hc).1
 done:=by
  intro X hP hw hK hc i pins s σ H E I hf st hg
  subst hP hw hK
  obtain ⟨⟨old,he⟩,ti⟩:=st
  obtain ⟨xs,hq,hx⟩:=hg
  obtain ⟨its,rv,co,hz⟩:=sqb_at I hq
  have hl:=rv.length
  refine enum_end (I.ok.hd hc) he ti co (by simp;lia) fun h' eb=>⟨rfl,inv_turned I (t':=s.toks) hf fun c o hc q=>eb c o (fun z=>hc (by simp [z])) q⟩
 self:=fun _ _ _ _ _ ⟨⟨_,st⟩,_⟩ h=>enum_self st h
noncomputable def Itz (K:Fg1)(b1 b2:Bool)(a1 a2:Addr):It:=
 ⟨fun i H=>∃ xs ys x y,SqB K b1 H a1 xs/\SqB K b2 H a2 ys/\xs[i]? = some x/\ys[i]? = some y,fun i H x H'=>∃ p v u,H p=none/\x = .ref p/\H'=upd H p (.tup [v,u])/\(∀ xs,SqB K b1 H a1 xs->xs[i]? = some v) /\ ∀ ys,SqB K b2 H a2 ys->ys[i]? = some u,
  fun i H=>∃ xs ys,SqB K b1 H a1 xs/\SqB K b2 H a2 ys/\(xs.length<=i\/ys.length<=i)⟩
theorem turn_zip {P:Program}{w:World}{K:Fg1}{elts:List Expr}{k:Nat}{pos:Pos}(b1 b2:Bool)(a1 a2 z ti to i1 i2:Addr)(D:Zap z ti to i1 i2):Turn P w K (.Tuple elts k pos) (Itz K b1 b2 a1 a2) [z,ti,to,i1,i2] z
  (fun i h=>IsZip h z ti to .none/\IsPair h ti (.ref i1) (.ref i2)/\(∃ u v,IsPair h to u v)/\SIt b1 h i1 a1 i/\SIt b2 h i2 a2 i) where
 mem:=by simp
 obj:=by
  rintro i h ⟨q1,q2,⟨u,v,q3⟩,q4,q5⟩ c hc
  simp only [List.mem_cons,List.not_mem_nil,or_false] at hc
  rcases hc with rfl | rfl | rfl | rfl | rfl
  ·exact ⟨_,q1,fun v q=>by cases q⟩
  ·exact ⟨_,q2,fun v q=>by cases q⟩
  ·exact ⟨_,q3,fun v q=>by cases q⟩
  ·exact q4.rec_
  ·exact q5.rec_
 keep:=fun i h h' ⟨q1,q2,⟨u,v,q3⟩,q4,q5⟩ kk=>⟨kk z (by simp) _ q1,kk ti (by simp) _ q2,⟨u,v,kk to (by simp) _ q3⟩,q4.to fun o q=>kk i1 (by simp) o q,q5.to fun o q=>kk i2 (by simp) o q⟩
 item:=by
  intro X hP hw hK hc i pins s σ H E I hf st hg
  subst hP hw hK
  obtain ⟨q1,q2,⟨u0,v0,q3⟩,q4,q5⟩:=st
  obtain ⟨xs,ys,x,y,hx,hy,ex,ey⟩:=hg
  obtain ⟨its,rv,co,hz⟩:=sqb_at I hx
  obtain ⟨its2,rv2,co2,hz2⟩:=sqb_at I hy
  obtain ⟨u,hu,ru⟩:=rv.get ex
  obtain ⟨u2,hu2,ru2⟩:=rv2.get ey
  refine zip_step D q1 q2 q3 (sqb_ne I hx (hf to (by simp))) (sqb_ne I hy (hf to (by simp))) q4 q5 co co2 (x:=u) (y:=u2) (by simpa using hu) (by simpa using hu2) fun h1 p1 p2 p3 p4 p5 p6 hk1=>?_
  refine ⟨.ref s.heap.objs.size,rfl,?_⟩
  refine wpAny_letOwnedTupleGo_zip p1 fun h2 z2 hs2=>?_
  have lt:∀ c∈[z,ti,to,i1,i2],c≠s.heap.objs.size:=fun c hc e=>by
   obtain ⟨o,eo⟩:∃ o,s.heap.get? c=some o:=by
    simp only [List.mem_cons,List.not_mem_nil,or_false] at hc
    rcases hc with rfl | rfl | rfl | rfl | rfl
    ·exact ⟨_,q1⟩
    ·exact ⟨_,q2⟩
    ·exact ⟨_,q3⟩
    ·obtain ⟨o,e,_⟩:=q4.rec_;exact ⟨o,e⟩
    ·obtain ⟨o,e,_⟩:=q5.rec_;exact ⟨o,e⟩
   rw [e] at eo
   exact Nat.lt_irrefl _ (hL1 eo)
  have hk2:∀ c o,c∉[z,ti,to,i1,i2]->s.heap.get? c=some o->h2.get? c=some o:=fun c o hc q=>by
   simp only [List.mem_cons,List.not_mem_nil,or_false,not_or] at hc
   exact hs2.extBut _ _ hc.1 (hk1 c o hc.1 hc.2.2.1 hc.2.2.2.1 hc.2.2.2.2 q)
  have tp:IsTup h2 s.heap.objs.size [u,u2].toArray:=⟨_,hs2.extBut _ _ (Ne.symm (lt z (by simp))) p5,rfl,_,rfl⟩
  have I2:=inv_pair I hf (t':=s.toks) (nR1 _) hk2 tp (xs:=[x,y]) (.cons ru (.cons ru2 .nil)) two_fits
  have hn:H s.heap.objs.size=none:=I.hok.fresh (nR1 _)
  refine ⟨.ref s.heap.objs.size,_,I2,rfl,⟨_,x,y,hn,rfl,rfl,fun ys' hy'=>by rw [sqb_inj I hy' hx];exact ex,fun ys' hy'=>by rw [sqb_inj I hy' hy];exact ey⟩,
   ⟨z2,hs2.extBut _ _ D.a1 (hk1 _ _ D.a1 D.a5 D.a6 D.a7 q2),⟨u,u2,hs2.extBut _ _ D.a2 p2⟩,p3.to fun o q=>hs2.extBut _ _ D.a3 q,p4.to fun o q=>hs2.extBut _ _ D.a4 q⟩,fun c hc=>?_⟩
  rw [upd_ne (lt c hc)];exact (hf c hc).1
 done:=by
  intro X hP hw hK hc i pins s σ H E I hf st hg
  subst hP hw hK
  obtain ⟨q1,q2,⟨u0,v0,q3⟩,q4,q5⟩:=st
  obtain ⟨xs,ys,hx,hy,hl⟩:=hg
  obtain ⟨its,rv,co,hz⟩:=sqb_at I hx
  obtain ⟨its2,rv2,co2,hz2⟩:=sqb_at I hy
  have l1:=rv.length
  have l2:=rv2.length
  refine zip_end (I.ok.hd hc) D q1 q2 q3 (sqb_ne I hx (hf to (by simp))) (sqb_ne I hy (hf to (by simp))) q4 q5 co co2 (by simp;lia) fun h' eb=>⟨rfl,inv_turned I (t':=s.toks) hf fun c o hc q=>?_⟩
  simp only [List.mem_cons,List.not_mem_nil,or_false,not_or] at hc
  exact eb c o hc.1 hc.2.2.1 hc.2.2.2.1 hc.2.2.2.2 q
 self:=fun _ _ _ _ _ ⟨st,_⟩ h=>wpAny_pyIter_zip st h
section
variable {X:Cx} {elts:List Expr} {k:Nat} {tpos:Pos}
noncomputable def iEnum (K:Fg1)(ta:TA):TI:=fun σ H R=>ta σ H fun vs H1=>∃ a b,vs=[.ref a]/\(∃ xs,SqB K b H1 a xs)/\R (Ite K b a) H1
theorem pi_enum {a:Expr}{ta:TA}{p pos:Pos}(hg:Gl X "enumerate")(hm:X.mg "enumerate"=none)(ha:PA X [a] ta)(hs:starEach [a] X.env=[(false,eval a X.env)]:=by rfl):PI X (.Tuple elts k tpos) (.Call (.Name "enumerate" p) [a] [] pos) (iEnum X.K ta):=by
 intro pins s σ H R I h
 refine Call_ (ld_blt I hg hm boot_enumerate (PyProof.Rows.callWith_type1 (thn (ha pos pins s σ H _ I h) fun us s1 ⟨vs,H1,I1,r1,q1⟩=>?_) hs rfl))
 obtain ⟨c,b,e,⟨xs,hq⟩,q⟩:=q1
 subst e
 cases r1 with
 | cons r rr=>
  cases rr
  cases r
  obtain ⟨its,rv,co,hz⟩:=sqb_at I1 hq
  refine enum_call co fun h' he ti hz' hk=>enum_self he ?_
  have I2:Inv X pins σ H1 {s1 with heap:=h'}:=I1.kept (t':=s1.toks) hk
  refine ⟨s1.heap.objs.size+1,[s1.heap.objs.size+1,s1.heap.objs.size],_,_,H1,rfl,I2,turn_enum b c _ _ (Nat.succ_ne_self _),⟨⟨.none,he⟩,ti⟩,fun d hd=>?_,q⟩
  rcases List.mem_cons.mp hd with z | z
  ·subst z;exact I1.fpOk (Nat.le_succ _) (I1.hok.fresh (Nat.le_succ _))
  ·have z':d=s1.heap.objs.size:=by simpa using z
   subst z';exact I1.fpOk (nR1 _) (I1.hok.fresh (nR1 _))
noncomputable def iZip (K:Fg1)(ta:TA):TI:=fun σ H R=>ta σ H fun vs H1=>∃ a1 b1 a2 b2,vs=[.ref a1,.ref a2]/\(∃ xs,SqB K b1 H1 a1 xs)/\(∃ xs,SqB K b2 H1 a2 xs)/\R (Itz K b1 b2 a1 a2) H1
theorem pi_zip {a b:Expr}{ta:TA}{p pos:Pos}(hg:Gl X "zip")(hm:X.mg "zip"=none)(ha:PA X [a,b] ta)(hs:starEach [a,b] X.env=[(false,eval a X.env),(false,eval b X.env)]:=by rfl)(hs2:starEach [b] X.env=[(false,eval b X.env)]:=by rfl):
  PI X (.Tuple elts k tpos) (.Call (.Name "zip" p) [a,b] [] pos) (iZip X.K ta):=by
 intro pins s σ H R I h
 refine Call_ (ld_blt I hg hm boot_zip (PyProof.Rows.callWith_type1 (thn (ha pos pins s σ H _ I h) fun us s1 ⟨vs,H1,I1,r1,q1⟩=>?_) (by rw [hs,hs2]) (by rw [hs2];rfl)))
 obtain ⟨c1,b1,c2,b2,e,⟨xs,hx⟩,⟨ys,hy⟩,q⟩:=q1
 subst e
 cases r1 with
 | cons r rr=>
  cases rr with
  | cons r' rr=>
   cases rr
   cases r
   cases r'
   obtain ⟨its,rv,co,hz⟩:=sqb_at I1 hx
   obtain ⟨its2,rv2,co2,hz2⟩:=sqb_at I1 hy
   refine zip_call co co2 fun h' g5 g3 g4 g1 g2 gz hk=>wpAny_pyIter_zip g5 ?_
   have I2:Inv X pins σ H1 {s1 with heap:=h'}:=I1.kept (t':=s1.toks) hk
   refine ⟨s1.heap.objs.size+4,[s1.heap.objs.size+4,s1.heap.objs.size+2,s1.heap.objs.size+3,s1.heap.objs.size,s1.heap.objs.size+1],_,_,H1,rfl,I2,turn_zip b1 b2 c1 c2 _ _ _ _ _ ?_,⟨g5,g3,⟨_,_,g4⟩,g1,g2⟩,fun d hd=>?_,q⟩
   ·constructor<;>(intro z;have z':((_:Nat)=_):=z;lia)
   ·have hd':s1.heap.objs.size<=d:=by
     simp only [List.mem_cons,List.not_mem_nil,or_false] at hd
     rcases hd with rfl | rfl | rfl | rfl | rfl
     ·exact Nat.le_add_right _ _
     ·exact Nat.le_add_right _ _
     ·exact Nat.le_add_right _ _
     ·exact nR1 _
     ·exact Nat.le_add_right _ _
    exact I1.fpOk hd' (I1.hok.fresh hd')
end
noncomputable def seqOf (S:Sto):D->Option (Bool×List D)
 | .tup xs=>some (false,xs)
 | .rol xs=>some (true,xs)
 | .ref n=>match S[n]? with
  | some (.lst xs)=>some (true,xs)
  | _=>none
 | _=>none
noncomputable def chkOf (S:Sto):D->List (Nat×List D)
 | .ref n=>match S[n]? with
  | some (.lst xs)=>[(n,xs)]
  | _=>[]
 | _=>[]
section
variable {K:Fg1} {H:Hp} {mu:List Addr} {S:Sto}
theorem seqOf_at {d:D}{v:V}{b:Bool}{xs:List D}(r:Rep K H mu d v)(s:Sim K H mu S)(h:seqOf S d=some (b,xs)):∃ a vs,v = .ref a/\SqB K b H a vs/\Reps K H mu xs vs:=by
 cases d with
 | tup ys=>cases h;cases r with | tup q t=>exact ⟨_,_,rfl,q,t⟩
 | rol ys=>cases h;cases r with | rol q t=>exact ⟨_,_,rfl,q.sq,t⟩
 | ref n=>
  rw [seqOf] at h
  split at h
  ·rename_i ys e
   cases h
   cases r with
   | ref q=>
    obtain ⟨vs,e1,r1⟩:=s.lst e q
    exact ⟨_,vs,rfl,SqL.of e1,r1⟩
  ·cases h
 | _=>cases h
theorem seq_later {d:D}{a:Addr}{b:Bool}{xs:List D}(r:Rep K H mu d (.ref a))(s:Sim K H mu S)(h:seqOf S d=some (b,xs)){H1:Hp}{mu1:List Addr}{S1:Sto}(x:Exw mu mu1 H H1)(s1:Sim K H1 mu1 S1)(ok:okC S1 (chkOf S d)=true):
  ∃ vs,SqB K b H1 a vs/\Reps K H1 mu1 xs vs:=by
 have r1:=r.exw x
 have h1:seqOf S1 d=some (b,xs):=by
  cases d with
  | ref n=>
   rw [seqOf] at h
   split at h
   ·rename_i ys e
    cases h
    rw [chkOf,e] at ok
    dsimp only [okC] at ok
    rw [Bool.and_true] at ok
    rw [seqOf]
    split at ok
    ·rename_i zs ez
     first | rw [ez,D.sames_eq ok] | rw [D.sames_eq ok]
    ·cases ok
   ·cases h
  | _=>exact h
 obtain ⟨a',vs,e,q,t⟩:=seqOf_at r1 s1 h1
 cases e
 exact ⟨vs,q,t⟩
end
noncomputable def iSeq (m:FE):FI:=fun r S=>(m r S).bind fun p=>(seqOf p.2 p.1).bind fun q=>some (⟨q.2,chkOf p.2 p.1⟩,p.2)
noncomputable def enD:Nat->List D->List D
 | _,[]=>[]
 | n,d::ds=>.tup [.int n,d]::enD (n+1) ds
noncomputable def iEn (m:FA):FI:=fun r S=>(m r S).bind fun p=>match p.1 with
 | [d]=>(seqOf p.2 d).bind fun q=>some (⟨enD 0 q.2,chkOf p.2 d⟩,p.2)
 | _=>none
noncomputable def zpD:List D->List D->List D
 | x::xs,y::ys=>.tup [x,y]::zpD xs ys
 | _,_=>[]
noncomputable def iZp (m:FA):FI:=fun r S=>(m r S).bind fun p=>match p.1 with
 | [d,e]=>(seqOf p.2 d).bind fun q=>(seqOf p.2 e).bind fun t=>some (⟨zpD q.2 t.2,chkOf p.2 d++chkOf p.2 e⟩,p.2)
 | _=>none
noncomputable def nums (lo:Int):Nat->List D
 | 0=>[]
 | n+1=>.int lo::nums (lo+1) n
noncomputable def iR1 (m:FA):FI:=fun r S=>(m r S).bind fun p=>match p.1 with
 | [.int j]=>if-(2^62)<=j/\j<2^62 then some (⟨nums 0 j.toNat,[]⟩,p.2) else none
 | _=>none
noncomputable def iR2 (m:FA):FI:=fun r S=>(m r S).bind fun p=>match p.1 with
 | [.int i,.int j]=>if-(2^62)<=i/\i<2^62 /\ -(2^62)<=j/\j<2^62 then some (⟨nums i (j-i).toNat,[]⟩,p.2) else none
 | _=>none
theorem enD_get:∀ (ds:List D) (n i:Nat),(enD n ds)[i]? = (ds[i]?).map fun d=>.tup [.int ((n+i:Nat):Int),d]
 | [],n,i=>by simp [enD]
 | d::ds,n,0=>by simp [enD]
 | d::ds,n,i+1=>by
  rw [enD,gC1,enD_get ds (n+1) i,gC1]
  rw [show n+1+i=n+(i+1) by lia]
theorem enD_len:∀ (ds:List D) (n:Nat),(enD n ds).length=ds.length
 | [],_=>rfl
 | d::ds,n=>by rw [enD,lC1,enD_len ds,lC1]
theorem zpD_get:∀ (xs ys:List D) (i:Nat) (d:D),(zpD xs ys)[i]? = some d -> ∃ x y,xs[i]? = some x/\ys[i]? = some y/\d = .tup [x,y]
 | [],_,i,d,h=>by simp [zpD] at h
 | _::_,[],i,d,h=>by simp [zpD] at h
 | x::xs,y::ys,0,d,h=>by simp [zpD] at h;exact ⟨x,y,rfl,rfl,h.symm⟩
 | x::xs,y::ys,i+1,d,h=>by
  rw [zpD,gC1] at h
  obtain ⟨x',y',e1,e2,e3⟩:=zpD_get xs ys i d h
  exact ⟨x',y',by simpa using e1,by simpa using e2,e3⟩
theorem zpD_len:∀ (xs ys:List D) (i:Nat),(zpD xs ys).length<=i->xs.length<=i\/ys.length<=i
 | [],_,i,_=>.inl (Nat.zero_le _)
 | _::_,[],i,_=>.inr (Nat.zero_le _)
 | x::xs,y::ys,0,h=>by simp [zpD] at h
 | x::xs,y::ys,i+1,h=>by
  rcases zpD_len xs ys i (by simpa [zpD] using h) with q | q
  ·exact .inl (by simpa using q)
  ·exact .inr (by simpa using q)
theorem nums_get:∀ (n:Nat) (lo:Int) (i:Nat) (d:D),(nums lo n)[i]? = some d->i<n/\d = .int (lo+i)
 | 0,lo,i,d,h=>by simp [nums] at h
 | n+1,lo,0,d,h=>by simp [nums] at h;exact ⟨Nat.succ_pos _,by rw [<- h];simp⟩
 | n+1,lo,i+1,d,h=>by
  rw [nums,gC1] at h
  obtain ⟨h1,h2⟩:=nums_get n (lo+1) i d h
  refine ⟨Nat.succ_lt_succ h1,?_⟩
  rw [h2,show lo+1+(i:Int)=lo+((i+1:Nat):Int) by push_cast;lia]
theorem nums_len:∀ (n:Nat) (lo:Int),(nums lo n).length=n
 | 0,_=>rfl
 | n+1,lo=>by rw [nums,lC1,nums_len n]
theorem okC_app {S:Sto}:∀ {c c':List (Nat×List D)},okC S (c++c')=true->okC S c=true/\okC S c'=true
 | [],_,h=>⟨rfl,h⟩
 | (n,xs)::c,c',h=>by
  rw [List.cons_append,okC,bA1] at h
  obtain ⟨h1,h2⟩:=okC_app h.2
  exact ⟨by rw [okC,bA1];exact ⟨h.1,h1⟩,h2⟩
section
variable {X:Cx} {tg:Expr}
theorem itr_nums (K:Fg1)(lo:Int)(n:Nat)(mu:List Addr)(H:Hp):ItR K (Itr lo n) ⟨nums lo n,[]⟩ mu H:=by
 intro i H1 mu1 S1 x s ok
 refine ⟨fun d hd=>?_,fun h=>by rw [nums_len] at h;exact h⟩
 obtain ⟨h1,h2⟩:=nums_get n lo i d hd
 refine ⟨h1,fun y H2 ⟨e1,e2⟩=>?_⟩
 subst e1;subst e2;subst h2
 exact ⟨.refl _ _,s,.int _⟩
theorem mi_seq {e:Expr}{m:FE}(h:ME X e m):MI X tg e (iSeq m):=pi_imp (pi_or (pi_list h) (pi_tup h)) <| by
 rintro σ H R ⟨r,mu,S,J,S',he,hs,hm,hc⟩
 obtain ⟨⟨d,S1⟩,e1,hm⟩:=oB1.mp hm
 obtain ⟨⟨b,xs⟩,e2,hm⟩:=oB1.mp hm
 cases hm
 cases b with
 | true=>
  left
  refine ⟨r,mu,S,d,_,he,hs,e1,fun v H1 mu1 x1 r1 s1=>?_⟩
  obtain ⟨a,vs,rfl,q,t⟩:=seqOf_at r1 s1 e2
  refine ⟨a,rfl,⟨vs,q⟩,hc _ H1 mu1 x1 (fun i H2 mu2 S2 x2 s2 ok=>?_) s1⟩
  obtain ⟨ws,q2,t2⟩:=seq_later r1 s1 e2 x2 s2 ok
  refine ⟨fun d hd=>?_,fun hl=>⟨ws,q2,by rw [<- t2.length];exact hl⟩⟩
  obtain ⟨v,ev,rv⟩:=t2.get hd
  refine ⟨⟨ws,v,q2,ev⟩,fun y H3 ⟨z1,z2⟩=>?_⟩
  subst z1
  have:=z2 ws q2
  rw [ev] at this
  cases this
  exact ⟨.refl _ _,s2,rv⟩
 | false=>
  right
  refine ⟨r,mu,S,d,_,he,hs,e1,fun v H1 mu1 x1 r1 s1=>?_⟩
  obtain ⟨a,vs,rfl,q,t⟩:=seqOf_at r1 s1 e2
  refine ⟨a,rfl,⟨vs,q⟩,hc _ H1 mu1 x1 (fun i H2 mu2 S2 x2 s2 ok=>?_) s1⟩
  obtain ⟨ws,q2,t2⟩:=seq_later r1 s1 e2 x2 s2 ok
  refine ⟨fun d hd=>?_,fun hl=>⟨ws,q2,by rw [<- t2.length];exact hl⟩⟩
  obtain ⟨v,ev,rv⟩:=t2.get hd
  refine ⟨⟨ws,v,q2,ev⟩,fun y H3 ⟨z1,z2⟩=>?_⟩
  subst z1
  have:=z2 ws q2
  rw [ev] at this
  cases this
  exact ⟨.refl _ _,s2,rv⟩
theorem reps_one {K:Fg1}{H:Hp}{mu:List Addr}{d:D}{vs:List V}(r:Reps K H mu [d] vs):∃ v,vs=[v]/\Rep K H mu d v:=by
 cases r with | cons r t=>cases t;exact ⟨_,rfl,r⟩
theorem reps_two {K:Fg1}{H:Hp}{mu:List Addr}{d e:D}{vs:List V}(r:Reps K H mu [d,e] vs):∃ v u,vs=[v,u]/\Rep K H mu d v/\Rep K H mu e u:=by
 cases r with | cons r t=>cases t with | cons q t=>cases t;exact ⟨_,_,rfl,r,q⟩
theorem mi_range1 {a:Expr}{m:FA}{p pos:Pos}(hg:Gl X "range")(hm:X.mg "range"=none)(ha:MA X [a] m)(hs:starEach [a] X.env=[(false,eval a X.env)]:=by rfl):MI X tg (.Call (.Name "range" p) [a] [] pos) (iR1 m):=
 pi_imp (pi_range1 hg hm ha hs) <| by
  rintro σ H R ⟨r,mu,S,J,S',he,hs,hm,hc⟩
  obtain ⟨⟨ds,S1⟩,e1,hm⟩:=oB1.mp hm
  dsimp only at hm
  split at hm
  ·rename_i j
   split at hm
   ·rename_i hb
    cases hm
    refine ⟨r,mu,S,_,_,he,hs,e1,fun vs H1 mu1 x1 r1 s1=>?_⟩
    obtain ⟨v,rfl,rv⟩:=reps_one r1
    cases rv
    exact ⟨j,rfl,hb.1,hb.2,hc _ H1 mu1 x1 (itr_nums _ _ _ _ _) s1⟩
   ·cases hm
  ·cases hm
theorem mi_range2 {a b:Expr}{m:FA}{p pos:Pos}(hg:Gl X "range")(hm:X.mg "range"=none)(ha:MA X [a,b] m)(hs:starEach [a,b] X.env=[(false,eval a X.env),(false,eval b X.env)]:=by rfl)(hs2:starEach [b] X.env=[(false,eval b X.env)]:=by rfl):MI X tg (.Call (.Name "range" p) [a,b] [] pos) (iR2 m):=
 pi_imp (pi_range2 hg hm ha hs hs2) <| by
  rintro σ H R ⟨r,mu,S,J,S',he,hs,hm,hc⟩
  obtain ⟨⟨ds,S1⟩,e1,hm⟩:=oB1.mp hm
  dsimp only at hm
  split at hm
  ·rename_i i j
   split at hm
   ·rename_i hb
    cases hm
    refine ⟨r,mu,S,_,_,he,hs,e1,fun vs H1 mu1 x1 r1 s1=>?_⟩
    obtain ⟨v,u,rfl,rv,ru⟩:=reps_two r1
    cases rv;cases ru
    exact ⟨i,j,rfl,hb,hc _ H1 mu1 x1 (itr_nums _ _ _ _ _) s1⟩
   ·cases hm
  ·cases hm
variable {elts:List Expr} {k:Nat} {tpos:Pos}
theorem mi_enum {a:Expr}{m:FA}{p pos:Pos}(hg:Gl X "enumerate")(hm:X.mg "enumerate"=none)(ha:MA X [a] m)(hs:starEach [a] X.env=[(false,eval a X.env)]:=by rfl):MI X (.Tuple elts k tpos) (.Call (.Name "enumerate" p) [a] [] pos) (iEn m):=
 pi_imp (pi_enum hg hm ha hs) <| by
  rintro σ H R ⟨r,mu,S,J,S',he,hs,hm,hc⟩
  obtain ⟨⟨ds,S1⟩,e1,hm⟩:=oB1.mp hm
  dsimp only at hm
  split at hm
  ·rename_i d
   obtain ⟨⟨b,xs⟩,e2,hm⟩:=oB1.mp hm
   cases hm
   refine ⟨r,mu,S,_,_,he,hs,e1,fun vs H1 mu1 x1 r1 s1=>?_⟩
   obtain ⟨v,rfl,rv⟩:=reps_one r1
   obtain ⟨a,vs,rfl,q,t⟩:=seqOf_at rv s1 e2
   refine ⟨a,b,rfl,⟨vs,q⟩,hc _ H1 mu1 x1 (fun i H2 mu2 S2 x2 s2 ok=>?_) s1⟩
   obtain ⟨ws,q2,t2⟩:=seq_later rv s1 e2 x2 s2 ok
   refine ⟨fun d hd=>?_,fun hl=>⟨ws,q2,by rw [enD_len] at hl;rw [<- t2.length];exact hl⟩⟩
   rw [enD_get] at hd
   obtain ⟨d',ed,hd⟩:=oM1.mp hd
   obtain ⟨v,ev,rv'⟩:=t2.get ed
   refine ⟨⟨ws,v,q2,ev⟩,fun y H3 ⟨p,v',hp,z1,z2,z3⟩=>?_⟩
   have:=z3 ws q2
   rw [ev] at this
   cases this
   subst z1;subst z2;subst hd
   rw [Nat.zero_add]
   exact ⟨Ext.fresh hp,s2.fresh hp,.tup (SqT.of upd_same) (.cons (.int _) (.cons (rv'.ext (Ext.fresh hp)) .nil))⟩
  ·cases hm
theorem mi_zip {a b:Expr}{m:FA}{p pos:Pos}(hg:Gl X "zip")(hm:X.mg "zip"=none)(ha:MA X [a,b] m)(hs:starEach [a,b] X.env=[(false,eval a X.env),(false,eval b X.env)]:=by rfl)(hs2:starEach [b] X.env=[(false,eval b X.env)]:=by rfl):MI X (.Tuple elts k tpos) (.Call (.Name "zip" p) [a,b] [] pos) (iZp m):=
 pi_imp (pi_zip hg hm ha hs hs2) <| by
  rintro σ H R ⟨r,mu,S,J,S',he,hs,hm,hc⟩
  obtain ⟨⟨ds,S1⟩,e1,hm⟩:=oB1.mp hm
  dsimp only at hm
  split at hm
  ·rename_i d e
   obtain ⟨⟨b1,xs⟩,e2,hm⟩:=oB1.mp hm
   obtain ⟨⟨b2,ys⟩,e3,hm⟩:=oB1.mp hm
   cases hm
   refine ⟨r,mu,S,_,_,he,hs,e1,fun vs H1 mu1 x1 r1 s1=>?_⟩
   obtain ⟨v,u,rfl,rv,ru⟩:=reps_two r1
   obtain ⟨a1,vs1,rfl,q1,t1⟩:=seqOf_at rv s1 e2
   obtain ⟨a2,vs2,rfl,q2,t2⟩:=seqOf_at ru s1 e3
   refine ⟨a1,b1,a2,b2,rfl,⟨vs1,q1⟩,⟨vs2,q2⟩,hc _ H1 mu1 x1 (fun i H2 mu2 S2 x2 s2 ok=>?_) s1⟩
   obtain ⟨ok1,ok2⟩:=okC_app ok
   obtain ⟨ws,q3,t3⟩:=seq_later rv s1 e2 x2 s2 ok1
   obtain ⟨ws2,q4,t4⟩:=seq_later ru s1 e3 x2 s2 ok2
   refine ⟨fun d hd=>?_,fun hl=>⟨ws,ws2,q3,q4,?_⟩⟩
   ·obtain ⟨x',y',ex,ey,rfl⟩:=zpD_get xs ys i d hd
    obtain ⟨v,ev,rv'⟩:=t3.get ex
    obtain ⟨u,eu,ru'⟩:=t4.get ey
    refine ⟨⟨ws,ws2,v,u,q3,q4,ev,eu⟩,fun y H3 ⟨p,v',u',hp,z1,z2,z3,z4⟩=>?_⟩
    have w3:=z3 ws q3
    have w4:=z4 ws2 q4
    rw [ev] at w3;cases w3
    rw [eu] at w4;cases w4
    subst z1;subst z2
    exact ⟨Ext.fresh hp,s2.fresh hp,.tup (SqT.of upd_same) (.cons (rv'.ext (Ext.fresh hp)) (.cons (ru'.ext (Ext.fresh hp)) .nil))⟩
   ·rcases zpD_len xs ys i hl with z | z
    ·exact .inl (by rw [<- t3.length];exact z)
    ·exact .inr (by rw [<- t4.length];exact z)
  ·cases hm
end
noncomputable abbrev G1:=D->Sto->Option (D×Sto)
noncomputable abbrev G2:=D->D->Sto->Option (D×Sto)
noncomputable abbrev G3:=D->D->D->Sto->Option (D×Sto)
noncomputable def b1 (f:G1):FN:=fun ds S=>match ds with
 | [a]=>f a S
 | _=>none
noncomputable def b2 (f:G2):FN:=fun ds S=>match ds with
 | [a,b]=>f a b S
 | _=>none
noncomputable def b3 (f:G3):FN:=fun ds S=>match ds with
 | [a,b,c]=>f a b c S
 | _=>none
section
variable {X:Cx} {K:Fg1} {H:Hp} {Q:VK}
theorem rn2 {f:G2}{x y:V}(h:rN K (b2 f) [x,y] H Q):∃ mu S d e r S',Rep K H mu d x/\Rep K H mu e y/\Sim K H mu S/\f d e S=some (r,S')/\Cont K mu H r S' Q:=by
 obtain ⟨mu,S,ds,r,S',hr,hs,hm,hc⟩:=h
 cases hr with
 | cons q t=>cases t with
  | cons q2 t=>cases t;exact ⟨mu,S,_,_,r,S',q,q2,hs,hm,hc⟩
theorem rn1 {f:G1}{xs:List V}(h:rN K (b1 f) xs H Q):∃ x mu S d r S',xs=[x]/\Rep K H mu d x/\Sim K H mu S/\f d S=some (r,S')/\Cont K mu H r S' Q:=by
 obtain ⟨mu,S,ds,r,S',hr,hs,hm,hc⟩:=h
 cases hr with
 | nil=>cases hm
 | cons q t=>cases t with
  | nil=>exact ⟨_,mu,S,_,r,S',rfl,q,hs,hm,hc⟩
  | cons q2 t=>cases hm
theorem rn2l {f:G2}{xs:List V}(h:rN K (b2 f) xs H Q):∃ x y mu S d e r S',xs=[x,y]/\Rep K H mu d x/\Rep K H mu e y/\Sim K H mu S/\f d e S=some (r,S')/\Cont K mu H r S' Q:=by
 obtain ⟨mu,S,ds,r,S',hr,hs,hm,hc⟩:=h
 cases hr with
 | nil=>cases hm
 | cons q t=>cases t with
  | nil=>cases hm
  | cons q2 t=>cases t with
   | nil=>exact ⟨_,_,mu,S,_,_,r,S',rfl,q,q2,hs,hm,hc⟩
   | cons q3 t=>cases hm
theorem Cont.now {mu:List Addr}{S:Sto}{d:D}{v:V}(c:Cont K mu H d S Q)(r:Rep K H mu d v)(s:Sim K H mu S):Q v H:=c v H mu (.refl _ _) r s
end
noncomputable def mulFits (i j:Int):Bool:=(decide (-(2^64)<i)&&decide (i<2^64))||(decide (-(2^64)<j)&&decide (j<2^64))||(decide (i.natAbs<2^1000)&&decide (j.natAbs<2^1000))
noncomputable def gAdd:G2:=fun d e S=>match d,e with
 | .int i,.int j=>some (.int (i+j),S)
 | .tup xs,.tup ys=>if xs.length+ys.length<=sizeLine then some (.tup (xs++ys),S) else none
 | .str x,.str y=>if x.length+y.length<=sizeLine then some (.str (x++y),S) else none
 | .ref a,.ref b=>match S[a]?,S[b]? with
  | some (.lst xs),some (.lst ys)=>if xs.length+ys.length<=sizeLine then some (.ref S.length,S++[.lst (xs++ys)]) else none
  | _,_=>none
 | _,_=>none
noncomputable def gSub:G2:=fun d e S=>match d,e with
 | .int i,.int j=>some (.int (i-j),S)
 | _,_=>none
noncomputable def gMul:G2:=fun d e S=>match d,e with
 | .int i,.int j=>if mulFits i j=true then some (.int (i*j),S) else none
 | _,_=>none
noncomputable def gMod:G2:=fun d e S=>match d,e with
 | .int i,.int j=>if 0<j then some (.int (i%j),S) else none
 | _,_=>none
noncomputable def gDiv:G2:=fun d e S=>match d,e with
 | .int i,.int j=>if 0<j/\j<1073741824 then some (.int (i/j),S) else none
 | _,_=>none
noncomputable def gPow:G2:=fun d e S=>match d,e with
 | .int i,.int j=>if 0<=j/\j<=1000000/\i.natAbs<2^64 then some (.int (i^j.toNat),S) else none
 | _,_=>none
section
variable {X:Cx}
theorem mulFits_ok {i j:Int}(h:mulFits i j=true):IntMulOk i j:=by
 unfold mulFits at h
 simp only [Bool.or_eq_true,bA1,decide_eq_true_eq] at h
 rcases h with (⟨h1,h2⟩ | ⟨h1,h2⟩) | ⟨h1,h2⟩
 ·exact .of_left (intBits_le_64 h1 h2)
 ·exact .of_right (intBits_le_64 h1 h2)
 ·exact .of_bits (Nat.le_trans (intBits_le h1) (by decide)) (Nat.le_trans (intBits_le h2) (by decide))
theorem op2_int {f:Value->Value->Sem Value}{g:G2}{c:Int->Int->Prop}{v:Int->Int->D}(hg:∀ d e S r S',g d e S=some (r,S') -> ∃ i j,d = .int i/\e = .int j/\c i j/\r=v i j/\S'=S){vv:Int->Int->V}
  (hv:∀ i j K H mu,Rep K H mu (v i j) (vv i j)) (ho:OpR X f (rI c vv)):OpR X f (r2 X.K (b2 g)):=by
 intro pins s σ H x y u w Q I rx ry h
 obtain ⟨mu,S,d,e,r,S',r1,r2,hs,hm,hc⟩:=rn2 h
 obtain ⟨i,j,rfl,rfl,cc,rfl,rfl⟩:=hg d e S r S' hm
 cases r1;cases r2
 exact ho pins s σ H _ _ u w Q I rx ry ⟨i,j,rfl,rfl,cc,hc.now (hv i j _ _ _) hs⟩
theorem op2_int0 {f:Value->Value->Sem Value}{g:G2}{v:Int->Int->D}(hg:∀ d e S r S',g d e S=some (r,S') -> ∃ i j,d = .int i/\e = .int j/\r=v i j/\S'=S){vv:Int->Int->V}
  (hv:∀ i j K H mu,Rep K H mu (v i j) (vv i j)) (ho:OpR X f (rI0 vv)):OpR X f (r2 X.K (b2 g)):=by
 intro pins s σ H x y u w Q I rx ry h
 obtain ⟨mu,S,d,e,r,S',r1,r2,hs,hm,hc⟩:=rn2 h
 obtain ⟨i,j,rfl,rfl,rfl,rfl⟩:=hg d e S r S' hm
 cases r1;cases r2
 exact ho pins s σ H _ _ u w Q I rx ry ⟨i,j,rfl,rfl,hc.now (hv i j _ _ _) hs⟩
theorem o_sub:OpR X (binaryOp .Sub) (r2 X.K (b2 gSub)):=op2_int0 (v:=fun i j=>.int (i-j)) (fun d e S r S' h=>by
 unfold gSub at h;split at h
 ·cases h;exact ⟨_,_,rfl,rfl,rfl,rfl⟩
 ·cases h) (fun _ _ _ _ _=>.int _) op_sub
theorem o_mul:OpR X (binaryOp .Mult) (r2 X.K (b2 gMul)):=op2_int (c:=fun i j=>IntMulOk i j) (v:=fun i j=>.int (i*j)) (fun d e S r S' h=>by
 unfold gMul at h;split at h
 ·split at h
  ·rename_i q;cases h;exact ⟨_,_,rfl,rfl,mulFits_ok q,rfl,rfl⟩
  ·cases h
 ·cases h) (fun _ _ _ _ _=>.int _) (opI fun _ _ _ _ _ _ _ hc q=>mul_int q hc)
theorem o_mod:OpR X (binaryOp .Mod) (r2 X.K (b2 gMod)):=op2_int (c:=fun _ j=>0<j) (v:=fun i j=>.int (i%j)) (fun d e S r S' h=>by
 unfold gMod at h;split at h
 ·split at h
  ·rename_i q;cases h;exact ⟨_,_,rfl,rfl,q,rfl,rfl⟩
  ·cases h
 ·cases h) (fun _ _ _ _ _=>.int _) op_mod
theorem o_div:OpR X (binaryOp .FloorDiv) (r2 X.K (b2 gDiv)):=op2_int (c:=CDiv) (v:=fun i j=>.int (i/j)) (fun d e S r S' h=>by
 unfold gDiv at h;split at h
 ·split at h
  ·rename_i q;cases h;exact ⟨_,_,rfl,rfl,q,rfl,rfl⟩
  ·cases h
 ·cases h) (fun _ _ _ _ _=>.int _) op_fdiv
theorem o_pow:OpR X (binaryOp .Pow) (r2 X.K (b2 gPow)):=op2_int (c:=CPow) (v:=fun i j=>.int (i^j.toNat)) (fun d e S r S' h=>by
 unfold gPow at h;split at h
 ·split at h
  ·rename_i q;cases h;exact ⟨_,_,rfl,rfl,q,rfl,rfl⟩
  ·cases h
 ·cases h) (fun _ _ _ _ _=>.int _) op_pow
theorem cat_empty {s:Shared}{prog:Program}{w:World}{A:Around}{E:Value->Shared->Prop}{t b:Addr}{ws:List Value}{Q:Value->Shared->Prop}(ht:IsTup s.heap t ([]:List Value).toArray)(hb:IsTup s.heap b ws.toArray)(h:Q (.ref b) s):
  wpAny (model prog w) A (binaryOp .Add (.ref t) (.ref b)) Q E s:=by
 obtain ⟨⟨cls,dd,data,sl⟩,ho,hc,n,hd⟩:=id ht
 obtain ⟨⟨cls2,dd2,data2,sl2⟩,ho2,hc2,n2,hd2⟩:=id hb
 simp only at hc hd hc2 hd2;subst hc hd hc2 hd2
 exact concat_meets ⟨_,ho,rfl⟩ ⟨_,ho2,rfl⟩ noFill_tuple_add seq_tuple_add PySem.F.slot_tuple_add PySem.F.entry_tuple_add (PySem.F.args_tuple_add_2 _ _) (tuple_addW0 t b ([]:List Value).toArray ws.toArray n n2 dd dd2 sl sl2 (by simp)) ⟨ho,ho2,h⟩
theorem o_add:OpR X (binaryOp .Add) (r2 X.K (b2 gAdd)):=by
 intro pins s σ H x y u w Q I rx ry h
 obtain ⟨mu,S,d,e,r,S',r1,r2,hs,hm,hc⟩:=rn2 h
 unfold gAdd at hm
 split at hm
 ·cases hm;cases r1;cases r2
  exact op_add pins s σ H _ _ u w Q I rx ry ⟨_,_,rfl,rfl,hc.now (.int _) hs⟩
 ·rename_i xs ys
  split at hm
  ·rename_i hl
   cases hm
   cases r1 with
   | tup q1 t1=>
    cases r2 with
    | tup q2 t2=>
     rename_i vs1 a1 vs2 a2
     by_cases hx:vs1=[]
     ·subst hx
      have:xs=[]:=by cases t1;rfl
      subst this
      cases rx;cases ry
      obtain ⟨its,rv,p1,_⟩:=I.tuple q1
      obtain ⟨its2,rv2,p2,_⟩:=I.tuple q2
      have:its=[]:=rv.nil_iff.mpr rfl
      subst this
      exact cat_empty p1 p2 ⟨.ref a2,H,I,rfl,hc.now (.tup q2 t2) hs⟩
     ·refine op_catT pins s σ H _ _ u w Q I rx ry ⟨a1,a2,vs1,vs2,rfl,rfl,q1,q2,hx,by rw [<- t1.length,<- t2.length];exact hl,fun z=>?_,fun z p hp=>?_⟩
      ·subst z
       have:ys=[]:=by cases t2;rfl
       subst this
       rw [List.append_nil] at hc
       exact hc.now (.tup q1 t1) hs
      ·exact hc _ _ mu (Ext.fresh hp) (.tup (SqT.of upd_same) ((t1.append t2).ext (Ext.fresh hp))) (hs.fresh hp)
  ·cases hm
 ·rename_i i j
  split at hm
  ·rename_i hl
   cases hm;cases r1;cases r2
   exact op_add_str pins s σ H _ _ u w Q I rx ry ⟨i,j,rfl,rfl,hl,hc.now (.str _) hs⟩
  ·cases hm
 ·rename_i a b
  split at hm
  ·rename_i xs ys ea eb
   split at hm
   ·rename_i hl
    cases hm
    cases r1 with
    | ref qa=>
     cases r2 with
     | ref qb=>
      obtain ⟨vs1,e1,t1⟩:=hs.lst ea qa
      obtain ⟨vs2,e2,t2⟩:=hs.lst eb qb
      refine op_cat pins s σ H _ _ u w Q I rx ry ⟨_,_,vs1,vs2,rfl,rfl,e1,e2,by rw [<- t1.length,<- t2.length];exact hl,fun p hp=>?_⟩
      exact hc _ _ (mu++[p]) (Ext.new_ hp) (.ref (new_at hs.len p)) (hs.newL (t1.append t2) hp)
   ·cases hm
  ·cases hm
 ·cases hm
end
noncomputable def gCmp (p:Int->Int->Bool):G2:=fun d e S=>match d,e with
 | .int i,.int j=>some (.bl (p i j),S)
 | _,_=>none
section
variable {X:Cx}
theorem gCmp_of {p:Int->Int->Bool}(d e:D)(S:Sto)(r:D)(S':Sto)(h:gCmp p d e S=some (r,S')):∃ i j,d = .int i/\e = .int j/\r = .bl (p i j)/\S'=S:=by
 unfold gCmp at h;split at h
 ·cases h;exact ⟨_,_,rfl,rfl,rfl,rfl⟩
 ·cases h
theorem o_gt:OpR X (compareOp .Gt) (r2 X.K (b2 (gCmp fun i j=>decide (j<i)))):=op2_int0 gCmp_of (fun _ _ _ _ _=>.bl _) op_gt
theorem o_ge:OpR X (compareOp .GtE) (r2 X.K (b2 (gCmp fun i j=>decide (j<=i)))):=op2_int0 gCmp_of (fun _ _ _ _ _=>.bl _) op_ge
end
noncomputable def flatD:D->Bool
 | .non=>true
 | .bl _=>true
 | .int _=>true
 | .str _=>true
 | _=>false
noncomputable def eqF:D->D->Option Bool
 | .non,.non=>some true
 | .bl a,.bl b=>some (a == b)
 | .bl a,.int b=>some ((if a then 1 else 0) == b)
 | .int a,.bl b=>some (a == (if b then 1 else 0))
 | .int a,.int b=>some (a == b)
 | .str a,.str b=>some (a == b)
 | d,e=>if flatD d&&flatD e then some false else none
noncomputable def eqL (f:D->D->Option Bool):List D->List D->Option Bool
 | x::xs,y::ys=>(f x y).bind fun b=>(eqL f xs ys).map fun c=>b&&c
 | [],[]=>some true
 | _,_=>some false
noncomputable def eqN (S:Sto):Nat->D->D->Option Bool
 | 0,_,_=>none
 | n+1,d,e=>match seqOf S d,seqOf S e with
  | some p,some q=>if p.1=q.1 then (if p.1=true/\p.2.length≠q.2.length then some false else eqL (eqN S n) p.2 q.2) else some false
  | some _,none=>if flatD e=true then some false else none
  | none,some _=>if flatD d=true then some false else none
  | none,none=>eqF d e
section
variable {X:Cx} {pins:List (Addr×Obj)} {σ:L2.St} {H:Hp} {s:Shared} {mu:List Addr} {S:Sto}
theorem flat_rep {K:Fg1}{d:D}{v:V}(r:Rep K H mu d v)(h:flatD d=true):flatV v=true /\ ∀ e w,Rep K H mu e w->flatD e=true->eqF d e=some (eqV v w):=by
 cases d with
 | non=>cases r;refine ⟨rfl,fun e w q f=>?_⟩;cases e with
  | non=>cases q;rfl
  | bl _=>cases q;rfl
  | int _=>cases q;rfl
  | str _=>cases q;rfl
  | _=>cases f
 | bl b=>cases r;refine ⟨rfl,fun e w q f=>?_⟩;cases e with
  | non=>cases q;rfl
  | bl _=>cases q;rfl
  | int _=>cases q;rfl
  | str _=>cases q;rfl
  | _=>cases f
 | int i=>cases r;refine ⟨rfl,fun e w q f=>?_⟩;cases e with
  | non=>cases q;rfl
  | bl _=>cases q;rfl
  | int _=>cases q;rfl
  | str _=>cases q;rfl
  | _=>cases f
 | str x=>cases r;refine ⟨rfl,fun e w q f=>?_⟩;cases e with
  | non=>cases q;rfl
  | bl _=>cases q;rfl
  | int _=>cases q;rfl
  | str _=>cases q;rfl
  | _=>cases f
 | _=>cases h
theorem eqF_flat {d e:D}{b:Bool}(h:eqF d e=some b):flatD d=true/\flatD e=true:=by
 cases d<;>cases e<;>first | exact ⟨rfl,rfl⟩ | (cases h;done) | exact nomatch h | (simp [eqF,flatD] at h)
theorem eqV_self {v:V}(h:flatV v=true):eqV v v=true:=by
 cases v<;>first | rfl | (cases h;done) | exact beq_self_eq_true _ | (simp [eqV];done)
theorem eqN_same (I:Inv X pins σ H s)(hs:Sim X.K H mu S):∀ (n:Nat) {d e:D} {v:V} {b:Bool},Rep X.K H mu d v->Rep X.K H mu e v->eqN S n d e=some b->b=true
 | 0,_,_,_,_,_,_,h=>by cases h
 | n + 1,d,e,v,b,rd,re,h=>by
  rw [eqN] at h
  have lists:∀ {xs ys:List D} {vs:List V} {b:Bool},Reps X.K H mu xs vs->Reps X.K H mu ys vs->eqL (eqN S n) xs ys=some b->b=true:=by
   intro xs
   induction xs with
   | nil=>intro ys vs b hx hy h;cases hx;cases hy;cases h;rfl
   | cons x xs ih=>
    intro ys vs b hx hy h
    cases hx with
    | cons r t=>
     cases hy with
     | cons r' t'=>
      rw [eqL] at h
      obtain ⟨b1,e1,h⟩:=oB1.mp h
      obtain ⟨b2,e2,h⟩:=oM1.mp h
      subst h
      rw [eqN_same I hs n r r' e1,ih t t' e2];rfl
  cases hd:seqOf S d with
  | some p=>
   obtain ⟨pb,xs⟩:=p
   obtain ⟨a,vs,rfl,q,t⟩:=seqOf_at rd hs hd
   cases he:seqOf S e with
   | some p2=>
    obtain ⟨qb,ys⟩:=p2
    obtain ⟨a2,vs2,e2,q2,t2⟩:=seqOf_at re hs he
    cases e2
    rw [hd,he] at h
    dsimp only at h
    obtain ⟨its,rv,co,_⟩:=sqb_at I q
    obtain ⟨its2,rv2,co2,_⟩:=sqb_at I q2
    have hb:pb=qb:=by
     cases pb<;>cases qb
     ·rfl
     ·obtain ⟨o,e1,c1,_⟩:=co;obtain ⟨o2,e2,c2,_⟩:=co2;rw [e1] at e2;cases e2;rw [c1] at c2;exact absurd c2 (by decide)
     ·obtain ⟨o,e1,c1,_⟩:=co;obtain ⟨o2,e2,c2,_⟩:=co2;rw [e1] at e2;cases e2;rw [c1] at c2;exact absurd c2 (by decide)
     ·rfl
    subst hb
    have hv:=sqb_inj I q q2
    subst hv
    rw [if_pos rfl,if_neg (by rw [t.length,t2.length];simp)] at h
    exact lists t t2 h
   | none=>
    rw [hd,he] at h
    dsimp only at h
    split at h
    ·rename_i f
     have:=(flat_rep re f).1
     cases this
    ·cases h
  | none=>
   cases he:seqOf S e with
   | some p2=>
    obtain ⟨qb,ys⟩:=p2
    obtain ⟨a2,vs2,e2,q2,t2⟩:=seqOf_at re hs he
    subst e2
    rw [hd,he] at h
    dsimp only at h
    split at h
    ·rename_i f
     have:=(flat_rep rd f).1
     cases this
    ·cases h
   | none=>
    rw [hd,he] at h
    dsimp only at h
    obtain ⟨f1,f2⟩:=eqF_flat h
    obtain ⟨g1,g2⟩:=flat_rep rd f1
    rw [g2 e v re f2] at h
    cases h
    exact eqV_self g1
theorem rc_seq_none {A:Around}{b:Bool}{a:Addr}{its:Array Value}{v:V}{u:Value}(c:SCo b s.heap a its)(r:RelV v u)(f:flatV v=true)(hu:A.units<cLine):
   SeqAt.EqAt A s (.ref a) u false/\SeqAt.EqAt A s u (.ref a) false/\SeqAt.RcAt A s (.ref a) u false/\SeqAt.RcAt A s u (.ref a) false:=by
 cases v with
 | non => cases r;cases b
          · exact ⟨.tuple_none c hu,.none_tuple c hu,.tuple_none c hu,.none_tuple c hu⟩
          · exact ⟨.list_none c hu,.none_list c hu,.list_none c hu,.none_list c hu⟩
 | bl k => cases r;cases b
           · exact ⟨.tuple_bool k c hu,.bool_tuple k c hu,.tuple_bool k c hu,.bool_tuple k c hu⟩
           · exact ⟨.list_bool k c hu,.bool_list k c hu,.list_bool k c hu,.bool_list k c hu⟩
 | int i => obtain ⟨t,rfl⟩:=r;cases b
            · exact ⟨.tuple_int i t c hu,.int_tuple i t c hu,.tuple_int i t c hu,.int_tuple i t c hu⟩
            · exact ⟨.list_int i t c hu,.int_list i t c hu,.list_int i t c hu,.int_list i t c hu⟩
 | str x => obtain ⟨t,rfl⟩:=r;cases b
            · exact ⟨.tuple_str x t c hu,.str_tuple x t c hu,.tuple_str x t c hu,.str_tuple x t c hu⟩
            · exact ⟨.list_str x t c hu,.str_list x t c hu,.list_str x t c hu,.str_list x t c hu⟩
 | _=>cases f
theorem rc_flat {A:Around}{x y:V}{u w:Value}(rx:RelV x u)(ry:RelV y w)(fx:flatV x=true)(fy:flatV y=true):SeqAt.RcAt A s u w (eqV x y):=by
 cases x with
 | non=>cases rx;cases y with
  | non=>cases ry;exact .none_none
  | bl k=>cases ry;exact .none_bool k
  | int i=>obtain ⟨t,rfl⟩:=ry;exact .none_int i t
  | str z=>obtain ⟨t,rfl⟩:=ry;exact .none_str z t
  | _=>cases fy
 | bl k'=>cases rx;cases y with
  | non=>cases ry;exact .bool_none k'
  | bl k=>cases ry;exact .bool_bool k' k
  | int i=>obtain ⟨t,rfl⟩:=ry;exact .bool_int k' i t
  | str z=>obtain ⟨t,rfl⟩:=ry;exact .bool_str k' z t
  | _=>cases fy
 | int i'=>obtain ⟨t',rfl⟩:=rx;cases y with
  | non=>cases ry;exact .int_none i' t'
  | bl k=>cases ry;exact .int_bool i' t' k
  | int i=>obtain ⟨t,rfl⟩:=ry;exact .int_int i' t' i t
  | str z=>obtain ⟨t,rfl⟩:=ry;exact .int_str i' t' z t
  | _=>cases fy
 | str z'=>obtain ⟨t',rfl⟩:=rx;cases y with
  | non=>cases ry;exact .str_none z' t'
  | bl k=>cases ry;exact .str_bool z' t' k
  | int i=>obtain ⟨t,rfl⟩:=ry;exact .str_int z' t' i t
  | str z=>obtain ⟨t,rfl⟩:=ry;exact .str_str z' t' z t
  | _=>cases fy
 | _=>cases fx
theorem eqL_at (f:D->D->Option Bool):∀ {xs ys:List D} {b:Bool},eqL f xs ys=some b -> ∃ e:Nat->Bool,(∀ j x y,xs[j]? = some x->ys[j]? = some y->f x y=some (e j))/\b=((List.range (min xs.length ys.length)).all e&&xs.length == ys.length)
 | [],[],b,h=>by cases h;exact ⟨fun _=>true,fun j x y h=>by simp at h,rfl⟩
 | [],y::ys,b,h=>by cases h;exact ⟨fun _=>true,fun j x y h=>by simp at h,by simp⟩
 | x::xs,[],b,h=>by cases h;exact ⟨fun _=>true,fun j x y h h'=>by simp at h',by simp⟩
 | x::xs,y::ys,b,h=>by
  rw [eqL] at h
  obtain ⟨b1,e1,h⟩:=oB1.mp h
  obtain ⟨b2,e2,h⟩:=oM1.mp h
  obtain ⟨e,he,hb⟩:=eqL_at f e2
  refine ⟨fun j=>match j with | 0=>b1 | j+1=>e j,fun j x' y' hx hy=>?_,?_⟩
  ·cases j with
   | zero=>simp at hx hy;subst hx;subst hy;exact e1
   | succ j=>exact he j x' y' (by simpa using hx) (by simpa using hy)
  ·rw [<- h,hb,lC1,lC1,Nat.succ_min_succ,List.range_succ_eq_map,List.all_cons,List.all_map]
   have:((xs.length+1 == ys.length+1):Bool)=(xs.length == ys.length):=by simp
   rw [this,Bool.and_assoc]
   rfl
theorem eqN_at (I:Inv X pins σ H s) (hs:Sim X.K H mu S):∀ (n:Nat) {A:Around} {d e:D} {v w:V} {u z:Value} {b:Bool},A.units+n<cLine->Rep X.K H mu d v->Rep X.K H mu e w->RelV v u->RelV w z->eqN S n d e=some b->SeqAt.EqAt A s u z b/\SeqAt.RcAt A s u z b
 | 0,_,_,_,_,_,_,_,_,_,_,_,_,_,h=>by cases h
 | n + 1,A,d,e,v,w,u,z,b,hu,rd,re,ru,rz,h=>by
  have hu0:A.units<cLine:=by lia
  have h0:=h
  rw [eqN] at h
  cases hd:seqOf S d with
  | some p=>
   obtain ⟨pb,xs⟩:=p
   obtain ⟨a,vs,rfl,q,t⟩:=seqOf_at rd hs hd
   obtain ⟨its,rv,co,_⟩:=sqb_at I q
   cases ru
   cases he:seqOf S e with
   | some p2=>
    obtain ⟨qb,ys⟩:=p2
    obtain ⟨a2,vs2,rfl,q2,t2⟩:=seqOf_at re hs he
    obtain ⟨its2,rv2,co2,_⟩:=sqb_at I q2
    cases rz
    rw [hd,he] at h
    dsimp only at h
    have both:SeqAt.RcAt A s (.ref a) (.ref a2) b->SeqAt.EqAt A s (.ref a) (.ref a2) b/\SeqAt.RcAt A s (.ref a) (.ref a2) b:=fun rc=>by
     refine ⟨?_,rc⟩
     by_cases ha:a=a2
     ·subst ha
      rw [eqN_same I hs (n+1) rd re h0]
      exact .same _
     ·exact .of_refs ha rc
    split at h
    ·rename_i hb
     have hb':pb=qb:=hb
     subst hb'
     split at h
     ·rename_i hl
      cases h
      obtain ⟨h1,h2⟩:=hl
      subst h1
      refine both (.lists_lengths co co2 ?_ hu0)
      have l1:=t.length;have l2:=t2.length;have l3:=rv.length;have l4:=rv2.length
      simp only [sT1,bne_iff_ne,ne_eq]
      lia
     ·rename_i hl
      obtain ⟨f,hf,hbb⟩:=eqL_at _ h
      have elts:∀ j (h1:j<its.toArray.size) (h2:j<its2.toArray.size),SeqAt.EqAt A.in1 s its.toArray[j] its2.toArray[j] (f j):=fun j h1 h2=>by
       have h1':j<its.length:=by simpa using h1
       have h2':j<its2.length:=by simpa using h2
       have k1:j<vs.length:=by rw [rv.length];exact h1'
       have k2:j<vs2.length:=by rw [rv2.length];exact h2'
       obtain ⟨x,ex,rx⟩:=t.getV (gG1 k1)
       obtain ⟨y,ey,ry⟩:=t2.getV (gG1 k2)
       obtain ⟨u1,eu1,ru1⟩:=rv.get (gG1 k1)
       obtain ⟨u2,eu2,ru2⟩:=rv2.get (gG1 k2)
       have e1:its.toArray[j]=u1:=by
        rw [gG1 h1'] at eu1;simpa using eu1
       have e2:its2.toArray[j]=u2:=by
        rw [gG1 h2'] at eu2;simpa using eu2
       rw [e1,e2]
       exact (eqN_at I hs n (A:=A.in1) (by show A.units+1+n<cLine;lia) rx ry ru1 ru2 (hf j x y ex ey)).1
      have l1:=t.length;have l2:=t2.length;have l3:=rv.length;have l4:=rv2.length
      cases pb with
      | false=>
       refine both ?_
       have:=SeqAt.RcAt.tuples co co2 hu0 elts
       rw [hbb]
       have e1:its.toArray.size=xs.length:=by simp;lia
       have e2:its2.toArray.size=ys.length:=by simp;lia
       rw [e1,e2] at this
       exact this
      | true=>
       refine both ?_
       have hl':xs.length=ys.length:=by
        by_cases z:xs.length=ys.length
        ·exact z
        ·exact absurd ⟨rfl,z⟩ hl
       have:=SeqAt.RcAt.lists co co2 (by simp;lia) hu0 elts
       rw [hbb]
       have e1:its.toArray.size=xs.length:=by simp;lia
       rw [e1] at this
       rw [hl',Nat.min_self,beq_self_eq_true,Bool.and_true,<- hl']
       exact this
    ·rename_i hb
     cases h
     cases pb with
     | true=>
      cases qb with
      | true=>exact absurd rfl hb
      | false=>exact ⟨.list_tuple co co2 hu0,.list_tuple co co2 hu0⟩
     | false=>
      cases qb with
      | false=>exact absurd rfl hb
      | true=>exact ⟨.tuple_list co co2 hu0,.tuple_list co co2 hu0⟩
   | none=>
    rw [hd,he] at h
    dsimp only at h
    split at h
    ·rename_i f
     cases h
     obtain ⟨r1,r2,r3,r4⟩:=rc_seq_none co rz (flat_rep re f).1 hu0
     exact ⟨r1,r3⟩
    ·cases h
  | none=>
   cases he:seqOf S e with
   | some p2=>
    obtain ⟨qb,ys⟩:=p2
    obtain ⟨a2,vs2,rfl,q2,t2⟩:=seqOf_at re hs he
    obtain ⟨its2,rv2,co2,_⟩:=sqb_at I q2
    cases rz
    rw [hd,he] at h
    dsimp only at h
    split at h
    ·rename_i f
     cases h
     obtain ⟨r1,r2,r3,r4⟩:=rc_seq_none co2 ru (flat_rep rd f).1 hu0
     exact ⟨r2,r4⟩
    ·cases h
   | none=>
    rw [hd,he] at h
    dsimp only at h
    obtain ⟨f1,f2⟩:=eqF_flat h
    obtain ⟨g1,g2⟩:=flat_rep rd f1
    have g3:=(flat_rep re f2).1
    rw [g2 e w re f2] at h
    cases h
    exact ⟨eqAt_V ru rz g1 g3,rc_flat ru rz g1 g3⟩
end
noncomputable def deepMost:Nat:=60
noncomputable def gEq:G2:=fun d e S=>(eqN S deepMost d e).map fun b=>(.bl b,S)
section
variable {X:Cx}
theorem o_eq (hu:X.A.units+64<cLine):OpR X (compareOp .Eq) (r2 X.K (b2 gEq)):=by
 intro pins s σ H x y u w Q I rx ry h
 obtain ⟨mu,S,d,e,r,S',r1,r2,hs,hm,hc⟩:=rn2 h
 obtain ⟨b,e1,hm⟩:=oM1.mp hm
 cases hm
 exact (eqN_at I hs deepMost (by show _+60<cLine;lia) r1 r2 rx ry e1).2 X.prog X.w X.xe _ ⟨.bl b,H,I,rfl,hc.now (.bl b) hs⟩
end
section
variable {X:Cx} {pins:List (Addr×Obj)} {σ:L2.St} {H:Hp} {s:Shared} {mu:List Addr} {S:Sto}
theorem ne_flat {A:Around}{x y:V}{u w:Value}(rx:RelV x u)(ry:RelV y w)(fx:flatV x=true)(fy:flatV y=true):SeqAt.RcNeAt A s u w (!eqV x y):=by
 cases x with
 | non=>cases rx;cases y with
  | non=>cases ry;exact .none_none
  | bl k=>cases ry;exact .none_bool k
  | int i=>obtain ⟨t,rfl⟩:=ry;exact .none_int i t
  | str z=>obtain ⟨t,rfl⟩:=ry;exact .none_str z t
  | _=>cases fy
 | bl k'=>cases rx;cases y with
  | non=>cases ry;exact .bool_none k'
  | bl k=>cases ry;exact .bool_bool k' k
  | int i=>obtain ⟨t,rfl⟩:=ry;exact .bool_int k' i t
  | str z=>obtain ⟨t,rfl⟩:=ry;exact .bool_str k' z t
  | _=>cases fy
 | int i'=>obtain ⟨t',rfl⟩:=rx;cases y with
  | non=>cases ry;exact .int_none i' t'
  | bl k=>cases ry;exact .int_bool i' t' k
  | int i=>obtain ⟨t,rfl⟩:=ry;exact .int_int i' t' i t
  | str z=>obtain ⟨t,rfl⟩:=ry;exact .int_str i' t' z t
  | _=>cases fy
 | str z'=>obtain ⟨t',rfl⟩:=rx;cases y with
  | non=>cases ry;exact .str_none z' t'
  | bl k=>cases ry;exact .str_bool z' t' k
  | int i=>obtain ⟨t,rfl⟩:=ry;exact .str_int z' t' i t
  | str z=>obtain ⟨t,rfl⟩:=ry;exact .str_str z' t' z t
  | _=>cases fy
 | _=>cases fx
theorem ne_seq_none {A:Around}{b:Bool}{a:Addr}{its:Array Value}{v:V}{u:Value}(c:SCo b s.heap a its)(r:RelV v u)(f:flatV v=true)(hu:A.units<cLine):SeqAt.RcNeAt A s (.ref a) u true/\SeqAt.RcNeAt A s u (.ref a) true:=by
 cases v with
 | non => cases r;cases b
          · exact ⟨.tuple_none c hu,.none_tuple c hu⟩
          · exact ⟨.list_none c hu,.none_list c hu⟩
 | bl k => cases r;cases b
           · exact ⟨.tuple_bool k c hu,.bool_tuple k c hu⟩
           · exact ⟨.list_bool k c hu,.bool_list k c hu⟩
 | int i => obtain ⟨t,rfl⟩:=r;cases b
            · exact ⟨.tuple_int i t c hu,.int_tuple i t c hu⟩
            · exact ⟨.list_int i t c hu,.int_list i t c hu⟩
 | str x => obtain ⟨t,rfl⟩:=r;cases b
            · exact ⟨.tuple_str x t c hu,.str_tuple x t c hu⟩
            · exact ⟨.list_str x t c hu,.str_list x t c hu⟩
 | _=>cases f
theorem neN_at (I:Inv X pins σ H s) (hs:Sim X.K H mu S) (n:Nat) {A:Around} {d e:D} {v w:V} {u z:Value} {b:Bool} (hu:A.units+n<cLine) (rd:Rep X.K H mu d v) (re:Rep X.K H mu e w) (ru:RelV v u) (rz:RelV w z) (h:eqN S n d e=some b):SeqAt.RcNeAt A s u z (!b):=by
 cases n with
 | zero=>cases h
 | succ n=>
  have hu0:A.units<cLine:=by lia
  rw [eqN] at h
  cases hd:seqOf S d with
  | some p=>
   obtain ⟨pb,xs⟩:=p
   obtain ⟨a,vs,rfl,q,t⟩:=seqOf_at rd hs hd
   obtain ⟨its,rv,co,_⟩:=sqb_at I q
   cases ru
   cases he:seqOf S e with
   | some p2=>
    obtain ⟨qb,ys⟩:=p2
    obtain ⟨a2,vs2,rfl,q2,t2⟩:=seqOf_at re hs he
    obtain ⟨its2,rv2,co2,_⟩:=sqb_at I q2
    cases rz
    rw [hd,he] at h
    dsimp only at h
    have l1:=t.length;have l2:=t2.length;have l3:=rv.length;have l4:=rv2.length
    split at h
    ·rename_i hb
     have hb':pb=qb:=hb
     subst hb'
     split at h
     ·rename_i hl
      cases h
      obtain ⟨h1,h2⟩:=hl
      subst h1
      refine .lists_lengths co co2 ?_ hu0
      simp only [sT1,bne_iff_ne,ne_eq]
      lia
     ·rename_i hl
      obtain ⟨f,hf,hbb⟩:=eqL_at _ h
      have elts:∀ j (h1:j<its.toArray.size) (h2:j<its2.toArray.size),SeqAt.EqAt A.in1 s its.toArray[j] its2.toArray[j] (f j):=fun j h1 h2=>by
       have h1':j<its.length:=by simpa using h1
       have h2':j<its2.length:=by simpa using h2
       have k1:j<vs.length:=by rw [rv.length];exact h1'
       have k2:j<vs2.length:=by rw [rv2.length];exact h2'
       obtain ⟨x,ex,rx⟩:=t.getV (gG1 k1)
       obtain ⟨y,ey,ry⟩:=t2.getV (gG1 k2)
       obtain ⟨u1,eu1,ru1⟩:=rv.get (gG1 k1)
       obtain ⟨u2,eu2,ru2⟩:=rv2.get (gG1 k2)
       have e1:its.toArray[j]=u1:=by
        rw [gG1 h1'] at eu1;simpa using eu1
       have e2:its2.toArray[j]=u2:=by
        rw [gG1 h2'] at eu2;simpa using eu2
       rw [e1,e2]
       exact (eqN_at I hs n (A:=A.in1) (by show A.units+1+n<cLine;lia) rx ry ru1 ru2 (hf j x y ex ey)).1
      cases pb with
      | false=>
       have:=SeqAt.RcNeAt.tuples co co2 hu0 elts
       rw [hbb]
       have e1:its.toArray.size=xs.length:=by simp;lia
       have e2:its2.toArray.size=ys.length:=by simp;lia
       rw [e1,e2] at this
       exact this
      | true=>
       have hl':xs.length=ys.length:=by
        by_cases z:xs.length=ys.length
        ·exact z
        ·exact absurd ⟨rfl,z⟩ hl
       have:=SeqAt.RcNeAt.lists co co2 (by simp;lia) hu0 elts
       rw [hbb]
       have e1:its.toArray.size=xs.length:=by simp;lia
       rw [e1] at this
       rw [hl',Nat.min_self,beq_self_eq_true,Bool.and_true,<- hl']
       exact this
    ·rename_i hb
     cases h
     cases pb with
     | true=>
      cases qb with
      | true=>exact absurd rfl hb
      | false=>exact .list_tuple co co2 hu0
     | false=>
      cases qb with
      | false=>exact absurd rfl hb
      | true=>exact .tuple_list co co2 hu0
   | none=>
    rw [hd,he] at h
    dsimp only at h
    split at h
    ·rename_i f
     cases h
     exact (ne_seq_none co rz (flat_rep re f).1 hu0).1
    ·cases h
  | none=>
   cases he:seqOf S e with
   | some p2=>
    obtain ⟨qb,ys⟩:=p2
    obtain ⟨a2,vs2,rfl,q2,t2⟩:=seqOf_at re hs he
    obtain ⟨its2,rv2,co2,_⟩:=sqb_at I q2
    cases rz
    rw [hd,he] at h
    dsimp only at h
    split at h
    ·rename_i f
     cases h
     exact (ne_seq_none co2 ru (flat_rep rd f).1 hu0).2
    ·cases h
   | none=>
    rw [hd,he] at h
    dsimp only at h
    obtain ⟨f1,f2⟩:=eqF_flat h
    obtain ⟨g1,g2⟩:=flat_rep rd f1
    have g3:=(flat_rep re f2).1
    rw [g2 e w re f2] at h
    cases h
    exact ne_flat ru rz g1 g3
end
noncomputable def gNe:G2:=fun d e S=>(eqN S deepMost d e).map fun b=>(.bl (!b),S)
noncomputable def inL (f:D->D->Option Bool)(x:D):List D->Option Bool
 | []=>some false
 | y::ys=>(f y x).bind fun b=>(inL f x ys).map fun c=>b||c
noncomputable def gIn:G2:=fun d e S=>(seqOf S e).bind fun p=>(inL (eqN S deepMost) d p.2).map fun b=>(.bl b,S)
noncomputable def gNotIn:G2:=fun d e S=>(seqOf S e).bind fun p=>(inL (eqN S deepMost) d p.2).map fun b=>(.bl (!b),S)
noncomputable def isNon:D->Bool
 | .non=>true
 | _=>false
noncomputable def gIsN:G2:=fun d e S=>match e with
 | .non=>some (.bl (isNon d),S)
 | _=>none
noncomputable def gIsNotN:G2:=fun d e S=>match e with
 | .non=>some (.bl (!isNon d),S)
 | _=>none
section
variable {X:Cx}
theorem o_ne (hu:X.A.units+64<cLine):OpR X (compareOp .NotEq) (r2 X.K (b2 gNe)):=by
 intro pins s σ H x y u w Q I rx ry h
 obtain ⟨mu,S,d,e,r,S',r1,r2,hs,hm,hc⟩:=rn2 h
 obtain ⟨b,e1,hm⟩:=oM1.mp hm
 cases hm
 exact neN_at I hs deepMost (by show _+60<cLine;lia) r1 r2 rx ry e1 X.prog X.w X.xe _ ⟨.bl (!b),H,I,rfl,hc.now (.bl _) hs⟩
theorem inL_at (f:D->D->Option Bool)(x:D):∀ {ys:List D} {b:Bool},inL f x ys=some b -> ∃ bs:List Bool,bs.length=ys.length/\(∀ (j:Nat) (y:D) (k:Bool),ys[j]? = some y->bs[j]? = some k->f y x=some k)/\b=bs.any id
 | [],b,h=>by cases h;exact ⟨[],rfl,fun j y k h=>by simp at h,rfl⟩
 | y::ys,b,h=>by
  rw [inL] at h
  obtain ⟨b1,e1,h⟩:=oB1.mp h
  obtain ⟨b2,e2,h⟩:=oM1.mp h
  obtain ⟨bs,hl,hb,hany⟩:=inL_at f x e2
  refine ⟨b1::bs,by simp [hl],fun j y' k hy hk=>?_,?_⟩
  ·cases j with
   | zero=>simp at hy hk;subst hy;subst hk;exact e1
   | succ j=>exact hb j y' k (by simpa using hy) (by simpa using hk)
  ·rw [<- h,hany];simp
open Classical in
theorem in_at {pins:List (Addr×Obj)}{σ:L2.St}{H:Hp}{s:Shared}{mu:List Addr}{S:Sto}(I:Inv X pins σ H s)(hs:Sim X.K H mu S){A:Around}(hu:A.units+61<cLine){x:D}{v:V}{u:Value}(rx:Rep X.K H mu x v)(ru:RelV v u)
  {ys:List D} {vs:List V} {us:List Value} {b:Bool} (ry:Reps X.K H mu ys vs) (rv:Vals vs us) (h:inL (eqN S deepMost) x ys=some b):∃ e:Value->Bool,(∀ w∈us,SeqAt.EqAt A.in1 s w u (e w))/\us.any e=b:=by
 obtain ⟨bs,hl,hb,rfl⟩:=inL_at _ x h
 have l1:=ry.length
 have l2:=rv.length
 have at_:∀ (j:Nat) w k,us[j]? = some w->bs[j]? = some k->SeqAt.EqAt A.in1 s w u k:=fun j w k hw hk=>by
  have j1:j<us.length:=(gE1.mp hw).1
  obtain ⟨y,ey,r1⟩:=ry.getV (i:=j) (v:=vs[j]'(by lia)) (gG1 (by lia))
  obtain ⟨w',ew,r2⟩:=rv.get (i:=j) (x:=vs[j]'(by lia)) (gG1 (by lia))
  rw [hw] at ew;cases ew
  exact (eqN_at I hs deepMost (A:=A.in1) (by show A.units+1+60<cLine;lia) r1 rx r2 ru (hb j y k ey hk)).1
 refine ⟨fun w=>decide (∃ j:Nat,us[j]? = some w/\bs[j]? = some true),fun w hw=>?_,?_⟩
 ·by_cases z:∃ j:Nat,us[j]? = some w/\bs[j]? = some true
  ·dsimp only;rw [decide_eq_true z]
   obtain ⟨j,e1,e2⟩:=z
   exact at_ j w true e1 e2
  ·dsimp only;rw [decide_eq_false z]
   obtain ⟨j,hj⟩:=List.getElem?_of_mem hw
   have j1:j<us.length:=(gE1.mp hj).1
   have j2:j<bs.length:=by lia
   have e2:=gG1 j2
   cases hk:bs[j] with
   | true=>rw [hk] at e2;exact absurd ⟨j,hj,e2⟩ z
   | false=>rw [hk] at e2;exact at_ j w false hj e2
 ·rw [Bool.eq_iff_iff,List.any_eq_true,List.any_eq_true]
  constructor
  ·rintro ⟨w,hw,z⟩
   obtain ⟨j,e1,e2⟩:=of_decide_eq_true z
   exact ⟨true,gM1 e2,rfl⟩
  ·rintro ⟨k,hk,z⟩
   obtain ⟨j,hj⟩:=List.getElem?_of_mem hk
   have j1:j<bs.length:=(gE1.mp hj).1
   have j2:j<us.length:=by lia
   have z':k=true:=z
   subst z'
   exact ⟨us[j],List.getElem_mem j2,decide_eq_true ⟨j,gG1 j2,hj⟩⟩
theorem o_in (hu:X.A.units+64<cLine):OpR X (compareOp .In) (r2 X.K (b2 gIn)):=by
 intro pins s σ H x y u w Q I rx ry h
 obtain ⟨mu,S,d,e,r,S',r1,r2,hs,hm,hc⟩:=rn2 h
 obtain ⟨⟨pb,ys⟩,e1,hm⟩:=oB1.mp hm
 obtain ⟨b,e2,hm⟩:=oM1.mp hm
 cases hm
 obtain ⟨a,vs,rfl,q,t⟩:=seqOf_at r2 hs e1
 cases ry
 obtain ⟨its,rv,co,_⟩:=sqb_at I q
 obtain ⟨f,hf,hb⟩:=in_at I hs (A:=X.A) (by lia) r1 rx t rv e2
 have fin:EP X pins σ Q (.bool (its.toArray.any f)) s:=⟨.bl b,H,I,by rw [show its.toArray.any f=its.any f by simp,hb];rfl,hc.now (.bl b) hs⟩
 cases pb
 ·exact SeqAt.in_tupleAt f co (fun y hy=>hf y (by simpa using hy)) fin
 ·exact SeqAt.in_listAt f co (fun y hy=>hf y (by simpa using hy)) fin
theorem o_notIn (hu:X.A.units+64<cLine):OpR X (compareOp .NotIn) (r2 X.K (b2 gNotIn)):=by
 intro pins s σ H x y u w Q I rx ry h
 obtain ⟨mu,S,d,e,r,S',r1,r2,hs,hm,hc⟩:=rn2 h
 obtain ⟨⟨pb,ys⟩,e1,hm⟩:=oB1.mp hm
 obtain ⟨b,e2,hm⟩:=oM1.mp hm
 cases hm
 obtain ⟨a,vs,rfl,q,t⟩:=seqOf_at r2 hs e1
 cases ry
 obtain ⟨its,rv,co,_⟩:=sqb_at I q
 obtain ⟨f,hf,hb⟩:=in_at I hs (A:=X.A) (by lia) r1 rx t rv e2
 have fin:EP X pins σ Q (.bool (!its.toArray.any f)) s:=⟨.bl (!b),H,I,by rw [show its.toArray.any f=its.any f by simp,hb];rfl,hc.now (.bl _) hs⟩
 cases pb
 ·exact SeqAt.notIn_tupleAt f co (fun y hy=>hf y (by simpa using hy)) fin
 ·exact SeqAt.notIn_listAt f co (fun y hy=>hf y (by simpa using hy)) fin
theorem non_rep {K:Fg1}{H:Hp}{mu:List Addr}{d:D}{v:V}(r:Rep K H mu d v):isNon d=decide (v = .non):=by
 cases r<;>simp [isNon]
theorem o_isN:OpR X (compareOp .Is) (r2 X.K (b2 gIsN)):=by
 intro pins s σ H x y u w Q I rx ry h
 obtain ⟨mu,S,d,e,r,S',r1,r2,hs,hm,hc⟩:=rn2 h
 cases e with
 | non=>
  cases hm;cases r2
  refine op_isN pins s σ H _ _ u w Q I rx ry ⟨rfl,?_⟩
  rw [<- non_rep r1]
  exact hc.now (.bl _) hs
 | _=>cases hm
theorem o_notN:OpR X (compareOp .IsNot) (r2 X.K (b2 gIsNotN)):=by
 intro pins s σ H x y u w Q I rx ry h
 obtain ⟨mu,S,d,e,r,S',r1,r2,hs,hm,hc⟩:=rn2 h
 cases e with
 | non=>
  cases hm;cases r2
  refine op_notN pins s σ H _ _ u w Q I rx ry ⟨rfl,?_⟩
  rw [<- non_rep r1]
  exact hc.now (.bl _) hs
 | _=>cases hm
end
noncomputable def gLen:G1:=fun d S=>match d with
 | .str x=>if x.length<=sizeLine then some (.int x.length,S) else none
 | _=>(seqOf S d).map fun p=>(.int p.2.length,S)
noncomputable def gIx:G2:=fun d e S=>match e with
 | .int i=>(seqOf S d).bind fun p=>(atI p.2 i).map fun x=>(x,S)
 | _=>none
noncomputable def gTup:G1:=fun d S=>(seqOf S d).map fun p=>(.tup p.2,S)
noncomputable def gSetIx:G3:=fun o i v S=>match o,i with
 | .ref n,.int k=>match S[n]? with
  | some (.lst xs)=>(ixN xs.length k).map fun j=>(.non,S.set n (.lst (xs.set j v)))
  | _=>none
 | _,_=>none
noncomputable def gInt:G1:=fun d S=>match d with
 | .int i=>some (.int i,S)
 | .bl b=>some (.int (if b then 1 else 0),S)
 | _=>none
noncomputable def gMax:G2:=fun d e S=>match d,e with
 | .int i,.int j=>some (.int (if j>i then j else i),S)
 | _,_=>none
noncomputable def gMin:G2:=fun d e S=>match d,e with
 | .int i,.int j=>some (.int (if j<i then j else i),S)
 | _,_=>none
section
variable {X:Cx}
theorem c_len:CallR X (.builtin "len") (rN X.K (b1 gLen)):=by
 intro pins s σ H xs us Q I r h
 obtain ⟨x,mu,S,d,r',S',rfl,r1,hs,hm,hc⟩:=rn1 h
 unfold gLen at hm
 split at hm
 ·split at hm
  ·rename_i z hl
   cases hm;cases r1
   exact call_len_str pins s σ H _ us Q I r ⟨_,rfl,hl,hc.now (.int _) hs⟩
  ·cases hm
 ·obtain ⟨⟨b,ys⟩,e1,hm⟩:=oM1.mp hm
  cases hm
  obtain ⟨a,vs,rfl,q,t⟩:=seqOf_at r1 hs e1
  refine call_len_seq pins s σ H _ us Q I r ⟨a,vs,rfl,?_,?_⟩
  ·cases b
   ·exact .inr q
   ·exact .inl q
  ·rw [<- t.length];exact hc.now (.int _) hs
theorem atI_rep {K:Fg1}{H:Hp}{mu:List Addr}{ds:List D}{vs:List V}{i:Int}{d:D}(t:Reps K H mu ds vs)(h:atI ds i=some d):∃ v,atI vs i=some v/\Rep K H mu d v:=by
 unfold atI at h ⊢
 rw [<- t.length]
 obtain ⟨j,e1,h⟩:=oB1.mp h
 obtain ⟨v,ev,rv⟩:=t.get h
 exact ⟨v,by rw [e1];exact ev,rv⟩
theorem x_ix:IxR X (r2 X.K (b2 gIx)):=by
 intro value slice pins s σ H x y v u Q I rx ry h hs2
 obtain ⟨mu,S,d,e,r,S',r1,r2,hs,hm,hc⟩:=rn2 h
 cases e with
 | int i=>
  obtain ⟨⟨b,ys⟩,e1,hm⟩:=oB1.mp hm
  obtain ⟨z,e2,hm⟩:=oM1.mp hm
  cases hm;cases r2
  obtain ⟨a,vs,rfl,q,t⟩:=seqOf_at r1 hs e1
  obtain ⟨v',ev,rv⟩:=atI_rep t e2
  cases b
  ·exact ix_tup value slice pins s σ H _ _ v u Q I rx ry ⟨a,vs,i,v',rfl,rfl,q,ev,hc.now rv hs⟩ hs2
  ·exact ix_list value slice pins s σ H _ _ v u Q I rx ry ⟨a,vs,i,v',rfl,rfl,q,ev,hc.now rv hs⟩ hs2
 | _=>cases hm
theorem c_tuple:CallR X (.type "tuple") (rN X.K (b1 gTup)):=by
 intro pins s σ H xs us Q I r h
 obtain ⟨x,mu,S,d,r',S',rfl,r1,hs,hm,hc⟩:=rn1 h
 obtain ⟨⟨b,ys⟩,e1,hm⟩:=oM1.mp hm
 cases hm
 obtain ⟨a,vs,rfl,q,t⟩:=seqOf_at r1 hs e1
 refine call_tuple_of pins s σ H _ us Q I r ⟨a,vs,rfl,?_⟩
 cases b
 ·exact .inr ⟨q,hc.now (.tup q t) hs⟩
 ·exact .inl ⟨q,fun l hl=>hc _ _ mu (Ext.fresh hl) (.tup (SqT.of upd_same) (t.ext (Ext.fresh hl))) (hs.fresh hl)⟩
theorem s_set:PSet X (rU X.K (b3 gSetIx)):=by
 intro pins s σ H o i v ov iv u Q I ro ri rv h
 obtain ⟨mu,S,ds,d,S',hr,hs,hm,hc⟩:=h
 cases hr with
 | cons q1 t1=>cases t1 with
  | cons q2 t2=>cases t2 with
   | cons q3 t3=>
    cases t3
    rename_i d1 d2 d3
    dsimp only [b3] at hm
    unfold gSetIx at hm
    split at hm
    ·rename_i n k
     split at hm
     ·rename_i xs e
      obtain ⟨j,ej,hm⟩:=oM1.mp hm
      cases hm
      cases q1 with
      | ref qn=>
       cases q2
       obtain ⟨vs,ev,t⟩:=hs.lst e qn
       refine set_list pins s σ H _ _ v ov iv u Q I ro ri rv ⟨_,vs,k,j,rfl,rfl,ev,by rw [<- t.length];exact ej,?_⟩
       exact hc _ mu (Ext.put ev trivial (gM1 qn)) (hs.putL (t.set q3 j) qn ev)
     ·cases hm
    ·cases hm
theorem c_int:CallR X (.type "int") (rN X.K (b1 gInt)):=by
 intro pins s σ H xs us Q I r h
 obtain ⟨x,mu,S,d,r',S',rfl,r1,hs,hm,hc⟩:=rn1 h
 cases d with
 | int i=>cases hm;cases r1;exact call_int1 pins s σ H _ us Q I r (.inl ⟨i,rfl,hc.now (.int _) hs⟩)
 | bl b=>cases hm;cases r1;exact call_int1 pins s σ H _ us Q I r (.inr ⟨b,rfl,hc.now (.int _) hs⟩)
 | _=>cases hm
theorem c_max (hc:X.calm=true):CallR X (.builtin "max") (rN X.K (b2 gMax)):=by
 intro pins s σ H xs us Q I r h
 obtain ⟨x,y,mu,S,d,e,r',S',rfl,r1,r2,hs,hm,hcc⟩:=rn2l h
 unfold gMax at hm
 split at hm
 ·cases hm;cases r1;cases r2
  exact call_max2 hc pins s σ H _ us Q I r ⟨_,_,rfl,hcc.now (.int _) hs⟩
 ·cases hm
theorem c_min (hc:X.calm=true):CallR X (.builtin "min") (rN X.K (b2 gMin)):=by
 intro pins s σ H xs us Q I r h
 obtain ⟨x,y,mu,S,d,e,r',S',rfl,r1,r2,hs,hm,hcc⟩:=rn2l h
 unfold gMin at hm
 split at hm
 ·cases hm;cases r1;cases r2
  exact call_min2 hc pins s σ H _ us Q I r ⟨_,_,rfl,hcc.now (.int _) hs⟩
 ·cases hm
end
open PySem.SeqAt
open PySem.AutoSeq1 (wpAny_loadPart')
open PySem.MeetsSeq PySem.MeetsSeq2 PySem.MeetsSeq3
noncomputable def RcLt (A:Around)(s:Shared)(y x:Value)(b:Bool):Prop:=∀ (prog:Program) (w:World) (E:Value->Shared->Prop) (Q:Value->Shared->Prop),Q (.bool b) s->wpAny (model prog w) A (richCompare .Lt y x) Q E s
inductive LtS (A:Around)(s:Shared):List Value->List Value->Bool->Prop
 | nn:LtS A s [] [] false
 | nc (y:Value) (ys:List Value):LtS A s [] (y::ys) true
 | cn (x:Value) (xs:List Value):LtS A s (x::xs) [] false
 | eq {x y:Value} {xs ys:List Value} {k:Bool} (e:EqAt A.in1 s x y true) (t:LtS A s xs ys k):LtS A s (x::xs) (y::ys) k
 | lt {x y:Value} {xs ys:List Value} {k:Bool} (e:EqAt A.in1 s x y false) (t:RcLt A.in1 s x y k):LtS A s (x::xs) (y::ys) k
theorem tup_lt (l b:Addr)(items items2:Array Value)(n n2:Nat)(dd dd2:Option Addr)(sl sl2:Array (Option Value))(c:Bool):
  Meets (Builtin.«tuple.__lt__» ⟨[.ref l,.ref b],[]⟩) (fun A R s=>s.heap.get? l=some {cls:=.type "tuple",dict:=dd,data:=.seq items n,slots:=sl}/\s.heap.get? b=some {cls:=.type "tuple",dict:=dd2,data:=.seq items2 n2,slots:=sl2} /\
    LtS A s items.toList items2.toList c/\R (.ok (.ret (.bool c))) s):=
 .of_wp fun prog w A R s h=>by
  obtain ⟨hp,g,d,tk,os⟩:=s;obtain ⟨hl,hb,hs,h⟩:=h;have f2:=AutoSeq1.sub_tuple_tuple
  wp_walk using wpAny_loadPart' hl,wpAny_loadPart' hb,wpAny_forIn_list _ (fun rest b s'=>b.1=none/\s'=⟨hp,g,d,tk,os⟩ /\ ∃ vs ws:List Value,rest=vs.zip ws/\LtS A ⟨hp,g,d,tk,os⟩ vs ws c/\vs.length+items2.size=ws.length+items.size) _
  case turn=>
   rintro ⟨y,x⟩ rest b s' ⟨hb',rfl,vs,ws,hz,hL,hlen⟩
   cases hL with
   | nn=>cases hz
   | nc _ _=>cases hz
   | cn _ _=>cases hz
   | eq e t=>
    rw [List.zip_cons_cons] at hz;injection hz with hyx hrest;injection hyx with hy hx;subst hy hx
    simp only [lC1] at hlen
    refine wB1 (e prog w _ _ ?_)
    wp_walk
    exact ⟨rfl,rfl,_,_,hrest,t,by lia⟩
   | lt e t=>
    rw [List.zip_cons_cons] at hz;injection hz with hyx hrest;injection hyx with hy hx;subst hy hx
    refine wB1 (e prog w _ _ ?_)
    have t':=t prog w
    wp_walk using t'
    exact ⟨_,rfl,by simpa using h⟩
  case fin=>
   rintro ⟨b1,b2⟩ s' ⟨hb',rfl,vs,ws,hz,hL,hlen⟩
   simp only at hb';subst hb'
   have hv:c=decide (items.size<items2.size):=by
    cases hL with
    | nn=>simp only [List.length_nil] at hlen;exact (decide_eq_false (by lia)).symm
    | nc _ _=>simp only [List.length_nil,lC1] at hlen;exact (decide_eq_true (by lia)).symm
    | cn _ _=>simp only [List.length_nil,lC1] at hlen;exact (decide_eq_false (by lia)).symm
    | eq _ _=>rw [List.zip_cons_cons] at hz;cases hz
    | lt _ _=>rw [List.zip_cons_cons] at hz;cases hz
   rw [hv] at h
   wp_walk
   exact ⟨_,rfl,by simpa [Builtin.Tuple.tupleCompareSizes] using h⟩
  case h=>exact ⟨rfl,rfl,items.toList,items2.toList,rfl,hs,by simp;lia⟩
theorem lst_loop (l b:Addr)(items items2:Array Value)(n n2:Nat)(dd dd2:Option Addr)(sl sl2:Array (Option Value))(c:Bool)(k:Nat):
  ∀ i:Nat,items.size-i=k->i<=items.size->i<=items2.size->Meets (Builtin.«list.__eq__.loop» ⟨[.ref l,.ref b,rawInt i,rawInt 0],[]⟩)
   (fun A R s=>s.heap.get? l=some {cls:=.type "list",dict:=dd,data:=.seq items n,slots:=sl}/\s.heap.get? b=some {cls:=.type "list",dict:=dd2,data:=.seq items2 n2,slots:=sl2} /\
    LtS A s (items.toList.drop i) (items2.toList.drop i) c/\R (.ok (.ret (.bool c))) s):=by
 induction k with
 | zero=>
  intro i hk hi1 hi2 prog w A R s h
  obtain ⟨hp,g,d,tk,os⟩:=s;obtain ⟨hl,hb,hL,h⟩:=h
  wp_walk using wpAny_loadPart' hl,wpAny_loadPart' hb
  have e1:items[((i:Nat):Int).toNat]? = none:=by simp;lia
  have d1:items.toList.drop i=[]:=by simp;lia
  rw [d1] at hL;rw [e1]
  wp_walk using wpAny_loadPart' hl,wpAny_loadPart' hb
  have hv:c=decide (items.size<items2.size):=by
   cases h2:items2.toList.drop i with
   | nil=>
    rw [h2] at hL;cases hL
    have:=congrArg List.length h2;simp at this
    exact (decide_eq_false (by lia)).symm
   | cons y ys=>
    rw [h2] at hL;cases hL
    have:=congrArg List.length h2;simp at this
    exact (decide_eq_true (by lia)).symm
  show R (.ok (.ret (.bool (decide (items.size<items2.size))))) _
  rw [<- hv];exact h
 | succ k ih=>
  intro i hk hi1 hi2 prog w A R s h
  obtain ⟨hp,g,d,tk,os⟩:=s;obtain ⟨hl,hb,hL,h⟩:=h
  have hlt:i<items.size:=by lia
  have d1:items.toList.drop i=items[i]::items.toList.drop (i+1):=by simp [List.drop_eq_getElem_cons,hlt]
  have e1:items[((i:Nat):Int).toNat]? = some items[i]:=by simp [hlt]
  have hc:((i:Int)+1)=((i+1:Nat):Int):=by push_cast;rfl
  rw [d1] at hL
  rcases Nat.lt_or_ge i items2.size with hlt2 | hge
  ·have d2:items2.toList.drop i=items2[i]::items2.toList.drop (i+1):=by simp [List.drop_eq_getElem_cons,hlt2]
   have e2:items2[((i:Nat):Int).toNat]? = some items2[i]:=by simp [hlt2]
   rw [d2] at hL
   wp_walk using wpAny_loadPart' hl,wpAny_loadPart' hb
   rw [e1,e2]
   cases hL with
   | eq e t=>
    refine wB1 (e prog w _ _ ?_)
    wp_walk
    rw [hc]
    exact ⟨plainId_quiet plain_eq_loop _,wD1 entry_eq_loop (by rw [Around.under_plainId plain_eq_loop _];exact ih (i+1) (by lia) (by lia) (by lia) prog w A R _ ⟨hl,hb,t,h⟩)⟩
   | lt e t=>
    refine wB1 (e prog w _ _ ?_)
    have t':=t prog w
    wp_walk using wpAny_loadPart' hl,wpAny_loadPart' hb
    rw [e1,e2]
    wp_walk using t'
    simpa using h
  ·have e2:items2[((i:Nat):Int).toNat]? = none:=by simp;lia
   have d2:items2.toList.drop i=[]:=by simp;lia
   rw [d2] at hL;cases hL
   wp_walk using wpAny_loadPart' hl,wpAny_loadPart' hb
   rw [e1,e2]
   wp_walk using wpAny_loadPart' hl,wpAny_loadPart' hb
   show R (.ok (.ret (.bool (decide (items.size<items2.size))))) _
   rw [decide_eq_false (by lia)];exact h
theorem lst_lt (l b:Addr)(items items2:Array Value)(n n2:Nat)(dd dd2:Option Addr)(sl sl2:Array (Option Value))(c:Bool):
  Meets (Builtin.«list.__lt__» ⟨[.ref l,.ref b],[]⟩) (fun A R s=>s.heap.get? l=some {cls:=.type "list",dict:=dd,data:=.seq items n,slots:=sl}/\s.heap.get? b=some {cls:=.type "list",dict:=dd2,data:=.seq items2 n2,slots:=sl2} /\
    LtS A s items.toList items2.toList c/\R (.ok (.ret (.bool c))) s):=by
 intro prog w A R s h
 obtain ⟨hp,g,d,tk,os⟩:=s;obtain ⟨hl,hb,hL,h⟩:=h;have f3:=AutoSeq1.sub_list_list
 wp_walk using wpAny_loadPart' hl,wpAny_loadPart' hb
 exact ⟨plainId_quiet plain_eq_loop _,wD1 entry_eq_loop (by rw [Around.under_plainId plain_eq_loop _];exact lst_loop l b items items2 n n2 dd dd2 sl sl2 c _ 0 rfl (Nat.zero_le _) (Nat.zero_le _) prog w A R _ ⟨hl,hb,by simpa using hL,h⟩)⟩
theorem seq_lt {A:Around}{s:Shared}{k:Bool}{l b:Addr}{xs ys:Array Value}{c:Bool}(c1:SCo k s.heap l xs)(c2:SCo k s.heap b ys)(hu:A.units<cLine)(h:LtS A s xs.toList ys.toList c):RcLt A s (.ref l) (.ref b) c:=fun prog w E Q q=>by
 cases k
 ·obtain ⟨⟨cls,dd,data,sl⟩,ho,hc,n,hd⟩:=id c1
  obtain ⟨⟨cls2,dd2,data2,sl2⟩,ho2,hc2,n2,hd2⟩:=id c2
  simp only at hc hd hc2 hd2;subst hc hd hc2 hd2
  exact richCompare_meets_room (op:=.Lt) ⟨_,ho,rfl⟩ ⟨_,ho2,rfl⟩ PySem.F.slot_tuple_lt PySem.F.entry_tuple_lt (PySem.F.args_tuple_lt_2 _ _) (tup_lt l b xs ys n n2 dd dd2 sl sl2 c) ⟨ho,ho2,h,show Value.bool c≠Value.notImplemented/\Q (.bool c) s from ⟨(fun x=>nomatch x),q⟩⟩ hu
 ·obtain ⟨⟨cls,dd,data,sl⟩,ho,hc,n,hd⟩:=id c1
  obtain ⟨⟨cls2,dd2,data2,sl2⟩,ho2,hc2,n2,hd2⟩:=id c2
  simp only at hc hd hc2 hd2;subst hc hd hc2 hd2
  exact richCompare_meets_room (op:=.Lt) ⟨_,ho,rfl⟩ ⟨_,ho2,rfl⟩ PySem.F.slot_list_lt PySem.F.entry_list_lt (PySem.F.args_list_lt_2 _ _) (lst_lt l b xs ys n n2 dd dd2 sl sl2 c) ⟨ho,ho2,h,show Value.bool c≠Value.notImplemented/\Q (.bool c) s from ⟨(fun x=>nomatch x),q⟩⟩ hu
noncomputable def ltL (f g:D->D->Option Bool):List D->List D->Option Bool
 | [],[]=>some false
 | [],_::_=>some true
 | _::_,[]=>some false
 | x::xs,y::ys=>(f x y).bind fun b=>if b=true then ltL f g xs ys else g x y
noncomputable def ltF:D->D->Option Bool
 | .int i,.int j=>some (decide (i<j))
 | .str x,.str y=>some (decide (x.cps.toList<y.cps.toList))
 | _,_=>none
noncomputable def ltN (S:Sto):Nat->D->D->Option Bool
 | 0,_,_=>none
 | n+1,d,e=>match ltF d e with
  | some b=>some b
  | none=>match seqOf S d,seqOf S e with
   | some p,some q=>if p.1=q.1 then ltL (eqN S n) (ltN S n) p.2 q.2 else none
   | _,_=>none
noncomputable def gLt:G2:=fun d e S=>(ltN S deepMost d e).map fun b=>(.bl b,S)
section
variable {X:Cx} {pins:List (Addr×Obj)} {σ:L2.St} {H:Hp} {s:Shared} {mu:List Addr} {S:Sto}
theorem ltL_at (I:Inv X pins σ H s)(hs:Sim X.K H mu S){n:Nat}{A:Around}(hu:A.units+1+n<cLine)(ih:∀ {d e:D} {v w:V} {u z:Value} {b:Bool},Rep X.K H mu d v->Rep X.K H mu e w->RelV v u->RelV w z->ltN S n d e=some b->RcLt A.in1 s u z b):
  ∀ {xs ys:List D} {vs ws:List V} {us zs:List Value} {b:Bool},Reps X.K H mu xs vs->Reps X.K H mu ys ws->Vals vs us->Vals ws zs->ltL (eqN S n) (ltN S n) xs ys=some b->LtS A s us zs b
 :=by
 intro xs
 induction xs with
 | nil=>
  intro ys vs ws us zs b r1 r2 v1 v2 h
  cases r1;cases v1
  cases r2 with
  | nil=>cases v2;cases h;exact .nn
  | cons _ _=>cases v2;cases h;exact .nc _ _
 | cons x xs jh=>
  intro ys vs ws us zs b r1 r2 v1 v2 h
  cases r1 with
  | cons r1 t1=>
   cases v1 with
   | cons q1 p1=>
    cases r2 with
    | nil=>cases v2;cases h;exact .cn _ _
    | cons r2 t2=>
     cases v2 with
     | cons q2 p2=>
      rw [ltL] at h
      obtain ⟨k,e1,h⟩:=oB1.mp h
      have eq:=(eqN_at I hs n (A:=A.in1) hu r1 r2 q1 q2 e1).1
      cases k with
      | true=>exact .eq eq (jh t1 t2 p1 p2 h)
      | false=>exact .lt eq (ih r1 r2 q1 q2 h)
theorem ltN_at (I:Inv X pins σ H s)(hs:Sim X.K H mu S):∀ (n:Nat) {A:Around} {d e:D} {v w:V} {u z:Value} {b:Bool},A.units+n<cLine->Rep X.K H mu d v->Rep X.K H mu e w->RelV v u->RelV w z->ltN S n d e=some b->RcLt A s u z b
 | 0,_,_,_,_,_,_,_,_,_,_,_,_,_,h=>by cases h
 | n + 1,A,d,e,v,w,u,z,b,hu,rd,re,ru,rz,h=>by
  rw [ltN] at h
  split at h
  ·rename_i k hk
   cases h
   unfold ltF at hk
   split at hk
   ·cases hk;cases rd;cases re
    obtain ⟨t,rfl⟩:=ru;obtain ⟨t',rfl⟩:=rz
    exact fun prog w E Q q=>(PyProof.Rows.lt_int q:wpAny (model prog w) A (compareOp .Lt (.int _ t) (.int _ t')) Q E s)
   ·cases hk;cases rd;cases re
    obtain ⟨t,rfl⟩:=ru;obtain ⟨t',rfl⟩:=rz
    exact fun prog w E Q q=>(PyProof.Rows.lt_str q:wpAny (model prog w) A (compareOp .Lt (.str _ t) (.str _ t')) Q E s)
   ·cases hk
  ·split at h
   ·rename_i p q hd he
    split at h
    ·rename_i hb
     obtain ⟨pb,xs⟩:=p
     obtain ⟨qb,ys⟩:=q
     have hb':pb=qb:=hb
     subst hb'
     obtain ⟨a,vs,rfl,q1,t1⟩:=seqOf_at rd hs hd
     obtain ⟨a2,vs2,rfl,q2,t2⟩:=seqOf_at re hs he
     cases ru;cases rz
     obtain ⟨its,rv,co,_⟩:=sqb_at I q1
     obtain ⟨its2,rv2,co2,_⟩:=sqb_at I q2
     refine seq_lt co co2 (by lia) ?_
     have:=ltL_at I hs (A:=A) (n:=n) (by lia) (fun r1 r2 r3 r4 h=>ltN_at I hs n (A:=A.in1) (by show A.units+1+n<cLine;lia) r1 r2 r3 r4 h) t1 t2 rv rv2 h
     simpa using this
    ·cases h
   ·cases h
theorem o_ltN (hu:X.A.units+64<cLine):OpR X (compareOp .Lt) (r2 X.K (b2 gLt)):=by
 intro pins s σ H x y u w Q I rx ry h
 obtain ⟨mu,S,d,e,r,S',r1,r2,hs,hm,hc⟩:=rn2 h
 obtain ⟨b,e1,hm⟩:=oM1.mp hm
 cases hm
 exact ltN_at I hs deepMost (by show _+60<cLine;lia) r1 r2 rx ry e1 X.prog X.w X.xe _ ⟨.bl b,H,I,rfl,hc.now (.bl b) hs⟩
end
inductive Ty where
 | int | bool | str | tuple | list | dict
 deriving DecidableEq
noncomputable def Ty.nm:Ty->String
 | .int=>"int" | .bool=>"bool" | .str=>"str" | .tuple=>"tuple" | .list=>"list" | .dict=>"dict"
noncomputable def isTy (S:Sto)(T:Ty):D->Option Bool
 | .non=>some false
 | .bl _=>some (decide (T = .bool)||decide (T = .int))
 | .int _=>some (decide (T = .int))
 | .str _=>some (decide (T = .str))
 | .tup _=>some (decide (T = .tuple))
 | .rol _=>some (decide (T = .list))
 | .ref n=>match S[n]? with
  | some (.lst _)=>some (decide (T = .list))
  | some (.dct _)=>some (decide (T = .dict))
  | some (.dcT _)=>some (decide (T = .dict))
  | _=>none
section
variable {X:Cx} {pins:List (Addr×Obj)} {σ:L2.St} {H:Hp} {s:Shared} {mu:List Addr} {S:Sto} {K:Fg1}
end
section
variable {X:Cx}
end
section
variable {X:Cx}
end
noncomputable def gApp:G2:=fun o v S=>match o with
 | .ref n=>match S[n]? with
  | some (.lst xs)=>if xs.length<sizeLine then some (.non,S.set n (.lst (xs++[v]))) else none
  | _=>none
 | _=>none
noncomputable def mMt (f:FN)(o:FE)(a:FA):FE:=fun r S=>(o r S).bind fun p=>match p.1 with
 | .ref n=>match p.2[n]? with
  | some (.lst _)=>(a r p.2).bind fun q=>f (p.1::q.1) q.2
  | _=>none
 | _=>none
section
variable {X:Cx}
theorem t_app:MtR X "list.append" (fun x xs H Q=>rN X.K (b2 gApp) (x::xs) H Q):=by
 intro pins s σ H x xs v us Q I rx rv h
 obtain ⟨x',y,mu,S,d,e,r',S',e0,r1,r2,hs,hm,hc⟩:=rn2l h
 cases e0
 cases d with
 | ref n=>
  rw [gApp] at hm
  split at hm
  ·rename_i ys en
   split at hm
   ·rename_i hl
    cases hm
    cases r1 with
    | ref qn=>
     obtain ⟨vs,ev,t⟩:=hs.lst en qn
     refine mt_append pins s σ H _ [y] v us Q I rx rv ⟨_,vs,y,rfl,rfl,ev,by rw [<- t.length];exact hl,?_⟩
     exact hc _ _ mu (Ext.put ev trivial (gM1 qn)) .non (hs.putL (t.append (.cons r2 .nil)) qn ev)
   ·cases hm
  ·cases hm
 | _=>cases hm
theorem me_lmeth {o e:Expr}{es:List Expr}{m:FE}{a:FA}{f:FN}{name:Str}{apos cpos:Pos}{id:String}(slot:Slot "list" name id)(hty:typeOf (.builtin id)=pure (.type "method_descriptor"))(hm:MtR X id (fun x xs H Q=>rN X.K f (x::xs) H Q))(ho:ME X o m)(ha:MA X (e::es) a)
  (hbase:attributeBase o name X.env (eval o X.env)=eval o X.env:=by rfl)
  (hfew:((backTo cpos (starEach (e::es) X.env)).all (fun x=> !x.1)&&(backToKw cpos (keywordEach [] X.env)).all (fun x=>x.1.isSome)&&decide ((e::es).length+([]:List Keyword).length+(if ([]:List Keyword).isEmpty then 0 else 1)<30))=true:=by rfl)
  (hline:(apos.endLine == cpos.line)=true:=by rfl) (hs:starEach (e::es) X.env=(false,eval e X.env)::starEach es X.env:=by rfl) (hplain:(backTo cpos (starEach es X.env)).any (·.1)=false:=by rfl):
  ME X (.Call (.Attribute o name apos) (e::es) [] cpos) (mMt f m a):=
 pe_imp (pe_bm PySem.F.plainAttrs_list slot hty hm ho ha hbase hfew hline hs hplain) <| by
  rintro σ H Q ⟨r,mu,S,d,S',he,hs,hm,hc⟩
  obtain ⟨⟨d1,S1⟩,e1,hm⟩:=oB1.mp hm
  refine ⟨r,mu,S,d1,S1,he,hs,e1,fun v H1 mu1 x1 r1 s1=>?_⟩
  cases d1 with
  | ref n=>
   dsimp only at hm
   split at hm
   ·rename_i xs en
    obtain ⟨⟨ds,S2⟩,e2,hm⟩:=oB1.mp hm
    refine ⟨?_,r,mu1,S1,ds,S2,he.ext x1,s1,e2,fun vs H2 mu2 x2 r2 s2=>?_⟩
    ·cases r1 with
     | ref qn=>
      obtain ⟨vs,ev,t⟩:=s1.lst en qn
      exact .inl ⟨rfl,vs,SqL.of ev⟩
    ·exact ⟨mu2,S2,.ref n::ds,d,S',.cons (r1.ext x2) r2,s2,hm,fun v3 H3 mu3 x3=>hc v3 H3 mu3 ((x1.trans x2).trans x3)⟩
   ·cases hm
  | _=>cases hm
end
theorem ps_comp {X:Cx}(hc:X.calm=true){elt tg iter:Expr}{ifs:List Expr}{rest:List Comprehension}{scope:Scope}{pos spos py:Pos}{y:Str}{i:Nat}{T:List Str}{keep:List Nat}{cl:List (Str×Addr)}{wi:TI}{g:TG}{ti:TT}{tb:Addr->TS}{emit:Value->Env->Sem Unit}
  (hsw:swapsWith (.ListComp elt (⟨tg,iter,ifs,0⟩::rest) scope pos) (some (.Name y py)) spos.line X.env=pure true)
  (eq:∀ it acc env,compTurn (.ListComp elt (⟨tg,iter,ifs,0⟩::rest) scope pos) 0 it acc env=turnT iter.pos tg ifs it env (emit acc env) (.compLoop (.ListComp elt (⟨tg,iter,ifs,0⟩::rest) scope pos) 0 it acc env))
  (C:CSc X scope T keep) (hcl:cloF X.env.cells scope.names []=some cl) (hi:PI X tg iter wi)
  (hb:∀ s H fp p,PG (cxC X scope cl T keep s H fp) tg g/\PIfs (cxC X scope cl T keep s H fp) ifs ti/\PU (cxC X scope cl T keep s H fp) (emit (.ref p) (cxC X scope cl T keep s H fp).env) (tb p))
  (hN:X.N.Nodup) (hy:X.N[i]? = some y) (hx:Loc X.env.scope y) (hf:X.fn y=true\/X.env.scope.names.lookup y=some .local)
  (hs:∀ x,foldedSetIterable iter X.env x=pure x:=by intro _;rfl):
  PS X (.Assign [.Name y py] (.ListComp elt (⟨tg,iter,ifs,0⟩::rest) scope pos) spos) (tAsg (tComp T.length keep wi g ti tb) (gName i)):=by
 intro pins s σ H D I h
 rw [exec_Assign_Name_used _ _ _ _ hsw]
 refine wB1 (wpAny_standAt (wB1 ?_))
 show wpAny _ X.A (do let _<-comprehension (.ListComp elt (⟨tg,iter,ifs,0⟩::rest) scope pos) scope X.env _ (newList []) false (eval iter X.env) (some (assign (.Name y py) X.env))) _ _ s
 refine wB1 (wpAny_mono (wpAny_comprehension_free (use:=some (assign (.Name y py) X.env)) (Q:=fun _ s'=>SP X pins D .next s') rfl hs (clo_eq hcl) C.kind C.names ?_) (fun _ s' hq=>wP1 (wP1 hq)) fun _ _ e=>e)
 refine thn (hi pins s σ H _ I h) fun v s1 h1=>thn h1 fun itv s2 h2=>?_
 obtain ⟨it,fp,tn,J,H2,rfl,I2,TT,st2,f2,q2⟩:=h2
 refine wO1 ?_
 have I3:Inv X pins σ (upd H2 s2.heap.objs.size (.lst [])) {s2 with heap:=s2.heap.push {cls:=.type "list",data:=.seq ([]:List Value).toArray}}:=I2.lnew (t':=s2.toks) .nil (Nat.zero_le _)
 have old:∀ b∈fp,∃ o,s2.heap.get? b=some o:=fun b hb=>by
  obtain ⟨o,e,_⟩:=TT.obj 0 s2.heap st2 b hb
  exact ⟨o,e⟩
 have fne:∀ b∈fp,b≠s2.heap.objs.size:=fun b hb z=>by
  obtain ⟨o,e⟩:=old b hb
  have:=hL1 e
  rw [z] at this
  exact Nat.lt_irrefl _ this
 have f3:∀ b∈fp,FpOk X pins (upd H2 s2.heap.objs.size (.lst [])) b:=fun b hb=>⟨by rw [upd_ne (fne b hb)];exact (f2 b hb).1,(f2 b hb).2⟩
 have o3:∀ b∈fp,∃ o,({s2 with heap:=s2.heap.push {cls:=.type "list",data:=.seq ([]:List Value).toArray}}:Shared).heap.get? b=some o:=fun b hb=>by
  obtain ⟨o,e⟩:=old b hb
  exact ⟨o,hP1 _ e⟩
 have I4:=inv_comp I3 C hcl f3 o3
 obtain ⟨hg,hf2,he⟩:=hb {s2 with heap:=s2.heap.push {cls:=.type "list",data:=.seq ([]:List Value).toArray}} (upd H2 s2.heap.objs.size (.lst [])) fp s2.heap.objs.size
 refine newEnv_around ?_
 have f4:∀ b∈fp,FpOk (cxC X scope cl T keep {s2 with heap:=s2.heap.push {cls:=.type "list",data:=.seq ([]:List Value).toArray}} (upd H2 s2.heap.objs.size (.lst [])) fp) [] (upd H2 s2.heap.objs.size (.lst [])) b:=fun b hb=>
  ⟨(f3 b hb).1,(I4.ok.exf b hb).1,I4.ok.exfs b hb,.inl hb,(I4.ok.exf b hb).2,fun p hp=>absurd (show p∈([]:List (Addr×Obj)) from hp) (by simp)⟩
 have st4:tn 0 (pushCells ((s2.heap.push {cls:=.type "list",data:=.seq ([]:List Value).toArray}).push {cls:=.type "dict",data:=.dict #[]}) scope.names):=
  TT.keep 0 s2.heap _ st2 fun b hb o e=>pushCells_keeps scope.names _ b o (hP1 _ (hP1 _ e))
 have loop:=comp_loop (X:=cxC X scope cl T keep {s2 with heap:=s2.heap.push {cls:=.type "list",data:=.seq ([]:List Value).toArray}} (upd H2 s2.heap.objs.size (.lst [])) fp) rfl hc (eq (.ref it) (.ref s2.heap.objs.size) _) TT hg hf2 he I4 st4 f4
  (q2 s2.heap.objs.size (I2.hok.fresh (nR1 _)))
 refine codeAny_mono (codeAny_compStart_list loop (TT.self X.A 0 _ _ _ st4 loop)) fun r s' hr=>?_
 cases r with
 | error e=>exact hr.elim
 | ok f=>
  obtain ⟨σ',H',I',q'⟩:=hr
  have J1:Inv X pins σ H' s':=I3.call' (s':=s') (ch:=fp) I'.os I'.base I'.hok I'.bare fun b hb=>(f3 b hb).2.2.2 |> fun z=>⟨z.1,(f3 b hb).2.1,z.2.1,z.2.2⟩
  -- the block's own dict is kept aside
  obtain ⟨m,hn,_⟩:=id I'.loc
  obtain ⟨oC,es,ep,eC,dC,rC⟩:=id hn
  have hCz:(s2.heap.push {cls:=.type "list",data:=.seq ([]:List Value).toArray}).get? (s2.heap.push {cls:=.type "list",data:=.seq ([]:List Value).toArray}).objs.size=none:=Heap.get?_none_of_le (nR1 _)
  have neL:(s2.heap.push {cls:=.type "list",data:=.seq ([]:List Value).toArray}).objs.size≠X.env.locals:=fun z=>by
   have:=I3.lt
   rw [<- z] at this
   exact Nat.lt_irrefl _ this
  have frC:H' (s2.heap.push {cls:=.type "list",data:=.seq ([]:List Value).toArray}).objs.size=none:=I'.free
  have J2:Inv X (pins++[((s2.heap.push {cls:=.type "list",data:=.seq ([]:List Value).toArray}).objs.size,oC)]) σ H' s':=J1.pins_of fun p hp=>by
   rcases List.mem_append.mp hp with z | z
   ·exact J1.pin p (mA1 _ z)
   ·have z':p=((s2.heap.push {cls:=.type "list",data:=.seq ([]:List Value).toArray}).objs.size,oC):=by simpa using z
    subst z'
    exact ⟨eC,frC,neL,I3.nofs (nR1 _),fun v q=>by rw [dC] at q;cases q⟩
  refine thn (pg_name hN hy hx hf _ s' σ H' (.ref s2.heap.objs.size) (.ref s2.heap.objs.size) D.nx J2 rfl q') fun _ s5 ⟨σ5,H5,J5,q5⟩=>?_
  obtain ⟨e5,n5,_⟩:=J5.pin ((s2.heap.push {cls:=.type "list",data:=.seq ([]:List Value).toArray}).objs.size,oC) (mA1 _ (mA1 _ mS1))
  refine ⟨m,⟨oC,es,ep,e5,dC,rC⟩,fun h' hs'=>?_⟩
  have J6:Inv X pins σ5 H5 s5:=J5.unpinned
  refine ⟨σ5,H5,J6.turned (t':=s5.toks) (fun b o hb e=>(hs'.2 b hb).trans e) n5 neL (.inr ?_) (fun x c hcell z=>?_) (fun p hp z=>?_),q5⟩
  ·exact I3.sz
  ·obtain ⟨w',zc⟩:=I3.cell x c hcell
   have hlt:=zc.lt
   rw [z] at hlt
   exact Nat.lt_irrefl _ hlt
  ·obtain ⟨ep',_⟩:=I3.pin p hp
   have hlt:=hL1 ep'
   rw [z] at hlt
   exact Nat.lt_irrefl _ hlt
section
variable {X:Cx}
theorem asg_ok {K:Fg1}{te:TE}{m:FE}{i:Nat}(hm:∀ σ H Q,tM K m σ H Q->te σ H Q){E:Ends}{σ:L2.St}{H:Hp}(h:tMS K (mAsg m (gN i)) E σ H):tAsg te (gName i) E σ H:=by
 obtain ⟨r,mu,S,d,S',h1,h2,h3,h4⟩:=mAsg_ok h
 refine hm _ _ _ ⟨r,mu,S,d,S',h1,h2,h3,fun v H' mu' x1 r1 s1=>?_⟩
 obtain ⟨r2,mu2,S2,d2,r3,S3,q1,q2,q3,q4,q5⟩:=h4 v H' mu' x1 r1 s1
 cases q4
 exact q5 _ H' mu2 (.refl _ _) (q1.set q3) q2
theorem mv (i:Nat){x:Str}{pos:Pos}(hN:X.N[i]? = some x:=by rfl)(hv:Vis X.env.scope x:=by first | exact Or.inl rfl | exact Or.inr (Or.inl rfl) | exact Or.inr (Or.inr rfl))(hd:(x == ("__debug__":Str))=false:=by decide)(hcd:(x == ("__classdict__":Str))=false:=by decide):
  ME X (.Name x pos) (mV i):=me_var i hN hv hd hcd
end
noncomputable def Own (P:Program)(w:World)(K:Fg1)(mg:Str->Option Value)(base:Heap)(k:Nat)(x:Str)(n:Nat)(m:FN):Prop:=
 ∃ (f:Addr) (fd:FuncData) (ps:List Str),FnOk P w K mg base CX0 k f fd ps (spM K n m)/\Binds K fd ps []/\wK1 K (.ref f)=true/\mg x=some (.ref f)
theorem me_own {X:Cx}{k k' n:Nat}{x:Str}{m:FN}{p pos:Pos}{e:Expr}{es:List Expr}{a:FA}(h:Own X.prog X.w X.K X.mg X.base k x n m)(hr:Room k' X.A)(hk:k<=k')(hg:Gl X x)(ha:MA X (e::es) a)(hdb:(x == ("__debug__":Str))=false:=by decide)
  (he:starEach (e::es) X.env=(false,eval e X.env)::starEach es X.env:=by rfl) (hpl:(backTo pos (starEach es X.env)).any (·.1)=false:=by rfl):ME X (.Call (.Name x p) (e::es) [] pos) (mN (mCall n m) a):=by
 obtain ⟨f,fd,ps,F,b,kp,hm⟩:=h
 exact me_call F (hr.mono hk) hg hm kp b ha hdb he hpl
theorem own_mk {P:Program}{w:World}{K:Fg1}{mg:Str->Option Value}{base:Heap}{x qual:Str}{st:Stmt}{f:Addr}{fd:FuncData}{N ps:List Str}{k n:Nat}{b:FS}(F:Fun K x qual st f fd)(hb:Binds K fd ps [])(hm:mg x=some (.ref f))(S:FnScope N ps (defScope st))(hn:ps.length=n)
  (hbody:∀ (cdv:Value) (A:Around) (outer:List Env) (s:Shared) (H:Hp) (E:XK),Room k (A.deeper (envOfC qual (defScope st) s.heap.objs.size f cdv)) ->
   MSs (cxOf CX0 P w K mg base N qual (defScope st) f cdv A outer s H E).nox (defBody st) b):Own P w K mg base (k+1) x n (fnB N.length b):=by
 subst hn
 exact ⟨f,fd,ps,fn_m F S hbody,hb,F.kp,hm⟩
theorem qT (es k pos rest env):starEach (.Tuple es k pos::rest) env=(false,eval (.Tuple es k pos) env)::starEach rest env:=rfl
theorem st_List (es pos rest env):starEach (.List es pos::rest) env=(false,eval (.List es pos) env)::starEach rest env:=rfl
theorem qM (x pos rest env):starEach (.Name x pos::rest) env=(false,eval (.Name x pos) env)::starEach rest env:=rfl
theorem qC (c k pos rest env):starEach (.Constant c k pos::rest) env=(false,eval (.Constant c k pos) env)::starEach rest env:=rfl
theorem qL (f a k pos rest env):starEach (.Call f a k pos::rest) env=(false,eval (.Call f a k pos) env)::starEach rest env:=rfl
theorem qB (a o b pos rest env):starEach (.BinOp a o b pos::rest) env=(false,eval (.BinOp a o b pos) env)::starEach rest env:=rfl
theorem st_Compare (a o b pos rest env):starEach (.Compare a o b pos::rest) env=(false,eval (.Compare a o b pos) env)::starEach rest env:=rfl
theorem qS (a o pos rest env):starEach (.Subscript a o pos::rest) env=(false,eval (.Subscript a o pos) env)::starEach rest env:=rfl
theorem st_ListComp (a o b pos rest env):starEach (.ListComp a o b pos::rest) env=(false,eval (.ListComp a o b pos) env)::starEach rest env:=rfl
noncomputable def CGl (K:Fg1)(mg:Str->Option Value)(x:Str)(d:D):Prop:=∃ (v:V) (u:Value),mg x=some u/\RelV v u /\ ∀ H mu,Rep K H mu d v
theorem me_glob {X:Cx}{x:Str}{d:D}{pos:Pos}(h:CGl X.K X.mg x d)(hg:Gl X x)(hd:(x == ("__debug__":Str))=false:=by decide):ME X (.Name x pos) (mC d):=by
 obtain ⟨v,u,hm,r,q⟩:=h
 exact me_c d (pe_glob hg hm r hd) q
noncomputable def maskE:List Bool->Ev->Ev
 | true::bs,o::r=>o::maskE bs r
 | false::bs,_::r=>none::maskE bs r
 | [],_::r=>none::maskE [] r
 | _,[]=>[]
noncomputable def shutE:Ev->Bool
 | []=>true
 | none::r=>shutE r
 | some d::r=>d.und 0&&shutE r
noncomputable def mPure (ki ko:List Bool)(b:FS):FS:=fun r S=>if shutE (maskE ki r)=true then
  (b (maskE ki r) []).bind fun p=>match p.1 with
   | .rt d=>if d.und 0=true then some (.rt d,[],S) else none
   | f=>if shutE (maskE ko p.2.1)=true then some (f,maskE ko p.2.1,S) else none
 else none
theorem maskE_len:∀ (bs:List Bool) (r:Ev),(maskE bs r).length=r.length
 | true::bs,o::r=>congrArg (· + 1) (maskE_len bs r)
 | false::bs,o::r=>congrArg (· + 1) (maskE_len bs r)
 | [],o::r=>congrArg (· + 1) (maskE_len [] r)
 | [],[]=>rfl
 | true::_,[]=>rfl
 | false::_,[]=>rfl
theorem maskE_get:∀ (bs:List Bool) (r:Ev) (i:Nat) (d:D),(maskE bs r)[i]? = some (some d)->r[i]? = some (some d)
 | true::bs,o::r,0,d,h=>h
 | true::bs,o::r,i+1,d,h=>by
  rw [gC1];exact maskE_get bs r i d (by rw [maskE,gC1] at h;exact h)
 | false::bs,o::r,0,d,h=>by simp [maskE] at h
 | false::bs,o::r,i+1,d,h=>by
  rw [gC1];exact maskE_get bs r i d (by rw [maskE,gC1] at h;exact h)
 | [],o::r,0,d,h=>by simp [maskE] at h
 | [],o::r,i+1,d,h=>by
  rw [gC1];exact maskE_get [] r i d (by rw [maskE,gC1] at h;exact h)
 | [],[],i,d,h=>by simp [maskE] at h
 | true::_,[],i,d,h=>by simp [maskE] at h
 | false::_,[],i,d,h=>by simp [maskE] at h
theorem shutE_get:∀ (r:Ev) (i:Nat) (d:D),shutE r=true->r[i]? = some (some d)->d.und 0=true
 | none::r,0,d,_,h=>by simp at h
 | none::r,i+1,d,hs,h=>shutE_get r i d hs (by simpa using h)
 | some e::r,0,d,hs,h=>by
  rw [shutE,bA1] at hs
  simp at h;subst h;exact hs.1
 | some e::r,i+1,d,hs,h=>by
  rw [shutE,bA1] at hs
  exact shutE_get r i d hs.2 (by simpa using h)
theorem EnvR.mask {K:Fg1}{H:Hp}{mu mu':List Addr}{r:Ev}{σ:L2.St}{bs:List Bool}(h:EnvR K H mu r σ)(hs:shutE (maskE bs r)=true):EnvR K H mu' (maskE bs r) σ:=
 ⟨by rw [maskE_len];exact h.len,fun i d e=>by
  obtain ⟨v,e1,r1⟩:=h.val i d (maskE_get bs r i d e)
  exact ⟨v,e1,r1.cut (n:=0) (fun k hk=>absurd hk (Nat.not_lt_zero _)) (shutE_get _ i d hs e)⟩⟩
theorem mPure_ok {K:Fg1}{ki ko:List Bool}{b:FS}{E:Ends}{σ:L2.St}{H:Hp}(h:tMS K (mPure ki ko b) E σ H):tMS K b E σ H:=by
 obtain ⟨r,mu,S,f,r',S',he,hs,hm,hc⟩:=h
 unfold mPure at hm
 split at hm
 ·rename_i hb
  obtain ⟨⟨f1,r1,S1⟩,e1,hm⟩:=oB1.mp hm
  refine ⟨maskE ki r,[],[],f1,r1,S1,he.mask hb,.nil,e1,?_⟩
  have back:∀ {H':Hp} {mu':List Addr},Ext [] mu' H H'->Ext mu mu H H':=fun {H' mu'} x=>⟨List.prefix_rfl,fun a o e _=>x.old a o e (by simp),x.tup,x.frz,fun _ z=>.inl z⟩
  have keep:∀ {H':Hp} {mu':List Addr},Ext [] mu' H H'->Sim K H' mu S:=fun {H' mu'} x=>⟨hs.len,hs.nd,fun n o a h1 h2=>(hs.ob n o a h1 h2).keep (back x) fun o e=>x.old a o e (by simp)⟩
  cases f1 with
  | rt d=>
   dsimp only at hm
   split at hm
   ·rename_i hd
    cases hm
    exact fun v H' mu' x r s=>hc v H' mu (back x) (r.cut (n:=0) (fun k hk=>absurd hk (Nat.not_lt_zero _)) hd) (keep x)
   ·cases hm
  | nx=>
   dsimp only at hm
   split at hm
   ·rename_i hd
    cases hm
    exact fun σ' H' mu' x r s=>hc σ' H' mu (back x) (r.mask hd) (keep x)
   ·cases hm
  | bk=>
   dsimp only at hm
   split at hm
   ·rename_i hd
    cases hm
    exact fun σ' H' mu' x r s=>hc σ' H' mu (back x) (r.mask hd) (keep x)
   ·cases hm
  | ct=>
   dsimp only at hm
   split at hm
   ·rename_i hd
    cases hm
    exact fun σ' H' mu' x r s=>hc σ' H' mu (back x) (r.mask hd) (keep x)
   ·cases hm
 ·cases hm
theorem mss_pure {X:Cx}{sts:List Stmt}{b:FS}(ki ko:List Bool)(h:MSs X sts b):MSs X sts (mPure ki ko b):=pss_imp h fun _ _ _=>mPure_ok
noncomputable def CV (K:Fg1)(d:D)(u:Value):Prop:=∃ v:V,RelV v u /\ ∀ H mu,Rep K H mu d v
noncomputable def CVs (K:Fg1)(ds:List D)(us:List Value):Prop:=∃ vs:List V,Vals vs us /\ ∀ H mu,Reps K H mu ds vs
section
variable {K:Fg1}
theorem cv_int {i:Int}{t}:CV K (.int i) (.int i t):=⟨.int i,⟨t,rfl⟩,fun _ _=>.int i⟩
theorem cv_str {x:Str}{t}:CV K (.str x) (.str x t):=⟨.str x,⟨t,rfl⟩,fun _ _=>.str x⟩
theorem cvs_nil:CVs K [] []:=⟨[],.nil,fun _ _=>.nil⟩
theorem cvs_cons {d:D}{u:Value}{ds:List D}{us:List Value}(h:CV K d u)(t:CVs K ds us):CVs K (d::ds) (u::us):=by
 obtain ⟨v,r,q⟩:=h
 obtain ⟨vs,rs,qs⟩:=t
 exact ⟨v::vs,.cons r rs,fun H mu=>.cons (q H mu) (qs H mu)⟩
theorem cv_tup {a:Addr}{od:Option Addr}{us:List Value}{n:Nat}{sl:Array (Option Value)}{ds:List D}(h:K.lookup a=some ⟨.type "tuple",od,.seq us.toArray n,sl⟩)(hs:us.length<=sizeLine)(t:CVs K ds us):CV K (.tup ds) (.ref a):=by
 obtain ⟨vs,rs,qs⟩:=t
 exact ⟨.ref a,rfl,fun H mu=>.tup (.inr ⟨_,us.toArray,n,h,rfl,rfl,by simpa using hs,by simpa using rs⟩) (qs H mu)⟩
theorem cgl_mk {mg:Str->Option Value}{x:Str}{d:D}{u:Value}(hm:mg x=some u)(h:CV K d u):CGl K mg x d:=by
 obtain ⟨v,r,q⟩:=h
 exact ⟨v,u,hm,r,q⟩
end
theorem reps_ints {K:Fg1}{H:Hp}{mu:List Addr}:∀ ns:List Int,Reps K H mu (ns.map D.int) (ns.map V.int)
 | []=>.nil
 | n::ns=>.cons (.int n) (reps_ints ns)
theorem law_sp {K:Fg1}{m:FN}(hm:∀ ns:List Int,ns.length<=63 -> ∃ S,m [.rol (ns.map D.int)] []=some (.bl true,S))(H:Hp)(a:Addr)(ns:List Int)(hl:ns.length<=63)(hO:Only H)(hS:SqL K H a (ns.map V.int)):
  spM K 1 m [.ref a] H (fun v _=>v = .bl true) fun _ _ _=>False:=by
 refine ⟨rfl,?_⟩
 obtain ⟨S,e⟩:=hm ns hl
 have hR:RoL K H a (ns.map V.int):=by
  rcases hS with h | h
  ·rcases h with h | h
   ·rcases hO a with z | ⟨o,xs,z⟩
    ·rw [h] at z;cases z
    ·rw [h] at z;cases z
   ·exact .inl h
  ·exact .inr h
 refine ⟨[],[],[.rol (ns.map D.int)],.bl true,S,.cons (.rol hR (reps_ints ns)) .nil,.nil,e,fun v H' mu' x r s=>?_⟩
 cases r
 rfl
theorem walk_m {l:PySem.W.OpenLaw}{q:Program}{loose:List Str}{XP:(Str->Option Value)->Heap->Prop}{YP:World->Heap->Prop}{d:DefRec}{K:Params->Fg1}{m:FN}{k:Nat}{x:Str}(hn:l.most=some 63)(hdf:d.params.defaults=[])(hr:Room k callerA)
  (hY:∀ (w:World) (h:Heap),YP w h->(K w.params).In h) (hm:∀ ns:List Int,ns.length<=63 -> ∃ S,m [.rol (ns.map D.int)] []=some (.bl true,S))
  (F:∀ (w:World) (mg:Str->Option Value) (fa:Addr) (h:Heap),(K w.params).In h->h.Ns mainGlobals mg->mg d.name=some (.ref fa) ->
   ∃ fd:FuncData,(∀ (s:Shared) (u:Value),BindsTo s fd ⟨[u],[]⟩ [(x,u)]) /\ ∀ base:Heap,(K w.params).In base->base.Ns mainGlobals mg->FnOk l.prog w (K w.params) mg base CX0 k fa fd [x] (spM (K w.params) 1 m)):
  PySem.W.WalkO q loose XP YP l.row.toRowW d [] (fun f vs=>PySem.call f vs):=
 L2.walk_of (n:=63) (k:=k) (x:=x) (CX:=fun _=>CX0) (sp:=fun w=>spM (K w.params) 1 m) hn (by decide) hdf hr hY F (fun _ H a ns hl hO hS=>law_sp hm H a ns hl hO hS) fun _ _ _ _ _ z=>z
structure XE (X:Cx)(e:Expr)(m:FE):Prop where
 h:ME X e m
structure XT (X:Cx)(e:Expr)(m:FT):Prop where
 h:MT X e m
structure XW (X:Cx)(e:Expr)(m:FT):Prop where
 h:MW X e m
structure XA (X:Cx)(e:List Expr)(m:FA):Prop where
 h:MA X e m
structure XS (X:Cx)(e:Stmt)(m:FS):Prop where
 h:MS X e m
structure XSs (X:Cx)(e:List Stmt)(m:FS):Prop where
 h:MSs X e m
structure XI (X:Cx)(tg e:Expr)(m:FI):Prop where
 h:MI X tg e m
structure XG (X:Cx)(e:Expr)(m:FG):Prop where
 h:MG X e m
structure XGs (X:Cx)(e:List Expr)(m:FGs):Prop where
 h:MGs X e m
structure XF (X:Cx)(K:Fg1)(ifs:List Expr)(t:FT):Prop where
 h:PIfs X ifs (tMT K t)
theorem xmif_nil {X:Cx}:XF X X.K [] mTrue:=⟨mif_nil⟩
theorem xmif_one {X:Cx}{c:Expr}{t:FT}(h:XT X c t):XF X X.K [c] t:=⟨mif_one h.h⟩
theorem xmss_pure {X:Cx}{sts:List Stmt}{b:FS}(ki ko:List Bool)(h:XSs X sts b):XSs X sts (mPure ki ko b):=⟨mss_pure ki ko h.h⟩
section
variable {X:Cx} {pos:Pos}
theorem qK {i:Int}{j}:XE X (.Constant (.int i) j pos) (mC (.int i)):=⟨me_int⟩
end
section
variable {X:Cx} {pos:Pos}
theorem xme_bl {b:Bool}{j}:XE X (.Constant (.bool b) j pos) (mC (.bl b)):=⟨me_bl⟩
end
section
variable {X:Cx} {pos:Pos}
theorem xme_non {j}:XE X (.Constant .none j pos) (mC .non):=⟨me_non⟩
end
section
variable {X:Cx} {pos:Pos}
theorem xme_str {x:Str}{j}:XE X (.Constant (.str x) j pos) (mC (.str x)):=⟨me_str⟩
end
section
variable {X:Cx} {pos:Pos} {e:Expr} {es:List Expr} {m:FE} {n:FA}
theorem qN:XA X [] mNil:=⟨ma_nil⟩
end
section
variable {X:Cx} {pos:Pos} {e:Expr} {es:List Expr} {m:FE} {n:FA}
theorem qA (h:XE X e m)(ht:XA X es n)(hs:starEach (e::es) X.env=(false,eval e X.env)::starEach es X.env:=by rfl):XA X (e::es) (mCons m n):=⟨ma_cons (h:=h.h) (ht:=ht.h) (hs:=hs)⟩
end
section
variable {X:Cx} {K:Fg1} {f:FN} {a b:FE} {σ:L2.St} {H:Hp} {Q:VK}
theorem qI {op:Operator}{x y:Expr}{pos:Pos}(ho:OpR X (binaryOp op) (r2 X.K f))(hx:XE X x a)(hy:XE X y b):XE X (.BinOp x op y pos) (m2 f a b):=⟨me_op (ho:=ho) (hx:=hx.h) (hy:=hy.h)⟩
end
section
variable {X:Cx} {K:Fg1} {f:FN} {a b:FE} {σ:L2.St} {H:Hp} {Q:VK}
end
section
variable {X:Cx} {K:Fg1} {f:FN} {a b:FE} {σ:L2.St} {H:Hp} {Q:VK}
theorem xme_cmp {op:CmpOp}{x y:Expr}{pos:Pos}(ho:OpR X (compareOp op) (r2 X.K f))(hx:XE X x a)(hy:XE X y b)(hm:behindInMarks op y=false):XE X (.Compare x [op] [y] pos) (m2 f a b):=⟨me_cmp (ho:=ho) (hx:=hx.h) (hy:=hy.h) (hm:=hm)⟩
end
section
variable {X:Cx} {K:Fg1} {f:FN} {a b:FE} {σ:L2.St} {H:Hp} {Q:VK}
theorem qJ {x y:Expr}{pos:Pos}(ho:IxR X (r2 X.K f))(hx:XE X x a)(hy:XE X y b)(hs:PlainIx y):XE X (.Subscript x y pos) (m2 f a b):=⟨me_ix (ho:=ho) (hx:=hx.h) (hy:=hy.h) (hs:=hs)⟩
end
section
variable {X:Cx} {K:Fg1} {f:FN} {a b:FE} {σ:L2.St} {H:Hp} {Q:VK}
theorem qD {x:Str}{p pos:Pos}{e:Expr}{es:List Expr}{id:String}{a:FA}(hc:CallR X (.builtin id) (rN X.K f))(hg:Gl X x)(hm:X.mg x=none)(hv:bootBuiltins x=some (.builtin id))(ha:XA X (e::es) a)(hn:x≠"__name__":=by decide)(hdb:(x == ("__debug__":Str))=false:=by decide)(he:starEach (e::es) X.env=(false,eval e X.env)::starEach es X.env:=by rfl)(hpl:(backTo pos (starEach es X.env)).any (·.1)=false:=by rfl):XE X (.Call (.Name x p) (e::es) [] pos) (mN f a):=⟨me_callB (hc:=hc) (hg:=hg) (hm:=hm) (hv:=hv) (ha:=ha.h) (hn:=hn) (hdb:=hdb) (he:=he) (hpl:=hpl)⟩
end
section
variable {X:Cx} {K:Fg1} {f:FN} {a b:FE} {σ:L2.St} {H:Hp} {Q:VK}
theorem qE {x:Str}{p pos:Pos}{e:Expr}{es:List Expr}{T:String}{a:FA}(hc:CallR X (.type T) (rN X.K f))(hg:Gl X x)(hm:X.mg x=none)(hv:bootBuiltins x=some (.type T))(ha:XA X (e::es) a)(hn:x≠"__name__":=by decide)(hdb:(x == ("__debug__":Str))=false:=by decide)(he:starEach (e::es) X.env=(false,eval e X.env)::starEach es X.env:=by rfl)(hpl:(backTo pos (starEach es X.env)).any (·.1)=false:=by rfl):XE X (.Call (.Name x p) (e::es) [] pos) (mN f a):=⟨me_callTy (hc:=hc) (hg:=hg) (hm:=hm) (hv:=hv) (ha:=ha.h) (hn:=hn) (hdb:=hdb) (he:=he) (hpl:=hpl)⟩
end
section
variable {X:Cx} {x y c:Expr} {rest:List Expr} {pos:Pos} {a b:FT} {f g:FE}
theorem qX {op:CmpOp}{f:FN}{a b:FE}(ho:OpR X (compareOp op) (r2 X.K f))(hx:XE X x a)(hy:XE X y b)(hm:behindInMarks op y=false):XT X (.Compare x [op] [y] pos) (mB (m2 f a b)):=⟨mt_cmp (ho:=ho) (hx:=hx.h) (hy:=hy.h) (hm:=hm)⟩
end
section
variable {X:Cx} {x y c:Expr} {rest:List Expr} {pos:Pos} {a b:FT} {f g:FE}
end
section
variable {X:Cx} {x y c:Expr} {rest:List Expr} {pos:Pos} {a b:FT} {f g:FE}
theorem xmw_and1 (ha:XT X x a):XW X (.BoolOp .And [x] pos) a:=⟨mw_and1 (ha:=ha.h)⟩
end
section
variable {X:Cx} {x y c:Expr} {rest:List Expr} {pos:Pos} {a b:FT} {f g:FE}
theorem xmw_or1 (ha:XT X x a):XW X (.BoolOp .Or [x] pos) a:=⟨mw_or1 (ha:=ha.h)⟩
end
section
variable {X:Cx} {x y c:Expr} {rest:List Expr} {pos:Pos} {a b:FT} {f g:FE}
theorem xmw_and (ha:XT X x a)(hb:XW X (.BoolOp .And (y::rest) pos) b):XW X (.BoolOp .And (x::y::rest) pos) (mAnd a b):=⟨mw_and (ha:=ha.h) (hb:=hb.h)⟩
end
section
variable {X:Cx} {x y c:Expr} {rest:List Expr} {pos:Pos} {a b:FT} {f g:FE}
theorem xmw_or (ha:XT X x a)(hb:XW X (.BoolOp .Or (y::rest) pos) b):XW X (.BoolOp .Or (x::y::rest) pos) (mOr a b):=⟨mw_or (ha:=ha.h) (hb:=hb.h)⟩
end
section
variable {X:Cx} {x y c:Expr} {rest:List Expr} {pos:Pos} {a b:FT} {f g:FE}
theorem xmt_w (h:XW X x a):XT X x a:=⟨mt_w (h:=h.h)⟩
end
section
variable {X:Cx} {x y c:Expr} {rest:List Expr} {pos:Pos} {a b:FT} {f g:FE}
end
section
variable {X:Cx} {x y c:Expr} {rest:List Expr} {pos:Pos} {a b:FT} {f g:FE}
end
section
variable {X:Cx} {x y c:Expr} {rest:List Expr} {pos:Pos} {a b:FT} {f g:FE}
end
section
variable {X:Cx} {x y c:Expr} {rest:List Expr} {pos:Pos} {a b:FT} {f g:FE}
end
section
variable {X:Cx} {x y c:Expr} {rest:List Expr} {pos:Pos} {a b:FT} {f g:FE}
end
section
variable {X:Cx} {x y c:Expr} {rest:List Expr} {pos:Pos} {a b:FT} {f g:FE}
theorem xme_if (hc:XT X c a)(hx:XE X x f)(hy:XE X y g):XE X (.IfExp c x y pos) (mIf a f g):=⟨me_if (hc:=hc.h) (hx:=hx.h) (hy:=hy.h)⟩
end
section
variable {X:Cx} {x y z:Expr} {pos:Pos} {f g:FN} {a b c:FE} {op op':CmpOp}
end
section
variable {X:Cx} {x y z:Expr} {pos:Pos} {f g:FN} {a b c:FE} {op op':CmpOp}
end
section
variable {X:Cx} {pos:Pos} {e c:Expr} {st:Stmt} {rest as bs:List Stmt} {a b:FS} {m:FE} {t:FT}
theorem qQ:XSs X [] mNx:=⟨mss_nil⟩
end
section
variable {X:Cx} {pos:Pos} {e c:Expr} {st:Stmt} {rest as bs:List Stmt} {a b:FS} {m:FE} {t:FT}
theorem qF (h1:XS X st a)(h2:XSs X rest b):XSs X (st::rest) (mSeq a b):=⟨mss_cons (h1:=h1.h) (h2:=h2.h)⟩
end
section
variable {X:Cx} {pos:Pos} {e c:Expr} {st:Stmt} {rest as bs:List Stmt} {a b:FS} {m:FE} {t:FT}
theorem qG (h1:XS X st a):XSs X [st] a:=⟨mss_one (h1:=h1.h)⟩
end
section
variable {X:Cx} {pos:Pos} {e c:Expr} {st:Stmt} {rest as bs:List Stmt} {a b:FS} {m:FE} {t:FT}
end
section
variable {X:Cx} {pos:Pos} {e c:Expr} {st:Stmt} {rest as bs:List Stmt} {a b:FS} {m:FE} {t:FT}
end
section
variable {X:Cx} {pos:Pos} {e c:Expr} {st:Stmt} {rest as bs:List Stmt} {a b:FS} {m:FE} {t:FT}
end
section
variable {X:Cx} {pos:Pos} {e c:Expr} {st:Stmt} {rest as bs:List Stmt} {a b:FS} {m:FE} {t:FT}
theorem xms_expr (h:XE X e m)(hs:swapsWith e none pos.line X.env=pure false:=by rfl):XS X (.Expr e pos) (mDrop m):=⟨ms_expr (h:=h.h) (hs:=hs)⟩
end
section
variable {X:Cx} {pos:Pos} {e c:Expr} {st:Stmt} {rest as bs:List Stmt} {a b:FS} {m:FE} {t:FT}
theorem qU (h:XE X e m):XS X (.Return (some e) pos) (mRet m):=⟨ms_ret (h:=h.h)⟩
end
section
variable {X:Cx} {pos:Pos} {e c:Expr} {st:Stmt} {rest as bs:List Stmt} {a b:FS} {m:FE} {t:FT}
end
section
variable {X:Cx} {pos:Pos} {e c:Expr} {st:Stmt} {rest as bs:List Stmt} {a b:FS} {m:FE} {t:FT}
theorem qV (hc:XT X c t)(ha:XSs X as a)(hb:XSs X bs b):XS X (.If c as bs pos) (mIfS t a b):=⟨ms_if (hc:=hc.h) (ha:=ha.h) (hb:=hb.h)⟩
end
section
variable {X:Cx} {pos:Pos}
theorem qO (i:Nat){x:Str}(hN:X.N.Nodup)(hi:X.N[i]? = some x)(hx:Loc X.env.scope x)(hf:X.fn x=true\/X.env.scope.names.lookup x=some .local:=by first | exact .inl rfl | exact .inr rfl | assumption):XG X (.Name x pos) (gN i):=⟨mg_name (i:=i) (hN:=hN) (hi:=hi) (hx:=hx) (hf:=hf)⟩
end
section
variable {X:Cx} {pos:Pos}
theorem xmgs_nil:XGs X [] gNl:=⟨mgs_nil⟩
end
section
variable {X:Cx} {pos:Pos}
theorem xmgs_cons {e:Expr}{es:List Expr}{g:FG}{gs:FGs}(h1:XG X e g)(h2:XGs X es gs)(hs:(assignEach (e::es) X.env).map (·.2)=assign e X.env::(assignEach es X.env).map (·.2):=by rfl):XGs X (e::es) (gCs g gs):=⟨mgs_cons (h1:=h1.h) (h2:=h2.h) (hs:=hs)⟩
end
section
variable {X:Cx} {pos:Pos}
theorem xmg_tup {es:List Expr}{k:Nat}{gs:FGs}{n:Nat}(hc:X.calm=true)(h:XGs X es gs)(hn:(assignEach es X.env).length=n:=by rfl)(hst:(assignEach es X.env).findIdx? (·.1)=none:=by rfl):XG X (.Tuple es k pos) (gT n gs):=⟨mg_tup (hc:=hc) (h:=h.h) (hn:=hn) (hst:=hst)⟩
end
section
variable {X:Cx} {pos:Pos}
theorem xmg_sub {o i:Expr}{a b:FE}{f:FN}(ho:XE X o a)(hi:XE X i b)(hs:PSet X (rU X.K f))(ha:∀ v,assign (.Subscript o i pos) X.env v=(do
   let ov<-holding [v] (eval o X.env)
   let iv<-holding [v,ov] (eval i X.env)
   standAt pos
   holding [v,ov,iv] (setItem ov iv v)
   release [v,ov,iv] []):=by intro _;rfl):XG X (.Subscript o i pos) (gS f a b):=⟨mg_sub (ho:=ho.h) (hi:=hi.h) (hs:=hs) (ha:=ha)⟩
end
section
variable {X:Cx} {pos:Pos}
theorem qR {tg e:Expr}{m:FE}{g:FG}(he:XE X e m)(hg:XG X tg g)(hs:swapsWithSole [tg] e pos.line X.env=pure false:=by rfl)(hw:swappedStores [tg] e X.env=pure none:=by rfl)(h1:(assignEach [tg] X.env).map (·.2)=[assign tg X.env]:=by rfl):XS X (.Assign [tg] e pos) (mAsg m g):=⟨ms_asg (he:=he.h) (hg:=hg.h) (hs:=hs) (hw:=hw) (h1:=h1)⟩
end
section
variable {X:Cx} {pos:Pos}
theorem qY (i:Nat){x:Str}{e:Expr}{m:FE}{pos':Pos}(hN:X.N.Nodup)(hi:X.N[i]? = some x)(hx:Loc X.env.scope x)(he:XE X e m)(hs:swapsWith e (some (.Name x pos')) pos.line X.env=pure false:=by rfl)(hf:X.fn x=true\/X.env.scope.names.lookup x=some .local:=by first | exact .inl rfl | exact .inr rfl | assumption):XS X (.Assign [.Name x pos'] e pos) (mAsg m (gN i)):=⟨ms_set (i:=i) (hN:=hN) (hi:=hi) (hx:=hx) (he:=he.h) (hs:=hs) (hf:=hf)⟩
end
section
variable {X:Cx} {pos:Pos}
theorem xms_aug (i:Nat){x:Str}{e:Expr}{m:FE}{op:Operator}{f:FN}{pos':Pos}(hN:X.N.Nodup)(hi:X.N[i]? = some x)(hx:Loc X.env.scope x)(he:XE X e m)(ho:PIp X op (r2 X.K f))(hf:X.fn x=true\/X.env.scope.names.lookup x=some .local:=by first | exact .inl rfl | exact .inr rfl | assumption):XS X (.AugAssign (.Name x pos') op e pos) (mAug i f m):=⟨ms_aug (i:=i) (hN:=hN) (hi:=hi) (hx:=hx) (he:=he.h) (ho:=ho) (hf:=hf)⟩
end
section
theorem xms_while {X:Cx}{pos:Pos}(n:Nat){c:Expr}{body:List Stmt}{t:FT}{b:FS}(hp:PassesOwn (model X.prog X.w) X.A X.env X.xe)(hc:XT X c t)(hb:XSs X body b):XS X (.While c body [] pos) (whl t b n):=⟨ms_while (n:=n) (hp:=hp) (hc:=hc.h) (hb:=hb.h)⟩
end
section
theorem qW {X:Cx}{pos:Pos}{tg iter:Expr}{body:List Stmt}{m:FI}{g:FG}{b:FS}(hp:PassesOwn (model X.prog X.w) X.A X.env X.xe)(hc:X.calm=true)(hi:XI X tg iter m)(hg:XG X tg g)(hb:XSs X body b)(hs:∀ x,foldedSetIterable iter X.env x=pure x:=by intro _;rfl):XS X (.For tg iter body [] pos) (mFor m g b):=⟨ms_for (hp:=hp) (hc:=hc) (hi:=hi.h) (hg:=hg.h) (hb:=hb.h) (hs:=hs)⟩
end
section
variable {X:Cx} {es:List Expr} {pos:Pos} {a:FA}
theorem xme_tup {x1}(h:XA X es a):XE X (.Tuple es x1 pos) (mTup a):=⟨me_tup (h:=h.h)⟩
end
section
variable {X:Cx} {es:List Expr} {pos:Pos} {a:FA}
theorem xme_lst (h:XA X es a):XE X (.List es pos) (mLst a):=⟨me_lst (h:=h.h)⟩
end
section
variable {X:Cx} {tg:Expr}
theorem qd {e:Expr}{m:FE}(h:XE X e m):XI X tg e (iSeq m):=⟨mi_seq (h:=h.h)⟩
end
section
variable {X:Cx} {tg:Expr}
theorem xmi_range1 {a:Expr}{m:FA}{p pos:Pos}(hg:Gl X "range")(hm:X.mg "range"=none)(ha:XA X [a] m)(hs:starEach [a] X.env=[(false,eval a X.env)]:=by rfl):XI X tg (.Call (.Name "range" p) [a] [] pos) (iR1 m):=⟨mi_range1 (hg:=hg) (hm:=hm) (ha:=ha.h) (hs:=hs)⟩
end
section
variable {X:Cx} {tg:Expr}
theorem xmi_range2 {a b:Expr}{m:FA}{p pos:Pos}(hg:Gl X "range")(hm:X.mg "range"=none)(ha:XA X [a,b] m)(hs:starEach [a,b] X.env=[(false,eval a X.env),(false,eval b X.env)]:=by rfl)(hs2:starEach [b] X.env=[(false,eval b X.env)]:=by rfl):XI X tg (.Call (.Name "range" p) [a,b] [] pos) (iR2 m):=⟨mi_range2 (hg:=hg) (hm:=hm) (ha:=ha.h) (hs:=hs) (hs2:=hs2)⟩
end
section
variable {X:Cx} {tg:Expr}
variable {elts:List Expr} {k:Nat} {tpos:Pos}
theorem xmi_enum {a:Expr}{m:FA}{p pos:Pos}(hg:Gl X "enumerate")(hm:X.mg "enumerate"=none)(ha:XA X [a] m)(hs:starEach [a] X.env=[(false,eval a X.env)]:=by rfl):XI X (.Tuple elts k tpos) (.Call (.Name "enumerate" p) [a] [] pos) (iEn m):=⟨mi_enum (hg:=hg) (hm:=hm) (ha:=ha.h) (hs:=hs)⟩
end
section
variable {X:Cx} {tg:Expr}
variable {elts:List Expr} {k:Nat} {tpos:Pos}
theorem xmi_zip {a b:Expr}{m:FA}{p pos:Pos}(hg:Gl X "zip")(hm:X.mg "zip"=none)(ha:XA X [a,b] m)(hs:starEach [a,b] X.env=[(false,eval a X.env),(false,eval b X.env)]:=by rfl)(hs2:starEach [b] X.env=[(false,eval b X.env)]:=by rfl):XI X (.Tuple elts k tpos) (.Call (.Name "zip" p) [a,b] [] pos) (iZp m):=⟨mi_zip (hg:=hg) (hm:=hm) (ha:=ha.h) (hs:=hs) (hs2:=hs2)⟩
end
section
variable {X:Cx} {pins:List (Addr×Obj)} {σ:L2.St} {H:Hp} {s:Shared} {mu:List Addr} {S:Sto} {K:Fg1}
end
section
variable {X:Cx}
end
section
variable {X:Cx}
end
section
variable {X:Cx}
end
section
variable {X:Cx}
end
section
variable {X:Cx}
end
section
variable {X:Cx}
theorem qe {o e:Expr}{es:List Expr}{m:FE}{a:FA}{f:FN}{name:Str}{apos cpos:Pos}{id:String}(slot:Slot "list" name id)(hty:typeOf (.builtin id)=pure (.type "method_descriptor"))(hm:MtR X id (fun x xs H Q=>rN X.K f (x::xs) H Q))(ho:XE X o m)(ha:XA X (e::es) a)(hbase:attributeBase o name X.env (eval o X.env)=eval o X.env:=by rfl)(hfew:((backTo cpos (starEach (e::es) X.env)).all (fun x=> !x.1)&&(backToKw cpos (keywordEach [] X.env)).all (fun x=>x.1.isSome)&&decide ((e::es).length+([]:List Keyword).length+(if ([]:List Keyword).isEmpty then 0 else 1)<30))=true:=by rfl)(hline:(apos.endLine == cpos.line)=true:=by rfl)(hs:starEach (e::es) X.env=(false,eval e X.env)::starEach es X.env:=by rfl)(hplain:(backTo cpos (starEach es X.env)).any (·.1)=false:=by rfl):XE X (.Call (.Attribute o name apos) (e::es) [] cpos) (mMt f m a):=⟨me_lmeth (slot:=slot) (hty:=hty) (hm:=hm) (ho:=ho.h) (ha:=ha.h) (hbase:=hbase) (hfew:=hfew) (hline:=hline) (hs:=hs) (hplain:=hplain)⟩
end
section
variable {X:Cx}
theorem xmv (i:Nat){x:Str}{pos:Pos}(hN:X.N[i]? = some x:=by rfl)(hv:Vis X.env.scope x:=by first | exact Or.inl rfl | exact Or.inr (Or.inl rfl) | exact Or.inr (Or.inr rfl))(hd:(x == ("__debug__":Str))=false:=by decide)(hcd:(x == ("__classdict__":Str))=false:=by decide):XE X (.Name x pos) (mV i):=⟨mv (i:=i) (hN:=hN) (hv:=hv) (hd:=hd) (hcd:=hcd)⟩
end
section
theorem qH {X:Cx}{k k' n:Nat}{x:Str}{m:FN}{p pos:Pos}{e:Expr}{es:List Expr}{a:FA}(h:Own X.prog X.w X.K X.mg X.base k x n m)(hr:Room k' X.A)(hk:k<=k')(hg:Gl X x)(ha:XA X (e::es) a)(hdb:(x == ("__debug__":Str))=false:=by decide)(he:starEach (e::es) X.env=(false,eval e X.env)::starEach es X.env:=by rfl)(hpl:(backTo pos (starEach es X.env)).any (·.1)=false:=by rfl):XE X (.Call (.Name x p) (e::es) [] pos) (mN (mCall n m) a):=⟨me_own (h:=h) (hr:=hr) (hk:=hk) (hg:=hg) (ha:=ha.h) (hdb:=hdb) (he:=he) (hpl:=hpl)⟩
end
section
theorem xme_glob {X:Cx}{x:Str}{d:D}{pos:Pos}(h:CGl X.K X.mg x d)(hg:Gl X x)(hd:(x == ("__debug__":Str))=false:=by decide):XE X (.Name x pos) (mC d):=⟨me_glob (h:=h) (hg:=hg) (hd:=hd)⟩
end
section
variable {X:Cx}
structure XB1 (X:Cx)(K:Fg1)(tg:Expr)(ifs:List Expr)(elt:Expr)(g:FG)(t:FT)(e:FE):Prop where
 g:XG X tg g
 t:XF X K ifs t
 e:XE X elt e
end
theorem xown_mk {P:Program}{w:World}{K:Fg1}{mg:Str->Option Value}{base:Heap}{x qual:Str}{st:Stmt}{f:Addr}{fd:FuncData}{N ps:List Str}{k n:Nat}{b:FS}(F:Fun K x qual st f fd)(hb:Binds K fd ps [])(hm:mg x=some (.ref f))(S:FnScope N ps (defScope st))(hn:ps.length=n)
  (hbody:∀ (cdv:Value) (A:Around) (outer:List Env) (s:Shared) (H:Hp) (E:XK),Room k (A.deeper (envOfC qual (defScope st) s.heap.objs.size f cdv)) ->
   XSs (cxOf CX0 P w K mg base N qual (defScope st) f cdv A outer s H E).nox (defBody st) b):Own P w K mg base (k+1) x n (fnB N.length b):=
 own_mk F hb hm S hn fun cdv A outer s H E hr=>(hbody cdv A outer s H E hr).h
theorem xfn_mk {P:Program}{w:World}{K:Fg1}{mg:Str->Option Value}{base:Heap}{x qual:Str}{st:Stmt}{f:Addr}{fd:FuncData}{N ps:List Str}{k n:Nat}{b:FS}(F:Fun K x qual st f fd)(S:FnScope N ps (defScope st))(hn:ps.length=n)
  (hbody:∀ (cdv:Value) (A:Around) (outer:List Env) (s:Shared) (H:Hp) (E:XK),Room k (A.deeper (envOfC qual (defScope st) s.heap.objs.size f cdv)) ->
   XSs (cxOf CX0 P w K mg base N qual (defScope st) f cdv A outer s H E).nox (defBody st) b):FnOk P w K mg base CX0 (k+1) f fd ps (spM K n (fnB N.length b)):=by
 subst hn
 exact fn_m F S fun cdv A outer s H E hr=>(hbody cdv A outer s H E hr).h
noncomputable abbrev FV:=Ev->Sto->Option (List D×Ev×Sto)
noncomputable def loopF (c:List (Nat×List D))(g:FG)(t:FT)(b:FV):List D->FV
 | []=>fun r S=>if okC S c=true then some ([],r,S) else none
 | d::ds=>fun r S=>if okC S c=true then (g d r S).bind fun p=>(t p.1 p.2).bind fun k=>if k.1=true then (b p.1 k.2).bind fun q=>(loopF c g t b ds q.2.1 q.2.2).map fun z=>(q.1++z.1,z.2) else loopF c g t b ds p.1 k.2 else none
noncomputable def fEmit (m:FE):FV:=fun r S=>(m r S).map fun q=>([q.1],r,q.2)
noncomputable def fComp (k:Nat)(keep:List Nat)(m:FI)(g:FG)(t:FT)(b:FV):FE:=fun r S=>(m r S).bind fun p=>
 (loopF p.1.chk g t b p.1.items (inEv k keep r) p.2).bind fun q=>if q.1.length<=sizeLine then some (.ref q.2.2.length,q.2.2++[.lst q.1]) else none
section
variable {K:Fg1} {H H' H1:Hp} {mu mu' mu1:List Addr} {S:Sto} {a:Addr}
theorem Ext.aside (x:Ext mu mu' H H'):Ext (a::mu) (a::mu') H H' where
 pre:=List.cons_prefix_cons.mpr ⟨rfl,x.pre⟩
 old:=fun b o h n=>x.old b o h fun z=>n (mC1 _ z)
 tup:=x.tup
 frz:=x.frz
 new:=fun b h=>by
  rcases List.mem_cons.mp h with h | h
  ·exact .inl (by rw [h];exact mS1)
  ·rcases x.new b h with q | q
   ·exact .inl (mC1 _ q)
   ·exact .inr q
theorem Ext.inner (x:Ext (a::mu) (a::mu') H H'):Exw mu mu' H H':=⟨(List.cons_prefix_cons.mp x.pre).2,x.tup,x.frz⟩
theorem Ext.held {o:HO}(x:Ext mu mu' H H')(ha:H a=some o)(hn:a∉mu):H' a=some o/\a∉mu':=by
 refine ⟨x.old a o ha hn,fun z=>?_⟩
 rcases x.new a z with q | q
 ·exact hn q
 ·rw [ha] at q;cases q
theorem EnvR.exw {r:Ev}{σ:L2.St}(e:Exw mu mu' H H')(h:EnvR K H mu r σ):EnvR K H' mu' r σ:=⟨h.len,fun i d q=>by
 obtain ⟨v,e1,r1⟩:=h.val i d q
 exact ⟨v,e1,r1.exw e⟩⟩
theorem ObR.exw {b:Addr}(e:Exw mu mu' H H')(h:∀ o,H b=some o->H' b=some o):∀ {o:Ob},ObR K H mu b o->ObR K H' mu' b o
 | .lst _,⟨vs,q,r⟩=>⟨vs,h _ q,r.exw e⟩
 | .dct _,⟨ws,q,r⟩=>⟨ws,h _ q,Paired.mapP r fun _ _ z=>⟨z.1,z.2.exw e⟩⟩
 | .dcT _,⟨ws,q,r,l⟩=>⟨ws,h _ q,Paired.mapP r fun _ _ ⟨z,d,k,v,rv,r⟩=>⟨z,d,k.exw e,v,rv,r.exw e⟩,l⟩
 | .iset _,q=>⟨h _ q.1,q.2⟩
 | .dcF _,⟨ws,⟨o,u,e1,e2⟩,r,l⟩=>⟨ws,⟨o,u,h _ e1,e2⟩,Paired.mapP r fun _ _ ⟨z,d,k,v,rv,r⟩=>⟨z,d,k.exw e,v,rv,r.exw e⟩,l⟩
theorem Sim.aside {u:HO}(s:Sim K H mu S)(e:Exw mu mu H (upd H a u))(hn:a∉mu):Sim K (upd H a u) mu S:=
 ⟨s.len,s.nd,fun k o b h1 h2=>(s.ob k o b h1 h2).exw e fun o' q=>by rw [upd_ne (fun z=>hn (by rw [<- z];exact gM1 h2))];exact q⟩
end
inductive tMV (K:Fg1)(a:Addr)(m:FV)(E:Ends)(σ:L2.St)(H:Hp):Prop
 | mk (r:Ev) (mu:List Addr) (S:Sto) (acc:List D) (vs:List V) (xs:List D) (r':Ev) (S':Sto):H a=some (.lst vs)->a∉mu->Reps K H mu acc vs->EnvR K H mu r σ->Sim K H mu S->m r S=some (xs,r',S')->vs.length+xs.length<=sizeLine ->
 (∀ σ' H' mu' vs',Ext (a::mu) (a::mu') H H'->H' a=some (.lst vs')->a∉mu'->Reps K H' mu' (acc++xs) vs'->EnvR K H' mu' r' σ'->Sim K H' mu' S'->E.nx σ' H')->tMV K a m E σ H
theorem emitF_ok {K:Fg1}{a:Addr}{m:FE}{E:Ends}{σ:L2.St}{H:Hp}(h:tMV K a (fEmit m) E σ H):tEmit a (tM K m) E σ H:=by
 obtain ⟨r,mu,S,acc,vs,xs,r',S',ha,hna,hr,he,hs,hm,hl,hc⟩:=h
 obtain ⟨⟨d,S1⟩,e1,hm⟩:=oM1.mp hm
 cases hm
 refine ⟨r,mu,S,d,S1,he,hs,e1,fun v H1 mu1 x1 r1 s1=>?_⟩
 obtain ⟨ha1,hn1⟩:=x1.held ha hna
 have put:Ext (a::mu1) (a::mu1) H1 (upd H1 a (.lst (vs++[v]))):=Ext.put ha1 trivial mS1
 refine ⟨vs,ha1,hl,?_⟩
 exact hc σ _ mu1 (vs++[v]) (x1.aside.trans put) upd_same hn1 (((hr.ext x1).append (.cons r1 .nil)).exw put.inner) ((he.ext x1).exw put.inner) (s1.aside put.inner hn1)
inductive LFI (K:Fg1)(a:Addr)(mu2:List Addr)(H:Hp)(c:List (Nat×List D))(g:FG)(t:FT)(b:FV)(r':Ev)(S':Sto)(tot:List D)(L:List D)(σ':L2.St)(H':Hp):Prop
 | mk (r3:Ev) (mu3:List Addr) (S3:Sto) (acc3:List D) (vs3:List V) (xs3:List D):Ext (a::mu2) (a::mu3) H H'->H' a=some (.lst vs3)->a∉mu3->Reps K H' mu3 acc3 vs3->EnvR K H' mu3 r3 σ'->Sim K H' mu3 S3->loopF c g t b L r3 S3=some (xs3,r',S')->acc3++xs3=tot->vs3.length+xs3.length<=sizeLine->LFI K a mu2 H c g t b r' S' tot L σ' H'
theorem loopF_ok {K:Fg1}{a:Addr}{j:It}{J:Itm}{g:FG}{t:FT}{b:FV}{tb:TS}{D:Ends}(hb:∀ E σ H,tMV K a b E σ H->tb E σ H)
  {mu1 mu2:List Addr} {H1 H:Hp} {r r':Ev} {S S':Sto} {σ:L2.St} {acc xs:List Mi.D} {vs:List V} (hJ:ItR K j J mu1 H1) (x:Exw mu1 mu2 H1 H) (ha:H a=some (.lst vs)) (hna:a∉mu2) (hr:Reps K H mu2 acc vs) (he:EnvR K H mu2 r σ) (hs:Sim K H mu2 S)
  (hm:loopF J.chk g t b J.items r S=some (xs,r',S')) (hl:vs.length+xs.length<=sizeLine)
  (hc:∀ σ' H' mu' vs',Ext (a::mu2) (a::mu') H H'->H' a=some (.lst vs')->a∉mu'->Reps K H' mu' (acc++xs) vs'->EnvR K H' mu' r' σ'->Sim K H' mu' S'->D.nx σ' H'):tLoop j (tMG K g) (tMT K t) tb D σ H:=by
 refine ⟨fun i k σ' H'=>k=(J.items.drop i).length/\LFI K a mu2 H J.chk g t b r' S' (acc++xs) (J.items.drop i) σ' H',
  ⟨_,rfl,r,mu2,S,acc,vs,xs,.refl _ _,ha,hna,hr,he,hs,hm,rfl,hl⟩,?_⟩
 rintro i k σ3 H3 ⟨rfl,r3,mu3,S3,acc3,vs3,xs3,x3,ha3,hn3,hr3,he3,s3,hm3,hx3,hl3⟩
 cases hd0:J.items.drop i with
 | nil=>
  left
  rw [hd0,loopF] at hm3
  dsimp only at hm3
  split at hm3
  ·rename_i ok
   cases hm3
   refine ⟨(hJ i H3 mu3 _ (x.trans x3.inner) s3 ok).2 (List.drop_eq_nil_iff.mp hd0),hc σ3 H3 mu3 vs3 x3 ha3 hn3 ?_ he3 s3⟩
   rw [<- hx3,List.append_nil];exact hr3
  ·cases hm3
 | cons d ds=>
  right
  rw [hd0] at hm3
  obtain ⟨hi,hd⟩:=drop_of_get hd0
  rw [loopF] at hm3
  dsimp only at hm3
  split at hm3
  ·rename_i ok
   obtain ⟨⟨r4,S4⟩,e4,hm3⟩:=oB1.mp hm3
   obtain ⟨⟨k5,S5⟩,e5,hm3⟩:=oB1.mp hm3
   obtain ⟨go,yl⟩:=(hJ i H3 mu3 _ (x.trans x3.inner) s3 ok).1 d hi
   refine ⟨go,LFI K a mu2 H J.chk g t b r' S' (acc++xs) ds,?_,fun y H4 yy=>?_⟩
   ·intro σ' H' h6
    exact ⟨ds.length,Nat.lt_succ_self _,(congrArg List.length hd).symm,hd.symm ▸ h6⟩
   ·obtain ⟨x4,s4,q4⟩:=yl y H4 yy
    obtain ⟨ha4,hn4⟩:=x4.held ha3 hn3
    refine ⟨r3,mu3,S3,d,r4,S4,he3.ext x4,s4,q4,e4,fun σ5 H5 mu5 x5 he5 s5=>?_⟩
    obtain ⟨ha5,hn5⟩:=x5.held ha4 hn4
    refine ⟨r4,mu5,S4,k5,S5,he5,s5,e5,fun H6 mu6 x6 s6=>?_⟩
    obtain ⟨ha6,hn6⟩:=x6.held ha5 hn5
    have xx:=((x3.trans x4.aside).trans x5.aside).trans x6.aside
    have hr6:Reps K H6 mu6 acc3 vs3:=((hr3.ext x4).ext x5).ext x6
    cases k5 with
    | true=>
     obtain ⟨⟨q1,r7,S7⟩,e7,hm3⟩:=oB1.mp hm3
     obtain ⟨⟨z1,r8,S8⟩,e8,hm3⟩:=oM1.mp hm3
     cases hm3
     refine hb _ _ _ ⟨r4,mu6,S5,acc3,vs3,q1,r7,S7,ha6,hn6,hr6,he5.ext x6,s6,e7,?_,fun σ8 H8 mu8 vs8 x8 ha8 hn8 hr8 he8 s8=>⟨r7,mu8,S7,acc3++q1,vs8,z1,xx.trans x8,ha8,hn8,hr8,he8,s8,e8,?_,?_⟩⟩
     ·rw [lA1] at hl3;dsimp only at hl3;lia
     ·rw [<- hx3,List.append_assoc]
     ·have:=hr8.length
      have h3:=hr6.length
      rw [lA1] at this hl3
      dsimp only at hl3
      lia
    | false=>exact ⟨r4,mu6,S5,acc3,vs3,xs3,xx,ha6,hn6,hr6,he5.ext x6,s6,hm3,hx3,hl3⟩
  ·cases hm3
theorem compF_ok {K:Fg1}{k:Nat}{keep:List Nat}{m:FI}{g:FG}{t:FT}{b:FV}{tb:Addr->TS}(hb:∀ a E σ H,tMV K a b E σ H->tb a E σ H){σ:L2.St}{H:Hp}{Q:VK}(h:tM K (fComp k keep m g t b) σ H Q):
  tComp k keep (tMI K m) (tMG K g) (tMT K t) tb σ H Q:=by
 obtain ⟨r,mu,S,d,S',he,hs,hm,hc⟩:=h
 obtain ⟨⟨J,S1⟩,e1,hm⟩:=oB1.mp hm
 obtain ⟨⟨xs,r2,S2⟩,e2,hm⟩:=oB1.mp hm
 dsimp only at hm
 split at hm
 ·rename_i hl
  cases hm
  refine ⟨r,mu,S,J,S1,he,hs,e1,fun j H1 mu1 x1 J1 s1 p hp=>?_⟩
  have fr:Ext mu1 mu1 H1 (upd H1 p (.lst [])):=Ext.fresh hp
  refine loopF_ok (hb p) J1 fr.w upd_same (s1.notin hp) .nil ((inEnv k keep (he.ext x1)).ext fr) (s1.fresh hp) e2 (by simpa using hl) fun σ' H' mu' vs' x' ha' hn' hr' he' s'=>?_
  have y:Ext mu1 (mu'++[p]) H1 H':=by
   refine ⟨((List.cons_prefix_cons.mp x'.pre).2).trans (List.prefix_append _ _),fun b o e n=>?_,fun b ys e=>x'.tup b ys (fr.tup b ys e),fun b o u e=>x'.frz b o u (fr.frz b o u e),fun b hb'=>?_⟩
   ·have nb:b≠p:=ne_of_none e hp
    exact x'.old b o (by rw [upd_ne nb];exact e) fun z=>by
     rcases List.mem_cons.mp z with z | z
     ·exact nb z
     ·exact n z
   ·rcases List.mem_append.mp hb' with z | z
    ·rcases x'.new b (mC1 _ z) with q | q
     ·rcases List.mem_cons.mp q with q | q
      ·exact .inr (by rw [q];exact hp)
      ·exact .inl q
     ·by_cases hbp:b=p
      ·exact .inr (by rw [hbp];exact hp)
      ·rw [upd_ne hbp] at q;exact .inr q
    ·have:b=p:=by simpa using z
     exact .inr (by rw [this];exact hp)
  refine hc _ H' (mu'++[p]) (x1.trans y) (.ref (new_at s'.len p)) ⟨by rw [lA1,lA1,s'.len];rfl,?_,fun n o b h1 h2=>?_⟩
  ·rw [List.nodup_append]
   refine ⟨s'.nd,by simp,fun b hb c hc e=>?_⟩
   have:c=p:=by simpa using hc
   subst this;subst e
   exact hn' hb
  ·by_cases hk:n<S2.length
   ·rw [gL1 hk] at h1
    rw [gL1 (by rw [s'.len];exact hk)] at h2
    exact (s'.ob n o b h1 h2).mor [p]
   ·have hk':n=S2.length:=by
     have:=(gE1.mp h1).1
     rw [lA1] at this
     simp at this
     lia
    subst hk'
    rw [gR1 (nR1 _)] at h1
    rw [<- s'.len,gR1 (nR1 _)] at h2
    simp at h1 h2
    subst h1;subst h2
    exact ⟨vs',ha',(by simpa using hr':Reps K H' mu' xs vs').mor [p]⟩
 ·cases hm
section
variable {X:Cx}
theorem qZ {elt tg iter:Expr}{ifs:List Expr}{scope:Scope}{pos:Pos}{T:List Str}{keep:List Nat}{cl:List (Str×Addr)}{m:FI}{g:FG}{t:FT}{e:FE}(hc:X.calm=true)
  (C:CSc X scope T keep) (hcl:cloF X.env.cells scope.names []=some cl) (hi:XI X tg iter m) (hb:∀ s H fp,XB1 (cxC X scope cl T keep s H fp) X.K tg ifs elt g t e)
  (hs:∀ x,foldedSetIterable iter X.env x=pure x:=by intro _;rfl):XE X (.ListComp elt [⟨tg,iter,ifs,0⟩] scope pos) (fComp T.length keep m g t (fEmit e)):=
 ⟨pe_imp (pe_comp (emit:=emitE elt) (tb:=fun p=>tEmit p (tM X.K e)) hc (fun it acc env=>turn_A elt tg iter ifs scope pos it acc env) C hcl hi.h (fun s H fp p=>⟨(hb s H fp).g.h,(hb s H fp).t.h,pu_emit (hb s H fp).e.h p⟩) hs)
  fun σ H Q h=>compF_ok (fun a E σ H q=>emitF_ok q) h⟩
theorem xfs_comp1 {elt tg iter:Expr}{ifs:List Expr}{scope:Scope}{pos spos py:Pos}{y:Str}(i:Nat){T:List Str}{keep:List Nat}{cl:List (Str×Addr)}{m:FI}{g:FG}{t:FT}{e:FE}(hc:X.calm=true)
  (C:CSc X scope T keep) (hcl:cloF X.env.cells scope.names []=some cl) (hi:XI X tg iter m) (hb:∀ s H fp,XB1 (cxC X scope cl T keep s H fp) X.K tg ifs elt g t e)
  (hN:X.N.Nodup) (hy:X.N[i]? = some y) (hx:Loc X.env.scope y) (hsw:swapsWith (.ListComp elt [⟨tg,iter,ifs,0⟩] scope pos) (some (.Name y py)) spos.line X.env=pure true:=by rfl)
  (hf:X.fn y=true\/X.env.scope.names.lookup y=some .local:=by first | exact .inl rfl | exact .inr rfl | assumption)
  (hs:∀ x,foldedSetIterable iter X.env x=pure x:=by intro _;rfl):XS X (.Assign [.Name y py] (.ListComp elt [⟨tg,iter,ifs,0⟩] scope pos) spos) (mAsg (fComp T.length keep m g t (fEmit e)) (gN i)):=
 ⟨ps_imp (ps_comp (emit:=emitE elt) (tb:=fun p=>tEmit p (tM X.K e)) hc hsw (fun it acc env=>turn_A elt tg iter ifs scope pos it acc env) C hcl hi.h (fun s H fp p=>⟨(hb s H fp).g.h,(hb s H fp).t.h,pu_emit (hb s H fp).e.h p⟩) hN hy hx hf hs)
  fun E σ H h=>asg_ok (fun σ H Q q=>compF_ok (fun a E σ H q=>emitF_ok q) q) h⟩
end
noncomputable def keyD:D->Option Key
 | .int i=>some (.inl i)
 | .str x=>some (.inr x)
 | _=>none
noncomputable def lookD {κ:Type}[DecidableEq κ](kvs:List (κ×D))(k:κ):Option D:=(kvs.find? fun p=>decide (p.1=k)).map (·.2)
noncomputable def putD {κ:Type}[DecidableEq κ](kvs:List (κ×D))(k:κ)(d:D):List (κ×D):=
 if (kvs.any fun p=>decide (p.1=k))=true then kvs.map (fun p=>if p.1=k then (p.1,d) else p) else kvs++[(k,d)]
section
variable {K:Fg1} {H:Hp} {mu:List Addr}
theorem key_rep {d:D}{v:V}{k:Key}(r:Rep K H mu d v)(h:keyD d=some k):v=kV k:=by
 cases r with
 | int i=>cases h;rfl
 | str x=>cases h;rfl
 | _=>cases h
end
section
variable {κ:Type} [DecidableEq κ] {K:Fg1} {H:Hp} {mu:List Addr}
theorem KR.length:∀ {ks:List (κ×D)} {ws:List (κ×V)},KR K H mu ks ws->ks.length=ws.length:=fun h=>Paired.length h
theorem KR.look {k:κ}:∀ {ks:List (κ×D)} {ws:List (κ×V)},KR K H mu ks ws ->
  (∀ d,lookD ks k=some d -> ∃ v,valV ws k=some v/\Rep K H mu d v)/\(lookD ks k=none->valV ws k=none):=by
 intro ks ws h
 induction h with
 | nil=>exact ⟨fun d h=>by simp [lookD] at h,fun _=>rfl⟩
 | @cons p q ks ws r t ih=>
  obtain ⟨k1,d1⟩:=p
  obtain ⟨k2,v2⟩:=q
  obtain ⟨e,r⟩:=r
  dsimp only at e r
  subst e
  obtain ⟨h1,h2⟩:=ih
  by_cases hk:k1=k
  ·subst hk
   refine ⟨fun d h=>?_,fun h=>?_⟩
   ·have:d1=d:=by simpa [lookD] using h
    subst this
    exact ⟨v2,by simp [valV],r⟩
   ·simp [lookD] at h
  ·have e1:lookD ((k1,d1)::ks) k=lookD ks k:=by simp [lookD,List.find?_cons,hk]
   have e2:valV ((k1,v2)::ws) k=valV ws k:=by simp [valV,List.find?_cons,hk]
   rw [e1,e2]
   exact ⟨h1,h2⟩
theorem KR.any {k:κ}:∀ {ks:List (κ×D)} {ws:List (κ×V)},KR K H mu ks ws->(ks.any fun p=>decide (p.1=k))=ws.any fun p=>decide (p.1=k):=by
 intro ks ws h
 induction h with
 | nil=>rfl
 | cons r t ih=>rw [List.any_cons,List.any_cons,ih,r.1]
theorem KR.repl {k:κ}{d:D}{v:V}(q:Rep K H mu d v):∀ {ks:List (κ×D)} {ws:List (κ×V)},KR K H mu ks ws ->
  KR K H mu (ks.map fun p=>if p.1=k then (p.1,d) else p) (ws.map fun p=>if p.1=k then (p.1,v) else p):=by
 intro ks ws h
 induction h with
 | nil=>exact .nil
 | @cons a b ks ws r t ih=>
  refine .cons ?_ ih
  obtain ⟨e,r⟩:=r
  dsimp only
  by_cases h:a.1=k
  ·rw [if_pos h,if_pos (e ▸ h)];exact ⟨e,q⟩
  ·rw [if_neg h,if_neg (e ▸ h)];exact ⟨e,r⟩
theorem KR.snoc {k:κ}{d:D}{v:V}(q:Rep K H mu d v):∀ {ks:List (κ×D)} {ws:List (κ×V)},KR K H mu ks ws->KR K H mu (ks++[(k,d)]) (ws++[(k,v)]):=by
 intro ks ws h
 induction h with
 | nil=>exact .cons ⟨rfl,q⟩ .nil
 | cons r t ih=>exact .cons r ih
theorem KR.put {k:κ}{d:D}{v:V}(q:Rep K H mu d v){ks:List (κ×D)}{ws:List (κ×V)}(h:KR K H mu ks ws):KR K H mu (putD ks k d) (putK ws k v):=by
 unfold putD putK
 rw [h.any]
 split
 ·exact h.repl q
 ·exact h.snoc q
end
noncomputable def gInX:G2:=fun d e S=>match e with
 | .ref n=>match S[n]? with
  | some (.dct kvs)=>(keyD d).map fun k=>(.bl (lookD kvs k).isSome,S)
  | _=>gIn d e S
 | _=>gIn d e S
noncomputable def gNotInX:G2:=fun d e S=>match e with
 | .ref n=>match S[n]? with
  | some (.dct kvs)=>(keyD d).map fun k=>(.bl (!(lookD kvs k).isSome),S)
  | _=>gNotIn d e S
 | _=>gNotIn d e S
noncomputable def gIxX:G2:=fun d e S=>match d with
 | .ref n=>match S[n]? with
  | some (.dct kvs)=>(keyD e).bind fun k=>(lookD kvs k).map fun x=>(x,S)
  | _=>gIx d e S
 | _=>gIx d e S
noncomputable def gSetX:G3:=fun o i v S=>match o with
 | .ref n=>match S[n]? with
  | some (.dct kvs)=>(keyD i).bind fun k=>if kvs.length<sizeLine then some (.non,S.set n (.dct (putD kvs k v))) else none
  | _=>gSetIx o i v S
 | _=>gSetIx o i v S
section
variable {X:Cx}
theorem look_get {K:Fg1}{H:Hp}{mu:List Addr}{S:Sto}(hs:Sim K H mu S){n:Nat}{a:Addr}{kvs:List (Key×D)}{k:Key}{y:V}(hn:mu[n]? = some a)(he:S[n]? = some (.dct kvs))(hy:y=kV k):
  ∃ o:Option V,DGet H a y o/\(∀ d,lookD kvs k=some d -> ∃ v,o=some v/\Rep K H mu d v)/\(lookD kvs k=none->o=none)/\o.isSome=(lookD kvs k).isSome:=by
 obtain ⟨ws,hw,hk⟩:=hs.dct he hn
 subst hy
 obtain ⟨h1,h2⟩:=hk.look (k:=k)
 refine ⟨valV ws k,DGet.k hw,h1,h2,?_⟩
 cases e:lookD kvs k with
 | none=>rw [h2 e];rfl
 | some d=>obtain ⟨v,e2,_⟩:=h1 d e;rw [e2];rfl
theorem o_inX (hu:X.A.units+64<cLine):OpR X (compareOp .In) (r2 X.K (b2 gInX)):=by
 intro pins s σ H x y u w Q I rx ry h
 obtain ⟨mu,S,d,e,r,S',r1,r2',hs,hm,hc⟩:=rn2 h
 have back:gIn d e S=some (r,S')->wpAny (model X.prog X.w) X.A (compareOp .In u w) (EP X pins σ Q) X.xe s:=fun hm=>o_in hu pins s σ H x y u w Q I rx ry ⟨mu,S,[d,e],r,S',.cons r1 (.cons r2' .nil),hs,hm,hc⟩
 unfold gInX at hm
 split at hm
 ·rename_i n
  split at hm
  ·rename_i kvs en
   obtain ⟨k,ek,hm⟩:=oM1.mp hm
   cases hm
   cases r2' with
   | ref hn=>
    cases ry
    obtain ⟨o,g,_,_,hi⟩:=look_get hs hn en (key_rep r1 ek)
    exact d_in (by lia) I g rx fun s' I'=>⟨.bl o.isSome,H,I',rfl,by rw [hi];exact hc.now (.bl _) hs⟩
  ·exact back hm
 ·exact back hm
theorem o_notInX (hu:X.A.units+64<cLine):OpR X (compareOp .NotIn) (r2 X.K (b2 gNotInX)):=by
 intro pins s σ H x y u w Q I rx ry h
 obtain ⟨mu,S,d,e,r,S',r1,r2',hs,hm,hc⟩:=rn2 h
 have back:gNotIn d e S=some (r,S')->wpAny (model X.prog X.w) X.A (compareOp .NotIn u w) (EP X pins σ Q) X.xe s:=fun hm=>o_notIn hu pins s σ H x y u w Q I rx ry ⟨mu,S,[d,e],r,S',.cons r1 (.cons r2' .nil),hs,hm,hc⟩
 unfold gNotInX at hm
 split at hm
 ·rename_i n
  split at hm
  ·rename_i kvs en
   obtain ⟨k,ek,hm⟩:=oM1.mp hm
   cases hm
   cases r2' with
   | ref hn=>
    cases ry
    obtain ⟨o,g,_,_,hi⟩:=look_get hs hn en (key_rep r1 ek)
    exact d_notIn (by lia) I g rx fun s' I'=>⟨.bl (!o.isSome),H,I',rfl,by rw [hi];exact hc.now (.bl _) hs⟩
  ·exact back hm
 ·exact back hm
theorem x_ixX (hu:X.A.units+64<cLine):IxR X (r2 X.K (b2 gIxX)):=by
 intro value slice pins s σ H x y v u Q I rx ry h hs2
 obtain ⟨mu,S,d,e,r,S',r1,r2',hs,hm,hc⟩:=rn2 h
 have back:gIx d e S=some (r,S')->wpAny (model X.prog X.w) X.A (subscriptTail value slice v u) (EP X pins σ Q) X.xe s:=fun hm=>x_ix value slice pins s σ H x y v u Q I rx ry ⟨mu,S,[d,e],r,S',.cons r1 (.cons r2' .nil),hs,hm,hc⟩ hs2
 unfold gIxX at hm
 split at hm
 ·rename_i n
  split at hm
  ·rename_i kvs en
   obtain ⟨k,ek,hm⟩:=oB1.mp hm
   obtain ⟨z,ez,hm⟩:=oM1.mp hm
   cases hm
   cases r1 with
   | @ref _ a hn=>
    cases rx
    obtain ⟨o,g,h1,_,_⟩:=look_get hs hn en (key_rep r2' ek)
    obtain ⟨v',ev,rv⟩:=h1 _ ez
    subst ev
    have hT:=dict_typeIs I g
    unfold subscriptTail
    refine wB1 ?_
    rw [getitemInPython_of_ne hT.not_modules]
    refine wB1 (wpAny_specialOf hT PySem.F.slot_dict_getitem.lookup ?_)
    have fin:wpAny (model X.prog X.w) X.A (subscripted slice false (.ref a) u) (fun r s₃=>wpAny (model X.prog X.w) X.A (letTemporaryGo value (.ref a) r >>= fun _=>pure r) (EP X pins σ Q) X.xe s₃) X.xe s:=by
     rw [hs2]
     exact wpAny_operating (wpAny_mono (d_getItem (by lia) I g ry fun w' s3 I3 rw'=>(⟨v',H,I3,rw',hc.now rv hs⟩:EP X pins σ Q w' s3)) (fun r s₃ h₃=>wB1 (wpAny_letTemporaryGo (wP1 h₃))) fun _ _ x=>x)
    first
     | exact wP1 (wB1 fin)
     | exact wB1 fin
     | exact fin
  ·exact back hm
 ·exact back hm
theorem s_setX (hu:X.A.units+64<cLine):PSet X (rU X.K (b3 gSetX)):=by
 intro pins s σ H o i v ov iv u Q I ro ri rv h
 obtain ⟨mu,S,ds,d,S',hr,hs,hm,hc⟩:=id h
 cases hr with
 | cons q1 t1=>cases t1 with
  | cons q2 t2=>cases t2 with
   | cons q3 t3=>
    cases t3
    rename_i d1 d2 d3
    dsimp only [b3] at hm
    have back:gSetIx d1 d2 d3 S=some (d,S')->wpAny (model X.prog X.w) X.A (setItem ov iv u) (fun _ s'=>∃ H',Inv X pins σ H' s'/\Q H') X.xe s:=fun hm=>s_set pins s σ H o i v ov iv u Q I ro ri rv ⟨mu,S,[d1,d2,d3],d,S',.cons q1 (.cons q2 (.cons q3 .nil)),hs,hm,hc⟩
    unfold gSetX at hm
    split at hm
    ·rename_i n
     split at hm
     ·rename_i kvs en
      obtain ⟨k,ek,hm⟩:=oB1.mp hm
      split at hm
      ·rename_i hl
       cases hm
       cases q1 with
       | ref hn=>
        cases ro
        obtain ⟨ws,hw,hk⟩:=hs.dct en hn
        have ey:=key_rep q2 ek
        subst ey
        refine d_setItem (by lia) I (DPut.k hw (by rw [<- hk.length];exact hl)) ri rv fun s' I'=>⟨_,I',?_⟩
        have put:Ext mu mu H (upd H _ (.dK (putK ws k v))):=Ext.put hw trivial (gM1 hn)
        exact hc _ mu put (hs.put hn hw trivial ⟨_,upd_same,(hk.put q3).ext put⟩)
      ·cases hm
     ·exact back hm
    ·exact back hm
noncomputable def gIsX:G2:=fun d e S=>match e with
 | .non=>some (.bl (isNon d),S)
 | .bl b=>match d with
  | .bl c=>some (.bl (c == b),S)
  | _=>none
 | _=>none
noncomputable def gIsNotX:G2:=fun d e S=>match e with
 | .non=>some (.bl (!isNon d),S)
 | .bl b=>match d with
  | .bl c=>some (.bl (!(c == b)),S)
  | _=>none
 | _=>none
theorem o_isX:OpR X (compareOp .Is) (r2 X.K (b2 gIsX)):=by
 intro pins s σ H x y u w Q I rx ry h
 obtain ⟨mu,S,d,e,r,S',r1,r2',hs,hm,hc⟩:=rn2 h
 cases e with
 | non=>exact o_isN pins s σ H x y u w Q I rx ry ⟨mu,S,[d,.non],r,S',.cons r1 (.cons r2' .nil),hs,hm,hc⟩
 | bl b=>
  cases d with
  | bl c=>
   cases hm;cases r1;cases r2';cases rx;cases ry
   exact is_bool ⟨.bl (c == b),H,I,rfl,hc.now (.bl _) hs⟩
  | _=>cases hm
 | _=>cases hm
theorem o_isNotX:OpR X (compareOp .IsNot) (r2 X.K (b2 gIsNotX)):=by
 intro pins s σ H x y u w Q I rx ry h
 obtain ⟨mu,S,d,e,r,S',r1,r2',hs,hm,hc⟩:=rn2 h
 cases e with
 | non=>exact o_notN pins s σ H x y u w Q I rx ry ⟨mu,S,[d,.non],r,S',.cons r1 (.cons r2' .nil),hs,hm,hc⟩
 | bl b=>
  cases d with
  | bl c=>
   cases hm;cases r1;cases r2';cases rx;cases ry
   exact isnot_bool ⟨.bl (!(c == b)),H,I,rfl,hc.now (.bl _) hs⟩
  | _=>cases hm
 | _=>cases hm
noncomputable def mDnew:FE:=fun _ S=>some (.ref S.length,S++[.dct []])
theorem xme_dnew {pos:Pos}:XE X (.Dict [] [] pos) mDnew:=⟨pe_imp pe_dnewK <| by
 rintro σ H Q ⟨r,mu,S,d,S',he,hs,hm,hc⟩ p hp
 cases hm
 exact hc _ _ (mu++[p]) (Ext.new_ hp) (.ref (new_at hs.len p)) (hs.new hp ⟨[],upd_same,.nil⟩)⟩
noncomputable def mPrs:List (FE×FE)->Ev->Sto->Option (List (D×D)×Sto)
 | [],_,S=>some ([],S)
 | (a,b)::l,r,S=>(a r S).bind fun p=>(b r p.2).bind fun q=>(mPrs l r q.2).map fun t=>((p.1,q.1)::t.1,t.2)
noncomputable def keyed:List (D×D)->Option (List (Key×D))
 | []=>some []
 | (k,d)::l=>(keyD k).bind fun k=>(keyed l).map fun t=>(k,d)::t
noncomputable def mDisp (l:List (FE×FE)):FE:=fun r S=>(mPrs l r S).bind fun p=>(keyed p.1).bind fun kvs=>if kvs.length<=15 then some (.ref p.2.length,p.2++[.dct (kvs.foldl (fun acc kv=>putD acc kv.1 kv.2) [])]) else none
structure XP (X:Cx)(pos:Pos)(ks:List (Option Expr))(vs:List Expr)(l:List (FE×FE)):Prop where
 h:PPs X pos ks vs (l.map fun p=>(tM X.K p.1,tM X.K p.2))
theorem xmp_nil {pos:Pos}:XP X pos [] [] []:=⟨pps_nil⟩
theorem xmp_cons {pos:Pos}{k v:Expr}{ks:List (Option Expr)}{vs:List Expr}{a b:FE}{l:List (FE×FE)}(hk:XE X k a)(hv:XE X v b)(t:XP X pos ks vs l):XP X pos (some k::ks) (v::vs) ((a,b)::l):=⟨pps_cons hk.h hv.h t.h⟩
theorem prs_ok {K:Fg1}{σ:L2.St}:∀ {l:List (FE×FE)} {r:Ev} {mu:List Addr} {H:Hp} {S S':Sto} {ps:List (D×D)} {Q:List (V×V)->Hp->Prop},EnvR K H mu r σ->Sim K H mu S->mPrs l r S=some (ps,S') ->
  (∀ vs H' mu',Ext mu mu' H H'->Paired (fun (p:D×D) (q:V×V)=>Rep K H' mu' p.1 q.1/\Rep K H' mu' p.2 q.2) ps vs->Sim K H' mu' S'->Q vs H')->tPairs (l.map fun p=>(tM K p.1,tM K p.2)) σ H Q
 | [],r,mu,H,S,S',ps,Q,he,hs,hm,hc=>by cases hm;exact hc [] H mu (.refl _ _) .nil hs
 | (a,b)::l,r,mu,H,S,S',ps,Q,he,hs,hm,hc=>by
  obtain ⟨⟨d,S1⟩,e1,hm⟩:=oB1.mp hm
  obtain ⟨⟨d2,S2⟩,e2,hm⟩:=oB1.mp hm
  obtain ⟨⟨t,S3⟩,e3,hm⟩:=oM1.mp hm
  cases hm
  refine ⟨r,mu,S,d,S1,he,hs,e1,fun v H1 mu1 x1 r1 s1=>⟨r,mu1,S1,d2,S2,he.ext x1,s1,e2,fun v2 H2 mu2 x2 r2 s2=>?_⟩⟩
  refine prs_ok ((he.ext x1).ext x2) s2 e3 fun vs H3 mu3 x3 q3 s3=>hc _ H3 mu3 ((x1.trans x2).trans x3) (.cons ⟨(r1.ext x2).ext x3,r2.ext x3⟩ q3) s3
theorem keyed_ok {K:Fg1}{H:Hp}{mu:List Addr}:∀ {ps:List (D×D)} {vs:List (V×V)} {kvs:List (Key×D)},Paired (fun (p:D×D) (q:V×V)=>Rep K H mu p.1 q.1/\Rep K H mu p.2 q.2) ps vs->keyed ps=some kvs ->
  ∃ ws:List (Key×V),vs=ws.map (fun kv=>(kV kv.1,kv.2))/\KR K H mu kvs ws:=by
 intro ps vs kvs h0 h
 induction h0 generalizing kvs with
 | nil=>cases h;exact ⟨[],rfl,.nil⟩
 | @cons a b ps vs q t ih=>
  obtain ⟨k,d⟩:=a
  obtain ⟨v1,v2⟩:=b
  obtain ⟨kk,ek,h⟩:=oB1.mp h
  obtain ⟨rest,er,h⟩:=oM1.mp h
  cases h
  obtain ⟨ws,e,r⟩:=ih er
  have:=key_rep q.1 ek
  dsimp only at this
  subst this
  exact ⟨(kk,v2)::ws,by rw [mP1,<- e],.cons ⟨rfl,q.2⟩ r⟩
theorem merge_ok {K:Fg1}{H:Hp}{mu:List Addr}:∀ {kvs:List (Key×D)} {ws:List (Key×V)} {acc:List (Key×D)} {acw:List (Key×V)},KR K H mu kvs ws->KR K H mu acc acw->KR K H mu (kvs.foldl (fun acc kv=>putD acc kv.1 kv.2) acc) (mergeK acw ws):=by
 intro kvs ws acc acw h0 h
 induction h0 generalizing acc acw with
 | nil=>exact h
 | @cons a b kvs ws r t ih=>
  obtain ⟨k,d⟩:=a
  obtain ⟨k2,v⟩:=b
  obtain ⟨e,r⟩:=r
  dsimp only at e r
  subst e
  show KR K H mu (kvs.foldl _ (putD acc k d)) (mergeK (putK acw k v) ws)
  exact ih (h.put r)
theorem xme_disp {pos:Pos}{ks:List (Option Expr)}{vs:List Expr}{l:List (FE×FE)}(h:XP X pos ks vs l)(hall:ks.all (·.isSome)=true:=by rfl)(hl:ks.length=vs.length:=by rfl)(h0:ks≠[]:=by (intro z;cases z))(h15:ks.length<=15:=by decide):XE X (.Dict ks vs pos) (mDisp l):=
 ⟨pe_imp (pe_disp h.h hall hl h0 h15) <| by
  rintro σ H Q ⟨r,mu,S,d,S',he,hs,hm,hc⟩ p hp
  obtain ⟨⟨ps,S1⟩,e1,hm⟩:=oB1.mp hm
  obtain ⟨kvs,e2,hm⟩:=oB1.mp hm
  dsimp only at hm
  split at hm
  ·rename_i hlen
   cases hm
   have fr:Ext mu mu H (upd H p (.dK [])):=Ext.fresh hp
   refine prs_ok (he.ext fr) (hs.fresh hp) e1 fun vs H1 mu1 x1 q1 s1=>?_
   obtain ⟨hp1,hn1⟩:=x1.held (a:=p) (o:=.dK []) upd_same (hs.notin hp)
   obtain ⟨ws,ew,rk⟩:=keyed_ok q1 e2
   refine ⟨hp1,ws,ew,by rw [<- rk.length];exact hlen,?_⟩
   have put:Ext (p::mu1) (p::mu1) H1 (upd H1 p (.dK (mergeK [] ws))):=Ext.put hp1 trivial mS1
   have s2:=s1.aside put.inner hn1
   have y:Ext mu (mu1++[p]) H (upd H1 p (.dK (mergeK [] ws))):=by
    refine ⟨x1.pre.trans (List.prefix_append _ _),fun b o e n=>?_,fun b ys e=>put.tup b ys (x1.tup b ys (fr.tup b ys e)),fun b o u e=>put.frz b o u (x1.frz b o u (fr.frz b o u e)),fun b hb'=>?_⟩
    ·have nb:b≠p:=ne_of_none e hp
     rw [upd_ne nb]
     exact x1.old b o (by rw [upd_ne nb];exact e) n
    ·rcases List.mem_append.mp hb' with z | z
     ·rcases x1.new b z with q | q
      ·exact .inl q
      ·by_cases hbp:b=p
       ·exact .inr (by rw [hbp];exact hp)
       ·rw [upd_ne hbp] at q;exact .inr q
     ·have:b=p:=by simpa using z
      exact .inr (by rw [this];exact hp)
   have rk2:=merge_ok rk (acc:=[]) (acw:=[]) .nil
   refine hc _ _ (mu1++[p]) y (.ref (new_at s1.len p)) ⟨by rw [lA1,lA1,s1.len];rfl,?_,fun n o b h1 h2=>?_⟩
   ·rw [List.nodup_append]
    refine ⟨s1.nd,by simp,fun b hb c hc e=>?_⟩
    have:c=p:=by simpa using hc
    subst this;subst e
    exact hn1 hb
   ·by_cases hk:n<S1.length
    ·rw [gL1 hk] at h1
     rw [gL1 (by rw [s1.len];exact hk)] at h2
     exact (s2.ob n o b h1 h2).mor [p]
    ·have hk':n=S1.length:=by
      have:=(gE1.mp h1).1
      rw [lA1] at this
      simp at this
      lia
     subst hk'
     rw [gR1 (nR1 _)] at h1
     rw [<- s1.len,gR1 (nR1 _)] at h2
     simp at h1 h2
     subst h1;subst h2
     exact ⟨_,upd_same,KR.mor [p] (Paired.mapP rk2 fun _ _ z=>⟨z.1,z.2.exw put.inner⟩)⟩
  ·cases hm⟩
end
section
variable {X:Cx}
end
section
variable {K:Fg1} {H H':Hp} {mu mu':List Addr} {S:Sto}
end
theorem xms_par {X:Cx}(i j:Nat){x y:Str}{a b:Expr}{m:FA}{px py pt pos:Pos}{kt k2 pt2}(hc:X.calm=true)(hN:X.N.Nodup)(hi:X.N[i]? = some x)(hj:X.N[j]? = some y)(hij:i≠j)
  (hx:X.env.scope.names.lookup x=some .local) (hy:X.env.scope.names.lookup y=some .local) (ha:XA X [a,b] m)
  (hw:swappedStores [.Tuple [.Name x px,.Name y py] kt pt] (.Tuple [a,b] k2 pt2) X.env=pure (some [x,y]):=by rfl)
  (hs:swapsWithSole [.Tuple [.Name x px,.Name y py] kt pt] (.Tuple [a,b] k2 pt2) pos.line X.env=pure false:=by rfl):
  XS X (.Assign [.Tuple [.Name x px,.Name y py] kt pt] (.Tuple [a,b] k2 pt2) pos) (mAsg (mTup m) (gT 2 (gCs (gN i) (gCs (gN j) gNl)))):=
 ⟨ps_imp (ps_par hc hN hi hj hij hx hy ha.h hw hs) <| by
  rintro E σ H ⟨r,mu,S,f,r',S',he,hs,hm,hc⟩
  obtain ⟨⟨d,S1⟩,e1,hm⟩:=oB1.mp hm
  obtain ⟨⟨r2,S2⟩,e2,hm⟩:=oB1.mp hm
  cases hm
  obtain ⟨⟨ds,S3⟩,e3,e1⟩:=oB1.mp e1
  dsimp only at e1
  split at e1
  ·cases e1
   refine ⟨r,mu,S,ds,_,he,hs,e3,fun vs H1 mu1 x1 r1 s1=>?_⟩
   dsimp only at e2
   rw [gT] at e2
   split at e2
   ·cases r1 with
    | nil=>cases e2
    | cons q1 r1=>cases r1 with
     | nil=>cases e2
     | cons q2 r1=>cases r1 with
      | nil=>
       cases e2
       exact ⟨_,_,rfl,hc _ H1 mu1 x1 (((he.ext x1).set q1).set q2) s1⟩
      | cons _ _=>cases e2
   ·cases e2
  ·cases e1⟩
noncomputable def gAddI:G2:=fun d e S=>match d,e with
 | .int i,.int j=>some (.int (i+j),S)
 | _,_=>none
theorem ip_addI {X:Cx}:PIp X .Add (r2 X.K (b2 gAddI)):=by
 intro pins s σ H x y v u Q I rx ry h
 obtain ⟨mu,S,d,e,r,S',r1,r2',hs,hm,hc⟩:=rn2 h
 unfold gAddI at hm
 split at hm
 ·rename_i i j
  cases hm;cases r1;cases r2'
  exact iop_add pins s σ H _ _ v u Q I rx ry ⟨i,j,rfl,rfl,hc.now (.int _) hs⟩
 ·cases hm
theorem st_Dict (ks vs pos rest env):starEach (.Dict ks vs pos::rest) env=(false,eval (.Dict ks vs pos) env)::starEach rest env:=rfl
end Mi
end
section
namespace HT
open PySem PySem.Spec PyProof.Rows
variable {prog:Program} {w:World} {A:Around} {E:Value->Shared->Prop} {s:Shared}
end HT
namespace Mi
open PySem PySem.Spec PyProof.Rows L2
section
variable {X:Cx}
end
mutual
inductive IsTK (h:Heap):TK->Value->Prop
 | non:IsTK h .non .none
 | int (i t):IsTK h (.int i) (.int i t)
 | tup {a o items n xs}:h.get? a=some o->o.cls = .type "tuple"->o.data = .seq items n->IsTKs h xs items.toList->IsTK h (.tup xs) (.ref a)
inductive IsTKs (h:Heap):List TK->List Value->Prop
 | nil:IsTKs h [] []
 | cons {k v ks vs}:IsTK h k v->IsTKs h ks vs->IsTKs h (k::ks) (v::vs)
end
section
variable {prog:Program} {w:World} {A:Around} {E:Value->Shared->Prop} {s:Shared}
theorem pyHash_none {Q:Int->Shared->Prop}(h:Q 0xFCA86420 {s with toks:=s.toks+1}):wpAny (model prog w) A (pyHash .none) Q E s:=by
 have hT:s.TypeIs .none "NoneType":=rfl
 unfold pyHash
 first | unfold pyHashByItsType | skip
 have hv:[Value.none].any Value.onHeap=false:=rfl
 refine wB1 ?_
 rw [cRoomFor,if_neg (by rw [hv];exact Bool.false_ne_true)];refine wP1 ?_
 refine wB1 (wpAny_specialOf hT F.slot_NoneType_hash.lookup ?_)
 show wpAny _ _ (if (some (Value.builtin "NoneType.__hash__") == some Value.none)=true then _ else _) Q E s
 rw [if_neg (by rw [beq_builtin_none];exact Bool.false_ne_true)]
 refine wB1 (wpAny_specialOf hT F.slot_NoneType_hash.lookup ?_)
 show wpAny _ _ (callSpecialIfBoundUnlessNone? .none "__hash__" _ >>= _) Q E s
 refine wB1 (wpAny_callSpecialIfBoundUnlessNone?_slot hT F.slot_NoneType_hash (wE1 F.slot_NoneType_hash hT F.entry_NoneType_hash (show wpAny _ _ (retInt 0xFCA86420) _ _ s from wpAny_ret_mkInt ?_) (F.args_NoneType_hash_1 _)))
 exact wP1 h
noncomputable def HashOk (prog:Program)(w:World)(k:TK):Prop:=∀ {A:Around} {E:Value->Shared->Prop} {s:Shared} {v:Value} {Q:Int->Shared->Prop},A.units+k.dep<cLine->IsTK s.heap k v->Q k.hash {s with toks:=s.toks+k.draws}->wpAny (model prog w) A (pyHash v) Q E s
theorem IsTKs.split {h:Heap}:∀ {ks:List TK} {vs:List Value},IsTKs h ks vs->ks.length=vs.length:=fun h0=>h0.rec (motive_1:=fun _ _ _=>True) (motive_2:=fun ks vs _=>ks.length=vs.length) trivial (fun _ _=>trivial) (fun _ _ _ _ _=>trivial) rfl (fun _ _ _ ih=>congrArg (· + 1) ih)
theorem hash_tup {xs:List TK}(all:∀ k∈xs,HashOk prog w k):HashOk prog w (.tup xs):=by
 intro A E s v Q hu hk h
 cases hk with
 | @tup a o items n _ ho hc hd hi=>
  have hT:s.TypeIs (.ref a) "tuple":=⟨o,ho,hc⟩
  rw [TK.dep] at hu
  unfold pyHash
  first | unfold pyHashByItsType | skip
  first | refine wB1 (wpAny_cRoomFor_or (.inr (by lia)) ?_) | skip
  refine wB1 (wpAny_specialOf hT F.slot_tuple_hash.lookup ?_)
  show wpAny _ _ (if (some (Value.builtin "tuple.__hash__") == some Value.none)=true then _ else _) Q E s
  rw [if_neg (by rw [beq_builtin_none];exact Bool.false_ne_true)]
  refine wB1 (wpAny_specialOf hT F.slot_tuple_hash.lookup ?_)
  show wpAny _ _ (callSpecialIfBoundUnlessNone? (.ref a) "__hash__" _ >>= _) Q E s
  refine wB1 (wpAny_callSpecialIfBoundUnlessNone?_slot hT F.slot_tuple_hash (wE1 F.slot_tuple_hash hT F.entry_tuple_hash ?_ (F.args_tuple_hash_1 _)))
  show wpAny _ _ (Builtin.Tuple.tupleItemsOf (.ref a) >>= _) _ _ s
  refine wB1 (wpAny_tupleItemsOf ho hd ?_)
  refine wB1 ?_
  rw [<- Array.forIn_toList]
  refine wpAny_forIn_list _
   (fun rest (b:Array Int) s'=>∃ done left,xs=done++left/\IsTKs s.heap left rest/\b.toList=TK.hashes done/\s'={s with toks:=s.toks+TK.drawsAll done})
   _ ?_ ?_ _ _ ⟨[],xs,rfl,hi,rfl,rfl⟩
  ·rintro x rest b s' ⟨done,left,e,hl,hb,rfl⟩
   cases hl with
   | @cons k _ ks' _ h1 hl'=>
    have hm:k∈xs:=by rw [e];simp
    refine wB1 (all k hm (show A.in1.units+k.dep<cLine by have:=TK.dep_mem hm;rw [show A.in1.units=A.units+1 from rfl];lia) h1 ?_)
    first
     | exact wP1 ⟨done++[k],ks',by simp [e],hl',by rw [TK.hashes_app];simp [hb,TK.hashes],by rw [TK.draws_app];simp [TK.drawsAll,Nat.add_assoc]⟩
     | exact wB1 (wP1 (wP1 ⟨done++[k],ks',by simp [e],hl',by rw [TK.hashes_app];simp [hb,TK.hashes],by rw [TK.draws_app];simp [TK.drawsAll,Nat.add_assoc]⟩))
  ·rintro b s' ⟨done,left,e,hl,hb,rfl⟩
   cases hl
   rw [List.append_nil] at e
   subst e
   show wpAny _ _ (retInt (Builtin.Tuple.tupleHashOf b.toList)) _ _ _
   rw [hb]
   refine wpAny_ret_mkInt ?_
   show wpAny _ _ (if (decide (-(2:Int)^63<=Builtin.Tuple.tupleHashOf (TK.hashes xs))&&decide (Builtin.Tuple.tupleHashOf (TK.hashes xs)<2^63))=true then _ else _) Q E _
   rw [TK.hash,TK.draws] at h
   unfold reduceHash at h
   by_cases hr:(decide (-(2:Int)^63<=Builtin.Tuple.tupleHashOf (TK.hashes xs))&&decide (Builtin.Tuple.tupleHashOf (TK.hashes xs)<2^63))=true
   ·rw [if_pos hr]
    rw [if_pos hr] at h
    exact wP1 (by simpa [Nat.add_assoc] using h)
   ·rw [if_neg hr]
    rw [if_neg hr] at h
    exact wB1 (wpAny_rule (wP1 (by simpa [Nat.add_assoc] using h)))
mutual
theorem hash_ok:∀ k:TK,HashOk prog w k
 | .non=>fun hu hk h=>by cases hk;exact pyHash_none h
 | .int i=>fun hu hk h=>by cases hk;exact wpAny_pyHash_int h
 | .tup xs=>hash_tup (hash_oks xs)
theorem hash_oks:∀ ks:List TK,∀ k∈ks,HashOk prog w k
 | [],k,h=>by simp at h
 | x::xs,k,h=>by
  by_cases e:k=x
  ·rw [e];exact hash_ok x
  ·exact hash_oks xs k ((List.mem_cons.mp h).resolve_left e)
end
end
theorem IsTK.inj {h:Heap}:∀ {k k':TK} {v:Value},IsTK h k v->IsTK h k' v->k=k':=fun h0=>h0.rec (motive_1:=fun k v _=>∀ k',IsTK h k' v->k=k') (motive_2:=fun k v _=>∀ k',IsTKs h k' v->k=k')
  (fun k' g=>by cases g;rfl) (fun _ _ k' g=>by cases g;rfl)
  (fun e1 c1 d1 t1 ih k' g=>by
   cases g with
   | tup e2 c2 d2 t2=>
    rw [e1] at e2;cases e2
    rw [d1] at d2;cases d2
    rw [ih _ t2])
  (fun k' g=>by cases g;rfl) (fun _ _ a b k' g=>by cases g with | cons r' t'=>rw [a _ r',b _ t']) _
theorem IsTK.keeps {h h':Heap}{d:Addr}{o:Obj}{es ep}(ho:h.get? d=some o)(hd:o.data = .dict es ep)(hs:Heap.SameBut d h h'):∀ {k:TK} {v:Value},IsTK h k v->IsTK h' k v:=fun h0=>h0.rec (motive_1:=fun k v _=>IsTK h' k v) (motive_2:=fun k v _=>IsTKs h' k v) .non .int
  (fun {a} _ _ _ _ e1 c1 d1 _ ih=>.tup ((hs.2 a (fun z=>by subst z;rw [e1] at ho;cases ho;rw [d1] at hd;cases hd)).trans e1) c1 d1 ih) .nil (fun _ _ a b=>.cons a b)
theorem IsTKs.at {h:Heap}:∀ {ks:List TK} {vs:List Value} (j:Nat) (h1:j<ks.length) (h2:j<vs.length),IsTKs h ks vs->IsTK h ks[j] vs[j]
 | _::_,_::_,0,_,_,.cons r _=>r
 | _::ks,_::vs,j+1,h1,h2,.cons _ t=>IsTKs.at j (by simpa using h1) (by simpa using h2) t
theorem all_same {xs ys:List TK}(hl:xs.length=ys.length):((List.range (min xs.length ys.length)).all fun j=>decide (xs[j]? = ys[j]?))=decide (xs=ys):=by
 by_cases h:xs=ys
 ·subst h
  simp
 ·rw [decide_eq_false h,List.all_eq_false]
  have:∃ j,xs[j]? ≠ ys[j]?:=Classical.byContradiction fun z=>h (List.ext_getElem? fun j=>Classical.byContradiction fun q=>z ⟨j,q⟩)
  obtain ⟨j,hj⟩:=this
  refine ⟨j,?_,by simpa using hj⟩
  rw [List.mem_range,hl,Nat.min_self]
  apply Classical.byContradiction
  intro hn
  exact hj (by rw [List.getElem?_eq_none (by lia),List.getElem?_eq_none (by lia)])
theorem eq_tk:∀ (n:Nat) {k k':TK} {A:Around} {s:Shared} {u v:Value},k.dep<=n->A.units+n<cLine->IsTK s.heap k u->IsTK s.heap k' v->SeqAt.EqAt A s u v (decide (k=k')):=by
 intro n
 induction n with
 | zero=>
  intro k k' A s u v hd hu r r'
  cases r with
  | tup _ _ _ _=>simp [TK.dep] at hd
  | non=>
   cases r' with
   | non=>simpa using SeqAt.EqAt.same (A:=A) (s:=s) Value.none
   | int i t=>simpa [eqV] using eqAt_V (A:=A) (s:=s) (y:=.non) (x:=.int i) rfl ⟨t,rfl⟩ rfl rfl
   | tup e c d t=>simpa using (rc_seq_none (A:=A) (s:=s) (b:=false) (v:=.non) (u:=.none) ⟨_,e,c,_,d⟩ rfl rfl (by lia)).2.1
  | int i t=>
   cases r' with
   | non=>simpa [eqV] using eqAt_V (A:=A) (s:=s) (y:=.int i) (x:=.non) ⟨t,rfl⟩ rfl rfl rfl
   | int j t'=>
    have:=eqAt_V (A:=A) (s:=s) (y:=.int i) (x:=.int j) ⟨t,rfl⟩ ⟨t',rfl⟩ rfl rfl
    have e:eqV (.int i) (.int j)=decide (TK.int i=TK.int j):=by
     by_cases h:i=j
     ·subst h;simp [eqV]
     ·rw [decide_eq_false (fun z=>h (by injection z))];simp [eqV,h]
    rw [e] at this;exact this
   | tup e c d q=>simpa using (rc_seq_none (A:=A) (s:=s) (b:=false) (v:=.int i) (u:=.int i t) ⟨_,e,c,_,d⟩ ⟨t,rfl⟩ rfl (by lia)).2.1
 | succ n ih=>
  intro k k' A s u v hd hu r r'
  cases r with
  | non=>
   cases r' with
   | non=>simpa using SeqAt.EqAt.same (A:=A) (s:=s) Value.none
   | int i t=>simpa [eqV] using eqAt_V (A:=A) (s:=s) (y:=.non) (x:=.int i) rfl ⟨t,rfl⟩ rfl rfl
   | tup e c d t=>simpa using (rc_seq_none (A:=A) (s:=s) (b:=false) (v:=.non) (u:=.none) ⟨_,e,c,_,d⟩ rfl rfl (by lia)).2.1
  | int i t=>
   cases r' with
   | non=>simpa [eqV] using eqAt_V (A:=A) (s:=s) (y:=.int i) (x:=.non) ⟨t,rfl⟩ rfl rfl rfl
   | int j t'=>
    have:=eqAt_V (A:=A) (s:=s) (y:=.int i) (x:=.int j) ⟨t,rfl⟩ ⟨t',rfl⟩ rfl rfl
    have e:eqV (.int i) (.int j)=decide (TK.int i=TK.int j):=by
     by_cases h:i=j
     ·subst h;simp [eqV]
     ·rw [decide_eq_false (fun z=>h (by injection z))];simp [eqV,h]
    rw [e] at this;exact this
   | tup e c d q=>simpa using (rc_seq_none (A:=A) (s:=s) (b:=false) (v:=.int i) (u:=.int i t) ⟨_,e,c,_,d⟩ ⟨t,rfl⟩ rfl (by lia)).2.1
  | @tup a o items m xs e1 c1 d1 t1=>
   cases r' with
   | non=>simpa using (rc_seq_none (A:=A) (s:=s) (b:=false) (v:=.non) (u:=.none) ⟨_,e1,c1,_,d1⟩ rfl rfl (by lia)).1
   | int i t=>simpa using (rc_seq_none (A:=A) (s:=s) (b:=false) (v:=.int i) (u:=.int i t) ⟨_,e1,c1,_,d1⟩ ⟨t,rfl⟩ rfl (by lia)).1
   | @tup a2 o2 items2 m2 ys e2 c2 d2 t2=>
    by_cases ha:a=a2
    ·subst ha
     have:TK.tup xs=TK.tup ys:=IsTK.inj (.tup e1 c1 d1 t1) (.tup e2 c2 d2 t2)
     rw [decide_eq_true this]
     exact .same _
    ·refine .of_refs ha ?_
     have l1:=t1.split
     have l2:=t2.split
     have rc:=SeqAt.RcAt.tuples (A:=A) (s:=s) (e:=fun j=>decide (xs[j]? = ys[j]?)) ⟨o,e1,c1,m,d1⟩ ⟨o2,e2,c2,m2,d2⟩ (by lia) (fun j h1 h2=>by
      have g1:j<xs.length:=by rw [l1];simpa using h1
      have g2:j<ys.length:=by rw [l2];simpa using h2
      rw [TK.dep] at hd
      have hm:=TK.dep_mem (List.getElem_mem g1)
      have q:=ih (k:=xs[j]) (k':=ys[j]) (A:=A.in1) (s:=s) (by lia) (by show A.units+1+n<cLine;lia) (t1.at j g1 (by simpa using h1)) (t2.at j g2 (by simpa using h2))
      have e:decide (xs[j]? = ys[j]?)=decide (xs[j]=ys[j]):=by
       rw [gG1 g1,gG1 g2];simp
      rw [e]
      simpa using q)
     have z1:items.size=xs.length:=by rw [l1];simp
     have z2:items2.size=ys.length:=by rw [l2];simp
     rw [z1,z2] at rc
     have fin:((List.range (min xs.length ys.length)).all (fun j=>decide (xs[j]? = ys[j]?))&&xs.length == ys.length)=decide (TK.tup xs=TK.tup ys):=by
      by_cases hl:xs.length=ys.length
      ·rw [all_same hl,hl,beq_self_eq_true,Bool.and_true]
       by_cases h:xs=ys
       ·subst h;simp
       ·rw [decide_eq_false h,decide_eq_false (fun z=>h (by injection z))]
      ·have hb:(xs.length == ys.length)=false:=by simpa using hl
       rw [hb,Bool.and_false,decide_eq_false (fun z=>hl (by injection z with z;rw [z]))]
     rw [fin] at rc
     exact rc
theorem quiet_tk {prog:Program}{w:World}:∀ (n:Nat) {k:TK} {A:Around} {E:Value->Shared->Prop} {s:Shared} {v:Value} {Q:Bool->Shared->Prop},k.dep<=n->IsTK s.heap k v->Q true s->wpAny (model prog w) A (eqIsQuiet n v) Q E s:=by
 intro n
 induction n with
 | zero=>
  intro k A E s v Q hd r h
  cases r with
  | non=>rw [eqIsQuiet_byValue 0 rfl];exact wP1 h
  | int i t=>rw [eqIsQuiet_byValue 0 rfl];exact wP1 h
  | tup _ _ _ _=>simp [TK.dep] at hd
 | succ n ih=>
  intro k A E s v Q hd r h
  cases r with
  | non=>rw [eqIsQuiet_byValue _ rfl];exact wP1 h
  | int i t=>rw [eqIsQuiet_byValue _ rfl];exact wP1 h
  | @tup a o items m xs e1 c1 d1 t1=>
   have hT:s.TypeIs (.ref a) "tuple":=⟨o,e1,c1⟩
   rw [TK.dep] at hd
   unfold eqIsQuiet
   refine wB1 (wpAny_specialOf hT F.slot_tuple_eq.lookup ?_)
   show wpAny _ _ (isInstance (.ref a) (.type "tuple") >>= _) _ _ s
   refine wB1 (wpAny_isInstance hT isSubtype_tuple_tuple ?_)
   simp only [Bool.not_true,bF1,if_false]
   refine wB1 (wpAny_seqItems e1 d1 ?_)
   refine wB1 ?_
   show wpAny _ _ (forIn items _ _) _ _ s
   rw [<- Array.forIn_toList]
   refine wpAny_forIn_list _ (fun rest r s'=>r.1=none/\s'=s /\ ∃ ks,IsTKs s.heap ks rest/\TK.depAll ks<=n) _ ?_ ?_ _ _ ⟨rfl,rfl,xs,t1,by lia⟩
   ·rintro v rest r s' ⟨hr,rfl,ks,hk,hn⟩
    cases hk with
    | @cons k1 _ ks1 _ q1 q2=>
     rw [TK.depAll] at hn
     refine wB1 (ih (k:=k1) (by lia) q1 ?_)
     simp only [Bool.not_true,bF1,if_false]
     exact wP1 ⟨rfl,rfl,ks1,q2,by lia⟩
   ·rintro ⟨r1,r2⟩ s' ⟨hr,rfl,_⟩
    simp only at hr
    subst hr
    exact wP1 h
noncomputable def tkKind (prog:Program)(w:World):HeapKind prog w TK where
 is:=fun h k a=>IsTK h k (.ref a)/\k.dep<=8
 hash:=TK.hash
 draws:=TK.draws
 room:=fun A=>A.units+8<cLine
 inj:=fun hx hy=>hx.1.inj hy.1
 keeps:=fun x ho hd hs=>⟨x.1.keeps ho hd hs,x.2⟩
 pyHash:=fun hu hk h=>hash_ok _ (by have:=hk.2;omega) hk.1 h
 eqBool:=fun hu hx hy h=>eq_tk 8 hx.2 hu hx.1 hy.1 _ _ _ _ h
 quiet:=fun hk h=>quiet_tk 8 hk.2 hk.1 h
noncomputable def gExt:G2:=fun o v S=>match o,v with
 | .ref n,.ref b=>match S[n]?,S[b]? with
  | some (.lst xs),some (.lst ys)=>if xs.length+ys.length<=sizeLine then some (.non,S.set n (.lst (xs++ys))) else none
  | _,_=>none
 | _,_=>none
noncomputable def insN (n:Nat)(k:Int):Nat:=if k<0 then (k+(n:Int)).toNat else min k.toNat n
noncomputable def gIns:G3:=fun o i v S=>match o,i with
 | .ref n,.int k=>match S[n]? with
  | some (.lst xs)=>if-(2^63)<=k/\k<2^63/\xs.length<sizeLine then some (.non,S.set n (.lst (xs.take (insN xs.length k)++v::xs.drop (insN xs.length k)))) else none
  | _=>none
 | _,_=>none
noncomputable def eqsL (f:D->D->Option Bool)(x:D):List D->Option (List Bool)
 | []=>some []
 | y::ys=>(f y x).bind fun b=>(eqsL f x ys).map (b :: ·)
noncomputable def gIdx:G2:=fun o x S=>match o with
 | .ref n=>match S[n]? with
  | some (.lst ys)=>(eqsL (eqN S deepMost) x ys).bind fun bs=>if bs.length<2^62 then (bs.findIdx? id).map fun j=>(.int (j:Nat),S) else none
  | _=>none
 | _=>none
theorem eqsL_at (f:D->D->Option Bool)(x:D):∀ {ys:List D} {bs:List Bool},eqsL f x ys=some bs->bs.length=ys.length /\ ∀ (j:Nat) (y:D) (k:Bool),ys[j]? = some y->bs[j]? = some k->f y x=some k
 | [],bs,h=>by cases h;exact ⟨rfl,fun j y k h=>by simp at h⟩
 | y::ys,bs,h=>by
  rw [eqsL] at h
  obtain ⟨b,eb,h⟩:=oB1.mp h
  obtain ⟨bt,et,h⟩:=oM1.mp h
  obtain ⟨l1,a1⟩:=eqsL_at f x et
  subst h
  refine ⟨by simp [l1],fun j=>?_⟩
  cases j with
  | zero=>intro y' k h1 h2;simp at h1 h2;subst h1;subst h2;exact eb
  | succ j=>intro y' k h1 h2;exact a1 j y' k (by simpa using h1) (by simpa using h2)
section
open PySem.MeetsSeq PySem.MeetsSeq2 PySem.MeetsSeq3 PySem.SeqRoads2
theorem idx_loop {l:Addr}{its:Array Value}{n:Nat}{x:Value}{e:Nat->Bool}{top:Int}{j:Nat}(hj:j<its.size)(ht:(j:Int)<top)(hit:e j=true):∀ (k i:Nat),i+k=j->(∀ m,i<=m->m<j->e m=false) ->
  Meets (Builtin.«list.index.loop» ⟨[.ref l,x,rawInt i,rawInt top],[]⟩)
   (fun A R s=>s.heap.get? l=some {cls:=.type "list",data:=.seq its n}/\(∀ m (h:m<its.size),SeqAt.EqAt A.in1 s its[m] x (e m))/\R (.ok (.ret (.int j s.toks))) {s with toks:=s.toks+1})
 | 0,i,hk,hno,prog,w,A,R,⟨hp,g,d,tk,os⟩,⟨hl,he,h⟩=>by
  have ei:i=j:=by lia
  subst ei
  wp_walk using AutoSeq1.wpAny_loadPart' hl
  rw [show (if (i:Int)<top then its[((i:Nat):Int).toNat]? else none)=some its[i] by simp [ht,hj]]
  refine wB1 (he i hj prog w _ _ ?_)
  rw [hit]
  wp_walk
  exact h
 | k+1,i,hk,hno,prog,w,A,R,⟨hp,g,d,tk,os⟩,⟨hl,he,h⟩=>by
  have h1:i<its.size:=by lia
  have h2:(i:Int)<top:=by lia
  wp_walk using AutoSeq1.wpAny_loadPart' hl
  rw [show (if (i:Int)<top then its[((i:Nat):Int).toNat]? else none)=some its[i] by simp [h1,h2]]
  refine wB1 (he i h1 prog w _ _ ?_)
  rw [hno i (nR1 i) (by lia)]
  wp_walk
  rw [show ((i:Int)+1)=((i+1:Nat):Int) by push_cast;rfl]
  have z:=idx_loop (l:=l) (n:=n) (x:=x) hj ht hit k (i+1) (by lia) (fun m a b=>hno m (by lia) b) prog w A R _ ⟨hl,he,h⟩
  exact ⟨plainId_quiet plain_index_loop _,wD1 entry_index_loop (by rw [Around.under_plainId plain_index_loop _];exact z)⟩
theorem idx_list {l:Addr}{its:Array Value}{n:Nat}{x:Value}{e:Nat->Bool}{j:Nat}(hj:j<its.size)(ht:(j:Int)<2^63-1)(hit:e j=true)(hno:∀ m,m<j->e m=false):
  Meets (Builtin.«list.index» ⟨[.ref l,x],[]⟩)
   (fun A R s=>s.heap.get? l=some {cls:=.type "list",data:=.seq its n}/\(∀ m (h:m<its.size),SeqAt.EqAt A.in1 s its[m] x (e m))/\R (.ok (.ret (.int j s.toks))) {s with toks:=s.toks+1}):=by
 intro prog w A R ⟨hp,g,d,tk,os⟩ ⟨hl,he,h⟩
 wp_walk using AutoSeq1.wpAny_loadPart' hl
 rw [show ((fun i:Int=>if i<0 then max 0 (i+(its.size:Int)) else i) ((none:Option Int).getD 0))=((0:Nat):Int) by simp,show ((fun i:Int=>if i<0 then max 0 (i+(its.size:Int)) else i) ((none:Option Int).getD (2^63-1)))=2^63-1 by simp]
 have z:=idx_loop (l:=l) (n:=n) (x:=x) hj ht hit j 0 (by lia) (fun m _ b=>hno m b) prog w A R _ ⟨hl,he,h⟩
 exact ⟨plainId_quiet plain_index_loop _,wD1 entry_index_loop (by rw [Around.under_plainId plain_index_loop _];exact z)⟩
end
section
variable {X:Cx}
theorem rn3l {K:Fg1}{H:Hp}{Q:VK}{f:G3}{xs:List V}(h:rN K (b3 f) xs H Q):∃ x y z mu S d e g r S',xs=[x,y,z]/\Rep K H mu d x/\Rep K H mu e y/\Rep K H mu g z/\Sim K H mu S/\f d e g S=some (r,S')/\Cont K mu H r S' Q:=by
 obtain ⟨mu,S,ds,r,S',hr,hs,hm,hc⟩:=h
 cases hr with
 | nil=>cases hm
 | cons q t=>cases t with
  | nil=>cases hm
  | cons q2 t=>cases t with
   | nil=>cases hm
   | cons q3 t=>cases t with
    | nil=>exact ⟨_,_,_,mu,S,_,_,_,r,S',rfl,q,q2,q3,hs,hm,hc⟩
    | cons q4 t=>cases hm
theorem t_idx (hu:X.A.units+64<cLine):MtR X "list.index" (fun x xs H Q=>rN X.K (b2 gIdx) (x::xs) H Q):=by
 intro pins s σ H x xs v us Q I rx rv h
 obtain ⟨x',y,mu,S,d,e,r',S',e0,r1,r2,hs,hm,hc⟩:=rn2l h
 cases e0
 unfold gIdx at hm
 split at hm
 ·rename_i n
  split at hm
  ·rename_i ys en
   obtain ⟨bs,eb,hm⟩:=oB1.mp hm
   split at hm
   ·rename_i hlen
    obtain ⟨j,ej,hm⟩:=oM1.mp hm
    cases hm
    cases r1 with
    | ref qn=>
     obtain ⟨vs,ev,t⟩:=hs.lst en qn
     cases rx
     obtain ⟨u,rfl,ru⟩:=rv.one
     obtain ⟨z,its,n',rvs,hl,e⟩:=I.lstM ev
     obtain ⟨l1,at1⟩:=eqsL_at _ _ eb
     have l2:=t.length
     have l3:=rvs.length
     rw [List.findIdx?_eq_some_iff_getElem] at ej
     obtain ⟨hj,hit,hno⟩:=ej
     have ats:∀ m (hm:m<its.toArray.size),SeqAt.EqAt X.A.in1 s its.toArray[m] u (bs[m]?.getD false):=fun m hm=>by
      have m1:m<its.length:=by simpa using hm
      obtain ⟨y',ey,q1⟩:=t.getV (i:=m) (v:=vs[m]'(by lia)) (gG1 (by lia))
      obtain ⟨w',ew,q2⟩:=rvs.get (i:=m) (x:=vs[m]'(by lia)) (gG1 (by lia))
      have m2:m<bs.length:=by lia
      have e3:its.toArray[m]=w':=by
       have:=gG1 m1
       rw [this] at ew
       simpa using ew
      rw [e3,gG1 m2]
      exact (eqN_at I hs deepMost (A:=X.A.in1) (by show X.A.units+1+60<cLine;lia) q1 r2 q2 ru (at1 m y' bs[m] ey (gG1 m2))).1
     refine call_meets F.slot_list_index ⟨_,e,rfl⟩ F.entry_list_index (F.args_list_index_2 _ _)
      (idx_list (n:=n') (e:=fun m=>bs[m]?.getD false) (j:=j) (by simp;lia) (by lia) ?_ ?_) ⟨e,ats,?_⟩
     ·simp only [gG1 hj,Option.getD_some];simpa using hit
     ·intro m hm
      have m2:m<bs.length:=by lia
      have:=hno m hm
      simp only [gG1 m2,Option.getD_some]
      simpa using this
     ·exact ⟨.int j,H,I.tok _,⟨_,rfl⟩,hc.now (.int _) hs⟩
   ·cases hm
  ·cases hm
 ·cases hm
theorem t_ins:MtR X "list.insert" (fun x xs H Q=>rN X.K (b3 gIns) (x::xs) H Q):=by
 intro pins s σ H x xs v us Q I rx rv h
 obtain ⟨x',y,z,mu,S,d,e,g,r',S',e0,r1,r2,r3,hs,hm,hc⟩:=rn3l h
 cases e0
 unfold gIns at hm
 split at hm
 ·rename_i n k
  split at hm
  ·rename_i ys en
   split at hm
   ·rename_i hb
    cases hm
    cases r1 with
    | ref qn=>
     cases r2
     obtain ⟨vs,ev,t⟩:=hs.lst en qn
     cases rx
     obtain ⟨u1,u2,rfl,q1,q2⟩:=rv.two
     obtain ⟨tk,rfl⟩:=q1
     obtain ⟨z',its,n',rvs,hl,e⟩:=I.lstM ev
     have l2:=t.length
     have l3:=rvs.length
     refine call_meets F.slot_list_insert ⟨_,e,rfl⟩ F.entry_list_insert (F.args_list_insert_3 _ _ _)
      (AutoSeq1.list_insert_list_int_val_1 _ its.toArray n' k tk u2 (by rw [fitsIndex_both hb.1 hb.2.1];exact Bool.false_ne_true) (by rw [sT1];omega)) ⟨e,?_⟩
     have x:=Ext.put (u:=.lst (vs.take (insN ys.length k)++z::vs.drop (insN ys.length k))) ev trivial (gM1 qn)
     refine ⟨.non,_,I.lset (its':=its.take (insN ys.length k)++u2::its.drop (insN ys.length k)) ev e ?_ ((rvs.take _).append (.cons q2 (rvs.drop _))) ?_,rfl,hc _ _ mu x .non (hs.putL ((t.take _).append (.cons r3 (t.drop _))) qn ev)⟩
     ·rw [show ys.length=its.length by omega];simp [insN];exact List.take_of_length_le (by simp)
     ·simp;omega
   ·cases hm
  ·cases hm
 ·cases hm
end
mutual
noncomputable def kD:D->Option TK
 | .non=>some .non
 | .int i=>some (.int i)
 | .tup xs=>(kDs xs).map .tup
 | _=>none
noncomputable def kDs:List D->Option (List TK)
 | []=>some []
 | x::xs=>(kD x).bind fun k=>(kDs xs).map (k :: ·)
end
noncomputable def keyT:D->Option TK
 | .tup xs=>(kDs xs).bind fun ks=>if (TK.tup ks).dep<=8 then some (.tup ks) else none
 | _=>none
mutual
theorem kD_tk:∀ {d:D} {k:TK},kD d=some k->tkD k=d
 | .non,k,h=>by cases h;rfl
 | .int i,k,h=>by cases h;rfl
 | .tup xs,k,h=>by
  rw [kD] at h
  obtain ⟨ks,e,h⟩:=oM1.mp h
  subst h
  rw [tkD,kDs_tk e]
 | .bl _,k,h=>by simp [kD] at h
 | .str _,k,h=>by simp [kD] at h
 | .rol _,k,h=>by simp [kD] at h
 | .ref _,k,h=>by simp [kD] at h
theorem kDs_tk:∀ {ds:List D} {ks:List TK},kDs ds=some ks->tkDs ks=ds
 | [],ks,h=>by cases h;rfl
 | x::xs,ks,h=>by
  rw [kDs] at h
  obtain ⟨k,e1,h⟩:=oB1.mp h
  obtain ⟨t,e2,h⟩:=oM1.mp h
  subst h
  rw [tkDs,kD_tk e1,kDs_tk e2]
end
theorem keyT_tk {d:D}{k:TK}(h:keyT d=some k):tkD k=d/\k.dep<=8 /\ ∃ xs,k = .tup xs:=by
 cases d with
 | tup xs=>
  rw [keyT] at h
  obtain ⟨ks,e,h⟩:=oB1.mp h
  split at h
  ·rename_i hd
   cases h
   exact ⟨by rw [tkD,kDs_tk e],hd,ks,rfl⟩
  ·cases h
 | _=>cases h
section
variable {X:Cx} {pins:List (Addr×Obj)} {σ:L2.St} {H:Hp} {s:Shared} {mu:List Addr}
mutual
theorem tk_is (I:Inv X pins σ H s):∀ (k:TK) {v:V} {u:Value},Rep X.K H mu (tkD k) v->RelV v u->IsTK s.heap k u
 | .non,v,u,r,q=>by
  rw [tkD] at r;cases r;cases q;exact .non
 | .int i,v,u,r,q=>by
  rw [tkD] at r;cases r;obtain ⟨t,rfl⟩:=q;exact .int i t
 | .tup xs,v,u,r,q=>by
  rw [tkD] at r
  cases r with
  | tup h t=>
   cases q
   obtain ⟨its,rv,⟨o,e1,e2,n,e3⟩,_⟩:=I.tuple h
   exact .tup e1 e2 e3 (by simpa using tks_is I xs t rv)
theorem tks_is (I:Inv X pins σ H s):∀ (ks:List TK) {vs:List V} {us:List Value},Reps X.K H mu (tkDs ks) vs->Vals vs us->IsTKs s.heap ks us
 | [],vs,us,r,q=>by rw [tkDs] at r;cases r;cases q;exact .nil
 | k::ks,vs,us,r,q=>by
  rw [tkDs] at r
  cases r with
  | cons r t=>cases q with
   | cons q p=>exact .cons (tk_is I k r q) (tks_is I ks t p)
end
theorem paired_map {α β γ δ:Type}{F:α->β->Prop}{G:γ->δ->Prop}{f:α->γ}{g:β->δ}:∀ {l₁:List α} {l₂:List β},Paired F l₁ l₂->(∀ a b,F a b->G (f a) (g b))->Paired G (l₁.map f) (l₂.map g):=by
 intro a b h g
 induction h with
 | nil=>exact .nil
 | cons r t ih=>exact .cons (g _ _ r) ih
theorem paired_app {α β:Type}{F:α->β->Prop}:∀ {l₁ m₁:List α} {l₂ m₂:List β},Paired F l₁ l₂->Paired F m₁ m₂->Paired F (l₁++m₁) (l₂++m₂):=by
 intro a b c d h g
 induction h with
 | nil=>exact g
 | cons r t ih=>exact .cons r ih
theorem KT.length {K:Fg1}:∀ {ks:List (TK×D)} {ws:List (TK×Addr×Value)},KT K H mu ks ws->ks.length=ws.length:=fun h=>Paired.length h
theorem KT.mem {K:Fg1}:∀ {ks:List (TK×D)} {ws:List (TK×Addr×Value)},KT K H mu ks ws -> ∀ x∈ws,x.1.dep<=8/\Rep K H mu (tkD x.1) (.ref x.2.1):=by
 intro ks ws h0 x h
 induction h0 with
 | nil=>cases h
 | cons r t ih=>
  rcases List.mem_cons.mp h with e | e
  ·subst e;rw [<- r.1];exact ⟨r.2.1,r.2.2.1⟩
  ·exact ih e
theorem KT.look {K:Fg1}{k:TK}:∀ {ks:List (TK×D)} {ws:List (TK×Addr×Value)},KT K H mu ks ws ->
  (∀ d,lookD ks k=some d -> ∃ p v,atKey ws k=some p/\RelV v p.2/\Rep K H mu d v)/\(atKey ws k).isSome=(lookD ks k).isSome:=by
 intro ks ws h
 induction h with
 | nil=>exact ⟨fun d h=>by simp [lookD] at h,rfl⟩
 | @cons p q0 ks ws r t ih=>
  obtain ⟨k1,d1⟩:=p
  obtain ⟨k2,a2,v2⟩:=q0
  obtain ⟨z,d,q,v,rv,r⟩:=r
  dsimp only at z q rv r
  subst z
  obtain ⟨h1,h2⟩:=ih
  by_cases hk:k1=k
  ·subst hk
   refine ⟨fun d h=>?_,by simp [atKey,lookD]⟩
   have:d1=d:=by simpa [lookD] using h
   subst this
   exact ⟨(a2,v2),v,by simp [atKey],rv,r⟩
  ·have e1:lookD ((k1,d1)::ks) k=lookD ks k:=by simp [lookD,List.find?_cons,hk]
   have e2:atKey ((k1,a2,v2)::ws) k=atKey ws k:=by simp [atKey,List.find?_cons,hk]
   rw [e1,e2]
   exact ⟨h1,h2⟩
theorem KT.put {K:Fg1}{k:TK}{d:D}{v:V}{a:Addr}{u:Value}(hk:k.dep<=8)(qk:Rep K H mu (tkD k) (.ref a))(rv:RelV v u)(q:Rep K H mu d v){ks:List (TK×D)}{ws:List (TK×Addr×Value)}(h:KT K H mu ks ws):KT K H mu (putD ks k d) (storedH ws k a u):=by
 unfold putD storedH
 have e:(ks.any fun p=>decide (p.1=k))=(atKey ws k).isSome:=by
  rw [h.look.2]
  unfold lookD
  rw [Option.isSome_map,Bool.eq_iff_iff,List.find?_isSome,List.any_eq_true]
 rw [e]
 split
 ·clear e
  refine paired_map h fun p w ⟨z,d',k',v',rv',r'⟩=>?_
  unfold putAt
  by_cases hp:p.1=k
  ·rw [if_pos hp,if_pos (by rw [<- z];exact hp)]
   exact ⟨z,d',k',v,rv,q⟩
  ·rw [if_neg hp,if_neg (by rw [<- z];exact hp)]
   exact ⟨z,d',k',v',rv',r'⟩
 ·exact paired_app h (.cons ⟨rfl,hk,qk,v,rv,q⟩ .nil)
theorem dh_of (I:Inv X pins σ H s){a:Addr}{xs:List (TK×Addr×Value)}{kvs:List (TK×D)}(e:H a=some (.ext (DictAt a xs)))(h:KT X.K H mu kvs xs):(a == sysModules)=false/\s.heap.DictOfH (tkKind X.prog X.w) a xs:=by
 obtain ⟨⟨h1,h2,o,es,ep,h3,h4,h5,h6⟩,_⟩:=(show ObjOk X.prog X.w H s.heap a (.ext (DictAt a xs)) from I.hok a _ e)
 exact ⟨h1,o,es,ep,h3,h4,h5,h6,fun x hx=>⟨tk_is I _ (h.mem x hx).2 rfl,(h.mem x hx).1⟩,h2⟩
theorem ext_new {h:Heap}{a:Addr}{xs:List (TK×Addr×Value)}(hd:(a == sysModules)=false)(hm:h.DictOfH (tkKind X.prog X.w) a xs):ObjOk X.prog X.w H h a (.ext (DictAt a xs)):=by
 obtain ⟨o,es,ep,h3,h4,h5,h6,h7,h8⟩:=hm
 refine ⟨⟨hd,h8,o,es,ep,h3,h4,h5,h6⟩,⟨o,h3⟩,fun g1 g2 ⟨a1,a2,o',es',ep',b3,b4,b5,b6⟩ st=>⟨a1,a2,o',es',ep',st _ b3,b4,b5,b6⟩⟩
end
noncomputable def gInY:G2:=fun d e S=>match e with
 | .ref n=>match S[n]? with
  | some (.dcT kvs)=>(keyT d).map fun k=>(.bl (lookD kvs k).isSome,S)
  | _=>gInX d e S
 | _=>gInX d e S
noncomputable def gNotInY:G2:=fun d e S=>match e with
 | .ref n=>match S[n]? with
  | some (.dcT kvs)=>(keyT d).map fun k=>(.bl (!(lookD kvs k).isSome),S)
  | _=>gNotInX d e S
 | _=>gNotInX d e S
noncomputable def gIxY:G2:=fun d e S=>match d with
 | .ref n=>match S[n]? with
  | some (.dcT kvs)=>(keyT e).bind fun k=>(lookD kvs k).map fun x=>(x,S)
  | some (.dcF kvs)=>(keyT e).bind fun k=>(lookD kvs k).map fun x=>(x,S)
  | _=>gIxX d e S
 | _=>gIxX d e S
noncomputable def gSetY:G3:=fun o i v S=>match o with
 | .ref n=>match S[n]? with
  | some (.dcT kvs)=>(keyT i).bind fun k=>if kvs.length<sizeLine then some (.non,S.set n (.dcT (putD kvs k v))) else none
  | some (.dct [])=>match keyT i with
   | some k=>some (.non,S.set n (.dcT [(k,v)]))
   | none=>gSetX o i v S
  | _=>gSetX o i v S
 | _=>gSetX o i v S
section
variable {X:Cx}
theorem length_putD {κ:Type}[DecidableEq κ](kvs:List (κ×D))(k:κ)(d:D):(putD kvs k d).length<=kvs.length+1:=by
 unfold putD
 split
 ·rw [lM1];lia
 ·simp
theorem empty_of {h:Heap}{a:Addr}(dd:h.DictOf (mixKind X.prog X.w) a []):h.DictOfH (tkKind X.prog X.w) a []:=by
 obtain ⟨o,es,ep,h1,h2,h3,_,h4,_⟩:=dd
 have e:es.toList=[]:=by
  generalize es.toList=l at h4
  cases h4
  rfl
 exact ⟨o,es,ep,h1,h2,h3,e,(fun x hx=>by simp at hx),List.nodup_nil⟩
theorem room_of {A:Around}(hu:A.units+64<cLine):(tkKind X.prog X.w).room A.in1:=by
 show A.units+1+8<cLine
 lia
theorem key_at {pins:List (Addr×Obj)}{σ:L2.St}{H:Hp}{s:Shared}{mu:List Addr}(I:Inv X pins σ H s){d:D}{v:V}{u:Value}{k:TK}(r:Rep X.K H mu d v)(q:RelV v u)(h:keyT d=some k):
  ∃ a,u = .ref a/\v = .ref a/\Rep X.K H mu (tkD k) (.ref a)/\k.dep<=8/\(tkKind X.prog X.w).is s.heap k a:=by
 obtain ⟨e,hd,xs,ex⟩:=keyT_tk h
 subst e
 have is:=tk_is I k r q
 subst ex
 cases id is with
 | @tup a _ _ _ _ _ _ _ _=>
  rw [tkD] at r
  cases r with
  | tup h1 h2=>
   cases q
   exact ⟨a,rfl,rfl,by rw [tkD];exact .tup h1 h2,hd,is,hd⟩
theorem o_inY (hu:X.A.units+64<cLine):OpR X (compareOp .In) (r2 X.K (b2 gInY)):=by
 intro pins s σ H x y u w Q I rx ry h
 obtain ⟨mu,S,d,e,r,S',r1,r2',hs,hm,hc⟩:=rn2 h
 have back:gInX d e S=some (r,S')->wpAny (model X.prog X.w) X.A (compareOp .In u w) (EP X pins σ Q) X.xe s:=fun hm=>o_inX hu pins s σ H x y u w Q I rx ry ⟨mu,S,[d,e],r,S',.cons r1 (.cons r2' .nil),hs,hm,hc⟩
 unfold gInY at hm
 split at hm
 ·rename_i n
  split at hm
  ·rename_i kvs en
   obtain ⟨k,ek,hm⟩:=oM1.mp hm
   cases hm
   cases r2' with
   | ref hn=>
    cases ry
    obtain ⟨xs,hx,hk,_⟩:=hs.dcT en hn
    obtain ⟨hd,dd⟩:=dh_of I hx hk
    obtain ⟨a,rfl,rfl,_,_,hi⟩:=key_at I r1 rx ek
    refine wpAny_in_heap (room_of hu) hi hd dd ?_
    exact ⟨.bl (atKey xs k).isSome,H,I.tok _,rfl,by rw [hk.look.2];exact hc.now (.bl _) hs⟩
  ·exact back hm
 ·exact back hm
theorem o_notInY (hu:X.A.units+64<cLine):OpR X (compareOp .NotIn) (r2 X.K (b2 gNotInY)):=by
 intro pins s σ H x y u w Q I rx ry h
 obtain ⟨mu,S,d,e,r,S',r1,r2',hs,hm,hc⟩:=rn2 h
 have back:gNotInX d e S=some (r,S')->wpAny (model X.prog X.w) X.A (compareOp .NotIn u w) (EP X pins σ Q) X.xe s:=fun hm=>o_notInX hu pins s σ H x y u w Q I rx ry ⟨mu,S,[d,e],r,S',.cons r1 (.cons r2' .nil),hs,hm,hc⟩
 unfold gNotInY at hm
 split at hm
 ·rename_i n
  split at hm
  ·rename_i kvs en
   obtain ⟨k,ek,hm⟩:=oM1.mp hm
   cases hm
   cases r2' with
   | ref hn=>
    cases ry
    obtain ⟨xs,hx,hk,_⟩:=hs.dcT en hn
    obtain ⟨hd,dd⟩:=dh_of I hx hk
    obtain ⟨a,rfl,rfl,_,_,hi⟩:=key_at I r1 rx ek
    refine wpAny_notIn_heap (room_of hu) hi hd dd ?_
    exact ⟨.bl (!(atKey xs k).isSome),H,I.tok _,rfl,by rw [hk.look.2];exact hc.now (.bl _) hs⟩
  ·exact back hm
 ·exact back hm
theorem dh_frz {pins:List (Addr×Obj)}{σ:L2.St}{H:Hp}{s:Shared}{mu:List Addr}(I:Inv X pins σ H s){a:Addr}{xs:List (TK×Addr×Value)}{kvs:List (TK×D)}(e:∃ o u,H a=some (.frz o u)/\DictO a xs o)(h:KT X.K H mu kvs xs):(a == sysModules)=false/\s.heap.DictOfH (tkKind X.prog X.w) a xs:=by
 obtain ⟨o,u,e,h1,h2,h4,es,ep,h5,h6⟩:=e
 obtain ⟨h3,_⟩:=(show ObjOk X.prog X.w H s.heap a (.frz o u) from I.hok a _ e)
 exact ⟨h1,o,es,ep,h3,h4,h5,h6,fun x hx=>⟨tk_is I _ (h.mem x hx).2 rfl,(h.mem x hx).1⟩,h2⟩
theorem qP (hu:X.A.units+64<cLine):IxR X (r2 X.K (b2 gIxY)):=by
 intro value slice pins s σ H x y v u Q I rx ry h hs2
 obtain ⟨mu,S,d,e,r,S',r1,r2',hs,hm,hc⟩:=rn2 h
 have back:gIxX d e S=some (r,S')->wpAny (model X.prog X.w) X.A (subscriptTail value slice v u) (EP X pins σ Q) X.xe s:=fun hm=>x_ixX hu value slice pins s σ H x y v u Q I rx ry ⟨mu,S,[d,e],r,S',.cons r1 (.cons r2' .nil),hs,hm,hc⟩ hs2
 have main:∀ kvs a xs,v = .ref a->KT X.K H mu kvs xs->s.heap.DictOfH (tkKind X.prog X.w) a xs->((keyT e).bind fun k=>(lookD kvs k).map fun x=>(x,S))=some (r,S')->wpAny (model X.prog X.w) X.A (subscriptTail value slice v u) (EP X pins σ Q) X.xe s:=fun kvs a xs ev hk dd hm=>by
  obtain ⟨k,ek,hm⟩:=oB1.mp hm
  obtain ⟨z,ez,hm⟩:=oM1.mp hm
  cases hm
  subst ev
  obtain ⟨b,rfl,rfl,_,_,hi⟩:=key_at I r2' ry ek
  obtain ⟨p,v',ep,rv,rd⟩:=hk.look.1 _ ez
  have hT:=dd.typeIs
  unfold subscriptTail
  refine wB1 ?_
  rw [getitemInPython_of_ne hT.not_modules]
  refine wB1 (wpAny_specialOf hT PySem.F.slot_dict_getitem.lookup ?_)
  have fin:wpAny (model X.prog X.w) X.A (subscripted slice false (.ref a) (.ref b)) (fun r s₃=>wpAny (model X.prog X.w) X.A (letTemporaryGo value (.ref a) r >>= fun _=>pure r) (EP X pins σ Q) X.xe s₃) X.xe s:=by
   rw [hs2]
   exact wpAny_operating (wpAny_mono (wpAny_getItem_heap (room_of hu) hi dd ep (show EP X pins σ Q p.2 _ from ⟨v',H,I.tok _,rv,hc.now rd hs⟩)) (fun r s₃ h₃=>wB1 (wpAny_letTemporaryGo (wP1 h₃))) fun _ _ x=>x)
  first
   | exact wP1 (wB1 fin)
   | exact wB1 fin
   | exact fin
 unfold gIxY at hm
 split at hm
 ·rename_i n
  split at hm
  ·rename_i kvs en
   cases r1 with
   | @ref _ a hn=>
    cases rx
    obtain ⟨xs,hx,hk,_⟩:=hs.dcT en hn
    exact main kvs a xs rfl hk (dh_of I hx hk).2 hm
  ·rename_i kvs en
   cases r1 with
   | @ref _ a hn=>
    cases rx
    obtain ⟨xs,hx,hk,_⟩:=(show ObR X.K H mu a (.dcF kvs) from hs.ob n _ a en hn)
    exact main kvs a xs rfl hk (dh_frz I hx hk).2 hm
  ·exact back hm
 ·exact back hm
theorem s_setY (hu:X.A.units+64<cLine):PSet X (rU X.K (b3 gSetY)):=by
 intro pins s σ H o i v ov iv u Q I ro ri rv h
 obtain ⟨mu,S,ds,d,S',hr,hs,hm,hc⟩:=id h
 cases hr with
 | cons q1 t1=>cases t1 with
  | cons q2 t2=>cases t2 with
   | cons q3 t3=>
    cases t3
    rename_i d1 d2 d3
    dsimp only [b3] at hm
    have back:gSetX d1 d2 d3 S=some (d,S')->wpAny (model X.prog X.w) X.A (setItem ov iv u) (fun _ s'=>∃ H',Inv X pins σ H' s'/\Q H') X.xe s:=fun hm=>s_setX hu pins s σ H o i v ov iv u Q I ro ri rv ⟨mu,S,[d1,d2,d3],d,S',.cons q1 (.cons q2 (.cons q3 .nil)),hs,hm,hc⟩
    unfold gSetY at hm
    split at hm
    ·rename_i n
     split at hm
     ·rename_i kvs en
      obtain ⟨k,ek,hm⟩:=oB1.mp hm
      split at hm
      ·rename_i hl
       cases hm
       cases q1 with
       | @ref _ ad hn=>
        cases ro
        obtain ⟨xs,hx,hk,hz⟩:=hs.dcT en hn
        obtain ⟨hd,dd⟩:=dh_of I hx hk
        obtain ⟨b,rfl,rfl,rk,dk,hi⟩:=key_at I q2 ri ek
        refine wpAny_setItem_heap (hsz:=hz) (room_of hu) hi dd fun h' dd' hsame=>?_
        have hq:∃ q,h'.get? _=some q:=let ⟨q,_,_,hq,_⟩:=dd';⟨q,hq⟩
        have put:Ext mu mu H (upd H ad (.ext (DictAt ad (storedH xs k b u)))):=Ext.put hx trivial (gM1 hn)
        refine ⟨_,d_write I (by rw [hx];exact True.intro) hsame hq (ext_new hd dd'),hc _ mu put (hs.put hn hx trivial ⟨_,upd_same,((hk.put dk rk rv q3).ext put),?_⟩)⟩
        rw [<- (hk.put dk rk rv q3).length]
        have:=length_putD kvs k d3
        lia
      ·cases hm
     ·rename_i en
      split at hm
      ·rename_i k ek
       cases hm
       cases q1 with
       | @ref _ ad hn=>
        cases ro
        obtain ⟨ws,hw,hk⟩:=hs.dct en hn
        cases hk
        obtain ⟨z,hd,vs,rel,dd⟩:=dk_of I.hok hw
        cases rel
        obtain ⟨b,rfl,rfl,rk,dk,hi⟩:=key_at I q2 ri ek
        have dd2:s.heap.DictOfH (tkKind X.prog X.w) _ []:=empty_of dd
        refine wpAny_setItem_heap (hsz:=Nat.zero_le _) (room_of hu) hi dd2 fun h' dd' hsame=>?_
        have hq:∃ q,h'.get? _=some q:=let ⟨q,_,_,hq,_⟩:=dd';⟨q,hq⟩
        have put:Ext mu mu H (upd H ad (.ext (DictAt ad (storedH [] k b u)))):=Ext.put hw trivial (gM1 hn)
        exact ⟨_,d_write I (by rw [hw];exact True.intro) hsame hq (ext_new hd dd'),hc _ mu put (hs.put hn hw trivial ⟨_,upd_same,KT.ext put (.cons ⟨rfl,dk,rk,v,rv,q3⟩ .nil),(show 1<=sizeLine by decide)⟩)⟩
      ·exact back hm
     ·exact back hm
    ·exact back hm
end
noncomputable def truD (S:Sto)(d:D):Option Bool:=match d with
 | .non=>some false
 | .bl b=>some b
 | .int i=>some (i != 0)
 | .str y=>if y.length<=sizeLine then some ((y.length:Int) != 0) else none
 | .ref n=>match S[n]? with
  | some (.dct kvs)=>some (!kvs.isEmpty)
  | _=>(seqOf S d).map fun p=> !p.2.isEmpty
 | _=>(seqOf S d).map fun p=> !p.2.isEmpty
noncomputable def mTr (m:FE):FT:=fun r S=>(m r S).bind fun p=>(truD p.2 p.1).map fun b=>(b,p.2)
section
variable {K:Fg1} {H:Hp} {mu:List Addr} {S:Sto}
end
mutual
noncomputable def pyD:D->Option PyData
 | .non=>some .none
 | .bl b=>some (.bool b)
 | .int i=>some (.int i)
 | .str x=>some (.str x)
 | .tup xs=>(pyDs xs).map .tuple
 | .rol _=>none
 | .ref _=>none
noncomputable def pyDs:List D->Option (List PyData)
 | []=>some []
 | d::ds=>(pyD d).bind fun p=>(pyDs ds).map fun ps=>p::ps
end
mutual
theorem pyD_noDict:∀ {d:D} {p:PyData},pyD d=some p->p.hasDict=false
 | .non,p,h=>by simp only [pyD] at h;cases h;rfl
 | .bl b,p,h=>by simp only [pyD] at h;cases h;rfl
 | .int i,p,h=>by simp only [pyD] at h;cases h;rfl
 | .str x,p,h=>by simp only [pyD] at h;cases h;rfl
 | .tup xs,p,h=>by
  simp only [pyD] at h
  obtain ⟨ps,e,h⟩:=oM1.mp h
  cases h
  simp only [PyData.hasDict]
  exact pyDs_noDict e
 | .rol _,p,h=>by simp only [pyD] at h;cases h
 | .ref _,p,h=>by simp only [pyD] at h;cases h
theorem pyDs_noDict:∀ {ds:List D} {ps:List PyData},pyDs ds=some ps->PyData.hasDictAll ps=false
 | [],ps,h=>by simp only [pyDs] at h;cases h;rfl
 | d::ds,ps,h=>by
  simp only [pyDs] at h
  obtain ⟨p,e1,h⟩:=oB1.mp h
  obtain ⟨qs,e2,h⟩:=oM1.mp h
  cases h
  simp only [PyData.hasDictAll,pyD_noDict e1,pyDs_noDict e2,Bool.or_self]
end
noncomputable def gRepr:G1:=fun d S=>match d with
 | .tup xs=>(pyDs xs).bind fun ps=>if (PyData.tuple ps).showable=true/\(PyData.tuple ps).shown.length<=sizeLine/\(PyData.tuple ps).depth<=60 then some (.str (PyData.tuple ps).shown,S) else none
 | _=>none
section
variable {X:Cx} {pins:List (Addr×Obj)} {σ:L2.St} {H:Hp} {s:Shared} {mu:List Addr}
theorem reads_of (I:Inv X pins σ H s):∀ {d:D} {v:V} {u:Value} {p:PyData},Rep X.K H mu d v->RelV v u->pyD d=some p -> ∃ as,Reads s.heap u p as:=fun h0=>h0.rec (motive_1:=fun d v _=>∀ u p,RelV v u->pyD d=some p -> ∃ as,Reads s.heap u p as) (motive_2:=fun ds vs _=>∀ us ps,Vals vs us->pyDs ds=some ps -> ∃ as,ReadsAll s.heap us ps as)
  (fun _ _ rv h=>by simp only [pyD] at h;cases h;cases rv;exact ⟨[],.none⟩)
  (fun b _ _ rv h=>by simp only [pyD] at h;cases h;cases rv;exact ⟨[],.bool b⟩)
  (fun i _ _ rv h=>by simp only [pyD] at h;cases h;obtain ⟨t,rfl⟩:=rv;exact ⟨[],.int i t⟩)
  (fun x _ _ rv h=>by simp only [pyD] at h;cases h;obtain ⟨t,rfl⟩:=rv;exact ⟨[],.str x t⟩)
  (fun q _ ih _ _ rv h=>by
   simp only [pyD] at h
   obtain ⟨ps,e,h⟩:=oM1.mp h
   cases h
   cases rv
   obtain ⟨its,vv,⟨o,ho,hc,n,hd⟩,_⟩:=I.tuple q
   obtain ⟨as,ra⟩:=ih _ _ vv e
   exact ⟨as,.tuple ho hc hd (by simpa using ra)⟩)
  (fun _ _ _ _ _ _ h=>by simp only [pyD] at h;cases h) (fun _ _ _ _ h=>by simp only [pyD] at h;cases h)
  (fun _ _ tv h=>by simp only [pyDs] at h;cases h;cases tv;exact ⟨[],.nil⟩)
  (fun _ _ a b _ _ tv h=>by
   simp only [pyDs] at h
   obtain ⟨p,e1,h⟩:=oB1.mp h
   obtain ⟨qs,e2,h⟩:=oM1.mp h
   cases h
   cases tv with
   | cons v tv=>
    obtain ⟨a1,r1⟩:=a _ _ v e1
    obtain ⟨a2,r2⟩:=b _ _ tv e2
    exact ⟨_,.cons r1 r2⟩) _ _
end
section
variable {X:Cx}
theorem c_repr {k:Nat}(hr:Room k X.A):CallR X (.builtin "repr") (rN X.K (b1 gRepr)):=by
 intro pins s σ H xs us Q I r h
 obtain ⟨x,mu,S,d,r',S',rfl,r1,hs,hm,hc⟩:=rn1 h
 unfold gRepr at hm
 split at hm
 ·rename_i ds
  obtain ⟨ps,e,hm⟩:=oB1.mp hm
  split at hm
  ·rename_i hh
   obtain ⟨h1,h2,h3⟩:=hh
   cases hm
   cases r with
   | cons rv rt=>
    cases rt
    have e':pyD (.tup ds)=some (.tuple ps):=by simp only [pyD,e,oP1]
    obtain ⟨as,ra⟩:=reads_of I r1 rv e'
    cases r1 with
    | tup q t=>
     cases rv
     refine repr_of_reads' ra h1 (PyData.noDict_hsm (pyD_noDict e')) hr.gd (by have:=hr.un;lia) (fun b o z=>z) (fun h' u tk hk=>?_) h2
     exact ⟨.str _,H,I.kept hk,⟨u,rfl⟩,hc.now (.str _) hs⟩
  ·cases hm
 ·cases hm
noncomputable def intsOf:List D->Option (List Int)
 | []=>some []
 | .int i::ds=>(intsOf ds).map fun is=>i::is
 | _=>none
noncomputable def ddI (ns:List Int):List Int:=ns.foldl step_dedup []
theorem dd_nodup:∀ (ns acc:List Int),acc.Nodup->(ns.foldl step_dedup acc).Nodup
 | [],acc,h=>h
 | n::ns,acc,h=>by
  rw [List.foldl_cons]
  refine dd_nodup ns _ ?_
  unfold step_dedup
  split
  ·exact h
  ·rename_i hn
   rw [List.nodup_append]
   refine ⟨h,by simp,fun a ha b hb e=>?_⟩
   simp at hb
   apply hn
   rw [List.any_eq_true]
   exact ⟨a,ha,by simp [e,hb]⟩
theorem intsOf_at {K:Fg1}{H:Hp}{mu:List Addr}:∀ {ds:List D} {vs:List V} {us:List Value} {ns:List Int},Reps K H mu ds vs->Vals vs us->intsOf ds=some ns->IntsAre us ns/\ns.length=ds.length:=by
 intro ds vs us ns h0 tt h
 induction h0 using Reps.ind generalizing us ns with
 | hn=>cases h;cases tt;exact ⟨.nil,rfl⟩
 | @hc d v ds vs r t ih=>
  cases d with
  | int i=>
   obtain ⟨c,e,h⟩:=oM1.mp h
   cases h
   cases r
   cases tt with
   | cons r tt=>
    obtain ⟨e1,e2⟩:=ih tt e
    obtain ⟨tk,rfl⟩:=r
    exact ⟨.cons _ _ e1,by rw [lC1,lC1,e2]⟩
  | _=>cases h
end
@[elab_as_elim] theorem ln0 {P:List Value->Prop}{us:List Value}(l:us.length=0)(f:P []):P us:=by
 cases us with
 | nil=>exact f
 | cons _ _=>cases l
@[elab_as_elim] theorem ln1 {P:List Value->Prop}{us:List Value}(l:us.length=1)(f:∀ a,P [a]):P us:=by
 cases us with
 | nil=>cases l
 | cons a us=>exact ln0 (P:=fun us=>P (a::us)) (Nat.succ.inj l) (f a)
@[elab_as_elim] theorem ln2 {P:List Value->Prop}{us:List Value}(l:us.length=2)(f:∀ a b,P [a,b]):P us:=by
 cases us with
 | nil=>cases l
 | cons a us=>exact ln1 (P:=fun us=>P (a::us)) (Nat.succ.inj l) (f a)
@[elab_as_elim] theorem ln3 {P:List Value->Prop}{us:List Value}(l:us.length=3)(f:∀ a b c,P [a,b,c]):P us:=by
 cases us with
 | nil=>cases l
 | cons a us=>exact ln2 (P:=fun us=>P (a::us)) (Nat.succ.inj l) (f a)
@[elab_as_elim] theorem ln4 {P:List Value->Prop}{us:List Value}(l:us.length=4)(f:∀ a b c d,P [a,b,c,d]):P us:=by
 cases us with
 | nil=>cases l
 | cons a us=>exact ln3 (P:=fun us=>P (a::us)) (Nat.succ.inj l) (f a)
@[elab_as_elim] theorem ln5 {P:List Value->Prop}{us:List Value}(l:us.length=5)(f:∀ a b c d e,P [a,b,c,d,e]):P us:=by
 cases us with
 | nil=>cases l
 | cons a us=>exact ln4 (P:=fun us=>P (a::us)) (Nat.succ.inj l) (f a)
end Mi
end
section
namespace HT
open PySem PySem.Spec PyProof.Rows
variable {prog:Program} {w:World} {A:Around} {E:Value->Shared->Prop} {s:Shared}
end HT
namespace Mi
open PySem PySem.Spec PyProof.Rows L2
section
variable {X:Cx}
end
end Mi
end
section
namespace HT
open PySem PySem.Spec PyProof.Rows
section
variable {prog:Program} {w:World} {A:Around} {R:Result->Shared->Prop} {I ax L:Addr} {xs:Array Value}
end
section
variable {prog:Program} {w:World} {A:Around} {E:Value->Shared->Prop} {s:Shared}
end
end HT
namespace Mi
open PySem PySem.Spec PyProof.Rows L2
section
variable {X:Cx}
end
section
variable {X:Cx}
end
section
variable {elt tg iter tg2 iter2 tg3 iter3:Expr} {ifs ifs2 ifs3:List Expr} {scope:Scope} {pos:Pos}
end
section
variable {X:Cx}
end
noncomputable def insI (a:Int):List Int->List Int
 | []=>[a]
 | b::l=>if a<=b then a::b::l else b::insI a l
noncomputable def sortI:List Int->List Int
 | []=>[]
 | a::l=>insI a (sortI l)
theorem insI_perm (a:Int):∀ l:List Int,(insI a l).Perm (a::l)
 | []=>.refl _
 | b::l=>by
  rw [insI]
  split
  ·exact .refl _
  ·exact ((insI_perm a l).cons b).trans (.swap _ _ _)
theorem sortI_perm:∀ l:List Int,(sortI l).Perm l
 | []=>.refl _
 | a::l=>(insI_perm a _).trans ((sortI_perm l).cons a)
theorem insI_pw {a:Int}:∀ {l:List Int},l.Pairwise (· <= ·)->(insI a l).Pairwise (· <= ·)
 | [],_=>List.pairwise_singleton _ _
 | b::l,h=>by
  rw [List.pairwise_cons] at h
  rw [insI]
  split
  ·rename_i hab
   rw [List.pairwise_cons,List.pairwise_cons]
   exact ⟨fun x hx=>by
    rcases List.mem_cons.mp hx with z | z
    ·lia
    ·have:=h.1 x z;lia,h.1,h.2⟩
  ·rename_i hab
   rw [List.pairwise_cons]
   refine ⟨fun x hx=>?_,insI_pw h.2⟩
   rcases List.mem_cons.mp ((insI_perm a l).mem_iff.mp hx) with z | z
   ·lia
   ·exact h.1 x z
theorem sortI_pw:∀ l:List Int,(sortI l).Pairwise (· <= ·)
 | []=>.nil
 | a::l=>insI_pw (sortI_pw l)
theorem pw_uniq:∀ {a b:List Int},a.Perm b->a.Pairwise (· <= ·)->b.Pairwise (· <= ·)->a=b
 | [],b,p,_,_=>(List.nil_perm.mp p).symm
 | x::a,[],p,_,_=>absurd p.length_eq (by simp)
 | x::a,y::b,p,h1,h2=>by
  rw [List.pairwise_cons] at h1 h2
  have e:x=y:=by
   have hx:=p.mem_iff.mp (mS1 (a:=x) (l:=a))
   have hy:=p.mem_iff.mpr (mS1 (a:=y) (l:=b))
   rcases List.mem_cons.mp hx with z | z
   ·exact z
   ·rcases List.mem_cons.mp hy with z' | z'
    ·exact z'.symm
    ·have:=h2.1 x z;have:=h1.1 y z';lia
  subst e
  rw [pw_uniq (List.perm_cons x |>.mp p) h1.2 h2.2]
noncomputable def intsD:List D->Option (List Int)
 | []=>some []
 | .int i::l=>(intsD l).map fun t=>i::t
 | _=>none
noncomputable def gSorted:G1:=fun d S=>match d with
 | .ref n=>match S[n]? with
  | some (.lst xs)=>(intsD xs).bind fun ns=>if ns.length<64 then some (.ref S.length,S++[.lst ((sortI ns).map D.int)]) else none
  | _=>none
 | _=>none
section
variable {X:Cx}
theorem ints_vals {K:Fg1}{H:Hp}{mu:List Addr}:∀ {ds:List D} {vs:List V} {us:List Value} {ns:List Int},Reps K H mu ds vs->Vals vs us->intsD ds=some ns->IntsAre us ns:=by
 intro ds
 induction ds with
 | nil=>intro vs us ns r v h;cases r;cases v;cases h;exact .nil
 | cons d ds ih=>
  intro vs us ns r v h
  cases r with
  | cons r1 t=>
   cases v with
   | cons q1 tt=>
    cases r1
    case int i=>
     obtain ⟨m,e,h⟩:=oM1.mp h
     subst h
     obtain ⟨tk,rfl⟩:=q1
     exact .cons i tk (ih t tt e)
    all_goals cases h
theorem ints_back:∀ {us:List Value} {ns:List Int},IntsAre us ns->Vals (ns.map V.int) us:=by
 intro us ns h
 induction h with
 | nil=>exact .nil
 | cons i t _ ih=>exact .cons ⟨t,rfl⟩ ih
theorem intsD_len:∀ {ds:List D} {ns:List Int},intsD ds=some ns->ns.length=ds.length:=by
 intro ds
 induction ds with
 | nil=>intro ns h;cases h;rfl
 | cons d ds ih=>
  intro ns h
  cases d with
  | int i=>
   obtain ⟨m,e,h⟩:=oM1.mp h
   subst h
   rw [lC1,lC1,ih e]
  | _=>cases h
theorem c_sorted:CallR X (.builtin "sorted") (rN X.K (b1 gSorted)):=by
 intro pins s σ H xs us Q I r h
 obtain ⟨x,mu,S,d,r',S',rfl,r1,hs,hm,hc⟩:=rn1 h
 cases d with
 | ref n=>
  dsimp only [gSorted] at hm
  split at hm
  ·rename_i ds en
   obtain ⟨ns,e1,hm⟩:=oB1.mp hm
   split at hm
   ·rename_i hl
    cases hm
    have hseq:seqOf S (.ref n)=some (true,ds):=by simp only [seqOf,en]
    obtain ⟨a,vs,rfl,q,t⟩:=seqOf_at r1 hs hseq
    obtain ⟨u,rfl,r2⟩:=vals1 r
    cases r2
    obtain ⟨its,rv,ht,hz⟩:=I.list q
    have hI:=ints_vals t rv e1
    have hlen:its.length=ns.length:=by
     rw [<- rv.length,<- t.length,intsD_len e1]
    refine sorted_ints ht.isList hI (by lia) fun out ns' hI' hp hpw=>?_
    have en':ns'=sortI ns:=pw_uniq (hp.trans (sortI_perm ns).symm) hpw (sortI_pw ns)
    subst en'
    obtain ⟨ep,hat⟩:=sortedAll_at s.heap its out
    have hfr:=I.hok.fresh (Nat.le_succ s.heap.objs.size)
    refine ⟨.ref (s.heap.objs.size+1),_,I.laid (t':=s.toks) (o:=.lst ((sortI ns).map V.int)) (fun b ob q=>sortedAll_old q) (Nat.le_succ _) ?_,rfl,hc _ _ (mu++[_]) (Ext.new_ hfr) (.ref (new_at hs.len _)) (hs.newL (reps_ints _) hfr)⟩
    refine ⟨?_,out.toList,ep,ints_back hI',by rw [Array.toArray_toList];exact hat⟩
    rw [lM1,(sortI_perm ns).length_eq,sizeLine_eq]
    lia
   ·cases hm
  ·cases hm
 | _=>cases hm
end
end Mi
namespace Mi
open PySem PySem.Spec PyProof.Rows L2
section
variable {X:Cx}
end
section
variable {X:Cx}
end
theorem unds_ints (n:Nat):∀ ns:List Int,D.unds n (ns.map D.int)=true
 | []=>rfl
 | _::ns=>by rw [mP1,D.unds,unds_ints n ns];rfl
theorem gc_same {n:Nat}{d:D}{S:Sto}(h:S.length=n):gc n (d,S)=(d,S):=by
 unfold gc
 split
 ·rw [show (d,S).2=S from rfl,<- h,List.take_length]
 ·rfl
theorem call_shut {n:Nat}{f:FN}{ds:List D}{S S1:Sto}{d:D}(h:f ds []=some (d,S1))(hn:ds.length=n)(hu:D.unds 0 ds=true)(hd:d.und 0=true):mCall n f ds S=some (d,S):=by
 unfold mCall callG
 rw [if_pos hn,if_pos hu,h,oP1,if_pos hd]
theorem call_new {n:Nat}{f:FN}{ds:List D}{S S1:Sto}{d:D}(h:f ds []=some (d,S1))(hn:ds.length=n)(hu:D.unds 0 ds=true)(hd:d.und 0=false):mCall n f ds S=some (d.sh S.length,S++S1.map (Ob.sh S.length)):=by
 unfold mCall callG
 rw [if_pos hn,if_pos hu,h,oP1,if_neg (by dsimp only;rw [hd];decide)]
theorem call_open {n:Nat}{f:FN}{ds:List D}{S S1:Sto}{d:D}(h:f ds S=some (d,S1))(hn:ds.length=n)(hu:D.unds 0 ds=false):mCall n f ds S=some (gc S.length (d,S1)):=by
 unfold mCall callG
 rw [if_pos hn,if_neg (by rw [hu];decide),h,oP1]
theorem call_same {n:Nat}{f:FN}{ds:List D}{S S1:Sto}{d:D}(h:f ds S=some (d,S1))(hn:ds.length=n)(hu:D.unds 0 ds=false)(hl:S1.length=S.length):mCall n f ds S=some (d,S1):=by
 rw [call_open h hn hu,gc_same hl]
theorem mulF1 {i j:Int}(h1: -(2^64)<i)(h2:i<2^64):mulFits i j=true:=by
 unfold mulFits;simp only [Bool.or_eq_true,bA1,decide_eq_true_eq];exact .inl (.inl ⟨h1,h2⟩)
theorem mulF2 {i j:Int}(h1: -(2^64)<j)(h2:j<2^64):mulFits i j=true:=by
 unfold mulFits;simp only [Bool.or_eq_true,bA1,decide_eq_true_eq];exact .inl (.inr ⟨h1,h2⟩)
theorem okC_one {S:Sto}{n:Nat}{xs:List D}(h:S[n]? = some (.lst xs)):okC S [(n,xs)]=true:=by
 rw [okC,h];simp [D.sames_refl,okC]
noncomputable def refs (n:Nat):Nat->List D
 | 0=>[]
 | k+1=>.ref n::refs (n+1) k
theorem mem_nums:∀ {n:Nat} {lo:Int} {d:D},d∈nums lo n -> ∃ k:Int,d = .int k/\lo<=k/\k<lo+n
 | 0,lo,d,h=>by simp [nums] at h
 | n+1,lo,d,h=>by
  rw [nums] at h
  rcases List.mem_cons.mp h with h | h
  ·exact ⟨lo,h,Int.le_refl _,by lia⟩
  ·obtain ⟨k,e,h1,h2⟩:=mem_nums h
   exact ⟨k,e,by lia,by lia⟩
theorem unds_mem {n:Nat}:∀ {xs:List D} {x:D},D.unds n xs=true->x∈xs->x.und n=true
 | y::ys,x,h,hx=>by
  rw [D.unds,bA1] at h
  rcases List.mem_cons.mp hx with e | e
  ·rw [e];exact h.1
  ·exact unds_mem h.2 e
theorem seqOf_und {S:Sto}{d:D}(h:d.und 0=true):seqOf S d=seqOf [] d:=by
 cases d with
 | ref n=>simp [D.und] at h
 | _=>rfl
theorem seqOf_unds {S:Sto}{d:D}(h:d.und 0=true){p:Bool×List D}(e:seqOf S d=some p):D.unds 0 p.2=true:=by
 cases d with
 | ref n=>simp [D.und] at h
 | tup xs=>cases e;simpa [D.und] using h
 | rol xs=>cases e;simpa [D.und] using h
 | _=>cases e
theorem eqL_congr {f f':D->D->Option Bool}:∀ {xs ys:List D},(∀ x∈xs,∀ y∈ys,f x y=f' x y)->eqL f xs ys=eqL f' xs ys
 | [],[],_=>rfl
 | [],_::_,_=>rfl
 | _::_,[],_=>rfl
 | x::xs,y::ys,h=>by
  rw [eqL,eqL,h x mS1 y mS1,eqL_congr fun a ha b hb=>h a (mC1 _ ha) b (mC1 _ hb)]
theorem eqN_und {S:Sto}:∀ {n:Nat} {d e:D},d.und 0=true->e.und 0=true->eqN S n d e=eqN [] n d e
 | 0,_,_,_,_=>rfl
 | n+1,d,e,hd,he=>by
  rw [eqN,eqN,seqOf_und hd,seqOf_und he]
  cases h1:seqOf [] d with
  | none=>cases seqOf [] e<;>rfl
  | some p=>
   cases h2:seqOf [] e with
   | none=>rfl
   | some q=>
    dsimp only
    have u1:=seqOf_unds hd h1
    have u2:=seqOf_unds he h2
    rw [eqL_congr (f:=eqN S n) (f':=eqN [] n) fun x hx y hy=>eqN_und (unds_mem u1 hx) (unds_mem u2 hy)]
theorem ltL_congr {f f' g g':D->D->Option Bool}:∀ {xs ys:List D},(∀ x∈xs,∀ y∈ys,f x y=f' x y)->(∀ x∈xs,∀ y∈ys,g x y=g' x y)->ltL f g xs ys=ltL f' g' xs ys
 | [],[],_,_=>rfl
 | [],_::_,_,_=>rfl
 | _::_,[],_,_=>rfl
 | x::xs,y::ys,h,k=>by
  rw [ltL,ltL,h x mS1 y mS1,k x mS1 y mS1,ltL_congr (fun a ha b hb=>h a (mC1 _ ha) b (mC1 _ hb)) fun a ha b hb=>k a (mC1 _ ha) b (mC1 _ hb)]
theorem ltN_und {S:Sto}:∀ {n:Nat} {d e:D},d.und 0=true->e.und 0=true->ltN S n d e=ltN [] n d e
 | 0,_,_,_,_=>rfl
 | n + 1,d,e,hd,he=>by
  rw [ltN,ltN,seqOf_und hd,seqOf_und he]
  cases ltF d e with
  | some b=>rfl
  | none=>
   cases h1:seqOf [] d with
   | none=>rfl
   | some p=>
    cases h2:seqOf [] e with
    | none=>rfl
    | some q=>
     dsimp only
     have u1:=seqOf_unds hd h1
     have u2:=seqOf_unds he h2
     rw [ltL_congr (f:=eqN S n) (f':=eqN [] n) (g:=ltN S n) (g':=ltN [] n) (fun x hx y hy=>eqN_und (unds_mem u1 hx) (unds_mem u2 hy)) fun x hx y hy=>ltN_und (unds_mem u1 hx) (unds_mem u2 hy)]
open Classical in
noncomputable def rkV (ws:List Value)(x:Value):Nat:=ws.findIdx fun y=>decide (y=x)
theorem rkV_at {ws:List Value}{x:Value}(h:x∈ws):ws[rkV ws x]? = some x:=by
 have hl:rkV ws x<ws.length:=List.findIdx_lt_length_of_exists ⟨x,h,by simp⟩
 rw [gG1 hl]
 have:=List.findIdx_getElem (w:=hl)
 have e:ws[rkV ws x]=x:=of_decide_eq_true this
 rw [e]
noncomputable def kR (ws:List Value)(xs:Array Keyed)(i:Nat):Nat:=(xs[i]?.map fun p=>rkV ws p.1).getD 0
theorem kR_congr {ws:List Value}{xs ys:Array Keyed}{i j:Nat}(h:xs[i]? = ys[j]?):kR ws xs i=kR ws ys j:=by unfold kR;rw [h]
noncomputable def Up (ws:List Value)(xs:Array Keyed)(k:Nat):Prop:=∀ i j,i<j->j<k->kR ws xs i<kR ws xs j
noncomputable def Dn (ws:List Value)(xs:Array Keyed)(k:Nat):Prop:=∀ i j,i<j->j<k->kR ws xs j<kR ws xs i
structure SoB (κ:SortKind)(a₀:Array Keyed)(st:SortSt):Prop where
 perm:(arrOf st).Perm a₀
 kind:kindOf st=κ
 failed:failedOf st=none
 pend:pendingOf st = #[]
theorem SoB.arr {κ:SortKind}{a₀:Array Keyed}{st:SortSt}(b:SoB κ a₀ st){xs:Array Keyed}(p:xs.Perm (arrOf st)):SoB κ a₀ (setArr st xs):=⟨p.trans b.perm,b.kind,b.failed,b.pend⟩
structure SoC (prog:Program)(w:World)(A:Around)(s:Shared)(κ:SortKind)(ws:List Value)(a₀:Array Keyed):Prop where
 nd:ws.Nodup
 keys:(a₀.toList.map (·.1)).Perm ws
 lt:∀ (x y:Value) (i j:Nat),ws[i]? = some x->ws[j]? = some y->i≠j -> ∀ (E:Value->Shared->Prop) (Q:Bool->Shared->Prop),Q (decide (i<j)) s->wpAny (model prog w) A (keyLt' κ x y) Q E s
section
variable {prog:Program} {w:World} {A:Around} {E:Value->Shared->Prop} {s:Shared} {κ:SortKind} {ws:List Value} {a₀:Array Keyed}
theorem SoC.at_ (C:SoC prog w A s κ ws a₀){xs:Array Keyed}(p:xs.Perm a₀){i:Nat}(hi:i<a₀.size):∃ x q,xs[i]? = some (x,q)/\ws[kR ws xs i]? = some x:=by
 have hi':i<xs.size:=by rw [p.size_eq];exact hi
 refine ⟨xs[i].1,xs[i].2,aG1 hi',?_⟩
 have hm:xs[i]∈a₀.toList:=(Array.perm_iff_toList_perm.mp p).mem_iff.mp (by simp)
 have:=rkV_at (C.keys.mem_iff.mp (List.mem_map.mpr ⟨_,hm,rfl⟩))
 unfold kR
 rw [aG1 hi']
 exact this
theorem SoC.inj (C:SoC prog w A s κ ws a₀){xs:Array Keyed}(p:xs.Perm a₀){i j:Nat}(hi:i<a₀.size)(hj:j<a₀.size)(h:kR ws xs i=kR ws xs j):i=j:=by
 obtain ⟨x,q,e1,f1⟩:=C.at_ p hi
 obtain ⟨y,r,e2,f2⟩:=C.at_ p hj
 rw [h,f2] at f1
 cases f1
 have nd:(xs.toList.map (·.1)).Nodup:=(((Array.perm_iff_toList_perm.mp p).map (·.1)).trans C.keys).nodup_iff.mpr C.nd
 have g1:(xs.toList.map (·.1))[i]? = some x:=by rw [gP1,aT1,e1];rfl
 have g2:(xs.toList.map (·.1))[j]? = some x:=by rw [gP1,aT1,e2];rfl
 exact (List.getElem?_inj (gE1.mp g1).1 nd).mp (g1.trans g2.symm)
theorem SoC.cmp (C:SoC prog w A s κ ws a₀){st:SortSt}{i j:Nat}{Q:Option Bool->SortSt->Prop}(b:SoB κ a₀ st)(hi:i<a₀.size)(hj:j<a₀.size)(hij:i≠j)
  (h:Q (some (decide (kR ws (arrOf st) i<kR ws (arrOf st) j))) st):wpS (model prog w) A E s (ltAt' i j) Q st:=by
 obtain ⟨x,q,e1,f1⟩:=C.at_ b.perm hi
 obtain ⟨y,r,e2,f2⟩:=C.at_ b.perm hj
 have hne:kR ws (arrOf st) i≠kR ws (arrOf st) j:=fun z=>hij (C.inj b.perm hi hj z)
 rw [ltAt'_eq]
 refine wpS_bind (wpS_get ?_)
 show wpS _ _ _ _ (do let x<-elem' (arrOf st) i;let y<-elem' (arrOf st) j;lt' x y) Q st
 rw [elem'_eq,elem'_eq,e1,e2]
 refine wpS_bind (wpS_pure (wpS_bind (wpS_pure ?_)))
 rw [lt'_eq]
 refine wpS_bind (wpS_get ?_)
 rw [b.kind]
 exact wpS_bind (wpS_lift (wpAny_attempt (C.lt x y _ _ f1 f2 hne _ _ ⟨rfl,wpS_pure h⟩)))
theorem Up.one {xs:Array Keyed}:Up ws xs 1:=fun i j h1 h2=>by lia
theorem Up.snoc {xs:Array Keyed}{n:Nat}(u:Up ws xs n)(h:n=0\/kR ws xs (n-1)<kR ws xs n):Up ws xs (n+1):=fun i j h1 h2=>by
 by_cases z:j<n
 ·exact u i j h1 z
 ·have ej:j=n:=by lia
  subst ej
  rcases h with h | h
  ·lia
  ·by_cases z2:i=j-1
   ·rw [z2];exact h
   ·exact Nat.lt_trans (u i (j-1) (by lia) (by lia)) h
theorem Dn.snoc {xs:Array Keyed}{n:Nat}(u:Dn ws xs n)(h:kR ws xs n<kR ws xs (n-1)):Dn ws xs (n+1):=fun i j h1 h2=>by
 by_cases z:j<n
 ·exact u i j h1 z
 ·have ej:j=n:=by lia
  subst ej
  by_cases z2:i=j-1
  ·rw [z2];exact h
  ·exact Nat.lt_trans h (u i (j-1) (by lia) (by lia))
theorem so_asc (C:SoC prog w A s κ ws a₀){st:SortSt}{a nrem:Nat}{Q:AscSt->SortSt->Prop}(hn:nrem<=a₀.size)(ha:1<=a)(han:a<=nrem)(b:SoB κ a₀ st)(u:Up ws (arrOf st) a)
  (h:∀ n,a<=n->n<=nrem->Up ws (arrOf st) n->(n=nrem\/kR ws (arrOf st) n<kR ws (arrOf st) (n-1))->Q (none,n) st):wpS (model prog w) A E s (ascLoop a nrem) Q st:=by
 unfold ascLoop
 refine wpS_forRange (fun x c st'=>st'=st/\c=(none,x)/\Up ws (arrOf st) x) ?_ ?_ ⟨rfl,rfl,u⟩
 ·rintro x c st' h1 h2 ⟨rfl,rfl,u'⟩
  refine wpS_bind (C.cmp b (by lia) (by lia) (by lia) ?_)
  by_cases z:kR ws (arrOf st') x<kR ws (arrOf st') (x-1)
  ·simp only [z,decide_true,if_true]
   exact wpS_pure (h x h1 (by lia) u' (.inr z))
  ·simp only [z,decide_false,bF1,if_false]
   have:kR ws (arrOf st') x≠kR ws (arrOf st') (x-1):=fun e=>by have:=C.inj b.perm (by lia) (by lia) e;lia
   exact wpS_pure ⟨rfl,rfl,u'.snoc (.inr (by lia))⟩
 ·rintro c st' ⟨rfl,rfl,u'⟩
  rw [Nat.max_eq_right han] at u' ⊢
  exact h nrem han (nR1 _) u' (.inl rfl)
theorem so_tail (C:SoC prog w A s κ ws a₀){st:SortSt}{n nrem:Nat}{Q:Option Nat->SortSt->Prop}(hn:nrem<=a₀.size)(h1:1<=n)(hnn:n<=nrem)(b:SoB κ a₀ st)(d:Dn ws (arrOf st) n)
  (h:∀ m st',SoB κ a₀ st'->m<=nrem->Up ws (arrOf st') m->Q (some m) st'):wpS (model prog w) A E s (tail3 n nrem) Q st:=by
 unfold tail3
 have hsz:n<=(arrOf st).size:=by rw [b.perm.size_eq];lia
 have b':SoB κ a₀ (setArr st (mirror (arrOf st) 0 n ((n-0)/2))):=b.arr (mirror_perm _ _ _ _)
 refine wpS_bind (wpS_reverse (wpS_bind (so_asc C hn h1 hnn b' (fun i j h3 h4=>?_) fun m h3 h4 u _=>wpS_pure (h m _ b' h4 u))))
 have g:∀ k,k<n->kR ws (mirror (arrOf st) 0 n ((n-0)/2)) k=kR ws (arrOf st) (n-1-k):=fun k hk=>kR_congr (by
  rw [getElem?_mirror_all hsz,if_pos (by lia)]
  congr 1;lia)
 show kR ws (mirror (arrOf st) 0 n ((n-0)/2)) i<kR ws (mirror (arrOf st) 0 n ((n-0)/2)) j
 rw [g i (by lia),g j h4]
 exact d _ _ (by lia) (by lia)
theorem so_desc (C:SoC prog w A s κ ws a₀){st:SortSt}{n nrem:Nat}{Q:DescSt->SortSt->Prop}(hn:nrem<=a₀.size)(h1:1<=n)(hnn:n<=nrem)(b:SoB κ a₀ st)(d:Dn ws (arrOf st) n)
  (h:∀ m,n<=m->m<=nrem->Dn ws (arrOf st) m->Q (none,m,0) st):wpS (model prog w) A E s (descLoop n nrem) Q st:=by
 unfold descLoop
 refine wpS_forRange (fun x c st'=>st'=st/\c=(none,x,0)/\Dn ws (arrOf st) x) ?_ ?_ ⟨rfl,rfl,d⟩
 ·rintro x c st' h2 h3 ⟨rfl,rfl,d'⟩
  dsimp only
  refine wpS_bind (C.cmp b (by lia) (by lia) (by lia) ?_)
  by_cases z:kR ws (arrOf st') x<kR ws (arrOf st') (x-1)
  ·simp only [z,decide_true,if_true]
   exact wpS_pure ⟨rfl,rfl,d'.snoc z⟩
  ·simp only [z,decide_false,bF1,if_false]
   have z2:kR ws (arrOf st') (x-1)<kR ws (arrOf st') x:=by
    have:kR ws (arrOf st') x≠kR ws (arrOf st') (x-1):=fun e=>by have:=C.inj b.perm (by lia) (by lia) e;lia
    lia
   refine wpS_bind (C.cmp b (by lia) (by lia) (by lia) ?_)
   simp only [z2,decide_true,if_true]
   exact wpS_pure (h x h2 (by lia) d')
 ·rintro c st' ⟨rfl,rfl,d'⟩
  rw [Nat.max_eq_right hnn] at d' ⊢
  exact h nrem hnn (nR1 _) d'
theorem so_run (C:SoC prog w A s κ ws a₀){st:SortSt}{nrem:Nat}{Q:Option Nat->SortSt->Prop}(hn:nrem<=a₀.size)(h1:1<=nrem)(b:SoB κ a₀ st)
  (h:∀ m st',SoB κ a₀ st'->m<=nrem->Up ws (arrOf st') m->Q (some m) st'):wpS (model prog w) A E s (countRun' 0 nrem) Q st:=by
 rw [countRun0_eq]
 refine wpS_bind (so_asc C hn (nR1 1) h1 b .one fun n h2 h3 u or=>?_)
 dsimp only
 by_cases z:n=nrem
 ·rw [if_pos (by simpa using z)]
  exact wpS_pure (h n st b h3 u)
 ·rw [if_neg (by simpa using z)]
  have hl:=or.resolve_left z
  by_cases z2:n>1
  ·rw [if_pos z2]
   have:=u 0 (n-1) (by lia) (by lia)
   refine wpS_bind (C.cmp b (by lia) (by lia) (by lia) ?_)
   simp only [this,decide_true,if_true]
   exact wpS_pure (h n st b h3 u)
  ·rw [if_neg z2]
   have e:n=1:=by lia
   subst e
   unfold descPart
   refine wpS_bind (wpS_lift (wpAny_rule ⟨rfl,?_⟩))
   refine wpS_bind (so_desc C hn (by lia) (by lia) b (fun i j h4 h5=>?_) fun m h4 h5 d=>?_)
   ·have ei:i=0:=by lia
    have ej:j=1:=by lia
    subst ei;subst ej
    exact hl
   ·dsimp only
    rw [if_neg (by lia)]
    exact so_tail C hn (by lia) h5 b d h
theorem so_ins (C:SoC prog w A s κ ws a₀){st:SortSt}{n ok:Nat}{Q:Bool->SortSt->Prop}(hn:n<=a₀.size)(hok:ok<=n)(b:SoB κ a₀ st)(u:Up ws (arrOf st) ok)
  (h:∀ st',SoB κ a₀ st'->Up ws (arrOf st') n->Q true st'):wpS (model prog w) A E s (binarySort' 0 n ok) Q st:=by
 rw [binarySort'_eq]
 simp only [Nat.zero_add]
 refine wpS_bind (wpS_mono (wpS_forRange (fun k c st'=>c=(none,())/\SoB κ a₀ st'/\Up ws (arrOf st') (min k n)) (Q:=fun c st'=>c=(none,())/\SoB κ a₀ st'/\Up ws (arrOf st') n) ?_ ?_ ⟨rfl,b,fun i j h1 h2=>?_⟩) ?_)
 ·rintro k c st' hk1 hk2 ⟨rfl,b',u'⟩
  rw [Nat.min_eq_left (by lia)] at u'
  have hks:k<(arrOf st').size:=by rw [b'.perm.size_eq];lia
  refine wpS_bind (wpS_mono (wpS_forRange (fun x c st2=>st2=st' /\ ∃ l r,c=(none,l,r)/\l<=r/\r<=k/\r-l<=k-x/\(∀ i,i<l->kR ws (arrOf st') i<kR ws (arrOf st') k) /\ ∀ i,r<=i->i<k->kR ws (arrOf st') k<kR ws (arrOf st') i)
   (Q:=fun c st2=>st2=st' /\ ∃ l r,c=(none,l,r)/\l<=k/\(∀ i,i<l->kR ws (arrOf st') i<kR ws (arrOf st') k) /\ ∀ i,l<=i->i<k->kR ws (arrOf st') k<kR ws (arrOf st') i) ?_ ?_ ⟨rfl,0,k,rfl,by lia,by lia,by lia,fun i h1=>by lia,fun i h1 h2=>by lia⟩) ?_)
  ·rintro x c st2 _ hx ⟨rfl,l,r,rfl,h1,h2,h3,h4,h5⟩
   dsimp only
   by_cases z:l>=r
   ·rw [if_pos z]
    have e:l=r:=by lia
    subst e
    exact wpS_pure ⟨rfl,l,l,rfl,h2,h4,h5⟩
   ·rw [if_neg z]
    refine wpS_bind (C.cmp b' (by lia) (by lia) (by lia) ?_)
    by_cases z2:kR ws (arrOf st2) k<kR ws (arrOf st2) ((l+r)/2)
    ·simp only [z2,decide_true,if_true]
     refine wpS_pure ⟨rfl,l,(l+r)/2,rfl,by lia,by lia,by lia,h4,fun i h6 h7=>?_⟩
     by_cases z3:(l+r)/2=i
     ·rw [<- z3];exact z2
     ·exact Nat.lt_trans z2 (u' _ i (by lia) h7)
    ·simp only [z2,decide_false,bF1,if_false]
     refine wpS_pure ⟨rfl,(l+r)/2+1,r,rfl,by lia,by lia,by lia,fun i h6=>?_,h5⟩
     have z4:kR ws (arrOf st2) ((l+r)/2)<kR ws (arrOf st2) k:=by
      have:kR ws (arrOf st2) k≠kR ws (arrOf st2) ((l+r)/2):=fun e=>by have:=C.inj b'.perm (by lia) (by lia) e;lia
      lia
     by_cases z3:i=(l+r)/2
     ·rw [z3];exact z4
     ·exact Nat.lt_trans (u' i _ (by lia) (by lia)) z4
  ·rintro c st2 ⟨rfl,l,r,rfl,h1,h2,h3,h4,h5⟩
   have e:l=r:=by lia
   subst e
   exact ⟨rfl,l,l,rfl,h2,h4,h5⟩
  ·rintro c st2 ⟨rfl,l,r,rfl,h1,h2,h3⟩
   show wpS _ _ _ _ (do moveDown' k l;pure (ForInStep.yield (none,()))) _ _
   rw [moveDown'_eq]
   refine wpS_bind (wpS_modify (wpS_pure ⟨rfl,b'.arr (bubble_perm _ _ _),?_⟩))
   rw [Nat.min_eq_left (by lia)]
   have g:∀ i,kR ws (bubble (arrOf st2) k (k-l)) i=if i=l then kR ws (arrOf st2) k else if l<i/\i<=k then kR ws (arrOf st2) (i-1) else kR ws (arrOf st2) i:=fun i=>by
    have e:=getElem?_bubble hks (k-l) (by lia) i
    rw [show k-(k-l)=l by lia] at e
    by_cases z1:i=l
    ·rw [if_pos z1] at e ⊢;exact kR_congr e
    ·rw [if_neg z1] at e ⊢
     by_cases z2:l<i/\i<=k
     ·rw [if_pos z2] at e ⊢;exact kR_congr e
     ·rw [if_neg z2] at e ⊢;exact kR_congr e
   intro i j h4 h5
   show kR ws (bubble (arrOf st2) k (k-l)) i<kR ws (bubble (arrOf st2) k (k-l)) j
   rw [g,g]
   repeat' split
   all_goals first
    | (exfalso;lia)
    | exact h2 _ (by lia)
    | exact h3 _ (by lia) (by lia)
    | exact u' _ _ (by lia) (by lia)
 ·rintro c st' ⟨hc,b',u'⟩
  refine ⟨hc,b',?_⟩
  rwa [show min (max (max ok 1) n) n=n by lia] at u'
 ·by_cases z:ok=0
  ·lia
  ·exact u i j h1 (by lia)
 ·rintro c st' ⟨rfl,b',u'⟩
  exact wpS_pure (h st' b' u')
theorem so_all (C:SoC prog w A s κ ws a₀){st:SortSt}{Q:Unit->SortSt->Prop}(b:SoB κ a₀ st)(h2:2<=a₀.size)(h64:a₀.size<64)
  (h:∀ st',(arrOf st').Perm a₀->failedOf st'=none->Up ws (arrOf st') a₀.size->Q () st'):wpS (model prog w) A E s sortRuns' Q st:=by
 rw [sortRuns'_eq]
 refine wpS_bind (wpS_get ?_)
 dsimp only
 have hmr:minRun' a₀.size a₀.size 0=a₀.size:=by
  generalize hz:a₀.size=z at *
  cases z with
  | zero=>lia
  | succ f=>rw [minRun'_succ,if_pos h64]
 simp only [b.perm.size_eq,hmr]
 have done:∀ st',SoB κ a₀ st'->Up ws (arrOf st') a₀.size->(arrOf (setPending st' ((pendingOf st').push (0,a₀.size,0)))).Perm a₀/\failedOf (setPending st' ((pendingOf st').push (0,a₀.size,0)))=none/\pendingOf (setPending st' ((pendingOf st').push (0,a₀.size,0))) = #[(0,a₀.size,0)]/\Up ws (arrOf (setPending st' ((pendingOf st').push (0,a₀.size,0)))) a₀.size:=fun st' b' u'=>
  ⟨b'.perm,b'.failed,by show (pendingOf st').push _=_;rw [b'.pend];rfl,u'⟩
 refine wpS_bind (wpS_mono (wpS_forRange
  (fun x c st'=>(x=0/\c=(none,0)/\SoB κ a₀ st')\/(1<=x/\c=(none,a₀.size)/\(arrOf st').Perm a₀/\failedOf st'=none/\pendingOf st' = #[(0,a₀.size,0)]/\Up ws (arrOf st') a₀.size))
  (Q:=fun c st'=>c=(none,a₀.size)/\(arrOf st').Perm a₀/\failedOf st'=none/\pendingOf st' = #[(0,a₀.size,0)]/\Up ws (arrOf st') a₀.size) ?_ ?_ (.inl ⟨rfl,rfl,b⟩)) ?_)
 ·rintro x c st' _ hx (⟨rfl,rfl,b'⟩ | ⟨hx1,rfl,D⟩)
  ·dsimp only
   rw [if_neg (by lia)]
   simp only [Nat.sub_zero,Nat.min_self,Nat.zero_add]
   refine wpS_bind (so_run C (nR1 _) (by lia) b' fun m st2 b2 hm u2=>?_)
   dsimp only
   by_cases z:m<a₀.size
   ·rw [if_pos z]
    refine wpS_bind (wpS_lift (wpAny_rule ⟨rfl,?_⟩))
    refine wpS_bind (so_ins C (nR1 _) hm b2 u2 fun st3 b3 u3=>?_)
    simp only [Bool.not_true,bF1,if_false]
    refine wpS_bind (wpS_get ?_)
    rw [b3.pend]
    exact wpS_bind (wpS_modify (wpS_pure (.inr ⟨by lia,rfl,done st3 b3 u3⟩)))
   ·rw [if_neg z]
    have e:m=a₀.size:=by lia
    subst e
    refine wpS_bind (wpS_get ?_)
    rw [b2.pend]
    exact wpS_bind (wpS_modify (wpS_pure (.inr ⟨by lia,rfl,done st2 b2 u2⟩)))
  ·dsimp only
   rw [if_pos (nR1 _)]
   exact wpS_pure ⟨rfl,D⟩
 ·rintro c st' (⟨hx,_⟩ | ⟨_,hc,D⟩)
  ·lia
  ·exact ⟨hc,D⟩
 ·rintro c st' ⟨rfl,D⟩
  dsimp only
  refine wpS_bind (wpS_mono (wpS_forRange (fun _ c st2=>st2=st'/\c=(none,())) (Q:=fun c st2=>st2=st'/\c=(none,())) ?_ (fun _ _ hh=>hh) ⟨rfl,rfl⟩) ?_)
  ·rintro x c st2 _ _ ⟨rfl,rfl⟩
   refine wpS_bind (wpS_get ?_)
   rw [if_pos (by rw [D.2.2.1];exact nR1 1)]
   exact wpS_pure ⟨rfl,rfl⟩
  ·rintro c st2 ⟨rfl,rfl⟩
   exact wpS_pure (h _ D.1 D.2.1 D.2.2.2)
theorem so_out (C:SoC prog w A s κ ws (pairsOf vs)){xs:Array Keyed}(p:xs.Perm (pairsOf vs))(u:Up ws xs (pairsOf vs).size):xs.map (·.2)=ws.toArray:=by
 have hl:ws.length=(pairsOf vs).size:=by rw [<- C.keys.length_eq,lM1];simp
 have hge:∀ i,i<(pairsOf vs).size->i<=kR ws xs i:=by
  intro i
  induction i with
  | zero=>intro _;lia
  | succ i ih=>intro h;have:=ih (by lia);have:=u i (i+1) (by lia) h;lia
 have hle:∀ d i,i+d+1=(pairsOf vs).size->kR ws xs i<=i:=by
  intro d
  induction d with
  | zero=>
   intro i h
   obtain ⟨x,q,_,f⟩:=C.at_ p (i:=i) (by lia)
   have:=(gE1.mp f).1
   lia
  | succ d ih=>
   intro i h
   have:=ih (i+1) (by lia)
   have:=u i (i+1) (by lia) (by lia)
   lia
 apply Array.ext
 ·rw [Array.size_map,p.size_eq,<- hl];simp
 ·intro i h1 h2
  rw [Array.size_map,p.size_eq] at h1
  have hk:kR ws xs i=i:=Nat.le_antisymm (hle ((pairsOf vs).size-1-i) i (by lia)) (hge i h1)
  obtain ⟨x,q,e,f⟩:=C.at_ p h1
  rw [hk] at f
  have hm:(x,q)∈(pairsOf vs).toList:=(Array.perm_iff_toList_perm.mp p).mem_iff.mp (Array.mem_toList_iff.mpr (Array.mem_of_getElem? e))
  rw [pairsOf_toList] at hm
  have hq:x=q:=(mem_zip_self hm).1
  have g1:(xs.map (·.2))[i]? = some q:=by rw [Array.getElem?_map,e];rfl
  have g2:ws.toArray[i]? = some x:=by rw [List.getElem?_toArray];exact f
  rw [aG1 (by rw [Array.size_map,p.size_eq];exact h1)] at g1
  rw [aG1 h2] at g2
  rw [Option.some.inj g1,Option.some.inj g2,hq]
end
section
variable {prog:Program} {w:World} {A:Around} {E:Value->Shared->Prop} {s:Shared}
theorem one_rc {p q:Value}{b:Bool}{Q:Bool->Shared->Prop}(r:RcLt A.in1 s p q b)(h:Q b s):wpAny (model prog w) A (oneLt' false p q) Q E s:=by
 rw [oneLt'_eq]
 simp only [bF1,if_false]
 exact wB1 (wpAny_of_in1 (r prog w E _ (wpAny_truthy_bool h)))
theorem keyLt_tuples (f:Bool)(x y:Value):keyLt' (tuples' f) x y=(do
  let xs<-Builtin.List.listItems x
  let ys<-Builtin.List.listItems y
  for ((p,q),i) in (xs.toList.zip ys.toList).zipIdx do
   if !(<- eqBool p q) then return<-oneLt' (f&&i == 0) p q
  return decide (xs.size<ys.size)):=rfl
theorem kl_tup {a b:Addr}{us zs:List Value}{k:Bool}{Q:Bool->Shared->Prop}(ha:IsTup s.heap a us.toArray)(hb:IsTup s.heap b zs.toArray)(L:LtS A s us zs k)(h:Q k s):
  wpAny (model prog w) A (keyLt' (tuples' false) (.ref a) (.ref b)) Q E s:=by
 rw [keyLt_tuples]
 obtain ⟨o,e1,c1,_,d1⟩:=ha
 obtain ⟨o2,e2,c2,_,d2⟩:=hb
 refine wB1 (listItems_at e1 d1 (wB1 (listItems_at e2 d2 ?_)))
 simp only [Bool.false_and]
 refine wB1 (wpAny_mono (wpAny_forIn_list _ (fun rest c s'=>s'=s/\c=(none,()) /\ ∃ (i:Nat) (vs ws:List Value),rest=(vs.zip ws).zipIdx i/\LtS A s vs ws k/\vs.length+zs.length=ws.length+us.length)
  (fun c s'=>s'=s/\(c=(some k,())\/(c=(none,())/\k=decide (us.length<zs.length)))) ?_ ?_ _ _ ⟨rfl,rfl,0,us,zs,rfl,L,by lia⟩) ?_ fun _ _ e=>e)
 ·rintro x rest c s' ⟨rfl,rfl,i,vs,ws,hr,L',hl⟩
  cases L' with
  | nn=>simp at hr
  | nc _ _=>simp at hr
  | cn _ _=>simp at hr
  | @eq p q ps qs _ e t=>
   rw [List.zip_cons_cons,List.zipIdx_cons] at hr
   cases hr
   refine wB1 (e.of_in1 prog w E _ ?_)
   simp only [Bool.not_true,bF1,if_false]
   exact wP1 ⟨rfl,rfl,i+1,ps,qs,rfl,t,by simp at hl;lia⟩
  | @lt p q ps qs _ e t=>
   rw [List.zip_cons_cons,List.zipIdx_cons] at hr
   cases hr
   refine wB1 (e.of_in1 prog w E _ ?_)
   simp only [Bool.not_false,if_true]
   exact wB1 (one_rc t (wP1 ⟨rfl,.inl rfl⟩))
 ·rintro c s' ⟨rfl,rfl,i,vs,ws,hr,L',hl⟩
  refine ⟨rfl,.inr ⟨rfl,?_⟩⟩
  cases L' with
  | nn=>simp at hl;rw [decide_eq_false (by lia)]
  | nc _ _=>simp at hl;rw [decide_eq_true (by lia)]
  | cn _ _=>simp at hl;rw [decide_eq_false (by lia)]
  | eq _ _=>simp at hr
  | lt _ _=>simp at hr
 ·rintro c s' ⟨rfl,z⟩
  rcases z with rfl | ⟨rfl,z⟩
  ·exact wP1 h
  ·refine wP1 ?_
   rw [sT1,sT1,<- z]
   exact h
end
section
variable {prog:Program} {w:World} {A:Around} {E:Value->Shared->Prop} {s:Shared}
theorem mapM_wp {M:Model}{α β:Type}{f:α->Sem β}{P:α->β->Prop}:∀ {l:List α} {Q:List β->Shared->Prop},(∀ v∈l,∃ r,P v r /\ ∀ Q:β->Shared->Prop,Q r s->wpAny M A (f v) Q E s) ->
  (∀ rs,rs.length=l.length->(∀ r∈rs,∃ v∈l,P v r)->Q rs s)->wpAny M A (l.mapM f) Q E s
 | [],Q,_,q=>by rw [List.mapM_nil];exact wP1 (q [] rfl fun r hr=>by cases hr)
 | v::l,Q,h,q=>by
  rw [List.mapM_cons]
  obtain ⟨r,p,hr⟩:=h v mS1
  refine wB1 (hr _ ?_)
  refine wB1 (mapM_wp (fun v hv=>h v (mC1 _ hv)) fun rs hl hm=>?_)
  refine wP1 (q (r::rs) (by rw [lC1,lC1,hl]) fun x hx=>?_)
  rcases List.mem_cons.mp hx with z | z
  ·exact ⟨v,mS1,by rw [z];exact p⟩
  ·obtain ⟨v',h1,h2⟩:=hm x z
   exact ⟨v',mC1 _ h1,h2⟩
theorem first_eq (v:Value):firstOfTuple' v=(do
  if (<- typeOf v) != .type "tuple" then return none
  return (<- Builtin.List.listItems v)[0]?):=rfl
theorem kk_tup {vs:List Value}{Q:SortKind->Shared->Prop}(hne:vs≠[])(h:∀ v∈vs,∃ a p ps b qs,v = .ref a/\IsTup s.heap a (p::ps).toArray/\p = .ref b/\IsTup s.heap b qs)(q:Q (tuples' false) s):
  wpAny (model prog w) A (keyKind' vs.toArray) Q E s:=by
 rw [keyKind'_eq,List.mapM_toArray,<- bind_pure_comp]
 refine wB1 (wB1 (mapM_wp (P:=fun _ r=>∃ b qs,r=some (.ref b)/\IsTup s.heap b qs) (fun v hv=>?_) fun rs hl hr=>wP1 ?_))
 ·obtain ⟨a,p,ps,b,qs,rfl,⟨o,e1,c1,_,d1⟩,rfl,ht⟩:=h v hv
  refine ⟨some (.ref b),⟨b,qs,rfl,ht⟩,fun Q q=>?_⟩
  rw [first_eq]
  refine wB1 (wpAny_typeOf (T:="tuple") ⟨o,e1,c1⟩ ?_)
  rw [if_neg (by decide)]
  refine wB1 (listItems_at e1 d1 (wP1 ?_))
  simpa using q
 ·have hs:rs.toArray.all (·.isSome)=true:=by
   rw [List.all_toArray,List.all_eq_true]
   intro r hm
   obtain ⟨v,_,b,qs,e,_⟩:=hr r hm
   rw [e];rfl
  rw [if_pos hs]
  refine wB1 (wpAny_rule ?_)
  rw [oneTypeOnly'_eq]
  have hf:rs.toArray.filterMap id=(rs.filterMap id).toArray:=by simp
  rw [hf,List.mapM_toArray,<- bind_pure_comp]
  refine wB1 (wB1 (wB1 (mapM_wp (P:=fun _ t=>t=Value.type "tuple") (fun v hv=>?_) fun ts htl ht=>wP1 ?_)))
  ·obtain ⟨r,hm,e⟩:=List.mem_filterMap.mp hv
   obtain ⟨v',_,b,qs,e',⟨o,e1,c1,_⟩⟩:=hr r hm
   rw [e'] at e
   cases e
   exact ⟨_,rfl,fun Q q=>wpAny_typeOf (T:="tuple") ⟨o,e1,c1⟩ q⟩
  ·cases ts with
   | nil=>
    exfalso
    cases rs with
    | nil=>exact hne (List.length_eq_zero_iff.mp hl.symm)
    | cons r rs=>
     obtain ⟨_,_,b,_,e,_⟩:=hr r mS1
     rw [e] at htl
     simp at htl
   | cons t ts=>
    have all:∀ x∈t::ts,x=Value.type "tuple":=fun x hx=>by obtain ⟨_,_,z⟩:=ht x hx;exact z
    have e0:=all t mS1
    subst e0
    have ha:((Value.type "tuple"::ts).toArray.all fun x=>x == Value.type "tuple")=true:=by
     rw [List.all_toArray,List.all_eq_true]
     intro x hx
     rw [all x hx];rfl
    show wpAny _ _ (pure (if ((Value.type "tuple"::ts).toArray.all fun x=>x == Value.type "tuple")=true then some (Value.type "tuple") else none)) _ _ _
    rw [if_pos ha]
    exact wP1 (wP1 q)
theorem so_sort {a:Addr}{vs ws:List Value}{n:Nat}{κ:SortKind}{P:Fin->Shared->Prop}(ho:s.heap.get? a=some (seqObj "list" vs.toArray n))(h64:vs.length<64)(hp:vs.Perm ws)
  (hC:∀ h',(∀ b o,b≠a->s.heap.get? b=some o->h'.get? b=some o)->2<=vs.length->SoC prog w A {s with heap:=h'} κ ws (pairsOf vs) /\ ∀ Q:SortKind->Shared->Prop,Q κ {s with heap:=h'}->wpAny (model prog w) A (keyKind' vs.toArray) Q E {s with heap:=h'})
  (h:P (.done (.ret .none)) {s with heap:=sortedHeap s.heap a vs ws.toArray}):wpAny (model prog w) A (Builtin.«list.sort» ⟨[.ref a],[]⟩) P E s:=by
 rw [list_sort_plain]
 have ha:a<s.heap.objs.size:=hL1 ho
 refine wB1 (listItems_at ho rfl ?_)
 refine wB1 (listUpdate_at ho rfl ?_)
 obtain ⟨e1,ho1⟩:∃ e1,(s.heap.update a (Obj.mapSeq fun _=> #[])).get? a=some (seqObj "list" #[] e1):=⟨_,get?_update_seq ho (fun _=> #[])⟩
 refine wB1 (seqEpoch_at ho1 rfl (wB1 (wpAny_newTuple (wB1 (wpAny_newList (wpAny_holding ?_))))))
 have keep:∀ b o,b≠a->s.heap.get? b=some o->(((s.heap.update a (Obj.mapSeq fun _=> #[])).push (seqObj "tuple" vs.toArray 0)).push (seqObj "list" #[] 0)).get? b=some o:=fun b o hb e=>
  hP1 _ (hP1 _ (by rw [hU1 _ _ _ _ hb];exact e))
 have ho6:(((s.heap.update a (Obj.mapSeq fun _=> #[])).push (seqObj "tuple" vs.toArray 0)).push (seqObj "list" #[] 0)).get? a=some (seqObj "list" #[] e1):=hP1 _ (hP1 _ ho1)
 show wpAny (model prog w) A _ P E {s with heap:=((s.heap.update a (Obj.mapSeq fun _=> #[])).push (seqObj "tuple" vs.toArray 0)).push (seqObj "list" #[] 0)}
 dsimp only
 have hsz:vs.toArray.size=vs.length:=by simp
 have hpl:=hp.length_eq
 have fin:∀ xs:Array Keyed,xs.map (·.2)=ws.toArray->P (.done (.ret .none)) {s with heap:=sortedHeap s.heap a vs (xs.map (·.2))}:=fun xs e=>by rw [e];exact h
 by_cases h2:vs.toArray.size<2
 ·rw [if_pos h2,if_pos h2]
  refine wB1 (wP1 ?_)
  rw [StateT.run_pure]
  refine wB1 (wP1 (wB1 (seqEpoch_at ho6 rfl ?_)))
  have e:((vs.toArray.zip vs.toArray).map (·.2):Array Value)=ws.toArray:=by
   have:vs=ws:=by
    match vs,ws,hp,h2 with
    | [],ws,hp,_=>exact (List.nil_perm.mp hp).symm
    | [x],ws,hp,_=>exact (List.singleton_perm.mp hp).symm ▸ rfl
    | _::_::_,_,_,h2=>simp at h2;lia
   subst this
   apply Array.ext'
   simp
   exact List.map_snd_zip (nR1 _)
  refine wB1 (listUpdate_at ho6 rfl ?_ (hsz2:=by
   show (Array.map (·.2) (vs.toArray.zip vs.toArray)).size<=_
   rw [e,sT1,<- hpl,sizeLine_eq];lia))
  simp only [bne_self_eq_false,bF1,if_false]
  exact wP1 (fin _ e)
 ·rw [if_neg h2,if_neg h2]
  obtain ⟨C,K⟩:=hC _ keep (by lia)
  refine wB1 (K _ ?_)
  refine wB1 (wpAny_mono (so_all C (st:=SortSt.mk' κ (vs.toArray.zip vs.toArray) #[] 7 none)
   (Q:=fun _ st'=>(arrOf st').Perm (pairsOf vs)/\failedOf st'=none/\Up ws (arrOf st') (pairsOf vs).size) ⟨Array.Perm.refl _,rfl,rfl,rfl⟩ (by rw [pairsOf_size];lia) (by rw [pairsOf_size];exact h64) fun st' a1 a2 a3=>⟨a1,a2,a3⟩) ?_ fun _ _ e=>e)
  rintro ⟨⟨⟩,st'⟩ s' ⟨rfl,hq,hf,hu⟩
  have e:=so_out C hq hu
  refine wB1 (seqEpoch_at ho6 rfl ?_)
  refine wB1 (listUpdate_at ho6 rfl ?_ (hsz2:=by
   show (Array.map (·.2) (arrOf st')).size<=_
   rw [e,sT1,<- hpl,sizeLine_eq];lia))
  rw [hf]
  simp only [bne_self_eq_false,bF1,if_false]
  exact wP1 (fin _ e)
end
noncomputable abbrev ItIs (h:Heap)(it d:Addr)(f0 f1:Value)(i n ep:Nat)(ok ov:Value):Prop:=
 h.get? it=some {cls:=.type "dict_itemiterator",dict:=none,data:=.fields #[f0,f1,.ref d,.int i 0,.int n 0,.int ep 0,ok,ov],slots:= #[]}
section
variable {prog:Program} {w:World} {A:Around} {E:Value->Shared->Prop} {s:Shared}
theorem wpAny_lia {M:Model}{a:Addr}{Q:Option Obj->Shared->Prop}(h:Q (s.heap.get? a) s):wpAny M A (loadIfAlive a) Q E s:=fun Γ p hΓ=>h
noncomputable def Outs (h:Heap)(f0:Value):Prop:=f0 = .none \/ ∃ a:Addr,f0=rawInt a /\ ∃ o,h.get? a=some o
theorem it_next {it d:Addr}{f0 f1 ok ov:Value}{i ep:Nat}{es:Array DictEntry}{o:Obj}{Q:Option Value->Shared->Prop}(hit:ItIs s.heap it d f0 f1 i es.size ep ok ov)(hd:s.heap.get? d=some o)(hdd:o.data = .dict es ep)(hi:i<es.size)(hf:Outs s.heap f0)(hne:it≠d)
  (q:∀ h' g0 g1 ok' ov',ItIs h' it d g0 g1 (i+1) es.size ep ok' ov'->Outs h' g0->h'.get? s.heap.objs.size=some {cls:=.type "tuple",data:=.seq #[es[i].key,es[i].val]}->h'.objs.size=s.heap.objs.size+1 ->
   (∀ b o,b≠it->s.heap.get? b=some o->h'.get? b=some o)->Q (some (.ref s.heap.objs.size)) {s with heap:=h'}):wpAny (model prog w) A (pyNext (.ref it)) Q E s:=by
 obtain ⟨hp,g,dr,tk,os⟩:=s
 have hT:Shared.TypeIs ⟨hp,g,dr,tk,os⟩ (.ref it) "dict_itemiterator":=⟨_,hit,rfl⟩
 unfold pyNext
 refine wB1 (wpAny_attempt (wpAny_callSpecial?_slot (name:=Str.ofString "__next__") hT PySem.F.slot_dict_itemiterator_next
  (wE1 PySem.F.slot_dict_itemiterator_next hT PySem.F.entry_dict_itemiterator_next ?_ (PySem.F.args_dict_itemiterator_next_1 _))))
 refine wB1 (wP1 (wB1 (wB1 (wB1 (wpAny_typeNameOfWhole_itemiter hT (wP1 ?_))))))
 refine wB1 (wpAny_fieldsOf hit rfl ?_)
 have hown:Builtin.Dict_items.ownsTuple "dict_itemiterator"=true:=by decide
 simp only [hown,if_true]
 show wpAny _ _ (if (Value.ref d == Value.none)=true then _ else _) _ _ _
 rw [if_neg (show ¬ ((Value.ref d == Value.none)=true) from Bool.false_ne_true)]
 refine wB1 (wP1 (wB1 (wpAny_dictEntries hd hdd ?_)))
 rw [if_neg (by simp)]
 refine wB1 (wP1 (wB1 (wpAny_dictEpoch hd hdd ?_)))
 rw [if_neg (by simp)]
 refine wP1 ?_
 simp only [show ¬ ((i:Int)<0) from by lia,if_false,Int.toNat_natCast,aG1 hi]
 refine wB1 (wB1 (wpAny_typeNameOfWhole_itemiter hT (wP1 ?_)))
 refine wB1 (wpAny_isOneOf_itemiter hT ?_)
 show wpAny _ _ (setField (.ref it) 3 (rawInt ((i:Int)+1)) >>= _) _ _ ⟨hp,g,dr,tk,os⟩
 refine wB1 (wS1 hit (by simp) fun h₁ he₁ hs₁=>?_)
 replace hs₁:Heap.SameBut it hp h₁:=hs₁
 replace he₁:ItIs h₁ it d f0 f1 (i+1) es.size ep ok ov:=by
  have e:((i+1:Nat):Int)=(i:Int)+1:=by lia
  unfold ItIs;rw [e];simpa [rawInt] using he₁
 have hT₁:Shared.TypeIs ⟨h₁,g,dr,tk,os⟩ (.ref it) "dict_itemiterator":=⟨_,he₁,rfl⟩
 refine wB1 (wpAny_holding (wB1 (wpAny_isOneOf_itemiter hT₁ (wB1 (wpAny_isOneOf_itemiter hT₁ ?_)))))
 show wpAny _ _ (Builtin.Dict_items.pairFromOwner (.ref it) 6 es[i].key es[i].val) _ _ ⟨h₁,g,dr,tk,os⟩
 unfold Builtin.Dict_items.pairFromOwner
 refine wB1 (wpAny_newTuple ?_)
 have hz₁:h₁.objs.size=hp.objs.size:=hs₁.1
 have hil:it<hp.objs.size:=hL1 hit
 have he₂:ItIs (h₁.push {cls:=.type "tuple",data:=.seq #[es[i].key,es[i].val]}) it d f0 f1 (i+1) es.size ep ok ov:=hP1 _ he₁
 have ht₂:(h₁.push {cls:=.type "tuple",data:=.seq #[es[i].key,es[i].val]}).get? hp.objs.size=some {cls:=.type "tuple",data:=.seq #[es[i].key,es[i].val]}:=by rw [<- hz₁];exact hS1 _ rfl
 have hz₂:(h₁.push {cls:=.type "tuple",data:=.seq #[es[i].key,es[i].val]}).objs.size=hp.objs.size+1:=by rw [hZ1,hz₁]
 have hk₂:∀ b o,b≠it->hp.get? b=some o->(h₁.push {cls:=.type "tuple",data:=.seq #[es[i].key,es[i].val]}).get? b=some o:=fun b o hb e=>hP1 _ (hs₁.extBut b o hb e)
 have hal:Outs (h₁.push {cls:=.type "tuple",data:=.seq #[es[i].key,es[i].val]}) f0:=by
  rcases hf with z | ⟨a,z,o',e⟩
  ·exact .inl z
  ·refine .inr ⟨a,z,?_⟩
   by_cases ha:a=it
   ·rw [ha];exact ⟨_,he₂⟩
   ·exact ⟨o',hk₂ a o' ha e⟩
 show wpAny _ _ (Builtin.Dict_items.ownedTupleIsFree (.ref it) >>= _) _ _ ⟨_,g,dr,tk,os⟩
 rw [hz₁]
 generalize h₁.push {cls:=.type "tuple",data:=.seq #[es[i].key,es[i].val]}=h₂ at *
 clear he₁ hs₁ hT₁ hz₁
 refine wB1 ?_
 unfold Builtin.Dict_items.ownedTupleIsFree
 refine wB1 (wpAny_field he₂ rfl (x:=f0) rfl ?_)
 have out:∀ h₆ g0 g1 ok' ov',ItIs h₆ it d g0 g1 (i+1) es.size ep ok' ov'->Outs h₆ g0->Heap.SameBut it h₂ h₆->Q (some (.ref hp.objs.size)) ⟨h₆,g,dr,tk,os⟩:=fun h₆ g0 g1 ok' ov' a b c=>
  q h₆ g0 g1 ok' ov' a b (c.extBut _ _ (nG1 hil) ht₂) (by rw [c.1];exact hz₂) fun b o hb e=>c.extBut b o hb (hk₂ b o hb e)
 rcases hal with z | ⟨a,z,o',e⟩
 ·subst z
  refine wP1 ?_
  simp only [if_true]
  refine wB1 (wpAny_field he₂ rfl (x:=ok) rfl (wB1 (wpAny_field he₂ rfl (x:=ov) rfl ?_)))
  refine wB1 (wS1 he₂ (by simp) fun h₃ he₃ hs₃=>?_)
  refine wB1 (wS1 he₃ (by simp) fun h₄ he₄ hs₄=>?_)
  refine wB1 (wS1 he₄ (by simp) fun h₅ he₅ hs₅=>?_)
  refine wB1 (wS1 he₅ (by simp) fun h₆ he₆ hs₆=>?_)
  have sb:Heap.SameBut it h₂ h₆:=((hs₃.trans hs₄).trans hs₅).trans hs₆
  refine wB1 (wpAny_letGo (wP1 (wP1 ⟨_,rfl,wP1 (out h₆ (rawInt hp.objs.size) (.bool false) es[i].key es[i].val he₆ (.inr ⟨_,rfl,_,sb.extBut _ _ (nG1 hil) ht₂⟩) sb)⟩)))
 ·subst z
  show wpAny _ _ (loadIfAlive (a:Int).toNat >>= _) _ _ _
  rw [Int.toNat_natCast]
  refine wB1 (wpAny_lia ?_)
  rw [show (({heap:=h₂,gens:=g,drawn:=dr,toks:=tk,os:=os}:Shared).heap.get? a)=some o' from e]
  simp only [Option.isNone_some,bF1,if_false]
  refine wB1 (wpAny_field he₂ rfl (x:=f1) rfl ?_)
  split
  ·refine wB1 (wS1 he₂ (by simp) fun h₃ he₃ hs₃=>wP1 ?_)
   have sb:Heap.SameBut it h₂ h₃:=hs₃
   simp only [bF1,if_false]
   refine wP1 (wP1 ⟨_,rfl,wP1 (out h₃ (rawInt a) (.bool true) ok ov he₃ (.inr ⟨a,rfl,?_⟩) sb)⟩)
   by_cases ha:a=it
   ·rw [ha];exact ⟨_,he₃⟩
   ·exact ⟨o',sb.extBut a o' ha e⟩
  ·refine wP1 ?_
   simp only [bF1,if_false]
   exact wP1 (wP1 ⟨_,rfl,wP1 (out h₂ (rawInt a) f1 ok ov he₂ (.inr ⟨a,rfl,o',e⟩) (Heap.SameBut.refl _ _))⟩)
theorem it_end {it d:Addr}{f0 f1 ok ov:Value}{i ep:Nat}{es:Array DictEntry}{o:Obj}{Q:Option Value->Shared->Prop}(hh:A.handled=none)(hit:ItIs s.heap it d f0 f1 i es.size ep ok ov)(hd:s.heap.get? d=some o)(hdd:o.data = .dict es ep)(hi:es.size<=i)
  (q:∀ h',(∀ b o,b≠it->s.heap.get? b=some o->h'.get? b=some o)->Q none {s with heap:=h'}):wpAny (model prog w) A (pyNext (.ref it)) Q E s:=by
 have hT:s.TypeIs (.ref it) "dict_itemiterator":=⟨_,hit,rfl⟩
 unfold pyNext
 refine wB1 (wpAny_attempt (wpAny_callSpecial?_slot (name:=Str.ofString "__next__") hT PySem.F.slot_dict_itemiterator_next
  (wE1 PySem.F.slot_dict_itemiterator_next hT PySem.F.entry_dict_itemiterator_next ?_ (PySem.F.args_dict_itemiterator_next_1 _))))
 refine wB1 (wP1 (wB1 (wB1 (wB1 (wpAny_typeNameOfWhole_itemiter hT (wP1 ?_))))))
 refine wB1 (wpAny_fieldsOf hit rfl ?_)
 have hown:Builtin.Dict_items.ownsTuple "dict_itemiterator"=true:=by decide
 simp only [hown,if_true]
 show wpAny _ _ (if (Value.ref d == Value.none)=true then _ else _) _ _ s
 rw [if_neg (show ¬ ((Value.ref d == Value.none)=true) from Bool.false_ne_true)]
 refine wB1 (wP1 (wB1 (wpAny_dictEntries hd hdd ?_)))
 rw [if_neg (by simp)]
 refine wB1 (wP1 (wB1 (wpAny_dictEpoch hd hdd ?_)))
 rw [if_neg (by simp)]
 refine wP1 ?_
 simp only [show ¬ ((i:Int)<0) from by lia,if_false,Int.toNat_natCast,Array.getElem?_eq_none hi]
 refine wB1 (wB1 (wpAny_typeNameOfWhole_itemiter hT (wP1 ?_)))
 show wpAny _ _ (setField (.ref it) 2 .none >>= _) _ _ s
 refine wB1 (wS1 hit (by simp) fun h₁ he₁ hs₁=>?_)
 show wpAny _ _ (newExc (.type "StopIteration") [] >>= _) _ _ _
 refine wB1 ?_
 simp only [newExc,newTuple]
 refine wB1 (wO1 ?_ (by size_fits))
 refine wB1 (m:=firstArgMember _ _) (wpAny_of_eq (a:=Value.none) (by first | rfl | (simp only [firstArgMember];rfl)) ?_)
 refine wO1 ?_ (by size_fits)
 simp only [raiseNew]
 refine wB1 (wpAny_handled ?_)
 rw [show A.in1.handled=none from hh]
 refine wB1 (wP1 (wpAny_throw ?_))
 refine wB1 (wpAny_isInstance (T:="StopIteration") (b:=true) ⟨_,hS1 _ rfl,rfl⟩ isSubtype_stop ?_)
 exact wP1 (q _ fun b o hb e=>hP1 _ (hP1 _ (hs₁.extBut b o hb e)))
end
noncomputable def Pairs (h:Heap)(lo:Nat)(es:Array DictEntry)(acc:Array Value)(i:Nat):Prop:=
 acc.size=i/\acc.toList.Nodup /\ ∀ (j:Nat) (v:Value),acc[j]? = some v -> ∃ a e,v = .ref a/\lo<=a/\es[j]? = some e/\h.get? a=some {cls:=.type "tuple",data:=.seq #[e.key,e.val]}
section
variable {prog:Program} {w:World} {A:Around} {E:Value->Shared->Prop} {R:Result->Shared->Prop}
theorem it_loop {it d S lo:Addr}{ep:Nat}{es:Array DictEntry}{o:Obj}{res:Value}(hh:A.handled=none)(hdd:o.data = .dict es ep)(h1:it≠d)(h2:S≠d)(h3:S≠it)(h4:it<lo)(h5:S<lo)(hn:es.size<=sizeLine):
  ∀ (k i:Nat) (s:Shared) (acc:Array Value) (c:Nat) (f0 f1 ok ov:Value),es.size-i=k->i<=es.size->ItIs s.heap it d f0 f1 i es.size ep ok ov->Outs s.heap f0->s.heap.get? d=some o ->
  s.heap.get? S=some {cls:=.type "list",dict:=none,data:=.seq acc c,slots:= #[]}->lo<=s.heap.objs.size->Pairs s.heap lo es acc i ->
  (∀ h' acc' c',(∀ b u,b≠it->b≠S->s.heap.get? b=some u->h'.get? b=some u)->h'.get? S=some {cls:=.type "list",dict:=none,data:=.seq acc' c',slots:= #[]}->Pairs h' lo es acc' es.size->R (.ok (.ret res)) {s with heap:=h'}) ->
  codeAny (model prog w) A (.builtin "list.extend.loop" ⟨[.ref S,.ref it,res],[]⟩) R s:=by
 intro k
 induction k with
 | zero=>
  intro i s acc c f0 f1 ok ov hk hi hit hf hd hS hlo hp hR
  have e:i=es.size:=by lia
  subst e
  refine wD1 PySem.F.entry_extend_loop ?_
  rw [Around.under_plainId PySem.F.plain_extend_loop _]
  show wpAny _ A.in1 (pyNext (.ref it) >>= _) _ _ s
  refine wB1 (it_end hh hit hd hdd (nR1 _) fun h' keep=>wP1 ?_)
  refine hR h' acc c (fun b u hb _ e=>keep b u hb e) (keep S _ h3 hS) ⟨hp.1,hp.2.1,fun j v e=>?_⟩
  obtain ⟨a,x,h6,h7,h8,h9⟩:=hp.2.2 j v e
  exact ⟨a,x,h6,h7,h8,keep a _ (nG1 (nL1 h4 h7)) h9⟩
 | succ k ih=>
  intro i s acc c f0 f1 ok ov hk hi hit hf hd hS hlo hp hR
  have hlt:i<es.size:=by lia
  refine wD1 PySem.F.entry_extend_loop ?_
  rw [Around.under_plainId PySem.F.plain_extend_loop _]
  show wpAny _ A.in1 (pyNext (.ref it) >>= _) _ _ s
  refine wB1 (it_next hit hd hdd hlt hf h1 fun h' g0 g1 ok' ov' hit' hf' ht hz keep=>?_)
  have hS':=keep S _ h3 hS
  show wpAny _ A.in1 (updateSeq S (·.push (.ref s.heap.objs.size)) >>= _) _ _ _
  refine wB1 (wpAny_updateSeq (s:={s with heap:=h'}) hS' rfl ?_ (by rw [hp.1];lia) (by show (acc.push _).size<=sizeLine+1;rw [Array.size_push,hp.1];lia))
  have oth:∀ b u,b≠S->h'.get? b=some u->(h'.update S (Obj.mapSeq (·.push (.ref s.heap.objs.size)))).get? b=some u:=fun b u hb e=>by rw [hU1 _ _ _ _ hb];exact e
  refine wP1 ⟨plainId_quiet PySem.F.plain_extend_loop _,ih (i+1) {s with heap:=h'.update S (Obj.mapSeq (·.push (.ref s.heap.objs.size)))} (acc.push (.ref s.heap.objs.size)) _ g0 g1 ok' ov' (by lia) hlt (oth it _ (Ne.symm h3) hit') ?_ (oth d _ (Ne.symm h2) (keep d _ (Ne.symm h1) hd)) (hW1 _ hS' rfl) ?_ ?_ ?_⟩
  ·rcases hf' with z | ⟨a,z,u,e⟩
   ·exact .inl z
   ·refine .inr ⟨a,z,?_⟩
    by_cases ha:a=S
    ·rw [ha];exact ⟨_,hW1 _ hS' rfl⟩
    ·exact ⟨u,oth a u ha e⟩
  ·show lo<=(h'.update S _).objs.size
   rw [Heap.size_update,hz]
   exact Nat.le_succ_of_le hlo
  ·refine ⟨by rw [Array.size_push,hp.1],?_,fun j v e=>?_⟩
   ·rw [Array.toList_push,List.nodup_append]
    refine ⟨hp.2.1,by simp,fun x hx y hy z=>?_⟩
    simp at hy
    subst hy;subst z
    obtain ⟨j,hj⟩:=List.getElem?_of_mem hx
    obtain ⟨a,x,h6,h7,h8,h9⟩:=hp.2.2 j _ (by rw [<- aT1];exact hj)
    cases h6
    exact Nat.lt_irrefl _ (hL1 h9)
   rw [Array.getElem?_push] at e
   split at e
   ·rename_i ej
    cases e
    rw [hp.1] at ej
    subst ej
    exact ⟨_,es[j],rfl,hlo,aG1 hlt,oth _ _ (nG1 (nL1 h5 hlo)) ht⟩
   ·obtain ⟨a,x,h6,h7,h8,h9⟩:=hp.2.2 j v e
    exact ⟨a,x,h6,h7,h8,oth a _ (nG1 (nL1 h5 h7)) (keep a _ (nG1 (nL1 h4 h7)) h9)⟩
  ·intro h'' acc' c' keep2 hS2 hp2
   exact hR h'' acc' c' (fun b u hb hb2 e=>keep2 b u hb hb2 (oth b u hb2 (keep b u hb e))) hS2 hp2
theorem it_iter {s:Shared}{v d:Addr}{es:Array DictEntry}{ep:Nat}{o:Obj}{Q:Value->Shared->Prop}(hv:s.heap.IsItemsView v d)(hd:s.heap.get? d=some o)(hdd:o.data = .dict es ep)
  (q:Q (.ref s.heap.objs.size) {s with heap:=s.heap.push {cls:=.type "dict_itemiterator",data:=.fields #[.none,.bool false,.ref d,.int 0 0,.int es.size 0,.int ep 0,.none,.none]}}):
  wpAny (model prog w) A (pyIter (.ref v)) Q E s:=by
 obtain ⟨ov,hov,hcv,hdv⟩:=id hv
 refine wpAny_pyIter_slot hv.typeIs PySem.F.slot_dict_items_iter (wE1 PySem.F.slot_dict_items_iter hv.typeIs PySem.F.entry_dict_items_iter ?_ (PySem.F.args_dict_items_iter_1 _))
 unfold Builtin.«dict_items.__iter__»
 refine wB1 (wP1 (wB1 ?_))
 unfold Builtin.Dict_items.dictOf
 refine wB1 (wpAny_field hov hdv (x:=.ref d) rfl (wP1 (wB1 ?_)))
 unfold Builtin.Dict_items.newIterator
 refine wB1 (wpAny_dictEntries hd hdd (wB1 (wpAny_dictEpoch hd hdd ?_)))
 have hown:Builtin.Dict_items.ownsTuple "dict_itemiterator"=true:=by decide
 simp only [hown,if_true]
 refine wO1 (wP1 ⟨_,rfl,"dict_itemiterator",_,⟨_,hS1 _ rfl,rfl⟩,PySem.F.slot_dict_itemiterator_next.lookup,?_⟩)
  (by simp only [sizeOk,Builtin.Dict_items.ownedTupleFields,sT1,lA1,lC1,List.length_nil,sizeLine_eq];lia)
 simpa [rawInt,Builtin.Dict_items.ownedTupleFields] using q
theorem items_len:typeLookup (.type "dict_items") "__len__"=pure (some (.builtin "dict_items.__len__")):=by rw [typeLookup_type,builtinLookup_eq_fast];kernel_rfl
theorem it_hint {s:Shared}{v:Addr}{Q:Bool->Shared->Prop}(hT:s.TypeIs (.ref v) "dict_items")(q:Q false s):wpAny (model prog w) A (Builtin.List.listLengthHint (.ref v)) Q E s:=by
 unfold Builtin.List.listLengthHint
 refine wB1 (wpAny_specialOf hT items_len ?_)
 generalize hid:("dict_items.__len__":String)=id0
 wp_delta
 rw [show splitId id0=some ("dict_items","__len__") from by subst hid;decide+kernel]
 subst hid
 refine wB1 (wpAny_isInstance (b:=true) hT (by rw [isSubtype_type];kernel_rfl) ?_)
 rw [if_neg (by decide)]
 dsimp only
 rw [if_pos (by decide+kernel)]
 refine wB1 (wpAny_typeOf hT ?_)
 exact wP1 q
theorem it_collect {s:Shared}{v d:Addr}{es:Array DictEntry}{ep:Nat}{o:Obj}{Q:List Value->Shared->Prop}(hh:A.handled=none)(hv:s.heap.IsItemsView v d)(hd:s.heap.get? d=some o)(hdd:o.data = .dict es ep)(hn:es.size<=sizeLine)
  (q:∀ h' acc,(∀ b u,s.heap.get? b=some u->h'.get? b=some u)->s.heap.objs.size<=h'.objs.size->Pairs h' s.heap.objs.size es acc es.size->Q acc.toList {s with heap:=h'}):wpAny (model prog w) A (collect (.ref v)) Q E s:=by
 have hvl:v<s.heap.objs.size:=by obtain ⟨ov,hov,_⟩:=hv;exact hL1 hov
 have hdl:d<s.heap.objs.size:=hL1 hd
 unfold collect
 refine wB1 (wpAny_runValue (wD1 PySem.F.entry_proto_collect ?_))
 rw [Around.under_plainId PySem.F.plain_proto_collect _]
 show wpAny _ A.in1 (newList [] >>= fun l=>again (.builtin "list.__iadd__" ⟨[l,.ref v],[]⟩)) _ _ s
 refine wB1 (wO1 ?_)
 refine wP1 ⟨plainId_quiet PySem.F.plain_list_iadd _,wD1 PySem.F.entry_list_iadd ?_⟩
 rw [Around.under_plainId PySem.F.plain_list_iadd _]
 have hS₁:(s.heap.push {cls:=.type "list",data:=.seq ([]:List Value).toArray}).get? s.heap.objs.size=some {cls:=.type "list",data:=.seq ([]:List Value).toArray}:=hS1 _ rfl
 have hv₁:(s.heap.push {cls:=.type "list",data:=.seq ([]:List Value).toArray}).IsItemsView v d:=let ⟨ov,a,b,c⟩:=hv;⟨ov,hP1 _ a,b,c⟩
 have hd₁:(s.heap.push {cls:=.type "list",data:=.seq ([]:List Value).toArray}).get? d=some o:=hP1 _ hd
 have hne:s.heap.objs.size≠v:=nG1 hvl
 have h1:Builtin.List.listSameRef (.ref s.heap.objs.size) (.ref v)=false:=by simp [Builtin.List.listSameRef,hne]
 show wpAny _ A.in1 (Builtin.List.listExtendWith (.ref s.heap.objs.size) (.ref v) (.ref s.heap.objs.size)) _ _ {s with heap:=s.heap.push {cls:=.type "list",data:=.seq ([]:List Value).toArray}}
 unfold Builtin.List.listExtendWith
 refine wB1 (wpAny_typeOf (T:="dict_items") hv₁.typeIs ?_)
 rw [if_neg (by rw [h1];decide)]
 refine wB1 (it_iter hv₁ hd₁ hdd ?_)
 generalize hh₁:s.heap.push {cls:=.type "list",data:=.seq ([]:List Value).toArray}=h₁ at *
 have hz₁:h₁.objs.size=s.heap.objs.size+1:=by rw [<- hh₁,hZ1]
 have k₁:∀ b u,s.heap.get? b=some u->h₁.get? b=some u:=fun b u e=>by rw [<- hh₁];exact hP1 _ e
 dsimp only
 have hit:ItIs (h₁.push {cls:=.type "dict_itemiterator",data:=.fields #[.none,.bool false,.ref d,.int 0 0,.int es.size 0,.int ep 0,.none,.none]}) h₁.objs.size d .none (.bool false) 0 es.size ep .none .none:=hS1 _ rfl
 have hS₂:=hP1 {cls:=.type "dict_itemiterator",data:=.fields #[.none,.bool false,.ref d,.int 0 0,.int es.size 0,.int ep 0,.none,.none]} hS₁
 have hz₂:(h₁.push {cls:=.type "dict_itemiterator",data:=.fields #[.none,.bool false,.ref d,.int 0 0,.int es.size 0,.int ep 0,.none,.none]}).objs.size=s.heap.objs.size+2:=by rw [hZ1,hz₁]
 have k₂:∀ b u,s.heap.get? b=some u->(h₁.push {cls:=.type "dict_itemiterator",data:=.fields #[.none,.bool false,.ref d,.int 0 0,.int es.size 0,.int ep 0,.none,.none]}).get? b=some u:=fun b u e=>hP1 _ (k₁ b u e)
 generalize h₁.push {cls:=.type "dict_itemiterator",data:=.fields #[.none,.bool false,.ref d,.int 0 0,.int es.size 0,.int ep 0,.none,.none]}=h₂ at *
 have hT₂:Shared.TypeIs {s with heap:=h₂} (.ref v) "dict_items":=let ⟨ov,a,b,c⟩:=hv;⟨ov,k₂ v ov a,b⟩
 refine wB1 (wpAny_holding (it_hint hT₂ ?_))
 rw [if_pos (by decide+kernel)]
 refine wB1 (wpAny_rule (wB1 ?_))
 show wpAny _ A.in1 (updateSeq s.heap.objs.size (·.push .none) >>= fun _=>updateSeq s.heap.objs.size (·.pop)) _ _ _
 refine wB1 (wpAny_updateSeq (s:={s with heap:=h₂}) hS₂ rfl ?_)
 have hS₃:=hW1 (Obj.mapSeq (·.push Value.none)) hS₂ rfl
 refine wpAny_updateSeq (s:={s with heap:=h₂.update s.heap.objs.size (Obj.mapSeq (·.push Value.none))}) hS₃ rfl ?_
 have hS₄:=hW1 (Obj.mapSeq (·.pop)) hS₃ rfl
 have oth:∀ b u,b≠s.heap.objs.size->h₂.get? b=some u->((h₂.update s.heap.objs.size (Obj.mapSeq (·.push Value.none))).update s.heap.objs.size (Obj.mapSeq (·.pop))).get? b=some u:=fun b u hb e=>by
  rw [hU1 _ _ _ _ hb,hU1 _ _ _ _ hb];exact e
 have hz₄:((h₂.update s.heap.objs.size (Obj.mapSeq (·.push Value.none))).update s.heap.objs.size (Obj.mapSeq (·.pop))).objs.size=s.heap.objs.size+2:=by rw [Heap.size_update,Heap.size_update,hz₂]
 rw [hz₁] at hit ⊢
 have ne1:s.heap.objs.size+1≠s.heap.objs.size:=Nat.succ_ne_self _
 refine wP1 ⟨plainId_quiet PySem.F.plain_extend_loop _,it_loop (lo:=s.heap.objs.size+2) (o:=o) hh hdd (nG1 (Nat.lt_succ_of_lt hdl)) (nG1 hdl) (Ne.symm ne1) (Nat.lt_succ_self _) (Nat.lt_succ_of_lt (Nat.lt_succ_self _)) hn es.size 0
  {s with heap:=(h₂.update s.heap.objs.size (Obj.mapSeq (·.push Value.none))).update s.heap.objs.size (Obj.mapSeq (·.pop))} _ _ .none (.bool false) .none .none rfl (Nat.zero_le _) (oth _ _ ne1 hit) (.inl rfl) (oth d o (nN1 hdl) (k₂ d o hd)) hS₄ (by rw [hz₄];exact nR1 _) ⟨rfl,by simp,fun j v e=>by simp at e⟩ fun h' acc' c' keep hS' hp=>?_⟩
 show wpAny _ A (load s.heap.objs.size >>= _) _ _ {s with heap:=h'}
 refine wB1 (wpAny_load hS' ?_)
 refine wP1 (q h' acc' (fun b u e=>?_) (Nat.le_of_lt (hL1 hS')) ⟨hp.1,hp.2.1,fun j v e=>?_⟩)
 ·have hb:b<s.heap.objs.size:=hL1 e
  exact keep b u (nN1 (Nat.lt_succ_of_lt hb)) (nN1 hb) (oth b u (nN1 hb) (k₂ b u e))
 ·obtain ⟨a,x,h6,h7,h8,h9⟩:=hp.2.2 j v e
  exact ⟨a,x,h6,Nat.le_trans (Nat.le_add_right _ 2) h7,h8,h9⟩
end
section
variable {prog:Program} {w:World} {A:Around} {E:Value->Shared->Prop} {s:Shared}
theorem it_sorted {v d:Addr}{es:Array DictEntry}{ep:Nat}{o:Obj}{Q:Value->Shared->Prop}(hh:A.handled=none)(hv:s.heap.IsItemsView v d)(hd:s.heap.get? d=some o)(hdd:o.data = .dict es ep)(h64:es.size<64)
  (H:∀ (h':Heap) (vs:List Value),(∀ b u,s.heap.get? b=some u->h'.get? b=some u)->vs.length=es.size->vs.Nodup->(∀ (j:Nat) (v:Value),vs[j]? = some v -> ∃ a e,v = .ref a/\s.heap.objs.size<=a/\es[j]? = some e/\h'.get? a=some {cls:=.type "tuple",data:=.seq #[e.key,e.val]}) ->
   ∃ ws κ,vs.Perm ws/\(∀ h'':Heap,(∀ b u,h'.get? b=some u->h''.get? b=some u)->2<=vs.length->SoC prog w A.in1.in1 {s with heap:=h''} κ ws (pairsOf vs) /\ ∀ (E:Value->Shared->Prop) (Q:SortKind->Shared->Prop),Q κ {s with heap:=h''}->wpAny (model prog w) A.in1.in1 (keyKind' vs.toArray) Q E {s with heap:=h''}) /\
   ∀ (h'':Heap) (L:Addr) (n:Nat),(∀ b u,h'.get? b=some u->h''.get? b=some u)->h'.objs.size<=L->h''.get? L=some (seqObj "list" ws.toArray n)->Q (.ref L) {s with heap:=h''}):
  wpAny (model prog w) A (call (.builtin "sorted") [.ref v]) Q E s:=by
 refine Calls.call_function_entry kind_sorted plain_sorted entry_sorted (args_sorted1 _) ?_
 unfold Builtin.«sorted»
 refine wB1 (m:=checkCount "sorted" 1 1 _) (wP1 ?_)
 refine wB1 (it_collect hh hv hd hdd (by rw [sizeLine_eq];lia) fun h' acc keep hz hp=>?_)
 obtain ⟨ws,κ,hpm,hC,fin⟩:=H h' acc.toList keep (by rw [Array.length_toList];exact hp.1) hp.2.1 fun j v e=>hp.2.2 j v (by rw [<- aT1];exact e)
 refine wB1 (wpAny_newList (hsz:=by rw [Array.length_toList,hp.1,sizeLine_eq];lia) ?_)
 have hoL:(h'.push (seqObj "list" acc.toList.toArray 0)).get? h'.objs.size=some (seqObj "list" acc.toList.toArray 0):=hS1 _ rfl
 have hal:acc.toList.length<64:=by rw [Array.length_toList,hp.1];exact h64
 show wpAny _ _ _ _ _ {s with heap:=h'.push (seqObj "list" acc.toList.toArray 0)}
 refine wB1 (wpAny_holding (wE1 slot_list_sort ⟨_,hoL,rfl⟩ entry_list_sort (so_sort (s:={s with heap:=h'.push (seqObj "list" acc.toList.toArray 0)}) (κ:=κ) (ws:=ws) hoL hal hpm (fun h'' k2 h2=>?_) ⟨_,rfl,?_⟩) (args_list_sort _)))
 ·have:=hC h'' (fun b u e=>k2 b u (nN1 (hL1 e)) (hP1 _ e)) h2
  exact ⟨this.1,this.2 _⟩
 ·obtain ⟨n,hat⟩:=sortedHeap_at (out:=ws.toArray) hoL
  refine wP1 ⟨_,rfl,fin _ h'.objs.size n (fun b u e=>?_) (nR1 _) hat⟩
  have hb:b<h'.objs.size:=hL1 e
  show (sortedHeap (h'.push (seqObj "list" acc.toList.toArray 0)) h'.objs.size acc.toList ws.toArray).get? b=some u
  rw [sortedHeap_old (nN1 hb) (by rw [hZ1];exact Nat.lt_succ_of_lt hb)]
  exact hP1 _ e
end
noncomputable def updT (H:Hp):List (Addr×List V)->Hp
 | []=>H
 | p::ps=>upd (updT H ps) p.1 (.tup p.2)
theorem updT_ne {H:Hp}{b:Addr}:∀ {ps:List (Addr×List V)},(∀ p∈ps,b≠p.1)->updT H ps b=H b
 | [],_=>rfl
 | p::ps,h=>by rw [updT,upd_ne (h p mS1)];exact updT_ne fun q hq=>h q (mC1 _ hq)
theorem updT_at {H:Hp}{a:Addr}{vs:List V}:∀ {ps:List (Addr×List V)},(ps.map (·.1)).Nodup->(a,vs)∈ps->updT H ps a=some (.tup vs)
 | [],_,h=>by cases h
 | p::ps,nd,h=>by
  rw [mP1,List.nodup_cons] at nd
  rw [updT]
  rcases List.mem_cons.mp h with z | z
  ·subst z;exact upd_same
  ·rw [upd_ne (fun e=>nd.1 (by rw [<- e];exact List.mem_map.mpr ⟨_,z,rfl⟩))]
   exact updT_at nd.2 z
theorem updT_in {H:Hp}{b:Addr}{o:HO}:∀ {ps:List (Addr×List V)},updT H ps b=some o->(∃ vs,(b,vs)∈ps/\o = .tup vs)\/((∀ p∈ps,b≠p.1)/\H b=some o)
 | [],h=>.inr ⟨fun p hp=>(by cases hp),h⟩
 | p::ps,h=>by
  rw [updT] at h
  by_cases e:b=p.1
  ·subst e
   rw [upd_same] at h
   cases h
   exact .inl ⟨p.2,mS1,rfl⟩
  ·rw [upd_ne e] at h
   rcases updT_in h with ⟨vs,h1,h2⟩ | ⟨h1,h2⟩
   ·exact .inl ⟨vs,mC1 _ h1,h2⟩
   ·refine .inr ⟨fun q hq=>?_,h2⟩
    rcases List.mem_cons.mp hq with z | z
    ·rw [z];exact e
    ·exact h1 q z
theorem Inv.lays {X:Cx}{pins:List (Addr×Obj)}{σ:L2.St}{H:Hp}{s:Shared}{h':Heap}{ps:List (Addr×List V)}(I:Inv X pins σ H s)(k:∀ b u,s.heap.get? b=some u->h'.get? b=some u)
  (hp:∀ p∈ps,s.heap.objs.size<=p.1/\p.2.length<=sizeLine /\ ∃ its:List Value,Vals p.2 its/\IsTup h' p.1 its.toArray):Inv X pins σ (updT H ps) {s with heap:=h'}:=by
 have old:∀ b o,H b=some o->updT H ps b=some o:=fun b o e=>by
  rw [updT_ne]
  ·exact e
  ·intro p hm z
   have h1:=I.hok.lt e
   have h2:=(hp p hm).1
   rw [z] at h1
   exact Nat.lt_irrefl _ (nL1 h1 h2)
 refine I.un (t':=s.toks) ⟨fun b u q _ _ _=>k b u q,fun b u q _ _ _=>⟨u.slots,k b u q⟩,fun b u q n _=>?_,fun b u q _=>⟨u,k b u q⟩,fun b xs q=>old b _ q,fun b u xs q=>old b _ q,fun b ps' q=>⟨#[],by rw [old b _ q];simp⟩⟩ ?_
 ·rw [updT_ne]
  ·exact n
  ·intro p hm z
   have h1:=hL1 q
   have h2:=(hp p hm).1
   rw [z] at h1
   exact Nat.lt_irrefl _ (nL1 h1 h2)
 ·intro b u e
  rcases updT_in e with ⟨vs,h1,rfl⟩ | ⟨_,h1⟩
  ·obtain ⟨_,h2,its,h3,h4⟩:=hp _ h1
   exact ⟨h2,its,h3,h4⟩
  ·exact (I.hok b u h1).stay (fun c v _ q=>k c v q) (fun c q=>old c _ q) fun c xs q=>old c _ q
theorem Ext.lays {mu:List Addr}{H:Hp}:∀ {ps:List (Addr×List V)},(ps.map (·.1)).Nodup->(∀ p∈ps,H p.1=none)->Ext mu mu H (updT H ps)
 | [],_,_=>.refl _ _
 | p::ps,nd,h=>by
  rw [mP1,List.nodup_cons] at nd
  have e:=Ext.lays (mu:=mu) nd.2 fun q hq=>h q (mC1 _ hq)
  have hn:updT H ps p.1=none:=by
   rw [updT_ne]
   ·exact h p mS1
   ·intro q hq z
    exact nd.1 (by rw [z];exact List.mem_map.mpr ⟨q,hq,rfl⟩)
  exact e.trans (Ext.fresh hn)
noncomputable def ltK (a b:TK):Bool:=ltN [] 50 (tkD a) (tkD b) == some true
noncomputable def insG {α:Type}(key:α->TK)(a:α):List α->List α
 | []=>[a]
 | b::l=>if ltK (key a) (key b)=true then a::b::l else b::insG key a l
noncomputable def sortG {α:Type}(key:α->TK):List α->List α
 | []=>[]
 | a::l=>insG key a (sortG key l)
theorem insG_perm {α:Type}(key:α->TK)(a:α):∀ l:List α,(insG key a l).Perm (a::l)
 | []=>.refl _
 | b::l=>by
  rw [insG]
  split
  ·exact .refl _
  ·exact ((insG_perm key a l).cons b).trans (.swap _ _ _)
theorem sortG_perm {α:Type}(key:α->TK):∀ l:List α,(sortG key l).Perm l
 | []=>.refl _
 | a::l=>(insG_perm key a _).trans ((sortG_perm key l).cons a)
theorem insG_map {α β:Type}{key:β->TK}{g:α->β}{a:α}:∀ l:List α,(insG (fun x=>key (g x)) a l).map g=insG key (g a) (l.map g)
 | []=>rfl
 | b::l=>by
  rw [insG,mP1,insG]
  split
  ·rfl
  ·rw [mP1,insG_map l]
theorem sortG_map {α β:Type}{key:β->TK}{g:α->β}:∀ l:List α,(sortG (fun x=>key (g x)) l).map g=sortG key (l.map g)
 | []=>rfl
 | a::l=>by rw [sortG,mP1,sortG,insG_map,sortG_map l]
noncomputable def lessK (a b:TK):Bool:=eqN [] 50 (tkD a) (tkD b) == some false&&(eqN [] 50 (tkD b) (tkD a) == some false&&(ltN [] 50 (tkD a) (tkD b) == some true&&ltN [] 50 (tkD b) (tkD a) == some false))
noncomputable def riseK:List TK->Bool
 | []=>true
 | a::l=>l.all (lessK a)&&riseK l
noncomputable def isTK:TK->Bool
 | .tup _=>true
 | _=>false
noncomputable def pairK (p:TK×D):D:=.tup [tkD p.1,p.2]
noncomputable def gSortIt:G1:=fun d S=>match d with
 | .ref n=>match S[n]? with
  | some (.dcT kvs)=>if (riseK ((sortG (·.1) kvs).map (·.1))&&(kvs.all (fun p=>isTK p.1)&&decide (kvs.length<64)))=true then some (.ref S.length,S++[.lst ((sortG (·.1) kvs).map pairK)]) else none
  | some (.dct [])=>some (.ref S.length,S++[.lst []])
  | _=>none
 | _=>none
theorem riseK_at:∀ {l:List TK} {i j:Nat} {a b:TK},riseK l=true->l[i]? = some a->l[j]? = some b->i<j->lessK a b=true
 | [],i,j,a,b,_,h,_,_=>by simp at h
 | x::l,0,j+1,a,b,h,h1,h2,_=>by
  rw [riseK,bA1,List.all_eq_true] at h
  simp at h1 h2
  subst h1
  exact h.1 b (gM1 h2)
 | x::l,i+1,j+1,a,b,h,h1,h2,hij=>by
  rw [riseK,bA1] at h
  exact riseK_at h.2 (by simpa using h1) (by simpa using h2) (by lia)
 | x::l,i,0,a,b,_,_,_,hij=>by lia
mutual
theorem und_tk {n:Nat}:∀ k:TK,(tkD k).und n=true
 | .non=>rfl
 | .int _=>rfl
 | .tup xs=>by rw [tkD,D.und];exact unds_tk xs
theorem unds_tk {n:Nat}:∀ ks:List TK,D.unds n (tkDs ks)=true
 | []=>rfl
 | k::ks=>by rw [tkDs,D.unds,und_tk k,unds_tk ks];rfl
end
structure Pr where
 k:TK
 d:D
 ka:Addr
 u:Value
 vv:V
 a:Addr
noncomputable def Pr.Ok (K:Fg1)(H:Hp)(mu:List Addr)(h:Heap)(lo:Nat)(y:Pr):Prop:=lo<=y.a/\Rep K H mu (tkD y.k) (.ref y.ka)/\RelV y.vv y.u/\Rep K H mu y.d y.vv/\h.get? y.a=some {cls:=.type "tuple",data:=.seq #[.ref y.ka,y.u]}
theorem prs_of {K:Fg1}{H:Hp}{mu:List Addr}{h:Heap}{lo:Nat}:∀ {kvs:List (TK×D)} {xs:List (TK×Addr×Value)} {vs:List Value},KT K H mu kvs xs->vs.length=xs.length ->
  (∀ (j:Nat) (v:Value),vs[j]? = some v -> ∃ (a:Addr) (x:TK×Addr×Value),v = .ref a/\lo<=a/\xs[j]? = some x/\h.get? a=some {cls:=.type "tuple",data:=.seq #[.ref x.2.1,x.2.2]}) ->
  ∃ Y:List Pr,Y.map (fun y=>(y.k,y.d))=kvs/\Y.map (fun y=>Value.ref y.a)=vs /\ ∀ y∈Y,y.Ok K H mu h lo
 | _,_,vs,.nil,hl,_=>by
  cases vs with
  | nil=>exact ⟨[],rfl,rfl,fun y hy=>by cases hy⟩
  | cons _ _=>simp at hl
 | (k,d)::kvs,x::xs,vs,.cons ⟨z,_,rk,v,rv,r⟩ t,hl,hj=>by
  cases vs with
  | nil=>simp at hl
  | cons w vs=>
   obtain ⟨Y,e1,e2,ok⟩:=prs_of (lo:=lo) (h:=h) (vs:=vs) t (by simpa using hl) fun j v e=>by
    obtain ⟨a,x,h1,h2,h3,h4⟩:=hj (j+1) v (by simpa using e)
    exact ⟨a,x,h1,h2,by simpa using h3,h4⟩
   obtain ⟨a,x',h1,h2,h3,h4⟩:=hj 0 w rfl
   have ex:x=x':=by simpa using h3
   subst ex
   refine ⟨⟨k,d,x.2.1,x.2.2,v,a⟩::Y,by rw [mP1,e1],by rw [mP1,e2,h1],fun y hy=>?_⟩
   rcases List.mem_cons.mp hy with e | e
   ·subst e;exact ⟨h2,rk,rv,r,h4⟩
   ·exact ok y e
noncomputable def ViewAt (p a:Addr)(h:Heap):Prop:=h.IsItemsView p a
theorem Sim.lays {K:Fg1}{H:Hp}{mu:List Addr}{S:Sto}(s:Sim K H mu S):∀ {ps:List (Addr×List V)},(ps.map (·.1)).Nodup->(∀ p∈ps,H p.1=none)->Sim K (updT H ps) mu S
 | [],_,_=>s
 | p::ps,nd,h=>by
  rw [mP1,List.nodup_cons] at nd
  have hn:updT H ps p.1=none:=by
   rw [updT_ne]
   ·exact h p mS1
   ·intro q hq z
    exact nd.1 (by rw [z];exact List.mem_map.mpr ⟨q,hq,rfl⟩)
  exact (Sim.lays s nd.2 fun q hq=>h q (mC1 _ hq)).fresh hn
section
variable {X:Cx}
inductive SortIP (X:Cx)(xs:List V)(H:Hp)(Q:V->Hp->Prop):Prop
 | mk (p a:Addr) (mu:List Addr) (S:Sto) (kvs:List (TK×D)) (ws:List (TK×Addr×Value)):xs=[.ref p]->H p=some (.ext (ViewAt p a))->Sim X.K H mu S->KT X.K H mu kvs ws ->
  (∀ pins σ s,Inv X pins σ H s -> ∃ o es ep,s.heap.get? a=some o/\o.data = .dict es ep/\es.toList=ws.map fun x=>(⟨x.1.hash,.ref x.2.1,x.2.2⟩:DictEntry)) ->
  riseK ((sortG (·.1) kvs).map (·.1))=true->(∀ q∈kvs,isTK q.1=true)->kvs.length<64->(∀ H' L,Ext mu (mu++[L]) H H'->Sim X.K H' (mu++[L]) (S++[.lst ((sortG (·.1) kvs).map pairK)])->Q (.ref L) H')->SortIP X xs H Q
theorem c_sortI (hc:X.calm=true)(hu:X.A.units+64<cLine):CallR X (.builtin "sorted") (SortIP X):=by
 rintro pins s σ H xs us Q I r ⟨p,a,mu,S,kvs,ws,rfl,hp,hs,hkt,hdict,hrise,htk,hlen,hQ⟩
 obtain ⟨u,rfl,ru⟩:=vals1 r
 cases ru
 obtain ⟨o,es,ep,hd,hdd,hes⟩:=hdict pins σ s I
 obtain ⟨hv,_,_⟩:=(show ObjOk X.prog X.w H s.heap p (.ext (ViewAt p a)) from I.hok p _ hp)
 have hesl:es.size=kvs.length:=by rw [<- Array.length_toList,hes,lM1,hkt.length]
 refine it_sorted (I.ok.hd hc) hv hd hdd (by lia) fun h' vs keep hl hnd hpr=>?_
 obtain ⟨Y,e1,e2,ok⟩:=prs_of (lo:=s.heap.objs.size) (h:=h') (vs:=vs) hkt (by rw [hl,hesl,hkt.length]) fun j v e=>by
  obtain ⟨b,x,h1,h2,h3,h4⟩:=hpr j v e
  rw [<- aT1,hes,gP1] at h3
  obtain ⟨y,h5,rfl⟩:=oM1.mp h3
  exact ⟨b,y,h1,h2,h5,h4⟩
 have hks:∀ y∈Y,isTK y.k=true:=fun y hy=>htk (y.k,y.d) (by rw [<- e1];exact List.mem_map.mpr ⟨y,hy,rfl⟩)
 have nda:(Y.map (·.a)).Nodup:=by
  rw [<- e2] at hnd
  have:(Y.map fun y=>Value.ref y.a)=(Y.map (·.a)).map Value.ref:=by rw [List.map_map];rfl
  rw [this] at hnd
  exact (List.pairwise_map.mp hnd).imp fun h e=>h (congrArg _ e)
 generalize hps:Y.map (fun y=>(y.a,[V.ref y.ka,y.vv]))=ps at *
 have ndp:(ps.map (·.1)).Nodup:=by rw [<- hps,List.map_map];exact nda
 have hfr:∀ q∈ps,H q.1=none:=fun q hq=>by
  rw [<- hps] at hq
  obtain ⟨y,hy,rfl⟩:=List.mem_map.mp hq
  exact I.hok.fresh (ok y hy).1
 have I1:Inv X pins σ (updT H ps) {s with heap:=h'}:=Inv.lays I keep fun q hq=>by
  rw [<- hps] at hq
  obtain ⟨y,hy,rfl⟩:=List.mem_map.mp hq
  obtain ⟨h1,h2,h3,h4,h5⟩:=ok y hy
  exact ⟨h1,(show 2<=sizeLine by decide),[.ref y.ka,y.u],.cons rfl (.cons h3 .nil),⟨_,h5,rfl,0,rfl⟩⟩
 have x1:Ext mu mu H (updT H ps):=Ext.lays ndp hfr
 have s1:Sim X.K (updT H ps) mu S:=hs.lays ndp hfr
 have sq:∀ y∈Y,updT H ps y.a=some (.tup [.ref y.ka,y.vv]):=fun y hy=>updT_at ndp (by rw [<- hps];exact List.mem_map.mpr ⟨y,hy,rfl⟩)
 generalize updT H ps=H1 at *
 have pm:(sortG (·.k) Y).Perm Y:=sortG_perm _ _
 have sk:(sortG (·.k) Y).map (·.k)=(sortG (·.1) kvs).map (·.1):=by
  have:=sortG_map (key:=fun q:TK×D=>q.1) (g:=fun y:Pr=>(y.k,y.d)) Y
  rw [<- e1,<- this,List.map_map]
  rfl
 have sp:(sortG (·.k) Y).map (fun y=>pairK (y.k,y.d))=(sortG (·.1) kvs).map pairK:=by
  have:=sortG_map (key:=fun q:TK×D=>q.1) (g:=fun y:Pr=>(y.k,y.d)) Y
  rw [<- e1,<- this,List.map_map]
  rfl
 generalize hZ:sortG (fun y:Pr=>y.k) Y=Z at *
 have okZ:∀ y∈Z,y∈Y:=fun y hy=>pm.mem_iff.mp hy
 have rp:∀ y∈Y,Rep X.K H1 mu (pairK (y.k,y.d)) (.ref y.a):=fun y hy=>by
  obtain ⟨h1,h2,h3,h4,h5⟩:=ok y hy
  exact .tup (.inl (Rd.of (sq y hy))) (.cons (h2.ext x1) (.cons (h4.ext x1) .nil))
 have tupk:∀ y∈Y,∀ h'':Heap,(∀ b u,h'.get? b=some u->h''.get? b=some u) -> ∃ qs,IsTup h'' y.ka qs:=fun y hy h'' k2=>by
  obtain ⟨h1,h2,h3,h4,h5⟩:=ok y hy
  have hk:=hks y hy
  cases hyk:y.k with
  | tup ks=>
   rw [hyk,tkD] at h2
   cases h2.ext x1 with
   | tup q t=>
    obtain ⟨its,_,it,_⟩:=I1.tuple q
    exact ⟨_,it.keeps k2⟩
  | non=>rw [hyk] at hk;cases hk
  | int _=>rw [hyk] at hk;cases hk
 refine ⟨Z.map (fun y=>Value.ref y.a),tuples' false,by rw [<- e2];exact (pm.map _).symm,fun h'' k2 hn2=>⟨⟨?_,?_,?_⟩,fun E Q q=>?_⟩,fun h'' L n k2 hL hat=>?_⟩
 ·have:(Z.map fun y=>Value.ref y.a).Perm vs:=by rw [<- e2];exact pm.map _
  exact this.nodup_iff.mpr hnd
 ·rw [pairsOf_toList]
  have:(vs.zip vs).map (·.1)=vs:=List.map_fst_zip (nR1 _)
  rw [this,<- e2]
  exact (pm.map _).symm
 ·intro x y i j hx hy hij E Q q
  rw [gP1] at hx hy
  obtain ⟨yi,hyi,rfl⟩:=oM1.mp hx
  obtain ⟨yj,hyj,rfl⟩:=oM1.mp hy
  have mi:=okZ _ (gM1 hyi)
  have mj:=okZ _ (gM1 hyj)
  have I2:Inv X pins σ H1 {s with heap:=h''}:=I1.kept (t':=s.toks) k2
  obtain ⟨_,ri,_,_,ti⟩:=ok yi mi
  obtain ⟨_,rj,_,_,tj⟩:=ok yj mj
  have ki:((sortG (·.1) kvs).map (·.1))[i]? = some yi.k:=by rw [<- sk,gP1,hyi];rfl
  have kj:((sortG (·.1) kvs).map (·.1))[j]? = some yj.k:=by rw [<- sk,gP1,hyj];rfl
  have res:eqN S 50 (tkD yi.k) (tkD yj.k)=some false/\ltN S 50 (tkD yi.k) (tkD yj.k)=some (decide (i<j)):=by
   rw [eqN_und (und_tk _) (und_tk _),ltN_und (und_tk _) (und_tk _)]
   by_cases z:i<j
   ·have:=riseK_at hrise ki kj z
    unfold lessK at this
    simp only [bA1,beq_iff_eq] at this
    rw [decide_eq_true z]
    exact ⟨this.1,this.2.2.1⟩
   ·have:=riseK_at hrise kj ki (by lia)
    unfold lessK at this
    simp only [bA1,beq_iff_eq] at this
    rw [decide_eq_false z]
    exact ⟨this.2.1,this.2.2.2⟩
  have hu3:X.A.in1.in1.in1.units+50<cLine:=by show X.A.units+1+1+1+50<cLine;lia
  have eq:=(eqN_at I2 s1 50 (A:=X.A.in1.in1.in1) hu3 (ri.ext x1) (rj.ext x1) rfl rfl res.1).1
  have lt:=ltN_at I2 s1 50 (A:=X.A.in1.in1.in1) hu3 (ri.ext x1) (rj.ext x1) rfl rfl res.2
  exact kl_tup (us:=[.ref yi.ka,yi.u]) (zs:=[.ref yj.ka,yj.u]) ⟨_,k2 _ _ ti,rfl,0,rfl⟩ ⟨_,k2 _ _ tj,rfl,0,rfl⟩ (.lt eq lt) q
 ·refine kk_tup (fun z=>by rw [z] at hn2;simp at hn2) (fun v hv=>?_) q
  rw [<- e2] at hv
  obtain ⟨y,hy,rfl⟩:=List.mem_map.mp hv
  obtain ⟨_,_,_,_,ty⟩:=ok y hy
  obtain ⟨qs,it⟩:=tupk y hy h'' k2
  exact ⟨y.a,.ref y.ka,[y.u],y.ka,qs,rfl,⟨_,k2 _ _ ty,rfl,0,rfl⟩,rfl,it⟩
 ·have hn:H1 L=none:=I1.hok.fresh hL
  have hv:Vals (Z.map fun y=>V.ref y.a) (Z.map fun y=>Value.ref y.a):=by
   clear hat sk sp pm okZ hZ
   induction Z with
   | nil=>exact .nil
   | cons y Z ih=>exact .cons rfl ih
  have hr:Reps X.K H1 mu (Z.map fun y=>pairK (y.k,y.d)) (Z.map fun y=>V.ref y.a):=by
   clear hat sk sp pm hZ hv
   induction Z with
   | nil=>exact .nil
   | cons y Z ih=>exact .cons (rp y (okZ y mS1)) (ih fun z hz=>okZ z (mC1 _ hz))
  refine ⟨.ref L,_,I1.laid (t':=s.toks) (o:=.lst (Z.map fun y=>V.ref y.a)) k2 hL ⟨?_,_,n,hv,hat⟩,rfl,hQ _ L (x1.trans (Ext.new_ hn)) ?_⟩
  ·rw [lM1,pm.length_eq]
   have:Y.length=kvs.length:=by rw [<- e1,lM1]
   rw [this,sizeLine_eq];lia
  ·rw [<- sp]
   exact s1.newL hr hn
end
noncomputable def IsDX (H:Hp)(a:Addr):Prop:=(∃ kvs,H a=some (.dK kvs)) \/ ∃ xs,H a=some (.ext (DictAt a xs))
noncomputable def tItems (to:TE):TE:=fun σ H Q=>to σ H fun x H1=>∃ a,x = .ref a/\IsDX H1 a /\ ∀ p,H1 p=none->Q (.ref p) (upd H1 p (.ext (ViewAt p a)))
section
variable {X:Cx}
theorem isDX_at {pins:List (Addr×Obj)}{σ:L2.St}{H:Hp}{s:Shared}{a:Addr}(I:Inv X pins σ H s)(h:IsDX H a):(a == sysModules)=false /\ ∃ o,s.heap.get? a=some o/\o.ExactDict:=by
 rcases h with ⟨kvs,e⟩ | ⟨xs,e⟩
 ·obtain ⟨_,hd,vs,_,o,es,ep,h1,h2,_⟩:=I.hok a _ e
  exact ⟨hd,o,h1,h2⟩
 ·obtain ⟨⟨hd,_,o,es,ep,h1,h2,_⟩,_⟩:=(show ObjOk X.prog X.w H s.heap a (.ext (DictAt a xs)) from I.hok a _ e)
  exact ⟨hd,o,h1,h2⟩
theorem pe_items {o:Expr}{apos cpos:Pos}{to:TE}(ho:PE X o to)(hbase:attributeBase o "items" X.env (eval o X.env)=eval o X.env:=by rfl)(hline:(apos.endLine == cpos.line)=true:=by rfl):
  PE X (.Call (.Attribute o "items" apos) [] [] cpos) (tItems to):=by
 intro pins s σ H Q I h
 refine wpAny_Call_method0_late hbase hline (thn (ho pins s σ H _ I h) fun v s1 ⟨x,H1,I1,r1,a,ex,hD,q1⟩=>?_)
 subst ex
 cases r1
 obtain ⟨hd,o',e,exd⟩:=isDX_at I1 hD
 refine ⟨"dict","dict.items",PySem.F.plainAttrs_dict,PySem.F.slot_dict_items,PySem.F.type_dict_items,⟨o',e,exd.1⟩,fun b eb=>by cases eb;exact ⟨o',e,exd.2.1⟩,Calls.callWith_builtin rfl (PySem.evalArgs_none ?_)⟩
 have hT:s1.TypeIs (.ref a) "dict":=⟨o',e,exd.1⟩
 refine wE1 PySem.F.slot_dict_items hT PySem.F.entry_dict_items ?_ (PySem.F.args_dict_items_1 _)
 unfold Builtin.«dict.items»
 refine wB1 ?_
 unfold Builtin.Dict.noArgs
 refine wB1 (wpAny_notOrdered_dict hT ?_)
 show wpAny _ _ (pure a) _ _ s1
 refine wP1 ?_
 show wpAny _ _ (Builtin.Dict.showsAll a >>= _) _ _ s1
 unfold Builtin.Dict.showsAll
 rw [if_neg (by rw [hd];exact Bool.false_ne_true)]
 refine wB1 (wP1 (wB1 (wO1 (wP1 ⟨_,rfl,?_⟩))))
 have hn:H1 s1.heap.objs.size=none:=I1.hok.fresh (nR1 _)
 refine ⟨.ref s1.heap.objs.size,_,I1.laid (t':=s1.toks) (o:=.ext (ViewAt s1.heap.objs.size a)) (fun b u q=>hP1 _ q) (nR1 _) ?_,rfl,q1 _ hn⟩
 exact ⟨⟨_,hS1 _ rfl,rfl,rfl⟩,⟨_,hS1 _ rfl⟩,fun h1 h2 ⟨ov,a1,a2,a3⟩ st=>⟨ov,st _ a1,a2,a3⟩⟩
theorem xme_sortI (hc:X.calm=true)(hu:X.A.units+64<cLine){o:Expr}{m:FE}{apos cpos p pos:Pos}(hg:Gl X "sorted")(hm:X.mg "sorted"=none)(ho:XE X o m)
  (hbase:attributeBase o "items" X.env (eval o X.env)=eval o X.env:=by rfl) (hline:(apos.endLine == cpos.line)=true:=by rfl):XE X (.Call (.Name "sorted" p) [.Call (.Attribute o "items" apos) [] [] cpos] [] pos) (mN (b1 gSortIt) (mCons m mNil)):=
 ⟨pe_imp (pe_callB (c_sortI hc hu) hg hm (by decide+kernel) (pa_cons (pe_items ho.h hbase hline) pa_nil)) <| by
  rintro σ H Q ⟨r,mu,S,d,S',he,hs,hm,hcc⟩
  obtain ⟨⟨ds,S1⟩,e1,hm⟩:=oB1.mp hm
  obtain ⟨⟨d1,S2⟩,e2,e1⟩:=oB1.mp e1
  cases e1
  dsimp only [b1] at hm
  cases d1 with
  | ref n=>
   dsimp only [gSortIt] at hm
   split at hm
   ·rename_i kvs en
    split at hm
    ·rename_i hcond
     cases hm
     rw [bA1,bA1,decide_eq_true_eq,List.all_eq_true] at hcond
     refine ⟨r,mu,S,.ref n,_,he,hs,e2,fun v H1 mu1 x1 r1 s1=>?_⟩
     cases r1 with
     | @ref _ a hn=>
      obtain ⟨xs,h1,h2,h3⟩:=s1.dcT en hn
      refine ⟨a,rfl,.inr ⟨xs,h1⟩,fun q hq=>?_⟩
      refine ⟨q,a,mu1,S2,kvs,xs,rfl,upd_same,s1.fresh hq,KT.ext (Ext.fresh hq) h2,fun pins σ s I=>?_,hcond.1,hcond.2.1,hcond.2.2,fun H' L x3 s3=>?_⟩
      ·have h4:upd H1 q (.ext (ViewAt q a)) a=some (.ext (DictAt a xs)):=by rw [upd_ne (fun z=>by rw [z,hq] at h1;cases h1)];exact h1
       obtain ⟨⟨_,_,o',es,ep,h5,_,h7,h8⟩,_⟩:=(show ObjOk X.prog X.w _ s.heap a (.ext (DictAt a xs)) from I.hok a _ h4)
       exact ⟨o',es,ep,h5,h7,h8⟩
      ·exact hcc _ H' _ ((x1.trans (Ext.fresh hq)).trans x3) (.ref (new_at s1.len _)) s3
    ·cases hm
   ·rename_i en
    cases hm
    refine ⟨r,mu,S,.ref n,_,he,hs,e2,fun v H1 mu1 x1 r1 s1=>?_⟩
    cases r1 with
    | @ref _ a hn=>
     obtain ⟨ws,h1,h2⟩:=s1.dct en hn
     cases h2
     refine ⟨a,rfl,.inl ⟨[],h1⟩,fun q hq=>?_⟩
     refine ⟨q,a,mu1,S2,[],[],rfl,upd_same,s1.fresh hq,.nil,fun pins σ s I=>?_,rfl,fun _ h=>(by cases h),(by decide),fun H' L x3 s3=>?_⟩
     ·have h4:upd H1 q (.ext (ViewAt q a)) a=some (.dK []):=by rw [upd_ne (fun z=>by rw [z,hq] at h1;cases h1)];exact h1
      obtain ⟨_,_,vs,h5,o',es,ep,h6,_,h7,h8⟩:=I.hok a _ h4
      cases h5
      exact ⟨o',es,ep,h6,h7,List.length_eq_zero_iff.mp (by have:=h8.2.1.length;simpa using this)⟩
     ·exact hcc _ H' _ ((x1.trans (Ext.fresh hq)).trans x3) (.ref (new_at s1.len _)) s3
   ·cases hm
  | _=>cases hm⟩
end
section
variable {prog:Program} {w:World} {A:Around} {E:Value->Shared->Prop} {s:Shared}
end
section
variable {prog:Program} {w:World} {A:Around} {E:Value->Shared->Prop} {R:Result->Shared->Prop}
end
section
variable {X:Cx}
end
section
variable {X:Cx}
noncomputable def tDGT (X:Cx)(td ty tx:TE):TE:=fun σ H Q=>td σ H fun x H1=>∃ a,x = .ref a/\IsDX H1 a/\ty σ H1 fun y H2=>tx σ H2 fun z H3=>
 ∀ pins s u r,Inv X pins σ H3 s->RelV y u->RelV z r->wpAny (model X.prog X.w) X.A (call (.builtin "dict.get") [.ref a,u,r]) (EP X pins σ Q) X.xe s
theorem pe_dgT {o e f:Expr}{apos cpos:Pos}{td ty tx:TE}(ho:PE X o td)(he:PE X e ty)(hf:PE X f tx)(m:M2 X o "get" apos e f cpos):PE X (.Call (.Attribute o "get" apos) [e,f] [] cpos) (tDGT X td ty tx):=by
 intro pins s σ H Q I h
 refine wpAny_Call_method m.base m.few m.line PySem.F.plainAttrs_dict PySem.F.slot_dict_get PySem.F.type_dict_get (thn (ho pins s σ H _ I h) fun u s1 ⟨x,H1,I1,rx,a,ex,d,q1⟩=>?_)
 subst ex
 obtain rfl:u=Value.ref a:=rx
 obtain ⟨_,o',e',exd⟩:=isDX_at I1 d
 refine ⟨⟨o',e',exd.1⟩,fun b eb=>by cases eb;exact ⟨o',e',exd.2.1⟩,?_⟩
 rw [m.trees]
 refine Calls.callWith_builtin rfl (Calls.evalArgs_plain (Calls.spliced_cons (thn (he pins s1 σ H1 _ I1 q1) fun iv s2 ⟨y,H2,I2,ry,q2⟩=>
  Calls.spliced_cons (thn (hf pins s2 σ H2 _ I2 q2) fun fv s3 ⟨z,H3,I3,rz,g⟩=>Calls.spliced_nil ?_))))
 exact g pins s3 iv fv I3 ry rz
noncomputable def dctT (S:Sto)(n:Nat):Option (List (TK×D)):=match S[n]? with
 | some (.dcT kvs)=>some kvs
 | some (.dct [])=>some []
 | _=>none
theorem dctT_at {H:Hp}{mu:List Addr}{S:Sto}{n:Nat}{a:Addr}{kvs:List (TK×D)}(hs:Sim X.K H mu S)(hn:mu[n]? = some a)(h:dctT S n=some kvs):
  IsDX H a /\ ∃ xs,KT X.K H mu kvs xs /\ ∀ pins σ s,Inv X pins σ H s->(a == sysModules)=false/\s.heap.DictOfH (tkKind X.prog X.w) a xs:=by
 unfold dctT at h
 split at h
 ·rename_i ks en
  cases h
  obtain ⟨xs,h1,h2,h3⟩:=hs.dcT en hn
  exact ⟨.inr ⟨xs,h1⟩,xs,h2,fun pins σ s I=>dh_of I h1 h2⟩
 ·rename_i en
  cases h
  obtain ⟨ws,h1,h2⟩:=hs.dct en hn
  cases h2
  refine ⟨.inl ⟨[],h1⟩,[],.nil,fun pins σ s I=>?_⟩
  obtain ⟨_,hsm,vs,h5,o,es,ep,h6,h7,h8,h9⟩:=I.hok a _ h1
  cases h5
  have hes:es.toList=[]:=List.length_eq_zero_iff.mp (by have:=h9.2.1.length;simpa using this)
  exact ⟨hsm,o,es,ep,h6,h7,h8,hes,fun x hx=>(by cases hx),List.nodup_nil⟩
 ·cases h
noncomputable def mDGetT (m a b:FE):FE:=fun r S=>(m r S).bind fun p=>match p.1 with
 | .ref n=>(dctT p.2 n).bind fun _=>(a r p.2).bind fun q=>(b r q.2).bind fun t=>(dctT t.2 n).bind fun kvs=>(keyT q.1).map fun k=>((lookD kvs k).getD t.1,t.2)
 | _=>none
theorem xme_dgetT {o e f:Expr}{apos cpos:Pos}{m a b:FE}(hu:X.A.units+64<cLine)(ho:XE X o m)(he:XE X e a)(hf:XE X f b)(hm:M2 X o "get" apos e f cpos:=by exact ⟨rfl,rfl,rfl,rfl⟩):XE X (.Call (.Attribute o "get" apos) [e,f] [] cpos) (mDGetT m a b):=
 ⟨pe_imp (pe_dgT ho.h he.h hf.h hm) <| by
  rintro σ H Q ⟨r,mu,S,d,S',he,hs,hm,hc⟩
  obtain ⟨⟨d1,S1⟩,e1,hm⟩:=oB1.mp hm
  refine ⟨r,mu,S,d1,S1,he,hs,e1,fun v1 H1 mu1 x1 r1 s1=>?_⟩
  dsimp only at hm
  split at hm
  ·rename_i n
   obtain ⟨kv0,en0,hm⟩:=oB1.mp hm
   cases r1 with
   | @ref _ ad hn=>
    refine ⟨ad,rfl,(dctT_at s1 hn en0).1,?_⟩
    obtain ⟨⟨d2,S2⟩,e2,hm⟩:=oB1.mp hm
    obtain ⟨⟨d3,S3⟩,e3,hm⟩:=oB1.mp hm
    refine ⟨r,mu1,S1,d2,S2,he.ext x1,s1,e2,fun v2 H2 mu2 x2 r2 s2=>?_⟩
    refine ⟨r,mu2,S2,d3,S3,(he.ext x1).ext x2,s2,e3,fun v3 H3 mu3 x3 r3 s3=>?_⟩
    obtain ⟨kvs,en,hm⟩:=oB1.mp hm
    obtain ⟨k,ek,hm⟩:=oM1.mp hm
    cases hm
    intro pins s u w I ru rw_
    obtain ⟨_,xs,hk,hd⟩:=dctT_at s3 (x3.at (x2.at hn)) en
    obtain ⟨hsm,dd⟩:=hd pins σ s I
    obtain ⟨b,rfl,rfl,_,_,hi⟩:=key_at I (r2.ext x3) ru ek
    refine call_meetsIn PySem.F.slot_dict_get dd.typeIs PySem.F.entry_dict_get (PySem.F.args_dict_get_3 _ _ _) (meetsH_dict_get_default (tkKind X.prog X.w) ad b hsm w) ⟨room_of hu,k,xs,hi,dd,?_⟩
    show EP X pins σ Q (((atKey xs k).map (·.2)).getD w) _
    cases ez:lookD kvs k with
    | none=>
     have hn2:=(hk.look (k:=k)).2
     rw [ez] at hn2 hc
     have hz:atKey xs k=none:=by
      cases hz:atKey xs k with
      | none=>rfl
      | some _=>rw [hz] at hn2;cases hn2
     rw [hz]
     exact ⟨v3,H3,I.tok _,rw_,hc _ H3 mu3 ((x1.trans x2).trans x3) r3 s3⟩
    | some z=>
     obtain ⟨p,v,e4,rv,rd⟩:=hk.look.1 z ez
     rw [ez] at hc
     rw [e4]
     exact ⟨v,H3,I.tok _,rv,hc _ H3 mu3 ((x1.trans x2).trans x3) rd s3⟩
  ·cases hm⟩
end
section
variable {X:Cx} {pins:List (Addr×Obj)} {σ:L2.St} {H:Hp} {s:Shared} {a:Addr} {u v:HO}
end
section
variable {K:Fg1} {H H':Hp} {mu mu':List Addr} {S:Sto} {n:Nat} {a:Addr} {o:Obj} {u:HO}
end
noncomputable def Ris (xs:Array Nat):Prop:=xs.toList.Pairwise (· < ·)
theorem Ris.lt {xs:Array Nat}(h:Ris xs){a b u v:Nat}(hab:a<b)(ea:xs[a]? = some u)(eb:xs[b]? = some v):u<v:=by
 rw [<- aT1] at ea eb
 obtain ⟨la,ea⟩:=gE1.mp ea
 obtain ⟨lb,eb⟩:=gE1.mp eb
 have:=List.pairwise_iff_getElem.mp h a b la lb hab
 rw [ea,eb] at this
 exact this
structure Bs (xs:Array Nat)(j i:Nat):Prop where
 le:i<=xs.size
 lo:∀ k v,xs[k]? = some v->k<i->v<j
 hi:∀ k v,xs[k]? = some v->i<=k->j<=v
theorem Bs.uniq {xs:Array Nat}{j i i':Nat}(h:Bs xs j i)(h':Bs xs j i'):i=i':=by
 rcases Nat.lt_trichotomy i i' with z | z | z
 ·have hs:i<xs.size:=nL1 z h'.le
  have e:=aG1 hs
  have:=h.hi _ _ e (nR1 _);have:=h'.lo _ _ e z;lia
 ·exact z
 ·have hs:i'<xs.size:=nL1 z h.le
  have e:=aG1 hs
  have:=h'.hi _ _ e (nR1 _);have:=h.lo _ _ e z;lia
theorem bs_go {xs:Array Nat}{j:Nat}(hr:Ris xs):∀ n lo hi:Nat,lo<=hi->hi<=xs.size->hi-lo<=n->(∀ k v,xs[k]? = some v->k<lo->v<j)->(∀ k v,xs[k]? = some v->hi<=k->j<=v)->Bs xs j (SetTable.below.go xs j n lo hi)
 | 0,lo,hi,h1,h2,h3,h4,h5=>by
  have:lo=hi:=by lia
  subst this
  exact ⟨h2,h4,h5⟩
 | n + 1,lo,hi,h1,h2,h3,h4,h5=>by
  rw [SetTable.below.go]
  by_cases hl:lo<hi
  ·rw [if_pos hl]
   have hm:(lo+hi)/2<xs.size:=by lia
   have em:=aG1 hm
   have eg:xs.getD ((lo+hi)/2) j=xs[(lo+hi)/2]:=by simp [Array.getD,hm]
   dsimp only
   rw [eg]
   by_cases hc:xs[(lo+hi)/2]<j
   ·rw [if_pos hc]
    refine bs_go hr n _ _ (by lia) h2 (by lia) (fun k v e hk=>?_) h5
    rcases Nat.lt_or_ge k ((lo+hi)/2) with z | z
    ·have:=hr.lt z e em;lia
    ·have:k=(lo+hi)/2:=by lia
     subst this;rw [em] at e;cases e;exact hc
   ·rw [if_neg hc]
    refine bs_go hr n _ _ (by lia) (by lia) (by lia) h4 fun k v e hk=>?_
    rcases Nat.lt_or_ge ((lo+hi)/2) k with z | z
    ·have:=hr.lt z em e;lia
    ·have:k=(lo+hi)/2:=by lia
     subst this;rw [em] at e;cases e;lia
  ·rw [if_neg hl]
   have:lo=hi:=by lia
   subst this
   exact ⟨h2,h4,h5⟩
theorem bs_below {xs:Array Nat}(hr:Ris xs)(j:Nat):Bs xs j (SetTable.below xs j):=
 bs_go hr _ 0 _ (Nat.zero_le _) (nR1 _) (by lia) (fun _ _ _ h=>absurd h (Nat.not_lt_zero _)) fun k v e h=>by
  have:=(Array.getElem?_eq_some_iff.mp e).1;lia
theorem ins_list {α:Type}(xs:Array α)(p:Nat)(x:α):(SetTable.insertAt xs p x).toList=xs.toList.take p++x::xs.toList.drop p:=by
 unfold SetTable.insertAt
 rw [Array.toList_append,Array.toList_push,Array.toList_extract,Array.toList_extract]
 simp [List.extract_eq_drop_take]
 rw [List.take_of_length_le (by simp)]
theorem ris_ins {xs:Array Nat}(hr:Ris xs){j:Nat}(hn:xs[SetTable.below xs j]? ≠ some j):Ris (SetTable.insertAt xs (SetTable.below xs j) j):=by
 have b:=bs_below hr j
 unfold Ris
 rw [ins_list,List.pairwise_append,List.pairwise_cons]
 have lo:∀ v∈xs.toList.take (SetTable.below xs j),v<j:=fun v hv=>by
  obtain ⟨k,hk⟩:=List.getElem?_of_mem hv
  rw [List.getElem?_take] at hk
  split at hk
  ·rename_i hlt
   exact b.lo k v (by rw [<- aT1];exact hk) hlt
  ·cases hk
 have hi:∀ v∈xs.toList.drop (SetTable.below xs j),j<v:=fun v hv=>by
  obtain ⟨k,hk⟩:=List.getElem?_of_mem hv
  rw [List.getElem?_drop,aT1] at hk
  have h1:=b.hi _ v hk (Nat.le_add_right _ _)
  rcases Nat.lt_or_ge j v with z | z
  ·exact z
  ·exfalso
   have hjv:v=j:=by lia
   subst hjv
   cases k with
   | zero=>exact hn hk
   | succ k=>
    have hs:SetTable.below xs v<xs.size:=by have:=(Array.getElem?_eq_some_iff.mp hk).1;lia
    have e:=aG1 hs
    have:=b.hi _ _ e (nR1 _)
    have:=hr.lt (by lia) e hk
    lia
 refine ⟨hr.sublist (List.take_sublist _ _),⟨hi,hr.sublist (List.drop_sublist _ _)⟩,fun a ha c hc=>?_⟩
 rcases List.mem_cons.mp hc with z | z
 ·rw [z];exact lo a ha
 ·exact Nat.lt_trans (lo a ha) (hi c z)
structure TS (l:Bool)(t:SetTable):Prop where
 up:Ris t.place
 du:t.dummies = #[]
 ld:t.led=l
theorem no_dummy {t:SetTable}(hd:t.dummies = #[])(j:Nat):SetTable.has t.dummies j=false:=by rw [hd];rfl
theorem slot_free {t:SetTable}(hd:t.dummies = #[]){f:Nat->Int}{h:Int}:∀ (n:Nat) (p:SetTable.Probe) (j:Nat) (d:Option Nat),p.dummy=none->SetTable.probe.go t f h n p=some (.empty j d)->d=none/\t.place[SetTable.below t.place j]? ≠ some j
 | 0,p,j,d,_,e=>by rw [SetTable.probe.go] at e;cases e
 | n+1,p,j,d,hp,e=>by
  have adv:(t.advance p).dummy=none:=by
   unfold SetTable.advance
   split
   ·exact hp
   ·dsimp only;exact hp
  rw [SetTable.probe.go] at e
  unfold SetTable.slot at e
  dsimp only at e
  rw [no_dummy hd] at e
  by_cases hc:(t.place[SetTable.below t.place p.j]? == some p.j)=true
  ·rw [if_pos hc] at e
   dsimp only at e
   split at e
   ·cases e
   ·exact slot_free hd n _ j d adv e
  ·rw [if_neg hc,if_neg (by decide)] at e
   dsimp only at e
   cases e
   refine ⟨hp,fun z=>hc ?_⟩
   rw [z];simp
theorem free_at {t:SetTable}(hd:t.dummies = #[]){h:Int}{j:Nat}{b:Bool}(e:t.freeSlot h=some (j,b)):t.place[SetTable.below t.place j]? ≠ some j:=by
 unfold SetTable.freeSlot at e
 split at e
 ·rename_i j' d ep
  obtain ⟨rfl,hn⟩:=slot_free hd _ _ _ _ rfl ep
  cases e
  exact hn
 ·cases e
theorem ts_stand {l:Bool}{t:SetTable}(h:TS l t)(n:Nat):TS l (t.standIn n):=by
 refine ⟨?_,rfl,h.ld⟩
 show (Array.range n).toList.Pairwise (· < ·)
 rw [Array.toList_range]
 exact List.pairwise_lt_range
theorem ts_or {l:Bool}{t:SetTable}(h:TS l t)(n:Nat):TS l (t.orStandIn n):=by
 unfold SetTable.orStandIn
 split
 ·exact h
 ·exact ts_stand h n
theorem ts_lay {l:Bool}{t:SetTable}(ht:TS l t)(es:Array (Int×Value))(h:Int)(x:Value):TS l (layNew t es h x).2.1:=by
 unfold layNew
 split
 ·rename_i j b e
  show TS l ((t.put j).1.orStandIn _)
  refine ts_or (t:=(t.put j).1) ⟨?_,?_,ht.ld⟩ _
  ·exact ris_ins ht.up (free_at ht.du e)
  ·show (if SetTable.has t.dummies j=true then _ else t.dummies) = #[]
   rw [no_dummy ht.du,if_neg (by decide)]
   exact ht.du
 ·exact ts_stand ht _
theorem fst_sub {α:Type}(f:Nat->Option α):∀ l:List Nat,((l.filterMap fun j=>(f j).map (j,·)).map (·.1)).Sublist l
 | []=>.slnil
 | a::l=>by
  rw [List.filterMap_cons]
  cases f a with
  | none=>exact (fst_sub f l).cons a
  | some x=>exact (fst_sub f l).cons₂ a
theorem ts_laid {l p:Bool}{m fi mo:Nat}{hs:Array Int}{t:SetTable}{ord:Array Nat}(e:SetTable.laid m fi mo l p hs=some (t,ord)):TS l t:=by
 unfold SetTable.laid at e
 obtain ⟨ow,_,e⟩:=oB1.mp e
 cases e
 refine ⟨?_,rfl,rfl⟩
 unfold Ris
 dsimp only
 exact List.pairwise_lt_range.sublist (by simpa using fst_sub (fun j=>ow.getD j none) (List.range (m+1)))
theorem ts_relay {l:Bool}{t:SetTable}(ht:TS l t)(es:Array (Int×Value))(n:Nat):TS l (relayAll t es n).2.1:=by
 unfold relayAll
 split
 ·rename_i t' ord e
  dsimp only
  split
  ·have:=ts_laid e
   rw [ht.ld] at this
   exact this
  ·exact ts_stand ht _
 ·exact ts_stand ht _
theorem ts_fresh (l:Bool):TS l (SetTable.fresh 0 0 l):=⟨List.Pairwise.nil,rfl,rfl⟩
theorem bs_walk {xs:Array Nat}(hr:Ris xs){i:Nat}(hi:i<xs.size):SetTable.below xs (xs[i]+1)=i+1:=by
 refine (bs_below hr _).uniq ⟨hi,fun k v e hk=>?_,fun k v e hk=>?_⟩
 ·rcases Nat.lt_or_ge k i with z | z
  ·have:=hr.lt z e (aG1 hi);lia
  ·have:k=i:=by lia
   subst this;rw [aG1 hi] at e;cases e;lia
 ·have:=hr.lt (show i<k by lia) (aG1 hi) e;lia
theorem bs_walk0 {xs:Array Nat}(hr:Ris xs):SetTable.below xs 0=0:=
 (bs_below hr _).uniq ⟨Nat.zero_le _,fun k v e hk=>absurd hk (Nat.not_lt_zero _),fun k v e hk=>Nat.zero_le _⟩
noncomputable def kOf (e:Int×Value):Int:=match e.2 with
 | .int k _=>k
 | _=>0
structure Els (es:Array (Int×Value))(ns:List Int):Prop where
 el:∀ e∈es.toList,∃ k t,e=(hashInt k,Value.int k t)
 pm:(es.toList.map kOf).Perm ns
theorem Els.of {P:Program}{w:World}{es:Array (Int×Value)}{ns:List Int}(h:Els es ns):ElemsOf (intKind P w) es.toList:=fun e he=>by
 obtain ⟨k,t,rfl⟩:=h.el e he
 exact ⟨⟨k,intKind_is _ _ _ _,rfl⟩,rfl⟩
theorem Els.size {es:Array (Int×Value)}{ns:List Int}(h:Els es ns):es.size=ns.length:=by
 have:=h.pm.length_eq
 rw [lM1,Array.length_toList] at this
 exact this
theorem Els.perm {es fs:Array (Int×Value)}{ns:List Int}(h:Els es ns)(p:fs.toList.Perm es.toList):Els fs ns:=
 ⟨fun e he=>h.el e (p.mem_iff.mp he),(p.map _).trans h.pm⟩
theorem Els.add {es fs:Array (Int×Value)}{ns:List Int}(h:Els es ns){k:Int}{t:Tok}(p:fs.toList.Perm (es.push (hashInt k,.int k t)).toList):Els fs (ns++[k]):=by
 rw [Array.toList_push] at p
 refine ⟨fun e he=>?_,?_⟩
 ·rcases List.mem_append.mp (p.mem_iff.mp he) with z | z
  ·exact h.el e z
  ·simp at z;exact ⟨k,t,z⟩
 ·refine (p.map _).trans ?_
  rw [List.map_append]
  exact h.pm.append (.refl _)
noncomputable def stO (es:Array (Int×Value))(ep:Nat)(t:SetTable):Obj:={cls:=.type "set",dict:=none,data:=.set es ep t,slots:= #[]}
noncomputable def SetX (b:Bool)(p:Addr)(ns:List Int)(h:Heap):Prop:=∃ es ep t l,h.get? p=some (stO es ep t)/\Els es ns/\es.size<scanBound/\t.fits es.size=true/\TS l t/\(b=false->l=true)
section
variable {P:Program} {w:World} {A:Around} {E:Value->Shared->Prop} {s:Shared} {b:Bool} {p:Addr} {ns:List Int}
theorem put_st {es fs:Array (Int×Value)}{ep:Nat}{t u:SetTable}{h:Heap}(e:h.get? p=some (stO es ep t)):(h.update p (Obj.putSet fs u)).get? p=some (stO fs (ep+1) u):=by
 have:=hW1 (Obj.putSet fs u) e (by rw [putSet_of fs u rfl];rfl)
 rw [putSet_of fs u rfl] at this
 exact this
theorem gw {c:Bool}{Q:Unit->Shared->Prop}(q:Q () s):wpAny (model P w) A (match c with
  | true=>rule "set.scan.the-table-gave-way"
  | false=>pure ()) Q E s:=by cases c<;>first | exact wP1 q | exact wpAny_rule q
theorem addX {k:Int}{tk:Tok}{Q:Bool->Shared->Prop}(hS:SetX b p ns s.heap)(hr:ns.length+1<scanBound)
  (q:∀ c h',Heap.SameBut p s.heap h'->SetX b p (step_dedup ns k) h'->Q c {s with heap:=h'}):wpAny (model P w) A (setAddHashed p (.int k tk) (hashInt k)) Q E s:=by
 obtain ⟨es,ep,t,l,ho,hE,hb,hf,ts,hl⟩:=hS
 have hz:=hE.size
 have el:ElemsOf (intKind P w) es.toList:=hE.of
 unfold setAddHashed setAddHashedIn
 refine wpAny_holding (wB1 (wpAny_setState_of ho rfl hf ?_))
 dsimp only
 rw [byScan_of (knd:=intKind P w) rfl hb el,if_pos rfl]
 unfold setAddByScan
 refine wB1 (wB1 (wpAny_rule (wB1 (wpAny_setScan_of (knd:=intKind P w) (k:=k) (intKind_is _ _ _ _) ho rfl hf el ?_))))
 cases hx:List.findIdx? (fun e=>(intKind P w).is k e.2) es.toList with
 | some j=>
  obtain ⟨hj,hpj,_⟩:=List.findIdx?_eq_some_iff_getElem.mp hx
  have hk:k∈ns:=by
   refine hE.pm.mem_iff.mp (List.mem_map.mpr ⟨_,List.getElem_mem hj,?_⟩)
   obtain ⟨k',t',e⟩:=hE.el _ (List.getElem_mem hj)
   rw [e] at hpj ⊢
   exact ((intKind P w).inj _ _ _ hpj (intKind_is P w k' t')).symm
  have hd:step_dedup ns k=ns:=by unfold step_dedup;rw [if_pos (List.any_eq_true.mpr ⟨k,hk,by simp⟩)]
  rw [hd] at q
  exact wP1 (wP1 (q _ s.heap (Heap.SameBut.refl p s.heap) ⟨es,ep,t,l,ho,hE,hb,hf,ts,hl⟩))
 | none=>
  have hd:step_dedup ns k=ns++[k]:=by
   unfold step_dedup
   rw [if_neg fun z=>?_]
   obtain ⟨k',hk,e⟩:=List.any_eq_true.mp z
   have e:=beq_iff_eq.mp e
   subst e
   obtain ⟨x,hx1,hx2⟩:=List.mem_map.mp (hE.pm.mem_iff.mpr hk)
   obtain ⟨k2,t2,rfl⟩:=hE.el x hx1
   have hx2:k2=k':=hx2
   subst hx2
   have:=List.findIdx?_eq_none_iff.mp hx _ hx1
   rw [show (intKind P w).is k2 (hashInt k2,Value.int k2 t2).2=true from intKind_is _ _ _ _] at this
   cases this
  rw [hd] at q
  have p1:=layNew_perm t es (hashInt k) (.int k tk)
  have f1:=layNew_fits t es (hashInt k) (.int k tk)
  have t1:=ts_lay ts es (hashInt k) (.int k tk)
  dsimp only
  generalize layNew t es (hashInt k) (.int k tk)=L at p1 f1 t1 ⊢
  obtain ⟨fs,u,wd,gv⟩:=L
  dsimp only at p1 f1 t1 ⊢
  have e1:Els fs (ns++[k]):=hE.add p1
  have z1:fs.size<scanBound:=by rw [e1.size,lA1];exact hr
  refine wB1 (gw ?_)
  have tail:∀ (c:Bool),wpAny (model P w) A (do
    storeSet p fs u
    if (!wd&&u.tooFull)=true then do
      (match (relayAll u fs (SetTable.grown fs.size)).2.2 with
       | true=>rule "set.scan.the-table-gave-way"
       | false=>pure ())
      storeSet p (relayAll u fs (SetTable.grown fs.size)).1 (relayAll u fs (SetTable.grown fs.size)).2.1
      pure (some true)
     else pure (some true)) (fun r s'=>wpAny (model P w) A (match r with
      | some added=>pure added
      | none=>setAddHashedIn p (.int k tk) (hashInt k) 99999) Q E s') E s:=fun _=>by
   refine wB1 (wpAny_storeSet_of ho rfl ?_ (fits_of_scanBound z1))
   have o1:=put_st (fs:=fs) (u:=u) ho
   have sb:=Heap.SameBut.update s.heap p (Obj.putSet fs u)
   split
   ·have p2:=relayAll_perm u fs (SetTable.grown fs.size)
    have f2:=relayAll_fits u fs (SetTable.grown fs.size)
    have t2:=ts_relay t1 fs (SetTable.grown fs.size)
    generalize relayAll u fs (SetTable.grown fs.size)=L2 at p2 f2 t2 ⊢
    obtain ⟨gs,v,gv2⟩:=L2
    dsimp only at p2 f2 t2 ⊢
    have e2:=e1.perm p2
    have z2:gs.size<scanBound:=by rw [e2.size,<- e1.size];exact z1
    refine wB1 (gw (wB1 (wpAny_storeSet_of o1 rfl ?_ (fits_of_scanBound z2))))
    exact wP1 (wP1 (q _ _ (sb.trans (Heap.SameBut.update _ p _)) ⟨gs,_,v,l,put_st o1,e2,z2,f2,t2,hl⟩))
   ·exact wP1 (wP1 (q _ _ sb ⟨fs,_,u,l,o1,e1,z1,f1,t1,hl⟩))
  split
  ·refine wB1 (wP1 ?_)
   exact tail true
  ·refine wB1 (wP1 ?_)
   exact tail true
end
section
variable {P:Program} {w:World} {A:Around} {E:Value->Shared->Prop} {s:Shared}
noncomputable def byT (w:World):Bool:=w.params.followText "set-order"
theorem new_set (x:Value){G:Value->Shared->Prop}(q:G (.ref s.heap.objs.size) {s with heap:=s.heap.push (stO #[] 0 (.fresh 0 0 (!byT w)))}):
  codeAny (model P w) A (.call (.builtin "set.__new__") ⟨[.type "set",x],[]⟩) (wants G E) s:=by
 refine codeAny_of_tree (?_:wpAny _ A.in1 (do checkBuiltinCall "set.__new__" ⟨[.type "set",x],[]⟩;again (.builtin "set.__new__" ⟨[.type "set",x],[]⟩)) _ _ s)
 refine wB1 (wpAny_of_eq (PySem.F.newCall_set_1 x) (wP1 ⟨plainId_quiet PySem.F.plain_set_new _,wD1 PySem.F.entry_set_new (?_:_)⟩))
 rw [Around.under_plainId PySem.F.plain_set_new _];unfold Builtin.«set.__new__» Builtin.Frozenset.newClass
 have hsub:=sub_set_self;obtain ⟨hp,g,d,tk,os⟩:=s;dsimp only
 wp_walk
 refine wpAny_askSetting (wP1 (?_:_));dsimp only;simp only [newObj]
 exact wB1 (wpAny_alloc (wP1 (wP1 q)))
set_option maxHeartbeats 3200000 in
theorem call_setL {l:Addr}{its:Array Value}{Q:Value->Shared->Prop}(hl:s.heap.IsList l its)
  (run:∀ A':Around,A'.handled=A.handled -> ∀ R:Result->Shared->Prop,(∀ s',Q (.ref s.heap.objs.size) s'->R (.ok (.ret .none)) s') ->
   codeAny (model P w) A' (.builtin "set.update.loop" ⟨[.ref s.heap.objs.size,.ref (s.heap.objs.size+1)],[]⟩) R {s with heap:=(s.heap.push (stO #[] 0 (.fresh 0 0 (!byT w)))).push {cls:=.type "list_iterator",data:=.fields #[.ref l,.int 0 0]}}):
  wpAny (model P w) A (call (.type "set") [.ref l]) Q E s:=by
 obtain ⟨cc,tt,hmro⟩:=PySem.F.called_set.mro
 have hmade:=PySem.F.called_set.made;have hsub:=PySem.F.called_set.sub
 refine wpAny_call (codeAny_of_tree (?_:wpAny _ _ (callAny (.type "set") _) _ _ _))
 refine wP1 ⟨Code.quiet_builtin _ (by decide+kernel),wD1 PySem.F.entry_type_call (?_:_)⟩
 rw [Around.under_plain (weight_type_call_type "set" [.ref l] []) rfl];have n1:=PySem.F.called_set.notType;have n2:=PySem.F.called_set.canCreate;have n3:=PySem.F.typeCall_set_1 (.ref l)
 repeat (any_goals (first | wp_step | assumption))
 refine codeAny_mono (new_set (.ref l) (E:=E) (G:=fun x s1=>x = .ref s.heap.objs.size/\s1={s with heap:=s.heap.push (stO #[] 0 (.fresh 0 0 (!byT w)))}) ⟨rfl,rfl⟩) fun r s1 hr=>?_
 cases r with
 | error e=>exact hr
 | ok fl=>
  cases fl with
  | ret x=>
   obtain ⟨rfl,rfl⟩:=hr
   have hS:(s.heap.push (stO #[] 0 (.fresh 0 0 (!byT w)))).get? s.heap.objs.size=some (stO #[] 0 (.fresh 0 0 (!byT w))):=hS1 _ rfl
   have hT:Shared.TypeIs {s with heap:=s.heap.push (stO #[] 0 (.fresh 0 0 (!byT w)))} (.ref s.heap.objs.size) "set":=⟨_,hS,rfl⟩
   have n4:=PySem.F.called_set.init.lookup;have n5:=PySem.F.called_set.init.bind (.ref s.heap.objs.size)
   repeat (any_goals (first | wp_step | assumption))
   refine codeAny_mono (codeAny_call_builtin (R:=wants (fun r s2=>r = .none/\Q (.ref s.heap.objs.size) s2) E) PySem.F.called_set.init.plain PySem.F.entry_set_init (check_set_init_1 hT (?_:_))) fun r2 s2 hr2=>?_
   ·obtain ⟨ol,hol,hcl,nl,hdl⟩:=hl
    obtain ⟨oc,od,oa,os⟩:=ol
    simp only at hcl hdl
    subst hcl;subst hdl
    have k1:(s.heap.push (stO #[] 0 (.fresh 0 0 (!byT w)))).get? l=some {cls:=.type "list",dict:=od,data:=.seq its nl,slots:=os}:=hP1 _ hol
    have k2:=PySem.F.sub_list_set;have k3:=PySem.F.sub_list_frozenset;have k4:(Value.type "list" == Value.type "dict")=false:=by decide
    have k5:(s.heap.push (stO #[] 0 (.fresh 0 0 (!byT w)))).IsList l its:=⟨_,k1,rfl,nl,rfl⟩
    have hS':(s.heap.push (stO #[] 0 (.fresh 0 0 (!byT w)))).get? s.heap.objs.size=some {cls:=.type "set",dict:=none,data:=.set #[] 0 (.fresh 0 0 (!byT w)),slots:= #[]}:=hS
    unfold Builtin.«set.__init__» noKeywords Builtin.Frozenset.updateFrom
    generalize hPI:pyIter=PI
    wp_walk
    subst hPI
    refine wpAny_pyIter_list k5 (wB1 (wpAny_runValue (?_:_)))
    dsimp only
    rw [show (s.heap.push (stO #[] 0 (.fresh 0 0 (!byT w)))).objs.size=s.heap.objs.size+1 from by rw [hZ1]]
    refine run A.in1.in1 (by simp) _ fun s' q=>?_
    exact wP1 (wP1 ⟨rfl,q⟩)
   ·cases r2 with
    | error e=>exact hr2
    | ok f2=>
     cases f2 with
     | ret r=>
      obtain ⟨rfl,q⟩:=hr2
      repeat (any_goals (first | wp_step | assumption))
     | _=>exact hr2.elim
  | _=>exact hr.elim
end
section
variable {P:Program} {w:World} {A:Around} {E:Value->Shared->Prop} {b:Bool}
theorem SetX.old {p:Addr}{ns:List Int}{h h':Heap}(x:SetX b p ns h)(k:∀ o,h.get? p=some o->h'.get? p=some o):SetX b p ns h':=by
 obtain ⟨es,ep,t,l,e,r⟩:=x
 exact ⟨es,ep,t,l,k _ e,r⟩
theorem fold_len:∀ (ns acc:List Int),(ns.foldl step_dedup acc).length<=acc.length+ns.length
 | [],acc=>by simp
 | n::ns,acc=>by
  rw [List.foldl_cons]
  have h1:=fold_len ns (step_dedup acc n)
  have h2:(step_dedup acc n).length<=acc.length+1:=by unfold step_dedup;split<;>simp
  rw [lC1];lia
theorem set_loop {p l it:Addr}{its:Array Value}{ns:List Int}{R:Result->Shared->Prop}(hh:A.handled=none)(hI:IntsAre its.toList ns)(hb:ns.length+1<scanBound)(n1:p≠l)(n2:p≠it)(n3:it≠l):
  ∀ (k i:Nat) (s:Shared),its.size-i=k->i<=its.size->s.heap.IsListIter it l i->s.heap.IsList l its->SetX b p ((ns.take i).foldl step_dedup []) s.heap ->
  (∀ h' tk,(∀ c o,c≠p->c≠it->s.heap.get? c=some o->h'.get? c=some o)->SetX b p (ddI ns) h'->R (.ok (.ret .none)) {s with heap:=h',toks:=tk})->codeAny (model P w) A (.builtin "set.update.loop" ⟨[.ref p,.ref it],[]⟩) R s:=by
 have hlen:its.size=ns.length:=by rw [<- Array.length_toList];exact hI.length
 intro k
 induction k with
 | zero=>
  intro i s hk hi st hl hS q
  have e:i=its.size:=by lia
  subst e
  refine wD1 PyProof.Rows.F.entry_set_update_loop (?_:_)
  rw [Around.under_plainId PyProof.Rows.F.plain_set_update_loop _]
  show wpAny _ A.in1 (pyNext (.ref it) >>= _) _ _ s
  refine wB1 (wpAny_pyNext_list_end (by simpa using hh) st hl (by simp) fun h' eb=>wP1 ?_)
  refine q h' s.toks (fun c o _ hc e=>eb c o hc e) ?_
  have:=hS.old (h':=h') fun o e=>eb p o n2 e
  rw [hlen,List.take_length] at this
  exact this
 | succ k ih=>
  intro i s hk hi st hl hS q
  have hlt:i<its.size:=by lia
  have hx:=aG1 hlt
  obtain ⟨t,et⟩:=PyProof.Rows.IntsAre.int_at hI i its[i] (by rw [aT1];exact hx)
  refine wD1 PyProof.Rows.F.entry_set_update_loop (?_:_)
  rw [Around.under_plainId PyProof.Rows.F.plain_set_update_loop _]
  show wpAny _ A.in1 (pyNext (.ref it) >>= _) _ _ s
  refine wB1 (wpAny_pyNext_list_item st hl hx fun h' st' sb=>?_)
  rw [et]
  show wpAny _ A.in1 (holding [Value.int (ns.getD i 0) t] (setAdd p (.int (ns.getD i 0) t)) >>= _) _ _ _
  refine wB1 (wpAny_holding ?_)
  unfold setAdd
  refine wpAny_holding (wB1 (wpAny_pyHash_int ?_))
  have hS':SetX b p ((ns.take i).foldl step_dedup []) h':=hS.old fun o e=>by rw [sb.2 p n2];exact e
  have hfl:=fold_len (ns.take i) []
  refine addX (s:={s with heap:=h',toks:=s.toks+1}) (k:=ns.getD i 0) hS' (by rw [List.length_take,List.length_nil] at hfl;lia) fun c h2 sb2 hS2=>?_
  have hn:ns[i]? = some (ns.getD i 0):=by rw [gG1 (by lia)];simp [List.getD,show i<ns.length by lia]
  have ef:step_dedup ((ns.take i).foldl step_dedup []) (ns.getD i 0)=(ns.take (i+1)).foldl step_dedup []:=by
   rw [List.take_succ,hn,List.foldl_append];rfl
  rw [ef] at hS2
  have kk:∀ c o,c≠p->c≠it->s.heap.get? c=some o->h2.get? c=some o:=fun c o h1 h3 e=>by rw [sb2.2 c h1];show h'.get? c=_;rw [sb.2 c h3];exact e
  have keepIt:∀ o,h'.get? it=some o->h2.get? it=some o:=fun o e=>by rw [sb2.2 it (Ne.symm n2)];exact e
  refine wP1 ⟨plainId_quiet PyProof.Rows.F.plain_set_update_loop _,ih (i+1) {s with heap:=h2,toks:=s.toks+1} (by lia) hlt (st'.at keepIt) ?_ hS2 fun h3 tk k3 x3=>?_⟩
  ·obtain ⟨o,e,r⟩:=hl
   exact ⟨o,kk l o (Ne.symm n1) (Ne.symm n3) e,r⟩
  ·exact q h3 tk (fun c o h1 h4 e=>k3 c o h1 h4 (kk c o h1 h4 e)) x3
theorem call_setI {s:Shared}{l:Addr}{its:Array Value}{ns:List Int}{Q:Value->Shared->Prop}(hh:A.handled=none)(hl:s.heap.IsList l its)(hI:IntsAre its.toList ns)(hb:ns.length+1<scanBound)
  (q:∀ h' tk,(∀ c o,s.heap.get? c=some o->h'.get? c=some o)->SetX (byT w) s.heap.objs.size (ddI ns) h'->Q (.ref s.heap.objs.size) {s with heap:=h',toks:=tk}):wpAny (model P w) A (call (.type "set") [.ref l]) Q E s:=by
 have hlt:l<s.heap.objs.size:=by obtain ⟨o,e,_⟩:=hl;exact hL1 e
 refine call_setL hl fun A' hA R hR=>?_
 have z1:(s.heap.push (stO #[] 0 (.fresh 0 0 (!byT w)))).objs.size=s.heap.objs.size+1:=by rw [hZ1]
 have g1:(s.heap.push (stO #[] 0 (.fresh 0 0 (!byT w)))).get? s.heap.objs.size=some (stO #[] 0 (.fresh 0 0 (!byT w))):=hS1 _ rfl
 refine set_loop (its:=its) (ns:=ns) (b:=byT w) (hA.trans hh) hI hb (nG1 hlt) (nN1 (Nat.lt_succ_self _)) (nG1 (Nat.lt_succ_of_lt hlt)) _ 0 _ rfl (Nat.zero_le _) ?_ ?_ ?_ fun h' tk k x=>hR _ (q h' tk (fun c o e=>k c o (nN1 (hL1 e)) (nN1 (Nat.lt_succ_of_lt (hL1 e))) (hP1 _ (hP1 _ e))) x)
 ·refine ⟨{cls:=.type "list_iterator",data:=.fields #[.ref l,.int 0 0]},?_,rfl,rfl⟩
  have this:((s.heap.push (stO #[] 0 (.fresh 0 0 (!byT w)))).push {cls:=.type "list_iterator",data:=.fields #[.ref l,.int 0 0]}).get? (s.heap.push (stO #[] 0 (.fresh 0 0 (!byT w)))).objs.size=some {cls:=.type "list_iterator",data:=.fields #[.ref l,.int 0 0]}:=hS1 _ rfl
  rw [z1] at this
  exact this
 ·obtain ⟨o,e,r⟩:=hl
  exact ⟨o,hP1 _ (hP1 _ e),r⟩
 ·refine ⟨#[],0,_,!byT w,hP1 _ g1,⟨fun e he=>by simp at he,.refl _⟩,by decide,rfl,ts_fresh _,fun h=>by rw [h];rfl⟩
end
theorem slot_sit:Slot "set_iterator" "__next__" "set_iterator.__next__":=
 .of (owner:="set_iterator") (n:="__next__") (by rw [typeLookup_type,builtinLookup_eq_fast];kernel_rfl) (by decide+kernel) (by decide+kernel) (by decide+kernel) (by first | exact .inl (by decide+kernel) | exact .inr (by decide+kernel)) (by rw [isSubtype_type];kernel_rfl)
theorem entry_sit:entryFor table "set_iterator.__next__"=some Builtin.«set_iterator.__next__» :=entryFor_of_tree (by kernel_rfl)
theorem args_sit (x:Value):argsOk "set_iterator.__next__" ⟨[x],[]⟩:=by unfold argsOk;kernel_rfl
theorem entry_siter:entryFor table "set.__iter__"=some Builtin.«frozenset.__iter__» :=entryFor_alias (id':="frozenset.__iter__") (by kernel_rfl) rfl (by decide+kernel) (by kernel_rfl)
noncomputable abbrev SIs (h:Heap)(it a:Addr)(f:Value)(i n ep:Nat):Prop:=h.get? it=some {cls:=.type "set_iterator",dict:=none,data:=.fields #[f,.int i 0,.ref a,.int n 0,.int ep 0],slots:= #[]}
noncomputable def slotAt (t:SetTable)(i:Nat):Nat:=match i with
 | 0=>0
 | i+1=>t.place.getD i 0+1
inductive Way (w:World)(h:Heap)(a:Addr)(es:Array (Int×Value))(ep:Nat)(t:SetTable):Value->Nat->List Value->Prop
 | txt (b:byT w=true) (i:Nat) (sl:Nat):Way w h a es ep t (.int sl 0) i ((pickOrder (w.params.setOrder a ep) es).toList.map (·.2))
 | drw (b:byT w=false) (d:(!t.plain&&decide (es.size>1))=true) (i:Nat) (tp:Addr) (ps:List Nat) (e:h.get? tp=some {cls:=.type "tuple",data:=.seq (ps.map fun j=>Value.int (j:Nat) 0).toArray}) (pm:ps.Perm (List.range es.size)):Way w h a es ep t (.ref tp) i (ps.map fun j=>(es[j]?.map (·.2)).getD .none)
 | plc (b:byT w=false) (d:(!t.plain&&decide (es.size>1))=false) (ld:t.led=true) (up:Ris t.place) (i:Nat):Way w h a es ep t (.int (slotAt t i) 0) i (es.toList.map (·.2))
theorem pick_perm {α:Type}(f:Nat->Nat):∀ (n k:Nat) (l:List α) (out:Array α),l.length=n->(pickOrder.go f n k l out).toList.Perm (out.toList++l)
 | 0,k,l,out,h=>by
  rw [pickOrder.go,List.length_eq_zero_iff.mp h,List.append_nil]
 | n+1,k,l,out,h=>by
  have hlt:f k%l.length<l.length:=Nat.mod_lt _ (by lia)
  rw [pickOrder.go,gG1 hlt]
  refine (pick_perm f n (k+1) _ _ (by rw [List.length_eraseIdx_of_lt hlt];lia)).trans ?_
  rw [Array.toList_push,List.append_assoc]
  refine List.Perm.append_left _ ?_
  have e1:l=l.take (f k%l.length)++l[f k%l.length]::l.drop (f k%l.length+1):=by rw [List.getElem_cons_drop,List.take_append_drop]
  rw [List.eraseIdx_eq_take_drop_succ]
  refine List.Perm.trans ?_ (List.Perm.of_eq e1.symm)
  exact (List.perm_middle (l₁:=l.take (f k%l.length)) (l₂:=l.drop (f k%l.length+1)) (a:=l[f k%l.length])).symm
theorem Way.perm {w:World}{h:Heap}{a:Addr}{es:Array (Int×Value)}{ep:Nat}{t:SetTable}{f:Value}{i:Nat}{pl:List Value}(y:Way w h a es ep t f i pl):pl.Perm (es.toList.map (·.2)):=by
 cases y with
 | txt=>exact (pick_perm _ _ _ _ _ rfl).map _
 | drw _ _ _ tp ps e pm=>
  refine (pm.map _).trans ?_
  have:(List.range es.size).map (fun j=>(es[j]?.map (·.2)).getD .none)=es.toList.map (·.2):=by
   apply List.ext_getElem?
   intro j
   rw [gP1,gP1,aT1 (xs:=es)]
   by_cases hj:j<es.size
   ·rw [List.getElem?_range hj,oP1,aG1 hj];rfl
   ·rw [List.getElem?_eq_none (by simpa using hj),Array.getElem?_eq_none (by lia)];rfl
  rw [this]
 | plc=>exact .refl _
theorem Way.len {w:World}{h:Heap}{a:Addr}{es:Array (Int×Value)}{ep:Nat}{t:SetTable}{f:Value}{i:Nat}{pl:List Value}(y:Way w h a es ep t f i pl):pl.length=es.size:=by
 rw [y.perm.length_eq,lM1,Array.length_toList]
section
variable {P:Program} {w:World} {A:Around} {E:Value->Shared->Prop} {s:Shared} {it a:Addr} {f:Value} {i ep:Nat} {es:Array (Int×Value)} {t:SetTable} {pl:List Value}
theorem wk_txt {Q:Bool->Shared->Prop}(q:Q (byT w) s):wpAny (model P w) A setsByText Q E s:=by unfold setsByText;exact wB1 (wpAny_askSetting (wP1 q))
theorem sn_txt {sl:Nat}{Q:Option (Value×Nat)->Shared->Prop}(b:byT w=true)(ho:s.heap.get? a=some (stO es ep t))(hf:t.fits es.size=true)(q:Q (((pickOrder (w.params.setOrder a ep) es)[i]?).map fun e=>(e.2,sl)) s):wpAny (model P w) A (setNext a sl i ep) Q E s:=by
 unfold setNext
 refine wB1 (wpAny_setState_of ho rfl hf (wB1 (wk_txt ?_)))
 rw [b,if_pos rfl,if_neg (by simp)]
 refine wB1 ?_
 unfold setWalk
 refine wB1 (wpAny_setState_of ho rfl hf (wB1 (wk_txt ?_)))
 rw [b,if_pos rfl]
 exact wB1 (wpAny_askSetting (wP1 (wP1 q)))
theorem bs_slot (up:Ris t.place)(hi:i<=t.place.size):SetTable.below t.place (slotAt t i)=i:=by
 cases i with
 | zero=>exact bs_walk0 up
 | succ j=>
  have hj:j<t.place.size:=hi
  show SetTable.below t.place (t.place.getD j 0+1)=j+1
  rw [show t.place.getD j 0=t.place[j] from by simp [Array.getD,hj]]
  exact bs_walk up hj
theorem sn_plc {Q:Option (Value×Nat)->Shared->Prop}(b:byT w=false)(d:(!t.plain&&decide (es.size>1))=false)(ld:t.led=true)(up:Ris t.place)(ho:s.heap.get? a=some (stO es ep t))(hf:t.fits es.size=true)(hi:i<=es.size)
  (q:Q ((es[i]?).map fun e=>(e.2,slotAt t (i+1))) s):wpAny (model P w) A (setNext a (slotAt t i) i ep) Q E s:=by
 have hp:t.place.size=es.size:=by
  unfold SetTable.fits at hf
  rw [bA1,beq_iff_eq] at hf
  exact hf.1
 unfold setNext
 refine wB1 (wpAny_setState_of ho rfl hf (wB1 (wk_txt ?_)))
 rw [b,if_neg (by decide)]
 rw [if_neg (fun z=>by have z':(!t.plain&&decide (es.size>1))=true:=z;rw [d] at z';cases z')]
 refine wB1 ?_
 show wpAny _ _ (if (!t.led && !es.isEmpty)=true then _ else _) _ _ _
 rw [if_neg (by rw [ld];simp)]
 refine wP1 ?_
 dsimp only
 rw [bs_slot up (by omega)]
 by_cases hlt:i<es.size
 ·rw [aG1 hlt] at q ⊢
  rw [aG1 (show i<t.place.size by omega)]
  have e1:slotAt t (i+1)=t.place[i]+1:=by
   show t.place.getD i 0+1=_
   rw [show t.place.getD i 0=t.place[i] from by simp [Array.getD,show i<t.place.size by omega]]
  rw [e1] at q
  exact wP1 q
 ·rw [Array.getElem?_eq_none (by omega)] at q ⊢
  exact wP1 q
theorem wk_next {Q:Option Value->Shared->Prop}(hit:SIs s.heap it a f i es.size ep)(ho:s.heap.get? a=some (stO es ep t))(hf:t.fits es.size=true)(y:Way w s.heap a es ep t f i pl){x:Value}(hx:pl[i]? = some x)(nt:∀ tp,f = .ref tp->tp≠it)
  (q:∀ h' f',SIs h' it a f' (i+1) es.size ep->(∀ c o,c≠it->s.heap.get? c=some o->h'.get? c=some o)->Way w h' a es ep t f' (i+1) pl->(∀ tp,f' = .ref tp->f = .ref tp)->Q (some x) {s with heap:=h'}):wpAny (model P w) A (pyNext (.ref it)) Q E s:=by
 have hT:s.TypeIs (.ref it) "set_iterator":=⟨_,hit,rfl⟩
 unfold pyNext
 refine wB1 (wpAny_attempt (wpAny_callSpecial?_slot (name:=Str.ofString "__next__") hT slot_sit (wE1 slot_sit hT entry_sit ?_ (args_sit _))))
 refine wB1 (wP1 (wB1 (wpAny_fieldsOf hit rfl ?_)))
 dsimp only
 refine wB1 (wpAny_setEntries_of ho rfl hf ?_)
 rw [if_neg (by simp)]
 have hlt:i<es.size:=by have:=(gE1.mp hx).1;rw [y.len] at this;exact this
 have two:∀ (f':Value),(∀ tp,f' = .ref tp->f = .ref tp)->(∀ h',(∀ c o,c≠it->s.heap.get? c=some o->h'.get? c=some o)->Way w h' a es ep t f' (i+1) pl) ->
   wpAny (model P w) A.in1 (setField (.ref it) 0 f' >>= fun _=>setField (.ref it) 1 (rawInt ((i:Int)+1)) >>= fun _=>ret x) (fun fin s'=>∃ v,fin=Fin.done (Flow.ret v)/\wpAny (model P w) A (pure (some v)) Q E s') (fun e s'=>wpAny (model P w) A (do
     let y<-isInstance e (.type "StopIteration")
     if y=true then pure none else throw e) Q E s') s:=fun f' nf wy=>by
  refine wB1 (wS1 hit (by simp) fun h1 g1 sb1=>wB1 (wS1 (s:={s with heap:=h1}) g1 (by simp) fun h2 g2 sb2=>wP1 ⟨_,rfl,wP1 ?_⟩))
  have kk:∀ c o,c≠it->s.heap.get? c=some o->h2.get? c=some o:=fun c o hc e=>sb2.extBut c o hc (sb1.extBut c o hc e)
  refine q h2 f' ?_ kk (wy h2 kk) nf
  have e:((i+1:Nat):Int)=(i:Int)+1:=by lia
  unfold SIs;rw [e];simpa [rawInt] using g2
 cases y with
 | txt b _ sl=>
  refine wB1 (sn_txt (i:=i) (sl:=sl) (ep:=ep) b ho hf ?_)
  rw [gP1,aT1] at hx
  obtain ⟨e,he,rfl⟩:=oM1.mp hx
  rw [he]
  exact two (.int sl 0) (fun tp z=>by cases z) fun h' _=>.txt b _ sl
 | plc b d ld up _=>
  refine wB1 (sn_plc (i:=i) b d ld up ho hf (by lia) ?_)
  rw [gP1,aT1] at hx
  obtain ⟨e,he,rfl⟩:=oM1.mp hx
  rw [he]
  exact two (.int (slotAt t (i+1)) 0) (fun tp z=>by cases z) fun h' _=>.plc b d ld up _
 | drw b d _ tp ps e pm=>
  rw [gP1] at hx
  obtain ⟨j,hj,rfl⟩:=oM1.mp hx
  have hjs:j<es.size:=by have:=pm.mem_iff.mp (gM1 hj);simpa using this
  refine wB1 (wpAny_seqItems e rfl ?_)
  have hpl:((ps.map fun j=>Value.int (j:Nat) 0).toArray)[((i:Int)).toNat]? = some (.int (j:Nat) 0):=by
   rw [Int.toNat_natCast,List.getElem?_toArray,gP1,hj];rfl
  dsimp only
  rw [hpl]
  dsimp only
  refine wB1 ?_
  unfold setNextDrawn
  refine wB1 (wpAny_setState_of ho rfl hf ?_)
  dsimp only
  rw [if_neg (by simp),Int.toNat_natCast,aG1 hjs]
  refine wP1 (wB1 (wS1 hit (by simp) fun h2 g2 sb2=>wP1 ⟨_,rfl,wP1 ?_⟩))
  have kk:∀ c o,c≠it->s.heap.get? c=some o->h2.get? c=some o:=fun c o hc e=>sb2.extBut c o hc e
  have q':=q h2 (.ref tp) ?_ kk (.drw b d _ tp ps (kk tp _ (nt tp rfl) e) pm) fun _ z=>z
  ·rw [aG1 hjs] at q'
   exact q'
  ·have e:((i+1:Nat):Int)=(i:Int)+1:=by lia
   unfold SIs;rw [e];simpa [rawInt] using g2
end
section
variable {P:Program} {w:World} {A:Around} {E:Value->Shared->Prop} {s:Shared} {it a:Addr} {f:Value} {i ep:Nat} {es:Array (Int×Value)} {t:SetTable} {pl:List Value}
theorem stop_W {Q:Option Value->Shared->Prop}{G:Fin->Shared->Prop}(hh:A.handled=none)(q:∀ h',(∀ c o,s.heap.get? c=some o->h'.get? c=some o)->Q none {s with heap:=h'}):
  wpAny (model P w) A.in1 (newExc (.type "StopIteration") [] >>= fun e=>raiseNew e) G (fun e s'=>wpAny (model P w) A (do
     let y<-isInstance e (.type "StopIteration")
     if y=true then pure none else throw e) Q E s') s:=by
 refine wB1 ?_
 simp only [newExc,newTuple]
 refine wB1 (wO1 ?_ (by size_fits));refine wB1 (m:=firstArgMember _ _) (wpAny_of_eq (a:=Value.none) (by first | rfl | (simp only [firstArgMember];rfl)) ?_)
 refine wO1 ?_ (by size_fits);simp only [raiseNew];refine wB1 (wpAny_handled ?_);rw [show A.in1.handled=none from hh]
 refine wB1 (wP1 (wpAny_throw (?_:_)))
 refine wB1 (wpAny_isInstance (b:=true) (T:="StopIteration") ⟨_,hS1 _ rfl,rfl⟩ isSubtype_stop (?_:_))
 exact wP1 (q _ fun b o e=>hP1 _ (hP1 _ e))
theorem wk_end {Q:Option Value->Shared->Prop}(hh:A.handled=none)(hit:SIs s.heap it a f es.size es.size ep)(ho:s.heap.get? a=some (stO es ep t))(hf:t.fits es.size=true)(y:Way w s.heap a es ep t f es.size pl)
  (q:∀ h',(∀ c o,c≠it->s.heap.get? c=some o->h'.get? c=some o)->Q none {s with heap:=h'}):wpAny (model P w) A (pyNext (.ref it)) Q E s:=by
 have hT:s.TypeIs (.ref it) "set_iterator":=⟨_,hit,rfl⟩
 unfold pyNext
 refine wB1 (wpAny_attempt (wpAny_callSpecial?_slot (name:=Str.ofString "__next__") hT slot_sit (wE1 slot_sit hT entry_sit ?_ (args_sit _))))
 refine wB1 (wP1 (wB1 (wpAny_fieldsOf hit rfl ?_)))
 dsimp only
 refine wB1 (wpAny_setEntries_of ho rfl hf ?_)
 rw [if_neg (by simp)]
 have hlen:=y.len
 cases y with
 | txt b _ sl=>
  refine wB1 (sn_txt (i:=es.size) (sl:=sl) (ep:=ep) b ho hf ?_)
  rw [Array.getElem?_eq_none (by rw [lM1,Array.length_toList] at hlen;lia)]
  refine wB1 (wS1 hit (by simp) fun h1 g1 sb1=>?_)
  exact stop_W (s:={s with heap:=h1}) hh fun h' k=>q h' fun c o hc e=>k c o (sb1.extBut c o hc e)
 | plc b d ld up _=>
  refine wB1 (sn_plc (i:=es.size) (ep:=ep) b d ld up ho hf (nR1 _) ?_)
  rw [Array.getElem?_eq_none (nR1 _)]
  refine wB1 (wS1 hit (by simp) fun h1 g1 sb1=>?_)
  exact stop_W (s:={s with heap:=h1}) hh fun h' k=>q h' fun c o hc e=>k c o (sb1.extBut c o hc e)
 | drw b d _ tp ps e pm=>
  refine wB1 (wpAny_seqItems e rfl ?_)
  have hpl:((ps.map fun j=>Value.int (j:Nat) 0).toArray)[((es.size:Int)).toNat]? = none:=by
   rw [Int.toNat_natCast,List.getElem?_toArray,List.getElem?_eq_none (by rw [lM1] at hlen ⊢;lia)]
  dsimp only
  rw [hpl]
  dsimp only
  refine wB1 (wS1 hit (by simp) fun h1 g1 sb1=>?_)
  refine wB1 (wS1 (s:={s with heap:=h1}) g1 (by simp) fun h2 g2 sb2=>?_)
  exact stop_W (s:={s with heap:=h2}) hh fun h' k=>q h' fun c o hc e=>k c o (sb2.extBut c o hc (sb1.extBut c o hc e))
theorem choose_W {src:Source}{n:Nat}{Q:Nat->Shared->Prop}(hn:n≠0)(q:∀ i dr,i<n->Q i {s with drawn:=dr}):wpAny (model P w) A (choose src n) Q E s:=fun Γ p hΓ=>by
 unfold choose
 rw [Sem.wp_choose]
 refine ⟨hn,?_⟩
 exact wP1 (A:=A) (E:=E) (q _ _ (Nat.mod_lt _ (Nat.pos_of_ne_zero hn))) Γ p hΓ
theorem draw_W {α:Type}:∀ (n:Nat) (xs:List α) (s:Shared) (Q:List α->Shared->Prop),xs.length=n->(∀ ys dr,ys.Perm xs->Q ys {s with drawn:=dr})->wpAny (model P w) A (drawOrder n xs) Q E s
 | 0,xs,s,Q,h,q=>by
  have:=List.length_eq_zero_iff.mp h
  subst this
  exact wP1 (q [] s.drawn (.refl _))
 | n+1,[],s,Q,h,q=>by simp at h
 | n+1,x::xs,s,Q,h,q=>by
  rw [drawOrder]
  refine wB1 (choose_W (by simp) fun i dr hi=>?_)
  rw [gG1 hi]
  dsimp only
  refine wB1 (draw_W n _ _ _ (by rw [List.length_eraseIdx_of_lt hi];lia) fun ys dr' pm=>wP1 (q _ dr' ?_))
  refine (pm.cons _).trans ?_
  have e1:x::xs=(x::xs).take i++(x::xs)[i]::(x::xs).drop (i+1):=by rw [List.getElem_cons_drop,List.take_append_drop]
  rw [List.eraseIdx_eq_take_drop_succ]
  refine List.Perm.trans ?_ (List.Perm.of_eq e1.symm)
  exact List.perm_middle.symm
  all_goals simp
theorem wk_iter {l:Bool}{Q:Value->Shared->Prop}(ho:s.heap.get? a=some (stO es ep t))(hf:t.fits es.size=true)(hz:es.size<scanBound)(ts:TS l t)(hl:byT w=false->l=true)
  (q:∀ it h' dr f pl,(∀ c o,s.heap.get? c=some o->h'.get? c=some o)->s.heap.objs.size<=it->SIs h' it a f 0 es.size ep->Way w h' a es ep t f 0 pl->(∀ tp,f = .ref tp->tp≠it/\s.heap.objs.size<=tp)->Q (.ref it) {s with heap:=h',drawn:=dr}):
  wpAny (model P w) A (pyIter (.ref a)) Q E s:=by
 have hT:s.TypeIs (.ref a) "set":=⟨_,ho,rfl⟩
 refine wpAny_pyIter_slot hT PySem.F.slot_set_iter (wE1 PySem.F.slot_set_iter hT entry_siter ?_ (PySem.F.args_set_iter_1 _))
 unfold Builtin.«frozenset.__iter__»
 refine wB1 (m:=Builtin.Frozenset.slot0 _ _) (wP1 ?_)
 unfold Builtin.Frozenset.sizeOf
 refine wB1 (wB1 (wpAny_setEntries_of ho rfl hf (wP1 ?_)))
 unfold setDrawn
 refine wB1 (wB1 (wpAny_setState_of ho rfl hf (wB1 (wk_txt (wP1 ?_)))))
 show wpAny _ _ (if (!byT w&&(!t.plain&&decide (es.size>1)))=true then _ else _) _ _ _
 have fin:∀ (h1:Heap) (dr:Drawn) (f:Value) (pl:List Value),(∀ c o,s.heap.get? c=some o->h1.get? c=some o)->s.heap.objs.size<=h1.objs.size->(∀ tp,f = .ref tp->tp<h1.objs.size/\s.heap.objs.size<=tp)->(∀ h',(∀ c o,h1.get? c=some o->h'.get? c=some o)->Way w h' a es ep t f 0 pl) ->
   wpAny (model P w) A.in1 (setEpoch a >>= fun e=>newFields "set_iterator" [f,rawInt 0,.ref a,rawInt es.size,rawInt e] >>= fun r=>ret r) (fun fin s'=>∃ r,fin=Fin.done (Flow.ret r) /\ ∃ T g,s'.TypeIs r T/\typeLookup (.type T) "__next__"=pure (some g)/\Q r s') E {s with heap:=h1,drawn:=dr}:=by
  intro h1 dr f pl k1 hz1 hf1 wy
  refine wB1 (wpAny_setEpoch_of (k1 a _ ho) rfl hf (wB1 (wO1 (wP1 ⟨_,rfl,"set_iterator",_,⟨_,hS1 _ rfl,rfl⟩,slot_sit.lookup,?_⟩) (by size_fits))))
  refine q h1.objs.size _ dr f pl (fun c o e=>hP1 _ (k1 c o e)) hz1 ?_ (wy _ fun c o e=>hP1 _ e) fun tp e=>⟨nN1 (hf1 tp e).1,(hf1 tp e).2⟩
  have:=hS1 h1 (o:={cls:=.type "set_iterator",data:=.fields #[f,.int 0 0,.ref a,.int es.size 0,.int ep 0]}) rfl
  exact this
 by_cases hb:byT w=true
 ·rw [if_neg (by rw [hb];simp)]
  refine wB1 (wP1 ?_)
  exact fin s.heap s.drawn _ _ (fun _ _ e=>e) (nR1 _) (fun tp z=>by cases z) fun h' _=>.txt hb 0 0
 ·have hb:byT w=false:=by simpa using hb
  by_cases hd:(!t.plain&&decide (es.size>1))=true
  ·rw [if_pos (by rw [hb,hd];rfl)]
   refine wB1 (draw_W es.size (List.range es.size) s _ (by simp) fun ys dr pm=>?_)
   refine wB1 (m:=newTuple _) (wO1 (s:={s with drawn:=dr}) ?_ ?_)
   ·refine fin (s.heap.push {cls:=.type "tuple",data:=.seq (ys.map fun (i:Nat)=>rawInt i).toArray}) dr (.ref s.heap.objs.size) (ys.map fun j=>(es[j]?.map (·.2)).getD .none) (fun c o e=>hP1 _ e) (by rw [hZ1];exact Nat.le_succ _) (fun tp z=>by cases z;exact ⟨by rw [hZ1];exact Nat.lt_succ_self _,nR1 _⟩) fun h' k=>?_
    exact .drw hb hd 0 _ ys (k _ _ (hS1 _ rfl)) pm
   ·have:=pm.length_eq
    have hz2:=fits_of_scanBound hz
    simp [sizeOk,this,hz2]
  ·have hd:(!t.plain&&decide (es.size>1))=false:=by simpa using hd
   rw [if_neg (by rw [hd];simp)]
   refine wB1 (wP1 ?_)
   exact fin s.heap s.drawn _ _ (fun _ _ e=>e) (nR1 _) (fun tp z=>by cases z) fun h' _=>.plc hb hd (by rw [ts.ld];exact hl hb) ts.up 0
end
theorem Way.keep {w:World}{h h':Heap}{a:Addr}{es:Array (Int×Value)}{ep:Nat}{t:SetTable}{f:Value}{i:Nat}{pl:List Value}(y:Way w h a es ep t f i pl)(k:∀ tp o,f = .ref tp->h.get? tp=some o->h'.get? tp=some o):Way w h' a es ep t f i pl:=by
 cases y with
 | txt b _ sl=>exact .txt b _ sl
 | drw b d _ tp ps e pm=>exact .drw b d _ tp ps (k tp _ rfl e) pm
 | plc b d ld up _=>exact .plc b d ld up _
section
variable {P:Program} {w:World} {A:Around} {E:Value->Shared->Prop}
theorem wk_loop {it a S:Addr}{ep:Nat}{es:Array (Int×Value)}{t:SetTable}{pl:List Value}{res:Value}{R:Result->Shared->Prop}(hh:A.handled=none)(hf:t.fits es.size=true)(h1:it≠a)(h2:S≠a)(h3:S≠it)(hn:es.size<=sizeLine):
  ∀ (k i:Nat) (s:Shared) (f:Value) (acc:Array Value) (c:Nat),es.size-i=k->i<=es.size->SIs s.heap it a f i es.size ep->s.heap.get? a=some (stO es ep t)->Way w s.heap a es ep t f i pl->(∀ tp,f = .ref tp->tp≠it/\tp≠S) ->
  s.heap.get? S=some {cls:=.type "list",dict:=none,data:=.seq acc c,slots:= #[]}->acc.toList=pl.take i ->
  (∀ h' acc' c',(∀ b u,b≠it->b≠S->s.heap.get? b=some u->h'.get? b=some u)->h'.get? S=some {cls:=.type "list",dict:=none,data:=.seq acc' c',slots:= #[]}->acc'.toList=pl->R (.ok (.ret res)) {s with heap:=h'}) ->
  codeAny (model P w) A (.builtin "list.extend.loop" ⟨[.ref S,.ref it,res],[]⟩) R s:=by
 intro k
 induction k with
 | zero=>
  intro i s f acc c hk hi hit ha y nt hS hp hR
  have e:i=es.size:=by lia
  subst e
  have hlen:=y.len
  refine wD1 PySem.F.entry_extend_loop (?_:_)
  rw [Around.under_plainId PySem.F.plain_extend_loop _]
  show wpAny _ A.in1 (pyNext (.ref it) >>= _) _ _ s
  refine wB1 (wk_end hh hit ha hf y fun h' keep=>wP1 ?_)
  exact hR h' acc c (fun b u hb _ e=>keep b u hb e) (keep S _ h3 hS) (by rw [hp,<- hlen,List.take_length])
 | succ k ih=>
  intro i s f acc c hk hi hit ha y nt hS hp hR
  have hlt:i<es.size:=by lia
  have hlen:=y.len
  obtain ⟨x,hx⟩:∃ x,pl[i]? = some x:=⟨_,gG1 (by lia)⟩
  have hal:acc.size=i:=by rw [<- Array.length_toList,hp,List.length_take];lia
  refine wD1 PySem.F.entry_extend_loop (?_:_)
  rw [Around.under_plainId PySem.F.plain_extend_loop _]
  show wpAny _ A.in1 (pyNext (.ref it) >>= _) _ _ s
  refine wB1 (wk_next hit ha hf y hx (fun tp e=>(nt tp e).1) fun h' f' hit' keep y' nf=>?_)
  have hS':=keep S _ h3 hS
  show wpAny _ A.in1 (updateSeq S (·.push x) >>= _) _ _ _
  refine wB1 (wpAny_updateSeq (s:={s with heap:=h'}) hS' rfl ?_ (by rw [hal];lia) (by show (acc.push _).size<=sizeLine+1;rw [Array.size_push,hal];lia))
  have oth:∀ b u,b≠S->h'.get? b=some u->(h'.update S (Obj.mapSeq (·.push x))).get? b=some u:=fun b u hb e=>by rw [hU1 _ _ _ _ hb];exact e
  refine wP1 ⟨plainId_quiet PySem.F.plain_extend_loop _,ih (i+1) {s with heap:=h'.update S (Obj.mapSeq (·.push x))} f' (acc.push x) _ (by lia) hlt (oth it _ (Ne.symm h3) hit') (oth a _ (Ne.symm h2) (keep a _ (Ne.symm h1) ha)) (y'.keep fun tp o e q=>oth tp o (nt tp (nf tp e)).2 q) (fun tp e=>nt tp (nf tp e)) (hW1 _ hS' rfl) ?_ ?_⟩
  ·rw [Array.toList_push,hp,List.take_succ,hx];rfl
  ·intro h'' acc' c' keep2 hS2 hp2
   exact hR h'' acc' c' (fun b u hb hb2 e=>keep2 b u hb hb2 (oth b u hb2 (keep b u hb e))) hS2 hp2
theorem set_len0:typeLookup (.type "set") "__len__"=pure (some (.builtin "set.__len__")):=by rw [typeLookup_type,builtinLookup_eq_fast];kernel_rfl
theorem wk_hint {s:Shared}{v:Addr}{Q:Bool->Shared->Prop}(hT:s.TypeIs (.ref v) "set")(q:Q false s):wpAny (model P w) A (Builtin.List.listLengthHint (.ref v)) Q E s:=by
 unfold Builtin.List.listLengthHint
 refine wB1 (wpAny_specialOf hT set_len0 (?_:_));generalize hid:("set.__len__":String)=id0
 wp_delta
 rw [show splitId id0=some ("set","__len__") from by subst hid;decide+kernel];subst hid
 refine wB1 (wpAny_isInstance (b:=true) hT (by rw [isSubtype_type];kernel_rfl) (?_:_));rw [if_neg (by decide)];dsimp only;rw [if_pos (by decide+kernel)]
 exact wB1 (wpAny_typeOf hT (wP1 q))
theorem wk_collect {s:Shared}{a:Addr}{ns:List Int}{Q:List Value->Shared->Prop}(hh:A.handled=none)(hx:SetX (byT w) a ns s.heap)
  (q:∀ h' dr vs ms,(∀ b u,s.heap.get? b=some u->h'.get? b=some u)->s.heap.objs.size<=h'.objs.size->IntsAre vs ms->ms.Perm ns->Q vs {s with heap:=h',drawn:=dr}):wpAny (model P w) A (collect (.ref a)) Q E s:=by
 obtain ⟨es,ep,t,l,ha,hE,hz,hf,ts,hl⟩:=hx
 have hal:a<s.heap.objs.size:=hL1 ha
 unfold collect
 refine wB1 (wpAny_runValue (wD1 PySem.F.entry_proto_collect (?_:_)))
 rw [Around.under_plainId PySem.F.plain_proto_collect _]
 show wpAny _ A.in1 (newList [] >>= fun l=>again (.builtin "list.__iadd__" ⟨[l,.ref a],[]⟩)) _ _ s
 refine wB1 (wO1 (?_:_))
 refine wP1 ⟨plainId_quiet PySem.F.plain_list_iadd _,wD1 PySem.F.entry_list_iadd (?_:_)⟩
 rw [Around.under_plainId PySem.F.plain_list_iadd _]
 have hS₁:(s.heap.push {cls:=.type "list",data:=.seq ([]:List Value).toArray}).get? s.heap.objs.size=some {cls:=.type "list",data:=.seq ([]:List Value).toArray}:=hS1 _ rfl
 have k₁:∀ b u,s.heap.get? b=some u->(s.heap.push {cls:=.type "list",data:=.seq ([]:List Value).toArray}).get? b=some u:=fun b u e=>hP1 _ e
 have hz₁:(s.heap.push {cls:=.type "list",data:=.seq ([]:List Value).toArray}).objs.size=s.heap.objs.size+1:=by rw [hZ1]
 have hne:s.heap.objs.size≠a:=nG1 hal
 have h1:Builtin.List.listSameRef (.ref s.heap.objs.size) (.ref a)=false:=by simp [Builtin.List.listSameRef,hne]
 show wpAny _ A.in1 (Builtin.List.listExtendWith (.ref s.heap.objs.size) (.ref a) (.ref s.heap.objs.size)) _ _ {s with heap:=s.heap.push {cls:=.type "list",data:=.seq ([]:List Value).toArray}}
 generalize s.heap.push {cls:=.type "list",data:=.seq ([]:List Value).toArray}=h₁ at *
 unfold Builtin.List.listExtendWith
 refine wB1 (wpAny_typeOf (T:="set") ⟨_,k₁ a _ ha,rfl⟩ ?_)
 rw [if_neg (by rw [h1];decide)]
 refine wB1 (wk_iter (s:={s with heap:=h₁}) (k₁ a _ ha) hf hz ts hl fun it h₂ dr f pl k₂ hit0 hit y nt=>?_)
 dsimp only at k₂ hit0 nt
 have hS₂:=k₂ _ _ hS₁
 have hT₂:Shared.TypeIs {s with heap:=h₂,drawn:=dr} (.ref a) "set":=⟨_,k₂ _ _ (k₁ a _ ha),rfl⟩
 refine wB1 (wpAny_holding (wk_hint hT₂ ?_))
 rw [if_pos (by decide+kernel)]
 refine wB1 (wpAny_rule (wB1 ?_))
 show wpAny _ A.in1 (updateSeq s.heap.objs.size (·.push .none) >>= fun _=>updateSeq s.heap.objs.size (·.pop)) _ _ _
 refine wB1 (wpAny_updateSeq (s:={s with heap:=h₂,drawn:=dr}) hS₂ rfl ?_)
 have hS₃:=hW1 (Obj.mapSeq (·.push Value.none)) hS₂ rfl
 refine wpAny_updateSeq (s:={s with heap:=h₂.update s.heap.objs.size (Obj.mapSeq (·.push Value.none)),drawn:=dr}) hS₃ rfl ?_
 have hS₄:=hW1 (Obj.mapSeq (·.pop)) hS₃ rfl
 have oth:∀ b u,b≠s.heap.objs.size->h₂.get? b=some u->((h₂.update s.heap.objs.size (Obj.mapSeq (·.push Value.none))).update s.heap.objs.size (Obj.mapSeq (·.pop))).get? b=some u:=fun b u hb e=>by
  rw [hU1 _ _ _ _ hb,hU1 _ _ _ _ hb];exact e
 rw [hz₁] at hit0 nt
 have pm:=y.perm
 refine wP1 ⟨plainId_quiet PySem.F.plain_extend_loop _,wk_loop (it:=it) (pl:=pl) hh hf (nG1 (Nat.lt_trans hal hit0)) (nG1 hal) (nN1 hit0) (fits_of_scanBound hz) es.size 0
  {s with heap:=(h₂.update s.heap.objs.size (Obj.mapSeq (·.push Value.none))).update s.heap.objs.size (Obj.mapSeq (·.pop)),drawn:=dr} f _ _ rfl (Nat.zero_le _) (oth _ _ (nG1 hit0) hit) (oth a _ (nN1 hal) (k₂ _ _ (k₁ a _ ha))) (y.keep fun tp o e q=>oth tp o (nG1 (nt tp e).2) q) (fun tp e=>⟨(nt tp e).1,nG1 (nt tp e).2⟩) hS₄ rfl fun h' acc' c' keep hS' hp=>?_⟩
 show wpAny _ A (load s.heap.objs.size >>= _) _ _ {s with heap:=h',drawn:=dr}
 refine wB1 (wpAny_load hS' ?_)
 have hI:∀ v∈pl,∃ k t,v=Value.int k t:=fun v hv=>by
  obtain ⟨e,he,rfl⟩:=List.mem_map.mp (pm.mem_iff.mp hv)
  obtain ⟨k,t,rfl⟩:=hE.el e he
  exact ⟨k,t,rfl⟩
 have all:∀ vs:List Value,(∀ v∈vs,∃ k t,v=Value.int k t)->IntsAre vs (vs.map fun v=>kOf (0,v)):=by
  intro vs
  induction vs with
  | nil=>intro _;exact .nil
  | cons v vs ih=>
   intro hv
   obtain ⟨k,t,rfl⟩:=hv v mS1
   exact .cons k t (ih fun u hu=>hv u (mC1 _ hu))
 refine wP1 (q h' dr acc'.toList (pl.map fun v=>kOf (0,v)) (fun b u e=>?_) (Nat.le_of_lt (hL1 hS')) (by rw [hp];exact all pl hI) ?_)
 ·have hb:=hL1 e
  exact keep b u (nN1 (Nat.lt_trans hb hit0)) (nN1 hb) (oth b u (nN1 hb) (k₂ _ _ (k₁ b u e)))
 ·refine (pm.map _).trans ?_
  rw [List.map_map]
  exact hE.pm
theorem sorted_setI {s:Shared}{a:Addr}{ns:List Int}{Q:Value->Shared->Prop}(hh:A.handled=none)(hx:SetX (byT w) a ns s.heap)(h64:ns.length<64)
  (q:∀ h' dr L n out,(∀ b u,s.heap.get? b=some u->h'.get? b=some u)->s.heap.objs.size<=L->h'.get? L=some (seqObj "list" out n)->IntsAre out.toList (sortI ns)->Q (.ref L) {s with heap:=h',drawn:=dr}):
  wpAny (model P w) A (call (.builtin "sorted") [.ref a]) Q E s:=by
 refine Calls.call_function_entry kind_sorted plain_sorted entry_sorted (args_sorted1 _) (?_:_)
 unfold Builtin.«sorted»
 refine wB1 (m:=checkCount "sorted" 1 1 _) (wP1 (wB1 (wk_collect hh hx fun h' dr vs ms keep hz hI pm=>?_)))
 have hlen:vs.length<64:=by rw [hI.length,pm.length_eq];exact h64
 refine wB1 (wpAny_newList (hsz:=by rw [sizeLine_eq];lia) ?_)
 have hoL:(h'.push (seqObj "list" vs.toArray 0)).get? h'.objs.size=some (seqObj "list" vs.toArray 0):=hS1 _ rfl
 show wpAny _ _ _ _ _ {s with heap:=h'.push (seqObj "list" vs.toArray 0),drawn:=dr}
 refine wB1 (wpAny_holding (wE1 slot_list_sort ⟨_,hoL,rfl⟩ entry_list_sort (list_sort_tree (s:={s with heap:=h'.push (seqObj "list" vs.toArray 0),drawn:=dr}) hoL hI hlen fun out ns' a1 a2 a3=>⟨_,rfl,?_⟩) (args_list_sort _)))
 have en:ns'=sortI ns:=pw_uniq (a2.trans (pm.trans (sortI_perm ns).symm)) a3 (sortI_pw ns)
 subst en
 obtain ⟨n,hat⟩:=sortedHeap_at (out:=out) hoL
 refine wP1 ⟨_,rfl,q _ dr h'.objs.size n out (fun b u e=>?_) hz hat a1⟩
 have e':=keep b u e
 show (sortedHeap (h'.push (seqObj "list" vs.toArray 0)) h'.objs.size vs out).get? b=some u
 rw [sortedHeap_old (nN1 (hL1 e')) (by rw [hZ1];exact Nat.lt_succ_of_lt (hL1 e'))]
 exact hP1 _ e'
end
noncomputable def gSortSet:G1:=fun d S=>match seqOf S d with
 | some (true,xs)=>(intsOf xs).bind fun ns=>if ns.length<64 then some (.ref S.length,S++[.lst ((sortI (ddI ns)).map D.int)]) else none
 | _=>none
section
variable {X:Cx}
noncomputable def rSetX (X:Cx)(vs:List V)(H:Hp)(Q:VK):Prop:=∃ a xs ns,vs=[.ref a]/\SqL X.K H a xs/\(∀ us,Vals xs us->IntsAre us ns)/\ns.length+1<scanBound /\ ∀ p,H p=none->Q (.ref p) (upd H p (.ext (SetX (byT X.w) p (ddI ns))))
noncomputable def rSortX (X:Cx)(vs:List V)(H:Hp)(Q:VK):Prop:=∃ a ns,vs=[.ref a]/\H a=some (.ext (SetX (byT X.w) a ns))/\ns.length<64 /\ ∀ p,H p=none->Q (.ref p) (upd H p (.lst ((sortI ns).map V.int)))
theorem inv_drawn {pins:List (Addr×Obj)}{σ:L2.St}{H:Hp}{s:Shared}(I:Inv X pins σ H s)(d:Drawn):Inv X pins σ H {s with drawn:=d}:=⟨I.ok,I.os,I.bare,I.base,I.loc,I.cell,I.free,I.freeC,I.pin,I.hok,I.len⟩
theorem c_setX (hc:X.calm=true):CallR X (.type "set") (rSetX X):=by
 intro pins s σ H xs us Q I r h
 obtain ⟨a,vs,ns,rfl,hq,hi,hb,q⟩:=h
 obtain ⟨u,rfl,r2⟩:=vals1 r
 cases r2
 obtain ⟨its,rv,p,hz⟩:=I.list hq
 have hI:=hi its rv
 refine call_setI (I.ok.hd hc) p.isList (by simpa using hI) hb fun h' tk keep hx=>?_
 have hfr:=I.hok.fresh (nR1 s.heap.objs.size)
 refine ⟨.ref s.heap.objs.size,_,I.laid (t':=tk) (o:=.ext (SetX (byT X.w) s.heap.objs.size (ddI ns))) keep (nR1 _) ⟨hx,?_,fun h1 h2 x k=>x.old k⟩,rfl,q _ hfr⟩
 obtain ⟨es,ep,t,l,e,_⟩:=hx
 exact ⟨_,e⟩
theorem c_sortX (hc:X.calm=true):CallR X (.builtin "sorted") (rSortX X):=by
 intro pins s σ H xs us Q I r h
 obtain ⟨a,ns,rfl,ha,hl,q⟩:=h
 obtain ⟨u,rfl,r2⟩:=vals1 r
 cases r2
 obtain ⟨hx,_⟩:=(show ObjOk X.prog X.w H s.heap a (.ext (SetX (byT X.w) a ns)) from I.hok a _ ha)
 refine sorted_setI (I.ok.hd hc) hx hl fun h' dr L n out keep hL hat hI=>?_
 have hfr:=I.hok.fresh hL
 refine ⟨.ref L,_,inv_drawn (I.laid (t':=s.toks) (o:=.lst ((sortI ns).map V.int)) keep hL ⟨?_,out.toList,n,ints_back hI,by rw [Array.toArray_toList];exact hat⟩) dr,rfl,q _ hfr⟩
 rw [lM1,(sortI_perm ns).length_eq,sizeLine_eq]
 lia
theorem dd_le (ns:List Int):(ddI ns).length<=ns.length:=by
 have:=fold_len ns []
 unfold ddI
 simpa using this
theorem xme_sortS (hc:X.calm=true){o:Expr}{m:FE}{p p2 pos pos2:Pos}(hg:Gl X "sorted")(hm:X.mg "sorted"=none)(hg2:Gl X "set")(hm2:X.mg "set"=none)(ho:XE X o m)
  (he:starEach [.Call (.Name "set" p2) [o] [] pos2] X.env=[(false,eval (.Call (.Name "set" p2) [o] [] pos2) X.env)]:=by rfl) (he2:starEach [o] X.env=[(false,eval o X.env)]:=by rfl):XE X (.Call (.Name "sorted" p) [.Call (.Name "set" p2) [o] [] pos2] [] pos) (mN (b1 gSortSet) (mCons m mNil)):=
 ⟨pe_imp (pe_callB (c_sortX hc) hg hm (by decide+kernel) (pa_cons (pe_callTy (c_setX hc) hg2 hm2 (by decide+kernel) (pa_cons ho.h pa_nil he2) (he:=he2)) pa_nil he) (he:=he)) <| by
  rintro σ H Q ⟨r,mu,S,d,S',he,hs,hm,hcc⟩
  obtain ⟨⟨ds,S1⟩,e1,hm⟩:=oB1.mp hm
  obtain ⟨⟨d1,S2⟩,e2,e1⟩:=oB1.mp e1
  cases e1
  dsimp only [b1,gSortSet] at hm
  split at hm
  ·rename_i xs en
   obtain ⟨ns,ei,hm⟩:=oB1.mp hm
   split at hm
   ·rename_i hl
    cases hm
    refine ⟨r,mu,S,d1,_,he,hs,e2,fun v H1 mu1 x1 r1 s1=>?_⟩
    obtain ⟨a,vs,rfl,q,t⟩:=seqOf_at r1 s1 en
    refine ⟨a,vs,ns,rfl,q,fun us hv=>(intsOf_at t hv ei).1,Nat.lt_trans (Nat.succ_lt_succ hl) (by decide),fun p hp=>?_⟩
    refine ⟨p,ddI ns,rfl,upd_same,Nat.lt_of_le_of_lt (dd_le ns) hl,fun p2 hp2=>?_⟩
    have f1:Ext mu1 mu1 H1 (upd H1 p (.ext (SetX (byT X.w) p (ddI ns)))):=Ext.fresh hp
    have s2:=s1.fresh (u:=.ext (SetX (byT X.w) p (ddI ns))) hp
    exact hcc _ _ (mu1++[p2]) (x1.trans (f1.trans (Ext.new_ hp2))) (.ref (new_at s2.len _)) (s2.newL (reps_ints _) hp2)
   ·cases hm
  ·cases hm⟩
end
section
variable {X:Cx} {pins:List (Addr×Obj)} {σ:L2.St} {H:Hp} {s:Shared} {a:Addr} {kvs:List (Key×V)} {k:Key} {v:V} {u r:Value} {A:Around} {E:Value->Shared->Prop}
end
section
variable {X:Cx}
end
open AutoSeq1 (wpAny_loadPart')
section
variable {prog:Program} {w:World} {A:Around} {E:Value->Shared->Prop} {s:Shared}
end
section
variable {X:Cx}
end
section
variable {P:Program} {w:World} {A:Around} {E:Value->Shared->Prop} {s:Shared}
end
section
variable {X:Cx}
end
section
variable {X:Cx} {a b:Expr} {rest:List Expr} {pos:Pos} {ta tb:TE} {f g:FE}
end
noncomputable def W {α:Type}(o:Option α)(Q:α->Prop):Prop:=∃ x,o=some x/\Q x
section
variable {α β:Type} {Q:α->Prop}
theorem W_some {x:α}:W (some x) Q↔Q x:=⟨fun ⟨_,e,h⟩=>(by cases e;exact h),fun h=>⟨x,rfl,h⟩⟩
theorem W_none:W (none:Option α) Q↔False:=⟨fun ⟨_,e,_⟩=>(by cases e),False.elim⟩
theorem W_bind {o:Option β}{f:β->Option α}:W (o.bind f) Q↔W o fun x=>W (f x) Q:=by
 cases o with
 | none=>exact ⟨fun ⟨_,e,_⟩=>(by cases e),fun ⟨_,e,_⟩=>(by cases e)⟩
 | some x=>exact ⟨fun h=>⟨x,rfl,h⟩,fun ⟨_,e,h⟩=>by cases e;exact h⟩
theorem W_map {o:Option β}{f:β->α}:W (o.map f) Q↔W o fun x=>Q (f x):=by
 cases o with
 | none=>exact ⟨fun ⟨_,e,_⟩=>(by cases e),fun ⟨_,e,_⟩=>(by cases e)⟩
 | some x=>exact ⟨fun ⟨_,e,h⟩=>(by cases e;exact ⟨x,rfl,h⟩),fun ⟨_,e,h⟩=>(by cases e;exact ⟨_,rfl,h⟩)⟩
theorem W_ite {c:Prop}[Decidable c]{a b:Option α}:W (if c then a else b) Q↔if c then W a Q else W b Q:=by split<;>exact Iff.rfl
theorem W.mono {o:Option α}{Q':α->Prop}(h:W o Q)(k:∀ x,Q x->Q' x):W o Q':=let ⟨x,e,q⟩:=h;⟨x,e,k x q⟩
theorem W.of {o:Option α}{x:α}(e:o=some x)(h:Q x):W o Q:=⟨x,e,h⟩
end
theorem seqW {a b:FS}{r:Ev}{S:Sto}{Q:Fl×Ev×Sto->Prop}(R:Ev->Sto->Prop)(h1:W (a r S) fun p=>p.1 = .nx/\R p.2.1 p.2.2)(h2:∀ r S,R r S->W (b r S) Q):W (mSeq a b r S) Q:=by
 obtain ⟨⟨f,r1,S1⟩,e,hf,hR⟩:=h1
 dsimp only at hf hR
 subst hf
 unfold mSeq
 rw [e]
 exact h2 r1 S1 hR
theorem fnW {n:Nat}{b:FS}{ds:List D}{S:Sto}{Q:D×Sto->Prop}(h:W (b (startD n ds) S) fun p=>match p.1 with
  | .rt d=>Q (d,p.2.2)
  | .nx=>Q (.non,p.2.2)
  | _=>False):W (fnB n b ds S) Q:=by
 obtain ⟨⟨f,r1,S1⟩,e,q⟩:=h
 unfold fnB
 rw [e]
 cases f with
 | rt d=>exact ⟨_,rfl,q⟩
 | nx=>exact ⟨_,rfl,q⟩
 | bk=>exact q.elim
 | ct=>exact q.elim
theorem callW {n:Nat}{f:FN}{ds:List D}{S:Sto}{Q:D×Sto->Prop}(hn:ds.length=n)(hu:D.unds 0 ds=false)(h:W (f ds S) fun p=>Q (gc S.length p)):W (mCall n f ds S) Q:=by
 obtain ⟨⟨d,S1⟩,e,q⟩:=h
 exact ⟨_,call_open e hn hu,q⟩
theorem callP {n:Nat}{f:FN}{ds:List D}{S:Sto}{Q:D×Sto->Prop}(hn:ds.length=n)(hu:D.unds 0 ds=true)(h:W (f ds []) fun p=>p.1.und 0=true/\Q (p.1,S)):W (mCall n f ds S) Q:=by
 obtain ⟨⟨d,S1⟩,e,q1,q2⟩:=h
 exact ⟨_,call_shut e hn hu q1,q2⟩
mutual
theorem und_mono {n:Nat}:∀ {d:D},d.und 0=true->d.und n=true
 | .non,_=>rfl
 | .bl _,_=>rfl
 | .int _,_=>rfl
 | .str _,_=>rfl
 | .tup xs,h=>by rw [D.und] at h ⊢;exact unds_mono h
 | .rol xs,h=>by rw [D.und] at h ⊢;exact unds_mono h
 | .ref k,h=>by simp [D.und] at h
theorem unds_mono {n:Nat}:∀ {ds:List D},D.unds 0 ds=true->D.unds n ds=true
 | [],_=>rfl
 | d::ds,h=>by
  rw [D.unds,bA1] at h ⊢
  exact ⟨und_mono h.1,unds_mono h.2⟩
end
theorem callH {n:Nat}{f:FN}{ds:List D}{o:Ob}{T:Sto}{Q:D×Sto->Prop}(hn:ds.length=n)(hu:D.unds 0 ds=false)(hT:T.all (Ob.und (T.length+1))=true)
  (h:W (f ds (o::T)) fun p=>∃ d o' G,p=(d,o'::(T++G))/\d.und 0=true/\o'.und (T.length+1)=true/\Q (d,o'::T)):W (mCall n f ds (o::T)) Q:=by
 refine callW hn hu (h.mono ?_)
 rintro p ⟨d,o',G,rfl,hd,ho,q⟩
 have e:(o'::(T++G)).take (T.length+1)=o'::T:=by simp
 unfold gc
 dsimp only [lC1]
 rw [if_pos (by rw [e,und_mono hd,List.all_cons,ho,hT];rfl),e]
 exact q
theorem loopM_W {c:List (Nat×List D)}{g:FG}{b:FS}{Q:Fl×Ev×Sto->Prop}(I:Nat->Ev->Sto->Prop):∀ (items:List D) (k:Nat) (r:Ev) (S:Sto),I k r S ->
  (∀ i r S,I i r S->okC S c=true) ->
  (∀ i d,items[i]? = some d -> ∀ r S,I (k+i) r S->W (g d r S) fun p=>W (b p.1 p.2) fun q=>q.1 = .nx/\I (k+i+1) q.2.1 q.2.2) ->
  (∀ r S,I (k+items.length) r S->Q (.nx,r,S))->W (loopM c g b items r S) Q
 | [],k,r,S,hi,hok,_,hq=>by rw [loopM];dsimp only;rw [if_pos (hok _ _ _ hi),W_some];exact hq r S (by simpa using hi)
 | d::ds,k,r,S,hi,hok,hs,hq=>by
  rw [loopM];dsimp only;rw [if_pos (hok _ _ _ hi),W_bind]
  obtain ⟨p,e1,h1⟩:=hs 0 d rfl r S (by simpa using hi)
  refine ⟨p,e1,?_⟩
  dsimp only
  rw [W_bind]
  obtain ⟨⟨f,r1,S1⟩,e2,h2,h3⟩:=h1
  refine ⟨_,e2,?_⟩
  dsimp only at h2 h3 ⊢
  subst h2
  refine loopM_W I ds (k+1) r1 S1 (by simpa using h3) hok (fun i d' hd r S hI=>?_) fun r S hI=>hq r S (by rw [lC1,show k+(ds.length+1)=k+1+ds.length by lia];exact hI)
  have:=hs (i+1) d' (by simpa using hd) r S (by rw [show k+(i+1)=k+1+i by lia];exact hI)
  rw [show k+(i+1)+1=k+1+i+1 by lia] at this
  exact this
theorem loopF_W {c:List (Nat×List D)}{g:FG}{t:FT}{e:FE}{Q:List D×Ev×Sto->Prop}(I:Nat->List D->Ev->Sto->Prop):∀ (items:List D) (k:Nat) (acc:List D) (r:Ev) (S:Sto),I k acc r S ->
  (∀ i acc r S,I i acc r S->okC S c=true) ->
  (∀ i d,items[i]? = some d -> ∀ acc r S,I (k+i) acc r S->W (g d r S) fun p=>W (t p.1 p.2) fun b=>if b.1=true then W (e p.1 b.2) fun x=>I (k+i+1) (acc++[x.1]) p.1 x.2 else I (k+i+1) acc p.1 b.2) ->
  (∀ xs r S,I (k+items.length) (acc++xs) r S->Q (xs,r,S))->W (loopF c g t (fEmit e) items r S) Q
 | [],k,acc,r,S,hi,hok,_,hq=>by rw [loopF];dsimp only;rw [if_pos (hok _ _ _ _ hi),W_some];exact hq [] r S (by simpa using hi)
 | d::ds,k,acc,r,S,hi,hok,hs,hq=>by
  rw [loopF];dsimp only;rw [if_pos (hok _ _ _ _ hi),W_bind]
  obtain ⟨p,e1,h1⟩:=hs 0 d rfl acc r S (by simpa using hi)
  refine ⟨p,e1,?_⟩
  dsimp only
  rw [W_bind]
  obtain ⟨⟨b,S1⟩,e2,h2⟩:=h1
  refine ⟨_,e2,?_⟩
  have step:∀ i d',ds[i]? = some d' -> ∀ acc r S,I (k+1+i) acc r S->W (g d' r S) fun p=>W (t p.1 p.2) fun b=>if b.1=true then W (e p.1 b.2) fun x=>I (k+1+i+1) (acc++[x.1]) p.1 x.2 else I (k+1+i+1) acc p.1 b.2:=fun i d' hd acc r S hI=>by
   have:=hs (i+1) d' (by simpa using hd) acc r S (by rw [show k+(i+1)=k+1+i by lia];exact hI)
   rw [show k+(i+1)+1=k+1+i+1 by lia] at this
   exact this
  dsimp only at h2 ⊢
  cases b with
  | true=>
   rw [if_pos rfl] at h2 ⊢
   rw [W_bind,fEmit,W_map]
   obtain ⟨⟨x,S2⟩,e3,h3⟩:=h2
   refine ⟨_,e3,?_⟩
   dsimp only at h3 ⊢
   rw [W_map]
   refine loopF_W I ds (k+1) (acc++[x]) p.1 S2 (by simpa using h3) hok step fun xs r S hI=>?_
   refine hq _ r S ?_
   rw [lC1,show k+(ds.length+1)=k+1+ds.length by lia]
   simpa using hI
  | false=>
   rw [if_neg (by decide)] at h2 ⊢
   refine loopF_W I ds (k+1) acc p.1 S1 (by simpa using h2) hok step fun xs r S hI=>?_
   refine hq _ r S ?_
   rw [lC1,show k+(ds.length+1)=k+1+ds.length by lia]
   exact hI
theorem tru_bl {S:Sto}{b:Bool}:truD S (.bl b)=some b:=rfl
theorem tru_non {S:Sto}:truD S .non=some false:=rfl
theorem tru_int {S:Sto}{i:Int}:truD S (.int i)=some (i != 0):=rfl
theorem gEq_int {x y:Int}{S:Sto}:gEq (.int x) (.int y) S=some (.bl (x == y),S):=rfl
theorem gNe_int {x y:Int}{S:Sto}:gNe (.int x) (.int y) S=some (.bl (!(x == y)),S):=rfl
theorem gLt_int {x y:Int}{S:Sto}:gLt (.int x) (.int y) S=some (.bl (decide (x<y)),S):=rfl
theorem gEq_str {x y:Str}{S:Sto}:gEq (.str x) (.str y) S=some (.bl (x == y),S):=rfl
theorem gNe_str {x y:Str}{S:Sto}:gNe (.str x) (.str y) S=some (.bl (!(x == y)),S):=rfl
theorem ite_and' {c p:Prop}[Decidable c]:(if c then p else False)↔c/\p:=by split<;>simp [*]
noncomputable def bnd (j:Int):Bool:=decide (-(2^62)<=j)&&decide (j<2^62)
theorem bnd_nat {n:Nat}(h:n<2^60):bnd n=true:=by
 unfold bnd
 rw [bA1,decide_eq_true_eq,decide_eq_true_eq]
 lia
theorem bnd_of {j:Int}(h: -(2^60)<=j)(h':j<2^60):bnd j=true:=by
 unfold bnd
 rw [bA1,decide_eq_true_eq,decide_eq_true_eq]
 lia
noncomputable def rW1 (p:List D×Sto)(Q:Itm×Sto->Prop):Prop:=match p.1 with
 | [.int j]=>bnd j=true/\Q (⟨nums 0 j.toNat,[]⟩,p.2)
 | _=>False
noncomputable def rW2 (p:List D×Sto)(Q:Itm×Sto->Prop):Prop:=match p.1 with
 | [.int i,.int j]=>bnd i=true/\bnd j=true/\Q (⟨nums i (j-i).toNat,[]⟩,p.2)
 | _=>False
theorem W_iR1 {m:FA}{r:Ev}{S:Sto}{Q:Itm×Sto->Prop}:W (iR1 m r S) Q↔W (m r S) fun p=>rW1 p Q:=by
 unfold iR1
 rw [W_bind]
 constructor
 ·refine fun h=>h.mono fun p q=>?_
  unfold rW1
  split at q
  ·rename_i j e
   try rw [e]
   rw [W_ite] at q
   split at q
   ·rename_i hc
    exact ⟨by unfold bnd;rw [bA1,decide_eq_true_eq,decide_eq_true_eq];exact hc,W_some.mp q⟩
   ·exact (W_none.mp q).elim
  ·exact (W_none.mp q).elim
 ·refine fun h=>h.mono fun p q=>?_
  unfold rW1 at q
  split at q
  ·rename_i j e
   obtain ⟨q1,q2⟩:=q
   unfold bnd at q1
   rw [bA1,decide_eq_true_eq,decide_eq_true_eq] at q1
   try rw [e]
   try dsimp only
   rw [if_pos q1]
   exact W_some.mpr q2
  ·exact q.elim
theorem W_iR2 {m:FA}{r:Ev}{S:Sto}{Q:Itm×Sto->Prop}:W (iR2 m r S) Q↔W (m r S) fun p=>rW2 p Q:=by
 unfold iR2
 rw [W_bind]
 constructor
 ·refine fun h=>h.mono fun p q=>?_
  unfold rW2
  split at q
  ·rename_i i j e
   try rw [e]
   rw [W_ite] at q
   split at q
   ·rename_i hc
    refine ⟨?_,?_,W_some.mp q⟩
    ·unfold bnd;rw [bA1,decide_eq_true_eq,decide_eq_true_eq];exact ⟨hc.1,hc.2.1⟩
    ·unfold bnd;rw [bA1,decide_eq_true_eq,decide_eq_true_eq];exact hc.2.2
   ·exact (W_none.mp q).elim
  ·exact (W_none.mp q).elim
 ·refine fun h=>h.mono fun p q=>?_
  unfold rW2 at q
  split at q
  ·rename_i i j e
   obtain ⟨q1,q3,q2⟩:=q
   unfold bnd at q1 q3
   rw [bA1,decide_eq_true_eq,decide_eq_true_eq] at q1 q3
   try rw [e]
   try dsimp only
   rw [if_pos ⟨q1.1,q1.2,q3⟩]
   exact W_some.mpr q2
  ·exact q.elim
noncomputable def fits (n:Nat):Bool:=decide (n<=sizeLine)
theorem fits_le {n:Nat}(h:n<=100000):fits n=true:=by unfold fits;rw [decide_eq_true_eq];exact Nat.le_trans h (by decide)
theorem fits_iff {n:Nat}:fits n=true↔n<=sizeLine:=by unfold fits;rw [decide_eq_true_eq]
theorem ft0:fits 0=true:=fits_le (by decide)
theorem ft1:fits 1=true:=fits_le (by decide)
theorem ft2:fits 2=true:=fits_le (by decide)
theorem ft3:fits 3=true:=fits_le (by decide)
theorem ft4:fits 4=true:=fits_le (by decide)
theorem ft5:fits 5=true:=fits_le (by decide)
theorem ft6:fits 6=true:=fits_le (by decide)
theorem ft7:fits 7=true:=fits_le (by decide)
theorem ft8:fits 8=true:=fits_le (by decide)
theorem W_fits {α:Type}{n:Nat}{o:Option α}{Q:α->Prop}:W (if n<=sizeLine then o else none) Q↔fits n=true/\W o Q:=by
 rw [fits_iff,W_ite]
 split
 ·rename_i h;exact ⟨fun q=>⟨h,q⟩,fun q=>q.2⟩
 ·rename_i h;exact ⟨fun q=>(W_none.mp q).elim,fun q=>absurd q.1 h⟩
theorem W_mTup {a:FA}{r:Ev}{S:Sto}{Q:D×Sto->Prop}:W (mTup a r S) Q↔W (a r S) fun p=>fits p.1.length=true/\Q (.tup p.1,p.2):=by
 unfold mTup
 rw [W_bind]
 exact ⟨fun h=>h.mono fun p q=>(W_fits.mp q).imp_right W_some.mp,fun h=>h.mono fun p q=>W_fits.mpr (q.imp_right W_some.mpr)⟩
theorem W_mLst {a:FA}{r:Ev}{S:Sto}{Q:D×Sto->Prop}:W (mLst a r S) Q↔W (a r S) fun p=>fits p.1.length=true/\Q (.ref p.2.length,p.2++[.lst p.1]):=by
 unfold mLst
 rw [W_bind]
 exact ⟨fun h=>h.mono fun p q=>(W_fits.mp q).imp_right W_some.mp,fun h=>h.mono fun p q=>W_fits.mpr (q.imp_right W_some.mpr)⟩
theorem W_fComp {k:Nat}{keep:List Nat}{m:FI}{g:FG}{t:FT}{b:FV}{r:Ev}{S:Sto}{Q:D×Sto->Prop}:W (fComp k keep m g t b r S) Q↔W (m r S) fun p=>W (loopF p.1.chk g t b p.1.items (inEv k keep r) p.2) fun q=>fits q.1.length=true/\Q (.ref q.2.2.length,q.2.2++[.lst q.1]):=by
 unfold fComp
 rw [W_bind]
 refine ⟨fun h=>h.mono fun p q=>?_,fun h=>h.mono fun p q=>?_⟩
 ·rw [W_bind] at q
  exact q.mono fun z w=>(W_fits.mp w).imp_right W_some.mp
 ·rw [W_bind]
  exact q.mono fun z w=>W_fits.mpr (w.imp_right W_some.mpr)
theorem W_addT {xs ys:List D}{S:Sto}{Q:D×Sto->Prop}:W (gAdd (.tup xs) (.tup ys) S) Q↔fits (xs.length+ys.length)=true/\Q (.tup (xs++ys),S):=
 ⟨fun q=>(W_fits.mp q).imp_right W_some.mp,fun q=>W_fits.mpr (q.imp_right W_some.mpr)⟩
theorem W_addI {x y:Int}{S:Sto}{Q:D×Sto->Prop}:W (gAdd (.int x) (.int y) S) Q↔Q (.int (x+y),S):=W_some
theorem W_addL {a b:Nat}{xs ys:List D}{S:Sto}{Q:D×Sto->Prop}(h1:S[a]? = some (.lst xs))(h2:S[b]? = some (.lst ys)):W (gAdd (.ref a) (.ref b) S) Q↔fits (xs.length+ys.length)=true/\Q (.ref S.length,S++[.lst (xs++ys)]):=by
 rw [gAdd];simp only [h1,h2]
 exact ⟨fun q=>(W_fits.mp q).imp_right W_some.mp,fun q=>W_fits.mpr (q.imp_right W_some.mpr)⟩
theorem W_app {n:Nat}{v:D}{xs:List D}{S:Sto}{Q:D×Sto->Prop}(h:S[n]? = some (.lst xs)):W (gApp (.ref n) v S) Q↔fits (xs.length+1)=true/\Q (.non,S.set n (.lst (xs++[v]))):=by
 rw [gApp];simp only [h]
 rw [W_ite,fits_iff]
 split
 ·rename_i hl;exact ⟨fun q=>⟨hl,W_some.mp q⟩,fun q=>W_some.mpr q.2⟩
 ·rename_i hl;exact ⟨fun q=>(W_none.mp q).elim,fun q=>absurd q.1 hl⟩
theorem W_ixL {n:Nat}{i:Nat}{xs:List D}{x:D}{S:Sto}{Q:D×Sto->Prop}(h:S[n]? = some (.lst xs))(hx:xs[i]? = some x)(q:Q (x,S)):W (gIxY (.ref n) (.int i) S) Q:=by
 refine W.of (x:=(x,S)) ?_ q
 have hl:=(gE1.mp hx).1
 simp only [gIxY,gIxX,gIx,h,seqOf,atI,ixN,oS1,if_pos (show (0:Int)<=i by lia)]
 rw [if_pos (by lia)]
 simp [hx]
theorem W_ixT {i:Nat}{xs:List D}{x:D}{S:Sto}{Q:D×Sto->Prop}(hx:xs[i]? = some x)(q:Q (x,S)):W (gIxY (.tup xs) (.int i) S) Q:=by
 refine W.of (x:=(x,S)) ?_ q
 have hl:=(gE1.mp hx).1
 simp only [gIxY,gIxX,gIx,seqOf,atI,ixN,oS1,if_pos (show (0:Int)<=i by lia)]
 rw [if_pos (by lia)]
 simp [hx]
theorem rp0:List.replicate 0 (none:Option D)=[]:=rfl
theorem rp1:List.replicate 1 (none:Option D)=[none]:=rfl
theorem rp2:List.replicate 2 (none:Option D)=[none,none]:=rfl
theorem rp3:List.replicate 3 (none:Option D)=[none,none,none]:=rfl
theorem rp4:List.replicate 4 (none:Option D)=[none,none,none,none]:=rfl
theorem rp5:List.replicate 5 (none:Option D)=[none,none,none,none,none]:=rfl
theorem rp6:List.replicate 6 (none:Option D)=[none,none,none,none,none,none]:=rfl
theorem rp7:List.replicate 7 (none:Option D)=[none,none,none,none,none,none,none]:=rfl
theorem rp8:List.replicate 8 (none:Option D)=[none,none,none,none,none,none,none,none]:=rfl
theorem rp9:List.replicate 9 (none:Option D)=[none,none,none,none,none,none,none,none,none]:=rfl
theorem rp10:List.replicate 10 (none:Option D)=[none,none,none,none,none,none,none,none,none,none]:=rfl
theorem rp11:List.replicate 11 (none:Option D)=[none,none,none,none,none,none,none,none,none,none,none]:=rfl
theorem rp12:List.replicate 12 (none:Option D)=[none,none,none,none,none,none,none,none,none,none,none,none]:=rfl
theorem rp13:List.replicate 13 (none:Option D)=[none,none,none,none,none,none,none,none,none,none,none,none,none]:=rfl
theorem rp14:List.replicate 14 (none:Option D)=[none,none,none,none,none,none,none,none,none,none,none,none,none,none]:=rfl
theorem rp15:List.replicate 15 (none:Option D)=[none,none,none,none,none,none,none,none,none,none,none,none,none,none,none]:=rfl
theorem rp16:List.replicate 16 (none:Option D)=[none,none,none,none,none,none,none,none,none,none,none,none,none,none,none,none]:=rfl
theorem rp17:List.replicate 17 (none:Option D)=[none,none,none,none,none,none,none,none,none,none,none,none,none,none,none,none,none]:=rfl
theorem rp18:List.replicate 18 (none:Option D)=[none,none,none,none,none,none,none,none,none,none,none,none,none,none,none,none,none,none]:=rfl
theorem rp19:List.replicate 19 (none:Option D)=[none,none,none,none,none,none,none,none,none,none,none,none,none,none,none,none,none,none,none]:=rfl
theorem rp20:List.replicate 20 (none:Option D)=[none,none,none,none,none,none,none,none,none,none,none,none,none,none,none,none,none,none,none,none]:=rfl
theorem get_app {α:Type}{T G:List α}{k:Nat}:(T++G)[T.length+k]? = G[k]?:=by rw [gR1 (by lia)];congr 1;lia
theorem get_app0 {α:Type}{T G:List α}:(T++G)[T.length]? = G[0]?:=by rw [gR1 (by lia)];congr 1;lia
theorem gNe_nil {S:Sto}{i j:Nat}{xs:List D}(h:S[i]? = some (.lst xs))(h':S[j]? = some (.lst [])):gNe (.ref i) (.ref j) S=some (.bl (!xs.isEmpty),S):=by
 unfold gNe deepMost
 rw [show (60:Nat)=59+1 from rfl,eqN]
 simp only [seqOf,h,h']
 cases xs with
 | nil=>simp [eqL]
 | cons x xs=>simp
mutual
noncomputable def smD:D->Bool
 | .non=>true
 | .bl _=>true
 | .int i=>decide (i.natAbs<10^6)
 | .str x=>(PyData.str x).leavesShort 13&&decide ((PyData.str x).weight<=20)
 | .tup xs=>smDs xs
 | .rol _=>false
 | .ref _=>false
noncomputable def smDs:List D->Bool
 | []=>true
 | d::ds=>smD d&&smDs ds
end
mutual
noncomputable def cntD:D->Nat
 | .tup xs=>cntDs xs
 | .non=>0 | .bl _=>0 | .int _=>0 | .str _=>0 | .rol _=>0 | .ref _=>0
noncomputable def cntDs:List D->Nat
 | []=>0
 | d::ds=>cntD d+1+cntDs ds
end
mutual
noncomputable def dpD:D->Nat
 | .tup xs=>dpDs xs+1
 | .non=>0 | .bl _=>0 | .int _=>0 | .str _=>0 | .rol _=>0 | .ref _=>0
noncomputable def dpDs:List D->Nat
 | []=>0
 | d::ds=>max (dpD d) (dpDs ds)
end
mutual
theorem sm_py:∀ {d:D},smD d=true -> ∃ p,pyD d=some p/\p.showable=true/\p.leavesShort 13=true/\p.weight+1<=21*(cntD d+1)/\p.depth=dpD d
 | .non,_=>⟨.none,by simp only [pyD],by simp only [PyData.showable],by simp only [PyData.leavesShort],by simp only [PyData.weight,cntD];lia,by simp only [PyData.depth,dpD]⟩
 | .bl b,_=>⟨.bool b,by simp only [pyD],by simp only [PyData.showable],by simp only [PyData.leavesShort],by simp only [PyData.weight,cntD];lia,by simp only [PyData.depth,dpD]⟩
 | .int i,h=>by
  have h':i.natAbs<10^6:=by simpa only [smD,decide_eq_true_eq] using h
  have hl:i.natAbs.log2<20:=by
   by_cases z:i.natAbs=0
   ·rw [z];decide
   ·exact (Nat.log2_lt z).mpr (by lia)
  refine ⟨.int i,by simp only [pyD],by simp only [PyData.showable,decide_eq_true_eq];lia,?_,?_,by simp only [PyData.depth,dpD]⟩
  ·simp only [PyData.leavesShort,decide_eq_true_eq]
   exact PyData.shown_int_le (by lia)
  ·simp only [PyData.weight,cntD]
   split<;>lia
 | .str x,h=>by
  have h':(PyData.str x).leavesShort 13=true/\(PyData.str x).weight<=20:=by simpa only [smD,bA1,decide_eq_true_eq] using h
  exact ⟨.str x,by simp only [pyD],by simp only [PyData.showable],h'.1,by simp only [cntD];have:=h'.2;lia,by simp only [PyData.depth,dpD]⟩
 | .tup xs,h=>by
  obtain ⟨ps,e,h1,h2,h3,h4⟩:=sm_pys (ds:=xs) (by simpa only [smD] using h)
  exact ⟨.tuple ps,by simp only [pyD,e,oP1],by simpa only [PyData.showable] using h1,by simpa only [PyData.leavesShort] using h2,by simp only [PyData.weight,cntD];lia,by simp only [PyData.depth,dpD,h4]⟩
 | .rol _,h=>by simp only [smD] at h;cases h
 | .ref _,h=>by simp only [smD] at h;cases h
theorem sm_pys:∀ {ds:List D},smDs ds=true -> ∃ ps,pyDs ds=some ps/\PyData.showableAll ps=true/\PyData.leavesShortAll 13 ps=true/\PyData.weightAll ps<=21*cntDs ds/\PyData.depthAll ps=dpDs ds
 | [],_=>⟨[],by simp only [pyDs],by simp only [PyData.showableAll],by simp only [PyData.leavesShortAll],by simp only [PyData.weightAll];lia,by simp only [PyData.depthAll,dpDs]⟩
 | d::ds,h=>by
  simp only [smDs,bA1] at h
  obtain ⟨p,e,h1,h2,h3,h4⟩:=sm_py h.1
  obtain ⟨ps,e',h1',h2',h3',h4'⟩:=sm_pys h.2
  refine ⟨p::ps,by simp only [pyDs,e,e',oS1,oP1],by simp only [PyData.showableAll,h1,h1',Bool.and_self],by simp only [PyData.leavesShortAll,h2,h2',Bool.and_self],?_,by simp only [PyData.depthAll,dpDs,h4,h4']⟩
  simp only [PyData.weightAll,cntDs]
  lia
end
theorem repr_ok {xs:List D}(h:smDs xs=true)(hc:cntDs xs<=40000)(hd:dpDs xs<=50):∃ t,∀ S,gRepr (.tup xs) S=some (.str t,S):=by
 obtain ⟨ps,e,h1,h2,h3,h4⟩:=sm_pys h
 refine ⟨(PyData.tuple ps).shown,fun S=>?_⟩
 have hs:(PyData.tuple ps).showable=true/\(PyData.tuple ps).shown.length<=sizeLine/\(PyData.tuple ps).depth<=60:=
  ⟨by simpa only [PyData.showable] using h1,PyData.shown_fits (B:=13) (by decide) (by decide) (by simpa only [PyData.leavesShort] using h2) (by simp only [PyData.weight];lia),by simp only [PyData.depth];lia⟩
 simp only [gRepr,e,oS1,if_pos hs]
theorem smDs_map {α:Type}{f:α->D}:∀ {l:List α},(∀ x∈l,smD (f x)=true)->smDs (l.map f)=true
 | [],_=>by simp only [List.map_nil,smDs]
 | x::xs,h=>by simp only [mP1,smDs,h x mS1,smDs_map fun y hy=>h y (mC1 _ hy),Bool.and_self]
theorem cntDs_map {α:Type}{f:α->D}{k:Nat}:∀ {l:List α},(∀ x∈l,cntD (f x)<=k)->cntDs (l.map f)<=(k+1)*l.length
 | [],_=>by simp only [List.map_nil,cntDs];lia
 | x::xs,h=>by
  have h1:=h x mS1
  have h2:=cntDs_map (l:=xs) fun y hy=>h y (mC1 _ hy)
  simp only [mP1,cntDs,lC1,Nat.mul_add]
  lia
theorem dpDs_map {α:Type}{f:α->D}{k:Nat}:∀ {l:List α},(∀ x∈l,dpD (f x)<=k)->dpDs (l.map f)<=k
 | [],_=>by simp only [List.map_nil,dpDs];lia
 | x::xs,h=>by
  have h1:=h x mS1
  have h2:=dpDs_map (l:=xs) fun y hy=>h y (mC1 _ hy)
  simp only [mP1,dpDs]
  lia
theorem nums_eq:∀ (n:Nat) (lo:Int),nums lo n=(List.range n).map fun i:Nat=>D.int (lo+i)
 | 0,lo=>rfl
 | n+1,lo=>by
  rw [nums,nums_eq n (lo+1),List.range_succ_eq_map,mP1,List.map_map]
  congr 1
  ·simp
  ·apply List.map_congr_left
   intro i _
   simp only [Function.comp_apply,Nat.succ_eq_add_one]
   congr 1
   push_cast
   lia
theorem nums0 (n:Nat):nums 0 n=(List.range n).map fun i:Nat=>D.int i:=by
 rw [nums_eq]
 apply List.map_congr_left
 intro i _
 simp
theorem mapW {α:Type}{c:List (Nat×List D)}{g:FG}{t:FT}{e:FE}{S:Sto}{f:α->D}{Q:List D×Ev×Sto->Prop}(F:α->D)(P:Ev->Prop)(hok:okC S c=true):∀ (xs:List α) (r:Ev),P r ->
  (∀ a∈xs,∀ r,P r->W (g (f a) r S) fun p=>W (t p.1 p.2) fun b=>b.1=true/\W (e p.1 b.2) fun x=>x.1=F a/\x.2=S/\P p.1) ->
  (∀ r',P r'->Q (xs.map F,r',S))->W (loopF c g t (fEmit e) (xs.map f) r S) Q
 | [],r,hr,_,h=>by rw [List.map_nil,loopF];dsimp only;rw [if_pos hok,W_some];exact h r hr
 | a::xs,r,hr,hs,h=>by
  rw [mP1,loopF];dsimp only;rw [if_pos hok,W_bind]
  obtain ⟨p,e1,⟨b,e2,hb,⟨x,e3,hx,hS,hp⟩⟩⟩:=hs a mS1 r hr
  refine ⟨p,e1,?_⟩
  dsimp only;rw [W_bind]
  refine ⟨b,e2,?_⟩
  dsimp only;rw [if_pos hb,W_bind,fEmit,W_map]
  refine ⟨x,e3,?_⟩
  dsimp only
  rw [hS,W_map]
  refine mapW F P hok xs p.1 hp (fun a ha=>hs a (mC1 _ ha)) fun r' hr'=>?_
  have:=h r' hr'
  rw [mP1,<- hx] at this
  exact this
theorem filterW {α:Type}{c:List (Nat×List D)}{g:FG}{t:FT}{e:FE}{S:Sto}{f:α->D}{Q:List D×Ev×Sto->Prop}(k:α->Bool)(F:α->D)(P:Ev->Prop)(hok:okC S c=true):∀ (xs:List α) (r:Ev),P r ->
  (∀ a∈xs,∀ r,P r->W (g (f a) r S) fun p=>W (t p.1 p.2) fun b=>b.1=k a/\b.2=S/\P p.1/\(k a=true->W (e p.1 S) fun x=>x.1=F a/\x.2=S)) ->
  (∀ r',P r'->Q ((xs.filter k).map F,r',S))->W (loopF c g t (fEmit e) (xs.map f) r S) Q
 | [],r,hr,_,h=>by rw [List.map_nil,loopF];dsimp only;rw [if_pos hok,W_some];exact h r hr
 | a::xs,r,hr,hs,h=>by
  rw [mP1,loopF];dsimp only;rw [if_pos hok,W_bind]
  obtain ⟨p,e1,⟨b,e2,hb,hS,hp,hx⟩⟩:=hs a mS1 r hr
  refine ⟨p,e1,?_⟩
  dsimp only;rw [W_bind]
  refine ⟨b,e2,?_⟩
  dsimp only
  cases hk:k a with
  | true=>
   rw [hb,hk,if_pos rfl,W_bind,fEmit,W_map,hS]
   obtain ⟨x,e3,hx,hS2⟩:=hx hk
   refine ⟨x,e3,?_⟩
   dsimp only
   rw [hS2,W_map]
   refine filterW k F P hok xs p.1 hp (fun a ha=>hs a (mC1 _ ha)) fun r' hr'=>?_
   have:=h r' hr'
   rw [List.filter_cons,hk,if_pos rfl,mP1,<- hx] at this
   exact this
  | false=>
   rw [hb,hk,if_neg (by decide),hS]
   refine filterW k F P hok xs p.1 hp (fun a ha=>hs a (mC1 _ ha)) fun r' hr'=>?_
   have:=h r' hr'
   rw [List.filter_cons,hk,if_neg (by decide)] at this
   exact this
mutual
theorem und_le {n m:Nat}(h:n<=m):∀ {d:D},d.und n=true->d.und m=true
 | .non,_=>rfl
 | .bl _,_=>rfl
 | .int _,_=>rfl
 | .str _,_=>rfl
 | .tup xs,q=>by rw [D.und] at q ⊢;exact unds_le h q
 | .rol xs,q=>by rw [D.und] at q ⊢;exact unds_le h q
 | .ref k,q=>by simp [D.und] at q ⊢;lia
theorem unds_le {n m:Nat}(h:n<=m):∀ {ds:List D},D.unds n ds=true->D.unds m ds=true
 | [],_=>rfl
 | d::ds,q=>by
  rw [D.unds,bA1] at q ⊢
  exact ⟨und_le h q.1,unds_le h q.2⟩
end
theorem obund_le {n m:Nat}(h:n<=m):∀ {o:Ob},o.und n=true->o.und m=true
 | .lst xs,q=>by rw [Ob.und] at q ⊢;exact unds_le h q
 | .dct xs,q=>by rw [Ob.und] at q ⊢;exact unds_le h q
 | .dcT xs,q=>by rw [Ob.und] at q ⊢;exact unds_le h q
 | .dcF xs,q=>by rw [Ob.und] at q ⊢;exact unds_le h q
 | .iset _,_=>rfl
theorem unds_map {α:Type}{n:Nat}{f:α->D}:∀ {xs:List α},(∀ x∈xs,(f x).und n=true)->D.unds n (xs.map f)=true
 | [],_=>rfl
 | x::xs,h=>by rw [mP1,D.unds,h x mS1,unds_map fun y hy=>h y (mC1 _ hy)];rfl
theorem al1 {x:Nat}:x+1+1=x+2:=rfl
theorem al2 {x:Nat}:x+2+1=x+3:=rfl
theorem al3 {x:Nat}:x+3+1=x+4:=rfl
theorem al4 {x:Nat}:x+4+1=x+5:=rfl
theorem al5 {x:Nat}:x+5+1=x+6:=rfl
theorem al6 {x:Nat}:x+6+1=x+7:=rfl
theorem al7 {x:Nat}:x+1+2=x+3:=rfl
theorem len_tup {xs:List D}{S:Sto}:gLen (.tup xs) S=some (.int xs.length,S):=rfl
theorem len_rol {xs:List D}{S:Sto}:gLen (.rol xs) S=some (.int xs.length,S):=rfl
theorem len_str0 {S:Sto}:gLen (.str "") S=some (.int 0,S):=rfl
theorem seq_tup {xs:List D}{S:Sto}:seqOf S (.tup xs)=some (false,xs):=rfl
theorem seq_rol {xs:List D}{S:Sto}:seqOf S (.rol xs)=some (true,xs):=rfl
theorem chk_tup {xs:List D}{S:Sto}:chkOf S (.tup xs)=[]:=rfl
theorem chk_rol {xs:List D}{S:Sto}:chkOf S (.rol xs)=[]:=rfl
theorem seq_ref {n:Nat}{xs:List D}{S:Sto}(h:S[n]? = some (.lst xs)):seqOf S (.ref n)=some (true,xs):=by simp only [seqOf,h]
theorem chk_ref {n:Nat}{xs:List D}{S:Sto}(h:S[n]? = some (.lst xs)):chkOf S (.ref n)=[(n,xs)]:=by simp only [chkOf,h]
noncomputable def sW (S:Sto)(d:D)(Q:List D×List (Nat×List D)->Prop):Prop:=W (seqOf S d) fun q=>Q (q.2,chkOf S d)
theorem sW_tup {xs:List D}{S:Sto}{Q:List D×List (Nat×List D)->Prop}:sW S (.tup xs) Q↔Q (xs,[]):=W_some
theorem sW_ref {n:Nat}{xs:List D}{S:Sto}{Q:List D×List (Nat×List D)->Prop}(h:S[n]? = some (.lst xs))(q:Q (xs,[(n,xs)])):sW S (.ref n) Q:=by
 unfold sW
 rw [seq_ref h,chk_ref h,W_some]
 exact q
theorem W_iSeq {m:FE}{r:Ev}{S:Sto}{Q:Itm×Sto->Prop}:W (iSeq m r S) Q↔W (m r S) fun p=>sW p.2 p.1 fun q=>Q (⟨q.1,q.2⟩,p.2):=by
 unfold iSeq
 rw [W_bind]
 refine ⟨fun h=>h.mono fun p q=>?_,fun h=>h.mono fun p q=>?_⟩
 ·rw [W_bind] at q
  exact q.mono fun z w=>W_some.mp w
 ·rw [W_bind]
  exact W.mono (show W (seqOf p.2 p.1) _ from q) fun z w=>W_some.mpr w
theorem W_gTup {d:D}{S:Sto}{Q:D×Sto->Prop}:W (Mi.gTup d S) Q↔sW S d fun q=>Q (.tup q.1,S):=by
 unfold Mi.gTup
 rw [W_map]
 exact Iff.rfl
theorem W_len {n:Nat}{S:Sto}{Q:D×Sto->Prop}:W (gLen (.ref n) S) Q↔sW S (.ref n) fun q=>Q (.int q.1.length,S):=by
 unfold gLen sW
 rw [W_map]
noncomputable def pD (e:Nat×Nat):D:=.tup [.int e.1,.int e.2]
theorem eqN_pD {S:Sto}{n:Nat}{a b:Nat×Nat}:eqN S (n+2) (pD a) (pD b)=some (a == b):=by
 obtain ⟨a1,a2⟩:=a
 obtain ⟨b1,b2⟩:=b
 rw [eqN]
 have e1:∀ x y:Nat,eqN S (n+1) (.int x) (.int y)=some ((x:Int) == (y:Int)):=fun x y=>rfl
 have e2:∀ x y:Nat,((x:Int) == (y:Int))=(x == y):=fun x y=>by
  rw [Bool.eq_iff_iff,beq_iff_eq,beq_iff_eq];lia
 simp [pD,seqOf,eqL,e1,e2]
 rfl
theorem eqsL_pD {S:Sto}{n:Nat}{e:Nat×Nat}:∀ row:List (Nat×Nat),eqsL (eqN S (n+2)) (pD e) (row.map pD)=some (row.map fun a=>a == e)
 | []=>rfl
 | a::row=>by rw [mP1,eqsL,eqN_pD,eqsL_pD row];rfl
theorem W_idxP {S:Sto}{n j:Nat}{row:List (Nat×Nat)}{e:Nat×Nat}{Q:D×Sto->Prop}(h:S[n]? = some (.lst (row.map pD)))(hl:row.length<1000)(hj:row.findIdx? (· == e)=some j)(q:Q (.int j,S)):W (gIdx (.ref n) (pD e) S) Q:=by
 refine W.of ?_ q
 unfold gIdx deepMost
 simp only [h,show (60:Nat)=58+2 from rfl,eqsL_pD,oS1,lM1]
 rw [if_pos (by lia),List.findIdx?_map]
 simp [Function.comp_def,hj]
theorem W_ins {S:Sto}{n k:Nat}{xs:List D}{v:D}{Q:D×Sto->Prop}(h:S[n]? = some (.lst xs))(hk:k<=xs.length)(hl:xs.length<1000)(q:Q (.non,S.set n (.lst (xs.take k++v::xs.drop k)))):W (gIns (.ref n) (.int k) v S) Q:=by
 refine W.of ?_ q
 have hi:insN xs.length k=k:=by
  unfold insN
  rw [if_neg (by lia),Int.toNat_natCast]
  lia
 have hs:xs.length<sizeLine:=nL1 hl (by decide)
 simp only [gIns,h,hi]
 rw [if_pos ⟨by lia,by lia,hs⟩]
theorem W_mMt {f:FN}{o:FE}{a:FA}{r:Ev}{S:Sto}{Q:D×Sto->Prop}(h:W (o r S) fun p=>∃ n xs,p.1 = .ref n/\p.2[n]? = some (.lst xs)/\W (a r p.2) fun q=>W (f (.ref n::q.1) q.2) Q):W (mMt f o a r S) Q:=by
 unfold mMt
 rw [W_bind]
 refine h.mono ?_
 rintro ⟨d,S1⟩ ⟨n,xs,rfl,e,q⟩
 dsimp only at e q ⊢
 rw [e]
 dsimp only
 rw [W_bind]
 exact q
noncomputable def rowOb (row:List (Nat×Nat)):Ob:=.lst (row.map pD)
structure WS (t m:Nat)(T:Sto)(E:List (List (Nat×Nat)))(P:List (Nat×Nat))(U:Sto):Prop where
 tl:T.length=t
 low:U.take t=T
 el:E.length=m
 row:∀ i row,E[i]? = some row->U[t+i]? = some (rowOb row)
 ends:U[t+m]? = some (.lst (refs (t+1) m))
 prs:U[t+m+1]? = some (.lst (P.map pD))
theorem WS.app {t m:Nat}{T:Sto}{E:List (List (Nat×Nat))}{P:List (Nat×Nat)}{U G:Sto}(w:WS t m T E P U):WS t m T E P (U++G):=by
 have hl:t+m+1<U.length:=(gE1.mp w.prs).1
 refine ⟨w.tl,?_,w.el,fun i row h=>?_,?_,?_⟩
 ·rw [List.take_append_of_le_length (by omega)];exact w.low
 ·have:=w.row i row h
  rw [gL1 (gE1.mp this).1];exact this
 ·rw [gL1 (by omega)];exact w.ends
 ·rw [gL1 (by omega)];exact w.prs
theorem WS.setRow {t m i:Nat}{T:Sto}{E:List (List (Nat×Nat))}{P:List (Nat×Nat)}{U:Sto}{row:List (Nat×Nat)}(w:WS t m T E P U)(hi:i<m):WS t m T (E.set i row) P (U.set (t+i) (rowOb row)):=by
 have hl:t+m+1<U.length:=(gE1.mp w.prs).1
 refine ⟨w.tl,?_,by rw [List.length_set];exact w.el,fun j row' h=>?_,?_,?_⟩
 ·rw [List.take_set_of_le (by lia)];exact w.low
 ·by_cases e:i=j
  ·subst e
   rw [List.getElem?_set_self (by rw [w.el];exact hi)] at h
   cases h
   rw [List.getElem?_set_self (by lia)]
  ·rw [gS1 e] at h
   rw [gS1 (by lia)]
   exact w.row j row' h
 ·rw [gS1 (by lia)];exact w.ends
 ·rw [gS1 (by lia)];exact w.prs
theorem WS.setPrs {t m:Nat}{T:Sto}{E:List (List (Nat×Nat))}{P P':List (Nat×Nat)}{U:Sto}(w:WS t m T E P U):WS t m T E P' (U.set (t+m+1) (.lst (P'.map pD))):=by
 have hl:t+m+1<U.length:=(gE1.mp w.prs).1
 refine ⟨w.tl,?_,w.el,fun j row' h=>?_,?_,?_⟩
 ·rw [List.take_set_of_le (by lia)];exact w.low
 ·have hj:j<m:=by rw [<- w.el];exact (gE1.mp h).1
  rw [gS1 (by lia)]
  exact w.row j row' h
 ·rw [gS1 (by lia)];exact w.ends
 ·rw [List.getElem?_set_self (by lia)]
theorem WS.split {t m:Nat}{T:Sto}{E:List (List (Nat×Nat))}{P:List (Nat×Nat)}{U:Sto}(w:WS t m T E P U):U=T++U.drop t:=by
 conv=>lhs;rw [<- List.take_append_drop t U,w.low]
theorem refs_at:∀ {k n i:Nat},i<k->(refs n k)[i]? = some (.ref (n+i))
 | k+1,n,0,_=>rfl
 | k+1,n,i+1,h=>by rw [refs,gC1,refs_at (Nat.lt_of_succ_lt_succ h),show n+1+i=n+(i+1) by lia]
theorem refs_len:∀ k n:Nat,(refs n k).length=k
 | 0,_=>rfl
 | k+1,n=>by rw [refs,lC1,refs_len]
noncomputable def tot (E:List (List (Nat×Nat))):Nat:=(E.map List.length).sum
theorem tot_set:∀ {E:List (List (Nat×Nat))} {i:Nat} {row row':List (Nat×Nat)},E[i]? = some row->tot (E.set i row')+row.length=tot E+row'.length
 | [],i,_,_,h=>by simp at h
 | a::E,0,row,row',h=>by simp at h;subst h;simp [tot];lia
 | a::E,i+1,row,row',h=>by
  have:=tot_set (E:=E) (i:=i) (row:=row) (row':=row') (by simpa using h)
  simp [tot] at this ⊢
  lia
theorem tot_ge:∀ {E:List (List (Nat×Nat))} {k:Nat},k<=E.length->(∀ i row,i<k->E[i]? = some row->4<=row.length)->4*k<=tot E
 | E,0,_,_=>by lia
 | [],k+1,h,_=>by simp at h
 | a::E,k+1,h,q=>by
  have h1:=q 0 a (by lia) rfl
  have h2:=tot_ge (E:=E) (k:=k) (by simpa using h) fun i row hi hr=>q (i+1) row (by lia) (by simpa using hr)
  simp [tot] at h2 ⊢
  lia
noncomputable def nmD (rs:List Nat):List D:=rs.map fun i:Nat=>D.int i
theorem nm_len (rs:List Nat):(nmD rs).length=rs.length:=by simp [nmD]
theorem nm_und (rs:List Nat):D.unds 0 (nmD rs)=true:=unds_map fun _ _=>rfl
theorem nm_sub {xs:List D}{n:Nat}(h:xs.Sublist (nums 0 n)):∃ rs:List Nat,xs=nmD rs/\rs.Sublist (List.range n):=by
 rw [nums0] at h
 obtain ⟨l,hl,e⟩:=List.sublist_map_iff.mp h
 exact ⟨l,e,hl⟩
noncomputable abbrev Wk:=Nat×Nat×Nat
noncomputable def wkD1 (w:Wk):D:=.tup [.int w.1,.int w.2.1,.int w.2.2]
noncomputable def wksD (ws:List Wk):List D:=ws.map wkD1
theorem wks_len (ws:List Wk):(wksD ws).length=ws.length:=by simp [wksD]
theorem wks_und (ws:List Wk):D.unds 0 (wksD ws)=true:=unds_map fun _ _=>rfl
noncomputable def wholeD (ws:List Wk)(cs:List Nat):D:=.tup [.tup (wksD ws),.tup (nmD cs)]
theorem whole_und {ws:List Wk}{cs:List Nat}:(wholeD ws cs).und 0=true:=by simp [wholeD,D.und,D.unds,wks_und,nm_und]
noncomputable def eyesL (a b c d:Bool):List D:=(if a then [.str "came"] else [])++(if b then [.str "chalk"] else [])++(if c then [.str "doors"] else [])++(if d then [.str "others"] else [])
theorem eyes_sub {xs:List D}(h:xs.Sublist [.str "came",.str "chalk",.str "doors",.str "others"]):∃ a b c d,xs=eyesL a b c d:=by
 have one:∀ {x:D} {l ys:List D},ys.Sublist (x::l) -> ∃ (a:Bool) (zs:List D),zs.Sublist l/\ys=(if a then [x] else [])++zs:=by
  intro x l ys h
  cases h with
  | cons _ h=>exact ⟨false,ys,h,rfl⟩
  | cons_cons _ h=>exact ⟨true,_,h,rfl⟩
 obtain ⟨a,z1,h1,rfl⟩:=one h
 obtain ⟨b,z2,h2,rfl⟩:=one h1
 obtain ⟨c,z3,h3,rfl⟩:=one h2
 obtain ⟨d,z4,h4,rfl⟩:=one h3
 have:z4=[]:=List.eq_nil_of_sublist_nil h4
 subst this
 exact ⟨a,b,c,d,by simp [eyesL]⟩
theorem eyes_len (a b c d:Bool):(eyesL a b c d).length<=4:=by cases a<;>cases b<;>cases c<;>cases d<;>decide
theorem eyes_und (a b c d:Bool):D.unds 0 (eyesL a b c d)=true:=by cases a<;>cases b<;>cases c<;>cases d<;>rfl
theorem in_came {a b c d:Bool}{S:Sto}:gInY (.str "came") (.tup (eyesL a b c d)) S=some (.bl a,S):=by cases a<;>cases b<;>cases c<;>cases d<;>rfl
theorem in_chalk {a b c d:Bool}{S:Sto}:gInY (.str "chalk") (.tup (eyesL a b c d)) S=some (.bl b,S):=by cases a<;>cases b<;>cases c<;>cases d<;>rfl
theorem in_doors {a b c d:Bool}{S:Sto}:gInY (.str "doors") (.tup (eyesL a b c d)) S=some (.bl c,S):=by cases a<;>cases b<;>cases c<;>cases d<;>rfl
theorem in_others {a b c d:Bool}{S:Sto}:gInY (.str "others") (.tup (eyesL a b c d)) S=some (.bl d,S):=by cases a<;>cases b<;>cases c<;>cases d<;>rfl
theorem inL_nm {S:Sto}{n:Nat}{x:Nat}:∀ cs:List Nat,inL (eqN S (n+1)) (.int x) (nmD cs)=some (cs.contains x)
 | []=>rfl
 | c::cs=>by
  have e1:eqN S (n+1) (.int c) (.int x)=some ((c:Int) == (x:Int)):=rfl
  have e2:((c:Int) == (x:Int))=(x == c):=by
   rw [Bool.eq_iff_iff,beq_iff_eq,beq_iff_eq];lia
  have ih:=inL_nm (S:=S) (n:=n) (x:=x) cs
  rw [nmD,mP1,inL,e1,e2]
  rw [nmD] at ih
  rw [ih,List.contains_cons];rfl
theorem in_nm {S:Sto}{x:Nat}{cs:List Nat}:gInY (.int x) (.tup (nmD cs)) S=some (.bl (cs.contains x),S):=by
 simp only [gInY,gInX,gIn,seqOf,oS1,deepMost,show (60:Nat)=59+1 from rfl,inL_nm,oP1]
noncomputable def sightD (a b c d:Bool)(came chalk doors others:Int):D:=.tup [if a then .int came else .non,if b then .int chalk else .non,if c then .int doors else .non,if d then .int others else .non]
theorem sight_und {a b c d:Bool}{w x y z:Int}:(sightD a b c d w x y z).und 0=true:=by cases a<;>cases b<;>cases c<;>cases d<;>rfl
theorem put_len {κ:Type}[DecidableEq κ]{k:κ}{v:D}{a:List (κ×D)}:(putD a k v).length<=a.length+1:=by
 unfold putD
 split
 ·rw [lM1];lia
 ·rw [lA1];simp
theorem put_ne {κ:Type}[DecidableEq κ]{k:κ}{v:D}{a:List (κ×D)}:putD a k v≠[]:=by
 unfold putD
 split
 ·rename_i h
  intro z
  cases a with
  | nil=>simp at h
  | cons x xs=>simp at z
 ·simp
noncomputable def dO (F:List (TK×D)):Ob:=if F=[] then .dct [] else .dcT F
theorem gc_app {d:D}{S G:Sto}(hd:d.und 0=true)(hS:S.all (Ob.und S.length)=true):gc S.length (d,S++G)=(d,S):=by
 unfold gc
 dsimp only
 rw [List.take_left,if_pos (by rw [und_mono hd,hS];rfl)]
theorem gc_pre {d:D}{S V:Sto}(hd:d.und 0=true)(hS:S.all (Ob.und S.length)=true)(hp:S <+: V):gc S.length (d,V)=(d,S):=by
 obtain ⟨G,rfl⟩:=hp
 exact gc_app hd hS
theorem W_zipL {m:FA}{r:Ev}{S:Sto}{xs ys:List D}{n:Nat}{Q:Itm×Sto->Prop}(hm:m r S=some ([.tup xs,.ref n],S))(hn:S[n]? = some (.lst ys))(q:Q (⟨zpD xs ys,[(n,ys)]⟩,S)):W (iZp m r S) Q:=by
 refine W.of (x:=(⟨zpD xs ys,[(n,ys)]⟩,S)) ?_ q
 simp only [iZp,hm,oS1,seq_tup,seq_ref hn,chk_tup,chk_ref hn,List.nil_append]
theorem zp_map {α:Type}{f g:α->D}:∀ l:List α,zpD (l.map f) (l.map g)=l.map fun x=>D.tup [f x,g x]
 | []=>rfl
 | a::l=>by rw [mP1,mP1,zpD,zp_map l];rfl
theorem W_enT {m:FA}{r:Ev}{S:Sto}{xs:List D}{Q:Itm×Sto->Prop}(hm:m r S=some ([.tup xs],S))(q:Q (⟨enD 0 xs,[]⟩,S)):W (iEn m r S) Q:=by
 refine W.of (x:=(⟨enD 0 xs,[]⟩,S)) ?_ q
 simp only [iEn,hm,oS1,seq_tup,chk_tup]
theorem en_map {α:Type}{f:α->D}:∀ (l:List α) (k:Nat),enD k (l.map f)=(l.zipIdx k).map fun p=>D.tup [.int (p.2:Nat),f p.1]
 | [],_=>rfl
 | a::l,k=>by rw [mP1,enD,en_map l (k+1),List.zipIdx_cons];rfl
theorem zipIdx_at {α:Type}{l:List α}{p:α×Nat}(h:p∈l.zipIdx):l[p.2]? = some p.1:=by
 have:=List.mem_zipIdx_iff_getElem?.mp h
 exact this
theorem zipIdx_fst {α β:Type}(f:α->β)(l:List α):(l.zipIdx.map fun p=>f p.1)=l.map f:=by
 have:(fun p:α×Nat=>f p.1)=f∘Prod.fst:=rfl
 rw [this,<- List.map_map,List.zipIdx_map_fst]
mutual
theorem sh_und {n:Nat}:∀ {d:D},d.und 0=true->d.sh n=d
 | .non,_=>rfl
 | .bl _,_=>rfl
 | .int _,_=>rfl
 | .str _,_=>rfl
 | .tup xs,h=>by rw [D.und] at h;rw [D.sh,shs_und h]
 | .rol xs,h=>by rw [D.und] at h;rw [D.sh,shs_und h]
 | .ref k,h=>by simp [D.und] at h
theorem shs_und {n:Nat}:∀ {ds:List D},D.unds 0 ds=true->D.shs n ds=ds
 | [],_=>rfl
 | d::ds,h=>by
  rw [D.unds,bA1] at h
  rw [D.shs,sh_und h.1,shs_und h.2]
end
theorem callL {n:Nat}{f:FN}{ds:List D}{S:Sto}{Q:D×Sto->Prop}(hn:ds.length=n)(hu:D.unds 0 ds=true)(h:W (f ds []) fun p=>∃ xs,p=(.ref 0,[.lst xs])/\D.unds 0 xs=true/\Q (.ref S.length,S++[.lst xs])):W (mCall n f ds S) Q:=by
 obtain ⟨p,e,xs,rfl,hx,q⟩:=h
 refine ⟨_,call_new e hn hu rfl,?_⟩
 have e1:(D.ref 0).sh S.length = .ref S.length:=rfl
 have e2:[Ob.lst xs].map (Ob.sh S.length)=[Ob.lst xs]:=by rw [mP1,List.map_nil,Ob.sh,shs_und hx]
 rw [e1,e2]
 exact q
theorem mem_dd {ns:List Int}{k:Int}:k∈ddI ns↔k∈ns:=by
 have key:∀ (ns acc:List Int),k∈ns.foldl step_dedup acc↔k∈acc\/k∈ns:=by
  intro ns
  induction ns with
  | nil=>intro acc;simp
  | cons n ns ih=>
   intro acc
   rw [List.foldl_cons,ih]
   have:k∈step_dedup acc n↔k∈acc\/k=n:=by
    unfold step_dedup
    split
    ·rename_i h
     obtain ⟨x,hx,e⟩:=List.any_eq_true.mp h
     have e:=beq_iff_eq.mp e
     subst e
     constructor
     ·exact .inl
     ·rintro (z | z)
      ·exact z
      ·rw [z];exact hx
    ·simp
   rw [this,List.mem_cons,or_assoc]
 unfold ddI
 rw [key];simp
theorem sort_dd {xs:List Nat}{m:Nat}{f:Nat->Bool}(h:∀ r,r∈xs↔r<m/\f r=true):sortI (ddI (xs.map fun (r:Nat)=>(r:Int)))=((List.range m).filter f).map fun (r:Nat)=>(r:Int):=by
 refine pw_uniq ?_ (sortI_pw _) ?_
 ·refine (sortI_perm _).trans ?_
  refine (List.perm_ext_iff_of_nodup (dd_nodup _ [] List.nodup_nil) ?_).mpr fun k=>?_
  ·refine List.pairwise_map.mpr ((List.nodup_range.filter f).imp fun hne z=>hne (by lia))
  ·show k∈ddI _↔_
   rw [mem_dd,List.mem_map,List.mem_map]
   constructor
   ·rintro ⟨r,hr,rfl⟩
    exact ⟨r,List.mem_filter.mpr ⟨List.mem_range.mpr ((h r).mp hr).1,((h r).mp hr).2⟩,rfl⟩
   ·rintro ⟨r,hr,rfl⟩
    obtain ⟨h1,h2⟩:=List.mem_filter.mp hr
    exact ⟨r,(h r).mpr ⟨List.mem_range.mp h1,h2⟩,rfl⟩
 ·refine List.pairwise_map.mpr ((List.pairwise_lt_range.sublist List.filter_sublist).imp fun hlt=>by lia)
theorem ints_nm (xs:List Nat):intsOf (nmD xs)=some (xs.map fun (r:Nat)=>(r:Int)):=by
 induction xs with
 | nil=>rfl
 | cons x xs ih=>
  show (intsOf (nmD xs)).map _=_
  rw [ih];rfl
theorem W_sortSet {S:Sto}{n:Nat}{xs:List Nat}{m:Nat}{f:Nat->Bool}{Q:D×Sto->Prop}(hn:S[n]? = some (.lst (nmD xs)))(h:∀ r,r∈xs↔r<m/\f r=true)(hl:xs.length<64)(q:Q (.ref S.length,S++[.lst (nmD ((List.range m).filter f))])):W (gSortSet (.ref n) S) Q:=by
 refine W.of (x:=(.ref S.length,S++[.lst (nmD ((List.range m).filter f))])) ?_ q
 simp only [gSortSet,seq_ref hn,ints_nm,oS1]
 rw [if_pos (by rw [lM1];exact hl),sort_dd h,List.map_map]
 rfl
end Mi
end
local macro_rules | `(tactic| walk_at "own wq") => `(tactic| simp only [Mi.W_some, Mi.W_none, Mi.ite_and', Mi.W_bind, Mi.W_map, Mi.W_ite, Mi.mSeq, Mi.mAsg, Mi.mIfS, Mi.mRet, Mi.mDrop, Mi.mNx, Mi.mN, Mi.mCons, Mi.mNil, Mi.m2, Mi.mV, Mi.mC, Mi.W_mTup, Mi.W_mLst, Mi.mB, Mi.mAnd, Mi.mOr, Mi.mIf, Mi.mTrue, Mi.gN, Mi.gT, Mi.gCs, Mi.gNl, Mi.gS, Mi.b1, Mi.b2, Mi.b3, Mi.fnB, Mi.startD, Mi.W_fComp, Mi.W_iR1, Mi.W_iR2, Mi.rW1, Mi.rW2, Mi.mFor, Mi.inEv, Mi.W_addI, Mi.gSub, Mi.gCmp, Mi.gInt, Mi.gEq_int, Mi.gLt_int, Mi.gEq_str, Mi.gNe_str, Mi.ft0, Mi.ft2, Mi.ft3, Mi.ft4, Mi.ft5, true_and, Mi.get_app, Mi.get_app0, List.append_assoc, lA1, List.getElem?_cons_zero, gC1, List.getElem?_nil, List.set_cons_zero, List.set_cons_succ, lC1, List.length_nil, mP1, List.map_nil, Mi.rp0, Mi.rp1, Mi.rp2, Mi.rp3, Mi.rp4, Mi.rp5, Mi.rp7, Mi.rp8, Mi.rp9, Mi.rp12, List.nil_append, List.cons_append, List.append_nil, Nat.reduceAdd, Nat.reduceSub, Option.join_some, Option.join_none, oP1, Option.map_none, oS1, Option.bind_none, if_true, if_false, bF1, Bool.not_true, Bool.not_false, ite_true, ite_false, reduceIte, decide_true, decide_false, Mi.al1, Mi.al7, Mi.len_tup, Mi.W_iSeq, Mi.W_gTup, Mi.W_len])
section
namespace Law
open PySem PySem.Spec PyProof.Rows L2 Mi
noncomputable def top (i:Nat):Stmt:=PySem.Challenge.pw_ringmeet_k28_rooms_without_names.main.body.getD i (.Pass ⟨0,0,0,0⟩)
structure Blt (mg:Str->Option Value):Prop where
 z_enumerate:mg "enumerate"=none
 z_int:mg "int"=none
 z_len:mg "len"=none
 z_max:mg "max"=none
 z_min:mg "min"=none
 z_range:mg "range"=none
 z_repr:mg "repr"=none
 z_set:mg "set"=none
 z_sorted:mg "sorted"=none
 z_tuple:mg "tuple"=none
 z_zip:mg "zip"=none
noncomputable def d_PARTS:D:=(D.tup [(D.tup [(D.str "came"),(D.int (5))]),(D.tup [(D.str "chalk"),(D.int (2))]),(D.tup [(D.str "doors"),(D.int (5))]),(D.tup [(D.str "others"),(D.int (2))])])
noncomputable abbrev s_first_of:Stmt:=top 3
noncomputable def p_first_of_1:FT:=(mB (m2 (b2 gLt) (mV 2) (mV 3)))
noncomputable def p_first_of_2:FS:=(mSeq (mAsg (m2 (b2 gDiv) (m2 (b2 gAdd) (mV 2) (mV 3)) (mC (D.int (2)))) (gN 4))
  (mIfS (mB (m2 (b2 gLt) (m2 (b2 gIxY) (m2 (b2 gIxY) (m2 (b2 gIxY) (mV 0) (mV 4)) (mC (D.int (0)))) (mC (D.int (0)))) (mV 1))) (mAsg (m2 (b2 gAdd) (mV 4) (mC (D.int (1)))) (gN 2)) (mAsg (mV 4) (gN 3))))
noncomputable def b_first_of:FS:=(mSeq (mAsg (mC (D.int (0))) (gN 2))
  (mSeq (mAsg (mN (b1 gLen) (mCons (mV 0) mNil)) (gN 3))
  (mSeq (whl p_first_of_1 p_first_of_2 100000)
  (mRet (mV 2)))))
noncomputable def m_first_of:FN:=fnB 5 b_first_of
theorem sc_first_of:FnScope ["rows","mood","low","high","middle"] ["rows","mood"] (defScope s_first_of):=⟨rfl,rfl,rfl,by decide+kernel,rfl,by decide+kernel,by decide+kernel⟩
theorem ok_first_of {P:Program}{w:World}{K:Fg1}{mg:Str->Option Value}{base:Heap}{f:Addr}{fd:FuncData}(F:Fun K "first_of" "first_of" s_first_of f fd)(hb:Binds K fd ["rows","mood"] [])(hm:mg "first_of"=some (.ref f))(B:Blt mg):
  Own P w K mg base 1 "first_of" 2 m_first_of:=xown_mk (k:=0) (n:=2) (N:=["rows","mood","low","high","middle"]) (ps:=["rows","mood"]) (b:=b_first_of) F hb hm sc_first_of rfl fun cdv A outer s H E hr=>
 (qF (qY 2 sc_first_of.nd rfl (by first|exact Or.inl rfl|exact Or.inr rfl) qK)
  (qF (qY 3 sc_first_of.nd rfl (by first|exact Or.inl rfl|exact Or.inr rfl) (qD c_len rfl B.z_len (by decide+kernel) (qA (xmv 0) qN (qM ..))))
  (qF (xms_while 100000 PassesOwn.never (qX (o_ltN hr.units) (xmv 2) (xmv 3) (nomark _)) (qF (qY 4 sc_first_of.nd rfl (by first|exact Or.inl rfl|exact Or.inr rfl) (qI o_div (qI o_add (xmv 2) (xmv 3)) qK))
  (qG (qV (qX (o_ltN hr.units) (qJ (qP hr.units) (qJ (qP hr.units) (qJ (qP hr.units) (xmv 0) (xmv 4) (fun _ _=>rfl)) qK (fun _ _=>rfl)) qK (fun _ _=>rfl)) (xmv 1) (nomark _)) (qG (qY 2 sc_first_of.nd rfl (by first|exact Or.inl rfl|exact Or.inr rfl) (qI o_add (xmv 4) qK))) (qG (qY 3 sc_first_of.nd rfl (by first|exact Or.inl rfl|exact Or.inr rfl) (xmv 4)))))))
  (qG (qU (xmv 2))))))
noncomputable abbrev s_sight_of:Stmt:=top 5
noncomputable def b_sight_of:FS:=(mSeq (mAsg (mV 2) (gT 2 (gCs (gN 4) (gCs (gN 5) gNl))))
  (mSeq (mAsg (m2 (b2 gIxY) (mV 4) (mV 3)) (gT 3 (gCs (gN 6) (gCs (gN 7) (gCs (gN 8) gNl)))))
  (mSeq (mAsg (fComp 1 [6] (iSeq (mV 4)) (gN 0) (mB (m2 (b2 gEq) (m2 (b2 gIxY) (mV 0) (mC (D.int (0)))) (mV 1))) (fEmit (mV 0))) (gN 9))
  (mSeq (mAsg (mDisp [((mC (D.str "came")),(mV 7)),((mC (D.str "chalk")),(mIf (mB (m2 (b2 gInY) (mV 6) (mV 5))) (mC (D.int (1))) (mC (D.int (0))))),((mC (D.str "doors")),(mN (b1 gLen) (mCons (m2 (b2 gIxY) (mV 0) (mV 6)) mNil))),((mC (D.str "others")),(mIf (mB (m2 (b2 (gCmp fun i j=>decide (j<i))) (mN (b1 gLen) (mCons (mV 9) mNil)) (mC (D.int (1))))) (mC (D.int (1))) (mC (D.int (0)))))]) (gN 10))
  (mRet (mN (b1 gTup) (mCons (fComp 2 [1,10] (iSeq (mC d_PARTS)) (gT 2 (gCs (gN 0) (gCs (gN 1) gNl))) mTrue (fEmit (mIf (mB (m2 (b2 gInY) (mV 0) (mV 2))) (m2 (b2 gIxY) (mV 3) (mV 0)) (mC D.non)))) mNil)))))))
noncomputable def m_sight_of:FN:=fnB 11 b_sight_of
theorem sc_sight_of:FnScope ["web","eyes","whole","k","walkers","chalk","room","came","mood","here","parts"] ["web","eyes","whole","k"] (defScope s_sight_of):=⟨rfl,rfl,rfl,by decide+kernel,rfl,by decide+kernel,by decide+kernel⟩
theorem ok_sight_of {P:Program}{w:World}{K:Fg1}{mg:Str->Option Value}{base:Heap}{f:Addr}{fd:FuncData}(F:Fun K "sight_of" "sight_of" s_sight_of f fd)(hb:Binds K fd ["web","eyes","whole","k"] [])(hm:mg "sight_of"=some (.ref f))(B:Blt mg)(c_PARTS:CGl K mg "PARTS" d_PARTS):
  Own P w K mg base 1 "sight_of" 4 m_sight_of:=xown_mk (k:=0) (n:=4) (N:=["web","eyes","whole","k","walkers","chalk","room","came","mood","here","parts"]) (ps:=["web","eyes","whole","k"]) (b:=b_sight_of) F hb hm sc_sight_of rfl fun cdv A outer s H E hr=>
 (qF (qR (xmv 2) (xmg_tup rfl (xmgs_cons (qO 4 sc_sight_of.nd rfl (by first|exact Or.inl rfl|exact Or.inr rfl)) (xmgs_cons (qO 5 sc_sight_of.nd rfl (by first|exact Or.inl rfl|exact Or.inr rfl)) xmgs_nil))))
  (qF (qR (qJ (qP hr.units) (xmv 4) (xmv 3) (fun _ _=>rfl)) (xmg_tup rfl (xmgs_cons (qO 6 sc_sight_of.nd rfl (by first|exact Or.inl rfl|exact Or.inr rfl)) (xmgs_cons (qO 7 sc_sight_of.nd rfl (by first|exact Or.inl rfl|exact Or.inr rfl)) (xmgs_cons (qO 8 sc_sight_of.nd rfl (by first|exact Or.inl rfl|exact Or.inr rfl)) xmgs_nil)))))
  (qF (xfs_comp1 9 rfl (T:=["other"]) (keep:=[6]) ⟨rfl,by decide+kernel,(List.forall_mem_cons.mpr ⟨⟨_,rfl,rfl,(by first|exact Or.inl rfl|exact Or.inr rfl),(by first | decide+kernel | (show ¬ (("room":Str),NameKind.cell)∈(_:List (Str×NameKind));decide+kernel))⟩,(List.forall_mem_nil _)⟩)⟩ rfl (qd (xmv 4)) (fun _ _ _=>⟨(qO 0 (show List.Nodup (["other","room"]:List Str) by decide+kernel) rfl (by first|exact Or.inl rfl|exact Or.inr rfl)),(xmif_one (qX (o_eq hr.units) (qJ (qP hr.units) (xmv 0) qK (fun _ _=>rfl)) (xmv 1) (nomark _))),(xmv 0)⟩) sc_sight_of.nd rfl (by first|exact Or.inl rfl|exact Or.inr rfl))
  (qF (qY 10 sc_sight_of.nd rfl (by first|exact Or.inl rfl|exact Or.inr rfl) (xme_disp (xmp_cons xme_str (xmv 7) (xmp_cons xme_str (xme_if (qX (o_inY hr.units) (xmv 6) (xmv 5) (by with_unfolding_all rfl)) qK qK) (xmp_cons xme_str (qD c_len rfl B.z_len (by decide+kernel) (qA (qJ (qP hr.units) (xmv 0) (xmv 6) (fun _ _=>rfl)) qN (qS ..))) (xmp_cons xme_str (xme_if (qX o_gt (qD c_len rfl B.z_len (by decide+kernel) (qA (xmv 9) qN (qM ..))) qK (nomark _)) qK qK) xmp_nil))))))
  (qG (qU (qE c_tuple rfl B.z_tuple (by decide+kernel) (qA (qZ rfl (T:=["eye","many"]) (keep:=[1,10]) ⟨rfl,by decide+kernel,(List.forall_mem_cons.mpr ⟨⟨_,rfl,rfl,(by first|exact Or.inl rfl|exact Or.inr rfl),(by first | decide+kernel | (show ¬ (("eyes":Str),NameKind.cell)∈(_:List (Str×NameKind));decide+kernel))⟩,(List.forall_mem_cons.mpr ⟨⟨_,rfl,rfl,(by first|exact Or.inl rfl|exact Or.inr rfl),(by first | decide+kernel | (show ¬ (("parts":Str),NameKind.cell)∈(_:List (Str×NameKind));decide+kernel))⟩,(List.forall_mem_nil _)⟩)⟩)⟩ rfl (qd (xme_glob c_PARTS rfl)) (fun _ _ _=>⟨(xmg_tup rfl (xmgs_cons (qO 0 (show List.Nodup (["eye","many","eyes","parts"]:List Str) by decide+kernel) rfl (by first|exact Or.inl rfl|exact Or.inr rfl)) (xmgs_cons (qO 1 (show List.Nodup (["eye","many","eyes","parts"]:List Str) by decide+kernel) rfl (by first|exact Or.inl rfl|exact Or.inr rfl)) xmgs_nil))),xmif_nil,(xme_if (qX (o_inY hr.units) (xmv 0) (xmv 2) (by with_unfolding_all rfl)) (qJ (qP hr.units) (xmv 3) (xmv 0) (fun _ _=>rfl)) xme_non)⟩)) qN (st_ListComp ..)))))))))
noncomputable abbrev s_handled:Stmt:=top 9
noncomputable def b_handled:FS:=(mSeq (mAsg (mV 0) (gT 2 (gCs (gN 2) (gCs (gN 3) gNl))))
  (mSeq (mAsg (fComp 2 [] (iZp (mCons (mV 2) (mCons (mV 1) mNil))) (gT 2 (gCs (gN 0) (gCs (gN 1) gNl))) (mB (m2 (b2 gEq) (m2 (b2 gIxY) (mV 1) (mC (D.int (1)))) (mC (D.str "mark")))) (fEmit (m2 (b2 gIxY) (mV 0) (mC (D.int (0)))))) (gN 4))
  (mSeq (mAsg (fComp 2 [] (iZp (mCons (mV 2) (mCons (mV 1) mNil))) (gT 2 (gCs (gN 0) (gCs (gN 1) gNl))) (mB (m2 (b2 gEq) (m2 (b2 gIxY) (mV 1) (mC (D.int (1)))) (mC (D.str "wipe")))) (fEmit (m2 (b2 gIxY) (mV 0) (mC (D.int (0)))))) (gN 5))
  (mSeq (mAsg (fComp 1 [5] (iSeq (mV 3)) (gN 0) (mB (m2 (b2 gNotInY) (mV 0) (mV 1))) (fEmit (mV 0))) (gN 6))
  (mRet (mN (b1 gTup) (mCons (mN (b1 gSortSet) (mCons (m2 (b2 gAdd) (mV 6) (mV 4)) mNil)) mNil)))))))
noncomputable def m_handled:FN:=fnB 7 b_handled
theorem sc_handled:FnScope ["whole","deeds","walkers","chalk","marked","wiped","left"] ["whole","deeds"] (defScope s_handled):=⟨rfl,rfl,rfl,by decide+kernel,rfl,by decide+kernel,by decide+kernel⟩
theorem ok_handled {P:Program}{w:World}{K:Fg1}{mg:Str->Option Value}{base:Heap}{f:Addr}{fd:FuncData}(F:Fun K "handled" "handled" s_handled f fd)(hb:Binds K fd ["whole","deeds"] [])(hm:mg "handled"=some (.ref f))(B:Blt mg):
  Own P w K mg base 1 "handled" 2 m_handled:=xown_mk (k:=0) (n:=2) (N:=["whole","deeds","walkers","chalk","marked","wiped","left"]) (ps:=["whole","deeds"]) (b:=b_handled) F hb hm sc_handled rfl fun cdv A outer s H E hr=>
 (qF (qR (xmv 0) (xmg_tup rfl (xmgs_cons (qO 2 sc_handled.nd rfl (by first|exact Or.inl rfl|exact Or.inr rfl)) (xmgs_cons (qO 3 sc_handled.nd rfl (by first|exact Or.inl rfl|exact Or.inr rfl)) xmgs_nil))))
  (qF (xfs_comp1 4 rfl (T:=["walker","deed"]) (keep:=[]) ⟨rfl,by decide+kernel,(List.forall_mem_nil _)⟩ rfl (xmi_zip rfl B.z_zip (qA (xmv 2) (qA (xmv 1) qN (qM ..)) (qM ..))) (fun _ _ _=>⟨(xmg_tup rfl (xmgs_cons (qO 0 (show List.Nodup (["walker","deed"]:List Str) by decide+kernel) rfl (by first|exact Or.inl rfl|exact Or.inr rfl)) (xmgs_cons (qO 1 (show List.Nodup (["walker","deed"]:List Str) by decide+kernel) rfl (by first|exact Or.inl rfl|exact Or.inr rfl)) xmgs_nil))),(xmif_one (qX (o_eq hr.units) (qJ (qP hr.units) (xmv 1) qK (fun _ _=>rfl)) xme_str (nomark _))),(qJ (qP hr.units) (xmv 0) qK (fun _ _=>rfl))⟩) sc_handled.nd rfl (by first|exact Or.inl rfl|exact Or.inr rfl))
  (qF (qY 5 sc_handled.nd rfl (by first|exact Or.inl rfl|exact Or.inr rfl) (qZ rfl (T:=["walker","deed"]) (keep:=[]) ⟨rfl,by decide+kernel,(List.forall_mem_nil _)⟩ rfl (xmi_zip rfl B.z_zip (qA (xmv 2) (qA (xmv 1) qN (qM ..)) (qM ..))) (fun _ _ _=>⟨(xmg_tup rfl (xmgs_cons (qO 0 (show List.Nodup (["walker","deed"]:List Str) by decide+kernel) rfl (by first|exact Or.inl rfl|exact Or.inr rfl)) (xmgs_cons (qO 1 (show List.Nodup (["walker","deed"]:List Str) by decide+kernel) rfl (by first|exact Or.inl rfl|exact Or.inr rfl)) xmgs_nil))),(xmif_one (qX (o_eq hr.units) (qJ (qP hr.units) (xmv 1) qK (fun _ _=>rfl)) xme_str (nomark _))),(qJ (qP hr.units) (xmv 0) qK (fun _ _=>rfl))⟩)))
  (qF (xfs_comp1 6 rfl (T:=["room"]) (keep:=[5]) ⟨rfl,by decide+kernel,(List.forall_mem_cons.mpr ⟨⟨_,rfl,rfl,(by first|exact Or.inl rfl|exact Or.inr rfl),(by first | decide+kernel | (show ¬ (("wiped":Str),NameKind.cell)∈(_:List (Str×NameKind));decide+kernel))⟩,(List.forall_mem_nil _)⟩)⟩ rfl (qd (xmv 3)) (fun _ _ _=>⟨(qO 0 (show List.Nodup (["room","wiped"]:List Str) by decide+kernel) rfl (by first|exact Or.inl rfl|exact Or.inr rfl)),(xmif_one (qX (o_notInY hr.units) (xmv 0) (xmv 1) (by with_unfolding_all rfl))),(xmv 0)⟩) sc_handled.nd rfl (by first|exact Or.inl rfl|exact Or.inr rfl))
  (qG (qU (qE c_tuple rfl B.z_tuple (by decide+kernel) (qA (xme_sortS rfl rfl B.z_sorted rfl B.z_set (qI o_add (xmv 6) (xmv 4))) qN (qL ..)))))))))
noncomputable abbrev s_stepped:Stmt:=top 10
noncomputable def b_stepped:FS:=(mSeq (mAsg (mV 1) (gT 3 (gCs (gN 3) (gCs (gN 4) (gCs (gN 5) gNl)))))
  (mSeq (mAsg (mV 2) (gT 3 (gCs (gN 6) (gCs (gN 7) (gCs (gN 8) gNl)))))
  (mSeq (mIfS (mOr (mB (m2 (b2 gIsX) (mV 8) (mC D.non))) (mB (m2 (b2 (gCmp fun i j=>decide (j<=i))) (mV 8) (mN (b1 gLen) (mCons (m2 (b2 gIxY) (mV 0) (mV 3)) mNil))))) (mRet (mTup (mCons (mV 3) (mCons (mV 4) (mCons (mV 6) mNil))))) mNx)
  (mSeq (mAsg (m2 (b2 gIxY) (m2 (b2 gIxY) (mV 0) (mV 3)) (mV 8)) (gT 2 (gCs (gN 9) (gCs (gN 10) gNl))))
  (mRet (mTup (mCons (mV 9) (mCons (m2 (b2 gAdd) (mC (D.int (1))) (mV 10)) (mCons (mV 6) mNil)))))))))
noncomputable def m_stepped:FN:=fnB 11 b_stepped
theorem sc_stepped:FnScope ["web","walker","deed","room","came","past","mood","hand","step","there","back"] ["web","walker","deed"] (defScope s_stepped):=⟨rfl,rfl,rfl,by decide+kernel,rfl,by decide+kernel,by decide+kernel⟩
theorem ok_stepped {P:Program}{w:World}{K:Fg1}{mg:Str->Option Value}{base:Heap}{f:Addr}{fd:FuncData}(F:Fun K "stepped" "stepped" s_stepped f fd)(hb:Binds K fd ["web","walker","deed"] [])(hm:mg "stepped"=some (.ref f))(B:Blt mg):
  Own P w K mg base 1 "stepped" 3 m_stepped:=xown_mk (k:=0) (n:=3) (N:=["web","walker","deed","room","came","past","mood","hand","step","there","back"]) (ps:=["web","walker","deed"]) (b:=b_stepped) F hb hm sc_stepped rfl fun cdv A outer s H E hr=>
 (qF (qR (xmv 1) (xmg_tup rfl (xmgs_cons (qO 3 sc_stepped.nd rfl (by first|exact Or.inl rfl|exact Or.inr rfl)) (xmgs_cons (qO 4 sc_stepped.nd rfl (by first|exact Or.inl rfl|exact Or.inr rfl)) (xmgs_cons (qO 5 sc_stepped.nd rfl (by first|exact Or.inl rfl|exact Or.inr rfl)) xmgs_nil)))))
  (qF (qR (xmv 2) (xmg_tup rfl (xmgs_cons (qO 6 sc_stepped.nd rfl (by first|exact Or.inl rfl|exact Or.inr rfl)) (xmgs_cons (qO 7 sc_stepped.nd rfl (by first|exact Or.inl rfl|exact Or.inr rfl)) (xmgs_cons (qO 8 sc_stepped.nd rfl (by first|exact Or.inl rfl|exact Or.inr rfl)) xmgs_nil)))))
  (qF (qV (xmt_w (xmw_or (qX o_isX (xmv 8) xme_non (nomark _)) (xmw_or1 (qX o_ge (xmv 8) (qD c_len rfl B.z_len (by decide+kernel) (qA (qJ (qP hr.units) (xmv 0) (xmv 3) (fun _ _=>rfl)) qN (qS ..))) (nomark _))))) (qG (qU (xme_tup (qA (xmv 3) (qA (xmv 4) (qA (xmv 6) qN (qM ..)) (qM ..)) (qM ..))))) qQ)
  (qF (qR (qJ (qP hr.units) (qJ (qP hr.units) (xmv 0) (xmv 3) (fun _ _=>rfl)) (xmv 8) (fun _ _=>rfl)) (xmg_tup rfl (xmgs_cons (qO 9 sc_stepped.nd rfl (by first|exact Or.inl rfl|exact Or.inr rfl)) (xmgs_cons (qO 10 sc_stepped.nd rfl (by first|exact Or.inl rfl|exact Or.inr rfl)) xmgs_nil))))
  (qG (qU (xme_tup (qA (xmv 9) (qA (qI o_add qK (xmv 10)) (qA (xmv 6) qN (qM ..)) (qB ..)) (qM ..)))))))))
noncomputable abbrev s__law_hand:Stmt:=top 12
noncomputable def b__law_hand:FS:=(mSeq (mAsg (mC (D.int (0))) (gN 2))
  (mSeq (mIfS (mB (m2 (b2 gLt) (mV 1) (mN (b1 gLen) (mCons (mV 0) mNil)))) (mAsg (m2 (b2 gIxY) (mV 0) (mV 1)) (gN 2)) mNx)
  (mSeq (mAsg (m2 (b2 gMul) (m2 (b2 gMod) (mV 2) (m2 (b2 gMul) (m2 (b2 gPow) (mC (D.int (10))) (mC (D.int (60)))) (m2 (b2 gPow) (mC (D.int (10))) (mC (D.int (30)))))) (mN (b1 gInt) (mCons (m2 (b2 (gCmp fun i j=>decide (j<=i))) (mV 2) (m2 (b2 gPow) (mC (D.int (10))) (mC (D.int (18))))) mNil))) (gN 3))
  (mRet (mLst (mCons (mV 3) (mCons (m2 (b2 gMod) (m2 (b2 gAdd) (m2 (b2 gAdd) (m2 (b2 gMod) (mV 2) (mC (D.int (2305843009213693951)))) (m2 (b2 gMul) (mC (D.int (7919))) (mV 1))) (mC (D.int (3)))) (mC (D.int (2305843009213693951)))) (mCons (mC (D.int (0))) mNil))))))))
noncomputable def m__law_hand:FN:=fnB 4 b__law_hand
theorem sc__law_hand:FnScope ["_law_script","_law_k","_law_cell","_law_great"] ["_law_script","_law_k"] (defScope s__law_hand):=⟨rfl,rfl,rfl,by decide+kernel,rfl,by decide+kernel,by decide+kernel⟩
theorem ok__law_hand {P:Program}{w:World}{K:Fg1}{mg:Str->Option Value}{base:Heap}{f:Addr}{fd:FuncData}(F:Fun K "_law_hand" "_law_hand" s__law_hand f fd)(hb:Binds K fd ["_law_script","_law_k"] [])(hm:mg "_law_hand"=some (.ref f))(B:Blt mg):
  Own P w K mg base 1 "_law_hand" 2 m__law_hand:=xown_mk (k:=0) (n:=2) (N:=["_law_script","_law_k","_law_cell","_law_great"]) (ps:=["_law_script","_law_k"]) (b:=b__law_hand) F hb hm sc__law_hand rfl fun cdv A outer s H E hr=>
 (qF (qY 2 sc__law_hand.nd rfl (by first|exact Or.inl rfl|exact Or.inr rfl) qK)
  (qF (qV (qX (o_ltN hr.units) (xmv 1) (qD c_len rfl B.z_len (by decide+kernel) (qA (xmv 0) qN (qM ..))) (nomark _)) (qG (qY 2 sc__law_hand.nd rfl (by first|exact Or.inl rfl|exact Or.inr rfl) (qJ (qP hr.units) (xmv 0) (xmv 1) (fun _ _=>rfl)))) qQ)
  (qF (qY 3 sc__law_hand.nd rfl (by first|exact Or.inl rfl|exact Or.inr rfl) (qI o_mul (qI o_mod (xmv 2) (qI o_mul (qI o_pow qK qK) (qI o_pow qK qK))) (qE c_int rfl B.z_int (by decide+kernel) (qA (xme_cmp o_ge (xmv 2) (qI o_pow qK qK) (nomark _)) qN (st_Compare ..)))))
  (qG (qU (xme_lst (qA (xmv 3) (qA (qI o_mod (qI o_add (qI o_add (qI o_mod (xmv 2) qK) (qI o_mul qK (xmv 1))) qK) qK) (qA qK qN (qC ..)) (qB ..)) (qM ..))))))))
noncomputable abbrev s__law_take:Stmt:=top 13
noncomputable def b__law_take:FS:=(mSeq (mIfS (mB (m2 (b2 (gCmp fun i j=>decide (j<i))) (m2 (b2 gIxY) (mV 0) (mC (D.int (0)))) (mC (D.int (0))))) (mSeq (mAsg (m2 (b2 gMod) (m2 (b2 gIxY) (mV 0) (mC (D.int (0)))) (mV 1)) (gN 2))
  (mSeq (mAsg (m2 (b2 gDiv) (m2 (b2 gIxY) (mV 0) (mC (D.int (0)))) (mV 1)) (gS (b3 gSetY) (mV 0) (mC (D.int (0)))))
  (mRet (mV 2)))) mNx)
  (mSeq (mAsg (m2 (b2 gAdd) (m2 (b2 gIxY) (mV 0) (mC (D.int (2)))) (mC (D.int (1)))) (gS (b3 gSetY) (mV 0) (mC (D.int (2)))))
  (mSeq (mAsg (m2 (b2 gMod) (m2 (b2 gMul) (m2 (b2 gAdd) (m2 (b2 gAdd) (m2 (b2 gIxY) (mV 0) (mC (D.int (1)))) (m2 (b2 gMul) (m2 (b2 gMul) (mC (D.int (65537))) (m2 (b2 gIxY) (mV 0) (mC (D.int (2))))) (m2 (b2 gIxY) (mV 0) (mC (D.int (2)))))) (mC (D.int (11)))) (mC (D.int (48271)))) (mC (D.int (2305843009213693921)))) (gN 3))
  (mSeq (mAsg (m2 (b2 gMod) (m2 (b2 gMul) (mV 3) (m2 (b2 gAdd) (m2 (b2 gMod) (mV 3) (mC (D.int (1000003)))) (m2 (b2 gMul) (mC (D.int (99991))) (m2 (b2 gIxY) (mV 0) (mC (D.int (2))))))) (mC (D.int (2305843009213693907)))) (gN 3))
  (mRet (m2 (b2 gMod) (m2 (b2 gAdd) (m2 (b2 gDiv) (mV 3) (mC (D.int (97)))) (m2 (b2 gDiv) (mV 3) (mC (D.int (1000033))))) (mV 1)))))))
noncomputable def m__law_take:FN:=fnB 4 b__law_take
theorem sc__law_take:FnScope ["_law_hand_here","_law_many","_law_digit","_law_mixed"] ["_law_hand_here","_law_many"] (defScope s__law_take):=⟨rfl,rfl,rfl,by decide+kernel,rfl,by decide+kernel,by decide+kernel⟩
theorem ok__law_take {P:Program}{w:World}{K:Fg1}{mg:Str->Option Value}{base:Heap}{f:Addr}{fd:FuncData}(F:Fun K "_law_take" "_law_take" s__law_take f fd)(hb:Binds K fd ["_law_hand_here","_law_many"] [])(hm:mg "_law_take"=some (.ref f))(B:Blt mg):
  Own P w K mg base 1 "_law_take" 2 m__law_take:=xown_mk (k:=0) (n:=2) (N:=["_law_hand_here","_law_many","_law_digit","_law_mixed"]) (ps:=["_law_hand_here","_law_many"]) (b:=b__law_take) F hb hm sc__law_take rfl fun cdv A outer s H E hr=>
 (qF (qV (qX o_gt (qJ (qP hr.units) (xmv 0) qK (fun _ _=>rfl)) qK (nomark _)) (qF (qY 2 sc__law_take.nd rfl (by first|exact Or.inl rfl|exact Or.inr rfl) (qI o_mod (qJ (qP hr.units) (xmv 0) qK (fun _ _=>rfl)) (xmv 1)))
  (qF (qR (qI o_div (qJ (qP hr.units) (xmv 0) qK (fun _ _=>rfl)) (xmv 1)) (xmg_sub (xmv 0) qK (s_setY hr.units)))
  (qG (qU (xmv 2))))) qQ)
  (qF (qR (qI o_add (qJ (qP hr.units) (xmv 0) qK (fun _ _=>rfl)) qK) (xmg_sub (xmv 0) qK (s_setY hr.units)))
  (qF (qY 3 sc__law_take.nd rfl (by first|exact Or.inl rfl|exact Or.inr rfl) (qI o_mod (qI o_mul (qI o_add (qI o_add (qJ (qP hr.units) (xmv 0) qK (fun _ _=>rfl)) (qI o_mul (qI o_mul qK (qJ (qP hr.units) (xmv 0) qK (fun _ _=>rfl))) (qJ (qP hr.units) (xmv 0) qK (fun _ _=>rfl)))) qK) qK) qK))
  (qF (qY 3 sc__law_take.nd rfl (by first|exact Or.inl rfl|exact Or.inr rfl) (qI o_mod (qI o_mul (xmv 3) (qI o_add (qI o_mod (xmv 3) qK) (qI o_mul qK (qJ (qP hr.units) (xmv 0) qK (fun _ _=>rfl))))) qK))
  (qG (qU (qI o_mod (qI o_add (qI o_div (xmv 3) qK) (qI o_div (xmv 3) qK)) (xmv 1))))))))
noncomputable abbrev s__law_far:Stmt:=top 15
noncomputable def b__law_far:FS:=(mSeq (mAsg (m2 (b2 gIxY) (m2 (b2 gIxY) (mV 1) (m2 (b2 gIxY) (mV 2) (mC (D.int (0))))) (m2 (b2 gSub) (mC (D.int (1))) (m2 (b2 gIxY) (mV 2) (mC (D.int (1)))))) (gN 3))
  (mRet (mTup (mCons (mV 3) (mCons (mMt (b2 gIdx) (m2 (b2 gIxY) (mV 0) (mV 3)) (mCons (mTup (mCons (m2 (b2 gIxY) (mV 2) (mC (D.int (0)))) (mCons (m2 (b2 gSub) (mC (D.int (1))) (m2 (b2 gIxY) (mV 2) (mC (D.int (1))))) mNil))) mNil)) mNil)))))
noncomputable def m__law_far:FN:=fnB 4 b__law_far
theorem sc__law_far:FnScope ["_law_ends","_law_pairs","_law_end","_law_room"] ["_law_ends","_law_pairs","_law_end"] (defScope s__law_far):=⟨rfl,rfl,rfl,by decide+kernel,rfl,by decide+kernel,by decide+kernel⟩
theorem ok__law_far {P:Program}{w:World}{K:Fg1}{mg:Str->Option Value}{base:Heap}{f:Addr}{fd:FuncData}(F:Fun K "_law_far" "_law_far" s__law_far f fd)(hb:Binds K fd ["_law_ends","_law_pairs","_law_end"] [])(hm:mg "_law_far"=some (.ref f))(B:Blt mg):
  Own P w K mg base 1 "_law_far" 3 m__law_far:=xown_mk (k:=0) (n:=3) (N:=["_law_ends","_law_pairs","_law_end","_law_room"]) (ps:=["_law_ends","_law_pairs","_law_end"]) (b:=b__law_far) F hb hm sc__law_far rfl fun cdv A outer s H E hr=>
 (qF (qY 3 sc__law_far.nd rfl (by first|exact Or.inl rfl|exact Or.inr rfl) (qJ (qP hr.units) (qJ (qP hr.units) (xmv 1) (qJ (qP hr.units) (xmv 2) qK (fun _ _=>rfl)) (fun _ _=>rfl)) (qI o_sub qK (qJ (qP hr.units) (xmv 2) qK (fun _ _=>rfl))) (fun _ _=>rfl)))
  (qG (qU (xme_tup (qA (xmv 3) (qA (qe PySem.F.slot_list_index PySem.F.type_list_index (t_idx hr.units) (qJ (qP hr.units) (xmv 0) (xmv 3) (fun _ _=>rfl)) (qA (xme_tup (qA (qJ (qP hr.units) (xmv 2) qK (fun _ _=>rfl)) (qA (qI o_sub qK (qJ (qP hr.units) (xmv 2) qK (fun _ _=>rfl))) qN (qB ..)) (qS ..))) qN (qT ..))) qN (qL ..)) (qM ..))))))
noncomputable abbrev s__law_sight:Stmt:=top 19
noncomputable def b__law_sight:FS:=(mSeq (mAsg (m2 (b2 gIxY) (m2 (b2 gIxY) (mV 2) (mC (D.int (0)))) (mV 3)) (gT 3 (gCs (gN 4) (gCs (gN 5) (gCs (gN 6) gNl)))))
  (mSeq (mAsg (mN (b1 gLen) (mCons (fComp 1 [4] (iSeq (m2 (b2 gIxY) (mV 2) (mC (D.int (0))))) (gN 0) (mB (m2 (b2 gEq) (m2 (b2 gIxY) (mV 0) (mC (D.int (0)))) (mV 1))) (fEmit (mV 0))) mNil)) (gN 7))
  (mSeq (mAsg (mDisp [((mC (D.str "came")),(mV 5)),((mC (D.str "chalk")),(mN (b1 gInt) (mCons (m2 (b2 gInY) (mV 4) (m2 (b2 gIxY) (mV 2) (mC (D.int (1))))) mNil))),((mC (D.str "doors")),(mN (b1 gLen) (mCons (m2 (b2 gIxY) (mV 0) (mV 4)) mNil))),((mC (D.str "others")),(mN (b1 gInt) (mCons (m2 (b2 (gCmp fun i j=>decide (j<i))) (mV 7) (mC (D.int (1)))) mNil)))]) (gN 8))
  (mRet (mN (b1 gTup) (mCons (fComp 1 [1,8] (iSeq (mTup (mCons (mC (D.str "came")) (mCons (mC (D.str "chalk")) (mCons (mC (D.str "doors")) (mCons (mC (D.str "others")) mNil)))))) (gN 0) mTrue (fEmit (mIf (mB (m2 (b2 gInY) (mV 0) (mV 1))) (m2 (b2 gIxY) (mV 2) (mV 0)) (mC D.non)))) mNil))))))
noncomputable def m__law_sight:FN:=fnB 9 b__law_sight
theorem sc__law_sight:FnScope ["_law_web_here","_law_eyes","_law_whole_here","_law_k","_law_room","_law_came","_law_mood","_law_crowd","_law_parts"] ["_law_web_here","_law_eyes","_law_whole_here","_law_k"] (defScope s__law_sight):=⟨rfl,rfl,rfl,by decide+kernel,rfl,by decide+kernel,by decide+kernel⟩
theorem ok__law_sight {P:Program}{w:World}{K:Fg1}{mg:Str->Option Value}{base:Heap}{f:Addr}{fd:FuncData}(F:Fun K "_law_sight" "_law_sight" s__law_sight f fd)(hb:Binds K fd ["_law_web_here","_law_eyes","_law_whole_here","_law_k"] [])(hm:mg "_law_sight"=some (.ref f))(B:Blt mg):
  Own P w K mg base 1 "_law_sight" 4 m__law_sight:=xown_mk (k:=0) (n:=4) (N:=["_law_web_here","_law_eyes","_law_whole_here","_law_k","_law_room","_law_came","_law_mood","_law_crowd","_law_parts"]) (ps:=["_law_web_here","_law_eyes","_law_whole_here","_law_k"]) (b:=b__law_sight) F hb hm sc__law_sight rfl fun cdv A outer s H E hr=>
 (qF (qR (qJ (qP hr.units) (qJ (qP hr.units) (xmv 2) qK (fun _ _=>rfl)) (xmv 3) (fun _ _=>rfl)) (xmg_tup rfl (xmgs_cons (qO 4 sc__law_sight.nd rfl (by first|exact Or.inl rfl|exact Or.inr rfl)) (xmgs_cons (qO 5 sc__law_sight.nd rfl (by first|exact Or.inl rfl|exact Or.inr rfl)) (xmgs_cons (qO 6 sc__law_sight.nd rfl (by first|exact Or.inl rfl|exact Or.inr rfl)) xmgs_nil)))))
  (qF (qY 7 sc__law_sight.nd rfl (by first|exact Or.inl rfl|exact Or.inr rfl) (qD c_len rfl B.z_len (by decide+kernel) (qA (qZ rfl (T:=["_law_walker"]) (keep:=[4]) ⟨rfl,by decide+kernel,(List.forall_mem_cons.mpr ⟨⟨_,rfl,rfl,(by first|exact Or.inl rfl|exact Or.inr rfl),(by first | decide+kernel | (show ¬ (("_law_room":Str),NameKind.cell)∈(_:List (Str×NameKind));decide+kernel))⟩,(List.forall_mem_nil _)⟩)⟩ rfl (qd (qJ (qP hr.units) (xmv 2) qK (fun _ _=>rfl))) (fun _ _ _=>⟨(qO 0 (show List.Nodup (["_law_walker","_law_room"]:List Str) by decide+kernel) rfl (by first|exact Or.inl rfl|exact Or.inr rfl)),(xmif_one (qX (o_eq hr.units) (qJ (qP hr.units) (xmv 0) qK (fun _ _=>rfl)) (xmv 1) (nomark _))),(xmv 0)⟩)) qN (st_ListComp ..))))
  (qF (qY 8 sc__law_sight.nd rfl (by first|exact Or.inl rfl|exact Or.inr rfl) (xme_disp (xmp_cons xme_str (xmv 5) (xmp_cons xme_str (qE c_int rfl B.z_int (by decide+kernel) (qA (xme_cmp (o_inY hr.units) (xmv 4) (qJ (qP hr.units) (xmv 2) qK (fun _ _=>rfl)) (by with_unfolding_all rfl)) qN (st_Compare ..))) (xmp_cons xme_str (qD c_len rfl B.z_len (by decide+kernel) (qA (qJ (qP hr.units) (xmv 0) (xmv 4) (fun _ _=>rfl)) qN (qS ..))) (xmp_cons xme_str (qE c_int rfl B.z_int (by decide+kernel) (qA (xme_cmp o_gt (xmv 7) qK (nomark _)) qN (st_Compare ..))) xmp_nil))))))
  (qG (qU (qE c_tuple rfl B.z_tuple (by decide+kernel) (qA (qZ rfl (T:=["_law_eye"]) (keep:=[1,8]) ⟨rfl,by decide+kernel,(List.forall_mem_cons.mpr ⟨⟨_,rfl,rfl,(by first|exact Or.inl rfl|exact Or.inr rfl),(by first | decide+kernel | (show ¬ (("_law_eyes":Str),NameKind.cell)∈(_:List (Str×NameKind));decide+kernel))⟩,(List.forall_mem_cons.mpr ⟨⟨_,rfl,rfl,(by first|exact Or.inl rfl|exact Or.inr rfl),(by first | decide+kernel | (show ¬ (("_law_parts":Str),NameKind.cell)∈(_:List (Str×NameKind));decide+kernel))⟩,(List.forall_mem_nil _)⟩)⟩)⟩ rfl (qd (xme_tup (qA xme_str (qA xme_str (qA xme_str (qA xme_str qN (qC ..)) (qC ..)) (qC ..)) (qC ..)))) (fun _ _ _=>⟨(qO 0 (show List.Nodup (["_law_eye","_law_eyes","_law_parts"]:List Str) by decide+kernel) rfl (by first|exact Or.inl rfl|exact Or.inr rfl)),xmif_nil,(xme_if (qX (o_inY hr.units) (xmv 0) (xmv 1) (by with_unfolding_all rfl)) (qJ (qP hr.units) (xmv 2) (xmv 0) (fun _ _=>rfl)) xme_non)⟩)) qN (st_ListComp ..))))))))
noncomputable abbrev s__law_chalked:Stmt:=top 20
noncomputable def p__law_chalked_1:FS:=(mSeq (mAsg (fComp 2 [4] (iZp (mCons (m2 (b2 gIxY) (mV 1) (mC (D.int (0)))) (mCons (mV 2) mNil))) (gT 2 (gCs (gN 0) (gCs (gN 1) gNl))) (mB (m2 (b2 gEq) (m2 (b2 gIxY) (mV 0) (mC (D.int (0)))) (mV 2))) (fEmit (m2 (b2 gIxY) (mV 1) (mC (D.int (1)))))) (gN 5))
  (mIfS (mOr (mB (m2 (b2 gInY) (mC (D.str "mark")) (mV 5))) (mAnd (mB (m2 (b2 gInY) (mV 4) (m2 (b2 gIxY) (mV 1) (mC (D.int (1)))))) (mB (m2 (b2 gNotInY) (mC (D.str "wipe")) (mV 5))))) (mDrop (mMt (b2 gApp) (mV 3) (mCons (mV 4) mNil))) mNx))
noncomputable def b__law_chalked:FS:=(mSeq (mAsg (mLst mNil) (gN 3))
  (mSeq (mFor (iR1 (mCons (mN (b1 gLen) (mCons (mV 0) mNil)) mNil)) (gN 4) p__law_chalked_1)
  (mRet (mN (b1 gTup) (mCons (mV 3) mNil)))))
noncomputable def m__law_chalked:FN:=fnB 6 b__law_chalked
theorem sc__law_chalked:FnScope ["_law_web_here","_law_whole_here","_law_dealt","_law_found","_law_room","_law_hands"] ["_law_web_here","_law_whole_here","_law_dealt"] (defScope s__law_chalked):=⟨rfl,rfl,rfl,by decide+kernel,rfl,by decide+kernel,by decide+kernel⟩
theorem ok__law_chalked {P:Program}{w:World}{K:Fg1}{mg:Str->Option Value}{base:Heap}{f:Addr}{fd:FuncData}(F:Fun K "_law_chalked" "_law_chalked" s__law_chalked f fd)(hb:Binds K fd ["_law_web_here","_law_whole_here","_law_dealt"] [])(hm:mg "_law_chalked"=some (.ref f))(B:Blt mg):
  Own P w K mg base 1 "_law_chalked" 3 m__law_chalked:=xown_mk (k:=0) (n:=3) (N:=["_law_web_here","_law_whole_here","_law_dealt","_law_found","_law_room","_law_hands"]) (ps:=["_law_web_here","_law_whole_here","_law_dealt"]) (b:=b__law_chalked) F hb hm sc__law_chalked rfl fun cdv A outer s H E hr=>
 (qF (qY 3 sc__law_chalked.nd rfl (by first|exact Or.inl rfl|exact Or.inr rfl) (xme_lst qN))
  (qF (qW PassesOwn.never rfl (xmi_range1 rfl B.z_range (qA (qD c_len rfl B.z_len (by decide+kernel) (qA (xmv 0) qN (qM ..))) qN (qL ..))) (qO 4 sc__law_chalked.nd rfl (by first|exact Or.inl rfl|exact Or.inr rfl)) (qF (xfs_comp1 5 rfl (T:=["_law_walker","_law_deed_here"]) (keep:=[4]) ⟨rfl,by decide+kernel,(List.forall_mem_cons.mpr ⟨⟨_,rfl,rfl,(by first|exact Or.inl rfl|exact Or.inr rfl),(by first | decide+kernel | (show ¬ (("_law_room":Str),NameKind.cell)∈(_:List (Str×NameKind));decide+kernel))⟩,(List.forall_mem_nil _)⟩)⟩ rfl (xmi_zip rfl B.z_zip (qA (qJ (qP hr.units) (xmv 1) qK (fun _ _=>rfl)) (qA (xmv 2) qN (qM ..)) (qS ..))) (fun _ _ _=>⟨(xmg_tup rfl (xmgs_cons (qO 0 (show List.Nodup (["_law_walker","_law_deed_here","_law_room"]:List Str) by decide+kernel) rfl (by first|exact Or.inl rfl|exact Or.inr rfl)) (xmgs_cons (qO 1 (show List.Nodup (["_law_walker","_law_deed_here","_law_room"]:List Str) by decide+kernel) rfl (by first|exact Or.inl rfl|exact Or.inr rfl)) xmgs_nil))),(xmif_one (qX (o_eq hr.units) (qJ (qP hr.units) (xmv 0) qK (fun _ _=>rfl)) (xmv 2) (nomark _))),(qJ (qP hr.units) (xmv 1) qK (fun _ _=>rfl))⟩) sc__law_chalked.nd rfl (by first|exact Or.inl rfl|exact Or.inr rfl))
  (qG (qV (xmt_w (xmw_or (qX (o_inY hr.units) xme_str (xmv 5) (by with_unfolding_all rfl)) (xmw_or1 (xmt_w (xmw_and (qX (o_inY hr.units) (xmv 4) (qJ (qP hr.units) (xmv 1) qK (fun _ _=>rfl)) (by with_unfolding_all rfl)) (xmw_and1 (qX (o_notInY hr.units) xme_str (xmv 5) (by with_unfolding_all rfl)))))))) (qG (xms_expr (qe PySem.F.slot_list_append PySem.F.type_list_append t_app (xmv 3) (qA (xmv 4) qN (qM ..))))) qQ))))
  (qG (qU (qE c_tuple rfl B.z_tuple (by decide+kernel) (qA (xmv 3) qN (qM ..)))))))
noncomputable abbrev s__law_renamed_web:Stmt:=top 24
noncomputable def p__law_renamed_web_1:FS:=(mDrop (mMt (b2 gApp) (mV 2) (mCons (mN (b1 gTup) (mCons (fComp 2 [1] (iSeq (m2 (b2 gIxY) (mV 0) (mMt (b2 gIdx) (mV 1) (mCons (mV 3) mNil)))) (gT 2 (gCs (gN 0) (gCs (gN 1) gNl))) mTrue (fEmit (mTup (mCons (m2 (b2 gIxY) (mV 2) (mV 0)) (mCons (mV 1) mNil))))) mNil)) mNil)))
noncomputable def b__law_renamed_web:FS:=(mSeq (mAsg (mLst mNil) (gN 2))
  (mSeq (mFor (iR1 (mCons (mN (b1 gLen) (mCons (mV 0) mNil)) mNil)) (gN 3) p__law_renamed_web_1)
  (mRet (mN (b1 gTup) (mCons (mV 2) mNil)))))
noncomputable def m__law_renamed_web:FN:=fnB 4 b__law_renamed_web
theorem sc__law_renamed_web:FnScope ["_law_web_here","_law_order_here","_law_found","_law_room"] ["_law_web_here","_law_order_here"] (defScope s__law_renamed_web):=⟨rfl,rfl,rfl,by decide+kernel,rfl,by decide+kernel,by decide+kernel⟩
theorem ok__law_renamed_web {P:Program}{w:World}{K:Fg1}{mg:Str->Option Value}{base:Heap}{f:Addr}{fd:FuncData}(F:Fun K "_law_renamed_web" "_law_renamed_web" s__law_renamed_web f fd)(hb:Binds K fd ["_law_web_here","_law_order_here"] [])(hm:mg "_law_renamed_web"=some (.ref f))(B:Blt mg):
  Own P w K mg base 1 "_law_renamed_web" 2 m__law_renamed_web:=xown_mk (k:=0) (n:=2) (N:=["_law_web_here","_law_order_here","_law_found","_law_room"]) (ps:=["_law_web_here","_law_order_here"]) (b:=b__law_renamed_web) F hb hm sc__law_renamed_web rfl fun cdv A outer s H E hr=>
 (qF (qY 2 sc__law_renamed_web.nd rfl (by first|exact Or.inl rfl|exact Or.inr rfl) (xme_lst qN))
  (qF (qW PassesOwn.never rfl (xmi_range1 rfl B.z_range (qA (qD c_len rfl B.z_len (by decide+kernel) (qA (xmv 0) qN (qM ..))) qN (qL ..))) (qO 3 sc__law_renamed_web.nd rfl (by first|exact Or.inl rfl|exact Or.inr rfl)) (qG (xms_expr (qe PySem.F.slot_list_append PySem.F.type_list_append t_app (xmv 2) (qA (qE c_tuple rfl B.z_tuple (by decide+kernel) (qA (qZ rfl (T:=["_law_there","_law_door"]) (keep:=[1]) ⟨rfl,by decide+kernel,(List.forall_mem_cons.mpr ⟨⟨_,rfl,rfl,(by first|exact Or.inl rfl|exact Or.inr rfl),(by first | decide+kernel | (show ¬ (("_law_order_here":Str),NameKind.cell)∈(_:List (Str×NameKind));decide+kernel))⟩,(List.forall_mem_nil _)⟩)⟩ rfl (qd (qJ (qP hr.units) (xmv 0) (qe PySem.F.slot_list_index PySem.F.type_list_index (t_idx hr.units) (xmv 1) (qA (xmv 3) qN (qM ..))) (fun _ _=>rfl))) (fun _ _ _=>⟨(xmg_tup rfl (xmgs_cons (qO 0 (show List.Nodup (["_law_there","_law_door","_law_order_here"]:List Str) by decide+kernel) rfl (by first|exact Or.inl rfl|exact Or.inr rfl)) (xmgs_cons (qO 1 (show List.Nodup (["_law_there","_law_door","_law_order_here"]:List Str) by decide+kernel) rfl (by first|exact Or.inl rfl|exact Or.inr rfl)) xmgs_nil))),xmif_nil,(xme_tup (qA (qJ (qP hr.units) (xmv 2) (xmv 0) (fun _ _=>rfl)) (qA (xmv 1) qN (qM ..)) (qS ..)))⟩)) qN (st_ListComp ..))) qN (qL ..))))))
  (qG (qU (qE c_tuple rfl B.z_tuple (by decide+kernel) (qA (xmv 2) qN (qM ..)))))))
noncomputable abbrev s__law_renamed:Stmt:=top 25
noncomputable def b__law_renamed:FS:=(mSeq (mAsg (mN (b1 gTup) (mCons (fComp 3 [1] (iSeq (m2 (b2 gIxY) (mV 0) (mC (D.int (0))))) (gT 3 (gCs (gN 0) (gCs (gN 1) (gCs (gN 2) gNl)))) mTrue (fEmit (mTup (mCons (m2 (b2 gIxY) (mV 3) (mV 0)) (mCons (mV 1) (mCons (mV 2) mNil)))))) mNil)) (gN 2))
  (mRet (mTup (mCons (mV 2) (mCons (mN (b1 gTup) (mCons (mN (b1 gSorted) (mCons (fComp 1 [1] (iSeq (m2 (b2 gIxY) (mV 0) (mC (D.int (1))))) (gN 0) mTrue (fEmit (m2 (b2 gIxY) (mV 1) (mV 0)))) mNil)) mNil)) mNil)))))
noncomputable def m__law_renamed:FN:=fnB 3 b__law_renamed
theorem sc__law_renamed:FnScope ["_law_whole_here","_law_order_here","_law_walkers"] ["_law_whole_here","_law_order_here"] (defScope s__law_renamed):=⟨rfl,rfl,rfl,by decide+kernel,rfl,by decide+kernel,by decide+kernel⟩
theorem ok__law_renamed {P:Program}{w:World}{K:Fg1}{mg:Str->Option Value}{base:Heap}{f:Addr}{fd:FuncData}(F:Fun K "_law_renamed" "_law_renamed" s__law_renamed f fd)(hb:Binds K fd ["_law_whole_here","_law_order_here"] [])(hm:mg "_law_renamed"=some (.ref f))(B:Blt mg):
  Own P w K mg base 1 "_law_renamed" 2 m__law_renamed:=xown_mk (k:=0) (n:=2) (N:=["_law_whole_here","_law_order_here","_law_walkers"]) (ps:=["_law_whole_here","_law_order_here"]) (b:=b__law_renamed) F hb hm sc__law_renamed rfl fun cdv A outer s H E hr=>
 (qF (qY 2 sc__law_renamed.nd rfl (by first|exact Or.inl rfl|exact Or.inr rfl) (qE c_tuple rfl B.z_tuple (by decide+kernel) (qA (qZ rfl (T:=["_law_room","_law_came","_law_mood"]) (keep:=[1]) ⟨rfl,by decide+kernel,(List.forall_mem_cons.mpr ⟨⟨_,rfl,rfl,(by first|exact Or.inl rfl|exact Or.inr rfl),(by first | decide+kernel | (show ¬ (("_law_order_here":Str),NameKind.cell)∈(_:List (Str×NameKind));decide+kernel))⟩,(List.forall_mem_nil _)⟩)⟩ rfl (qd (qJ (qP hr.units) (xmv 0) qK (fun _ _=>rfl))) (fun _ _ _=>⟨(xmg_tup rfl (xmgs_cons (qO 0 (show List.Nodup (["_law_room","_law_came","_law_mood","_law_order_here"]:List Str) by decide+kernel) rfl (by first|exact Or.inl rfl|exact Or.inr rfl)) (xmgs_cons (qO 1 (show List.Nodup (["_law_room","_law_came","_law_mood","_law_order_here"]:List Str) by decide+kernel) rfl (by first|exact Or.inl rfl|exact Or.inr rfl)) (xmgs_cons (qO 2 (show List.Nodup (["_law_room","_law_came","_law_mood","_law_order_here"]:List Str) by decide+kernel) rfl (by first|exact Or.inl rfl|exact Or.inr rfl)) xmgs_nil)))),xmif_nil,(xme_tup (qA (qJ (qP hr.units) (xmv 3) (xmv 0) (fun _ _=>rfl)) (qA (xmv 1) (qA (xmv 2) qN (qM ..)) (qM ..)) (qS ..)))⟩)) qN (st_ListComp ..))))
  (qG (qU (xme_tup (qA (xmv 2) (qA (qE c_tuple rfl B.z_tuple (by decide+kernel) (qA (qD c_sorted rfl B.z_sorted (by decide+kernel) (qA (qZ rfl (T:=["_law_room"]) (keep:=[1]) ⟨rfl,by decide+kernel,(List.forall_mem_cons.mpr ⟨⟨_,rfl,rfl,(by first|exact Or.inl rfl|exact Or.inr rfl),(by first | decide+kernel | (show ¬ (("_law_order_here":Str),NameKind.cell)∈(_:List (Str×NameKind));decide+kernel))⟩,(List.forall_mem_nil _)⟩)⟩ rfl (qd (qJ (qP hr.units) (xmv 0) qK (fun _ _=>rfl))) (fun _ _ _=>⟨(qO 0 (show List.Nodup (["_law_room","_law_order_here"]:List Str) by decide+kernel) rfl (by first|exact Or.inl rfl|exact Or.inr rfl)),xmif_nil,(qJ (qP hr.units) (xmv 1) (xmv 0) (fun _ _=>rfl))⟩)) qN (st_ListComp ..))) qN (qL ..))) qN (qL ..)) (qM ..))))))
noncomputable abbrev s_deed_of:Stmt:=top 2
noncomputable def p_deed_of_1:FT:=(mAnd (mB (m2 (b2 gLt) (mV 4) (mN (b1 gLen) (mCons (mV 3) mNil)))) (mB (m2 (b2 gEq) (m2 (b2 gIxY) (m2 (b2 gIxY) (m2 (b2 gIxY) (mV 3) (mV 4)) (mC (D.int (0)))) (mC (D.int (0)))) (mV 1))))
noncomputable def p_deed_of_2:FS:=(mSeq (mIfS (mB (m2 (b2 gEq) (m2 (b2 gIxY) (m2 (b2 gIxY) (m2 (b2 gIxY) (mV 3) (mV 4)) (mC (D.int (0)))) (mC (D.int (1)))) (mV 2))) (mRet (m2 (b2 gIxY) (m2 (b2 gIxY) (mV 3) (mV 4)) (mC (D.int (1))))) mNx)
  (mAug 4 (b2 gAddI) (mC (D.int (1)))))
noncomputable def b_deed_of:FS:=(mSeq (mAsg (m2 (b2 gIxY) (mV 0) (mC (D.int (1)))) (gN 3))
  (mSeq (mAsg (mN (mCall 2 m_first_of) (mCons (mV 3) (mCons (mV 1) mNil))) (gN 4))
  (mSeq (whl p_deed_of_1 p_deed_of_2 100000)
  (mRet (mTup (mCons (mV 1) (mCons (mC (D.str "leave")) (mCons (mC D.non) mNil))))))))
noncomputable def m_deed_of:FN:=fnB 5 b_deed_of
theorem sc_deed_of:FnScope ["machine","mood","sight","rows","at"] ["machine","mood","sight"] (defScope s_deed_of):=⟨rfl,rfl,rfl,by decide+kernel,rfl,by decide+kernel,by decide+kernel⟩
theorem ok_deed_of {P:Program}{w:World}{K:Fg1}{mg:Str->Option Value}{base:Heap}{f:Addr}{fd:FuncData}(F:Fun K "deed_of" "deed_of" s_deed_of f fd)(hb:Binds K fd ["machine","mood","sight"] [])(hm:mg "deed_of"=some (.ref f))(B:Blt mg)(o_first_of:Own P w K mg base 1 "first_of" 2 m_first_of):
  Own P w K mg base 2 "deed_of" 3 m_deed_of:=xown_mk (k:=1) (n:=3) (N:=["machine","mood","sight","rows","at"]) (ps:=["machine","mood","sight"]) (b:=b_deed_of) F hb hm sc_deed_of rfl fun cdv A outer s H E hr=>
 (qF (qY 3 sc_deed_of.nd rfl (by first|exact Or.inl rfl|exact Or.inr rfl) (qJ (qP hr.units) (xmv 0) qK (fun _ _=>rfl)))
  (qF (qY 4 sc_deed_of.nd rfl (by first|exact Or.inl rfl|exact Or.inr rfl) (qH o_first_of hr (by first|decide|omega) rfl (qA (xmv 3) (qA (xmv 1) qN (qM ..)) (qM ..))))
  (qF (xms_while 100000 PassesOwn.never (xmt_w (xmw_and (qX (o_ltN hr.units) (xmv 4) (qD c_len rfl B.z_len (by decide+kernel) (qA (xmv 3) qN (qM ..))) (nomark _)) (xmw_and1 (qX (o_eq hr.units) (qJ (qP hr.units) (qJ (qP hr.units) (qJ (qP hr.units) (xmv 3) (xmv 4) (fun _ _=>rfl)) qK (fun _ _=>rfl)) qK (fun _ _=>rfl)) (xmv 1) (nomark _))))) (qF (qV (qX (o_eq hr.units) (qJ (qP hr.units) (qJ (qP hr.units) (qJ (qP hr.units) (xmv 3) (xmv 4) (fun _ _=>rfl)) qK (fun _ _=>rfl)) qK (fun _ _=>rfl)) (xmv 2) (nomark _)) (qG (qU (qJ (qP hr.units) (qJ (qP hr.units) (xmv 3) (xmv 4) (fun _ _=>rfl)) qK (fun _ _=>rfl)))) qQ)
  (qG (xms_aug 4 sc_deed_of.nd rfl (by first|exact Or.inl rfl|exact Or.inr rfl) qK ip_addI))))
  (qG (qU (xme_tup (qA (xmv 1) (qA xme_str (qA xme_non qN (qC ..)) (qC ..)) (qM ..))))))))
noncomputable abbrev s_wants:Stmt:=top 6
noncomputable def b_wants:FS:=(mRet (fComp 2 [0,1,2] (iEn (mCons (m2 (b2 gIxY) (mV 2) (mC (D.int (0)))) mNil)) (gT 2 (gCs (gN 0) (gCs (gN 1) gNl))) mTrue (fEmit (mTup (mCons (m2 (b2 gIxY) (mV 1) (mC (D.int (2)))) (mCons (mN (mCall 4 m_sight_of) (mCons (mV 2) (mCons (mV 3) (mCons (mV 4) (mCons (mV 0) mNil))))) mNil))))))
noncomputable def m_wants:FN:=fnB 3 b_wants
theorem sc_wants:FnScope ["web","eyes","whole"] ["web","eyes","whole"] (defScope s_wants):=⟨rfl,rfl,rfl,by decide+kernel,rfl,by decide+kernel,by decide+kernel⟩
theorem ok_wants {P:Program}{w:World}{K:Fg1}{mg:Str->Option Value}{base:Heap}{f:Addr}{fd:FuncData}(F:Fun K "wants" "wants" s_wants f fd)(hb:Binds K fd ["web","eyes","whole"] [])(hm:mg "wants"=some (.ref f))(B:Blt mg)(o_sight_of:Own P w K mg base 1 "sight_of" 4 m_sight_of):
  Own P w K mg base 2 "wants" 3 m_wants:=xown_mk (k:=1) (n:=3) (N:=["web","eyes","whole"]) (ps:=["web","eyes","whole"]) (b:=b_wants) F hb hm sc_wants rfl fun cdv A outer s H E hr=>
 (qG (qU (qZ rfl (T:=["k","walker"]) (keep:=[0,1,2]) ⟨rfl,by decide+kernel,(List.forall_mem_cons.mpr ⟨⟨_,rfl,rfl,(by first|exact Or.inl rfl|exact Or.inr rfl),(by first | decide+kernel | (show ¬ (("web":Str),NameKind.cell)∈(_:List (Str×NameKind));decide+kernel))⟩,(List.forall_mem_cons.mpr ⟨⟨_,rfl,rfl,(by first|exact Or.inl rfl|exact Or.inr rfl),(by first | decide+kernel | (show ¬ (("eyes":Str),NameKind.cell)∈(_:List (Str×NameKind));decide+kernel))⟩,(List.forall_mem_cons.mpr ⟨⟨_,rfl,rfl,(by first|exact Or.inl rfl|exact Or.inr rfl),(by first | decide+kernel | (show ¬ (("whole":Str),NameKind.cell)∈(_:List (Str×NameKind));decide+kernel))⟩,(List.forall_mem_nil _)⟩)⟩)⟩)⟩ rfl (xmi_enum rfl B.z_enumerate (qA (qJ (qP hr.units) (xmv 2) qK (fun _ _=>rfl)) qN (qS ..))) (fun _ _ _=>⟨(xmg_tup rfl (xmgs_cons (qO 0 (show List.Nodup (["k","walker","web","eyes","whole"]:List Str) by decide+kernel) rfl (by first|exact Or.inl rfl|exact Or.inr rfl)) (xmgs_cons (qO 1 (show List.Nodup (["k","walker","web","eyes","whole"]:List Str) by decide+kernel) rfl (by first|exact Or.inl rfl|exact Or.inr rfl)) xmgs_nil))),xmif_nil,(xme_tup (qA (qJ (qP hr.units) (xmv 1) qK (fun _ _=>rfl)) (qA (qH o_sight_of hr (by first|decide|omega) rfl (qA (xmv 2) (qA (xmv 3) (qA (xmv 4) (qA (xmv 0) qN (qM ..)) (qM ..)) (qM ..)) (qM ..))) qN (qL ..)) (qS ..)))⟩))))
noncomputable abbrev s_moved:Stmt:=top 8
noncomputable def b_moved:FS:=(mSeq (mAsg (mV 1) (gT 2 (gCs (gN 3) (gCs (gN 4) gNl))))
  (mSeq (mAsg (fComp 2 [0] (iZp (mCons (mV 3) (mCons (mV 2) mNil))) (gT 2 (gCs (gN 0) (gCs (gN 1) gNl))) mTrue (fEmit (mN (mCall 3 m_stepped) (mCons (mV 2) (mCons (mV 0) (mCons (mV 1) mNil)))))) (gN 5))
  (mRet (mTup (mCons (mN (b1 gTup) (mCons (mV 5) mNil)) (mCons (mN (mCall 2 m_handled) (mCons (mV 1) (mCons (mV 2) mNil))) mNil))))))
noncomputable def m_moved:FN:=fnB 6 b_moved
theorem sc_moved:FnScope ["web","whole","deeds","walkers","chalk","behind"] ["web","whole","deeds"] (defScope s_moved):=⟨rfl,rfl,rfl,by decide+kernel,rfl,by decide+kernel,by decide+kernel⟩
theorem ok_moved {P:Program}{w:World}{K:Fg1}{mg:Str->Option Value}{base:Heap}{f:Addr}{fd:FuncData}(F:Fun K "moved" "moved" s_moved f fd)(hb:Binds K fd ["web","whole","deeds"] [])(hm:mg "moved"=some (.ref f))(B:Blt mg)(o_handled:Own P w K mg base 1 "handled" 2 m_handled)(o_stepped:Own P w K mg base 1 "stepped" 3 m_stepped):
  Own P w K mg base 2 "moved" 3 m_moved:=xown_mk (k:=1) (n:=3) (N:=["web","whole","deeds","walkers","chalk","behind"]) (ps:=["web","whole","deeds"]) (b:=b_moved) F hb hm sc_moved rfl fun cdv A outer s H E hr=>
 (qF (qR (xmv 1) (xmg_tup rfl (xmgs_cons (qO 3 sc_moved.nd rfl (by first|exact Or.inl rfl|exact Or.inr rfl)) (xmgs_cons (qO 4 sc_moved.nd rfl (by first|exact Or.inl rfl|exact Or.inr rfl)) xmgs_nil))))
  (qF (xfs_comp1 5 rfl (T:=["walker","deed"]) (keep:=[0]) ⟨rfl,by decide+kernel,(List.forall_mem_cons.mpr ⟨⟨_,rfl,rfl,(by first|exact Or.inl rfl|exact Or.inr rfl),(by first | decide+kernel | (show ¬ (("web":Str),NameKind.cell)∈(_:List (Str×NameKind));decide+kernel))⟩,(List.forall_mem_nil _)⟩)⟩ rfl (xmi_zip rfl B.z_zip (qA (xmv 3) (qA (xmv 2) qN (qM ..)) (qM ..))) (fun _ _ _=>⟨(xmg_tup rfl (xmgs_cons (qO 0 (show List.Nodup (["walker","deed","web"]:List Str) by decide+kernel) rfl (by first|exact Or.inl rfl|exact Or.inr rfl)) (xmgs_cons (qO 1 (show List.Nodup (["walker","deed","web"]:List Str) by decide+kernel) rfl (by first|exact Or.inl rfl|exact Or.inr rfl)) xmgs_nil))),xmif_nil,(qH o_stepped hr (by first|decide|omega) rfl (qA (xmv 2) (qA (xmv 0) (qA (xmv 1) qN (qM ..)) (qM ..)) (qM ..)))⟩) sc_moved.nd rfl (by first|exact Or.inl rfl|exact Or.inr rfl))
  (qG (qU (xme_tup (qA (qE c_tuple rfl B.z_tuple (by decide+kernel) (qA (xmv 5) qN (qM ..))) (qA (qH o_handled hr (by first|decide|omega) rfl (qA (xmv 1) (qA (xmv 2) qN (qM ..)) (qM ..))) qN (qL ..)) (qL ..)))))))
noncomputable abbrev s__law_tie:Stmt:=top 14
noncomputable def b__law_tie:FS:=(mSeq (mDrop (mMt (b3 gIns) (m2 (b2 gIxY) (mV 1) (mV 3)) (mCons (mN (mCall 2 m__law_take) (mCons (mV 0) (mCons (m2 (b2 gAdd) (mN (b1 gLen) (mCons (m2 (b2 gIxY) (mV 1) (mV 3)) mNil)) (mC (D.int (1)))) mNil))) (mCons (mTup (mCons (mN (b1 gLen) (mCons (mV 2) mNil)) (mCons (mC (D.int (0))) mNil))) mNil))))
  (mSeq (mDrop (mMt (b3 gIns) (m2 (b2 gIxY) (mV 1) (mV 4)) (mCons (mN (mCall 2 m__law_take) (mCons (mV 0) (mCons (m2 (b2 gAdd) (mN (b1 gLen) (mCons (m2 (b2 gIxY) (mV 1) (mV 4)) mNil)) (mC (D.int (1)))) mNil))) (mCons (mTup (mCons (mN (b1 gLen) (mCons (mV 2) mNil)) (mCons (mC (D.int (1))) mNil))) mNil))))
  (mDrop (mMt (b2 gApp) (mV 2) (mCons (mTup (mCons (mV 3) (mCons (mV 4) mNil))) mNil)))))
noncomputable def m__law_tie:FN:=fnB 5 b__law_tie
theorem sc__law_tie:FnScope ["_law_hand_here","_law_ends","_law_pairs","_law_one","_law_other"] ["_law_hand_here","_law_ends","_law_pairs","_law_one","_law_other"] (defScope s__law_tie):=⟨rfl,rfl,rfl,by decide+kernel,rfl,by decide+kernel,by decide+kernel⟩
theorem ok__law_tie {P:Program}{w:World}{K:Fg1}{mg:Str->Option Value}{base:Heap}{f:Addr}{fd:FuncData}(F:Fun K "_law_tie" "_law_tie" s__law_tie f fd)(hb:Binds K fd ["_law_hand_here","_law_ends","_law_pairs","_law_one","_law_other"] [])(hm:mg "_law_tie"=some (.ref f))(B:Blt mg)(o__law_take:Own P w K mg base 1 "_law_take" 2 m__law_take):
  Own P w K mg base 2 "_law_tie" 5 m__law_tie:=xown_mk (k:=1) (n:=5) (N:=["_law_hand_here","_law_ends","_law_pairs","_law_one","_law_other"]) (ps:=["_law_hand_here","_law_ends","_law_pairs","_law_one","_law_other"]) (b:=b__law_tie) F hb hm sc__law_tie rfl fun cdv A outer s H E hr=>
 (qF (xms_expr (qe PySem.F.slot_list_insert PySem.F.type_list_insert t_ins (qJ (qP hr.units) (xmv 1) (xmv 3) (fun _ _=>rfl)) (qA (qH o__law_take hr (by first|decide|omega) rfl (qA (xmv 0) (qA (qI o_add (qD c_len rfl B.z_len (by decide+kernel) (qA (qJ (qP hr.units) (xmv 1) (xmv 3) (fun _ _=>rfl)) qN (qS ..))) qK) qN (qB ..)) (qM ..))) (qA (xme_tup (qA (qD c_len rfl B.z_len (by decide+kernel) (qA (xmv 2) qN (qM ..))) (qA qK qN (qC ..)) (qL ..))) qN (qT ..)) (qL ..))))
  (qF (xms_expr (qe PySem.F.slot_list_insert PySem.F.type_list_insert t_ins (qJ (qP hr.units) (xmv 1) (xmv 4) (fun _ _=>rfl)) (qA (qH o__law_take hr (by first|decide|omega) rfl (qA (xmv 0) (qA (qI o_add (qD c_len rfl B.z_len (by decide+kernel) (qA (qJ (qP hr.units) (xmv 1) (xmv 4) (fun _ _=>rfl)) qN (qS ..))) qK) qN (qB ..)) (qM ..))) (qA (xme_tup (qA (qD c_len rfl B.z_len (by decide+kernel) (qA (xmv 2) qN (qM ..))) (qA qK qN (qC ..)) (qL ..))) qN (qT ..)) (qL ..))))
  (qG (xms_expr (qe PySem.F.slot_list_append PySem.F.type_list_append t_app (xmv 2) (qA (xme_tup (qA (xmv 3) (qA (xmv 4) qN (qM ..)) (qM ..))) qN (qT ..)))))))
noncomputable abbrev s__law_whole:Stmt:=top 17
noncomputable def p__law_whole_1:FS:=(mSeq (mAsg (mN (mCall 2 m__law_take) (mCons (mV 0) (mCons (mN (b1 gLen) (mCons (mV 1) mNil)) mNil))) (gN 4))
  (mSeq (mIfS (mAnd (mB (m2 (b2 gNe) (mV 2) (mLst mNil))) (mB (m2 (b2 gEq) (mN (mCall 2 m__law_take) (mCons (mV 0) (mCons (mC (D.int (3))) mNil))) (mC (D.int (0)))))) (mAsg (m2 (b2 gIxY) (m2 (b2 gIxY) (mV 2) (mN (mCall 2 m__law_take) (mCons (mV 0) (mCons (mN (b1 gLen) (mCons (mV 2) mNil)) mNil)))) (mC (D.int (0)))) (gN 4)) mNx)
  (mSeq (mAsg (m2 (b2 gIxY) (mLst (mCons (mN (mCall 2 m__law_take) (mCons (mV 0) (mCons (mC (D.int (3))) mNil))) (mCons (mN (mCall 2 m__law_take) (mCons (mV 0) (mCons (mC (D.int (4000))) mNil))) mNil))) (mN (b1 gInt) (mCons (m2 (b2 gEq) (mN (mCall 2 m__law_take) (mCons (mV 0) (mCons (mC (D.int (6))) mNil))) (mC (D.int (0)))) mNil))) (gN 5))
  (mDrop (mMt (b2 gApp) (mV 2) (mCons (mTup (mCons (mV 4) (mCons (mN (mCall 2 m__law_take) (mCons (mV 0) (mCons (m2 (b2 gAdd) (mN (b1 gLen) (mCons (m2 (b2 gIxY) (mV 1) (mV 4)) mNil)) (mC (D.int (1)))) mNil))) (mCons (mV 5) mNil)))) mNil))))))
noncomputable def b__law_whole:FS:=(mSeq (mAsg (mLst mNil) (gN 2))
  (mSeq (mFor (iR1 (mCons (m2 (b2 gAdd) (mC (D.int (1))) (mN (mCall 2 m__law_take) (mCons (mV 0) (mCons (mC (D.int (5))) mNil)))) mNil)) (gN 3) p__law_whole_1)
  (mRet (mTup (mCons (mN (b1 gTup) (mCons (mV 2) mNil)) (mCons (mN (b1 gTup) (mCons (fComp 1 [0] (iR1 (mCons (mN (b1 gLen) (mCons (mV 1) mNil)) mNil)) (gN 0) (mB (m2 (b2 gEq) (mN (mCall 2 m__law_take) (mCons (mV 1) (mCons (mC (D.int (3))) mNil))) (mC (D.int (0))))) (fEmit (mV 0))) mNil)) mNil))))))
noncomputable def m__law_whole:FN:=fnB 6 b__law_whole
theorem sc__law_whole:FnScope ["_law_hand_here","_law_web_here","_law_walkers","_law_k","_law_room","_law_mood"] ["_law_hand_here","_law_web_here"] (defScope s__law_whole):=⟨rfl,rfl,rfl,by decide+kernel,rfl,by decide+kernel,by decide+kernel⟩
theorem ok__law_whole {P:Program}{w:World}{K:Fg1}{mg:Str->Option Value}{base:Heap}{f:Addr}{fd:FuncData}(F:Fun K "_law_whole" "_law_whole" s__law_whole f fd)(hb:Binds K fd ["_law_hand_here","_law_web_here"] [])(hm:mg "_law_whole"=some (.ref f))(B:Blt mg)(o__law_take:Own P w K mg base 1 "_law_take" 2 m__law_take):
  Own P w K mg base 2 "_law_whole" 2 m__law_whole:=xown_mk (k:=1) (n:=2) (N:=["_law_hand_here","_law_web_here","_law_walkers","_law_k","_law_room","_law_mood"]) (ps:=["_law_hand_here","_law_web_here"]) (b:=b__law_whole) F hb hm sc__law_whole rfl fun cdv A outer s H E hr=>
 (qF (qY 2 sc__law_whole.nd rfl (by first|exact Or.inl rfl|exact Or.inr rfl) (xme_lst qN))
  (qF (qW PassesOwn.never rfl (xmi_range1 rfl B.z_range (qA (qI o_add qK (qH o__law_take hr (by first|decide|omega) rfl (qA (xmv 0) (qA qK qN (qC ..)) (qM ..)))) qN (qB ..))) (qO 3 sc__law_whole.nd rfl (by first|exact Or.inl rfl|exact Or.inr rfl)) (qF (qY 4 sc__law_whole.nd rfl (by first|exact Or.inl rfl|exact Or.inr rfl) (qH o__law_take hr (by first|decide|omega) rfl (qA (xmv 0) (qA (qD c_len rfl B.z_len (by decide+kernel) (qA (xmv 1) qN (qM ..))) qN (qL ..)) (qM ..))))
  (qF (qV (xmt_w (xmw_and (qX (o_ne hr.units) (xmv 2) (xme_lst qN) (nomark _)) (xmw_and1 (qX (o_eq hr.units) (qH o__law_take hr (by first|decide|omega) rfl (qA (xmv 0) (qA qK qN (qC ..)) (qM ..))) qK (nomark _))))) (qG (qY 4 sc__law_whole.nd rfl (by first|exact Or.inl rfl|exact Or.inr rfl) (qJ (qP hr.units) (qJ (qP hr.units) (xmv 2) (qH o__law_take hr (by first|decide|omega) rfl (qA (xmv 0) (qA (qD c_len rfl B.z_len (by decide+kernel) (qA (xmv 2) qN (qM ..))) qN (qL ..)) (qM ..))) (fun _ _=>rfl)) qK (fun _ _=>rfl)))) qQ)
  (qF (qY 5 sc__law_whole.nd rfl (by first|exact Or.inl rfl|exact Or.inr rfl) (qJ (qP hr.units) (xme_lst (qA (qH o__law_take hr (by first|decide|omega) rfl (qA (xmv 0) (qA qK qN (qC ..)) (qM ..))) (qA (qH o__law_take hr (by first|decide|omega) rfl (qA (xmv 0) (qA qK qN (qC ..)) (qM ..))) qN (qL ..)) (qL ..))) (qE c_int rfl B.z_int (by decide+kernel) (qA (xme_cmp (o_eq hr.units) (qH o__law_take hr (by first|decide|omega) rfl (qA (xmv 0) (qA qK qN (qC ..)) (qM ..))) qK (nomark _)) qN (st_Compare ..))) (fun _ _=>rfl)))
  (qG (xms_expr (qe PySem.F.slot_list_append PySem.F.type_list_append t_app (xmv 2) (qA (xme_tup (qA (xmv 4) (qA (qH o__law_take hr (by first|decide|omega) rfl (qA (xmv 0) (qA (qI o_add (qD c_len rfl B.z_len (by decide+kernel) (qA (qJ (qP hr.units) (xmv 1) (xmv 4) (fun _ _=>rfl)) qN (qS ..))) qK) qN (qB ..)) (qM ..))) (qA (xmv 5) qN (qM ..)) (qL ..)) (qM ..))) qN (qT ..)))))))))
  (qG (qU (xme_tup (qA (qE c_tuple rfl B.z_tuple (by decide+kernel) (qA (xmv 2) qN (qM ..))) (qA (qE c_tuple rfl B.z_tuple (by decide+kernel) (qA (qZ rfl (T:=["_law_room"]) (keep:=[0]) ⟨rfl,by decide+kernel,(List.forall_mem_cons.mpr ⟨⟨_,rfl,rfl,(by first|exact Or.inl rfl|exact Or.inr rfl),(by first | decide+kernel | (show ¬ (("_law_hand_here":Str),NameKind.cell)∈(_:List (Str×NameKind));decide+kernel))⟩,(List.forall_mem_nil _)⟩)⟩ rfl (xmi_range1 rfl B.z_range (qA (qD c_len rfl B.z_len (by decide+kernel) (qA (xmv 1) qN (qM ..))) qN (qL ..))) (fun _ _ _=>⟨(qO 0 (show List.Nodup (["_law_room","_law_hand_here"]:List Str) by decide+kernel) rfl (by first|exact Or.inl rfl|exact Or.inr rfl)),(xmif_one (qX (o_eq hr.units) (qH o__law_take hr (by first|decide|omega) rfl (qA (xmv 1) (qA qK qN (qC ..)) (qM ..))) qK (nomark _))),(xmv 0)⟩)) qN (st_ListComp ..))) qN (qL ..)) (qL ..)))))))
noncomputable abbrev s__law_some_eyes:Stmt:=top 18
noncomputable def b__law_some_eyes:FS:=(mRet (mN (b1 gTup) (mCons (fComp 1 [0] (iSeq (mTup (mCons (mC (D.str "came")) (mCons (mC (D.str "chalk")) (mCons (mC (D.str "doors")) (mCons (mC (D.str "others")) mNil)))))) (gN 0) (mB (m2 (b2 gEq) (mN (mCall 2 m__law_take) (mCons (mV 1) (mCons (mC (D.int (2))) mNil))) (mC (D.int (0))))) (fEmit (mV 0))) mNil)))
noncomputable def m__law_some_eyes:FN:=fnB 1 b__law_some_eyes
theorem sc__law_some_eyes:FnScope ["_law_hand_here"] ["_law_hand_here"] (defScope s__law_some_eyes):=⟨rfl,rfl,rfl,by decide+kernel,rfl,by decide+kernel,by decide+kernel⟩
theorem ok__law_some_eyes {P:Program}{w:World}{K:Fg1}{mg:Str->Option Value}{base:Heap}{f:Addr}{fd:FuncData}(F:Fun K "_law_some_eyes" "_law_some_eyes" s__law_some_eyes f fd)(hb:Binds K fd ["_law_hand_here"] [])(hm:mg "_law_some_eyes"=some (.ref f))(B:Blt mg)(o__law_take:Own P w K mg base 1 "_law_take" 2 m__law_take):
  Own P w K mg base 2 "_law_some_eyes" 1 m__law_some_eyes:=xown_mk (k:=1) (n:=1) (N:=["_law_hand_here"]) (ps:=["_law_hand_here"]) (b:=b__law_some_eyes) F hb hm sc__law_some_eyes rfl fun cdv A outer s H E hr=>
 (qG (qU (qE c_tuple rfl B.z_tuple (by decide+kernel) (qA (qZ rfl (T:=["_law_eye"]) (keep:=[0]) ⟨rfl,by decide+kernel,(List.forall_mem_cons.mpr ⟨⟨_,rfl,rfl,(by first|exact Or.inl rfl|exact Or.inr rfl),(by first | decide+kernel | (show ¬ (("_law_hand_here":Str),NameKind.cell)∈(_:List (Str×NameKind));decide+kernel))⟩,(List.forall_mem_nil _)⟩)⟩ rfl (qd (xme_tup (qA xme_str (qA xme_str (qA xme_str (qA xme_str qN (qC ..)) (qC ..)) (qC ..)) (qC ..)))) (fun _ _ _=>⟨(qO 0 (show List.Nodup (["_law_eye","_law_hand_here"]:List Str) by decide+kernel) rfl (by first|exact Or.inl rfl|exact Or.inr rfl)),(xmif_one (qX (o_eq hr.units) (qH o__law_take hr (by first|decide|omega) rfl (qA (xmv 1) (qA qK qN (qC ..)) (qM ..))) qK (nomark _))),(xmv 0)⟩)) qN (st_ListComp ..)))))
noncomputable abbrev s__law_beat:Stmt:=top 21
noncomputable def p__law_beat_1:FS:=(mSeq (mAsg (m2 (b2 gIxY) (m2 (b2 gIxY) (m2 (b2 gIxY) (mV 3) (mC (D.int (0)))) (mV 6)) (mC (D.int (2)))) (gN 7))
  (mDrop (mMt (b2 gApp) (mV 4) (mCons (mDGetT (mV 2) (mTup (mCons (mV 7) (mCons (mN (mCall 4 m__law_sight) (mCons (mV 0) (mCons (mV 1) (mCons (mV 3) (mCons (mV 6) mNil))))) mNil))) (mTup (mCons (mV 7) (mCons (mC (D.str "leave")) (mCons (mC D.non) mNil))))) mNil))))
noncomputable def p__law_beat_2:FS:=(mSeq (mIfS (mAnd (mB (m2 (b2 gIsNotX) (mV 12) (mC D.non))) (mB (m2 (b2 gLt) (mV 12) (mN (b1 gLen) (mCons (m2 (b2 gIxY) (mV 0) (mV 8)) mNil))))) (mAsg (mTup (mCons (m2 (b2 gIxY) (m2 (b2 gIxY) (m2 (b2 gIxY) (mV 0) (mV 8)) (mV 12)) (mC (D.int (0)))) (mCons (m2 (b2 gAdd) (mC (D.int (1))) (m2 (b2 gIxY) (m2 (b2 gIxY) (m2 (b2 gIxY) (mV 0) (mV 8)) (mV 12)) (mC (D.int (1))))) mNil))) (gT 2 (gCs (gN 8) (gCs (gN 9) gNl)))) mNx)
  (mDrop (mMt (b2 gApp) (mV 5) (mCons (mTup (mCons (mV 8) (mCons (mV 9) (mCons (mV 10) mNil)))) mNil))))
noncomputable def b__law_beat:FS:=(mSeq (mAsg (mTup (mCons (mLst mNil) (mCons (mLst mNil) mNil))) (gT 2 (gCs (gN 4) (gCs (gN 5) gNl))))
  (mSeq (mFor (iR1 (mCons (mN (b1 gLen) (mCons (m2 (b2 gIxY) (mV 3) (mC (D.int (0)))) mNil)) mNil)) (gN 6) p__law_beat_1)
  (mSeq (mFor (iZp (mCons (m2 (b2 gIxY) (mV 3) (mC (D.int (0)))) (mCons (mV 4) mNil))) (gT 2 (gCs (gT 3 (gCs (gN 8) (gCs (gN 9) (gCs (gN 7) gNl)))) (gCs (gT 3 (gCs (gN 10) (gCs (gN 11) (gCs (gN 12) gNl)))) gNl))) p__law_beat_2)
  (mRet (mTup (mCons (mN (b1 gTup) (mCons (mV 5) mNil)) (mCons (mN (mCall 3 m__law_chalked) (mCons (mV 0) (mCons (mV 3) (mCons (mV 4) mNil)))) mNil)))))))
noncomputable def m__law_beat:FN:=fnB 13 b__law_beat
theorem sc__law_beat:FnScope ["_law_web_here","_law_eyes","_law_rows","_law_whole_here","_law_dealt","_law_walkers","_law_k","_law_mood","_law_room","_law_came","_law_later","_law_hand_here","_law_step"] ["_law_web_here","_law_eyes","_law_rows","_law_whole_here"] (defScope s__law_beat):=⟨rfl,rfl,rfl,by decide+kernel,rfl,by decide+kernel,by decide+kernel⟩
theorem ok__law_beat {P:Program}{w:World}{K:Fg1}{mg:Str->Option Value}{base:Heap}{f:Addr}{fd:FuncData}(F:Fun K "_law_beat" "_law_beat" s__law_beat f fd)(hb:Binds K fd ["_law_web_here","_law_eyes","_law_rows","_law_whole_here"] [])(hm:mg "_law_beat"=some (.ref f))(B:Blt mg)(o__law_chalked:Own P w K mg base 1 "_law_chalked" 3 m__law_chalked)(o__law_sight:Own P w K mg base 1 "_law_sight" 4 m__law_sight):
  Own P w K mg base 2 "_law_beat" 4 m__law_beat:=xown_mk (k:=1) (n:=4) (N:=["_law_web_here","_law_eyes","_law_rows","_law_whole_here","_law_dealt","_law_walkers","_law_k","_law_mood","_law_room","_law_came","_law_later","_law_hand_here","_law_step"]) (ps:=["_law_web_here","_law_eyes","_law_rows","_law_whole_here"]) (b:=b__law_beat) F hb hm sc__law_beat rfl fun cdv A outer s H E hr=>
 (qF (xms_par 4 5 rfl sc__law_beat.nd rfl rfl (by decide) rfl rfl (qA (xme_lst qN) (qA (xme_lst qN) qN (st_List ..)) (st_List ..)))
  (qF (qW PassesOwn.never rfl (xmi_range1 rfl B.z_range (qA (qD c_len rfl B.z_len (by decide+kernel) (qA (qJ (qP hr.units) (xmv 3) qK (fun _ _=>rfl)) qN (qS ..))) qN (qL ..))) (qO 6 sc__law_beat.nd rfl (by first|exact Or.inl rfl|exact Or.inr rfl)) (qF (qY 7 sc__law_beat.nd rfl (by first|exact Or.inl rfl|exact Or.inr rfl) (qJ (qP hr.units) (qJ (qP hr.units) (qJ (qP hr.units) (xmv 3) qK (fun _ _=>rfl)) (xmv 6) (fun _ _=>rfl)) qK (fun _ _=>rfl)))
  (qG (xms_expr (qe PySem.F.slot_list_append PySem.F.type_list_append t_app (xmv 4) (qA (xme_dgetT hr.units (xmv 2) (xme_tup (qA (xmv 7) (qA (qH o__law_sight hr (by first|decide|omega) rfl (qA (xmv 0) (qA (xmv 1) (qA (xmv 3) (qA (xmv 6) qN (qM ..)) (qM ..)) (qM ..)) (qM ..))) qN (qL ..)) (qM ..))) (xme_tup (qA (xmv 7) (qA xme_str (qA xme_non qN (qC ..)) (qC ..)) (qM ..)))) qN (qL ..)))))))
  (qF (qW PassesOwn.never rfl (xmi_zip rfl B.z_zip (qA (qJ (qP hr.units) (xmv 3) qK (fun _ _=>rfl)) (qA (xmv 4) qN (qM ..)) (qS ..))) (xmg_tup rfl (xmgs_cons (xmg_tup rfl (xmgs_cons (qO 8 sc__law_beat.nd rfl (by first|exact Or.inl rfl|exact Or.inr rfl)) (xmgs_cons (qO 9 sc__law_beat.nd rfl (by first|exact Or.inl rfl|exact Or.inr rfl)) (xmgs_cons (qO 7 sc__law_beat.nd rfl (by first|exact Or.inl rfl|exact Or.inr rfl)) xmgs_nil)))) (xmgs_cons (xmg_tup rfl (xmgs_cons (qO 10 sc__law_beat.nd rfl (by first|exact Or.inl rfl|exact Or.inr rfl)) (xmgs_cons (qO 11 sc__law_beat.nd rfl (by first|exact Or.inl rfl|exact Or.inr rfl)) (xmgs_cons (qO 12 sc__law_beat.nd rfl (by first|exact Or.inl rfl|exact Or.inr rfl)) xmgs_nil)))) xmgs_nil))) (qF (qV (xmt_w (xmw_and (qX o_isNotX (xmv 12) xme_non (nomark _)) (xmw_and1 (qX (o_ltN hr.units) (xmv 12) (qD c_len rfl B.z_len (by decide+kernel) (qA (qJ (qP hr.units) (xmv 0) (xmv 8) (fun _ _=>rfl)) qN (qS ..))) (nomark _))))) (qG (xms_par 8 9 rfl sc__law_beat.nd rfl rfl (by decide) rfl rfl (qA (qJ (qP hr.units) (qJ (qP hr.units) (qJ (qP hr.units) (xmv 0) (xmv 8) (fun _ _=>rfl)) (xmv 12) (fun _ _=>rfl)) qK (fun _ _=>rfl)) (qA (qI o_add qK (qJ (qP hr.units) (qJ (qP hr.units) (qJ (qP hr.units) (xmv 0) (xmv 8) (fun _ _=>rfl)) (xmv 12) (fun _ _=>rfl)) qK (fun _ _=>rfl))) qN (qB ..)) (qS ..)))) qQ)
  (qG (xms_expr (qe PySem.F.slot_list_append PySem.F.type_list_append t_app (xmv 5) (qA (xme_tup (qA (xmv 8) (qA (xmv 9) (qA (xmv 10) qN (qM ..)) (qM ..)) (qM ..))) qN (qT ..)))))))
  (qG (qU (xme_tup (qA (qE c_tuple rfl B.z_tuple (by decide+kernel) (qA (xmv 5) qN (qM ..))) (qA (qH o__law_chalked hr (by first|decide|omega) rfl (qA (xmv 0) (qA (xmv 3) (qA (xmv 4) qN (qM ..)) (qM ..)) (qM ..))) qN (qL ..)) (qL ..))))))))
noncomputable abbrev s__law_deed:Stmt:=top 22
noncomputable def b__law_deed:FS:=(mSeq (mAsg (m2 (b2 gIxY) (mLst (mCons (mN (mCall 2 m__law_take) (mCons (mV 0) (mCons (mC (D.int (3))) mNil))) (mCons (mN (mCall 2 m__law_take) (mCons (mV 0) (mCons (mC (D.int (4000))) mNil))) mNil))) (mN (b1 gInt) (mCons (m2 (b2 gEq) (mN (mCall 2 m__law_take) (mCons (mV 0) (mCons (mC (D.int (8))) mNil))) (mC (D.int (0)))) mNil))) (gN 1))
  (mRet (mTup (mCons (mV 1) (mCons (m2 (b2 gIxY) (mTup (mCons (mC (D.str "leave")) (mCons (mC (D.str "mark")) (mCons (mC (D.str "wipe")) mNil)))) (mN (mCall 2 m__law_take) (mCons (mV 0) (mCons (mC (D.int (3))) mNil)))) (mCons (m2 (b2 gIxY) (mTup (mCons (mC D.non) (mCons (mC (D.int (0))) (mCons (mC (D.int (1))) (mCons (mC (D.int (2))) (mCons (mC (D.int (3))) mNil)))))) (mN (mCall 2 m__law_take) (mCons (mV 0) (mCons (mC (D.int (5))) mNil)))) mNil))))))
noncomputable def m__law_deed:FN:=fnB 2 b__law_deed
theorem sc__law_deed:FnScope ["_law_hand_here","_law_mood"] ["_law_hand_here"] (defScope s__law_deed):=⟨rfl,rfl,rfl,by decide+kernel,rfl,by decide+kernel,by decide+kernel⟩
theorem ok__law_deed {P:Program}{w:World}{K:Fg1}{mg:Str->Option Value}{base:Heap}{f:Addr}{fd:FuncData}(F:Fun K "_law_deed" "_law_deed" s__law_deed f fd)(hb:Binds K fd ["_law_hand_here"] [])(hm:mg "_law_deed"=some (.ref f))(B:Blt mg)(o__law_take:Own P w K mg base 1 "_law_take" 2 m__law_take):
  Own P w K mg base 2 "_law_deed" 1 m__law_deed:=xown_mk (k:=1) (n:=1) (N:=["_law_hand_here","_law_mood"]) (ps:=["_law_hand_here"]) (b:=b__law_deed) F hb hm sc__law_deed rfl fun cdv A outer s H E hr=>
 (qF (qY 1 sc__law_deed.nd rfl (by first|exact Or.inl rfl|exact Or.inr rfl) (qJ (qP hr.units) (xme_lst (qA (qH o__law_take hr (by first|decide|omega) rfl (qA (xmv 0) (qA qK qN (qC ..)) (qM ..))) (qA (qH o__law_take hr (by first|decide|omega) rfl (qA (xmv 0) (qA qK qN (qC ..)) (qM ..))) qN (qL ..)) (qL ..))) (qE c_int rfl B.z_int (by decide+kernel) (qA (xme_cmp (o_eq hr.units) (qH o__law_take hr (by first|decide|omega) rfl (qA (xmv 0) (qA qK qN (qC ..)) (qM ..))) qK (nomark _)) qN (st_Compare ..))) (fun _ _=>rfl)))
  (qG (qU (xme_tup (qA (xmv 1) (qA (qJ (qP hr.units) (xme_tup (qA xme_str (qA xme_str (qA xme_str qN (qC ..)) (qC ..)) (qC ..))) (qH o__law_take hr (by first|decide|omega) rfl (qA (xmv 0) (qA qK qN (qC ..)) (qM ..))) (fun _ _=>rfl)) (qA (qJ (qP hr.units) (xme_tup (qA xme_non (qA qK (qA qK (qA qK (qA qK qN (qC ..)) (qC ..)) (qC ..)) (qC ..)) (qC ..))) (qH o__law_take hr (by first|decide|omega) rfl (qA (xmv 0) (qA qK qN (qC ..)) (qM ..))) (fun _ _=>rfl)) qN (qS ..)) (qS ..)) (qM ..))))))
noncomputable abbrev s__law_order:Stmt:=top 23
noncomputable def p__law_order_1:FS:=(mDrop (mMt (b3 gIns) (mV 2) (mCons (mN (mCall 2 m__law_take) (mCons (mV 0) (mCons (m2 (b2 gAdd) (mV 3) (mC (D.int (1)))) mNil))) (mCons (mV 3) mNil))))
noncomputable def b__law_order:FS:=(mSeq (mAsg (mLst mNil) (gN 2))
  (mSeq (mFor (iR1 (mCons (mV 1) mNil)) (gN 3) p__law_order_1)
  (mRet (mV 2))))
noncomputable def m__law_order:FN:=fnB 4 b__law_order
theorem sc__law_order:FnScope ["_law_hand_here","_law_many","_law_order_here","_law_k"] ["_law_hand_here","_law_many"] (defScope s__law_order):=⟨rfl,rfl,rfl,by decide+kernel,rfl,by decide+kernel,by decide+kernel⟩
theorem ok__law_order {P:Program}{w:World}{K:Fg1}{mg:Str->Option Value}{base:Heap}{f:Addr}{fd:FuncData}(F:Fun K "_law_order" "_law_order" s__law_order f fd)(hb:Binds K fd ["_law_hand_here","_law_many"] [])(hm:mg "_law_order"=some (.ref f))(B:Blt mg)(o__law_take:Own P w K mg base 1 "_law_take" 2 m__law_take):
  Own P w K mg base 2 "_law_order" 2 m__law_order:=xown_mk (k:=1) (n:=2) (N:=["_law_hand_here","_law_many","_law_order_here","_law_k"]) (ps:=["_law_hand_here","_law_many"]) (b:=b__law_order) F hb hm sc__law_order rfl fun cdv A outer s H E hr=>
 (qF (qY 2 sc__law_order.nd rfl (by first|exact Or.inl rfl|exact Or.inr rfl) (xme_lst qN))
  (qF (qW PassesOwn.never rfl (xmi_range1 rfl B.z_range (qA (xmv 1) qN (qM ..))) (qO 3 sc__law_order.nd rfl (by first|exact Or.inl rfl|exact Or.inr rfl)) (qG (xms_expr (qe PySem.F.slot_list_insert PySem.F.type_list_insert t_ins (xmv 2) (qA (qH o__law_take hr (by first|decide|omega) rfl (qA (xmv 0) (qA (qI o_add (xmv 3) qK) qN (qB ..)) (qM ..))) (qA (xmv 3) qN (qM ..)) (qL ..))))))
  (qG (qU (xmv 2)))))
noncomputable abbrev s_beat:Stmt:=top 7
noncomputable def b_beat:FS:=(mSeq (mAsg (mN (mCall 3 m_wants) (mCons (mV 0) (mCons (m2 (b2 gIxY) (mV 1) (mC (D.int (0)))) (mCons (mV 2) mNil)))) (gN 3))
  (mRet (mN (mCall 3 m_moved) (mCons (mV 0) (mCons (mV 2) (mCons (fComp 2 [1] (iSeq (mV 3)) (gT 2 (gCs (gN 0) (gCs (gN 1) gNl))) mTrue (fEmit (mN (mCall 3 m_deed_of) (mCons (mV 2) (mCons (mV 0) (mCons (mV 1) mNil)))))) mNil))))))
noncomputable def m_beat:FN:=fnB 4 b_beat
theorem sc_beat:FnScope ["web","machine","whole","wanted"] ["web","machine","whole"] (defScope s_beat):=⟨rfl,rfl,rfl,by decide+kernel,rfl,by decide+kernel,by decide+kernel⟩
theorem ok_beat {P:Program}{w:World}{K:Fg1}{mg:Str->Option Value}{base:Heap}{f:Addr}{fd:FuncData}(F:Fun K "beat" "beat" s_beat f fd)(hb:Binds K fd ["web","machine","whole"] [])(hm:mg "beat"=some (.ref f))(B:Blt mg)(o_deed_of:Own P w K mg base 2 "deed_of" 3 m_deed_of)(o_moved:Own P w K mg base 2 "moved" 3 m_moved)(o_wants:Own P w K mg base 2 "wants" 3 m_wants):
  Own P w K mg base 3 "beat" 3 m_beat:=xown_mk (k:=2) (n:=3) (N:=["web","machine","whole","wanted"]) (ps:=["web","machine","whole"]) (b:=b_beat) F hb hm sc_beat rfl fun cdv A outer s H E hr=>
 (qF (qY 3 sc_beat.nd rfl (by first|exact Or.inl rfl|exact Or.inr rfl) (qH o_wants hr (by first|decide|omega) rfl (qA (xmv 0) (qA (qJ (qP hr.units) (xmv 1) qK (fun _ _=>rfl)) (qA (xmv 2) qN (qM ..)) (qS ..)) (qM ..))))
  (qG (qU (qH o_moved hr (by first|decide|omega) rfl (qA (xmv 0) (qA (xmv 2) (qA (qZ rfl (T:=["mood","sight"]) (keep:=[1]) ⟨rfl,by decide+kernel,(List.forall_mem_cons.mpr ⟨⟨_,rfl,rfl,(by first|exact Or.inl rfl|exact Or.inr rfl),(by first | decide+kernel | (show ¬ (("machine":Str),NameKind.cell)∈(_:List (Str×NameKind));decide+kernel))⟩,(List.forall_mem_nil _)⟩)⟩ rfl (qd (xmv 3)) (fun _ _ _=>⟨(xmg_tup rfl (xmgs_cons (qO 0 (show List.Nodup (["mood","sight","machine"]:List Str) by decide+kernel) rfl (by first|exact Or.inl rfl|exact Or.inr rfl)) (xmgs_cons (qO 1 (show List.Nodup (["mood","sight","machine"]:List Str) by decide+kernel) rfl (by first|exact Or.inl rfl|exact Or.inr rfl)) xmgs_nil))),xmif_nil,(qH o_deed_of hr (by first|decide|omega) rfl (qA (xmv 2) (qA (xmv 0) (qA (xmv 1) qN (qM ..)) (qM ..)) (qM ..)))⟩)) qN (st_ListComp ..)) (qM ..)) (qM ..))))))
noncomputable abbrev s__law_web:Stmt:=top 16
noncomputable def p__law_web_1:FS:=(mSeq (mAsg (fComp 1 [3] (iR1 (mCons (mV 5) mNil)) (gN 0) (mB (m2 (b2 gLt) (mN (b1 gLen) (mCons (m2 (b2 gIxY) (mV 1) (mV 0)) mNil)) (mC (D.int (4))))) (fEmit (mV 0))) (gN 6))
  (mDrop (mN (mCall 5 m__law_tie) (mCons (mV 0) (mCons (mV 3) (mCons (mV 4) (mCons (m2 (b2 gIxY) (mV 6) (mN (mCall 2 m__law_take) (mCons (mV 0) (mCons (mN (b1 gLen) (mCons (mV 6) mNil)) mNil)))) (mCons (mV 5) mNil))))))))
noncomputable def p__law_web_2:FS:=(mSeq (mAsg (mTup (mCons (mN (mCall 2 m__law_take) (mCons (mV 0) (mCons (mV 2) mNil))) (mCons (mN (mCall 2 m__law_take) (mCons (mV 0) (mCons (mV 2) mNil))) mNil))) (gT 2 (gCs (gN 8) (gCs (gN 9) gNl))))
  (mIfS (mAnd (mB (m2 (b2 gLt) (mN (b1 gLen) (mCons (m2 (b2 gIxY) (mV 3) (mV 8)) mNil)) (mC (D.int (4))))) (mB (m2 (b2 gLt) (mN (b1 gLen) (mCons (m2 (b2 gIxY) (mV 3) (mV 9)) mNil)) (m2 (b2 gSub) (mC (D.int (4))) (mN (b1 gInt) (mCons (m2 (b2 gEq) (mV 8) (mV 9)) mNil)))))) (mDrop (mN (mCall 5 m__law_tie) (mCons (mV 0) (mCons (mV 3) (mCons (mV 4) (mCons (mV 8) (mCons (mV 9) mNil))))))) mNx))
noncomputable def b__law_web:FS:=(mSeq (mAsg (m2 (b2 gAdd) (mC (D.int (1))) (mN (mCall 2 m__law_take) (mCons (mV 0) (mCons (mV 1) mNil)))) (gN 2))
  (mSeq (mAsg (mTup (mCons (fComp 1 [] (iR1 (mCons (mV 2) mNil)) (gN 0) mTrue (fEmit (mLst mNil))) (mCons (mLst mNil) mNil))) (gT 2 (gCs (gN 3) (gCs (gN 4) gNl))))
  (mSeq (mFor (iR2 (mCons (mC (D.int (1))) (mCons (mV 2) mNil))) (gN 5) p__law_web_1)
  (mSeq (mFor (iR1 (mCons (mN (mCall 2 m__law_take) (mCons (mV 0) (mCons (mC (D.int (7))) mNil))) mNil)) (gN 7) p__law_web_2)
  (mRet (mN (b1 gTup) (mCons (fComp 1 [3,4] (iSeq (mV 3)) (gN 0) mTrue (fEmit (mN (b1 gTup) (mCons (fComp 1 [1,2] (iSeq (mV 0)) (gN 0) mTrue (fEmit (mN (mCall 3 m__law_far) (mCons (mV 1) (mCons (mV 2) (mCons (mV 0) mNil)))))) mNil)))) mNil)))))))
noncomputable def m__law_web:FN:=fnB 10 b__law_web
theorem sc__law_web:FnScope ["_law_hand_here","_law_most","_law_many","_law_ends","_law_pairs","_law_room","_law_some","_law_turn","_law_one","_law_other"] ["_law_hand_here","_law_most"] (defScope s__law_web):=⟨rfl,rfl,rfl,by decide+kernel,rfl,by decide+kernel,by decide+kernel⟩
theorem ok__law_web {P:Program}{w:World}{K:Fg1}{mg:Str->Option Value}{base:Heap}{f:Addr}{fd:FuncData}(F:Fun K "_law_web" "_law_web" s__law_web f fd)(hb:Binds K fd ["_law_hand_here","_law_most"] [])(hm:mg "_law_web"=some (.ref f))(B:Blt mg)(o__law_far:Own P w K mg base 1 "_law_far" 3 m__law_far)(o__law_take:Own P w K mg base 1 "_law_take" 2 m__law_take)(o__law_tie:Own P w K mg base 2 "_law_tie" 5 m__law_tie):
  Own P w K mg base 3 "_law_web" 2 m__law_web:=xown_mk (k:=2) (n:=2) (N:=["_law_hand_here","_law_most","_law_many","_law_ends","_law_pairs","_law_room","_law_some","_law_turn","_law_one","_law_other"]) (ps:=["_law_hand_here","_law_most"]) (b:=b__law_web) F hb hm sc__law_web rfl fun cdv A outer s H E hr=>
 (qF (qY 2 sc__law_web.nd rfl (by first|exact Or.inl rfl|exact Or.inr rfl) (qI o_add qK (qH o__law_take hr (by first|decide|omega) rfl (qA (xmv 0) (qA (xmv 1) qN (qM ..)) (qM ..)))))
  (qF (qR (xme_tup (qA (qZ rfl (T:=["_law_room"]) (keep:=[]) ⟨rfl,by decide+kernel,(List.forall_mem_nil _)⟩ rfl (xmi_range1 rfl B.z_range (qA (xmv 2) qN (qM ..))) (fun _ _ _=>⟨(qO 0 (show List.Nodup (["_law_room"]:List Str) by decide+kernel) rfl (by first|exact Or.inl rfl|exact Or.inr rfl)),xmif_nil,(xme_lst qN)⟩)) (qA (xme_lst qN) qN (st_List ..)) (st_ListComp ..))) (xmg_tup rfl (xmgs_cons (qO 3 sc__law_web.nd rfl (by first|exact Or.inl rfl|exact Or.inr rfl)) (xmgs_cons (qO 4 sc__law_web.nd rfl (by first|exact Or.inl rfl|exact Or.inr rfl)) xmgs_nil))))
  (qF (qW PassesOwn.never rfl (xmi_range2 rfl B.z_range (qA qK (qA (xmv 2) qN (qM ..)) (qC ..))) (qO 5 sc__law_web.nd rfl (by first|exact Or.inl rfl|exact Or.inr rfl)) (qF (xfs_comp1 6 rfl (T:=["_law_one"]) (keep:=[3]) ⟨rfl,by decide+kernel,(List.forall_mem_cons.mpr ⟨⟨_,rfl,rfl,(by first|exact Or.inl rfl|exact Or.inr rfl),(by first | decide+kernel | (show ¬ (("_law_ends":Str),NameKind.cell)∈(_:List (Str×NameKind));decide+kernel))⟩,(List.forall_mem_nil _)⟩)⟩ rfl (xmi_range1 rfl B.z_range (qA (xmv 5) qN (qM ..))) (fun _ _ _=>⟨(qO 0 (show List.Nodup (["_law_one","_law_ends"]:List Str) by decide+kernel) rfl (by first|exact Or.inl rfl|exact Or.inr rfl)),(xmif_one (qX (o_ltN hr.units) (qD c_len rfl B.z_len (by decide+kernel) (qA (qJ (qP hr.units) (xmv 1) (xmv 0) (fun _ _=>rfl)) qN (qS ..))) qK (nomark _))),(xmv 0)⟩) sc__law_web.nd rfl (by first|exact Or.inl rfl|exact Or.inr rfl))
  (qG (xms_expr (qH o__law_tie hr (by first|decide|omega) rfl (qA (xmv 0) (qA (xmv 3) (qA (xmv 4) (qA (qJ (qP hr.units) (xmv 6) (qH o__law_take hr (by first|decide|omega) rfl (qA (xmv 0) (qA (qD c_len rfl B.z_len (by decide+kernel) (qA (xmv 6) qN (qM ..))) qN (qL ..)) (qM ..))) (fun _ _=>rfl)) (qA (xmv 5) qN (qM ..)) (qS ..)) (qM ..)) (qM ..)) (qM ..)))))))
  (qF (qW PassesOwn.never rfl (xmi_range1 rfl B.z_range (qA (qH o__law_take hr (by first|decide|omega) rfl (qA (xmv 0) (qA qK qN (qC ..)) (qM ..))) qN (qL ..))) (qO 7 sc__law_web.nd rfl (by first|exact Or.inl rfl|exact Or.inr rfl)) (qF (xms_par 8 9 rfl sc__law_web.nd rfl rfl (by decide) rfl rfl (qA (qH o__law_take hr (by first|decide|omega) rfl (qA (xmv 0) (qA (xmv 2) qN (qM ..)) (qM ..))) (qA (qH o__law_take hr (by first|decide|omega) rfl (qA (xmv 0) (qA (xmv 2) qN (qM ..)) (qM ..))) qN (qL ..)) (qL ..)))
  (qG (qV (xmt_w (xmw_and (qX (o_ltN hr.units) (qD c_len rfl B.z_len (by decide+kernel) (qA (qJ (qP hr.units) (xmv 3) (xmv 8) (fun _ _=>rfl)) qN (qS ..))) qK (nomark _)) (xmw_and1 (qX (o_ltN hr.units) (qD c_len rfl B.z_len (by decide+kernel) (qA (qJ (qP hr.units) (xmv 3) (xmv 9) (fun _ _=>rfl)) qN (qS ..))) (qI o_sub qK (qE c_int rfl B.z_int (by decide+kernel) (qA (xme_cmp (o_eq hr.units) (xmv 8) (xmv 9) (nomark _)) qN (st_Compare ..)))) (nomark _))))) (qG (xms_expr (qH o__law_tie hr (by first|decide|omega) rfl (qA (xmv 0) (qA (xmv 3) (qA (xmv 4) (qA (xmv 8) (qA (xmv 9) qN (qM ..)) (qM ..)) (qM ..)) (qM ..)) (qM ..))))) qQ))))
  (qG (qU (qE c_tuple rfl B.z_tuple (by decide+kernel) (qA (qZ rfl (T:=["_law_row"]) (keep:=[3,4]) ⟨rfl,by decide+kernel,(List.forall_mem_cons.mpr ⟨⟨_,rfl,rfl,(by first|exact Or.inl rfl|exact Or.inr rfl),(by first | decide+kernel | (show ¬ (("_law_ends":Str),NameKind.cell)∈(_:List (Str×NameKind));decide+kernel))⟩,(List.forall_mem_cons.mpr ⟨⟨_,rfl,rfl,(by first|exact Or.inl rfl|exact Or.inr rfl),(by first | decide+kernel | (show ¬ (("_law_pairs":Str),NameKind.cell)∈(_:List (Str×NameKind));decide+kernel))⟩,(List.forall_mem_nil _)⟩)⟩)⟩ rfl (qd (xmv 3)) (fun _ _ _=>⟨(qO 0 (show List.Nodup (["_law_row","_law_ends","_law_pairs"]:List Str) by decide+kernel) rfl (by first|exact Or.inl rfl|exact Or.inr rfl)),xmif_nil,(qE c_tuple rfl B.z_tuple (by decide+kernel) (qA (qZ rfl (T:=["_law_end"]) (keep:=[1,2]) ⟨rfl,by decide+kernel,(List.forall_mem_cons.mpr ⟨⟨_,rfl,rfl,(by first|exact Or.inl rfl|exact Or.inr rfl),(by first | decide+kernel | (show ¬ (("_law_ends":Str),NameKind.cell)∈(_:List (Str×NameKind));decide+kernel))⟩,(List.forall_mem_cons.mpr ⟨⟨_,rfl,rfl,(by first|exact Or.inl rfl|exact Or.inr rfl),(by first | decide+kernel | (show ¬ (("_law_pairs":Str),NameKind.cell)∈(_:List (Str×NameKind));decide+kernel))⟩,(List.forall_mem_nil _)⟩)⟩)⟩ rfl (qd (xmv 0)) (fun _ _ _=>⟨(qO 0 (show List.Nodup (["_law_end","_law_ends","_law_pairs"]:List Str) by decide+kernel) rfl (by first|exact Or.inl rfl|exact Or.inr rfl)),xmif_nil,(qH o__law_far hr (by first|decide|omega) rfl (qA (xmv 1) (qA (xmv 2) (qA (xmv 0) qN (qM ..)) (qM ..)) (qM ..)))⟩)) qN (st_ListComp ..)))⟩)) qN (st_ListComp ..)))))))))
noncomputable abbrev s_law:Stmt:=top 26
noncomputable def p_law_1:FS:=(mIfS (mB (m2 (b2 (gCmp fun i j=>decide (j<i))) (mN (mCall 2 m__law_take) (mCons (mV 2) (mCons (mC (D.int (6))) mNil))) (mC (D.int (0))))) (mAsg (mN (mCall 1 m__law_deed) (mCons (mV 2) mNil)) (gS (b3 gSetY) (mV 6) (mTup (mCons (m2 (b2 gIxY) (m2 (b2 gIxY) (m2 (b2 gIxY) (mV 5) (mC (D.int (0)))) (mV 7)) (mC (D.int (2)))) (mCons (mN (mCall 4 m__law_sight) (mCons (mV 3) (mCons (mV 4) (mCons (mV 5) (mCons (mV 7) mNil))))) mNil))))) mNx)
noncomputable def p_law_2:FS:=(mIfS (mB (m2 (b2 gNe) (mN (b1 gRepr) (mCons (mN (mCall 4 m_sight_of) (mCons (mV 10) (mCons (mV 4) (mCons (mV 11) (mCons (mV 7) mNil))))) mNil)) (mN (b1 gRepr) (mCons (mN (mCall 4 m__law_sight) (mCons (mV 3) (mCons (mV 4) (mCons (mV 5) (mCons (mV 7) mNil))))) mNil)))) (mRet (mC (D.bl false))) mNx)
noncomputable def p_law_3:FS:=(mSeq (mAsg (mN (mCall 2 m__law_hand) (mCons (mV 0) (mCons (mV 1) mNil))) (gN 2))
  (mSeq (mAsg (mTup (mCons (mN (mCall 2 m__law_web) (mCons (mV 2) (mCons (mC (D.int (8))) mNil))) (mCons (mN (mCall 1 m__law_some_eyes) (mCons (mV 2) mNil)) mNil))) (gT 2 (gCs (gN 3) (gCs (gN 4) gNl))))
  (mSeq (mAsg (mTup (mCons (mN (mCall 2 m__law_whole) (mCons (mV 2) (mCons (mV 3) mNil))) (mCons mDnew mNil))) (gT 2 (gCs (gN 5) (gCs (gN 6) gNl))))
  (mSeq (mFor (iR1 (mCons (mN (b1 gLen) (mCons (m2 (b2 gIxY) (mV 5) (mC (D.int (0)))) mNil)) mNil)) (gN 7) p_law_1)
  (mSeq (mAsg (mTup (mCons (mV 4) (mCons (mN (b1 gTup) (mCons (mN (b1 gSortIt) (mCons (mV 6) mNil)) mNil)) mNil))) (gN 8))
  (mSeq (mAsg (mN (mCall 2 m__law_order) (mCons (mV 2) (mCons (mN (b1 gLen) (mCons (mV 3) mNil)) mNil))) (gN 9))
  (mSeq (mAsg (mTup (mCons (mN (mCall 2 m__law_renamed_web) (mCons (mV 3) (mCons (mV 9) mNil))) (mCons (mN (mCall 2 m__law_renamed) (mCons (mV 5) (mCons (mV 9) mNil))) mNil))) (gT 2 (gCs (gN 10) (gCs (gN 11) gNl))))
  (mSeq (mAsg (mN (mCall 4 m__law_beat) (mCons (mV 3) (mCons (mV 4) (mCons (mV 6) (mCons (mV 5) mNil))))) (gN 12))
  (mSeq (mIfS (mB (m2 (b2 gNe) (mN (b1 gRepr) (mCons (mN (mCall 3 m_beat) (mCons (mV 3) (mCons (mV 8) (mCons (mV 5) mNil)))) mNil)) (mN (b1 gRepr) (mCons (mV 12) mNil)))) (mRet (mC (D.bl false))) mNx)
  (mSeq (mIfS (mB (m2 (b2 gNe) (mN (b1 gRepr) (mCons (mN (mCall 3 m_beat) (mCons (mV 10) (mCons (mV 8) (mCons (mV 11) mNil)))) mNil)) (mN (b1 gRepr) (mCons (mN (mCall 2 m__law_renamed) (mCons (mV 12) (mCons (mV 9) mNil))) mNil)))) (mRet (mC (D.bl false))) mNx)
  (mFor (iR1 (mCons (mN (b1 gLen) (mCons (m2 (b2 gIxY) (mV 5) (mC (D.int (0)))) mNil)) mNil)) (gN 7) p_law_2)))))))))))
noncomputable def p_law_4:FS:=(mPure [true,true,false,false,false,false,false,false,false,false,false,false,false] [true,false,false,false,false,false,false,false,false,false,false,false,false] p_law_3)
noncomputable def b_law:FS:=(mSeq (mFor (iR1 (mCons (mN (b2 gMax) (mCons (mC (D.int (1))) (mCons (mN (b2 gMin) (mCons (mC (D.int (6))) (mCons (mN (b1 gLen) (mCons (mV 0) mNil)) mNil))) mNil))) mNil)) (gN 1) p_law_4)
  (mRet (mC (D.bl true))))
noncomputable def m_law:FN:=fnB 13 b_law
theorem sc_law:FnScope ["_law_script","_law_k","_law_hand_here","_law_web_here","_law_eyes","_law_whole_here","_law_rows","_law_j","_law_machine","_law_order_here","_law_other_web","_law_other","_law_due"] ["_law_script"] (defScope s_law):=⟨rfl,rfl,rfl,by decide+kernel,rfl,by decide+kernel,by decide+kernel⟩
theorem ok_law {P:Program}{w:World}{K:Fg1}{mg:Str->Option Value}{base:Heap}{f:Addr}{fd:FuncData}(F:Fun K "law" "law" s_law f fd)(hb:Binds K fd ["_law_script"] [])(hm:mg "law"=some (.ref f))(B:Blt mg)(o__law_beat:Own P w K mg base 2 "_law_beat" 4 m__law_beat)(o__law_deed:Own P w K mg base 2 "_law_deed" 1 m__law_deed)(o__law_hand:Own P w K mg base 1 "_law_hand" 2 m__law_hand)(o__law_order:Own P w K mg base 2 "_law_order" 2 m__law_order)(o__law_renamed:Own P w K mg base 1 "_law_renamed" 2 m__law_renamed)(o__law_renamed_web:Own P w K mg base 1 "_law_renamed_web" 2 m__law_renamed_web)(o__law_sight:Own P w K mg base 1 "_law_sight" 4 m__law_sight)(o__law_some_eyes:Own P w K mg base 2 "_law_some_eyes" 1 m__law_some_eyes)(o__law_take:Own P w K mg base 1 "_law_take" 2 m__law_take)(o__law_web:Own P w K mg base 3 "_law_web" 2 m__law_web)(o__law_whole:Own P w K mg base 2 "_law_whole" 2 m__law_whole)(o_beat:Own P w K mg base 3 "beat" 3 m_beat)(o_sight_of:Own P w K mg base 1 "sight_of" 4 m_sight_of):
  FnOk P w K mg base CX0 4 f fd ["_law_script"] (spM K 1 m_law):=xfn_mk (k:=3) (n:=1) (N:=["_law_script","_law_k","_law_hand_here","_law_web_here","_law_eyes","_law_whole_here","_law_rows","_law_j","_law_machine","_law_order_here","_law_other_web","_law_other","_law_due"]) (ps:=["_law_script"]) (b:=b_law) F sc_law rfl fun cdv A outer s H E hr=>
 (qF (qW PassesOwn.never rfl (xmi_range1 rfl B.z_range (qA (qD (c_max rfl) rfl B.z_max (by decide+kernel) (qA qK (qA (qD (c_min rfl) rfl B.z_min (by decide+kernel) (qA qK (qA (qD c_len rfl B.z_len (by decide+kernel) (qA (xmv 0) qN (qM ..))) qN (qL ..)) (qC ..))) qN (qL ..)) (qC ..))) qN (qL ..))) (qO 1 sc_law.nd rfl (by first|exact Or.inl rfl|exact Or.inr rfl)) (xmss_pure [true,true,false,false,false,false,false,false,false,false,false,false,false] [true,false,false,false,false,false,false,false,false,false,false,false,false] (qF (qY 2 sc_law.nd rfl (by first|exact Or.inl rfl|exact Or.inr rfl) (qH o__law_hand hr (by first|decide|omega) rfl (qA (xmv 0) (qA (xmv 1) qN (qM ..)) (qM ..))))
  (qF (xms_par 3 4 rfl sc_law.nd rfl rfl (by decide) rfl rfl (qA (qH o__law_web hr (by first|decide|omega) rfl (qA (xmv 2) (qA qK qN (qC ..)) (qM ..))) (qA (qH o__law_some_eyes hr (by first|decide|omega) rfl (qA (xmv 2) qN (qM ..))) qN (qL ..)) (qL ..)))
  (qF (xms_par 5 6 rfl sc_law.nd rfl rfl (by decide) rfl rfl (qA (qH o__law_whole hr (by first|decide|omega) rfl (qA (xmv 2) (qA (xmv 3) qN (qM ..)) (qM ..))) (qA xme_dnew qN (st_Dict ..)) (qL ..)))
  (qF (qW PassesOwn.never rfl (xmi_range1 rfl B.z_range (qA (qD c_len rfl B.z_len (by decide+kernel) (qA (qJ (qP hr.units) (xmv 5) qK (fun _ _=>rfl)) qN (qS ..))) qN (qL ..))) (qO 7 sc_law.nd rfl (by first|exact Or.inl rfl|exact Or.inr rfl)) (qG (qV (qX o_gt (qH o__law_take hr (by first|decide|omega) rfl (qA (xmv 2) (qA qK qN (qC ..)) (qM ..))) qK (nomark _)) (qG (qR (qH o__law_deed hr (by first|decide|omega) rfl (qA (xmv 2) qN (qM ..))) (xmg_sub (xmv 6) (xme_tup (qA (qJ (qP hr.units) (qJ (qP hr.units) (qJ (qP hr.units) (xmv 5) qK (fun _ _=>rfl)) (xmv 7) (fun _ _=>rfl)) qK (fun _ _=>rfl)) (qA (qH o__law_sight hr (by first|decide|omega) rfl (qA (xmv 3) (qA (xmv 4) (qA (xmv 5) (qA (xmv 7) qN (qM ..)) (qM ..)) (qM ..)) (qM ..))) qN (qL ..)) (qS ..))) (s_setY hr.units)))) qQ)))
  (qF (qY 8 sc_law.nd rfl (by first|exact Or.inl rfl|exact Or.inr rfl) (xme_tup (qA (xmv 4) (qA (qE c_tuple rfl B.z_tuple (by decide+kernel) (qA (xme_sortI rfl hr.units rfl B.z_sorted (xmv 6)) qN (qL ..))) qN (qL ..)) (qM ..))))
  (qF (qY 9 sc_law.nd rfl (by first|exact Or.inl rfl|exact Or.inr rfl) (qH o__law_order hr (by first|decide|omega) rfl (qA (xmv 2) (qA (qD c_len rfl B.z_len (by decide+kernel) (qA (xmv 3) qN (qM ..))) qN (qL ..)) (qM ..))))
  (qF (xms_par 10 11 rfl sc_law.nd rfl rfl (by decide) rfl rfl (qA (qH o__law_renamed_web hr (by first|decide|omega) rfl (qA (xmv 3) (qA (xmv 9) qN (qM ..)) (qM ..))) (qA (qH o__law_renamed hr (by first|decide|omega) rfl (qA (xmv 5) (qA (xmv 9) qN (qM ..)) (qM ..))) qN (qL ..)) (qL ..)))
  (qF (qY 12 sc_law.nd rfl (by first|exact Or.inl rfl|exact Or.inr rfl) (qH o__law_beat hr (by first|decide|omega) rfl (qA (xmv 3) (qA (xmv 4) (qA (xmv 6) (qA (xmv 5) qN (qM ..)) (qM ..)) (qM ..)) (qM ..))))
  (qF (qV (qX (o_ne hr.units) (qD (c_repr hr) rfl B.z_repr (by decide+kernel) (qA (qH o_beat hr (by first|decide|omega) rfl (qA (xmv 3) (qA (xmv 8) (qA (xmv 5) qN (qM ..)) (qM ..)) (qM ..))) qN (qL ..))) (qD (c_repr hr) rfl B.z_repr (by decide+kernel) (qA (xmv 12) qN (qM ..))) (nomark _)) (qG (qU xme_bl)) qQ)
  (qF (qV (qX (o_ne hr.units) (qD (c_repr hr) rfl B.z_repr (by decide+kernel) (qA (qH o_beat hr (by first|decide|omega) rfl (qA (xmv 10) (qA (xmv 8) (qA (xmv 11) qN (qM ..)) (qM ..)) (qM ..))) qN (qL ..))) (qD (c_repr hr) rfl B.z_repr (by decide+kernel) (qA (qH o__law_renamed hr (by first|decide|omega) rfl (qA (xmv 12) (qA (xmv 9) qN (qM ..)) (qM ..))) qN (qL ..))) (nomark _)) (qG (qU xme_bl)) qQ)
  (qG (qW PassesOwn.never rfl (xmi_range1 rfl B.z_range (qA (qD c_len rfl B.z_len (by decide+kernel) (qA (qJ (qP hr.units) (xmv 5) qK (fun _ _=>rfl)) qN (qS ..))) qN (qL ..))) (qO 7 sc_law.nd rfl (by first|exact Or.inl rfl|exact Or.inr rfl)) (qG (qV (qX (o_ne hr.units) (qD (c_repr hr) rfl B.z_repr (by decide+kernel) (qA (qH o_sight_of hr (by first|decide|omega) rfl (qA (xmv 10) (qA (xmv 4) (qA (xmv 11) (qA (xmv 7) qN (qM ..)) (qM ..)) (qM ..)) (qM ..))) qN (qL ..))) (qD (c_repr hr) rfl B.z_repr (by decide+kernel) (qA (qH o__law_sight hr (by first|decide|omega) rfl (qA (xmv 3) (qA (xmv 4) (qA (xmv 5) (qA (xmv 7) qN (qM ..)) (qM ..)) (qM ..)) (qM ..))) qN (qL ..))) (nomark _)) (qG (qU xme_bl)) qQ))))))))))))))))
  (qG (qU xme_bl)))
theorem all_mk {l:PySem.W.OpenLaw}{w:World}{K:Fg1}{h:Heap}{mg:Str->Option Value}{fa f1 f2 f3 f4 f5 f6 f7 f8 f9 f10 f11 f12 f13 f14 f15 f16 f17 f18 f19 f20 f21 f22 f23:Addr}(X:K.In h)(G:h.Ns mainGlobals mg)(hfa:mg "law"=some (.ref fa))
  {oe1 oe2 oe3 oe4 oe5 oe6 oe7 oe8 oe9 oe10 oe11 oe12 oe13 oe14 oe15 oe16 oe17 oe18 oe19 oe20 oe21 oe22 oe23 an1 an2 an3 an4 an5 an6 an7 an8 an9 an10 an11 an12 an13 an14 an15 an16 an17 an18 an19 an20 an21 an22 an23:Option Addr} {sn1 sn2 sn3 sn4 sn5 sn6 sn7 sn8 sn9 sn10 sn11 sn12 sn13 sn14 sn15 sn16 sn17 sn18 sn19 sn20 sn21 sn22 sn23:Array (Option Value)} {oc1 oc2 oc3 oc4 oc5 oc6 oc7 oc8 oc9 oc10 oc11 oc12 oc13 oc14 oc15 oc16 oc17 oc18 oc19 oc20 oc21 oc22 oc23 kV1 kV2 kV3 kV4 kV5 kV6 kV7 kV8 kV9 kV10 kV11 kV12 kV13 kV14 kV15 kV16 kV17 kV18 kV19 kV20 kV21 kV22 kV23 dc1 dc2 dc3 dc4 dc5 dc6 dc7 dc8 dc9 dc10 dc11 dc12 dc13 dc14 dc15 dc16 dc17 dc18 dc19 dc20 dc21 dc22 dc23 pm1 pm2 pm3 pm4 pm5 pm6 pm7 pm8 pm9 pm10 pm11 pm12 pm13 pm14 pm15 pm16 pm17 pm18 pm19 pm20 pm21 pm22 pm23 cd1 cd2 cd3 cd4 cd5 cd6 cd7 cd8 cd9 cd10 cd11 cd12 cd13 cd14 cd15 cd16 cd17 cd18 cd19 cd20 cd21 cd22 cd23 ct1 ct2 ct3 ct4 ct5 ct6 ct7 ct8 ct9 ct10 ct11 ct12 ct13 ct14 ct15 ct16 ct17 ct18 ct19 ct20 ct21 ct22 ct23:Value}
  {g1 g2 g5 g8 g11:Addr}
  {t3 t4 t6 t7 t9 t10 t12 t13:Tok}
  {od2 od5 od8 od11 od1:Option Addr} {n2 n5 n8 n11 n1:Nat} {sl2 sl5 sl8 sl11 sl1:Array (Option Value)}
  (a1:wN1 K mainGlobals "first_of"=some (some (.ref f1)))
  (l1:K.lookup f1=some ⟨oc1,oe1,.func (wF1 "first_of" "first_of" (defArgs s_first_of) (defBody s_first_of) (defScope s_first_of) .none kV1 dc1 pm1 an1 cd1 ct1),sn1⟩)
  (c1:wC1 K cd1 "first_of"=true)
  (k1:wK1 K (.ref f1)=true)
  (a2:wN1 K mainGlobals "sight_of"=some (some (.ref f2)))
  (l2:K.lookup f2=some ⟨oc2,oe2,.func (wF1 "sight_of" "sight_of" (defArgs s_sight_of) (defBody s_sight_of) (defScope s_sight_of) .none kV2 dc2 pm2 an2 cd2 ct2),sn2⟩)
  (c2:wC1 K cd2 "sight_of"=true)
  (k2:wK1 K (.ref f2)=true)
  (a3:wN1 K mainGlobals "handled"=some (some (.ref f3)))
  (l3:K.lookup f3=some ⟨oc3,oe3,.func (wF1 "handled" "handled" (defArgs s_handled) (defBody s_handled) (defScope s_handled) .none kV3 dc3 pm3 an3 cd3 ct3),sn3⟩)
  (c3:wC1 K cd3 "handled"=true)
  (k3:wK1 K (.ref f3)=true)
  (a4:wN1 K mainGlobals "stepped"=some (some (.ref f4)))
  (l4:K.lookup f4=some ⟨oc4,oe4,.func (wF1 "stepped" "stepped" (defArgs s_stepped) (defBody s_stepped) (defScope s_stepped) .none kV4 dc4 pm4 an4 cd4 ct4),sn4⟩)
  (c4:wC1 K cd4 "stepped"=true)
  (k4:wK1 K (.ref f4)=true)
  (a5:wN1 K mainGlobals "_law_hand"=some (some (.ref f5)))
  (l5:K.lookup f5=some ⟨oc5,oe5,.func (wF1 "_law_hand" "_law_hand" (defArgs s__law_hand) (defBody s__law_hand) (defScope s__law_hand) .none kV5 dc5 pm5 an5 cd5 ct5),sn5⟩)
  (c5:wC1 K cd5 "_law_hand"=true)
  (k5:wK1 K (.ref f5)=true)
  (a6:wN1 K mainGlobals "_law_take"=some (some (.ref f6)))
  (l6:K.lookup f6=some ⟨oc6,oe6,.func (wF1 "_law_take" "_law_take" (defArgs s__law_take) (defBody s__law_take) (defScope s__law_take) .none kV6 dc6 pm6 an6 cd6 ct6),sn6⟩)
  (c6:wC1 K cd6 "_law_take"=true)
  (k6:wK1 K (.ref f6)=true)
  (a7:wN1 K mainGlobals "_law_far"=some (some (.ref f7)))
  (l7:K.lookup f7=some ⟨oc7,oe7,.func (wF1 "_law_far" "_law_far" (defArgs s__law_far) (defBody s__law_far) (defScope s__law_far) .none kV7 dc7 pm7 an7 cd7 ct7),sn7⟩)
  (c7:wC1 K cd7 "_law_far"=true)
  (k7:wK1 K (.ref f7)=true)
  (a8:wN1 K mainGlobals "_law_sight"=some (some (.ref f8)))
  (l8:K.lookup f8=some ⟨oc8,oe8,.func (wF1 "_law_sight" "_law_sight" (defArgs s__law_sight) (defBody s__law_sight) (defScope s__law_sight) .none kV8 dc8 pm8 an8 cd8 ct8),sn8⟩)
  (c8:wC1 K cd8 "_law_sight"=true)
  (k8:wK1 K (.ref f8)=true)
  (a9:wN1 K mainGlobals "_law_chalked"=some (some (.ref f9)))
  (l9:K.lookup f9=some ⟨oc9,oe9,.func (wF1 "_law_chalked" "_law_chalked" (defArgs s__law_chalked) (defBody s__law_chalked) (defScope s__law_chalked) .none kV9 dc9 pm9 an9 cd9 ct9),sn9⟩)
  (c9:wC1 K cd9 "_law_chalked"=true)
  (k9:wK1 K (.ref f9)=true)
  (a10:wN1 K mainGlobals "_law_renamed_web"=some (some (.ref f10)))
  (l10:K.lookup f10=some ⟨oc10,oe10,.func (wF1 "_law_renamed_web" "_law_renamed_web" (defArgs s__law_renamed_web) (defBody s__law_renamed_web) (defScope s__law_renamed_web) .none kV10 dc10 pm10 an10 cd10 ct10),sn10⟩)
  (c10:wC1 K cd10 "_law_renamed_web"=true)
  (k10:wK1 K (.ref f10)=true)
  (a11:wN1 K mainGlobals "_law_renamed"=some (some (.ref f11)))
  (l11:K.lookup f11=some ⟨oc11,oe11,.func (wF1 "_law_renamed" "_law_renamed" (defArgs s__law_renamed) (defBody s__law_renamed) (defScope s__law_renamed) .none kV11 dc11 pm11 an11 cd11 ct11),sn11⟩)
  (c11:wC1 K cd11 "_law_renamed"=true)
  (k11:wK1 K (.ref f11)=true)
  (a12:wN1 K mainGlobals "deed_of"=some (some (.ref f12)))
  (l12:K.lookup f12=some ⟨oc12,oe12,.func (wF1 "deed_of" "deed_of" (defArgs s_deed_of) (defBody s_deed_of) (defScope s_deed_of) .none kV12 dc12 pm12 an12 cd12 ct12),sn12⟩)
  (c12:wC1 K cd12 "deed_of"=true)
  (k12:wK1 K (.ref f12)=true)
  (a13:wN1 K mainGlobals "wants"=some (some (.ref f13)))
  (l13:K.lookup f13=some ⟨oc13,oe13,.func (wF1 "wants" "wants" (defArgs s_wants) (defBody s_wants) (defScope s_wants) .none kV13 dc13 pm13 an13 cd13 ct13),sn13⟩)
  (c13:wC1 K cd13 "wants"=true)
  (k13:wK1 K (.ref f13)=true)
  (a14:wN1 K mainGlobals "moved"=some (some (.ref f14)))
  (l14:K.lookup f14=some ⟨oc14,oe14,.func (wF1 "moved" "moved" (defArgs s_moved) (defBody s_moved) (defScope s_moved) .none kV14 dc14 pm14 an14 cd14 ct14),sn14⟩)
  (c14:wC1 K cd14 "moved"=true)
  (k14:wK1 K (.ref f14)=true)
  (a15:wN1 K mainGlobals "_law_tie"=some (some (.ref f15)))
  (l15:K.lookup f15=some ⟨oc15,oe15,.func (wF1 "_law_tie" "_law_tie" (defArgs s__law_tie) (defBody s__law_tie) (defScope s__law_tie) .none kV15 dc15 pm15 an15 cd15 ct15),sn15⟩)
  (c15:wC1 K cd15 "_law_tie"=true)
  (k15:wK1 K (.ref f15)=true)
  (a16:wN1 K mainGlobals "_law_whole"=some (some (.ref f16)))
  (l16:K.lookup f16=some ⟨oc16,oe16,.func (wF1 "_law_whole" "_law_whole" (defArgs s__law_whole) (defBody s__law_whole) (defScope s__law_whole) .none kV16 dc16 pm16 an16 cd16 ct16),sn16⟩)
  (c16:wC1 K cd16 "_law_whole"=true)
  (k16:wK1 K (.ref f16)=true)
  (a17:wN1 K mainGlobals "_law_some_eyes"=some (some (.ref f17)))
  (l17:K.lookup f17=some ⟨oc17,oe17,.func (wF1 "_law_some_eyes" "_law_some_eyes" (defArgs s__law_some_eyes) (defBody s__law_some_eyes) (defScope s__law_some_eyes) .none kV17 dc17 pm17 an17 cd17 ct17),sn17⟩)
  (c17:wC1 K cd17 "_law_some_eyes"=true)
  (k17:wK1 K (.ref f17)=true)
  (a18:wN1 K mainGlobals "_law_beat"=some (some (.ref f18)))
  (l18:K.lookup f18=some ⟨oc18,oe18,.func (wF1 "_law_beat" "_law_beat" (defArgs s__law_beat) (defBody s__law_beat) (defScope s__law_beat) .none kV18 dc18 pm18 an18 cd18 ct18),sn18⟩)
  (c18:wC1 K cd18 "_law_beat"=true)
  (k18:wK1 K (.ref f18)=true)
  (a19:wN1 K mainGlobals "_law_deed"=some (some (.ref f19)))
  (l19:K.lookup f19=some ⟨oc19,oe19,.func (wF1 "_law_deed" "_law_deed" (defArgs s__law_deed) (defBody s__law_deed) (defScope s__law_deed) .none kV19 dc19 pm19 an19 cd19 ct19),sn19⟩)
  (c19:wC1 K cd19 "_law_deed"=true)
  (k19:wK1 K (.ref f19)=true)
  (a20:wN1 K mainGlobals "_law_order"=some (some (.ref f20)))
  (l20:K.lookup f20=some ⟨oc20,oe20,.func (wF1 "_law_order" "_law_order" (defArgs s__law_order) (defBody s__law_order) (defScope s__law_order) .none kV20 dc20 pm20 an20 cd20 ct20),sn20⟩)
  (c20:wC1 K cd20 "_law_order"=true)
  (k20:wK1 K (.ref f20)=true)
  (a21:wN1 K mainGlobals "beat"=some (some (.ref f21)))
  (l21:K.lookup f21=some ⟨oc21,oe21,.func (wF1 "beat" "beat" (defArgs s_beat) (defBody s_beat) (defScope s_beat) .none kV21 dc21 pm21 an21 cd21 ct21),sn21⟩)
  (c21:wC1 K cd21 "beat"=true)
  (k21:wK1 K (.ref f21)=true)
  (a22:wN1 K mainGlobals "_law_web"=some (some (.ref f22)))
  (l22:K.lookup f22=some ⟨oc22,oe22,.func (wF1 "_law_web" "_law_web" (defArgs s__law_web) (defBody s__law_web) (defScope s__law_web) .none kV22 dc22 pm22 an22 cd22 ct22),sn22⟩)
  (c22:wC1 K cd22 "_law_web"=true)
  (k22:wK1 K (.ref f22)=true)
  (a23:wN1 K mainGlobals "law"=some (some (.ref f23)))
  (l23:K.lookup f23=some ⟨oc23,oe23,.func (wF1 "law" "law" (defArgs s_law) (defBody s_law) (defScope s_law) .none kV23 dc23 pm23 an23 cd23 ct23),sn23⟩)
  (c23:wC1 K cd23 "law"=true)
  (k23:wK1 K (.ref f23)=true)
  (z_enumerate:wN1 K mainGlobals "enumerate"=some none)
  (z_int:wN1 K mainGlobals "int"=some none)
  (z_len:wN1 K mainGlobals "len"=some none)
  (z_max:wN1 K mainGlobals "max"=some none)
  (z_min:wN1 K mainGlobals "min"=some none)
  (z_range:wN1 K mainGlobals "range"=some none)
  (z_repr:wN1 K mainGlobals "repr"=some none)
  (z_set:wN1 K mainGlobals "set"=some none)
  (z_sorted:wN1 K mainGlobals "sorted"=some none)
  (z_tuple:wN1 K mainGlobals "tuple"=some none)
  (z_zip:wN1 K mainGlobals "zip"=some none)
  (e_PARTS:wN1 K mainGlobals "PARTS"=some (some (Value.ref g1)))
  (h1:K.lookup g1=some ⟨.type "tuple",od1,.seq ([(Value.ref g2),(Value.ref g5),(Value.ref g8),(Value.ref g11)]:List Value).toArray n1,sl1⟩)
  (h2:K.lookup g2=some ⟨.type "tuple",od2,.seq ([(Value.str "came" t3),(Value.int (5) t4)]:List Value).toArray n2,sl2⟩)
  (h5:K.lookup g5=some ⟨.type "tuple",od5,.seq ([(Value.str "chalk" t6),(Value.int (2) t7)]:List Value).toArray n5,sl5⟩)
  (h8:K.lookup g8=some ⟨.type "tuple",od8,.seq ([(Value.str "doors" t9),(Value.int (5) t10)]:List Value).toArray n8,sl8⟩)
  (h11:K.lookup g11=some ⟨.type "tuple",od11,.seq ([(Value.str "others" t12),(Value.int (2) t13)]:List Value).toArray n11,sl11⟩)
  :∃ fd:FuncData,(∀ (s:Shared) (v:Value),BindsTo s fd ⟨[v],[]⟩ [("_law_script",v)]) /\ ∀ base:Heap,K.In base->base.Ns mainGlobals mg->FnOk l.prog w K mg base CX0 4 fa fd ["_law_script"] (spM K 1 m_law):=by
 have e:=hfa.symm.trans (wM1 X G a23)
 cases e
 have B:Blt mg:=⟨PySem.W.mg_none_of X G z_enumerate,PySem.W.mg_none_of X G z_int,PySem.W.mg_none_of X G z_len,PySem.W.mg_none_of X G z_max,PySem.W.mg_none_of X G z_min,PySem.W.mg_none_of X G z_range,PySem.W.mg_none_of X G z_repr,PySem.W.mg_none_of X G z_set,PySem.W.mg_none_of X G z_sorted,PySem.W.mg_none_of X G z_tuple,PySem.W.mg_none_of X G z_zip⟩
 have c_PARTS:CGl K mg "PARTS" d_PARTS:=cgl_mk (wM1 X G e_PARTS) (cv_tup h1 (by show 4<=sizeLine;decide) (cvs_cons (cv_tup h2 (by show 2<=sizeLine;decide) (cvs_cons cv_str (cvs_cons cv_int cvs_nil))) (cvs_cons (cv_tup h5 (by show 2<=sizeLine;decide) (cvs_cons cv_str (cvs_cons cv_int cvs_nil))) (cvs_cons (cv_tup h8 (by show 2<=sizeLine;decide) (cvs_cons cv_str (cvs_cons cv_int cvs_nil))) (cvs_cons (cv_tup h11 (by show 2<=sizeLine;decide) (cvs_cons cv_str (cvs_cons cv_int cvs_nil))) cvs_nil)))))
 have F1:=fun_mk (st:=s_first_of) l1 c1 k1
 have b1:=F1.binds (ps:=["rows","mood"]) fun _ _ _ _ _ _ us hl=>ln2 hl fun _ _=>rfl
 have F2:=fun_mk (st:=s_sight_of) l2 c2 k2
 have b2:=F2.binds (ps:=["web","eyes","whole","k"]) fun _ _ _ _ _ _ us hl=>ln4 hl fun _ _ _ _=>rfl
 have F3:=fun_mk (st:=s_handled) l3 c3 k3
 have b3:=F3.binds (ps:=["whole","deeds"]) fun _ _ _ _ _ _ us hl=>ln2 hl fun _ _=>rfl
 have F4:=fun_mk (st:=s_stepped) l4 c4 k4
 have b4:=F4.binds (ps:=["web","walker","deed"]) fun _ _ _ _ _ _ us hl=>ln3 hl fun _ _ _=>rfl
 have F5:=fun_mk (st:=s__law_hand) l5 c5 k5
 have b5:=F5.binds (ps:=["_law_script","_law_k"]) fun _ _ _ _ _ _ us hl=>ln2 hl fun _ _=>rfl
 have F6:=fun_mk (st:=s__law_take) l6 c6 k6
 have b6:=F6.binds (ps:=["_law_hand_here","_law_many"]) fun _ _ _ _ _ _ us hl=>ln2 hl fun _ _=>rfl
 have F7:=fun_mk (st:=s__law_far) l7 c7 k7
 have b7:=F7.binds (ps:=["_law_ends","_law_pairs","_law_end"]) fun _ _ _ _ _ _ us hl=>ln3 hl fun _ _ _=>rfl
 have F8:=fun_mk (st:=s__law_sight) l8 c8 k8
 have b8:=F8.binds (ps:=["_law_web_here","_law_eyes","_law_whole_here","_law_k"]) fun _ _ _ _ _ _ us hl=>ln4 hl fun _ _ _ _=>rfl
 have F9:=fun_mk (st:=s__law_chalked) l9 c9 k9
 have b9:=F9.binds (ps:=["_law_web_here","_law_whole_here","_law_dealt"]) fun _ _ _ _ _ _ us hl=>ln3 hl fun _ _ _=>rfl
 have F10:=fun_mk (st:=s__law_renamed_web) l10 c10 k10
 have b10:=F10.binds (ps:=["_law_web_here","_law_order_here"]) fun _ _ _ _ _ _ us hl=>ln2 hl fun _ _=>rfl
 have F11:=fun_mk (st:=s__law_renamed) l11 c11 k11
 have b11:=F11.binds (ps:=["_law_whole_here","_law_order_here"]) fun _ _ _ _ _ _ us hl=>ln2 hl fun _ _=>rfl
 have F12:=fun_mk (st:=s_deed_of) l12 c12 k12
 have b12:=F12.binds (ps:=["machine","mood","sight"]) fun _ _ _ _ _ _ us hl=>ln3 hl fun _ _ _=>rfl
 have F13:=fun_mk (st:=s_wants) l13 c13 k13
 have b13:=F13.binds (ps:=["web","eyes","whole"]) fun _ _ _ _ _ _ us hl=>ln3 hl fun _ _ _=>rfl
 have F14:=fun_mk (st:=s_moved) l14 c14 k14
 have b14:=F14.binds (ps:=["web","whole","deeds"]) fun _ _ _ _ _ _ us hl=>ln3 hl fun _ _ _=>rfl
 have F15:=fun_mk (st:=s__law_tie) l15 c15 k15
 have b15:=F15.binds (ps:=["_law_hand_here","_law_ends","_law_pairs","_law_one","_law_other"]) fun _ _ _ _ _ _ us hl=>ln5 hl fun _ _ _ _ _=>rfl
 have F16:=fun_mk (st:=s__law_whole) l16 c16 k16
 have b16:=F16.binds (ps:=["_law_hand_here","_law_web_here"]) fun _ _ _ _ _ _ us hl=>ln2 hl fun _ _=>rfl
 have F17:=fun_mk (st:=s__law_some_eyes) l17 c17 k17
 have b17:=F17.binds (ps:=["_law_hand_here"]) fun _ _ _ _ _ _ us hl=>ln1 hl fun _=>rfl
 have F18:=fun_mk (st:=s__law_beat) l18 c18 k18
 have b18:=F18.binds (ps:=["_law_web_here","_law_eyes","_law_rows","_law_whole_here"]) fun _ _ _ _ _ _ us hl=>ln4 hl fun _ _ _ _=>rfl
 have F19:=fun_mk (st:=s__law_deed) l19 c19 k19
 have b19:=F19.binds (ps:=["_law_hand_here"]) fun _ _ _ _ _ _ us hl=>ln1 hl fun _=>rfl
 have F20:=fun_mk (st:=s__law_order) l20 c20 k20
 have b20:=F20.binds (ps:=["_law_hand_here","_law_many"]) fun _ _ _ _ _ _ us hl=>ln2 hl fun _ _=>rfl
 have F21:=fun_mk (st:=s_beat) l21 c21 k21
 have b21:=F21.binds (ps:=["web","machine","whole"]) fun _ _ _ _ _ _ us hl=>ln3 hl fun _ _ _=>rfl
 have F22:=fun_mk (st:=s__law_web) l22 c22 k22
 have b22:=F22.binds (ps:=["_law_hand_here","_law_most"]) fun _ _ _ _ _ _ us hl=>ln2 hl fun _ _=>rfl
 have F23:=fun_mk (st:=s_law) l23 c23 k23
 have b23:=F23.binds (ps:=["_law_script"]) fun _ _ _ _ _ _ us hl=>ln1 hl fun _=>rfl
 refine ⟨wF1 "law" "law" (defArgs s_law) (defBody s_law) (defScope s_law) .none kV23 dc23 pm23 an23 cd23 ct23,fun s v=>.of_eq rfl,fun base _ _=>?_⟩
 have o_first_of:=ok_first_of (P:=l.prog) (w:=w) (base:=base) F1 b1 (wM1 X G a1) B
 have o_sight_of:=ok_sight_of (P:=l.prog) (w:=w) (base:=base) F2 b2 (wM1 X G a2) B c_PARTS
 have o_handled:=ok_handled (P:=l.prog) (w:=w) (base:=base) F3 b3 (wM1 X G a3) B
 have o_stepped:=ok_stepped (P:=l.prog) (w:=w) (base:=base) F4 b4 (wM1 X G a4) B
 have o__law_hand:=ok__law_hand (P:=l.prog) (w:=w) (base:=base) F5 b5 (wM1 X G a5) B
 have o__law_take:=ok__law_take (P:=l.prog) (w:=w) (base:=base) F6 b6 (wM1 X G a6) B
 have o__law_far:=ok__law_far (P:=l.prog) (w:=w) (base:=base) F7 b7 (wM1 X G a7) B
 have o__law_sight:=ok__law_sight (P:=l.prog) (w:=w) (base:=base) F8 b8 (wM1 X G a8) B
 have o__law_chalked:=ok__law_chalked (P:=l.prog) (w:=w) (base:=base) F9 b9 (wM1 X G a9) B
 have o__law_renamed_web:=ok__law_renamed_web (P:=l.prog) (w:=w) (base:=base) F10 b10 (wM1 X G a10) B
 have o__law_renamed:=ok__law_renamed (P:=l.prog) (w:=w) (base:=base) F11 b11 (wM1 X G a11) B
 have o_deed_of:=ok_deed_of (P:=l.prog) (w:=w) (base:=base) F12 b12 (wM1 X G a12) B o_first_of
 have o_wants:=ok_wants (P:=l.prog) (w:=w) (base:=base) F13 b13 (wM1 X G a13) B o_sight_of
 have o_moved:=ok_moved (P:=l.prog) (w:=w) (base:=base) F14 b14 (wM1 X G a14) B o_handled o_stepped
 have o__law_tie:=ok__law_tie (P:=l.prog) (w:=w) (base:=base) F15 b15 (wM1 X G a15) B o__law_take
 have o__law_whole:=ok__law_whole (P:=l.prog) (w:=w) (base:=base) F16 b16 (wM1 X G a16) B o__law_take
 have o__law_some_eyes:=ok__law_some_eyes (P:=l.prog) (w:=w) (base:=base) F17 b17 (wM1 X G a17) B o__law_take
 have o__law_beat:=ok__law_beat (P:=l.prog) (w:=w) (base:=base) F18 b18 (wM1 X G a18) B o__law_chalked o__law_sight
 have o__law_deed:=ok__law_deed (P:=l.prog) (w:=w) (base:=base) F19 b19 (wM1 X G a19) B o__law_take
 have o__law_order:=ok__law_order (P:=l.prog) (w:=w) (base:=base) F20 b20 (wM1 X G a20) B o__law_take
 have o_beat:=ok_beat (P:=l.prog) (w:=w) (base:=base) F21 b21 (wM1 X G a21) B o_deed_of o_moved o_wants
 have o__law_web:=ok__law_web (P:=l.prog) (w:=w) (base:=base) F22 b22 (wM1 X G a22) B o__law_far o__law_take o__law_tie
 have o_law:=ok_law (P:=l.prog) (w:=w) (base:=base) F23 b23 (wM1 X G a23) B o__law_beat o__law_deed o__law_hand o__law_order o__law_renamed o__law_renamed_web o__law_sight o__law_some_eyes o__law_take o__law_web o__law_whole o_beat o_sight_of
 exact o_law
noncomputable def hnd (g m c:Int):Ob:=.lst [.int g,.int m,.int c]
noncomputable def mix1 (m c:Int):Int:=(m+65537*c*c+11)*48271%2305843009213693921
noncomputable def mix2 (m c:Int):Int:=mix1 m c*(mix1 m c%1000003+99991*c)%2305843009213693907
theorem atI0 {a b c:D}:atI [a,b,c] 0=some a:=by rfl
theorem atI1 {a b c:D}:atI [a,b,c] 1=some b:=by rfl
theorem atI2 {a b c:D}:atI [a,b,c] 2=some c:=by rfl
theorem take_a {T:Sto}{g m c k:Int}(hg:0<g)(hk:0<k)(hk2:k<1073741824):
  m__law_take [.ref 0,.int k] (hnd g m c::T)=some (.int (g%k),hnd (g/k) m c::T):=by
 simp [m__law_take,fnB,startD,b__law_take,mSeq,mIfS,mB,m2,b2,gCmp,mV,mC,gIxY,gIxX,gIx,seqOf,hnd,hg,hk,hk2,mAsg,gN,gMod,gDiv,gS,b3,gSetY,gSetX,gSetIx,mRet,atI0,ixN]
theorem take_b {T:Sto}{g m c k:Int}(hg:¬ 0<g)(hk:0<k)(hk2:k<1073741824)(hc:0<=c)(hc2:c<2^60):
  m__law_take [.ref 0,.int k] (hnd g m c::T)=some (.int ((mix2 m (c+1)/97+mix2 m (c+1)/1000033)%k),hnd g m (c+1)::T):=by
 have f1:mulFits 65537 (c+1)=true:=mulF1 (by decide) (by decide)
 have f2:mulFits (65537*(c+1)) (c+1)=true:=mulF2 (by omega) (by omega)
 have f3:mulFits (m+65537*(c+1)*(c+1)+11) 48271=true:=mulF2 (by decide) (by decide)
 have f4:mulFits 99991 (c+1)=true:=mulF1 (by decide) (by decide)
 have q:=Int.emod_lt_of_pos ((m+65537*(c+1)*(c+1)+11)*48271) (show (0:Int)<2305843009213693921 by decide)
 have q':=Int.emod_nonneg ((m+65537*(c+1)*(c+1)+11)*48271) (show (2305843009213693921:Int)≠0 by decide)
 have f5:mulFits ((m+65537*(c+1)*(c+1)+11)*48271%2305843009213693921) ((m+65537*(c+1)*(c+1)+11)*48271%2305843009213693921%1000003+99991*(c+1))=true:=mulF1 (by omega) (by omega)
 simp [m__law_take,fnB,startD,b__law_take,mSeq,mIfS,mB,m2,b2,gCmp,mV,mC,gIxY,gIxX,gIx,seqOf,hnd,hg,hk,hk2,mAsg,gN,gMod,gDiv,gS,b3,gSetY,gSetX,gSetIx,mRet,atI0,atI1,atI2,ixN,mNx,gAdd,gMul,f1,f2,f3,f4,f5,mix1,mix2]
noncomputable def Hnd (o:Ob)(n:Nat):Prop:=∃ g m c:Int,o=hnd g m c/\0<=c/\c<=n
theorem Hnd.und {o:Ob}{n k:Nat}(h:Hnd o n):o.und k=true:=by
 obtain ⟨g,m,c,rfl,_⟩:=h
 rfl
theorem Hnd.more {o:Ob}{n k:Nat}(h:Hnd o n)(hk:n<=k):Hnd o k:=by
 obtain ⟨g,m,c,e,h0,h1⟩:=h
 exact ⟨g,m,c,e,h0,by lia⟩
theorem take_W {o:Ob}{n:Nat}{k:Int}{T:Sto}{Q:D×Sto->Prop}(ho:Hnd o n)(hn:n<=2^50)(hk:0<k)(hk2:k<1073741824)
  (h:∀ (d:Nat) o',Hnd o' (n+1)->(d:Int)<k->Q (.int d,o'::T)):W (mCall 2 m__law_take [.ref 0,.int k] (o::T)) Q:=by
 obtain ⟨g,m,c,rfl,h0,h1⟩:=ho
 have call:∀ d o',m__law_take [.ref 0,.int k] (hnd g m c::T)=some (d,o'::T)->mCall 2 m__law_take [.ref 0,.int k] (hnd g m c::T)=some (d,o'::T):=fun d o e=>call_same e rfl (by simp [D.unds,D.und]) (by simp)
 by_cases hg:0<g
 ·have d0:=Int.emod_nonneg g (show k≠0 by lia)
  obtain ⟨d,e⟩:=Int.eq_ofNat_of_zero_le d0
  refine ⟨_,call _ _ (take_a hg hk hk2),?_⟩
  rw [e]
  exact h d _ ⟨_,_,_,rfl,h0,by lia⟩ (by rw [<- e];exact Int.emod_lt_of_pos _ hk)
 ·have d0:=Int.emod_nonneg (mix2 m (c+1)/97+mix2 m (c+1)/1000033) (show k≠0 by lia)
  obtain ⟨d,e⟩:=Int.eq_ofNat_of_zero_le d0
  refine ⟨_,call _ _ (take_b hg hk hk2 h0 (by lia)),?_⟩
  rw [e]
  exact h d _ ⟨_,_,_,rfl,by lia,by push_cast;lia⟩ (by rw [<- e];exact Int.emod_lt_of_pos _ hk)
theorem hand_ok (ns:List Int)(k:Int)(h0:0<=k)(hk:k<63):∃ o,mCall 2 m__law_hand [.rol (ns.map D.int),.int k] []=some (.ref 0,[o])/\Hnd o 0:=by
 have key:∃ g m,m__law_hand [.rol (ns.map D.int),.int k] []=some (.ref 0,[hnd g m 0]):=by
  have f0:mulFits (10^60) (10^30)=true:=by decide+kernel
  have f1:mulFits 7919 k=true:=mulF1 (by decide) (by decide)
  have f00:mulFits 0 0=true:=mulF1 (by decide) (by decide)
  have fI:∀ (x:Int) (b:Prop) [Decidable b],mulFits x (if b then 1 else 0)=true:=fun x b _=>by
   split
   ·exact mulF2 (by decide) (by decide)
   ·exact mulF2 (by decide) (by decide)
  have lt:gLt (.int k) (.int ns.length) []=some (.bl (decide (k<ns.length)),[]):=by rfl
  by_cases hl:k<ns.length
  ·have hat:atI (ns.map D.int) k=some (.int (ns[k.toNat]'(by lia))):=by
    unfold atI ixN
    rw [if_pos h0,if_pos (by simpa using hl)]
    simp [show k.toNat<ns.length by lia]
   generalize hx:ns[k.toNat]'(by lia)=x at hat
   simp [m__law_hand,fnB,startD,b__law_hand,mSeq,mIfS,mB,m2,b2,b1,mN,mCons,mNil,gCmp,mV,mC,gIxY,gIxX,gIx,gLen,seqOf,mAsg,gN,gMod,gMul,gAdd,gPow,gInt,mRet,mLst,lt,hl,hat,f1,fI,sizeLine,hnd,mNx]
   simp [show mulFits 1000000000000000000000000000000000000000000000000000000000000 1000000000000000000000000000000=true from f0,f1,fI]
  ·simp [m__law_hand,fnB,startD,b__law_hand,mSeq,mIfS,mB,m2,b2,b1,mN,mCons,mNil,gCmp,mV,mC,gIxY,gIxX,gIx,gLen,seqOf,mAsg,gN,gMod,gMul,gAdd,gPow,gInt,mRet,mLst,lt,hl,f1,fI,sizeLine,hnd,mNx]
   simp [show mulFits 1000000000000000000000000000000000000000000000000000000000000 1000000000000000000000000000000=true from f0,f00,f1,fI]
 obtain ⟨g,m,e⟩:=key
 refine ⟨hnd g m 0,?_,_,_,_,rfl,Int.le_refl _,Int.le_refl _⟩
 rw [call_new (n:=2) e rfl (by rw [D.unds,D.und,unds_ints];rfl) (by simp [D.und])]
 simp [D.sh,Ob.sh,D.shs,hnd]
noncomputable def ins (k:Nat)(e:Nat×Nat)(row:List (Nat×Nat)):List (Nat×Nat):=row.take k++e::row.drop k
theorem ins_len {k:Nat}{e:Nat×Nat}{row:List (Nat×Nat)}:(ins k e row).length=row.length+1:=by
 unfold ins
 rw [lA1,lC1,List.length_take,List.length_drop]
 lia
theorem mem_ins {k:Nat}{e x:Nat×Nat}{row:List (Nat×Nat)}:x∈ins k e row↔x=e\/x∈row:=by
 unfold ins
 rw [List.mem_append,List.mem_cons]
 conv=>rhs;rhs;rw [<- List.take_append_drop k row,List.mem_append]
 constructor
 ·rintro (h | h | h)
  ·exact .inr (.inl h)
  ·exact .inl h
  ·exact .inr (.inr h)
 ·rintro (h | h | h)
  ·exact .inr (.inl h)
  ·exact .inl h
  ·exact .inr (.inr h)
theorem ins_map {k:Nat}{e:Nat×Nat}{row:List (Nat×Nat)}:(row.map pD).take k++pD e::(row.map pD).drop k=(ins k e row).map pD:=by
 unfold ins
 rw [List.map_append,mP1,List.map_take,List.map_drop]
theorem W_ends {t m i:Nat}{T:Sto}{E:List (List (Nat×Nat))}{P:List (Nat×Nat)}{U:Sto}{o:Ob}{Q:D×Sto->Prop}(w:WS t m T E P U)(hi:i<m)(q:Q (.ref (t+i+1),o::U)):W (gIxY (.ref (t+m+1)) (.int i) (o::U)) Q:=
 W_ixL (xs:=refs (t+1) m) (x:=.ref (t+i+1)) (by rw [gC1];exact w.ends) (by rw [refs_at hi];congr 2;lia) q
theorem tie_W {t m a b n:Nat}{T:Sto}{E:List (List (Nat×Nat))}{P:List (Nat×Nat)}{U:Sto}{o:Ob}{Q:D×Sto->Prop}(w:WS t m T E P U)(ho:Hnd o n)(hn:n<=2^45)(ha:a<m)(hb:b<m){ra:List (Nat×Nat)}(hra:E[a]? = some ra)(la:ra.length<100)(lb:∀ rb,E[b]? = some rb->rb.length<100)(lP:P.length<500)
  (h:∀ k1 k2 rb o' U',Hnd o' (n+2)->(E.set a (ins k1 (P.length,0) ra))[b]? = some rb->WS t m T ((E.set a (ins k1 (P.length,0) ra)).set b (ins k2 (P.length,1) rb)) (P++[(a,b)]) U'->Q (.non,o'::U')):
  W (mCall 5 m__law_tie [.ref 0,.ref (t+m+1),.ref (t+m+2),.int a,.int b] (o::U)) Q:=by
 have key:W (m__law_tie [.ref 0,.ref (t+m+1),.ref (t+m+2),.int a,.int b] (o::U)) fun p=>p.2.length=(o::U).length/\Q p:=by
  unfold m__law_tie
  refine fnW ?_
  unfold b__law_tie
  refine seqW (fun r S=>∃ k1 o',Hnd o' (n+1)/\r=[some (.ref 0),some (.ref (t+m+1)),some (.ref (t+m+2)),some (.int a),some (.int b)]/\S=o'::U.set (t+a) (rowOb (ins k1 (P.length,0) ra))) ?_ ?_
  ·walk_at "own wq"
   refine W_mMt ?_
   walk_at "own wq"
   refine W_ends w ha ?_
   refine ⟨t+a+1,ra.map pD,rfl,by rw [gC1];exact w.row a ra hra,?_⟩
   walk_at "own wq"
   refine W_ends w ha ?_
   walk_at "own wq"
   refine sW_ref (xs:=ra.map pD) (by rw [gC1];exact w.row a ra hra) ?_
   walk_at "own wq"
   rw [lM1,show ((ra.length:Int)+1)=((ra.length+1:Nat):Int) by push_cast;rfl]
   refine take_W ho (by lia) (by lia) (by lia) fun k1 o1 ho1 hk1=>?_
   walk_at "own wq"
   refine sW_ref (xs:=P.map pD) (by rw [gC1];exact w.prs) ?_
   walk_at "own wq"
   rw [lM1]
   refine W_ins (xs:=ra.map pD) (v:=pD (P.length,0)) (k:=k1) (by rw [gC1];exact w.row a ra hra) (by rw [lM1];lia) (by rw [lM1];lia) ?_
   refine ⟨k1,o1,ho1,?_⟩
   rw [ins_map,List.set_cons_succ]
   rfl
  rintro r S ⟨k1,o1,ho1,rfl,rfl⟩
  have w1:=w.setRow (row:=ins k1 (P.length,0) ra) ha
  obtain ⟨rb,hrb⟩:∃ rb,(E.set a (ins k1 (P.length,0) ra))[b]? = some rb:=by
   have:b<(E.set a (ins k1 (P.length,0) ra)).length:=by rw [w1.el];exact hb
   exact ⟨_,gG1 this⟩
  have lb':rb.length<200:=by
   by_cases e:a=b
   ·subst e
    rw [List.getElem?_set_self (by rw [w.el];exact ha)] at hrb
    cases hrb
    rw [ins_len];lia
   ·rw [gS1 e] at hrb
    have:=lb rb hrb
    lia
  refine seqW (fun r S=>∃ k2 o',Hnd o' (n+2)/\r=[some (.ref 0),some (.ref (t+m+1)),some (.ref (t+m+2)),some (.int a),some (.int b)]/\S=o'::(U.set (t+a) (rowOb (ins k1 (P.length,0) ra))).set (t+b) (rowOb (ins k2 (P.length,1) rb))) ?_ ?_
  ·walk_at "own wq"
   refine W_mMt ?_
   walk_at "own wq"
   refine W_ends w1 hb ?_
   refine ⟨t+b+1,rb.map pD,rfl,by rw [gC1];exact w1.row b rb hrb,?_⟩
   walk_at "own wq"
   refine W_ends w1 hb ?_
   walk_at "own wq"
   refine sW_ref (xs:=rb.map pD) (by rw [gC1];exact w1.row b rb hrb) ?_
   walk_at "own wq"
   rw [lM1,show ((rb.length:Int)+1)=((rb.length+1:Nat):Int) by push_cast;rfl]
   refine take_W ho1 (by lia) (by lia) (by lia) fun k2 o2 ho2 hk2=>?_
   walk_at "own wq"
   refine sW_ref (xs:=P.map pD) (by rw [gC1];exact w1.prs) ?_
   walk_at "own wq"
   rw [lM1]
   refine W_ins (xs:=rb.map pD) (v:=pD (P.length,1)) (k:=k2) (by rw [gC1];exact w1.row b rb hrb) (by rw [lM1];lia) (by rw [lM1];lia) ?_
   refine ⟨k2,o2,ho2,?_⟩
   rw [ins_map,List.set_cons_succ]
   rfl
  rintro r S ⟨k2,o2,ho2,rfl,rfl⟩
  have w2:=w1.setRow (row:=ins k2 (P.length,1) rb) hb
  walk_at "own wq"
  refine W_mMt ?_
  walk_at "own wq"
  refine ⟨t+m+2,P.map pD,rfl,by rw [gC1];exact w2.prs,?_⟩
  try walk_at "own wq"
  rw [W_app (xs:=P.map pD) (by rw [gC1];exact w2.prs)]
  refine ⟨fits_le (by rw [lM1];lia),?_,?_⟩
  ·simp
  ·have w3:=w2.setPrs (P':=P++[(a,b)])
   rw [List.set_cons_succ]
   have e:P.map pD++[D.tup [D.int ↑a,D.int ↑b]]=(P++[(a,b)]).map pD:=by simp [pD]
   rw [e]
   exact h k1 k2 rb o2 _ ho2 hrb w3
 obtain ⟨⟨d,S1⟩,e,hl,q⟩:=key
 exact ⟨_,call_same e rfl rfl hl,q⟩
noncomputable abbrev Rows2:=List (List (Nat×Nat))
structure WI (m:Nat)(E:Rows2)(P:List (Nat×Nat)):Prop where
 len:E.length=m
 pr:∀ (i:Nat) (p:Nat×Nat),P[i]? = some p->(∃ r0,E[p.1]? = some r0/\(i,0)∈r0) /\ ∃ r1,E[p.2]? = some r1/\(i,1)∈r1
 en:∀ (i:Nat) (row:List (Nat×Nat)),E[i]? = some row -> ∀ e∈row,e.1<P.length/\e.2<=1
 le:∀ (i:Nat) (row:List (Nat×Nat)),E[i]? = some row->row.length<=4
 tt:tot E=2*P.length
theorem set_up {E:Rows2}{i k:Nat}{e:Nat×Nat}{row:List (Nat×Nat)}(h:E[i]? = some row){j:Nat}{r:List (Nat×Nat)}(hj:E[j]? = some r):∃ r',(E.set i (ins k e row))[j]? = some r' /\ ∀ x∈r,x∈r':=by
 by_cases z:i=j
 ·subst z
  rw [h] at hj;cases hj
  exact ⟨_,List.getElem?_set_self (gE1.mp h).1,fun x hx=>mem_ins.mpr (.inr hx)⟩
 ·exact ⟨r,by rw [gS1 z];exact hj,fun x hx=>hx⟩
theorem set_down {E:Rows2}{i k:Nat}{e:Nat×Nat}{row:List (Nat×Nat)}(h:E[i]? = some row){j:Nat}{r':List (Nat×Nat)}(hj:(E.set i (ins k e row))[j]? = some r'):(i=j/\r'=ins k e row)\/(i≠j/\E[j]? = some r'):=by
 by_cases z:i=j
 ·subst z
  rw [List.getElem?_set_self (gE1.mp h).1] at hj
  cases hj
  exact .inl ⟨rfl,rfl⟩
 ·rw [gS1 z] at hj
  exact .inr ⟨z,hj⟩
theorem WI.tie {m a b k1 k2:Nat}{E:Rows2}{P:List (Nat×Nat)}{ra rb:List (Nat×Nat)}(w:WI m E P)(ha:E[a]? = some ra)(la:ra.length<4)(hb:(E.set a (ins k1 (P.length,0) ra))[b]? = some rb)(lb:rb.length<4):
  WI m ((E.set a (ins k1 (P.length,0) ra)).set b (ins k2 (P.length,1) rb)) (P++[(a,b)]):=by
 have a1:(E.set a (ins k1 (P.length,0) ra))[a]? = some (ins k1 (P.length,0) ra):=List.getElem?_set_self (gE1.mp ha).1
 refine ⟨by rw [List.length_set,List.length_set];exact w.len,fun i p hp=>?_,fun j row hj e he=>?_,fun j row hj=>?_,?_⟩
 ·by_cases hi:i<P.length
  ·rw [gL1 hi] at hp
   obtain ⟨⟨r0,h0,m0⟩,r1,h1,m1⟩:=w.pr i p hp
   obtain ⟨r0',h0',u0⟩:=set_up (k:=k1) (e:=(P.length,0)) ha h0
   obtain ⟨r0'',h0'',u0'⟩:=set_up (k:=k2) (e:=(P.length,1)) hb h0'
   obtain ⟨r1',h1',u1⟩:=set_up (k:=k1) (e:=(P.length,0)) ha h1
   obtain ⟨r1'',h1'',u1'⟩:=set_up (k:=k2) (e:=(P.length,1)) hb h1'
   exact ⟨⟨r0'',h0'',u0' _ (u0 _ m0)⟩,r1'',h1'',u1' _ (u1 _ m1)⟩
  ·have hi2:i=P.length:=by
    have:=(gE1.mp hp).1
    simp at this;lia
   subst hi2
   rw [List.getElem?_concat_length] at hp
   cases hp
   obtain ⟨r0',h0',u0⟩:=set_up (k:=k2) (e:=(P.length,1)) hb a1
   exact ⟨⟨r0',h0',u0 _ (mem_ins.mpr (.inl rfl))⟩,_,List.getElem?_set_self (gE1.mp hb).1,mem_ins.mpr (.inl rfl)⟩
 ·rw [lA1,List.length_singleton]
  have old:∀ (j:Nat) (row:List (Nat×Nat)),(E.set a (ins k1 (P.length,0) ra))[j]? = some row -> ∀ e∈row,e.1<P.length+1/\e.2<=1:=fun j row hj e he=>by
   rcases set_down ha hj with ⟨_,rfl⟩ | ⟨_,hj⟩
   ·rcases mem_ins.mp he with rfl | he
    ·exact ⟨by simp,by simp⟩
    ·have:=w.en a ra ha e he;exact ⟨by lia,this.2⟩
   ·have:=w.en j row hj e he;exact ⟨by lia,this.2⟩
  rcases set_down hb hj with ⟨_,rfl⟩ | ⟨_,hj⟩
  ·rcases mem_ins.mp he with rfl | he
   ·exact ⟨by simp,by simp⟩
   ·exact old b rb hb e he
  ·exact old j row hj e he
 ·rcases set_down hb hj with ⟨_,rfl⟩ | ⟨_,hj⟩
  ·rw [ins_len];lia
  ·rcases set_down ha hj with ⟨_,rfl⟩ | ⟨_,hj⟩
   ·rw [ins_len];lia
   ·exact w.le j row hj
 ·have t1:=tot_set (row':=ins k1 (P.length,0) ra) ha
  have t2:=tot_set (row':=ins k2 (P.length,1) rb) hb
  have:=w.tt
  rw [ins_len] at t1 t2
  rw [lA1,List.length_singleton]
  lia
noncomputable def webD (w:Rows2):D:=.tup (w.map fun row=>.tup (row.map pD))
structure WebOk (m:Nat)(w:Rows2):Prop where
 len:w.length=m
 le:∀ row∈w,row.length<=4
 to:∀ row∈w,∀ e∈row,∃ r,w[e.1]? = some r/\e.2<r.length
theorem webD_und (w:Rows2):(webD w).und 0=true:=by
 unfold webD
 rw [D.und]
 exact unds_map fun row _=>by rw [D.und];exact unds_map fun _ _=>rfl
noncomputable def far (E:Rows2)(P:List (Nat×Nat))(e:Nat×Nat):Nat×Nat:=
 let p:=P.getD e.1 (0,0)
 let room:=if e.2=0 then p.2 else p.1
 (room,((E.getD room []).findIdx? (· == (e.1,1-e.2))).getD 0)
theorem far_ok {m:Nat}{E:Rows2}{P:List (Nat×Nat)}(w:WI m E P){i:Nat}{row:List (Nat×Nat)}(hr:E[i]? = some row){e:Nat×Nat}(he:e∈row):
  ∃ p room r j,P[e.1]? = some p/\e.2<=1/\room=(if e.2=0 then p.2 else p.1)/\E[room]? = some r/\r.findIdx? (· == (e.1,1-e.2))=some j/\j<r.length/\far E P e=(room,j):=by
 obtain ⟨h1,h2⟩:=w.en i row hr e he
 obtain ⟨p,hp⟩:∃ p,P[e.1]? = some p:=⟨_,gG1 h1⟩
 obtain ⟨⟨r0,e0,m0⟩,r1,e1,m1⟩:=w.pr _ p hp
 have find:∀ (r:List (Nat×Nat)) (x:Nat×Nat),x∈r -> ∃ j,r.findIdx? (· == x)=some j/\j<r.length:=fun r x hx=>by
  cases h:r.findIdx? (· == x) with
  | none=>
   rw [List.findIdx?_eq_none_iff] at h
   have:=h x hx
   simp at this
  | some j=>exact ⟨j,rfl,(List.findIdx?_eq_some_iff_getElem.mp h).1⟩
 by_cases hz:e.2=0
 ·obtain ⟨j,hj,hl⟩:=find r1 (e.1,1) m1
  refine ⟨p,p.2,r1,j,hp,h2,by rw [if_pos hz],e1,by rw [hz];exact hj,hl,?_⟩
  simp [far,List.getD_eq_getElem?_getD,hp,e1,hz,hj]
 ·have h1':e.2=1:=by lia
  obtain ⟨j,hj,hl⟩:=find r0 (e.1,0) m0
  refine ⟨p,p.1,r0,j,hp,h2,by rw [if_neg hz],e0,by rw [h1'];exact hj,hl,?_⟩
  simp [far,List.getD_eq_getElem?_getD,hp,e0,h1',hj]
theorem web_ok {m:Nat}{E:Rows2}{P:List (Nat×Nat)}(w:WI m E P):WebOk m (E.map fun row=>row.map (far E P)):=by
 refine ⟨by rw [lM1];exact w.len,?_,?_⟩
 ·intro row hr
  obtain ⟨r,hr',rfl⟩:=List.mem_map.mp hr
  obtain ⟨i,hi⟩:=List.getElem?_of_mem hr'
  rw [lM1]
  exact w.le i r hi
 ·intro row hr e he
  obtain ⟨r,hr',rfl⟩:=List.mem_map.mp hr
  obtain ⟨i,hi⟩:=List.getElem?_of_mem hr'
  obtain ⟨x,hx,rfl⟩:=List.mem_map.mp he
  obtain ⟨p,room,r',j,_,_,_,h4,h5,h6,h7⟩:=far_ok w hi hx
  rw [h7]
  exact ⟨r'.map (far E P),by rw [gP1,h4];rfl,by rw [lM1];exact h6⟩
theorem refs_snoc:∀ (k n:Nat),refs n (k+1)=refs n k++[.ref (n+k)]
 | 0,n=>rfl
 | k+1,n=>by
  rw [refs,refs_snoc k (n+1),refs,List.cons_append,show n+1+k=n+(k+1) by lia]
theorem ws_start {t m:Nat}{T:Sto}(tl:T.length=t):WS t m T (List.replicate m []) [] (T++(List.replicate m (.lst [])++[.lst (refs (t+1) m),.lst []])):=by
 refine ⟨tl,by rw [<- tl,List.take_left],by simp,fun i row h=>?_,?_,?_⟩
 ·have hi:i<m:=by have:=(gE1.mp h).1;simpa using this
  rw [List.getElem?_replicate,if_pos hi] at h
  cases h
  rw [<- tl,get_app,gL1 (by simpa using hi),List.getElem?_replicate,if_pos hi]
  rfl
 ·rw [<- tl,get_app,gR1 (by simp)]
  simp
 ·rw [<- tl,Nat.add_assoc,get_app,gR1 (by simp)]
  simp
theorem wi_start (m:Nat):WI m (List.replicate m []) []:=by
 refine ⟨by simp,fun i p h=>by simp at h,fun i row h=>?_,fun i row h=>?_,by simp [tot]⟩
 ·rw [List.getElem?_replicate] at h
  split at h
  ·cases h;intro e he;simp at he
  ·cases h
 ·rw [List.getElem?_replicate] at h
  split at h
  ·cases h;simp
  ·cases h
theorem tree_W {t m i n:Nat}{T U:Sto}{E:Rows2}{P:List (Nat×Nat)}{o:Ob}{x6:Option D}{Q:Fl×Ev×Sto->Prop}(w:WS t m T E P U)(v:WI m E P)(ho:Hnd o n)(hn:n<=2^44)(hP:P.length=i)(hi:i+1<m)(hm:m<=8)
  (he:∀ j row,i+1<=j->E[j]? = some row->row=[])
  (h:∀ E' P' o' U' x6',WS t m T E' P' U'->WI m E' P'->Hnd o' (n+3)->P'.length=i+1->(∀ j row,i+2<=j->E'[j]? = some row->row=[]) ->
   Q (.nx,[some (.ref 0),some (.int 8),some (.int m),some (.ref (t+m+1)),some (.ref (t+m+2)),some (.int ((i+1:Nat):Int)),x6',none,none,none],o'::U')):
  W (p__law_web_1 [some (.ref 0),some (.int 8),some (.int m),some (.ref (t+m+1)),some (.ref (t+m+2)),some (.int ((i+1:Nat):Int)),x6,none,none,none] (o::U)) Q:=by
 have rowAt:∀ j,j<m -> ∃ row,E[j]? = some row:=fun j hj=>⟨_,gG1 (by rw [v.len];exact hj)⟩
 let k:Nat->Bool:=fun j=>decide ((E.getD j []).length<4)
 unfold p__law_web_1
 walk_at "own wq"
 rw [nums0,Int.toNat_natCast]
 refine ⟨bnd_nat (by lia),?_⟩
 refine filterW k (fun j:Nat=>.int j) (fun r=>∃ x,r=[x,some (.ref (t+m+1))]) rfl (List.range (i+1)) _ ⟨_,rfl⟩ ?_ ?_
 ·rintro j hj r ⟨x,rfl⟩
  have hj':j<m:=by have:=List.mem_range.mp hj;lia
  obtain ⟨row,hrow⟩:=rowAt j hj'
  walk_at "own wq"
  refine W_ends w hj' ?_
  walk_at "own wq"
  refine sW_ref (xs:=row.map pD) (by rw [gC1];exact w.row j row hrow) ?_
  walk_at "own wq"
  refine ⟨?_,⟨_,rfl⟩,fun _=>trivial⟩
  simp only [k,List.getD_eq_getElem?_getD,hrow,Option.getD_some,lM1]
  rw [Bool.eq_iff_iff,decide_eq_true_eq,decide_eq_true_eq]
  lia
 ·rintro r' _
  walk_at "own wq"
  have hne:(List.range (i+1)).filter k≠[]:=by
   intro z
   have all4:∀ j row,j<i+1->E[j]? = some row->4<=row.length:=fun j row hj hr=>by
    have:=List.filter_eq_nil_iff.mp z j (List.mem_range.mpr hj)
    simp only [k,List.getD_eq_getElem?_getD,hr,Option.getD_some,decide_eq_true_eq] at this
    lia
   have:=tot_ge (E:=E) (k:=i+1) (by rw [v.len];lia) all4
   have:=v.tt
   lia
  generalize hL:(List.range (i+1)).filter k=L at hne
  have hLm:∀ j∈L,j<i+1/\k j=true:=fun j hj=>by
   rw [<- hL,List.mem_filter] at hj
   exact ⟨List.mem_range.mp hj.1,hj.2⟩
  have hLl:L.length<=8:=by
   rw [<- hL]
   have:=List.length_filter_le k (List.range (i+1))
   simp at this
   lia
  refine ⟨fits_le (by rw [lM1];lia),?_⟩
  refine sW_ref (xs:=L.map fun j:Nat=>D.int j) (by rw [gC1,get_app0];rfl) ?_
  walk_at "own wq"
  rw [lM1]
  have hL0:0<L.length:=List.length_pos_iff.mpr hne
  refine take_W ho (by lia) (by lia) (by lia) fun d o1 ho1 hd=>?_
  have hd':d<L.length:=by lia
  refine W_ixL (i:=d) (xs:=L.map fun j:Nat=>D.int j) (x:=.int (L[d]:Nat)) (by rw [gC1,get_app0];rfl) (by rw [gP1,gG1 hd'];rfl) ?_
  generalize hj:L[d]=j
  obtain ⟨hj1,hj2⟩:=hLm j (by rw [<- hj];exact List.getElem_mem hd')
  obtain ⟨row,hrow⟩:=rowAt j (by lia)
  have hrl:row.length<4:=by
   simp only [k,List.getD_eq_getElem?_getD,hrow,Option.getD_some,decide_eq_true_eq] at hj2
   exact hj2
  obtain ⟨rb,hrb⟩:=rowAt (i+1) hi
  have hrb0:=he (i+1) rb (nR1 _) hrb
  subst hrb0
  walk_at "own wq"
  refine tie_W (a:=j) (b:=i+1) (w.app (G:=[Ob.lst (L.map fun j:Nat=>D.int j)])) ho1 (by lia) (by lia) hi hrow (by lia) (fun rb hb=>by rw [hrb] at hb;cases hb;simp) (by lia) fun k1 k2 rb o2 U2 ho2 hrb2 w2=>?_
  have hne2:j≠i+1:=by lia
  have hrb3:rb=[]:=by
   rw [gS1 hne2,hrb] at hrb2
   cases hrb2;rfl
  walk_at "own wq"
  refine h _ _ o2 U2 _ w2 (v.tie hrow hrl hrb2 (by rw [hrb3];simp)) (ho2.more (by lia)) (by simp [hP]) fun j' row' hj' hr'=>?_
  rw [gS1 (by lia),gS1 (by lia)] at hr'
  exact he j' row' (by lia) hr'
theorem more_W {t m n:Nat}{T U:Sto}{E:Rows2}{P:List (Nat×Nat)}{o:Ob}{x5 x6 x7 x8 x9:Option D}{Q:Fl×Ev×Sto->Prop}(w:WS t m T E P U)(v:WI m E P)(ho:Hnd o n)(hn:n<=2^44)(hP:P.length<100)(hm0:0<m)(hm:m<=8)
  (h:∀ E' P' o' U' x8' x9',WS t m T E' P' U'->WI m E' P'->Hnd o' (n+4)->P'.length<=P.length+1 ->
   Q (.nx,[some (.ref 0),some (.int 8),some (.int m),some (.ref (t+m+1)),some (.ref (t+m+2)),x5,x6,x7,x8',x9'],o'::U')):
  W (p__law_web_2 [some (.ref 0),some (.int 8),some (.int m),some (.ref (t+m+1)),some (.ref (t+m+2)),x5,x6,x7,x8,x9] (o::U)) Q:=by
 have rowAt:∀ j,j<m -> ∃ row,E[j]? = some row:=fun j hj=>⟨_,gG1 (by rw [v.len];exact hj)⟩
 unfold p__law_web_2
 walk_at "own wq"
 refine take_W ho (by lia) (by lia) (by lia) fun a o1 ho1 ha=>?_
 walk_at "own wq"
 refine take_W ho1 (by lia) (by lia) (by lia) fun b o2 ho2 hb=>?_
 obtain ⟨ra,hra⟩:=rowAt a (by lia)
 obtain ⟨rb,hrb⟩:=rowAt b (by lia)
 walk_at "own wq"
 refine W_ends w (by lia) ?_
 walk_at "own wq"
 refine sW_ref (xs:=ra.map pD) (by rw [gC1];exact w.row a ra hra) ?_
 walk_at "own wq"
 rw [lM1]
 have skip:Q (.nx,[some (.ref 0),some (.int 8),some (.int m),some (.ref (t+m+1)),some (.ref (t+m+2)),x5,x6,x7,some (.int a),some (.int b)],o2::U):=
  h E P o2 U _ _ w v (ho2.more (by lia)) (by lia)
 split
 ·rename_i hla
  rw [decide_eq_true_eq] at hla
  refine W_ends w (by lia) ?_
  walk_at "own wq"
  refine sW_ref (xs:=rb.map pD) (by rw [gC1];exact w.row b rb hrb) ?_
  walk_at "own wq"
  rw [lM1]
  have e1:((a:Int) == (b:Int))=decide (a=b):=by
   rw [Bool.eq_iff_iff,beq_iff_eq,decide_eq_true_eq];lia
  rw [e1]
  by_cases hab:a=b
  ·subst hab
   rw [hra] at hrb;cases hrb
   walk_at "own wq"
   split
   ·rename_i hlb
    simp at hlb
    refine tie_W w ho2 (by lia) (by lia) (by lia) hra (by lia) (fun rb hb=>by rw [hra] at hb;cases hb;lia) (by lia) fun k1 k2 rb o3 U3 ho3 hrb3 w3=>?_
    have hl:rb.length<4:=by
     rw [List.getElem?_set_self (by rw [v.len];lia)] at hrb3
     cases hrb3
     rw [ins_len];lia
    exact h _ _ o3 U3 _ _ w3 (v.tie hra (by lia) hrb3 hl) (ho3.more (by lia)) (by simp)
   ·exact skip
  ·simp only [decide_eq_false hab]
   walk_at "own wq"
   split
   ·rename_i hlb
    simp at hlb
    refine tie_W w ho2 (by lia) (by lia) (by lia) hra (by lia) (fun rb' hb=>by rw [hrb] at hb;cases hb;lia) (by lia) fun k1 k2 rb' o3 U3 ho3 hrb3 w3=>?_
    have hl:rb'.length<4:=by
     rw [gS1 hab,hrb] at hrb3
     cases hrb3
     lia
    exact h _ _ o3 U3 _ _ w3 (v.tie hra (by lia) hrb3 hl) (ho3.more (by lia)) (by simp)
   ·exact skip
 ·try walk_at "own wq"
  exact skip
theorem far_W {t m i:Nat}{T U:Sto}{E:Rows2}{P:List (Nat×Nat)}{o:Ob}{row:List (Nat×Nat)}{e:Nat×Nat}{Q:D×Sto->Prop}(w:WS t m T E P U)(v:WI m E P)(hr:E[i]? = some row)(he:e∈row)(q:Q (pD (far E P e),o::U)):
  W (mCall 3 m__law_far [.ref (t+m+1),.ref (t+m+2),pD e] (o::U)) Q:=by
 obtain ⟨p,room,r,j,h1,h2,h3,h4,h5,h6,h7⟩:=far_ok v hr he
 have key:W (m__law_far [.ref (t+m+1),.ref (t+m+2),pD e] (o::U)) fun p=>p.2=o::U/\Q p:=by
  unfold m__law_far
  refine fnW ?_
  unfold b__law_far
  have hroom:room<m:=by rw [<- v.len];exact (gE1.mp h4).1
  have i0:∀ Q:D×Sto->Prop,Q (.int e.1,o::U)->W (gIxY (pD e) (.int 0) (o::U)) Q:=fun Q q=>W_ixT (i:=0) rfl q
  have i1:∀ Q:D×Sto->Prop,Q (.int e.2,o::U)->W (gIxY (pD e) (.int 1) (o::U)) Q:=fun Q q=>W_ixT (i:=1) rfl q
  have e1:((1:Int)-(e.2:Int))=((1-e.2:Nat):Int):=by lia
  walk_at "own wq"
  refine i0 _ ?_
  refine W_ixL (i:=e.1) (xs:=P.map pD) (x:=pD p) (by rw [gC1];exact w.prs) (by rw [gP1,h1];rfl) ?_
  refine i1 _ ?_
  walk_at "own wq"
  rw [e1]
  refine W_ixT (i:=1-e.2) (x:=.int room) ?_ ?_
  ·rw [h3]
   by_cases hz:e.2=0
   ·rw [hz,if_pos rfl];rfl
   ·rw [if_neg hz,show e.2=1 by lia];rfl
  walk_at "own wq"
  refine W_mMt ?_
  walk_at "own wq"
  refine W_ends w hroom ?_
  refine ⟨t+room+1,r.map pD,rfl,by rw [gC1];exact w.row room r h4,?_⟩
  walk_at "own wq"
  refine i0 _ ?_
  refine i1 _ ?_
  walk_at "own wq"
  rw [e1]
  refine W_idxP (e:=(e.1,1-e.2)) (row:=r) (j:=j) (by rw [gC1];exact w.row room r h4) (by have:=v.le room r h4;lia) h5 ?_
  refine ⟨rfl,?_⟩
  rw [h7] at q
  exact q
 obtain ⟨⟨d,S1⟩,ek,hs,qk⟩:=key
 dsimp only at hs
 subst hs
 exact ⟨_,call_same ek rfl rfl rfl,qk⟩
theorem web_W {o:Ob}{n:Nat}{T:Sto}{Q:D×Sto->Prop}(ho:Hnd o n)(hn:n<=2^40)(hT:T.all (Ob.und (T.length+1))=true)
  (h:∀ m w o',0<m->m<=8->WebOk m w->Hnd o' (n+100)->Q (webD w,o'::T)):W (mCall 2 m__law_web [.ref 0,.int 8] (o::T)) Q:=by
 refine callH rfl rfl hT ?_
 unfold m__law_web
 refine fnW ?_
 unfold b__law_web
 generalize ht:T.length=t
 refine seqW (fun r S=>∃ (m:Nat) (o1:Ob),0<m/\m<=8/\Hnd o1 (n+1)/\r=[some (.ref 0),some (.int 8),some (.int m),none,none,none,none,none,none,none]/\S=o1::T) ?_ ?_
 ·walk_at "own wq"
  refine take_W ho (by lia) (by lia) (by lia) fun c o1 ho1 hc=>?_
  walk_at "own wq"
  exact ⟨c+1,o1,by lia,by lia,ho1,by simp [Int.add_comm],rfl⟩
 rintro r S ⟨m,o1,hm0,hm,ho1,rfl,rfl⟩
 refine seqW (fun r S=>∃ U,WS t m T (List.replicate m []) [] U/\r=[some (.ref 0),some (.int 8),some (.int m),some (.ref (t+m+1)),some (.ref (t+m+2)),none,none,none,none,none]/\S=o1::U) ?_ ?_
 ·walk_at "own wq"
  refine ⟨bnd_nat (by lia),?_⟩
  rw [Int.toNat_natCast]
  refine loopF_W (fun i acc r S=>acc=refs (t+1) i/\S=o1::(T++List.replicate i (.lst [])) /\ ∃ x,r=[x]) (nums 0 m) 0 [] _ _ ⟨rfl,by simp,_,rfl⟩ (fun _ _ _ _ _=>rfl) ?_ ?_
  ·rintro i d hd acc r S ⟨rfl,rfl,x,rfl⟩
   walk_at "own wq"
   rw [Nat.zero_add]
   refine ⟨?_,?_,_,rfl⟩
   ·rw [refs_snoc,ht,lR1]
    congr 3
    lia
   ·rw [List.replicate_succ']
  ·rintro xs r S ⟨e,rfl,_⟩
   rw [List.nil_append,Nat.zero_add,nums_len] at e
   subst e
   rw [Nat.zero_add,nums_len]
   walk_at "own wq"
   rw [refs_len]
   refine ⟨fits_le (by lia),_,ws_start ht,?_,rfl⟩
   simp [ht]
 rintro r S ⟨U0,w0,rfl,rfl⟩
 refine seqW (fun r S=>∃ E P o2 U x5 x6,WS t m T E P U/\WI m E P/\P.length<=8/\Hnd o2 (n+40)/\r=[some (.ref 0),some (.int 8),some (.int m),some (.ref (t+m+1)),some (.ref (t+m+2)),x5,x6,none,none,none]/\S=o2::U) ?_ ?_
 ·walk_at "own wq"
  refine ⟨bnd_of (by decide) (by decide),bnd_nat (by lia),?_⟩
  refine loopM_W (fun i r S=>i<=m-1 /\ ∃ E P o2 U x5 x6,WS t m T E P U/\WI m E P/\P.length=i/\(∀ j row,i+1<=j->E[j]? = some row->row=[])/\Hnd o2 (n+1+3*i)/\r=[some (.ref 0),some (.int 8),some (.int m),some (.ref (t+m+1)),some (.ref (t+m+2)),x5,x6,none,none,none]/\S=o2::U) _ 0 _ _ ?_ (fun _ _ _ _=>rfl) ?_ ?_
  ·refine ⟨by lia,_,_,o1,U0,none,none,w0,wi_start m,rfl,fun j row _ hr=>?_,ho1,rfl,rfl⟩
   rw [List.getElem?_replicate] at hr
   split at hr
   ·cases hr;rfl
   ·cases hr
  ·rintro i d hd r S ⟨hi,E,P,o2,U,x5,x6,w,v,hP,he,ho2,rfl,rfl⟩
   have hlen:=(gE1.mp hd).1
   rw [nums_len] at hlen
   have hd':d = .int ((i+1:Nat):Int):=by
    rw [nums_eq,gP1,List.getElem?_range hlen] at hd
    simp at hd
    rw [<- hd]
    push_cast
    congr 1
    lia
   subst hd'
   rw [Nat.zero_add] at *
   walk_at "own wq"
   refine tree_W w v ho2 (by lia) hP (by lia) hm he fun E' P' o' U' x6' w' v' ho' hP' he'=>?_
   exact ⟨rfl,by lia,E',P',o',U',_,_,w',v',hP',he',ho'.more (by lia),rfl,rfl⟩
  ·rintro r S ⟨hi,E,P,o2,U,x5,x6,w,v,hP,he,ho2,rfl,rfl⟩
   exact ⟨rfl,E,P,o2,U,x5,x6,w,v,by lia,ho2.more (by lia),rfl,rfl⟩
 rintro r S ⟨E,P,o2,U,x5,x6,w,v,hP,ho2,rfl,rfl⟩
 refine seqW (fun r S=>∃ E P o2 U x5 x6 x7 x8 x9,WS t m T E P U/\WI m E P/\Hnd o2 (n+100)/\r=[some (.ref 0),some (.int 8),some (.int m),some (.ref (t+m+1)),some (.ref (t+m+2)),x5,x6,x7,x8,x9]/\S=o2::U) ?_ ?_
 ·walk_at "own wq"
  refine take_W ho2 (by lia) (by lia) (by lia) fun c o3 ho3 hc=>?_
  walk_at "own wq"
  refine ⟨bnd_nat (by lia),?_⟩
  rw [Int.toNat_natCast]
  refine loopM_W (fun i r S=>i<=c /\ ∃ E P o2 U x5 x6 x7 x8 x9,WS t m T E P U/\WI m E P/\P.length<=8+i/\Hnd o2 (n+41+4*i)/\r=[some (.ref 0),some (.int 8),some (.int m),some (.ref (t+m+1)),some (.ref (t+m+2)),x5,x6,x7,x8,x9]/\S=o2::U) _ 0 _ _ ⟨by lia,E,P,o3,U,x5,x6,none,none,none,w,v,by lia,ho3,rfl,rfl⟩ (fun _ _ _ _=>rfl) ?_ ?_
  ·rintro i d hd r S ⟨hi,E,P,o2,U,x5,x6,x7,x8,x9,w,v,hP,ho2,rfl,rfl⟩
   have hlen:=(gE1.mp hd).1
   rw [nums_len] at hlen
   rw [Nat.zero_add] at *
   walk_at "own wq"
   refine more_W w v ho2 (by lia) (by lia) hm0 hm fun E' P' o' U' x8' x9' w' v' ho' hP'=>?_
   exact ⟨rfl,by lia,E',P',o',U',_,_,_,_,_,w',v',by lia,ho'.more (by lia),rfl,rfl⟩
  ·rintro r S ⟨hi,E,P,o2,U,x5,x6,x7,x8,x9,w,v,hP,ho2,rfl,rfl⟩
   rw [nums_len,Nat.zero_add] at ho2
   exact ⟨rfl,E,P,o2,U,_,_,_,_,_,w,v,ho2.more (by lia),rfl,rfl⟩
 rintro r S ⟨E,P,o2,U,x5,x6,x7,x8,x9,w,v,ho2,rfl,rfl⟩
 walk_at "own wq"
 refine sW_ref (S:=o2::U) (xs:=refs (t+1) m) (by rw [gC1];exact w.ends) ?_
 have rowAt:∀ j,j<m -> ∃ row,E[j]? = some row:=fun j hj=>⟨_,gG1 (by rw [v.len];exact hj)⟩
 refine loopF_W (fun i acc r S=>∃ G x,S=o2::(U++G)/\r=[x,some (.ref (t+m+1)),some (.ref (t+m+2))]/\acc=((E.take i).map fun row=>.tup ((row.map (far E P)).map pD))) (refs (t+1) m) 0 [] _ _ ⟨[],none,by simp,rfl,rfl⟩ ?_ ?_ ?_
 ·rintro i acc r S ⟨G,x,rfl,_⟩
  exact okC_one (by rw [gC1];exact (w.app (G:=G)).ends)
 ·rintro i d hd acc r S ⟨G,x,rfl,rfl,rfl⟩
  have hi:=(gE1.mp hd).1
  rw [refs_len] at hi
  rw [refs_at hi] at hd
  cases hd
  obtain ⟨row,hrow⟩:=rowAt i hi
  have w':=w.app (G:=G)
  walk_at "own wq"
  refine sW_ref (S:=o2::(U++G)) (xs:=row.map pD) (by rw [show t+1+i=t+i+1 by lia,gC1];exact w'.row i row hrow) ?_
  refine mapW (fun e=>pD (far E P e)) (fun r=>∃ x,r=[x,some (.ref (t+m+1)),some (.ref (t+m+2))]) (okC_one (by rw [show t+1+i=t+i+1 by lia,gC1];exact w'.row i row hrow)) row _ ⟨_,rfl⟩ ?_ ?_
  ·rintro e he r ⟨x,rfl⟩
   walk_at "own wq"
   refine far_W w' v hrow he ?_
   exact ⟨rfl,rfl,_,rfl⟩
  ·rintro r' _
   walk_at "own wq"
   have hl:=v.le i row hrow
   refine ⟨fits_le (by rw [lM1];lia),?_⟩
   refine sW_ref (xs:=row.map fun e=>pD (far E P e)) (by rw [<- List.append_assoc,gC1,<- lA1,get_app0];rfl) ?_
   refine ⟨G++[Ob.lst (row.map fun e=>pD (far E P e))],_,rfl,rfl,?_⟩
   rw [Nat.zero_add,List.take_succ,hrow]
   simp [Function.comp_def]
 ·rintro xs r S ⟨G,x,rfl,rfl,e⟩
  rw [List.nil_append,Nat.zero_add,refs_len,<- v.len,List.take_length] at e
  subst e
  walk_at "own wq"
  have hlE:=v.len
  refine ⟨fits_le (by rw [lM1];lia),?_⟩
  refine sW_ref (xs:=E.map fun row=>.tup ((row.map (far E P)).map pD)) (by rw [<- List.append_assoc,gC1,<- lA1,get_app0];rfl) ?_
  have e:D.tup (E.map fun row=>.tup ((row.map (far E P)).map pD))=webD (E.map fun row=>row.map (far E P)):=by
   simp [webD,Function.comp_def]
  refine ⟨webD (E.map fun row=>row.map (far E P)),o2,U.drop t++(G++[Ob.lst (E.map fun row=>.tup ((row.map (far E P)).map pD))]),?_,webD_und _,ho2.und,?_⟩
  ·rw [e,<- List.append_assoc T,<- w.split]
  ·exact h m _ o2 hm0 hm (web_ok v) ho2
theorem pick_W {items:List D}{k:Int}{n:Nat}{o:Ob}{T:Sto}{x0:Option D}{Q:List D×Ev×Sto->Prop}(ho:Hnd o n)(hn:n+items.length<=2^50)(hk:0<k)(hk2:k<1073741824)
  (h:∀ xs o' x',Hnd o' (n+items.length)->xs.Sublist items->Q (xs,[x',some (.ref 0)],o'::T)):
  W (loopF [] (gN 0) (mB (m2 (b2 gEq) (mN (mCall 2 m__law_take) (mCons (mV 1) (mCons (mC (D.int k)) mNil))) (mC (D.int (0))))) (fEmit (mV 0)) items [x0,some (.ref 0)] (o::T)) Q:=by
 refine loopF_W (fun i acc r S=>∃ o x,S=o::T/\r=[x,some (.ref 0)]/\Hnd o (n+i)/\i<=items.length/\acc.Sublist (items.take i)) items 0 [] _ _ ⟨o,x0,rfl,rfl,by simpa using ho,by lia,by simp⟩ (fun _ _ _ _ _=>rfl) ?_ ?_
 ·rintro i d hd acc r S ⟨o,x,rfl,rfl,ho,hi,ha⟩
  have hi':i<items.length:=(gE1.mp hd).1
  have ht:items.take (i+1)=items.take i++[d]:=by rw [List.take_succ,hd];rfl
  walk_at "own wq"
  refine take_W ho (by lia) hk hk2 fun e o' ho' he=>?_
  walk_at "own wq"
  split
  ·exact ⟨o',some d,rfl,rfl,ho'.more (by lia),by lia,by rw [Nat.zero_add,ht];simp at ha;exact ha.append (List.Sublist.refl _)⟩
  ·exact ⟨o',some d,rfl,rfl,ho'.more (by lia),by lia,by rw [Nat.zero_add,ht];simp at ha;exact ha.trans (List.sublist_append_left _ _)⟩
 ·rintro xs r S ⟨o,x,rfl,rfl,ho,_,ha⟩
  refine h _ _ _ (by simpa using ho) (by simpa using ha)
theorem eyes_W {o:Ob}{n:Nat}{T:Sto}{Q:D×Sto->Prop}(ho:Hnd o n)(hn:n<=2^45)(hT:T.all (Ob.und (T.length+1))=true)
  (h:∀ a b c d o',Hnd o' (n+4)->Q (.tup (eyesL a b c d),o'::T)):W (mCall 1 m__law_some_eyes [.ref 0] (o::T)) Q:=by
 refine callH rfl rfl hT ?_
 unfold m__law_some_eyes
 refine fnW ?_
 unfold b__law_some_eyes
 walk_at "own wq"
 rw [sW_tup]
 refine pick_W ho (by simp;lia) (by decide) (by decide) fun xs o1 x1 ho1 hx=>?_
 obtain ⟨a,b,c,d,rfl⟩:=eyes_sub hx
 walk_at "own wq"
 have hl:=eyes_len a b c d
 refine ⟨fits_le (by lia),?_⟩
 refine sW_ref (xs:=eyesL a b c d) (by rw [gC1,get_app0];rfl) ?_
 exact ⟨_,o1,_,rfl,by rw [D.und];exact eyes_und a b c d,ho1.und,h a b c d o1 ho1⟩
structure WholeOk (w:Rows2)(ws:List Wk)(cs:List Nat):Prop where
 ne:ws≠[]
 few:ws.length<=5
 wk:∀ u∈ws,∃ row,w[u.1]? = some row/\u.2.1<=row.length/\u.2.2<4000
 ch:cs.Sublist (List.range w.length)
theorem W_ixW {w:Rows2}{i:Nat}{row:List (Nat×Nat)}{S:Sto}{Q:D×Sto->Prop}(h:w[i]? = some row)(q:Q (.tup (row.map pD),S)):W (gIxY (webD w) (.int i) S) Q:=
 W_ixT (x:=.tup (row.map pD)) (by rw [gP1,h];rfl) q
theorem len_web {w:Rows2}{S:Sto}:gLen (webD w) S=some (.int w.length,S):=by simp [webD,gLen,seqOf]
theorem whole_W {o:Ob}{n m:Nat}{w:Rows2}{T:Sto}{Q:D×Sto->Prop}(hw:WebOk m w)(hm0:0<m)(hm:m<=8)(ho:Hnd o n)(hn:n<=2^40)(hT:T.all (Ob.und (T.length+1))=true)
  (h:∀ ws cs o',WholeOk w ws cs->Hnd o' (n+100)->Q (wholeD ws cs,o'::T)):W (mCall 2 m__law_whole [.ref 0,webD w] (o::T)) Q:=by
 have hlen:=hw.len
 have rowAt:∀ j,j<m -> ∃ row,w[j]? = some row:=fun j hj=>⟨_,gG1 (by rw [hlen];exact hj)⟩
 refine callH rfl rfl hT ?_
 unfold m__law_whole
 refine fnW ?_
 unfold b__law_whole
 refine seqW (fun r S=>r=[some (.ref 0),some (webD w),some (.ref (T.length+1)),none,none,none]/\S=o::(T++[.lst (wksD [])])) ?_ ?_
 ·walk_at "own wq"
  rfl
 rintro r S ⟨rfl,rfl⟩
 refine seqW (fun r S=>∃ ws o1 G x3 x4 x5,r=[some (.ref 0),some (webD w),some (.ref (T.length+1)),x3,x4,x5]/\S=o1::(T ++ .lst (wksD ws)::G)/\ws≠[]/\ws.length<=5/\(∀ u∈ws,∃ row,w[u.1]? = some row/\u.2.1<=row.length/\u.2.2<4000)/\Hnd o1 (n+50)) ?_ ?_
 ·walk_at "own wq"
  refine take_W ho (by lia) (by lia) (by lia) fun c o1 ho1 hc=>?_
  walk_at "own wq"
  rw [show ((1:Int)+(c:Int))=((c+1:Nat):Int) by lia]
  refine ⟨bnd_nat (by lia),?_⟩
  rw [Int.toNat_natCast]
  refine loopM_W (fun i r S=>i<=c+1 /\ ∃ ws o1 G x3 x4 x5,r=[some (.ref 0),some (webD w),some (.ref (T.length+1)),x3,x4,x5]/\S=o1::(T ++ .lst (wksD ws)::G)/\ws.length=i/\(∀ u∈ws,∃ row,w[u.1]? = some row/\u.2.1<=row.length/\u.2.2<4000)/\Hnd o1 (n+1+8*i)) _ 0 _ _ ⟨by lia,[],o1,[],none,none,none,rfl,rfl,rfl,by simp,ho1⟩ (fun _ _ _ _=>rfl) ?_ ?_
  ·rintro i d hd r S ⟨hi,ws,o2,G,x3,x4,x5,rfl,rfl,hl,hws,ho2⟩
   have hlt:=(gE1.mp hd).1
   rw [nums_len] at hlt
   rw [Nat.zero_add] at *
   refine ⟨_,rfl,?_⟩
   unfold p__law_whole_1
   -- the room
   refine seqW (fun r S=>∃ rm o3,r=[some (.ref 0),some (webD w),some (.ref (T.length+1)),some d,some (.int (rm:Nat)),x5]/\S=o3::(T ++ .lst (wksD ws)::G)/\rm<m/\Hnd o3 (n+1+8*i+1)) ?_ ?_
   ·((try walk_at "own wq");repeat (simp only [len_web];try walk_at "own wq"))
    rw [hlen]
    refine take_W ho2 (by lia) (by lia) (by lia) fun e o3 ho3 he=>?_
    exact ⟨e,o3,rfl,rfl,by lia,ho3⟩
   rintro r S ⟨rm,o3,rfl,rfl,hrm,ho3⟩
   refine seqW (fun r S=>∃ (rm:Nat) (o3:Ob) (G:Sto),r=[some (.ref 0),some (webD w),some (.ref (T.length+1)),some d,some (.int (rm:Nat)),x5]/\S=o3::(T ++ .lst (wksD ws)::G)/\rm<m/\Hnd o3 (n+1+8*i+3)) ?_ ?_
   ·walk_at "own wq"
    refine W.of (gNe_nil (xs:=wksD ws) (by rw [gC1,get_app0];rfl) (by walk_at "own wq")) ?_
    walk_at "own wq"
    split
    ·rename_i hne
     refine take_W ho3 (by lia) (by lia) (by lia) fun e o4 ho4 he=>?_
     walk_at "own wq"
     split
     ·refine sW_ref (xs:=wksD ws) (by rw [gC1,get_app0];rfl) ?_
      walk_at "own wq"
      rw [wks_len]
      have hpos:0<ws.length:=by
       cases ws with
       | nil=>simp [wksD] at hne
       | cons a b=>simp
      refine take_W ho4 (by lia) (by lia) (by lia) fun e2 o5 ho5 he2=>?_
      have he3:e2<ws.length:=by lia
      refine W_ixL (i:=e2) (xs:=wksD ws) (x:=wkD1 ws[e2]) (by rw [gC1,get_app0];rfl) (by rw [wksD,gP1,gG1 he3];rfl) ?_
      refine W_ixT (i:=0) rfl ?_
      obtain ⟨row,hrow,_⟩:=hws _ (List.getElem_mem he3)
      exact ⟨_,o5,G++[Ob.lst []],rfl,rfl,by rw [<- hlen];exact (gE1.mp hrow).1,ho5.more (by lia)⟩
     ·exact ⟨rm,o4,G++[Ob.lst []],rfl,rfl,hrm,ho4.more (by lia)⟩
    ·exact ⟨rm,o3,G++[Ob.lst []],rfl,rfl,hrm,ho3.more (by lia)⟩
   rintro r S ⟨rm,o4,G,rfl,rfl,hrm,ho4⟩
   -- the mood
   refine seqW (fun r S=>∃ (md:Nat) (o3:Ob) (G:Sto),r=[some (.ref 0),some (webD w),some (.ref (T.length+1)),some d,some (.int (rm:Nat)),some (.int (md:Nat))]/\S=o3::(T ++ .lst (wksD ws)::G)/\md<4000/\Hnd o3 (n+1+8*i+6)) ?_ ?_
   ·walk_at "own wq"
    refine take_W ho4 (by lia) (by lia) (by lia) fun e1 o5 ho5 he1=>?_
    refine take_W ho5 (by lia) (by lia) (by lia) fun e2 o6 ho6 he2=>?_
    walk_at "own wq"
    refine take_W ho6 (by lia) (by lia) (by lia) fun e3 o7 ho7 he3=>?_
    walk_at "own wq"
    by_cases hz:((e3:Int) == 0)=true
    ·rw [if_pos hz]
     refine W_ixL (i:=1) (xs:=[.int e1,.int e2]) (x:=.int e2) (by rw [show T.length+(G.length+1)+1=(T++Ob.lst (wksD ws)::G).length+1 by simp,gC1,<- List.cons_append,<- List.append_assoc,get_app0];rfl) rfl ?_
     exact ⟨e2,o7,G++[Ob.lst [.int e1,.int e2]],rfl,by simp,by lia,ho7.more (by lia)⟩
    ·rw [if_neg hz]
     refine W_ixL (i:=0) (xs:=[.int e1,.int e2]) (x:=.int e1) (by rw [show T.length+(G.length+1)+1=(T++Ob.lst (wksD ws)::G).length+1 by simp,gC1,<- List.cons_append,<- List.append_assoc,get_app0];rfl) rfl ?_
     exact ⟨e1,o7,G++[Ob.lst [.int e1,.int e2]],rfl,by simp,by lia,ho7.more (by lia)⟩
   rintro r S ⟨md,o5,G,rfl,rfl,hmd,ho5⟩
   obtain ⟨row,hrow⟩:=rowAt rm hrm
   walk_at "own wq"
   refine W_mMt ?_
   walk_at "own wq"
   refine ⟨T.length+1,wksD ws,rfl,by rw [gC1,get_app0];rfl,?_⟩
   try walk_at "own wq"
   refine W_ixW hrow ?_
   walk_at "own wq"
   have hrl:=hw.le row (gM1 hrow)
   rw [lM1,show ((row.length:Int)+1)=((row.length+1:Nat):Int) by push_cast;rfl]
   refine take_W ho5 (by lia) (by lia) (by lia) fun e1 o6 ho6 he1=>?_
   walk_at "own wq"
   rw [W_app (xs:=wksD ws) (by rw [gC1,get_app0];rfl)]
   refine ⟨fits_le (by rw [wks_len];lia),?_⟩
   refine ⟨by lia,ws++[(rm,e1,md)],o6,G,_,_,_,rfl,?_,by simp;lia,fun u hu=>?_,ho6.more (by lia)⟩
   ·rw [List.set_cons_succ,List.set_append_right _ _ (nR1 _),Nat.sub_self,List.set_cons_zero]
    simp [wksD,wkD1]
   ·rcases List.mem_append.mp hu with hu | hu
    ·exact hws u hu
    ·simp at hu
     subst hu
     exact ⟨row,hrow,(by show e1<=row.length;lia),hmd⟩
  ·rintro r S ⟨hi,ws,o2,G,x3,x4,x5,rfl,rfl,hl,hws,ho2⟩
   rw [nums_len,Nat.zero_add] at hl ho2
   exact ⟨rfl,ws,o2,G,_,_,_,rfl,rfl,by intro z;subst z;simp at hl,by lia,hws,ho2.more (by lia)⟩
 rintro r S ⟨ws,o1,G,x3,x4,x5,rfl,rfl,hne,hl,hws,ho1⟩
 ((try walk_at "own wq");repeat (simp only [len_web];try walk_at "own wq"))
 refine sW_ref (S:=o1::(T ++ .lst (wksD ws)::G)) (xs:=wksD ws) (by rw [gC1,get_app0];rfl) ?_
 rw [hlen,Int.toNat_natCast]
 refine ⟨bnd_nat (by lia),?_⟩
 refine pick_W ho1 (by rw [nums_len];lia) (by decide) (by decide) fun xs o2 x2 ho2 hx=>?_
 rw [nums_len] at ho2
 obtain ⟨cs,rfl,hs⟩:=nm_sub hx
 have hcl:cs.length<=m:=by have:=hs.length_le;simpa using this
 walk_at "own wq"
 refine ⟨by rw [nm_len];exact fits_le (by lia),?_⟩
 refine sW_ref (xs:=nmD cs) (by rw [show T.length+(G.length+1)+1=(T++Ob.lst (wksD ws)::G).length+1 by simp,gC1,<- List.cons_append,<- List.append_assoc,get_app0];rfl) ?_
 have ok:WholeOk w ws cs:=⟨hne,hl,hws,by rw [hlen];exact hs⟩
 exact ⟨_,o2,.lst (wksD ws)::(G++[.lst (nmD cs)]),by simp [wholeD],whole_und (ws:=ws) (cs:=cs),ho2.und,h ws cs o2 ok (ho2.more (by lia))⟩
noncomputable def crowd (ws:List Wk)(rm:Nat):Nat:=(ws.filter fun u=>u.1 == rm).length
noncomputable def seenD (a b c d:Bool)(ws:List Wk)(cs:List Nat)(u:Wk)(row:List (Nat×Nat)):D:=
 sightD a b c d u.2.1 (if cs.contains u.1 then 1 else 0) row.length (if 1<crowd ws u.1 then 1 else 0)
theorem filter_wk {ws:List Wk}{rm:Nat}{S:Sto}{x0:Option D}{Q:List D×Ev×Sto->Prop}(h:∀ r',Q ((ws.filter fun u=>u.1 == rm).map wkD1,r',S)):
  W (loopF [] (gN 0) (mB (m2 (b2 gEq) (m2 (b2 gIxY) (mV 0) (mC (D.int (0)))) (mV 1))) (fEmit (mV 0)) (wksD ws) [x0,some (.int rm)] S) Q:=by
 refine filterW (fun u:Wk=>u.1 == rm) wkD1 (fun r=>∃ x,r=[x,some (.int rm)]) rfl ws _ ⟨_,rfl⟩ ?_ fun r' _=>h r'
 rintro u hu r ⟨x,rfl⟩
 walk_at "own wq"
 refine W_ixT (i:=0) rfl ?_
 walk_at "own wq"
 refine ⟨?_,⟨_,rfl⟩,fun _=>trivial⟩
 rw [Bool.eq_iff_iff,beq_iff_eq,beq_iff_eq]
 lia
theorem dict4 {w x y z:D}{S:Sto}{r:Ev}{m1 m2 m3 m4:FE}{Q:D×Sto->Prop}(h1:m1 r S=some (w,S))(h2:m2 r S=some (x,S))(h3:m3 r S=some (y,S))(h4:m4 r S=some (z,S))
  (q:Q (.ref S.length,S++[.dct [(.inr "came",w),(.inr "chalk",x),(.inr "doors",y),(.inr "others",z)]])):
  W (mDisp [(mC (.str "came"),m1),(mC (.str "chalk"),m2),(mC (.str "doors"),m3),(mC (.str "others"),m4)] r S) Q:=by
 refine W.of ?_ q
 simp only [mDisp,mPrs,mC,h1,h2,h3,h4,oS1,oP1,keyed,keyD]
 rfl
theorem ix_dict {w x y z:D}{S:Sto}{n:Nat}(h:S[n]? = some (.dct [(.inr "came",w),(.inr "chalk",x),(.inr "doors",y),(.inr "others",z)])):
  gIxY (.ref n) (.str "came") S=some (w,S)/\gIxY (.ref n) (.str "chalk") S=some (x,S)/\gIxY (.ref n) (.str "doors") S=some (y,S)/\gIxY (.ref n) (.str "others") S=some (z,S):=by
 refine ⟨?_,?_,?_,?_⟩<;>(simp only [gIxY,h,gIxX,keyD,oS1];rfl)
noncomputable def eyeD:Nat->D
 | 0=>.str "came" | 1=>.str "chalk" | 2=>.str "doors" | _=>.str "others"
noncomputable def mostD:Nat->D
 | 0=>.int 5 | 1=>.int 2 | 2=>.int 5 | _=>.int 2
noncomputable def partD (a b c d:Bool)(w x y z:Int):Nat->D
 | 0=>if a then .int w else .non
 | 1=>if b then .int x else .non
 | 2=>if c then .int y else .non
 | _=>if d then .int z else .non
theorem part_ok {a b c d:Bool}{w x y z:Int}{S:Sto}{n:Nat}(h:S[n]? = some (.dct [(.inr "came",.int w),(.inr "chalk",.int x),(.inr "doors",.int y),(.inr "others",.int z)])){i:Nat}(hi:i∈[0,1,2,3]){r:Ev}{j1 j2 j3:Nat}
  (h1:r[j1]? = some (some (eyeD i))) (h2:r[j2]? = some (some (.tup (eyesL a b c d)))) (h3:r[j3]? = some (some (.ref n))):
  mIf (mB (m2 (b2 gInY) (mV j1) (mV j2))) (m2 (b2 gIxY) (mV j3) (mV j1)) (mC D.non) r S=some (partD a b c d w x y z i,S):=by
 obtain ⟨d1,d2,d3,d4⟩:=ix_dict h
 simp only [List.mem_cons,List.not_mem_nil,or_false] at hi
 rcases hi with rfl | rfl | rfl | rfl
 ·cases a<;>simp only [mIf,mB,m2,b2,mV,h1,h2,h3,eyeD,oS1,in_came,d1,partD,mC]<;>rfl
 ·cases b<;>simp only [mIf,mB,m2,b2,mV,h1,h2,h3,eyeD,oS1,in_chalk,d2,partD,mC]<;>rfl
 ·cases c<;>simp only [mIf,mB,m2,b2,mV,h1,h2,h3,eyeD,oS1,in_doors,d3,partD,mC]<;>rfl
 ·cases d<;>simp only [mIf,mB,m2,b2,mV,h1,h2,h3,eyeD,oS1,in_others,d4,partD,mC]<;>rfl
theorem sight_W {w:Rows2}{ws:List Wk}{cs:List Nat}{a b c d:Bool}{k:Nat}{u:Wk}{row:List (Nat×Nat)}{S:Sto}{Q:D×Sto->Prop}(hu:ws[k]? = some u)(hr:w[u.1]? = some row)(hl:ws.length<=1000)
  (q:Q (seenD a b c d ws cs u row,S)):W (mCall 4 m_sight_of [webD w,.tup (eyesL a b c d),wholeD ws cs,.int k] S) Q:=by
 refine callP rfl (by simp [D.unds,webD_und,whole_und];rw [D.und];exact ⟨eyes_und a b c d,rfl⟩) ?_
 unfold m_sight_of
 refine fnW ?_
 unfold b_sight_of
 refine seqW (fun r S=>S=[]/\r=[some (webD w),some (.tup (eyesL a b c d)),some (wholeD ws cs),some (.int k),some (.tup (wksD ws)),some (.tup (nmD cs)),none,none,none,none,none]) ?_ ?_
 ·rw [wholeD];walk_at "own wq"
 rintro r S ⟨rfl,rfl⟩
 refine seqW (fun r S=>S=[]/\r=[some (webD w),some (.tup (eyesL a b c d)),some (wholeD ws cs),some (.int k),some (.tup (wksD ws)),some (.tup (nmD cs)),some (.int u.1),some (.int u.2.1),some (.int u.2.2),none,none]) ?_ ?_
 ·walk_at "own wq"
  refine W_ixT (i:=k) (x:=wkD1 u) (by rw [wksD,gP1,hu];rfl) ?_
  rw [wkD1];walk_at "own wq"
 rintro r S ⟨rfl,rfl⟩
 refine seqW (fun r S=>S=[.lst ((ws.filter fun v=>v.1 == u.1).map wkD1)]/\r=[some (webD w),some (.tup (eyesL a b c d)),some (wholeD ws cs),some (.int k),some (.tup (wksD ws)),some (.tup (nmD cs)),some (.int u.1),some (.int u.2.1),some (.int u.2.2),some (.ref 0),none]) ?_ ?_
 ·walk_at "own wq"
  rw [sW_tup]
  refine filter_wk fun r'=>?_
  walk_at "own wq"
  have:=List.length_filter_le (fun v:Wk=>v.1 == u.1) ws
  have h2:((ws.filter fun v:Wk=>v.1 == u.1).map wkD1).length<=100000:=by rw [lM1];lia
  exact ⟨fits_le h2,trivial⟩
 rintro r S ⟨rfl,rfl⟩
 generalize hS:[Ob.lst ((ws.filter fun v=>v.1 == u.1).map wkD1)]=S1
 have hS0:S1[0]? = some (Ob.lst ((ws.filter fun v=>v.1 == u.1).map wkD1)):=by rw [<- hS];rfl
 refine seqW (fun r S=>S=S1++[.dct [(.inr "came",.int u.2.1),(.inr "chalk",.int (if cs.contains u.1 then 1 else 0)),(.inr "doors",.int row.length),(.inr "others",.int (if 1<crowd ws u.1 then 1 else 0))]]/\r=[some (webD w),some (.tup (eyesL a b c d)),some (wholeD ws cs),some (.int k),some (.tup (wksD ws)),some (.tup (nmD cs)),some (.int u.1),some (.int u.2.1),some (.int u.2.2),some (.ref 0),some (.ref S1.length)]) ?_ ?_
 ·unfold mAsg
  rw [W_bind]
  have hc:(List.map wkD1 (ws.filter fun v=>v.1 == u.1)).length=crowd ws u.1:=by rw [lM1];rfl
  refine dict4 (w:=.int u.2.1) (x:=.int (if cs.contains u.1 then 1 else 0)) (y:=.int row.length) (z:=.int (if 1<crowd ws u.1 then 1 else 0)) rfl ?_ ?_ ?_ ?_
  ·simp only [mIf,mB,m2,b2,mV,gC1,List.getElem?_cons_zero,oS1,in_nm,mC]
   split<;>rfl
  ·have:W (gIxY (webD w) (.int u.1) S1) fun p=>p=(.tup (row.map pD),S1):=W_ixW hr rfl
   obtain ⟨p,e,rfl⟩:=this
   simp only [mN,mCons,mNil,m2,b1,b2,mV,gC1,List.getElem?_cons_zero,oS1,e,len_tup,lM1]
  ·simp only [mIf,mB,mN,mCons,mNil,m2,b1,b2,mV,mC,gC1,List.getElem?_cons_zero,oS1,gLen,seq_ref hS0,oP1,gCmp,hc]
   by_cases h1:1<crowd ws u.1
   ·rw [if_pos h1,if_pos (by rw [decide_eq_true_eq];lia)]
   ·rw [if_neg h1,if_neg (by rw [decide_eq_true_eq];lia)]
  ·walk_at "own wq"
 rintro r S ⟨rfl,rfl⟩
 generalize hD:S1++[Ob.dct [(.inr "came",.int u.2.1),(.inr "chalk",.int (if cs.contains u.1 then 1 else 0)),(.inr "doors",.int row.length),(.inr "others",.int (if 1<crowd ws u.1 then 1 else 0))]]=S2
 have hd:S2[S1.length]? = some (Ob.dct [(.inr "came",.int u.2.1),(.inr "chalk",.int (if cs.contains u.1 then 1 else 0)),(.inr "doors",.int row.length),(.inr "others",.int (if 1<crowd ws u.1 then 1 else 0))]):=by rw [<- hD,get_app0];rfl
 walk_at "own wq"
 have hP:d_PARTS = .tup ([0,1,2,3].map fun i:Nat=>D.tup [eyeD i,mostD i]):=rfl
 rw [hP,sW_tup]
 refine mapW (partD a b c d u.2.1 (if cs.contains u.1 then 1 else 0) row.length (if 1<crowd ws u.1 then 1 else 0)) (fun r=>∃ x y,r=[x,y,some (.tup (eyesL a b c d)),some (.ref S1.length)]) rfl _ _ ⟨_,_,rfl⟩ ?_ ?_
 ·rintro i hi r ⟨x,y,rfl⟩
  refine ⟨([some (eyeD i),some (mostD i),some (.tup (eyesL a b c d)),some (.ref S1.length)],S2),rfl,?_⟩
  refine ⟨(true,S2),rfl,rfl,?_⟩
  exact ⟨_,part_ok hd hi rfl rfl rfl,rfl,rfl,_,_,rfl⟩
 ·rintro r' _
  walk_at "own wq"
  refine sW_ref (xs:=[partD a b c d u.2.1 (if cs.contains u.1 then 1 else 0) row.length (if 1<crowd ws u.1 then 1 else 0) 0,partD a b c d u.2.1 (if cs.contains u.1 then 1 else 0) row.length (if 1<crowd ws u.1 then 1 else 0) 1,partD a b c d u.2.1 (if cs.contains u.1 then 1 else 0) row.length (if 1<crowd ws u.1 then 1 else 0) 2,partD a b c d u.2.1 (if cs.contains u.1 then 1 else 0) row.length (if 1<crowd ws u.1 then 1 else 0) 3]) (by rw [get_app0];rfl) ?_
  exact ⟨sight_und,q⟩
theorem lsight_W {w:Rows2}{ws:List Wk}{cs:List Nat}{a b c d:Bool}{k:Nat}{u:Wk}{row:List (Nat×Nat)}{S:Sto}{Q:D×Sto->Prop}(hu:ws[k]? = some u)(hr:w[u.1]? = some row)(hl:ws.length<=1000)
  (q:Q (seenD a b c d ws cs u row,S)):W (mCall 4 m__law_sight [webD w,.tup (eyesL a b c d),wholeD ws cs,.int k] S) Q:=by
 refine callP rfl (by simp [D.unds,webD_und,whole_und];rw [D.und];exact ⟨eyes_und a b c d,rfl⟩) ?_
 unfold m__law_sight
 refine fnW ?_
 unfold b__law_sight
 have i0:∀ (S:Sto) (Q:D×Sto->Prop),Q (.tup (wksD ws),S)->W (gIxY (wholeD ws cs) (.int 0) S) Q:=fun S Q q=>W_ixT (i:=0) rfl q
 have i1:∀ (S:Sto),gIxY (wholeD ws cs) (.int 1) S=some (.tup (nmD cs),S):=fun S=>by
  obtain ⟨p,e,h⟩:W (gIxY (wholeD ws cs) (.int 1) S) fun p=>p=(.tup (nmD cs),S):=W_ixT (i:=1) rfl rfl
  rw [e,h]
 refine seqW (fun r S=>S=[]/\r=[some (webD w),some (.tup (eyesL a b c d)),some (wholeD ws cs),some (.int k),some (.int u.1),some (.int u.2.1),some (.int u.2.2),none,none]) ?_ ?_
 ·walk_at "own wq"
  refine i0 _ _ ?_
  refine W_ixT (i:=k) (x:=wkD1 u) (by rw [wksD,gP1,hu];rfl) ?_
  rw [wkD1];walk_at "own wq"
 rintro r S ⟨rfl,rfl⟩
 refine seqW (fun r S=>r=[some (webD w),some (.tup (eyesL a b c d)),some (wholeD ws cs),some (.int k),some (.int u.1),some (.int u.2.1),some (.int u.2.2),some (.int (crowd ws u.1)),none]) ?_ ?_
 ·walk_at "own wq"
  refine i0 _ _ ?_
  rw [sW_tup]
  refine filter_wk fun r'=>?_
  walk_at "own wq"
  have:=List.length_filter_le (fun v:Wk=>v.1 == u.1) ws
  have h2:((ws.filter fun v:Wk=>v.1 == u.1).map wkD1).length<=100000:=by rw [lM1];lia
  refine ⟨fits_le h2,?_⟩
  refine sW_ref (xs:=(ws.filter fun v:Wk=>v.1 == u.1).map wkD1) rfl ?_
  rw [lM1]
  rfl
 rintro r S1 rfl
 refine seqW (fun r S=>S=S1++[.dct [(.inr "came",.int u.2.1),(.inr "chalk",.int (if cs.contains u.1 then 1 else 0)),(.inr "doors",.int row.length),(.inr "others",.int (if 1<crowd ws u.1 then 1 else 0))]]/\r=[some (webD w),some (.tup (eyesL a b c d)),some (wholeD ws cs),some (.int k),some (.int u.1),some (.int u.2.1),some (.int u.2.2),some (.int (crowd ws u.1)),some (.ref S1.length)]) ?_ ?_
 ·unfold mAsg
  rw [W_bind]
  refine dict4 (w:=.int u.2.1) (x:=.int (if cs.contains u.1 then 1 else 0)) (y:=.int row.length) (z:=.int (if 1<crowd ws u.1 then 1 else 0)) rfl ?_ ?_ ?_ ?_
  ·simp only [mN,mCons,mNil,b1,m2,b2,mV,gC1,List.getElem?_cons_zero,oS1,i1,in_nm,mC,gInt]
  ·obtain ⟨p,e,rfl⟩:W (gIxY (webD w) (.int u.1) S1) fun p=>p=(.tup (row.map pD),S1):=W_ixW hr rfl
   simp only [mN,mCons,mNil,m2,b1,b2,mV,gC1,List.getElem?_cons_zero,oS1,e,len_tup,lM1]
  ·simp only [mN,mCons,mNil,m2,b1,b2,mV,mC,gC1,List.getElem?_cons_zero,oS1,gCmp,gInt]
   by_cases h1:1<crowd ws u.1
   ·rw [if_pos h1,if_pos (by rw [decide_eq_true_eq];lia)]
   ·rw [if_neg h1,if_neg (by rw [decide_eq_true_eq];lia)]
  ·walk_at "own wq"
 rintro r S ⟨rfl,rfl⟩
 generalize hD:S1++[Ob.dct [(.inr "came",.int u.2.1),(.inr "chalk",.int (if cs.contains u.1 then 1 else 0)),(.inr "doors",.int row.length),(.inr "others",.int (if 1<crowd ws u.1 then 1 else 0))]]=S2
 have hd:S2[S1.length]? = some (Ob.dct [(.inr "came",.int u.2.1),(.inr "chalk",.int (if cs.contains u.1 then 1 else 0)),(.inr "doors",.int row.length),(.inr "others",.int (if 1<crowd ws u.1 then 1 else 0))]):=by rw [<- hD,get_app0];rfl
 walk_at "own wq"
 have hP:([D.str "came",D.str "chalk",D.str "doors",D.str "others"]:List D)=[0,1,2,3].map eyeD:=rfl
 rw [sW_tup,hP]
 refine mapW (partD a b c d u.2.1 (if cs.contains u.1 then 1 else 0) row.length (if 1<crowd ws u.1 then 1 else 0)) (fun r=>∃ x,r=[x,some (.tup (eyesL a b c d)),some (.ref S1.length)]) rfl _ _ ⟨_,rfl⟩ ?_ ?_
 ·rintro i hi r ⟨x,rfl⟩
  refine ⟨([some (eyeD i),some (.tup (eyesL a b c d)),some (.ref S1.length)],S2),rfl,?_⟩
  refine ⟨(true,S2),rfl,rfl,?_⟩
  exact ⟨_,part_ok hd hi rfl rfl rfl,rfl,rfl,_,rfl⟩
 ·rintro r' _
  walk_at "own wq"
  refine sW_ref (xs:=[partD a b c d u.2.1 (if cs.contains u.1 then 1 else 0) row.length (if 1<crowd ws u.1 then 1 else 0) 0,partD a b c d u.2.1 (if cs.contains u.1 then 1 else 0) row.length (if 1<crowd ws u.1 then 1 else 0) 1,partD a b c d u.2.1 (if cs.contains u.1 then 1 else 0) row.length (if 1<crowd ws u.1 then 1 else 0) 2,partD a b c d u.2.1 (if cs.contains u.1 then 1 else 0) row.length (if 1<crowd ws u.1 then 1 else 0) 3]) (by rw [get_app0];rfl) ?_
  exact ⟨sight_und,q⟩
noncomputable def pt (b:Bool)(x:Nat):D:=if b=true then .int x else .non
noncomputable def sgD (a b c d:Bool)(x y z w:Nat):D:=.tup [pt a x,pt b y,pt c z,pt d w]
noncomputable def hands:List D:=[.str "leave",.str "mark",.str "wipe"]
noncomputable def steps:List D:=[.non,.int 0,.int 1,.int 2,.int 3]
structure Deed (x:D):Prop where
 is:∃ m h t,x = .tup [.int (m:Nat),h,t]/\m<4000/\h∈hands/\t∈steps
theorem Deed.und {x:D}(h:Deed x):x.und 0=true:=by
 obtain ⟨m,x,t,rfl,_,h1,h2⟩:=h.is
 have e1:x.und 0=true:=by simp [hands] at h1;rcases h1 with z | z | z<;>subst z<;>rfl
 have e2:t.und 0=true:=by simp [steps] at h2;rcases h2 with z | z | z | z | z<;>subst z<;>rfl
 simp [D.und,D.unds,e1,e2]
noncomputable def cx (b:Bool)(x:Nat):Nat:=if b=true then x else 0
noncomputable def cds:List Bool->List Nat->Nat
 | b::bs,x::xs=>cx b x*8^bs.length+cds bs xs
 | _,_=>0
theorem cds_lt:∀ {bs:List Bool} {xs:List Nat},(∀ x∈xs,x<=7)->cds bs xs<8^bs.length
 | [],_,_=>by rw [cds];simp;simp
 | b::bs,[],_=>by
  rw [cds]
  ·exact Nat.pos_of_ne_zero (by simp)
  ·simp
 | b::bs,x::xs,h=>by
  have h1:=cds_lt (bs:=bs) fun y hy=>h y (mC1 _ hy)
  have h2:cx b x<=7:=by unfold cx;split;exact h x mS1;lia
  rw [cds,lC1,Nat.pow_succ]
  have h3:cx b x*8^bs.length<=7*8^bs.length:=Nat.mul_le_mul_right _ h2
  lia
theorem eqT {S:Sto}{n:Nat}{xs ys:List D}:eqN S (n+1) (.tup xs) (.tup ys)=eqL (eqN S n) xs ys:=by
 rw [eqN];simp [seqOf]
theorem ltT {S:Sto}{n:Nat}{xs ys:List D}:ltN S (n+1) (.tup xs) (.tup ys)=ltL (eqN S n) (ltN S n) xs ys:=by
 rw [ltN];simp [ltF,seqOf]
theorem eq_pt {S:Sto}{n:Nat}{b:Bool}{x y:Nat}:eqN S (n+1) (pt b x) (pt b y)=some (decide (cx b x=cx b y)):=by
 cases b with
 | false=>rfl
 | true=>
  show some ((x:Int) == (y:Int))=some (decide (x=y))
  congr 1
  rw [Bool.eq_iff_iff,beq_iff_eq,decide_eq_true_eq]
  lia
theorem lt_pt {S:Sto}{n:Nat}{b:Bool}{x y:Nat}(h:cx b x≠cx b y):ltN S (n+1) (pt b x) (pt b y)=some (decide (cx b x<cx b y)):=by
 cases b with
 | false=>exact absurd rfl h
 | true=>
  show some (decide ((x:Int)<(y:Int)))=some (decide (x<y))
  congr 1
  rw [Bool.eq_iff_iff,decide_eq_true_eq,decide_eq_true_eq]
  omega
theorem dig {A B P u v:Nat}(hu:u<P)(hv:v<P):(A*P+u=B*P+v↔A=B/\u=v)/\(A*P+u<B*P+v↔A<B\/(A=B/\u<v)):=by
 rcases Nat.lt_trichotomy A B with h | h | h
 ·have:=Nat.mul_le_mul_right P (show A+1<=B from h)
  rw [Nat.succ_mul] at this
  constructor<;>lia
 ·subst h
  constructor<;>lia
 ·have:=Nat.mul_le_mul_right P (show B+1<=A from h)
  rw [Nat.succ_mul] at this
  constructor<;>lia
theorem eqL_pt {S:Sto}{n:Nat}:∀ {bs:List Bool} {xs ys:List Nat},xs.length=bs.length->ys.length=bs.length->(∀ x∈xs,x<=7)->(∀ y∈ys,y<=7) ->
  eqL (eqN S (n+1)) (List.zipWith pt bs xs) (List.zipWith pt bs ys)=some (decide (cds bs xs=cds bs ys))
 | [],xs,ys,_,_,_,_=>by simp [eqL,cds]
 | b::bs,[],ys,h,_,_,_=>by simp at h
 | b::bs,x::xs,[],_,h,_,_=>by simp at h
 | b::bs,x::xs,y::ys,h1,h2,hx,hy=>by
  have ih:=eqL_pt (S:=S) (n:=n) (bs:=bs) (xs:=xs) (ys:=ys) (by simpa using h1) (by simpa using h2) (fun z hz=>hx z (mC1 _ hz)) (fun z hz=>hy z (mC1 _ hz))
  have b1:=cds_lt (bs:=bs) (xs:=xs) fun z hz=>hx z (mC1 _ hz)
  have b2:=cds_lt (bs:=bs) (xs:=ys) fun z hz=>hy z (mC1 _ hz)
  rw [List.zipWith_cons_cons,List.zipWith_cons_cons,eqL,eq_pt,ih,cds,cds]
  have hd:=(dig (A:=cx b x) (B:=cx b y) b1 b2).1
  rw [oS1,oP1]
  congr 1
  rw [Bool.eq_iff_iff,bA1,decide_eq_true_eq,decide_eq_true_eq,decide_eq_true_eq]
  exact hd.symm
theorem ltL_pt {S:Sto}{n:Nat}:∀ {bs:List Bool} {xs ys:List Nat},xs.length=bs.length->ys.length=bs.length->(∀ x∈xs,x<=7)->(∀ y∈ys,y<=7) ->
  ltL (eqN S (n+1)) (ltN S (n+1)) (List.zipWith pt bs xs) (List.zipWith pt bs ys)=some (decide (cds bs xs<cds bs ys))
 | [],xs,ys,_,_,_,_=>by simp [ltL,cds]
 | b::bs,[],ys,h,_,_,_=>by simp at h
 | b::bs,x::xs,[],_,h,_,_=>by simp at h
 | b::bs,x::xs,y::ys,h1,h2,hx,hy=>by
  have ih:=ltL_pt (S:=S) (n:=n) (bs:=bs) (xs:=xs) (ys:=ys) (by simpa using h1) (by simpa using h2) (fun z hz=>hx z (mC1 _ hz)) (fun z hz=>hy z (mC1 _ hz))
  have b1:=cds_lt (bs:=bs) (xs:=xs) fun z hz=>hx z (mC1 _ hz)
  have b2:=cds_lt (bs:=bs) (xs:=ys) fun z hz=>hy z (mC1 _ hz)
  have hd:=(dig (A:=cx b x) (B:=cx b y) b1 b2).2
  rw [List.zipWith_cons_cons,List.zipWith_cons_cons,ltL,eq_pt,oS1,cds,cds]
  by_cases z:cx b x=cx b y
  ·rw [if_pos (decide_eq_true z),ih]
   congr 1
   rw [Bool.eq_iff_iff,decide_eq_true_eq,decide_eq_true_eq]
   lia
  ·rw [if_neg (by rw [decide_eq_true_eq];exact z),lt_pt z]
   congr 1
   rw [Bool.eq_iff_iff,decide_eq_true_eq,decide_eq_true_eq]
   lia
structure Ky where
 m:Nat
 x:Nat
 y:Nat
 z:Nat
 w:Nat
structure Ky.Ok (k:Ky):Prop where
 m:k.m<4000
 x:k.x<=4
 y:k.y<=4
 z:k.z<=4
 w:k.w<=4
noncomputable abbrev E4:=Bool×Bool×Bool×Bool
noncomputable def E4.bs (e:E4):List Bool:=[e.1,e.2.1,e.2.2.1,e.2.2.2]
noncomputable def Ky.xs (k:Ky):List Nat:=[k.x,k.y,k.z,k.w]
noncomputable def ptK (b:Bool)(x:Nat):TK:=if b=true then .int x else .non
noncomputable def Ky.sg (k:Ky)(e:E4):D:=sgD e.1 e.2.1 e.2.2.1 e.2.2.2 k.x k.y k.z k.w
noncomputable def Ky.d (k:Ky)(e:E4):D:=.tup [.int k.m,k.sg e]
noncomputable def Ky.tk (k:Ky)(e:E4):TK:=.tup [.int k.m,.tup [ptK e.1 k.x,ptK e.2.1 k.y,ptK e.2.2.1 k.z,ptK e.2.2.2 k.w]]
noncomputable def Ky.code (k:Ky)(e:E4):Nat:=k.m*4096+cds e.bs k.xs
theorem Ky.keyT (k:Ky)(e:E4):Mi.keyT (k.d e)=some (k.tk e):=by
 obtain ⟨a,b,c,d⟩:=e
 cases a<;>cases b<;>cases c<;>cases d<;>rfl
theorem Ky.tkD (k:Ky)(e:E4):Mi.tkD (k.tk e)=k.d e:=(keyT_tk (k.keyT e)).1
theorem Ky.sg_zip (k:Ky)(e:E4):k.sg e = .tup (List.zipWith pt e.bs k.xs):=rfl
theorem Ky.Ok.all {k:Ky}(h:k.Ok):∀ x∈k.xs,x<=7:=by
 intro x hx
 have:=h.x;have:=h.y;have:=h.z;have:=h.w
 simp [Ky.xs] at hx
 lia
theorem cds_4096 {k:Ky}(h:k.Ok)(e:E4):cds e.bs k.xs<4096:=cds_lt (bs:=e.bs) h.all
theorem Ky.eq {k l:Ky}{e:E4}{S:Sto}{n:Nat}(hk:k.Ok)(hl:l.Ok):eqN S (n+3) (k.d e) (l.d e)=some (decide (k.code e=l.code e)):=by
 have e1:eqN S (n+2) (.int k.m) (.int l.m)=some ((k.m:Int) == (l.m:Int)):=rfl
 have e2:eqN S (n+2) (k.sg e) (l.sg e)=some (decide (cds e.bs k.xs=cds e.bs l.xs)):=by rw [Ky.sg_zip,Ky.sg_zip,eqT,eqL_pt rfl rfl hk.all hl.all]
 unfold Ky.d Ky.code
 rw [eqT,eqL,e1,oS1,eqL,e2,eqL]
 have hd:=(dig (A:=k.m) (B:=l.m) (cds_4096 hk e) (cds_4096 hl e)).1
 show some (((k.m:Int) == (l.m:Int))&&(decide (cds e.bs k.xs=cds e.bs l.xs)&&true))=_
 congr 1
 rw [Bool.eq_iff_iff,Bool.and_true,bA1,decide_eq_true_eq,decide_eq_true_eq,beq_iff_eq,hd]
 lia
theorem Ky.lt {k l:Ky}{e:E4}{S:Sto}{n:Nat}(hk:k.Ok)(hl:l.Ok):ltN S (n+3) (k.d e) (l.d e)=some (decide (k.code e<l.code e)):=by
 have e1:eqN S (n+2) (.int k.m) (.int l.m)=some ((k.m:Int) == (l.m:Int)):=rfl
 have e3:ltN S (n+2) (.int k.m) (.int l.m)=some (decide ((k.m:Int)<(l.m:Int))):=rfl
 have e2:eqN S (n+2) (k.sg e) (l.sg e)=some (decide (cds e.bs k.xs=cds e.bs l.xs)):=by rw [Ky.sg_zip,Ky.sg_zip,eqT,eqL_pt rfl rfl hk.all hl.all]
 have e4:ltN S (n+2) (k.sg e) (l.sg e)=some (decide (cds e.bs k.xs<cds e.bs l.xs)):=by rw [Ky.sg_zip,Ky.sg_zip,ltT,ltL_pt rfl rfl hk.all hl.all]
 unfold Ky.d Ky.code
 have hd:=(dig (A:=k.m) (B:=l.m) (cds_4096 hk e) (cds_4096 hl e)).2
 rw [ltT,ltL,e1,oS1]
 by_cases z:k.m=l.m
 ·rw [if_pos (by rw [beq_iff_eq];lia),ltL,e2,oS1]
  by_cases z2:cds e.bs k.xs=cds e.bs l.xs
  ·rw [if_pos (decide_eq_true z2),ltL]
   congr 1
   rw [eq_comm,decide_eq_false_iff_not]
   lia
  ·rw [if_neg (by rw [decide_eq_true_eq];exact z2),e4]
   congr 1
   rw [Bool.eq_iff_iff,decide_eq_true_eq,decide_eq_true_eq]
   lia
 ·rw [if_neg (by rw [beq_iff_eq];lia),e3]
  congr 1
  rw [Bool.eq_iff_iff,decide_eq_true_eq,decide_eq_true_eq]
  lia
theorem Ky.und (k:Ky)(e:E4)(n:Nat):(k.d e).und n=true:=by
 rw [<- k.tkD e];exact und_tk _
theorem Ky.sgu (k:Ky)(e:E4)(n:Nat):(k.sg e).und n=true:=by
 have:=k.und e n
 unfold Ky.d at this
 simp only [D.und,D.unds,Bool.and_true,Bool.true_and] at this
 exact this
noncomputable def dO (F:List (TK×D)):Ob:=match F with
 | []=>.dct []
 | _=>.dcT F
theorem dO_ne {F:List (TK×D)}(h:F≠[]):dO F = .dcT F:=by
 cases F with
 | nil=>exact absurd rfl h
 | cons _ _=>rfl
structure RW (e:E4)(F:List (TK×D)):Prop where
 row:∀ p∈F,∃ k:Ky,k.Ok/\p.1=k.tk e/\Deed p.2
 nd:(F.map (·.1)).Nodup
theorem RW.und {e:E4}{F:List (TK×D)}(h:RW e F)(n:Nat):(dO F).und n=true:=by
 have:D.unds n (F.map (·.2))=true:=Mi.unds_map fun p hp=>by
  obtain ⟨_,_,_,h3⟩:=h.row p hp
  exact und_mono h3.und
 cases F with
 | nil=>rfl
 | cons _ _=>exact this
theorem RW.put {e:E4}{F:List (TK×D)}{k:Ky}{x:D}(h:RW e F)(hk:k.Ok)(hx:Deed x):RW e (putD F (k.tk e) x):=by
 unfold putD
 split
 ·refine ⟨fun p hp=>?_,?_⟩
  ·obtain ⟨p',hp',rfl⟩:=List.mem_map.mp hp
   obtain ⟨l,h1,h2,h3⟩:=h.row p' hp'
   by_cases z:p'.1=k.tk e
   ·rw [if_pos z];exact ⟨l,h1,h2,hx⟩
   ·rw [if_neg z];exact ⟨l,h1,h2,h3⟩
  ·rw [List.map_map]
   have:(F.map ((fun p:TK×D=>p.1)∘fun p=>if p.1=k.tk e then (p.1,x) else p))=F.map (·.1):=by
    apply List.map_congr_left
    intro p _
    simp only [Function.comp]
    split<;>rfl
   rw [this];exact h.nd
 ·rename_i hn
  refine ⟨fun p hp=>?_,?_⟩
  ·rcases List.mem_append.mp hp with z | z
   ·exact h.row p z
   ·simp at z;subst z;exact ⟨k,hk,rfl,hx⟩
  ·rw [List.map_append,List.nodup_append]
   refine ⟨h.nd,by simp,fun a ha b hb z=>?_⟩
   simp at hb
   subst hb;subst z
   obtain ⟨p,hp,e'⟩:=List.mem_map.mp ha
   exact hn (List.any_eq_true.mpr ⟨p,hp,decide_eq_true e'⟩)
theorem setR {e:E4}{F:List (TK×D)}{k:Ky}{x:D}{n:Nat}{S:Sto}(hS:S[n]? = some (dO F))(hl:F.length<=1000):gSetY (.ref n) (k.d e) x S=some (.non,S.set n (dO (putD F (k.tk e) x))):=by
 cases F with
 | nil=>
  have hS':S[n]? = some (.dct []):=hS
  simp only [gSetY,hS',k.keyT e]
  rfl
 | cons p F=>
  have hS':S[n]? = some (.dcT (p::F)):=hS
  rw [dO_ne put_ne]
  simp only [gSetY,hS',k.keyT e,oS1]
  rw [if_pos (Nat.lt_of_le_of_lt hl (by decide))]
noncomputable abbrev Rw:=Ky×D
noncomputable def rowD (e:E4)(p:Rw):D:=.tup [p.1.d e,p.2]
noncomputable def RwOk (p:Rw):Prop:=p.1.Ok/\Deed p.2
theorem RW.list {e:E4}:∀ {F:List (TK×D)},(∀ p∈F,∃ k:Ky,k.Ok/\p.1=k.tk e/\Deed p.2) -> ∃ L:List Rw,L.map (fun p=>(p.1.tk e,p.2))=F /\ ∀ p∈L,RwOk p
 | [],_=>⟨[],rfl,fun p hp=>by cases hp⟩
 | x::F,h=>by
  obtain ⟨L,h1,h2⟩:=RW.list (F:=F) fun p hp=>h p (mC1 _ hp)
  obtain ⟨k,k1,k2,k3⟩:=h x mS1
  refine ⟨(k,x.2)::L,by rw [mP1,h1,<- k2],fun p hp=>?_⟩
  rcases List.mem_cons.mp hp with z | z
  ·subst z;exact ⟨k1,k3⟩
  ·exact h2 p z
theorem ptK_cx (b:Bool)(x:Nat):ptK b x=if b=true then .int (cx b x) else .non:=by unfold ptK cx;cases b<;>rfl
theorem cx_of {b:Bool}{x y:Nat}(h:ptK b x=ptK b y):cx b x=cx b y:=by
 cases b with
 | false=>rfl
 | true=>
  have h':TK.int (x:Int)=TK.int (y:Int):=h
  injection h' with h'
  exact (by lia:x=y)
theorem cds4 (a b c d x y z w:_):cds [a,b,c,d] [x,y,z,w]=((cx a x*8+cx b y)*8+cx c z)*8+cx d w:=by
 simp only [cds,lC1,List.length_nil]
 lia
theorem tk_code {k l:Ky}{e:E4}(hk:k.Ok)(hl:l.Ok):k.tk e=l.tk e↔k.code e=l.code e:=by
 obtain ⟨a,b,c,d⟩:=e
 have e1:k.code (a,b,c,d)=k.m*4096+(((cx a k.x*8+cx b k.y)*8+cx c k.z)*8+cx d k.w):=by unfold Ky.code;rw [<- cds4];rfl
 have e2:l.code (a,b,c,d)=l.m*4096+(((cx a l.x*8+cx b l.y)*8+cx c l.z)*8+cx d l.w):=by unfold Ky.code;rw [<- cds4];rfl
 have le:∀ (b:Bool) (x:Nat),x<=4->cx b x<=4:=fun b x h=>by unfold cx;split<;>lia
 rw [e1,e2]
 constructor
 ·intro h
  unfold Ky.tk at h
  injection h with h
  injection h with h1 h2
  injection h1 with h1
  injection h2 with h2 _
  injection h2 with h2
  injection h2 with p1 h2
  injection h2 with p2 h2
  injection h2 with p3 h2
  injection h2 with p4 _
  rw [cx_of p1,cx_of p2,cx_of p3,cx_of p4,show k.m=l.m by lia]
 ·intro h
  have q1:=le a _ hk.x;have q2:=le b _ hk.y;have q3:=le c _ hk.z;have q4:=le d _ hk.w
  have r1:=le a _ hl.x;have r2:=le b _ hl.y;have r3:=le c _ hl.z;have r4:=le d _ hl.w
  have f1:k.m=l.m:=by lia
  have f2:cx a k.x=cx a l.x:=by lia
  have f3:cx b k.y=cx b l.y:=by lia
  have f4:cx c k.z=cx c l.z:=by lia
  have f5:cx d k.w=cx d l.w:=by lia
  unfold Ky.tk
  simp only [ptK_cx,f1,f2,f3,f4,f5]
theorem ltK_code {k l:Ky}{e:E4}(hk:k.Ok)(hl:l.Ok):ltK (k.tk e) (l.tk e)=decide (k.code e<l.code e):=by
 unfold ltK
 rw [k.tkD,l.tkD,Ky.lt (n:=47) hk hl]
 cases decide (k.code e<l.code e)<;>rfl
theorem less_code {k l:Ky}{e:E4}(hk:k.Ok)(hl:l.Ok)(h:k.code e<l.code e):lessK (k.tk e) (l.tk e)=true:=by
 unfold lessK
 rw [k.tkD,l.tkD,Ky.lt (n:=47) hk hl,Ky.lt (n:=47) hl hk,Ky.eq (n:=47) hk hl,Ky.eq (n:=47) hl hk,decide_eq_true h,decide_eq_false (show ¬ l.code e<k.code e by lia),decide_eq_false (show ¬ k.code e=l.code e by lia),decide_eq_false (show ¬ l.code e=k.code e by lia)]
 rfl
noncomputable def Inc (e:E4)(L:List Rw):Prop:=L.Pairwise fun p q=>p.1.code e<q.1.code e
theorem ins_inc {e:E4}{a:Rw}(ha:a.1.Ok):∀ {L:List Rw},(∀ p∈L,p.1.Ok)->(∀ p∈L,p.1.code e≠a.1.code e)->Inc e L->Inc e (insG (fun p=>p.1.tk e) a L)
 | [],_,_,_=>List.pairwise_singleton _ _
 | b::L,ho,hn,h=>by
  unfold Inc at h
  rw [List.pairwise_cons] at h
  have hb:=ho b mS1
  have hne:=hn b mS1
  rw [insG,ltK_code ha hb]
  split
  ·rename_i z
   have z:=of_decide_eq_true z
   unfold Inc
   rw [List.pairwise_cons,List.pairwise_cons]
   refine ⟨fun x hx=>?_,h.1,h.2⟩
   rcases List.mem_cons.mp hx with y | y
   ·rw [y];exact z
   ·exact Nat.lt_trans z (h.1 x y)
  ·rename_i z
   rw [decide_eq_true_eq] at z
   unfold Inc
   rw [List.pairwise_cons]
   refine ⟨fun x hx=>?_,ins_inc ha (fun p hp=>ho p (mC1 _ hp)) (fun p hp=>hn p (mC1 _ hp)) h.2⟩
   rcases List.mem_cons.mp ((insG_perm _ a L).mem_iff.mp hx) with y | y
   ·rw [y];lia
   ·exact h.1 x y
theorem srt_inc {e:E4}:∀ {L:List Rw},(∀ p∈L,p.1.Ok)->(L.map fun p=>p.1.code e).Nodup->Inc e (sortG (fun p=>p.1.tk e) L)
 | [],_,_=>.nil
 | a::L,ho,nd=>by
  rw [mP1,List.nodup_cons] at nd
  have pm:=sortG_perm (fun p:Rw=>p.1.tk e) L
  refine ins_inc (ho a mS1) (fun p hp=>ho p (mC1 _ (pm.mem_iff.mp hp))) (fun p hp z=>?_) (srt_inc (fun p hp=>ho p (mC1 _ hp)) nd.2)
  exact nd.1 (List.mem_map.mpr ⟨p,pm.mem_iff.mp hp,z⟩)
theorem rise_inc {e:E4}:∀ {L:List Rw},(∀ p∈L,p.1.Ok)->Inc e L->riseK (L.map fun p=>p.1.tk e)=true
 | [],_,_=>rfl
 | a::L,ho,h=>by
  unfold Inc at h
  rw [List.pairwise_cons] at h
  rw [mP1,riseK,rise_inc (fun p hp=>ho p (mC1 _ hp)) h.2,Bool.and_true,List.all_eq_true]
  intro x hx
  obtain ⟨p,hp,rfl⟩:=List.mem_map.mp hx
  exact less_code (ho a mS1) (ho p (mC1 _ hp)) (h.1 p hp)
theorem find_congr {α:Type}{p q:α->Bool}:∀ {l:List α},(∀ x∈l,p x=q x)->l.find? p=l.find? q
 | [],_=>rfl
 | a::l,h=>by
  rw [List.find?_cons,List.find?_cons,h a mS1,find_congr fun x hx=>h x (mC1 _ hx)]
theorem find_iff {α:Type}{f:α->Nat}{c:Nat}{a:α}:∀ {l:List α},(l.map f).Nodup->((l.find? fun x=>decide (f x=c))=some a↔a∈l/\f a=c)
 | [],_=>by simp
 | b::l,nd=>by
  rw [mP1,List.nodup_cons] at nd
  rw [List.find?_cons]
  by_cases z:f b=c
  ·rw [decide_eq_true z]
   constructor
   ·intro h;cases h;exact ⟨mS1,z⟩
   ·rintro ⟨h1,h2⟩
    rcases List.mem_cons.mp h1 with y | y
    ·rw [y]
    ·exact absurd (List.mem_map.mpr ⟨a,y,h2.trans z.symm⟩) nd.1
  ·rw [decide_eq_false z]
   show (l.find? fun x=>decide (f x=c))=some a↔_
   rw [find_iff nd.2]
   constructor
   ·rintro ⟨h1,h2⟩;exact ⟨mC1 _ h1,h2⟩
   ·rintro ⟨h1,h2⟩
    rcases List.mem_cons.mp h1 with y | y
    ·rw [y] at h2;exact absurd h2 z
    ·exact ⟨y,h2⟩
theorem find_perm {α:Type}{f:α->Nat}{c:Nat}{l m:List α}(p:l.Perm m)(nd:(m.map f).Nodup):(l.find? fun x=>decide (f x=c))=m.find? fun x=>decide (f x=c):=by
 have nl:(l.map f).Nodup:=(p.map f).nodup_iff.mpr nd
 apply Option.ext
 intro a
 rw [find_iff nl,find_iff nd,p.mem_iff]
theorem sort_rows {e:E4}{F:List (TK×D)}(h:RW e F)(hl:F.length<=20):
  ∃ L:List Rw,Inc e L/\(∀ p∈L,RwOk p)/\L.length<=20/\(∀ (n:Nat) (S:Sto),S[n]? = some (dO F)->gSortIt (.ref n) S=some (.ref S.length,S++[.lst (L.map (rowD e))])) /\ ∀ k:Ky,k.Ok->lookD F (k.tk e)=(L.find? fun p=>decide (p.1.code e=k.code e)).map (·.2):=by
 obtain ⟨L,e1,ok⟩:=RW.list h.row
 have ho:∀ p∈L,p.1.Ok:=fun p hp=>(ok p hp).1
 have nd:(L.map fun p=>p.1.code e).Nodup:=by
  have:=h.nd
  rw [<- e1,List.map_map] at this
  refine (List.pairwise_map.mpr ((List.pairwise_map.mp this).imp_of_mem fun {a b} ha hb hne z=>?_))
  exact hne ((tk_code (ho a ha) (ho b hb)).mpr z)
 have pm:=sortG_perm (fun p:Rw=>p.1.tk e) L
 have inc:=srt_inc ho nd
 have sm:=sortG_map (key:=fun q:TK×D=>q.1) (g:=fun p:Rw=>(p.1.tk e,p.2)) L
 rw [e1] at sm
 have lk:∀ k:Ky,k.Ok->lookD F (k.tk e)=((sortG (fun p:Rw=>p.1.tk e) L).find? fun p=>decide (p.1.code e=k.code e)).map (·.2):=fun k hk=>by
  have a1:lookD F (k.tk e)=(L.find? fun p=>decide (p.1.code e=k.code e)).map (·.2):=by
   rw [<- e1]
   unfold lookD
   rw [List.find?_map,Option.map_map]
   have:(L.find? ((fun p:TK×D=>decide (p.1=k.tk e))∘fun p:Rw=>(p.1.tk e,p.2)))=L.find? fun p=>decide (p.1.code e=k.code e):=by
    apply find_congr
    intro p hp
    simp only [Function.comp]
    rw [Bool.eq_iff_iff,decide_eq_true_eq,decide_eq_true_eq]
    exact tk_code (ho p hp) hk
   rw [this]
   rfl
  rw [a1,find_perm (f:=fun p:Rw=>p.1.code e) pm nd]
 have hll:L.length=F.length:=by rw [<- e1,lM1]
 refine ⟨sortG (fun p:Rw=>p.1.tk e) L,inc,fun p hp=>ok p (pm.mem_iff.mp hp),by rw [pm.length_eq];lia,?_,lk⟩
 have hr:riseK ((sortG (·.1) F).map (·.1))=true:=by
  have:=rise_inc (L:=sortG (fun p:Rw=>p.1.tk e) L) (fun p hp=>ho p (pm.mem_iff.mp hp)) inc
  have e2:((sortG (·.1) F).map (·.1))=(sortG (fun p:Rw=>p.1.tk e) L).map fun p=>p.1.tk e:=by rw [<- sm,List.map_map];rfl
  rw [e2];exact this
 have hp:(sortG (·.1) F).map pairK=(sortG (fun p:Rw=>p.1.tk e) L).map (rowD e):=by
  rw [<- sm,List.map_map]
  apply List.map_congr_left
  intro p _
  show D.tup [Mi.tkD (p.1.tk e),p.2]=_
  rw [p.1.tkD]
  rfl
 intro n S hS
 cases F with
 | nil=>
  have hS':S[n]? = some (.dct []):=hS
  have:L=[]:=List.length_eq_zero_iff.mp hll
  subst this
  simp only [gSortIt,hS']
  rfl
 | cons x F=>
  have hS':S[n]? = some (.dcT (x::F)):=hS
  have hc:(riseK ((sortG (·.1) (x::F)).map (·.1))&&((x::F).all (fun p=>isTK p.1)&&decide ((x::F).length<64)))=true:=by
   rw [hr,decide_eq_true (by lia),Bool.and_true,Bool.true_and,List.all_eq_true]
   intro p hp
   obtain ⟨k,_,h2,_⟩:=h.row p hp
   rw [h2];rfl
  simp only [gSortIt,hS']
  rw [if_pos hc,hp]
theorem Inc.le {e:E4}{L:List Rw}(h:Inc e L)(ok:∀ p∈L,RwOk p){i j:Nat}{p q:Rw}(hi:L[i]? = some p)(hj:L[j]? = some q)(hij:i<=j):p.1.m<=q.1.m/\(i<j->p.1.code e<q.1.code e):=by
 have hp:=(ok p (gM1 hi)).1
 have hq:=(ok q (gM1 hj)).1
 by_cases z:i=j
 ·subst z;rw [hi] at hj;cases hj;exact ⟨nR1 _,fun z=>by lia⟩
 ·obtain ⟨h1,e1⟩:=gE1.mp hi
  obtain ⟨h2,e2⟩:=gE1.mp hj
  have:=List.pairwise_iff_getElem.mp h i j h1 h2 (by lia)
  rw [e1,e2] at this
  refine ⟨?_,fun _=>this⟩
  have c1:=cds_4096 hp e
  have c2:=cds_4096 hq e
  unfold Ky.code at this
  lia
theorem ixR {e:E4}{L:List Rw}{i:Nat}{p:Rw}{S:Sto}(h:L[i]? = some p):gIxY (.tup (L.map (rowD e))) (.int (i:Nat)) S=some (rowD e p,S):=by
 obtain ⟨x,e1,e2⟩:=(W_ixT (i:=i) (xs:=L.map (rowD e)) (x:=rowD e p) (S:=S) (Q:=fun x=>x=(rowD e p,S)) (by rw [gP1,h];rfl) rfl)
 rw [e1,e2]
theorem ix0 {e:E4}{p:Rw}{S:Sto}:gIxY (rowD e p) (.int 0) S=some (p.1.d e,S):=rfl
theorem ix1 {e:E4}{p:Rw}{S:Sto}:gIxY (rowD e p) (.int 1) S=some (p.2,S):=rfl
theorem ixm {e:E4}{k:Ky}{S:Sto}:gIxY (k.d e) (.int 0) S=some (.int k.m,S):=rfl
theorem ixs {e:E4}{k:Ky}{S:Sto}:gIxY (k.d e) (.int 1) S=some (k.sg e,S):=rfl
theorem rows_und {e:E4}{L:List Rw}(ok:∀ p∈L,RwOk p)(n:Nat):(D.tup (L.map (rowD e))).und n=true:=by
 rw [D.und]
 refine Mi.unds_map fun p hp=>?_
 have h1:=p.1.und e n
 have h2:=und_mono (n:=n) (ok p hp).2.und
 simp [rowD,D.und,D.unds,h1,h2]
theorem lenR {e:E4}{L:List Rw}{S:Sto}:gLen (.tup (L.map (rowD e))) S=some (.int L.length,S):=by simp [gLen,seqOf]
theorem whl_W {c:FT}{b:FS}{Q:Fl×Ev×Sto->Prop}(I:Nat->Ev->Sto->Prop)(N:Nat)
  (step:∀ k r S,I k r S->W (c r S) fun p=>if p.1=true then k<N/\W (b r p.2) fun q=>q.1 = .nx/\I (k+1) q.2.1 q.2.2 else Q (.nx,r,p.2)):
  ∀ (fuel k:Nat) (r:Ev) (S:Sto),N-k<fuel->I k r S->W (whl c b fuel r S) Q
 | 0,k,r,S,hf,_=>by lia
 | fuel+1,k,r,S,hf,hi=>by
  rw [whl]
  dsimp only
  rw [W_bind]
  obtain ⟨⟨t,S1⟩,e,h⟩:=step k r S hi
  refine ⟨_,e,?_⟩
  dsimp only at h ⊢
  cases t with
  | true=>
   rw [if_pos rfl] at h ⊢
   obtain ⟨hk,⟨f,r1,S2⟩,e2,hf2,hi2⟩:=h
   dsimp only at hf2 hi2
   subst hf2
   rw [e2,oS1]
   exact whl_W I N step fuel (k+1) r1 S2 (by lia) hi2
  | false=>
   rw [if_neg (by decide)] at h ⊢
   exact W_some.mpr h
theorem first_W {e:E4}{L:List Rw}{q:Nat}{S:Sto}{Q:D×Sto->Prop}(inc:Inc e L)(ok:∀ p∈L,RwOk p)(hl:L.length<=20)
  (h:∀ low:Nat,low<=L.length->(∀ i p,L[i]? = some p->i<low->p.1.m<q)->(∀ i p,L[i]? = some p->low<=i->q<=p.1.m)->Q (.int low,S)):W (mCall 2 m_first_of [.tup (L.map (rowD e)),.int (q:Nat)] S) Q:=by
 refine callP rfl (by rw [D.unds,rows_und ok,D.unds,D.und];rfl) ?_
 unfold m_first_of
 refine fnW ?_
 unfold b_first_of
 generalize hR:D.tup (L.map (rowD e))=R
 refine seqW (fun r S=>S=[]/\r=[some R,some (.int (q:Nat)),some (.int ((0:Nat):Int)),none,none]) ?_ ?_
 ·walk_at "own wq"
  rfl
 rintro r S' ⟨rfl,rfl⟩
 refine seqW (fun r S=>S=[]/\r=[some R,some (.int (q:Nat)),some (.int ((0:Nat):Int)),some (.int (L.length:Nat)),none]) ?_ ?_
 ·subst hR
  ((try walk_at "own wq");repeat (simp only [lenR];try walk_at "own wq"))
  rw [lM1]
 rintro r S' ⟨rfl,rfl⟩
 refine seqW (fun r S=>∃ (low:Nat) (y4:Option D),S=[]/\low<=L.length/\(∀ i p,L[i]? = some p->i<low->p.1.m<q)/\(∀ i p,L[i]? = some p->low<=i->q<=p.1.m)/\r=[some R,some (.int (q:Nat)),some (.int (low:Nat)),some (.int (low:Nat)),y4]) ?_ ?_
 ·refine whl_W (fun k r S=>∃ (low high:Nat) (y4:Option D),S=[]/\low<=high/\high<=L.length/\high-low+k<=L.length/\(∀ i p,L[i]? = some p->i<low->p.1.m<q)/\(∀ i p,L[i]? = some p->high<=i->q<=p.1.m)/\r=[some R,some (.int (q:Nat)),some (.int (low:Nat)),some (.int (high:Nat)),y4]) L.length ?_ 100000 0 _ _ (by lia) ⟨0,L.length,_,rfl,by lia,by lia,by lia,fun i p _ z=>by lia,fun i p hp z=>?_,rfl⟩
  ·rintro k r S ⟨low,high,y4,rfl,h1,h2,h3,h4,h5,rfl⟩
   unfold p_first_of_1
   walk_at "own wq"
   by_cases z:low<high
   ·rw [if_pos (by rw [decide_eq_true_eq];lia)]
    refine ⟨by lia,?_⟩
    unfold p_first_of_2
    have hmid:(low+high)/2<L.length:=by lia
    obtain ⟨p,hp⟩:∃ p,L[(low+high)/2]? = some p:=⟨_,gG1 hmid⟩
    have hdv:gDiv (.int ((low:Int)+(high:Int))) (.int 2) []=some (.int (((low+high)/2:Nat):Int),[]):=by
     simp only [gDiv]
     rw [if_pos ⟨by lia,by lia⟩]
     push_cast
     rfl
    subst hR
    ((try walk_at "own wq");repeat (simp only [hdv,ixR hp,ix0,ixm];try walk_at "own wq"))
    by_cases z2:p.1.m<q
    ·rw [if_pos (by rw [decide_eq_true_eq];lia)]
     refine ⟨(low+high)/2+1,high,_,by lia,h2,by lia,fun i p' hp' hi=>?_,h5,by push_cast;rfl⟩
     exact Nat.lt_of_le_of_lt (inc.le ok hp' hp (by lia)).1 z2
    ·rw [if_neg (by rw [decide_eq_true_eq];lia)]
     refine ⟨low,(low+high)/2,_,by lia,by lia,by lia,h4,fun i p' hp' hi=>?_,rfl⟩
     exact Nat.le_trans (by lia) (inc.le ok hp hp' hi).1
   ·rw [if_neg (by rw [decide_eq_true_eq];lia)]
    have:low=high:=by lia
    subst this
    exact ⟨low,_,h2,h4,h5,rfl⟩
  ·have:=(gE1.mp hp).1;lia
 rintro r S' ⟨low,y4,rfl,h1,h2,h3,rfl⟩
 walk_at "own wq"
 exact ⟨rfl,h low h1 h2 h3⟩
theorem whlR_W {c:FT}{b:FS}{Q:Fl×Ev×Sto->Prop}(I:Nat->Ev->Sto->Prop)(N:Nat)
  (step:∀ k r S,I k r S->W (c r S) fun p=>if p.1=true then k<N/\W (b r p.2) fun q=>(q.1 = .nx/\I (k+1) q.2.1 q.2.2) \/ ∃ d,q.1 = .rt d/\Q q else Q (.nx,r,p.2)):
  ∀ (fuel k:Nat) (r:Ev) (S:Sto),N-k<fuel->I k r S->W (whl c b fuel r S) Q
 | 0,k,r,S,hf,_=>by lia
 | fuel+1,k,r,S,hf,hi=>by
  rw [whl]
  dsimp only
  rw [W_bind]
  obtain ⟨⟨t,S1⟩,e,h⟩:=step k r S hi
  refine ⟨_,e,?_⟩
  dsimp only at h ⊢
  cases t with
  | true=>
   rw [if_pos rfl] at h ⊢
   obtain ⟨hk,⟨f,r1,S2⟩,e2,hor⟩:=h
   rw [e2,oS1]
   rcases hor with ⟨hf2,hi2⟩ | ⟨d,hf2,hq⟩
   ·dsimp only at hf2 hi2
    subst hf2
    exact whlR_W I N step fuel (k+1) r1 S2 (by lia) hi2
   ·dsimp only at hf2
    subst hf2
    exact W_some.mpr hq
  | false=>
   rw [if_neg (by decide)] at h ⊢
   exact W_some.mpr h
theorem eq_sg {k l:Ky}{e:E4}{S:Sto}(hk:k.Ok)(hl:l.Ok):gEq (k.sg e) (l.sg e) S=some (.bl (decide (cds e.bs k.xs=cds e.bs l.xs)),S):=by
 show (eqN S (58+1+1) (k.sg e) (l.sg e)).map _=_
 rw [Ky.sg_zip,Ky.sg_zip,eqT,eqL_pt rfl rfl hk.all hl.all]
 rfl
theorem Inc.nd {e:E4}:∀ {L:List Rw},Inc e L->(L.map fun p=>p.1.code e).Nodup:=fun h=>
 List.pairwise_map.mpr (List.Pairwise.imp (fun z=>nN1 z) h)
noncomputable def dflt (k:Ky):D:=.tup [.int k.m,.str "leave",.non]
noncomputable def dueD (e:E4)(L:List Rw)(k:Ky):D:=((L.find? fun p=>decide (p.1.code e=k.code e)).map (·.2)).getD (dflt k)
theorem deedof_W {e:E4}{L:List Rw}{k:Ky}{E:D}{S:Sto}{Q:D×Sto->Prop}(inc:Inc e L)(ok:∀ p∈L,RwOk p)(hl:L.length<=20)(hk:k.Ok)(hE:E.und 0=true)
  (q:Q (dueD e L k,S)):W (mCall 3 m_deed_of [.tup [E,.tup (L.map (rowD e))],.int k.m,k.sg e] S) Q:=by
 refine callP rfl (by
  have r1:=rows_und (e:=e) ok 0
  have r2:=k.sgu e 0
  rw [D.und] at r1
  simp [D.unds,D.und,hE,r1,r2]) ?_
 unfold m_deed_of
 refine fnW ?_
 unfold b_deed_of
 generalize hM:D.tup [E,.tup (L.map (rowD e))]=M
 refine seqW (fun r S=>S=[]/\r=[some M,some (.int k.m),some (k.sg e),some (.tup (L.map (rowD e))),none]) ?_ ?_
 ·subst hM
  have e1:gIxY (.tup [E,.tup (L.map (rowD e))]) (.int 1) []=some (.tup (L.map (rowD e)),[]):=rfl
  ((try walk_at "own wq");repeat (simp only [e1];try walk_at "own wq"))
 rintro r S' ⟨rfl,rfl⟩
 refine seqW (fun r S=>∃ low:Nat,S=[]/\low<=L.length/\(∀ i p,L[i]? = some p->i<low->p.1.m<k.m)/\(∀ i p,L[i]? = some p->low<=i->k.m<=p.1.m)/\r=[some M,some (.int k.m),some (k.sg e),some (.tup (L.map (rowD e))),some (.int (low:Nat))]) ?_ ?_
 ·walk_at "own wq"
  refine first_W inc ok hl fun low h1 h2 h3=>?_
  exact ⟨low,rfl,h1,h2,h3,rfl⟩
 rintro r S' ⟨low,rfl,h1,h2,h3,rfl⟩
 have hnd:=inc.nd
 have none_:(∀ (i:Nat) (p:Rw),L[i]? = some p->p.1.code e≠k.code e)->dueD e L k=dflt k:=fun h=>by
  unfold dueD
  rw [List.find?_eq_none.mpr fun p hp=>?_]
  ·rfl
  ·obtain ⟨i,hi⟩:=List.getElem?_of_mem hp
   rw [decide_eq_true_eq]
   exact h i p hi
 have cmp:∀ p,p∈L->p.1.m≠k.m->p.1.code e≠k.code e:=fun p hp hne z=>by
  have:=(dig (A:=p.1.m) (B:=k.m) (cds_4096 (ok p hp).1 e) (cds_4096 hk e)).1.mp z
  exact hne this.1
 unfold mSeq
 refine W_bind.mpr ?_
 refine whlR_W (fun j r S=>S=[]/\low+j<=L.length/\(∀ i p,L[i]? = some p->i<low+j->p.1.code e≠k.code e)/\r=[some M,some (.int k.m),some (k.sg e),some (.tup (L.map (rowD e))),some (.int ((low+j:Nat):Int))]) L.length ?_ 100000 0 _ _ (by lia) ⟨rfl,by lia,fun i p hp hi=>cmp p (gM1 hp) (by have:=h2 i p hp (by lia);lia),rfl⟩
 rintro j r S ⟨rfl,h4,h5,rfl⟩
 unfold p_deed_of_1
 by_cases hlt:low+j<L.length
 ·obtain ⟨p,hp⟩:∃ p,L[low+j]? = some p:=⟨_,gG1 hlt⟩
  have hpm:=gM1 hp
  ((try walk_at "own wq");repeat (simp only [lenR,ixR hp,ix0,ixm,lM1];try walk_at "own wq"))
  rw [if_pos (by rw [decide_eq_true_eq];lia)]
  by_cases hm:p.1.m=k.m
  ·rw [if_pos (by rw [beq_iff_eq];lia)]
   refine ⟨by lia,?_⟩
   unfold p_deed_of_2
   ((try walk_at "own wq");repeat (simp only [ixR hp,ix0,ixs,ix1,eq_sg (ok p hpm).1 hk];try walk_at "own wq"))
   have hcode:p.1.code e=k.code e↔cds e.bs p.1.xs=cds e.bs k.xs:=by unfold Ky.code;rw [hm];lia
   by_cases hc:cds e.bs p.1.xs=cds e.bs k.xs
   ·rw [if_pos (decide_eq_true hc)]
    right
    have hf:(L.find? fun p=>decide (p.1.code e=k.code e))=some p:=(find_iff (f:=fun p:Rw=>p.1.code e) hnd).mpr ⟨hpm,hcode.mpr hc⟩
    have hd:dueD e L k=p.2:=by unfold dueD;rw [hf];rfl
    rw [hd] at q
    exact ⟨_,rfl,(ok p hpm).2.und,q⟩
   ·rw [if_neg (by rw [decide_eq_true_eq];exact hc)]
    refine W.of (x:=(.nx,[some M,some (.int k.m),some (k.sg e),some (.tup (L.map (rowD e))),some (.int (((low+j:Nat):Int)+1))],[])) rfl ?_
    left
    refine ⟨rfl,rfl,by lia,fun i p' hp' hi=>?_,by push_cast;rfl⟩
    by_cases hij:i=low+j
    ·subst hij
     rw [hp] at hp'
     cases hp'
     exact fun z=>hc (hcode.mp z)
    ·exact h5 i p' hp' (by lia)
  ·rw [if_neg (by rw [beq_iff_eq];lia)]
   have hn:dueD e L k=dflt k:=none_ fun i p' hp'=>by
    by_cases hi:i<low+j
    ·exact h5 i p' hp' hi
    ·have b1:=h3 (low+j) p hp (by lia)
     have b2:=(inc.le ok hp hp' (by lia)).1
     exact cmp p' (gM1 hp') (by lia)
   rw [hn] at q
   exact ⟨rfl,q⟩
 ·((try walk_at "own wq");repeat (simp only [lenR,lM1];try walk_at "own wq"))
  rw [if_neg (by rw [decide_eq_true_eq];lia)]
  have hn:dueD e L k=dflt k:=none_ fun i p' hp'=>by
   have:=(gE1.mp hp').1
   exact h5 i p' hp' (by lia)
  rw [hn] at q
  exact ⟨rfl,q⟩
noncomputable def dm:D->Nat
 | .tup [.int m,_,_]=>m.toNat
 | _=>0
noncomputable def dh:D->Str
 | .tup [_,.str h,_]=>h
 | _=>""
noncomputable def dt:D->Option Nat
 | .tup [_,_,.int t]=>some t.toNat
 | _=>none
noncomputable def tD:Option Nat->D
 | none=>.non
 | some t=>.int (t:Nat)
theorem Deed.eta {x:D}(h:Deed x):x = .tup [.int (dm x:Nat),.str (dh x),tD (dt x)]/\dm x<4000:=by
 obtain ⟨m,y,t,rfl,hm,h1,h2⟩:=h.is
 simp only [hands,List.mem_cons,List.not_mem_nil,or_false] at h1
 simp only [steps,List.mem_cons,List.not_mem_nil,or_false] at h2
 rcases h1 with e | e | e<;>subst e<;>rcases h2 with e | e | e | e | e<;>subst e<;>exact ⟨rfl,hm⟩
noncomputable def stepN (w:Rows2)(u:Wk)(x:D):Wk:=match dt x with
 | some t=>match (w[u.1]?).bind (·[t]?) with
  | some p=>(p.1,p.2+1,dm x)
  | none=>(u.1,u.2.1,dm x)
 | none=>(u.1,u.2.1,dm x)
theorem is_int {t:Nat}{S:Sto}:gIsX (.int (t:Nat)) .non S=some (.bl false,S):=rfl
theorem is_non {S:Sto}:gIsX .non .non S=some (.bl true,S):=rfl
theorem stepped_W {w:Rows2}{u:Wk}{row:List (Nat×Nat)}{x:D}{S:Sto}{Q:D×Sto->Prop}(hr:w[u.1]? = some row)(hx:Deed x)(q:Q (wkD1 (stepN w u x),S)):W (mCall 3 m_stepped [webD w,wkD1 u,x] S) Q:=by
 refine callP rfl (by simp [D.unds,webD_und,hx.und];rfl) ?_
 unfold m_stepped
 refine fnW ?_
 unfold b_stepped
 have ex:=hx.eta.1
 unfold stepN at q
 simp only [hr,oS1] at q
 generalize hm:dm x=m at *
 generalize hh:dh x=h at *
 generalize ht:dt x=t at *
 refine seqW (fun r V=>V=[]/\r=[some (webD w),some (wkD1 u),some x,some (.int u.1),some (.int u.2.1),some (.int u.2.2),none,none,none,none,none]) ?_ ?_
 ·generalize hu:wkD1 u=U
  have hu':U = .tup [.int u.1,.int u.2.1,.int u.2.2]:=hu.symm
  subst hu'
  walk_at "own wq"
 rintro r V ⟨rfl,rfl⟩
 refine seqW (fun r V=>V=[]/\r=[some (webD w),some (wkD1 u),some x,some (.int u.1),some (.int u.2.1),some (.int u.2.2),some (.int (m:Nat)),some (.str h),some (tD t),none,none]) ?_ ?_
 ·subst ex
  walk_at "own wq"
 rintro r V ⟨rfl,rfl⟩
 cases t with
 | none=>
  have e1:tD none = .non:=rfl
  rw [e1]
  ((try walk_at "own wq");repeat (simp only [is_non];try walk_at "own wq"))
  exact ⟨rfl,q⟩
 | some t=>
  have e1:tD (some t) = .int (t:Nat):=rfl
  rw [e1]
  have er:∀ S',gIxY (webD w) (.int (u.1:Nat)) S'=some (.tup (row.map pD),S'):=fun S'=>by
   obtain ⟨p,e,h⟩:W (gIxY (webD w) (.int (u.1:Nat)) S') fun p=>p=(.tup (row.map pD),S'):=W_ixW hr rfl
   rw [e,h]
  dsimp only at q
  by_cases hl:t<row.length
  ·have eg:=gG1 hl
   rw [eg] at q
   refine seqW (fun r V=>V=[]/\r=[some (webD w),some (wkD1 u),some x,some (.int u.1),some (.int u.2.1),some (.int u.2.2),some (.int (m:Nat)),some (.str h),some (.int (t:Nat)),none,none]) ?_ ?_
   ·((try walk_at "own wq");repeat (simp only [is_int,er,len_tup,lM1];try walk_at "own wq"))
    rw [if_neg (by rw [decide_eq_true_eq];lia)]
    trivial
   rintro r V ⟨rfl,rfl⟩
   have e2:∀ S',gIxY (.tup (row.map pD)) (.int (t:Nat)) S'=some (pD row[t],S'):=fun S'=>by
    obtain ⟨p,e,h⟩:W (gIxY (.tup (row.map pD)) (.int (t:Nat)) S') fun p=>p=(pD row[t],S'):=W_ixT (by rw [gP1,eg];rfl) rfl
    rw [e,h]
   generalize row[t]=p at *
   refine seqW (fun r V=>V=[]/\r=[some (webD w),some (wkD1 u),some x,some (.int u.1),some (.int u.2.1),some (.int u.2.2),some (.int (m:Nat)),some (.str h),some (.int (t:Nat)),some (.int p.1),some (.int p.2)]) ?_ ?_
   ·((try walk_at "own wq");repeat (simp only [er,e2,pD];try walk_at "own wq"))
   rintro r V ⟨rfl,rfl⟩
   walk_at "own wq"
   have e3:(1:Int)+(p.2:Int)=((p.2+1:Nat):Int):=by lia
   rw [e3]
   exact ⟨rfl,q⟩
  ·rw [List.getElem?_eq_none (by lia)] at q
   ((try walk_at "own wq");repeat (simp only [is_int,er,len_tup,lM1];try walk_at "own wq"))
   rw [if_pos (by rw [decide_eq_true_eq];lia)]
   exact ⟨rfl,q⟩
theorem notin_nmL {S:Sto}{x n:Nat}{cs:List Nat}(h:S[n]? = some (.lst (nmD cs))):gNotInY (.int x) (.ref n) S=some (.bl (!cs.contains x),S):=by
 simp only [gNotInY,gNotInX,gNotIn,h,seqOf,oS1,deepMost,show (60:Nat)=59+1 from rfl,inL_nm,oP1]
theorem ix_hand {x:D}(h:Deed x)(S:Sto):gIxY x (.int 1) S=some (.str (dh x),S):=by
 have e:=h.eta.1
 generalize dm x=a at e;generalize dt x=c at e;generalize dh x=b at *
 subst e;rfl
theorem ix_room {u:Wk}{S:Sto}:gIxY (wkD1 u) (.int 0) S=some (.int u.1,S):=rfl
theorem ix_mood {u:Wk}{S:Sto}:gIxY (wkD1 u) (.int 2) S=some (.int u.2.2,S):=rfl
noncomputable def mkAt (ws:List Wk)(dd:Wk->D)(h:Str)(r:Nat):Bool:=ws.any fun u=>u.1 == r&&dh (dd u) == h
noncomputable def chalkN (m:Nat)(ws:List Wk)(dd:Wk->D)(cs:List Nat):List Nat:=(List.range m).filter fun r=>mkAt ws dd "mark" r||(cs.contains r && !mkAt ws dd "wipe" r)
theorem nm_app (a b:List Nat):nmD a++nmD b=nmD (a++b):=by simp [nmD]
noncomputable def atH (ws:List Wk)(dd:Wk->D)(h:Str):List Nat:=(ws.filter fun u=>dh (dd u) == h).map (·.1)
theorem atH_mem {ws:List Wk}{dd:Wk->D}{h:Str}{r:Nat}:r∈atH ws dd h↔mkAt ws dd h r=true:=by
 unfold atH mkAt
 rw [List.mem_map,List.any_eq_true]
 constructor
 ·rintro ⟨u,hu,rfl⟩
  obtain ⟨h1,h2⟩:=List.mem_filter.mp hu
  exact ⟨u,h1,by simp [h2]⟩
 ·rintro ⟨u,hu,e⟩
  rw [bA1,beq_iff_eq] at e
  exact ⟨u,List.mem_filter.mpr ⟨hu,e.2⟩,e.1⟩
theorem hand_W {h:Str}{ws:List Wk}{dd:Wk->D}{n:Nat}{S:Sto}{Q:D×Sto->Prop}{m:FA}{r:Ev}(hd:∀ u∈ws,Deed (dd u))(hl:ws.length<=8)(hS:S[n]? = some (.lst (ws.map dd)))(hm:m r S=some ([.tup (wksD ws),.ref n],S))(hr:inEv 2 [] r=[none,none])
  (q:Q (.ref S.length,S++[.lst (nmD (atH ws dd h))])):W (fComp 2 [] (iZp m) (gT 2 (gCs (gN 0) (gCs (gN 1) gNl))) (mB (m2 (b2 gEq) (m2 (b2 gIxY) (mV 1) (mC (D.int (1)))) (mC (D.str h)))) (fEmit (m2 (b2 gIxY) (mV 0) (mC (D.int (0))))) r S) Q:=by
 rw [W_fComp]
 refine W_zipL hm hS ?_
 dsimp only
 rw [hr,wksD,zp_map]
 refine filterW (fun u:Wk=>dh (dd u) == h) (fun u:Wk=>D.int u.1) (fun r=>∃ x y,r=[x,y]) (okC_one hS) ws _ ⟨_,_,rfl⟩ ?_ fun r' _=>?_
 ·rintro u hu r ⟨x,y,rfl⟩
  ((try walk_at "own wq");repeat (simp only [ix_hand (hd u hu)];try walk_at "own wq"))
  refine ⟨⟨_,_,rfl⟩,fun _=>?_⟩
  ((try walk_at "own wq");repeat (simp only [ix_room];try walk_at "own wq"))
 ·have e:(ws.filter fun u:Wk=>dh (dd u) == h).map (fun u:Wk=>D.int (u.1:Nat))=nmD (atH ws dd h):=by unfold nmD atH;rw [List.map_map];rfl
  rw [e]
  have l1:=List.length_filter_le (fun u:Wk=>dh (dd u) == h) ws
  refine ⟨fits_le ?_,q⟩
  dsimp only
  rw [nm_len];unfold atH;rw [lM1];lia
theorem handled_W {m:Nat}{ws:List Wk}{cs:List Nat}{dd:Wk->D}{n:Nat}{S:Sto}{Q:D×Sto->Prop}(hd:∀ u∈ws,Deed (dd u))(hl:ws.length<=8)(hc:cs.length<=8)(hw:∀ u∈ws,u.1<m)(hcs:∀ r∈cs,r<m)(hS:S[n]? = some (.lst (ws.map dd)))(hcl:S.all (Ob.und S.length)=true)
  (q:Q (.tup (nmD (chalkN m ws dd cs)),S)):W (mCall 2 m_handled [wholeD ws cs,.ref n] S) Q:=by
 refine callW rfl (by simp [D.unds,D.und]) ?_
 unfold m_handled
 refine fnW ?_
 unfold b_handled
 have hn:=(gE1.mp hS).1
 refine seqW (fun r V=>V=S/\r=[some (wholeD ws cs),some (.ref n),some (.tup (wksD ws)),some (.tup (nmD cs)),none,none,none]) ?_ ?_
 ·generalize hM:wholeD ws cs=M
  have hM':M = .tup [.tup (wksD ws),.tup (nmD cs)]:=hM.symm
  subst hM'
  walk_at "own wq"
 rintro r V ⟨hV,rfl⟩
 subst hV
 refine seqW (fun r V'=>V'=V++[.lst (nmD (atH ws dd "mark"))]/\r=[some (wholeD ws cs),some (.ref n),some (.tup (wksD ws)),some (.tup (nmD cs)),some (.ref V.length),none,none]) ?_ ?_
 ·unfold mAsg
  refine W_bind.mpr (hand_W hd hl hS rfl rfl ?_)
  walk_at "own wq"
 rintro r V1 ⟨hV1,rfl⟩
 have S1:V1[n]? = some (.lst (ws.map dd)):=by rw [hV1,gL1 hn];exact hS
 have g1:V1[V.length]? = some (.lst (nmD (atH ws dd "mark"))):=by rw [hV1,get_app0];rfl
 refine seqW (fun r V'=>V'=V1++[.lst (nmD (atH ws dd "wipe"))]/\r=[some (wholeD ws cs),some (.ref n),some (.tup (wksD ws)),some (.tup (nmD cs)),some (.ref V.length),some (.ref V1.length),none]) ?_ ?_
 ·unfold mAsg
  refine W_bind.mpr (hand_W hd hl S1 rfl rfl ?_)
  walk_at "own wq"
 rintro r V2 ⟨hV2,rfl⟩
 have g2:V2[V.length]? = some (.lst (nmD (atH ws dd "mark"))):=by rw [hV2,gL1 (gE1.mp g1).1];exact g1
 have g3:V2[V1.length]? = some (.lst (nmD (atH ws dd "wipe"))):=by rw [hV2,get_app0];rfl
 refine seqW (fun r V'=>V'=V2++[.lst (nmD (cs.filter fun r=> !(atH ws dd "wipe").contains r))]/\r=[some (wholeD ws cs),some (.ref n),some (.tup (wksD ws)),some (.tup (nmD cs)),some (.ref V.length),some (.ref V1.length),some (.ref V2.length)]) ?_ ?_
 ·walk_at "own wq"
  rw [sW_tup]
  refine filterW (f:=fun r:Nat=>D.int r) (fun r:Nat=> !(atH ws dd "wipe").contains r) (fun r:Nat=>D.int r) (fun r=>∃ x,r=[x,some (.ref V1.length)]) rfl cs _ ⟨_,rfl⟩ ?_ fun r' _=>?_
  ·rintro u hu r ⟨x,rfl⟩
   ((try walk_at "own wq");repeat (simp only [notin_nmL g3];try walk_at "own wq"))
   exact ⟨⟨_,rfl⟩,fun _=>trivial⟩
  ·walk_at "own wq"
   have l1:=List.length_filter_le (fun r:Nat=> !(atH ws dd "wipe").contains r) cs
   exact ⟨fits_le (by rw [lM1];lia),rfl,trivial⟩
 rintro r V3 ⟨hV3,rfl⟩
 have g4:V3[V.length]? = some (.lst (nmD (atH ws dd "mark"))):=by rw [hV3,gL1 (gE1.mp g2).1];exact g2
 have g5:V3[V2.length]? = some (.lst (nmD (cs.filter fun r=> !(atH ws dd "wipe").contains r))):=by rw [hV3,get_app0];rfl
 have l1:=List.length_filter_le (fun r:Nat=> !(atH ws dd "wipe").contains r) cs
 have l2:(atH ws dd "mark").length<=ws.length:=by unfold atH;rw [lM1];exact List.length_filter_le _ _
 walk_at "own wq"
 refine (W_addL g5 g4).mpr ⟨fits_le (by rw [nm_len,nm_len];lia),?_⟩
 rw [nm_app]
 refine W_sortSet (xs:=cs.filter (fun r=> !(atH ws dd "wipe").contains r)++atH ws dd "mark") (m:=m) (f:=fun r=>mkAt ws dd "mark" r||(cs.contains r && !mkAt ws dd "wipe" r)) (by rw [get_app0];rfl) (fun r=>?_) (by rw [lA1];lia) ?_
 ·have ec:(atH ws dd "wipe").contains r=mkAt ws dd "wipe" r:=by
   rw [Bool.eq_iff_iff,List.contains_iff_mem,atH_mem]
  rw [List.mem_append,List.mem_filter,atH_mem,ec]
  constructor
  ·rintro (⟨h1,h2⟩ | h1)
   ·exact ⟨hcs r h1,by rw [List.contains_iff_mem.mpr h1,h2];simp⟩
   ·refine ⟨?_,by rw [h1];rfl⟩
    unfold mkAt at h1
    obtain ⟨u,hu,e⟩:=List.any_eq_true.mp h1
    rw [bA1,beq_iff_eq] at e
    rw [<- e.1];exact hw u hu
  ·rintro ⟨_,h⟩
   rw [Bool.or_eq_true,bA1] at h
   rcases h with h | ⟨h1,h2⟩
   ·exact .inr h
   ·exact .inl ⟨List.contains_iff_mem.mp h1,h2⟩
 ·walk_at "own wq"
  refine sW_ref (xs:=nmD (chalkN m ws dd cs)) (by rw [get_app];rfl) ?_
  rw [gc_pre (by rw [D.und];exact nm_und _) hcl (by rw [hV3,hV2,hV1];simp only [List.append_assoc];exact List.prefix_append _ _)]
  exact q
theorem moved_W {m:Nat}{w:Rows2}{ws:List Wk}{cs:List Nat}{dd:Wk->D}{n:Nat}{S:Sto}{Q:D×Sto->Prop}(hwl:w.length=m)(hd:∀ u∈ws,Deed (dd u))(hl:ws.length<=8)(hc:cs.length<=8)(hw:∀ u∈ws,u.1<m)(hcs:∀ r∈cs,r<m)(hS:S[n]? = some (.lst (ws.map dd)))(hcl:S.all (Ob.und S.length)=true)
  (q:Q (wholeD (ws.map fun u=>stepN w u (dd u)) (chalkN m ws dd cs),S)):W (mCall 3 m_moved [webD w,wholeD ws cs,.ref n] S) Q:=by
 refine callW rfl (by simp [D.unds,D.und]) ?_
 unfold m_moved
 refine fnW ?_
 unfold b_moved
 have hn:=(gE1.mp hS).1
 refine seqW (fun r V=>V=S/\r=[some (webD w),some (wholeD ws cs),some (.ref n),some (.tup (wksD ws)),some (.tup (nmD cs)),none]) ?_ ?_
 ·generalize hM:wholeD ws cs=M
  have hM':M = .tup [.tup (wksD ws),.tup (nmD cs)]:=hM.symm
  subst hM'
  walk_at "own wq"
 rintro r V ⟨hV,rfl⟩
 subst hV
 refine seqW (fun r V'=>V'=V++[.lst (wksD (ws.map fun u=>stepN w u (dd u)))]/\r=[some (webD w),some (wholeD ws cs),some (.ref n),some (.tup (wksD ws)),some (.tup (nmD cs)),some (.ref V.length)]) ?_ ?_
 ·unfold mAsg
  refine W_bind.mpr ?_
  rw [W_fComp]
  refine W_zipL (xs:=wksD ws) (ys:=ws.map dd) (n:=n) rfl hS ?_
  dsimp only
  rw [wksD,zp_map]
  refine mapW (fun u:Wk=>wkD1 (stepN w u (dd u))) (fun r=>∃ x y,r=[x,y,some (webD w)]) (okC_one hS) ws _ ⟨_,_,rfl⟩ ?_ fun r' _=>?_
  ·rintro u hu r ⟨x,y,rfl⟩
   obtain ⟨row,hrow⟩:∃ row,w[u.1]? = some row:=⟨_,gG1 (by rw [hwl];exact hw u hu)⟩
   walk_at "own wq"
   refine stepped_W hrow (hd u hu) ?_
   exact ⟨rfl,rfl,_,_,rfl⟩
  ·have e:ws.map (fun u:Wk=>wkD1 (stepN w u (dd u)))=wksD (ws.map fun u=>stepN w u (dd u)):=by unfold wksD;rw [List.map_map];rfl
   rw [e]
   refine ⟨fits_le (by dsimp only;rw [wks_len,lM1];lia),?_⟩
   walk_at "own wq"
 rintro r V1 ⟨hV1,rfl⟩
 have S1:V1[n]? = some (.lst (ws.map dd)):=by rw [hV1,gL1 hn];exact hS
 have g1:V1[V.length]? = some (.lst (wksD (ws.map fun u=>stepN w u (dd u)))):=by rw [hV1,get_app0];rfl
 have c1:V1.all (Ob.und V1.length)=true:=by
  rw [hV1,List.all_append,bA1,lA1]
  rw [List.all_eq_true] at hcl
  refine ⟨List.all_eq_true.mpr fun o ho=>obund_le (Nat.le_add_right _ _) (hcl o ho),?_⟩
  rw [List.all_cons,Ob.und,unds_mono (wks_und _)];rfl
 walk_at "own wq"
 refine sW_ref g1 ?_
 refine handled_W hd hl hc hw hcs S1 c1 ?_
 walk_at "own wq"
 have e2:D.tup [.tup (wksD (ws.map fun u=>stepN w u (dd u))),.tup (nmD (chalkN m ws dd cs))]=wholeD (ws.map fun u=>stepN w u (dd u)) (chalkN m ws dd cs):=rfl
 rw [e2,gc_pre whole_und hcl (by rw [hV1];exact List.prefix_append _ _)]
 exact q
noncomputable def eyD (e:E4):D:=.tup (eyesL e.1 e.2.1 e.2.2.1 e.2.2.2)
theorem eyD_und (e:E4):(eyD e).und 0=true:=by unfold eyD;rw [D.und];exact eyes_und _ _ _ _
noncomputable def mcD (e:E4)(L:List Rw):D:=.tup [eyD e,.tup (L.map (rowD e))]
theorem mcD_und {e:E4}{L:List Rw}(ok:∀ p∈L,RwOk p):(mcD e L).und 0=true:=by
 have h1:=eyD_und e
 have h2:=rows_und (e:=e) ok 0
 unfold mcD
 rw [D.und,D.unds,D.unds,h1,h2];rfl
theorem due_is {e:E4}{L:List Rw}{k:Ky}(ok:∀ p∈L,RwOk p)(hk:k.Ok):Deed (dueD e L k):=by
 unfold dueD
 cases h:L.find? fun p=>decide (p.1.code e=k.code e) with
 | none=>exact ⟨k.m,_,_,rfl,hk.m,by simp [hands],by simp [steps]⟩
 | some p=>exact (ok p (List.mem_of_find?_eq_some h)).2
noncomputable def ky (w:Rows2)(ws:List Wk)(cs:List Nat)(u:Wk):Ky:=⟨u.2.2,u.2.1,if cs.contains u.1 then 1 else 0,((w[u.1]?).getD []).length,if 1<crowd ws u.1 then 1 else 0⟩
theorem seen_ky {w:Rows2}{ws:List Wk}{cs:List Nat}{u:Wk}{row:List (Nat×Nat)}{e:E4}(h:w[u.1]? = some row):seenD e.1 e.2.1 e.2.2.1 e.2.2.2 ws cs u row=(ky w ws cs u).sg e:=by
 have c1:∀ b:Bool,((if b=true then 1 else 0:Nat):Int)=if b=true then (1:Int) else 0:=fun b=>by cases b<;>rfl
 have c2:((if 1<crowd ws u.1 then 1 else 0:Nat):Int)=if 1<crowd ws u.1 then (1:Int) else 0:=by split<;>rfl
 unfold seenD sightD Ky.sg sgD ky pt
 rw [h]
 dsimp only
 rw [c1,c2]
 rfl
structure WhOk (m:Nat)(w:Rows2)(ws:List Wk)(cs:List Nat):Prop where
 web:WebOk m w
 m8:m<=8
 few:ws.length<=8
 cl:cs.length<=8
 wk:∀ u∈ws,∃ row,w[u.1]? = some row/\u.2.1<=row.length/\u.2.2<4000
 ch:∀ r∈cs,r<m
theorem WhOk.lt {m:Nat}{w:Rows2}{ws:List Wk}{cs:List Nat}(h:WhOk m w ws cs):∀ u∈ws,u.1<m:=fun u hu=>by
 obtain ⟨row,e,_⟩:=h.wk u hu
 have:=(gE1.mp e).1
 rw [h.web.len] at this
 exact this
theorem WhOk.ky {m:Nat}{w:Rows2}{ws:List Wk}{cs:List Nat}(h:WhOk m w ws cs):∀ u∈ws,(ky w ws cs u).Ok:=fun u hu=>by
 obtain ⟨row,e,h1,h2⟩:=h.wk u hu
 have h3:=h.web.le row (gM1 e)
 refine ⟨h2,?_,?_,?_,?_⟩
 ·show u.2.1<=4;lia
 ·show (if cs.contains u.1 then 1 else 0)<=4;split<;>lia
 ·show ((w[u.1]?).getD []).length<=4;rw [e];exact h3
 ·show (if 1<crowd ws u.1 then 1 else 0)<=4;split<;>lia
theorem wants_W {m:Nat}{w:Rows2}{ws:List Wk}{cs:List Nat}{e:E4}{S:Sto}{Q:D×Sto->Prop}(h:WhOk m w ws cs)(q:Q (.ref S.length,S++[.lst (ws.map fun u=>(ky w ws cs u).d e)])):W (mCall 3 m_wants [webD w,eyD e,wholeD ws cs] S) Q:=by
 refine callL rfl (by simp [D.unds,webD_und,whole_und,eyD_und]) ?_
 unfold m_wants
 refine fnW ?_
 unfold b_wants mRet
 rw [W_bind,W_fComp]
 refine W_enT (xs:=wksD ws) rfl ?_
 dsimp only
 have hf:=h.few
 rw [wksD,en_map]
 refine mapW (fun p:Wk×Nat=>(ky w ws cs p.1).d e) (fun r=>∃ x y,r=[x,y,some (webD w),some (eyD e),some (wholeD ws cs)]) rfl ws.zipIdx _ ⟨_,_,rfl⟩ ?_ fun r' _=>?_
 ·rintro ⟨u,k⟩ hu r ⟨x,y,rfl⟩
  have hk:ws[k]? = some u:=zipIdx_at hu
  obtain ⟨row,er,_⟩:=h.wk u (gM1 hk)
  ((try walk_at "own wq");repeat (simp only [ix_mood];try walk_at "own wq"))
  refine sight_W hk er (by lia) ?_
  walk_at "own wq"
  rw [seen_ky er]
  exact ⟨rfl,_,_,rfl⟩
 ·have ez:(ws.zipIdx.map fun p:Wk×Nat=>(ky w ws cs p.1).d e)=ws.map fun u=>(ky w ws cs u).d e:=zipIdx_fst (fun u=>(ky w ws cs u).d e) ws
  rw [ez]
  refine ⟨fits_le (by dsimp only;rw [lM1];lia),?_⟩
  walk_at "own wq"
  exact ⟨_,rfl,Mi.unds_map fun u _=>Ky.und _ e 0,q⟩
noncomputable def ddW (w:Rows2)(ws:List Wk)(cs:List Nat)(e:E4)(L:List Rw)(u:Wk):D:=dueD e L (ky w ws cs u)
noncomputable def beatD (m:Nat)(w:Rows2)(ws:List Wk)(cs:List Nat)(e:E4)(L:List Rw):D:=wholeD (ws.map fun u=>stepN w u (ddW w ws cs e L u)) (chalkN m ws (ddW w ws cs e L) cs)
theorem beat_W {m:Nat}{w:Rows2}{ws:List Wk}{cs:List Nat}{e:E4}{L:List Rw}{S:Sto}{Q:D×Sto->Prop}(h:WhOk m w ws cs)(inc:Inc e L)(ok:∀ p∈L,RwOk p)(hl:L.length<=20)(q:Q (beatD m w ws cs e L,S)):W (mCall 3 m_beat [webD w,mcD e L,wholeD ws cs] S) Q:=by
 refine callP rfl (by simp [D.unds,webD_und,whole_und,mcD_und ok]) ?_
 unfold m_beat
 refine fnW ?_
 unfold b_beat
 have hf:=h.few
 have hd:∀ u∈ws,Deed (ddW w ws cs e L u):=fun u hu=>due_is ok (h.ky u hu)
 refine seqW (fun r V=>V=[.lst (ws.map fun u=>(ky w ws cs u).d e)]/\r=[some (webD w),some (mcD e L),some (wholeD ws cs),some (.ref 0)]) ?_ ?_
 ·have e0:∀ S,gIxY (mcD e L) (.int 0) S=some (eyD e,S):=fun S=>rfl
  ((try walk_at "own wq");repeat (simp only [e0];try walk_at "own wq"))
  refine wants_W h ?_
  walk_at "own wq"
 rintro r V ⟨rfl,rfl⟩
 unfold mRet
 rw [W_bind]
 have key:W (fComp 2 [1] (iSeq (mV 3)) (gT 2 (gCs (gN 0) (gCs (gN 1) gNl))) mTrue (fEmit (mN (mCall 3 m_deed_of) (mCons (mV 2) (mCons (mV 0) (mCons (mV 1) mNil))))) [some (webD w),some (mcD e L),some (wholeD ws cs),some (.ref 0)] [.lst (ws.map fun u=>(ky w ws cs u).d e)]) fun p=>p=(.ref 1,[.lst (ws.map fun u=>(ky w ws cs u).d e),.lst (ws.map (ddW w ws cs e L))]):=by
  walk_at "own wq"
  refine sW_ref (xs:=ws.map fun u=>(ky w ws cs u).d e) rfl ?_
  refine mapW (ddW w ws cs e L) (fun r=>∃ x y,r=[x,y,some (mcD e L)]) (okC_one rfl) ws _ ⟨_,_,rfl⟩ ?_ fun r' _=>?_
  ·rintro u hu r ⟨x,y,rfl⟩
   unfold Ky.d
   walk_at "own wq"
   refine deedof_W inc ok hl (h.ky u hu) (eyD_und e) ?_
   exact ⟨rfl,rfl,_,_,rfl⟩
  ·refine ⟨fits_le (by dsimp only;rw [lM1];lia),?_⟩
   walk_at "own wq"
 obtain ⟨p,ek,rfl⟩:=key
 generalize fComp 2 [1] (iSeq (mV 3)) (gT 2 (gCs (gN 0) (gCs (gN 1) gNl))) mTrue (fEmit (mN (mCall 3 m_deed_of) (mCons (mV 2) (mCons (mV 0) (mCons (mV 1) mNil)))))=G at *
 ((try walk_at "own wq");repeat (simp only [ek];try walk_at "own wq"))
 refine moved_W h.web.len hd h.few h.cl h.lt h.ch (dd:=ddW w ws cs e L) rfl ?_ ?_
 ·rw [List.all_cons,List.all_cons,Ob.und,Ob.und,Mi.unds_map fun u _=>Ky.und _ e _,Mi.unds_map fun u hu=>und_mono (hd u hu).und];rfl
 ·exact ⟨whole_und,q⟩
theorem inL_str {S:Sto}{n:Nat}{x:Str}:∀ cs:List Str,inL (eqN S (n+1)) (.str x) (cs.map D.str)=some (cs.contains x)
 | []=>rfl
 | c::cs=>by
  have e1:eqN S (n+1) (.str c) (.str x)=some (c == x):=rfl
  have e2:(c == x)=(x == c):=by rw [Bool.eq_iff_iff,beq_iff_eq,beq_iff_eq];exact eq_comm
  rw [mP1,inL,e1,e2,inL_str cs,List.contains_cons];rfl
theorem in_strL {S:Sto}{x:Str}{n:Nat}{cs:List Str}(h:S[n]? = some (.lst (cs.map D.str))):gInY (.str x) (.ref n) S=some (.bl (cs.contains x),S):=by
 simp only [gInY,gInX,gIn,h,seqOf,oS1,deepMost,show (60:Nat)=59+1 from rfl,inL_str,oP1]
theorem notin_strL {S:Sto}{x:Str}{n:Nat}{cs:List Str}(h:S[n]? = some (.lst (cs.map D.str))):gNotInY (.str x) (.ref n) S=some (.bl (!cs.contains x),S):=by
 simp only [gNotInY,gNotInX,gNotIn,h,seqOf,oS1,deepMost,show (60:Nat)=59+1 from rfl,inL_str,oP1]
noncomputable def hsAt (ws:List Wk)(dd:Wk->D)(r:Nat):List Str:=(ws.filter fun u=>u.1 == r).map fun u=>dh (dd u)
theorem hsAt_mk {ws:List Wk}{dd:Wk->D}{r:Nat}{h:Str}:(hsAt ws dd r).contains h=mkAt ws dd h r:=by
 unfold hsAt mkAt
 rw [Bool.eq_iff_iff,List.contains_iff_mem,List.mem_map,List.any_eq_true]
 constructor
 ·rintro ⟨u,hu,e⟩
  obtain ⟨h1,h2⟩:=List.mem_filter.mp hu
  exact ⟨u,h1,by rw [h2,e];simp⟩
 ·rintro ⟨u,hu,e⟩
  rw [bA1,beq_iff_eq (a:=dh (dd u))] at e
  exact ⟨u,List.mem_filter.mpr ⟨hu,e.1⟩,e.2⟩
theorem whole0 {ws:List Wk}{cs:List Nat}{S:Sto}:gIxY (wholeD ws cs) (.int 0) S=some (.tup (wksD ws),S):=rfl
theorem whole1 {ws:List Wk}{cs:List Nat}{S:Sto}:gIxY (wholeD ws cs) (.int 1) S=some (.tup (nmD cs),S):=rfl
theorem chalked_W {m:Nat}{w:Rows2}{ws:List Wk}{cs:List Nat}{dd:Wk->D}{n:Nat}{S:Sto}{Q:D×Sto->Prop}(hwl:w.length=m)(hm:m<=8)(hd:∀ u∈ws,Deed (dd u))(hl:ws.length<=8)(hS:S[n]? = some (.lst (ws.map dd)))(hcl:S.all (Ob.und S.length)=true)
  (q:Q (.tup (nmD (chalkN m ws dd cs)),S)):W (mCall 3 m__law_chalked [webD w,wholeD ws cs,.ref n] S) Q:=by
 refine callW rfl (by simp [D.unds,D.und]) ?_
 unfold m__law_chalked
 refine fnW ?_
 unfold b__law_chalked
 have hn:=(gE1.mp hS).1
 refine seqW (fun r V=>V=S++[.lst (nmD [])]/\r=[some (webD w),some (wholeD ws cs),some (.ref n),some (.ref S.length),none,none]) ?_ ?_
 ·walk_at "own wq"
  exact ⟨rfl,trivial⟩
 rintro r V ⟨hV,rfl⟩
 refine seqW (fun r V=>∃ G y4 y5,V=S ++ .lst (nmD (chalkN m ws dd cs))::G/\r=[some (webD w),some (wholeD ws cs),some (.ref n),some (.ref S.length),y4,y5]) ?_ ?_
 ·((try walk_at "own wq");repeat (simp only [len_web];try walk_at "own wq"))
  rw [nums0,Int.toNat_natCast,hwl]
  refine ⟨bnd_nat (by lia),?_⟩
  refine loopM_W (fun i r V=>∃ G y4 y5,i<=m/\V=S ++ .lst (nmD (chalkN i ws dd cs))::G/\r=[some (webD w),some (wholeD ws cs),some (.ref n),some (.ref S.length),y4,y5]) _ 0 _ _ ⟨[],_,_,by lia,hV,rfl⟩ (fun _ _ _ _=>rfl) ?_ ?_
  ·rintro i d hdd r V' ⟨G,y4,y5,hi,rfl,rfl⟩
   have hlt:=(gE1.mp hdd).1
   rw [lM1,List.length_range] at hlt
   rw [Nat.zero_add] at *
   have hd':d = .int (i:Nat):=by
    rw [gP1,List.getElem?_range hlt] at hdd
    exact (Option.some.inj hdd).symm
   subst hd'
   walk_at "own wq"
   unfold p__law_chalked_1
   have S1:(S++Ob.lst (nmD (chalkN i ws dd cs))::G)[n]? = some (.lst (ws.map dd)):=by rw [gL1 hn];exact hS
   have S0:(S++Ob.lst (nmD (chalkN i ws dd cs))::G)[S.length]? = some (.lst (nmD (chalkN i ws dd cs))):=by rw [get_app0];rfl
   refine seqW (fun r V=>V=S ++ .lst (nmD (chalkN i ws dd cs))::G++[.lst ((hsAt ws dd i).map D.str)]/\r=[some (webD w),some (wholeD ws cs),some (.ref n),some (.ref S.length),some (.int (i:Nat)),some (.ref (S++Ob.lst (nmD (chalkN i ws dd cs))::G).length)]) ?_ ?_
   ·unfold mAsg
    rw [W_bind,W_fComp]
    refine W_zipL (xs:=wksD ws) (ys:=ws.map dd) (n:=n) rfl S1 ?_
    dsimp only
    rw [wksD,zp_map]
    refine filterW (fun u:Wk=>u.1 == i) (fun u:Wk=>D.str (dh (dd u))) (fun r=>∃ x y,r=[x,y,some (.int (i:Nat))]) (okC_one S1) ws _ ⟨_,_,rfl⟩ ?_ fun r' _=>?_
    ·rintro u hu r ⟨x,y,rfl⟩
     ((try walk_at "own wq");repeat (simp only [ix_room];try walk_at "own wq"))
     refine ⟨?_,⟨_,_,rfl⟩,fun _=>?_⟩
     ·rw [Bool.eq_iff_iff,beq_iff_eq,beq_iff_eq];lia
     ·((try walk_at "own wq");repeat (simp only [ix_hand (hd u hu)];try walk_at "own wq"))
    ·have e:(ws.filter fun u:Wk=>u.1 == i).map (fun u:Wk=>D.str (dh (dd u)))=(hsAt ws dd i).map D.str:=by unfold hsAt;rw [List.map_map];rfl
     rw [e]
     have l1:=List.length_filter_le (fun u:Wk=>u.1 == i) ws
     refine ⟨fits_le (by dsimp only;unfold hsAt;rw [lM1,lM1];lia),?_⟩
     walk_at "own wq"
   rintro r V2 ⟨hV2,rfl⟩
   have g2:V2[(S++Ob.lst (nmD (chalkN i ws dd cs))::G).length]? = some (.lst ((hsAt ws dd i).map D.str)):=by rw [hV2,get_app0];rfl
   have g0:V2[S.length]? = some (.lst (nmD (chalkN i ws dd cs))):=by rw [hV2,gL1 (gE1.mp S0).1];exact S0
   have hV2':V2=S++Ob.lst (nmD (chalkN i ws dd cs))::(G++[Ob.lst ((hsAt ws dd i).map D.str)]):=by rw [hV2];simp
   have hset:V2.set S.length (.lst (nmD (chalkN i ws dd cs)++[.int (i:Nat)]))=S++Ob.lst (nmD (chalkN i ws dd cs++[i]))::(G++[Ob.lst ((hsAt ws dd i).map D.str)]):=by
    rw [hV2',List.set_append_right _ _ (nR1 _),Nat.sub_self,List.set_cons_zero]
    simp [nmD]
   have hs:∀ b:Bool,(mkAt ws dd "mark" i||(cs.contains i && !mkAt ws dd "wipe" i))=b->chalkN (i+1) ws dd cs=if b=true then chalkN i ws dd cs++[i] else chalkN i ws dd cs:=fun b hb=>by
    unfold chalkN
    rw [List.range_succ,List.filter_append,List.filter_cons,hb]
    cases b<;>simp
   have hll:(chalkN i ws dd cs).length<=8:=by
    have:=List.length_filter_le (fun r=>mkAt ws dd "mark" r||(cs.contains r && !mkAt ws dd "wipe" r)) (List.range i)
    rw [List.length_range] at this
    exact Nat.le_trans this (by lia)
   generalize hL:(S++Ob.lst (nmD (chalkN i ws dd cs))::G).length=l1 at *
   have app:∀ Q':D×Sto->Prop,Q' (.non,S++Ob.lst (nmD (chalkN i ws dd cs++[i]))::(G++[Ob.lst ((hsAt ws dd i).map D.str)])) ->
     W (mMt (b2 gApp) (mV 3) (mCons (mV 4) mNil) [some (webD w),some (wholeD ws cs),some (.ref n),some (.ref S.length),some (.int (i:Nat)),some (.ref l1)] V2) Q':=fun Q' q'=>by
    refine W_mMt ?_
    walk_at "own wq"
    refine ⟨S.length,_,rfl,g0,?_⟩
    refine (W_app g0).mpr ⟨fits_le (by rw [nm_len];lia),?_⟩
    rw [hset]
    exact q'
   unfold mIfS
   rw [W_bind]
   ((try walk_at "own wq");repeat (simp only [in_strL g2,notin_strL g2,whole1,in_nm,hsAt_mk];try walk_at "own wq"))
   have yes:(mkAt ws dd "mark" i||(cs.contains i && !mkAt ws dd "wipe" i))=true->W (mMt (b2 gApp) (mV 3) (mCons (mV 4) mNil) [some (webD w),some (wholeD ws cs),some (.ref n),some (.ref S.length),some (.int (i:Nat)),some (.ref l1)] V2) fun x=>∃ G y4 y5,i+1<=m/\x.2=S++Ob.lst (nmD (chalkN (i+1) ws dd cs))::G/\[some (webD w),some (wholeD ws cs),some (D.ref n),some (.ref S.length),some (.int (i:Nat)),some (.ref l1)]=[some (webD w),some (wholeD ws cs),some (.ref n),some (.ref S.length),y4,y5]:=fun h=>by
    have h2:=hs true h
    rw [if_pos rfl] at h2
    exact app _ ⟨_,_,_,by lia,by rw [h2],rfl⟩
   have no:(mkAt ws dd "mark" i||(cs.contains i && !mkAt ws dd "wipe" i))=false -> ∃ G y4 y5,i+1<=m/\V2=S++Ob.lst (nmD (chalkN (i+1) ws dd cs))::G/\[some (webD w),some (wholeD ws cs),some (D.ref n),some (.ref S.length),some (.int (i:Nat)),some (.ref l1)]=[some (webD w),some (wholeD ws cs),some (.ref n),some (.ref S.length),y4,y5]:=fun h=>by
    have h2:=hs false h
    rw [if_neg (by decide)] at h2
    exact ⟨_,_,_,by lia,by rw [h2];exact hV2',rfl⟩
   generalize mkAt ws dd "mark" i=b1 at *
   generalize cs.contains i=b2 at *
   generalize mkAt ws dd "wipe" i=b3 at *
   cases b1
   ·rw [if_neg (by decide)]
    cases b2
    ·rw [if_neg (by decide)]
     exact no rfl
    ·rw [if_pos rfl]
     cases b3
     ·rw [if_pos (by decide)];exact yes rfl
     ·rw [if_neg (by decide)];exact no rfl
   ·rw [if_pos rfl]
    exact yes rfl
  ·rintro r V' ⟨G,y4,y5,hi,rfl,rfl⟩
   rw [lM1,List.length_range,Nat.zero_add]
   exact ⟨rfl,_,_,_,rfl,rfl⟩
 rintro r V' ⟨G,y4,y5,hV',rfl⟩
 walk_at "own wq"
 refine sW_ref (xs:=nmD (chalkN m ws dd cs)) (by rw [hV',get_app0];rfl) ?_
 rw [gc_pre (by rw [D.und];exact nm_und _) hcl (by rw [hV'];exact List.prefix_append _ _)]
 exact q
theorem dctT_dO {F:List (TK×D)}{n:Nat}{S:Sto}(h:S[n]? = some (dO F)):dctT S n=some F:=by
 unfold dctT
 rw [h]
 cases F<;>rfl
structure RL (e:E4)(F:List (TK×D))(L:List Rw):Prop where
 inc:Inc e L
 ok:∀ p∈L,RwOk p
 len:L.length<=20
 lk:∀ k:Ky,k.Ok->lookD F (k.tk e)=(L.find? fun p=>decide (p.1.code e=k.code e)).map (·.2)
theorem get_W {e:E4}{F:List (TK×D)}{L:List Rw}{k:Ky}{n:Nat}{S:Sto}{a b c:FE}{r:Ev}{Q:D×Sto->Prop}(rl:RL e F L)(hk:k.Ok)(ha:a r S=some (.ref n,S))(hS:S[n]? = some (dO F))(hb:b r S=some (k.d e,S))(hc:c r S=some (dflt k,S))(q:Q (dueD e L k,S)):W (mDGetT a b c r S) Q:=by
 refine W.of (x:=(dueD e L k,S)) ?_ q
 simp only [mDGetT,ha,hb,hc,oS1,dctT_dO hS,k.keyT e]
 rw [oP1,rl.lk k hk]
 rfl
theorem lbeat_W {m:Nat}{w:Rows2}{ws:List Wk}{cs:List Nat}{e:E4}{F:List (TK×D)}{L:List Rw}{n:Nat}{S:Sto}{Q:D×Sto->Prop}(h:WhOk m w ws cs)(rl:RL e F L)(hS:S[n]? = some (dO F))(hcl:S.all (Ob.und S.length)=true)(q:Q (beatD m w ws cs e L,S)):
  W (mCall 4 m__law_beat [webD w,eyD e,.ref n,wholeD ws cs] S) Q:=by
 refine callW rfl (by simp [D.unds,D.und]) ?_
 unfold m__law_beat
 refine fnW ?_
 unfold b__law_beat
 have hn:=(gE1.mp hS).1
 have hf:=h.few
 have hd:∀ u∈ws,Deed (ddW w ws cs e L u):=fun u hu=>due_is rl.ok (h.ky u hu)
 have sl:∀ a b:Ob,(S++[a,b])[S.length]? = some a:=fun a b=>by rw [get_app0];rfl
 have sl1:∀ a b:Ob,(S++[a,b])[S.length+1]? = some b:=fun a b=>by rw [get_app];rfl
 have st:∀ a b c:Ob,(S++[a,b]).set S.length c=S++[c,b]:=fun a b c=>by rw [List.set_append_right _ _ (nR1 _),Nat.sub_self];rfl
 have st1:∀ a b c:Ob,(S++[a,b]).set (S.length+1) c=S++[a,c]:=fun a b c=>by rw [List.set_append_right _ _ (by lia),show S.length+1-S.length=1 by lia];rfl
 have hSn:∀ a b:Ob,(S++[a,b])[n]? = some (dO F):=fun a b=>by rw [gL1 hn];exact hS
 refine seqW (fun r V=>V=S++[.lst [],.lst []]/\r=[some (webD w),some (eyD e),some (.ref n),some (wholeD ws cs),some (.ref S.length),some (.ref (S.length+1)),none,none,none,none,none,none,none]) ?_ ?_
 ·walk_at "own wq"
 rintro r V ⟨rfl,rfl⟩
 refine seqW (fun r V=>∃ y6 y7,V=S++[.lst (ws.map (ddW w ws cs e L)),.lst []]/\r=[some (webD w),some (eyD e),some (.ref n),some (wholeD ws cs),some (.ref S.length),some (.ref (S.length+1)),y6,y7,none,none,none,none,none]) ?_ ?_
 ·((try walk_at "own wq");repeat (simp only [whole0,len_tup,wks_len];try walk_at "own wq"))
  rw [nums0,Int.toNat_natCast]
  refine ⟨bnd_nat (by lia),?_⟩
  refine loopM_W (fun i r V=>∃ y6 y7,i<=ws.length/\V=S++[.lst ((ws.take i).map (ddW w ws cs e L)),.lst []]/\r=[some (webD w),some (eyD e),some (.ref n),some (wholeD ws cs),some (.ref S.length),some (.ref (S.length+1)),y6,y7,none,none,none,none,none]) _ 0 _ _ ⟨_,_,by lia,rfl,rfl⟩ (fun _ _ _ _=>rfl) ?_ ?_
  ·rintro i d hdd r V' ⟨y6,y7,hi,rfl,rfl⟩
   have hlt:=(gE1.mp hdd).1
   rw [lM1,List.length_range] at hlt
   rw [Nat.zero_add] at *
   have hd':d = .int (i:Nat):=by
    rw [gP1,List.getElem?_range hlt] at hdd
    exact (Option.some.inj hdd).symm
   subst hd'
   walk_at "own wq"
   unfold p__law_beat_1
   obtain ⟨u,hu⟩:∃ u,ws[i]? = some u:=⟨_,gG1 hlt⟩
   have hum:=gM1 hu
   obtain ⟨row,er,_⟩:=h.wk u hum
   have eu:∀ S',gIxY (.tup (wksD ws)) (.int (i:Nat)) S'=some (wkD1 u,S'):=fun S'=>by
    obtain ⟨p,e,h⟩:W (gIxY (.tup (wksD ws)) (.int (i:Nat)) S') fun p=>p=(wkD1 u,S'):=W_ixT (by rw [wksD,gP1,hu];rfl) rfl
    rw [e,h]
   refine seqW (fun r V=>V=S++[.lst ((ws.take i).map (ddW w ws cs e L)),.lst []]/\r=[some (webD w),some (eyD e),some (.ref n),some (wholeD ws cs),some (.ref S.length),some (.ref (S.length+1)),some (.int (i:Nat)),some (.int u.2.2),none,none,none,none,none]) ?_ ?_
   ·((try walk_at "own wq");repeat (simp only [whole0,eu,ix_mood];try walk_at "own wq"))
   rintro r V' ⟨rfl,rfl⟩
   unfold mDrop
   rw [W_bind]
   refine W_mMt ?_
   walk_at "own wq"
   refine ⟨S.length,_,rfl,sl _ _,?_⟩
   have es:W (mTup (mCons (mV 7) (mCons (mN (mCall 4 m__law_sight) (mCons (mV 0) (mCons (mV 1) (mCons (mV 3) (mCons (mV 6) mNil))))) mNil)) [some (webD w),some (eyD e),some (.ref n),some (wholeD ws cs),some (.ref S.length),some (.ref (S.length+1)),some (.int (i:Nat)),some (.int u.2.2),none,none,none,none,none] (S++[.lst ((ws.take i).map (ddW w ws cs e L)),.lst []])) fun p=>p=((ky w ws cs u).d e,S++[.lst ((ws.take i).map (ddW w ws cs e L)),.lst []]):=by
    walk_at "own wq"
    refine lsight_W hu er (by lia) ?_
    walk_at "own wq"
    rw [seen_ky er]
    rfl
   obtain ⟨p,es,rfl⟩:=es
   refine get_W (n:=n) (F:=F) (L:=L) (e:=e) (k:=ky w ws cs u) rl (h.ky u hum) rfl (hSn _ _) es rfl ?_
   walk_at "own wq"
   refine (W_app (sl _ _)).mpr ⟨fits_le (by rw [lM1,List.length_take];lia),?_⟩
   refine ⟨_,_,by lia,?_,rfl⟩
   rw [st,List.take_succ,hu,List.map_append]
   rfl
  ·rintro r V' ⟨y6,y7,hi,rfl,rfl⟩
   rw [lM1,List.length_range,Nat.zero_add,List.take_length]
   exact ⟨rfl,_,_,rfl,rfl⟩
 rintro r V ⟨y6,y7,rfl,rfl⟩
 refine seqW (fun r V=>∃ y6 y7 y8 y9 y10 y11 y12,V=S++[.lst (ws.map (ddW w ws cs e L)),.lst (wksD (ws.map fun u=>stepN w u (ddW w ws cs e L u)))]/\r=[some (webD w),some (eyD e),some (.ref n),some (wholeD ws cs),some (.ref S.length),some (.ref (S.length+1)),y6,y7,y8,y9,y10,y11,y12]) ?_ ?_
 ·unfold mFor
  rw [W_bind]
  refine W_zipL (xs:=wksD ws) (ys:=ws.map (ddW w ws cs e L)) (n:=S.length) rfl (sl _ _) ?_
  dsimp only
  have ezz:zpD (wksD ws) (ws.map (ddW w ws cs e L))=ws.map fun u=>D.tup [wkD1 u,ddW w ws cs e L u]:=zp_map ws
  rw [ezz]
  refine loopM_W (fun i r V=>∃ y6 y7 y8 y9 y10 y11 y12,i<=ws.length/\V=S++[.lst (ws.map (ddW w ws cs e L)),.lst (wksD ((ws.take i).map fun u=>stepN w u (ddW w ws cs e L u)))]/\r=[some (webD w),some (eyD e),some (.ref n),some (wholeD ws cs),some (.ref S.length),some (.ref (S.length+1)),y6,y7,y8,y9,y10,y11,y12]) _ 0 _ _ ⟨_,_,_,_,_,_,_,by lia,rfl,rfl⟩ (fun _ _ V ⟨_,_,_,_,_,_,_,_,hv,_⟩=>by rw [hv];exact okC_one (sl _ _)) ?_ ?_
  ·rintro i d hdd r V' ⟨y6,y7,y8,y9,y10,y11,y12,hi,rfl,rfl⟩
   have hlt:=(gE1.mp hdd).1
   rw [lM1] at hlt
   rw [Nat.zero_add] at *
   obtain ⟨u,hu⟩:∃ u,ws[i]? = some u:=⟨_,gG1 hlt⟩
   have hum:=gM1 hu
   obtain ⟨row,er,_⟩:=h.wk u hum
   rw [gP1,hu] at hdd
   obtain rfl:d=D.tup [wkD1 u,ddW w ws cs e L u]:=(Option.some.inj hdd).symm
   have hx:=hd u hum
   have eS:stepN w u (ddW w ws cs e L u)=match dt (ddW w ws cs e L u) with
     | some t=>match row[t]? with
      | some p=>(p.1,p.2+1,dm (ddW w ws cs e L u))
      | none=>(u.1,u.2.1,dm (ddW w ws cs e L u))
     | none=>(u.1,u.2.1,dm (ddW w ws cs e L u)):=by
    unfold stepN
    rw [er]
    rfl
   have eT:(ws.take (i+1)).map (fun u=>stepN w u (ddW w ws cs e L u))=(ws.take i).map (fun u=>stepN w u (ddW w ws cs e L u))++[stepN w u (ddW w ws cs e L u)]:=by
    rw [List.take_succ,hu,List.map_append];rfl
   have ex:=hx.eta.1
   generalize hX:ddW w ws cs e L u=X at *
   generalize hm:dm X=dmx at *
   generalize hh:dh X=dhx at *
   generalize ht:dt X=dtx at *
   have eu:wkD1 u = .tup [.int u.1,.int u.2.1,.int u.2.2]:=rfl
   rw [eu,ex]
   walk_at "own wq"
   unfold p__law_beat_2
   have er2:∀ S',gIxY (webD w) (.int (u.1:Nat)) S'=some (.tup (row.map pD),S'):=fun S'=>by
    obtain ⟨p,e,h⟩:W (gIxY (webD w) (.int (u.1:Nat)) S') fun p=>p=(.tup (row.map pD),S'):=W_ixW er rfl
    rw [e,h]
   have lw:((ws.take i).map fun u=>stepN w u (ddW w ws cs e L u)).length<=8:=by rw [lM1,List.length_take];lia
   have fin:∀ (a b:Nat) (y6:Option D),stepN w u X=(a,b,dmx)->W (mDrop (mMt (b2 gApp) (mV 5) (mCons (mTup (mCons (mV 8) (mCons (mV 9) (mCons (mV 10) mNil)))) mNil)) [some (webD w),some (eyD e),some (.ref n),some (wholeD ws cs),some (.ref S.length),some (.ref (S.length+1)),y6,some (.int u.2.2),some (.int (a:Nat)),some (.int (b:Nat)),some (.int (dmx:Nat)),some (.str dhx),some (tD dtx)] (S++[.lst (ws.map (ddW w ws cs e L)),.lst (wksD ((ws.take i).map fun u=>stepN w u (ddW w ws cs e L u)))])) fun q=>q.1 = .nx /\ ∃ y6 y7 y8 y9 y10 y11 y12,i+1<=ws.length/\q.2.2=S++[.lst (ws.map (ddW w ws cs e L)),.lst (wksD ((ws.take (i+1)).map fun u=>stepN w u (ddW w ws cs e L u)))]/\q.2.1=[some (webD w),some (eyD e),some (.ref n),some (wholeD ws cs),some (.ref S.length),some (.ref (S.length+1)),y6,y7,y8,y9,y10,y11,y12]:=by
    intro a b y6 hst
    unfold mDrop
    rw [W_bind]
    refine W_mMt ?_
    walk_at "own wq"
    refine ⟨S.length+1,_,rfl,sl1 _ _,?_⟩
    refine (W_app (sl1 _ _)).mpr ⟨fits_le (by rw [wks_len];lia),?_⟩
    refine ⟨_,_,_,_,_,_,_,by lia,?_,rfl⟩
    rw [st1,eT,hst]
    simp [wksD,wkD1]
   cases dtx with
   | none=>
    dsimp only at eS
    refine seqW (fun r V=>V=S++[.lst (ws.map (ddW w ws cs e L)),.lst (wksD ((ws.take i).map fun u=>stepN w u (ddW w ws cs e L u)))]/\r=[some (webD w),some (eyD e),some (.ref n),some (wholeD ws cs),some (.ref S.length),some (.ref (S.length+1)),y6,some (.int u.2.2),some (.int u.1),some (.int u.2.1),some (.int (dmx:Nat)),some (.str dhx),some (tD none)]) ?_ ?_
    ·have en:gIsNotX (tD none) .non (S++[.lst (ws.map (ddW w ws cs e L)),.lst (wksD ((ws.take i).map fun u=>stepN w u (ddW w ws cs e L u)))])=some (.bl false,S++[.lst (ws.map (ddW w ws cs e L)),.lst (wksD ((ws.take i).map fun u=>stepN w u (ddW w ws cs e L u)))]):=rfl
     ((try walk_at "own wq");repeat (simp only [en];try walk_at "own wq"))
    rintro r V ⟨rfl,rfl⟩
    exact fin u.1 u.2.1 y6 eS
   | some t=>
    dsimp only at eS
    have en:∀ S',gIsNotX (tD (some t)) .non S'=some (.bl true,S'):=fun S'=>rfl
    have el:∀ S',gLt (tD (some t)) (.int (row.length:Nat)) S'=some (.bl (decide ((t:Int)<(row.length:Int))),S'):=fun S'=>rfl
    by_cases hl:t<row.length
    ·have eg:=gG1 hl
     rw [eg] at eS
     have e2:∀ S',gIxY (.tup (row.map pD)) (tD (some t)) S'=some (pD row[t],S'):=fun S'=>by
      obtain ⟨p,e,h⟩:W (gIxY (.tup (row.map pD)) (.int (t:Nat)) S') fun p=>p=(pD row[t],S'):=W_ixT (by rw [gP1,eg];rfl) rfl
      show gIxY (.tup (row.map pD)) (.int (t:Nat)) S'=_
      rw [e,h]
     generalize row[t]=p at *
     refine seqW (fun r V=>V=S++[.lst (ws.map (ddW w ws cs e L)),.lst (wksD ((ws.take i).map fun u=>stepN w u (ddW w ws cs e L u)))]/\r=[some (webD w),some (eyD e),some (.ref n),some (wholeD ws cs),some (.ref S.length),some (.ref (S.length+1)),y6,some (.int u.2.2),some (.int p.1),some (.int ((p.2+1:Nat):Int)),some (.int (dmx:Nat)),some (.str dhx),some (tD (some t))]) ?_ ?_
     ·have p0:∀ S',gIxY (pD p) (.int 0) S'=some (.int p.1,S'):=fun S'=>rfl
      have p1:∀ S',gIxY (pD p) (.int 1) S'=some (.int p.2,S'):=fun S'=>rfl
      ((try walk_at "own wq");repeat (simp only [en,er2,len_tup,lM1,el];try walk_at "own wq"))
      rw [if_pos (by rw [decide_eq_true_eq];lia)]
      ((try walk_at "own wq");repeat (simp only [er2,e2,p0,p1];try walk_at "own wq"))
      rw [show (1:Int)+(p.2:Int)=((p.2+1:Nat):Int) by lia]
     rintro r V ⟨rfl,rfl⟩
     exact fin p.1 (p.2+1) y6 eS
    ·rw [List.getElem?_eq_none (by lia)] at eS
     refine seqW (fun r V=>V=S++[.lst (ws.map (ddW w ws cs e L)),.lst (wksD ((ws.take i).map fun u=>stepN w u (ddW w ws cs e L u)))]/\r=[some (webD w),some (eyD e),some (.ref n),some (wholeD ws cs),some (.ref S.length),some (.ref (S.length+1)),y6,some (.int u.2.2),some (.int u.1),some (.int u.2.1),some (.int (dmx:Nat)),some (.str dhx),some (tD (some t))]) ?_ ?_
     ·((try walk_at "own wq");repeat (simp only [en,er2,len_tup,lM1,el];try walk_at "own wq"))
      rw [if_neg (by rw [decide_eq_true_eq];lia)]
      trivial
     rintro r V ⟨rfl,rfl⟩
     exact fin u.1 u.2.1 y6 eS
  ·rintro r V' ⟨y6,y7,y8,y9,y10,y11,y12,hi,rfl,rfl⟩
   rw [lM1,Nat.zero_add,List.take_length]
   exact ⟨rfl,_,_,_,_,_,_,_,rfl,rfl⟩
 rintro r V ⟨y6,y7,y8,y9,y10,y11,y12,rfl,rfl⟩
 walk_at "own wq"
 refine sW_ref (sl1 _ _) ?_
 refine chalked_W (dd:=ddW w ws cs e L) h.web.len h.m8 hd h.few (sl _ _) ?_ ?_
 ·rw [List.all_append,bA1,lA1]
  rw [List.all_eq_true] at hcl
  refine ⟨List.all_eq_true.mpr fun o ho=>obund_le (Nat.le_add_right _ _) (hcl o ho),?_⟩
  rw [List.all_cons,List.all_cons,Ob.und,Ob.und,unds_mono (wks_und _),Mi.unds_map fun u hu=>und_mono (hd u hu).und];rfl
 walk_at "own wq"
 have e2:D.tup [.tup (wksD (ws.map fun u=>stepN w u (ddW w ws cs e L u))),.tup (nmD (chalkN m ws (ddW w ws cs e L) cs))]=beatD m w ws cs e L:=rfl
 rw [e2,gc_pre (d:=beatD m w ws cs e L) whole_und hcl (List.prefix_append _ _)]
 exact q
theorem deed_W {o:Ob}{n:Nat}{T:Sto}{Q:D×Sto->Prop}(ho:Hnd o n)(hn:n<=2^45)(hT:T.all (Ob.und (T.length+1))=true)(q:∀ x o',Deed x->Hnd o' (n+5)->Q (x,o'::T)):W (mCall 1 m__law_deed [.ref 0] (o::T)) Q:=by
 refine callH rfl rfl hT ?_
 unfold m__law_deed
 refine fnW ?_
 unfold b__law_deed
 refine seqW (fun r S=>∃ (m:Nat) (o1:Ob) (G:Sto),m<4000/\Hnd o1 (n+3)/\S=o1::(T++G)/\r=[some (.ref 0),some (.int (m:Nat))]) ?_ ?_
 ·walk_at "own wq"
  refine take_W ho (by lia) (by lia) (by lia) fun e1 o5 ho5 he1=>?_
  refine take_W ho5 (by lia) (by lia) (by lia) fun e2 o6 ho6 he2=>?_
  walk_at "own wq"
  refine take_W ho6 (by lia) (by lia) (by lia) fun e3 o7 ho7 he3=>?_
  walk_at "own wq"
  by_cases hz:((e3:Int) == 0)=true
  ·rw [if_pos hz]
   refine W_ixL (i:=1) (xs:=[.int e1,.int e2]) (x:=.int e2) (by rw [gC1,get_app0];rfl) rfl ?_
   exact ⟨e2,o7,_,by lia,ho7.more (by lia),rfl,rfl⟩
  ·rw [if_neg hz]
   refine W_ixL (i:=0) (xs:=[.int e1,.int e2]) (x:=.int e1) (by rw [gC1,get_app0];rfl) rfl ?_
   exact ⟨e1,o7,_,by lia,ho7.more (by lia),rfl,rfl⟩
 rintro r S ⟨m,o1,G,hm,ho1,rfl,rfl⟩
 walk_at "own wq"
 refine take_W ho1 (by lia) (by lia) (by lia) fun x o2 ho2 hx=>?_
 refine W_ixT (i:=x) (xs:=hands) (x:=hands[x]'(by show x<3;lia)) (gG1 _) ?_
 walk_at "own wq"
 refine take_W ho2 (by lia) (by lia) (by lia) fun y o3 ho3 hy=>?_
 refine W_ixT (i:=y) (xs:=steps) (x:=steps[y]'(by show y<5;lia)) (gG1 _) ?_
 walk_at "own wq"
 have hd:Deed (.tup [.int (m:Nat),hands[x]'(by show x<3;lia),steps[y]'(by show y<5;lia)]):=⟨m,_,_,rfl,hm,List.getElem_mem _,List.getElem_mem _⟩
 exact ⟨_,o3,G,rfl,hd.und,ho3.und,q _ o3 hd ho3⟩
theorem RW.nil {e:E4}:RW e []:=⟨fun p hp=>(by cases hp),List.nodup_nil⟩
theorem WholeOk.wh {m:Nat}{w:Rows2}{ws:List Wk}{cs:List Nat}(h:WholeOk w ws cs)(hw:WebOk m w)(hm:m<=8):WhOk m w ws cs:=by
 have h1:=h.few
 have h2:=h.ch.length_le
 have h3:=hw.len
 rw [List.length_range] at h2
 exact ⟨hw,hm,by lia,by lia,h.wk,fun r hr=>by have:=h.ch.subset hr;rw [List.mem_range] at this;lia⟩
theorem stepN_ok {m:Nat}{w:Rows2}{ws:List Wk}{cs:List Nat}(h:WhOk m w ws cs){u:Wk}(hu:u∈ws){x:D}(hx:Deed x):(stepN w u x).1<8/\(stepN w u x).2.1<=100/\(stepN w u x).2.2<4000:=by
 have hm:=hx.eta.2
 obtain ⟨row,er,h1,h2⟩:=h.wk u hu
 have hrl:=h.web.le row (gM1 er)
 have hm8:=h.m8
 have hlt:=h.lt u hu
 have base:(u.1,u.2.1,dm x).1<8/\(u.1,u.2.1,dm x).2.1<=100/\(u.1,u.2.1,dm x).2.2<4000:=⟨by show u.1<8;lia,by show u.2.1<=100;lia,hm⟩
 unfold stepN
 rw [er]
 cases dt x with
 | none=>exact base
 | some t=>
  show (match row[t]? with | some p=>(p.1,p.2+1,dm x) | none=>(u.1,u.2.1,dm x)).1<8/\(match row[t]? with | some p=>(p.1,p.2+1,dm x) | none=>(u.1,u.2.1,dm x)).2.1<=100/\(match row[t]? with | some p=>(p.1,p.2+1,dm x) | none=>(u.1,u.2.1,dm x)).2.2<4000
  cases ep:row[t]? with
  | none=>exact base
  | some p=>
   obtain ⟨r,e1,e2⟩:=h.web.to row (gM1 er) p (gM1 ep)
   have h3:=(gE1.mp e1).1
   have h4:=h.web.le r (gM1 e1)
   rw [h.web.len] at h3
   exact ⟨by show p.1<8;lia,by show p.2+1<=100;lia,hm⟩
theorem beat_repr {m:Nat}{w:Rows2}{ws:List Wk}{cs:List Nat}{e:E4}{L:List Rw}(h:WhOk m w ws cs)(ok:∀ p∈L,RwOk p):∃ t,∀ S,gRepr (beatD m w ws cs e L) S=some (.str t,S):=by
 have hf:=h.few
 have hm:=h.m8
 unfold beatD wholeD
 have sI:∀ x:Nat,x<4000->smD (.int (x:Nat))=true:=fun x hx=>by unfold smD;rw [decide_eq_true_eq];lia
 have hs:∀ u∈ws.map fun u=>stepN w u (ddW w ws cs e L u),smD (wkD1 u)=true/\cntD (wkD1 u)<=10/\dpD (wkD1 u)<=3:=fun v hv=>by
  obtain ⟨u,hu,rfl⟩:=List.mem_map.mp hv
  obtain ⟨a,b,c⟩:=stepN_ok h hu (due_is (e:=e) ok (h.ky u hu))
  refine ⟨?_,?_,?_⟩
  ·unfold wkD1;rw [smD];simp only [smDs,Bool.and_true,bA1]
   exact ⟨sI _ (by unfold ddW;lia),sI _ (by unfold ddW;lia),sI _ c⟩
  ·exact (by decide:3<=10)
  ·exact (by decide:1<=3)
 have hc:∀ r∈chalkN m ws (ddW w ws cs e L) cs,r<8:=fun r hr=>by
  have:=(List.mem_filter.mp hr).1
  rw [List.mem_range] at this;lia
 have lc:(chalkN m ws (ddW w ws cs e L) cs).length<=8:=by
  have:=List.length_filter_le (fun r=>mkAt ws (ddW w ws cs e L) "mark" r||(cs.contains r && !mkAt ws (ddW w ws cs e L) "wipe" r)) (List.range m)
  rw [List.length_range] at this
  exact Nat.le_trans this hm
 have a1:=smDs_map (f:=wkD1) (l:=ws.map fun u=>stepN w u (ddW w ws cs e L u)) fun v hv=>(hs v hv).1
 have a2:=cntDs_map (f:=wkD1) (k:=10) (l:=ws.map fun u=>stepN w u (ddW w ws cs e L u)) fun v hv=>(hs v hv).2.1
 have a3:=dpDs_map (f:=wkD1) (k:=3) (l:=ws.map fun u=>stepN w u (ddW w ws cs e L u)) fun v hv=>(hs v hv).2.2
 have b1:=smDs_map (f:=fun r:Nat=>D.int r) (l:=chalkN m ws (ddW w ws cs e L) cs) fun v hv=>sI v (by have:=hc v hv;lia)
 have b2:=cntDs_map (f:=fun r:Nat=>D.int r) (k:=0) (l:=chalkN m ws (ddW w ws cs e L) cs) fun v hv=>nR1 _
 have b3:=dpDs_map (f:=fun r:Nat=>D.int r) (k:=0) (l:=chalkN m ws (ddW w ws cs e L) cs) fun v hv=>nR1 _
 rw [lM1] at a2
 refine repr_ok ?_ ?_ ?_
 ·simp only [smDs,smD,wksD,nmD,a1,b1,Bool.and_self]
 ·simp only [cntDs,cntD,wksD,nmD];lia
 ·simp only [dpDs,dpD,wksD,nmD];lia
theorem RL.nil {e:E4}:RL e [] []:=⟨.nil,fun p hp=>(by cases hp),Nat.zero_le _,fun k _=>rfl⟩
theorem seen_repr {a b c d:Bool}{ws:List Wk}{cs:List Nat}{u:Wk}{row:List (Nat×Nat)}(h1:u.2.1<=100)(h2:row.length<=100):∃ t,∀ S,gRepr (seenD a b c d ws cs u row) S=some (.str t,S):=by
 unfold seenD sightD
 have s:∀ (f:Bool) (n:Nat),n<=100->smD (if f then D.int (n:Int) else D.non)=true:=fun f n hn=>by
  cases f
  ·rfl
  ·simp [smD];lia
 have k:∀ (f:Bool) (x:Int),cntD (if f then D.int x else D.non)=0:=fun f x=>by cases f<;>rfl
 have e:∀ (f:Bool) (x:Int),dpD (if f then D.int x else D.non)=0:=fun f x=>by cases f<;>rfl
 have b1:(if cs.contains u.1 then (1:Int) else 0)=((if cs.contains u.1 then 1 else 0:Nat):Int):=by split<;>rfl
 have b2:(if 1<crowd ws u.1 then (1:Int) else 0)=((if 1<crowd ws u.1 then 1 else 0:Nat):Int):=by split<;>rfl
 rw [b1,b2]
 refine repr_ok ?_ ?_ ?_
 ·simp only [smDs,s a _ h1,s b _ (show (if cs.contains u.1 then 1 else 0:Nat)<=100 by split<;>lia),s c _ h2,s d _ (show (if 1<crowd ws u.1 then 1 else 0:Nat)<=100 by split<;>lia),Bool.and_self]
 ·simp only [cntDs,k];lia
 ·simp only [dpDs,e];lia
noncomputable def pi (os:List Nat)(r:Nat):Nat:=os.getD r 0
noncomputable def Ord (m:Nat)(os:List Nat):Prop:=os.Perm (List.range m)
section
variable {m:Nat} {os:List Nat}
theorem Ord.len (h:Ord m os):os.length=m:=by have:=List.Perm.length_eq h;rwa [List.length_range] at this
theorem Ord.nd (h:Ord m os):os.Nodup:=(List.Perm.nodup_iff h).mpr List.nodup_range
theorem Ord.at (h:Ord m os){r:Nat}(hr:r<m):os[r]? = some (pi os r):=by
 have hl:r<os.length:=by rw [h.len];exact hr
 unfold pi
 rw [gG1 hl]
 simp [List.getD,hl]
theorem Ord.lt (h:Ord m os){r:Nat}(hr:r<m):pi os r<m:=by
 have:=(List.Perm.mem_iff h).mp (gM1 (h.at hr))
 rwa [List.mem_range] at this
theorem Ord.inj (h:Ord m os){r s:Nat}(hr:r<m)(hs:s<m)(e:pi os r=pi os s):r=s:=by
 have a:=h.at hr
 have b:=h.at hs
 rw [e] at a
 obtain ⟨la,ea⟩:=gE1.mp a
 obtain ⟨lb,eb⟩:=gE1.mp b
 exact (List.getElem_inj h.nd).mp (ea.trans eb.symm)
theorem Ord.sur (h:Ord m os){r':Nat}(hr:r'<m):∃ r,r<m/\pi os r=r':=by
 obtain ⟨r,e⟩:=List.getElem?_of_mem ((List.Perm.mem_iff h).mpr (List.mem_range.mpr hr))
 have hl:=(gE1.mp e).1
 rw [h.len] at hl
 refine ⟨r,hl,?_⟩
 rw [h.at hl] at e
 exact Option.some.inj e
theorem Ord.idx (h:Ord m os){r:Nat}(hr:r<m):os.findIdx? (· == pi os r)=some r:=by
 have hl:r<os.length:=by rw [h.len];exact hr
 obtain ⟨_,e⟩:=gE1.mp (h.at hr)
 rw [List.findIdx?_eq_some_iff_getElem]
 refine ⟨hl,by rw [e];simp,fun j hj=>?_⟩
 rw [Bool.not_eq_true,beq_eq_false_iff_ne]
 intro z
 have hjm:j<m:=by lia
 obtain ⟨_,ej⟩:=gE1.mp (h.at hjm)
 have:=h.inj hjm hr (ej.symm.trans z)
 lia
end
noncomputable def rn (os:List Nat)(u:Wk):Wk:=(pi os u.1,u.2.1,u.2.2)
noncomputable def renRow (os:List Nat)(row:List (Nat×Nat)):List (Nat×Nat):=row.map fun p=>(pi os p.1,p.2)
noncomputable def renW (m:Nat)(os:List Nat)(w:Rows2):Rows2:=(List.range m).map fun r=>renRow os ((w[(os.findIdx? (· == r)).getD 0]?).getD [])
noncomputable def renC (m:Nat)(os:List Nat)(cs:List Nat):List Nat:=(List.range m).filter fun r=>(cs.map (pi os)).contains r
section
variable {m:Nat} {os:List Nat} {w:Rows2} {ws:List Wk} {cs:List Nat} {e:E4} {L:List Rw}
theorem renW_at (h:Ord m os){r:Nat}{row:List (Nat×Nat)}(hr:r<m)(e:w[r]? = some row):(renW m os w)[pi os r]? = some (renRow os row):=by
 unfold renW
 rw [gP1,List.getElem?_range (h.lt hr),oP1,h.idx hr,Option.getD_some,e]
 rfl
theorem con_pi (h:Ord m os){xs:List Nat}(hx:∀ c∈xs,c<m){r:Nat}(hr:r<m):(xs.map (pi os)).contains (pi os r)=xs.contains r:=by
 rw [Bool.eq_iff_iff,List.contains_iff_mem,List.contains_iff_mem,List.mem_map]
 exact ⟨fun ⟨c,h1,h2⟩=>by rw [<- h.inj (hx c h1) hr h2];exact h1,fun h1=>⟨r,h1,rfl⟩⟩
theorem renC_con (h:Ord m os)(hx:∀ c∈cs,c<m){r:Nat}(hr:r<m):(renC m os cs).contains (pi os r)=cs.contains r:=by
 unfold renC
 rw [Bool.eq_iff_iff,List.contains_iff_mem,List.mem_filter,List.mem_range,con_pi h hx hr]
 exact ⟨fun z=>z.2,fun z=>⟨h.lt hr,z⟩⟩
theorem eq_pi (h:Ord m os){r s:Nat}(hr:r<m)(hs:s<m):(pi os r == pi os s)=(r == s):=by
 rw [Bool.eq_iff_iff,beq_iff_eq,beq_iff_eq]
 exact ⟨h.inj hr hs,fun z=>by rw [z]⟩
theorem crowd_rn (h:Ord m os)(hw:∀ u∈ws,u.1<m){r:Nat}(hr:r<m):crowd (ws.map (rn os)) (pi os r)=crowd ws r:=by
 unfold crowd
 rw [List.filter_map,lM1]
 congr 1
 apply List.filter_congr
 intro u hu
 exact eq_pi h (hw u hu) hr
theorem ky_rn (h:Ord m os)(wh:WhOk m w ws cs){u:Wk}(hu:u∈ws):ky (renW m os w) (ws.map (rn os)) (renC m os cs) (rn os u)=ky w ws cs u:=by
 have hlt:=wh.lt u hu
 obtain ⟨row,er,_⟩:=wh.wk u hu
 have e1:(rn os u).1=pi os u.1:=rfl
 unfold ky
 rw [e1,renC_con h wh.ch hlt,renW_at h hlt er,er,crowd_rn h wh.lt hlt]
 show Ky.mk u.2.2 u.2.1 _ (renRow os row).length _=_
 unfold renRow
 rw [lM1]
 rfl
theorem step_rn (h:Ord m os)(wh:WhOk m w ws cs){u:Wk}(hu:u∈ws)(x:D):stepN (renW m os w) (rn os u) x=rn os (stepN w u x):=by
 have hlt:=wh.lt u hu
 obtain ⟨row,er,_⟩:=wh.wk u hu
 have e1:(rn os u).1=pi os u.1:=rfl
 unfold stepN
 rw [e1,renW_at h hlt er,er]
 cases dt x with
 | none=>rfl
 | some t=>
  have e2:(renRow os row)[t]? = (row[t]?).map fun p=>(pi os p.1,p.2):=by unfold renRow;rw [gP1]
  show (match (renRow os row)[t]? with | some p=>(p.1,p.2+1,dm x) | none=>(pi os u.1,u.2.1,dm x))=rn os (match row[t]? with | some p=>(p.1,p.2+1,dm x) | none=>(u.1,u.2.1,dm x))
  rw [e2]
  cases row[t]? <;> rfl
theorem mk_rn (h:Ord m os)(hw:∀ u∈ws,u.1<m){d1 d2:Wk->D}(hd:∀ u∈ws,d1 (rn os u)=d2 u){g:Str}{r:Nat}(hr:r<m):mkAt (ws.map (rn os)) d1 g (pi os r)=mkAt ws d2 g r:=by
 unfold mkAt
 rw [List.any_map,Bool.eq_iff_iff,List.any_eq_true,List.any_eq_true]
 have key:∀ u∈ws,((fun u:Wk=>u.1 == pi os r&&dh (d1 u) == g)∘rn os) u=(u.1 == r&&dh (d2 u) == g):=fun u hu=>by
  show (pi os u.1 == pi os r&&dh (d1 (rn os u)) == g)=_
  rw [eq_pi h (hw u hu) hr,hd u hu]
 exact ⟨fun ⟨u,h1,h2⟩=>⟨u,h1,by rw [<- key u h1];exact h2⟩,fun ⟨u,h1,h2⟩=>⟨u,h1,by rw [key u h1];exact h2⟩⟩
theorem chalk_rn (h:Ord m os)(hw:∀ u∈ws,u.1<m)(hc:∀ c∈cs,c<m){d1 d2:Wk->D}(hd:∀ u∈ws,d1 (rn os u)=d2 u):chalkN m (ws.map (rn os)) d1 (renC m os cs)=renC m os (chalkN m ws d2 cs):=by
 have hx:∀ c∈chalkN m ws d2 cs,c<m:=fun c z=>List.mem_range.mp (List.mem_filter.mp z).1
 show (List.range m).filter _=(List.range m).filter _
 apply List.filter_congr
 intro r' hr'
 obtain ⟨r,hr,rfl⟩:=h.sur (List.mem_range.mp hr')
 rw [mk_rn h hw hd hr,mk_rn h hw hd hr,renC_con h hc hr,con_pi h hx hr]
 rw [Bool.eq_iff_iff,List.contains_iff_mem]
 unfold chalkN
 rw [List.mem_filter]
 exact ⟨fun z=>⟨List.mem_range.mpr hr,z⟩,fun z=>z.2⟩
theorem dd_rn (h:Ord m os)(wh:WhOk m w ws cs):∀ u∈ws,ddW (renW m os w) (ws.map (rn os)) (renC m os cs) e L (rn os u)=ddW w ws cs e L u:=fun u hu=>by
 unfold ddW
 rw [ky_rn h wh hu]
theorem beat_rn (h:Ord m os)(wh:WhOk m w ws cs):beatD m (renW m os w) (ws.map (rn os)) (renC m os cs) e L=wholeD ((ws.map fun u=>stepN w u (ddW w ws cs e L u)).map (rn os)) (renC m os (chalkN m ws (ddW w ws cs e L) cs)):=by
 unfold beatD
 rw [chalk_rn h wh.lt wh.ch (dd_rn h wh),List.map_map,List.map_map]
 congr 1
 apply List.map_congr_left
 intro u hu
 show stepN (renW m os w) (rn os u) (ddW (renW m os w) (ws.map (rn os)) (renC m os cs) e L (rn os u))=rn os (stepN w u (ddW w ws cs e L u))
 rw [dd_rn h wh u hu,step_rn h wh hu]
theorem wh_rn (h:Ord m os)(wh:WhOk m w ws cs):WhOk m (renW m os w) (ws.map (rn os)) (renC m os cs):=by
 have rows:∀ row∈renW m os w,∃ r row0,r<m/\w[r]? = some row0/\row=renRow os row0:=fun row hrow=>by
  obtain ⟨r',hr',rfl⟩:=List.mem_map.mp hrow
  obtain ⟨r,hr,rfl⟩:=h.sur (List.mem_range.mp hr')
  obtain ⟨row0,e0⟩:∃ row0,w[r]? = some row0:=⟨_,gG1 (by rw [wh.web.len];exact hr)⟩
  exact ⟨r,row0,hr,e0,by rw [h.idx hr,Option.getD_some,e0];rfl⟩
 refine ⟨⟨by unfold renW;rw [lM1,List.length_range],fun row hrow=>?_,fun row hrow p hp=>?_⟩,wh.m8,by rw [lM1];exact wh.few,?_,fun u hu=>?_,fun r hr=>List.mem_range.mp (List.mem_filter.mp hr).1⟩
 ·obtain ⟨r,row0,_,e0,rfl⟩:=rows row hrow
  unfold renRow;rw [lM1]
  exact wh.web.le row0 (gM1 e0)
 ·obtain ⟨r,row0,_,e0,rfl⟩:=rows row hrow
  obtain ⟨q,hq,rfl⟩:=List.mem_map.mp hp
  obtain ⟨r2,e2,l2⟩:=wh.web.to row0 (gM1 e0) q hq
  have hlt:q.1<m:=by have:=(gE1.mp e2).1;rwa [wh.web.len] at this
  exact ⟨renRow os r2,renW_at h hlt e2,by unfold renRow;rw [lM1];exact l2⟩
 ·have:=List.length_filter_le (fun r=>(cs.map (pi os)).contains r) (List.range m)
  rw [List.length_range] at this
  exact Nat.le_trans this wh.m8
 ·obtain ⟨v,hv,rfl⟩:=List.mem_map.mp hu
  obtain ⟨row,er,h1,h2⟩:=wh.wk v hv
  exact ⟨renRow os row,renW_at h (wh.lt v hv) er,by unfold renRow;rw [lM1];exact h1,h2⟩
end
theorem eqsL_nm {S:Sto}{n x:Nat}:∀ os:List Nat,eqsL (eqN S (n+1)) (.int x) (nmD os)=some (os.map fun a=>a == x)
 | []=>rfl
 | a::os=>by
  have e1:eqN S (n+1) (.int a) (.int x)=some ((a:Int) == (x:Int)):=rfl
  have e2:((a:Int) == (x:Int))=(a == x):=by rw [Bool.eq_iff_iff,beq_iff_eq,beq_iff_eq];lia
  have ih:=eqsL_nm (S:=S) (n:=n) (x:=x) os
  rw [nmD] at ih
  rw [nmD,mP1,eqsL,e1,e2,ih];rfl
theorem W_idxN {S:Sto}{n j x:Nat}{os:List Nat}{Q:D×Sto->Prop}(h:S[n]? = some (.lst (nmD os)))(hl:os.length<1000)(hj:os.findIdx? (· == x)=some j)(q:Q (.int j,S)):W (gIdx (.ref n) (.int x) S) Q:=by
 refine W.of ?_ q
 unfold gIdx deepMost
 simp only [h,show (60:Nat)=59+1 from rfl,eqsL_nm,oS1,lM1]
 rw [if_pos (by lia),List.findIdx?_map]
 simp [Function.comp_def,hj]
theorem ints_nmD (xs:List Nat):intsD (nmD xs)=some (xs.map fun (r:Nat)=>(r:Int)):=by
 induction xs with
 | nil=>rfl
 | cons x xs ih=>
  show (intsD (nmD xs)).map _=_
  rw [ih];rfl
theorem W_sortN {S:Sto}{n m:Nat}{xs:List Nat}{f:Nat->Bool}{Q:D×Sto->Prop}(hn:S[n]? = some (.lst (nmD xs)))(nd:xs.Nodup)(h:∀ r,r∈xs↔r<m/\f r=true)(hl:xs.length<64)(q:Q (.ref S.length,S++[.lst (nmD ((List.range m).filter f))])):W (gSorted (.ref n) S) Q:=by
 refine W.of (x:=(.ref S.length,S++[.lst (nmD ((List.range m).filter f))])) ?_ q
 simp only [gSorted,hn,ints_nmD,oS1]
 rw [if_pos (by rw [lM1];exact hl)]
 have e:sortI (xs.map fun (r:Nat)=>(r:Int))=((List.range m).filter f).map fun (r:Nat)=>(r:Int):=by
  refine pw_uniq ((sortI_perm _).trans (List.Perm.map _ ((List.perm_ext_iff_of_nodup nd (List.nodup_range.filter f)).mpr fun r=>?_))) (sortI_pw _) (List.pairwise_map.mpr ((List.pairwise_lt_range.sublist List.filter_sublist).imp fun hlt=>by lia))
  rw [h r,List.mem_filter,List.mem_range]
 rw [e,List.map_map]
 rfl
theorem order_W {o:Ob}{n m:Nat}{T:Sto}{Q:D×Sto->Prop}(ho:Hnd o n)(hn:n<=2^40)(hm:m<=8)(q:∀ os o',Ord m os->Hnd o' (n+10)->Q (.ref (T.length+1),o'::(T++[.lst (nmD os)]))):W (mCall 2 m__law_order [.ref 0,.int m] (o::T)) Q:=by
 refine callW rfl rfl ?_
 unfold m__law_order
 refine fnW ?_
 unfold b__law_order
 refine seqW (fun r S=>S=o::(T++[.lst (nmD [])])/\r=[some (.ref 0),some (.int m),some (.ref (T.length+1)),none]) ?_ ?_
 ·walk_at "own wq"
  exact ⟨rfl,trivial⟩
 rintro r S ⟨rfl,rfl⟩
 refine seqW (fun r S=>∃ os o' y,Ord m os/\Hnd o' (n+10)/\S=o'::(T++[.lst (nmD os)])/\r=[some (.ref 0),some (.int m),some (.ref (T.length+1)),y]) ?_ ?_
 ·walk_at "own wq"
  rw [nums0,Int.toNat_natCast]
  refine ⟨bnd_nat (by lia),?_⟩
  refine loopM_W (fun i r S=>∃ os o' y,i<=m/\Ord i os/\Hnd o' (n+i)/\S=o'::(T++[.lst (nmD os)])/\r=[some (.ref 0),some (.int m),some (.ref (T.length+1)),y]) _ 0 _ _ ⟨[],o,_,by lia,.refl _,ho,rfl,rfl⟩ (fun _ _ _ _=>rfl) ?_ ?_
  ·rintro i d hdd r S ⟨os,o1,y,hi,hO,ho1,rfl,rfl⟩
   have hlt:=(gE1.mp hdd).1
   rw [lM1,List.length_range] at hlt
   rw [Nat.zero_add] at *
   have hd':d = .int (i:Nat):=by
    rw [gP1,List.getElem?_range hlt] at hdd
    exact (Option.some.inj hdd).symm
   subst hd'
   unfold p__law_order_1
   have gl:∀ (o:Ob) (xs:List D),(o::(T++[Ob.lst xs]))[T.length+1]? = some (.lst xs):=fun o xs=>by rw [gC1,get_app0];rfl
   walk_at "own wq"
   refine W_mMt ?_
   walk_at "own wq"
   refine ⟨T.length+1,_,rfl,gl _ _,?_⟩
   rw [show ((i:Int)+1)=((i+1:Nat):Int) by push_cast;rfl]
   refine take_W ho1 (by lia) (by lia) (by lia) fun t o2 ho2 ht=>?_
   walk_at "own wq"
   have hlen:=hO.len
   refine W_ins (gl _ _) (by rw [nm_len];lia) (by rw [nm_len];lia) ?_
   refine ⟨os.take t++i::os.drop t,o2,_,by lia,?_,ho2,?_,rfl⟩
   ·unfold Ord at *
    rw [List.range_succ]
    refine List.perm_middle.trans ?_
    rw [List.take_append_drop]
    exact (hO.cons i).trans (List.perm_append_singleton i _).symm
   ·rw [List.set_cons_succ,List.set_append_right _ _ (nR1 _),Nat.sub_self]
    simp [nmD,List.map_take,List.map_drop]
  ·rintro r S ⟨os,o',y,hi,hO,ho',rfl,rfl⟩
   rw [lM1,List.length_range,Nat.zero_add] at *
   exact ⟨rfl,os,o',_,hO,ho'.more (by lia),rfl,rfl⟩
 rintro r S ⟨os,o',y,hO,ho',rfl,rfl⟩
 walk_at "own wq"
 have eg:gc (T.length+1) (D.ref (T.length+1),o'::(T++[Ob.lst (nmD os)]))=(D.ref (T.length+1),o'::(T++[Ob.lst (nmD os)])):=by
  unfold gc
  rw [if_neg (by simp [D.und])]
 rw [eg]
 exact q os o' hO ho'
noncomputable def rwD (row:List (Nat×Nat)):D:=.tup (row.map pD)
theorem renweb_W {m n:Nat}{os:List Nat}{w:Rows2}{S:Sto}{Q:D×Sto->Prop}(h:Ord m os)(hw:WebOk m w)(hm:m<=8)(hS:S[n]? = some (.lst (nmD os)))(hcl:S.all (Ob.und S.length)=true)(q:Q (webD (renW m os w),S)):W (mCall 2 m__law_renamed_web [webD w,.ref n] S) Q:=by
 refine callW rfl (by simp [D.unds,D.und]) ?_
 unfold m__law_renamed_web
 refine fnW ?_
 unfold b__law_renamed_web
 have hn:=(gE1.mp hS).1
 have hol:=h.len
 refine seqW (fun r V=>V=S++[.lst (((renW m os w).take 0).map rwD)]/\r=[some (webD w),some (.ref n),some (.ref S.length),none]) ?_ ?_
 ·walk_at "own wq"
  exact ⟨rfl,trivial⟩
 rintro r V ⟨hV,rfl⟩
 have hrl:(renW m os w).length=m:=by unfold renW;rw [lM1,List.length_range]
 refine seqW (fun r V=>∃ G y,V=S ++ .lst ((renW m os w).map rwD)::G/\r=[some (webD w),some (.ref n),some (.ref S.length),y]) ?_ ?_
 ·((try walk_at "own wq");repeat (simp only [len_web];try walk_at "own wq"))
  rw [nums0,Int.toNat_natCast,hw.len]
  refine ⟨bnd_nat (by lia),?_⟩
  refine loopM_W (fun i r V=>∃ G y,i<=m/\V=S ++ .lst (((renW m os w).take i).map rwD)::G/\r=[some (webD w),some (.ref n),some (.ref S.length),y]) _ 0 _ _ ⟨[],_,by lia,hV,rfl⟩ (fun _ _ _ _=>rfl) ?_ ?_
  ·rintro i d hdd r V' ⟨G,y,hi,rfl,rfl⟩
   have hlt:=(gE1.mp hdd).1
   rw [lM1,List.length_range] at hlt
   rw [Nat.zero_add] at *
   have hd':d = .int (i:Nat):=by
    rw [gP1,List.getElem?_range hlt] at hdd
    exact (Option.some.inj hdd).symm
   subst hd'
   obtain ⟨s,hs,es⟩:=h.sur hlt
   have hix:os.findIdx? (· == i)=some s:=by rw [<- es];exact h.idx hs
   obtain ⟨row,er⟩:∃ row,w[s]? = some row:=⟨_,gG1 (by rw [hw.len];exact hs)⟩
   have hrow:=hw.le row (gM1 er)
   have hrn:=renW_at h hs er
   rw [es] at hrn
   have S1:(S++Ob.lst (((renW m os w).take i).map rwD)::G)[n]? = some (.lst (nmD os)):=by rw [gL1 hn];exact hS
   have S0:(S++Ob.lst (((renW m os w).take i).map rwD)::G)[S.length]? = some (.lst (((renW m os w).take i).map rwD)):=by rw [get_app0];rfl
   walk_at "own wq"
   unfold p__law_renamed_web_1
   unfold mDrop
   rw [W_bind]
   refine W_mMt ?_
   walk_at "own wq"
   refine ⟨S.length,_,rfl,S0,?_⟩
   try walk_at "own wq"
   refine W_mMt ?_
   walk_at "own wq"
   refine ⟨n,_,rfl,S1,?_⟩
   refine W_idxN S1 (by lia) hix ?_
   refine W_ixW er ?_
   walk_at "own wq"
   rw [sW_tup]
   refine mapW (fun p:Nat×Nat=>pD (pi os p.1,p.2)) (fun r=>∃ x y,r=[x,y,some (.ref n)]) rfl row _ ⟨_,_,rfl⟩ ?_ fun r' _=>?_
   ·rintro p hp r ⟨x,y,rfl⟩
    obtain ⟨r2,e2,_⟩:=hw.to row (gM1 er) p hp
    have hlt2:p.1<m:=by have:=(gE1.mp e2).1;rwa [hw.len] at this
    unfold pD
    walk_at "own wq"
    refine W_ixL (i:=p.1) (x:=.int (pi os p.1)) S1 (by rw [nmD,gP1,h.at hlt2];rfl) ?_
    walk_at "own wq"
    exact ⟨_,_,rfl⟩
   ·have e3:row.map (fun p:Nat×Nat=>pD (pi os p.1,p.2))=(renRow os row).map pD:=by unfold renRow;rw [List.map_map];rfl
    rw [e3]
    have l3:(renRow os row).length<=4:=by unfold renRow;rw [lM1];exact hrow
    walk_at "own wq"
    refine ⟨fits_le (by rw [lM1];lia),?_⟩
    refine sW_ref (xs:=(renRow os row).map pD) (by rw [get_app,gC1,get_app0];rfl) ?_
    refine (W_app (xs:=((renW m os w).take i).map rwD) (by rw [get_app0];rfl)).mpr ⟨fits_le (by rw [lM1,List.length_take];lia),?_⟩
    refine ⟨G++[Ob.lst ((renRow os row).map pD)],_,by lia,?_,rfl⟩
    rw [List.set_append_right _ _ (nR1 _),Nat.sub_self,List.set_cons_zero,List.take_succ,hrn,List.map_append]
    rfl
  ·rintro r V' ⟨G,y,hi,rfl,rfl⟩
   rw [lM1,List.length_range,Nat.zero_add,List.take_of_length_le (by rw [hrl];exact nR1 _)]
   exact ⟨rfl,_,_,rfl,rfl⟩
 rintro r V' ⟨G,y,hV',rfl⟩
 walk_at "own wq"
 refine sW_ref (xs:=(renW m os w).map rwD) (by rw [hV',get_app0];rfl) ?_
 have e4:D.tup ((renW m os w).map rwD)=webD (renW m os w):=rfl
 rw [e4,gc_pre (webD_und _) hcl (by rw [hV'];exact List.prefix_append _ _)]
 exact q
theorem ren_W {m n:Nat}{os:List Nat}{ws:List Wk}{cs:List Nat}{S:Sto}{Q:D×Sto->Prop}(h:Ord m os)(hm:m<=8)(hl:ws.length<=8)(hcl8:cs.length<=8)(hw:∀ u∈ws,u.1<m)(hc:∀ c∈cs,c<m)(nd:cs.Nodup)(hS:S[n]? = some (.lst (nmD os)))(hcl:S.all (Ob.und S.length)=true)
  (q:Q (wholeD (ws.map (rn os)) (renC m os cs),S)):W (mCall 2 m__law_renamed [wholeD ws cs,.ref n] S) Q:=by
 refine callW rfl (by simp [D.unds,D.und]) ?_
 unfold m__law_renamed
 refine fnW ?_
 unfold b__law_renamed
 have hn:=(gE1.mp hS).1
 refine seqW (fun r V=>V=S++[.lst (wksD (ws.map (rn os)))]/\r=[some (wholeD ws cs),some (.ref n),some (.tup (wksD (ws.map (rn os))))]) ?_ ?_
 ·((try walk_at "own wq");repeat (simp only [whole0];try walk_at "own wq"))
  rw [sW_tup]
  refine mapW (fun u:Wk=>wkD1 (rn os u)) (fun r=>∃ x y z,r=[x,y,z,some (.ref n)]) rfl ws _ ⟨_,_,_,rfl⟩ ?_ fun r' _=>?_
  ·rintro u hu r ⟨x,y,z,rfl⟩
   unfold wkD1
   walk_at "own wq"
   refine W_ixL (i:=u.1) (x:=.int (pi os u.1)) hS (by rw [nmD,gP1,h.at (hw u hu)];rfl) ?_
   walk_at "own wq"
   exact ⟨rfl,_,_,_,rfl⟩
  ·have e:ws.map (fun u:Wk=>wkD1 (rn os u))=wksD (ws.map (rn os)):=by unfold wksD;rw [List.map_map];rfl
   rw [e]
   walk_at "own wq"
   refine ⟨fits_le (by rw [wks_len,lM1];lia),?_⟩
   refine sW_ref (xs:=wksD (ws.map (rn os))) (by rw [get_app0];rfl) ?_
   first | exact ⟨rfl,rfl⟩ | rfl | trivial
 rintro r V ⟨hV,rfl⟩
 have hV1:V[n]? = some (.lst (nmD os)):=by rw [hV,gL1 hn];exact hS
 ((try walk_at "own wq");repeat (simp only [whole1];try walk_at "own wq"))
 rw [sW_tup]
 refine mapW (f:=fun r:Nat=>D.int r) (fun r:Nat=>D.int (pi os r:Nat)) (fun r=>∃ x,r=[x,some (.ref n)]) rfl cs _ ⟨_,rfl⟩ ?_ fun r' _=>?_
 ·rintro u hu r ⟨x,rfl⟩
  walk_at "own wq"
  refine W_ixL (i:=u) (x:=.int (pi os u)) hV1 (by rw [nmD,gP1,h.at (hc u hu)];rfl) ?_
  exact ⟨rfl,rfl,_,rfl⟩
 ·have e:cs.map (fun r:Nat=>D.int (pi os r:Nat))=nmD (cs.map (pi os)):=by unfold nmD;rw [List.map_map];rfl
  rw [e]
  walk_at "own wq"
  refine ⟨fits_le (by rw [nm_len,lM1];lia),?_⟩
  have ndm:(cs.map (pi os)).Nodup:=List.pairwise_map.mpr (nd.imp_of_mem fun ha hb hne z=>hne (h.inj (hc _ ha) (hc _ hb) z))
  refine W_sortN (m:=m) (f:=fun r=>(cs.map (pi os)).contains r) (xs:=cs.map (pi os)) (by rw [get_app0];rfl) ndm (fun r=>?_) (by rw [lM1];lia) ?_
  ·rw [List.contains_iff_mem]
   refine ⟨fun z=>⟨?_,z⟩,fun z=>z.2⟩
   obtain ⟨c,h1,rfl⟩:=List.mem_map.mp z
   exact h.lt (hc c h1)
  ·walk_at "own wq"
   refine sW_ref (xs:=nmD (renC m os cs)) (by rw [get_app];rfl) ?_
   have e2:D.tup [.tup (wksD (ws.map (rn os))),.tup (nmD (renC m os cs))]=wholeD (ws.map (rn os)) (renC m os cs):=rfl
   rw [e2,gc_pre whole_und hcl (by rw [hV];simp only [List.append_assoc];exact List.prefix_append _ _)]
   exact q
theorem turn_W (ns:List Int)(k:Int)(h0:0<=k)(hk:k<63):W (p_law_3 [some (.rol (ns.map D.int)),some (.int k),none,none,none,none,none,none,none,none,none,none,none] []) fun p=>p.1 = .nx /\ ∃ r9,p.2.1=some (.rol (ns.map D.int))::r9/\r9.length=12:=by
 unfold p_law_3
 generalize hN:D.rol (ns.map D.int)=N
 refine seqW (fun r S=>∃ o,Hnd o 0/\S=[o]/\r=[some N,some (.int k),some (.ref 0),none,none,none,none,none,none,none,none,none,none]) ?_ ?_
 ·obtain ⟨o,e,ho⟩:=hand_ok ns k h0 hk
  rw [hN] at e
  ((try walk_at "own wq");repeat (simp only [e];try walk_at "own wq"))
  exact ⟨o,ho,rfl,trivial⟩
 rintro r S ⟨o,ho,rfl,rfl⟩
 refine seqW (fun r S=>∃ m w e o,0<m/\m<=8/\WebOk m w/\Hnd o 110/\S=[o]/\r=[some N,some (.int k),some (.ref 0),some (webD w),some (eyD e),none,none,none,none,none,none,none,none]) ?_ ?_
 ·walk_at "own wq"
  refine web_W ho (by lia) rfl fun m w o' hm0 hm hw ho'=>?_
  walk_at "own wq"
  refine eyes_W (T:=[]) ho' (by lia) rfl fun a b c d o2 ho2=>?_
  walk_at "own wq"
  exact ⟨m,w,(a,b,c,d),o2,hm0,hm,hw,ho2.more (by lia),rfl,rfl⟩
 rintro r S ⟨m,w,e,o,hm0,hm,hw,ho,rfl,rfl⟩
 refine seqW (fun r S=>∃ ws cs o,WholeOk w ws cs/\Hnd o 300/\S=[o,dO []]/\r=[some N,some (.int k),some (.ref 0),some (webD w),some (eyD e),some (wholeD ws cs),some (.ref 1),none,none,none,none,none,none]) ?_ ?_
 ·walk_at "own wq"
  refine whole_W (T:=[]) hw hm0 hm ho (by lia) rfl fun ws cs o' hws ho'=>?_
  ((try walk_at "own wq");repeat (simp only [mDnew];try walk_at "own wq"))
  exact ⟨ws,cs,o',hws,ho'.more (by lia),rfl,rfl⟩
 rintro r S ⟨ws,cs,o,hws,ho,rfl,rfl⟩
 have h:WhOk m w ws cs:=hws.wh hw hm
 have hf:=h.few
 refine seqW (fun r S=>∃ F o' y7,RW e F/\F.length<=20/\Hnd o' 1000/\S=[o',dO F]/\r=[some N,some (.int k),some (.ref 0),some (webD w),some (eyD e),some (wholeD ws cs),some (.ref 1),y7,none,none,none,none,none]) ?_ ?_
 ·((try walk_at "own wq");repeat (simp only [whole0,len_tup,wks_len];try walk_at "own wq"))
  rw [nums0,Int.toNat_natCast]
  refine ⟨bnd_nat (by lia),?_⟩
  refine loopM_W (fun i r S=>∃ F o' y7,i<=ws.length/\RW e F/\F.length<=i/\Hnd o' (300+6*i)/\S=[o',dO F]/\r=[some N,some (.int k),some (.ref 0),some (webD w),some (eyD e),some (wholeD ws cs),some (.ref 1),y7,none,none,none,none,none]) _ 0 _ _ ⟨[],o,_,by lia,RW.nil,by simp,ho,rfl,rfl⟩ (fun _ _ _ _=>rfl) ?_ ?_
  ·rintro i d hdd r S ⟨F,o1,y7,hi,hF,hFl,ho1,rfl,rfl⟩
   have hlt:=(gE1.mp hdd).1
   rw [lM1,List.length_range] at hlt
   rw [Nat.zero_add] at *
   have hd':d = .int (i:Nat):=by
    rw [gP1,List.getElem?_range hlt] at hdd
    exact (Option.some.inj hdd).symm
   subst hd'
   walk_at "own wq"
   unfold p_law_1
   obtain ⟨u,hu⟩:∃ u,ws[i]? = some u:=⟨_,gG1 hlt⟩
   have hum:=gM1 hu
   obtain ⟨row,er,_,hmd⟩:=h.wk u hum
   have hk:=h.ky u hum
   have eu:∀ S',gIxY (.tup (wksD ws)) (.int (i:Nat)) S'=some (wkD1 u,S'):=fun S'=>by
    obtain ⟨p,e,h⟩:W (gIxY (.tup (wksD ws)) (.int (i:Nat)) S') fun p=>p=(wkD1 u,S'):=W_ixT (by rw [wksD,gP1,hu];rfl) rfl
    rw [e,h]
   have dc:[dO F].all (Ob.und ([dO F].length+1))=true:=by rw [List.all_cons,hF.und];rfl
   walk_at "own wq"
   refine take_W ho1 (by lia) (by lia) (by lia) fun t o2 ho2 ht=>?_
   walk_at "own wq"
   split
   ·refine deed_W ho2 (by lia) dc fun x o3 hx ho3=>?_
    ((try walk_at "own wq");repeat (simp only [whole0,eu,ix_mood];try walk_at "own wq"))
    refine lsight_W hu er (by lia) ?_
    rw [seen_ky er]
    walk_at "own wq"
    have ek:D.tup [.int u.2.2,(ky w ws cs u).sg e]=(ky w ws cs u).d e:=rfl
    rw [ek]
    ((try walk_at "own wq");repeat (simp only [setR (e:=e) (F:=F) (k:=ky w ws cs u) (x:=x) (n:=1) (S:=[o3,dO F]) rfl (by lia)];try walk_at "own wq"))
    exact ⟨_,o3,_,by lia,hF.put hk hx,Nat.le_trans put_len (by lia),ho3.more (by lia),rfl,rfl⟩
   ·exact ⟨F,o2,_,by lia,hF,by lia,ho2.more (by lia),rfl,rfl⟩
  ·rintro r S ⟨F,o',y7,hi,hF,hFl,ho',rfl,rfl⟩
   rw [lM1,List.length_range,Nat.zero_add] at *
   exact ⟨rfl,F,o',_,hF,by lia,ho'.more (by lia),rfl,rfl⟩
 rintro r S ⟨F,o2,y7,hF,hFl,ho2,rfl,rfl⟩
 obtain ⟨L,inc,ok,hL,hsrt,hlk⟩:=sort_rows hF hFl
 have rl:RL e F L:=⟨inc,ok,hL,hlk⟩
 have ur:=rows_und (e:=e) ok
 simp only [D.und] at ur
 refine seqW (fun r S=>S=[o2,dO F,.lst (L.map (rowD e))]/\r=[some N,some (.int k),some (.ref 0),some (webD w),some (eyD e),some (wholeD ws cs),some (.ref 1),y7,some (mcD e L),none,none,none,none]) ?_ ?_
 ·((try walk_at "own wq");repeat (simp only [hsrt 1 [o2,dO F] rfl];try walk_at "own wq"))
  refine sW_ref (xs:=L.map (rowD e)) rfl ?_
  rfl
 rintro r S ⟨rfl,rfl⟩
 refine seqW (fun r S=>∃ os o',Ord m os/\Hnd o' 1010/\S=[o',dO F,.lst (L.map (rowD e)),.lst (nmD os)]/\r=[some N,some (.int k),some (.ref 0),some (webD w),some (eyD e),some (wholeD ws cs),some (.ref 1),y7,some (mcD e L),some (.ref 3),none,none,none]) ?_ ?_
 ·simp (implicitDefEqProofs:=false) only [mAsg,mN,mCons,mV,gC1,List.getElem?_cons_zero,mNil,oS1,b1,len_web,hw.len,gN,List.set_cons_succ,List.set_cons_zero,W_bind,W_some,true_and]
  refine order_W ho2 (by lia) hm fun os o' hO ho'=>?_
  exact ⟨os,o',hO,ho',rfl,rfl⟩
 rintro r S ⟨os,o3,hO,ho3,rfl,rfl⟩
 have nmu:∀ n,D.unds n (nmD os)=true:=fun n=>unds_mono (nm_und os)
 have cl:[o3,dO F,Ob.lst (L.map (rowD e)),.lst (nmD os)].all (Ob.und [o3,dO F,Ob.lst (L.map (rowD e)),Ob.lst (nmD os)].length)=true:=by
  rw [List.all_cons,List.all_cons,List.all_cons,List.all_cons,ho3.und,hF.und,Ob.und,ur,Ob.und,nmu];rfl
 have nd:cs.Nodup:=List.nodup_range.sublist hws.ch
 have wh':=wh_rn hO h
 generalize hS4:[o3,dO F,Ob.lst (L.map (rowD e)),Ob.lst (nmD os)]=S4 at *
 have g3:S4[3]? = some (.lst (nmD os)):=by rw [<- hS4];rfl
 have g1:S4[1]? = some (dO F):=by rw [<- hS4];rfl
 refine seqW (fun r S=>S=S4/\r=[some N,some (.int k),some (.ref 0),some (webD w),some (eyD e),some (wholeD ws cs),some (.ref 1),y7,some (mcD e L),some (.ref 3),some (webD (renW m os w)),some (wholeD (ws.map (rn os)) (renC m os cs)),none]) ?_ ?_
 ·walk_at "own wq"
  refine renweb_W hO hw hm g3 cl ?_
  walk_at "own wq"
  refine ren_W hO hm h.few h.cl h.lt h.ch nd g3 cl ?_
  walk_at "own wq"
 rintro r S ⟨rfl,rfl⟩
 refine seqW (fun r S'=>S'=S/\r=[some N,some (.int k),some (.ref 0),some (webD w),some (eyD e),some (wholeD ws cs),some (.ref 1),y7,some (mcD e L),some (.ref 3),some (webD (renW m os w)),some (wholeD (ws.map (rn os)) (renC m os cs)),some (beatD m w ws cs e L)]) ?_ ?_
 ·walk_at "own wq"
  refine lbeat_W h rl g1 cl ?_
  walk_at "own wq"
 rintro r S' ⟨rfl,rfl⟩
 obtain ⟨t,ht⟩:=beat_repr (e:=e) h ok
 obtain ⟨t2,ht2⟩:=beat_repr (e:=e) wh' ok
 refine seqW (fun r S=>S=S'/\r=[some N,some (.int k),some (.ref 0),some (webD w),some (eyD e),some (wholeD ws cs),some (.ref 1),y7,some (mcD e L),some (.ref 3),some (webD (renW m os w)),some (wholeD (ws.map (rn os)) (renC m os cs)),some (beatD m w ws cs e L)]) ?_ ?_
 ·walk_at "own wq"
  refine beat_W h inc ok hL ?_
  ((try walk_at "own wq");repeat (simp only [ht];try walk_at "own wq"))
  rw [if_neg (by simp)]
  trivial
 rintro r S ⟨rfl,rfl⟩
 refine seqW (fun r S2=>S2=S/\r=[some N,some (.int k),some (.ref 0),some (webD w),some (eyD e),some (wholeD ws cs),some (.ref 1),y7,some (mcD e L),some (.ref 3),some (webD (renW m os w)),some (wholeD (ws.map (rn os)) (renC m os cs)),some (beatD m w ws cs e L)]) ?_ ?_
 ·walk_at "own wq"
  refine beat_W wh' inc ok hL ?_
  ((try walk_at "own wq");repeat (simp only [ht2];try walk_at "own wq"))
  have hb:beatD m w ws cs e L=wholeD (ws.map fun u=>stepN w u (ddW w ws cs e L u)) (chalkN m ws (ddW w ws cs e L) cs):=rfl
  rw [hb]
  have lc:(chalkN m ws (ddW w ws cs e L) cs).length<=8:=by
   have:=List.length_filter_le (fun r=>mkAt ws (ddW w ws cs e L) "mark" r||(cs.contains r && !mkAt ws (ddW w ws cs e L) "wipe" r)) (List.range m)
   rw [List.length_range] at this
   exact Nat.le_trans this hm
  refine ren_W hO hm (by rw [lM1];exact hf) lc (fun v hv=>?_) (fun c hc=>List.mem_range.mp (List.mem_filter.mp hc).1) (List.nodup_range.filter _) g3 cl ?_
  ·obtain ⟨u,hu,rfl⟩:=List.mem_map.mp hv
   obtain ⟨row,er,_,_⟩:=h.wk u hu
   unfold stepN
   rw [er]
   have hlt:=h.lt u hu
   cases dt (ddW w ws cs e L u) with
   | none=>exact hlt
   | some t=>
    show (match row[t]? with | some p=>(p.1,p.2+1,dm (ddW w ws cs e L u)) | none=>(u.1,u.2.1,dm (ddW w ws cs e L u))).1<m
    cases ep:row[t]? with
    | none=>exact hlt
    | some p=>
     obtain ⟨r2,e2,_⟩:=hw.to row (gM1 er) p (gM1 ep)
     have:=(gE1.mp e2).1
     rw [hw.len] at this
     exact this
  rw [<- beat_rn hO h]
  ((try walk_at "own wq");repeat (simp only [ht2];try walk_at "own wq"))
  rw [if_neg (by simp)]
  trivial
 rintro r S2 ⟨rfl,rfl⟩
 ((try walk_at "own wq");repeat (simp only [whole0,len_tup,wks_len];try walk_at "own wq"))
 rw [nums0,Int.toNat_natCast]
 refine ⟨bnd_nat (by lia),?_⟩
 refine loopM_W (fun i r S'=>∃ y7,S'=S2/\r=[some N,some (.int k),some (.ref 0),some (webD w),some (eyD e),some (wholeD ws cs),some (.ref 1),y7,some (mcD e L),some (.ref 3),some (webD (renW m os w)),some (wholeD (ws.map (rn os)) (renC m os cs)),some (beatD m w ws cs e L)]) _ 0 _ _ ⟨_,rfl,rfl⟩ (fun _ _ _ _=>rfl) ?_ ?_
 ·rintro i d hdd r S' ⟨y7,rfl,rfl⟩
  have hlt:=(gE1.mp hdd).1
  rw [lM1,List.length_range] at hlt
  have hd':d = .int (i:Nat):=by
   rw [gP1,List.getElem?_range hlt] at hdd
   exact (Option.some.inj hdd).symm
  subst hd'
  unfold p_law_2
  obtain ⟨u,hu⟩:∃ u,ws[i]? = some u:=⟨_,gG1 hlt⟩
  have hum:=gM1 hu
  obtain ⟨row,er,hc1,hmd⟩:=h.wk u hum
  have hrl:=hw.le row (gM1 er)
  have er':=renW_at hO (h.lt u hum) er
  have hu':(ws.map (rn os))[i]? = some (rn os u):=by rw [gP1,hu];rfl
  obtain ⟨t,ht⟩:=seen_repr (a:=e.1) (b:=e.2.1) (c:=e.2.2.1) (d:=e.2.2.2) (ws:=ws) (cs:=cs) (u:=u) (row:=row) (by lia) (by lia)
  rw [seen_ky er] at ht
  walk_at "own wq"
  refine sight_W (u:=rn os u) hu' er' (by rw [lM1];lia) ?_
  rw [seen_ky (u:=rn os u) er',ky_rn hO h hum]
  ((try walk_at "own wq");repeat (simp only [ht];try walk_at "own wq"))
  refine lsight_W hu er (by lia) ?_
  rw [seen_ky er]
  ((try walk_at "own wq");repeat (simp only [ht];try walk_at "own wq"))
  rw [if_neg (by simp)]
  exact ⟨_,rfl⟩
 ·rintro r S' ⟨y7,rfl,rfl⟩
  exact ⟨rfl,_,rfl,rfl⟩
theorem truth (ns:List Int)(hl:ns.length<=63):∃ S,m_law [.rol (ns.map D.int)] []=some (.bl true,S):=by
 have key:W (m_law [.rol (ns.map D.int)] []) fun p=>p.1 = .bl true:=by
  unfold m_law
  refine fnW ?_
  unfold b_law
  have hu:(D.rol (ns.map D.int)).und 0=true:=by simp [D.und,unds_ints]
  have ht:=fun k h0 hk=>turn_W ns k h0 hk
  generalize hN:D.rol (ns.map D.int)=N at *
  have hlen:gLen N []=some (.int ns.length,[]):=by rw [<- hN];simp [gLen,seqOf]
  refine seqW (fun r S=>S=[]/\r=[some N,none,none,none,none,none,none,none,none,none,none,none,none]) ?_ ?_
  ·simp only [startD,mP1,List.map_nil,lC1,List.length_nil,Nat.reduceAdd,Nat.reduceSub,rp12,List.cons_append,List.nil_append,mFor,W_bind,W_iR1,mCons,mN,mC,mV,mNil,b1,b2,gMax,gMin,hlen,W_some,oS1,List.getElem?_cons_zero,rW1]
   have hb:∃ t:Nat,t<=6/\(if (if (ns.length:Int)<6 then (ns.length:Int) else 6)>1 then (if (ns.length:Int)<6 then (ns.length:Int) else 6) else 1)=(t:Int):=by
    by_cases h1:(ns.length:Int)<6
    ·rw [if_pos h1]
     by_cases h2:(ns.length:Int)>1
     ·rw [if_pos h2];exact ⟨ns.length,by lia,rfl⟩
     ·rw [if_neg h2];exact ⟨1,by lia,rfl⟩
    ·rw [if_neg h1]
     exact ⟨6,by lia,by decide⟩
   obtain ⟨t,t1,te⟩:=hb
   rw [te,Int.toNat_natCast]
   refine ⟨bnd_nat (by lia),?_⟩
   refine loopM_W (fun _ r S=>S=[]/\r=[some N,none,none,none,none,none,none,none,none,none,none,none,none]) _ 0 _ _ ⟨rfl,rfl⟩ (fun _ _ _ _=>rfl) ?_ ?_
   ·rintro i d hd r S ⟨rfl,rfl⟩
    obtain ⟨k,e,k0,k1⟩:=mem_nums (gM1 hd)
    subst e
    simp only [gN,List.set_cons_succ,List.set_cons_zero,W_some]
    obtain ⟨⟨f,r2,S2⟩,e2,hf,r9,hr9,hl9⟩:=ht k k0 (by lia)
    dsimp only at hf hr9
    subst hf;subst hr9
    obtain ⟨z1,z2,z3,z4,z5,z6,z7,z8,z9,z10,z11,z12,hz⟩:∃ z1 z2 z3 z4 z5 z6 z7 z8 z9 z10 z11 z12,r9=[z1,z2,z3,z4,z5,z6,z7,z8,z9,z10,z11,z12]:=by
     match r9,hl9 with
     | [z1,z2,z3,z4,z5,z6,z7,z8,z9,z10,z11,z12],_=>exact ⟨_,_,_,_,_,_,_,_,_,_,_,_,rfl⟩
    subst hz
    refine W.of (x:=(.nx,[some N,none,none,none,none,none,none,none,none,none,none,none,none],[])) ?_ ⟨rfl,rfl,rfl⟩
    unfold p_law_4 mPure
    simp [maskE,shutE,D.und,hu,e2]
   ·rintro r S ⟨rfl,rfl⟩
    exact ⟨rfl,rfl,rfl⟩
  ·rintro r S ⟨rfl,rfl⟩
   simp only [mRet,mC,oS1,W_some]
 obtain ⟨⟨d,S⟩,e,h⟩:=key
 dsimp only at h
 exact ⟨S,by rw [e,h]⟩
end Law
end
open PySem PySem.W PyProof.Rows
set_option maxRecDepth 100000 in
set_option maxHeartbeats 0 in
theorem PySem.Challenge.cw_ringmeet_k28_rooms_without_names_holds : PySem.Challenge.rw_ringmeet_k28_rooms_without_names.Holds := by
 w_on;refine PySem.W.holds_law (by decide+kernel) fun said=>?_;k_head;(case hw=>w_witness2)
 k_fill
 refine Mi.walk_m (l:=PySem.Challenge.rw_ringmeet_k28_rooms_without_names) (m:=Law.m_law) (k:=4) (x:="_law_script") rfl rfl ⟨rfl,by decide,by decide,rfl⟩ (fun w h Y=>PySem.W.kIn_of Y) Law.truth ?F
 case F=>
  intro w mg fa h KX G hmg
  refine' Law.all_mk KX G hmg ?a1 ?l1 ?c1 ?k1 ?a2 ?l2 ?c2 ?k2 ?a3 ?l3 ?c3 ?k3 ?a4 ?l4 ?c4 ?k4 ?a5 ?l5 ?c5 ?k5 ?a6 ?l6 ?c6 ?k6 ?a7 ?l7 ?c7 ?k7 ?a8 ?l8 ?c8 ?k8 ?a9 ?l9 ?c9 ?k9 ?a10 ?l10 ?c10 ?k10 ?a11 ?l11 ?c11 ?k11 ?a12 ?l12 ?c12 ?k12 ?a13 ?l13 ?c13 ?k13 ?a14 ?l14 ?c14 ?k14 ?a15 ?l15 ?c15 ?k15 ?a16 ?l16 ?c16 ?k16 ?a17 ?l17 ?c17 ?k17 ?a18 ?l18 ?c18 ?k18 ?a19 ?l19 ?c19 ?k19 ?a20 ?l20 ?c20 ?k20 ?a21 ?l21 ?c21 ?k21 ?a22 ?l22 ?c22 ?k22 ?a23 ?l23 ?c23 ?k23 ?z_enumerate ?z_int ?z_len ?z_max ?z_min ?z_range ?z_repr ?z_set ?z_sorted ?z_tuple ?z_zip ?e_PARTS ?h1 ?h2 ?h5 ?h8 ?h11
  (case a1=>k_is)
  (case l1=>k_is)
  (case c1=>k_is)
  (case k1=>k_is)
  (case a2=>k_is)
  (case l2=>k_is)
  (case c2=>k_is)
  (case k2=>k_is)
  (case a3=>k_is)
  (case l3=>k_is)
  (case c3=>k_is)
  (case k3=>k_is)
  (case a4=>k_is)
  (case l4=>k_is)
  (case c4=>k_is)
  (case k4=>k_is)
  (case a5=>k_is)
  (case l5=>k_is)
  (case c5=>k_is)
  (case k5=>k_is)
  (case a6=>k_is)
  (case l6=>k_is)
  (case c6=>k_is)
  (case k6=>k_is)
  (case a7=>k_is)
  (case l7=>k_is)
  (case c7=>k_is)
  (case k7=>k_is)
  (case a8=>k_is)
  (case l8=>k_is)
  (case c8=>k_is)
  (case k8=>k_is)
  (case a9=>k_is)
  (case l9=>k_is)
  (case c9=>k_is)
  (case k9=>k_is)
  (case a10=>k_is)
  (case l10=>k_is)
  (case c10=>k_is)
  (case k10=>k_is)
  (case a11=>k_is)
  (case l11=>k_is)
  (case c11=>k_is)
  (case k11=>k_is)
  (case a12=>k_is)
  (case l12=>k_is)
  (case c12=>k_is)
  (case k12=>k_is)
  (case a13=>k_is)
  (case l13=>k_is)
  (case c13=>k_is)
  (case k13=>k_is)
  (case a14=>k_is)
  (case l14=>k_is)
  (case c14=>k_is)
  (case k14=>k_is)
  (case a15=>k_is)
  (case l15=>k_is)
  (case c15=>k_is)
  (case k15=>k_is)
  (case a16=>k_is)
  (case l16=>k_is)
  (case c16=>k_is)
  (case k16=>k_is)
  (case a17=>k_is)
  (case l17=>k_is)
  (case c17=>k_is)
  (case k17=>k_is)
  (case a18=>k_is)
  (case l18=>k_is)
  (case c18=>k_is)
  (case k18=>k_is)
  (case a19=>k_is)
  (case l19=>k_is)
  (case c19=>k_is)
  (case k19=>k_is)
  (case a20=>k_is)
  (case l20=>k_is)
  (case c20=>k_is)
  (case k20=>k_is)
  (case a21=>k_is)
  (case l21=>k_is)
  (case c21=>k_is)
  (case k21=>k_is)
  (case a22=>k_is)
  (case l22=>k_is)
  (case c22=>k_is)
  (case k22=>k_is)
  (case a23=>k_is)
  (case l23=>k_is)
  (case c23=>k_is)
  (case k23=>k_is)
  (case z_enumerate=>k_is)
  (case z_int=>k_is)
  (case z_len=>k_is)
  (case z_max=>k_is)
  (case z_min=>k_is)
  (case z_range=>k_is)
  (case z_repr=>k_is)
  (case z_set=>k_is)
  (case z_sorted=>k_is)
  (case z_tuple=>k_is)
  (case z_zip=>k_is)
  (case e_PARTS=>k_is)
  (case h1=>k_is)
  (case h2=>k_is)
  (case h5=>k_is)
  (case h8=>k_is)
  (case h11=>k_is)

