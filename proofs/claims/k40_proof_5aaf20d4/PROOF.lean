import PyProof.Rows.All
import Wide.All
import OpenK.AllK
import Wide.FinOn
import Lean
import PyProof.EqAt
import PyProof.EqKinds
import PyProof.TupleCall
import PySem.Challenge.RW_ringmeet_k40_two_walkers_and_turns
set_option Elab.async false
set_option compiler.extract_closed false
set_option linter.all false
set_option maxRecDepth 100000
set_option maxHeartbeats 4000000
open List renaming getElem?_eq_some_iff → gE1, getElem?_append_left → gL1, getElem?_eq_getElem → gG1, mem_of_getElem? → gM1, getElem?_set_ne → gS1, length_append → lA1, length_map → lM1, getElem?_cons_succ → gC1, mem_cons_of_mem → mC1, mem_cons_self → mS1, getElem?_map → gP1, getElem?_append_right → gR1, size_toArray → sT1, map_cons → mP1, length_cons → lC1, length_replicate → lR1, mem_append_right → mA1
open Option renaming bind_eq_some_iff → oB1, map_eq_some_iff → oM1, bind_some → oS1, map_some → oP1
open Nat renaming le_refl → nR1, lt_of_lt_of_le → nL1, ne_of_lt → nN1, ne_of_gt → nG1
open Bool renaming and_eq_true → bA1, false_eq_true → bF1
open Array renaming getElem?_eq_getElem → aG1, getElem?_toList → aT1
open PySem.W renaming Frag → Fg1, nsIn → wN1, keepIn → wK1, codeIn → wC1, fnOf → wF1, mg_of → wM1
open PySem.Heap renaming get?_push_of_some → hP1, get?_push_size → hS1, lt_size → hL1, size_push → hZ1, get?_update_ne → hU1, get?_update_self → hW1
open PySem renaming wpAny_bind → wB1, wpAny_pure → wP1, wpAny_setField_rec → wS1, wpAny_newObj_type → wO1, codeAny_builtin → wD1, wpAny_call_entry → wE1
section
namespace L2
open PySem PySem.Spec PyProof.Rows
noncomputable abbrev Key:=Sum Int Str
noncomputable def qh8:Key->Value->Bool
 | .inl k,v=>Value.isInt k v
 | .inr x,v=>Value.isStrOf x v
noncomputable def keyH (w:World):Key->Int
 | .inl k=>hashInt k
 | .inr x=>hashStr w x
theorem qaP:∀ {k:Key} {v:Value},qh8 k v=true->(∃ i t,k=Sum.inl i/\v=Value.int i t)\/(∃ x t,k=Sum.inr x/\v=Value.str x t)
 | .inl i,v,h=>by
  obtain ⟨t,e⟩:=Value.isInt_shape (k:=i) (v:=v) h
  exact .inl ⟨i,t,rfl,e⟩
 | .inr x,v,h=>by
  obtain ⟨t,e⟩:=Value.isStrOf_shape (x:=x) (v:=v) h
  exact .inr ⟨x,t,rfl,e⟩
theorem qi8 (i:Int)(t:Tok):qh8 (.inl i) (.int i t)=true:=by simp [qh8,Value.isInt]
theorem qi7 (x:Str)(t:Tok):qh8 (.inr x) (.str x t)=true:=by simp [qh8,Value.isStrOf]
theorem qpn (a b:Int):decide ((Sum.inl a:Key)=Sum.inl b)=(a == b):=by
 by_cases e:a=b
 ·subst e;simp
 ·have h:¬ (Sum.inl a:Key)=Sum.inl b:=fun q=>e (Sum.inl.inj q)
  rw [decide_eq_false h]
  exact (beq_eq_false_iff_ne.mpr e).symm
theorem qpk (a b:Str):decide ((Sum.inr a:Key)=Sum.inr b)=decide (a=b):=by
 by_cases e:a=b
 ·subst e;simp
 ·have h:¬ (Sum.inr a:Key)=Sum.inr b:=fun q=>e (Sum.inr.inj q)
  rw [decide_eq_false h,decide_eq_false e]
theorem qpm (a:Int)(b:Str):decide ((Sum.inl a:Key)=Sum.inr b)=false:=decide_eq_false (fun q=>nomatch q)
theorem qpl (a:Str)(b:Int):decide ((Sum.inr a:Key)=Sum.inl b)=false:=decide_eq_false (fun q=>nomatch q)
noncomputable def qaT (prog:Program)(w:World):PySem.KeyKind prog w Key where
 is:=qh8
 hash:=keyH w
 inj:=fun v a b ha hb=>by
  rcases qaP ha with ⟨i,t,rfl,rfl⟩ | ⟨x,t,rfl,rfl⟩
  ·rcases qaP hb with ⟨j,u,rfl,e⟩ | ⟨y,u,rfl,e⟩
   ·injection e with e1 _;rw [e1]
   ·exact nomatch e
  ·rcases qaP hb with ⟨j,u,rfl,e⟩ | ⟨y,u,rfl,e⟩
   ·exact nomatch e
   ·injection e with e1 _;rw [e1]
 byValue:=fun k v h=>by
  rcases qaP h with ⟨i,t,rfl,rfl⟩ | ⟨x,t,rfl,rfl⟩<;>rfl
 pyHash:=fun hv h=>by
  rcases qaP hv with ⟨i,t,rfl,rfl⟩ | ⟨x,t,rfl,rfl⟩
  ·exact wpAny_pyHash_int h
  ·exact wpAny_pyHash_str h
 eqBool:=fun hu hv h=>by
  rcases qaP hu with ⟨i,t,rfl,rfl⟩ | ⟨x,t,rfl,rfl⟩
  ·rcases qaP hv with ⟨j,u,rfl,rfl⟩ | ⟨y,u,rfl,rfl⟩
   ·rw [qpn] at h;exact wpAny_eqBool_int h
   ·rw [qpm] at h;exact SeqAt.EqAt.int_str i t y u _ _ _ _ h
  ·rcases qaP hv with ⟨j,u,rfl,rfl⟩ | ⟨y,u,rfl,rfl⟩
   ·rw [qpl] at h;exact SeqAt.EqAt.str_int x t j u _ _ _ _ h
   ·rw [qpk] at h;exact wpAny_eqBool_str h
 «strs» :=fun k x t v h=>by
  rcases qaP h with ⟨i,u,rfl,e⟩ | ⟨y,u,rfl,e⟩
  ·exact nomatch e
  ·injection e with e1 _
   subst e1
   cases v<;>rfl
theorem qgK (prog:Program)(w:World)(i:Int)(t:Tok):(qaT prog w).is (.inl i) (.int i t)=true:=qi8 i t
theorem qgJ (prog:Program)(w:World)(x:Str)(t:Tok):(qaT prog w).is (.inr x) (.str x t)=true:=qi7 x t
end L2
namespace L2
open PySem PySem.Spec PyProof.Rows
inductive V where
 | non | bl (b:Bool) | int (i:Int) | str (x:Str) | byt (b:Array UInt8) | flt (b:UInt64) | ref (a:Addr) | ty (n:String)
 deriving DecidableEq
noncomputable def RelV:V->Value->Prop
 | .non,u=>u=Value.none
 | .bl b,u=>u=Value.bool b
 | .int i,u=>∃ t,u=Value.int i t
 | .str x,u=>∃ t,u=Value.str x t
 | .byt b,u=>∃ t,u=Value.bytes b t
 | .flt b,u=>∃ t,u=Value.float b t
 | .ref a,u=>u=Value.ref a
 | .ty n,u=>u=Value.type n
noncomputable abbrev Vals:List V->List Value->Prop:=Paired RelV
theorem Vals.length {xs:List V}{us:List Value}(r:Vals xs us):xs.length=us.length:=Paired.length r
theorem Vals.get:∀ {xs:List V} {us:List Value} {i:Nat} {x:V},Vals xs us->xs[i]? = some x -> ∃ u,us[i]? = some u/\RelV x u:=by
 intro xs us i x h e
 induction h generalizing i with
 | nil=>cases e
 | cons r t ih=>cases i with
  | zero=>cases e;exact ⟨_,rfl,r⟩
  | succ i=>exact ih (i:=i) e
theorem Vals.set {x:V}{u:Value}(r:RelV x u):∀ {xs:List V} {us:List Value} (i:Nat),Vals xs us->Vals (xs.set i x) (us.set i u):=by
 intro xs us i h
 induction h generalizing i with
 | nil=>exact .nil
 | cons q t ih=>cases i with
  | zero=>exact .cons r t
  | succ i=>exact .cons q (ih i)
theorem Vals.append:∀ {xs ys:List V} {us ws:List Value},Vals xs us->Vals ys ws->Vals (xs++ys) (us++ws):=by
 intro xs ys us ws h s
 induction h with
 | nil=>exact s
 | cons r t ih=>exact .cons r ih
theorem Vals.take:∀ {xs:List V} {us:List Value} (n:Nat),Vals xs us->Vals (xs.take n) (us.take n):=by
 intro xs us n h
 induction h generalizing n with
 | nil=>rw [List.take_nil,List.take_nil];exact .nil
 | cons r t ih=>cases n with
  | zero=>exact .nil
  | succ n=>exact .cons r (ih n)
theorem Vals.drop:∀ {xs:List V} {us:List Value} (n:Nat),Vals xs us->Vals (xs.drop n) (us.drop n):=by
 intro xs us n h
 induction h generalizing n with
 | nil=>rw [List.drop_nil,List.drop_nil];exact .nil
 | cons r t ih=>cases n with
  | zero=>exact .cons r t
  | succ n=>exact ih n
noncomputable def RelO:Option V->Option Value->Prop
 | some v,some u=>RelV v u
 | none,none=>True
 | _,_=>False
noncomputable def KV {κ:Type}:List (κ×V)->List (κ×Value)->Prop:=Paired fun (p:κ×V) (q:κ×Value)=>p.1=q.1/\RelV p.2 q.2
noncomputable def kV:Key->V
 | .inl i=>.int i
 | .inr x=>.str x
inductive HO where
 /-- a list -/
 | lst (xs:List V)
 /-- a tuple (never changes) -/
 | tup (xs:List V)
 /-- a dict whose keys are ints and texts; one whose keys are tuples of ints and texts (the empty one is both) -/
 | dK (kvs:List (Key×V)) | dT (kvs:List (List Key×V))
 /-- a set of ints: its members, its size -/
 | set (S:Int->Bool) (n:Nat)
 /-- an instance of the class at C, its dict at dx, its attributes -/
 | ins (C dx:Addr) (fs:List (Str×V))
 /-- the dict of the instance at x -/
 | own (x:Addr)
 /-- the dict of an exception -/
 | xd (fs:List (Str×V))
 /-- a bound method, f of x -/
 | met (f x:Addr)
 /-- a range object lo, lo + 1, .. below hi -/
 | rng (lo hi:Int)
 /-- a thing that is known to the object (the script; a dict while a loop walks it): read, never written while it is so -/
 | frz (o:Obj) (u:HO)
 /-- a code object's table -/
 | tbl (ps:Array Value)
 /-- any other thing, by what is true of its one object (a def of one's own: SetO a S n := HO.ext fun h => ..) -/
 | ext (φ:Heap->Prop)
noncomputable abbrev Hp:=Addr->Option HO
noncomputable def upd (H:Hp)(a:Addr)(o:HO):Hp:=fun b=>if b=a then some o else H b
theorem qat {H:Hp}{a:Addr}{o:HO}:upd H a o a=some o:=by unfold upd;rw [if_pos rfl]
theorem qar {H:Hp}{a b:Addr}{o:HO}(h:b≠a):upd H a o b=H b:=by unfold upd;rw [if_neg h]
theorem qqy {H:Hp}{a b:Addr}{o u:HO}(h:H a=some o)(h':H b=some u)(d:o≠u):a≠b:=by
 intro e;subst e;rw [h] at h';exact d (Option.some.inj h')
theorem qav {H:Hp}{a b:Addr}{o:HO}(h:H a=some o)(h':H b=none):a≠b:=by
 intro e;subst e;rw [h] at h';cases h'
section
variable (P:Program) (w:World)
noncomputable def qbL (H:Hp)(h:Heap)(a:Addr):HO->Prop
 | .lst xs=>xs.length<=sizeLine /\ ∃ (its:List Value) (n:Nat),Vals xs its/\h.get? a=some {cls:=.type "list",data:=.seq its.toArray n}
 | .tup xs=>xs.length<=sizeLine /\ ∃ its:List Value,Vals xs its/\IsTup h a its.toArray
 | .dK kvs=>kvs.length<=sizeLine/\(a == sysModules)=false /\ ∃ vs,KV kvs vs/\h.DictOf (qaT P w) a vs
 | .dT kvs=>kvs.length<=sizeLine/\(a == sysModules)=false /\ ∃ xs:List (List Key×Addr×Value),
   Paired (fun (p:List Key×V) (q:List Key×Addr×Value)=>p.1=q.1/\H q.2.1=some (.tup (p.1.map kV))/\RelV p.2 q.2.2) kvs xs /\
   ∃ o es ep,h.get? a=some o/\o.ExactDict/\o.data = .dict es ep/\es.toList=xs.map (entryOfKey (tupleKind (qaT P w)))/\(xs.map (·.1)).Nodup
 | .set S n=>h.SetOf (intKind P w) a S n
 | .ins C dx fs=>H dx=some (.own a)/\fs.length<=1000/\dx≠a/\h.get? a=some (PySem.W.instObj C dx) /\
   ∃ mA,h.Ns1 dx mA/\(∀ f,RelO (fs.lookup f) (mA f))/\PySem.Within mA (fs.map (·.1))
 | .own _=>∃ o,h.get? a=some o
 | .xd fs=>∃ mA,h.Ns1 a mA /\ ∀ f,RelO (fs.lookup f) (mA f)
 | .rng lo hi=>∃ t u v,h.get? a=some {cls:=.type "range",data:=.fields #[.int lo t,.int hi u,.int 1 v]}
 | .frz o u=>h.get? a=some o/\qbL H h a u
 | .tbl ps=>h.get? a=some {cls:=.none,data:=.fields ps}
 | .met f x=>h.get? a=some (PySem.W.methodObj (.ref f) (.ref x))
 | .ext φ=>φ h/\(∃ o,h.get? a=some o) /\ ∀ h1 h2:Heap,φ h1->(∀ o,h1.get? a=some o->h2.get? a=some o)->φ h2
noncomputable def HOk (H:Hp)(h:Heap):Prop:=∀ a o,H a=some o->qbL P w H h a o
end
section
variable {P:Program} {w:World} {H H':Hp} {h h':Heap} {a:Addr} {o:HO}
theorem qbL.lt (x:qbL P w H h a o):a<h.objs.size:=by
 cases o with
 | lst xs=>obtain ⟨_,_,_,_,e⟩:=x;exact hL1 e
 | tup xs=>obtain ⟨_,_,_,p⟩:=x;exact p.lt
 | dK kvs=>obtain ⟨_,_,_,_,o,_,_,e,_⟩:=x;exact hL1 e
 | dT kvs=>obtain ⟨_,_,_,_,o,_,_,e,_⟩:=x;exact hL1 e
 | set S n=>obtain ⟨o,_,_,_,e,_⟩:=x;exact hL1 e
 | ins C dx fs=>obtain ⟨_,_,_,e,_⟩:=x;exact hL1 e
 | own y=>obtain ⟨_,e⟩:=x;exact hL1 e
 | xd fs=>obtain ⟨_,⟨_,_,_,e,_⟩,_⟩:=x;exact hL1 e
 | rng lo hi=>obtain ⟨_,_,_,e⟩:=x;exact hL1 e
 | frz ob u=>obtain ⟨e,_⟩:=x;exact hL1 e
 | tbl ps=>exact hL1 (show h.get? a=some _ from x)
 | met f y=>exact hL1 (show h.get? a=some _ from x)
 | ext φ=>obtain ⟨_,⟨_,e⟩,_⟩:=x;exact hL1 e
theorem Paired.mapP {α β:Type}{F G:α->β->Prop}:∀ {l₁:List α} {l₂:List β},Paired F l₁ l₂->(∀ a b,F a b->G a b)->Paired G l₁ l₂:=by
 intro a b h f
 induction h with
 | nil=>exact .nil
 | cons r t ih=>exact .cons (f _ _ r) ih
theorem qbL.stay (x:qbL P w H h a o)(k:∀ b u,(b=a\/H b=some (.own a))->h.get? b=some u->h'.get? b=some u)
  (ho:∀ b,H b=some (.own a)->H' b=some (.own a)) (ht:∀ b xs,H b=some (.tup xs)->H' b=some (.tup xs)):qbL P w H' h' a o:=by
 induction o with
 | lst xs=>obtain ⟨z,its,n,r,e⟩:=x;exact ⟨z,its,n,r,k _ _ (.inl rfl) e⟩
 | tup xs=>obtain ⟨z,its,r,ob,e,c⟩:=x;exact ⟨z,its,r,ob,k _ _ (.inl rfl) e,c⟩
 | dK kvs=>obtain ⟨z,y,vs,r,ob,es,ep,e,c⟩:=x;exact ⟨z,y,vs,r,ob,es,ep,k _ _ (.inl rfl) e,c⟩
 | dT kvs=>
  obtain ⟨z,y,xs,r,ob,es,ep,e,c⟩:=x
  exact ⟨z,y,xs,Paired.mapP r fun p q z=>⟨z.1,ht _ _ z.2.1,z.2.2⟩,ob,es,ep,k _ _ (.inl rfl) e,c⟩
 | set S n=>obtain ⟨ob,es,ep,t,e,c⟩:=x;exact ⟨ob,es,ep,t,k _ _ (.inl rfl) e,c⟩
 | ins C dx fs=>
  obtain ⟨d,z,ne,e,mA,⟨od,es,ep,e2,c⟩,r⟩:=x
  exact ⟨ho _ d,z,ne,k _ _ (.inl rfl) e,mA,⟨od,es,ep,k _ _ (.inr d) e2,c⟩,r⟩
 | own y=>obtain ⟨ob,e⟩:=x;exact ⟨ob,k _ _ (.inl rfl) e⟩
 | xd fs=>obtain ⟨mA,⟨od,es,ep,e,c⟩,r⟩:=x;exact ⟨mA,⟨od,es,ep,k _ _ (.inl rfl) e,c⟩,r⟩
 | rng lo hi=>obtain ⟨t,u,v,e⟩:=x;exact ⟨t,u,v,k _ _ (.inl rfl) e⟩
 | frz ob u ih=>obtain ⟨e,q⟩:=x;exact ⟨k _ _ (.inl rfl) e,ih q⟩
 | tbl ps=>
  have e:h.get? a=some {cls:=.none,data:=.fields ps}:=x
  show h'.get? a=some {cls:=.none,data:=.fields ps}
  exact k a _ (.inl rfl) e
 | met f y=>
  have e:h.get? a=some (PySem.W.methodObj (.ref f) (.ref y)):=x
  show h'.get? a=some (PySem.W.methodObj (.ref f) (.ref y))
  exact k a _ (.inl rfl) e
 | ext φ=>obtain ⟨p,⟨o,e⟩,st⟩:=x;exact ⟨st _ _ p fun o q=>k _ _ (.inl rfl) q,⟨o,k _ _ (.inl rfl) e⟩,st⟩
theorem HOk.lt (x:HOk P w H h)(e:H a=some o):a<h.objs.size:=(x a o e).lt
theorem HOk.fresh (x:HOk P w H h)(e:h.objs.size<=a):H a=none:=by
 cases q:H a with
 | none=>rfl
 | some u=>exact absurd (nL1 (x.lt q) e) (Nat.lt_irrefl _)
theorem HOk.kept (x:HOk P w H h)(k:∀ b u,h.get? b=some u->h'.get? b=some u):HOk P w H h':=fun a o e=>
 (x a o e).stay (fun b u _ q=>k b u q) (fun _ q=>q) fun _ _ q=>q
theorem HOk.laid (x:HOk P w H h)(k:∀ b u,h.get? b=some u->h'.get? b=some u)(hp:h.objs.size<=a)(new:qbL P w (upd H a o) h' a o):HOk P w (upd H a o) h':=fun b u e=>by
 have hn:=x.fresh hp
 by_cases hb:b=a
 ·subst hb;rw [qat] at e;cases e;exact new
 ·rw [qar hb] at e
  exact (x b u e).stay (fun c v _ q=>k c v q) (fun c q=>by rw [qar (qav q hn)];exact q) fun c xs q=>by rw [qar (qav q hn)];exact q
end
noncomputable def Rd (H:Hp)(a:Addr)(u:HO):Prop:=H a=some u \/ ∃ o,H a=some (.frz o u)
theorem Rd.of {H:Hp}{a:Addr}{u:HO}(h:H a=some u):Rd H a u:=.inl h
theorem Rd.ok {P:Program}{w:World}{H:Hp}{h:Heap}{a:Addr}{u:HO}(r:Rd H a u)(x:HOk P w H h):qbL P w H h a u:=by
 rcases r with r | ⟨o,r⟩
 ·exact x a u r
 ·obtain ⟨_,q⟩:=x a _ r
  exact q
noncomputable def Mut:Option HO->Prop
 | some (.lst _)=>True
 | some (.dK _)=>True
 | some (.dT _)=>True
 | some (.set _ _)=>True
 | some (.ins _ _ _)=>True
 | some (.ext _)=>True
 | _=>False
section
variable {P:Program} {w:World} {H:Hp} {h h':Heap} {x e:Addr} {o':HO}
theorem HOk.write (ok:HOk P w H h)(mu:Mut (H x))(he:e=x\/H e=some (.own x))(k:∀ b u,b≠e->h.get? b=some u->h'.get? b=some u)(heo:∃ u,h'.get? e=some u)
  (new:qbL P w (upd H x o') h' x o'):HOk P w (upd H x o') h':=fun b u q=>by
 have nown:∀ c y,H c=some (.own y)->c≠x:=fun c y r z=>by subst z;rw [r] at mu;exact mu
 have ntup:∀ c xs,H c=some (.tup xs)->c≠x:=fun c xs r z=>by subst z;rw [r] at mu;exact mu
 by_cases hb:b=x
 ·subst hb;rw [qat] at q;cases q;exact new
 ·rw [qar hb] at q
  by_cases hbe:b=e
  ·have q':H b=some (.own x):=by
    rcases he with z | z
    ·exact absurd (hbe.trans z) hb
    ·rw [hbe];exact z
   rw [q] at q';cases q'
   obtain ⟨v,hv⟩:=heo
   exact ⟨v,by rw [hbe];exact hv⟩
  ·refine (ok b u q).stay (fun c v hc r=>k c v ?_ r) (fun c r=>by rw [qar (nown c b r)];exact r) fun c xs r=>by rw [qar (ntup c xs r)];exact r
   rcases hc with rfl | hc
   ·exact hbe
   ·rintro rfl
    rcases he with z | z
    ·exact nown c b hc z
    ·rw [hc] at z;cases z;exact hb rfl
end
structure Un (fs ex:List Addr)(H H':Hp)(h h':Heap):Prop where
 keep:∀ b o,h.get? b=some o->H b=none->b∉fs->b∉ex->h'.get? b=some o
 slot:∀ b o,h.get? b=some o->H b=none->b∈fs->b∉ex -> ∃ sl,h'.get? b=some {o with slots:=sl}
 free:∀ b o,h.get? b=some o->H b=none->b∉ex->H' b=none
 there:∀ b o,h.get? b=some o->b∉ex -> ∃ o',h'.get? b=some o'
 tups:∀ b xs,H b=some (.tup xs)->H' b=some (.tup xs)
 frzs:∀ b o u,H b=some (.frz o u)->H' b=some (.frz o u)
 tbls:∀ b ps,H b=some (.tbl ps) -> ∃ more,H' b=some (.tbl (ps++more))
section
variable {fs fs' ex ex':List Addr} {H H1 H2:Hp} {h h1 h2 h':Heap} {a x e:Addr} {o:HO}
theorem Un.any (u:Un fs ex H H1 h h1){b:Addr}{ob:Obj}(q:h.get? b=some ob)(n:H b=none)(hx:b∉ex):∃ sl,h1.get? b=some {ob with slots:=sl}:=by
 by_cases hb:b∈fs
 ·exact u.slot b ob q n hb hx
 ·exact ⟨ob.slots,u.keep b ob q n hb hx⟩
theorem Un.kept (k:∀ b u,h.get? b=some u->h'.get? b=some u):Un fs ex H H h h':=
 ⟨fun b ob q _ _ _=>k b ob q,fun b ob q _ _ _=>⟨ob.slots,k b ob q⟩,fun _ _ _ n _=>n,fun b ob q _=>⟨ob,k b ob q⟩,fun _ _ q=>q,fun _ _ _ q=>q,fun _ ps q=>⟨#[],by rw [q];simp⟩⟩
theorem Un.refl:Un fs ex H H h h:=Un.kept fun _ _ q=>q
theorem Un.laid (k:∀ b u,h.get? b=some u->h'.get? b=some u)(hp:h.objs.size<=a)(hn:H a=none):Un fs ex H (upd H a o) h h' where
 keep:=fun b u q _ _ _=>k b u q
 slot:=fun b u q _ _ _=>⟨u.slots,k b u q⟩
 free:=fun b u q n _=>by rw [qar (nN1 (nL1 (hL1 q) hp))];exact n
 there:=fun b u q _=>⟨u,k b u q⟩
 tups:=fun b xs q=>by rw [qar (qav q hn)];exact q
 frzs:=fun b u xs q=>by rw [qar (qav q hn)];exact q
 tbls:=fun b ps q=>⟨#[],by rw [qar (qav q hn),q];simp⟩
theorem Un.write (mu:Mut (H x))(he:e=x\/H e=some (.own x))(k:∀ b u,b≠e->h.get? b=some u->h'.get? b=some u)(heo:∃ u,h'.get? e=some u):Un fs ex H (upd H x o) h h':=by
 have hx:∀ b,H b=none->b≠x:=fun b n z=>by subst z;rw [n] at mu;exact mu
 have hb:∀ b,H b=none->b≠e:=fun b n z=>by
  subst z
  rcases he with r | r
  ·exact hx b n r
  ·rw [n] at r;cases r
 have hm:∀ b u,H b=some u -> ¬ Mut (some u)->b≠x:=fun b u q nm z=>by subst z;rw [q] at mu;exact nm mu
 refine ⟨fun b u q n _ _=>k b u (hb b n) q,fun b u q n _ _=>⟨u.slots,k b u (hb b n) q⟩,fun b u q n _=>by rw [qar (hx b n)];exact n,fun b u q _=>?_,
  fun b xs q=>by rw [qar (hm b _ q fun z=>z)];exact q,fun b u xs q=>by rw [qar (hm b _ q fun z=>z)];exact q,fun b ps q=>⟨#[],by rw [qar (hm b _ q fun z=>z),q];simp⟩⟩
 by_cases hbe:b=e
 ·subst hbe;exact heo
 ·exact ⟨u,k b u hbe q⟩
end
noncomputable def trk (h:Heap)(H:Hp):List Addr:=(List.range h.objs.size).filter fun a=>(H a).isSome
noncomputable def hidT (h:Heap)(H:Hp):Heap:=PySem.W.hideAll h (trk h H)
theorem qjf (h:Heap)(H:Hp):(hidT h H).objs.size=h.objs.size:=PySem.W.hideAll_size _ _
theorem qk5 {h:Heap}{H:Hp}{b:Addr}{o:Obj}(e:h.get? b=some o)(n:H b=none):(hidT h H).get? b=some o:=
 PySem.W.hideAll_get _ e fun hm=>by
  have q:(H b).isSome=true:=(List.mem_filter.mp hm).2
  rw [n] at q;simp at q
theorem qmK {h:Heap}{H:Hp}{b:Addr}{o:Obj}(e:(hidT h H).get? b=some o):h.get? b=some o/\H b=none:=by
 have e':h.get? b=some o:=PySem.W.of_hideAll (trk h H) e
 refine ⟨e',?_⟩
 cases q:H b with
 | none=>rfl
 | some x=>
  have hm:b∈trk h H:=List.mem_filter.mpr ⟨List.mem_range.mpr (hL1 e'),by simp [q]⟩
  have z:(hidT h H).get? b=none:=PySem.W.hideAll_none (trk h H) hm
  rw [z] at e;cases e
noncomputable def qnz (g h:Heap)(L:Addr):List (Addr×Obj):=(List.range h.objs.size).filterMap fun a=>if a=L\/(g.get? a).isSome=true then none else (h.get? a).map fun o=>(a,o)
noncomputable def rest (g h:Heap)(L d:Addr):List (Addr×Obj):=(qnz g h L).filter fun p=>decide (p.1≠d)
end L2
namespace L2
open PySem PySem.Spec PyProof.Rows
structure Mod (K:Fg1)(mg:Str->Option Value)(base:Heap):Prop where
 kin:K.In base
 glob:base.Ns mainGlobals mg
 blt:∃ mb,base.Ns builtinsNs mb /\ ∀ x:Str,x≠"__name__"->mb x=bootBuiltins x
 nolimit:base.NoLimit
structure Cx where
 prog:Program
 w:World
 K:Fg1
 mg:Str->Option Value
 base:Heap
 A:Around
 N:List Str
 s₀:Shared
 H₀:Hp
 env:Env
 outer:List Env
 stack:List Env
 ex:List Addr
 fn:Str->Bool
 calm:Bool
 pn:List (Addr×Obj)
 xe:Value->Shared->Prop
noncomputable def frs (l:List Env):List Addr:=l.filterMap (·.frame)
noncomputable abbrev Cx.fs (X:Cx):List Addr:=frs X.outer
noncomputable def Vis (sc:Scope)(x:Str):Prop:=sc.names.lookup x=some .local\/sc.names.lookup x=some .cell\/sc.names.lookup x=some .free
noncomputable def Loc (sc:Scope)(x:Str):Prop:=sc.names.lookup x=some .local\/sc.names.lookup x=some .cell
noncomputable def Look (env:Env)(h:Heap)(m:Str->Option Value)(x:Str)(u:Value):Prop:=
 (env.kindOf x=some .local/\m x=some u)\/((env.kindOf x=some .cell\/env.kindOf x=some .free) /\ ∃ c,env.cells.lookup x=some c/\h.IsCell c (some u))
structure Cx.Ok (X:Cx):Prop where
 mod:Mod X.K X.mg X.base
 kind:X.env.scope.kind = .function
 glob:X.env.globals=mainGlobals
 blt:X.env.builtins=builtinsNs
 above:X.s₀.heap.objs.size<=X.env.locals
 inj:∀ x y c,X.env.cells.lookup x=some c->X.env.cells.lookup y=some c->x=y
 has:∀ x,(X.env.kindOf x=some .cell\/X.env.kindOf x=some .free) -> ∃ c,X.env.cells.lookup x=some c
 cab:∀ x c,X.fn x=true->X.env.cells.lookup x=some c->X.s₀.heap.objs.size<=c
 hd:X.calm=true->X.A.handled=none
 frames:X.A.frames=some X.stack
 stk:X.stack=X.outer\/(X.stack=X.env::X.outer/\X.env.frame=some X.env.locals)
 exf:∀ b∈X.ex,b≠X.env.locals /\ ∀ x c,X.env.cells.lookup x=some c->c≠b
 bs:∀ b o,X.base.get? b=some o->X.s₀.heap.get? b=some o/\X.H₀ b=none
 bsz:X.base.objs.size<=X.s₀.heap.objs.size
 noex:∀ b o,X.base.get? b=some o->b∉X.ex
 exfs:∀ b∈X.ex,b∉X.fs
 funs:X.s₀.heap.FunFrames X.base X.outer
 frf:∀ b∈X.fs,X.H₀ b=none
structure Inv (X:Cx)(pins:List (Addr×Obj))(σ:List (Option V))(H:Hp)(s:Shared):Prop where
 ok:X.Ok
 os:s.os=X.s₀.os
 bare:AllBare s.gens
 base:Un X.fs X.ex X.H₀ H X.s₀.heap s.heap
 loc:∃ m,s.heap.Ns X.env.locals m /\ ∀ (i:Nat) (x:Str) (v:V),X.N[i]? = some x->σ[i]? = some (some v)->Vis X.env.scope x -> ∃ u,RelV v u/\Look X.env s.heap m x u
 cell:∀ x c,X.env.cells.lookup x=some c -> ∃ v,s.heap.IsCell c v
 free:H X.env.locals=none
 freeC:∀ x c,X.env.cells.lookup x=some c->H c=none
 pin:∀ p∈X.pn++pins,s.heap.get? p.1=some p.2/\H p.1=none/\p.1≠X.env.locals/\p.1∉X.fs /\ ∀ v,p.2.data ≠ .cell v
 hok:HOk X.prog X.w H s.heap
 len:σ.length=X.N.length
section
variable {X:Cx} {pins:List (Addr×Obj)} {σ:List (Option V)} {H H':Hp} {s:Shared} {h':Heap}
theorem Cx.Ok.nofr (ok:X.Ok){b:Addr}{o:Obj}(e:X.base.get? b=some o):b∉X.fs:=fun hb=>by
 have:=(ok.funs.mem hb).1
 rw [e] at this;cases this
theorem Inv.bs (I:Inv X pins σ H s):∀ b o,X.base.get? b=some o->s.heap.get? b=some o/\H b=none:=fun b o e=>
 ⟨I.base.keep b o (I.ok.bs b o e).1 (I.ok.bs b o e).2 (I.ok.nofr e) (I.ok.noex b o e),I.base.free b o (I.ok.bs b o e).1 (I.ok.bs b o e).2 (I.ok.noex b o e)⟩
theorem Inv.bk (I:Inv X pins σ H s):∀ b o,X.base.get? b=some o->s.heap.get? b=some o:=fun b o e=>(I.bs b o e).1
theorem Inv.mod (I:Inv X pins σ H s):Mod X.K X.mg X.base:=I.ok.mod
theorem Inv.kIn (I:Inv X pins σ H s):X.K.In s.heap:=I.ok.mod.kin.keeps I.bk
theorem Inv.lt (I:Inv X pins σ H s):X.env.locals<s.heap.objs.size:=let ⟨_,hn,_⟩:=I.loc;hn.lt
theorem Inv.sz (I:Inv X pins σ H s):X.s₀.heap.objs.size<=s.heap.objs.size:=Nat.le_trans I.ok.above (Nat.le_of_lt I.lt)
theorem Inv.nofs (I:Inv X pins σ H s){a:Addr}(h:s.heap.objs.size<=a):a∉X.fs:=fun hb=>by
 obtain ⟨_,o,ho,_⟩:=I.ok.funs.mem hb
 exact absurd (nL1 (hL1 ho) (Nat.le_trans I.sz h)) (Nat.lt_irrefl _)
theorem Inv.cne (I:Inv X pins σ H s):∀ x c,X.env.cells.lookup x=some c->c≠X.env.locals:=fun x c e z=>by
 obtain ⟨v,o,ho,hd⟩:=I.cell x c e
 obtain ⟨m,⟨o',es,ep,ho',hd',_⟩,_⟩:=I.loc
 rw [z,ho'] at ho;cases ho;rw [hd'] at hd;cases hd
theorem Inv.funs (I:Inv X pins σ H s):s.heap.FunFrames X.base X.outer:=by
 have all:∀ (l:List Env),(∀ b∈frs l,b∈X.fs)->X.s₀.heap.FunFrames X.base l->s.heap.FunFrames X.base l:=by
  intro l
  induction l with
  | nil=>intro _ _;trivial
  | cons env r ih=>
   intro hs hl
   obtain ⟨hk,⟨L,o,hf,hn,ho,hd⟩,hr⟩:=hl
   have hL:L∈X.fs:=hs L (by unfold frs;rw [List.filterMap_cons,hf];exact mS1)
   obtain ⟨sl,e⟩:=I.base.slot L o ho (I.ok.frf L hL) hL fun z=>I.ok.exfs L z hL
   exact ⟨hk,⟨L,_,hf,hn,e,hd⟩,ih (fun b hb=>hs b (by unfold frs;rw [List.filterMap_cons,hf];exact mC1 _ hb)) hr⟩
 exact all X.outer (fun _ hb=>hb) I.ok.funs
theorem Inv.stack (I:Inv X pins σ H s):s.heap.FunFrames X.base X.stack:=by
 rcases I.ok.stk with e | ⟨e,hf⟩
 ·rw [e];exact I.funs
 ·rw [e]
  obtain ⟨m,hn,_⟩:=I.loc
  refine .cons (by rw [I.ok.kind];decide) hf hn ?_ I.funs
  exact Heap.get?_none_of_le (Nat.le_trans I.ok.bsz I.ok.above)
theorem Inv.stkSub (I:Inv X pins σ H s):∀ b∈frs X.stack,b∈X.env.locals::X.fs:=fun b hb=>by
 rcases I.ok.stk with e | ⟨e,hf⟩
 ·rw [e] at hb;exact mC1 _ hb
 ·rw [e] at hb
  unfold frs at hb
  rw [List.filterMap_cons,hf] at hb
  exact hb
theorem Inv.stkFree (I:Inv X pins σ H s):∀ b∈frs X.stack,H b=none:=fun b hb=>by
 rcases List.mem_cons.mp (I.stkSub b hb) with e | hb
 ·rw [e];exact I.free
 ·obtain ⟨_,o,ho,_⟩:=I.ok.funs.mem hb
  exact I.base.free b o ho (I.ok.frf b hb) fun z=>I.ok.exfs b z hb
theorem Inv.step {g':Array GenState}{t':Nat}{d':Drawn}{ch:List Addr}(I:Inv X pins σ H s)
  (hch:∀ b∈ch,(b∈X.ex\/X.s₀.heap.objs.size<=b)/\b≠X.env.locals/\(∀ x c,X.env.cells.lookup x=some c->c≠b) /\ ∀ p∈X.pn++pins,p.1≠b)
  (keep:∀ b o,b≠X.env.locals->b∉X.fs->b∉ch->s.heap.get? b=some o->H b=none->h'.get? b=some o)
  (slot:∀ b o,b≠X.env.locals->b∈X.fs->b∉ch->s.heap.get? b=some o->H b=none -> ∃ sl,h'.get? b=some {o with slots:=sl}) (free:∀ b o,b∉ch->s.heap.get? b=some o->H b=none->H' b=none)
  (there:∀ b o,b∉ch->s.heap.get? b=some o -> ∃ o',h'.get? b=some o')
  (tups:∀ b xs,H b=some (.tup xs)->H' b=some (.tup xs)) (frzs:∀ b o u,H b=some (.frz o u)->H' b=some (.frz o u)) (tbls:∀ b ps,H b=some (.tbl ps) -> ∃ more,H' b=some (.tbl (ps++more)))
  (ns:∀ m,s.heap.Ns X.env.locals m->h'.Ns X.env.locals m) (hok:HOk X.prog X.w H' h') (hg:AllBare g'):
  Inv X pins σ H' {s with heap:=h',gens:=g',drawn:=d',toks:=t'}:=by
 have neL:∀ b o,X.s₀.heap.get? b=some o->b≠X.env.locals:=fun b o e=>nN1 (nL1 (hL1 e) I.ok.above)
 have neC:∀ b o,X.s₀.heap.get? b=some o->b∉X.ex->b∉ch:=fun b o e hx hb=>by
  rcases (hch b hb).1 with z | z
  ·exact hx z
  ·exact absurd (nL1 (hL1 e) z) (Nat.lt_irrefl _)
 have cellK:∀ x c,X.env.cells.lookup x=some c -> ∀ v,s.heap.IsCell c v->h'.IsCell c v:=fun x c e v ⟨o,ho,hd⟩=>by
  have nch:c∉ch:=fun z=>(hch c z).2.2.1 x c e rfl
  by_cases hc:c∈X.fs
  ·obtain ⟨sl,q⟩:=slot c o (I.cne x c e) hc nch ho (I.freeC x c e)
   exact ⟨_,q,hd⟩
  ·exact ⟨o,keep c o (I.cne x c e) hc nch ho (I.freeC x c e),hd⟩
 refine ⟨I.ok,I.os,hg,⟨fun b o e n hb hx=>?_,fun b o e n hb hx=>?_,fun b o e n hx=>?_,fun b o e hx=>?_,fun b xs e=>tups b xs (I.base.tups b xs e),fun b o xs e=>frzs b o xs (I.base.frzs b o xs e),fun b ps e=>?_⟩,?_,fun x c e=>?_,?_,fun x c e=>?_,fun p hp=>?_,hok,I.len⟩
 ·exact keep b o (neL b o e) hb (neC b o e hx) (I.base.keep b o e n hb hx) (I.base.free b o e n hx)
 ·obtain ⟨sl,e1⟩:=I.base.slot b o e n hb hx
  obtain ⟨sl',e2⟩:=slot b _ (neL b o e) hb (neC b o e hx) e1 (I.base.free b o e n hx)
  exact ⟨sl',e2⟩
 ·obtain ⟨o',e1⟩:=I.base.there b o e hx
  exact free b o' (neC b o e hx) e1 (I.base.free b o e n hx)
 ·obtain ⟨o',e1⟩:=I.base.there b o e hx
  exact there b o' (neC b o e hx) e1
 ·obtain ⟨m1,e1⟩:=I.base.tbls b ps e
  obtain ⟨m2,e2⟩:=tbls b _ e1
  exact ⟨m1++m2,by rw [e2,Array.append_assoc]⟩
 ·obtain ⟨m,hn,hl⟩:=I.loc
  refine ⟨m,ns m hn,fun i x v e1 e2 e3=>?_⟩
  obtain ⟨u,r,l⟩:=hl i x v e1 e2 e3
  refine ⟨u,r,?_⟩
  rcases l with l | ⟨k,c,e,z⟩
  ·exact .inl l
  ·exact .inr ⟨k,c,e,cellK x c e _ z⟩
 ·obtain ⟨v,z⟩:=I.cell x c e
  exact ⟨v,cellK x c e v z⟩
 ·obtain ⟨m,⟨o,_,_,ho,_⟩,_⟩:=I.loc
  exact free _ o (fun z=>(hch _ z).2.1 rfl) ho I.free
 ·obtain ⟨v,o,ho,hd⟩:=I.cell x c e
  exact free c o (fun z=>(hch c z).2.2.1 x c e rfl) ho (I.freeC x c e)
 ·obtain ⟨e,n,ne,nf,d⟩:=I.pin p hp
  have nch:p.1∉ch:=fun z=>(hch p.1 z).2.2.2 p hp rfl
  exact ⟨keep p.1 p.2 ne nf nch e n,free p.1 p.2 nch e n,ne,nf,d⟩
theorem Inv.un {t':Nat}(I:Inv X pins σ H s)(u:Un X.fs [] H H' s.heap h')(hok:HOk X.prog X.w H' h'):Inv X pins σ H' {s with heap:=h',toks:=t'}:=by
 obtain ⟨m,⟨o,es,ep,ho,r⟩,_⟩:=id I.loc
 obtain ⟨sl,hL⟩:=u.any ho I.free (by simp)
 exact I.step (g':=s.gens) (d':=s.drawn) (ch:=[]) (fun _ z=>nomatch z) (fun b o _ hb _ e n=>u.keep b o e n hb (by simp)) (fun b o _ hb _ e n=>u.slot b o e n hb (by simp)) (fun b o _ e n=>u.free b o e n (by simp)) (fun b o _ e=>u.there b o e (by simp)) u.tups u.frzs u.tbls (fun m' hm=>by
  obtain ⟨o',es',ep',ho',r'⟩:=hm
  rw [ho] at ho';cases ho'
  exact ⟨_,es',ep',hL,r'⟩) hok I.bare
theorem Inv.call {g':Array GenState}{t':Nat}{d':Drawn}{ch:List Addr}(I:Inv X pins σ H s)(u:Un (frs X.stack) ch H H' s.heap h')(hok:HOk X.prog X.w H' h')(hg:AllBare g')
  (hch:∀ b∈ch,(b∈X.ex\/X.s₀.heap.objs.size<=b)/\b≠X.env.locals/\(∀ x c,X.env.cells.lookup x=some c->c≠b) /\ ∀ p∈X.pn++pins,p.1≠b):
  Inv X pins σ H' {s with heap:=h',gens:=g',drawn:=d',toks:=t'}:=by
 obtain ⟨m,⟨o,es,ep,ho,r⟩,_⟩:=id I.loc
 obtain ⟨sl,hL⟩:=u.any ho I.free fun z=>(hch _ z).2.1 rfl
 exact I.step (ch:=ch) hch (fun b o hL hb hc e n=>u.keep b o e n (fun z=>(List.mem_cons.mp (I.stkSub b z)).elim hL hb) hc) (fun b o _ _ hc e n=>u.any e n hc) (fun b o hc e n=>u.free b o e n hc) (fun b o hc e=>u.there b o e hc) u.tups u.frzs u.tbls (fun m' hm=>by
  obtain ⟨o',es',ep',ho',r'⟩:=hm
  rw [ho] at ho';cases ho'
  exact ⟨_,es',ep',hL,r'⟩) hok hg
theorem Inv.turned {t':Nat}{it:Addr}(I:Inv X pins σ H s)(k:∀ b o,b≠it->s.heap.get? b=some o->h'.get? b=some o)(hn:H it=none)(hL:it≠X.env.locals)
  (h1:it∈X.ex\/X.s₀.heap.objs.size<=it) (h2:∀ x c,X.env.cells.lookup x=some c->c≠it) (h3:∀ p∈X.pn++pins,p.1≠it):Inv X pins σ H {s with heap:=h',toks:=t'}:=by
 have nit:∀ b u,H b=some u->b≠it:=fun b u e z=>by rw [z,hn] at e;cases e
 refine I.step (g':=s.gens) (d':=s.drawn) (ch:=[it]) (fun b hb=>?_) (fun b o _ _ hc e _=>k b o (fun z=>hc (by simp [z])) e) (fun b o _ _ hc e _=>⟨o.slots,k b o (fun z=>hc (by simp [z])) e⟩) (fun _ _ _ _ n=>n)
  (fun b o hc e=>⟨o,k b o (fun z=>hc (by simp [z])) e⟩) (fun _ _ e=>e) (fun _ _ _ e=>e) (fun b ps e=>⟨#[],by rw [e];simp⟩) (fun m hm=>?_) (fun b u e=>?_) I.bare
 ·have e:b=it:=by simpa using hb
  subst e
  exact ⟨h1,hL,h2,h3⟩
 ·obtain ⟨o,es,ep,ho,r⟩:=hm
  exact ⟨o,es,ep,k _ o (Ne.symm hL) ho,r⟩
 ·refine (I.hok b u e).stay (fun c v hc q=>k c v ?_ q) (fun _ q=>q) fun _ _ q=>q
  rcases hc with z | z
  ·rw [z];exact nit b u e
  ·exact nit c _ z
theorem Inv.tok (I:Inv X pins σ H s)(t:Nat):Inv X pins σ H {s with toks:=t}:=I.un (h':=s.heap) (t':=t) Un.refl I.hok
theorem Inv.kept {t':Nat}(I:Inv X pins σ H s)(k:∀ b u,s.heap.get? b=some u->h'.get? b=some u):Inv X pins σ H {s with heap:=h',toks:=t'}:=I.un (Un.kept k) (I.hok.kept k)
theorem Inv.laid {a:Addr}{o:HO}{t':Nat}(I:Inv X pins σ H s)(k:∀ b u,s.heap.get? b=some u->h'.get? b=some u)(hp:s.heap.objs.size<=a)(new:qbL X.prog X.w (upd H a o) h' a o):
  Inv X pins σ (upd H a o) {s with heap:=h',toks:=t'}:=I.un (Un.laid k hp (I.hok.fresh hp)) (I.hok.laid k hp new)
theorem Inv.write {x e:Addr}{o:HO}{t':Nat}(I:Inv X pins σ H s)(mu:Mut (H x))(he:e=x\/H e=some (.own x))(k:∀ b u,b≠e->s.heap.get? b=some u->h'.get? b=some u)(heo:∃ u,h'.get? e=some u)
  (new:qbL X.prog X.w (upd H x o) h' x o):Inv X pins σ (upd H x o) {s with heap:=h',toks:=t'}:=I.un (Un.write mu he k heo) (I.hok.write mu he k heo new)
theorem Inv.pins_of {pins':List (Addr×Obj)}(I:Inv X pins σ H s)(h:∀ p∈pins',s.heap.get? p.1=some p.2/\H p.1=none/\p.1≠X.env.locals/\p.1∉X.fs /\ ∀ v,p.2.data ≠ .cell v):Inv X pins' σ H s:=
 ⟨I.ok,I.os,I.bare,I.base,I.loc,I.cell,I.free,I.freeC,fun p hp=>(List.mem_append.mp hp).elim (fun z=>I.pin p (List.mem_append_left _ z)) (h p),I.hok,I.len⟩
theorem qhn {N:List Str}(hN:N.Nodup){i j:Nat}{x:Str}(a:N[i]? = some x)(b:N[j]? = some x):i=j:=by
 obtain ⟨h1,e1⟩:=gE1.mp a
 obtain ⟨h2,e2⟩:=gE1.mp b
 exact (List.getElem_inj hN).mp (e1.trans e2.symm)
theorem qiu {M:Model}{A:Around}{E:Value->Shared->Prop}{i:Nat}{x:Str}{v:V}{u:Value}{Q:Unit->Shared->Prop}(I:Inv X pins σ H s)(hN:X.N.Nodup)(hi:X.N[i]? = some x)(hx:Loc X.env.scope x)(r:RelV v u)
  (h:∀ s',Inv X pins (σ.set i (some v)) H s'->(∃ a,Heap.SameBut a s.heap s'.heap/\(a=X.env.locals\/X.env.cells.lookup x=some a))->Q () s') (hf:X.fn x=true\/X.env.scope.names.lookup x=some .local:=by first | exact .inl rfl | exact .inr rfl | assumption):wpAny M A (storeName X.env x u) Q E s:=by
 obtain ⟨m,hn,hl⟩:=id I.loc
 have hcls:(X.env.scope.kind == .class||(X.env.scope.kind == .module&&X.env.locals != X.env.globals))=false:=by rw [I.ok.kind];rfl
 have hiσ:i<σ.length:=by rw [I.len];exact (gE1.mp hi).1
 have cne:=I.cne
 have tracked:∀ {a:Addr} {h':Heap},(∃ o,s.heap.get? a=some o/\H a=none)->Heap.SameBut a s.heap h'->HOk X.prog X.w H h':=fun {a h'} ha hs b ob e=>by
  obtain ⟨_,_,hfree⟩:=ha
  refine (I.hok b ob e).stay (fun c w' hc q=>(hs.2 c ?_).trans q) (fun _ q=>q) fun _ _ q=>q
  rintro rfl
  rcases hc with rfl | hc
  ·rw [hfree] at e;cases e
  ·rw [hfree] at hc;cases hc
 rcases hx with hk | hk
 ·refine wpAny_storeName_local hk hn (fun h' hn' hs=>?_) hcls
  obtain ⟨oL,_,_,hoL,_⟩:=id hn
  refine h _ ⟨I.ok,I.os,I.bare,⟨fun b o e n hb hx=>?_,fun b o e n hb hx=>?_,I.base.free,fun b o e hx=>?_,I.base.tups,I.base.frzs,I.base.tbls⟩,⟨_,hn',fun j y v' e1 e2 e3=>?_⟩,fun y c e=>?_,I.free,I.freeC,fun p hp=>?_,tracked ⟨oL,hoL,I.free⟩ hs,by simpa using I.len⟩ ⟨_,hs,.inl rfl⟩
  ·exact (hs.2 b (nN1 (nL1 (hL1 e) I.ok.above))).trans (I.base.keep b o e n hb hx)
  ·obtain ⟨sl,e1⟩:=I.base.slot b o e n hb hx
   exact ⟨sl,(hs.2 b (nN1 (nL1 (hL1 e) I.ok.above))).trans e1⟩
  ·obtain ⟨o',e1⟩:=I.base.there b o e hx
   exact ⟨o',(hs.2 b (nN1 (nL1 (hL1 e) I.ok.above))).trans e1⟩
  ·by_cases hj:j=i
   ·subst hj
    rw [hi] at e1;cases e1
    rw [List.getElem?_set_self hiσ] at e2
    cases e2
    exact ⟨u,r,.inl ⟨hk,by simp⟩⟩
   ·rw [gS1 (Ne.symm hj)] at e2
    obtain ⟨u',r',q⟩:=hl j y v' e1 e2 e3
    refine ⟨u',r',?_⟩
    rcases q with ⟨k,e⟩ | ⟨k,c,e,z⟩
    ·refine .inl ⟨k,?_⟩
     have:y≠x:=fun e=>hj (qhn hN e1 (e ▸ hi))
     simp [this,e]
    ·exact .inr ⟨k,c,e,z.sameBut hs (cne y c e)⟩
  ·obtain ⟨w',z⟩:=I.cell y c e
   exact ⟨w',z.sameBut hs (cne y c e)⟩
  ·obtain ⟨e,n,ne,nf,d⟩:=I.pin p hp
   exact ⟨(hs.2 p.1 ne).trans e,n,ne,nf,d⟩
 ·have hfn:X.fn x=true:=by
   rcases hf with z | z
   ·exact z
   ·rw [z] at hk;cases hk
  obtain ⟨c,hc⟩:=I.ok.has x (.inl hk)
  obtain ⟨w',z⟩:=I.cell x c hc
  refine wpAny_storeName_cell I.ok.kind hk hc z (fun h' hc' hs=>?_)
  obtain ⟨oc,hoc,hocd⟩:=id z
  refine h {s with heap:=h'} ⟨I.ok,I.os,I.bare,⟨fun b o e n hb hx=>?_,fun b o e n hb hx=>?_,I.base.free,fun b o e hx=>?_,I.base.tups,I.base.frzs,I.base.tbls⟩,⟨m,hn.sameBut hs (Ne.symm (cne x c hc)),fun j y v' e1 e2 e3=>?_⟩,fun y c' e=>?_,I.free,I.freeC,fun p hp=>?_,tracked ⟨oc,hoc,I.freeC x c hc⟩ hs,by simpa using I.len⟩ ⟨c,hs,.inr hc⟩
  ·exact (hs.2 b (nN1 (nL1 (hL1 e) (I.ok.cab x c hfn hc)))).trans (I.base.keep b o e n hb hx)
  ·obtain ⟨sl,e1⟩:=I.base.slot b o e n hb hx
   exact ⟨sl,(hs.2 b (nN1 (nL1 (hL1 e) (I.ok.cab x c hfn hc)))).trans e1⟩
  ·obtain ⟨o',e1⟩:=I.base.there b o e hx
   exact ⟨o',(hs.2 b (nN1 (nL1 (hL1 e) (I.ok.cab x c hfn hc)))).trans e1⟩
  ·by_cases hj:j=i
   ·subst hj
    rw [hi] at e1;cases e1
    rw [List.getElem?_set_self hiσ] at e2
    cases e2
    exact ⟨u,r,.inr ⟨.inl hk,c,hc,hc'⟩⟩
   ·rw [gS1 (Ne.symm hj)] at e2
    obtain ⟨u',r',q⟩:=hl j y v' e1 e2 e3
    refine ⟨u',r',?_⟩
    rcases q with q | ⟨k,c',e,z'⟩
    ·exact .inl q
    ·refine .inr ⟨k,c',e,z'.sameBut hs ?_⟩
     rintro rfl
     exact hj (qhn hN e1 (I.ok.inj _ _ _ e hc ▸ hi))
  ·by_cases hcc:c'=c
   ·subst hcc;exact ⟨_,hc'⟩
   ·obtain ⟨w2,z2⟩:=I.cell y c' e
    exact ⟨w2,z2.sameBut hs hcc⟩
  ·obtain ⟨e,n,ne,nf,d⟩:=I.pin p hp
   refine ⟨(hs.2 p.1 ?_).trans e,n,ne,nf,d⟩
   intro q
   rw [q,hoc] at e
   have q':oc=p.2:=Option.some.inj e
   exact d w' (by rw [<- q'];exact hocd)
theorem qdY {M:Model}{A:Around}{E:Value->Shared->Prop}{i:Nat}{x:Str}{v:V}{u:Value}{Q:Unit->Shared->Prop}(I:Inv X pins σ H s)(hN:X.N.Nodup)(hi:X.N[i]? = some x)(hx:Loc X.env.scope x)(r:RelV v u)
  (h:∀ s',Inv X pins (σ.set i (some v)) H s'->Q () s') (hf:X.fn x=true\/X.env.scope.names.lookup x=some .local:=by first | exact .inl rfl | exact .inr rfl | assumption):wpAny M A (storeName X.env x u) Q E s:=
 qiu I hN hi hx r (fun s' I' _=>h s' I') hf
theorem Inv.call' {s':Shared}{ch:List Addr}(I:Inv X pins σ H s)(ho:s'.os=s.os)(u:Un (frs X.stack) ch H H' s.heap s'.heap)(hok:HOk X.prog X.w H' s'.heap)(hg:AllBare s'.gens)
  (hch:∀ b∈ch,(b∈X.ex\/X.s₀.heap.objs.size<=b)/\b≠X.env.locals/\(∀ x c,X.env.cells.lookup x=some c->c≠b) /\ ∀ p∈X.pn++pins,p.1≠b):Inv X pins σ H' s':=by
 obtain ⟨h',g',d',t',o'⟩:=s'
 have e:o'=s.os:=ho
 subst e
 exact I.call (g':=g') (t':=t') (d':=d') u hok hg hch
end
noncomputable abbrev XK:=Value->Option Addr->Hp->Prop
noncomputable abbrev St:=List (Option V)
noncomputable abbrev VK:=V->Hp->Prop
noncomputable abbrev TE:=St->Hp->VK->Prop
noncomputable abbrev TT:=St->Hp->(Bool->Hp->Prop)->Prop
noncomputable abbrev TA:=St->Hp->(List V->Hp->Prop)->Prop
structure Ends where
 nx:St->Hp->Prop
 rt:VK
 bk:St->Hp->Prop:=fun _ _=>False
 ct:St->Hp->Prop:=fun _ _=>False
noncomputable abbrev TS:=Ends->St->Hp->Prop
noncomputable def EP (X:Cx)(pins:List (Addr×Obj))(σ:St)(Q:VK)(u:Value)(s':Shared):Prop:=∃ v H',Inv X pins σ H' s'/\RelV v u/\Q v H'
noncomputable def TP (X:Cx)(pins:List (Addr×Obj))(σ:St)(Q:Bool->Hp->Prop)(b:Bool)(s':Shared):Prop:=∃ H',Inv X pins σ H' s'/\Q b H'
noncomputable def AP (X:Cx)(pins:List (Addr×Obj))(σ:St)(Q:List V->Hp->Prop)(us:List Value)(s':Shared):Prop:=∃ vs H',Inv X pins σ H' s'/\Vals vs us/\Q vs H'
noncomputable def SP (X:Cx)(pins:List (Addr×Obj))(D:Ends)(f:Flow)(s':Shared):Prop:=
 match f with
 | .next=>∃ σ' H',Inv X pins σ' H' s'/\D.nx σ' H'
 | .brk=>∃ σ' H',Inv X pins σ' H' s'/\D.bk σ' H'
 | .cont=>∃ σ' H',Inv X pins σ' H' s'/\D.ct σ' H'
 | .ret u=>∃ v σ' H',Inv X pins σ' H' s'/\RelV v u/\D.rt v H'
noncomputable def PE (X:Cx)(e:Expr)(t:TE):Prop:=
 ∀ (pins:List (Addr×Obj)) (s:Shared) (σ:St) (H:Hp) (Q:VK),Inv X pins σ H s->t σ H Q->wpAny (model X.prog X.w) X.A (eval e X.env) (EP X pins σ Q) X.xe s
noncomputable def PT (X:Cx)(e:Expr)(t:TT):Prop:=
 ∀ (pins:List (Addr×Obj)) (s:Shared) (σ:St) (H:Hp) (Q:Bool->Hp->Prop),Inv X pins σ H s->t σ H Q->wpAny (model X.prog X.w) X.A (isTrue e X.env (eval e X.env)) (TP X pins σ Q) X.xe s
noncomputable def PW (X:Cx)(e:Expr)(t:TT):Prop:=
 ∀ (whole:Sem Value) (pins:List (Addr×Obj)) (s:Shared) (σ:St) (H:Hp) (Q:Bool->Hp->Prop),Inv X pins σ H s->t σ H Q->wpAny (model X.prog X.w) X.A (isTrue e X.env whole) (TP X pins σ Q) X.xe s
theorem PW.pt {X:Cx}{e:Expr}{t:TT}(h:PW X e t):PT X e t:=h _
noncomputable def PA (X:Cx)(es:List Expr)(t:TA):Prop:=
 ∀ (pos:Pos) (pins:List (Addr×Obj)) (s:Shared) (σ:St) (H:Hp) (Q:List V->Hp->Prop),Inv X pins σ H s->t σ H Q->wpAny (model X.prog X.w) X.A (spliced (backTo pos (starEach es X.env))) (AP X pins σ Q) X.xe s
noncomputable def PS (X:Cx)(st:Stmt)(t:TS):Prop:=
 ∀ (pins:List (Addr×Obj)) (s:Shared) (σ:St) (H:Hp) (D:Ends),Inv X pins σ H s->t D σ H->wpAny (model X.prog X.w) X.A (exec st X.env) (SP X pins D) X.xe s
noncomputable def PSs (X:Cx)(st:List Stmt)(t:TS):Prop:=
 ∀ (pins:List (Addr×Obj)) (s:Shared) (σ:St) (H:Hp) (D:Ends),Inv X pins σ H s->t D σ H->wpAny (model X.prog X.w) X.A (execs st X.env) (SP X pins D) X.xe s
theorem thn {α:Type}{t:Sem α}{Q Q':α->Shared->Prop}{M:Model}{A:Around}{E:Value->Shared->Prop}{s:Shared}(h:wpAny M A t Q E s)(hQ:∀ a s,Q a s->Q' a s):wpAny M A t Q' E s:=wpAny_mono h hQ fun _ _ x=>x
end L2
namespace L2
open PySem PySem.Spec PyProof.Rows
section
variable {X:Cx}
theorem bin {a b:Expr}{ta tb:TE}(ha:PE X a ta)(hb:PE X b tb){pins:List (Addr×Obj)}{s:Shared}{σ:St}{H:Hp}{R:V->V->Hp->Prop}(I:Inv X pins σ H s)(h:ta σ H fun x H1=>tb σ H1 fun y H2=>R x y H2)
  {α:Type} {Q:α->Shared->Prop} {f:Value->Value->Sem α}
  (hf:∀ v u s2 x y H2,Inv X pins σ H2 s2->RelV x v->RelV y u->R x y H2->wpAny (model X.prog X.w) X.A (f v u) Q X.xe s2):
  wpAny (model X.prog X.w) X.A (eval a X.env) (fun v s₁=>wpAny (model X.prog X.w) X.A (eval b X.env) (fun u s₂=>wpAny (model X.prog X.w) X.A (f v u) Q X.xe s₂) X.xe s₁) X.xe s:=by
 refine thn (ha pins s σ H _ I h) fun v s1 ⟨x,H1,I1,r1,q1⟩=>?_
 refine thn (hb pins s1 σ H1 _ I1 q1) fun u s2 ⟨y,H2,I2,r2,q2⟩=>?_
 exact hf v u s2 x y H2 I2 r1 r2 q2
noncomputable def tVar (i:Nat):TE:=fun σ H Q=>∃ v,σ[i]? = some (some v)/\Q v H
noncomputable def tC (v:V):TE:=fun _ H Q=>Q v H
theorem qos {i:Nat}{x:Str}{pos:Pos}(hN:X.N[i]? = some x)(hv:Vis X.env.scope x)(hd:(x == ("__debug__":Str))=false:=by decide)(hcd:(x == ("__classdict__":Str))=false:=by decide):PE X (.Name x pos) (tVar i):=by
 intro pins s σ H Q I h
 obtain ⟨v,e,h⟩:=h
 obtain ⟨m,hn,hl⟩:=I.loc
 obtain ⟨u,r,l⟩:=hl i x v hN e hv
 have fin:EP X pins σ Q u s:=⟨v,H,I,r,h⟩
 rcases l with ⟨hk,hm⟩ | ⟨hk,c,hc,hcell⟩
 ·exact wpAny_Name (wpAny_loadName_local I.ok.kind hk hn hm fin) hd
 ·rcases hk with hk | hk
  ·exact wpAny_Name (wpAny_loadName_cell I.ok.kind hk hc hcell fin) hd
  ·exact wpAny_Name (wpAny_loadName_free I.ok.kind hk hc hcell fin hcd) hd
theorem qox {i j pos}:PE X (.Constant (.int i) j pos) (tC (.int i)):=fun _ _ _ H _ I h=>wpAny_Constant_int ⟨.int i,H,I.tok _,⟨_,rfl⟩,h⟩
theorem qqt {b j pos}:PE X (.Constant (.bool b) j pos) (tC (.bl b)):=fun _ _ _ H _ I h=>Constant_bool ⟨.bl b,H,I,rfl,h⟩
theorem qov {j pos}:PE X (.Constant .none j pos) (tC .non):=fun _ _ _ H _ I h=>Constant_none ⟨.non,H,I,rfl,h⟩
theorem qou {x j pos}:PE X (.Constant (.str x) j pos) (tC (.str x)):=fun _ _ _ H _ I h=>Calls.Constant_str ⟨.str x,H,I.tok _,⟨_,rfl⟩,h⟩
noncomputable def Gl (X:Cx)(x:Str):Prop:=X.env.kindOf x=some .globalImplicit
theorem qi6 {E:Value->Shared->Prop}{pins:List (Addr×Obj)}{s:Shared}{σ:St}{H:Hp}{x:Str}{u:Value}{pos:Pos}{Q:Value->Shared->Prop}(I:Inv X pins σ H s)(hg:Gl X x)(hm:X.mg x=some u)(h:Q u s)
  (hd:(x == ("__debug__":Str))=false:=by decide):wpAny (model X.prog X.w) X.A (eval (.Name x pos) X.env) Q E s:=
 Calls.Name_function_global I.ok.kind hg (Calls.loadGlobal_global (by rw [I.ok.glob];exact I.mod.glob.keeps I.bk) hm h) hd
theorem qeM {E:Value->Shared->Prop}{pins:List (Addr×Obj)}{s:Shared}{σ:St}{H:Hp}{x:Str}{u:Value}{pos:Pos}{Q:Value->Shared->Prop}(I:Inv X pins σ H s)(hg:Gl X x)(hm:X.mg x=none)(hv:bootBuiltins x=some u)(h:Q u s)
  (hn:x≠"__name__":=by decide) (hd:(x == ("__debug__":Str))=false:=by decide):wpAny (model X.prog X.w) X.A (eval (.Name x pos) X.env) Q E s:=by
 obtain ⟨mb,h1,h2⟩:=I.mod.blt
 exact Calls.Name_function_global I.ok.kind hg (Calls.loadGlobal_builtin (by rw [I.ok.glob];exact I.mod.glob.keeps I.bk) hm (by rw [I.ok.blt];exact h1.keeps I.bk) ((h2 x hn).trans hv) h) hd
theorem qmB {x:Str}{v:V}{u:Value}{pos:Pos}(hg:Gl X x)(hm:X.mg x=some u)(r:RelV v u)(hd:(x == ("__debug__":Str))=false:=by decide):PE X (.Name x pos) (tC v):=
 fun _ _ _ H _ I h=>qi6 I hg hm ⟨v,H,I,r,h⟩ hd
variable {a b:Expr} {ta tb:TE} {pos:Pos}
noncomputable def tB (t:TE):TT:=fun σ H Q=>t σ H fun x H1=>∃ c,x = .bl c/\Q c H1
variable {tA tB':TT} {rest:List Expr}
noncomputable def tAnd (t u:TT):TT:=fun σ H Q=>t σ H fun c H1=>if c=true then u σ H1 Q else Q false H1
noncomputable def tOr (t u:TT):TT:=fun σ H Q=>t σ H fun c H1=>if c=true then Q true H1 else u σ H1 Q
noncomputable def tNot (t:TT):TT:=fun σ H Q=>t σ H fun c H1=>Q (!c) H1
theorem qml (ha:PT X a tA):PW X (.BoolOp .And [a] pos) tA:=by
 intro wh pins s σ H Q I h
 refine isTrue_and (thn (ha pins s σ H Q I h) fun c s1 e=>?_)
 cases c with
 | true=>exact isTrue_and_nil e
 | false=>exact e
theorem qoe (ha:PT X a tA):PW X (.BoolOp .Or [a] pos) tA:=by
 intro wh pins s σ H Q I h
 refine isTrue_or (thn (ha pins s σ H Q I h) fun c s1 e=>?_)
 cases c with
 | false=>exact isTrue_or_nil e
 | true=>exact e
theorem qof (ha:PT X a tA)(hb:PW X (.BoolOp .And (b::rest) pos) tB'):PW X (.BoolOp .And (a::b::rest) pos) (tAnd tA tB'):=by
 intro wh pins s σ H Q I h
 refine isTrue_and (thn (ha pins s σ H _ I h) fun c s1 ⟨H1,I1,q1⟩=>?_)
 cases c with
 | true=>exact hb wh pins s1 σ H1 Q I1 q1
 | false=>exact ⟨H1,I1,q1⟩
theorem qqm (ha:PT X a tA)(hb:PW X (.BoolOp .Or (b::rest) pos) tB'):PW X (.BoolOp .Or (a::b::rest) pos) (tOr tA tB'):=by
 intro wh pins s σ H Q I h
 refine isTrue_or (thn (ha pins s σ H _ I h) fun c s1 ⟨H1,I1,q1⟩=>?_)
 cases c with
 | true=>exact ⟨H1,I1,q1⟩
 | false=>exact hb wh pins s1 σ H1 Q I1 q1
theorem qoh (ha:PT X a tA):PT X (.UnaryOp .Not a pos) (tNot tA):=by
 intro pins s σ H Q I h
 exact isTrue_not (ha pins s σ H (fun c H1=>Q (!c) H1) I h)
noncomputable def tIf (t:TT)(ta tb:TE):TE:=fun σ H Q=>t σ H fun c H1=>if c=true then ta σ H1 Q else tb σ H1 Q
theorem qkt {c:Expr}(hc:PT X c tA)(ha:PE X a ta)(hb:PE X b tb):PE X (.IfExp c a b pos) (tIf tA ta tb):=by
 intro pins s σ H Q I h
 refine wpAny_IfExp (thn (hc pins s σ H _ I h) fun d s1 ⟨H1,I1,q1⟩=>?_)
 cases d with
 | true=>exact ha pins s1 σ H1 Q I1 q1
 | false=>exact hb pins s1 σ H1 Q I1 q1
end
end L2
namespace L2
open PySem PySem.Spec PyProof.Rows
noncomputable def SqL (K:Fg1)(H:Hp)(a:Addr)(xs:List V):Prop:=
 Rd H a (.lst xs) \/
  ∃ (o:Obj) (its:Array Value) (n:Nat),K.lookup a=some o/\o.cls = .type "list"/\o.dict=none/\o.data = .seq its n/\its.size<=sizeLine/\Vals xs its.toList
noncomputable def SqT (K:Fg1)(H:Hp)(a:Addr)(xs:List V):Prop:=
 Rd H a (.tup xs) \/
  ∃ (o:Obj) (its:Array Value) (n:Nat),K.lookup a=some o/\o.cls = .type "tuple"/\o.data = .seq its n/\its.size<=sizeLine/\Vals xs its.toList
noncomputable def absV:Value->Option V
 | .none=>some .non
 | .bool b=>some (.bl b)
 | .int i _=>some (.int i)
 | .str x _=>some (.str x)
 | .bytes b _=>some (.byt b)
 | .float b _=>some (.flt b)
 | .ref a=>some (.ref a)
 | .type n=>some (.ty n)
 | _=>none
theorem RelV.abs {x:V}{u:Value}(r:RelV x u):absV u=some x:=by
 cases x with
 | non=>cases r;rfl
 | bl _=>cases r;rfl
 | int _=>obtain ⟨t,rfl⟩:=r;rfl
 | str _=>obtain ⟨t,rfl⟩:=r;rfl
 | byt _=>obtain ⟨t,rfl⟩:=r;rfl
 | flt _=>obtain ⟨t,rfl⟩:=r;rfl
 | ref _=>cases r;rfl
 | ty _=>cases r;rfl
theorem RelV.inj {x y:V}{u:Value}(r:RelV x u)(q:RelV y u):x=y:=Option.some.inj (r.abs.symm.trans q.abs)
theorem Vals.inj:∀ {xs ys:List V} {us:List Value},Vals xs us->Vals ys us->xs=ys:=by
 intro xs ys us h g
 induction h generalizing ys with
 | nil=>cases g;rfl
 | cons r t ih=>cases g with
  | cons r' t'=>rw [r.inj r',ih t']
section
variable {X:Cx} {pins:List (Addr×Obj)} {σ:St} {H:Hp} {s:Shared} {a:Addr} {xs ys:List V}
theorem SqL.of {K:Fg1}(h:H a=some (.lst xs)):SqL K H a xs:=.inl (.inl h)
theorem SqT.of {K:Fg1}(h:H a=some (.tup xs)):SqT K H a xs:=.inl (.inl h)
theorem Inv.list (I:Inv X pins σ H s)(h:SqL X.K H a xs):∃ its:List Value,Vals xs its/\PlainL s.heap a its.toArray/\xs.length<=sizeLine:=by
 rcases h with h | ⟨o,its,n,hk,hc,hd,hs,hz,r⟩
 ·obtain ⟨z,its,n,r,e⟩:=h.ok I.hok
  exact ⟨its,r,⟨_,n,e,rfl,rfl,rfl⟩,z⟩
 ·refine ⟨its.toList,r,⟨o,n,I.kIn a o hk,hc,hd,by simpa using hs⟩,?_⟩
  have e:=r.length
  simp only [Array.length_toList] at e
  lia
theorem Inv.tuple (I:Inv X pins σ H s)(h:SqT X.K H a xs):∃ its:List Value,Vals xs its/\IsTup s.heap a its.toArray/\xs.length<=sizeLine:=by
 rcases h with h | ⟨o,its,n,hk,hc,hs,hz,r⟩
 ·obtain ⟨z,its,r,p⟩:=h.ok I.hok
  exact ⟨its,r,p,z⟩
 ·refine ⟨its.toList,r,⟨o,I.kIn a o hk,hc,n,by simpa using hs⟩,?_⟩
  have e:=r.length
  simp only [Array.length_toList] at e
  lia
theorem Inv.list_inj (I:Inv X pins σ H s)(h:SqL X.K H a xs)(h':SqL X.K H a ys):xs=ys:=by
 obtain ⟨its,r,⟨o,n,e,_,_,d⟩,_⟩:=I.list h
 obtain ⟨its',r',⟨o',n',e',_,_,d'⟩,_⟩:=I.list h'
 rw [e] at e';cases e'
 rw [d] at d'
 injection d' with d1 _
 have:its=its':=by simpa using congrArg Array.toList d1
 subst this
 exact r.inj r'
theorem Inv.tuple_inj (I:Inv X pins σ H s)(h:SqT X.K H a xs)(h':SqT X.K H a ys):xs=ys:=by
 obtain ⟨its,r,⟨o,e,_,n,d⟩,_⟩:=I.tuple h
 obtain ⟨its',r',⟨o',e',_,n',d'⟩,_⟩:=I.tuple h'
 rw [e] at e';cases e'
 rw [d] at d'
 injection d' with d1 _
 have:its=its':=by simpa using congrArg Array.toList d1
 subst this
 exact r.inj r'
end
noncomputable abbrev Cx.wish (X:Cx)(E:Value->Shared->Prop):Cx:={X with xe:=E}
noncomputable abbrev Cx.nox (X:Cx):Cx:=X.wish fun _ _=>False
theorem Cx.Ok.wish {X:Cx}(ok:X.Ok)(E:Value->Shared->Prop):(X.wish E).Ok:=
 ⟨ok.mod,ok.kind,ok.glob,ok.blt,ok.above,ok.inj,ok.has,ok.cab,ok.hd,ok.frames,ok.stk,ok.exf,ok.bs,ok.bsz,ok.noex,ok.exfs,ok.funs,ok.frf⟩
theorem Cx.Ok.unwish {X:Cx}{E:Value->Shared->Prop}(ok:(X.wish E).Ok):X.Ok:=
 ⟨ok.mod,ok.kind,ok.glob,ok.blt,ok.above,ok.inj,ok.has,ok.cab,ok.hd,ok.frames,ok.stk,ok.exf,ok.bs,ok.bsz,ok.noex,ok.exfs,ok.funs,ok.frf⟩
section
variable {X:Cx} {pins:List (Addr×Obj)} {σ:St} {H:Hp} {s:Shared} {E:Value->Shared->Prop}
theorem Inv.wish (I:Inv X pins σ H s)(E:Value->Shared->Prop):Inv (X.wish E) pins σ H s:=⟨I.ok.wish E,I.os,I.bare,I.base,I.loc,I.cell,I.free,I.freeC,I.pin,I.hok,I.len⟩
theorem Inv.unwish (I:Inv (X.wish E) pins σ H s):Inv X pins σ H s:=⟨I.ok.unwish,I.os,I.bare,I.base,I.loc,I.cell,I.free,I.freeC,I.pin,I.hok,I.len⟩
theorem SP.unwish {D:Ends}{f:Flow}{s':Shared}(h:SP (X.wish E) pins D f s'):SP X pins D f s':=by
 cases f with
 | next=>obtain ⟨σ',H',I,q⟩:=h;exact ⟨σ',H',I.unwish,q⟩
 | brk=>obtain ⟨σ',H',I,q⟩:=h;exact ⟨σ',H',I.unwish,q⟩
 | cont=>obtain ⟨σ',H',I,q⟩:=h;exact ⟨σ',H',I.unwish,q⟩
 | ret u=>obtain ⟨v,σ',H',I,r,q⟩:=h;exact ⟨v,σ',H',I.unwish,r,q⟩
theorem PSs.nox {st:List Stmt}{t:TS}(h:PSs X.nox st t):PSs X st t:=fun pins s σ H D I hw=>
 wpAny_mono (h pins s σ H D (I.wish _) hw) (fun _ _ q=>q.unwish) fun _ _ z=>False.elim z
end
section
variable {X:Cx} {st:Stmt} {rest:List Stmt} {t u:TS} {e:Expr} {te:TE} {pos:Pos}
noncomputable def qqc:TS:=fun D σ H=>D.nx σ H
noncomputable def tSeq (t u:TS):TS:=fun D σ H=>t {D with nx:=u D} σ H
theorem qmp:PSs X [] qqc:=fun _ _ σ H _ I h=>wpAny_execs_nil ⟨σ,H,I,h⟩
theorem qkj (h1:PS X st t)(h2:PSs X rest u):PSs X (st::rest) (tSeq t u):=by
 intro pins s σ H D I h
 refine wpAny_execs_cons (thn (h1 pins s σ H {D with nx:=u D} I h) fun f s1 q=>?_)
 cases f with
 | next=>
  obtain ⟨σ',H',I',q⟩:=q
  exact h2 pins s1 σ' H' D I' q
 | ret v=>exact q
 | brk=>exact q
 | cont=>exact q
theorem qmo (h1:PS X st t):PSs X [st] t:=by
 intro pins s σ H D I h
 refine wpAny_execs_cons (thn (h1 pins s σ H D I h) fun f s1 q=>?_)
 cases f with
 | next=>exact wpAny_execs_nil q
 | ret v=>exact q
 | brk=>exact q
 | cont=>exact q
theorem Inv.quiet {pins:List (Addr×Obj)}{σ:St}{H:Hp}{s:Shared}(I:Inv X pins σ H s):interactive X.env=false:=by simp [interactive,I.ok.kind]
noncomputable def qqd (te:TE):TS:=fun D σ H=>te σ H fun _ H1=>D.nx σ H1
theorem qmq (he:PE X e te)(hs:swapsWith e none pos.line X.env=pure false:=by rfl):PS X (.Expr e pos) (qqd te):=by
 intro pins s σ H D I h
 exact wpAny_Expr_any (thn (he pins s σ H _ I h) fun v s1 ⟨x,H1,I1,r1,q1⟩=>⟨σ,H1,I1,q1⟩) I.quiet hs
noncomputable def tRet (te:TE):TS:=fun D σ H=>te σ H D.rt
theorem qoj (he:PE X e te):PS X (.Return (some e) pos) (tRet te):=by
 intro pins s σ H D I h
 exact wpAny_Return_some (thn (he pins s σ H _ I h) fun v s1 ⟨x,H1,I1,r1,q1⟩=>⟨x,σ,H1,I1,r1,q1⟩)
noncomputable def tIfS (c:TT)(t u:TS):TS:=fun D σ H=>c σ H fun b H1=>if b=true then t D σ H1 else u D σ H1
theorem qqo {c:Expr}{a b:List Stmt}{tc:TT}(hc:PT X c tc)(ha:PSs X a t)(hb:PSs X b u):PS X (.If c a b pos) (tIfS tc t u):=by
 intro pins s σ H D I h
 refine wpAny_If (thn (hc pins s σ H _ I h) fun d s1 ⟨H1,I1,q1⟩=>?_)
 cases d with
 | true=>exact ha pins s1 σ H1 D I1 q1
 | false=>exact hb pins s1 σ H1 D I1 q1
end
noncomputable abbrev TG:=V->St->Hp->(St->Hp->Prop)->Prop
noncomputable abbrev TGs:=List V->St->Hp->(St->Hp->Prop)->Prop
noncomputable def PG (X:Cx)(target:Expr)(t:TG):Prop:=
 ∀ (pins:List (Addr×Obj)) (s:Shared) (σ:St) (H:Hp) (v:V) (u:Value) (Q:St->Hp->Prop),Inv X pins σ H s->RelV v u->t v σ H Q ->
  wpAny (model X.prog X.w) X.A (assign target X.env u) (fun _ s'=>∃ σ' H',Inv X pins σ' H' s'/\Q σ' H') X.xe s
noncomputable def PGs (X:Cx)(ts:List Expr)(t:TGs):Prop:=
 ∀ (pins:List (Addr×Obj)) (s:Shared) (σ:St) (H:Hp) (vs:List V) (us:List Value) (Q:St->Hp->Prop),Inv X pins σ H s->Vals vs us->t vs σ H Q ->
  wpAny (model X.prog X.w) X.A (assignInOrder ((assignEach ts X.env).map (·.2)) us) (fun _ s'=>∃ σ' H',Inv X pins σ' H' s'/\Q σ' H') X.xe s
noncomputable abbrev TSet:=V->V->V->Hp->(Hp->Prop)->Prop
noncomputable def PSet (X:Cx)(t:TSet):Prop:=
 ∀ (pins:List (Addr×Obj)) (s:Shared) (σ:St) (H:Hp) (o i v:V) (ov iv u:Value) (Q:Hp->Prop),Inv X pins σ H s->RelV o ov->RelV i iv->RelV v u->t o i v H Q ->
  wpAny (model X.prog X.w) X.A (setItem ov iv u) (fun _ s'=>∃ H',Inv X pins σ H' s'/\Q H') X.xe s
section
variable {X:Cx} {pos:Pos}
noncomputable def qk7 (i:Nat):TG:=fun v σ H Q=>Q (σ.set i (some v)) H
theorem qiK {i:Nat}{x:Str}(hN:X.N.Nodup)(hi:X.N[i]? = some x)(hx:Loc X.env.scope x)(hf:X.fn x=true\/X.env.scope.names.lookup x=some .local:=by first | exact .inl rfl | exact .inr rfl | assumption):PG X (.Name x pos) (qk7 i):=by
 intro pins s σ H v u Q I r h
 exact wpAny_assign_Name (qdY I hN hi hx r (fun s' I'=>⟨_,H,I',h⟩) hf)
noncomputable def gNil:TGs:=fun vs σ H Q=>vs=[]/\Q σ H
noncomputable def qqR (t:TG)(u:TGs):TGs:=fun vs σ H Q=>∃ v r,vs=v::r/\t v σ H fun σ' H'=>u r σ' H' Q
theorem qmA:PGs X [] gNil:=by
 intro pins s σ H vs us Q I r h
 obtain ⟨e,h⟩:=h
 subst e
 cases r
 exact assignInOrder_nil ⟨σ,H,I,h⟩
theorem qkr {e:Expr}{es:List Expr}{t:TG}{u:TGs}(h1:PG X e t)(h2:PGs X es u)
  (hs:(assignEach (e::es) X.env).map (·.2)=assign e X.env::(assignEach es X.env).map (·.2):=by rfl):PGs X (e::es) (qqR t u):=by
 intro pins s σ H vs us Q I r h
 obtain ⟨v,vr,e1,h⟩:=h
 subst e1
 cases r with
 | cons r rr=>
  rw [hs]
  refine assignInOrder_cons (thn (h1 pins s σ H _ _ _ I r h) fun _ s1 ⟨σ1,H1,I1,q1⟩=>?_)
  exact h2 pins s1 σ1 H1 _ _ Q I1 rr q1
noncomputable def gTup (K:Fg1)(n:Nat)(t:TGs):TG:=fun v σ H Q=>∃ a xs,v = .ref a/\SqT K H a xs/\xs.length=n/\t xs σ H Q
theorem qoq {es:List Expr}{k:Nat}{t:TGs}{n:Nat}(hc:X.calm=true)(h:PGs X es t)
  (hn:(assignEach es X.env).length=n:=by rfl) (hst:(assignEach es X.env).findIdx? (·.1)=none:=by rfl):PG X (.Tuple es k pos) (gTup X.K n t):=by
 intro pins s σ H v u Q I r hw
 obtain ⟨a,xs,e1,hq,hl,hw⟩:=hw
 subst e1
 cases r
 obtain ⟨its,rv,ht,hz⟩:=I.tuple hq
 refine assign_Tuple_tuple (I.ok.hd hc) ht (by simp [hn,<- hl,rv.length]) hst fun h' hx=>?_
 have I1:Inv X pins σ H {s with heap:=h'}:=I.kept (t':=s.toks) fun b o e=>hx b o (nN1 (hL1 e)) e
 exact h pins _ σ H xs _ Q I1 (by simpa using rv) hw
noncomputable def gSub (to ti:TE)(t:TSet):TG:=fun v σ H Q=>to σ H fun o H1=>ti σ H1 fun i H2=>t o i v H2 fun H3=>Q σ H3
theorem qor {o i:Expr}{to ti:TE}{t:TSet}(ho:PE X o to)(hi:PE X i ti)(hs:PSet X t)
  (ha:∀ v,assign (.Subscript o i pos) X.env v=(do
   let ov<-holding [v] (eval o X.env)
   let iv<-holding [v,ov] (eval i X.env)
   standAt pos
   holding [v,ov,iv] (setItem ov iv v)
   release [v,ov,iv] []):=by intro _;rfl):PG X (.Subscript o i pos) (gSub to ti t):=by
 intro pins s σ H v u Q I r h
 rw [ha]
 refine wB1 (wpAny_holding (thn (ho pins s σ H _ I h) fun ov s1 ⟨x,H1,I1,r1,q1⟩=>?_))
 refine wB1 (wpAny_holding (thn (hi pins s1 σ H1 _ I1 q1) fun iv s2 ⟨y,H2,I2,r2,q2⟩=>?_))
 refine wB1 (wpAny_standAt (wB1 (wpAny_holding (thn (hs pins s2 σ H2 x y v ov iv u _ I2 r1 r2 r q2) fun _ s3 ⟨H3,I3,q3⟩=>?_))))
 exact wpAny_release ⟨σ,H3,I3,q3⟩
noncomputable def tAsg (te:TE)(g:TG):TS:=fun D σ H=>te σ H fun x H1=>g x σ H1 D.nx
theorem qon {tg e:Expr}{te:TE}{g:TG}(he:PE X e te)(hg:PG X tg g)(hs:swapsWithSole [tg] e pos.line X.env=pure false:=by rfl)(hw:swappedStores [tg] e X.env=pure none:=by rfl)
  (h1:(assignEach [tg] X.env).map (·.2)=[assign tg X.env]:=by rfl):PS X (.Assign [tg] e pos) (tAsg te g):=by
 intro pins s σ H D I h
 refine wpAny_Assign_stores (thn (he pins s σ H _ I h) fun v s1 ⟨x,H1,I1,r1,q1⟩=>?_) hs hw
 rw [h1]
 exact thn (hg pins s1 σ H1 x v _ I1 r1 q1) fun _ s2 q=>q
theorem qoi {i:Nat}{x:Str}{e:Expr}{te:TE}{pos':Pos}(hN:X.N.Nodup)(hi:X.N[i]? = some x)(hx:Loc X.env.scope x)(he:PE X e te)(hs:swapsWith e (some (.Name x pos')) pos.line X.env=pure false:=by rfl)(hf:X.fn x=true\/X.env.scope.names.lookup x=some .local:=by first | exact .inl rfl | exact .inr rfl | assumption):
  PS X (.Assign [.Name x pos'] e pos) (tAsg te (qk7 i)):=by
 intro pins s σ H D I h
 refine wpAny_Assign_Name (thn (he pins s σ H _ I h) fun v s1 ⟨y,H1,I1,r1,q1⟩=>?_) hs
 exact qdY I1 hN hi hx r1 (fun s2 I2=>⟨_,H1,I2,q1⟩) hf
noncomputable def tPar (i j:Nat)(ta:TA):TS:=fun D σ H=>ta σ H fun vs H1=>∃ v w,vs=[v,w]/\D.nx ((σ.set i (some v)).set j (some w)) H1
theorem qok {i j:Nat}{x y:Str}{a b:Expr}{ta:TA}{px py pt:Pos}{kt k2 pt2}(hc:X.calm=true)(hN:X.N.Nodup)(hi:X.N[i]? = some x)(hj:X.N[j]? = some y)(hij:i≠j)
  (hx:X.env.scope.names.lookup x=some .local) (hy:X.env.scope.names.lookup y=some .local) (ha:PA X [a,b] ta)
  (hw:swappedStores [.Tuple [.Name x px,.Name y py] kt pt] (.Tuple [a,b] k2 pt2) X.env=pure (some [x,y]))
  (hs:swapsWithSole [.Tuple [.Name x px,.Name y py] kt pt] (.Tuple [a,b] k2 pt2) pos.line X.env=pure false:=by rfl):
  PS X (.Assign [.Tuple [.Name x px,.Name y py] kt pt] (.Tuple [a,b] k2 pt2) pos) (tPar i j ta):=by
 intro pins s σ H D I h
 rw [exec_Assign_arm]
 refine wB1 (wpAny_standAt ?_)
 rw [hs]
 refine wB1 (wP1 ?_)
 rw [if_neg (by decide)]
 refine wB1 (Tuple_ (thn (ha _ pins s σ H _ I h) fun us s1 ⟨vs,H1,I1,r1,q1⟩=>?_))
 obtain ⟨v,w,e1,q1⟩:=q1
 subst e1
 obtain ⟨u1,u2,rfl,rv,rw'⟩:∃ u1 u2,us=[u1,u2]/\RelV v u1/\RelV w u2:=by
  cases r1 with
  | cons p q=>
   cases q with
   | cons p' q'=>
    cases q'
    exact ⟨_,_,rfl,p,p'⟩
 refine wO1 ?_ (by show 2<=sizeLine;decide)
 have I2:Inv X pins σ H1 {s1 with heap:=s1.heap.push {cls:=.type "tuple",data:=.seq [u1,u2].toArray}}:=I1.kept (t':=s1.toks) fun b o e=>hP1 _ e
 rw [hw]
 refine wB1 (wP1 ?_)
 show wpAny (model X.prog X.w) X.A (do rule "assign.swapped-stores";let items<-unpackItems (.ref s1.heap.objs.size) 2 none;assignInOrder [fun v=>bindName X.env y v,fun v=>bindName X.env x v] items.reverse;pure Flow.next) _ _ _
 refine wB1 (wpAny_rule (wB1 (unpackItems_tuple (items:= #[u1,u2]) (I.ok.hd hc) (IsTup.new s1.heap _) fun h' hx'=>?_)))
 have I3:=I2.kept (h':=h') (t':=s1.toks) fun b o e=>hx' b o (nN1 (hL1 e)) e
 show wpAny _ _ (assignInOrder [fun v=>bindName X.env y v,fun v=>bindName X.env x v] [u2,u1] >>= fun _=>pure Flow.next) _ _ _
 refine wB1 (assignInOrder_cons (wpAny_bindName (qdY I3 hN hj (.inl hy) rw' (fun s2 I4=>?_) (.inr hy))))
 refine assignInOrder_cons (wpAny_bindName (qdY I4 hN hi (.inl hx) rv (fun s3 I5=>assignInOrder_nil (wP1 ?_)) (.inr hx)))
 rw [List.set_comm _ _ (Ne.symm hij)] at I5
 exact ⟨_,H1,I5,q1⟩
end
section
variable {X:Cx} {pos:Pos}
noncomputable def qls (c:TT)(tb:TS):TS:=fun D σ H=>∃ W:Nat->St->Hp->Prop,(∃ m,W m σ H) /\ ∀ m σ H,W m σ H ->
 c σ H fun b H1=>if b=true then ∃ N:St->Hp->Prop,(∀ σ' H',N σ' H' -> ∃ m',m'<m/\W m' σ' H')/\tb {D with nx:=N,ct:=N,bk:=D.nx} σ H1 else D.nx σ H1
theorem qkk {c:Expr}{body:List Stmt}{tc:TT}{tb:TS}(hp:PassesOwn (model X.prog X.w) X.A X.env X.xe)(hc:PT X c tc)(hb:PSs X body tb):PS X (.While c body [] pos) (qls tc tb):=by
 intro pins s σ H D I h
 obtain ⟨W,⟨m0,w0⟩,turn⟩:=h
 refine wpAny_While (codeAny_whileLoop (fun n s'=>∃ σ' H',Inv X pins σ' H' s'/\W n σ' H') ?_ m0 ⟨σ,H,I,w0⟩)
 rintro n s1 ⟨σ1,H1,I1,w1⟩
 refine wpAny_passesOwn hp (thn (hc pins s1 σ1 H1 _ I1 (turn n σ1 H1 w1)) fun b s2 ⟨H2,I2,q2⟩=>?_)
 cases b with
 | true=>
  obtain ⟨N,hN,q2⟩:=q2
  rw [if_pos rfl]
  refine wpAny_passesOwn hp (thn (hb pins s2 σ1 H2 _ I2 q2) fun f s3 q3=>?_)
  cases f with
  | next=>
   obtain ⟨σ3,H3,I3,n3⟩:=q3
   obtain ⟨m',hm,w3⟩:=hN σ3 H3 n3
   exact ⟨m',hm,σ3,H3,I3,w3⟩
  | cont=>
   obtain ⟨σ3,H3,I3,n3⟩:=q3
   obtain ⟨m',hm,w3⟩:=hN σ3 H3 n3
   exact ⟨m',hm,σ3,H3,I3,w3⟩
  | brk=>exact q3
  | ret v=>exact q3
 | false=>
  rw [if_neg Bool.false_ne_true]
  exact wpAny_execs_nil ⟨σ1,H2,I2,q2⟩
end
structure It where
 go:Nat->Hp->Prop
 yld:Nat->Hp->V->Hp->Prop
 stop:Nat->Hp->Prop
noncomputable def FpOk (X:Cx)(pins:List (Addr×Obj))(H:Hp)(b:Addr):Prop:=
 H b=none/\b≠X.env.locals/\b∉X.fs/\(b∈X.ex\/X.s₀.heap.objs.size<=b)/\(∀ x c,X.env.cells.lookup x=some c->c≠b) /\ ∀ p∈X.pn++pins,p.1≠b
theorem Inv.fpOk {X:Cx}{pins:List (Addr×Obj)}{σ:St}{H H':Hp}{s:Shared}{b:Addr}(I:Inv X pins σ H s)(hb:s.heap.objs.size<=b)(hn:H' b=none):FpOk X pins H' b:=by
 refine ⟨hn,nG1 (nL1 I.lt hb),I.nofs hb,.inr (Nat.le_trans I.sz hb),fun x c e z=>?_,fun p hp z=>?_⟩
 ·obtain ⟨v,q⟩:=I.cell x c e
  exact absurd (nL1 q.lt (by rw [z];exact hb)) (Nat.lt_irrefl _)
 ·exact absurd (nL1 (hL1 (I.pin p hp).1) (by rw [z];exact hb)) (Nat.lt_irrefl _)
structure Turn (P:Program)(w:World)(K:Fg1)(tg:Expr)(J:It)(fp:List Addr)(it:Addr)(tn:Nat->Heap->Prop):Prop where
 mem:it∈fp
 obj:∀ i h,tn i h -> ∀ b∈fp,∃ o,h.get? b=some o /\ ∀ v,o.data ≠ .cell v
 keep:∀ i h h',tn i h->(∀ b∈fp,∀ o,h.get? b=some o->h'.get? b=some o)->tn i h'
 item:∀ (X:Cx),X.prog=P->X.w=w->X.K=K->X.calm=true -> ∀ (i:Nat) (pins:List (Addr×Obj)) (s:Shared) (σ:St) (H:Hp) (E:Value->Shared->Prop),Inv X pins σ H s->(∀ b∈fp,FpOk X pins H b)->tn i s.heap->J.go i H ->
  wpAny (model P w) X.A (pyNext (.ref it)) (fun r s1=>∃ u,r=some u /\
   wpAny (model P w) X.A (letOwnedTupleGo tg (.ref it) u) (fun _ s2=>∃ x H',Inv X pins σ H' s2/\RelV x u/\J.yld i H x H'/\tn (i+1) s2.heap /\ ∀ b∈fp,H' b=none) E s1) E s
 done:∀ (X:Cx),X.prog=P->X.w=w->X.K=K->X.calm=true -> ∀ (i:Nat) (pins:List (Addr×Obj)) (s:Shared) (σ:St) (H:Hp) (E:Value->Shared->Prop),Inv X pins σ H s->(∀ b∈fp,FpOk X pins H b)->tn i s.heap->J.stop i H ->
  wpAny (model P w) X.A (pyNext (.ref it)) (fun r s1=>r=none/\Inv X pins σ H s1) E s
 self:∀ (A:Around) (i:Nat) (s:Shared) (Q:Value->Shared->Prop) (E:Value->Shared->Prop),tn i s.heap->Q (.ref it) s->wpAny (model P w) A (pyIter (.ref it)) Q E s
noncomputable abbrev TI:=St->Hp->(It->Hp->Prop)->Prop
noncomputable def PIE (X:Cx)(pins:List (Addr×Obj))(σ:St)(tg:Expr)(R:It->Hp->Prop)(itv:Value)(s2:Shared):Prop:=
 ∃ (it:Addr) (fp:List Addr) (tn:Nat->Heap->Prop) (J:It) (H':Hp),itv = .ref it/\Inv X pins σ H' s2/\Turn X.prog X.w X.K tg J fp it tn/\tn 0 s2.heap/\(∀ b∈fp,FpOk X pins H' b)/\R J H'
noncomputable def PI (X:Cx)(tg iter:Expr)(wi:TI):Prop:=
 ∀ (pins:List (Addr×Obj)) (s:Shared) (σ:St) (H:Hp) (R:It->Hp->Prop),Inv X pins σ H s->wi σ H R ->
  wpAny (model X.prog X.w) X.A (eval iter X.env) (fun v s1=>wpAny (model X.prog X.w) X.A (pyIter v) (PIE X pins σ tg R) X.xe s1) X.xe s
theorem qnf {M:Model}{A:Around}{E:Value->Shared->Prop}{s:Shared}{tg:Expr}{it:Addr}{u:Value}{o:Obj}{n:String}{vs:Array Value}{Q:Unit->Shared->Prop}(ho:s.heap.get? it=some o)(hc:o.cls = .type n)(hd:o.data = .fields vs)
   (hn:["enumerate","zip","dict_itemiterator","dict_reverseitemiterator","odict_iterator","itertools.zip_longest","itertools.pairwise"].contains n=false) (hQ:Q () s):wpAny M A (letOwnedTupleGo tg (.ref it) u) Q E s:=by
 unfold letOwnedTupleGo
 cases tg <;> first
   | exact wP1 hQ
   | (cases u<;>first
       | exact wP1 hQ
       | (refine wB1 (wpAny_load ho ?_)
          rw [hc,hd]
          show wpAny M A (if (["enumerate","zip","dict_itemiterator","dict_reverseitemiterator","odict_iterator","itertools.zip_longest","itertools.pairwise"].contains n&&vs[0]? == some (rawInt _))=true then _ else _) Q E s
          rw [if_neg (by intro h;rw [hn,Bool.false_and] at h;cases h)]
          exact wP1 hQ))
noncomputable def Itl (K:Fg1)(a:Addr):It:=
 ⟨fun i H=>∃ xs x,SqL K H a xs/\xs[i]? = some x,fun i H x H'=>H'=H /\ ∀ xs,SqL K H a xs->xs[i]? = some x,fun i H=>∃ xs,SqL K H a xs/\xs.length<=i⟩
noncomputable def Itt (K:Fg1)(a:Addr):It:=
 ⟨fun i H=>∃ xs x,SqT K H a xs/\xs[i]? = some x,fun i H x H'=>H'=H /\ ∀ xs,SqT K H a xs->xs[i]? = some x,fun i H=>∃ xs,SqT K H a xs/\xs.length<=i⟩
noncomputable def Itr (lo:Int)(n:Nat):It:=⟨fun i _=>i<n,fun i H x H'=>H'=H/\x = .int (lo+i),fun i _=>n<=i⟩
theorem qip {P:Program}{w:World}{K:Fg1}{tg:Expr}(a it:Addr):Turn P w K tg (Itl K a) [it] it (fun i h=>h.IsListIter it a i) where
 mem:=by simp
 obj:=fun i h st b hb=>by
  have e:b=it:=by simpa using hb
  subst e
  obtain ⟨o,e,c,d⟩:=st
  exact ⟨o,e,fun v z=>by rw [d] at z;cases z⟩
 keep:=fun i h h' st k=>st.at fun o e=>k it (by simp) o e
 item:=by
  intro X hP hw hK hc i pins s σ H E I hf st hg
  subst hP hw hK
  obtain ⟨xs,x,hq,hx⟩:=hg
  obtain ⟨its,rv,p,hz⟩:=I.list hq
  obtain ⟨u,hu,ru⟩:=rv.get hx
  obtain ⟨f0,f1,f2,f3,f4,f5⟩:=hf it (by simp)
  refine wpAny_pyNext_list_item st p.isList (x:=u) (by simpa using hu) fun h' st' sb=>?_
  have I1:Inv X pins σ H {s with heap:=h'}:=I.turned (t':=s.toks) (fun b o hb e=>(sb.2 b hb).trans e) f0 f1 f3 f4 f5
  obtain ⟨o,e,c,d⟩:=id st'
  exact ⟨u,rfl,qnf (s:={s with heap:=h'}) e c d (by decide) ⟨x,H,I1,ru,⟨rfl,fun ys hy=>by rw [I.list_inj hy hq];exact hx⟩,st',fun b hb=>(hf b hb).1⟩⟩
 done:=by
  intro X hP hw hK hc i pins s σ H E I hf st hg
  subst hP hw hK
  obtain ⟨xs,hq,hx⟩:=hg
  obtain ⟨its,rv,p,hz⟩:=I.list hq
  obtain ⟨f0,f1,f2,f3,f4,f5⟩:=hf it (by simp)
  have hl:=rv.length
  exact wpAny_pyNext_list_end (I.ok.hd hc) st p.isList (by simp;lia) fun h' eb=>⟨rfl,I.turned (t':=s.toks) (fun b o hb e=>eb b o hb e) f0 f1 f3 f4 f5⟩
 self:=fun _ _ _ _ _ st h=>wpAny_pyIter_listiter st h
theorem qhT {P:Program}{w:World}{K:Fg1}{tg:Expr}(a it:Addr):Turn P w K tg (Itt K a) [it] it (fun i h=>h.IsTupleIter it a i) where
 mem:=by simp
 obj:=fun i h st b hb=>by
  have e:b=it:=by simpa using hb
  subst e
  obtain ⟨o,e,c,d⟩:=st
  exact ⟨o,e,fun v z=>by rw [d] at z;cases z⟩
 keep:=fun i h h' st k=>st.at fun o e=>k it (by simp) o e
 item:=by
  intro X hP hw hK hc i pins s σ H E I hf st hg
  subst hP hw hK
  obtain ⟨xs,x,hq,hx⟩:=hg
  obtain ⟨its,rv,p,hz⟩:=I.tuple hq
  obtain ⟨u,hu,ru⟩:=rv.get hx
  obtain ⟨f0,f1,f2,f3,f4,f5⟩:=hf it (by simp)
  refine wpAny_pyNext_tuple_item st (show s.heap.IsTuple a its.toArray from p) (x:=u) (by simpa using hu) fun h' st' sb=>?_
  have I1:Inv X pins σ H {s with heap:=h'}:=I.turned (t':=s.toks) (fun b o hb e=>(sb.2 b hb).trans e) f0 f1 f3 f4 f5
  obtain ⟨o,e,c,d⟩:=id st'
  exact ⟨u,rfl,qnf (s:={s with heap:=h'}) e c d (by decide) ⟨x,H,I1,ru,⟨rfl,fun ys hy=>by rw [I.tuple_inj hy hq];exact hx⟩,st',fun b hb=>(hf b hb).1⟩⟩
 done:=by
  intro X hP hw hK hc i pins s σ H E I hf st hg
  subst hP hw hK
  obtain ⟨xs,hq,hx⟩:=hg
  obtain ⟨its,rv,p,hz⟩:=I.tuple hq
  obtain ⟨f0,f1,f2,f3,f4,f5⟩:=hf it (by simp)
  have hl:=rv.length
  exact wpAny_pyNext_tuple_end (I.ok.hd hc) st (show s.heap.IsTuple a its.toArray from p) (by simp;lia) fun h' eb=>⟨rfl,I.turned (t':=s.toks) (fun b o hb e=>eb b o hb e) f0 f1 f3 f4 f5⟩
 self:=fun _ _ _ _ _ st h=>wpAny_pyIter_tupleiter st h
theorem qhU {P:Program}{w:World}{K:Fg1}{tg:Expr}(it:Addr)(lo:Int)(n:Nat):Turn P w K tg (Itr lo n) [it] it (fun i h=>IsRangeIter h it (lo+(i:Nat)*1) ((n:Int)-(i:Nat)) 1) where
 mem:=by simp
 obj:=fun i h st b hb=>by
  have e:b=it:=by simpa using hb
  subst e
  exact ⟨_,st,fun v z=>by
   have z':Data.fields _=Data.cell v:=z
   cases z'⟩
 keep:=fun i h h' st k=>k it (by simp) _ st
 item:=by
  intro X hP hw hK hc i pins s σ H E I hf st hg
  subst hP hw hK
  obtain ⟨f0,f1,f2,f3,f4,f5⟩:=hf it (by simp)
  have W:=Walks.range (prog:=X.prog) (w:=X.w) (I.ok.hd hc) it lo 1 n
  refine W.item i s _ _ hg st fun v h' tk hv st' kk=>?_
  obtain ⟨t,rfl⟩:=hv
  have I1:Inv X pins σ H {s with heap:=h',toks:=tk}:=I.turned (fun b o hb e=>kk b o (by simpa using hb) e) f0 f1 f3 f4 f5
  refine ⟨_,rfl,qnf (s:={s with heap:=h',toks:=tk}) (n:="range_iterator") st' rfl rfl (by decide) ⟨.int (lo+i),H,I1,⟨t,?_⟩,⟨rfl,rfl⟩,st',fun b hb=>(hf b hb).1⟩⟩
  rw [Int.mul_one]
 done:=by
  intro X hP hw hK hc i pins s σ H E I hf st hg
  subst hP hw hK
  obtain ⟨f0,f1,f2,f3,f4,f5⟩:=hf it (by simp)
  exact wpAny_pyNext_range_end (I.ok.hd hc) st (by have:n<=i:=hg;lia) fun h' eb=>⟨rfl,I.turned (t':=s.toks) (fun b o hb e=>eb b o hb e) f0 f1 f3 f4 f5⟩
 self:=fun _ _ _ _ _ st h=>wpAny_pyIter_rangeiter st h
end L2
namespace L2
open PySem PySem.Spec PyProof.Rows
section
variable {X:Cx} {tg:Expr}
noncomputable def qqO (K:Fg1)(tl:TE):TI:=fun σ H R=>tl σ H fun x H1=>∃ a,x = .ref a/\(∃ xs,SqL K H1 a xs)/\R (Itl K a) H1
noncomputable def iTup (K:Fg1)(tl:TE):TI:=fun σ H R=>tl σ H fun x H1=>∃ a,x = .ref a/\(∃ xs,SqT K H1 a xs)/\R (Itt K a) H1
theorem qmy {l:Expr}{tl:TE}(hl:PE X l tl):PI X tg l (qqO X.K tl):=by
 intro pins s σ H R I h
 refine thn (hl pins s σ H _ I h) fun v s1 ⟨x,H1,I1,r1,q1⟩=>?_
 obtain ⟨a,e,⟨xs,hq⟩,q⟩:=q1
 subst e
 cases r1
 obtain ⟨its,rv,p,hz⟩:=I1.list hq
 refine wpAny_pyIter_list p.isList ?_
 refine ⟨s1.heap.objs.size,[s1.heap.objs.size],_,_,H1,rfl,I1.kept (t':=s1.toks) fun b o e=>hP1 _ e,qip a _,⟨_,hS1 _ rfl,rfl,rfl⟩,fun b hb=>?_,q⟩
 have e:b=s1.heap.objs.size:=by simpa using hb
 subst e
 exact I1.fpOk (nR1 _) (I1.hok.fresh (nR1 _))
theorem qop {l:Expr}{tl:TE}(hl:PE X l tl):PI X tg l (iTup X.K tl):=by
 intro pins s σ H R I h
 refine thn (hl pins s σ H _ I h) fun v s1 ⟨x,H1,I1,r1,q1⟩=>?_
 obtain ⟨a,e,⟨xs,hq⟩,q⟩:=q1
 subst e
 cases r1
 obtain ⟨its,rv,p,hz⟩:=I1.tuple hq
 refine wpAny_pyIter_tuple (show s1.heap.IsTuple a its.toArray from p) ?_
 refine ⟨s1.heap.objs.size,[s1.heap.objs.size],_,_,H1,rfl,I1.kept (t':=s1.toks) fun b o e=>hP1 _ e,qhT a _,⟨_,hS1 _ rfl,rfl,rfl⟩,fun b hb=>?_,q⟩
 have e:b=s1.heap.objs.size:=by simpa using hb
 subst e
 exact I1.fpOk (nR1 _) (I1.hok.fresh (nR1 _))
theorem qhh {pins:List (Addr×Obj)}{σ:St}{H:Hp}{s:Shared}{R:It->Hp->Prop}{E:Value->Shared->Prop}{lo hi:Int}{t u v:Tok}{tk:Nat}(I:Inv X pins σ H s)(h1: -(2^62)<=lo)(h2:lo<2^62)(h3: -(2^62)<=hi)(h4:hi<2^62)
  (q:R (Itr lo (hi-lo).toNat) H):wpAny (model X.prog X.w) X.A (pyIter (.ref s.heap.objs.size)) (PIE X pins σ tg R) E {s with heap:=s.heap.push {cls:=.type "range",data:=.fields #[.int lo t,.int hi u,.int 1 v]},toks:=tk}:=by
 refine wpAny_pyIter_range (IsRange.new ..) (small_one h1 h2 h3 h4) ?_
 have I1:Inv X pins σ H {s with heap:=s.heap.push {cls:=.type "range",data:=.fields #[.int lo t,.int hi u,.int 1 v]},toks:=tk}:=I.kept fun b o e=>hP1 _ e
 refine ⟨(s.heap.push {cls:=.type "range",data:=.fields #[.int lo t,.int hi u,.int 1 v]}).objs.size,[(s.heap.push {cls:=.type "range",data:=.fields #[.int lo t,.int hi u,.int 1 v]}).objs.size],_,_,H,rfl,
  I1.kept (t':=tk) fun b o e=>hP1 _ e,qhU _ lo (hi-lo).toNat,?_,fun b hb=>?_,q⟩
 ·have e1:lo+((0:Nat):Int)*1=lo:=by simp
  have e2:(((hi-lo).toNat:Nat):Int)-((0:Nat):Int)=Builtin.Range.rangeSize lo hi 1:=by rw [rangeSize_one];split<;>lia
  show IsRangeIter _ _ (lo+((0:Nat):Int)*1) ((((hi-lo).toNat:Nat):Int)-((0:Nat):Int)) 1
  rw [e1,e2]
  exact hS1 _ rfl
 ·have e:b=(s.heap.push {cls:=.type "range",data:=.fields #[.int lo t,.int hi u,.int 1 v]}).objs.size:=by simpa using hb
  subst e
  exact I1.fpOk (nR1 _) (I1.hok.fresh (nR1 _))
noncomputable def qqN (ta:TA):TI:=fun σ H R=>ta σ H fun vs H1=>∃ j:Int,vs=[.int j] /\ -(2^62)<=j/\j<2^62/\R (Itr 0 j.toNat) H1
noncomputable def qqM (ta:TA):TI:=fun σ H R=>ta σ H fun vs H1=>∃ i j:Int,vs=[.int i,.int j]/\(-(2^62)<=i/\i<2^62 /\ -(2^62)<=j/\j<2^62)/\R (Itr i (j-i).toNat) H1
theorem qiI {a:Expr}{ta:TA}{p pos:Pos}(hg:Gl X "range")(hm:X.mg "range"=none)(ha:PA X [a] ta)(hs:starEach [a] X.env=[(false,eval a X.env)]:=by rfl):PI X tg (.Call (.Name "range" p) [a] [] pos) (qqN ta):=by
 intro pins s σ H R I h
 refine Call_ (qeM I hg hm boot_range (PyProof.Rows.callWith_type1 (thn (ha pos pins s σ H _ I h) fun us s1 ⟨vs,H1,I1,r1,q1⟩=>?_) hs rfl))
 obtain ⟨j,e,q1,q2,q⟩:=q1
 subst e
 cases r1 with
 | cons r rr=>
  cases rr
  obtain ⟨t,rfl⟩:=r
  exact call_range_1 (qhh I1 (by lia) (by lia) q1 q2 (by simpa using q))
theorem qiH {a b:Expr}{ta:TA}{p pos:Pos}(hg:Gl X "range")(hm:X.mg "range"=none)(ha:PA X [a,b] ta)(hs:starEach [a,b] X.env=[(false,eval a X.env),(false,eval b X.env)]:=by rfl)(hs2:starEach [b] X.env=[(false,eval b X.env)]:=by rfl):
  PI X tg (.Call (.Name "range" p) [a,b] [] pos) (qqM ta):=by
 intro pins s σ H R I h
 refine Call_ (qeM I hg hm boot_range (PyProof.Rows.callWith_type1 (thn (ha pos pins s σ H _ I h) fun us s1 ⟨vs,H1,I1,r1,q1⟩=>?_) (by rw [hs,hs2]) (by rw [hs2];rfl)))
 obtain ⟨i,j,e,⟨q1,q2,q3,q4⟩,q⟩:=q1
 subst e
 cases r1 with
 | cons r rr=>
  cases rr with
  | cons r' rr=>
   cases rr
   obtain ⟨t,rfl⟩:=r
   obtain ⟨t',rfl⟩:=r'
   exact call_range_2 (qhh I1 q1 q2 q3 q4 q)
noncomputable def tFor (wi:TI)(g:TG)(tb:TS):TS:=fun D σ H=>wi σ H fun J H1=>∃ W:Nat->Nat->St->Hp->Prop,(∃ m,W 0 m σ H1) /\ ∀ i m σ H,W i m σ H ->
 (J.stop i H/\D.nx σ H)\/(J.go i H /\ ∃ N:St->Hp->Prop,(∀ σ' H',N σ' H' -> ∃ m',m'<m/\W (i+1) m' σ' H') /\ ∀ x H',J.yld i H x H'->g x σ H' fun σ2 H2=>tb {D with nx:=N,ct:=N,bk:=D.nx} σ2 H2)
noncomputable def qfK (fp:List Addr)(h:Heap):List (Addr×Obj):=fp.filterMap fun b=>(h.get? b).map fun o=>(b,o)
theorem qcK {fp:List Addr}{h:Heap}{b:Addr}{o:Obj}(hb:b∈fp)(e:h.get? b=some o):(b,o)∈qfK fp h:=List.mem_filterMap.mpr ⟨b,hb,by rw [e];rfl⟩
theorem qiT {fp:List Addr}{h:Heap}{p:Addr×Obj}(hp:p∈qfK fp h):p.1∈fp/\h.get? p.1=some p.2:=by
 obtain ⟨b,hb,e⟩:=List.mem_filterMap.mp hp
 cases q:h.get? b with
 | none=>rw [q] at e;cases e
 | some o=>
  rw [q] at e
  have e':(b,o)=p:=Option.some.inj e
  subst e'
  exact ⟨hb,q⟩
theorem Inv.pinned {pins:List (Addr×Obj)}{σ:St}{H:Hp}{s:Shared}{fp:List Addr}(I:Inv X pins σ H s)(hf:∀ b∈fp,FpOk X pins H b)(ho:∀ b∈fp,∃ o,s.heap.get? b=some o /\ ∀ v,o.data ≠ .cell v):Inv X (pins++qfK fp s.heap) σ H s:=
 I.pins_of fun p hp=>(List.mem_append.mp hp).elim (fun z=>I.pin p (mA1 _ z)) fun z=>by
  obtain ⟨hb,e⟩:=qiT z
  obtain ⟨f0,f1,f2,_⟩:=hf p.1 hb
  obtain ⟨o,e',d⟩:=ho p.1 hb
  rw [e] at e';cases e'
  exact ⟨e,f0,f1,f2,d⟩
theorem Inv.unpinned {pins pl:List (Addr×Obj)}{σ:St}{H:Hp}{s:Shared}(I:Inv X (pins++pl) σ H s):Inv X pins σ H s:=I.pins_of fun p hp=>I.pin p (mA1 _ (List.mem_append_left _ hp))
theorem qom {iter:Expr}{body:List Stmt}{wi:TI}{g:TG}{tb:TS}{pos:Pos}(hp:PassesOwn (model X.prog X.w) X.A X.env X.xe)(hc:X.calm=true)(hi:PI X tg iter wi)(hg:PG X tg g)(hb:PSs X body tb)
  (hs:∀ x,foldedSetIterable iter X.env x=pure x:=by intro _;rfl):PS X (.For tg iter body [] pos) (tFor wi g tb):=by
 intro pins s σ H D I h
 refine wpAny_For (thn (hi pins s σ H _ I h) fun v s1 h1=>thn h1 fun itv s2 h2=>?_) hs
 obtain ⟨it,fp,tn,J,H2,e,I2,T,st2,f2,W,⟨m0,w0⟩,turn⟩:=h2
 subst e
 -- what stays true of the iterator's objects through the loop
 have stat:∀ {H':Hp},(∀ b∈fp,H' b=none) -> ∀ b∈fp,FpOk X pins H' b:=fun hn b hb=>⟨hn b hb,(f2 b hb).2⟩
 refine codeAny_forLoop_any (fun n s'=>∃ i σ' H',Inv X pins σ' H' s'/\tn i s'.heap/\(∀ b∈fp,H' b=none)/\W i n σ' H') ?_ m0 ⟨0,σ,H2,I2,st2,fun b hb=>(f2 b hb).1,w0⟩
 rintro n s3 ⟨i,σ3,H3,I3,st3,fr3,w3⟩
 rcases turn i n σ3 H3 w3 with ⟨stop,qn⟩ | ⟨go,N,hN,step⟩
 ·refine wpAny_passesOwn hp (thn (T.done X rfl rfl rfl hc i pins s3 σ3 H3 X.xe I3 (stat fr3) st3 stop) fun r s4 ⟨hr,I4⟩=>?_)
  subst hr
  exact wpAny_execs_nil ⟨σ3,H3,I4,qn⟩
 ·refine wpAny_passesOwn hp (thn (T.item X rfl rfl rfl hc i pins s3 σ3 H3 X.xe I3 (stat fr3) st3 go) fun r s4 ⟨u,hr,h4⟩=>?_)
  subst hr
  refine wpAny_passesOwn hp (thn h4 fun _ s5 ⟨x,H5,I5,r5,y5,st5,fr5⟩=>?_)
  have I5':=I5.pinned (stat fr5) (T.obj _ _ st5)
  refine wpAny_passesOwn hp (thn (hg _ s5 σ3 H5 x u _ I5' r5 (step x H5 y5)) fun _ s6 ⟨σ6,H6,I6,q6⟩=>?_)
  refine wpAny_passesOwn hp (thn (hb _ s6 σ6 H6 _ I6 q6) fun f s7 q7=>?_)
  have again:∀ {σ7:St} {H7:Hp},Inv X (pins++qfK fp s5.heap) σ7 H7 s7->N σ7 H7 -> ∃ m,m<n /\ ∃ i σ' H',Inv X pins σ' H' s7/\tn i s7.heap/\(∀ b∈fp,H' b=none)/\W i m σ' H':=fun {σ7 H7} I7 n7=>by
   obtain ⟨m',hm,w7⟩:=hN σ7 H7 n7
   refine ⟨m',hm,i+1,σ7,H7,I7.unpinned,T.keep _ _ _ st5 fun b hb o e=>(I7.pin (b,o) (mA1 _ (mA1 _ (qcK hb e)))).1,fun b hb=>?_,w7⟩
   obtain ⟨o,e,d⟩:=T.obj _ _ st5 b hb
   exact (I7.pin (b,o) (mA1 _ (mA1 _ (qcK hb e)))).2.1
  cases f with
  | next=>obtain ⟨σ7,H7,I7,n7⟩:=q7;exact again I7 n7
  | cont=>obtain ⟨σ7,H7,I7,n7⟩:=q7;exact again I7 n7
  | brk=>obtain ⟨σ7,H7,I7,q7⟩:=q7;exact ⟨σ7,H7,I7.unpinned,q7⟩
  | ret v=>obtain ⟨x7,σ7,H7,I7,r7,q7⟩:=q7;exact ⟨x7,σ7,H7,I7.unpinned,r7,q7⟩
end
end L2
namespace L2
open PySem PySem.Spec PyProof.Rows
noncomputable abbrev R2:=V->V->Hp->VK->Prop
noncomputable def OpR (X:Cx)(f:Value->Value->Sem Value)(r:R2):Prop:=
 ∀ (pins:List (Addr×Obj)) (s:Shared) (σ:St) (H:Hp) (x y:V) (v u:Value) (Q:VK),Inv X pins σ H s->RelV x v->RelV y u->r x y H Q ->
  wpAny (model X.prog X.w) X.A (f v u) (EP X pins σ Q) X.xe s
noncomputable def qbE (X:Cx)(f:Value)(r:List V->Hp->VK->Prop):Prop:=
 ∀ (pins:List (Addr×Obj)) (s:Shared) (σ:St) (H:Hp) (xs:List V) (us:List Value) (Q:VK),Inv X pins σ H s->Vals xs us->r xs H Q ->
  wpAny (model X.prog X.w) X.A (call f us) (EP X pins σ Q) X.xe s
noncomputable def TruR (X:Cx)(r:V->Hp->(Bool->Hp->Prop)->Prop):Prop:=
 ∀ (pins:List (Addr×Obj)) (s:Shared) (σ:St) (H:Hp) (x:V) (v:Value) (Q:Bool->Hp->Prop),Inv X pins σ H s->RelV x v->r x H Q ->
  wpAny (model X.prog X.w) X.A (truthy v) (TP X pins σ Q) X.xe s
noncomputable def tOp (r:R2)(ta tb:TE):TE:=fun σ H Q=>ta σ H fun x H1=>tb σ H1 fun y H2=>r x y H2 Q
noncomputable def rI (C:Int->Int->Prop)(g:Int->Int->V):R2:=fun x y H Q=>∃ i j,x = .int i/\y = .int j/\C i j/\Q (g i j) H
noncomputable def rI0 (g:Int->Int->V):R2:=fun x y H Q=>∃ i j,x = .int i/\y = .int j/\Q (g i j) H
noncomputable def rU (g:Int->V):V->Hp->VK->Prop:=fun x H Q=>∃ i,x = .int i/\Q (g i) H
section
variable {X:Cx} {a b c:Expr} {ta tb tc:TE} {pos:Pos}
theorem binT (ha:PE X a ta)(hb:PE X b tb){pins:List (Addr×Obj)}{s:Shared}{σ:St}{H:Hp}{R:V->V->Hp->Prop}(I:Inv X pins σ H s)
  (h:ta σ H fun x H1=>tb σ H1 fun y H2=>R x y H2) {Q:Value->Shared->Prop} {f:Value->Value->Sem Value}
  (hf:∀ v u s2 x y H2,Inv X pins σ H2 s2->RelV x v->RelV y u->R x y H2->wpAny (model X.prog X.w) X.A (f v u) Q X.xe s2):
  wpAny (model X.prog X.w) X.A (eval a X.env) (fun v s₁=>wpAny (model X.prog X.w) X.A (eval b X.env) (fun u s₂=>wpAny (model X.prog X.w) X.A (f v u) Q X.xe s₂) X.xe s₁) X.xe s:=by
 refine thn (ha pins s σ H _ I h) fun v s1 ⟨x,H1,I1,r1,q1⟩=>?_
 refine thn (hb pins s1 σ H1 _ I1 q1) fun u s2 ⟨y,H2,I2,r2,q2⟩=>?_
 exact hf v u s2 x y H2 I2 r1 r2 q2
theorem qqq {op:Operator}{r:R2}(ho:OpR X (binaryOp op) r)(ha:PE X a ta)(hb:PE X b tb):PE X (.BinOp a op b pos) (tOp r ta tb):=by
 intro pins s σ H Q I h
 exact wpAny_BinOp (binT ha hb I h fun v u s2 x y H2 I2 rx ry q=>ho pins s2 σ H2 x y v u Q I2 rx ry q)
theorem opI {f:Value->Value->Sem Value}{C:Int->Int->Prop}{g:Int->Int->Int}
  (rule:∀ (i j:Int) (t u:Tok) (s:Shared) (Q:Value->Shared->Prop) (E:Value->Shared->Prop),C i j->Q (.int (g i j) s.toks) {s with toks:=s.toks+1}->wpAny (model X.prog X.w) X.A (f (.int i t) (.int j u)) Q E s):
  OpR X f (rI C fun i j=>.int (g i j)):=by
 intro pins s σ H x y v u Q I rx ry h
 obtain ⟨i,j,rfl,rfl,hc,q⟩:=h
 obtain ⟨t,rfl⟩:=rx
 obtain ⟨t',rfl⟩:=ry
 exact rule i j t t' s _ _ hc ⟨.int (g i j),H,I.tok _,⟨_,rfl⟩,q⟩
theorem opI0 {f:Value->Value->Sem Value}{g:Int->Int->Int}
  (rule:∀ (i j:Int) (t u:Tok) (s:Shared) (Q:Value->Shared->Prop) (E:Value->Shared->Prop),Q (.int (g i j) s.toks) {s with toks:=s.toks+1}->wpAny (model X.prog X.w) X.A (f (.int i t) (.int j u)) Q E s):
  OpR X f (rI0 fun i j=>.int (g i j)):=by
 intro pins s σ H x y v u Q I rx ry h
 obtain ⟨i,j,rfl,rfl,q⟩:=h
 obtain ⟨t,rfl⟩:=rx
 obtain ⟨t',rfl⟩:=ry
 exact rule i j t t' s _ _ ⟨.int (g i j),H,I.tok _,⟨_,rfl⟩,q⟩
theorem opB0 {f:Value->Value->Sem Value}{g:Int->Int->Bool}
  (rule:∀ (i j:Int) (t u:Tok) (s:Shared) (Q:Value->Shared->Prop) (E:Value->Shared->Prop),Q (.bool (g i j)) s->wpAny (model X.prog X.w) X.A (f (.int i t) (.int j u)) Q E s):
  OpR X f (rI0 fun i j=>.bl (g i j)):=by
 intro pins s σ H x y v u Q I rx ry h
 obtain ⟨i,j,rfl,rfl,q⟩:=h
 obtain ⟨t,rfl⟩:=rx
 obtain ⟨t',rfl⟩:=ry
 exact rule i j t t' s _ _ ⟨.bl (g i j),H,I,rfl,q⟩
noncomputable def CDiv (i j:Int):Prop:=0<j/\j<1073741824
noncomputable def CPow (i j:Int):Prop:=0<=j/\j<=1000000/\i.natAbs<2^64
theorem qoG:OpR X (binaryOp .Add) (rI0 fun i j=>.int (i+j)):=opI0 fun _ _ _ _ _ _ _ q=>add_int q
theorem qmI:OpR X (binaryOp .FloorDiv) (rI CDiv fun i j=>.int (i/j)):=opI fun i j _ _ _ _ _ hc q=>by
 have h1:(0:Int)<j:=hc.1
 have h2:j<1073741824:=hc.2
 exact floordiv_int (by lia) (by rw [Int.fdiv_eq_ediv_of_nonneg i (by lia)];exact q) (.inl (PyProof.noPylong_small (by lia)))
theorem qoD:OpR X (binaryOp .Mod) (rI (fun _ j=>0<j) fun i j=>.int (i%j)):=opI fun i j _ _ _ _ _ hc q=>by
 have h1:(0:Int)<j:=hc
 exact mod_int' (by lia) (by rw [Int.fmod_eq_emod_of_nonneg i (by lia)];exact q)
theorem qoC:OpR X (binaryOp .Pow) (rI CPow fun i j=>.int (i^j.toNat)):=opI fun _ _ _ _ _ _ _ hc q=>pow_int_small hc.1 hc.2.1 hc.2.2 q
end
section
variable {X:Cx} {a b c:Expr} {ta tb tc:TE} {pos:Pos}
theorem qlL {pins:List (Addr×Obj)}{σ:St}{H:Hp}{s:Shared}{Q:VK}{k k':Bool}(I:Inv X pins σ H s)(q:Q (.bl k) H)(e:k=k'):EP X pins σ Q (.bool k') s:=by
 subst e
 exact ⟨.bl k,H,I,rfl,q⟩
theorem qqu:OpR X (compareOp .Gt) (rI0 fun i j=>.bl (decide (j<i))):=opB0 fun _ _ _ _ _ _ _ q=>gt_int q
theorem qqv:OpR X (compareOp .GtE) (rI0 fun i j=>.bl (decide (j<=i))):=opB0 fun _ _ _ _ _ _ _ q=>ge_int q
theorem qoE:OpR X (compareOp .Is) (fun x y H Q=>y = .non/\Q (.bl (decide (x = .non))) H):=by
 intro pins s σ H x y v u Q I rx ry h
 obtain ⟨rfl,q⟩:=h
 cases ry
 refine is_none_gen (qlL I q ?_)
 cases x<;>first
  | (cases rx;rfl)
  | (obtain ⟨t,rfl⟩:=rx;rfl)
theorem qmH:OpR X (compareOp .IsNot) (fun x y H Q=>y = .non/\Q (.bl (!decide (x = .non))) H):=by
 intro pins s σ H x y v u Q I rx ry h
 obtain ⟨rfl,q⟩:=h
 cases ry
 refine isnot_none_gen (qlL I q ?_)
 cases x<;>first
  | (cases rx;rfl)
  | (obtain ⟨t,rfl⟩:=rx;rfl)
theorem qaC (b:Expr){op:CmpOp}(h:op ≠ .In:=by decide)(h2:op ≠ .NotIn:=by decide):behindInMarks op b=false:=by
 have e1:(op == CmpOp.In)=false:=by cases op<;>first | rfl | exact absurd rfl h
 have e2:(op == CmpOp.NotIn)=false:=by cases op<;>first | rfl | exact absurd rfl h2
 cases b<;>simp [behindInMarks,e1,e2]
theorem qmE {op:CmpOp}{r:R2}(ho:OpR X (compareOp op) r)(ha:PE X a ta)(hb:PE X b tb)(hm:behindInMarks op b=false):PE X (.Compare a [op] [b] pos) (tOp r ta tb):=by
 intro pins s σ H Q I h
 exact wpAny_Compare1 (binT ha hb I h fun v u s2 x y H2 I2 rx ry q=>ho pins s2 σ H2 x y v u Q I2 rx ry q) hm
noncomputable def qp9 (t:TE):TT:=fun σ H Q=>t σ H fun x H'=>∃ k,x = .bl k/\Q k H'
theorem qmn {op:CmpOp}{r:R2}(ho:OpR X (compareOp op) r)(ha:PE X a ta)(hb:PE X b tb)(hm:behindInMarks op b=false):PT X (.Compare a [op] [b] pos) (qp9 (tOp r ta tb)):=by
 intro pins s σ H Q I h
 refine wpAny_isTrue_Compare1 (thn (ha pins s σ H _ I h) fun v s1 ⟨x,H1,I1,r1,q1⟩=>thn (hb pins s1 σ H1 _ I1 q1) fun u s2 ⟨y,H2,I2,r2,q2⟩=>
  thn (ho pins s2 σ H2 x y v u _ I2 r1 r2 q2) fun c s3 ⟨z,H3,I3,r3,k,e,q3⟩=>?_) hm
 subst e
 cases r3
 exact wpAny_truthy_bool ⟨H3,I3,q3⟩
noncomputable def TruV (K:Fg1)(x:V)(H:Hp)(k:Bool):Prop:=
 match x with
 | .non=>k=false
 | .bl b=>k=b
 | .int i=>k=(i != 0)
 | .str y=>y.length<=sizeLine/\k=((y.length:Int) != 0)
 | .byt y=>y.size<=sizeLine/\k=((y.size:Int) != 0)
 | .ref p=>(∃ xs,SqL K H p xs/\k = !xs.isEmpty)\/(∃ xs,SqT K H p xs/\k = !xs.isEmpty) \/ ∃ kvs,H p=some (.dK kvs)/\k = !kvs.isEmpty
 | _=>False
theorem qh9 {κ:Type}{kvs:List (κ×V)}{vs:List (κ×Value)}(r:KV kvs vs):(!vs.isEmpty) = !kvs.isEmpty:=by
 cases r<;>rfl
theorem qeO {xs:List V}{its:List Value}(r:Vals xs its):(!its.toArray.isEmpty) = !xs.isEmpty:=by
 cases r<;>simp
theorem qeL:(sizeLine:Nat)<2^63:=by rw [sizeLine_eq];decide
theorem qnK:TruR X (fun x H Q=>∃ k,TruV X.K x H k/\Q k H):=by
 intro pins s σ H x v Q I rx h
 obtain ⟨k,e,q⟩:=h
 have hl:=qeL
 have hs:sizeLine=16777216:=sizeLine_eq
 cases x with
 | non=>
  cases rx
  have e':k=false:=e
  subst e'
  exact truthy_none ⟨H,I,q⟩
 | bl b=>
  cases rx
  have e':k=b:=e
  subst e'
  exact wpAny_truthy_bool ⟨H,I,q⟩
 | int i=>
  obtain ⟨t,rfl⟩:=rx
  have e':k=(i != 0):=e
  subst e'
  exact PySem.P.truthy_int ⟨H,I,q⟩
 | str y=>
  obtain ⟨t,rfl⟩:=rx
  obtain ⟨hy,e'⟩:y.length<=sizeLine/\k=((y.length:Int) != 0):=e
  subst e'
  exact PySem.P.truthy_str (by lia) ⟨H,I.tok _,q⟩
 | byt y=>
  obtain ⟨t,rfl⟩:=rx
  obtain ⟨hy,e'⟩:y.size<=sizeLine/\k=((y.size:Int) != 0):=e
  subst e'
  exact PySem.W.truthy_bytes (by lia) ⟨H,I.tok _,q⟩
 | ref p=>
  cases rx
  have e':(∃ xs,SqL X.K H p xs/\k = !xs.isEmpty)\/(∃ xs,SqT X.K H p xs/\k = !xs.isEmpty) \/ ∃ kvs,H p=some (.dK kvs)/\k = !kvs.isEmpty:=e
  rcases e' with ⟨xs,hx,e'⟩ | ⟨xs,hx,e'⟩ | ⟨kvs,hx,e'⟩
  ·subst e'
   obtain ⟨its,r,pl,hz⟩:=I.list hx
   have hlen:=r.length
   exact wpAny_truthy_list pl.isList (by simp only [sT1];lia) ⟨H,I.tok _,by rw [qeO r];exact q⟩
  ·subst e'
   obtain ⟨its,r,pl,hz⟩:=I.tuple hx
   have hlen:=r.length
   exact truthy_tuple pl (by simp only [sT1];lia) ⟨H,I.tok _,by rw [qeO r];exact q⟩
  ·subst e'
   obtain ⟨hz,hS,vs,r,m⟩:kvs.length<=sizeLine/\(p == sysModules)=false /\ ∃ vs,KV kvs vs/\s.heap.DictOf (qaT X.prog X.w) p vs:=I.hok p _ hx
   have hlen:kvs.length=vs.length:=Paired.length r
   exact wpAny_truthy_dict hS m (by lia) ⟨H,I.tok _,by rw [qh9 r];exact q⟩
 | _=>exact (show False from e).elim
theorem qki (ha:PE X a ta)(he:∀ whole,isTrue a X.env whole=(do let v<-whole;standAt a.pos;holding [v] (truthy v))):
  PT X a (fun σ H Q=>ta σ H fun x H'=>∃ k,TruV X.K x H' k/\Q k H'):=by
 intro pins s σ H Q I h
 exact isTrue_plain (thn (ha pins s σ H _ I h) fun v s1 ⟨x,H1,I1,r1,q1⟩=>qnK pins s1 σ H1 x v Q I1 r1 q1) (he _)
theorem qhY:OpR X (binaryOp .Add) (fun x y H Q=>∃ i j,x = .str i/\y = .str j/\i.length+j.length<=sizeLine/\Q (.str (i++j)) H):=by
 intro pins s σ H x y v u Q I rx ry h
 obtain ⟨i,j,rfl,rfl,hz,q⟩:=h
 obtain ⟨t,rfl⟩:=rx
 obtain ⟨t',rfl⟩:=ry
 exact add_str (fun t' tk=>⟨.str (i++j),H,I.tok _,⟨_,rfl⟩,q⟩) hz
theorem qez {x:V}{us:List Value}(r:Vals [x] us):∃ u,us=[u]/\RelV x u:=by
 cases r with
 | cons r1 r2=>cases r2;exact ⟨_,rfl,r1⟩
theorem qnE {x y:V}{us:List Value}(r:Vals [x,y] us):∃ u w',us=[u,w']/\RelV x u/\RelV y w':=by
 cases r with
 | cons r1 r2=>
  cases r2 with
  | cons r3 r4=>cases r4;exact ⟨_,_,rfl,r1,r3⟩
theorem qjP (hc:X.calm=true):qbE X (.builtin "max") (fun xs H Q=>∃ i j,xs=[.int i,.int j]/\Q (.int (if j>i then j else i)) H):=by
 intro pins s σ H xs us Q I r h
 obtain ⟨i,j,rfl,q⟩:=h
 obtain ⟨u,w',rfl,⟨t,rfl⟩,⟨t',rfl⟩⟩:=qnE r
 refine max_two_ints (I.ok.hd hc) fun h' tk k=>⟨_,H,I.kept k,?_,q⟩
 by_cases hj:j>i
 ·rw [if_pos hj,if_pos hj];exact ⟨_,rfl⟩
 ·rw [if_neg hj,if_neg hj];exact ⟨_,rfl⟩
theorem qjO (hc:X.calm=true):qbE X (.builtin "min") (fun xs H Q=>∃ i j,xs=[.int i,.int j]/\Q (.int (if j<i then j else i)) H):=by
 intro pins s σ H xs us Q I r h
 obtain ⟨i,j,rfl,q⟩:=h
 obtain ⟨u,w',rfl,⟨t,rfl⟩,⟨t',rfl⟩⟩:=qnE r
 refine min_two_ints (I.ok.hd hc) fun h' tk k=>⟨_,H,I.kept k,?_,q⟩
 by_cases hj:j<i
 ·rw [if_pos hj,if_pos hj];exact ⟨_,rfl⟩
 ·rw [if_neg hj,if_neg hj];exact ⟨_,rfl⟩
theorem qgi:qbE X (.type "int") (fun xs H Q=>(∃ i,xs=[.int i]/\Q (.int i) H) \/ ∃ k,xs=[.bl k]/\Q (.int (if k then 1 else 0)) H):=by
 intro pins s σ H xs us Q I r h
 rcases h with ⟨i,rfl,q⟩ | ⟨k,rfl,q⟩
 ·obtain ⟨u,rfl,t,rfl⟩:=qez r
  exact call_int_int ⟨.int i,H,I,⟨_,rfl⟩,q⟩
 ·obtain ⟨u,rfl,r1⟩:=qez r
  cases r1
  exact call_int_bool ⟨.int (if k then 1 else 0),H,I.tok _,⟨_,rfl⟩,q⟩
end
end L2
namespace L2
open PySem PySem.Spec PyProof.Rows
section
variable {prog:Program} {w:World} {A:Around} {E:Value->Shared->Prop} {s:Shared} {K:Fg1} {x dx C f:Addr} {mA:Str->Option Value} {name:Str} {v:Value}
end
theorem RelO.some_of {v:V}{o:Option Value}(r:RelO (some v) o):∃ u,o=some u/\RelV v u:=by
 cases o with
 | none=>exact (show False from r).elim
 | some u=>exact ⟨u,rfl,r⟩
section
variable {P:Program} {w:World} {H H':Hp} {h h':Heap} {a C dx:Addr} {fs fs':List (Str×V)}
end
structure Cls (K:Fg1)(C:Addr):Prop where
 pg:PySem.W.plainGet K C Str.empty=true
 hd:PySem.W.hasDictIn K C=true
 po:PySem.W.plainOver K C=true
 sa:PySem.W.findIn K (.ref C) "__setattr__"=some (some (.builtin "object.__setattr__"))
section
variable {X:Cx} {pins:List (Addr×Obj)} {σ:St} {H:Hp} {s:Shared} {a C dx:Addr} {fs:List (Str×V)} {f:Str} {v:V} {A:Around} {E:Value->Shared->Prop}
end
section
variable {X:Cx} {o e value:Expr} {f:Str} {pos pos' tpos:Pos} {ta tv:TE}
end
section
variable {X:Cx} {pins:List (Addr×Obj)} {σ:St} {H:Hp} {s:Shared} {A:Around} {E:Value->Shared->Prop} {Q:Value->Shared->Prop} {c:Value} {b:Bool}
end
end L2
namespace L2
open PySem PySem.Spec PyProof.Rows
structure Room (k:Nat)(A:Around):Prop where
 hd:A.handled=none
 dp:A.depth+3*k+5<recursionLimit
 un:A.units+16*k+200<cLine
 gd:A.guards=some []
theorem Room.mono {j k:Nat}{A:Around}(r:Room k A)(h:j<=k):Room j A:=⟨r.hd,by have:=r.dp;lia,by have:=r.un;lia,r.gd⟩
theorem Room.deeper {k:Nat}{A:Around}(r:Room (k+1) A)(env:Env):Room k (A.deeper env):=
 ⟨r.hd,by have:=r.dp;show A.depth+1+3*k+5<_;lia,by have:=r.un;show A.units+3+16*k+200<_;lia,r.gd⟩
theorem Room.depth {k:Nat}{A:Around}(r:Room k A):A.depth<recursionLimit:=by have:=r.dp;lia
theorem Room.units {k:Nat}{A:Around}(r:Room k A):A.units+64<cLine:=by have:=r.un;lia
noncomputable def tNil:TA:=fun _ H Q=>Q [] H
noncomputable def qqf (ta:TE)(tr:TA):TA:=fun σ H Q=>ta σ H fun x H1=>tr σ H1 fun xs H2=>Q (x::xs) H2
section
variable {X:Cx} {e:Expr} {es:List Expr} {te:TE} {t:TA} {pos:Pos}
theorem qiO:PA X [] tNil:=fun _ _ _ _ H Q I h=>Calls.spliced_nil ⟨[],H,I,.nil,h⟩
theorem qgy (ha:PE X e te)(hr:PA X es t)(hs:starEach (e::es) X.env=(false,eval e X.env)::starEach es X.env:=by rfl):PA X (e::es) (qqf te t):=by
 intro pos pins s σ H Q I h
 rw [hs]
 show wpAny _ _ (spliced ((false,eval e X.env)::backTo pos (starEach es X.env))) _ _ s
 refine Calls.spliced_cons (thn (ha pins s σ H _ I h) fun u s1 ⟨x,H1,I1,r1,q1⟩=>?_)
 exact thn (hr pos pins s1 σ H1 _ I1 q1) fun us s2 ⟨xs,H2,I2,r2,q2⟩=>⟨x::xs,H2,I2,.cons r1 r2,q2⟩
noncomputable def tTup (t:TA):TE:=fun σ H Q=>t σ H fun xs H1=>xs.length<=sizeLine /\ ∀ p,H1 p=none->Q (.ref p) (upd H1 p (.tup xs))
noncomputable def tLst (t:TA):TE:=fun σ H Q=>t σ H fun xs H1=>xs.length<=sizeLine /\ ∀ p,H1 p=none->Q (.ref p) (upd H1 p (.lst xs))
theorem qot {x1}(h:PA X es t):PE X (.Tuple es x1 pos) (tTup t):=by
 intro pins s σ H Q I hq
 refine wpAny_Tuple_spliced (thn (h pos pins s σ H _ I hq) fun us s1 ⟨xs,H1,I1,r,z,q⟩=>⟨by rw [<- r.length];exact z,?_⟩)
 have hf:H1 s1.heap.objs.size=none:=I1.hok.fresh (nR1 _)
 refine ⟨.ref s1.heap.objs.size,upd H1 s1.heap.objs.size (.tup xs),I1.laid (t':=s1.toks) (fun b u e=>hP1 _ e) (nR1 _) ?_,rfl,q _ hf⟩
 exact ⟨z,us,r,⟨_,hS1 _ rfl,rfl,_,rfl⟩⟩
theorem qow (h:PA X es t):PE X (.List es pos) (tLst t):=by
 intro pins s σ H Q I hq
 refine wpAny_List_spliced (thn (h pos pins s σ H _ I hq) fun us s1 ⟨xs,H1,I1,r,z,q⟩=>⟨by rw [<- r.length];exact z,?_⟩)
 have hf:H1 s1.heap.objs.size=none:=I1.hok.fresh (nR1 _)
 refine ⟨.ref s1.heap.objs.size,upd H1 s1.heap.objs.size (.lst xs),I1.laid (t':=s1.toks) (fun b u e=>hP1 _ e) (nR1 _) ?_,rfl,q _ hf⟩
 exact ⟨z,us,0,r,hS1 _ rfl⟩
end
noncomputable abbrev Sp:=List V->Hp->VK->XK->Prop
noncomputable abbrev CXT:=List Env->Hp->Shared->XK->Value->Shared->Prop
structure Env0 (P:Program)(w:World)(K:Fg1)(mg:Str->Option Value)(base:Heap)(A:Around)(outer:List Env)(s:Shared)(H:Hp):Prop where
 frames:A.frames=some outer
 mod:Mod K mg base
 bs:∀ b o,base.get? b=some o->s.heap.get? b=some o/\H b=none
 bsz:base.objs.size<=s.heap.objs.size
 funs:s.heap.FunFrames base outer
 frf:∀ b∈frs outer,H b=none
 hok:HOk P w H s.heap
 bare:AllBare s.gens
noncomputable def CE (outer:List Env)(P:Program)(w:World)(H:Hp)(s:Shared)(Q:VK)(u:Value)(s':Shared):Prop:=
 ∃ v H',s'.os=s.os/\AllBare s'.gens/\Un (frs outer) [] H H' s.heap s'.heap/\HOk P w H' s'.heap/\RelV v u/\Q v H'
noncomputable def CR (CX:CXT)(outer:List Env)(P:Program)(w:World)(H:Hp)(s:Shared)(Q:VK)(E:XK)(r:Result)(s':Shared):Prop:=
 match r with
 | .ok (.ret u)=>CE outer P w H s Q u s'
 | .ok _=>False
 | .error e=>CX outer H s E e s'
structure FnOk (P:Program)(w:World)(K:Fg1)(mg:Str->Option Value)(base:Heap)(CX:CXT)(k:Nat)(f:Addr)(fd:FuncData)(ps:List Str)(sp:Sp):Prop where
 len:∀ vs H Q E,sp vs H Q E->vs.length=ps.length
 run:∀ (A:Around) (outer:List Env) (s:Shared) (H:Hp) (args:Args) (us:List Value) (vs:List V) (Q:VK) (E:XK),Room k A->Env0 P w K mg base A outer s H->BindsTo s fd args (ps.zip us)->Vals vs us->sp vs H Q E ->
  codeAny (model P w) A (.call (.ref f) args) (CR CX outer P w H s Q E) s
section
variable {X:Cx} {pins:List (Addr×Obj)} {σ:St} {H:Hp} {s s':Shared}
theorem Inv.env0 (I:Inv X pins σ H s):Env0 X.prog X.w X.K X.mg X.base X.A X.stack s H:=
 ⟨I.ok.frames,I.ok.mod,I.bs,Nat.le_trans I.ok.bsz I.sz,I.stack,I.stkFree,I.hok,I.bare⟩
theorem Inv.after {Q:VK}{u:Value}(I:Inv X pins σ H s)(h:CE X.stack X.prog X.w H s Q u s'):EP X pins σ Q u s':=by
 obtain ⟨v,H',os,bare,un,hok,r,q⟩:=h
 obtain ⟨hh,g,d,t,os'⟩:=s'
 obtain rfl:os'=s.os:=os
 exact ⟨v,H',I.call (h':=hh) (g':=g) (d':=d) (t':=t) (ch:=[]) un hok bare (fun b z=>absurd z (by simp)),r,q⟩
end
noncomputable def qnU (sp:Sp)(dvs:List V)(E:XK)(t:TA):TE:=fun σ H Q=>t σ H fun vs H1=>sp (vs++dvs) H1 Q E
noncomputable def qa6 (K:Fg1)(fd:FuncData)(ps:List Str)(ds:List Value):Prop:=
 ∀ (s:Shared) (us:List Value),K.In s.heap->(us++ds).length=ps.length->BindsTo s fd ⟨us,[]⟩ (ps.zip (us++ds))
theorem qa6.all {K:Fg1}{fd:FuncData}{ps:List Str}(h:∀ us:List Value,us.length=ps.length->bindArgs fd ⟨us,[]⟩=pure (ps.zip us)):qa6 K fd ps []:=fun s us _ hl=>by
 rw [List.append_nil] at hl ⊢
 exact .of_eq (h us hl)
noncomputable def qhR (CX:CXT)(X:Cx)(E:XK):Prop:=∀ (pins:List (Addr×Obj)) (σ:St) (H:Hp) (s:Shared) (e:Value) (s':Shared),Inv X pins σ H s->CX X.stack H s E e s'->X.xe e s'
section
variable {X:Cx} {CX:CXT} {k:Nat} {f C:Addr} {fd:FuncData} {ps:List Str} {sp:Sp} {dvs:List V} {ds:List Value} {E:XK} {x m:Str} {p pos apos:Pos} {e o:Expr} {es:List Expr} {ta:TE} {t:TA}
theorem qly {pins:List (Addr×Obj)}{σ:St}{H:Hp}{s:Shared}{Q:VK}{us:List Value}{vs:List V}(F:FnOk X.prog X.w X.K X.mg X.base CX k f fd ps sp)(hr:Room k X.A)(hb:qa6 X.K fd ps ds)(hd:Vals dvs ds)(hx:qhR CX X E)
  (I:Inv X pins σ H s) (r:Vals vs us) (h:sp (vs++dvs) H Q E):wpAny (model X.prog X.w) X.A (call (.ref f) us) (EP X pins σ Q) X.xe s:=by
 have r2:Vals (vs++dvs) (us++ds):=r.append hd
 have hl:(us++ds).length=ps.length:=by rw [<- r2.length];exact F.len _ _ _ _ h
 refine wpAny_call (codeAny_mono (F.run X.A X.stack s H ⟨us,[]⟩ (us++ds) (vs++dvs) Q E hr I.env0 (hb s us I.kIn hl) r2 h) fun r s' hq=>?_)
 cases r with
 | error e=>exact hx pins σ H s e s' I hq
 | ok fl=>
  cases fl with
  | ret u=>exact I.after hq
  | next=>exact False.elim hq
  | brk=>exact False.elim hq
  | cont=>exact False.elim hq
theorem qmF (F:FnOk X.prog X.w X.K X.mg X.base CX k f fd ps sp)(hr:Room k X.A)(hg:Gl X x)(hm:X.mg x=some (.ref f))(hk:wK1 X.K (.ref f)=true)(hb:qa6 X.K fd ps ds)(hd:Vals dvs ds)(hx:qhR CX X E)
  (ha:PA X (e::es) t) (hdb:(x == ("__debug__":Str))=false:=by decide) (he:starEach (e::es) X.env=(false,eval e X.env)::starEach es X.env:=by rfl) (hpl:(backTo pos (starEach es X.env)).any (·.1)=false:=by rfl):
  PE X (.Call (.Name x p) (e::es) [] pos) (qnU sp dvs E t):=by
 intro pins s σ H Q I h
 refine wpAny_Call_Name_kw (qi6 I hg hm ?_ hdb)
 refine PySem.W.callWith_K (h₀:=X.base) I.ok.mod.kin hk (thn (ha pos pins s σ H _ I h) fun us s1 ⟨vs,H1,I1,r,q⟩=>⟨I1.kIn,?_⟩) he hpl
 exact qly F hr hb hd hx I1 r q
end
section
variable {X:Cx} {CX:CXT} {k:Nat} {f C:Addr} {fd:FuncData} {ps ks:List Str} {sp:Sp} {E:XK} {x m:Str} {p pos apos kpos:Pos} {e o:Expr} {es:List Expr} {kws:List Keyword} {te ta:TE} {t tk:TA} {nm:Option Str}
variable {g:List Value->List Value->List Value} {gV:List V->List V->List V}
end
structure qas (N P:List Str)(sc:Scope):Prop where
 kind:sc.kind = .function
 co:sc.isCoroutine=false
 gen:sc.isGenerator=false
 nd:N.Nodup
 pre:N.take P.length=P
 par:∀ x∈P,sc.names.lookup x=some .local\/sc.names.lookup x=some .cell
 nofree:∀ y∈sc.names,y.2 ≠ .free
theorem qgj {kindOf:Str->Option NameKind}{x:Str}:∀ {binds:List (Str×Value)} {m:Str->Option Value},(∀ v,(x,v)∉binds)->bindL kindOf binds m x=m x
 | [],_,_=>rfl
 | (n,v)::r,m,h=>by
  unfold bindL
  rw [qgj fun w hw=>h w (mC1 _ hw)]
  split
  ·have:x≠n:=by rintro rfl;exact h v mS1
   simp [this]
  ·rfl
theorem qgl {kindOf:Str->Option NameKind}{x:Str}:∀ {binds:List (Str×Value)} {m:Str->Option Value},(∀ v,(x,v)∉binds)->bindC kindOf binds m x=m x
 | [],_,_=>rfl
 | (n,v)::r,m,h=>by
  unfold bindC
  rw [qgl fun w hw=>h w (mC1 _ hw)]
  split
  ·rfl
  ·have:x≠n:=by rintro rfl;exact h v mS1
   simp [this]
theorem qgk {kindOf:Str->Option NameKind}{x:Str}{v:Value}:∀ {P:List Str} {vs:List Value} {i:Nat} {m:Str->Option Value},P.Nodup->P[i]? = some x->vs[i]? = some v->kindOf x=some .local ->
  bindL kindOf (P.zip vs) m x=some v
 | [],_,_,_,_,h,_,_=>by simp at h
 | _::_,[],_,_,_,_,h,_=>by simp at h
 | p::P,w::vs,0,m,nd,h1,h2,hk=>by
  simp at h1 h2;subst h1;subst h2
  show bindL kindOf ((p,w)::P.zip vs) m p=_
  unfold bindL
  rw [qgj fun v hv=>(List.nodup_cons.mp nd).1 (List.of_mem_zip hv).1,if_pos hk]
  simp
 | p::P,w::vs,i+1,m,nd,h1,h2,hk=>by
  show bindL kindOf ((p,w)::P.zip vs) m x=_
  unfold bindL
  exact qgk (i:=i) (List.nodup_cons.mp nd).2 (by simpa using h1) (by simpa using h2) hk
theorem qgm {kindOf:Str->Option NameKind}{x:Str}{v:Value}:∀ {P:List Str} {vs:List Value} {i:Nat} {m:Str->Option Value},P.Nodup->P[i]? = some x->vs[i]? = some v->kindOf x≠some .local ->
  bindC kindOf (P.zip vs) m x=some v
 | [],_,_,_,_,h,_,_=>by simp at h
 | _::_,[],_,_,_,_,h,_=>by simp at h
 | p::P,w::vs,0,m,nd,h1,h2,hk=>by
  simp at h1 h2;subst h1;subst h2
  show bindC kindOf ((p,w)::P.zip vs) m p=_
  unfold bindC
  rw [qgl fun v hv=>(List.nodup_cons.mp nd).1 (List.of_mem_zip hv).1,if_neg hk]
  simp
 | p::P,w::vs,i+1,m,nd,h1,h2,hk=>by
  show bindC kindOf ((p,w)::P.zip vs) m x=_
  unfold bindC
  exact qgm (i:=i) (List.nodup_cons.mp nd).2 (by simpa using h1) (by simpa using h2) hk
noncomputable def qd8 (N:List Str)(vs:List V):St:=vs.map some++List.replicate (N.length-vs.length) none
noncomputable def cxOf (CX:CXT)(P:Program)(w:World)(K:Fg1)(mg:Str->Option Value)(base:Heap)(N:List Str)(qual:Str)(scope:Scope)(f:Addr)(cd:Value)(A:Around)(outer:List Env)(s:Shared)(H:Hp)(E:XK):Cx where
 prog:=P
 w:=w
 K:=K
 mg:=mg
 base:=base
 A:=A.deeper (envOfC qual scope s.heap.objs.size f cd)
 N:=N
 s₀:=s
 H₀:=H
 env:=envOfC qual scope s.heap.objs.size f cd
 outer:=outer
 stack:=envOfC qual scope s.heap.objs.size f cd::outer
 ex:=[]
 calm:=true
 fn:=fun _=>true
 pn:=[]
 xe:=fun e s'=>wpAny (model P w) (A.deeper (envOfC qual scope s.heap.objs.size f cd)) (leaving (envOfC qual scope s.heap.objs.size f cd) e) (fun _ s''=>CX outer H s E e s'') (fun e' s''=>CX outer H s E e' s'') s'
theorem qhL {sc:Scope}{n:Nat}{x:Str}(h:sc.names.lookup x=some .cell):∃ c,(cellsFrom n sc.names []).lookup x=some c:=by
 have q:=PySem.W.cellsFrom_some sc.names n [] (.inl h)
 exact Option.isSome_iff_exists.mp q
theorem qja {CX:CXT}{P:Program}{w:World}{K:Fg1}{mg:Str->Option Value}{base:Heap}{N ps:List Str}{qual:Str}{scope:Scope}{f:Addr}{cd:Value}{A:Around}{outer:List Env}{s s1:Shared}{H:Hp}{E:XK}{us:List Value}{vs:List V}
  (S:qas N ps scope) (hd:A.handled=none) (e0:Env0 P w K mg base A outer s H) (hl:vs.length=ps.length) (r:Vals vs us)
  (x:InCallC s s.heap.objs.size (bindL (envOfC qual scope s.heap.objs.size f cd).kindOf (ps.zip us) fun _=>none) (cellsFrom (s.heap.objs.size+1) scope.names []) (bindC (envOfC qual scope s.heap.objs.size f cd).kindOf (ps.zip us) fun _=>none) s1):
  Inv (cxOf CX P w K mg base N qual scope f cd A outer s H E) [] (qd8 N vs) H s1:=by
 have hpl:ps.length<=N.length:=by have:=congrArg List.length S.pre;rw [List.length_take] at this;lia
 obtain ⟨h1,tk,rfl,hk⟩:=x.done
 have noA:∀ b:Addr,b∉(cxOf CX P w K mg base N qual scope f cd A outer s H E).ex:=fun b z=>absurd (show b∈([]:List Addr) from z) (by simp)
 refine ⟨⟨e0.mod,S.kind,rfl,rfl,nR1 _,fun y z c h1 h2=>?_,fun y hy=>?_,fun y c _ h=>?_,fun _=>hd,Around.frames_deeper e0.frames,.inr ⟨rfl,rfl⟩,fun b z=>absurd z (noA b),e0.bs,e0.bsz,fun b _ _=>noA b,fun b z=>absurd z (noA b),e0.funs,e0.frf⟩,
  rfl,e0.bare,Un.kept hk,⟨_,x.toInCall.ns,fun i y v h1 h2 h3=>?_⟩,fun y c h=>⟨_,x.cell y c h⟩,e0.hok.fresh (nR1 _),fun y c h=>?_,fun p hp=>absurd (show p∈([]:List (Addr×Obj)) from hp) (by simp),e0.hok.kept hk,?_⟩
 ·exact name_of_addr x.apart (PySem.mem_of_lookup h1) (PySem.mem_of_lookup h2)
 ·have hy:scope.names.lookup y=some .cell\/scope.names.lookup y=some .free:=hy
  rcases hy with hy | hy
  ·exact qhL hy
  ·exact absurd rfl (S.nofree _ (PySem.mem_of_lookup hy))
 ·exact Nat.le_of_lt (x.above y c (PySem.mem_of_lookup h))
 ·have hi:i<vs.length:=by
   unfold qd8 at h2
   by_cases hi:i<vs.length
   ·exact hi
   ·rw [gR1 (by simpa using hi)] at h2
    rw [List.getElem?_replicate] at h2
    split at h2<;>cases h2
  have ha:vs[i]? = some v:=by
   unfold qd8 at h2
   rw [gL1 (by simpa using hi),gP1] at h2
   cases e:vs[i]? with
   | none=>rw [e] at h2;cases h2
   | some a=>rw [e] at h2;cases h2;rfl
  obtain ⟨u,hu,rv⟩:=r.get ha
  have hp:ps[i]? = some y:=by
   rw [<- S.pre,List.getElem?_take_of_lt (by lia)];exact h1
  have ndP:ps.Nodup:=by rw [<- S.pre];exact S.nd.sublist (List.take_sublist _ _)
  refine ⟨u,rv,?_⟩
  rcases S.par y (gM1 hp) with k | k
  ·exact .inl ⟨k,qgk ndP hp hu k⟩
  ·obtain ⟨c,e⟩:=qhL (n:=s.heap.objs.size+1) k
   refine .inr ⟨.inl k,c,e,?_⟩
   have q:=x.cell y c e
   rw [qgm ndP hp hu (by show scope.names.lookup y≠_;rw [k];decide)] at q
   exact q
 ·exact e0.hok.fresh (Nat.le_of_lt (x.above y c (PySem.mem_of_lookup h)))
 ·unfold qd8
  show _=N.length
  rw [lA1,lM1,lR1]
  lia
theorem qqS {CX:CXT}{P:Program}{w:World}{K:Fg1}{mg:Str->Option Value}{base:Heap}{k:Nat}{f:Addr}{name qual:Str}{params:Arguments}{body:List Stmt}{scope:Scope}{dV kV doc pm cdv ct oc:Value}{an od:Option Addr}
  {osl:Array (Option Value)} {N ps:List Str} {sp:Sp} (lk:K.lookup f=some ⟨oc,od,.func (wF1 name qual params body scope dV kV doc pm an cdv ct),osl⟩) (hcd:wC1 K cdv qual=true) (S:qas N ps scope)
  (len:∀ vs H Q E,sp vs H Q E->vs.length=ps.length)
  (hbody:∀ (A:Around) (outer:List Env) (s:Shared) (H:Hp) (vs:List V) (Q:VK) (E:XK),Room k (A.deeper (envOfC qual scope s.heap.objs.size f cdv))->sp vs H Q E ->
   ∃ t,PSs (cxOf CX P w K mg base N qual scope f cdv A outer s H E) body t/\t {nx:=fun _ H'=>Q .non H',rt:=Q} (qd8 N vs) H):
  FnOk P w K mg base CX (k+1) f (wF1 name qual params body scope dV kV doc pm an cdv ct) ps sp:=by
 refine ⟨len,fun A outer s H args us vs Q E hr e0 hb r hsp=>?_⟩
 have hl:=len _ _ _ _ hsp
 have KX:K.In s.heap:=e0.mod.kin.keeps fun b o e=>(e0.bs b o e).1
 have lim:s.heap.NoLimit:=e0.mod.nolimit.keeps fun b o e=>(e0.bs b o e).1
 have hkind:∀ y∈ps.zip us,scope.names.lookup y.1=some .local\/(scope.names.lookup y.1=some .cell/\((cellsFrom (s.heap.objs.size+1) scope.names []).lookup y.1).isSome=true):=fun ⟨n,v⟩ hy=>by
  rcases S.par n (List.of_mem_zip hy).1 with q | q
  ·exact .inl q
  ·exact .inr ⟨q,PySem.W.cellsFrom_some _ _ _ (.inl q)⟩
 refine codeAny_call_function hr.depth (KX _ _ lk) rfl S.co S.gen rfl (PySem.W.codeRec_of KX hcd) (hb _ _ _ _ ?_)
 refine wpAny_newFunctionEnv_cells S.kind hkind fun env he s1 x=>?_
 subst he
 refine ⟨lim.keeps x.toInCall.keep,codeAny_func ?_⟩
 obtain ⟨t,ht,hq⟩:=hbody A outer s H vs Q E (hr.deeper _) hsp
 have I:Inv (cxOf CX P w K mg base N qual scope f cdv A outer s H E) [] (qd8 N vs) H s1:=qja S hr.hd e0 hl r x
 refine wpAny_mono (ht [] s1 (qd8 N vs) H _ I hq) (fun fl s' hs=>?_) fun e s' hs=>hs
 have fin:∀ {σ':St} {H':Hp} {v:V} {u:Value},Inv (cxOf CX P w K mg base N qual scope f cdv A outer s H E) [] σ' H' s'->RelV v u->Q v H'->CE outer P w H s Q u s':=
  fun {σ' H' v u} J rv q=>⟨v,H',J.os,J.bare,J.base,J.hok,rv,q⟩
 cases fl with
 | ret u=>
  obtain ⟨v,σ',H',J,rv,q⟩:=hs
  exact fin J rv q
 | next=>
  obtain ⟨σ',H',J,q⟩:=hs
  exact fin (v:=V.non) (u:=Value.none) J rfl q
 | brk=>
  obtain ⟨_,_,_,q⟩:=hs
  exact False.elim q
 | cont=>
  obtain ⟨_,_,_,q⟩:=hs
  exact False.elim q
end L2
namespace L2
open PySem PySem.Spec PyProof.Rows
section
variable {X:Cx} {x:Str} {p pos:Pos} {e:Expr} {es:List Expr} {t:TA} {id T:String} {r:List V->Hp->VK->Prop}
noncomputable def tCB (r:List V->Hp->VK->Prop)(t:TA):TE:=fun σ H Q=>t σ H fun vs H1=>r vs H1 Q
theorem qkw (hc:qbE X (.builtin id) r)(hg:Gl X x)(hm:X.mg x=none)(hv:bootBuiltins x=some (.builtin id))(ha:PA X (e::es) t)(hn:x≠"__name__":=by decide)(hdb:(x == ("__debug__":Str))=false:=by decide)
  (he:starEach (e::es) X.env=(false,eval e X.env)::starEach es X.env:=by rfl) (hpl:(backTo pos (starEach es X.env)).any (·.1)=false:=by rfl):PE X (.Call (.Name x p) (e::es) [] pos) (tCB r t):=by
 intro pins s σ H Q I h
 refine wpAny_Call_Name_kw (qeM I hg hm hv ?_ hn hdb)
 exact PyProof.Rows.callWith_builtin1 (thn (ha pos pins s σ H _ I h) fun us s1 ⟨vs,H1,I1,r1,q1⟩=>hc pins s1 σ H1 vs us Q I1 r1 q1) he hpl
theorem qef (hc:qbE X (.type T) r)(hg:Gl X x)(hm:X.mg x=none)(hv:bootBuiltins x=some (.type T))(ha:PA X (e::es) t)(hn:x≠"__name__":=by decide)(hdb:(x == ("__debug__":Str))=false:=by decide)
  (he:starEach (e::es) X.env=(false,eval e X.env)::starEach es X.env:=by rfl) (hpl:(backTo pos (starEach es X.env)).any (·.1)=false:=by rfl):PE X (.Call (.Name x p) (e::es) [] pos) (tCB r t):=by
 intro pins s σ H Q I h
 refine wpAny_Call_Name_kw (qeM I hg hm hv ?_ hn hdb)
 exact PyProof.Rows.callWith_type1 (thn (ha pos pins s σ H _ I h) fun us s1 ⟨vs,H1,I1,r1,q1⟩=>hc pins s1 σ H1 vs us Q I1 r1 q1) he hpl
end
end L2
namespace HT
open PySem PyProof.Rows
section
open PySem.SeqAt
open PySem.AutoSeq1 (wpAny_loadPart')
open PySem.MeetsSeq PySem.MeetsSeq2 PySem.MeetsSeq3
end
section
variable {prog:Program} {w:World} {A:Around} {E:Value->Shared->Prop} {s:Shared}
theorem qns {t b:Addr}{vs ws:List Value}{Q:Value->Shared->Prop}(ht:IsTup s.heap t vs.toArray)(hb:IsTup s.heap b ws.toArray)(hv:vs≠[])
  (h1:ws=[]->Q (.ref t) s) (h2:ws≠[]->Q (.ref s.heap.objs.size) {s with heap:=s.heap.push {cls:=.type "tuple",data:=.seq (vs++ws).toArray}})
  (hsz:vs.length+ws.length<=sizeLine):wpAny (model prog w) A (binaryOp .Add (.ref t) (.ref b)) Q E s:=by
 obtain ⟨⟨cls,dd,data,sl⟩,ho,hc,n,hd⟩:=id ht
 obtain ⟨⟨cls2,dd2,data2,sl2⟩,ho2,hc2,n2,hd2⟩:=id hb
 simp only at hc hd hc2 hd2
 subst hc hd hc2 hd2
 have e:vs.toArray++ws.toArray=(vs++ws).toArray:=by simp
 by_cases hw:ws=[]
 ·exact concat_meets ⟨_,ho,rfl⟩ ⟨_,ho2,rfl⟩ noFill_tuple_add seq_tuple_add PySem.F.slot_tuple_add PySem.F.entry_tuple_add (PySem.F.args_tuple_add_2 _ _)
   (tuple_addW1 t b vs.toArray ws.toArray n n2 dd dd2 sl sl2 (by simpa using hv) (by simp [hw])) ⟨ho,ho2,h1 hw⟩
 ·refine concat_meets ⟨_,ho,rfl⟩ ⟨_,ho2,rfl⟩ noFill_tuple_add seq_tuple_add PySem.F.slot_tuple_add PySem.F.entry_tuple_add (PySem.F.args_tuple_add_2 _ _)
   (tuple_addW2 t b vs.toArray ws.toArray n n2 dd dd2 sl sl2 (by simpa using hv) (by simpa using hw) (by rw [sT1,sT1];exact hsz)) ⟨ho,ho2,?_⟩
  rw [e]
  exact h2 hw
noncomputable def sIx (n d:Nat):Option Int->Nat
 | none=>d
 | some v=>if v<0 then (v+(n:Int)).toNat else min v.toNat n
theorem qn8 (n d:Nat)(hd:d<=n)(o:Option Int):sIx n d o<=n:=by
 cases o with
 | none=>exact hd
 | some v=>
  show (if v<0 then (v+(n:Int)).toNat else min v.toNat n)<=n
  by_cases hv:v<0
  ·rw [if_pos hv];lia
  ·rw [if_neg hv];exact Nat.min_le_right _ _
theorem qjJ (v:Int)(n d:Nat):(if v<0 then max (v+(n:Int)) 0 else min v (n:Int))=((sIx n d (some v):Nat):Int):=by
 show (if v<0 then max (v+(n:Int)) 0 else min v (n:Int))=(((if v<0 then (v+(n:Int)).toNat else min v.toNat n):Nat):Int)
 by_cases hv:v<0
 ·simp only [if_pos hv];lia
 ·simp only [if_neg hv];lia
theorem qih (lo hi:Option Int)(n:Nat):Builtin.Slice.sliceAdjust lo hi 1 (n:Int)=(((sIx n 0 lo:Nat):Int),((sIx n n hi:Nat):Int)):=by
 have h1:¬ ((1:Int)<0):=by lia
 unfold Builtin.Slice.sliceAdjust
 simp only [h1,if_false]
 refine Prod.ext ?_ ?_
 ·cases lo with
  | none=>rfl
  | some v=>exact qjJ v n 0
 ·cases hi with
  | none=>rfl
  | some v=>exact qjJ v n n
theorem qhV (i j:Nat):Builtin.Slice.slicePlaces (i:Int) (j:Int) 1=j-i:=by
 unfold Builtin.Slice.slicePlaces
 have h1:(1:Int)>0:=by lia
 simp only [h1,if_true,Int.ediv_one]
 split<;>lia
theorem qeJ {v:Value}{o:Option Int}{Q:Option Int->Shared->Prop}(p:IsPart v o)(h:Q o s):wpAny (model prog w) A (Builtin.Slice.slicePartIndex v) Q E s:=by
 cases p with
 | none=>exact slicePart_none h
 | int i t=>exact slicePart_int h
theorem qcp {sl:Addr}{vl vu:Value}{lo hi:Option Int}{n:Nat}{Q:Int×Int×Nat->Shared->Prop}(hs:s.heap.IsSliceOf sl vl vu .none)(pl:IsPart vl lo)(pu:IsPart vu hi)
  (h:Q (((sIx n 0 lo:Nat):Int),1,sIx n n hi-sIx n 0 lo) s):wpAny (model prog w) A (Builtin.Slice.sliceApplied (.ref sl) (pure (n:Int))) Q E s:=by
 obtain ⟨os,hos,hcs,hds⟩:=id hs
 unfold Builtin.Slice.sliceApplied Builtin.Slice.sliceFields
 refine wB1 (wB1 (wpAny_field hos hds (x:=vl) rfl (wB1 (wpAny_field hos hds (x:=vu) rfl (wB1 (wpAny_field hos hds (x:=.none) rfl (wP1 ?_)))))))
 refine wB1 (slicePart_none ?_)
 show wpAny _ _ (if ((1:Int) == 0)=true then _ else _) _ _ s
 rw [if_neg (by decide)]
 refine wB1 (qeJ pl (wB1 (qeJ pu (wB1 (wP1 ?_)))))
 show wpAny _ _ (match Builtin.Slice.sliceAdjust lo hi 1 (n:Int) with | (lo,hi)=>pure (lo,(1:Int),Builtin.Slice.slicePlaces lo hi 1)) _ _ s
 rw [qih lo hi n]
 show wpAny _ _ (pure (((sIx n 0 lo:Nat):Int),(1:Int),Builtin.Slice.slicePlaces ((sIx n 0 lo:Nat):Int) ((sIx n n hi:Nat):Int) 1)) _ _ s
 rw [qhV]
 exact wP1 h
theorem qkq (xs:Array Value)(i k:Nat):((List.range k).filterMap fun (m:Nat)=>xs[((i:Int)+(m:Int)*1).toNat]?).toArray=((xs.toList.drop i).take k).toArray:=by
 have e:(fun (m:Nat)=>xs[((i:Int)+(m:Int)*1).toNat]?)=fun m=>xs[i+m]?:=by
  funext m
  have:((i:Int)+(m:Int)*1).toNat=i+m:=by lia
  rw [this]
 rw [e]
 have:=pick_run xs i k
 rw [List.filterMap_map] at this
 have e2:((fun x=>xs[x]?)∘fun x=>i+x)=fun m=>xs[i+m]?:=rfl
 rw [e2] at this
 rw [this]
theorem qdJ {t sl:Addr}{items:Array Value}{vl vu:Value}{lo hi:Option Int}{Q:Value->Shared->Prop}(ht:IsTup s.heap t items)(hs:s.heap.IsSliceOf sl vl vu .none)(pl:IsPart vl lo)(pu:IsPart vu hi)
  (hw:¬ (sIx items.size 0 lo=0/\sIx items.size items.size hi=items.size))
  (h:Q (.ref s.heap.objs.size) {s with heap:=s.heap.push {cls:=.type "tuple",data:=.seq ((items.toList.drop (sIx items.size 0 lo)).take (sIx items.size items.size hi-sIx items.size 0 lo)).toArray}})
  (hsz:items.size<=sizeLine):wpAny (model prog w) A (getItem (.ref t) (.ref sl)) Q E s:=by
 have htake:sizeOk (.seq ((items.toList.drop (sIx items.size 0 lo)).take (sIx items.size items.size hi-sIx items.size 0 lo)).toArray):=by
  show ((items.toList.drop (sIx items.size 0 lo)).take (sIx items.size items.size hi-sIx items.size 0 lo)).toArray.size<=sizeLine
  rw [sT1,List.length_take,List.length_drop,Array.length_toList]
  omega
 have hj:sIx items.size items.size hi<=items.size:=qn8 _ _ (nR1 _) hi
 obtain ⟨os,hos,hcs,hds⟩:=id hs
 have hTs:s.TypeIs (.ref sl) "slice":=⟨os,hos,hcs⟩
 unfold getItem
 try with_reducible refine wpAny_holding ?_
 first | refine wB1 (wP1 ?_) | skip
 refine wB1 (wpAny_sequenceKey ht.typeIs (by decide) ?_)
 refine wB1 (wpAny_callSpecial?_slot (name:=Str.ofString "__getitem__") ht.typeIs PyProof.Rows.slot_tuple_getitem
  (wE1 PyProof.Rows.slot_tuple_getitem ht.typeIs entry_tuple_getitem ?_ (args_tuple_getitem _ _)))
 show wpAny _ _ (Builtin.Tuple.tupleItemsOf (.ref t) >>= _) _ _ s
 refine wB1 (tupleItemsOf_ ht ?_)
 refine wB1 (wpAny_typeOf hTs ?_)
 rw [if_pos (by decide)]
 refine wB1 (qcp hs pl pu ?_)
 have hno:¬ ((((sIx items.size 0 lo:Nat):Int) == 0&&(1:Int) == 1&&(sIx items.size items.size hi-sIx items.size 0 lo) == items.size)=true):=by
  intro q
  rw [bA1,bA1] at q
  have q1:((sIx items.size 0 lo:Nat):Int)=0:=eq_of_beq q.1.1
  have q2:sIx items.size items.size hi-sIx items.size 0 lo=items.size:=eq_of_beq q.2
  exact hw ⟨by omega,by omega⟩
 show wpAny _ _ (if (((sIx items.size 0 lo:Nat):Int) == 0&&(1:Int) == 1&&(sIx items.size items.size hi-sIx items.size 0 lo) == items.size)=true then _ else _) _ _ s
 rw [if_neg hno,qkq]
 first
  | exact wB1 (m:=Builtin.Tuple.tupleExact _) (wO1 (wP1 ⟨_,rfl,wP1 h⟩) htake)
  | exact wB1 (m:=Builtin.Tuple.tupleExact _) (wO1 (wB1 (wP1 (wP1 ⟨_,rfl,wP1 h⟩))) htake)
  | exact wB1 (wB1 (m:=Builtin.Tuple.tupleExact _) (wO1 (wP1 (wP1 ⟨_,rfl,wP1 h⟩)) htake))
  | exact wB1 (wB1 (m:=Builtin.Tuple.tupleExact _) (wO1 (wP1 ⟨_,rfl,wP1 h⟩) htake))
end
end HT
namespace L2
open PySem PySem.Spec PyProof.Rows
noncomputable abbrev TO:=St->Hp->(Option Int->Hp->Prop)->Prop
noncomputable def PO (X:Cx)(e:Option Expr)(t:TO):Prop:=
 ∀ (pins:List (Addr×Obj)) (s:Shared) (σ:St) (H:Hp) (Q:Option Int->Hp->Prop),Inv X pins σ H s->t σ H Q ->
  wpAny (model X.prog X.w) X.A (evalPart e X.env) (fun u s'=>∃ o H',Inv X pins σ H' s'/\IsPart u o/\Q o H') X.xe s
noncomputable def ql5:TO:=fun _ H Q=>Q none H
noncomputable def qqb (t:TE):TO:=fun σ H Q=>t σ H fun x H1=>∃ i,x = .int i/\Q (some i) H1
section
variable {X:Cx} {e:Expr} {te:TE} {lo hi:Option Expr} {tl th:TO} {pos p2:Pos}
theorem qmv:PO X none ql5:=by
 intro pins s σ H Q I h
 rw [evalPart_none]
 exact wP1 ⟨none,H,I,.none,h⟩
theorem qmu (h:PE X e te):PO X (some e) (qqb te):=by
 intro pins s σ H Q I hw
 rw [evalPart_some]
 refine thn (h pins s σ H _ I hw) fun u s1 ⟨x,H1,I1,r1,q1⟩=>?_
 obtain ⟨i,rfl,q⟩:=q1
 obtain ⟨t,rfl⟩:=r1
 exact ⟨some i,H1,I1,.int i t,q⟩
noncomputable def SlR (X:Cx)(r:V->Option Int->Option Int->Hp->VK->Prop):Prop:=
 ∀ (pins:List (Addr×Obj)) (s:Shared) (σ:St) (H:Hp) (x:V) (v vl vu:Value) (lo hi:Option Int) (sl:Addr) (Q:VK),Inv X pins σ H s->RelV x v->s.heap.IsSliceOf sl vl vu .none->IsPart vl lo->IsPart vu hi->r x lo hi H Q ->
  ∃ T id,typeLookup (.type T) "__getitem__"=pure (some (.builtin id))/\s.TypeIs v T/\wpAny (model X.prog X.w) X.A (getItem v (.ref sl)) (EP X pins σ Q) X.xe s
theorem SlR.or {r r':V->Option Int->Option Int->Hp->VK->Prop}(h:SlR X r)(h':SlR X r'):SlR X (fun x lo hi H Q=>r x lo hi H Q\/r' x lo hi H Q):=by
 intro pins s σ H x v vl vu lo hi sl Q I rx hs pl pu q
 rcases q with q | q
 ·exact h pins s σ H x v vl vu lo hi sl Q I rx hs pl pu q
 ·exact h' pins s σ H x v vl vu lo hi sl Q I rx hs pl pu q
noncomputable def tSl (r:V->Option Int->Option Int->Hp->VK->Prop)(te:TE)(tl th:TO):TE:=fun σ H Q=>te σ H fun x H1=>tl σ H1 fun l H2=>th σ H2 fun u H3=>r x l u H3 Q
theorem qks {r:V->Option Int->Option Int->Hp->VK->Prop}(hr:SlR X r)(he:PE X e te)(hl:PO X lo tl)(hu:PO X hi th):PE X (.Subscript e (.Slice lo hi none p2) pos) (tSl r te tl th):=by
 intro pins s σ H Q I h
 refine Subscript_ (thn (he pins s σ H _ I h) fun v s1 ⟨x,H1,I1,r1,q1⟩=>?_)
 refine wpAny_Slice (thn (hl pins s1 σ H1 _ I1 q1) fun vl s2 ⟨l,H2,I2,pl,q2⟩=>thn (hu pins s2 σ H2 _ I2 q2) fun vu s3 ⟨u,H3,I3,pu,q3⟩=>?_)
 rw [evalPart_none]
 refine wP1 ?_
 have I4:Inv X pins σ H3 {s3 with heap:=s3.heap.push {cls:=.type "slice",data:=.fields #[vl,vu,.none]}}:=I3.kept (t':=s3.toks) fun b ob q=>hP1 _ q
 obtain ⟨T,id,hT,ht,hg⟩:=hr pins {s3 with heap:=s3.heap.push {cls:=.type "slice",data:=.fields #[vl,vu,.none]}} σ H3 x v vl vu l u s3.heap.objs.size Q I4 r1 (Heap.IsSliceOf.new ..) pl pu q3
 show wpAny (model X.prog X.w) X.A (subscriptTail e (.Slice lo hi none p2) v (.ref s3.heap.objs.size)) (EP X pins σ Q) X.xe {s3 with heap:=s3.heap.push {cls:=.type "slice",data:=.fields #[vl,vu,.none]}}
 exact tail_any (ops:=[.ref s3.heap.objs.size,v]) ht hT hg (by with_unfolding_all rfl)
noncomputable def cutV (xs:List V)(lo hi:Option Int):List V:=(xs.drop (HT.sIx xs.length 0 lo)).take (HT.sIx xs.length xs.length hi-HT.sIx xs.length 0 lo)
theorem qet (xs:List V)(lo hi:Option Int):(cutV xs lo hi).length<=xs.length:=by
 unfold cutV
 rw [List.length_take,List.length_drop]
 lia
noncomputable def rSlT (K:Fg1):V->Option Int->Option Int->Hp->VK->Prop:=fun x lo hi H Q=>∃ a xs,x = .ref a/\SqT K H a xs /\
 ¬ (HT.sIx xs.length 0 lo=0/\HT.sIx xs.length xs.length hi=xs.length) /\ ∀ p,H p=none->Q (.ref p) (upd H p (.tup (cutV xs lo hi)))
theorem qn1:SlR X (rSlT X.K):=by
 intro pins s σ H x v vl vu lo hi sl Q I rx hs pl pu h
 obtain ⟨a,xs,rfl,hx,hw,q⟩:=h
 cases rx
 obtain ⟨its,r,ht,hz⟩:=I.tuple hx
 have hlen:its.toArray.size=xs.length:=by rw [sT1];exact r.length.symm
 refine ⟨"tuple",_,PyProof.Rows.slot_tuple_getitem.lookup,ht.typeIs,?_⟩
 refine HT.qdJ ht hs pl pu (by rw [hlen];exact hw) ?_ (by rw [hlen];exact hz)
 rw [hlen]
 refine ⟨.ref s.heap.objs.size,_,I.laid (t':=s.toks) (o:=.tup (cutV xs lo hi)) (fun b ob q=>hP1 _ q) (nR1 _) ?_,rfl,q _ (I.hok.fresh (nR1 _))⟩
 exact ⟨Nat.le_trans (qet xs lo hi) hz,_,(r.drop (HT.sIx xs.length 0 lo)).take (HT.sIx xs.length xs.length hi-HT.sIx xs.length 0 lo),IsTup.new _ _⟩
noncomputable def qql (K:Fg1):R2:=fun x y H Q=>∃ a b xs ys,x = .ref a/\y = .ref b/\SqT K H a xs/\SqT K H b ys/\xs≠[]/\xs.length+ys.length<=sizeLine /\
 (ys=[]->Q (.ref a) H)/\(ys≠[] -> ∀ p,H p=none->Q (.ref p) (upd H p (.tup (xs++ys))))
theorem Vals.nil_iff {xs:List V}{us:List Value}(r:Vals xs us):us=[]↔xs=[]:=by
 cases r with
 | nil=>simp
 | cons _ _=>simp
theorem qmJ:OpR X (binaryOp .Add) (qql X.K):=by
 intro pins s σ H x y v u Q I rx ry h
 obtain ⟨a,b,xs,ys,rfl,rfl,ha,hb,hx,hz,q1,q2⟩:=h
 cases rx
 cases ry
 obtain ⟨its,r1,p1,_⟩:=I.tuple ha
 obtain ⟨its2,r2,p2,_⟩:=I.tuple hb
 refine HT.qns p1 p2 (fun z=>hx (r1.nil_iff.mp z)) (fun z=>⟨.ref a,H,I,rfl,q1 (r2.nil_iff.mp z)⟩) (fun z=>?_) (by rw [<- r1.length,<- r2.length];exact hz)
 refine ⟨.ref s.heap.objs.size,_,I.laid (t':=s.toks) (o:=.tup (xs++ys)) (fun b ob q=>hP1 _ q) (nR1 _) ?_,rfl,q2 (fun w=>z (r2.nil_iff.mpr w)) _ (I.hok.fresh (nR1 _))⟩
 exact ⟨by rw [lA1];exact hz,_,r1.append r2,IsTup.new _ _⟩
end
end L2
namespace L2
open PySem PySem.Spec PyProof.Rows
noncomputable def ixN (n:Nat)(i:Int):Option Nat:=if 0<=i then (if i<n then some i.toNat else none) else if-(n:Int)<=i then some (i+n).toNat else none
noncomputable def atI {α:Type}(xs:List α)(i:Int):Option α:=(ixN xs.length i).bind fun j=>xs[j]?
theorem qgT {n:Nat}{i:Int}{j:Nat}(h:ixN n i=some j):seqIndex? i n=some j/\j<n /\ -(n:Int)<=i/\i<n:=by
 unfold ixN at h
 by_cases h0:0<=i
 ·rw [if_pos h0] at h
  by_cases h1:i<n
  ·rw [if_pos h1] at h
   have e:i.toNat=j:=Option.some.inj h
   exact ⟨by rw [seqIndex_of h0 h1,e],by lia,by lia,h1⟩
  ·rw [if_neg h1] at h;cases h
 ·rw [if_neg h0] at h
  by_cases h1: -(n:Int)<=i
  ·rw [if_pos h1] at h
   have e:(i+n).toNat=j:=Option.some.inj h
   exact ⟨by rw [seqIndex_neg (by lia) h1,e],by lia,h1,by lia⟩
  ·rw [if_neg h1] at h;cases h
theorem qjU {α:Type}{xs:List α}{i:Int}{v:α}(h:atI xs i=some v):∃ j,seqIndex? i xs.length=some j/\xs[j]? = some v/\j<xs.length /\ -(xs.length:Int)<=i/\i<xs.length:=by
 unfold atI at h
 cases e:ixN xs.length i with
 | none=>rw [e] at h;cases h
 | some j=>
  rw [e] at h
  obtain ⟨h1,h2,h3,h4⟩:=qgT e
  exact ⟨j,h1,h,h2,h3,h4⟩
noncomputable def qg6 (b:Expr):Prop:=∀ o i,subscripted b false o i=operate [o,i] (getItem o i)
noncomputable def IxR (X:Cx)(r:R2):Prop:=
 ∀ (value slice:Expr) (pins:List (Addr×Obj)) (s:Shared) (σ:St) (H:Hp) (x y:V) (v u:Value) (Q:VK),Inv X pins σ H s->RelV x v->RelV y u->r x y H Q ->
  subscripted slice false v u=operate [v,u] (getItem v u)->wpAny (model X.prog X.w) X.A (subscriptTail value slice v u) (EP X pins σ Q) X.xe s
noncomputable def MtR (X:Cx)(id:String)(r:V->List V->Hp->VK->Prop):Prop:=
 ∀ (pins:List (Addr×Obj)) (s:Shared) (σ:St) (H:Hp) (x:V) (xs:List V) (v:Value) (us:List Value) (Q:VK),Inv X pins σ H s->RelV x v->Vals xs us->r x xs H Q ->
  wpAny (model X.prog X.w) X.A (call (.builtin id) (v::us)) (EP X pins σ Q) X.xe s
section
variable {X:Cx} {a b:Expr} {ta tb:TE} {pos:Pos}
theorem qqr {r:R2}(hr:IxR X r)(ha:PE X a ta)(hb:PE X b tb)(hs:qg6 b):PE X (.Subscript a b pos) (tOp r ta tb):=by
 intro pins s σ H Q I h
 exact Subscript_ (binT ha hb I h fun v u s2 x y H2 I2 rx ry q=>hr a b pins s2 σ H2 x y v u Q I2 rx ry q (hs _ _))
noncomputable def rIxL (K:Fg1):R2:=fun x y H Q=>∃ p xs i v,x = .ref p/\y = .int i/\SqL K H p xs/\atI xs i=some v/\Q v H
noncomputable def rIxT (K:Fg1):R2:=fun x y H Q=>∃ p xs i v,x = .ref p/\y = .int i/\SqT K H p xs/\atI xs i=some v/\Q v H
theorem qnd:IxR X (rIxL X.K):=by
 intro value slice pins s σ H x y v u Q I rx ry h hs
 obtain ⟨p,xs,i,z,rfl,rfl,hq,he,q⟩:=h
 cases rx
 obtain ⟨t,rfl⟩:=ry
 obtain ⟨its,r,pl,hz⟩:=I.list hq
 obtain ⟨j,h1,h2,h3,h4,h5⟩:=qjU he
 obtain ⟨w,ew,rw'⟩:=r.get h2
 have hl:=r.length
 have hn:=qeL
 have fin:EP X pins σ Q w s:=⟨z,H,I,rw',q⟩
 by_cases h0:0<=i
 ·have hj:i.toNat=j:=by
   rw [seqIndex_of h0 h5] at h1
   exact Option.some.inj h1
  exact item_listR pl.isList h0 (by lia) (by rw [hj];simpa using ew) fin hs
 ·have hj:(i+(its.toArray.size:Int)).toNat=j:=by
   rw [seqIndex_neg (by lia) h4] at h1
   rw [sT1,<- hl]
   exact Option.some.inj h1
  exact subscriptTail_builtinR (x:=w) pl.isList.typeIs slot_list_getitem.lookup
   (wpAny_getItem_list_neg (Q:=fun r s'=>r=w/\EP X pins σ Q r s') pl.isList (by lia) (by rw [sT1]<;>lia) (by lia) (by rw [hj];simpa using ew) ⟨rfl,fin⟩) hs
theorem qpp:IxR X (rIxT X.K):=by
 intro value slice pins s σ H x y v u Q I rx ry h hs
 obtain ⟨p,xs,i,z,rfl,rfl,hq,he,q⟩:=h
 cases rx
 obtain ⟨t,rfl⟩:=ry
 obtain ⟨its,r,pl,hz⟩:=I.tuple hq
 obtain ⟨j,h1,h2,h3,h4,h5⟩:=qjU he
 obtain ⟨w,ew,rw'⟩:=r.get h2
 have hl:=r.length
 have hn:=qeL
 have fin:EP X pins σ Q w s:=⟨z,H,I,rw',q⟩
 exact subscriptTail_builtinR (x:=w) pl.typeIs slot_tuple_getitem.lookup
  (getItem_tuple (j:=j) (Q:=fun r s'=>r=w/\EP X pins σ Q r s') pl (by lia) (by lia) (by rw [sT1,<- hl];exact h1) (by simpa using ew) ⟨rfl,fin⟩) hs
theorem qh6 (its:List Value)(n j:Nat)(u:Value):Obj.mapSeq (·.setIfInBounds j u) {cls:=.type "list",data:=.seq its.toArray n}={cls:=.type "list",data:=.seq (its.set j u).toArray n}:=by
 simp [Obj.mapSeq]
theorem Inv.lst {pins:List (Addr×Obj)}{σ:St}{H:Hp}{s:Shared}{p:Addr}{xs:List V}(I:Inv X pins σ H s)(h:H p=some (.lst xs)):
  ∃ (its:List Value) (n:Nat),Vals xs its/\s.heap.get? p=some {cls:=.type "list",data:=.seq its.toArray n}/\xs.length<=sizeLine:=by
 obtain ⟨z,its,n,r,e⟩:=I.hok p _ h
 exact ⟨its,n,r,e,z⟩
theorem Inv.lstUpd {pins:List (Addr×Obj)}{σ:St}{H:Hp}{s:Shared}{p:Addr}{xs ys:List V}{its its':List Value}{n n':Nat}{f:Obj->Obj}(I:Inv X pins σ H s)(h:H p=some (.lst xs))
  (ho:s.heap.get? p=some {cls:=.type "list",data:=.seq its.toArray n}) (hf:f {cls:=.type "list",data:=.seq its.toArray n}={cls:=.type "list",data:=.seq its'.toArray n'}) (r:Vals ys its') (hz:ys.length<=sizeLine) (t:Nat):
  Inv X pins σ (upd H p (.lst ys)) {s with heap:=s.heap.update p f,toks:=t}:=by
 have e:(s.heap.update p f).get? p=some {cls:=.type "list",data:=.seq its'.toArray n'}:=by
  rw [hW1 f ho (by rw [hf]<;>rfl),hf]
 refine I.write (x:=p) (e:=p) (by rw [h];trivial) (.inl rfl) (fun b u hb q=>(Heap.get?_update_other _ _ (Ne.symm hb)).trans q) ⟨_,e⟩ ?_
 exact ⟨hz,its',n',r,e⟩
noncomputable def qqk:V->V->V->Hp->(Hp->Prop)->Prop:=fun o i v H Q=>∃ p xs k j,o = .ref p/\i = .int k/\H p=some (.lst xs)/\ixN xs.length k=some j/\Q (upd H p (.lst (xs.set j v)))
theorem qkf:PSet X qqk:=by
 intro pins s σ H o i v ov iv u Q I ro ri rv h
 obtain ⟨p,xs,k,j,rfl,rfl,hp,hj,q⟩:=h
 cases ro
 obtain ⟨t,rfl⟩:=ri
 obtain ⟨its,n,r,ho,hz⟩:=I.lst hp
 obtain ⟨h1,h2,h3,h4⟩:=qgT hj
 have hl:=r.length
 have hn:=qeL
 have I':Inv X pins σ (upd H p (.lst (xs.set j v))) {s with heap:=s.heap.update p (Obj.mapSeq (·.setIfInBounds j u))}:=
  I.lstUpd hp ho (qh6 its n j u) (r.set rv j) (by rw [List.length_set];exact hz) s.toks
 by_cases h0:0<=k
 ·have hk:k.toNat=j:=by
   rw [seqIndex_of h0 h4] at h1
   exact Option.some.inj h1
  exact PySem.W.ki_setAt ho h0 (by lia) (by rw [sT1,<- hl];exact h4) (by rw [hk];exact ⟨_,I',q⟩)
 ·have hk:(k+(its.toArray.size:Int)).toNat=j:=by
   rw [seqIndex_neg (by lia) h3] at h1
   rw [sT1,<- hl]
   exact Option.some.inj h1
  exact PySem.W.ki_setBack ho (by lia) (by rw [sT1,<- hl];exact h3) (by lia) (by rw [hk];exact ⟨_,I',q⟩)
theorem qfE (lo hi:Option Int)(n:Nat):(sliceBounds lo hi none n).1=((HT.sIx n 0 lo:Nat):Int)/\(sliceBounds lo hi none n).2.1=((HT.sIx n n hi:Nat):Int)/\(sliceBounds lo hi none n).2.2=1:=by
 refine ⟨?_,?_,rfl⟩
 ·cases lo with
  | none=>simp [sliceBounds,HT.sIx]
  | some i=>
   simp only [sliceBounds,HT.sIx,Option.getD_none,show (1:Int)>0 by decide,if_true]
   by_cases h:i<0
   ·simp only [h,if_true]<;>lia
   ·simp only [h,if_false]<;>lia
 ·cases hi with
  | none=>simp [sliceBounds,HT.sIx]
  | some i=>
   simp only [sliceBounds,HT.sIx,Option.getD_none,show (1:Int)>0 by decide,if_true]
   by_cases h:i<0
   ·simp only [h,if_true]<;>lia
   ·simp only [h,if_false]<;>lia
theorem qe1 (its:List Value)(lo hi:Option Int):slicePick its.toArray lo hi none=((its.drop (HT.sIx its.length 0 lo)).take (HT.sIx its.length its.length hi-HT.sIx its.length 0 lo)).toArray:=by
 obtain ⟨h1,h2,h3⟩:=qfE lo hi its.toArray.size
 unfold slicePick
 rw [h1,h2,h3]
 simp only [sliceRange_one,pick_run,sT1]<;>rfl
noncomputable def rSlL (K:Fg1):V->Option Int->Option Int->Hp->VK->Prop:=fun x lo hi H Q=>∃ a xs,x = .ref a/\SqL K H a xs /\ ∀ p,H p=none->Q (.ref p) (upd H p (.lst (cutV xs lo hi)))
theorem qmg:SlR X (rSlL X.K):=by
 intro pins s σ H x v vl vu lo hi sl Q I rx hs pl pu h
 obtain ⟨a,xs,rfl,hx,q⟩:=h
 cases rx
 obtain ⟨its,r,ht,hz⟩:=I.list hx
 have hlen:=r.length
 refine ⟨"list",_,slot_list_getitem.lookup,ht.isList.typeIs,?_⟩
 refine wpAny_getItem_list_slice ht.isList hs pl pu .none (by simp) ?_ (by rw [sT1]<;>lia)
 rw [qe1,<- hlen]
 refine ⟨.ref s.heap.objs.size,_,I.laid (t':=s.toks) (o:=.lst (cutV xs lo hi)) (fun b ob q=>hP1 _ q) (nR1 _) ?_,rfl,q _ (I.hok.fresh (nR1 _))⟩
 exact ⟨Nat.le_trans (qet xs lo hi) hz,_,0,(r.drop (HT.sIx xs.length 0 lo)).take (HT.sIx xs.length xs.length hi-HT.sIx xs.length 0 lo),hS1 _ rfl⟩
noncomputable def qeE:V->Bool
 | .non=>true
 | .bl _=>true
 | .int _=>true
 | .str _=>true
 | _=>false
noncomputable def eqV:V->V->Bool
 | .non,.non=>true
 | .bl a,.bl b=>a == b
 | .bl a,.int b=>(if a then 1 else 0) == b
 | .int a,.bl b=>a == (if b then 1 else 0)
 | .int a,.int b=>a == b
 | .str a,.str b=>a == b
 | _,_=>false
theorem qer {A:Around}{s:Shared}{y x:V}{u v:Value}(ry:RelV y u)(rx:RelV x v)(fy:qeE y=true)(fx:qeE x=true):SeqAt.EqAt A s u v (eqV y x):=by
 cases y with
 | non=>
  cases ry
  cases x with
  | non=>cases rx;exact SeqAt.EqAt.same _
  | bl b=>cases rx;exact SeqAt.EqAt.none_bool b
  | int b=>obtain ⟨t,rfl⟩:=rx;exact SeqAt.EqAt.none_int b t
  | str b=>obtain ⟨t,rfl⟩:=rx;exact SeqAt.EqAt.none_str b t
  | _=>exact absurd (show false=true from fx) Bool.false_ne_true
 | bl a=>
  cases ry
  cases x with
  | non=>cases rx;exact SeqAt.EqAt.bool_none a
  | bl b=>cases rx;exact SeqAt.EqAt.bool_bool a b
  | int b=>obtain ⟨t,rfl⟩:=rx;exact SeqAt.EqAt.bool_int a b t
  | str b=>obtain ⟨t,rfl⟩:=rx;exact SeqAt.EqAt.bool_str a b t
  | _=>exact absurd (show false=true from fx) Bool.false_ne_true
 | int a=>
  obtain ⟨t',rfl⟩:=ry
  cases x with
  | non=>cases rx;exact SeqAt.EqAt.int_none a t'
  | bl b=>cases rx;exact SeqAt.EqAt.int_bool a t' b
  | int b=>obtain ⟨t,rfl⟩:=rx;exact SeqAt.EqAt.int_int a t' b t
  | str b=>obtain ⟨t,rfl⟩:=rx;exact SeqAt.EqAt.int_str a t' b t
  | _=>exact absurd (show false=true from fx) Bool.false_ne_true
 | str a=>
  obtain ⟨t',rfl⟩:=ry
  cases x with
  | non=>cases rx;exact SeqAt.EqAt.str_none a t'
  | bl b=>cases rx;exact SeqAt.EqAt.str_bool a t' b
  | int b=>obtain ⟨t,rfl⟩:=rx;exact SeqAt.EqAt.str_int a t' b t
  | str b=>obtain ⟨t,rfl⟩:=rx;exact SeqAt.EqAt.str_str a t' b t
  | _=>exact absurd (show false=true from fx) Bool.false_ne_true
 | _=>exact absurd (show false=true from fy) Bool.false_ne_true
theorem qgh:qbE X (.builtin "len") (fun xs H Q=>∃ p ys,xs=[.ref p]/\(SqL X.K H p ys\/SqT X.K H p ys)/\Q (.int ys.length) H):=by
 intro pins s σ H xs us Q I r h
 obtain ⟨p,ys,rfl,hq,q⟩:=h
 obtain ⟨u,rfl,rx⟩:=qez r
 cases rx
 have hn:=qeL
 rcases hq with hq | hq
 ·obtain ⟨its,r',pl,hz⟩:=I.list hq
  have hlen:=r'.length
  exact Calls.call_len_list pl.isList (by simp only [sT1]<;>lia) ⟨.int ys.length,H,I.tok _,⟨s.toks+1,by rw [sT1,hlen]⟩,q⟩
 ·obtain ⟨its,r',pl,hz⟩:=I.tuple hq
  have hlen:=r'.length
  exact len_tuple pl (by simp only [sT1]<;>lia) ⟨.int ys.length,H,I.tok _,⟨s.toks+1,by rw [sT1,hlen]⟩,q⟩
theorem qgg:qbE X (.builtin "len") (fun xs H Q=>∃ z,xs=[.str z]/\z.length<=sizeLine/\Q (.int z.length) H):=by
 intro pins s σ H xs us Q I r h
 obtain ⟨z,rfl,hz,q⟩:=h
 obtain ⟨u,rfl,t,rfl⟩:=qez r
 have hn:=qeL
 exact len_str (by lia) ⟨.int z.length,H,I.tok _,⟨_,rfl⟩,q⟩
theorem qgf:qbE X (.type "list") (fun xs H Q=>∃ p ys,xs=[.ref p]/\(SqL X.K H p ys\/SqT X.K H p ys) /\ ∀ l,H l=none->Q (.ref l) (upd H l (.lst ys))):=by
 intro pins s σ H xs us Q I r h
 obtain ⟨p,ys,rfl,hq,q⟩:=h
 obtain ⟨u,rfl,rx⟩:=qez r
 cases rx
 have fin:∀ (its:List Value),Vals ys its->ys.length<=sizeLine -> ∀ (h':Heap) (c':Nat),(∀ b o',s.heap.get? b=some o'->h'.get? b=some o') ->
   h'.get? s.heap.objs.size=some {cls:=.type "list",dict:=none,data:=.seq its.toArray c',slots:= #[]}->EP X pins σ Q (.ref s.heap.objs.size) {s with heap:=h'}:=fun its r' hz h' c' kp e=>
  ⟨.ref s.heap.objs.size,_,I.laid (t':=s.toks) kp (nR1 _) (show qbL X.prog X.w _ h' _ (.lst ys) from ⟨hz,its,c',r',e⟩),rfl,q _ (I.hok.fresh (nR1 _))⟩
 rcases hq with hq | hq
 ·obtain ⟨its,r',pl,hz⟩:=I.list hq
  have hlen:=r'.length
  obtain ⟨o,ho,hc,n,hd⟩:=pl.isList
  exact call_list_seq p (.inl rfl) ho hc hd (fun h' c' kp e=>fin its r' hz h' c' kp e) (by simp only [sT1]<;>lia)
 ·obtain ⟨its,r',pl,hz⟩:=I.tuple hq
  have hlen:=r'.length
  obtain ⟨o,ho,hc,n,hd⟩:=pl
  exact call_list_seq p (.inr rfl) ho hc hd (fun h' c' kp e=>fin its r' hz h' c' kp e) (by simp only [sT1]<;>lia)
theorem qfy:qbE X (.type "tuple") (fun xs H Q=>∃ p ys,xs=[.ref p]/\((SqL X.K H p ys /\ ∀ l,H l=none->Q (.ref l) (upd H l (.tup ys)))\/(SqT X.K H p ys/\Q (.ref p) H))):=by
 intro pins s σ H xs us Q I r h
 obtain ⟨p,ys,rfl,h⟩:=h
 obtain ⟨u,rfl,rx⟩:=qez r
 cases rx
 rcases h with ⟨hq,q⟩ | ⟨hq,q⟩
 ·obtain ⟨its,r',pl,hz⟩:=I.list hq
  have hlen:=r'.length
  refine call_tuple_list pl.isList (fun h' kp=>?_) (by simp only [sT1]<;>lia)
  have I1:Inv X pins σ H {s with heap:=h'}:=I.kept (t':=s.toks) kp
  have I2:Inv X pins σ (upd H h'.objs.size (.tup ys)) {s with heap:=h'.push {cls:=.type "tuple",data:=.seq its.toArray}}:=
   I1.laid (t':=s.toks) (fun b o e=>hP1 _ e) (nR1 _) (show qbL X.prog X.w _ _ _ (.tup ys) from ⟨hz,its,r',IsTup.new _ _⟩)
  exact ⟨.ref h'.objs.size,_,I2,rfl,q _ (I1.hok.fresh (nR1 _))⟩
 ·obtain ⟨its,r',pl,hz⟩:=I.tuple hq
  exact call_tuple_same pl ⟨.ref p,H,I,rfl,q⟩
noncomputable def tyV (K:Fg1)(T:String)(x:V)(H:Hp):Prop:=match x with
 | .str _=>T="str"
 | .int _=>T="int"
 | .ref p=>(T="list" /\ ∃ xs,SqL K H p xs)\/(T="tuple" /\ ∃ o,K.lookup p=some o/\o.cls = .type "tuple"/\o.dict=none) \/
   (T="dict"/\((∃ kvs,H p=some (.dK kvs)) \/ ∃ kvs,H p=some (.dT kvs)))\/(T="set" /\ ∃ S n,H p=some (.set S n))
 | _=>False
theorem qnG {pins:List (Addr×Obj)}{σ:St}{H:Hp}{s:Shared}{T:String}{x:V}{v:Value}(I:Inv X pins σ H s)(r:RelV x v)(ty:tyV X.K T x H):
  s.TypeIs v T /\ ∀ a,v = .ref a -> ∃ ob,s.heap.get? a=some ob/\ob.dict=none:=by
 cases x with
 | str z=>
  obtain ⟨t,rfl⟩:=r
  cases (show T="str" from ty)
  exact ⟨typeIs_str s z t,fun _ e=>nomatch e⟩
 | int i=>
  obtain ⟨t,rfl⟩:=r
  cases (show T="int" from ty)
  exact ⟨typeIs_int s i t,fun _ e=>nomatch e⟩
 | ref p=>
  cases r
  rcases ty with ⟨rfl,xs,hq⟩ | ⟨rfl,o,hk,hc,hd⟩ | ⟨rfl,hk⟩ | ⟨rfl,S,n,hk⟩
  ·obtain ⟨its,_,pl,_⟩:=I.list hq
   refine ⟨pl.isList.typeIs,fun a e=>?_⟩
   cases e
   obtain ⟨o,n,e,c,hd,_⟩:=pl
   exact ⟨o,e,hd⟩
  ·refine ⟨⟨o,I.kIn p o hk,hc⟩,fun a e=>?_⟩
   cases e
   exact ⟨o,I.kIn _ o hk,hd⟩
  ·have z:∃ o,s.heap.get? p=some o/\o.ExactDict:=by
    rcases hk with ⟨kvs,hk⟩ | ⟨kvs,hk⟩
    ·obtain ⟨_,_,_,_,o,_,_,e,ex,_⟩:=I.hok p _ hk
     exact ⟨o,e,ex⟩
    ·obtain ⟨_,_,_,_,o,_,_,e,ex,_⟩:=I.hok p _ hk
     exact ⟨o,e,ex⟩
   obtain ⟨o,e,ex⟩:=z
   refine ⟨⟨o,e,ex.1⟩,fun a e2=>?_⟩
   cases e2
   exact ⟨o,e,ex.2.1⟩
  ·obtain ⟨o,_,_,_,e,ex,_⟩:=I.hok p _ hk
   refine ⟨⟨o,e,ex.1⟩,fun a e2=>?_⟩
   cases e2
   exact ⟨o,e,ex.2.1⟩
 | _=>exact False.elim ty
noncomputable def tBM (K:Fg1)(T:String)(r:V->List V->Hp->VK->Prop)(to:TE)(t:TA):TE:=fun σ H Q=>to σ H fun x H1=>tyV K T x H1/\t σ H1 fun xs H2=>r x xs H2 Q
variable {o e:Expr} {es:List Expr} {to:TE} {t:TA} {name:Str} {apos cpos:Pos} {T id:String} {r:V->List V->Hp->VK->Prop}
theorem qqs (pa:PlainAttrs T)(slot:Slot T name id)(hty:typeOf (.builtin id)=pure (.type "method_descriptor"))(hm:MtR X id r)(ho:PE X o to)(ha:PA X (e::es) t)
  (hbase:attributeBase o name X.env (eval o X.env)=eval o X.env:=by rfl)
  (hfew:((backTo cpos (starEach (e::es) X.env)).all (fun x=> !x.1)&&(backToKw cpos (keywordEach [] X.env)).all (fun x=>x.1.isSome)
   && decide ((e::es).length+([]:List Keyword).length+(if ([]:List Keyword).isEmpty then 0 else 1)<30))=true:=by rfl)
  (hline:(apos.endLine == cpos.line)=true:=by rfl) (hs:starEach (e::es) X.env=(false,eval e X.env)::starEach es X.env:=by rfl) (hplain:(backTo cpos (starEach es X.env)).any (·.1)=false:=by rfl):
  PE X (.Call (.Attribute o name apos) (e::es) [] cpos) (tBM X.K T r to t):=by
 intro pins s σ H Q I h
 refine wpAny_Call_method_late hbase hfew hline rfl (thn (ho pins s σ H _ I h) fun v s1 ⟨x,H1,I1,r1,ty,q1⟩=>?_)
 obtain ⟨h1,h2⟩:=qnG I1 r1 ty
 refine ⟨T,id,pa,slot,hty,h1,h2,?_⟩
 have hA:=ha cpos pins s1 σ H1 _ I1 q1
 rw [hs] at hA ⊢
 refine Calls.callWith_builtin (by show (false||(backTo cpos (starEach es X.env)).any (·.1))=false;rw [hplain]<;>rfl) (Calls.evalArgs_plain ?_)
 exact thn hA fun us s2 ⟨vs,H2,I2,r2,q2⟩=>hm pins s2 σ H2 x vs v us Q I2 r1 r2 q2
end
end L2
namespace L2
open PySem PySem.Spec PyProof.Rows
noncomputable def MtM (X:Cx)(id:String)(r:V->List V->Hp->VK->Prop):Prop:=
 ∀ (pins:List (Addr×Obj)) (s:Shared) (σ:St) (H:Hp) (x:V) (xs:List V) (v:Value) (us:List Value) (Q:VK),Inv X pins σ H s->RelV x v->Vals xs us->r x xs H Q ->
  wpAny (model X.prog X.w) X.A (call (.builtin id) (v::us)) (EP X pins σ Q) X.xe s
theorem Vals.one:∀ {x:V} {us:List Value},Vals [x] us -> ∃ u,us=[u]/\RelV x u:=by
 intro x us h
 cases h with
 | cons r t=>cases t;exact ⟨_,rfl,r⟩
theorem Vals.eraseIdx:∀ {xs:List V} {us:List Value} (i:Nat),Vals xs us->Vals (xs.eraseIdx i) (us.eraseIdx i)
 | _,_,_,.nil=>.nil
 | _,_,0,.cons _ t=>t
 | _,_,i+1,.cons r t=>.cons r (Vals.eraseIdx i t)
theorem qfY {α:Type}:∀ (l:List α) (i:Nat),(l.eraseIdx i).length<=l.length
 | [],_=>nR1 _
 | _::_,0=>Nat.le_succ _
 | _::r,i+1=>Nat.succ_le_succ (qfY r i)
section
variable {X:Cx} {pins:List (Addr×Obj)} {σ:St} {H:Hp} {s:Shared} {l b:Addr} {xs ys zs:List V}
theorem Inv.lset {its its':List Value}{n:Nat}{f:Array Value->Array Value}{t':Nat}(I:Inv X pins σ H s)(hH:H l=some (.lst xs))
  (e:s.heap.get? l=some {cls:=.type "list",data:=.seq its.toArray n}) (hf:f its.toArray=its'.toArray) (hv:Vals ys its') (hz:ys.length<=sizeLine):
  Inv X pins σ (upd H l (.lst ys)) {s with heap:=s.heap.update l (Obj.mapSeq f),toks:=t'}:=by
 have q:=PySem.IsL.update e f
 rw [hf] at q
 refine I.write (x:=l) (e:=l) (by rw [hH];exact trivial) (.inl rfl) (fun b' u hb hu=>(Heap.get?_update_other s.heap (Obj.mapSeq f) (Ne.symm hb)).trans hu) ⟨_,q⟩ ?_
 exact ⟨hz,its',_,hv,q⟩
theorem Inv.lnew {its:List Value}{t':Nat}(I:Inv X pins σ H s)(hv:Vals ys its)(hz:ys.length<=sizeLine):
  Inv X pins σ (upd H s.heap.objs.size (.lst ys)) {s with heap:=s.heap.push {cls:=.type "list",data:=.seq its.toArray},toks:=t'}:=
 I.laid (fun _ _ q=>hP1 _ q) (nR1 _) ⟨hz,its,0,hv,hS1 _ rfl⟩
theorem Inv.fresh (I:Inv X pins σ H s):H s.heap.objs.size=none:=I.hok.fresh (nR1 _)
theorem Inv.lstM (I:Inv X pins σ H s)(hH:H l=some (.lst xs)):xs.length<=sizeLine /\ ∃ (its:List Value) (n:Nat),Vals xs its/\xs.length=its.length/\s.heap.get? l=some {cls:=.type "list",data:=.seq its.toArray n}:=by
 obtain ⟨z,its,n,r,e⟩:=I.hok l _ hH
 exact ⟨z,its,n,r,r.length,e⟩
end
section
variable {X:Cx}
noncomputable def qmk:V->List V->Hp->VK->Prop:=fun x vs H Q=>∃ l xs y,x = .ref l/\vs=[y]/\H l=some (.lst xs)/\xs.length<sizeLine/\Q .non (upd H l (.lst (xs++[y])))
theorem qfW:MtM X "list.append" qmk:=by
 intro pins s σ H x vs v us Q I rx rv h
 obtain ⟨l,xs,y,rfl,rfl,hH,hz,q⟩:=h
 cases rx
 obtain ⟨u,rfl,ru⟩:=rv.one
 obtain ⟨z,its,n,r,hl,e⟩:=I.lstM hH
 refine call_meets F.slot_list_append ⟨_,e,rfl⟩ F.entry_list_append (F.args_list_append_2 _ _) (PySem.list_append l its.toArray n u (by rw [sT1];lia)) ⟨e,?_⟩
 refine ⟨.non,_,I.lset (its':=its++[u]) hH e (by simp) (r.append (.cons ru .nil)) ?_,rfl,q⟩
 rw [lA1,List.length_singleton]
 lia
noncomputable def qod:V->List V->Hp->VK->Prop:=fun x vs H Q=>∃ l xs i k y,x = .ref l/\vs=[.int i]/\H l=some (.lst xs) /\ -(2^63)<=i/\i<2^63/\seqIndex? i xs.length=some k/\xs[k]? = some y/\Q y (upd H l (.lst (xs.eraseIdx k)))
theorem qkK:MtM X "list.pop" qod:=by
 intro pins s σ H x vs v us Q I rx rv h
 obtain ⟨l,xs,i,k,y,rfl,rfl,hH,h1,h2,hk,hy,q⟩:=h
 cases rx
 obtain ⟨u,rfl,ru⟩:=rv.one
 obtain ⟨t,rfl⟩:=ru
 obtain ⟨z,its,n,r,hl,e⟩:=I.lstM hH
 obtain ⟨w,hw,rw'⟩:=r.get hy
 refine call_meets F.slot_list_pop ⟨_,e,rfl⟩ F.entry_list_pop (F.args_list_pop_2 _ _)
  (MeetsSeq.list_pop_at l its.toArray n i t k w (fitsIndex_both h1 h2) (by rw [sT1,<- hl];exact hk) (by rw [<- aT1];exact hw) (by rw [sT1];lia)) ⟨e,?_⟩
 refine ⟨y,_,I.lset (its':=its.eraseIdx k) hH e ?_ (r.eraseIdx k) ?_,rw',q⟩
 ·show its.toArray.eraseIdxIfInBounds k=(its.eraseIdx k).toArray
  rw [List.eraseIdxIfInBounds_toArray]
 ·have:=qfY xs k
  lia
noncomputable def rCat:R2:=fun x y H Q=>∃ l b xs zs,x = .ref l/\y = .ref b/\H l=some (.lst xs)/\H b=some (.lst zs)/\xs.length+zs.length<=sizeLine /\ ∀ p,H p=none->Q (.ref p) (upd H p (.lst (xs++zs)))
theorem qoF:OpR X (binaryOp .Add) rCat:=by
 intro pins s σ H x y v u Q I rx ry h
 obtain ⟨l,b,xs,zs,rfl,rfl,hH,hB,hz,q⟩:=h
 cases rx
 cases ry
 obtain ⟨z,its,n,r,hl,e⟩:=I.lstM hH
 obtain ⟨z2,its2,n2,r2,hl2,e2⟩:=I.lstM hB
 refine PySem.P.add_list e e2 ?_ (by rw [sT1,sT1];lia)
 have ea:its.toArray++its2.toArray=(its++its2).toArray:=by simp
 rw [ea]
 exact ⟨.ref _,_,I.lnew (t':=s.toks) (r.append r2) (by rw [lA1];lia),rfl,q _ I.fresh⟩
end
section
variable {prog:Program} {w:World} {A:Around} {E:Value->Shared->Prop} {s:Shared}
end
section
variable {X:Cx}
end
end L2
namespace Att
open PySem PySem.W PySem.Calls PyProof.Rows
theorem qen {P:Params}{h:Heap}:∀ (ns:List Int) (vs:List Value),WellAll P h vs (ns.map WData.int)->IntsAre vs ns:=by
 intro ns
 induction ns with
 | nil=>
  intro vs w
  rw [List.map_nil] at w
  cases w
  exact .nil
 | cons n ns ih=>
  intro vs w
  rw [mP1] at w
  cases w with
  | cons a b=>
   cases a
   exact .cons _ _ (ih _ b)
theorem qiy {l:OpenLaw}{n:Nat}(hn:l.most=some n){P:Params}{h:Heap}{args:List WData}{vals:List Value}
  (hpre:l.row.toRowW.claim.pre args=true) (hwl:WellAll P h vals args):
  ∃ a vs ns,vals=[Value.ref a]/\args=[WData.list (ns.map WData.int)]/\h.get? a=some {cls:=.type "list",data:=.seq vs.toArray}/\IntsAre vs ns/\ns.length<=n:=by
 have hsh:WShape.hasAll [] args [.list .int]=true:=(pre_splitW hpre).1
 have hc:l.pre.holds [] {args:=args}=true:=(pre_splitW hpre).2
 obtain ⟨d,r,rfl,h1,h2⟩:=hasAllW_cons hsh
 obtain rfl:=hasAllW_nil h2
 obtain ⟨xs,rfl,h3⟩:=hasW_list h1
 obtain ⟨ns,rfl⟩:=items_int h3
 have hlen:ns.length<=n:=by
  unfold OpenLaw.pre at hc
  have h4:(WTm.not (.lt (.lit (.int (n:Int))) (.len (.arg 0)))).holds [] {args:=[.list (ns.map .int)]}=true:=by
   have h4:=(holds_andW hc).1
   rw [hn] at h4
   exact h4
  have h5:=condW_of h4 (w_not (w_lt w_lit (w_len_list (w_arg rfl))))
  rw [lM1] at h5
  refine Nat.le_of_not_lt fun q=>?_
  have q':(n:Int)<((ns.length:Nat):Int):=by omega
  first
   | (rw [decide_eq_true q'] at h5;exact absurd h5 (by decide))
   | (simp at h5;omega)
 cases hwl with
 | cons w1 w2=>
  cases w2
  cases w1 with
  | list ho hall=>exact ⟨_,_,ns,rfl,rfl,ho,qen ns _ hall,hlen⟩
theorem qiG (l:OpenLaw)(args:List WData):l.row.toRowW.claim.post args (.bool true) args=true:=
 postW_of (r:=l.row.toRowW) (X:=(true == true))
  (show WShape.has [] (.bool true) .bool=true by first | rfl | decide | simp [WShape.has,WShape.arms,WShape.armsAll])
  (show (WTm.eq .res (.lit (.bool true))).value [] {args:=args,res:=some (.bool true),after:=args}=some (.bool (true == true)) from w_eq_bool (w_res rfl) w_lit) rfl
theorem attach_call {l:OpenLaw}{n:Nat}{q:Program}{loose:List Str}{XP:(Str->Option Value)->Heap->Prop}{YP:World->Heap->Prop}{d:DefRec}
  (hn:l.most=some n) (hdf:d.params.defaults=[])
  (call:∀ (w:World) (s₀ s₁:Shared) (mg mb:Str->Option Value) (fa:Addr) (o:Obj) (pm cd doc:Value) (a:Addr) (vs:List Value) (ns:List Int),
   Ground q loose [] XP w s₀ mg mb s₁.heap->YP w s₁.heap ->
   s₁.heap.get? fa=some o->o.data = .func (docDef d.name d.params d.body d.scope pm cd doc)->s₁.heap.CodeRec cd d.name->mg d.name=some (.ref fa) ->
   s₁.heap.get? a=some {cls:=.type "list",data:=.seq vs.toArray}->IntsAre vs ns->ns.length<=n->s₁.gens = #[] ->
   codeAny (model l.prog w) callerA (.call (.ref fa) ⟨[.ref a],[]⟩) (fun r s'=>r = .ok (.ret (.bool true))/\OldK s₁.heap s'.heap/\s'.os=s₁.os/\AllBare s'.gens) s₁):
  WalkO q loose XP YP l.row.toRowW d [] (fun f vs=>PySem.call f vs):=by
 intro w s₀ s₁ mg mb G Y fa o pm cd doc dV kV ho hd hcd hD hmg hg args vals as hpre hlay hrd hwl hlo
 obtain rfl:dV = .none:=Dflts.none hD hdf
 obtain rfl:kV = .none:=Dflts.noKw hD
 obtain ⟨a,vs,ns,rfl,rfl,hobj,hints,hlen⟩:=qiy hn hpre hwl
 refine enter_call (codeAny_mono (call w s₀ s₁ mg mb fa o pm cd doc a vs ns G Y ho (fd_plain hd) hcd hmg hobj hints hlen hg) fun r s' hq=>?_)
 obtain ⟨rfl,h2,h3,h4⟩:=hq
 exact ⟨.inl ⟨.bool true,.bool true,[],rfl,fun _=>rfl,.bool true,qiG l _,fun _=>⟨List.Pairwise.nil,fun _ hm=>(nomatch hm)⟩⟩,h2,h3,h4⟩
section
variable {prog:Program} {w:World} {A:Around} {E:Value->Shared->Prop} {s:Shared} {K:Frag}
end
end Att
namespace L2
open PySem PySem.Spec PyProof.Rows
theorem qin:∀ {vs:List Value} {ns:List Int},IntsAre vs ns->Vals (ns.map V.int) vs:=by
 intro vs ns h
 induction h with
 | nil=>exact .nil
 | cons n t h ih=>exact .cons ⟨t,rfl⟩ ih
noncomputable def Only (H:Hp):Prop:=∀ b,H b=none \/ ∃ o xs,H b=some (.frz o (.lst xs))
theorem qk1 {P:Program}{w:World}{K:Fg1}{mg mb:Str->Option Value}{CX:CXT}{k:Nat}{fa a:Addr}{fd:FuncData}{x:Str}{sp:Sp}{s₁:Shared}{vs:List Value}{ns:List Int}
  (KX:K.In s₁.heap) (hns:s₁.heap.Ns mainGlobals mg) (hb:s₁.heap.Ns builtinsNs mb) (hbb:∀ x:Str,x≠"__name__"->mb x=bootBuiltins x) (hlim:s₁.heap.NoLimit) (hg:s₁.gens = #[])
  (ha:s₁.heap.get? a=some {cls:=.type "list",data:=.seq vs.toArray}) (hi:IntsAre vs ns) (hl:ns.length<=sizeLine) (hr:Room k callerA)
  (F:∀ base:Heap,K.In base->base.Ns mainGlobals mg->FnOk P w K mg base CX k fa fd [x] sp) (hbind:∀ (s:Shared) (u:Value),BindsTo s fd ⟨[u],[]⟩ [(x,u)])
  (hsp:∀ H:Hp,Only H->SqL K H a (ns.map V.int)->sp [.ref a] H (fun v _=>v = .bl true) fun _ _ _=>False)
  (hCX:∀ H e s',CX [] H s₁ (fun _ _ _=>False) e s'->False):
  codeAny (model P w) callerA (.call (.ref fa) ⟨[.ref a],[]⟩) (fun r s'=>r = .ok (.ret (.bool true))/\OldK s₁.heap s'.heap/\s'.os=s₁.os/\AllBare s'.gens) s₁:=by
 have rv:=qin hi
 have lenV:=hi.length
 -- from an abstract heap in which nothing but the script may be tracked
 have core:∀ H:Hp,Only H->SqL K H a (ns.map V.int)->HOk P w H s₁.heap->(∀ b,H b≠none->b=a)->(H a≠none->K.lookup a=none) ->
   codeAny (model P w) callerA (.call (.ref fa) ⟨[.ref a],[]⟩) (fun r s'=>r = .ok (.ret (.bool true))/\OldK s₁.heap s'.heap/\s'.os=s₁.os/\AllBare s'.gens) s₁:=by
  intro H hO hS hok hA hK
  have base_of:∀ {b:Addr} {o:Obj},s₁.heap.get? b=some o->H b=none->(hidT s₁.heap H).get? b=some o:=fun e n=>qk5 e n
  have noA:∀ {b:Addr} {o:Obj} {es:Array DictEntry} {ep:Nat},s₁.heap.get? b=some o->o.data = .dict es ep->H b=none:=fun {b o es ep} e d=>by
   cases q:H b with
   | none=>rfl
   | some u=>
    have e':b=a:=hA b (by rw [q];simp)
    subst e'
    rw [ha] at e;cases e
    have d':Data.seq vs.toArray _=Data.dict es ep:=d
    cases d'
  have nsK:∀ {b:Addr} {m:Str->Option Value},s₁.heap.Ns b m->(hidT s₁.heap H).Ns b m:=fun {b m} ⟨o,es,ep,e,d,r⟩=>⟨o,es,ep,base_of e (noA e d),d,r⟩
  have hKb:K.In (hidT s₁.heap H):=fun b o e=>base_of (KX b o e) (by
   cases q:H b with
   | none=>rfl
   | some u=>
    have e':b=a:=hA b (by rw [q];simp)
    subst e'
    rw [hK (by rw [q];simp)] at e;cases e)
  have hM:Mod K mg (hidT s₁.heap H):=⟨hKb,nsK hns,⟨mb,nsK hb,hbb⟩,let ⟨mc,h1,h2⟩:=hlim;⟨mc,nsK h1,h2⟩⟩
  have e0:Env0 P w K mg (hidT s₁.heap H) callerA [] s₁ H:=⟨rfl,hM,fun b o e=>qmK e,Nat.le_of_eq (qjf _ _),trivial,fun b hb=>absurd (show b∈([]:List Addr) from hb) (by simp),hok,.of_eq hg⟩
  refine codeAny_mono ((F _ hKb (nsK hns)).run callerA [] s₁ H ⟨[.ref a],[]⟩ [.ref a] [.ref a] _ _ hr e0 (hbind s₁ (.ref a)) (.cons rfl .nil) (hsp H hO hS)) fun r s' h=>?_
  cases r with
  | error e=>exact (hCX H e s' h).elim
  | ok fl=>
   cases fl with
   | next=>exact False.elim h
   | brk=>exact False.elim h
   | cont=>exact False.elim h
   | ret u=>
    obtain ⟨v,H',os,bare,un,hok',r',q⟩:=h
    have q':v = .bl true:=q
    subst q'
    obtain rfl:u=Value.bool true:=r'
    refine ⟨rfl,OldK.of_keep fun b o e=>?_,os,bare⟩
    cases q:H b with
    | none=>exact un.keep b o e q (by intro z;exact absurd (show b∈([]:List Addr) from z) (by simp)) (by simp)
    | some u=>
     rcases hO b with z | ⟨ob,xs,z⟩
     ·rw [q] at z;cases z
     ·have z2:=un.frzs b ob _ z
      obtain ⟨e1,_⟩:=hok b _ z
      obtain ⟨e2,_⟩:=hok' b _ z2
      rw [e] at e1;cases e1
      exact e2
 cases hk:K.lookup a with
 | some o=>
  -- the script is one of the module's own objects
  have e:=KX a o hk
  rw [ha] at e
  cases e
  refine core (fun _=>none) (fun _=>.inl rfl) (.inr ⟨_,vs.toArray,_,hk,rfl,rfl,rfl,by rw [sT1,lenV];exact hl,by simpa using rv⟩) (fun b u z=>by have z':(none:Option HO)=some u:=z;cases z') (fun b z=>absurd rfl z) fun z=>absurd rfl z
 | none=>
  refine core (fun b=>if b=a then some (.frz {cls:=.type "list",data:=.seq vs.toArray} (.lst (ns.map V.int))) else none) (fun b=>?_) (.inl (.inr ⟨{cls:=.type "list",data:=.seq vs.toArray},if_pos rfl⟩)) (fun b u z=>?_) (fun b z=>?_) fun _=>hk
  ·by_cases hb:b=a
   ·exact .inr ⟨_,_,if_pos hb⟩
   ·exact .inl (if_neg hb)
  ·by_cases hb:b=a
   ·have z':=(if_pos hb).symm.trans z
    cases z'
    subst hb
    exact ⟨ha,by rw [lM1];exact hl,vs,_,rv,ha⟩
   ·have z':=(if_neg hb).symm.trans z
    cases z'
  ·by_cases hb:b=a
   ·exact hb
   ·exact absurd (if_neg hb) z
end L2
namespace L2
open PySem PySem.Spec PyProof.Rows
theorem ql3 {l:PySem.W.OpenLaw}{n k:Nat}{q:Program}{loose:List Str}{XP:(Str->Option Value)->Heap->Prop}{YP:World->Heap->Prop}{d:DefRec}{K:Params->Fg1}{CX:World->CXT}{sp:World->Sp}{x:Str}
  (hn:l.most=some n) (hn2:n<=sizeLine) (hdf:d.params.defaults=[]) (hr:Room k callerA)
  (hY:∀ (w:World) (h:Heap),YP w h->(K w.params).In h)
  (F:∀ (w:World) (mg:Str->Option Value) (fa:Addr) (h:Heap),(K w.params).In h->h.Ns mainGlobals mg->mg d.name=some (.ref fa) ->
   ∃ fd:FuncData,(∀ (s:Shared) (u:Value),BindsTo s fd ⟨[u],[]⟩ [(x,u)]) /\
    ∀ base:Heap,(K w.params).In base->base.Ns mainGlobals mg->FnOk l.prog w (K w.params) mg base (CX w) k fa fd [x] (sp w))
  (hsp:∀ (w:World) (H:Hp) (a:Addr) (ns:List Int),ns.length<=n->Only H->SqL (K w.params) H a (ns.map V.int)->sp w [.ref a] H (fun v _=>v = .bl true) fun _ _ _=>False)
  (hCX:∀ (w:World) (H:Hp) (s:Shared) (e:Value) (s':Shared),CX w [] H s (fun _ _ _=>False) e s'->False):
  PySem.W.WalkO q loose XP YP l.row.toRowW d [] (fun f vs=>PySem.call f vs):=by
 refine Att.attach_call hn hdf fun w s₀ s₁ mg mb fa o pm cd doc a vs ns G Y ho hd hcd hmg hobj hints hlen hg=>?_
 have KX:=hY w _ Y
 obtain ⟨fd,hb,hF⟩:=F w mg fa _ KX G.T.g hmg
 exact qk1 KX G.T.g G.T.b G.T.builtins G.T.nolimit hg hobj hints (Nat.le_trans hlen hn2) hr hF hb (fun H hO hS=>hsp w H a ns hlen hO hS) fun H e s'=>hCX w H s₁ e s'
end L2
namespace L2
open PySem PySem.Spec PyProof.Rows
noncomputable def qau (s:Stmt):Arguments:=match s with
 | .FunctionDef _ a _ _ _ _ _ _ _ _=>a
 | _=>{posonlyargs:=[],args:=[],vararg:=none,kwonlyargs:=[],kw_defaults:=[],kwarg:=none,defaults:=[]}
noncomputable def qaq (s:Stmt):List Stmt:=match s with
 | .FunctionDef _ _ b _ _ _ _ _ _ _=>b
 | _=>[]
noncomputable def qab (s:Stmt):Scope:=match s with
 | .FunctionDef _ _ _ _ _ _ sc _ _ _=>sc
 | _=>{kind:=.function,names:=[],isGenerator:=false,isCoroutine:=false}
noncomputable abbrev CX0:CXT:=fun _ _ _ _ _ _=>False
noncomputable abbrev E0:XK:=fun _ _ _=>False
theorem qoz {X:Cx}:qhR CX0 X E0:=fun _ _ _ _ _ _ _ h=>h.elim
structure Fun (K:Fg1)(x qual:Str)(st:Stmt)(f:Addr)(fd:FuncData):Prop where
 ex:∃ (oc:Value) (od:Option Addr) (kV doc pm:Value) (an:Option Addr) (cdv ct:Value) (osl:Array (Option Value)),
  fd=wF1 x qual (qau st) (qaq st) (qab st) .none kV doc pm an cdv ct/\K.lookup f=some ⟨oc,od,.func fd,osl⟩/\wC1 K cdv qual=true
 kp:wK1 K (.ref f)=true
section
variable {P:Program} {w:World} {K:Fg1} {mg:Str->Option Value} {base:Heap}
theorem Fun.ok {x qual:Str}{st:Stmt}{f:Addr}{fd:FuncData}{N ps:List Str}{k:Nat}{sp:Sp}(F:Fun K x qual st f fd)(S:qas N ps (qab st))(len:∀ vs H Q E,sp vs H Q E->vs.length=ps.length)
  (hbody:∀ (cdv:Value) (A:Around) (outer:List Env) (s:Shared) (H:Hp) (vs:List V) (Q:VK) (E:XK),Room k (A.deeper (envOfC qual (qab st) s.heap.objs.size f cdv))->sp vs H Q E ->
   ∃ t,PSs (cxOf CX0 P w K mg base N qual (qab st) f cdv A outer s H E).nox (qaq st) t/\t {nx:=fun _ H'=>Q .non H',rt:=Q} (qd8 N vs) H):FnOk P w K mg base CX0 (k+1) f fd ps sp:=by
 obtain ⟨oc,od,kV,doc,pm,an,cdv,ct,osl,rfl,lk,hcd⟩:=F.ex
 refine qqS lk hcd S len fun A outer s H vs Q E hr hsp=>?_
 obtain ⟨t,h,q⟩:=hbody cdv A outer s H vs Q E hr hsp
 exact ⟨t,h.nox,q⟩
theorem Fun.binds {x qual:Str}{st:Stmt}{f:Addr}{fd:FuncData}{ps:List Str}(F:Fun K x qual st f fd)
  (h:∀ (kV doc pm:Value) (an:Option Addr) (cdv ct:Value) (us:List Value),us.length=ps.length->bindArgs (wF1 x qual (qau st) (qaq st) (qab st) .none kV doc pm an cdv ct) ⟨us,[]⟩=pure (ps.zip us)):qa6 K fd ps []:=by
 obtain ⟨oc,od,kV,doc,pm,an,cdv,ct,osl,rfl,lk,hcd⟩:=F.ex
 exact .all (h kV doc pm an cdv ct)
theorem qaX {x qual:Str}{st:Stmt}{f:Addr}{oc:Value}{od an:Option Addr}{osl:Array (Option Value)}{kV doc pm cdv ct:Value}(l:K.lookup f=some ⟨oc,od,.func (wF1 x qual (qau st) (qaq st) (qab st) .none kV doc pm an cdv ct),osl⟩)
  (c:wC1 K cdv qual=true) (k:wK1 K (.ref f)=true):Fun K x qual st f (wF1 x qual (qau st) (qaq st) (qab st) .none kV doc pm an cdv ct):=⟨⟨oc,od,kV,doc,pm,an,cdv,ct,osl,rfl,l,c⟩,k⟩
end
section
variable {X:Cx}
end
noncomputable def Same (H H':Hp):Prop:=∀ b o,H b=some o->H' b=some o
theorem Same.refl (H:Hp):Same H H:=fun _ _ h=>h
end L2
end
section
namespace L2
open PySem PySem.Spec PyProof.Rows
section
variable {κ:Type} [DecidableEq κ]
noncomputable def valV (kvs:List (κ×V))(k:κ):Option V:=(kvs.find? fun kv=>decide (kv.1=k)).map (·.2)
noncomputable def putK (kvs:List (κ×V))(k:κ)(v:V):List (κ×V):=
 if (kvs.any fun kv=>decide (kv.1=k))=true then kvs.map (fun kv=>if kv.1=k then (kv.1,v) else kv) else kvs++[(k,v)]
theorem qeX {p:κ×V}{r:List (κ×V)}{k:κ}(e:p.1=k):valV (p::r) k=some p.2:=by simp [valV,List.find?_cons,e]
theorem qeY {p:κ×V}{r:List (κ×V)}{k:κ}(e:¬ p.1=k):valV (p::r) k=valV r k:=by simp [valV,List.find?_cons,e]
theorem qg7 (k:κ):∀ kvs:List (κ×V),(kvs.any fun kv=>decide (kv.1=k))=(valV kvs k).isSome
 | []=>rfl
 | p::r=>by
  rw [List.any_cons]
  by_cases e:p.1=k
  ·simp only [qeX e,decide_eq_true e,Bool.true_or,Option.isSome_some]
  ·rw [qeY e,decide_eq_false e,Bool.false_or];exact qg7 k r
theorem qch (kvs:List (κ×V))(k:κ)(v:V):(putK kvs k v).length<=kvs.length+1:=by
 unfold putK
 split
 ·rw [lM1];lia
 ·rw [lA1,lC1,List.length_nil];lia
theorem RelO.isSome_eq {o:Option V}{u:Option Value}(r:RelO o u):o.isSome=u.isSome:=by
 cases o with
 | none=>cases u with
  | none=>rfl
  | some _=>exact (show False from r).elim
 | some _=>cases u with
  | none=>exact (show False from r).elim
  | some _=>rfl
theorem RelO.getD {o:Option V}{u:Option Value}{d:V}{d':Value}(r:RelO o u)(rd:RelV d d'):RelV (o.getD d) (u.getD d'):=by
 cases o with
 | none=>cases u with
  | none=>exact rd
  | some _=>exact (show False from r).elim
 | some _=>cases u with
  | none=>exact (show False from r).elim
  | some _=>exact r
theorem KV.val {kvs:List (κ×V)}{vs:List (κ×Value)}(r:KV kvs vs)(k:κ):RelO (valV kvs k) (valueAt vs k):=by
 unfold KV at r
 induction r with
 | nil=>exact True.intro
 | @cons p q ps qs h t ih=>
  obtain ⟨h1,h2⟩:=h
  by_cases e:p.1=k
  ·have e':q.1=k:=h1.symm.trans e
   have b:valueAt (q::qs) k=some q.2:=by simp [valueAt,List.find?_cons,e']
   rw [qeX e,b];exact h2
  ·have e':¬ q.1=k:=fun z=>e (h1.trans z)
   have b:valueAt (q::qs) k=valueAt qs k:=by simp [valueAt,List.find?_cons,e']
   rw [qeY e,b];exact ih
theorem KV.any {kvs:List (κ×V)}{vs:List (κ×Value)}(r:KV kvs vs)(k:κ):(kvs.any fun kv=>decide (kv.1=k))=vs.any fun kv=>decide (kv.1=k):=by
 unfold KV at r
 induction r with
 | nil=>rfl
 | cons h t ih=>rw [List.any_cons,List.any_cons,ih,h.1]
theorem KV.repl {kvs:List (κ×V)}{vs:List (κ×Value)}(r:KV kvs vs)(k:κ){y:V}{u:Value}(ry:RelV y u):
  KV (kvs.map fun kv=>if kv.1=k then (kv.1,y) else kv) (vs.map fun kv=>if kv.1=k then (kv.1,u) else kv):=by
 unfold KV at r ⊢
 induction r with
 | nil=>exact .nil
 | @cons p q ps qs h t ih=>
  rw [mP1,mP1]
  refine .cons ?_ ih
  obtain ⟨h1,h2⟩:=h
  by_cases e:p.1=k
  ·rw [if_pos e,if_pos (h1.symm.trans e)];exact ⟨h1,ry⟩
  ·rw [if_neg e,if_neg (fun z=>e (h1.trans z))];exact ⟨h1,h2⟩
theorem KV.put {kvs:List (κ×V)}{vs:List (κ×Value)}(r:KV kvs vs)(k:κ){y:V}{u:Value}(ry:RelV y u):KV (putK kvs k y) (stored vs k u):=by
 unfold putK stored
 rw [r.any k]
 by_cases e:(vs.any fun kv=>decide (kv.1=k))=true
 ·rw [if_pos e,if_pos e];exact r.repl k ry
 ·rw [if_neg e,if_neg e];exact Paired.snoc r ⟨rfl,ry⟩
theorem KV.length {kvs:List (κ×V)}{vs:List (κ×Value)}(r:KV kvs vs):kvs.length=vs.length:=Paired.length r
end
theorem qgS {P:Program}{w:World}{k:Key}{u:Value}(r:RelV (kV k) u):(qaT P w).is k u=true:=by
 cases k with
 | inl i=>obtain ⟨t,e⟩:=(show ∃ t,u=Value.int i t from r);subst e;exact qgK P w i t
 | inr x=>obtain ⟨t,e⟩:=(show ∃ t,u=Value.str x t from r);subst e;exact qgJ P w x t
theorem qf2 {P:Program}{w:World}:∀ {ks:List Key} {us:List Value},Vals (ks.map kV) us->ItemsAre (qaT P w) ks us
 | [],_,r=>by rw [List.map_nil] at r;cases r;exact .nil
 | k::ks,_,r=>by
  rw [mP1] at r
  cases r with
  | cons h t=>exact .cons (qgS h) (qf2 t)
noncomputable abbrev KT (H:Hp):List (List Key×V)->List (List Key×Addr×Value)->Prop:=Paired fun p q=>p.1=q.1/\H q.2.1=some (.tup (p.1.map kV))/\RelV p.2 q.2.2
theorem KT.val {H:Hp}{kvs:List (List Key×V)}{xs:List (List Key×Addr×Value)}(r:KT H kvs xs)(k:List Key):RelO (valV kvs k) ((atKey xs k).map (·.2)):=by
 induction r with
 | nil=>exact True.intro
 | @cons p q ps qs h t ih=>
  obtain ⟨h1,_,h2⟩:=h
  by_cases e:p.1=k
  ·have e':q.1=k:=h1.symm.trans e
   have b:atKey (q::qs) k=some q.2:=by simp [atKey,List.find?_cons,e']
   rw [qeX e,b];exact h2
  ·have e':¬ q.1=k:=fun z=>e (h1.trans z)
   have b:atKey (q::qs) k=atKey qs k:=by simp [atKey,List.find?_cons,e']
   rw [qeY e,b];exact ih
theorem KT.repl {H:Hp}{kvs:List (List Key×V)}{xs:List (List Key×Addr×Value)}(r:KT H kvs xs)(k:List Key){y:V}{u:Value}(ry:RelV y u):
  KT H (kvs.map fun kv=>if kv.1=k then (kv.1,y) else kv) (xs.map (putAt k u)):=by
 induction r with
 | nil=>exact .nil
 | @cons p q ps qs h t ih=>
  rw [mP1,mP1]
  refine .cons ?_ ih
  obtain ⟨h1,h2,h3⟩:=h
  unfold putAt
  by_cases e:p.1=k
  ·rw [if_pos e,if_pos (h1.symm.trans e)];exact ⟨h1,h2,ry⟩
  ·rw [if_neg e,if_neg (fun z=>e (h1.trans z))];exact ⟨h1,h2,h3⟩
theorem KT.put {H:Hp}{kvs:List (List Key×V)}{xs:List (List Key×Addr×Value)}(r:KT H kvs xs)(k:List Key){b:Addr}{y:V}{u:Value}(hb:H b=some (.tup (k.map kV)))(ry:RelV y u):
  KT H (putK kvs k y) (storedH xs k b u):=by
 have e:(kvs.any fun kv=>decide (kv.1=k))=(atKey xs k).isSome:=by
  rw [qg7,(r.val k).isSome_eq,Option.isSome_map]
 unfold putK storedH
 rw [e]
 by_cases q:(atKey xs k).isSome=true
 ·rw [if_pos q,if_pos q];exact r.repl k ry
 ·rw [if_neg q,if_neg q];exact Paired.snoc r ⟨rfl,hb,ry⟩
theorem KT.keeps {H H':Hp}{kvs:List (List Key×V)}{xs:List (List Key×Addr×Value)}(r:KT H kvs xs)(ht:∀ b ys,H b=some (.tup ys)->H' b=some (.tup ys)):KT H' kvs xs:=
 Paired.mapP r fun _ _ z=>⟨z.1,ht _ _ z.2.1,z.2.2⟩
section
variable {P:Program} {w:World} {H:Hp} {h:Heap} {a:Addr}
theorem qoc {u:HO}(ok:HOk P w H h)(e:Rd H a u):qbL P w H h a u:=e.ok ok
theorem qgY {kvs:List (Key×V)}(ok:HOk P w H h)(e:Rd H a (.dK kvs)):kvs.length<=sizeLine/\(a == sysModules)=false /\ ∃ vs,KV kvs vs/\h.DictOf (qaT P w) a vs:=
 show qbL P w H h a (.dK kvs) from qoc ok e
theorem qjx {kvs:List (Key×V)}(ok:HOk P w H h)(e:H a=some (.dK kvs)):kvs.length<=sizeLine/\(a == sysModules)=false /\ ∃ vs,KV kvs vs/\h.DictOf (qaT P w) a vs:=qgY ok (.inl e)
theorem qfZ {ks:List Key}(ok:HOk P w H h)(e:H a=some (.tup (ks.map kV))):(tupleKind (qaT P w)).is h ks a:=by
 obtain ⟨_,its,r,o,h1,h2,n,h3⟩:=(show qbL P w H h a (.tup (ks.map kV)) from ok a _ e)
 exact ⟨o,its.toArray,n,h1,h2,h3,by simpa using qf2 r⟩
theorem qic {kvs:List (List Key×V)}(ok:HOk P w H h)(e:Rd H a (.dT kvs)):kvs.length<=sizeLine/\(a == sysModules)=false /\
  ∃ xs,KT H kvs xs/\h.DictOfH (tupleKind (qaT P w)) a xs:=by
 obtain ⟨z,y,xs,r,o,es,ep,h1,h2,h3,h4,h5⟩:=(show qbL P w H h a (.dT kvs) from qoc ok e)
 refine ⟨z,y,xs,r,o,es,ep,h1,h2,h3,h4,fun x hx=>?_,h5⟩
 have all:∀ {l:List (List Key×V)} {m:List (List Key×Addr×Value)},KT H l m -> ∀ x∈m,(tupleKind (qaT P w)).is h x.1 x.2.1:=by
  intro l m q
  induction q with
  | nil=>intro x hx;exact nomatch hx
  | @cons p q ps qs hq t ih=>
   intro x hx
   rcases List.mem_cons.mp hx with e | hx
   ·subst e
    exact qfZ ok (by rw [<- hq.1];exact hq.2.1)
   ·exact ih x hx
 exact all r x hx
theorem qqW {kvs:List (List Key×V)}(ok:HOk P w H h)(e:H a=some (.dT kvs)):kvs.length<=sizeLine/\(a == sysModules)=false /\
  ∃ xs,KT H kvs xs/\h.DictOfH (tupleKind (qaT P w)) a xs:=qic ok (.inl e)
end
noncomputable def DGet (H:Hp)(a:Addr)(y:V)(r:Option V):Prop:=
 (∃ kvs k,Rd H a (.dK kvs)/\y=kV k/\r=valV kvs k) \/ ∃ kvs k b,Rd H a (.dT kvs)/\y = .ref b/\H b=some (.tup (k.map kV))/\r=valV kvs k
noncomputable def DPut (H:Hp)(a:Addr)(y v:V)(H':Hp):Prop:=
 (∃ kvs k,H a=some (.dK kvs)/\y=kV k/\kvs.length<sizeLine/\H'=upd H a (.dK (putK kvs k v))) \/
 ∃ kvs k b,H a=some (.dT kvs)/\y = .ref b/\H b=some (.tup (k.map kV))/\kvs.length<sizeLine/\H'=upd H a (.dT (putK kvs k v))
theorem DGet.k {H:Hp}{a:Addr}{kvs:List (Key×V)}{k:Key}(e:H a=some (.dK kvs)):DGet H a (kV k) (valV kvs k):=.inl ⟨kvs,k,.inl e,rfl,rfl⟩
theorem DGet.t {H:Hp}{a b:Addr}{kvs:List (List Key×V)}{k:List Key}(e:H a=some (.dT kvs))(eb:H b=some (.tup (k.map kV))):DGet H a (.ref b) (valV kvs k):=.inr ⟨kvs,k,b,.inl e,rfl,eb,rfl⟩
theorem DPut.k {H:Hp}{a:Addr}{kvs:List (Key×V)}{k:Key}{v:V}(e:H a=some (.dK kvs))(hl:kvs.length<sizeLine):DPut H a (kV k) v (upd H a (.dK (putK kvs k v))):=.inl ⟨kvs,k,e,rfl,hl,rfl⟩
theorem DPut.t {H:Hp}{a b:Addr}{kvs:List (List Key×V)}{k:List Key}{v:V}(e:H a=some (.dT kvs))(eb:H b=some (.tup (k.map kV)))(hl:kvs.length<sizeLine):
  DPut H a (.ref b) v (upd H a (.dT (putK kvs k v))):=.inr ⟨kvs,k,b,e,rfl,eb,hl,rfl⟩
section
variable {X:Cx} {pins:List (Addr×Obj)} {σ:St} {H:Hp} {s:Shared} {a:Addr} {y v:V} {u r:Value} {o:Option V} {A:Around} {E:Value->Shared->Prop}
theorem Inv.big (I:Inv X pins σ H s):sysModules<s.heap.objs.size:=by
 have h:mainGlobals<s.heap.objs.size:=(I.mod.glob.keeps I.bk).lt
 exact Nat.lt_trans (by decide) h
theorem qjB {Q:Value->Shared->Prop}(hu:A.units+1<cLine)(I:Inv X pins σ H s)(g:DGet H a y (some v))(ry:RelV y u)(h:∀ w' s',Inv X pins σ H s'->RelV v w'->Q w' s'):
  wpAny (model X.prog X.w) A (getItem (.ref a) u) Q E s:=by
 rcases g with ⟨kvs,k,e,ey,l⟩ | ⟨kvs,k,b,e,ey,eb,l⟩
 ·subst ey
  obtain ⟨z,hd,vs,rel,dd⟩:=qgY I.hok e
  obtain ⟨w',hw,rw'⟩:=RelO.some_of (v:=v) (o:=valueAt vs k) (by rw [l];exact rel.val k)
  exact wpAny_getItem_of (qgS ry) dd.mapOf hw (h w' _ (I.tok _) rw')
 ·subst ey
  cases (show u=Value.ref b from ry)
  obtain ⟨z,hd,xs,rel,dd⟩:=qic I.hok e
  obtain ⟨w',hw,rw'⟩:=RelO.some_of (v:=v) (o:=(atKey xs k).map (·.2)) (by rw [l];exact rel.val k)
  obtain ⟨p,hp,hp2⟩:=oM1.mp hw
  refine wpAny_getItem_heap (tupleKind_room_in1 hu) (qfZ I.hok eb) dd hp ?_
  rw [hp2]
  exact h w' _ (I.tok _) rw'
theorem d_in {Q:Value->Shared->Prop}(hu:A.units+1<cLine)(I:Inv X pins σ H s)(g:DGet H a y o)(ry:RelV y u)(h:∀ s',Inv X pins σ H s'->Q (.bool o.isSome) s'):
  wpAny (model X.prog X.w) A (compareOp .In u (.ref a)) Q E s:=by
 rcases g with ⟨kvs,k,e,ey,l⟩ | ⟨kvs,k,b,e,ey,eb,l⟩
 ·subst ey
  obtain ⟨z,hd,vs,rel,dd⟩:=qgY I.hok e
  refine wpAny_in_of (qgS ry) hd dd.mapOf ?_
  rw [<- (rel.val k).isSome_eq,<- l]
  exact h _ (I.tok _)
 ·subst ey
  cases (show u=Value.ref b from ry)
  obtain ⟨z,hd,xs,rel,dd⟩:=qic I.hok e
  refine wpAny_in_heap (tupleKind_room_in1 hu) (qfZ I.hok eb) hd dd ?_
  have q:=(rel.val k).isSome_eq
  rw [Option.isSome_map] at q
  rw [<- q,<- l]
  exact h _ (I.tok _)
theorem qnn {Q:Value->Shared->Prop}(hu:A.units+1<cLine)(I:Inv X pins σ H s)(g:DGet H a y o)(ry:RelV y u)(h:∀ s',Inv X pins σ H s'->Q (.bool (!o.isSome)) s'):
  wpAny (model X.prog X.w) A (compareOp .NotIn u (.ref a)) Q E s:=by
 rcases g with ⟨kvs,k,e,ey,l⟩ | ⟨kvs,k,b,e,ey,eb,l⟩
 ·subst ey
  obtain ⟨z,hd,vs,rel,dd⟩:=qgY I.hok e
  refine wpAny_notIn_of (qgS ry) hd dd.mapOf ?_
  rw [<- (rel.val k).isSome_eq,<- l]
  exact h _ (I.tok _)
 ·subst ey
  cases (show u=Value.ref b from ry)
  obtain ⟨z,hd,xs,rel,dd⟩:=qic I.hok e
  refine wpAny_notIn_heap (tupleKind_room_in1 hu) (qfZ I.hok eb) hd dd ?_
  have q:=(rel.val k).isSome_eq
  rw [Option.isSome_map] at q
  rw [<- q,<- l]
  exact h _ (I.tok _)
theorem qdM {h':Heap}{t':Nat}{ob:HO}(I:Inv X pins σ H s)(mu:Mut (H a))(hs:Heap.SameBut a s.heap h')(he:∃ q,h'.get? a=some q)(new:qbL X.prog X.w (upd H a ob) h' a ob):
  Inv X pins σ (upd H a ob) {s with heap:=h',toks:=t'}:=
 I.write (x:=a) (e:=a) mu (.inl rfl) (fun b q hb z=>(hs.2 b hb).trans z) he new
theorem qjy {P:Program}{w:World}{H':Hp}{h':Heap}{kvs:List (Key×V)}{vs:List (Key×Value)}(z:kvs.length<=sizeLine)(hd:(a == sysModules)=false)(rel:KV kvs vs)(dd:h'.DictOf (qaT P w) a vs):
  qbL P w H' h' a (.dK kvs):=⟨z,hd,vs,rel,dd⟩
theorem qjA {H':Hp}{Q:Unit->Shared->Prop}(hu:A.units+1<cLine)(I:Inv X pins σ H s)(g:DPut H a y v H')(ry:RelV y u)(rv:RelV v r)(h:∀ s',Inv X pins σ H' s'->Q () s'):
  wpAny (model X.prog X.w) A (setItem (.ref a) u r) Q E s:=by
 rcases g with ⟨kvs,k,e,ey,l,eH⟩ | ⟨kvs,k,b,e,ey,eb,l,eH⟩
 ·subst ey eH
  obtain ⟨z,hd,vs,rel,dd⟩:=qjx I.hok e
  have hz:vs.length<=sizeLine:=by rw [<- rel.length];exact z
  have hl:(putK kvs k v).length<=sizeLine:=by have:=qch kvs k v;lia
  refine wpAny_setItem_pairs (hsz:=hz) (qgS ry) dd fun h' dd' hs=>h _ ?_
  have he:∃ q,h'.get? a=some q:=let ⟨q,_,_,hq,_⟩:=dd';⟨q,hq⟩
  exact qdM I (by rw [e];exact True.intro) hs he (qjy hl hd (rel.put k rv) dd')
 ·subst ey eH
  cases (show u=Value.ref b from ry)
  obtain ⟨z,hd,xs,rel,dd⟩:=qqW I.hok e
  have hz:xs.length<=sizeLine:=by rw [<- Paired.length rel];exact z
  have hl:(putK kvs k v).length<=sizeLine:=by have:=qch kvs k v;lia
  refine wpAny_setItem_heap (hsz:=hz) (tupleKind_room_in1 hu) (qfZ I.hok eb) dd fun h' dd' hs=>h _ ?_
  obtain ⟨q,es,ep,hq,h2,h3,h4,_,h5⟩:=dd'
  refine qdM I (by rw [e];exact True.intro) hs ⟨q,hq⟩ ⟨hl,hd,_,(rel.put k eb rv).keeps fun c ys ec=>?_,q,es,ep,hq,h2,h3,h4,h5⟩
  rw [qar (qqy ec e (fun z=>nomatch z))]
  exact ec
end
section
variable {X:Cx} {pins:List (Addr×Obj)} {σ:St} {H:Hp} {s:Shared} {a:Addr} {kvs:List (Key×V)} {k:Key} {u:Value} {A:Around} {E:Value->Shared->Prop}
theorem qqX {Q:Value->Shared->Prop}(I:Inv X pins σ H s)(e:Rd H a (.dK kvs))(h:∀ t s',Inv X pins σ H s'->Q (.int kvs.length t) s'):wpAny (model X.prog X.w) A (call (.builtin "len") [.ref a]) Q E s:=by
 obtain ⟨z,hd,vs,rel,dd⟩:=qgY I.hok e
 refine call_len_dict hd dd (by rw [<- rel.length];rw [sizeLine_eq] at z;lia) ?_
 rw [<- rel.length]
 exact h _ _ (I.tok _)
end
theorem qgZ {X:Cx}{pins:List (Addr×Obj)}{σ:St}{H:Hp}{s:Shared}{a:Addr}{y:V}{o:Option V}(I:Inv X pins σ H s)(g:DGet H a y o):s.TypeIs (.ref a) "dict":=by
 rcases g with ⟨kvs,k,e,_,_⟩ | ⟨kvs,k,b,e,_,_,_⟩
 ·obtain ⟨_,_,vs,_,dd⟩:=qgY I.hok e
  exact dd.typeIs
 ·obtain ⟨_,_,xs,_,dd⟩:=qic I.hok e
  exact dd.typeIs
section
variable {X:Cx} {o i e value:Expr} {pos pos' tpos:Pos} {td ty tv:TE}
end
theorem qhD {P:Program}{w:World}{H:Hp}(h:Heap)(hb:sysModules<h.objs.size):qbL P w H (h.push {cls:=.type "dict",data:=.dict #[]}) h.objs.size (.dK []):=
 ⟨Nat.zero_le _,beq_eq_false_iff_ne.mpr (Ne.symm (nN1 hb)),[],.nil,Heap.DictOf.new h⟩
noncomputable def qnT:TE:=fun _ H Q=>∀ p,H p=none->Q (.ref p) (upd H p (.dK []))
section
variable {X:Cx} {pos:Pos}
theorem qku:PE X (.Dict [] [] pos) qnT:=fun pins s σ H Q I h=>
 wpAny_Dict_empty ⟨.ref s.heap.objs.size,_,I.laid (a:=s.heap.objs.size) (o:=.dK []) (t':=s.toks) (fun _ _ q=>hP1 _ q) (nR1 _) (qhD s.heap I.big),rfl,h _ (I.hok.fresh (nR1 _))⟩
end
noncomputable def qha:List (TE×TE)->St->Hp->(List (V×V)->Hp->Prop)->Prop
 | [],_,H,Q=>Q [] H
 | (tk,tv)::r,σ,H,Q=>tk σ H fun x H1=>tv σ H1 fun y H2=>qha r σ H2 fun ps H3=>Q ((x,y)::ps) H3
noncomputable abbrev VV:List (V×V)->List (Value×Value)->Prop:=Paired fun p q=>RelV p.1 q.1/\RelV p.2 q.2
noncomputable def PPs (X:Cx)(pos:Pos)(keys:List (Option Expr))(values:List Expr)(trs:List (TE×TE)):Prop:=
 ∀ (pins:List (Addr×Obj)) (s:Shared) (σ:St) (H:Hp) (Q:List (V×V)->Hp->Prop),Inv X pins σ H s->qha trs σ H Q ->
  wpAny (model X.prog X.w) X.A (evalPairs (pairTrees keys values X.env pos)) (fun vs s'=>∃ ps H',Inv X pins σ H' s'/\VV ps vs/\Q ps H') X.xe s
theorem qms {X:Cx}{pos:Pos}:PPs X pos [] [] []:=fun pins s σ H Q I h=>pairTrees_nil_walk ⟨[],H,I,.nil,h⟩
theorem qkl {X:Cx}{pos:Pos}{k v:Expr}{ks:List (Option Expr)}{vs:List Expr}{tk tv:TE}{trs:List (TE×TE)}(hk:PE X k tk)(hv:PE X v tv)(hr:PPs X pos ks vs trs):
  PPs X pos (some k::ks) (v::vs) ((tk,tv)::trs):=fun pins s σ H Q I h=>
 pairTrees_cons_walk (thn (hk pins s σ H _ I h) fun u s1 ⟨x,H1,I1,rx,q1⟩=>thn (hv pins s1 σ H1 _ I1 q1) fun w2 s2 ⟨y,H2,I2,ry,q2⟩=>
  thn (hr pins s2 σ H2 _ I2 q2) fun ws s3 ⟨ps,H3,I3,rel,q3⟩=>⟨(x,y)::ps,H3,I3,.cons ⟨rx,ry⟩ rel,q3⟩)
noncomputable def qdn (kvs more:List (Key×V)):List (Key×V):=more.foldl (fun acc kv=>putK acc kv.1 kv.2) kvs
theorem KV.merge:∀ {more:List (Key×V)} {rs:List (Key×Value)} {kvs:List (Key×V)} {vs:List (Key×Value)},KV more rs->KV kvs vs->KV (qdn kvs more) (merged vs rs):=by
 intro more rs kvs vs r
 unfold KV at r
 induction r generalizing kvs vs with
 | nil=>intro q;exact q
 | @cons p q ps qs h t ih=>
  intro r0
  have e:KV (putK kvs p.1 p.2) (stored vs q.1 q.2):=by
   have:=r0.put p.1 h.2
   rw [<- h.1];exact this
  exact ih e
theorem qdr:∀ (more kvs:List (Key×V)),(qdn kvs more).length<=kvs.length+more.length
 | [],kvs=>by show kvs.length<=kvs.length+0;lia
 | p::r,kvs=>by
  have h1:=qdr r (putK kvs p.1 p.2)
  have h2:=qch kvs p.1 p.2
  show (qdn (putK kvs p.1 p.2) r).length<=_
  rw [lC1];lia
theorem qeS {P:Program}{w:World}:∀ {kvs:List (Key×V)} {ws:List (Value×Value)},VV (kvs.map fun kv=>(kV kv.1,kv.2)) ws -> ∃ rs,Carries (qaT P w) ws rs/\KV kvs rs
 | [],_,r=>by rw [List.map_nil] at r;cases r;exact ⟨[],True.intro,.nil⟩
 | p::kvs,_,r=>by
  rw [mP1] at r
  cases r with
  | @cons a b as bs h t=>
   obtain ⟨rs,c,q⟩:=qeS (P:=P) (w:=w) t
   obtain ⟨b1,b2⟩:=b
   exact ⟨(p.1,b2)::rs,⟨qgS h.1,rfl,c⟩,.cons ⟨rfl,h.2⟩ q⟩
noncomputable def qqe (trs:List (TE×TE)):TE:=fun σ H Q=>∀ p,H p=none->qha trs σ (upd H p (.dK [])) fun ps H2=>H2 p=some (.dK []) /\ ∃ kvs:List (Key×V),ps=kvs.map (fun kv=>(kV kv.1,kv.2))/\kvs.length<=15/\Q (.ref p) (upd H2 p (.dK (qdn [] kvs)))
theorem qmC {X:Cx}{pos:Pos}{keys:List (Option Expr)}{values:List Expr}{trs:List (TE×TE)}(h:PPs X pos keys values trs)(hall:keys.all (·.isSome)=true)(hl:keys.length=values.length)(h0:keys≠[])
  (h15:keys.length<=15):PE X (.Dict keys values pos) (qqe trs):=by
 intro pins s σ H Q I q
 have hn:=I.hok.fresh (nR1 s.heap.objs.size)
 have I1:=I.laid (a:=s.heap.objs.size) (o:=.dK []) (h':=s.heap.push {cls:=.type "dict",data:=.dict #[]}) (t':=s.toks) (fun _ _ q=>hP1 _ q) (nR1 _) (qhD s.heap I.big)
 refine wpAny_Dict_walk (knd:=qaT X.prog X.w) hall hl h0 h15 (thn (h pins _ σ _ _ I1 (q _ hn)) fun ws s2 ⟨ps,H2,I2,rel,e,kvs,ep,lk,q2⟩=>?_)
 subst ep
 obtain ⟨rs,c,rk⟩:=qeS (P:=X.prog) (w:=X.w) rel
 obtain ⟨z,hd,vs0,r0,dd⟩:=qjx I2.hok e
 cases r0
 refine ⟨rs,c,dd,fun h' dd' hs=>⟨.ref s.heap.objs.size,_,?_,rfl,q2⟩⟩
 have hz:(qdn [] kvs).length<=sizeLine:=by
  have h1:=qdr kvs []
  rw [List.length_nil] at h1
  rw [sizeLine_eq];lia
 have he:∃ q,h'.get? s.heap.objs.size=some q:=let ⟨q,_,_,hq,_⟩:=dd';⟨q,hq⟩
 exact qdM I2 (by rw [e];exact True.intro) hs he (qjy hz hd (rk.merge .nil) dd')
structure M2 (X:Cx)(o:Expr)(m:Str)(apos:Pos)(e f:Expr)(cpos:Pos):Prop where
 base:attributeBase o m X.env (eval o X.env)=eval o X.env
 few:((backTo cpos (starEach [e,f] X.env)).all (fun x=> !x.1)&&(backToKw cpos (keywordEach [] X.env)).all (fun x=>x.1.isSome)
  && decide (([e,f]:List Expr).length+([]:List Keyword).length+(if ([]:List Keyword).isEmpty then 0 else 1)<30))=true
 line:(apos.endLine == cpos.line)=true
 trees:backTo cpos (starEach [e,f] X.env)=[(false,eval e X.env),(false,eval f X.env)]
noncomputable def IsD (H:Hp)(a:Addr):Prop:=(∃ kvs,Rd H a (.dK kvs)) \/ ∃ kvs,Rd H a (.dT kvs)
theorem qps {X:Cx}{pins:List (Addr×Obj)}{σ:St}{H:Hp}{s:Shared}{a:Addr}(I:Inv X pins σ H s)(d:IsD H a):
  s.TypeIs (.ref a) "dict"/\(∀ b,Value.ref a = .ref b -> ∃ ob,s.heap.get? b=some ob/\ob.dict=none)/\(a == sysModules)=false:=by
 rcases d with ⟨kvs,e⟩ | ⟨kvs,e⟩
 ·obtain ⟨_,hd,vs,_,dd⟩:=qgY I.hok e
  refine ⟨dd.typeIs,fun b q=>?_,hd⟩
  cases q
  obtain ⟨ob,_,_,h1,h2,_⟩:=dd
  exact ⟨ob,h1,h2.2.1⟩
 ·obtain ⟨_,hd,xs,_,dd⟩:=qic I.hok e
  refine ⟨dd.typeIs,fun b q=>?_,hd⟩
  cases q
  obtain ⟨ob,_,_,h1,h2,_⟩:=dd
  exact ⟨ob,h1,h2.2.1⟩
section
variable {X:Cx} {pins:List (Addr×Obj)} {σ:St} {H:Hp} {s:Shared} {a:Addr} {y d:V} {u r:Value} {o:Option V} {A:Around} {E:Value->Shared->Prop}
end
section
variable {X:Cx} {o e f:Expr} {apos cpos:Pos} {td ty tx:TE}
end
section
variable {X:Cx} {pins:List (Addr×Obj)} {σ:St} {H:Hp} {s:Shared} {a:Addr} {kvs:List (Key×V)} {A:Around} {E:Value->Shared->Prop}
end
section
variable {X:Cx} {pins:List (Addr×Obj)} {σ:St} {H:Hp} {s:Shared} {a:Addr} {y:V} {u:Value} {A:Around} {E:Value->Shared->Prop}
end
end L2
end
section
namespace Mi
open PySem PySem.Spec PyProof.Rows L2
inductive TK where
 | non | int (i:Int) | tup (xs:List TK)
noncomputable instance:DecidableEq TK:=fun _ _=>Classical.propDecidable _
mutual
noncomputable def TK.hash:TK->Int
 | .non=>0xFCA86420
 | .int i=>hashInt i
 | .tup xs=>reduceHash (Builtin.Tuple.tupleHashOf (TK.hashes xs))
noncomputable def TK.hashes:List TK->List Int
 | []=>[]
 | x::xs=>TK.hash x::TK.hashes xs
end
mutual
noncomputable def TK.draws:TK->Nat
 | .non=>1
 | .int _=>1
 | .tup xs=>TK.drawsAll xs+1
noncomputable def TK.drawsAll:List TK->Nat
 | []=>0
 | x::xs=>TK.draws x+TK.drawsAll xs
end
mutual
noncomputable def TK.dep:TK->Nat
 | .non=>0
 | .int _=>0
 | .tup xs=>TK.depAll xs+1
noncomputable def TK.depAll:List TK->Nat
 | []=>0
 | x::xs=>max (TK.dep x) (TK.depAll xs)
end
theorem TK.dep_mem:∀ {xs:List TK} {x:TK},x∈xs->x.dep<=TK.depAll xs
 | y::ys,x,h=>by
  rw [TK.depAll]
  rcases List.mem_cons.mp h with e | e
  ·rw [e];exact Nat.le_max_left _ _
  ·exact Nat.le_trans (TK.dep_mem e) (Nat.le_max_right _ _)
theorem TK.hashes_app:∀ a b:List TK,TK.hashes (a++b)=TK.hashes a++TK.hashes b
 | [],_=>rfl
 | x::xs,b=>by rw [List.cons_append,TK.hashes,TK.hashes,TK.hashes_app xs b];rfl
theorem TK.draws_app:∀ a b:List TK,TK.drawsAll (a++b)=TK.drawsAll a+TK.drawsAll b
 | [],_=>by simp [TK.drawsAll]
 | x::xs,b=>by rw [List.cons_append,TK.drawsAll,TK.drawsAll,TK.draws_app xs b,Nat.add_assoc]
inductive D where
 | non | bl (b:Bool) | int (i:Int) | str (x:Str) | tup (xs:List D) | rol (xs:List D) | ref (n:Nat) | fn (x:Str)
inductive Ob where
 | lst (xs:List D) | dct (kvs:List (Key×D)) | dcT (kvs:List (TK×D)) | iset (xs:List Int) | dcF (kvs:List (TK×D))
noncomputable abbrev Sto:=List Ob
noncomputable abbrev Ev:=List (Option D)
noncomputable abbrev FE:=Ev->Sto->Option (D×Sto)
noncomputable abbrev FT:=Ev->Sto->Option (Bool×Sto)
noncomputable abbrev FA:=Ev->Sto->Option (List D×Sto)
noncomputable abbrev FN:=List D->Sto->Option (D×Sto)
inductive Fl where
 | nx | rt (d:D) | bk | ct
noncomputable abbrev FS:=Ev->Sto->Option (Fl×Ev×Sto)
noncomputable def RoL (K:Fg1)(H:Hp)(a:Addr)(xs:List V):Prop:=(∃ o,H a=some (.frz o (.lst xs))) \/
 ∃ (o:Obj) (its:Array Value) (n:Nat),K.lookup a=some o/\o.cls = .type "list"/\o.dict=none/\o.data = .seq its n/\its.size<=sizeLine/\Vals xs its.toList
theorem RoL.sq {K:Fg1}{H:Hp}{a:Addr}{xs:List V}(h:RoL K H a xs):SqL K H a xs:=h.elim (fun ⟨o,q⟩=>.inl (.inr ⟨o,q⟩)) .inr
mutual
inductive Rep (K:Fg1)(H:Hp)(mu:List Addr):D->V->Prop
 | non:Rep K H mu .non .non
 | bl (b:Bool):Rep K H mu (.bl b) (.bl b)
 | int (i:Int):Rep K H mu (.int i) (.int i)
 | str (x:Str):Rep K H mu (.str x) (.str x)
 | tup {ds:List D} {vs:List V} {a:Addr} (h:SqT K H a vs) (r:Reps K H mu ds vs):Rep K H mu (.tup ds) (.ref a)
 | rol {ds:List D} {vs:List V} {a:Addr} (h:RoL K H a vs) (r:Reps K H mu ds vs):Rep K H mu (.rol ds) (.ref a)
 | ref {n:Nat} {a:Addr} (h:mu[n]? = some a):Rep K H mu (.ref n) (.ref a)
 | fn {x:Str} {a:Addr} (h:wN1 K mainGlobals x=some (some (.ref a))):Rep K H mu (.fn x) (.ref a)
inductive Reps (K:Fg1)(H:Hp)(mu:List Addr):List D->List V->Prop
 | nil:Reps K H mu [] []
 | cons {d:D} {v:V} {ds:List D} {vs:List V} (r:Rep K H mu d v) (t:Reps K H mu ds vs):Reps K H mu (d::ds) (v::vs)
end
structure Ext (mu mu':List Addr)(H H':Hp):Prop where
 pre:mu <+: mu'
 old:∀ a o,H a=some o->a∉mu->H' a=some o
 tup:∀ a xs,Rd H a (.tup xs)->Rd H' a (.tup xs)
 frz:∀ a o u,H a=some (.frz o u)->H' a=some (.frz o u)
 new:∀ a∈mu',a∈mu\/H a=none
theorem Ext.refl (mu:List Addr)(H:Hp):Ext mu mu H H:=⟨List.prefix_rfl,fun _ _ h _=>h,fun _ _ h=>h,fun _ _ _ h=>h,fun _ h=>.inl h⟩
theorem Ext.trans {mu m1 m2:List Addr}{H H1 H2:Hp}(a:Ext mu m1 H H1)(b:Ext m1 m2 H1 H2):Ext mu m2 H H2 where
 pre:=a.pre.trans b.pre
 old:=fun c o h n=>b.old c o (a.old c o h n) fun z=>by
  rcases a.new c z with q | q
  ·exact n q
  ·rw [h] at q;cases q
 tup:=fun c xs h=>b.tup c xs (a.tup c xs h)
 frz:=fun c o u h=>b.frz c o u (a.frz c o u h)
 new:=fun c h=>by
  rcases b.new c h with q | q
  ·exact a.new c q
  ·by_cases z:c∈mu
   ·exact .inl z
   ·right
    cases e:H c with
    | none=>rfl
    | some o=>rw [a.old c o e z] at q;cases q
theorem Ext.at {mu mu':List Addr}{H H':Hp}(e:Ext mu mu' H H'){n:Nat}{a:Addr}(h:mu[n]? = some a):mu'[n]? = some a:=by
 obtain ⟨t,rfl⟩:=e.pre
 have hl:n<mu.length:=(gE1.mp h).1
 rw [gL1 hl];exact h
theorem Ext.back {mu mu':List Addr}{H H':Hp}(e:Ext mu mu' H H'):Ext mu mu H H':=⟨List.prefix_rfl,e.old,e.tup,e.frz,fun _ h=>.inl h⟩
structure Exw (mu mu':List Addr)(H H':Hp):Prop where
 pre:mu <+: mu'
 tup:∀ a xs,Rd H a (.tup xs)->Rd H' a (.tup xs)
 frz:∀ a o u,H a=some (.frz o u)->H' a=some (.frz o u)
theorem Ext.w {mu mu':List Addr}{H H':Hp}(e:Ext mu mu' H H'):Exw mu mu' H H':=⟨e.pre,e.tup,e.frz⟩
theorem Exw.trans {mu m1 m2:List Addr}{H H1 H2:Hp}(a:Exw mu m1 H H1)(b:Exw m1 m2 H1 H2):Exw mu m2 H H2:=⟨a.pre.trans b.pre,fun c xs h=>b.tup c xs (a.tup c xs h),fun c o u h=>b.frz c o u (a.frz c o u h)⟩
theorem Exw.at {mu mu':List Addr}{H H':Hp}(e:Exw mu mu' H H'){n:Nat}{a:Addr}(h:mu[n]? = some a):mu'[n]? = some a:=by
 obtain ⟨t,rfl⟩:=e.pre
 have hl:n<mu.length:=(gE1.mp h).1
 rw [gL1 hl];exact h
structure Exv (mu mu':List Addr)(H H':Hp):Prop where
 pre:mu <+: mu'
 tup:∀ a xs,Rd H a (.tup xs)->Rd H' a (.tup xs)
 frl:∀ a o xs,H a=some (.frz o (.lst xs))->H' a=some (.frz o (.lst xs))
theorem Exw.v {mu mu':List Addr}{H H':Hp}(e:Exw mu mu' H H'):Exv mu mu' H H':=⟨e.pre,e.tup,fun a o xs h=>e.frz a o _ h⟩
theorem Ext.v {mu mu':List Addr}{H H':Hp}(e:Ext mu mu' H H'):Exv mu mu' H H':=e.w.v
theorem Exv.at {mu mu':List Addr}{H H':Hp}(e:Exv mu mu' H H'){n:Nat}{a:Addr}(h:mu[n]? = some a):mu'[n]? = some a:=by
 obtain ⟨t,rfl⟩:=e.pre
 have hl:n<mu.length:=(gE1.mp h).1
 rw [gL1 hl];exact h
theorem SqT.exv {K:Fg1}{mu mu':List Addr}{H H':Hp}{a:Addr}{vs:List V}(e:Exv mu mu' H H')(h:SqT K H a vs):SqT K H' a vs:=by
 rcases h with h | h
 ·exact .inl (e.tup a vs h)
 ·exact .inr h
theorem RoL.exv {K:Fg1}{mu mu':List Addr}{H H':Hp}{a:Addr}{vs:List V}(e:Exv mu mu' H H')(h:RoL K H a vs):RoL K H' a vs:=by
 rcases h with ⟨o,h⟩ | h
 ·exact .inl ⟨o,e.frl a o _ h⟩
 ·exact .inr h
theorem Rep.exv {K:Fg1}{mu mu':List Addr}{H H':Hp}(e:Exv mu mu' H H'):∀ {d:D} {v:V},Rep K H mu d v->Rep K H' mu' d v:=fun h=>h.rec (motive_1:=fun d v _=>Rep K H' mu' d v) (motive_2:=fun ds vs _=>Reps K H' mu' ds vs)
  .non .bl .int .str (fun h _ ih=>.tup (SqT.exv e h) ih) (fun h _ ih=>.rol (RoL.exv e h) ih) (fun h=>.ref (e.at h)) (fun h=>.fn h) .nil (fun _ _ a b=>.cons a b)
theorem Reps.ind {K:Fg1}{mu:List Addr}{H:Hp}{P:(ds:List D)->(vs:List V)->Reps K H mu ds vs->Prop}(hn:P [] [] .nil)(hc:∀ {d v ds vs} (r:Rep K H mu d v) (t:Reps K H mu ds vs),P ds vs t->P (d::ds) (v::vs) (.cons r t)){ds:List D}{vs:List V}(h:Reps K H mu ds vs):P ds vs h:=
 h.rec (motive_1:=fun _ _ _=>True) (motive_2:=P) trivial (fun _=>trivial) (fun _=>trivial) (fun _=>trivial) (fun _ _ _=>trivial) (fun _ _ _=>trivial) (fun _=>trivial) (fun _=>trivial) hn (fun r t _ ih=>hc r t ih)
theorem Reps.exv {K:Fg1}{mu mu':List Addr}{H H':Hp}(e:Exv mu mu' H H'):∀ {ds:List D} {vs:List V},Reps K H mu ds vs->Reps K H' mu' ds vs:=fun h=>h.ind (P:=fun ds vs _=>Reps K H' mu' ds vs) .nil fun r _ ih=>.cons (Rep.exv e r) ih
section
variable {K:Fg1} {mu mu':List Addr} {H H':Hp} {a:Addr} {vs:List V}
theorem Rep.exw (e:Exw mu mu' H H'){d:D}{v:V}(h:Rep K H mu d v):Rep K H' mu' d v:=h.exv e.v
theorem Reps.exw (e:Exw mu mu' H H'){ds:List D}(h:Reps K H mu ds vs):Reps K H' mu' ds vs:=h.exv e.v
theorem Rep.ext (e:Ext mu mu' H H'){d:D}{v:V}(h:Rep K H mu d v):Rep K H' mu' d v:=h.exv e.v
theorem Reps.ext (e:Ext mu mu' H H'){ds:List D}(h:Reps K H mu ds vs):Reps K H' mu' ds vs:=h.exv e.v
end
section
variable {K:Fg1} {H:Hp} {mu:List Addr}
theorem Reps.length:∀ {ds:List D} {vs:List V},Reps K H mu ds vs->ds.length=vs.length:=fun h=>h.ind (P:=fun ds vs _=>ds.length=vs.length) rfl fun _ _ ih=>congrArg (· + 1) ih
theorem Reps.get:∀ {ds:List D} {vs:List V} {i:Nat} {d:D},Reps K H mu ds vs->ds[i]? = some d -> ∃ v,vs[i]? = some v/\Rep K H mu d v:=by
 intro ds vs i d h e
 induction h using Reps.ind generalizing i with
 | hn=>cases e
 | hc r t ih=>cases i with
  | zero=>cases e;exact ⟨_,rfl,r⟩
  | succ i=>exact ih (i:=i) e
theorem Reps.getV:∀ {ds:List D} {vs:List V} {i:Nat} {v:V},Reps K H mu ds vs->vs[i]? = some v -> ∃ d,ds[i]? = some d/\Rep K H mu d v:=by
 intro ds vs i d h e
 induction h using Reps.ind generalizing i with
 | hn=>cases e
 | hc r t ih=>cases i with
  | zero=>cases e;exact ⟨_,rfl,r⟩
  | succ i=>exact ih (i:=i) e
theorem Reps.append:∀ {ds es:List D} {vs ws:List V},Reps K H mu ds vs->Reps K H mu es ws->Reps K H mu (ds++es) (vs++ws):=fun h s=>h.ind (P:=fun ds vs _=>Reps K H mu (ds++_) (vs++_)) s fun r _ ih=>.cons r ih
theorem Reps.take:∀ {ds:List D} {vs:List V} (n:Nat),Reps K H mu ds vs->Reps K H mu (ds.take n) (vs.take n):=by
 intro ds vs n h
 induction h using Reps.ind generalizing n with
 | hn=>rw [List.take_nil,List.take_nil];exact .nil
 | hc r t ih=>cases n with
  | zero=>exact .nil
  | succ n=>exact .cons r (ih n)
theorem Reps.drop:∀ {ds:List D} {vs:List V} (n:Nat),Reps K H mu ds vs->Reps K H mu (ds.drop n) (vs.drop n):=by
 intro ds vs n h
 induction h using Reps.ind generalizing n with
 | hn=>rw [List.drop_nil,List.drop_nil];exact .nil
 | hc r t ih=>cases n with
  | zero=>exact .cons r t
  | succ n=>exact ih n
theorem Reps.set {d:D}{v:V}(r:Rep K H mu d v):∀ {ds:List D} {vs:List V} (i:Nat),Reps K H mu ds vs->Reps K H mu (ds.set i d) (vs.set i v):=by
 intro ds vs i h
 induction h using Reps.ind generalizing i with
 | hn=>exact .nil
 | hc q t ih=>cases i with
  | zero=>exact .cons r t
  | succ i=>exact .cons q (ih i)
theorem Reps.eraseIdx:∀ {ds:List D} {vs:List V} (i:Nat),Reps K H mu ds vs->Reps K H mu (ds.eraseIdx i) (vs.eraseIdx i):=by
 intro ds vs i h
 induction h using Reps.ind generalizing i with
 | hn=>exact .nil
 | hc q t ih=>cases i with
  | zero=>exact t
  | succ i=>exact .cons q (ih i)
end
noncomputable def KR {κ:Type}(K:Fg1)(H:Hp)(mu:List Addr):List (κ×D)->List (κ×V)->Prop:=Paired fun p q=>p.1=q.1/\Rep K H mu p.2 q.2
mutual
noncomputable def tkD:TK->D
 | .non=>.non
 | .int i=>.int i
 | .tup xs=>.tup (tkDs xs)
noncomputable def tkDs:List TK->List D
 | []=>[]
 | x::xs=>tkD x::tkDs xs
end
noncomputable def qey (a:Addr)(xs:List (TK×Addr×Value))(h:Heap):Prop:=(a == sysModules)=false/\(xs.map (·.1)).Nodup /\ ∃ o es ep,h.get? a=some o/\o.ExactDict/\o.data = .dict es ep/\es.toList=xs.map fun x=>(⟨x.1.hash,.ref x.2.1,x.2.2⟩:DictEntry)
noncomputable def qp1 (a:Addr)(xs:List (TK×Addr×Value))(o:Obj):Prop:=(a == sysModules)=false/\(xs.map (·.1)).Nodup/\o.ExactDict /\ ∃ es ep,o.data = .dict es ep/\es.toList=xs.map fun x=>(⟨x.1.hash,.ref x.2.1,x.2.2⟩:DictEntry)
noncomputable def KT (K:Fg1)(H:Hp)(mu:List Addr):List (TK×D)->List (TK×Addr×Value)->Prop:=Paired fun p q=>p.1=q.1/\p.1.dep<=8/\Rep K H mu (tkD p.1) (.ref q.2.1) /\ ∃ v,RelV v q.2.2/\Rep K H mu p.2 v
noncomputable def ObR (K:Fg1)(H:Hp)(mu:List Addr)(a:Addr):Ob->Prop
 | .lst ds=>∃ vs,H a=some (.lst vs)/\Reps K H mu ds vs
 | .dct kvs=>∃ ws,H a=some (.dK ws)/\KR K H mu kvs ws
 | .dcT kvs=>∃ xs,H a=some (.ext (qey a xs))/\KT K H mu kvs xs/\xs.length<=sizeLine
 | .iset xs=>H a=some (.set (fun k=>xs.contains k) xs.length)/\xs.Nodup
 | .dcF kvs=>∃ xs,(∃ o u,H a=some (.frz o u)/\qp1 a xs o)/\KT K H mu kvs xs/\xs.length<=sizeLine
structure Sim (K:Fg1)(H:Hp)(mu:List Addr)(S:Sto):Prop where
 len:mu.length=S.length
 nd:mu.Nodup
 ob:∀ (n:Nat) (o:Ob) (a:Addr),S[n]? = some o->mu[n]? = some a->ObR K H mu a o
structure EnvR (K:Fg1)(H:Hp)(mu:List Addr)(r:Ev)(σ:L2.St):Prop where
 len:r.length=σ.length
 val:∀ (i:Nat) (d:D),r[i]? = some (some d) -> ∃ v,σ[i]? = some (some v)/\Rep K H mu d v
theorem EnvR.ext {K:Fg1}{mu mu':List Addr}{H H':Hp}{r:Ev}{σ:L2.St}(e:Ext mu mu' H H')(h:EnvR K H mu r σ):EnvR K H' mu' r σ:=⟨h.len,fun i d q=>by
 obtain ⟨v,e1,r1⟩:=h.val i d q
 exact ⟨v,e1,r1.ext e⟩⟩
theorem KR.ext {κ:Type}{K:Fg1}{mu mu':List Addr}{H H':Hp}{ks:List (κ×D)}{ws:List (κ×V)}(e:Ext mu mu' H H')(h:KR K H mu ks ws):KR K H' mu' ks ws:=
 Paired.mapP h fun _ _ z=>⟨z.1,z.2.ext e⟩
theorem KT.ext {K:Fg1}{mu mu':List Addr}{H H':Hp}{ks:List (TK×D)}{ws:List (TK×Addr×Value)}(e:Ext mu mu' H H')(h:KT K H mu ks ws):KT K H' mu' ks ws:=
 Paired.mapP h fun _ _ ⟨z,d,k,v,rv,r⟩=>⟨z,d,k.ext e,v,rv,r.ext e⟩
theorem Sim.nil {K:Fg1}{H:Hp}:Sim K H [] []:=⟨rfl,List.nodup_nil,fun n o a h=>by simp at h⟩
theorem Sim.here {K:Fg1}{H:Hp}{mu:List Addr}{S:Sto}(s:Sim K H mu S){a:Addr}(h:a∈mu):∃ o,H a=some o:=by
 obtain ⟨n,hn⟩:=List.getElem?_of_mem h
 have hl:n<S.length:=by rw [<- s.len];exact (gE1.mp hn).1
 have q:=s.ob n _ a (gG1 hl) hn
 cases e:S[n] with
 | lst ds=>rw [e] at q;obtain ⟨vs,z,_⟩:=q;exact ⟨_,z⟩
 | dct ks=>rw [e] at q;obtain ⟨vs,z,_⟩:=q;exact ⟨_,z⟩
 | dcT ks=>rw [e] at q;obtain ⟨vs,z,_⟩:=q;exact ⟨_,z⟩
 | iset xs=>rw [e] at q;exact ⟨_,q.1⟩
 | dcF ks=>rw [e] at q;obtain ⟨vs,⟨_,_,z,_⟩,_⟩:=q;exact ⟨_,z⟩
noncomputable def Cont (K:Fg1)(mu:List Addr)(H:Hp)(d:D)(S':Sto)(Q:VK):Prop:=∀ v H' mu',Ext mu mu' H H'->Rep K H' mu' d v->Sim K H' mu' S'->Q v H'
inductive tM (K:Fg1)(m:FE)(σ:L2.St)(H:Hp)(Q:VK):Prop
 | mk (r:Ev) (mu:List Addr) (S:Sto) (d:D) (S':Sto) (he:EnvR K H mu r σ) (hs:Sim K H mu S) (hm:m r S=some (d,S')) (hc:Cont K mu H d S' Q)
inductive tMT (K:Fg1)(m:FT)(σ:L2.St)(H:Hp)(Q:Bool->Hp->Prop):Prop
 | mk (r:Ev) (mu:List Addr) (S:Sto) (b:Bool) (S':Sto) (he:EnvR K H mu r σ) (hs:Sim K H mu S) (hm:m r S=some (b,S')) (hc:∀ H' mu',Ext mu mu' H H'->Sim K H' mu' S'->Q b H')
inductive tMA (K:Fg1)(m:FA)(σ:L2.St)(H:Hp)(Q:List V->Hp->Prop):Prop
 | mk (r:Ev) (mu:List Addr) (S:Sto) (ds:List D) (S':Sto) (he:EnvR K H mu r σ) (hs:Sim K H mu S) (hm:m r S=some (ds,S')) (hc:∀ vs H' mu',Ext mu mu' H H'->Reps K H' mu' ds vs->Sim K H' mu' S'->Q vs H')
noncomputable def tMSC (K:Fg1)(mu:List Addr)(H:Hp)(r':Ev)(S':Sto)(E:Ends)(f:Fl):Prop:=match f with
 | .nx=>∀ σ' H' mu',Ext mu mu' H H'->EnvR K H' mu' r' σ'->Sim K H' mu' S'->E.nx σ' H'
 | .bk=>∀ σ' H' mu',Ext mu mu' H H'->EnvR K H' mu' r' σ'->Sim K H' mu' S'->E.bk σ' H'
 | .ct=>∀ σ' H' mu',Ext mu mu' H H'->EnvR K H' mu' r' σ'->Sim K H' mu' S'->E.ct σ' H'
 | .rt d=>Cont K mu H d S' E.rt
inductive tMS (K:Fg1)(m:FS)(E:Ends)(σ:L2.St)(H:Hp):Prop
 | mk (r:Ev) (mu:List Addr) (S:Sto) (f:Fl) (r':Ev) (S':Sto) (he:EnvR K H mu r σ) (hs:Sim K H mu S) (hm:m r S=some (f,r',S')) (hc:tMSC K mu H r' S' E f)
inductive rN (K:Fg1)(f:FN)(vs:List V)(H:Hp)(Q:VK):Prop
 | mk (mu:List Addr) (S:Sto) (ds:List D) (d:D) (S':Sto) (hr:Reps K H mu ds vs) (hs:Sim K H mu S) (hm:f ds S=some (d,S')) (hc:Cont K mu H d S' Q)
noncomputable abbrev ME (X:Cx)(e:Expr)(m:FE):Prop:=PE X e (tM X.K m)
noncomputable abbrev MT (X:Cx)(e:Expr)(m:FT):Prop:=PT X e (tMT X.K m)
noncomputable abbrev MW (X:Cx)(e:Expr)(m:FT):Prop:=PW X e (tMT X.K m)
noncomputable abbrev MA (X:Cx)(es:List Expr)(m:FA):Prop:=PA X es (tMA X.K m)
noncomputable abbrev MS (X:Cx)(st:Stmt)(m:FS):Prop:=PS X st (tMS X.K m)
noncomputable abbrev MSs (X:Cx)(st:List Stmt)(m:FS):Prop:=PSs X st (tMS X.K m)
section
variable {X:Cx} {e:Expr} {es:List Expr} {st:Stmt} {sts:List Stmt}
theorem qbj {t t':TE}(h:PE X e t)(i:∀ σ H Q,t' σ H Q->t σ H Q):PE X e t':=fun pins s σ H Q I q=>h pins s σ H Q I (i σ H Q q)
theorem qiE {t t':TT}(h:PT X e t)(i:∀ σ H Q,t' σ H Q->t σ H Q):PT X e t':=fun pins s σ H Q I q=>h pins s σ H Q I (i σ H Q q)
theorem qlz {t t':TT}(h:PW X e t)(i:∀ σ H Q,t' σ H Q->t σ H Q):PW X e t':=fun wh pins s σ H Q I q=>h wh pins s σ H Q I (i σ H Q q)
theorem qlB {t t':TA}(h:PA X es t)(i:∀ σ H Q,t' σ H Q->t σ H Q):PA X es t':=fun pos pins s σ H Q I q=>h pos pins s σ H Q I (i σ H Q q)
theorem qdj {t t':TS}(h:PS X st t)(i:∀ E σ H,t' E σ H->t E σ H):PS X st t':=fun pins s σ H E I q=>h pins s σ H E I (i E σ H q)
theorem qgx {t t':TS}(h:PSs X sts t)(i:∀ E σ H,t' E σ H->t E σ H):PSs X sts t':=fun pins s σ H E I q=>h pins s σ H E I (i E σ H q)
end
noncomputable def mV (i:Nat):FE:=fun r S=>match r[i]? with
 | some (some d)=>some (d,S)
 | _=>none
noncomputable def mC (d:D):FE:=fun _ S=>some (d,S)
section
variable {X:Cx} {pos:Pos}
theorem qo3 (i:Nat){x:Str}(hN:X.N[i]? = some x)(hv:Vis X.env.scope x)(hd:(x == ("__debug__":Str))=false:=by decide)(hcd:(x == ("__classdict__":Str))=false:=by decide):ME X (.Name x pos) (mV i):=
 qbj (qos hN hv hd hcd) <| by
  rintro σ H Q ⟨r,mu,S,d,S',he,hs,hm,hc⟩
  unfold mV at hm
  split at hm
  ·rename_i d' e
   cases hm
   obtain ⟨v,e1,r1⟩:=he.val i _ e
   exact ⟨v,e1,hc v H mu (.refl _ _) r1 hs⟩
  ·cases hm
theorem me_c {e:Expr}{v:V}(d:D)(h:PE X e (tC v))(hr:∀ H mu,Rep X.K H mu d v):ME X e (mC d):=
 qbj h <| by
  rintro σ H Q ⟨r,mu,S,d',S',he,hs,hm,hc⟩
  cases hm
  exact hc v H mu (.refl _ _) (hr H mu) hs
theorem qo9 {i:Int}{j}:ME X (.Constant (.int i) j pos) (mC (.int i)):=me_c _ qox fun _ _=>.int i
theorem qqG {b:Bool}{j}:ME X (.Constant (.bool b) j pos) (mC (.bl b)):=me_c _ qqt fun _ _=>.bl b
theorem qo7 {j}:ME X (.Constant .none j pos) (mC .non):=me_c _ qov fun _ _=>.non
theorem qo5 {x:Str}{j}:ME X (.Constant (.str x) j pos) (mC (.str x)):=me_c _ qou fun _ _=>.str x
end
noncomputable def mNil:FA:=fun _ S=>some ([],S)
noncomputable def qaa (m:FE)(n:FA):FA:=fun r S=>(m r S).bind fun p=>(n r p.2).bind fun q=>some (p.1::q.1,q.2)
section
variable {X:Cx} {pos:Pos} {e:Expr} {es:List Expr} {m:FE} {n:FA}
theorem qpc:MA X [] mNil:=qlB qiO <| by
 rintro σ H Q ⟨r,mu,S,ds,S',he,hs,hm,hc⟩
 cases hm
 exact hc [] H mu (.refl _ _) .nil hs
theorem qm5 (h:ME X e m)(ht:MA X es n)(hs:starEach (e::es) X.env=(false,eval e X.env)::starEach es X.env:=by rfl):MA X (e::es) (qaa m n):=
 qlB (qgy h ht hs) <| by
  rintro σ H Q ⟨r,mu,S,ds,S',he,hs,hm,hc⟩
  unfold qaa at hm
  obtain ⟨⟨d,S1⟩,e1,hm⟩:=oB1.mp hm
  obtain ⟨⟨ds1,S2⟩,e2,hm⟩:=oB1.mp hm
  cases hm
  refine ⟨r,mu,S,d,S1,he,hs,e1,fun v H1 mu1 x1 r1 s1=>?_⟩
  refine ⟨r,mu1,S1,ds1,_,he.ext x1,s1,e2,fun vs H2 mu2 x2 r2 s2=>?_⟩
  exact hc _ H2 mu2 (x1.trans x2) (.cons (r1.ext x2) r2) s2
end
noncomputable def m2 (f:FN)(a b:FE):FE:=fun r S=>(a r S).bind fun p=>(b r p.2).bind fun q=>f [p.1,q.1] q.2
noncomputable def m1 (f:FN)(a:FE):FE:=fun r S=>(a r S).bind fun p=>f [p.1] p.2
noncomputable def mN (f:FN)(a:FA):FE:=fun r S=>(a r S).bind fun p=>f p.1 p.2
noncomputable abbrev r2 (K:Fg1)(f:FN):R2:=fun x y H Q=>rN K f [x,y] H Q
section
variable {X:Cx} {K:Fg1} {f:FN} {a b:FE} {σ:L2.St} {H:Hp} {Q:VK}
theorem qkV (h:tM K (m2 f a b) σ H Q):tOp (r2 K f) (tM K a) (tM K b) σ H Q:=by
 obtain ⟨r,mu,S,d,S',he,hs,hm,hc⟩:=h
 obtain ⟨⟨d1,S1⟩,e1,hm⟩:=oB1.mp hm
 obtain ⟨⟨d2,S2⟩,e2,hm⟩:=oB1.mp hm
 refine ⟨r,mu,S,d1,S1,he,hs,e1,fun v H1 mu1 x1 r1 s1=>?_⟩
 refine ⟨r,mu1,S1,d2,S2,he.ext x1,s1,e2,fun u H2 mu2 x2 r2 s2=>?_⟩
 exact ⟨mu2,S2,[d1,d2],d,S',.cons (r1.ext x2) (.cons r2 .nil),s2,hm,fun v H3 mu3 x3 r3 s3=>hc v H3 mu3 ((x1.trans x2).trans x3) r3 s3⟩
theorem qkU {a:FA}(h:tM K (mN f a) σ H Q):tMA K a σ H fun vs H1=>rN K f vs H1 Q:=by
 obtain ⟨r,mu,S,d,S',he,hs,hm,hc⟩:=h
 obtain ⟨⟨d1,S1⟩,e1,hm⟩:=oB1.mp hm
 refine ⟨r,mu,S,d1,S1,he,hs,e1,fun v H1 mu1 x1 r1 s1=>?_⟩
 exact ⟨mu1,S1,d1,d,S',r1,s1,hm,fun v H3 mu3 x3 r3 s3=>hc v H3 mu3 (x1.trans x3) r3 s3⟩
theorem qqD {op:Operator}{x y:Expr}{pos:Pos}(ho:OpR X (binaryOp op) (r2 X.K f))(hx:ME X x a)(hy:ME X y b):ME X (.BinOp x op y pos) (m2 f a b):=qbj (qqq ho hx hy) fun _ _ _=>qkV
theorem qpa {op:CmpOp}{x y:Expr}{pos:Pos}(ho:OpR X (compareOp op) (r2 X.K f))(hx:ME X x a)(hy:ME X y b)(hm:behindInMarks op y=false):ME X (.Compare x [op] [y] pos) (m2 f a b):=qbj (qmE ho hx hy hm) fun _ _ _=>qkV
theorem qqE {x y:Expr}{pos:Pos}(ho:IxR X (r2 X.K f))(hx:ME X x a)(hy:ME X y b)(hs:qg6 y):ME X (.Subscript x y pos) (m2 f a b):=qbj (qqr ho hx hy hs) fun _ _ _=>qkV
theorem qkS {x:Str}{p pos:Pos}{e:Expr}{es:List Expr}{id:String}{a:FA}(hc:qbE X (.builtin id) (rN X.K f))(hg:Gl X x)(hm:X.mg x=none)(hv:bootBuiltins x=some (.builtin id))(ha:MA X (e::es) a)(hn:x≠"__name__":=by decide)(hdb:(x == ("__debug__":Str))=false:=by decide)
  (he:starEach (e::es) X.env=(false,eval e X.env)::starEach es X.env:=by rfl) (hpl:(backTo pos (starEach es X.env)).any (·.1)=false:=by rfl):ME X (.Call (.Name x p) (e::es) [] pos) (mN f a):=
 qbj (qkw hc hg hm hv ha hn hdb he hpl) fun _ _ _=>qkU
theorem qi2 {x:Str}{p pos:Pos}{e:Expr}{es:List Expr}{T:String}{a:FA}(hc:qbE X (.type T) (rN X.K f))(hg:Gl X x)(hm:X.mg x=none)(hv:bootBuiltins x=some (.type T))(ha:MA X (e::es) a)(hn:x≠"__name__":=by decide)(hdb:(x == ("__debug__":Str))=false:=by decide)
  (he:starEach (e::es) X.env=(false,eval e X.env)::starEach es X.env:=by rfl) (hpl:(backTo pos (starEach es X.env)).any (·.1)=false:=by rfl):ME X (.Call (.Name x p) (e::es) [] pos) (mN f a):=
 qbj (qef hc hg hm hv ha hn hdb he hpl) fun _ _ _=>qkU
end
noncomputable def mB (m:FE):FT:=fun r S=>(m r S).bind fun p=>match p.1 with
 | .bl b=>some (b,p.2)
 | _=>none
theorem qqH {K:Fg1}{m:FE}{σ:L2.St}{H:Hp}{Q:Bool->Hp->Prop}(h:tMT K (mB m) σ H Q):tB (tM K m) σ H Q:=by
 obtain ⟨r,mu,S,b,S',he,hs,hm,hc⟩:=h
 obtain ⟨⟨d1,S1⟩,e1,hm⟩:=oB1.mp hm
 cases d1 with
 | bl k=>
  cases hm
  refine ⟨r,mu,S,_,_,he,hs,e1,fun v H1 mu1 x1 r1 s1=>?_⟩
  cases r1
  exact ⟨_,rfl,hc H1 mu1 x1 s1⟩
 | _=>cases hm
noncomputable def mAnd (a b:FT):FT:=fun r S=>(a r S).bind fun p=>if p.1=true then b r p.2 else some (false,p.2)
noncomputable def mOr (a b:FT):FT:=fun r S=>(a r S).bind fun p=>if p.1=true then some (true,p.2) else b r p.2
noncomputable def mNot (a:FT):FT:=fun r S=>(a r S).bind fun p=>some (!p.1,p.2)
noncomputable def mAndV (a b:FE):FE:=fun r S=>(a r S).bind fun p=>match p.1 with
 | .bl c=>if c=true then b r p.2 else some (.bl false,p.2)
 | _=>none
noncomputable def mOrV (a b:FE):FE:=fun r S=>(a r S).bind fun p=>match p.1 with
 | .bl c=>if c=true then some (.bl true,p.2) else b r p.2
 | _=>none
noncomputable def mNotV (a:FE):FE:=fun r S=>(a r S).bind fun p=>match p.1 with
 | .bl c=>some (.bl (!c),p.2)
 | _=>none
noncomputable def mIf (c:FT)(a b:FE):FE:=fun r S=>(c r S).bind fun p=>if p.1=true then a r p.2 else b r p.2
section
variable {X:Cx} {x y c:Expr} {rest:List Expr} {pos:Pos} {a b:FT} {f g:FE}
theorem qoT {op:CmpOp}{f:FN}{a b:FE}(ho:OpR X (compareOp op) (r2 X.K f))(hx:ME X x a)(hy:ME X y b)(hm:behindInMarks op y=false):MT X (.Compare x [op] [y] pos) (mB (m2 f a b)):=
 qiE (qmn ho hx hy hm) fun σ H Q h=>by
  obtain ⟨r,mu,S,d,S',he,hs,hm,hc⟩:=qqH h
  exact qkV ⟨r,mu,S,d,S',he,hs,hm,fun v H' mu' x1 r1 s1=>hc v H' mu' x1 r1 s1⟩
theorem qmS (ha:MT X x a):MW X (.BoolOp .And [x] pos) a:=qml ha
theorem qoQ (ha:MT X x a):MW X (.BoolOp .Or [x] pos) a:=qoe ha
theorem qoR (ha:MT X x a)(hb:MW X (.BoolOp .And (y::rest) pos) b):MW X (.BoolOp .And (x::y::rest) pos) (mAnd a b):=
 qlz (qof ha hb) <| by
  rintro σ H Q ⟨r,mu,S,k,S',he,hs,hm,hc⟩
  obtain ⟨⟨b1,S1⟩,e1,hm⟩:=oB1.mp hm
  refine ⟨r,mu,S,b1,S1,he,hs,e1,fun H1 mu1 x1 s1=>?_⟩
  cases b1 with
  | true=>exact ⟨r,mu1,S1,k,S',he.ext x1,s1,hm,fun H2 mu2 x2 s2=>hc H2 mu2 (x1.trans x2) s2⟩
  | false=>cases hm;exact hc H1 mu1 x1 s1
theorem qqA (ha:MT X x a)(hb:MW X (.BoolOp .Or (y::rest) pos) b):MW X (.BoolOp .Or (x::y::rest) pos) (mOr a b):=
 qlz (qqm ha hb) <| by
  rintro σ H Q ⟨r,mu,S,k,S',he,hs,hm,hc⟩
  obtain ⟨⟨b1,S1⟩,e1,hm⟩:=oB1.mp hm
  refine ⟨r,mu,S,b1,S1,he,hs,e1,fun H1 mu1 x1 s1=>?_⟩
  cases b1 with
  | false=>exact ⟨r,mu1,S1,k,S',he.ext x1,s1,hm,fun H2 mu2 x2 s2=>hc H2 mu2 (x1.trans x2) s2⟩
  | true=>cases hm;exact hc H1 mu1 x1 s1
theorem mt_w (h:MW X x a):MT X x a:=PW.pt h
theorem qoS (ha:MT X x a):MT X (.UnaryOp .Not x pos) (mNot a):=
 qiE (qoh ha) <| by
  rintro σ H Q ⟨r,mu,S,k,S',he,hs,hm,hc⟩
  obtain ⟨⟨b1,S1⟩,e1,hm⟩:=oB1.mp hm
  cases hm
  exact ⟨r,mu,S,b1,S1,he,hs,e1,fun H1 mu1 x1 s1=>hc H1 mu1 x1 s1⟩
theorem qqF (hc:MT X c a)(hx:ME X x f)(hy:ME X y g):ME X (.IfExp c x y pos) (mIf a f g):=
 qbj (qkt hc hx hy) <| by
  rintro σ H Q ⟨r,mu,S,k,S',he,hs,hm,hc⟩
  obtain ⟨⟨b1,S1⟩,e1,hm⟩:=oB1.mp hm
  refine ⟨r,mu,S,b1,S1,he,hs,e1,fun H1 mu1 x1 s1=>?_⟩
  cases b1 with
  | true=>exact ⟨r,mu1,S1,k,S',he.ext x1,s1,hm,fun v2 H2 mu2 x2 r2 s2=>hc v2 H2 mu2 (x1.trans x2) r2 s2⟩
  | false=>exact ⟨r,mu1,S1,k,S',he.ext x1,s1,hm,fun v2 H2 mu2 x2 r2 s2=>hc v2 H2 mu2 (x1.trans x2) r2 s2⟩
end
section
variable {X:Cx} {x y z:Expr} {pos:Pos} {f g:FN} {a b c:FE} {op op':CmpOp}
end
mutual
noncomputable def D.und (n:Nat):D->Bool
 | .tup xs=>D.unds n xs
 | .rol xs=>D.unds n xs
 | .ref k=>decide (k<n)
 | .non=>true
 | .bl _=>true
 | .int _=>true
 | .str _=>true
 | .fn _=>true
noncomputable def D.unds (n:Nat):List D->Bool
 | []=>true
 | d::ds=>D.und n d&&D.unds n ds
end
noncomputable def D.sames (a b:List D):Bool:=@decide (a=b) (Classical.propDecidable _)
theorem D.sames_eq {a b:List D}(h:D.sames a b=true):a=b:=@of_decide_eq_true _ (Classical.propDecidable _) h
theorem D.sames_refl (a:List D):D.sames a a=true:=@decide_eq_true _ (Classical.propDecidable _) rfl
section
variable {K:Fg1} {H:Hp} {mu mu':List Addr}
theorem Rep.cut {n:Nat}(h:∀ k,k<n->mu[k]? = mu'[k]?):∀ {d:D} {v:V},Rep K H mu d v->d.und n=true->Rep K H mu' d v:=fun h0=>h0.rec (motive_1:=fun d v _=>d.und n=true->Rep K H mu' d v) (motive_2:=fun ds vs _=>D.unds n ds=true->Reps K H mu' ds vs)
  (fun _=>.non) (fun b _=>.bl b) (fun i _=>.int i) (fun x _=>.str x) (fun q _ ih e=>.tup q (ih (by rw [D.und] at e;exact e))) (fun q _ ih e=>.rol q (ih (by rw [D.und] at e;exact e)))
  (fun q e=>.ref (by rw [D.und] at e;rw [<- h _ (of_decide_eq_true e)];exact q)) (fun q _=>.fn q) (fun _=>.nil) (fun _ _ a b e=>by rw [D.unds,bA1] at e;exact .cons (a e.1) (b e.2))
theorem Reps.cut {n:Nat}(h:∀ k,k<n->mu[k]? = mu'[k]?):∀ {ds:List D} {vs:List V},Reps K H mu ds vs->D.unds n ds=true->Reps K H mu' ds vs:=fun h0=>h0.ind (P:=fun ds vs _=>D.unds n ds=true->Reps K H mu' ds vs) (fun _=>.nil) fun r _ b e=>by rw [D.unds,bA1] at e;exact .cons (Rep.cut h r e.1) (b e.2)
end
noncomputable def Ob.und (n:Nat):Ob->Bool
 | .lst xs=>D.unds n xs
 | .dct kvs=>D.unds n (kvs.map (·.2))
 | .dcT kvs=>D.unds n (kvs.map (·.2))
 | .iset _=>true
 | .dcF kvs=>D.unds n (kvs.map (·.2))
theorem KR.cut {κ:Type}{K:Fg1}{H:Hp}{mu mu':List Addr}{n:Nat}(h:∀ k,k<n->mu[k]? = mu'[k]?):∀ {ks:List (κ×D)} {ws:List (κ×V)},KR K H mu ks ws->D.unds n (ks.map (·.2))=true->KR K H mu' ks ws:=by
 intro ks ws h0 e
 induction h0 with
 | nil=>exact .nil
 | cons r t ih=>
  rw [mP1,D.unds,bA1] at e
  exact .cons ⟨r.1,r.2.cut h e.1⟩ (ih e.2)
mutual
theorem qlr (n:Nat):∀ k:TK,(tkD k).und n=true
 | .non=>rfl
 | .int _=>rfl
 | .tup xs=>by rw [tkD,D.und];exact qit n xs
theorem qit (n:Nat):∀ ks:List TK,D.unds n (tkDs ks)=true
 | []=>rfl
 | x::xs=>by rw [tkDs,D.unds,qlr n x,qit n xs];rfl
end
theorem KT.cut {K:Fg1}{H:Hp}{mu mu':List Addr}{n:Nat}(h:∀ k,k<n->mu[k]? = mu'[k]?):∀ {ks:List (TK×D)} {ws:List (TK×Addr×Value)},KT K H mu ks ws->D.unds n (ks.map (·.2))=true->KT K H mu' ks ws:=by
 intro ks ws h0 e
 induction h0 with
 | nil=>exact .nil
 | cons r t ih=>
  rw [mP1,D.unds,bA1] at e
  obtain ⟨z,d,k,v,rv,r⟩:=r
  exact .cons ⟨z,d,k.cut h (qlr n _),v,rv,r.cut h e.1⟩ (ih e.2)
theorem ObR.cut {K:Fg1}{H:Hp}{mu mu':List Addr}{n:Nat}{a:Addr}(h:∀ k,k<n->mu[k]? = mu'[k]?):∀ {o:Ob},ObR K H mu a o->o.und n=true->ObR K H mu' a o
 | .lst _,⟨vs,e,r⟩,b=>⟨vs,e,r.cut h b⟩
 | .dct _,⟨ws,e,r⟩,b=>⟨ws,e,KR.cut h r b⟩
 | .dcT _,⟨ws,e,r,l⟩,b=>⟨ws,e,KT.cut h r b,l⟩
 | .iset _,q,_=>q
 | .dcF _,⟨ws,e,r,l⟩,b=>⟨ws,e,KT.cut h r b,l⟩
noncomputable def gc (n:Nat)(p:D×Sto):D×Sto:=if p.1.und n&&(p.2.take n).all (Ob.und n) then (p.1,p.2.take n) else p
mutual
noncomputable def D.sh (n:Nat):D->D
 | .tup xs=>.tup (D.shs n xs)
 | .rol xs=>.rol (D.shs n xs)
 | .ref k=>.ref (n+k)
 | .fn x=>.fn x
 | .non=>.non
 | .bl b=>.bl b
 | .int i=>.int i
 | .str x=>.str x
noncomputable def D.shs (n:Nat):List D->List D
 | []=>[]
 | d::ds=>D.sh n d::D.shs n ds
end
noncomputable def Ob.sh (n:Nat):Ob->Ob
 | .lst xs=>.lst (D.shs n xs)
 | .dct kvs=>.dct (kvs.map fun p=>(p.1,p.2.sh n))
 | .dcT kvs=>.dcT (kvs.map fun p=>(p.1,p.2.sh n))
 | .iset xs=>.iset xs
 | .dcF kvs=>.dcF (kvs.map fun p=>(p.1,p.2.sh n))
theorem Rep.sh {K:Fg1}{H:Hp}{mu mu':List Addr}:∀ {d:D} {v:V},Rep K H mu' d v->Rep K H (mu++mu') (d.sh mu.length) v:=fun h0=>h0.rec (motive_1:=fun d v _=>Rep K H (mu++mu') (d.sh mu.length) v) (motive_2:=fun ds vs _=>Reps K H (mu++mu') (D.shs mu.length ds) vs)
  .non .bl .int .str (fun h _ ih=>.tup h ih) (fun h _ ih=>.rol h ih) (fun h=>.ref (by rw [gR1 (Nat.le_add_right _ _),Nat.add_sub_cancel_left];exact h)) (fun h=>.fn h) .nil (fun _ _ a b=>.cons a b)
theorem Reps.sh {K:Fg1}{H:Hp}{mu mu':List Addr}:∀ {ds:List D} {vs:List V},Reps K H mu' ds vs->Reps K H (mu++mu') (D.shs mu.length ds) vs:=fun h=>h.ind (P:=fun ds vs _=>Reps K H (mu++mu') (D.shs mu.length ds) vs) .nil fun r _ ih=>.cons (Rep.sh r) ih
theorem KR.sh {κ:Type}{K:Fg1}{H:Hp}{mu mu':List Addr}:∀ {ks:List (κ×D)} {ws:List (κ×V)},KR K H mu' ks ws->KR K H (mu++mu') (ks.map fun p=>(p.1,p.2.sh mu.length)) ws:=by
 intro ks ws h
 induction h with
 | nil=>exact .nil
 | cons r t ih=>exact .cons ⟨r.1,r.2.sh⟩ ih
mutual
theorem qnO (n:Nat):∀ k:TK,(tkD k).sh n=tkD k
 | .non=>rfl
 | .int _=>rfl
 | .tup xs=>by rw [tkD,D.sh,qlp n xs]
theorem qlp (n:Nat):∀ ks:List TK,D.shs n (tkDs ks)=tkDs ks
 | []=>rfl
 | x::xs=>by rw [tkDs,D.shs,qnO n x,qlp n xs]
end
theorem KT.sh {K:Fg1}{H:Hp}{mu mu':List Addr}:∀ {ks:List (TK×D)} {ws:List (TK×Addr×Value)},KT K H mu' ks ws->KT K H (mu++mu') (ks.map fun p=>(p.1,p.2.sh mu.length)) ws:=by
 intro ks ws h
 induction h with
 | nil=>exact .nil
 | cons r t ih=>
  obtain ⟨z,d,k,v,rv,r⟩:=r
  exact .cons ⟨z,d,by have:=k.sh (mu:=mu);rw [qnO] at this;exact this,v,rv,r.sh⟩ ih
theorem ObR.sh {K:Fg1}{H:Hp}{mu mu':List Addr}{a:Addr}:∀ {o:Ob},ObR K H mu' a o->ObR K H (mu++mu') a (o.sh mu.length)
 | .lst _,⟨vs,e,r⟩=>⟨vs,e,r.sh⟩
 | .dct _,⟨ws,e,r⟩=>⟨ws,e,KR.sh r⟩
 | .dcT _,⟨ws,e,r,l⟩=>⟨ws,e,KT.sh r,l⟩
 | .iset _,q=>q
 | .dcF _,⟨ws,e,r,l⟩=>⟨ws,e,KT.sh r,l⟩
theorem Rep.mor {K:Fg1}{H:Hp}{mu:List Addr}(mu':List Addr):∀ {d:D} {v:V},Rep K H mu d v->Rep K H (mu++mu') d v:=fun h=>h.exv ⟨List.prefix_append _ _,fun _ _ h=>h,fun _ _ _ h=>h⟩
theorem Reps.mor {K:Fg1}{H:Hp}{mu:List Addr}(mu':List Addr):∀ {ds:List D} {vs:List V},Reps K H mu ds vs->Reps K H (mu++mu') ds vs:=fun h=>h.exv ⟨List.prefix_append _ _,fun _ _ h=>h,fun _ _ _ h=>h⟩
theorem KR.mor {κ:Type}{K:Fg1}{H:Hp}{mu:List Addr}(mu':List Addr){ks:List (κ×D)}{ws:List (κ×V)}(h:KR K H mu ks ws):KR K H (mu++mu') ks ws:=Paired.mapP h fun _ _ z=>⟨z.1,z.2.mor mu'⟩
theorem ObR.mor {K:Fg1}{H:Hp}{mu:List Addr}{a:Addr}(mu':List Addr):∀ {o:Ob},ObR K H mu a o->ObR K H (mu++mu') a o
 | .lst _,⟨vs,e,r⟩=>⟨vs,e,r.mor mu'⟩
 | .dct _,⟨ws,e,r⟩=>⟨ws,e,KR.mor mu' r⟩
 | .dcT _,⟨ws,e,r,l⟩=>⟨ws,e,Paired.mapP r fun _ _ ⟨z,d,k,v,rv,r⟩=>⟨z,d,k.mor mu',v,rv,r.mor mu'⟩,l⟩
 | .iset _,q=>q
 | .dcF _,⟨ws,e,r,l⟩=>⟨ws,e,Paired.mapP r fun _ _ ⟨z,d,k,v,rv,r⟩=>⟨z,d,k.mor mu',v,rv,r.mor mu'⟩,l⟩
noncomputable def qif (f:FN):FN:=fun ds S=>if D.unds 0 ds=true then (f ds []).map fun p=>if p.1.und 0=true then (p.1,S) else (p.1.sh S.length,S++p.2.map (Ob.sh S.length)) else (f ds S).map (gc S.length)
theorem ObR.keep {K:Fg1}{H H':Hp}{mu:List Addr}{a:Addr}(e:Ext mu mu H H')(h:∀ o,H a=some o->H' a=some o):∀ {o:Ob},ObR K H mu a o->ObR K H' mu a o
 | .lst _,⟨vs,q,r⟩=>⟨vs,h _ q,r.ext e⟩
 | .dct _,⟨ws,q,r⟩=>⟨ws,h _ q,KR.ext e r⟩
 | .dcT _,⟨ws,q,r,l⟩=>⟨ws,h _ q,KT.ext e r,l⟩
 | .iset _,q=>⟨h _ q.1,q.2⟩
 | .dcF _,⟨ws,⟨o,u,e1,e2⟩,r,l⟩=>⟨ws,⟨o,u,h _ e1,e2⟩,KT.ext e r,l⟩
theorem qhN {K:Fg1}{f:FN}{vs:List V}{H:Hp}{Q:VK}(h:rN K (qif f) vs H Q):rN K f vs H Q:=by
 obtain ⟨mu,S,ds,d,S',hr,hs,hm,hc⟩:=h
 unfold qif at hm
 split at hm
 ·rename_i hb
  obtain ⟨⟨d1,S1⟩,e1,hm⟩:=oM1.mp hm
  refine ⟨[],[],ds,d1,S1,hr.cut (n:=0) (fun k hk=>absurd hk (Nat.not_lt_zero _)) hb,.nil,e1,fun v H' mu' x r s=>?_⟩
  have x':Ext mu mu H H':=⟨List.prefix_rfl,fun a o e _=>x.old a o e (by simp),x.tup,x.frz,fun _ z=>.inl z⟩
  dsimp only at hm
  split at hm
  ·rename_i hd
   cases hm
   refine hc v H' mu x' (r.cut (n:=0) (fun k hk=>absurd hk (Nat.not_lt_zero _)) hd) ⟨hs.len,hs.nd,fun n o a h1 h2=>?_⟩
   exact (hs.ob n o a h1 h2).keep x' fun o e=>x.old a o e (by simp)
  ·cases hm
   have fr:∀ a∈mu',H a=none:=fun a ha=>(x.new a ha).resolve_left (by simp)
   have x2:Ext mu (mu++mu') H H':=⟨List.prefix_append _ _,fun a o e _=>x.old a o e (by simp),x.tup,x.frz,fun a z=>by
    rcases List.mem_append.mp z with z | z
    ·exact .inl z
    ·exact .inr (fr a z)⟩
   refine hc v H' (mu++mu') x2 (by rw [<- hs.len];exact r.sh) ⟨by rw [lA1,lA1,lM1,hs.len,s.len],?_,fun n o a h1 h2=>?_⟩
   ·refine List.nodup_append.mpr ⟨hs.nd,s.nd,fun a ha b hb z=>?_⟩
    subst z
    obtain ⟨o,e⟩:=hs.here ha
    rw [fr a hb] at e;cases e
   ·by_cases hn:n<S.length
    ·rw [gL1 hn] at h1
     rw [gL1 (by rw [hs.len];exact hn)] at h2
     exact ((hs.ob n o a h1 h2).keep x' fun o e=>x.old a o e (by simp)).mor mu'
    ·have hn':=Nat.le_of_not_lt hn
     rw [gR1 hn'] at h1
     rw [gR1 (by rw [hs.len];exact hn')] at h2
     rw [gP1] at h1
     obtain ⟨o1,g1,g2⟩:=oM1.mp h1
     subst g2
     have q:=s.ob (n-S.length) o1 a g1 (by rw [hs.len] at h2;exact h2)
     rw [<- hs.len]
     exact q.sh
 ·obtain ⟨⟨d1,S1⟩,e1,hm⟩:=oM1.mp hm
  refine ⟨mu,S,ds,d1,S1,hr,hs,e1,fun v H' mu' x r s=>?_⟩
  unfold gc at hm
  split at hm
  ·rename_i hb
   cases hm
   rw [bA1] at hb
   have hk:∀ k,k<S.length->mu'[k]? = mu[k]?:=fun k hk=>by
    obtain ⟨t,rfl⟩:=x.pre
    rw [gL1 (by rw [hs.len];exact hk)]
   refine hc v H' mu x.back (r.cut hk hb.1) ⟨?_,hs.nd,fun n o a h1 h2=>?_⟩
   ·have:=s.len
    have h3:=x.pre.length_le
    rw [List.length_take,<- s.len]
    rw [hs.len] at h3 ⊢
    exact (Nat.min_eq_left h3).symm
   ·have hn:n<S.length:=by rw [<- hs.len];exact (gE1.mp h2).1
    have h1':S1[n]? = some o:=by rw [List.getElem?_take_of_lt hn] at h1;exact h1
    refine (s.ob n o a h1' ((hk n hn).trans h2)).cut hk ?_
    exact List.all_eq_true.mp hb.2 o (gM1 h1)
  ·cases hm
   exact hc v H' mu' x r s
noncomputable def spM (K:Fg1)(n:Nat)(f:FN):Sp:=fun vs H Q _=>vs.length=n/\rN K f vs H Q
section
variable {X:Cx} {k n:Nat} {f:Addr} {fd:FuncData} {ps:List Str} {x:Str} {p pos:Pos} {e:Expr} {es:List Expr} {m:FN} {a:FA}
noncomputable def qaj (n:Nat)(f:FN):FN:=fun ds S=>if ds.length=n then qif f ds S else none
theorem qm4 (F:FnOk X.prog X.w X.K X.mg X.base CX0 k f fd ps (spM X.K n m))(hr:Room k X.A)(hg:Gl X x)(hm:X.mg x=some (.ref f))(hk:wK1 X.K (.ref f)=true)(hb:qa6 X.K fd ps [])
  (ha:MA X (e::es) a) (hdb:(x == ("__debug__":Str))=false:=by decide) (he:starEach (e::es) X.env=(false,eval e X.env)::starEach es X.env:=by rfl) (hpl:(backTo pos (starEach es X.env)).any (·.1)=false:=by rfl):
  ME X (.Call (.Name x p) (e::es) [] pos) (mN (qaj n m) a):=
 qbj (qmF (E:=E0) F hr hg hm hk hb .nil qoz ha hdb he hpl) fun σ H Q h=>by
  obtain ⟨r,mu,S,ds,S',he,hs,hm,hc⟩:=qkU h
  refine ⟨r,mu,S,ds,S',he,hs,hm,fun vs H' mu' x1 r1 s1=>?_⟩
  have q:=hc vs H' mu' x1 r1 s1
  show spM X.K n m (vs++[]) H' Q E0
  rw [List.append_nil]
  obtain ⟨mu2,S2,ds2,d2,S3,h1,h2,h3,h4⟩:=q
  unfold qaj at h3
  split at h3
  ·rename_i hl
   exact ⟨by rw [<- h1.length];exact hl,qhN ⟨mu2,S2,ds2,d2,S3,h1,h2,h3,h4⟩⟩
  ·cases h3
end
noncomputable def mNx:FS:=fun r S=>some (.nx,r,S)
noncomputable def mSeq (a b:FS):FS:=fun r S=>(a r S).bind fun p=>match p.1 with
 | .nx=>b p.2.1 p.2.2
 | f=>some (f,p.2.1,p.2.2)
noncomputable def mRet (m:FE):FS:=fun r S=>(m r S).bind fun p=>some (.rt p.1,r,p.2)
noncomputable def mRetN:FS:=fun r S=>some (.rt .non,r,S)
noncomputable def qbQ (m:FE):FS:=fun r S=>(m r S).bind fun p=>some (.nx,r,p.2)
noncomputable def mIfS (c:FT)(a b:FS):FS:=fun r S=>(c r S).bind fun p=>if p.1=true then a r p.2 else b r p.2
section
variable {X:Cx} {pos:Pos} {e c:Expr} {st:Stmt} {rest as bs:List Stmt} {a b:FS} {m:FE} {t:FT}
theorem qmU:MSs X [] mNx:=qgx qmp <| by
 rintro E σ H ⟨r,mu,S,f,r',S',he,hs,hm,hc⟩
 cases hm;exact hc σ H mu (.refl _ _) he hs
theorem qkM (h1:MS X st a)(h2:MSs X rest b):MSs X (st::rest) (mSeq a b):=qgx (qkj h1 h2) <| by
 rintro E σ H ⟨r,mu,S,f,r',S',he,hs,hm,hc⟩
 obtain ⟨⟨f1,r1,S1⟩,e1,hm⟩:=oB1.mp hm
 refine ⟨r,mu,S,f1,r1,S1,he,hs,e1,?_⟩
 cases f1 with
 | nx=>
  intro σ1 H1 mu1 x1 he1 hs1
  refine ⟨r1,mu1,S1,f,r',S',he1,hs1,hm,?_⟩
  cases f with
  | nx=>exact fun σ2 H2 mu2 x2=>hc σ2 H2 mu2 (x1.trans x2)
  | bk=>exact fun σ2 H2 mu2 x2=>hc σ2 H2 mu2 (x1.trans x2)
  | ct=>exact fun σ2 H2 mu2 x2=>hc σ2 H2 mu2 (x1.trans x2)
  | rt d=>exact fun v H2 mu2 x2=>hc v H2 mu2 (x1.trans x2)
 | bk=>cases hm;exact hc
 | ct=>cases hm;exact hc
 | rt d=>cases hm;exact hc
theorem qmT (h1:MS X st a):MSs X [st] a:=qmo h1
theorem qmV (h:ME X e m)(hs:swapsWith e none pos.line X.env=pure false:=by rfl):MS X (.Expr e pos) (qbQ m):=qdj (qmq h hs) <| by
 rintro E σ H ⟨r,mu,S,f,r',S',he,hs,hm,hc⟩
 obtain ⟨⟨d,S1⟩,e1,hm⟩:=oB1.mp hm
 cases hm
 exact ⟨r,mu,S,d,_,he,hs,e1,fun v H' mu' x r1 s1=>hc σ H' mu' x (he.ext x) s1⟩
theorem qoV (h:ME X e m):MS X (.Return (some e) pos) (mRet m):=qdj (qoj h) <| by
 rintro E σ H ⟨r,mu,S,f,r',S',he,hs,hm,hc⟩
 obtain ⟨⟨d,S1⟩,e1,hm⟩:=oB1.mp hm
 cases hm
 exact ⟨r,mu,S,d,_,he,hs,e1,hc⟩
theorem qqB (hc:MT X c t)(ha:MSs X as a)(hb:MSs X bs b):MS X (.If c as bs pos) (mIfS t a b):=qdj (qqo hc ha hb) <| by
 rintro E σ H ⟨r,mu,S,f,r',S',he,hs,hm,hc⟩
 obtain ⟨⟨k,S1⟩,e1,hm⟩:=oB1.mp hm
 refine ⟨r,mu,S,k,S1,he,hs,e1,fun H1 mu1 x1 s1=>?_⟩
 have go:∀ c:FS,c r S1=some (f,r',S')->tMS X.K c E σ H1:=fun c hm=>by
  refine ⟨r,mu1,S1,f,r',S',he.ext x1,s1,hm,?_⟩
  cases f with
  | nx=>exact fun σ2 H2 mu2 x2=>hc σ2 H2 mu2 (x1.trans x2)
  | bk=>exact fun σ2 H2 mu2 x2=>hc σ2 H2 mu2 (x1.trans x2)
  | ct=>exact fun σ2 H2 mu2 x2=>hc σ2 H2 mu2 (x1.trans x2)
  | rt d=>exact fun v H2 mu2 x2=>hc v H2 mu2 (x1.trans x2)
 cases k with
 | true=>exact go a hm
 | false=>exact go b hm
end
noncomputable abbrev FG:=D->Ev->Sto->Option (Ev×Sto)
noncomputable abbrev FGs:=List D->Ev->Sto->Option (Ev×Sto)
inductive tMG (K:Fg1)(g:FG)(v:V)(σ:L2.St)(H:Hp)(Q:L2.St->Hp->Prop):Prop
 | mk (r:Ev) (mu:List Addr) (S:Sto) (d:D) (r':Ev) (S':Sto) (he:EnvR K H mu r σ) (hs:Sim K H mu S) (hr:Rep K H mu d v) (hm:g d r S=some (r',S')) (hc:∀ σ' H' mu',Ext mu mu' H H'->EnvR K H' mu' r' σ'->Sim K H' mu' S'->Q σ' H')
inductive tMGs (K:Fg1)(g:FGs)(vs:List V)(σ:L2.St)(H:Hp)(Q:L2.St->Hp->Prop):Prop
 | mk (r:Ev) (mu:List Addr) (S:Sto) (ds:List D) (r':Ev) (S':Sto) (he:EnvR K H mu r σ) (hs:Sim K H mu S) (hr:Reps K H mu ds vs) (hm:g ds r S=some (r',S')) (hc:∀ σ' H' mu',Ext mu mu' H H'->EnvR K H' mu' r' σ'->Sim K H' mu' S'->Q σ' H')
noncomputable abbrev MG (X:Cx)(e:Expr)(g:FG):Prop:=PG X e (tMG X.K g)
noncomputable abbrev MGs (X:Cx)(es:List Expr)(g:FGs):Prop:=PGs X es (tMGs X.K g)
noncomputable def gN (i:Nat):FG:=fun d r S=>some (r.set i (some d),S)
noncomputable def gNl:FGs:=fun ds r S=>match ds with
 | []=>some (r,S)
 | _=>none
noncomputable def gCs (g:FG)(gs:FGs):FGs:=fun ds r S=>match ds with
 | d::ds=>(g d r S).bind fun p=>gs ds p.1 p.2
 | []=>none
noncomputable def gT (n:Nat)(gs:FGs):FG:=fun d r S=>match d with
 | .tup ds=>if ds.length=n then gs ds r S else none
 | _=>none
theorem EnvR.set {K:Fg1}{H:Hp}{mu:List Addr}{r:Ev}{σ:L2.St}{i:Nat}{d:D}{v:V}(h:EnvR K H mu r σ)(q:Rep K H mu d v):EnvR K H mu (r.set i (some d)) (σ.set i (some v)):=by
 refine ⟨by rw [List.length_set,List.length_set];exact h.len,fun j d' e=>?_⟩
 by_cases hj:i=j
 ·subst hj
  have hl:i<r.length:=by
   have:=(gE1.mp e).1
   rwa [List.length_set] at this
  rw [List.getElem?_set_self hl] at e
  cases e
  exact ⟨v,List.getElem?_set_self (by rw [<- h.len];exact hl),q⟩
 ·rw [gS1 hj] at e
  obtain ⟨v',e1,r1⟩:=h.val j d' e
  exact ⟨v',by rw [gS1 hj];exact e1,r1⟩
section
variable {X:Cx} {pos:Pos}
theorem qiL {e:Expr}{t t':TG}(h:PG X e t)(i:∀ v σ H Q,t' v σ H Q->t v σ H Q):PG X e t':=fun pins s σ H v u Q I r q=>h pins s σ H v u Q I r (i v σ H Q q)
theorem qiJ {e:List Expr}{t t':TGs}(h:PGs X e t)(i:∀ v σ H Q,t' v σ H Q->t v σ H Q):PGs X e t':=fun pins s σ H v u Q I r q=>h pins s σ H v u Q I r (i v σ H Q q)
theorem qm2 (i:Nat){x:Str}(hN:X.N.Nodup)(hi:X.N[i]? = some x)(hx:Loc X.env.scope x)(hf:X.fn x=true\/X.env.scope.names.lookup x=some .local:=by first | exact .inl rfl | exact .inr rfl | assumption):MG X (.Name x pos) (gN i):=
 qiL (qiK hN hi hx hf) <| by
  rintro v σ H Q ⟨r,mu,S,d,r',S',he,hs,hr,hm,hc⟩
  cases hm
  exact hc _ H mu (.refl _ _) (he.set hr) hs
theorem qm1:MGs X [] gNl:=qiJ qmA <| by
 rintro vs σ H Q ⟨r,mu,S,ds,r',S',he,hs,hr,hm,hc⟩
 unfold gNl at hm
 split at hm
 ·cases hm;cases hr
  exact ⟨rfl,hc σ H mu (.refl _ _) he hs⟩
 ·cases hm
theorem qkO {e:Expr}{es:List Expr}{g:FG}{gs:FGs}(h1:MG X e g)(h2:MGs X es gs)(hs:(assignEach (e::es) X.env).map (·.2)=assign e X.env::(assignEach es X.env).map (·.2):=by rfl):MGs X (e::es) (gCs g gs):=
 qiJ (qkr h1 h2 hs) <| by
  rintro vs σ H Q ⟨r,mu,S,ds,r',S',he,hs,hr,hm,hc⟩
  unfold gCs at hm
  split at hm
  ·obtain ⟨⟨r1,S1⟩,e1,hm⟩:=oB1.mp hm
   cases hr with
   | cons q t=>
    exact ⟨_,_,rfl,r,mu,S,_,r1,S1,he,hs,q,e1,fun σ1 H1 mu1 x1 he1 s1=>⟨r1,mu1,S1,_,r',S',he1,s1,t.ext x1,hm,fun σ2 H2 mu2 x2=>hc σ2 H2 mu2 (x1.trans x2)⟩⟩
  ·cases hm
theorem qo0 {es:List Expr}{k:Nat}{gs:FGs}{n:Nat}(hc:X.calm=true)(h:MGs X es gs)(hn:(assignEach es X.env).length=n:=by rfl)(hst:(assignEach es X.env).findIdx? (·.1)=none:=by rfl):MG X (.Tuple es k pos) (gT n gs):=
 qiL (qoq hc h hn hst) <| by
  rintro v σ H Q ⟨r,mu,S,d,r',S',he,hs,hr,hm,hc⟩
  cases d with
  | tup ds=>
   rw [gT] at hm
   split at hm
   ·rename_i hl
    cases hr with
    | tup q t=>exact ⟨_,_,rfl,q,by rw [<- t.length];exact hl,r,mu,S,ds,r',S',he,hs,t,hm,hc⟩
   ·cases hm
  | _=>cases hm
inductive rU (K:Fg1)(f:FN)(o i v:V)(H:Hp)(Q:Hp->Prop):Prop
 | mk (mu:List Addr) (S:Sto) (ds:List D) (d:D) (S':Sto) (hr:Reps K H mu ds [o,i,v]) (hs:Sim K H mu S) (hm:f ds S=some (d,S')) (hc:∀ H' mu',Ext mu mu' H H'->Sim K H' mu' S'->Q H')
noncomputable def gS (f:FN)(a b:FE):FG:=fun d r S=>(a r S).bind fun p=>(b r p.2).bind fun q=>(f [p.1,q.1,d] q.2).bind fun t=>some (r,t.2)
theorem qo1 {o i:Expr}{a b:FE}{f:FN}(ho:ME X o a)(hi:ME X i b)(hs:PSet X (rU X.K f))
  (ha:∀ v,assign (.Subscript o i pos) X.env v=(do
   let ov<-holding [v] (eval o X.env)
   let iv<-holding [v,ov] (eval i X.env)
   standAt pos
   holding [v,ov,iv] (setItem ov iv v)
   release [v,ov,iv] []):=by intro _;rfl):MG X (.Subscript o i pos) (gS f a b):=
 qiL (qor ho hi hs ha) <| by
  rintro v σ H Q ⟨r,mu,S,d,r',S',he,hs,hr,hm,hc⟩
  obtain ⟨⟨d1,S1⟩,e1,hm⟩:=oB1.mp hm
  obtain ⟨⟨d2,S2⟩,e2,hm⟩:=oB1.mp hm
  obtain ⟨⟨d3,S3⟩,e3,hm⟩:=oB1.mp hm
  cases hm
  refine ⟨r,mu,S,d1,S1,he,hs,e1,fun v1 H1 mu1 x1 r1 s1=>?_⟩
  refine ⟨r,mu1,S1,d2,S2,he.ext x1,s1,e2,fun v2 H2 mu2 x2 r2 s2=>?_⟩
  exact ⟨mu2,S2,[d1,d2,d],d3,_,.cons (r1.ext x2) (.cons r2 (.cons ((hr.ext x1).ext x2) .nil)),s2,e3,fun H3 mu3 x3 s3=>hc σ H3 mu3 ((x1.trans x2).trans x3) (((he.ext x1).ext x2).ext x3) s3⟩
noncomputable def mAsg (m:FE)(g:FG):FS:=fun r S=>(m r S).bind fun p=>(g p.1 r p.2).bind fun q=>some (.nx,q.1,q.2)
theorem qgO {K:Fg1}{m:FE}{g:FG}{E:Ends}{σ:L2.St}{H:Hp}(h:tMS K (mAsg m g) E σ H):tAsg (tM K m) (tMG K g) E σ H:=by
 obtain ⟨r,mu,S,f,r',S',he,hs,hm,hc⟩:=h
 obtain ⟨⟨d1,S1⟩,e1,hm⟩:=oB1.mp hm
 obtain ⟨⟨r2,S2⟩,e2,hm⟩:=oB1.mp hm
 cases hm
 refine ⟨r,mu,S,d1,S1,he,hs,e1,fun v1 H1 mu1 x1 r1 s1=>?_⟩
 exact ⟨r,mu1,S1,d1,_,_,he.ext x1,s1,r1,e2,fun σ2 H2 mu2 x2=>hc σ2 H2 mu2 (x1.trans x2)⟩
theorem qoX {tg e:Expr}{m:FE}{g:FG}(he:ME X e m)(hg:MG X tg g)(hs:swapsWithSole [tg] e pos.line X.env=pure false:=by rfl)(hw:swappedStores [tg] e X.env=pure none:=by rfl)
  (h1:(assignEach [tg] X.env).map (·.2)=[assign tg X.env]:=by rfl):MS X (.Assign [tg] e pos) (mAsg m g):=qdj (qon he hg hs hw h1) fun _ _ _=>qgO
theorem qoU (i:Nat){x:Str}{e:Expr}{m:FE}{pos':Pos}(hN:X.N.Nodup)(hi:X.N[i]? = some x)(hx:Loc X.env.scope x)(he:ME X e m)(hs:swapsWith e (some (.Name x pos')) pos.line X.env=pure false:=by rfl)(hf:X.fn x=true\/X.env.scope.names.lookup x=some .local:=by first | exact .inl rfl | exact .inr rfl | assumption):
  MS X (.Assign [.Name x pos'] e pos) (mAsg m (gN i)):=qdj (qoi hN hi hx he hs hf) fun E σ H h=>by
 obtain ⟨r,mu,S,d,S',h1,h2,h3,h4⟩:=qgO h
 refine ⟨r,mu,S,d,S',h1,h2,h3,fun v H' mu' x1 r1 s1=>?_⟩
 obtain ⟨r2,mu2,S2,d2,r3,S3,q1,q2,q3,q4,q5⟩:=h4 v H' mu' x1 r1 s1
 cases q4
 exact q5 _ H' mu2 (.refl _ _) (q1.set q3) q2
noncomputable def mAug (i:Nat)(f:FN)(m:FE):FS:=fun r S=>match r[i]? with
 | some (some d)=>(m r S).bind fun p=>(f [d,p.1] p.2).bind fun q=>some (.nx,r.set i (some q.1),q.2)
 | _=>none
end
noncomputable def whl (c:FT)(b:FS):Nat->FS
 | 0=>fun _ _=>none
 | n+1=>fun r S=>(c r S).bind fun p=>if p.1=true then (b r p.2).bind fun q=>match q.1 with
   | .nx=>whl c b n q.2.1 q.2.2
   | .ct=>whl c b n q.2.1 q.2.2
   | .bk=>some (.nx,q.2.1,q.2.2)
   | .rt d=>some (.rt d,q.2.1,q.2.2)
  else some (.nx,r,p.2)
theorem qnD {K:Fg1}{c:FT}{b:FS}{n:Nat}{E:Ends}{σ:L2.St}{H:Hp}(h:tMS K (whl c b n) E σ H):qls (tMT K c) (tMS K b) E σ H:=by
 refine ⟨fun m σ' H'=>tMS K (whl c b m) E σ' H',⟨n,h⟩,fun m σ1 H1 q=>?_⟩
 obtain ⟨r,mu,S,f,r',S',he,hs,hm,hc⟩:=q
 cases m with
 | zero=>cases hm
 | succ m=>
  obtain ⟨⟨k,S1⟩,e1,hm⟩:=oB1.mp hm
  refine ⟨r,mu,S,k,S1,he,hs,e1,fun H2 mu2 x2 s2=>?_⟩
  cases k with
  | false=>
   cases hm
   exact hc σ1 H2 mu2 x2 (he.ext x2) s2
  | true=>
   obtain ⟨⟨f3,r3,S3⟩,e3,hm⟩:=oB1.mp hm
   have go:∀ {σ' H' mu'},Ext mu2 mu' H2 H'->EnvR K H' mu' r3 σ'->Sim K H' mu' S3->whl c b m r3 S3=some (f,r',S')->tMS K (whl c b m) E σ' H':=fun {σ' H' mu'} x he3 s3 hm=>by
    refine ⟨r3,mu',S3,f,r',S',he3,s3,hm,?_⟩
    cases f with
    | nx=>exact fun σ2 H2 mu2 y=>hc σ2 H2 mu2 ((x2.trans x).trans y)
    | bk=>exact fun σ2 H2 mu2 y=>hc σ2 H2 mu2 ((x2.trans x).trans y)
    | ct=>exact fun σ2 H2 mu2 y=>hc σ2 H2 mu2 ((x2.trans x).trans y)
    | rt d=>exact fun v H2 mu2 y=>hc v H2 mu2 ((x2.trans x).trans y)
   refine ⟨fun σ' H'=>tMS K (whl c b m) E σ' H',fun σ' H' q=>⟨m,Nat.lt_succ_self _,q⟩,r,mu2,S1,f3,r3,S3,he.ext x2,s2,e3,?_⟩
   cases f3 with
   | nx=>exact fun σ' H' mu' x he3 s3=>go x he3 s3 hm
   | ct=>exact fun σ' H' mu' x he3 s3=>go x he3 s3 hm
   | bk=>cases hm;exact fun σ' H' mu' x he3 s3=>hc σ' H' mu' (x2.trans x) he3 s3
   | rt d=>cases hm;exact fun v H' mu' x r3 s3=>hc v H' mu' (x2.trans x) r3 s3
theorem qkN {X:Cx}{pos:Pos}(n:Nat){c:Expr}{body:List Stmt}{t:FT}{b:FS}(hp:PassesOwn (model X.prog X.w) X.A X.env X.xe)(hc:MT X c t)(hb:MSs X body b):MS X (.While c body [] pos) (whl t b n):=
 qdj (qkk hp hc hb) fun _ _ _=>qnD
structure Itm where
 items:List D
 chk:List (Nat×List D)
noncomputable def okC (S:Sto):List (Nat×List D)->Bool
 | []=>true
 | (n,xs)::c=>(match S[n]? with
   | some (.lst ys)=>D.sames ys xs
   | _=>false)&&okC S c
noncomputable def ItR (K:Fg1)(j:It)(J:Itm)(mu:List Addr)(H:Hp):Prop:=∀ i H1 mu1 S1,Exw mu mu1 H H1->Sim K H1 mu1 S1->okC S1 J.chk=true ->
 (∀ d,J.items[i]? = some d->j.go i H1 /\ ∀ x H2,j.yld i H1 x H2->Ext mu1 mu1 H1 H2/\Sim K H2 mu1 S1/\Rep K H2 mu1 d x)/\(J.items.length<=i->j.stop i H1)
noncomputable abbrev FI:=Ev->Sto->Option (Itm×Sto)
inductive tMI (K:Fg1)(m:FI)(σ:L2.St)(H:Hp)(R:It->Hp->Prop):Prop
 | mk (r:Ev) (mu:List Addr) (S:Sto) (J:Itm) (S':Sto) (he:EnvR K H mu r σ) (hs:Sim K H mu S) (hm:m r S=some (J,S')) (hc:∀ j H' mu',Ext mu mu' H H'->ItR K j J mu' H'->Sim K H' mu' S'->R j H')
noncomputable abbrev MI (X:Cx)(tg iter:Expr)(m:FI):Prop:=PI X tg iter (tMI X.K m)
theorem qhj {X:Cx}{tg e:Expr}{t t':TI}(h:PI X tg e t)(i:∀ σ H R,t' σ H R->t σ H R):PI X tg e t':=fun pins s σ H R I q=>h pins s σ H R I (i σ H R q)
theorem qqp {X:Cx}{tg e:Expr}{t t':TI}(h:PI X tg e t)(h':PI X tg e t'):PI X tg e (fun σ H R=>t σ H R\/t' σ H R):=fun pins s σ H R I q=>q.elim (h pins s σ H R I) (h' pins s σ H R I)
noncomputable def qdX (c:List (Nat×List D))(g:FG)(b:FS):List D->FS
 | []=>fun r S=>if okC S c=true then some (.nx,r,S) else none
 | d::ds=>fun r S=>if okC S c=true then (g d r S).bind fun p=>(b p.1 p.2).bind fun q=>match q.1 with
   | .nx=>qdX c g b ds q.2.1 q.2.2
   | .ct=>qdX c g b ds q.2.1 q.2.2
   | .bk=>some (.nx,q.2.1,q.2.2)
   | .rt v=>some (.rt v,q.2.1,q.2.2)
  else none
noncomputable def mFor (m:FI)(g:FG)(b:FS):FS:=fun r S=>(m r S).bind fun p=>qdX p.1.chk g b p.1.items r p.2
theorem qes {α:Type}{l:List α}{i:Nat}{d:α}{ds:List α}(h:l.drop i=d::ds):l[i]? = some d/\l.drop (i+1)=ds:=by
 have h1:l[i]? = some d:=by
  have:=congrArg (·[0]?) h
  simpa using this
 refine ⟨h1,?_⟩
 rw [<- List.drop_drop,h]
 rfl
inductive MFI (K:Fg1)(mu1:List Addr)(H1:Hp)(c:List (Nat×List D))(g:FG)(b:FS)(f:Fl)(r':Ev)(S':Sto)(L:List D)(σ':L2.St)(H':Hp):Prop
 | mk (r2:Ev) (mu2:List Addr) (S2:Sto):Ext mu1 mu2 H1 H'->EnvR K H' mu2 r2 σ'->Sim K H' mu2 S2->qdX c g b L r2 S2=some (f,r',S')->MFI K mu1 H1 c g b f r' S' L σ' H'
theorem qm6 {K:Fg1}{m:FI}{g:FG}{b:FS}{E:Ends}{σ:L2.St}{H:Hp}(h:tMS K (mFor m g b) E σ H):tFor (tMI K m) (tMG K g) (tMS K b) E σ H:=by
 obtain ⟨r,mu,S,f,r',S',he,hs,hm,hc⟩:=h
 obtain ⟨⟨J,S1⟩,e1,hm⟩:=oB1.mp hm
 refine ⟨r,mu,S,J,S1,he,hs,e1,fun j H1 mu1 x1 J1 s1=>?_⟩
 refine ⟨fun i k σ' H'=>k=(J.items.drop i).length/\MFI K mu1 H1 J.chk g b f r' S' (J.items.drop i) σ' H',⟨_,rfl,r,mu1,S1,.refl _ _,he.ext x1,s1,hm⟩,?_⟩
 rintro i k σ2 H2 ⟨rfl,r2,mu2,S2,x2,he2,s2,hm2⟩
 cases hl:J.items.drop i with
 | nil=>
  left
  rw [hl] at hm2
  rw [qdX] at hm2
  dsimp only at hm2
  split at hm2
  ·rename_i ok
   cases hm2
   refine ⟨(J1 i H2 mu2 _ x2.w s2 ok).2 (List.drop_eq_nil_iff.mp hl),?_⟩
   exact hc σ2 H2 mu2 (x1.trans x2) he2 s2
  ·cases hm2
 | cons d ds=>
  right
  rw [hl] at hm2
  obtain ⟨hi,hd⟩:=qes hl
  rw [qdX] at hm2
  dsimp only at hm2
  split at hm2
  ·rename_i ok
   obtain ⟨⟨r3,S3⟩,e3,hm2⟩:=oB1.mp hm2
   obtain ⟨⟨f4,r4,S4⟩,e4,hm2⟩:=oB1.mp hm2
   obtain ⟨go,yl⟩:=(J1 i H2 mu2 _ x2.w s2 ok).1 d hi
   refine ⟨go,MFI K mu1 H1 J.chk g b f r' S' ds,?_,fun x H3 y=>?_⟩
   ·intro σ' H' h5
    exact ⟨ds.length,Nat.lt_succ_self _,(congrArg List.length hd).symm,hd.symm ▸ h5⟩
   ·obtain ⟨x3,s3,q3⟩:=yl x H3 y
    refine ⟨r2,mu2,S2,d,r3,S3,he2.ext x3,s3,q3,e3,fun σ4 H4 mu4 x4 he4 s4=>?_⟩
    refine ⟨r3,mu4,S3,f4,r4,S4,he4,s4,e4,?_⟩
    cases f4 with
    | nx=>exact fun σ5 H5 mu5 x5 he5 s5=>⟨r4,mu5,S4,(x2.trans x3).trans (x4.trans x5),he5,s5,hm2⟩
    | ct=>exact fun σ5 H5 mu5 x5 he5 s5=>⟨r4,mu5,S4,(x2.trans x3).trans (x4.trans x5),he5,s5,hm2⟩
    | bk=>cases hm2;exact fun σ5 H5 mu5 x5 he5 s5=>hc σ5 H5 mu5 ((x1.trans x2).trans (x3.trans (x4.trans x5))) he5 s5
    | rt v=>cases hm2;exact fun v5 H5 mu5 x5 r5 s5=>hc v5 H5 mu5 ((x1.trans x2).trans (x3.trans (x4.trans x5))) r5 s5
  ·cases hm2
theorem qoW {X:Cx}{pos:Pos}{tg iter:Expr}{body:List Stmt}{m:FI}{g:FG}{b:FS}(hp:PassesOwn (model X.prog X.w) X.A X.env X.xe)(hc:X.calm=true)(hi:MI X tg iter m)(hg:MG X tg g)(hb:MSs X body b)
  (hs:∀ x,foldedSetIterable iter X.env x=pure x:=by intro _;rfl):MS X (.For tg iter body [] pos) (mFor m g b):=qdj (qom hp hc hi hg hb hs) fun _ _ _=>qm6
noncomputable def qco (n:Nat)(ds:List D):Ev:=ds.map some++List.replicate (n-ds.length) none
noncomputable def fnB (n:Nat)(b:FS):FN:=fun ds S=>(b (qco n ds) S).bind fun p=>match p.1 with
 | .rt d=>some (d,p.2.2)
 | .nx=>some (.non,p.2.2)
 | _=>none
theorem qiv {K:Fg1}{H:Hp}{mu:List Addr}{ds:List D}{vs:List V}(N:List Str)(h:Reps K H mu ds vs):EnvR K H mu (qco N.length ds) (L2.qd8 N vs):=by
 refine ⟨?_,fun i d e=>?_⟩
 ·unfold qco L2.qd8
  rw [lA1,lA1,lM1,lM1,lR1,lR1,h.length]
 ·unfold qco at e
  unfold L2.qd8
  by_cases hi:i<ds.length
  ·rw [gL1 (by rw [lM1];exact hi),gP1] at e
   obtain ⟨d',e1,e2⟩:=oM1.mp e
   cases e2
   obtain ⟨v,e3,r⟩:=h.get e1
   refine ⟨v,?_,r⟩
   rw [gL1 (by rw [lM1,<- h.length];exact hi),gP1,e3]
   rfl
  ·rw [gR1 (by rw [lM1];lia)] at e
   have:=gM1 e
   rw [List.mem_replicate] at this
   cases this.2
theorem fn_m {P:Program}{w:World}{K:Fg1}{mg:Str->Option Value}{base:Heap}{x qual:Str}{st:Stmt}{f:Addr}{fd:FuncData}{N ps:List Str}{k:Nat}{b:FS}(F:Fun K x qual st f fd)(S:qas N ps (qab st))
  (hbody:∀ (cdv:Value) (A:Around) (outer:List Env) (s:Shared) (H:Hp) (E:XK),Room k (A.deeper (envOfC qual (qab st) s.heap.objs.size f cdv)) ->
   MSs (cxOf CX0 P w K mg base N qual (qab st) f cdv A outer s H E).nox (qaq st) b):FnOk P w K mg base CX0 (k+1) f fd ps (spM K ps.length (fnB N.length b)):=by
 refine Fun.ok F S (fun vs H Q E h=>h.1) fun cdv A outer s H vs Q E hr hsp=>⟨_,hbody cdv A outer s H E hr,?_⟩
 obtain ⟨_,mu,St,ds,d,S',h1,h2,h3,h4⟩:=hsp
 unfold fnB at h3
 obtain ⟨⟨fl,r',S1⟩,e1,h3⟩:=oB1.mp h3
 refine ⟨_,mu,St,fl,r',S1,qiv N h1,h2,e1,?_⟩
 cases fl with
 | nx=>cases h3;exact fun σ' H' mu' x he s=>h4 .non H' mu' x .non s
 | rt d=>cases h3;exact h4
 | bk=>cases h3
 | ct=>cases h3
noncomputable def cloF (cells:List (Str×Addr)):List (Str×NameKind)->List (Str×Addr)->Option (List (Str×Addr))
 | [],acc=>some acc
 | (n,k)::r,acc=>if k == .free then (cells.lookup n).bind fun c=>cloF cells r ((n,c)::acc) else cloF cells r acc
theorem qjI {env:Env}(f:Str×NameKind->List (Str×Addr)->Sem (ForInStep (List (Str×Addr))))
  (hf:∀ n k cs,f (n,k) cs=if k == .free then (do let c<-cellOf env n;pure (.yield ((n,c)::cs))) else pure (.yield cs)):
  ∀ (names:List (Str×NameKind)) (acc cl:List (Str×Addr)),cloF env.cells names acc=some cl->forIn names acc f=(pure cl:Sem (List (Str×Addr)))
 | [],acc,cl,h=>by cases h;rfl
 | (n,k)::r,acc,cl,h=>by
  rw [List.forIn_cons,hf]
  unfold cloF at h
  split at h
  ·rename_i hk
   rw [if_pos hk]
   obtain ⟨c,e,h⟩:=oB1.mp h
   have:cellOf env n=pure c:=by unfold cellOf;rw [e]
   rw [this,pure_bind,pure_bind]
   exact qjI f hf r _ cl h
  ·rename_i hk
   rw [if_neg hk,pure_bind]
   exact qjI f hf r _ cl h
theorem qlR {scope:Scope}{env:Env}{cl:List (Str×Addr)}(h:cloF env.cells scope.names []=some cl):closureFor scope env=pure cl:=by
 simp only [closureFor]
 rw [qjI (env:=env) _ (fun n k cs=>by cases hk:k == NameKind.free<;>simp [hk]) scope.names [] cl h]
 rfl
theorem qjH {cells:List (Str×Addr)}:∀ {names:List (Str×NameKind)} {acc cl:List (Str×Addr)},cloF cells names acc=some cl->(∀ x c,acc.lookup x=some c->cells.lookup x=some c) -> ∀ x c,cl.lookup x=some c->cells.lookup x=some c
 | [],acc,cl,h,ha=>by cases h;exact ha
 | (n,k)::r,acc,cl,h,ha=>by
  unfold cloF at h
  split at h
  ·obtain ⟨c,e,h⟩:=oB1.mp h
   refine qjH h fun x c' q=>?_
   rw [List.lookup_cons] at q
   split at q
   ·rename_i hx
    cases q
    rw [beq_iff_eq.mp hx];exact e
   ·exact ha x c' q
  ·exact qjH h ha
theorem qfv {cells:List (Str×Addr)}{x:Str}:∀ {names:List (Str×NameKind)} {acc cl:List (Str×Addr)},cloF cells names acc=some cl->(names.lookup x=some .free\/(acc.lookup x).isSome=true)->(cl.lookup x).isSome=true
 | [],acc,cl,h,ha=>by
  cases h
  rcases ha with q | q
  ·cases q
  ·exact q
 | (n,k)::r,acc,cl,h,ha=>by
  unfold cloF at h
  split at h
  ·obtain ⟨c,e,h⟩:=oB1.mp h
   refine qfv h ?_
   rcases ha with q | q
   ·rw [List.lookup_cons] at q
    split at q
    ·rename_i hx
     right;rw [List.lookup_cons,hx];rfl
    ·exact .inl q
   ·right
    rw [List.lookup_cons]
    split
    ·rfl
    ·exact q
  ·rename_i hk
   refine qfv h ?_
   rcases ha with q | q
   ·rw [List.lookup_cons] at q
    split at q
    ·cases q
     exact absurd rfl hk
    ·exact .inl q
   ·exact .inr q
theorem qbR {x:Str}{c:Addr}:∀ {names:List (Str×NameKind)} {n:Nat} {acc:List (Str×Addr)},(cellsFrom n names acc).lookup x=some c->(n<=c/\(x,c)∈cellsFrom n names [])\/acc.lookup x=some c
 | [],_,_,h=>.inr h
 | (y,k)::r,n,acc,h=>by
  unfold cellsFrom at h ⊢
  split at h
  ·rename_i hk
   rw [if_pos hk]
   have app:∀ (names:List (Str×NameKind)) (m:Nat) (acc:List (Str×Addr)),cellsFrom m names acc=cellsFrom m names []++acc:=by
    intro names
    induction names with
    | nil=>intro m acc;rfl
    | cons p r ih=>
     obtain ⟨z,q⟩:=p
     intro m acc
     unfold cellsFrom
     split
     ·rw [ih _ ((z,m)::acc),ih _ [(z,m)],List.append_assoc];rfl
     ·exact ih m acc
   rcases qbR h with ⟨h1,h2⟩ | h1
   ·refine .inl ⟨by lia,?_⟩
    rw [app];exact List.mem_append_left _ h2
   ·rw [List.lookup_cons] at h1
    split at h1
    ·rename_i hx
     cases h1
     refine .inl ⟨nR1 _,?_⟩
     rw [app,beq_iff_eq.mp hx]
     exact mA1 _ mS1
    ·exact .inr h1
  ·rename_i hk
   rw [if_neg hk]
   exact qbR h
theorem qfx {x:Str}{c:Addr}{n:Nat}{acc:List (Str×Addr)}{names:List (Str×NameKind)}(hx:names.lookup x=some .cell)(h:(cellsFrom n names acc).lookup x=some c):n<=c:=by
 have app:∀ (names:List (Str×NameKind)) (m:Nat) (acc:List (Str×Addr)),cellsFrom m names acc=cellsFrom m names []++acc:=by
  intro names
  induction names with
  | nil=>intro m acc;rfl
  | cons p r ih=>
   obtain ⟨z,q⟩:=p
   intro m acc
   unfold cellsFrom
   split
   ·rw [ih _ ((z,m)::acc),ih _ [(z,m)],List.append_assoc];rfl
   ·exact ih m acc
 rw [app,List.lookup_append] at h
 have q:=PySem.W.cellsFrom_some names n [] (.inl hx)
 obtain ⟨c',e⟩:=Option.isSome_iff_exists.mp q
 rw [e] at h
 cases h
 rcases qbR e with ⟨h1,_⟩ | h1
 ·exact h1
 ·cases h1
theorem qdm {M:Model}{A:Around}{E:Value->Shared->Prop}{s:Shared}{scope:Scope}{globals:Addr}{cl:List (Str×Addr)}{qual:Str}{func:Option Addr}{code:Value}{env:Env}{b:Addr}{Q:Env->Shared->Prop}
  (hQ:Q {scope,locals:=s.heap.objs.size,globals,cells:=cellsFrom (s.heap.objs.size+1) scope.names cl,qual,func,code:=env.code,frame:=env.frame,builtins:=env.builtins}
   {s with heap:=pushCells (s.heap.push {cls:=.type "dict",data:=.dict #[]}) scope.names}):
  wpAny M A (newFunctionEnv scope globals cl [] qual func code (some env) b) Q E s:=by
 simp only [newFunctionEnv,Option.isSome_some,if_true]
 refine wB1 (wpAny_alloc ?_)
 refine wB1 (wpAny_layCells _ (fun name kind cells=>by cases hkc:kind == NameKind.cell<;>simp [hkc]) _ _ _ _ ?_)
 rw [show ({s with heap:=s.heap.push {cls:=.type "dict",data:=.dict #[]}}:Shared).heap.objs.size=s.heap.objs.size+1 from hZ1 ..]
 refine wB1 ?_
 rw [List.forIn_nil]
 exact wP1 (wP1 hQ)
noncomputable def cxC (X:Cx)(scope:Scope)(cl:List (Str×Addr))(T:List Str)(keep:List Nat)(s:Shared)(H:Hp)(fp:List Addr):Cx where
 prog:=X.prog
 w:=X.w
 K:=X.K
 mg:=X.mg
 base:=X.base
 A:=X.A
 N:=T++keep.map fun i=>X.N.getD i (Str.ofString "")
 s₀:=s
 H₀:=H
 env:=compEnvC scope (cellsFrom (s.heap.objs.size+1) scope.names cl) s.heap.objs.size X.env
 outer:=X.stack
 stack:=X.stack
 ex:=fp
 fn:=fun x=>scope.names.lookup x == some .cell
 calm:=X.calm
 pn:=[]
 xe:=fun _ _=>False
noncomputable def inSt (k:Nat)(keep:List Nat)(σ:L2.St):L2.St:=List.replicate k none++keep.map fun i=>(σ[i]?).join
theorem qcW {env:Env}{x:Str}:∀ {names:List (Str×NameKind)},
  (names.map fun (n,k)=>if (k == NameKind.free&&env.scope.kind == .function&&env.kindOf n == some .cell) then (n,NameKind.cell) else (n,k)).lookup x =
   (names.lookup x).map fun k=>if (k == NameKind.free&&env.scope.kind == .function&&env.kindOf x == some .cell) then NameKind.cell else k
 | []=>rfl
 | (n,k)::r=>by
  show List.lookup x ((if (k == NameKind.free&&env.scope.kind == .function&&env.kindOf n == some .cell)=true then (n,NameKind.cell) else (n,k))::_)=_
  cases hx:x == n with
  | true=>
   have e:=beq_iff_eq.mp hx
   subst e
   by_cases hc:(k == NameKind.free&&env.scope.kind == .function&&env.kindOf x == some .cell)=true
   ·rw [if_pos hc,List.lookup_cons,hx,List.lookup_cons,hx];simp only [oP1,if_pos hc]
   ·rw [if_neg hc,List.lookup_cons,hx,List.lookup_cons,hx];simp only [oP1,if_neg hc]
  | false=>
   have ih:=@qcW env x r
   by_cases hc:(k == NameKind.free&&env.scope.kind == .function&&env.kindOf n == some .cell)=true
   ·rw [if_pos hc,List.lookup_cons,hx,List.lookup_cons,hx];exact ih
   ·rw [if_neg hc,List.lookup_cons,hx,List.lookup_cons,hx];exact ih
structure CSc (X:Cx)(scope:Scope)(T:List Str)(keep:List Nat):Prop where
 kind:scope.kind = .function
 names:∀ x∈scope.names,x.2 = .local->scope.names.lookup x.1=some .local
 free:∀ i∈keep,∃ x,X.N[i]? = some x/\scope.names.lookup x=some .free/\(X.env.kindOf x=some .cell\/X.env.kindOf x=some .free)/\(x,NameKind.cell)∉scope.names
theorem qhs {X:Cx} {pins:List (Addr×Obj)} {σ:L2.St} {H:Hp} {s:Shared} {scope:Scope} {cl:List (Str×Addr)} {T:List Str} {keep:List Nat} {fp:List Addr} (I:Inv X pins σ H s)
  (C:CSc X scope T keep) (hcl:cloF X.env.cells scope.names []=some cl) (hf:∀ b∈fp,FpOk X pins H b) (hfo:∀ b∈fp,∃ o,s.heap.get? b=some o):
  Inv (cxC X scope cl T keep s H fp) [] (inSt T.length keep σ) H {s with heap:=pushCells (s.heap.push {cls:=.type "dict",data:=.dict #[]}) scope.names}:=by
 have kept:∀ b o,s.heap.get? b=some o->(pushCells (s.heap.push {cls:=.type "dict",data:=.dict #[]}) scope.names).get? b=some o:=fun b o e=>pushCells_keeps _ _ b o (hP1 _ e)
 have cok:=cellsFrom_ok scope.names (s.heap.push {cls:=.type "dict",data:=.dict #[]}) (s.heap.objs.size+1) [] ⟨fun _ _ hm=>(nomatch hm),List.Pairwise.nil⟩ (by rw [hZ1];exact nR1 _)
 rw [hZ1] at cok
 have clE:=qjH hcl (fun x c q=>by cases q)
 -- a cell of the block: its own or an elder one
 have cells:∀ x c,(cellsFrom (s.heap.objs.size+1) scope.names cl).lookup x=some c->(s.heap.objs.size+1<=c/\(x,c)∈cellsFrom (s.heap.objs.size+1) scope.names [])\/X.env.cells.lookup x=some c:=fun x c h=>by
  rcases qbR h with h1 | h1
  ·exact .inl h1
  ·exact .inr (clE x c h1)
 have oldLt:∀ x c,X.env.cells.lookup x=some c->c<s.heap.objs.size:=fun x c e=>by
  obtain ⟨v,z⟩:=I.cell x c e
  exact z.lt
 have fpLt:∀ b∈fp,b<s.heap.objs.size:=fun b hb=>by
  obtain ⟨o,e⟩:=hfo b hb
  exact hL1 e
 have fst:∀ b∈fp,b∉frs X.stack:=fun b hb z=>by
  rcases List.mem_cons.mp (I.stkSub b z) with q | q
  ·exact (hf b hb).2.1 q
  ·exact (hf b hb).2.2.1 q
 have kindOf:∀ x,(cxC X scope cl T keep s H fp).env.kindOf x=(scope.names.lookup x).map fun k=>if (k == NameKind.free&&X.env.scope.kind == .function&&X.env.kindOf x == some .cell) then NameKind.cell else k:=fun x=>qcW
 refine ⟨⟨I.ok.mod,C.kind,I.ok.glob,I.ok.blt,nR1 _,fun x y c h1 h2=>?_,fun x hx=>?_,fun x c h1 h2=>?_,I.ok.hd,I.ok.frames,.inl rfl,fun b hb=>⟨nN1 (fpLt b hb),fun x c h z=>?_⟩,fun b o e=>I.bs b o e,Nat.le_trans I.ok.bsz I.sz,fun b o e hb=>?_,fst,I.stack,I.stkFree⟩,
  rfl,I.bare,Un.kept kept,⟨fun _=>none,(Heap.Ns.new s.heap (.type "dict")).keeps (pushCells_keeps _ _),fun i x v h1 h2 h3=>?_⟩,fun x c h=>?_,I.hok.fresh (nR1 _),fun x c h=>?_,fun p hp=>absurd (show p∈([]:List (Addr×Obj)) from hp) (by simp),I.hok.kept kept,?_⟩
 ·rcases cells x c h1 with ⟨a1,a2⟩ | a1<;>rcases cells y c h2 with ⟨b1,b2⟩ | b1
  ·exact name_of_addr cok.apart a2 b2
  ·exact absurd (Nat.lt_of_le_of_lt (Nat.le_of_succ_le a1) (oldLt y c b1)) (Nat.lt_irrefl _)
  ·exact absurd (Nat.lt_of_le_of_lt (Nat.le_of_succ_le b1) (oldLt x c a1)) (Nat.lt_irrefl _)
  ·exact I.ok.inj x y c a1 b1
 ·have hx':scope.names.lookup x=some .cell\/scope.names.lookup x=some .free:=by
   rw [kindOf x] at hx
   cases e:scope.names.lookup x with
   | none=>rw [e] at hx;rcases hx with z | z<;>cases z
   | some k=>
    rw [e] at hx
    simp only [oP1] at hx
    cases k<;>simp_all
  have:((cellsFrom (s.heap.objs.size+1) scope.names cl).lookup x).isSome=true:=by
   rcases hx' with z | z
   ·exact PySem.W.cellsFrom_some _ _ _ (.inl z)
   ·exact PySem.W.cellsFrom_some _ _ _ (.inr (qfv hcl (.inl z)))
  exact Option.isSome_iff_exists.mp this
 ·have h1':scope.names.lookup x=some .cell:=by simpa [cxC] using h1
  have:=qfx h1' h2
  exact Nat.le_trans (Nat.le_succ _) this
 ·subst z
  rcases cells x c h with ⟨a1,_⟩ | a1
  ·exact absurd (Nat.lt_of_le_of_lt (Nat.le_of_succ_le a1) (fpLt c hb)) (Nat.lt_irrefl _)
  ·exact (hf c hb).2.2.2.2.1 x c a1 rfl
 ·rcases (hf b hb).2.2.2.1 with z | z
  ·exact I.ok.noex b o e z
  ·exact absurd (nL1 (hL1 e) (Nat.le_trans I.ok.bsz z)) (Nat.lt_irrefl _)
 ·-- a name of the block that has a value:one of the outer text's
  have hi:T.length<=i:=by
   refine Nat.le_of_not_lt fun hi=>?_
   unfold inSt at h2
   rw [gL1 (by rw [lR1];exact hi),List.getElem?_replicate] at h2
   split at h2<;>cases h2
  unfold inSt at h2
  rw [gR1 (by rw [lR1];exact hi),lR1,gP1] at h2
  obtain ⟨j,ej,h2⟩:=oM1.mp h2
  have h1':X.N.getD j (Str.ofString "")=x:=by
   have h1':(T++keep.map fun i=>X.N.getD i (Str.ofString ""))[i]? = some x:=h1
   rw [gR1 hi,gP1,ej] at h1'
   exact Option.some.inj h1'
  obtain ⟨y,ey,fy,ky,ny⟩:=C.free j (gM1 ej)
  have exy:y=x:=by rw [<- h1',List.getD_eq_getElem?_getD,ey];rfl
  subst exy
  have h2':σ[j]? = some (some v):=by
   cases e:σ[j]? with
   | none=>rw [e] at h2;cases h2
   | some o=>rw [e] at h2;cases h2;rfl
  obtain ⟨m,hn,hl⟩:=I.loc
  obtain ⟨u,ru,lu⟩:=hl j y v ey h2' (by
   rcases ky with z | z
   ·exact .inr (.inl z)
   ·exact .inr (.inr z))
  refine ⟨u,ru,?_⟩
  rcases lu with ⟨z,_⟩ | ⟨_,c,ec,zc⟩
  ·rcases ky with q | q<;>(rw [z] at q;cases q)
  ·right
   refine ⟨?_,c,?_,zc.keeps kept⟩
   ·rw [kindOf,fy]
    simp only [oP1]
    split
    ·exact .inl rfl
    ·exact .inr rfl
   ·obtain ⟨c',e'⟩:=Option.isSome_iff_exists.mp (PySem.W.cellsFrom_some scope.names (s.heap.objs.size+1) cl (.inr (qfv hcl (.inl fy))):((cellsFrom (s.heap.objs.size+1) scope.names cl).lookup y).isSome=true)
    have e2:(cellsFrom (s.heap.objs.size+1) scope.names cl).lookup y=some c':=e'
    rcases cells y c' e2 with ⟨a1,a2⟩ | a1
    ·-- an own cell of that name:its kind would be cell
     exfalso
     have:∀ (names:List (Str×NameKind)) (n:Nat),(y,c')∈cellsFrom n names []->(y,NameKind.cell)∈names:=by
      have app:∀ (names:List (Str×NameKind)) (m:Nat) (acc:List (Str×Addr)),cellsFrom m names acc=cellsFrom m names []++acc:=by
       intro names
       induction names with
       | nil=>intro m acc;rfl
       | cons p r ih=>
        obtain ⟨z,q⟩:=p
        intro m acc
        unfold cellsFrom
        split
        ·rw [ih _ ((z,m)::acc),ih _ [(z,m)],List.append_assoc];rfl
        ·exact ih m acc
      intro names
      induction names with
      | nil=>intro n h;cases h
      | cons p r ih=>
       obtain ⟨z,q⟩:=p
       intro n h
       unfold cellsFrom at h
       split at h
       ·rename_i hq
        rw [app] at h
        rcases List.mem_append.mp h with h | h
        ·exact mC1 _ (ih _ h)
        ·have:(y,c')=(z,n):=by simpa using h
         cases this
         have hq':q=NameKind.cell:=by simpa using hq
         subst hq'
         exact mS1
       ·exact mC1 _ (ih _ h)
     exact ny (this _ _ a2)
    ·rw [ec] at a1;cases a1
     exact e2
 ·rcases cells x c h with ⟨a1,a2⟩ | a1
  ·exact ⟨_,(cok.empty x c a2).1⟩
  ·obtain ⟨v,z⟩:=I.cell x c a1
   exact ⟨v,z.keeps kept⟩
 ·rcases cells x c h with ⟨a1,a2⟩ | a1
  ·exact I.hok.fresh (Nat.le_of_succ_le a1)
  ·exact I.freeC x c a1
 ·show (inSt T.length keep σ).length=(T++keep.map fun i=>X.N.getD i (Str.ofString "")).length
  unfold inSt
  rw [lA1,lA1,lR1,lM1,lM1]
noncomputable def qir (p:Pos)(tg:Expr)(ifs:List Expr)(it:Value)(env:Env)(emit:Sem Unit)(c:Code):Sem PySem.Fin:=do
 standAt p
 match<-pyNext it with
 | none=>pure (.done .next)
 | some v=>
  letOwnedTupleGo tg it v
  assign tg env v
  let mut ok:=true
  for c in ifs do
   if ok then ok<-isTrue c env (eval c env)
  if ok then emit
  again c
noncomputable def qjw (elt:Expr)(acc:Value)(env:Env):Sem Unit:=do let _<-call (.builtin "list.append") [acc,<- eval elt env]
theorem qln (elt tg iter:Expr)(ifs:List Expr)(scope:Scope)(pos:Pos)(it acc:Value)(env:Env):
  compTurn (.ListComp elt [⟨tg,iter,ifs,0⟩] scope pos) 0 it acc env=qir iter.pos tg ifs it env (qjw elt acc env) (.compLoop (.ListComp elt [⟨tg,iter,ifs,0⟩] scope pos) 0 it acc env):=by rfl
noncomputable def PIfs (X:Cx)(ifs:List Expr)(t:TT):Prop:=
 ∀ (pins:List (Addr×Obj)) (s:Shared) (σ:L2.St) (H:Hp) (Q:Bool->Hp->Prop),Inv X pins σ H s->t σ H Q ->
  wpAny (model X.prog X.w) X.A (forIn ifs true fun c r=>if r=true then do let ok<-isTrue c X.env (eval c X.env);pure (ForInStep.yield ok) else pure (ForInStep.yield r)) (TP X pins σ Q) X.xe s
theorem qko {X:Cx}:PIfs X [] (fun σ H Q=>Q true H):=fun pins s σ H Q I h=>wpAny_tests_nil ⟨H,I,h⟩
theorem qkn {X:Cx}{c:Expr}{t:TT}(h:PT X c t):PIfs X [c] t:=fun pins s σ H Q I q=>wpAny_tests_one (h pins s σ H Q I q)
noncomputable def PU (X:Cx)(m:Sem Unit)(t:TS):Prop:=
 ∀ (pins:List (Addr×Obj)) (s:Shared) (σ:L2.St) (H:Hp) (E:Ends),Inv X pins σ H s->t E σ H->wpAny (model X.prog X.w) X.A m (fun _ s'=>∃ σ' H',Inv X pins σ' H' s'/\E.nx σ' H') X.xe s
theorem qgd {X:Cx}(hx:X.xe=fun _ _=>False)(hc:X.calm=true){elt:Expr}{gens:List Comprehension}{scope:Scope}{pos p:Pos}{d:Nat}{tg:Expr}{ifs:List Expr}{acc:Value}{emit:Sem Unit}{J:It}{fp:List Addr}{it:Addr}{tn:Nat->Heap->Prop}{g:TG}{ti:TT}{tb:TS}
  (eq:compTurn (.ListComp elt gens scope pos) d (.ref it) acc X.env=qir p tg ifs (.ref it) X.env emit (.compLoop (.ListComp elt gens scope pos) d (.ref it) acc X.env))
  (T:Turn X.prog X.w X.K tg J fp it tn) (hg:PG X tg g) (hi:PIfs X ifs ti) (he:PU X emit tb)
  {pins:List (Addr×Obj)} {s:Shared} {σ:L2.St} {H:Hp} {D:Ends} (I:Inv X pins σ H s) (st:tn 0 s.heap) (f2:∀ b∈fp,FpOk X pins H b)
  (h:∃ W:Nat->Nat->L2.St->Hp->Prop,(∃ m,W 0 m σ H) /\ ∀ i m σ H,W i m σ H ->
   (J.stop i H/\D.nx σ H)\/(J.go i H /\ ∃ N:L2.St->Hp->Prop,(∀ σ' H',N σ' H' -> ∃ m',m'<m/\W (i+1) m' σ' H') /\ ∀ x H',J.yld i H x H'->g x σ H' fun σ2 H2=>ti σ2 H2 fun b H3=>if b=true then tb {D with nx:=N} σ2 H3 else N σ2 H3)):
  codeAny (model X.prog X.w) X.A (.compLoop (.ListComp elt gens scope pos) d (.ref it) acc X.env) (fun r s'=>match r with | .ok _=>∃ σ' H',Inv X pins σ' H' s'/\D.nx σ' H' | .error _=>False) s:=by
 obtain ⟨W,⟨m0,w0⟩,turn⟩:=h
 have stat:∀ {H':Hp},(∀ b∈fp,H' b=none) -> ∀ b∈fp,FpOk X pins H' b:=fun hn b hb=>⟨hn b hb,(f2 b hb).2⟩
 refine codeAny_loop rfl (fun n s'=>∃ i σ' H',Inv X pins σ' H' s'/\tn i s'.heap/\(∀ b∈fp,H' b=none)/\W i n σ' H') ?_ m0 ⟨0,σ,H,I,st,fun b hb=>(f2 b hb).1,w0⟩
 rintro n s3 ⟨i,σ3,H3,I3,st3,fr3,w3⟩
 show wpAny _ _ ((compTurn (.ListComp elt gens scope pos) d (.ref it) acc X.env).onRaise (fun x=>do noteFrame x X.env;theTreesLotGoes x)) _ _ s3
 refine wpAny_noted ?_
 rw [eq]
 have no:∀ {α:Type} {m:Sem α} {Q:α->Shared->Prop} {s:Shared} {E:Value->Shared->Prop},wpAny (model X.prog X.w) X.A m Q X.xe s->wpAny (model X.prog X.w) X.A m Q E s:=fun h=>by
  rw [hx] at h
  exact wpAny_mono h (fun _ _ q=>q) fun _ _ q=>q.elim
 unfold qir
 refine wB1 (wpAny_standAt (wB1 ?_))
 rcases turn i n σ3 H3 w3 with ⟨stop,qn⟩ | ⟨go,N,hN,step⟩
 ·refine no (thn (T.done X rfl rfl rfl hc i pins s3 σ3 H3 X.xe I3 (stat fr3) st3 stop) fun r s4 ⟨hr,I4⟩=>?_)
  subst hr
  exact wP1 ⟨σ3,H3,I4,qn⟩
 ·refine no (thn (T.item X rfl rfl rfl hc i pins s3 σ3 H3 X.xe I3 (stat fr3) st3 go) fun r s4 ⟨u,hr,h4⟩=>?_)
  subst hr
  refine wB1 (no (thn h4 fun _ s5 ⟨x,H5,I5,r5,y5,st5,fr5⟩=>?_))
  have I5':=I5.pinned (stat fr5) (T.obj _ _ st5)
  refine wB1 (no (thn (hg _ s5 σ3 H5 x u _ I5' r5 (step x H5 y5)) fun _ s6 ⟨σ6,H6,I6,q6⟩=>?_))
  refine wB1 (no (thn (hi _ s6 σ6 H6 _ I6 q6) fun ok s7 ⟨H7,I7,q7⟩=>?_))
  have again':∀ {σ7:L2.St} {H7:Hp} {s7:Shared},Inv X (pins++qfK fp s5.heap) σ7 H7 s7->N σ7 H7 -> ∃ m,m<n /\ ∃ i σ' H',Inv X pins σ' H' s7/\tn i s7.heap/\(∀ b∈fp,H' b=none)/\W i m σ' H':=fun {σ7 H7 s7} I7 n7=>by
   obtain ⟨m',hm,w7⟩:=hN σ7 H7 n7
   refine ⟨m',hm,i+1,σ7,H7,I7.unpinned,T.keep _ _ _ st5 fun b hb o e=>(I7.pin (b,o) (mA1 _ (mA1 _ (qcK hb e)))).1,fun b hb=>?_,w7⟩
   obtain ⟨o,e,d⟩:=T.obj _ _ st5 b hb
   exact (I7.pin (b,o) (mA1 _ (mA1 _ (qcK hb e)))).2.1
  cases ok with
  | false=>exact wP1 ⟨rfl,again' I7 q7⟩
  | true=>exact wB1 (no (thn (he _ s7 σ6 H7 _ I7 q7) fun _ s8 ⟨σ8,H8,I8,q8⟩=>wP1 ⟨rfl,again' I8 q8⟩))
noncomputable def qka (p:Addr)(te:TE):TS:=fun D σ H=>te σ H fun x H1=>∃ xs,H1 p=some (.lst xs)/\xs.length<sizeLine/\D.nx σ (upd H1 p (.lst (xs++[x])))
theorem qiD {X:Cx}{elt:Expr}{te:TE}(h:PE X elt te)(p:Addr):PU X (qjw elt (.ref p) X.env) (qka p te):=by
 intro pins s σ H E I q
 unfold qjw
 refine wB1 (thn (h pins s σ H _ I q) fun u s1 ⟨x,H1,I1,r1,xs,e1,hl,q1⟩=>?_)
 refine wB1 (thn (qfW pins s1 σ H1 (.ref p) [x] (.ref p) [u] (fun _ H'=>E.nx σ H') I1 rfl (.cons r1 .nil) ⟨p,xs,x,rfl,rfl,e1,hl,q1⟩) fun _ s2 ⟨_,H2,I2,_,q2⟩=>?_)
 exact wP1 ⟨σ,H2,I2,q2⟩
noncomputable def qnS (J:It)(g:TG)(ti:TT)(tb:TS):TS:=fun D σ H=>∃ W:Nat->Nat->L2.St->Hp->Prop,(∃ m,W 0 m σ H) /\ ∀ i m σ H,W i m σ H ->
 (J.stop i H/\D.nx σ H)\/(J.go i H /\ ∃ N:L2.St->Hp->Prop,(∀ σ' H',N σ' H' -> ∃ m',m'<m/\W (i+1) m' σ' H') /\ ∀ x H',J.yld i H x H'->g x σ H' fun σ2 H2=>ti σ2 H2 fun b H3=>if b=true then tb {D with nx:=N} σ2 H3 else N σ2 H3)
theorem Un.sameBut {fs ex:List Addr}{H H':Hp}{h h1 h2:Heap}{c:Addr}(u:Un fs ex H H' h h1)(hs:Heap.SameBut c h1 h2)(hc:h.get? c=none):Un fs ex H H' h h2:=by
 have ne:∀ {b o},h.get? b=some o->b≠c:=fun e z=>by rw [z,hc] at e;cases e
 refine ⟨fun b o e n hb hx=>(hs.2 b (ne e)).trans (u.keep b o e n hb hx),fun b o e n hb hx=>?_,u.free,fun b o e hx=>?_,u.tups,u.frzs,u.tbls⟩
 ·obtain ⟨sl,q⟩:=u.slot b o e n hb hx
  exact ⟨sl,(hs.2 b (ne e)).trans q⟩
 ·obtain ⟨o',q⟩:=u.there b o e hx
  exact ⟨o',(hs.2 b (ne e)).trans q⟩
noncomputable def ql6 (k:Nat)(keep:List Nat)(wi:TI)(g:TG)(ti:TT)(tb:Addr->TS):TE:=fun σ H Q=>wi σ H fun J H1=>∀ p,H1 p=none ->
 qnS J g ti (tb p) {nx:=fun _ H'=>Q (.ref p) H',rt:=fun _ _=>False} (inSt k keep σ) (upd H1 p (.lst []))
theorem qmD {X:Cx}(hc:X.calm=true){elt tg iter:Expr}{ifs:List Expr}{rest:List Comprehension}{scope:Scope}{pos:Pos}{T:List Str}{keep:List Nat}{cl:List (Str×Addr)}{wi:TI}{g:TG}{ti:TT}{tb:Addr->TS}{emit:Value->Env->Sem Unit}
  (eq:∀ it acc env,compTurn (.ListComp elt (⟨tg,iter,ifs,0⟩::rest) scope pos) 0 it acc env=qir iter.pos tg ifs it env (emit acc env) (.compLoop (.ListComp elt (⟨tg,iter,ifs,0⟩::rest) scope pos) 0 it acc env))
  (C:CSc X scope T keep) (hcl:cloF X.env.cells scope.names []=some cl) (hi:PI X tg iter wi)
  (hb:∀ s H fp p,PG (cxC X scope cl T keep s H fp) tg g/\PIfs (cxC X scope cl T keep s H fp) ifs ti/\PU (cxC X scope cl T keep s H fp) (emit (.ref p) (cxC X scope cl T keep s H fp).env) (tb p))
  (hs:∀ x,foldedSetIterable iter X.env x=pure x:=by intro _;rfl):
  PE X (.ListComp elt (⟨tg,iter,ifs,0⟩::rest) scope pos) (ql6 T.length keep wi g ti tb):=by
 intro pins s σ H Q I h
 rw [eval_ListComp]
 refine wpAny_comprehension_free (use:=none) rfl hs (qlR hcl) C.kind C.names ?_
 refine thn (hi pins s σ H _ I h) fun v s1 h1=>thn h1 fun itv s2 h2=>?_
 obtain ⟨it,fp,tn,J,H2,rfl,I2,TT,st2,f2,q2⟩:=h2
 refine wO1 ?_
 have I3:Inv X pins σ (upd H2 s2.heap.objs.size (.lst [])) {s2 with heap:=s2.heap.push {cls:=.type "list",data:=.seq ([]:List Value).toArray}}:=I2.lnew (t':=s2.toks) .nil (Nat.zero_le _)
 have old:∀ b∈fp,∃ o,s2.heap.get? b=some o:=fun b hb=>by
  obtain ⟨o,e,_⟩:=TT.obj 0 s2.heap st2 b hb
  exact ⟨o,e⟩
 have fne:∀ b∈fp,b≠s2.heap.objs.size:=fun b hb z=>by
  obtain ⟨o,e⟩:=old b hb
  have:=hL1 e
  rw [z] at this
  exact Nat.lt_irrefl _ this
 have f3:∀ b∈fp,FpOk X pins (upd H2 s2.heap.objs.size (.lst [])) b:=fun b hb=>⟨by rw [qar (fne b hb)];exact (f2 b hb).1,(f2 b hb).2⟩
 have o3:∀ b∈fp,∃ o,({s2 with heap:=s2.heap.push {cls:=.type "list",data:=.seq ([]:List Value).toArray}}:Shared).heap.get? b=some o:=fun b hb=>by
  obtain ⟨o,e⟩:=old b hb
  exact ⟨o,hP1 _ e⟩
 have I4:=qhs I3 C hcl f3 o3
 obtain ⟨hg,hf,he⟩:=hb {s2 with heap:=s2.heap.push {cls:=.type "list",data:=.seq ([]:List Value).toArray}} (upd H2 s2.heap.objs.size (.lst [])) fp s2.heap.objs.size
 refine qdm ?_
 have f4:∀ b∈fp,FpOk (cxC X scope cl T keep {s2 with heap:=s2.heap.push {cls:=.type "list",data:=.seq ([]:List Value).toArray}} (upd H2 s2.heap.objs.size (.lst [])) fp) [] (upd H2 s2.heap.objs.size (.lst [])) b:=fun b hb=>
  ⟨(f3 b hb).1,(I4.ok.exf b hb).1,I4.ok.exfs b hb,.inl hb,(I4.ok.exf b hb).2,fun p hp=>absurd (show p∈([]:List (Addr×Obj)) from hp) (by simp)⟩
 have st4:tn 0 (pushCells ((s2.heap.push {cls:=.type "list",data:=.seq ([]:List Value).toArray}).push {cls:=.type "dict",data:=.dict #[]}) scope.names):=
  TT.keep 0 s2.heap _ st2 fun b hb o e=>pushCells_keeps scope.names _ b o (hP1 _ (hP1 _ e))
 have loop:=qgd (X:=cxC X scope cl T keep {s2 with heap:=s2.heap.push {cls:=.type "list",data:=.seq ([]:List Value).toArray}} (upd H2 s2.heap.objs.size (.lst [])) fp) rfl hc (eq (.ref it) (.ref s2.heap.objs.size) _) TT hg hf he I4 st4 f4
  (q2 s2.heap.objs.size (I2.hok.fresh (nR1 _)))
 refine codeAny_mono (codeAny_compStart_list loop (TT.self X.A 0 _ _ _ st4 loop)) fun r s' hr=>?_
 cases r with
 | error e=>exact hr.elim
 | ok f=>
  obtain ⟨σ',H',I',q'⟩:=hr
  obtain ⟨m,hn,_⟩:=id I'.loc
  refine ⟨m,hn,fun h' hs'=>⟨.ref s2.heap.objs.size,H',?_,rfl,q'⟩⟩
  refine I3.call' (s':={s' with heap:=h'}) (ch:=fp) I'.os (Un.sameBut I'.base hs' (Heap.get?_none_of_le (nR1 _))) (fun b ob e=>?_) I'.bare fun b hb=>(f3 b hb).2.2.2 |> fun z=>⟨z.1,(f3 b hb).2.1,z.2.1,z.2.2⟩
  refine (I'.hok b ob e).stay (fun c w' hc q=>(hs'.2 c ?_).trans q) (fun _ q=>q) fun _ _ q=>q
  rintro rfl
  have fr:=I'.free
  rcases hc with rfl | hc
  ·exact nomatch fr.symm.trans e
  ·exact nomatch fr.symm.trans hc
section
variable {K:Fg1} {H:Hp} {mu:List Addr} {S:Sto} {p:Addr} {u:HO} {o:Ob} {n:Nat}
theorem Rd.ne {a:Addr}{x:HO}(h:H p=none)(q:Rd H a x):a≠p:=by
 rintro rfl
 rcases q with q | ⟨_,q⟩<;>(rw [h] at q;cases q)
theorem Ext.fresh (hp:H p=none):Ext mu mu H (upd H p u) where
 pre:=List.prefix_rfl
 old:=fun a o h _=>by rw [qar (qav h hp)];exact h
 tup:=fun a xs h=>by
  have ne:=Rd.ne hp h
  rcases h with h | ⟨ob,h⟩
  ·exact .inl (by rw [qar ne];exact h)
  ·exact .inr ⟨ob,by rw [qar ne];exact h⟩
 frz:=fun a o x h=>by rw [qar (qav h hp)];exact h
 new:=fun _ h=>.inl h
theorem Ext.new_ (hp:H p=none):Ext mu (mu++[p]) H (upd H p u) where
 pre:=List.prefix_append _ _
 old:=(Ext.fresh (mu:=mu) hp).old
 tup:=(Ext.fresh (mu:=mu) hp).tup
 frz:=(Ext.fresh (mu:=mu) hp).frz
 new:=fun a h=>by
  rcases List.mem_append.mp h with h | h
  ·exact .inl h
  ·have:a=p:=by simpa using h
   subst this
   exact .inr hp
theorem Sim.fresh (s:Sim K H mu S)(hp:H p=none):Sim K (upd H p u) mu S:=
 ⟨s.len,s.nd,fun k o a h1 h2=>(s.ob k o a h1 h2).keep (Ext.fresh hp) fun ob e=>by rw [qar (qav e hp)];exact e⟩
theorem Sim.notin (s:Sim K H mu S)(hp:H p=none):p∉mu:=fun h=>by
 obtain ⟨o,e⟩:=s.here h
 rw [hp] at e;cases e
theorem ObR.more {a:Addr}{mu':List Addr}{H':Hp}(e:Ext mu mu' H H')(h:∀ o,H a=some o->H' a=some o):∀ {o:Ob},ObR K H mu a o->ObR K H' mu' a o
 | .lst _,⟨vs,q,r⟩=>⟨vs,h _ q,r.ext e⟩
 | .dct _,⟨ws,q,r⟩=>⟨ws,h _ q,KR.ext e r⟩
 | .dcT _,⟨ws,q,r,l⟩=>⟨ws,h _ q,KT.ext e r,l⟩
 | .iset _,q=>⟨h _ q.1,q.2⟩
 | .dcF _,⟨ws,⟨o,u,e1,e2⟩,r,l⟩=>⟨ws,⟨o,u,h _ e1,e2⟩,KT.ext e r,l⟩
theorem Sim.new (s:Sim K H mu S)(hp:H p=none)(ho:ObR K (upd H p u) (mu++[p]) p o):Sim K (upd H p u) (mu++[p]) (S++[o]):=by
 refine ⟨by rw [lA1,lA1,s.len];rfl,?_,fun k o' a h1 h2=>?_⟩
 ·rw [List.nodup_append]
  refine ⟨s.nd,by simp,fun a ha b hb e=>?_⟩
  have:b=p:=by simpa using hb
  subst this;subst e
  exact s.notin hp ha
 ·by_cases hk:k<S.length
  ·rw [gL1 hk] at h1
   rw [gL1 (by rw [s.len];exact hk)] at h2
   exact (s.ob k o' a h1 h2).more (Ext.new_ hp) fun ob e=>by rw [qar (qav e hp)];exact e
  ·have hk':k=S.length:=by
    have:=(gE1.mp h1).1
    rw [lA1] at this
    simp at this
    lia
   subst hk'
   rw [gR1 (nR1 _)] at h1
   rw [<- s.len,gR1 (nR1 _)] at h2
   simp at h1 h2
   subst h1;subst h2
   exact ho
theorem Ext.put {x:HO}(hp:H p=some x)(hm:Mut (some x))(hin:p∈mu):Ext mu mu H (upd H p u) where
 pre:=List.prefix_rfl
 old:=fun a o h n=>by rw [qar (fun e=>n (by rw [e];exact hin))];exact h
 tup:=fun a xs h=>by
  have ne:a≠p:=by
   rintro rfl
   rcases h with h | ⟨_,h⟩<;>(rw [hp] at h;cases h;exact hm)
  rcases h with h | ⟨ob,h⟩
  ·exact .inl (by rw [qar ne];exact h)
  ·exact .inr ⟨ob,by rw [qar ne];exact h⟩
 frz:=fun a o y h=>by
  rw [qar (fun e=>?_)]
  ·exact h
  ·subst e;rw [hp] at h;cases h;exact hm
 new:=fun _ h=>.inl h
theorem Sim.put (s:Sim K H mu S){x:HO}(hn:mu[n]? = some p)(hp:H p=some x)(hm:Mut (some x))(ho:ObR K (upd H p u) mu p o):Sim K (upd H p u) mu (S.set n o):=by
 refine ⟨by rw [List.length_set];exact s.len,s.nd,fun k o' a h1 h2=>?_⟩
 by_cases hk:n=k
 ·subst hk
  have hl:n<S.length:=by
   have:=(gE1.mp h1).1
   rwa [List.length_set] at this
  rw [List.getElem?_set_self hl] at h1
  cases h1
  rw [hn] at h2;cases h2
  exact ho
 ·rw [gS1 hk] at h1
  have ne:a≠p:=fun e=>by
   subst e
   obtain ⟨l1,e1⟩:=gE1.mp hn
   obtain ⟨l2,e2⟩:=gE1.mp h2
   exact hk ((List.getElem_inj s.nd).mp (e1.trans e2.symm))
  exact (s.ob k o' a h1 h2).keep (Ext.put hp hm (gM1 hn)) fun ob e=>by rw [qar ne];exact e
theorem Sim.lst (s:Sim K H mu S){ds:List D}{a:Addr}(h:S[n]? = some (.lst ds))(hn:mu[n]? = some a):∃ vs,H a=some (.lst vs)/\Reps K H mu ds vs:=s.ob n _ a h hn
theorem Sim.dcT (s:Sim K H mu S){ks:List (TK×D)}{a:Addr}(h:S[n]? = some (.dcT ks))(hn:mu[n]? = some a):∃ ws,H a=some (.ext (qey a ws))/\KT K H mu ks ws/\ws.length<=sizeLine:=s.ob n _ a h hn
theorem Sim.iset (s:Sim K H mu S){xs:List Int}{a:Addr}(h:S[n]? = some (.iset xs))(hn:mu[n]? = some a):H a=some (.set (fun k=>xs.contains k) xs.length)/\xs.Nodup:=s.ob n _ a h hn
theorem Sim.dct (s:Sim K H mu S){ks:List (Key×D)}{a:Addr}(h:S[n]? = some (.dct ks))(hn:mu[n]? = some a):∃ ws,H a=some (.dK ws)/\KR K H mu ks ws:=s.ob n _ a h hn
theorem Sim.newL (s:Sim K H mu S){ds:List D}{vs:List V}(r:Reps K H mu ds vs)(hp:H p=none):Sim K (upd H p (.lst vs)) (mu++[p]) (S++[.lst ds]):=s.new hp ⟨vs,qat,r.ext (Ext.new_ hp)⟩
theorem Sim.putL (s:Sim K H mu S){ds:List D}{vs ws:List V}(r:Reps K H mu ds vs)(hn:mu[n]? = some p)(hp:H p=some (.lst ws)):Sim K (upd H p (.lst vs)) mu (S.set n (.lst ds)):=
 s.put hn hp trivial ⟨vs,qat,r.ext (Ext.put hp trivial (gM1 hn))⟩
end
theorem qce {mu:List Addr}{S:Sto}(h:mu.length=S.length)(p:Addr):(mu++[p])[S.length]? = some p:=by
 rw [<- h,gR1 (nR1 _)];simp
noncomputable def mTup (a:FA):FE:=fun r S=>(a r S).bind fun p=>if p.1.length<=sizeLine then some (.tup p.1,p.2) else none
noncomputable def mLst (a:FA):FE:=fun r S=>(a r S).bind fun p=>if p.1.length<=sizeLine then some (.ref p.2.length,p.2++[.lst p.1]) else none
section
variable {X:Cx} {es:List Expr} {pos:Pos} {a:FA}
theorem qo4 {x1}(h:MA X es a):ME X (.Tuple es x1 pos) (mTup a):=qbj (qot h) <| by
 rintro σ H Q ⟨r,mu,S,d,S',he,hs,hm,hc⟩
 obtain ⟨⟨ds,S1⟩,e1,hm⟩:=oB1.mp hm
 dsimp only at hm
 split at hm
 ·rename_i hl
  cases hm
  refine ⟨r,mu,S,ds,_,he,hs,e1,fun vs H1 mu1 x1 r1 s1=>⟨by rw [<- r1.length];exact hl,fun p hp=>?_⟩⟩
  exact hc _ _ mu1 (x1.trans (Ext.fresh hp)) (.tup (SqT.of qat) (r1.ext (Ext.fresh hp))) (s1.fresh hp)
 ·cases hm
theorem qo8 (h:MA X es a):ME X (.List es pos) (mLst a):=qbj (qow h) <| by
 rintro σ H Q ⟨r,mu,S,d,S',he,hs,hm,hc⟩
 obtain ⟨⟨ds,S1⟩,e1,hm⟩:=oB1.mp hm
 dsimp only at hm
 split at hm
 ·rename_i hl
  cases hm
  refine ⟨r,mu,S,ds,_,he,hs,e1,fun vs H1 mu1 x1 r1 s1=>⟨by rw [<- r1.length];exact hl,fun p hp=>?_⟩⟩
  exact hc _ _ (mu1++[p]) (x1.trans (Ext.new_ hp)) (.ref (qce s1.len p)) (s1.newL r1 hp)
 ·cases hm
end
noncomputable def inEv (k:Nat)(keep:List Nat)(r:Ev):Ev:=List.replicate k none++keep.map fun i=>(r[i]?).join
noncomputable def qcr:FT:=fun _ S=>some (true,S)
theorem qqL {K:Fg1}{H:Hp}{mu:List Addr}{r:Ev}{σ:L2.St}(k:Nat)(keep:List Nat)(h:EnvR K H mu r σ):EnvR K H mu (inEv k keep r) (inSt k keep σ):=by
 refine ⟨by unfold inEv inSt;rw [lA1,lA1,lM1,lM1,lR1,lR1],fun i d e=>?_⟩
 unfold inEv at e
 unfold inSt
 by_cases hi:i<k
 ·rw [gL1 (by rw [lR1];exact hi),List.getElem?_replicate] at e
  split at e<;>cases e
 ·rw [gR1 (by rw [lR1];lia),lR1,gP1] at e
  rw [gR1 (by rw [lR1];lia),lR1,gP1]
  obtain ⟨j,ej,e⟩:=oM1.mp e
  rw [ej]
  have e':r[j]? = some (some d):=by
   cases q:r[j]? with
   | none=>rw [q] at e;cases e
   | some o=>rw [q] at e;cases e;rfl
  obtain ⟨v,ev,rv⟩:=h.val j d e'
  exact ⟨v,by rw [oP1,ev];rfl,rv⟩
section
variable {X:Cx}
theorem qkp {ifs:List Expr}{t t':L2.TT}(h:PIfs X ifs t)(i:∀ σ H Q,t' σ H Q->t σ H Q):PIfs X ifs t':=fun pins s σ H Q I q=>h pins s σ H Q I (i σ H Q q)
theorem qmZ:PIfs X [] (tMT X.K qcr):=qkp qko fun σ H Q ⟨r,mu,S,b,S',he,hs,hm,hc⟩=>by cases hm;exact hc H mu (.refl _ _) hs
theorem qmY {c:Expr}{t:FT}(h:MT X c t):PIfs X [c] (tMT X.K t):=qkn h
end
open PySem.AutoSeq1 (wpAny_loadPart')
noncomputable def SIt (b:Bool)(h:Heap)(it a:Addr)(i:Nat):Prop:=match b with
 | true=>h.IsListIter it a i
 | false=>h.IsTupleIter it a i
noncomputable def SCo (b:Bool)(h:Heap)(a:Addr)(xs:Array Value):Prop:=match b with
 | true=>h.IsList a xs
 | false=>h.IsTuple a xs
theorem SIt.to {b:Bool}{h h':Heap}{it a:Addr}{i:Nat}(x:SIt b h it a i)(k:∀ o,h.get? it=some o->h'.get? it=some o):SIt b h' it a i:=by
 cases b<;>(obtain ⟨o,e,r⟩:=x;exact ⟨o,k o e,r⟩)
theorem SIt.rec_ {b:Bool}{h:Heap}{it a:Addr}{i:Nat}(x:SIt b h it a i):∃ o,h.get? it=some o /\ ∀ v,o.data ≠ .cell v:=by
 cases b<;>(obtain ⟨o,e,c,d⟩:=x;exact ⟨o,e,fun v z=>by rw [d] at z;cases z⟩)
theorem SCo.to {b:Bool}{h h':Heap}{a:Addr}{xs:Array Value}(x:SCo b h a xs)(k:∀ o,h.get? a=some o->h'.get? a=some o):SCo b h' a xs:=by
 cases b<;>(obtain ⟨o,e,r⟩:=x;exact ⟨o,k o e,r⟩)
noncomputable def qfn (b:Bool)(a:Addr):Obj:=match b with
 | true=>{cls:=.type "list_iterator",data:=.fields #[.ref a,.int 0 0]}
 | false=>{cls:=.type "tuple_iterator",data:=.fields #[.ref a,.int 0 0]}
section
variable {prog:Program} {w:World} {A:Around} {E:Value->Shared->Prop} {s:Shared}
theorem qmh {b:Bool}{h:Heap}{it a:Addr}(e:h.get? it=some (qfn b a)):SIt b h it a 0:=by
 cases b<;>exact ⟨_,e,rfl,rfl⟩
theorem qhb {b:Bool}{a:Addr}{xs:Array Value}{Q:Value->Shared->Prop}(x:SCo b s.heap a xs)(h:Q (.ref s.heap.objs.size) {s with heap:=s.heap.push (qfn b a)}):wpAny (model prog w) A (pyIter (.ref a)) Q E s:=by
 cases b
 ·exact wpAny_pyIter_tuple x h
 ·exact wpAny_pyIter_list x h
theorem qkG {it l:Addr}{i:Nat}{xs:Array Value}{x:Value}{Q:Value->Shared->Prop}(ti:s.heap.IsTupleIter it l i)(tl:s.heap.IsTuple l xs)(hx:xs[i]? = some x)
  (hQ:∀ h',h'.IsTupleIter it l (i+1)->Heap.SameBut it s.heap h'->Q x {s with heap:=h'}):wpAny (model prog w) A (Builtin.SmallTypes.nextOf (.ref it)) Q E s:=by
 obtain ⟨o,ho,hc,hd⟩:=id ti;obtain ⟨ob,hob,_,nb,hdb⟩:=tl;unfold Builtin.SmallTypes.nextOf
 refine wB1 (wpAny_callSpecial?_slot (name:=Str.ofString "__next__") ti.typeIs F.slot_tuple_iterator_next (wE1 F.slot_tuple_iterator_next ti.typeIs F.entry_tuple_iterator_next ?_ (F.args_tuple_iterator_next_1 _)))
 show wpAny _ _ (field (.ref it) 0 >>= _) _ _ s;refine wB1 (wpAny_field ho hd (x:=.ref l) rfl ?_)
 show wpAny _ _ (if (Value.ref l == Value.none)=true then _ else _) _ _ s;rw [if_neg (show ¬ ((Value.ref l == Value.none)=true) from Bool.false_ne_true)]
 show wpAny _ _ (field (.ref it) 1 >>= _) _ _ s;refine wB1 (wpAny_field ho hd (x:=.int i 0) rfl ?_)
 show wpAny _ _ (seqItems? (.ref l) >>= _) _ _ s;refine wB1 (wpAny_seqItems hob hdb ?_)
 simp only [Int.toNat_natCast,hx]
 refine wB1 (wpAny_setField ho hd (by simp) (wP1 ⟨x,rfl,wP1 (hQ _ ⟨_,hW1 _ ho (Obj.isFreed_of_fields (Obj.data_mapFields hd _)),(Obj.cls_mapFields ..).trans hc,by rw [Obj.data_mapFields hd];simp [rawInt]⟩ (Heap.SameBut.update ..))⟩))
theorem qfU {it l:Addr}{i:Nat}{xs:Array Value}{Q:Value->Shared->Prop}(hh:A.handled=none)(ti:s.heap.IsTupleIter it l i)(tl:s.heap.IsTuple l xs)(hx:xs[i]? = none)
  (hE:∀ h' e,Heap.ExtBut it s.heap h'->(∃ o,h'.get? e=some o/\o.cls = .type "StopIteration")->E (.ref e) {s with heap:=h'}):wpAny (model prog w) A (Builtin.SmallTypes.nextOf (.ref it)) Q E s:=by
 obtain ⟨o,ho,hc,hd⟩:=id ti;obtain ⟨ob,hob,_,nb,hdb⟩:=tl;unfold Builtin.SmallTypes.nextOf
 refine wB1 (wpAny_callSpecial?_slot (name:=Str.ofString "__next__") ti.typeIs F.slot_tuple_iterator_next (wE1 F.slot_tuple_iterator_next ti.typeIs F.entry_tuple_iterator_next ?_ (F.args_tuple_iterator_next_1 _)))
 show wpAny _ _ (field (.ref it) 0 >>= _) _ _ s;refine wB1 (wpAny_field ho hd (x:=.ref l) rfl ?_)
 show wpAny _ _ (if (Value.ref l == Value.none)=true then _ else _) _ _ s;rw [if_neg (show ¬ ((Value.ref l == Value.none)=true) from Bool.false_ne_true)]
 show wpAny _ _ (field (.ref it) 1 >>= _) _ _ s;refine wB1 (wpAny_field ho hd (x:=.int i 0) rfl ?_)
 show wpAny _ _ (seqItems? (.ref l) >>= _) _ _ s;refine wB1 (wpAny_seqItems hob hdb ?_)
 simp only [Int.toNat_natCast,hx];refine wB1 (wpAny_rule (wB1 (wpAny_setField ho hd (by simp) ?_)))
 show wpAny _ _ (newExc (.type "StopIteration") [] >>= _) _ _ _;refine wB1 ?_
 simp only [newExc,newTuple];refine wB1 (wO1 ?_ (by size_fits))
 refine wB1 (m:=firstArgMember _ _) (wpAny_of_eq (a:=Value.none) (by first | rfl | (simp only [firstArgMember];rfl)) ?_);refine wO1 ?_ (by size_fits)
 simp only [raiseNew];refine wB1 (wpAny_handled ?_)
 first | rw [show A.in1.handled=none from hh] | rw [hh]
 refine wB1 (wP1 (wpAny_throw ?_));exact hE _ _ (((Heap.SameBut.update ..).extBut.push _).push _) ⟨_,hS1 _ rfl,rfl⟩
theorem qkH {b:Bool}{it l:Addr}{i:Nat}{xs:Array Value}{x:Value}{Q:Value->Shared->Prop}(ti:SIt b s.heap it l i)(tl:SCo b s.heap l xs)(hx:xs[i]? = some x)
  (hQ:∀ h',SIt b h' it l (i+1)->Heap.SameBut it s.heap h'->Q x {s with heap:=h'}):wpAny (model prog w) A (Builtin.SmallTypes.nextOf (.ref it)) Q E s:=by
 cases b
 ·exact qkG ti tl hx hQ
 ·exact wpAny_nextOf_list_item ti tl hx hQ
theorem qfV {b:Bool}{it l:Addr}{i:Nat}{xs:Array Value}{Q:Value->Shared->Prop}(hh:A.handled=none)(ti:SIt b s.heap it l i)(tl:SCo b s.heap l xs)(hx:xs[i]? = none)
  (hE:∀ h' e,Heap.ExtBut it s.heap h'->(∃ o,h'.get? e=some o/\o.cls = .type "StopIteration")->E (.ref e) {s with heap:=h'}):wpAny (model prog w) A (Builtin.SmallTypes.nextOf (.ref it)) Q E s:=by
 cases b
 ·exact qfU hh ti tl hx hE
 ·exact wpAny_nextOf_list_end hh ti tl hx hE
theorem qld {b:Bool}(l:Addr)(xs:Array Value):
  Meets (Builtin.«enumerate.__new__» ⟨[.type "enumerate",.ref l],[]⟩) (fun _ R s=>SCo b s.heap l xs /\
   R (.ok (.ret (.ref (s.heap.push (qfn b l)).objs.size))) {s with heap:=(s.heap.push (qfn b l)).push {cls:=.type "enumerate",data:=.fields #[.none,.bool false,.ref s.heap.objs.size,rawInt 0,.none,.none]}}):=
 .of_wp fun prog w A R s h=>by
  obtain ⟨hp,g,d,tk,os⟩:=s;obtain ⟨hl,h⟩:=h;have hsub:=sub_enumerate
  have hL:SCo b (Shared.heap ⟨hp,g,d,tk,os⟩) l xs:=hl
  obtain ⟨ol,el⟩:∃ o,hp.get? l=some o:=by cases b<;>(obtain ⟨o,e,_⟩:=hl;exact ⟨o,e⟩)
  wp_walk using wpAny_loadPart' el
  refine wpAny_stack_any fun st=>wP1 ?_
  split
  ·rename_i c _ _ _ _ _
   cases (c == Value.type "enumerate")<;>(wp_walk using wpAny_loadPart' el,qhb hL;exact ⟨_,rfl,h⟩)
  ·wp_walk using wpAny_loadPart' el,qhb hL
   exact ⟨_,rfl,h⟩
theorem qjv {b:Bool}{l:Addr}{xs:Array Value}{Q:Value->Shared->Prop}(hL:SCo b s.heap l xs)
  (h:∀ h',IsEnum h' (s.heap.objs.size+1) s.heap.objs.size 0 .none->SIt b h' s.heap.objs.size l 0->h'.objs.size=s.heap.objs.size+2->(∀ b o,s.heap.get? b=some o->h'.get? b=some o)->Q (.ref (s.heap.objs.size+1)) {s with heap:=h'}):
  wpAny (model prog w) A (call (.type "enumerate") [.ref l]) Q E s:=by
 refine callType_new F.called_enumerate (by decide) (F.typeCall_enumerate_1 _) (F.newCall_enumerate_1 _) (fun obj=>F.args_object_init_2 obj _) F.entry_enumerate_new (qld (b:=b) l xs) ⟨hL,?_⟩
 have hz:(s.heap.push (qfn b l)).objs.size=s.heap.objs.size+1:=hZ1 ..
 show _/\_
 rw [hz]
 have he:IsEnum ((s.heap.push (qfn b l)).push {cls:=.type "enumerate",data:=.fields #[.none,.bool false,.ref s.heap.objs.size,rawInt 0,.none,.none]}) (s.heap.objs.size+1) s.heap.objs.size 0 .none:=by
  have q:=hS1 (s.heap.push (qfn b l)) (o:={cls:=.type "enumerate",data:=.fields #[.none,.bool false,.ref s.heap.objs.size,rawInt 0,.none,.none]}) rfl
  rw [hz] at q;exact q
 have hi:(s.heap.push (qfn b l)).get? s.heap.objs.size=some (qfn b l):=hS1 _ (by cases b<;>rfl)
 refine ⟨⟨_,he,rfl⟩,h _ he (qmh (hP1 _ hi)) (by rw [hZ1,hz]) fun c o x=>hP1 _ (hP1 _ x)⟩
theorem qju {b:Bool}{e it l:Addr}{i:Nat}{xs:Array Value}{x old:Value}{Q:Option Value->Shared->Prop}(he:IsEnum s.heap e it i old)(ti:SIt b s.heap it l i)(tl:SCo b s.heap l xs)(hx:xs[i]? = some x)(hne:e≠it)
  (hQ:∀ h',IsEnumOut h' e it ((i:Int)+1) x s.heap.objs.size->SIt b h' it l (i+1)->h'.get? s.heap.objs.size=some {cls:=.type "tuple",data:=.seq #[.int i s.toks,x]}->h'.objs.size=s.heap.objs.size+1 ->
   (∀ b o,b≠e->b≠it->s.heap.get? b=some o->h'.get? b=some o)->Q (some (.ref s.heap.objs.size)) {s with heap:=h',toks:=s.toks+1}):wpAny (model prog w) A (pyNext (.ref e)) Q E s:=by
 have hT:s.TypeIs (.ref e) "enumerate":=⟨_,he,rfl⟩
 unfold pyNext
 refine wB1 (wpAny_attempt (wpAny_callSpecial?_slot (name:=Str.ofString "__next__") hT F.slot_enumerate_next (wE1 F.slot_enumerate_next hT F.entry_enumerate_next ?_ (F.args_enumerate_next_1 _))))
 obtain ⟨hp,g,d,tk,os⟩:=s
 show wpAny _ _ (field (.ref e) 2 >>= _) _ _ _;refine wB1 (wpAny_field he rfl (x:=.ref it) rfl ?_)
 refine wB1 (qkH ti tl hx fun h1 ti1 s1=>?_)
 replace s1:Heap.SameBut it hp h1:=s1
 have he1:IsEnum h1 e it i old:=(s1.2 e hne).trans he
 show wpAny _ _ (field (.ref e) 3 >>= _) _ _ ⟨h1,g,d,tk,os⟩;refine wB1 (wpAny_field he1 rfl (x:=rawInt i) rfl ?_)
 show wpAny _ _ (field (.ref e) 4 >>= _) _ _ ⟨h1,g,d,tk,os⟩;refine wB1 (wpAny_field he1 rfl (x:=.none) rfl ?_)
 show wpAny _ _ (mkInt i >>= _) _ _ ⟨h1,g,d,tk,os⟩;refine wB1 (wpAny_mkInt ?_)
 show wpAny _ _ (setField (.ref e) 3 (rawInt ((i:Int)+1)) >>= _) _ _ ⟨h1,g,d,tk+1,os⟩;refine wB1 (wS1 he1 (by simp) fun h2 he2 s2=>?_)
 replace s2:Heap.SameBut e h1 h2:=s2
 replace he2:IsEnum h2 e it ((i:Int)+1) old:=he2
 show wpAny _ _ (setField (.ref e) 4 .none >>= _) _ _ ⟨h2,g,d,tk+1,os⟩;refine wB1 (wS1 he2 (by simp) fun h3 he3 s3=>?_)
 replace s3:Heap.SameBut e h2 h3:=s3
 replace he3:IsEnum h3 e it ((i:Int)+1) old:=he3
 show wpAny _ _ (newTuple [.int i tk,x] >>= _) _ _ ⟨h3,g,d,tk+1,os⟩;refine wB1 (wpAny_newTuple ?_)
 have he4:IsEnum (h3.push {cls:=.type "tuple",data:=.seq #[.int i tk,x]}) e it ((i:Int)+1) old:=hP1 _ he3
 generalize hh4:h3.push {cls:=.type "tuple",data:=.seq #[.int i tk,x]}=h4 at he4
 have hsz:h3.objs.size=hp.objs.size:=by rw [s3.1,s2.1,s1.1]
 have hel:e<hp.objs.size:=hL1 he
 have ht4:h4.get? hp.objs.size=some {cls:=.type "tuple",data:=.seq #[.int i tk,x]}:=by rw [<- hh4,<- hsz];exact hS1 _ rfl
 have hz4:h4.objs.size=hp.objs.size+1:=by rw [<- hh4,hZ1,hsz]
 have hk4:∀ b o,b≠e->b≠it->hp.get? b=some o->h4.get? b=some o:=fun b o hbe hbi hb=>by
  rw [<- hh4];exact hP1 _ (s3.extBut b o hbe (s2.extBut b o hbe (s1.extBut b o hbi hb)))
 have ti4:SIt b h4 it l (i+1):=ti1.to fun o q=>by rw [<- hh4];exact hP1 _ (s3.extBut _ _ (Ne.symm hne) (s2.extBut _ _ (Ne.symm hne) q))
 show wpAny _ _ (Builtin.SmallTypes.ownedTupleIsFree (.ref e) >>= _) _ _ ⟨h4,g,d,tk+1,os⟩
 rw [hsz];clear hh4 he3 s3 he2 s2 he1 s1 ti1 hsz h3 h2 h1
 refine wB1 ?_;unfold Builtin.SmallTypes.ownedTupleIsFree
 refine wB1 (wpAny_field he4 rfl (x:=.none) rfl (wP1 ?_));simp only [if_true]
 refine wB1 (wpAny_rule ?_);refine wB1 (wpAny_field he4 rfl (x:=old) rfl ?_)
 refine wB1 (wS1 he4 (by simp) fun h5 he5 s5=>?_)
 replace s5:Heap.SameBut e h4 h5:=s5
 replace he5:IsEnum h5 e it ((i:Int)+1) x:=he5
 show wpAny _ _ (Builtin.SmallTypes.ownedTupleHandOut (.ref e) (.ref hp.objs.size) >>= _) _ _ ⟨h5,g,d,tk+1,os⟩
 refine wB1 ?_;unfold Builtin.SmallTypes.ownedTupleHandOut
 refine wB1 (wS1 he5 (by simp) fun h6 he6 s6=>?_)
 replace s6:Heap.SameBut e h5 h6:=s6
 replace he6:IsEnumOut h6 e it ((i:Int)+1) x hp.objs.size:=he6
 refine wS1 he6 (by simp) fun h7 he7 s7=>?_
 replace s7:Heap.SameBut e h6 h7:=s7
 replace he7:IsEnumOut h7 e it ((i:Int)+1) x hp.objs.size:=he7
 have up:∀ c o,c≠e->h4.get? c=some o->h7.get? c=some o:=fun c o z q=>s7.extBut _ _ z (s6.extBut _ _ z (s5.extBut _ _ z q))
 refine wB1 (wpAny_letGo (wP1 ⟨_,rfl,wP1 (hQ h7 he7 (ti4.to fun o q=>up _ o (Ne.symm hne) q) (up _ _ (nG1 hel) ht4) (by rw [s7.1,s6.1,s5.1,hz4]) fun c o hbe hbi hb=>up c o hbe (hk4 c o hbe hbi hb))⟩))
theorem qle {b:Bool}{e it l:Addr}{i:Nat}{xs:Array Value}{old:Value}{Q:Option Value->Shared->Prop}(hh:A.handled=none)(he:IsEnum s.heap e it i old)(ti:SIt b s.heap it l i)(tl:SCo b s.heap l xs)(hx:xs[i]? = none)
  (hQ:∀ h',Heap.ExtBut it s.heap h'->Q none {s with heap:=h'}):wpAny (model prog w) A (pyNext (.ref e)) Q E s:=by
 have hT:s.TypeIs (.ref e) "enumerate":=⟨_,he,rfl⟩
 unfold pyNext
 refine wB1 (wpAny_attempt (wpAny_callSpecial?_slot (name:=Str.ofString "__next__") hT F.slot_enumerate_next (wE1 F.slot_enumerate_next hT F.entry_enumerate_next ?_ (F.args_enumerate_next_1 _))))
 show wpAny _ _ (field (.ref e) 2 >>= _) _ _ _;refine wB1 (wpAny_field he rfl (x:=.ref it) rfl ?_)
 refine wB1 (qfV hh ti tl hx fun h' x he' hx'=>?_);obtain ⟨o,ho,hc⟩:=hx'
 refine wB1 (wpAny_isInstance (T:="StopIteration") (b:=true) ⟨o,ho,hc⟩ isSubtype_stop ?_);exact wP1 (hQ _ he')
theorem qgc {e it:Addr}{i:Int}{old:Value}{Q:Value->Shared->Prop}(he:IsEnum s.heap e it i old)(h:Q (.ref e) s):wpAny (model prog w) A (pyIter (.ref e)) Q E s:=by
 have hT:s.TypeIs (.ref e) "enumerate":=⟨_,he,rfl⟩
 refine wpAny_pyIter_slot hT F.slot_enumerate_iter (wE1 F.slot_enumerate_iter hT F.entry_enumerate_iter ?_ (F.args_enumerate_iter_1 _))
 show wpAny _ _ (ret (.ref e)) _ _ s
 exact wP1 ⟨_,rfl,"enumerate",_,hT,F.slot_enumerate_next.lookup,h⟩
end
open PySem.AutoSeq1 (wpAny_loadPart')
section
variable {prog:Program} {w:World} {A:Around} {E:Value->Shared->Prop} {s:Shared} {b1 b2:Bool}
end
noncomputable def SqB (K:Fg1)(b:Bool)(H:Hp)(a:Addr)(xs:List V):Prop:=match b with
 | true=>SqL K H a xs
 | false=>SqT K H a xs
section
variable {X:Cx} {pins:List (Addr×Obj)} {σ:L2.St} {H:Hp} {s:Shared}
theorem qbV {b:Bool}{a:Addr}{xs:List V}(I:Inv X pins σ H s)(h:SqB X.K b H a xs):∃ its:List Value,Vals xs its/\SCo b s.heap a its.toArray/\xs.length<=sizeLine:=by
 cases b
 ·obtain ⟨its,r,p,z⟩:=I.tuple h
  exact ⟨its,r,p,z⟩
 ·obtain ⟨its,r,p,z⟩:=I.list h
  exact ⟨its,r,p.isList,z⟩
theorem qiw {b:Bool}{a:Addr}{xs ys:List V}(I:Inv X pins σ H s)(h:SqB X.K b H a xs)(h':SqB X.K b H a ys):xs=ys:=by
 cases b
 ·exact I.tuple_inj h h'
 ·exact I.list_inj h h'
theorem qk3 (I:Inv X pins σ H s){fp:List Addr}(hf:∀ b∈fp,FpOk X pins H b){h':Heap}{p:Addr}{xs:List V}{its:List Value}{t':Nat}(hp:s.heap.objs.size<=p)(kk:∀ b o,b∉fp->s.heap.get? b=some o->h'.get? b=some o)
  (tp:IsTup h' p its.toArray) (rv:Vals xs its) (hz:xs.length<=sizeLine):Inv X pins σ (upd H p (.tup xs)) {s with heap:=h',toks:=t'}:=by
 have hn:H p=none:=I.hok.fresh hp
 have neP:∀ {b o},s.heap.get? b=some o->b≠p:=fun e=>nN1 (nL1 (hL1 e) hp)
 have nf:∀ {b u},H b=some u->b∉fp:=fun e z=>by rw [(hf _ z).1] at e;cases e
 refine I.step (g':=s.gens) (d':=s.drawn) (ch:=fp) (fun b hb=>⟨(hf b hb).2.2.2.1,(hf b hb).2.1,(hf b hb).2.2.2.2.1,(hf b hb).2.2.2.2.2⟩) (fun b o _ _ hc e _=>kk b o hc e) (fun b o _ _ hc e _=>⟨o.slots,kk b o hc e⟩) (fun b o _ e n=>?_)
  (fun b o hc e=>⟨o,kk b o hc e⟩) (fun b ys e=>?_) (fun b o u e=>?_) (fun b ps e=>⟨#[],?_⟩) (fun m hm=>?_) (fun b u e=>?_) I.bare
 ·rw [qar (neP e)];exact n
 ·rw [qar (qav e hn)];exact e
 ·rw [qar (qav e hn)];exact e
 ·rw [qar (qav e hn),e];simp
 ·obtain ⟨o,es,ep,ho,r⟩:=hm
  exact ⟨o,es,ep,kk _ o (fun z=>(hf _ z).2.1 rfl) ho,r⟩
 ·by_cases hb:b=p
  ·subst hb;rw [qat] at e;cases e
   exact ⟨hz,its,rv,tp⟩
  ·rw [qar hb] at e
   refine (I.hok b u e).stay (fun c v hc q=>kk c v ?_ q) (fun c q=>by rw [qar (qav q hn)];exact q) fun c ys q=>by rw [qar (qav q hn)];exact q
   rcases hc with z | z
   ·rw [z];exact nf e
   ·exact nf z
theorem qia (I:Inv X pins σ H s){fp:List Addr}(hf:∀ b∈fp,FpOk X pins H b){h':Heap}{t':Nat}(kk:∀ b o,b∉fp->s.heap.get? b=some o->h'.get? b=some o):Inv X pins σ H {s with heap:=h',toks:=t'}:=by
 have nf:∀ {b u},H b=some u->b∉fp:=fun e z=>by rw [(hf _ z).1] at e;cases e
 refine I.step (g':=s.gens) (d':=s.drawn) (ch:=fp) (fun b hb=>⟨(hf b hb).2.2.2.1,(hf b hb).2.1,(hf b hb).2.2.2.2.1,(hf b hb).2.2.2.2.2⟩) (fun b o _ _ hc e _=>kk b o hc e) (fun b o _ _ hc e _=>⟨o.slots,kk b o hc e⟩) (fun b o _ e n=>n)
  (fun b o hc e=>⟨o,kk b o hc e⟩) (fun b ys e=>e) (fun b o u e=>e) (fun b ps e=>⟨#[],by rw [e];simp⟩) (fun m hm=>?_) (fun b u e=>?_) I.bare
 ·obtain ⟨o,es,ep,ho,r⟩:=hm
  exact ⟨o,es,ep,kk _ o (fun z=>(hf _ z).2.1 rfl) ho,r⟩
 ·refine (I.hok b u e).stay (fun c v hc q=>kk c v ?_ q) (fun c q=>q) fun c ys q=>q
  rcases hc with z | z
  ·rw [z];exact nf e
  ·exact nf z
end
theorem qj8:(2:Nat)<=sizeLine:=by decide
noncomputable def Ite (K:Fg1)(b:Bool)(a:Addr):It:=
 ⟨fun i H=>∃ xs x,SqB K b H a xs/\xs[i]? = some x,fun i H x H'=>∃ p v,H p=none/\x = .ref p/\H'=upd H p (.tup [.int i,v]) /\ ∀ xs,SqB K b H a xs->xs[i]? = some v,fun i H=>∃ xs,SqB K b H a xs/\xs.length<=i⟩
theorem qiq {P:Program}{w:World}{K:Fg1}{elts:List Expr}{k:Nat}{pos:Pos}(b:Bool)(a e it:Addr)(ne:e≠it):Turn P w K (.Tuple elts k pos) (Ite K b a) [e,it] e (fun i h=>(∃ old,IsEnum h e it (i:Nat) old)/\SIt b h it a i) where
 mem:=by simp
 obj:=by
  rintro i h ⟨⟨old,st⟩,si⟩ c hc
  rcases List.mem_cons.mp hc with z | z
  ·subst z;exact ⟨_,st,fun v q=>by cases q⟩
  ·have z':c=it:=by simpa using z
   subst z';exact si.rec_
 keep:=fun i h h' ⟨⟨old,st⟩,si⟩ kk=>⟨⟨old,kk e (by simp) _ st⟩,si.to fun o q=>kk it (by simp) o q⟩
 item:=by
  intro X hP hw hK hc i pins s σ H E I hf st hg
  subst hP hw hK
  obtain ⟨⟨old,he⟩,ti⟩:=st
  obtain ⟨xs,x,hq,hx⟩:=hg
  obtain ⟨its,rv,co,hz⟩:=qbV I hq
  obtain ⟨u,hu,ru⟩:=rv.get hx
  refine qju he ti co (x:=u) (by simpa using hu) ne fun h1 heo ti1 ht1 hz1 hk1=>?_
  refine ⟨.ref s.heap.objs.size,rfl,?_⟩
  refine wpAny_letOwnedTupleGo_enum heo fun h2 he2 hs2=>?_
  have pe:s.heap.objs.size≠e:=nG1 (hL1 he)
  have hk2:∀ c o,c∉[e,it]->s.heap.get? c=some o->h2.get? c=some o:=fun c o hc q=>by
   have c1:c≠e:=fun z=>hc (by simp [z])
   have c2:c≠it:=fun z=>hc (by simp [z])
   exact hs2.extBut _ _ c1 (hk1 c o c1 c2 q)
  have tp:IsTup h2 s.heap.objs.size [.int (i:Nat) s.toks,u].toArray:=⟨_,hs2.extBut _ _ pe ht1,rfl,_,rfl⟩
  have I2:=qk3 I hf (t':=s.toks+1) (nR1 _) hk2 tp (xs:=[.int i,x]) (.cons ⟨_,rfl⟩ (.cons ru .nil)) qj8
  have hn:H s.heap.objs.size=none:=I.hok.fresh (nR1 _)
  refine ⟨.ref s.heap.objs.size,_,I2,rfl,⟨_,x,hn,rfl,rfl,fun ys hy=>by rw [qiw I hy hq];exact hx⟩,⟨⟨u,?_⟩,ti1.to fun o q=>hs2.extBut _ _ (Ne.symm ne) q⟩,fun c hc=>?_⟩
  ·have:((i+1:Nat):Int)=(i:Int)+1:=by push_cast;rfl
   rw [this];exact he2
  ·have c1:c≠s.heap.objs.size:=fun z=>by
    rcases List.mem_cons.mp hc with q | q
    ·exact pe (z.symm.trans q)
    ·have q':c=it:=by simpa using q
     obtain ⟨o,eo,_⟩:=ti.rec_
     rw [<- q',z] at eo
     exact Nat.lt_irrefl _ (hL1 eo)
   rw [qar c1];exact (hf c hc).1
 done:=by
  intro X hP hw hK hc i pins s σ H E I hf st hg
  subst hP hw hK
  obtain ⟨⟨old,he⟩,ti⟩:=st
  obtain ⟨xs,hq,hx⟩:=hg
  obtain ⟨its,rv,co,hz⟩:=qbV I hq
  have hl:=rv.length
  refine qle (I.ok.hd hc) he ti co (by simp;lia) fun h' eb=>⟨rfl,qia I (t':=s.toks) hf fun c o hc q=>eb c o (fun z=>hc (by simp [z])) q⟩
 self:=fun _ _ _ _ _ ⟨⟨_,st⟩,_⟩ h=>qgc st h
section
variable {X:Cx} {elts:List Expr} {k:Nat} {tpos:Pos}
noncomputable def qqP (K:Fg1)(ta:TA):TI:=fun σ H R=>ta σ H fun vs H1=>∃ a b,vs=[.ref a]/\(∃ xs,SqB K b H1 a xs)/\R (Ite K b a) H1
theorem qmz {a:Expr}{ta:TA}{p pos:Pos}(hg:Gl X "enumerate")(hm:X.mg "enumerate"=none)(ha:PA X [a] ta)(hs:starEach [a] X.env=[(false,eval a X.env)]:=by rfl):PI X (.Tuple elts k tpos) (.Call (.Name "enumerate" p) [a] [] pos) (qqP X.K ta):=by
 intro pins s σ H R I h
 refine Call_ (qeM I hg hm boot_enumerate (PyProof.Rows.callWith_type1 (thn (ha pos pins s σ H _ I h) fun us s1 ⟨vs,H1,I1,r1,q1⟩=>?_) hs rfl))
 obtain ⟨c,b,e,⟨xs,hq⟩,q⟩:=q1
 subst e
 cases r1 with
 | cons r rr=>
  cases rr
  cases r
  obtain ⟨its,rv,co,hz⟩:=qbV I1 hq
  refine qjv co fun h' he ti hz' hk=>qgc he ?_
  have I2:Inv X pins σ H1 {s1 with heap:=h'}:=I1.kept (t':=s1.toks) hk
  refine ⟨s1.heap.objs.size+1,[s1.heap.objs.size+1,s1.heap.objs.size],_,_,H1,rfl,I2,qiq b c _ _ (Nat.succ_ne_self _),⟨⟨.none,he⟩,ti⟩,fun d hd=>?_,q⟩
  rcases List.mem_cons.mp hd with z | z
  ·subst z;exact I1.fpOk (Nat.le_succ _) (I1.hok.fresh (Nat.le_succ _))
  ·have z':d=s1.heap.objs.size:=by simpa using z
   subst z';exact I1.fpOk (nR1 _) (I1.hok.fresh (nR1 _))
end
noncomputable def qaz (S:Sto):D->Option (Bool×List D)
 | .tup xs=>some (false,xs)
 | .rol xs=>some (true,xs)
 | .ref n=>match S[n]? with
  | some (.lst xs)=>some (true,xs)
  | _=>none
 | _=>none
noncomputable def qfw (S:Sto):D->List (Nat×List D)
 | .ref n=>match S[n]? with
  | some (.lst xs)=>[(n,xs)]
  | _=>[]
 | _=>[]
section
variable {K:Fg1} {H:Hp} {mu:List Addr} {S:Sto}
theorem qap {d:D}{v:V}{b:Bool}{xs:List D}(r:Rep K H mu d v)(s:Sim K H mu S)(h:qaz S d=some (b,xs)):∃ a vs,v = .ref a/\SqB K b H a vs/\Reps K H mu xs vs:=by
 cases d with
 | tup ys=>cases h;cases r with | tup q t=>exact ⟨_,_,rfl,q,t⟩
 | rol ys=>cases h;cases r with | rol q t=>exact ⟨_,_,rfl,q.sq,t⟩
 | ref n=>
  rw [qaz] at h
  split at h
  ·rename_i ys e
   cases h
   cases r with
   | ref q=>
    obtain ⟨vs,e1,r1⟩:=s.lst e q
    exact ⟨_,vs,rfl,SqL.of e1,r1⟩
  ·cases h
 | _=>cases h
theorem qec {d:D}{a:Addr}{b:Bool}{xs:List D}(r:Rep K H mu d (.ref a))(s:Sim K H mu S)(h:qaz S d=some (b,xs)){H1:Hp}{mu1:List Addr}{S1:Sto}(x:Exw mu mu1 H H1)(s1:Sim K H1 mu1 S1)(ok:okC S1 (qfw S d)=true):
  ∃ vs,SqB K b H1 a vs/\Reps K H1 mu1 xs vs:=by
 have r1:=r.exw x
 have h1:qaz S1 d=some (b,xs):=by
  cases d with
  | ref n=>
   rw [qaz] at h
   split at h
   ·rename_i ys e
    cases h
    rw [qfw,e] at ok
    dsimp only [okC] at ok
    rw [Bool.and_true] at ok
    rw [qaz]
    split at ok
    ·rename_i zs ez
     first | rw [ez,D.sames_eq ok] | rw [D.sames_eq ok]
    ·cases ok
   ·cases h
  | _=>exact h
 obtain ⟨a',vs,e,q,t⟩:=qap r1 s1 h1
 cases e
 exact ⟨vs,q,t⟩
end
noncomputable def iSeq (m:FE):FI:=fun r S=>(m r S).bind fun p=>(qaz p.2 p.1).bind fun q=>some (⟨q.2,qfw p.2 p.1⟩,p.2)
noncomputable def enD:Nat->List D->List D
 | _,[]=>[]
 | n,d::ds=>.tup [.int n,d]::enD (n+1) ds
noncomputable def iEn (m:FA):FI:=fun r S=>(m r S).bind fun p=>match p.1 with
 | [d]=>(qaz p.2 d).bind fun q=>some (⟨enD 0 q.2,qfw p.2 d⟩,p.2)
 | _=>none
noncomputable def nums (lo:Int):Nat->List D
 | 0=>[]
 | n+1=>.int lo::nums (lo+1) n
noncomputable def iR1 (m:FA):FI:=fun r S=>(m r S).bind fun p=>match p.1 with
 | [.int j]=>if-(2^62)<=j/\j<2^62 then some (⟨nums 0 j.toNat,[]⟩,p.2) else none
 | _=>none
noncomputable def iR2 (m:FA):FI:=fun r S=>(m r S).bind fun p=>match p.1 with
 | [.int i,.int j]=>if-(2^62)<=i/\i<2^62 /\ -(2^62)<=j/\j<2^62 then some (⟨nums i (j-i).toNat,[]⟩,p.2) else none
 | _=>none
theorem qbt:∀ (ds:List D) (n i:Nat),(enD n ds)[i]? = (ds[i]?).map fun d=>.tup [.int ((n+i:Nat):Int),d]
 | [],n,i=>by simp [enD]
 | d::ds,n,0=>by simp [enD]
 | d::ds,n,i+1=>by
  rw [enD,gC1,qbt ds (n+1) i,gC1]
  rw [show n+1+i=n+(i+1) by lia]
theorem qbM:∀ (ds:List D) (n:Nat),(enD n ds).length=ds.length
 | [],_=>rfl
 | d::ds,n=>by rw [enD,lC1,qbM ds,lC1]
theorem qhl:∀ (n:Nat) (lo:Int) (i:Nat) (d:D),(nums lo n)[i]? = some d->i<n/\d = .int (lo+i)
 | 0,lo,i,d,h=>by simp [nums] at h
 | n+1,lo,0,d,h=>by simp [nums] at h;exact ⟨Nat.succ_pos _,by rw [<- h];simp⟩
 | n+1,lo,i+1,d,h=>by
  rw [nums,gC1] at h
  obtain ⟨h1,h2⟩:=qhl n (lo+1) i d h
  refine ⟨Nat.succ_lt_succ h1,?_⟩
  rw [h2,show lo+1+(i:Int)=lo+((i+1:Nat):Int) by push_cast;lia]
theorem qaI:∀ (n:Nat) (lo:Int),(nums lo n).length=n
 | 0,_=>rfl
 | n+1,lo=>by rw [nums,lC1,qaI n]
section
variable {X:Cx} {tg:Expr}
theorem qhr (K:Fg1)(lo:Int)(n:Nat)(mu:List Addr)(H:Hp):ItR K (Itr lo n) ⟨nums lo n,[]⟩ mu H:=by
 intro i H1 mu1 S1 x s ok
 refine ⟨fun d hd=>?_,fun h=>by rw [qaI] at h;exact h⟩
 obtain ⟨h1,h2⟩:=qhl n lo i d hd
 refine ⟨h1,fun y H2 ⟨e1,e2⟩=>?_⟩
 subst e1;subst e2;subst h2
 exact ⟨.refl _ _,s,.int _⟩
theorem qoZ {e:Expr}{m:FE}(h:ME X e m):MI X tg e (iSeq m):=qhj (qqp (qmy h) (qop h)) <| by
 rintro σ H R ⟨r,mu,S,J,S',he,hs,hm,hc⟩
 obtain ⟨⟨d,S1⟩,e1,hm⟩:=oB1.mp hm
 obtain ⟨⟨b,xs⟩,e2,hm⟩:=oB1.mp hm
 cases hm
 cases b with
 | true=>
  left
  refine ⟨r,mu,S,d,_,he,hs,e1,fun v H1 mu1 x1 r1 s1=>?_⟩
  obtain ⟨a,vs,rfl,q,t⟩:=qap r1 s1 e2
  refine ⟨a,rfl,⟨vs,q⟩,hc _ H1 mu1 x1 (fun i H2 mu2 S2 x2 s2 ok=>?_) s1⟩
  obtain ⟨ws,q2,t2⟩:=qec r1 s1 e2 x2 s2 ok
  refine ⟨fun d hd=>?_,fun hl=>⟨ws,q2,by rw [<- t2.length];exact hl⟩⟩
  obtain ⟨v,ev,rv⟩:=t2.get hd
  refine ⟨⟨ws,v,q2,ev⟩,fun y H3 ⟨z1,z2⟩=>?_⟩
  subst z1
  have:=z2 ws q2
  rw [ev] at this
  cases this
  exact ⟨.refl _ _,s2,rv⟩
 | false=>
  right
  refine ⟨r,mu,S,d,_,he,hs,e1,fun v H1 mu1 x1 r1 s1=>?_⟩
  obtain ⟨a,vs,rfl,q,t⟩:=qap r1 s1 e2
  refine ⟨a,rfl,⟨vs,q⟩,hc _ H1 mu1 x1 (fun i H2 mu2 S2 x2 s2 ok=>?_) s1⟩
  obtain ⟨ws,q2,t2⟩:=qec r1 s1 e2 x2 s2 ok
  refine ⟨fun d hd=>?_,fun hl=>⟨ws,q2,by rw [<- t2.length];exact hl⟩⟩
  obtain ⟨v,ev,rv⟩:=t2.get hd
  refine ⟨⟨ws,v,q2,ev⟩,fun y H3 ⟨z1,z2⟩=>?_⟩
  subst z1
  have:=z2 ws q2
  rw [ev] at this
  cases this
  exact ⟨.refl _ _,s2,rv⟩
theorem qd2 {K:Fg1}{H:Hp}{mu:List Addr}{d:D}{vs:List V}(r:Reps K H mu [d] vs):∃ v,vs=[v]/\Rep K H mu d v:=by
 cases r with | cons r t=>cases t;exact ⟨_,rfl,r⟩
theorem qkg {K:Fg1}{H:Hp}{mu:List Addr}{d e:D}{vs:List V}(r:Reps K H mu [d,e] vs):∃ v u,vs=[v,u]/\Rep K H mu d v/\Rep K H mu e u:=by
 cases r with | cons r t=>cases t with | cons q t=>cases t;exact ⟨_,_,rfl,r,q⟩
theorem qiZ {a:Expr}{m:FA}{p pos:Pos}(hg:Gl X "range")(hm:X.mg "range"=none)(ha:MA X [a] m)(hs:starEach [a] X.env=[(false,eval a X.env)]:=by rfl):MI X tg (.Call (.Name "range" p) [a] [] pos) (iR1 m):=
 qhj (qiI hg hm ha hs) <| by
  rintro σ H R ⟨r,mu,S,J,S',he,hs,hm,hc⟩
  obtain ⟨⟨ds,S1⟩,e1,hm⟩:=oB1.mp hm
  dsimp only at hm
  split at hm
  ·rename_i j
   split at hm
   ·rename_i hb
    cases hm
    refine ⟨r,mu,S,_,_,he,hs,e1,fun vs H1 mu1 x1 r1 s1=>?_⟩
    obtain ⟨v,rfl,rv⟩:=qd2 r1
    cases rv
    exact ⟨j,rfl,hb.1,hb.2,hc _ H1 mu1 x1 (qhr _ _ _ _ _) s1⟩
   ·cases hm
  ·cases hm
theorem qiY {a b:Expr}{m:FA}{p pos:Pos}(hg:Gl X "range")(hm:X.mg "range"=none)(ha:MA X [a,b] m)(hs:starEach [a,b] X.env=[(false,eval a X.env),(false,eval b X.env)]:=by rfl)(hs2:starEach [b] X.env=[(false,eval b X.env)]:=by rfl):MI X tg (.Call (.Name "range" p) [a,b] [] pos) (iR2 m):=
 qhj (qiH hg hm ha hs hs2) <| by
  rintro σ H R ⟨r,mu,S,J,S',he,hs,hm,hc⟩
  obtain ⟨⟨ds,S1⟩,e1,hm⟩:=oB1.mp hm
  dsimp only at hm
  split at hm
  ·rename_i i j
   split at hm
   ·rename_i hb
    cases hm
    refine ⟨r,mu,S,_,_,he,hs,e1,fun vs H1 mu1 x1 r1 s1=>?_⟩
    obtain ⟨v,u,rfl,rv,ru⟩:=qkg r1
    cases rv;cases ru
    exact ⟨i,j,rfl,hb,hc _ H1 mu1 x1 (qhr _ _ _ _ _) s1⟩
   ·cases hm
  ·cases hm
variable {elts:List Expr} {k:Nat} {tpos:Pos}
theorem qm0 {a:Expr}{m:FA}{p pos:Pos}(hg:Gl X "enumerate")(hm:X.mg "enumerate"=none)(ha:MA X [a] m)(hs:starEach [a] X.env=[(false,eval a X.env)]:=by rfl):MI X (.Tuple elts k tpos) (.Call (.Name "enumerate" p) [a] [] pos) (iEn m):=
 qhj (qmz hg hm ha hs) <| by
  rintro σ H R ⟨r,mu,S,J,S',he,hs,hm,hc⟩
  obtain ⟨⟨ds,S1⟩,e1,hm⟩:=oB1.mp hm
  dsimp only at hm
  split at hm
  ·rename_i d
   obtain ⟨⟨b,xs⟩,e2,hm⟩:=oB1.mp hm
   cases hm
   refine ⟨r,mu,S,_,_,he,hs,e1,fun vs H1 mu1 x1 r1 s1=>?_⟩
   obtain ⟨v,rfl,rv⟩:=qd2 r1
   obtain ⟨a,vs,rfl,q,t⟩:=qap rv s1 e2
   refine ⟨a,b,rfl,⟨vs,q⟩,hc _ H1 mu1 x1 (fun i H2 mu2 S2 x2 s2 ok=>?_) s1⟩
   obtain ⟨ws,q2,t2⟩:=qec rv s1 e2 x2 s2 ok
   refine ⟨fun d hd=>?_,fun hl=>⟨ws,q2,by rw [qbM] at hl;rw [<- t2.length];exact hl⟩⟩
   rw [qbt] at hd
   obtain ⟨d',ed,hd⟩:=oM1.mp hd
   obtain ⟨v,ev,rv'⟩:=t2.get ed
   refine ⟨⟨ws,v,q2,ev⟩,fun y H3 ⟨p,v',hp,z1,z2,z3⟩=>?_⟩
   have:=z3 ws q2
   rw [ev] at this
   cases this
   subst z1;subst z2;subst hd
   rw [Nat.zero_add]
   exact ⟨Ext.fresh hp,s2.fresh hp,.tup (SqT.of qat) (.cons (.int _) (.cons (rv'.ext (Ext.fresh hp)) .nil))⟩
  ·cases hm
end
noncomputable abbrev G1:=D->Sto->Option (D×Sto)
noncomputable abbrev G2:=D->D->Sto->Option (D×Sto)
noncomputable abbrev G3:=D->D->D->Sto->Option (D×Sto)
noncomputable def b1 (f:G1):FN:=fun ds S=>match ds with
 | [a]=>f a S
 | _=>none
noncomputable def b2 (f:G2):FN:=fun ds S=>match ds with
 | [a,b]=>f a b S
 | _=>none
noncomputable def b3 (f:G3):FN:=fun ds S=>match ds with
 | [a,b,c]=>f a b c S
 | _=>none
section
variable {X:Cx} {K:Fg1} {H:Hp} {Q:VK}
theorem rn2 {f:G2}{x y:V}(h:rN K (b2 f) [x,y] H Q):∃ mu S d e r S',Rep K H mu d x/\Rep K H mu e y/\Sim K H mu S/\f d e S=some (r,S')/\Cont K mu H r S' Q:=by
 obtain ⟨mu,S,ds,r,S',hr,hs,hm,hc⟩:=h
 cases hr with
 | cons q t=>cases t with
  | cons q2 t=>cases t;exact ⟨mu,S,_,_,r,S',q,q2,hs,hm,hc⟩
theorem rn1 {f:G1}{xs:List V}(h:rN K (b1 f) xs H Q):∃ x mu S d r S',xs=[x]/\Rep K H mu d x/\Sim K H mu S/\f d S=some (r,S')/\Cont K mu H r S' Q:=by
 obtain ⟨mu,S,ds,r,S',hr,hs,hm,hc⟩:=h
 cases hr with
 | nil=>cases hm
 | cons q t=>cases t with
  | nil=>exact ⟨_,mu,S,_,r,S',rfl,q,hs,hm,hc⟩
  | cons q2 t=>cases hm
theorem rn2l {f:G2}{xs:List V}(h:rN K (b2 f) xs H Q):∃ x y mu S d e r S',xs=[x,y]/\Rep K H mu d x/\Rep K H mu e y/\Sim K H mu S/\f d e S=some (r,S')/\Cont K mu H r S' Q:=by
 obtain ⟨mu,S,ds,r,S',hr,hs,hm,hc⟩:=h
 cases hr with
 | nil=>cases hm
 | cons q t=>cases t with
  | nil=>cases hm
  | cons q2 t=>cases t with
   | nil=>exact ⟨_,_,mu,S,_,_,r,S',rfl,q,q2,hs,hm,hc⟩
   | cons q3 t=>cases hm
theorem Cont.now {mu:List Addr}{S:Sto}{d:D}{v:V}(c:Cont K mu H d S Q)(r:Rep K H mu d v)(s:Sim K H mu S):Q v H:=c v H mu (.refl _ _) r s
end
noncomputable def qaS (i j:Int):Bool:=(decide (-(2^64)<i)&&decide (i<2^64))||(decide (-(2^64)<j)&&decide (j<2^64))||(decide (i.natAbs<2^1000)&&decide (j.natAbs<2^1000))
noncomputable def gAdd:G2:=fun d e S=>match d,e with
 | .int i,.int j=>some (.int (i+j),S)
 | .tup xs,.tup ys=>if xs.length+ys.length<=sizeLine then some (.tup (xs++ys),S) else none
 | .str x,.str y=>if x.length+y.length<=sizeLine then some (.str (x++y),S) else none
 | .ref a,.ref b=>match S[a]?,S[b]? with
  | some (.lst xs),some (.lst ys)=>if xs.length+ys.length<=sizeLine then some (.ref S.length,S++[.lst (xs++ys)]) else none
  | _,_=>none
 | _,_=>none
noncomputable def gSub:G2:=fun d e S=>match d,e with
 | .int i,.int j=>some (.int (i-j),S)
 | _,_=>none
noncomputable def gMul:G2:=fun d e S=>match d,e with
 | .int i,.int j=>if qaS i j=true then some (.int (i*j),S) else none
 | _,_=>none
noncomputable def gMod:G2:=fun d e S=>match d,e with
 | .int i,.int j=>if 0<j then some (.int (i%j),S) else none
 | _,_=>none
noncomputable def gDiv:G2:=fun d e S=>match d,e with
 | .int i,.int j=>if 0<j/\j<1073741824 then some (.int (i/j),S) else none
 | _,_=>none
noncomputable def gPow:G2:=fun d e S=>match d,e with
 | .int i,.int j=>if 0<=j/\j<=1000000/\i.natAbs<2^64 then some (.int (i^j.toNat),S) else none
 | _,_=>none
section
variable {X:Cx}
theorem qh3 {i j:Int}(h:qaS i j=true):IntMulOk i j:=by
 unfold qaS at h
 simp only [Bool.or_eq_true,bA1,decide_eq_true_eq] at h
 rcases h with (⟨h1,h2⟩ | ⟨h1,h2⟩) | ⟨h1,h2⟩
 ·exact .of_left (intBits_le_64 h1 h2)
 ·exact .of_right (intBits_le_64 h1 h2)
 ·exact .of_bits (Nat.le_trans (intBits_le h1) (by decide)) (Nat.le_trans (intBits_le h2) (by decide))
theorem qfa {f:Value->Value->Sem Value}{g:G2}{c:Int->Int->Prop}{v:Int->Int->D}(hg:∀ d e S r S',g d e S=some (r,S') -> ∃ i j,d = .int i/\e = .int j/\c i j/\r=v i j/\S'=S){vv:Int->Int->V}
  (hv:∀ i j K H mu,Rep K H mu (v i j) (vv i j)) (ho:OpR X f (rI c vv)):OpR X f (r2 X.K (b2 g)):=by
 intro pins s σ H x y u w Q I rx ry h
 obtain ⟨mu,S,d,e,r,S',r1,r2,hs,hm,hc⟩:=rn2 h
 obtain ⟨i,j,rfl,rfl,cc,rfl,rfl⟩:=hg d e S r S' hm
 cases r1;cases r2
 exact ho pins s σ H _ _ u w Q I rx ry ⟨i,j,rfl,rfl,cc,hc.now (hv i j _ _ _) hs⟩
theorem qhk {f:Value->Value->Sem Value}{g:G2}{v:Int->Int->D}(hg:∀ d e S r S',g d e S=some (r,S') -> ∃ i j,d = .int i/\e = .int j/\r=v i j/\S'=S){vv:Int->Int->V}
  (hv:∀ i j K H mu,Rep K H mu (v i j) (vv i j)) (ho:OpR X f (rI0 vv)):OpR X f (r2 X.K (b2 g)):=by
 intro pins s σ H x y u w Q I rx ry h
 obtain ⟨mu,S,d,e,r,S',r1,r2,hs,hm,hc⟩:=rn2 h
 obtain ⟨i,j,rfl,rfl,rfl,rfl⟩:=hg d e S r S' hm
 cases r1;cases r2
 exact ho pins s σ H _ _ u w Q I rx ry ⟨i,j,rfl,rfl,hc.now (hv i j _ _ _) hs⟩
theorem qfS:OpR X (binaryOp .Mult) (r2 X.K (b2 gMul)):=qfa (c:=fun i j=>IntMulOk i j) (v:=fun i j=>.int (i*j)) (fun d e S r S' h=>by
 unfold gMul at h;split at h
 ·split at h
  ·rename_i q;cases h;exact ⟨_,_,rfl,rfl,qh3 q,rfl,rfl⟩
  ·cases h
 ·cases h) (fun _ _ _ _ _=>.int _) (opI fun _ _ _ _ _ _ _ hc q=>mul_int q hc)
theorem qfT:OpR X (binaryOp .Mod) (r2 X.K (b2 gMod)):=qfa (c:=fun _ j=>0<j) (v:=fun i j=>.int (i%j)) (fun d e S r S' h=>by
 unfold gMod at h;split at h
 ·split at h
  ·rename_i q;cases h;exact ⟨_,_,rfl,rfl,q,rfl,rfl⟩
  ·cases h
 ·cases h) (fun _ _ _ _ _=>.int _) qoD
theorem qkE:OpR X (binaryOp .FloorDiv) (r2 X.K (b2 gDiv)):=qfa (c:=CDiv) (v:=fun i j=>.int (i/j)) (fun d e S r S' h=>by
 unfold gDiv at h;split at h
 ·split at h
  ·rename_i q;cases h;exact ⟨_,_,rfl,rfl,q,rfl,rfl⟩
  ·cases h
 ·cases h) (fun _ _ _ _ _=>.int _) qmI
theorem qmL:OpR X (binaryOp .Pow) (r2 X.K (b2 gPow)):=qfa (c:=CPow) (v:=fun i j=>.int (i^j.toNat)) (fun d e S r S' h=>by
 unfold gPow at h;split at h
 ·split at h
  ·rename_i q;cases h;exact ⟨_,_,rfl,rfl,q,rfl,rfl⟩
  ·cases h
 ·cases h) (fun _ _ _ _ _=>.int _) qoC
theorem qjK {s:Shared}{prog:Program}{w:World}{A:Around}{E:Value->Shared->Prop}{t b:Addr}{ws:List Value}{Q:Value->Shared->Prop}(ht:IsTup s.heap t ([]:List Value).toArray)(hb:IsTup s.heap b ws.toArray)(h:Q (.ref b) s):
  wpAny (model prog w) A (binaryOp .Add (.ref t) (.ref b)) Q E s:=by
 obtain ⟨⟨cls,dd,data,sl⟩,ho,hc,n,hd⟩:=id ht
 obtain ⟨⟨cls2,dd2,data2,sl2⟩,ho2,hc2,n2,hd2⟩:=id hb
 simp only at hc hd hc2 hd2;subst hc hd hc2 hd2
 exact concat_meets ⟨_,ho,rfl⟩ ⟨_,ho2,rfl⟩ noFill_tuple_add seq_tuple_add PySem.F.slot_tuple_add PySem.F.entry_tuple_add (PySem.F.args_tuple_add_2 _ _) (tuple_addW0 t b ([]:List Value).toArray ws.toArray n n2 dd dd2 sl sl2 (by simp)) ⟨ho,ho2,h⟩
theorem qc3:OpR X (binaryOp .Add) (r2 X.K (b2 gAdd)):=by
 intro pins s σ H x y u w Q I rx ry h
 obtain ⟨mu,S,d,e,r,S',r1,r2,hs,hm,hc⟩:=rn2 h
 unfold gAdd at hm
 split at hm
 ·cases hm;cases r1;cases r2
  exact qoG pins s σ H _ _ u w Q I rx ry ⟨_,_,rfl,rfl,hc.now (.int _) hs⟩
 ·rename_i xs ys
  split at hm
  ·rename_i hl
   cases hm
   cases r1 with
   | tup q1 t1=>
    cases r2 with
    | tup q2 t2=>
     rename_i vs1 a1 vs2 a2
     by_cases hx:vs1=[]
     ·subst hx
      have:xs=[]:=by cases t1;rfl
      subst this
      cases rx;cases ry
      obtain ⟨its,rv,p1,_⟩:=I.tuple q1
      obtain ⟨its2,rv2,p2,_⟩:=I.tuple q2
      have:its=[]:=rv.nil_iff.mpr rfl
      subst this
      exact qjK p1 p2 ⟨.ref a2,H,I,rfl,hc.now (.tup q2 t2) hs⟩
     ·refine qmJ pins s σ H _ _ u w Q I rx ry ⟨a1,a2,vs1,vs2,rfl,rfl,q1,q2,hx,by rw [<- t1.length,<- t2.length];exact hl,fun z=>?_,fun z p hp=>?_⟩
      ·subst z
       have:ys=[]:=by cases t2;rfl
       subst this
       rw [List.append_nil] at hc
       exact hc.now (.tup q1 t1) hs
      ·exact hc _ _ mu (Ext.fresh hp) (.tup (SqT.of qat) ((t1.append t2).ext (Ext.fresh hp))) (hs.fresh hp)
  ·cases hm
 ·rename_i i j
  split at hm
  ·rename_i hl
   cases hm;cases r1;cases r2
   exact qhY pins s σ H _ _ u w Q I rx ry ⟨i,j,rfl,rfl,hl,hc.now (.str _) hs⟩
  ·cases hm
 ·rename_i a b
  split at hm
  ·rename_i xs ys ea eb
   split at hm
   ·rename_i hl
    cases hm
    cases r1 with
    | ref qa=>
     cases r2 with
     | ref qb=>
      obtain ⟨vs1,e1,t1⟩:=hs.lst ea qa
      obtain ⟨vs2,e2,t2⟩:=hs.lst eb qb
      refine qoF pins s σ H _ _ u w Q I rx ry ⟨_,_,vs1,vs2,rfl,rfl,e1,e2,by rw [<- t1.length,<- t2.length];exact hl,fun p hp=>?_⟩
      exact hc _ _ (mu++[p]) (Ext.new_ hp) (.ref (qce hs.len p)) (hs.newL (t1.append t2) hp)
   ·cases hm
  ·cases hm
 ·cases hm
end
noncomputable def gCmp (p:Int->Int->Bool):G2:=fun d e S=>match d,e with
 | .int i,.int j=>some (.bl (p i j),S)
 | _,_=>none
section
variable {X:Cx}
theorem qjk {p:Int->Int->Bool}(d e:D)(S:Sto)(r:D)(S':Sto)(h:gCmp p d e S=some (r,S')):∃ i j,d = .int i/\e = .int j/\r = .bl (p i j)/\S'=S:=by
 unfold gCmp at h;split at h
 ·cases h;exact ⟨_,_,rfl,rfl,rfl,rfl⟩
 ·cases h
theorem o_gt:OpR X (compareOp .Gt) (r2 X.K (b2 (gCmp fun i j=>decide (j<i)))):=qhk qjk (fun _ _ _ _ _=>.bl _) qqu
theorem o_ge:OpR X (compareOp .GtE) (r2 X.K (b2 (gCmp fun i j=>decide (j<=i)))):=qhk qjk (fun _ _ _ _ _=>.bl _) qqv
end
noncomputable def qfs:D->Bool
 | .non=>true
 | .bl _=>true
 | .int _=>true
 | .str _=>true
 | _=>false
noncomputable def eqF:D->D->Option Bool
 | .non,.non=>some true
 | .bl a,.bl b=>some (a == b)
 | .bl a,.int b=>some ((if a then 1 else 0) == b)
 | .int a,.bl b=>some (a == (if b then 1 else 0))
 | .int a,.int b=>some (a == b)
 | .str a,.str b=>some (a == b)
 | d,e=>if qfs d&&qfs e then some false else none
noncomputable def eqL (f:D->D->Option Bool):List D->List D->Option Bool
 | x::xs,y::ys=>(f x y).bind fun b=>(eqL f xs ys).map fun c=>b&&c
 | [],[]=>some true
 | _,_=>some false
noncomputable def eqN (S:Sto):Nat->D->D->Option Bool
 | 0,_,_=>none
 | n+1,d,e=>match qaz S d,qaz S e with
  | some p,some q=>if p.1=q.1 then (if p.1=true/\p.2.length≠q.2.length then some false else eqL (eqN S n) p.2 q.2) else some false
  | some _,none=>if qfs e=true then some false else none
  | none,some _=>if qfs d=true then some false else none
  | none,none=>eqF d e
section
variable {X:Cx} {pins:List (Addr×Obj)} {σ:L2.St} {H:Hp} {s:Shared} {mu:List Addr} {S:Sto}
theorem qbs {K:Fg1}{d:D}{v:V}(r:Rep K H mu d v)(h:qfs d=true):qeE v=true /\ ∀ e w,Rep K H mu e w->qfs e=true->eqF d e=some (eqV v w):=by
 cases d with
 | non=>cases r;refine ⟨rfl,fun e w q f=>?_⟩;cases e with
  | non=>cases q;rfl
  | bl _=>cases q;rfl
  | int _=>cases q;rfl
  | str _=>cases q;rfl
  | _=>cases f
 | bl b=>cases r;refine ⟨rfl,fun e w q f=>?_⟩;cases e with
  | non=>cases q;rfl
  | bl _=>cases q;rfl
  | int _=>cases q;rfl
  | str _=>cases q;rfl
  | _=>cases f
 | int i=>cases r;refine ⟨rfl,fun e w q f=>?_⟩;cases e with
  | non=>cases q;rfl
  | bl _=>cases q;rfl
  | int _=>cases q;rfl
  | str _=>cases q;rfl
  | _=>cases f
 | str x=>cases r;refine ⟨rfl,fun e w q f=>?_⟩;cases e with
  | non=>cases q;rfl
  | bl _=>cases q;rfl
  | int _=>cases q;rfl
  | str _=>cases q;rfl
  | _=>cases f
 | _=>cases h
theorem qft {d e:D}{b:Bool}(h:eqF d e=some b):qfs d=true/\qfs e=true:=by
 cases d<;>cases e<;>first | exact ⟨rfl,rfl⟩ | (cases h;done) | exact nomatch h | (simp [eqF,qfs] at h)
theorem qlc {v:V}(h:qeE v=true):eqV v v=true:=by
 cases v<;>first | rfl | (cases h;done) | exact beq_self_eq_true _ | (simp [eqV];done)
theorem qhz (I:Inv X pins σ H s)(hs:Sim X.K H mu S):∀ (n:Nat) {d e:D} {v:V} {b:Bool},Rep X.K H mu d v->Rep X.K H mu e v->eqN S n d e=some b->b=true
 | 0,_,_,_,_,_,_,h=>by cases h
 | n + 1,d,e,v,b,rd,re,h=>by
  rw [eqN] at h
  have lists:∀ {xs ys:List D} {vs:List V} {b:Bool},Reps X.K H mu xs vs->Reps X.K H mu ys vs->eqL (eqN S n) xs ys=some b->b=true:=by
   intro xs
   induction xs with
   | nil=>intro ys vs b hx hy h;cases hx;cases hy;cases h;rfl
   | cons x xs ih=>
    intro ys vs b hx hy h
    cases hx with
    | cons r t=>
     cases hy with
     | cons r' t'=>
      rw [eqL] at h
      obtain ⟨b1,e1,h⟩:=oB1.mp h
      obtain ⟨b2,e2,h⟩:=oM1.mp h
      subst h
      rw [qhz I hs n r r' e1,ih t t' e2];rfl
  cases hd:qaz S d with
  | some p=>
   obtain ⟨pb,xs⟩:=p
   obtain ⟨a,vs,rfl,q,t⟩:=qap rd hs hd
   cases he:qaz S e with
   | some p2=>
    obtain ⟨qb,ys⟩:=p2
    obtain ⟨a2,vs2,e2,q2,t2⟩:=qap re hs he
    cases e2
    rw [hd,he] at h
    dsimp only at h
    obtain ⟨its,rv,co,_⟩:=qbV I q
    obtain ⟨its2,rv2,co2,_⟩:=qbV I q2
    have hb:pb=qb:=by
     cases pb<;>cases qb
     ·rfl
     ·obtain ⟨o,e1,c1,_⟩:=co;obtain ⟨o2,e2,c2,_⟩:=co2;rw [e1] at e2;cases e2;rw [c1] at c2;exact absurd c2 (by decide)
     ·obtain ⟨o,e1,c1,_⟩:=co;obtain ⟨o2,e2,c2,_⟩:=co2;rw [e1] at e2;cases e2;rw [c1] at c2;exact absurd c2 (by decide)
     ·rfl
    subst hb
    have hv:=qiw I q q2
    subst hv
    rw [if_pos rfl,if_neg (by rw [t.length,t2.length];simp)] at h
    exact lists t t2 h
   | none=>
    rw [hd,he] at h
    dsimp only at h
    split at h
    ·rename_i f
     have:=(qbs re f).1
     cases this
    ·cases h
  | none=>
   cases he:qaz S e with
   | some p2=>
    obtain ⟨qb,ys⟩:=p2
    obtain ⟨a2,vs2,e2,q2,t2⟩:=qap re hs he
    subst e2
    rw [hd,he] at h
    dsimp only at h
    split at h
    ·rename_i f
     have:=(qbs rd f).1
     cases this
    ·cases h
   | none=>
    rw [hd,he] at h
    dsimp only at h
    obtain ⟨f1,f2⟩:=qft h
    obtain ⟨g1,g2⟩:=qbs rd f1
    rw [g2 e v re f2] at h
    cases h
    exact qlc g1
theorem qaZ {A:Around}{b:Bool}{a:Addr}{its:Array Value}{v:V}{u:Value}(c:SCo b s.heap a its)(r:RelV v u)(f:qeE v=true)(hu:A.units<cLine):
   SeqAt.EqAt A s (.ref a) u false/\SeqAt.EqAt A s u (.ref a) false/\SeqAt.RcAt A s (.ref a) u false/\SeqAt.RcAt A s u (.ref a) false:=by
 cases v with
 | non => cases r;cases b
          · exact ⟨.tuple_none c hu,.none_tuple c hu,.tuple_none c hu,.none_tuple c hu⟩
          · exact ⟨.list_none c hu,.none_list c hu,.list_none c hu,.none_list c hu⟩
 | bl k => cases r;cases b
           · exact ⟨.tuple_bool k c hu,.bool_tuple k c hu,.tuple_bool k c hu,.bool_tuple k c hu⟩
           · exact ⟨.list_bool k c hu,.bool_list k c hu,.list_bool k c hu,.bool_list k c hu⟩
 | int i => obtain ⟨t,rfl⟩:=r;cases b
            · exact ⟨.tuple_int i t c hu,.int_tuple i t c hu,.tuple_int i t c hu,.int_tuple i t c hu⟩
            · exact ⟨.list_int i t c hu,.int_list i t c hu,.list_int i t c hu,.int_list i t c hu⟩
 | str x => obtain ⟨t,rfl⟩:=r;cases b
            · exact ⟨.tuple_str x t c hu,.str_tuple x t c hu,.tuple_str x t c hu,.str_tuple x t c hu⟩
            · exact ⟨.list_str x t c hu,.str_list x t c hu,.list_str x t c hu,.str_list x t c hu⟩
 | _=>cases f
theorem qmj {A:Around}{x y:V}{u w:Value}(rx:RelV x u)(ry:RelV y w)(fx:qeE x=true)(fy:qeE y=true):SeqAt.RcAt A s u w (eqV x y):=by
 cases x with
 | non=>cases rx;cases y with
  | non=>cases ry;exact .none_none
  | bl k=>cases ry;exact .none_bool k
  | int i=>obtain ⟨t,rfl⟩:=ry;exact .none_int i t
  | str z=>obtain ⟨t,rfl⟩:=ry;exact .none_str z t
  | _=>cases fy
 | bl k'=>cases rx;cases y with
  | non=>cases ry;exact .bool_none k'
  | bl k=>cases ry;exact .bool_bool k' k
  | int i=>obtain ⟨t,rfl⟩:=ry;exact .bool_int k' i t
  | str z=>obtain ⟨t,rfl⟩:=ry;exact .bool_str k' z t
  | _=>cases fy
 | int i'=>obtain ⟨t',rfl⟩:=rx;cases y with
  | non=>cases ry;exact .int_none i' t'
  | bl k=>cases ry;exact .int_bool i' t' k
  | int i=>obtain ⟨t,rfl⟩:=ry;exact .int_int i' t' i t
  | str z=>obtain ⟨t,rfl⟩:=ry;exact .int_str i' t' z t
  | _=>cases fy
 | str z'=>obtain ⟨t',rfl⟩:=rx;cases y with
  | non=>cases ry;exact .str_none z' t'
  | bl k=>cases ry;exact .str_bool z' t' k
  | int i=>obtain ⟨t,rfl⟩:=ry;exact .str_int z' t' i t
  | str z=>obtain ⟨t,rfl⟩:=ry;exact .str_str z' t' z t
  | _=>cases fy
 | _=>cases fx
theorem qjt (f:D->D->Option Bool):∀ {xs ys:List D} {b:Bool},eqL f xs ys=some b -> ∃ e:Nat->Bool,(∀ j x y,xs[j]? = some x->ys[j]? = some y->f x y=some (e j))/\b=((List.range (min xs.length ys.length)).all e&&xs.length == ys.length)
 | [],[],b,h=>by cases h;exact ⟨fun _=>true,fun j x y h=>by simp at h,rfl⟩
 | [],y::ys,b,h=>by cases h;exact ⟨fun _=>true,fun j x y h=>by simp at h,by simp⟩
 | x::xs,[],b,h=>by cases h;exact ⟨fun _=>true,fun j x y h h'=>by simp at h',by simp⟩
 | x::xs,y::ys,b,h=>by
  rw [eqL] at h
  obtain ⟨b1,e1,h⟩:=oB1.mp h
  obtain ⟨b2,e2,h⟩:=oM1.mp h
  obtain ⟨e,he,hb⟩:=qjt f e2
  refine ⟨fun j=>match j with | 0=>b1 | j+1=>e j,fun j x' y' hx hy=>?_,?_⟩
  ·cases j with
   | zero=>simp at hx hy;subst hx;subst hy;exact e1
   | succ j=>exact he j x' y' (by simpa using hx) (by simpa using hy)
  ·rw [<- h,hb,lC1,lC1,Nat.succ_min_succ,List.range_succ_eq_map,List.all_cons,List.all_map]
   have:((xs.length+1 == ys.length+1):Bool)=(xs.length == ys.length):=by simp
   rw [this,Bool.and_assoc]
   rfl
theorem qeR (I:Inv X pins σ H s) (hs:Sim X.K H mu S):∀ (n:Nat) {A:Around} {d e:D} {v w:V} {u z:Value} {b:Bool},A.units+n<cLine->Rep X.K H mu d v->Rep X.K H mu e w->RelV v u->RelV w z->eqN S n d e=some b->SeqAt.EqAt A s u z b/\SeqAt.RcAt A s u z b
 | 0,_,_,_,_,_,_,_,_,_,_,_,_,_,h=>by cases h
 | n + 1,A,d,e,v,w,u,z,b,hu,rd,re,ru,rz,h=>by
  have hu0:A.units<cLine:=by lia
  have h0:=h
  rw [eqN] at h
  cases hd:qaz S d with
  | some p=>
   obtain ⟨pb,xs⟩:=p
   obtain ⟨a,vs,rfl,q,t⟩:=qap rd hs hd
   obtain ⟨its,rv,co,_⟩:=qbV I q
   cases ru
   cases he:qaz S e with
   | some p2=>
    obtain ⟨qb,ys⟩:=p2
    obtain ⟨a2,vs2,rfl,q2,t2⟩:=qap re hs he
    obtain ⟨its2,rv2,co2,_⟩:=qbV I q2
    cases rz
    rw [hd,he] at h
    dsimp only at h
    have both:SeqAt.RcAt A s (.ref a) (.ref a2) b->SeqAt.EqAt A s (.ref a) (.ref a2) b/\SeqAt.RcAt A s (.ref a) (.ref a2) b:=fun rc=>by
     refine ⟨?_,rc⟩
     by_cases ha:a=a2
     ·subst ha
      rw [qhz I hs (n+1) rd re h0]
      exact .same _
     ·exact .of_refs ha rc
    split at h
    ·rename_i hb
     have hb':pb=qb:=hb
     subst hb'
     split at h
     ·rename_i hl
      cases h
      obtain ⟨h1,h2⟩:=hl
      subst h1
      refine both (.lists_lengths co co2 ?_ hu0)
      have l1:=t.length;have l2:=t2.length;have l3:=rv.length;have l4:=rv2.length
      simp only [sT1,bne_iff_ne,ne_eq]
      lia
     ·rename_i hl
      obtain ⟨f,hf,hbb⟩:=qjt _ h
      have elts:∀ j (h1:j<its.toArray.size) (h2:j<its2.toArray.size),SeqAt.EqAt A.in1 s its.toArray[j] its2.toArray[j] (f j):=fun j h1 h2=>by
       have h1':j<its.length:=by simpa using h1
       have h2':j<its2.length:=by simpa using h2
       have k1:j<vs.length:=by rw [rv.length];exact h1'
       have k2:j<vs2.length:=by rw [rv2.length];exact h2'
       obtain ⟨x,ex,rx⟩:=t.getV (gG1 k1)
       obtain ⟨y,ey,ry⟩:=t2.getV (gG1 k2)
       obtain ⟨u1,eu1,ru1⟩:=rv.get (gG1 k1)
       obtain ⟨u2,eu2,ru2⟩:=rv2.get (gG1 k2)
       have e1:its.toArray[j]=u1:=by
        rw [gG1 h1'] at eu1;simpa using eu1
       have e2:its2.toArray[j]=u2:=by
        rw [gG1 h2'] at eu2;simpa using eu2
       rw [e1,e2]
       exact (qeR I hs n (A:=A.in1) (by show A.units+1+n<cLine;lia) rx ry ru1 ru2 (hf j x y ex ey)).1
      have l1:=t.length;have l2:=t2.length;have l3:=rv.length;have l4:=rv2.length
      cases pb with
      | false=>
       refine both ?_
       have:=SeqAt.RcAt.tuples co co2 hu0 elts
       rw [hbb]
       have e1:its.toArray.size=xs.length:=by simp;lia
       have e2:its2.toArray.size=ys.length:=by simp;lia
       rw [e1,e2] at this
       exact this
      | true=>
       refine both ?_
       have hl':xs.length=ys.length:=by
        by_cases z:xs.length=ys.length
        ·exact z
        ·exact absurd ⟨rfl,z⟩ hl
       have:=SeqAt.RcAt.lists co co2 (by simp;lia) hu0 elts
       rw [hbb]
       have e1:its.toArray.size=xs.length:=by simp;lia
       rw [e1] at this
       rw [hl',Nat.min_self,beq_self_eq_true,Bool.and_true,<- hl']
       exact this
    ·rename_i hb
     cases h
     cases pb with
     | true=>
      cases qb with
      | true=>exact absurd rfl hb
      | false=>exact ⟨.list_tuple co co2 hu0,.list_tuple co co2 hu0⟩
     | false=>
      cases qb with
      | false=>exact absurd rfl hb
      | true=>exact ⟨.tuple_list co co2 hu0,.tuple_list co co2 hu0⟩
   | none=>
    rw [hd,he] at h
    dsimp only at h
    split at h
    ·rename_i f
     cases h
     obtain ⟨r1,r2,r3,r4⟩:=qaZ co rz (qbs re f).1 hu0
     exact ⟨r1,r3⟩
    ·cases h
  | none=>
   cases he:qaz S e with
   | some p2=>
    obtain ⟨qb,ys⟩:=p2
    obtain ⟨a2,vs2,rfl,q2,t2⟩:=qap re hs he
    obtain ⟨its2,rv2,co2,_⟩:=qbV I q2
    cases rz
    rw [hd,he] at h
    dsimp only at h
    split at h
    ·rename_i f
     cases h
     obtain ⟨r1,r2,r3,r4⟩:=qaZ co2 ru (qbs rd f).1 hu0
     exact ⟨r2,r4⟩
    ·cases h
   | none=>
    rw [hd,he] at h
    dsimp only at h
    obtain ⟨f1,f2⟩:=qft h
    obtain ⟨g1,g2⟩:=qbs rd f1
    have g3:=(qbs re f2).1
    rw [g2 e w re f2] at h
    cases h
    exact ⟨qer ru rz g1 g3,qmj ru rz g1 g3⟩
end
noncomputable def qam:Nat:=60
noncomputable def gEq:G2:=fun d e S=>(eqN S qam d e).map fun b=>(.bl b,S)
section
variable {X:Cx}
theorem o_eq (hu:X.A.units+64<cLine):OpR X (compareOp .Eq) (r2 X.K (b2 gEq)):=by
 intro pins s σ H x y u w Q I rx ry h
 obtain ⟨mu,S,d,e,r,S',r1,r2,hs,hm,hc⟩:=rn2 h
 obtain ⟨b,e1,hm⟩:=oM1.mp hm
 cases hm
 exact (qeR I hs qam (by show _+60<cLine;lia) r1 r2 rx ry e1).2 X.prog X.w X.xe _ ⟨.bl b,H,I,rfl,hc.now (.bl b) hs⟩
end
section
variable {X:Cx} {pins:List (Addr×Obj)} {σ:L2.St} {H:Hp} {s:Shared} {mu:List Addr} {S:Sto}
theorem qmR {A:Around}{x y:V}{u w:Value}(rx:RelV x u)(ry:RelV y w)(fx:qeE x=true)(fy:qeE y=true):SeqAt.RcNeAt A s u w (!eqV x y):=by
 cases x with
 | non=>cases rx;cases y with
  | non=>cases ry;exact .none_none
  | bl k=>cases ry;exact .none_bool k
  | int i=>obtain ⟨t,rfl⟩:=ry;exact .none_int i t
  | str z=>obtain ⟨t,rfl⟩:=ry;exact .none_str z t
  | _=>cases fy
 | bl k'=>cases rx;cases y with
  | non=>cases ry;exact .bool_none k'
  | bl k=>cases ry;exact .bool_bool k' k
  | int i=>obtain ⟨t,rfl⟩:=ry;exact .bool_int k' i t
  | str z=>obtain ⟨t,rfl⟩:=ry;exact .bool_str k' z t
  | _=>cases fy
 | int i'=>obtain ⟨t',rfl⟩:=rx;cases y with
  | non=>cases ry;exact .int_none i' t'
  | bl k=>cases ry;exact .int_bool i' t' k
  | int i=>obtain ⟨t,rfl⟩:=ry;exact .int_int i' t' i t
  | str z=>obtain ⟨t,rfl⟩:=ry;exact .int_str i' t' z t
  | _=>cases fy
 | str z'=>obtain ⟨t',rfl⟩:=rx;cases y with
  | non=>cases ry;exact .str_none z' t'
  | bl k=>cases ry;exact .str_bool z' t' k
  | int i=>obtain ⟨t,rfl⟩:=ry;exact .str_int z' t' i t
  | str z=>obtain ⟨t,rfl⟩:=ry;exact .str_str z' t' z t
  | _=>cases fy
 | _=>cases fx
theorem qej {A:Around}{b:Bool}{a:Addr}{its:Array Value}{v:V}{u:Value}(c:SCo b s.heap a its)(r:RelV v u)(f:qeE v=true)(hu:A.units<cLine):SeqAt.RcNeAt A s (.ref a) u true/\SeqAt.RcNeAt A s u (.ref a) true:=by
 cases v with
 | non => cases r;cases b
          · exact ⟨.tuple_none c hu,.none_tuple c hu⟩
          · exact ⟨.list_none c hu,.none_list c hu⟩
 | bl k => cases r;cases b
           · exact ⟨.tuple_bool k c hu,.bool_tuple k c hu⟩
           · exact ⟨.list_bool k c hu,.bool_list k c hu⟩
 | int i => obtain ⟨t,rfl⟩:=r;cases b
            · exact ⟨.tuple_int i t c hu,.int_tuple i t c hu⟩
            · exact ⟨.list_int i t c hu,.int_list i t c hu⟩
 | str x => obtain ⟨t,rfl⟩:=r;cases b
            · exact ⟨.tuple_str x t c hu,.str_tuple x t c hu⟩
            · exact ⟨.list_str x t c hu,.str_list x t c hu⟩
 | _=>cases f
theorem qoP (I:Inv X pins σ H s) (hs:Sim X.K H mu S) (n:Nat) {A:Around} {d e:D} {v w:V} {u z:Value} {b:Bool} (hu:A.units+n<cLine) (rd:Rep X.K H mu d v) (re:Rep X.K H mu e w) (ru:RelV v u) (rz:RelV w z) (h:eqN S n d e=some b):SeqAt.RcNeAt A s u z (!b):=by
 cases n with
 | zero=>cases h
 | succ n=>
  have hu0:A.units<cLine:=by lia
  rw [eqN] at h
  cases hd:qaz S d with
  | some p=>
   obtain ⟨pb,xs⟩:=p
   obtain ⟨a,vs,rfl,q,t⟩:=qap rd hs hd
   obtain ⟨its,rv,co,_⟩:=qbV I q
   cases ru
   cases he:qaz S e with
   | some p2=>
    obtain ⟨qb,ys⟩:=p2
    obtain ⟨a2,vs2,rfl,q2,t2⟩:=qap re hs he
    obtain ⟨its2,rv2,co2,_⟩:=qbV I q2
    cases rz
    rw [hd,he] at h
    dsimp only at h
    have l1:=t.length;have l2:=t2.length;have l3:=rv.length;have l4:=rv2.length
    split at h
    ·rename_i hb
     have hb':pb=qb:=hb
     subst hb'
     split at h
     ·rename_i hl
      cases h
      obtain ⟨h1,h2⟩:=hl
      subst h1
      refine .lists_lengths co co2 ?_ hu0
      simp only [sT1,bne_iff_ne,ne_eq]
      lia
     ·rename_i hl
      obtain ⟨f,hf,hbb⟩:=qjt _ h
      have elts:∀ j (h1:j<its.toArray.size) (h2:j<its2.toArray.size),SeqAt.EqAt A.in1 s its.toArray[j] its2.toArray[j] (f j):=fun j h1 h2=>by
       have h1':j<its.length:=by simpa using h1
       have h2':j<its2.length:=by simpa using h2
       have k1:j<vs.length:=by rw [rv.length];exact h1'
       have k2:j<vs2.length:=by rw [rv2.length];exact h2'
       obtain ⟨x,ex,rx⟩:=t.getV (gG1 k1)
       obtain ⟨y,ey,ry⟩:=t2.getV (gG1 k2)
       obtain ⟨u1,eu1,ru1⟩:=rv.get (gG1 k1)
       obtain ⟨u2,eu2,ru2⟩:=rv2.get (gG1 k2)
       have e1:its.toArray[j]=u1:=by
        rw [gG1 h1'] at eu1;simpa using eu1
       have e2:its2.toArray[j]=u2:=by
        rw [gG1 h2'] at eu2;simpa using eu2
       rw [e1,e2]
       exact (qeR I hs n (A:=A.in1) (by show A.units+1+n<cLine;lia) rx ry ru1 ru2 (hf j x y ex ey)).1
      cases pb with
      | false=>
       have:=SeqAt.RcNeAt.tuples co co2 hu0 elts
       rw [hbb]
       have e1:its.toArray.size=xs.length:=by simp;lia
       have e2:its2.toArray.size=ys.length:=by simp;lia
       rw [e1,e2] at this
       exact this
      | true=>
       have hl':xs.length=ys.length:=by
        by_cases z:xs.length=ys.length
        ·exact z
        ·exact absurd ⟨rfl,z⟩ hl
       have:=SeqAt.RcNeAt.lists co co2 (by simp;lia) hu0 elts
       rw [hbb]
       have e1:its.toArray.size=xs.length:=by simp;lia
       rw [e1] at this
       rw [hl',Nat.min_self,beq_self_eq_true,Bool.and_true,<- hl']
       exact this
    ·rename_i hb
     cases h
     cases pb with
     | true=>
      cases qb with
      | true=>exact absurd rfl hb
      | false=>exact .list_tuple co co2 hu0
     | false=>
      cases qb with
      | false=>exact absurd rfl hb
      | true=>exact .tuple_list co co2 hu0
   | none=>
    rw [hd,he] at h
    dsimp only at h
    split at h
    ·rename_i f
     cases h
     exact (qej co rz (qbs re f).1 hu0).1
    ·cases h
  | none=>
   cases he:qaz S e with
   | some p2=>
    obtain ⟨qb,ys⟩:=p2
    obtain ⟨a2,vs2,rfl,q2,t2⟩:=qap re hs he
    obtain ⟨its2,rv2,co2,_⟩:=qbV I q2
    cases rz
    rw [hd,he] at h
    dsimp only at h
    split at h
    ·rename_i f
     cases h
     exact (qej co2 ru (qbs rd f).1 hu0).2
    ·cases h
   | none=>
    rw [hd,he] at h
    dsimp only at h
    obtain ⟨f1,f2⟩:=qft h
    obtain ⟨g1,g2⟩:=qbs rd f1
    have g3:=(qbs re f2).1
    rw [g2 e w re f2] at h
    cases h
    exact qmR ru rz g1 g3
end
noncomputable def gNe:G2:=fun d e S=>(eqN S qam d e).map fun b=>(.bl (!b),S)
noncomputable def inL (f:D->D->Option Bool)(x:D):List D->Option Bool
 | []=>some false
 | y::ys=>(f y x).bind fun b=>(inL f x ys).map fun c=>b||c
noncomputable def gIn:G2:=fun d e S=>(qaz S e).bind fun p=>(inL (eqN S qam) d p.2).map fun b=>(.bl b,S)
noncomputable def qdT:G2:=fun d e S=>(qaz S e).bind fun p=>(inL (eqN S qam) d p.2).map fun b=>(.bl (!b),S)
noncomputable def isNon:D->Bool
 | .non=>true
 | _=>false
noncomputable def gIsN:G2:=fun d e S=>match e with
 | .non=>some (.bl (isNon d),S)
 | _=>none
noncomputable def qnk:G2:=fun d e S=>match e with
 | .non=>some (.bl (!isNon d),S)
 | _=>none
section
variable {X:Cx}
theorem o_ne (hu:X.A.units+64<cLine):OpR X (compareOp .NotEq) (r2 X.K (b2 gNe)):=by
 intro pins s σ H x y u w Q I rx ry h
 obtain ⟨mu,S,d,e,r,S',r1,r2,hs,hm,hc⟩:=rn2 h
 obtain ⟨b,e1,hm⟩:=oM1.mp hm
 cases hm
 exact qoP I hs qam (by show _+60<cLine;lia) r1 r2 rx ry e1 X.prog X.w X.xe _ ⟨.bl (!b),H,I,rfl,hc.now (.bl _) hs⟩
theorem qlK (f:D->D->Option Bool)(x:D):∀ {ys:List D} {b:Bool},inL f x ys=some b -> ∃ bs:List Bool,bs.length=ys.length/\(∀ (j:Nat) (y:D) (k:Bool),ys[j]? = some y->bs[j]? = some k->f y x=some k)/\b=bs.any id
 | [],b,h=>by cases h;exact ⟨[],rfl,fun j y k h=>by simp at h,rfl⟩
 | y::ys,b,h=>by
  rw [inL] at h
  obtain ⟨b1,e1,h⟩:=oB1.mp h
  obtain ⟨b2,e2,h⟩:=oM1.mp h
  obtain ⟨bs,hl,hb,hany⟩:=qlK f x e2
  refine ⟨b1::bs,by simp [hl],fun j y' k hy hk=>?_,?_⟩
  ·cases j with
   | zero=>simp at hy hk;subst hy;subst hk;exact e1
   | succ j=>exact hb j y' k (by simpa using hy) (by simpa using hk)
  ·rw [<- h,hany];simp
open Classical in
theorem qpv {pins:List (Addr×Obj)}{σ:L2.St}{H:Hp}{s:Shared}{mu:List Addr}{S:Sto}(I:Inv X pins σ H s)(hs:Sim X.K H mu S){A:Around}(hu:A.units+61<cLine){x:D}{v:V}{u:Value}(rx:Rep X.K H mu x v)(ru:RelV v u)
  {ys:List D} {vs:List V} {us:List Value} {b:Bool} (ry:Reps X.K H mu ys vs) (rv:Vals vs us) (h:inL (eqN S qam) x ys=some b):∃ e:Value->Bool,(∀ w∈us,SeqAt.EqAt A.in1 s w u (e w))/\us.any e=b:=by
 obtain ⟨bs,hl,hb,rfl⟩:=qlK _ x h
 have l1:=ry.length
 have l2:=rv.length
 have at_:∀ (j:Nat) w k,us[j]? = some w->bs[j]? = some k->SeqAt.EqAt A.in1 s w u k:=fun j w k hw hk=>by
  have j1:j<us.length:=(gE1.mp hw).1
  obtain ⟨y,ey,r1⟩:=ry.getV (i:=j) (v:=vs[j]'(by lia)) (gG1 (by lia))
  obtain ⟨w',ew,r2⟩:=rv.get (i:=j) (x:=vs[j]'(by lia)) (gG1 (by lia))
  rw [hw] at ew;cases ew
  exact (qeR I hs qam (A:=A.in1) (by show A.units+1+60<cLine;lia) r1 rx r2 ru (hb j y k ey hk)).1
 refine ⟨fun w=>decide (∃ j:Nat,us[j]? = some w/\bs[j]? = some true),fun w hw=>?_,?_⟩
 ·by_cases z:∃ j:Nat,us[j]? = some w/\bs[j]? = some true
  ·dsimp only;rw [decide_eq_true z]
   obtain ⟨j,e1,e2⟩:=z
   exact at_ j w true e1 e2
  ·dsimp only;rw [decide_eq_false z]
   obtain ⟨j,hj⟩:=List.getElem?_of_mem hw
   have j1:j<us.length:=(gE1.mp hj).1
   have j2:j<bs.length:=by lia
   have e2:=gG1 j2
   cases hk:bs[j] with
   | true=>rw [hk] at e2;exact absurd ⟨j,hj,e2⟩ z
   | false=>rw [hk] at e2;exact at_ j w false hj e2
 ·rw [Bool.eq_iff_iff,List.any_eq_true,List.any_eq_true]
  constructor
  ·rintro ⟨w,hw,z⟩
   obtain ⟨j,e1,e2⟩:=of_decide_eq_true z
   exact ⟨true,gM1 e2,rfl⟩
  ·rintro ⟨k,hk,z⟩
   obtain ⟨j,hj⟩:=List.getElem?_of_mem hk
   have j1:j<bs.length:=(gE1.mp hj).1
   have j2:j<us.length:=by lia
   have z':k=true:=z
   subst z'
   exact ⟨us[j],List.getElem_mem j2,decide_eq_true ⟨j,gG1 j2,hj⟩⟩
theorem o_in (hu:X.A.units+64<cLine):OpR X (compareOp .In) (r2 X.K (b2 gIn)):=by
 intro pins s σ H x y u w Q I rx ry h
 obtain ⟨mu,S,d,e,r,S',r1,r2,hs,hm,hc⟩:=rn2 h
 obtain ⟨⟨pb,ys⟩,e1,hm⟩:=oB1.mp hm
 obtain ⟨b,e2,hm⟩:=oM1.mp hm
 cases hm
 obtain ⟨a,vs,rfl,q,t⟩:=qap r2 hs e1
 cases ry
 obtain ⟨its,rv,co,_⟩:=qbV I q
 obtain ⟨f,hf,hb⟩:=qpv I hs (A:=X.A) (by lia) r1 rx t rv e2
 have fin:EP X pins σ Q (.bool (its.toArray.any f)) s:=⟨.bl b,H,I,by rw [show its.toArray.any f=its.any f by simp,hb];rfl,hc.now (.bl b) hs⟩
 cases pb
 ·exact SeqAt.in_tupleAt f co (fun y hy=>hf y (by simpa using hy)) fin
 ·exact SeqAt.in_listAt f co (fun y hy=>hf y (by simpa using hy)) fin
theorem qmM (hu:X.A.units+64<cLine):OpR X (compareOp .NotIn) (r2 X.K (b2 qdT)):=by
 intro pins s σ H x y u w Q I rx ry h
 obtain ⟨mu,S,d,e,r,S',r1,r2,hs,hm,hc⟩:=rn2 h
 obtain ⟨⟨pb,ys⟩,e1,hm⟩:=oB1.mp hm
 obtain ⟨b,e2,hm⟩:=oM1.mp hm
 cases hm
 obtain ⟨a,vs,rfl,q,t⟩:=qap r2 hs e1
 cases ry
 obtain ⟨its,rv,co,_⟩:=qbV I q
 obtain ⟨f,hf,hb⟩:=qpv I hs (A:=X.A) (by lia) r1 rx t rv e2
 have fin:EP X pins σ Q (.bool (!its.toArray.any f)) s:=⟨.bl (!b),H,I,by rw [show its.toArray.any f=its.any f by simp,hb];rfl,hc.now (.bl _) hs⟩
 cases pb
 ·exact SeqAt.notIn_tupleAt f co (fun y hy=>hf y (by simpa using hy)) fin
 ·exact SeqAt.notIn_listAt f co (fun y hy=>hf y (by simpa using hy)) fin
theorem qiW {K:Fg1}{H:Hp}{mu:List Addr}{d:D}{v:V}(r:Rep K H mu d v):isNon d=decide (v = .non):=by
 cases r<;>simp [isNon]
theorem qqw:OpR X (compareOp .Is) (r2 X.K (b2 gIsN)):=by
 intro pins s σ H x y u w Q I rx ry h
 obtain ⟨mu,S,d,e,r,S',r1,r2,hs,hm,hc⟩:=rn2 h
 cases e with
 | non=>
  cases hm;cases r2
  refine qoE pins s σ H _ _ u w Q I rx ry ⟨rfl,?_⟩
  rw [<- qiW r1]
  exact hc.now (.bl _) hs
 | _=>cases hm
theorem qoI:OpR X (compareOp .IsNot) (r2 X.K (b2 qnk)):=by
 intro pins s σ H x y u w Q I rx ry h
 obtain ⟨mu,S,d,e,r,S',r1,r2,hs,hm,hc⟩:=rn2 h
 cases e with
 | non=>
  cases hm;cases r2
  refine qmH pins s σ H _ _ u w Q I rx ry ⟨rfl,?_⟩
  rw [<- qiW r1]
  exact hc.now (.bl _) hs
 | _=>cases hm
end
noncomputable def gLen:G1:=fun d S=>match d with
 | .str x=>if x.length<=sizeLine then some (.int x.length,S) else none
 | _=>(qaz S d).map fun p=>(.int p.2.length,S)
noncomputable def gIx:G2:=fun d e S=>match e with
 | .int i=>(qaz S d).bind fun p=>(atI p.2 i).map fun x=>(x,S)
 | _=>none
noncomputable def gTup:G1:=fun d S=>(qaz S d).map fun p=>(.tup p.2,S)
noncomputable def gLst:G1:=fun d S=>(qaz S d).map fun p=>(.ref S.length,S++[.lst p.2])
noncomputable def qep:G3:=fun o i v S=>match o,i with
 | .ref n,.int k=>match S[n]? with
  | some (.lst xs)=>(ixN xs.length k).map fun j=>(.non,S.set n (.lst (xs.set j v)))
  | _=>none
 | _,_=>none
noncomputable def gInt:G1:=fun d S=>match d with
 | .int i=>some (.int i,S)
 | .bl b=>some (.int (if b then 1 else 0),S)
 | _=>none
noncomputable def gMax:G2:=fun d e S=>match d,e with
 | .int i,.int j=>some (.int (if j>i then j else i),S)
 | _,_=>none
noncomputable def gMin:G2:=fun d e S=>match d,e with
 | .int i,.int j=>some (.int (if j<i then j else i),S)
 | _,_=>none
section
variable {X:Cx}
theorem qa9:qbE X (.builtin "len") (rN X.K (b1 gLen)):=by
 intro pins s σ H xs us Q I r h
 obtain ⟨x,mu,S,d,r',S',rfl,r1,hs,hm,hc⟩:=rn1 h
 unfold gLen at hm
 split at hm
 ·split at hm
  ·rename_i z hl
   cases hm;cases r1
   exact qgg pins s σ H _ us Q I r ⟨_,rfl,hl,hc.now (.int _) hs⟩
  ·cases hm
 ·obtain ⟨⟨b,ys⟩,e1,hm⟩:=oM1.mp hm
  cases hm
  obtain ⟨a,vs,rfl,q,t⟩:=qap r1 hs e1
  refine qgh pins s σ H _ us Q I r ⟨a,vs,rfl,?_,?_⟩
  ·cases b
   ·exact .inr q
   ·exact .inl q
  ·rw [<- t.length];exact hc.now (.int _) hs
theorem qny {K:Fg1}{H:Hp}{mu:List Addr}{ds:List D}{vs:List V}{i:Int}{d:D}(t:Reps K H mu ds vs)(h:atI ds i=some d):∃ v,atI vs i=some v/\Rep K H mu d v:=by
 unfold atI at h ⊢
 rw [<- t.length]
 obtain ⟨j,e1,h⟩:=oB1.mp h
 obtain ⟨v,ev,rv⟩:=t.get h
 exact ⟨v,by rw [e1];exact ev,rv⟩
theorem x_ix:IxR X (r2 X.K (b2 gIx)):=by
 intro value slice pins s σ H x y v u Q I rx ry h hs2
 obtain ⟨mu,S,d,e,r,S',r1,r2,hs,hm,hc⟩:=rn2 h
 cases e with
 | int i=>
  obtain ⟨⟨b,ys⟩,e1,hm⟩:=oB1.mp hm
  obtain ⟨z,e2,hm⟩:=oM1.mp hm
  cases hm;cases r2
  obtain ⟨a,vs,rfl,q,t⟩:=qap r1 hs e1
  obtain ⟨v',ev,rv⟩:=qny t e2
  cases b
  ·exact qpp value slice pins s σ H _ _ v u Q I rx ry ⟨a,vs,i,v',rfl,rfl,q,ev,hc.now rv hs⟩ hs2
  ·exact qnd value slice pins s σ H _ _ v u Q I rx ry ⟨a,vs,i,v',rfl,rfl,q,ev,hc.now rv hs⟩ hs2
 | _=>cases hm
theorem qbu:qbE X (.type "tuple") (rN X.K (b1 gTup)):=by
 intro pins s σ H xs us Q I r h
 obtain ⟨x,mu,S,d,r',S',rfl,r1,hs,hm,hc⟩:=rn1 h
 obtain ⟨⟨b,ys⟩,e1,hm⟩:=oM1.mp hm
 cases hm
 obtain ⟨a,vs,rfl,q,t⟩:=qap r1 hs e1
 refine qfy pins s σ H _ us Q I r ⟨a,vs,rfl,?_⟩
 cases b
 ·exact .inr ⟨q,hc.now (.tup q t) hs⟩
 ·exact .inl ⟨q,fun l hl=>hc _ _ mu (Ext.fresh hl) (.tup (SqT.of qat) (t.ext (Ext.fresh hl))) (hs.fresh hl)⟩
theorem qpL:qbE X (.type "list") (rN X.K (b1 gLst)):=by
 intro pins s σ H xs us Q I r h
 obtain ⟨x,mu,S,d,r',S',rfl,r1,hs,hm,hc⟩:=rn1 h
 obtain ⟨⟨b,ys⟩,e1,hm⟩:=oM1.mp hm
 cases hm
 obtain ⟨a,vs,rfl,q,t⟩:=qap r1 hs e1
 refine qgf pins s σ H _ us Q I r ⟨a,vs,rfl,?_,fun l hl=>hc _ _ (mu++[l]) (Ext.new_ hl) (.ref (qce hs.len l)) (hs.newL t hl)⟩
 cases b
 ·exact .inr q
 ·exact .inl q
theorem qqj:PSet X (rU X.K (b3 qep)):=by
 intro pins s σ H o i v ov iv u Q I ro ri rv h
 obtain ⟨mu,S,ds,d,S',hr,hs,hm,hc⟩:=h
 cases hr with
 | cons q1 t1=>cases t1 with
  | cons q2 t2=>cases t2 with
   | cons q3 t3=>
    cases t3
    rename_i d1 d2 d3
    dsimp only [b3] at hm
    unfold qep at hm
    split at hm
    ·rename_i n k
     split at hm
     ·rename_i xs e
      obtain ⟨j,ej,hm⟩:=oM1.mp hm
      cases hm
      cases q1 with
      | ref qn=>
       cases q2
       obtain ⟨vs,ev,t⟩:=hs.lst e qn
       refine qkf pins s σ H _ _ v ov iv u Q I ro ri rv ⟨_,vs,k,j,rfl,rfl,ev,by rw [<- t.length];exact ej,?_⟩
       exact hc _ mu (Ext.put ev trivial (gM1 qn)) (hs.putL (t.set q3 j) qn ev)
     ·cases hm
    ·cases hm
theorem qnw:qbE X (.type "int") (rN X.K (b1 gInt)):=by
 intro pins s σ H xs us Q I r h
 obtain ⟨x,mu,S,d,r',S',rfl,r1,hs,hm,hc⟩:=rn1 h
 cases d with
 | int i=>cases hm;cases r1;exact qgi pins s σ H _ us Q I r (.inl ⟨i,rfl,hc.now (.int _) hs⟩)
 | bl b=>cases hm;cases r1;exact qgi pins s σ H _ us Q I r (.inr ⟨b,rfl,hc.now (.int _) hs⟩)
 | _=>cases hm
theorem qq5 (hc:X.calm=true):qbE X (.builtin "max") (rN X.K (b2 gMax)):=by
 intro pins s σ H xs us Q I r h
 obtain ⟨x,y,mu,S,d,e,r',S',rfl,r1,r2,hs,hm,hcc⟩:=rn2l h
 unfold gMax at hm
 split at hm
 ·cases hm;cases r1;cases r2
  exact qjP hc pins s σ H _ us Q I r ⟨_,_,rfl,hcc.now (.int _) hs⟩
 ·cases hm
theorem qq4 (hc:X.calm=true):qbE X (.builtin "min") (rN X.K (b2 gMin)):=by
 intro pins s σ H xs us Q I r h
 obtain ⟨x,y,mu,S,d,e,r',S',rfl,r1,r2,hs,hm,hcc⟩:=rn2l h
 unfold gMin at hm
 split at hm
 ·cases hm;cases r1;cases r2
  exact qjO hc pins s σ H _ us Q I r ⟨_,_,rfl,hcc.now (.int _) hs⟩
 ·cases hm
end
open PySem.SeqAt
open PySem.AutoSeq1 (wpAny_loadPart')
open PySem.MeetsSeq PySem.MeetsSeq2 PySem.MeetsSeq3
noncomputable def RcLt (A:Around)(s:Shared)(y x:Value)(b:Bool):Prop:=∀ (prog:Program) (w:World) (E:Value->Shared->Prop) (Q:Value->Shared->Prop),Q (.bool b) s->wpAny (model prog w) A (richCompare .Lt y x) Q E s
inductive LtS (A:Around)(s:Shared):List Value->List Value->Bool->Prop
 | nn:LtS A s [] [] false
 | nc (y:Value) (ys:List Value):LtS A s [] (y::ys) true
 | cn (x:Value) (xs:List Value):LtS A s (x::xs) [] false
 | eq {x y:Value} {xs ys:List Value} {k:Bool} (e:EqAt A.in1 s x y true) (t:LtS A s xs ys k):LtS A s (x::xs) (y::ys) k
 | lt {x y:Value} {xs ys:List Value} {k:Bool} (e:EqAt A.in1 s x y false) (t:RcLt A.in1 s x y k):LtS A s (x::xs) (y::ys) k
theorem qnJ (l b:Addr)(items items2:Array Value)(n n2:Nat)(dd dd2:Option Addr)(sl sl2:Array (Option Value))(c:Bool):
  Meets (Builtin.«tuple.__lt__» ⟨[.ref l,.ref b],[]⟩) (fun A R s=>s.heap.get? l=some {cls:=.type "tuple",dict:=dd,data:=.seq items n,slots:=sl}/\s.heap.get? b=some {cls:=.type "tuple",dict:=dd2,data:=.seq items2 n2,slots:=sl2} /\
    LtS A s items.toList items2.toList c/\R (.ok (.ret (.bool c))) s):=
 .of_wp fun prog w A R s h=>by
  obtain ⟨hp,g,d,tk,os⟩:=s;obtain ⟨hl,hb,hs,h⟩:=h;have f2:=AutoSeq1.sub_tuple_tuple
  wp_walk using wpAny_loadPart' hl,wpAny_loadPart' hb,wpAny_forIn_list _ (fun rest b s'=>b.1=none/\s'=⟨hp,g,d,tk,os⟩ /\ ∃ vs ws:List Value,rest=vs.zip ws/\LtS A ⟨hp,g,d,tk,os⟩ vs ws c/\vs.length+items2.size=ws.length+items.size) _
  case turn=>
   rintro ⟨y,x⟩ rest b s' ⟨hb',rfl,vs,ws,hz,hL,hlen⟩
   cases hL with
   | nn=>cases hz
   | nc _ _=>cases hz
   | cn _ _=>cases hz
   | eq e t=>
    rw [List.zip_cons_cons] at hz;injection hz with hyx hrest;injection hyx with hy hx;subst hy hx
    simp only [lC1] at hlen
    refine wB1 (e prog w _ _ ?_)
    wp_walk
    exact ⟨rfl,rfl,_,_,hrest,t,by lia⟩
   | lt e t=>
    rw [List.zip_cons_cons] at hz;injection hz with hyx hrest;injection hyx with hy hx;subst hy hx
    refine wB1 (e prog w _ _ ?_)
    have t':=t prog w
    wp_walk using t'
    exact ⟨_,rfl,by simpa using h⟩
  case fin=>
   rintro ⟨b1,b2⟩ s' ⟨hb',rfl,vs,ws,hz,hL,hlen⟩
   simp only at hb';subst hb'
   have hv:c=decide (items.size<items2.size):=by
    cases hL with
    | nn=>simp only [List.length_nil] at hlen;exact (decide_eq_false (by lia)).symm
    | nc _ _=>simp only [List.length_nil,lC1] at hlen;exact (decide_eq_true (by lia)).symm
    | cn _ _=>simp only [List.length_nil,lC1] at hlen;exact (decide_eq_false (by lia)).symm
    | eq _ _=>rw [List.zip_cons_cons] at hz;cases hz
    | lt _ _=>rw [List.zip_cons_cons] at hz;cases hz
   rw [hv] at h
   wp_walk
   exact ⟨_,rfl,by simpa [Builtin.Tuple.tupleCompareSizes] using h⟩
  case h=>exact ⟨rfl,rfl,items.toList,items2.toList,rfl,hs,by simp;lia⟩
theorem qkX (l b:Addr)(items items2:Array Value)(n n2:Nat)(dd dd2:Option Addr)(sl sl2:Array (Option Value))(c:Bool)(k:Nat):
  ∀ i:Nat,items.size-i=k->i<=items.size->i<=items2.size->Meets (Builtin.«list.__eq__.loop» ⟨[.ref l,.ref b,rawInt i,rawInt 0],[]⟩)
   (fun A R s=>s.heap.get? l=some {cls:=.type "list",dict:=dd,data:=.seq items n,slots:=sl}/\s.heap.get? b=some {cls:=.type "list",dict:=dd2,data:=.seq items2 n2,slots:=sl2} /\
    LtS A s (items.toList.drop i) (items2.toList.drop i) c/\R (.ok (.ret (.bool c))) s):=by
 induction k with
 | zero=>
  intro i hk hi1 hi2 prog w A R s h
  obtain ⟨hp,g,d,tk,os⟩:=s;obtain ⟨hl,hb,hL,h⟩:=h
  wp_walk using wpAny_loadPart' hl,wpAny_loadPart' hb
  have e1:items[((i:Nat):Int).toNat]? = none:=by simp;lia
  have d1:items.toList.drop i=[]:=by simp;lia
  rw [d1] at hL;rw [e1]
  wp_walk using wpAny_loadPart' hl,wpAny_loadPart' hb
  have hv:c=decide (items.size<items2.size):=by
   cases h2:items2.toList.drop i with
   | nil=>
    rw [h2] at hL;cases hL
    have:=congrArg List.length h2;simp at this
    exact (decide_eq_false (by lia)).symm
   | cons y ys=>
    rw [h2] at hL;cases hL
    have:=congrArg List.length h2;simp at this
    exact (decide_eq_true (by lia)).symm
  show R (.ok (.ret (.bool (decide (items.size<items2.size))))) _
  rw [<- hv];exact h
 | succ k ih=>
  intro i hk hi1 hi2 prog w A R s h
  obtain ⟨hp,g,d,tk,os⟩:=s;obtain ⟨hl,hb,hL,h⟩:=h
  have hlt:i<items.size:=by lia
  have d1:items.toList.drop i=items[i]::items.toList.drop (i+1):=by simp [List.drop_eq_getElem_cons,hlt]
  have e1:items[((i:Nat):Int).toNat]? = some items[i]:=by simp [hlt]
  have hc:((i:Int)+1)=((i+1:Nat):Int):=by push_cast;rfl
  rw [d1] at hL
  rcases Nat.lt_or_ge i items2.size with hlt2 | hge
  ·have d2:items2.toList.drop i=items2[i]::items2.toList.drop (i+1):=by simp [List.drop_eq_getElem_cons,hlt2]
   have e2:items2[((i:Nat):Int).toNat]? = some items2[i]:=by simp [hlt2]
   rw [d2] at hL
   wp_walk using wpAny_loadPart' hl,wpAny_loadPart' hb
   rw [e1,e2]
   cases hL with
   | eq e t=>
    refine wB1 (e prog w _ _ ?_)
    wp_walk
    rw [hc]
    exact ⟨plainId_quiet plain_eq_loop _,wD1 entry_eq_loop (by rw [Around.under_plainId plain_eq_loop _];exact ih (i+1) (by lia) (by lia) (by lia) prog w A R _ ⟨hl,hb,t,h⟩)⟩
   | lt e t=>
    refine wB1 (e prog w _ _ ?_)
    have t':=t prog w
    wp_walk using wpAny_loadPart' hl,wpAny_loadPart' hb
    rw [e1,e2]
    wp_walk using t'
    simpa using h
  ·have e2:items2[((i:Nat):Int).toNat]? = none:=by simp;lia
   have d2:items2.toList.drop i=[]:=by simp;lia
   rw [d2] at hL;cases hL
   wp_walk using wpAny_loadPart' hl,wpAny_loadPart' hb
   rw [e1,e2]
   wp_walk using wpAny_loadPart' hl,wpAny_loadPart' hb
   show R (.ok (.ret (.bool (decide (items.size<items2.size))))) _
   rw [decide_eq_false (by lia)];exact h
theorem qpf (l b:Addr)(items items2:Array Value)(n n2:Nat)(dd dd2:Option Addr)(sl sl2:Array (Option Value))(c:Bool):
  Meets (Builtin.«list.__lt__» ⟨[.ref l,.ref b],[]⟩) (fun A R s=>s.heap.get? l=some {cls:=.type "list",dict:=dd,data:=.seq items n,slots:=sl}/\s.heap.get? b=some {cls:=.type "list",dict:=dd2,data:=.seq items2 n2,slots:=sl2} /\
    LtS A s items.toList items2.toList c/\R (.ok (.ret (.bool c))) s):=by
 intro prog w A R s h
 obtain ⟨hp,g,d,tk,os⟩:=s;obtain ⟨hl,hb,hL,h⟩:=h;have f3:=AutoSeq1.sub_list_list
 wp_walk using wpAny_loadPart' hl,wpAny_loadPart' hb
 exact ⟨plainId_quiet plain_eq_loop _,wD1 entry_eq_loop (by rw [Around.under_plainId plain_eq_loop _];exact qkX l b items items2 n n2 dd dd2 sl sl2 c _ 0 rfl (Nat.zero_le _) (Nat.zero_le _) prog w A R _ ⟨hl,hb,by simpa using hL,h⟩)⟩
theorem qn5 {A:Around}{s:Shared}{k:Bool}{l b:Addr}{xs ys:Array Value}{c:Bool}(c1:SCo k s.heap l xs)(c2:SCo k s.heap b ys)(hu:A.units<cLine)(h:LtS A s xs.toList ys.toList c):RcLt A s (.ref l) (.ref b) c:=fun prog w E Q q=>by
 cases k
 ·obtain ⟨⟨cls,dd,data,sl⟩,ho,hc,n,hd⟩:=id c1
  obtain ⟨⟨cls2,dd2,data2,sl2⟩,ho2,hc2,n2,hd2⟩:=id c2
  simp only at hc hd hc2 hd2;subst hc hd hc2 hd2
  exact richCompare_meets_room (op:=.Lt) ⟨_,ho,rfl⟩ ⟨_,ho2,rfl⟩ PySem.F.slot_tuple_lt PySem.F.entry_tuple_lt (PySem.F.args_tuple_lt_2 _ _) (qnJ l b xs ys n n2 dd dd2 sl sl2 c) ⟨ho,ho2,h,show Value.bool c≠Value.notImplemented/\Q (.bool c) s from ⟨(fun x=>nomatch x),q⟩⟩ hu
 ·obtain ⟨⟨cls,dd,data,sl⟩,ho,hc,n,hd⟩:=id c1
  obtain ⟨⟨cls2,dd2,data2,sl2⟩,ho2,hc2,n2,hd2⟩:=id c2
  simp only at hc hd hc2 hd2;subst hc hd hc2 hd2
  exact richCompare_meets_room (op:=.Lt) ⟨_,ho,rfl⟩ ⟨_,ho2,rfl⟩ PySem.F.slot_list_lt PySem.F.entry_list_lt (PySem.F.args_list_lt_2 _ _) (qpf l b xs ys n n2 dd dd2 sl sl2 c) ⟨ho,ho2,h,show Value.bool c≠Value.notImplemented/\Q (.bool c) s from ⟨(fun x=>nomatch x),q⟩⟩ hu
noncomputable def ltL (f g:D->D->Option Bool):List D->List D->Option Bool
 | [],[]=>some false
 | [],_::_=>some true
 | _::_,[]=>some false
 | x::xs,y::ys=>(f x y).bind fun b=>if b=true then ltL f g xs ys else g x y
noncomputable def ltF:D->D->Option Bool
 | .int i,.int j=>some (decide (i<j))
 | .str x,.str y=>some (decide (x.cps.toList<y.cps.toList))
 | _,_=>none
noncomputable def ltN (S:Sto):Nat->D->D->Option Bool
 | 0,_,_=>none
 | n+1,d,e=>match ltF d e with
  | some b=>some b
  | none=>match qaz S d,qaz S e with
   | some p,some q=>if p.1=q.1 then ltL (eqN S n) (ltN S n) p.2 q.2 else none
   | _,_=>none
noncomputable def gLt:G2:=fun d e S=>(ltN S qam d e).map fun b=>(.bl b,S)
section
variable {X:Cx} {pins:List (Addr×Obj)} {σ:L2.St} {H:Hp} {s:Shared} {mu:List Addr} {S:Sto}
theorem qpe (I:Inv X pins σ H s)(hs:Sim X.K H mu S){n:Nat}{A:Around}(hu:A.units+1+n<cLine)(ih:∀ {d e:D} {v w:V} {u z:Value} {b:Bool},Rep X.K H mu d v->Rep X.K H mu e w->RelV v u->RelV w z->ltN S n d e=some b->RcLt A.in1 s u z b):
  ∀ {xs ys:List D} {vs ws:List V} {us zs:List Value} {b:Bool},Reps X.K H mu xs vs->Reps X.K H mu ys ws->Vals vs us->Vals ws zs->ltL (eqN S n) (ltN S n) xs ys=some b->LtS A s us zs b
 :=by
 intro xs
 induction xs with
 | nil=>
  intro ys vs ws us zs b r1 r2 v1 v2 h
  cases r1;cases v1
  cases r2 with
  | nil=>cases v2;cases h;exact .nn
  | cons _ _=>cases v2;cases h;exact .nc _ _
 | cons x xs jh=>
  intro ys vs ws us zs b r1 r2 v1 v2 h
  cases r1 with
  | cons r1 t1=>
   cases v1 with
   | cons q1 p1=>
    cases r2 with
    | nil=>cases v2;cases h;exact .cn _ _
    | cons r2 t2=>
     cases v2 with
     | cons q2 p2=>
      rw [ltL] at h
      obtain ⟨k,e1,h⟩:=oB1.mp h
      have eq:=(qeR I hs n (A:=A.in1) hu r1 r2 q1 q2 e1).1
      cases k with
      | true=>exact .eq eq (jh t1 t2 p1 p2 h)
      | false=>exact .lt eq (ih r1 r2 q1 q2 h)
theorem qlG (I:Inv X pins σ H s)(hs:Sim X.K H mu S):∀ (n:Nat) {A:Around} {d e:D} {v w:V} {u z:Value} {b:Bool},A.units+n<cLine->Rep X.K H mu d v->Rep X.K H mu e w->RelV v u->RelV w z->ltN S n d e=some b->RcLt A s u z b
 | 0,_,_,_,_,_,_,_,_,_,_,_,_,_,h=>by cases h
 | n + 1,A,d,e,v,w,u,z,b,hu,rd,re,ru,rz,h=>by
  rw [ltN] at h
  split at h
  ·rename_i k hk
   cases h
   unfold ltF at hk
   split at hk
   ·cases hk;cases rd;cases re
    obtain ⟨t,rfl⟩:=ru;obtain ⟨t',rfl⟩:=rz
    exact fun prog w E Q q=>(PyProof.Rows.lt_int q:wpAny (model prog w) A (compareOp .Lt (.int _ t) (.int _ t')) Q E s)
   ·cases hk;cases rd;cases re
    obtain ⟨t,rfl⟩:=ru;obtain ⟨t',rfl⟩:=rz
    exact fun prog w E Q q=>(PyProof.Rows.lt_str q:wpAny (model prog w) A (compareOp .Lt (.str _ t) (.str _ t')) Q E s)
   ·cases hk
  ·split at h
   ·rename_i p q hd he
    split at h
    ·rename_i hb
     obtain ⟨pb,xs⟩:=p
     obtain ⟨qb,ys⟩:=q
     have hb':pb=qb:=hb
     subst hb'
     obtain ⟨a,vs,rfl,q1,t1⟩:=qap rd hs hd
     obtain ⟨a2,vs2,rfl,q2,t2⟩:=qap re hs he
     cases ru;cases rz
     obtain ⟨its,rv,co,_⟩:=qbV I q1
     obtain ⟨its2,rv2,co2,_⟩:=qbV I q2
     refine qn5 co co2 (by lia) ?_
     have:=qpe I hs (A:=A) (n:=n) (by lia) (fun r1 r2 r3 r4 h=>qlG I hs n (A:=A.in1) (by show A.units+1+n<cLine;lia) r1 r2 r3 r4 h) t1 t2 rv rv2 h
     simpa using this
    ·cases h
   ·cases h
theorem qh0 (hu:X.A.units+64<cLine):OpR X (compareOp .Lt) (r2 X.K (b2 gLt)):=by
 intro pins s σ H x y u w Q I rx ry h
 obtain ⟨mu,S,d,e,r,S',r1,r2,hs,hm,hc⟩:=rn2 h
 obtain ⟨b,e1,hm⟩:=oM1.mp hm
 cases hm
 exact qlG I hs qam (by show _+60<cLine;lia) r1 r2 rx ry e1 X.prog X.w X.xe _ ⟨.bl b,H,I,rfl,hc.now (.bl b) hs⟩
end
inductive Ty where
 | int | bool | str | tuple | list | dict
 deriving DecidableEq
noncomputable def Ty.nm:Ty->String
 | .int=>"int" | .bool=>"bool" | .str=>"str" | .tuple=>"tuple" | .list=>"list" | .dict=>"dict"
noncomputable def isTy (S:Sto)(T:Ty):D->Option Bool
 | .non=>some false
 | .bl _=>some (decide (T = .bool)||decide (T = .int))
 | .int _=>some (decide (T = .int))
 | .str _=>some (decide (T = .str))
 | .tup _=>some (decide (T = .tuple))
 | .rol _=>some (decide (T = .list))
 | .ref n=>match S[n]? with
  | some (.lst _)=>some (decide (T = .list))
  | some (.dct _)=>some (decide (T = .dict))
  | some (.dcT _)=>some (decide (T = .dict))
  | _=>none
 | .fn _=>none
section
variable {X:Cx} {pins:List (Addr×Obj)} {σ:L2.St} {H:Hp} {s:Shared} {mu:List Addr} {S:Sto} {K:Fg1}
end
noncomputable abbrev FO:=Ev->Sto->Option (Option Int×Sto)
noncomputable def tMO (K:Fg1)(m:FO):TO:=fun σ H Q=>∃ r mu S o S',EnvR K H mu r σ/\Sim K H mu S/\m r S=some (o,S') /\ ∀ H' mu',Ext mu mu' H H'->Sim K H' mu' S'->Q o H'
noncomputable abbrev MO (X:Cx)(e:Option Expr)(m:FO):Prop:=PO X e (tMO X.K m)
noncomputable def qh2:FO:=fun _ S=>some (none,S)
noncomputable def qh1 (m:FE):FO:=fun r S=>(m r S).bind fun p=>match p.1 with
 | .int i=>some (some i,p.2)
 | _=>none
noncomputable def cutD (xs:List D)(lo hi:Option Int):List D:=(xs.drop (HT.sIx xs.length 0 lo)).take (HT.sIx xs.length xs.length hi-HT.sIx xs.length 0 lo)
section
variable {X:Cx}
theorem qmX:MO X none qh2:=by
 rintro pins s σ H Q I ⟨r,mu,S,o,S',he,hs,hm,hc⟩
 cases hm
 exact qmv pins s σ H Q I (hc H mu (.refl _ _) hs)
theorem qmW {e:Expr}{m:FE}(h:ME X e m):MO X (some e) (qh1 m):=by
 rintro pins s σ H Q I ⟨r,mu,S,o,S',he,hs,hm,hc⟩
 obtain ⟨⟨d,S1⟩,e1,hm⟩:=oB1.mp hm
 cases d with
 | int i=>
  cases hm
  refine qmu h pins s σ H Q I ⟨r,mu,S,_,_,he,hs,e1,fun v H1 mu1 x1 r1 s1=>?_⟩
  cases r1
  exact ⟨i,rfl,hc H1 mu1 x1 s1⟩
 | _=>cases hm
theorem qjD {K:Fg1}{H:Hp}{mu:List Addr}{ds:List D}{vs:List V}(t:Reps K H mu ds vs)(lo hi:Option Int):Reps K H mu (cutD ds lo hi) (cutV vs lo hi):=by
 unfold cutD cutV
 rw [<- t.length]
 exact (t.drop _).take _
end
section
variable {X:Cx}
noncomputable def qqa (ta:TA):TE:=fun σ H Q=>ta σ H fun vs H1=>∃ j:Int,vs=[.int j] /\ ∀ p,H1 p=none->Q (.ref p) (upd H1 p (.rng 0 j))
theorem qfL {a:Expr}{ta:TA}{p pos:Pos}(hg:Gl X "range")(hm:X.mg "range"=none)(ha:PA X [a] ta)(hs:starEach [a] X.env=[(false,eval a X.env)]:=by rfl):PE X (.Call (.Name "range" p) [a] [] pos) (qqa ta):=by
 intro pins s σ H Q I h
 refine Call_ (qeM I hg hm boot_range (PyProof.Rows.callWith_type1 (thn (ha pos pins s σ H _ I h) fun us s1 ⟨vs,H1,I1,r1,q1⟩=>?_) hs rfl))
 obtain ⟨j,e,q⟩:=q1
 subst e
 cases r1 with
 | cons r rr=>
  cases rr
  obtain ⟨t,rfl⟩:=r
  refine call_range_1 ⟨.ref s1.heap.objs.size,_,I1.laid (fun b o e=>hP1 _ e) (nR1 _) (o:=.rng 0 j) ?_,rfl,q _ (I1.hok.fresh (nR1 _))⟩
  exact ⟨_,_,_,hS1 _ rfl⟩
noncomputable def rngV (i:Int):Nat->List V
 | 0=>[]
 | n+1=>.int i::rngV (i+1) n
theorem qdh:∀ (n:Nat) (i:Int),(rngV i n).length=n
 | 0,_=>rfl
 | n+1,i=>by rw [rngV,lC1,qdh n]
theorem qe7:∀ (n:Nat) (i:Int) (k:Nat) (v:V),(rngV i n)[k]? = some v->v = .int (i+k)
 | 0,i,k,v,h=>by simp [rngV] at h
 | n+1,i,0,v,h=>by simp [rngV] at h;rw [<- h];simp
 | n+1,i,k+1,v,h=>by
  rw [rngV,gC1] at h
  rw [qe7 n (i+1) k v h,show i+1+(k:Int)=i+((k+1:Nat):Int) by push_cast;lia]
theorem qe6 {K:Fg1}{H:Hp}{mu:List Addr}:∀ (n:Nat) (i:Int),Reps K H mu (nums i n) (rngV i n)
 | 0,_=>.nil
 | n+1,i=>.cons (.int i) (qe6 n (i+1))
theorem qgr:∀ {xs:List V} {us:List Value},xs.length=us.length->(∀ (i:Nat) x u,xs[i]? = some x->us[i]? = some u->RelV x u)->Vals xs us
 | [],[],_,_=>.nil
 | x::xs,u::us,h,f=>.cons (f 0 x u rfl rfl) (qgr (by simpa using h) fun i y w h1 h2=>f (i+1) y w (by simpa using h1) (by simpa using h2))
 | [],_::_,h,_=>by simp at h
 | _::_,[],h,_=>by simp at h
theorem qnv (hc:X.calm=true):qbE X (.type "list") (fun xs H Q=>∃ p i j,xs=[.ref p]/\H p=some (.rng i j)/\(-(2^62)<=i/\i<2^62 /\ -(2^62)<=j/\j<2^62)/\(j-i).toNat<=2^20 /\ ∀ l,H l=none->Q (.ref l) (upd H l (.lst (rngV i (j-i).toNat)))):=by
 intro pins s σ H xs us Q I r h
 obtain ⟨p,i,j,rfl,hp,⟨h1,h2,h3,h4⟩,hl,q⟩:=h
 obtain ⟨u,rfl,ru⟩:=qez r
 cases ru
 obtain ⟨t,u,v,e⟩:=I.hok p _ hp
 have hz:(((j-i).toNat:Nat):Int)=Builtin.Range.rangeSize i j 1:=by rw [rangeSize_one];split<;>lia
 refine call_list_range (n:=(j-i).toNat) (I.ok.hd hc) e (small_one h1 h2 h3 h4) hz.symm (Nat.le_trans hl (by decide)) fun h' tk acc c' hk hS hi=>?_
 obtain ⟨hsz,hval⟩:=hi
 have vals:Vals (rngV i (j-i).toNat) acc.toList:=qgr (by rw [qdh];simpa using hsz.symm) fun k x u hx hu=>by
  rw [qe7 _ _ _ _ hx]
  obtain ⟨t',rfl⟩:=hval k u (by simpa using hu)
  exact ⟨t',by rw [Int.mul_one]⟩
 refine ⟨.ref s.heap.objs.size,_,I.laid (t':=tk) hk (nR1 _) (show qbL X.prog X.w _ h' _ (.lst (rngV i (j-i).toNat)) from ⟨?_,acc.toList,c',vals,by simpa using hS⟩),rfl,q _ (I.hok.fresh (nR1 _))⟩
 rw [qdh]
 exact Nat.le_trans hl (by decide)
noncomputable def qfH (i j:Int):Bool:=decide (-(2^62)<=i)&&decide (i<2^62)&&decide (-(2^62)<=j)&&decide (j<2^62)&&decide ((j-i).toNat<=2^20)
noncomputable def mLR1 (m:FA):FE:=fun r S=>(m r S).bind fun p=>match p.1 with
 | [.int j]=>if qfH 0 j=true then some (.ref p.2.length,p.2++[.lst (nums 0 j.toNat)]) else none
 | _=>none
theorem qd0 {i j:Int}(h:qfH i j=true):(-(2^62)<=i/\i<2^62 /\ -(2^62)<=j/\j<2^62)/\(j-i).toNat<=2^20:=by
 unfold qfH at h
 simp only [bA1,decide_eq_true_eq] at h
 obtain ⟨⟨⟨⟨h1,h2⟩,h3⟩,h4⟩,h5⟩:=h
 exact ⟨⟨h1,h2,h3,h4⟩,h5⟩
theorem qpg {K:Fg1}{mu:List Addr}{H H1:Hp}{S1:Sto}{i j:Int}{Q:VK}{mu1:List Addr}(x1:Ext mu mu1 H H1)(s1:Sim K H1 mu1 S1)(hc:Cont K mu H (.ref S1.length) (S1++[.lst (nums i (j-i).toNat)]) Q){p l:Addr}(hp:H1 p=none)(hl:upd H1 p (.rng i j) l=none):
  Q (.ref l) (upd (upd H1 p (.rng i j)) l (.lst (rngV i (j-i).toNat))):=
 hc _ _ (mu1++[l]) ((x1.trans (Ext.fresh hp)).trans (Ext.new_ hl)) (.ref (qce s1.len l)) ((s1.fresh hp).newL (qe6 _ _) hl)
theorem qi1 {a:Expr}{m:FA}{p1 p2 pos1 pos2:Pos}(hc:X.calm=true)(hg:Gl X "range")(hm:X.mg "range"=none)(hg2:Gl X "list")(hm2:X.mg "list"=none)(ha:MA X [a] m)(hs:starEach [a] X.env=[(false,eval a X.env)]:=by rfl)
  (hs2:starEach [.Call (.Name "range" p1) [a] [] pos1] X.env=[(false,eval (.Call (.Name "range" p1) [a] [] pos1) X.env)]:=by rfl):ME X (.Call (.Name "list" p2) [.Call (.Name "range" p1) [a] [] pos1] [] pos2) (mLR1 m):=
 qbj (qef (qnv hc) hg2 hm2 (by decide+kernel) (qgy (qfL hg hm ha hs) qiO hs2) (by decide) (by decide) hs2) <| by
  rintro σ H Q ⟨r,mu,S,d,S',he,hs,hm,hcc⟩
  obtain ⟨⟨ds,S1⟩,e1,hm⟩:=oB1.mp hm
  dsimp only at hm
  split at hm
  ·rename_i j
   split at hm
   ·rename_i hb
    cases hm
    refine ⟨r,mu,S,_,_,he,hs,e1,fun vs H1 mu1 x1 r1 s1=>?_⟩
    obtain ⟨v,rfl,rv⟩:=qd2 r1
    cases rv
    refine ⟨j,rfl,fun p hp=>⟨p,0,j,rfl,qat,(qd0 hb).1,(qd0 hb).2,fun l hl=>qpg x1 s1 (by rw [Int.sub_zero];exact hcc) hp hl⟩⟩
   ·cases hm
  ·cases hm
end
noncomputable def gApp:G2:=fun o v S=>match o with
 | .ref n=>match S[n]? with
  | some (.lst xs)=>if xs.length<sizeLine then some (.non,S.set n (.lst (xs++[v]))) else none
  | _=>none
 | _=>none
noncomputable def gPop:G2:=fun o i S=>match o,i with
 | .ref n,.int k=>match S[n]? with
  | some (.lst xs)=>if-(2^63)<=k/\k<2^63 then (ixN xs.length k).bind fun j=>(xs[j]?).map fun y=>(y,S.set n (.lst (xs.eraseIdx j))) else none
  | _=>none
 | _,_=>none
noncomputable def mMt (f:FN)(o:FE)(a:FA):FE:=fun r S=>(o r S).bind fun p=>match p.1 with
 | .ref n=>match p.2[n]? with
  | some (.lst _)=>(a r p.2).bind fun q=>f (p.1::q.1) q.2
  | _=>none
 | _=>none
section
variable {X:Cx}
theorem qdy:MtR X "list.append" (fun x xs H Q=>rN X.K (b2 gApp) (x::xs) H Q):=by
 intro pins s σ H x xs v us Q I rx rv h
 obtain ⟨x',y,mu,S,d,e,r',S',e0,r1,r2,hs,hm,hc⟩:=rn2l h
 cases e0
 cases d with
 | ref n=>
  rw [gApp] at hm
  split at hm
  ·rename_i ys en
   split at hm
   ·rename_i hl
    cases hm
    cases r1 with
    | ref qn=>
     obtain ⟨vs,ev,t⟩:=hs.lst en qn
     refine qfW pins s σ H _ [y] v us Q I rx rv ⟨_,vs,y,rfl,rfl,ev,by rw [<- t.length];exact hl,?_⟩
     exact hc _ _ mu (Ext.put ev trivial (gM1 qn)) .non (hs.putL (t.append (.cons r2 .nil)) qn ev)
   ·cases hm
  ·cases hm
 | _=>cases hm
theorem ql4:MtR X "list.pop" (fun x xs H Q=>rN X.K (b2 gPop) (x::xs) H Q):=by
 intro pins s σ H x xs v us Q I rx rv h
 obtain ⟨x',y,mu,S,d,e,r',S',e0,r1,r2,hs,hm,hc⟩:=rn2l h
 cases e0
 unfold gPop at hm
 split at hm
 ·rename_i n k
  split at hm
  ·rename_i ys en
   split at hm
   ·rename_i hb
    obtain ⟨j,ej,hm⟩:=oB1.mp hm
    obtain ⟨z,ez,hm⟩:=oM1.mp hm
    cases hm
    cases r1 with
    | ref qn=>
     cases r2
     obtain ⟨vs,ev,t⟩:=hs.lst en qn
     obtain ⟨w,ew,rw'⟩:=t.get ez
     refine qkK pins s σ H _ [.int k] v us Q I rx rv ⟨_,vs,k,j,w,rfl,rfl,ev,hb.1,hb.2,?_,ew,?_⟩
     ·rw [<- t.length];exact (qgT ej).1
     ·have x:=Ext.put (u:=.lst (vs.eraseIdx j)) ev trivial (gM1 qn)
      exact hc _ _ mu x (rw'.ext x) (hs.putL (t.eraseIdx j) qn ev)
   ·cases hm
  ·cases hm
 ·cases hm
theorem qkQ {o e:Expr}{es:List Expr}{m:FE}{a:FA}{f:FN}{name:Str}{apos cpos:Pos}{id:String}(slot:Slot "list" name id)(hty:typeOf (.builtin id)=pure (.type "method_descriptor"))(hm:MtR X id (fun x xs H Q=>rN X.K f (x::xs) H Q))(ho:ME X o m)(ha:MA X (e::es) a)
  (hbase:attributeBase o name X.env (eval o X.env)=eval o X.env:=by rfl)
  (hfew:((backTo cpos (starEach (e::es) X.env)).all (fun x=> !x.1)&&(backToKw cpos (keywordEach [] X.env)).all (fun x=>x.1.isSome)&&decide ((e::es).length+([]:List Keyword).length+(if ([]:List Keyword).isEmpty then 0 else 1)<30))=true:=by rfl)
  (hline:(apos.endLine == cpos.line)=true:=by rfl) (hs:starEach (e::es) X.env=(false,eval e X.env)::starEach es X.env:=by rfl) (hplain:(backTo cpos (starEach es X.env)).any (·.1)=false:=by rfl):
  ME X (.Call (.Attribute o name apos) (e::es) [] cpos) (mMt f m a):=
 qbj (qqs PySem.F.plainAttrs_list slot hty hm ho ha hbase hfew hline hs hplain) <| by
  rintro σ H Q ⟨r,mu,S,d,S',he,hs,hm,hc⟩
  obtain ⟨⟨d1,S1⟩,e1,hm⟩:=oB1.mp hm
  refine ⟨r,mu,S,d1,S1,he,hs,e1,fun v H1 mu1 x1 r1 s1=>?_⟩
  cases d1 with
  | ref n=>
   dsimp only at hm
   split at hm
   ·rename_i xs en
    obtain ⟨⟨ds,S2⟩,e2,hm⟩:=oB1.mp hm
    refine ⟨?_,r,mu1,S1,ds,S2,he.ext x1,s1,e2,fun vs H2 mu2 x2 r2 s2=>?_⟩
    ·cases r1 with
     | ref qn=>
      obtain ⟨vs,ev,t⟩:=s1.lst en qn
      exact .inl ⟨rfl,vs,SqL.of ev⟩
    ·exact ⟨mu2,S2,.ref n::ds,d,S',.cons (r1.ext x2) r2,s2,hm,fun v3 H3 mu3 x3=>hc v3 H3 mu3 ((x1.trans x2).trans x3)⟩
   ·cases hm
  | _=>cases hm
end
theorem qmr {X:Cx}(hc:X.calm=true){elt tg iter:Expr}{ifs:List Expr}{rest:List Comprehension}{scope:Scope}{pos spos py:Pos}{y:Str}{i:Nat}{T:List Str}{keep:List Nat}{cl:List (Str×Addr)}{wi:TI}{g:TG}{ti:TT}{tb:Addr->TS}{emit:Value->Env->Sem Unit}
  (hsw:swapsWith (.ListComp elt (⟨tg,iter,ifs,0⟩::rest) scope pos) (some (.Name y py)) spos.line X.env=pure true)
  (eq:∀ it acc env,compTurn (.ListComp elt (⟨tg,iter,ifs,0⟩::rest) scope pos) 0 it acc env=qir iter.pos tg ifs it env (emit acc env) (.compLoop (.ListComp elt (⟨tg,iter,ifs,0⟩::rest) scope pos) 0 it acc env))
  (C:CSc X scope T keep) (hcl:cloF X.env.cells scope.names []=some cl) (hi:PI X tg iter wi)
  (hb:∀ s H fp p,PG (cxC X scope cl T keep s H fp) tg g/\PIfs (cxC X scope cl T keep s H fp) ifs ti/\PU (cxC X scope cl T keep s H fp) (emit (.ref p) (cxC X scope cl T keep s H fp).env) (tb p))
  (hN:X.N.Nodup) (hy:X.N[i]? = some y) (hx:Loc X.env.scope y) (hf:X.fn y=true\/X.env.scope.names.lookup y=some .local)
  (hs:∀ x,foldedSetIterable iter X.env x=pure x:=by intro _;rfl):
  PS X (.Assign [.Name y py] (.ListComp elt (⟨tg,iter,ifs,0⟩::rest) scope pos) spos) (tAsg (ql6 T.length keep wi g ti tb) (qk7 i)):=by
 intro pins s σ H D I h
 rw [exec_Assign_Name_used _ _ _ _ hsw]
 refine wB1 (wpAny_standAt (wB1 ?_))
 show wpAny _ X.A (do let _<-comprehension (.ListComp elt (⟨tg,iter,ifs,0⟩::rest) scope pos) scope X.env _ (newList []) false (eval iter X.env) (some (assign (.Name y py) X.env))) _ _ s
 refine wB1 (wpAny_mono (wpAny_comprehension_free (use:=some (assign (.Name y py) X.env)) (Q:=fun _ s'=>SP X pins D .next s') rfl hs (qlR hcl) C.kind C.names ?_) (fun _ s' hq=>wP1 (wP1 hq)) fun _ _ e=>e)
 refine thn (hi pins s σ H _ I h) fun v s1 h1=>thn h1 fun itv s2 h2=>?_
 obtain ⟨it,fp,tn,J,H2,rfl,I2,TT,st2,f2,q2⟩:=h2
 refine wO1 ?_
 have I3:Inv X pins σ (upd H2 s2.heap.objs.size (.lst [])) {s2 with heap:=s2.heap.push {cls:=.type "list",data:=.seq ([]:List Value).toArray}}:=I2.lnew (t':=s2.toks) .nil (Nat.zero_le _)
 have old:∀ b∈fp,∃ o,s2.heap.get? b=some o:=fun b hb=>by
  obtain ⟨o,e,_⟩:=TT.obj 0 s2.heap st2 b hb
  exact ⟨o,e⟩
 have fne:∀ b∈fp,b≠s2.heap.objs.size:=fun b hb z=>by
  obtain ⟨o,e⟩:=old b hb
  have:=hL1 e
  rw [z] at this
  exact Nat.lt_irrefl _ this
 have f3:∀ b∈fp,FpOk X pins (upd H2 s2.heap.objs.size (.lst [])) b:=fun b hb=>⟨by rw [qar (fne b hb)];exact (f2 b hb).1,(f2 b hb).2⟩
 have o3:∀ b∈fp,∃ o,({s2 with heap:=s2.heap.push {cls:=.type "list",data:=.seq ([]:List Value).toArray}}:Shared).heap.get? b=some o:=fun b hb=>by
  obtain ⟨o,e⟩:=old b hb
  exact ⟨o,hP1 _ e⟩
 have I4:=qhs I3 C hcl f3 o3
 obtain ⟨hg,hf2,he⟩:=hb {s2 with heap:=s2.heap.push {cls:=.type "list",data:=.seq ([]:List Value).toArray}} (upd H2 s2.heap.objs.size (.lst [])) fp s2.heap.objs.size
 refine qdm ?_
 have f4:∀ b∈fp,FpOk (cxC X scope cl T keep {s2 with heap:=s2.heap.push {cls:=.type "list",data:=.seq ([]:List Value).toArray}} (upd H2 s2.heap.objs.size (.lst [])) fp) [] (upd H2 s2.heap.objs.size (.lst [])) b:=fun b hb=>
  ⟨(f3 b hb).1,(I4.ok.exf b hb).1,I4.ok.exfs b hb,.inl hb,(I4.ok.exf b hb).2,fun p hp=>absurd (show p∈([]:List (Addr×Obj)) from hp) (by simp)⟩
 have st4:tn 0 (pushCells ((s2.heap.push {cls:=.type "list",data:=.seq ([]:List Value).toArray}).push {cls:=.type "dict",data:=.dict #[]}) scope.names):=
  TT.keep 0 s2.heap _ st2 fun b hb o e=>pushCells_keeps scope.names _ b o (hP1 _ (hP1 _ e))
 have loop:=qgd (X:=cxC X scope cl T keep {s2 with heap:=s2.heap.push {cls:=.type "list",data:=.seq ([]:List Value).toArray}} (upd H2 s2.heap.objs.size (.lst [])) fp) rfl hc (eq (.ref it) (.ref s2.heap.objs.size) _) TT hg hf2 he I4 st4 f4
  (q2 s2.heap.objs.size (I2.hok.fresh (nR1 _)))
 refine codeAny_mono (codeAny_compStart_list loop (TT.self X.A 0 _ _ _ st4 loop)) fun r s' hr=>?_
 cases r with
 | error e=>exact hr.elim
 | ok f=>
  obtain ⟨σ',H',I',q'⟩:=hr
  have J1:Inv X pins σ H' s':=I3.call' (s':=s') (ch:=fp) I'.os I'.base I'.hok I'.bare fun b hb=>(f3 b hb).2.2.2 |> fun z=>⟨z.1,(f3 b hb).2.1,z.2.1,z.2.2⟩
  -- the block's own dict is kept aside
  obtain ⟨m,hn,_⟩:=id I'.loc
  obtain ⟨oC,es,ep,eC,dC,rC⟩:=id hn
  have hCz:(s2.heap.push {cls:=.type "list",data:=.seq ([]:List Value).toArray}).get? (s2.heap.push {cls:=.type "list",data:=.seq ([]:List Value).toArray}).objs.size=none:=Heap.get?_none_of_le (nR1 _)
  have neL:(s2.heap.push {cls:=.type "list",data:=.seq ([]:List Value).toArray}).objs.size≠X.env.locals:=fun z=>by
   have:=I3.lt
   rw [<- z] at this
   exact Nat.lt_irrefl _ this
  have frC:H' (s2.heap.push {cls:=.type "list",data:=.seq ([]:List Value).toArray}).objs.size=none:=I'.free
  have J2:Inv X (pins++[((s2.heap.push {cls:=.type "list",data:=.seq ([]:List Value).toArray}).objs.size,oC)]) σ H' s':=J1.pins_of fun p hp=>by
   rcases List.mem_append.mp hp with z | z
   ·exact J1.pin p (mA1 _ z)
   ·have z':p=((s2.heap.push {cls:=.type "list",data:=.seq ([]:List Value).toArray}).objs.size,oC):=by simpa using z
    subst z'
    exact ⟨eC,frC,neL,I3.nofs (nR1 _),fun v q=>by rw [dC] at q;cases q⟩
  refine thn (qiK hN hy hx hf _ s' σ H' (.ref s2.heap.objs.size) (.ref s2.heap.objs.size) D.nx J2 rfl q') fun _ s5 ⟨σ5,H5,J5,q5⟩=>?_
  obtain ⟨e5,n5,_⟩:=J5.pin ((s2.heap.push {cls:=.type "list",data:=.seq ([]:List Value).toArray}).objs.size,oC) (mA1 _ (mA1 _ mS1))
  refine ⟨m,⟨oC,es,ep,e5,dC,rC⟩,fun h' hs'=>?_⟩
  have J6:Inv X pins σ5 H5 s5:=J5.unpinned
  refine ⟨σ5,H5,J6.turned (t':=s5.toks) (fun b o hb e=>(hs'.2 b hb).trans e) n5 neL (.inr ?_) (fun x c hcell z=>?_) (fun p hp z=>?_),q5⟩
  ·exact I3.sz
  ·obtain ⟨w',zc⟩:=I3.cell x c hcell
   have hlt:=zc.lt
   rw [z] at hlt
   exact Nat.lt_irrefl _ hlt
  ·obtain ⟨ep',_⟩:=I3.pin p hp
   have hlt:=hL1 ep'
   rw [z] at hlt
   exact Nat.lt_irrefl _ hlt
section
variable {X:Cx}
theorem qpQ {K:Fg1}{te:TE}{m:FE}{i:Nat}(hm:∀ σ H Q,tM K m σ H Q->te σ H Q){E:Ends}{σ:L2.St}{H:Hp}(h:tMS K (mAsg m (gN i)) E σ H):tAsg te (qk7 i) E σ H:=by
 obtain ⟨r,mu,S,d,S',h1,h2,h3,h4⟩:=qgO h
 refine hm _ _ _ ⟨r,mu,S,d,S',h1,h2,h3,fun v H' mu' x1 r1 s1=>?_⟩
 obtain ⟨r2,mu2,S2,d2,r3,S3,q1,q2,q3,q4,q5⟩:=h4 v H' mu' x1 r1 s1
 cases q4
 exact q5 _ H' mu2 (.refl _ _) (q1.set q3) q2
theorem mv (i:Nat){x:Str}{pos:Pos}(hN:X.N[i]? = some x:=by rfl)(hv:Vis X.env.scope x:=by first | exact Or.inl rfl | exact Or.inr (Or.inl rfl) | exact Or.inr (Or.inr rfl))(hd:(x == ("__debug__":Str))=false:=by decide)(hcd:(x == ("__classdict__":Str))=false:=by decide):
  ME X (.Name x pos) (mV i):=qo3 i hN hv hd hcd
end
noncomputable def Own (P:Program)(w:World)(K:Fg1)(mg:Str->Option Value)(base:Heap)(k:Nat)(x:Str)(n:Nat)(m:FN):Prop:=
 ∃ (f:Addr) (fd:FuncData) (ps:List Str),FnOk P w K mg base CX0 k f fd ps (spM K n m)/\qa6 K fd ps []/\wK1 K (.ref f)=true/\mg x=some (.ref f)
theorem qo6 {X:Cx}{k k' n:Nat}{x:Str}{m:FN}{p pos:Pos}{e:Expr}{es:List Expr}{a:FA}(h:Own X.prog X.w X.K X.mg X.base k x n m)(hr:Room k' X.A)(hk:k<=k')(hg:Gl X x)(ha:MA X (e::es) a)(hdb:(x == ("__debug__":Str))=false:=by decide)
  (he:starEach (e::es) X.env=(false,eval e X.env)::starEach es X.env:=by rfl) (hpl:(backTo pos (starEach es X.env)).any (·.1)=false:=by rfl):ME X (.Call (.Name x p) (e::es) [] pos) (mN (qaj n m) a):=by
 obtain ⟨f,fd,ps,F,b,kp,hm⟩:=h
 exact qm4 F (hr.mono hk) hg hm kp b ha hdb he hpl
theorem qoB {P:Program}{w:World}{K:Fg1}{mg:Str->Option Value}{base:Heap}{x qual:Str}{st:Stmt}{f:Addr}{fd:FuncData}{N ps:List Str}{k n:Nat}{b:FS}(F:Fun K x qual st f fd)(hb:qa6 K fd ps [])(hm:mg x=some (.ref f))(S:qas N ps (qab st))(hn:ps.length=n)
  (hbody:∀ (cdv:Value) (A:Around) (outer:List Env) (s:Shared) (H:Hp) (E:XK),Room k (A.deeper (envOfC qual (qab st) s.heap.objs.size f cdv)) ->
   MSs (cxOf CX0 P w K mg base N qual (qab st) f cdv A outer s H E).nox (qaq st) b):Own P w K mg base (k+1) x n (fnB N.length b):=by
 subst hn
 exact ⟨f,fd,ps,fn_m F S hbody,hb,F.kp,hm⟩
theorem qT (es k pos rest env):starEach (.Tuple es k pos::rest) env=(false,eval (.Tuple es k pos) env)::starEach rest env:=rfl
theorem qe0 (es pos rest env):starEach (.List es pos::rest) env=(false,eval (.List es pos) env)::starEach rest env:=rfl
theorem qM (x pos rest env):starEach (.Name x pos::rest) env=(false,eval (.Name x pos) env)::starEach rest env:=rfl
theorem qC (c k pos rest env):starEach (.Constant c k pos::rest) env=(false,eval (.Constant c k pos) env)::starEach rest env:=rfl
theorem qL (f a k pos rest env):starEach (.Call f a k pos::rest) env=(false,eval (.Call f a k pos) env)::starEach rest env:=rfl
theorem qB (a o b pos rest env):starEach (.BinOp a o b pos::rest) env=(false,eval (.BinOp a o b pos) env)::starEach rest env:=rfl
theorem qdz (a o b pos rest env):starEach (.Compare a o b pos::rest) env=(false,eval (.Compare a o b pos) env)::starEach rest env:=rfl
theorem qS (a o pos rest env):starEach (.Subscript a o pos::rest) env=(false,eval (.Subscript a o pos) env)::starEach rest env:=rfl
theorem qaB (a o b pos rest env):starEach (.ListComp a o b pos::rest) env=(false,eval (.ListComp a o b pos) env)::starEach rest env:=rfl
noncomputable def CGl (K:Fg1)(mg:Str->Option Value)(x:Str)(d:D):Prop:=∃ (v:V) (u:Value),mg x=some u/\RelV v u /\ ∀ H mu,Rep K H mu d v
theorem qm3 {X:Cx}{x:Str}{d:D}{pos:Pos}(h:CGl X.K X.mg x d)(hg:Gl X x)(hd:(x == ("__debug__":Str))=false:=by decide):ME X (.Name x pos) (mC d):=by
 obtain ⟨v,u,hm,r,q⟩:=h
 exact me_c d (qmB hg hm r hd) q
noncomputable def qcb:List Bool->Ev->Ev
 | true::bs,o::r=>o::qcb bs r
 | false::bs,_::r=>none::qcb bs r
 | [],_::r=>none::qcb [] r
 | _,[]=>[]
noncomputable def qe2:Ev->Bool
 | []=>true
 | none::r=>qe2 r
 | some d::r=>d.und 0&&qe2 r
noncomputable def qh7 (ki ko:List Bool)(b:FS):FS:=fun r S=>if qe2 (qcb ki r)=true then
  (b (qcb ki r) []).bind fun p=>match p.1 with
   | .rt d=>if d.und 0=true then some (.rt d,[],S) else none
   | f=>if qe2 (qcb ko p.2.1)=true then some (f,qcb ko p.2.1,S) else none
 else none
theorem qdo:∀ (bs:List Bool) (r:Ev),(qcb bs r).length=r.length
 | true::bs,o::r=>congrArg (· + 1) (qdo bs r)
 | false::bs,o::r=>congrArg (· + 1) (qdo bs r)
 | [],o::r=>congrArg (· + 1) (qdo [] r)
 | [],[]=>rfl
 | true::_,[]=>rfl
 | false::_,[]=>rfl
theorem qdp:∀ (bs:List Bool) (r:Ev) (i:Nat) (d:D),(qcb bs r)[i]? = some (some d)->r[i]? = some (some d)
 | true::bs,o::r,0,d,h=>h
 | true::bs,o::r,i+1,d,h=>by
  rw [gC1];exact qdp bs r i d (by rw [qcb,gC1] at h;exact h)
 | false::bs,o::r,0,d,h=>by simp [qcb] at h
 | false::bs,o::r,i+1,d,h=>by
  rw [gC1];exact qdp bs r i d (by rw [qcb,gC1] at h;exact h)
 | [],o::r,0,d,h=>by simp [qcb] at h
 | [],o::r,i+1,d,h=>by
  rw [gC1];exact qdp [] r i d (by rw [qcb,gC1] at h;exact h)
 | [],[],i,d,h=>by simp [qcb] at h
 | true::_,[],i,d,h=>by simp [qcb] at h
 | false::_,[],i,d,h=>by simp [qcb] at h
theorem qd9:∀ (r:Ev) (i:Nat) (d:D),qe2 r=true->r[i]? = some (some d)->d.und 0=true
 | none::r,0,d,_,h=>by simp at h
 | none::r,i+1,d,hs,h=>qd9 r i d hs (by simpa using h)
 | some e::r,0,d,hs,h=>by
  rw [qe2,bA1] at hs
  simp at h;subst h;exact hs.1
 | some e::r,i+1,d,hs,h=>by
  rw [qe2,bA1] at hs
  exact qd9 r i d hs.2 (by simpa using h)
theorem EnvR.mask {K:Fg1}{H:Hp}{mu mu':List Addr}{r:Ev}{σ:L2.St}{bs:List Bool}(h:EnvR K H mu r σ)(hs:qe2 (qcb bs r)=true):EnvR K H mu' (qcb bs r) σ:=
 ⟨by rw [qdo];exact h.len,fun i d e=>by
  obtain ⟨v,e1,r1⟩:=h.val i d (qdp bs r i d e)
  exact ⟨v,e1,r1.cut (n:=0) (fun k hk=>absurd hk (Nat.not_lt_zero _)) (qd9 _ i d hs e)⟩⟩
theorem qkT {K:Fg1}{ki ko:List Bool}{b:FS}{E:Ends}{σ:L2.St}{H:Hp}(h:tMS K (qh7 ki ko b) E σ H):tMS K b E σ H:=by
 obtain ⟨r,mu,S,f,r',S',he,hs,hm,hc⟩:=h
 unfold qh7 at hm
 split at hm
 ·rename_i hb
  obtain ⟨⟨f1,r1,S1⟩,e1,hm⟩:=oB1.mp hm
  refine ⟨qcb ki r,[],[],f1,r1,S1,he.mask hb,.nil,e1,?_⟩
  have back:∀ {H':Hp} {mu':List Addr},Ext [] mu' H H'->Ext mu mu H H':=fun {H' mu'} x=>⟨List.prefix_rfl,fun a o e _=>x.old a o e (by simp),x.tup,x.frz,fun _ z=>.inl z⟩
  have keep:∀ {H':Hp} {mu':List Addr},Ext [] mu' H H'->Sim K H' mu S:=fun {H' mu'} x=>⟨hs.len,hs.nd,fun n o a h1 h2=>(hs.ob n o a h1 h2).keep (back x) fun o e=>x.old a o e (by simp)⟩
  cases f1 with
  | rt d=>
   dsimp only at hm
   split at hm
   ·rename_i hd
    cases hm
    exact fun v H' mu' x r s=>hc v H' mu (back x) (r.cut (n:=0) (fun k hk=>absurd hk (Nat.not_lt_zero _)) hd) (keep x)
   ·cases hm
  | nx=>
   dsimp only at hm
   split at hm
   ·rename_i hd
    cases hm
    exact fun σ' H' mu' x r s=>hc σ' H' mu (back x) (r.mask hd) (keep x)
   ·cases hm
  | bk=>
   dsimp only at hm
   split at hm
   ·rename_i hd
    cases hm
    exact fun σ' H' mu' x r s=>hc σ' H' mu (back x) (r.mask hd) (keep x)
   ·cases hm
  | ct=>
   dsimp only at hm
   split at hm
   ·rename_i hd
    cases hm
    exact fun σ' H' mu' x r s=>hc σ' H' mu (back x) (r.mask hd) (keep x)
   ·cases hm
 ·cases hm
theorem qkL {X:Cx}{sts:List Stmt}{b:FS}(ki ko:List Bool)(h:MSs X sts b):MSs X sts (qh7 ki ko b):=qgx h fun _ _ _=>qkT
noncomputable def CV (K:Fg1)(d:D)(u:Value):Prop:=∃ v:V,RelV v u /\ ∀ H mu,Rep K H mu d v
section
variable {K:Fg1}
theorem qpJ {mg:Str->Option Value}{x:Str}{d:D}{u:Value}(hm:mg x=some u)(h:CV K d u):CGl K mg x d:=by
 obtain ⟨v,r,q⟩:=h
 exact ⟨v,u,hm,r,q⟩
end
theorem qdi {K:Fg1}{H:Hp}{mu:List Addr}:∀ ns:List Int,Reps K H mu (ns.map D.int) (ns.map V.int)
 | []=>.nil
 | n::ns=>.cons (.int n) (qdi ns)
theorem qph {K:Fg1}{m:FN}(hm:∀ ns:List Int,ns.length<=63 -> ∃ S,m [.rol (ns.map D.int)] []=some (.bl true,S))(H:Hp)(a:Addr)(ns:List Int)(hl:ns.length<=63)(hO:Only H)(hS:SqL K H a (ns.map V.int)):
  spM K 1 m [.ref a] H (fun v _=>v = .bl true) fun _ _ _=>False:=by
 refine ⟨rfl,?_⟩
 obtain ⟨S,e⟩:=hm ns hl
 have hR:RoL K H a (ns.map V.int):=by
  rcases hS with h | h
  ·rcases h with h | h
   ·rcases hO a with z | ⟨o,xs,z⟩
    ·rw [h] at z;cases z
    ·rw [h] at z;cases z
   ·exact .inl h
  ·exact .inr h
 refine ⟨[],[],[.rol (ns.map D.int)],.bl true,S,.cons (.rol hR (qdi ns)) .nil,.nil,e,fun v H' mu' x r s=>?_⟩
 cases r
 rfl
theorem walk_m {l:PySem.W.OpenLaw}{q:Program}{loose:List Str}{XP:(Str->Option Value)->Heap->Prop}{YP:World->Heap->Prop}{d:DefRec}{K:Params->Fg1}{m:FN}{k:Nat}{x:Str}(hn:l.most=some 63)(hdf:d.params.defaults=[])(hr:Room k callerA)
  (hY:∀ (w:World) (h:Heap),YP w h->(K w.params).In h) (hm:∀ ns:List Int,ns.length<=63 -> ∃ S,m [.rol (ns.map D.int)] []=some (.bl true,S))
  (F:∀ (w:World) (mg:Str->Option Value) (fa:Addr) (h:Heap),(K w.params).In h->h.Ns mainGlobals mg->mg d.name=some (.ref fa) ->
   ∃ fd:FuncData,(∀ (s:Shared) (u:Value),BindsTo s fd ⟨[u],[]⟩ [(x,u)]) /\ ∀ base:Heap,(K w.params).In base->base.Ns mainGlobals mg->FnOk l.prog w (K w.params) mg base CX0 k fa fd [x] (spM (K w.params) 1 m)):
  PySem.W.WalkO q loose XP YP l.row.toRowW d [] (fun f vs=>PySem.call f vs):=
 L2.ql3 (n:=63) (k:=k) (x:=x) (CX:=fun _=>CX0) (sp:=fun w=>spM (K w.params) 1 m) hn (by decide) hdf hr hY F (fun _ H a ns hl hO hS=>qph hm H a ns hl hO hS) fun _ _ _ _ _ z=>z
structure XE (X:Cx)(e:Expr)(m:FE):Prop where
 h:ME X e m
structure XT (X:Cx)(e:Expr)(m:FT):Prop where
 h:MT X e m
structure XW (X:Cx)(e:Expr)(m:FT):Prop where
 h:MW X e m
structure XA (X:Cx)(e:List Expr)(m:FA):Prop where
 h:MA X e m
structure XS (X:Cx)(e:Stmt)(m:FS):Prop where
 h:MS X e m
structure XSs (X:Cx)(e:List Stmt)(m:FS):Prop where
 h:MSs X e m
structure XI (X:Cx)(tg e:Expr)(m:FI):Prop where
 h:MI X tg e m
structure XG (X:Cx)(e:Expr)(m:FG):Prop where
 h:MG X e m
structure XGs (X:Cx)(e:List Expr)(m:FGs):Prop where
 h:MGs X e m
structure XO (X:Cx)(e:Option Expr)(m:FO):Prop where
 h:MO X e m
structure XF (X:Cx)(K:Fg1)(ifs:List Expr)(t:FT):Prop where
 h:PIfs X ifs (tMT K t)
theorem qaK {X:Cx}:XF X X.K [] qcr:=⟨qmZ⟩
theorem qcH {X:Cx}{c:Expr}{t:FT}(h:XT X c t):XF X X.K [c] t:=⟨qmY h.h⟩
theorem qik {X:Cx}{sts:List Stmt}{b:FS}(ki ko:List Bool)(h:XSs X sts b):XSs X sts (qh7 ki ko b):=⟨qkL ki ko h.h⟩
section
variable {X:Cx} {pos:Pos}
theorem qK {i:Int}{j}:XE X (.Constant (.int i) j pos) (mC (.int i)):=⟨qo9⟩
end
section
variable {X:Cx} {pos:Pos}
theorem qd5 {b:Bool}{j}:XE X (.Constant (.bool b) j pos) (mC (.bl b)):=⟨qqG⟩
end
section
variable {X:Cx} {pos:Pos}
theorem qcs {j}:XE X (.Constant .none j pos) (mC .non):=⟨qo7⟩
end
section
variable {X:Cx} {pos:Pos}
theorem qgp {x:Str}{j}:XE X (.Constant (.str x) j pos) (mC (.str x)):=⟨qo5⟩
end
section
variable {X:Cx} {pos:Pos} {e:Expr} {es:List Expr} {m:FE} {n:FA}
theorem qN:XA X [] mNil:=⟨qpc⟩
end
section
variable {X:Cx} {pos:Pos} {e:Expr} {es:List Expr} {m:FE} {n:FA}
theorem qA (h:XE X e m)(ht:XA X es n)(hs:starEach (e::es) X.env=(false,eval e X.env)::starEach es X.env:=by rfl):XA X (e::es) (qaa m n):=⟨qm5 (h:=h.h) (ht:=ht.h) (hs:=hs)⟩
end
section
variable {X:Cx} {K:Fg1} {f:FN} {a b:FE} {σ:L2.St} {H:Hp} {Q:VK}
theorem qI {op:Operator}{x y:Expr}{pos:Pos}(ho:OpR X (binaryOp op) (r2 X.K f))(hx:XE X x a)(hy:XE X y b):XE X (.BinOp x op y pos) (m2 f a b):=⟨qqD (ho:=ho) (hx:=hx.h) (hy:=hy.h)⟩
end
section
variable {X:Cx} {K:Fg1} {f:FN} {a b:FE} {σ:L2.St} {H:Hp} {Q:VK}
end
section
variable {X:Cx} {K:Fg1} {f:FN} {a b:FE} {σ:L2.St} {H:Hp} {Q:VK}
theorem qdx {op:CmpOp}{x y:Expr}{pos:Pos}(ho:OpR X (compareOp op) (r2 X.K f))(hx:XE X x a)(hy:XE X y b)(hm:behindInMarks op y=false):XE X (.Compare x [op] [y] pos) (m2 f a b):=⟨qpa (ho:=ho) (hx:=hx.h) (hy:=hy.h) (hm:=hm)⟩
end
section
variable {X:Cx} {K:Fg1} {f:FN} {a b:FE} {σ:L2.St} {H:Hp} {Q:VK}
theorem qJ {x y:Expr}{pos:Pos}(ho:IxR X (r2 X.K f))(hx:XE X x a)(hy:XE X y b)(hs:qg6 y):XE X (.Subscript x y pos) (m2 f a b):=⟨qqE (ho:=ho) (hx:=hx.h) (hy:=hy.h) (hs:=hs)⟩
end
section
variable {X:Cx} {K:Fg1} {f:FN} {a b:FE} {σ:L2.St} {H:Hp} {Q:VK}
theorem qD {x:Str}{p pos:Pos}{e:Expr}{es:List Expr}{id:String}{a:FA}(hc:qbE X (.builtin id) (rN X.K f))(hg:Gl X x)(hm:X.mg x=none)(hv:bootBuiltins x=some (.builtin id))(ha:XA X (e::es) a)(hn:x≠"__name__":=by decide)(hdb:(x == ("__debug__":Str))=false:=by decide)(he:starEach (e::es) X.env=(false,eval e X.env)::starEach es X.env:=by rfl)(hpl:(backTo pos (starEach es X.env)).any (·.1)=false:=by rfl):XE X (.Call (.Name x p) (e::es) [] pos) (mN f a):=⟨qkS (hc:=hc) (hg:=hg) (hm:=hm) (hv:=hv) (ha:=ha.h) (hn:=hn) (hdb:=hdb) (he:=he) (hpl:=hpl)⟩
end
section
variable {X:Cx} {K:Fg1} {f:FN} {a b:FE} {σ:L2.St} {H:Hp} {Q:VK}
theorem qE {x:Str}{p pos:Pos}{e:Expr}{es:List Expr}{T:String}{a:FA}(hc:qbE X (.type T) (rN X.K f))(hg:Gl X x)(hm:X.mg x=none)(hv:bootBuiltins x=some (.type T))(ha:XA X (e::es) a)(hn:x≠"__name__":=by decide)(hdb:(x == ("__debug__":Str))=false:=by decide)(he:starEach (e::es) X.env=(false,eval e X.env)::starEach es X.env:=by rfl)(hpl:(backTo pos (starEach es X.env)).any (·.1)=false:=by rfl):XE X (.Call (.Name x p) (e::es) [] pos) (mN f a):=⟨qi2 (hc:=hc) (hg:=hg) (hm:=hm) (hv:=hv) (ha:=ha.h) (hn:=hn) (hdb:=hdb) (he:=he) (hpl:=hpl)⟩
end
section
variable {X:Cx} {x y c:Expr} {rest:List Expr} {pos:Pos} {a b:FT} {f g:FE}
theorem qX {op:CmpOp}{f:FN}{a b:FE}(ho:OpR X (compareOp op) (r2 X.K f))(hx:XE X x a)(hy:XE X y b)(hm:behindInMarks op y=false):XT X (.Compare x [op] [y] pos) (mB (m2 f a b)):=⟨qoT (ho:=ho) (hx:=hx.h) (hy:=hy.h) (hm:=hm)⟩
end
section
variable {X:Cx} {x y c:Expr} {rest:List Expr} {pos:Pos} {a b:FT} {f g:FE}
end
section
variable {X:Cx} {x y c:Expr} {rest:List Expr} {pos:Pos} {a b:FT} {f g:FE}
theorem qda (ha:XT X x a):XW X (.BoolOp .And [x] pos) a:=⟨qmS (ha:=ha.h)⟩
end
section
variable {X:Cx} {x y c:Expr} {rest:List Expr} {pos:Pos} {a b:FT} {f g:FE}
theorem qij (ha:XT X x a):XW X (.BoolOp .Or [x] pos) a:=⟨qoQ (ha:=ha.h)⟩
end
section
variable {X:Cx} {x y c:Expr} {rest:List Expr} {pos:Pos} {a b:FT} {f g:FE}
theorem qdu (ha:XT X x a)(hb:XW X (.BoolOp .And (y::rest) pos) b):XW X (.BoolOp .And (x::y::rest) pos) (mAnd a b):=⟨qoR (ha:=ha.h) (hb:=hb.h)⟩
end
section
variable {X:Cx} {x y c:Expr} {rest:List Expr} {pos:Pos} {a b:FT} {f g:FE}
theorem qll (ha:XT X x a)(hb:XW X (.BoolOp .Or (y::rest) pos) b):XW X (.BoolOp .Or (x::y::rest) pos) (mOr a b):=⟨qqA (ha:=ha.h) (hb:=hb.h)⟩
end
section
variable {X:Cx} {x y c:Expr} {rest:List Expr} {pos:Pos} {a b:FT} {f g:FE}
theorem qgn (h:XW X x a):XT X x a:=⟨mt_w (h:=h.h)⟩
end
section
variable {X:Cx} {x y c:Expr} {rest:List Expr} {pos:Pos} {a b:FT} {f g:FE}
theorem qlY (ha:XT X x a):XT X (.UnaryOp .Not x pos) (mNot a):=⟨qoS (ha:=ha.h)⟩
end
section
variable {X:Cx} {x y c:Expr} {rest:List Expr} {pos:Pos} {a b:FT} {f g:FE}
end
section
variable {X:Cx} {x y c:Expr} {rest:List Expr} {pos:Pos} {a b:FT} {f g:FE}
end
section
variable {X:Cx} {x y c:Expr} {rest:List Expr} {pos:Pos} {a b:FT} {f g:FE}
end
section
variable {X:Cx} {x y c:Expr} {rest:List Expr} {pos:Pos} {a b:FT} {f g:FE}
end
section
variable {X:Cx} {x y c:Expr} {rest:List Expr} {pos:Pos} {a b:FT} {f g:FE}
theorem qil (hc:XT X c a)(hx:XE X x f)(hy:XE X y g):XE X (.IfExp c x y pos) (mIf a f g):=⟨qqF (hc:=hc.h) (hx:=hx.h) (hy:=hy.h)⟩
end
section
variable {X:Cx} {x y z:Expr} {pos:Pos} {f g:FN} {a b c:FE} {op op':CmpOp}
end
section
variable {X:Cx} {x y z:Expr} {pos:Pos} {f g:FN} {a b c:FE} {op op':CmpOp}
end
section
variable {X:Cx} {pos:Pos} {e c:Expr} {st:Stmt} {rest as bs:List Stmt} {a b:FS} {m:FE} {t:FT}
theorem qQ:XSs X [] mNx:=⟨qmU⟩
end
section
variable {X:Cx} {pos:Pos} {e c:Expr} {st:Stmt} {rest as bs:List Stmt} {a b:FS} {m:FE} {t:FT}
theorem qF (h1:XS X st a)(h2:XSs X rest b):XSs X (st::rest) (mSeq a b):=⟨qkM (h1:=h1.h) (h2:=h2.h)⟩
end
section
variable {X:Cx} {pos:Pos} {e c:Expr} {st:Stmt} {rest as bs:List Stmt} {a b:FS} {m:FE} {t:FT}
theorem qG (h1:XS X st a):XSs X [st] a:=⟨qmT (h1:=h1.h)⟩
end
section
variable {X:Cx} {pos:Pos} {e c:Expr} {st:Stmt} {rest as bs:List Stmt} {a b:FS} {m:FE} {t:FT}
end
section
variable {X:Cx} {pos:Pos} {e c:Expr} {st:Stmt} {rest as bs:List Stmt} {a b:FS} {m:FE} {t:FT}
end
section
variable {X:Cx} {pos:Pos} {e c:Expr} {st:Stmt} {rest as bs:List Stmt} {a b:FS} {m:FE} {t:FT}
end
section
variable {X:Cx} {pos:Pos} {e c:Expr} {st:Stmt} {rest as bs:List Stmt} {a b:FS} {m:FE} {t:FT}
theorem qa0 (h:XE X e m)(hs:swapsWith e none pos.line X.env=pure false:=by rfl):XS X (.Expr e pos) (qbQ m):=⟨qmV (h:=h.h) (hs:=hs)⟩
end
section
variable {X:Cx} {pos:Pos} {e c:Expr} {st:Stmt} {rest as bs:List Stmt} {a b:FS} {m:FE} {t:FT}
theorem qU (h:XE X e m):XS X (.Return (some e) pos) (mRet m):=⟨qoV (h:=h.h)⟩
end
section
variable {X:Cx} {pos:Pos} {e c:Expr} {st:Stmt} {rest as bs:List Stmt} {a b:FS} {m:FE} {t:FT}
end
section
variable {X:Cx} {pos:Pos} {e c:Expr} {st:Stmt} {rest as bs:List Stmt} {a b:FS} {m:FE} {t:FT}
theorem qV (hc:XT X c t)(ha:XSs X as a)(hb:XSs X bs b):XS X (.If c as bs pos) (mIfS t a b):=⟨qqB (hc:=hc.h) (ha:=ha.h) (hb:=hb.h)⟩
end
section
variable {X:Cx} {pos:Pos}
theorem qO (i:Nat){x:Str}(hN:X.N.Nodup)(hi:X.N[i]? = some x)(hx:Loc X.env.scope x)(hf:X.fn x=true\/X.env.scope.names.lookup x=some .local:=by first | exact .inl rfl | exact .inr rfl | assumption):XG X (.Name x pos) (gN i):=⟨qm2 (i:=i) (hN:=hN) (hi:=hi) (hx:=hx) (hf:=hf)⟩
end
section
variable {X:Cx} {pos:Pos}
theorem qao:XGs X [] gNl:=⟨qm1⟩
end
section
variable {X:Cx} {pos:Pos}
theorem qac {e:Expr}{es:List Expr}{g:FG}{gs:FGs}(h1:XG X e g)(h2:XGs X es gs)(hs:(assignEach (e::es) X.env).map (·.2)=assign e X.env::(assignEach es X.env).map (·.2):=by rfl):XGs X (e::es) (gCs g gs):=⟨qkO (h1:=h1.h) (h2:=h2.h) (hs:=hs)⟩
end
section
variable {X:Cx} {pos:Pos}
theorem qay {es:List Expr}{k:Nat}{gs:FGs}{n:Nat}(hc:X.calm=true)(h:XGs X es gs)(hn:(assignEach es X.env).length=n:=by rfl)(hst:(assignEach es X.env).findIdx? (·.1)=none:=by rfl):XG X (.Tuple es k pos) (gT n gs):=⟨qo0 (hc:=hc) (h:=h.h) (hn:=hn) (hst:=hst)⟩
end
section
variable {X:Cx} {pos:Pos}
theorem qdv {o i:Expr}{a b:FE}{f:FN}(ho:XE X o a)(hi:XE X i b)(hs:PSet X (rU X.K f))(ha:∀ v,assign (.Subscript o i pos) X.env v=(do
   let ov<-holding [v] (eval o X.env)
   let iv<-holding [v,ov] (eval i X.env)
   standAt pos
   holding [v,ov,iv] (setItem ov iv v)
   release [v,ov,iv] []):=by intro _;rfl):XG X (.Subscript o i pos) (gS f a b):=⟨qo1 (ho:=ho.h) (hi:=hi.h) (hs:=hs) (ha:=ha)⟩
end
section
variable {X:Cx} {pos:Pos}
theorem qR {tg e:Expr}{m:FE}{g:FG}(he:XE X e m)(hg:XG X tg g)(hs:swapsWithSole [tg] e pos.line X.env=pure false:=by rfl)(hw:swappedStores [tg] e X.env=pure none:=by rfl)(h1:(assignEach [tg] X.env).map (·.2)=[assign tg X.env]:=by rfl):XS X (.Assign [tg] e pos) (mAsg m g):=⟨qoX (he:=he.h) (hg:=hg.h) (hs:=hs) (hw:=hw) (h1:=h1)⟩
end
section
variable {X:Cx} {pos:Pos}
theorem qY (i:Nat){x:Str}{e:Expr}{m:FE}{pos':Pos}(hN:X.N.Nodup)(hi:X.N[i]? = some x)(hx:Loc X.env.scope x)(he:XE X e m)(hs:swapsWith e (some (.Name x pos')) pos.line X.env=pure false:=by rfl)(hf:X.fn x=true\/X.env.scope.names.lookup x=some .local:=by first | exact .inl rfl | exact .inr rfl | assumption):XS X (.Assign [.Name x pos'] e pos) (mAsg m (gN i)):=⟨qoU (i:=i) (hN:=hN) (hi:=hi) (hx:=hx) (he:=he.h) (hs:=hs) (hf:=hf)⟩
end
section
variable {X:Cx} {pos:Pos}
end
section
theorem qdb {X:Cx}{pos:Pos}(n:Nat){c:Expr}{body:List Stmt}{t:FT}{b:FS}(hp:PassesOwn (model X.prog X.w) X.A X.env X.xe)(hc:XT X c t)(hb:XSs X body b):XS X (.While c body [] pos) (whl t b n):=⟨qkN (n:=n) (hp:=hp) (hc:=hc.h) (hb:=hb.h)⟩
end
section
theorem qW {X:Cx}{pos:Pos}{tg iter:Expr}{body:List Stmt}{m:FI}{g:FG}{b:FS}(hp:PassesOwn (model X.prog X.w) X.A X.env X.xe)(hc:X.calm=true)(hi:XI X tg iter m)(hg:XG X tg g)(hb:XSs X body b)(hs:∀ x,foldedSetIterable iter X.env x=pure x:=by intro _;rfl):XS X (.For tg iter body [] pos) (mFor m g b):=⟨qoW (hp:=hp) (hc:=hc) (hi:=hi.h) (hg:=hg.h) (hb:=hb.h) (hs:=hs)⟩
end
section
variable {X:Cx} {es:List Expr} {pos:Pos} {a:FA}
theorem qaw {x1}(h:XA X es a):XE X (.Tuple es x1 pos) (mTup a):=⟨qo4 (h:=h.h)⟩
end
section
variable {X:Cx} {es:List Expr} {pos:Pos} {a:FA}
theorem qaY (h:XA X es a):XE X (.List es pos) (mLst a):=⟨qo8 (h:=h.h)⟩
end
section
variable {X:Cx} {tg:Expr}
theorem qd {e:Expr}{m:FE}(h:XE X e m):XI X tg e (iSeq m):=⟨qoZ (h:=h.h)⟩
end
section
variable {X:Cx} {tg:Expr}
theorem qax {a:Expr}{m:FA}{p pos:Pos}(hg:Gl X "range")(hm:X.mg "range"=none)(ha:XA X [a] m)(hs:starEach [a] X.env=[(false,eval a X.env)]:=by rfl):XI X tg (.Call (.Name "range" p) [a] [] pos) (iR1 m):=⟨qiZ (hg:=hg) (hm:=hm) (ha:=ha.h) (hs:=hs)⟩
end
section
variable {X:Cx} {tg:Expr}
theorem qeG {a b:Expr}{m:FA}{p pos:Pos}(hg:Gl X "range")(hm:X.mg "range"=none)(ha:XA X [a,b] m)(hs:starEach [a,b] X.env=[(false,eval a X.env),(false,eval b X.env)]:=by rfl)(hs2:starEach [b] X.env=[(false,eval b X.env)]:=by rfl):XI X tg (.Call (.Name "range" p) [a,b] [] pos) (iR2 m):=⟨qiY (hg:=hg) (hm:=hm) (ha:=ha.h) (hs:=hs) (hs2:=hs2)⟩
end
section
variable {X:Cx} {tg:Expr}
variable {elts:List Expr} {k:Nat} {tpos:Pos}
theorem qaV {a:Expr}{m:FA}{p pos:Pos}(hg:Gl X "enumerate")(hm:X.mg "enumerate"=none)(ha:XA X [a] m)(hs:starEach [a] X.env=[(false,eval a X.env)]:=by rfl):XI X (.Tuple elts k tpos) (.Call (.Name "enumerate" p) [a] [] pos) (iEn m):=⟨qm0 (hg:=hg) (hm:=hm) (ha:=ha.h) (hs:=hs)⟩
end
section
variable {X:Cx} {tg:Expr}
variable {elts:List Expr} {k:Nat} {tpos:Pos}
end
section
variable {X:Cx} {pins:List (Addr×Obj)} {σ:L2.St} {H:Hp} {s:Shared} {mu:List Addr} {S:Sto} {K:Fg1}
end
section
variable {X:Cx}
theorem qeV:XO X none qh2:=⟨qmX⟩
end
section
variable {X:Cx}
theorem qeU {e:Expr}{m:FE}(h:XE X e m):XO X (some e) (qh1 m):=⟨qmW (h:=h.h)⟩
end
section
variable {X:Cx}
end
section
variable {X:Cx}
theorem qeH {a:Expr}{m:FA}{p1 p2 pos1 pos2:Pos}(hc:X.calm=true)(hg:Gl X "range")(hm:X.mg "range"=none)(hg2:Gl X "list")(hm2:X.mg "list"=none)(ha:XA X [a] m)(hs:starEach [a] X.env=[(false,eval a X.env)]:=by rfl)(hs2:starEach [.Call (.Name "range" p1) [a] [] pos1] X.env=[(false,eval (.Call (.Name "range" p1) [a] [] pos1) X.env)]:=by rfl):XE X (.Call (.Name "list" p2) [.Call (.Name "range" p1) [a] [] pos1] [] pos2) (mLR1 m):=⟨qi1 (hc:=hc) (hg:=hg) (hm:=hm) (hg2:=hg2) (hm2:=hm2) (ha:=ha.h) (hs:=hs) (hs2:=hs2)⟩
end
section
variable {X:Cx}
end
section
variable {X:Cx}
theorem qe {o e:Expr}{es:List Expr}{m:FE}{a:FA}{f:FN}{name:Str}{apos cpos:Pos}{id:String}(slot:Slot "list" name id)(hty:typeOf (.builtin id)=pure (.type "method_descriptor"))(hm:MtR X id (fun x xs H Q=>rN X.K f (x::xs) H Q))(ho:XE X o m)(ha:XA X (e::es) a)(hbase:attributeBase o name X.env (eval o X.env)=eval o X.env:=by rfl)(hfew:((backTo cpos (starEach (e::es) X.env)).all (fun x=> !x.1)&&(backToKw cpos (keywordEach [] X.env)).all (fun x=>x.1.isSome)&&decide ((e::es).length+([]:List Keyword).length+(if ([]:List Keyword).isEmpty then 0 else 1)<30))=true:=by rfl)(hline:(apos.endLine == cpos.line)=true:=by rfl)(hs:starEach (e::es) X.env=(false,eval e X.env)::starEach es X.env:=by rfl)(hplain:(backTo cpos (starEach es X.env)).any (·.1)=false:=by rfl):XE X (.Call (.Attribute o name apos) (e::es) [] cpos) (mMt f m a):=⟨qkQ (slot:=slot) (hty:=hty) (hm:=hm) (ho:=ho.h) (ha:=ha.h) (hbase:=hbase) (hfew:=hfew) (hline:=hline) (hs:=hs) (hplain:=hplain)⟩
end
section
variable {X:Cx}
theorem xmv (i:Nat){x:Str}{pos:Pos}(hN:X.N[i]? = some x:=by rfl)(hv:Vis X.env.scope x:=by first | exact Or.inl rfl | exact Or.inr (Or.inl rfl) | exact Or.inr (Or.inr rfl))(hd:(x == ("__debug__":Str))=false:=by decide)(hcd:(x == ("__classdict__":Str))=false:=by decide):XE X (.Name x pos) (mV i):=⟨mv (i:=i) (hN:=hN) (hv:=hv) (hd:=hd) (hcd:=hcd)⟩
end
section
theorem qH {X:Cx}{k k' n:Nat}{x:Str}{m:FN}{p pos:Pos}{e:Expr}{es:List Expr}{a:FA}(h:Own X.prog X.w X.K X.mg X.base k x n m)(hr:Room k' X.A)(hk:k<=k')(hg:Gl X x)(ha:XA X (e::es) a)(hdb:(x == ("__debug__":Str))=false:=by decide)(he:starEach (e::es) X.env=(false,eval e X.env)::starEach es X.env:=by rfl)(hpl:(backTo pos (starEach es X.env)).any (·.1)=false:=by rfl):XE X (.Call (.Name x p) (e::es) [] pos) (mN (qaj n m) a):=⟨qo6 (h:=h) (hr:=hr) (hk:=hk) (hg:=hg) (ha:=ha.h) (hdb:=hdb) (he:=he) (hpl:=hpl)⟩
end
section
theorem qj2 {X:Cx}{x:Str}{d:D}{pos:Pos}(h:CGl X.K X.mg x d)(hg:Gl X x)(hd:(x == ("__debug__":Str))=false:=by decide):XE X (.Name x pos) (mC d):=⟨qm3 (h:=h) (hg:=hg) (hd:=hd)⟩
end
section
variable {X:Cx}
structure XB1 (X:Cx)(K:Fg1)(tg:Expr)(ifs:List Expr)(elt:Expr)(g:FG)(t:FT)(e:FE):Prop where
 g:XG X tg g
 t:XF X K ifs t
 e:XE X elt e
end
theorem qaD {P:Program}{w:World}{K:Fg1}{mg:Str->Option Value}{base:Heap}{x qual:Str}{st:Stmt}{f:Addr}{fd:FuncData}{N ps:List Str}{k n:Nat}{b:FS}(F:Fun K x qual st f fd)(hb:qa6 K fd ps [])(hm:mg x=some (.ref f))(S:qas N ps (qab st))(hn:ps.length=n)
  (hbody:∀ (cdv:Value) (A:Around) (outer:List Env) (s:Shared) (H:Hp) (E:XK),Room k (A.deeper (envOfC qual (qab st) s.heap.objs.size f cdv)) ->
   XSs (cxOf CX0 P w K mg base N qual (qab st) f cdv A outer s H E).nox (qaq st) b):Own P w K mg base (k+1) x n (fnB N.length b):=
 qoB F hb hm S hn fun cdv A outer s H E hr=>(hbody cdv A outer s H E hr).h
theorem qnC {P:Program}{w:World}{K:Fg1}{mg:Str->Option Value}{base:Heap}{x qual:Str}{st:Stmt}{f:Addr}{fd:FuncData}{N ps:List Str}{k n:Nat}{b:FS}(F:Fun K x qual st f fd)(S:qas N ps (qab st))(hn:ps.length=n)
  (hbody:∀ (cdv:Value) (A:Around) (outer:List Env) (s:Shared) (H:Hp) (E:XK),Room k (A.deeper (envOfC qual (qab st) s.heap.objs.size f cdv)) ->
   XSs (cxOf CX0 P w K mg base N qual (qab st) f cdv A outer s H E).nox (qaq st) b):FnOk P w K mg base CX0 (k+1) f fd ps (spM K n (fnB N.length b)):=by
 subst hn
 exact fn_m F S fun cdv A outer s H E hr=>(hbody cdv A outer s H E hr).h
noncomputable abbrev FV:=Ev->Sto->Option (List D×Ev×Sto)
noncomputable def qcx (c:List (Nat×List D))(g:FG)(t:FT)(b:FV):List D->FV
 | []=>fun r S=>if okC S c=true then some ([],r,S) else none
 | d::ds=>fun r S=>if okC S c=true then (g d r S).bind fun p=>(t p.1 p.2).bind fun k=>if k.1=true then (b p.1 k.2).bind fun q=>(qcx c g t b ds q.2.1 q.2.2).map fun z=>(q.1++z.1,z.2) else qcx c g t b ds p.1 k.2 else none
noncomputable def qbm (m:FE):FV:=fun r S=>(m r S).map fun q=>([q.1],r,q.2)
noncomputable def qbK (k:Nat)(keep:List Nat)(m:FI)(g:FG)(t:FT)(b:FV):FE:=fun r S=>(m r S).bind fun p=>
 (qcx p.1.chk g t b p.1.items (inEv k keep r) p.2).bind fun q=>if q.1.length<=sizeLine then some (.ref q.2.2.length,q.2.2++[.lst q.1]) else none
section
variable {K:Fg1} {H H' H1:Hp} {mu mu' mu1:List Addr} {S:Sto} {a:Addr}
theorem Ext.aside (x:Ext mu mu' H H'):Ext (a::mu) (a::mu') H H' where
 pre:=List.cons_prefix_cons.mpr ⟨rfl,x.pre⟩
 old:=fun b o h n=>x.old b o h fun z=>n (mC1 _ z)
 tup:=x.tup
 frz:=x.frz
 new:=fun b h=>by
  rcases List.mem_cons.mp h with h | h
  ·exact .inl (by rw [h];exact mS1)
  ·rcases x.new b h with q | q
   ·exact .inl (mC1 _ q)
   ·exact .inr q
theorem Ext.inner (x:Ext (a::mu) (a::mu') H H'):Exw mu mu' H H':=⟨(List.cons_prefix_cons.mp x.pre).2,x.tup,x.frz⟩
theorem Ext.held {o:HO}(x:Ext mu mu' H H')(ha:H a=some o)(hn:a∉mu):H' a=some o/\a∉mu':=by
 refine ⟨x.old a o ha hn,fun z=>?_⟩
 rcases x.new a z with q | q
 ·exact hn q
 ·rw [ha] at q;cases q
theorem EnvR.exw {r:Ev}{σ:L2.St}(e:Exw mu mu' H H')(h:EnvR K H mu r σ):EnvR K H' mu' r σ:=⟨h.len,fun i d q=>by
 obtain ⟨v,e1,r1⟩:=h.val i d q
 exact ⟨v,e1,r1.exw e⟩⟩
theorem ObR.exw {b:Addr}(e:Exw mu mu' H H')(h:∀ o,H b=some o->H' b=some o):∀ {o:Ob},ObR K H mu b o->ObR K H' mu' b o
 | .lst _,⟨vs,q,r⟩=>⟨vs,h _ q,r.exw e⟩
 | .dct _,⟨ws,q,r⟩=>⟨ws,h _ q,Paired.mapP r fun _ _ z=>⟨z.1,z.2.exw e⟩⟩
 | .dcT _,⟨ws,q,r,l⟩=>⟨ws,h _ q,Paired.mapP r fun _ _ ⟨z,d,k,v,rv,r⟩=>⟨z,d,k.exw e,v,rv,r.exw e⟩,l⟩
 | .iset _,q=>⟨h _ q.1,q.2⟩
 | .dcF _,⟨ws,⟨o,u,e1,e2⟩,r,l⟩=>⟨ws,⟨o,u,h _ e1,e2⟩,Paired.mapP r fun _ _ ⟨z,d,k,v,rv,r⟩=>⟨z,d,k.exw e,v,rv,r.exw e⟩,l⟩
theorem Sim.aside {u:HO}(s:Sim K H mu S)(e:Exw mu mu H (upd H a u))(hn:a∉mu):Sim K (upd H a u) mu S:=
 ⟨s.len,s.nd,fun k o b h1 h2=>(s.ob k o b h1 h2).exw e fun o' q=>by rw [qar (fun z=>hn (by rw [<- z];exact gM1 h2))];exact q⟩
end
inductive tMV (K:Fg1)(a:Addr)(m:FV)(E:Ends)(σ:L2.St)(H:Hp):Prop
 | mk (r:Ev) (mu:List Addr) (S:Sto) (acc:List D) (vs:List V) (xs:List D) (r':Ev) (S':Sto):H a=some (.lst vs)->a∉mu->Reps K H mu acc vs->EnvR K H mu r σ->Sim K H mu S->m r S=some (xs,r',S')->vs.length+xs.length<=sizeLine ->
 (∀ σ' H' mu' vs',Ext (a::mu) (a::mu') H H'->H' a=some (.lst vs')->a∉mu'->Reps K H' mu' (acc++xs) vs'->EnvR K H' mu' r' σ'->Sim K H' mu' S'->E.nx σ' H')->tMV K a m E σ H
theorem qhC {K:Fg1}{a:Addr}{m:FE}{E:Ends}{σ:L2.St}{H:Hp}(h:tMV K a (qbm m) E σ H):qka a (tM K m) E σ H:=by
 obtain ⟨r,mu,S,acc,vs,xs,r',S',ha,hna,hr,he,hs,hm,hl,hc⟩:=h
 obtain ⟨⟨d,S1⟩,e1,hm⟩:=oM1.mp hm
 cases hm
 refine ⟨r,mu,S,d,S1,he,hs,e1,fun v H1 mu1 x1 r1 s1=>?_⟩
 obtain ⟨ha1,hn1⟩:=x1.held ha hna
 have put:Ext (a::mu1) (a::mu1) H1 (upd H1 a (.lst (vs++[v]))):=Ext.put ha1 trivial mS1
 refine ⟨vs,ha1,hl,?_⟩
 exact hc σ _ mu1 (vs++[v]) (x1.aside.trans put) qat hn1 (((hr.ext x1).append (.cons r1 .nil)).exw put.inner) ((he.ext x1).exw put.inner) (s1.aside put.inner hn1)
inductive LFI (K:Fg1)(a:Addr)(mu2:List Addr)(H:Hp)(c:List (Nat×List D))(g:FG)(t:FT)(b:FV)(r':Ev)(S':Sto)(tot:List D)(L:List D)(σ':L2.St)(H':Hp):Prop
 | mk (r3:Ev) (mu3:List Addr) (S3:Sto) (acc3:List D) (vs3:List V) (xs3:List D):Ext (a::mu2) (a::mu3) H H'->H' a=some (.lst vs3)->a∉mu3->Reps K H' mu3 acc3 vs3->EnvR K H' mu3 r3 σ'->Sim K H' mu3 S3->qcx c g t b L r3 S3=some (xs3,r',S')->acc3++xs3=tot->vs3.length+xs3.length<=sizeLine->LFI K a mu2 H c g t b r' S' tot L σ' H'
theorem qkY {K:Fg1}{a:Addr}{j:It}{J:Itm}{g:FG}{t:FT}{b:FV}{tb:TS}{D:Ends}(hb:∀ E σ H,tMV K a b E σ H->tb E σ H)
  {mu1 mu2:List Addr} {H1 H:Hp} {r r':Ev} {S S':Sto} {σ:L2.St} {acc xs:List Mi.D} {vs:List V} (hJ:ItR K j J mu1 H1) (x:Exw mu1 mu2 H1 H) (ha:H a=some (.lst vs)) (hna:a∉mu2) (hr:Reps K H mu2 acc vs) (he:EnvR K H mu2 r σ) (hs:Sim K H mu2 S)
  (hm:qcx J.chk g t b J.items r S=some (xs,r',S')) (hl:vs.length+xs.length<=sizeLine)
  (hc:∀ σ' H' mu' vs',Ext (a::mu2) (a::mu') H H'->H' a=some (.lst vs')->a∉mu'->Reps K H' mu' (acc++xs) vs'->EnvR K H' mu' r' σ'->Sim K H' mu' S'->D.nx σ' H'):qnS j (tMG K g) (tMT K t) tb D σ H:=by
 refine ⟨fun i k σ' H'=>k=(J.items.drop i).length/\LFI K a mu2 H J.chk g t b r' S' (acc++xs) (J.items.drop i) σ' H',
  ⟨_,rfl,r,mu2,S,acc,vs,xs,.refl _ _,ha,hna,hr,he,hs,hm,rfl,hl⟩,?_⟩
 rintro i k σ3 H3 ⟨rfl,r3,mu3,S3,acc3,vs3,xs3,x3,ha3,hn3,hr3,he3,s3,hm3,hx3,hl3⟩
 cases hd0:J.items.drop i with
 | nil=>
  left
  rw [hd0,qcx] at hm3
  dsimp only at hm3
  split at hm3
  ·rename_i ok
   cases hm3
   refine ⟨(hJ i H3 mu3 _ (x.trans x3.inner) s3 ok).2 (List.drop_eq_nil_iff.mp hd0),hc σ3 H3 mu3 vs3 x3 ha3 hn3 ?_ he3 s3⟩
   rw [<- hx3,List.append_nil];exact hr3
  ·cases hm3
 | cons d ds=>
  right
  rw [hd0] at hm3
  obtain ⟨hi,hd⟩:=qes hd0
  rw [qcx] at hm3
  dsimp only at hm3
  split at hm3
  ·rename_i ok
   obtain ⟨⟨r4,S4⟩,e4,hm3⟩:=oB1.mp hm3
   obtain ⟨⟨k5,S5⟩,e5,hm3⟩:=oB1.mp hm3
   obtain ⟨go,yl⟩:=(hJ i H3 mu3 _ (x.trans x3.inner) s3 ok).1 d hi
   refine ⟨go,LFI K a mu2 H J.chk g t b r' S' (acc++xs) ds,?_,fun y H4 yy=>?_⟩
   ·intro σ' H' h6
    exact ⟨ds.length,Nat.lt_succ_self _,(congrArg List.length hd).symm,hd.symm ▸ h6⟩
   ·obtain ⟨x4,s4,q4⟩:=yl y H4 yy
    obtain ⟨ha4,hn4⟩:=x4.held ha3 hn3
    refine ⟨r3,mu3,S3,d,r4,S4,he3.ext x4,s4,q4,e4,fun σ5 H5 mu5 x5 he5 s5=>?_⟩
    obtain ⟨ha5,hn5⟩:=x5.held ha4 hn4
    refine ⟨r4,mu5,S4,k5,S5,he5,s5,e5,fun H6 mu6 x6 s6=>?_⟩
    obtain ⟨ha6,hn6⟩:=x6.held ha5 hn5
    have xx:=((x3.trans x4.aside).trans x5.aside).trans x6.aside
    have hr6:Reps K H6 mu6 acc3 vs3:=((hr3.ext x4).ext x5).ext x6
    cases k5 with
    | true=>
     obtain ⟨⟨q1,r7,S7⟩,e7,hm3⟩:=oB1.mp hm3
     obtain ⟨⟨z1,r8,S8⟩,e8,hm3⟩:=oM1.mp hm3
     cases hm3
     refine hb _ _ _ ⟨r4,mu6,S5,acc3,vs3,q1,r7,S7,ha6,hn6,hr6,he5.ext x6,s6,e7,?_,fun σ8 H8 mu8 vs8 x8 ha8 hn8 hr8 he8 s8=>⟨r7,mu8,S7,acc3++q1,vs8,z1,xx.trans x8,ha8,hn8,hr8,he8,s8,e8,?_,?_⟩⟩
     ·rw [lA1] at hl3;dsimp only at hl3;lia
     ·rw [<- hx3,List.append_assoc]
     ·have:=hr8.length
      have h3:=hr6.length
      rw [lA1] at this hl3
      dsimp only at hl3
      lia
    | false=>exact ⟨r4,mu6,S5,acc3,vs3,xs3,xx,ha6,hn6,hr6,he5.ext x6,s6,hm3,hx3,hl3⟩
  ·cases hm3
theorem qhG {K:Fg1}{k:Nat}{keep:List Nat}{m:FI}{g:FG}{t:FT}{b:FV}{tb:Addr->TS}(hb:∀ a E σ H,tMV K a b E σ H->tb a E σ H){σ:L2.St}{H:Hp}{Q:VK}(h:tM K (qbK k keep m g t b) σ H Q):
  ql6 k keep (tMI K m) (tMG K g) (tMT K t) tb σ H Q:=by
 obtain ⟨r,mu,S,d,S',he,hs,hm,hc⟩:=h
 obtain ⟨⟨J,S1⟩,e1,hm⟩:=oB1.mp hm
 obtain ⟨⟨xs,r2,S2⟩,e2,hm⟩:=oB1.mp hm
 dsimp only at hm
 split at hm
 ·rename_i hl
  cases hm
  refine ⟨r,mu,S,J,S1,he,hs,e1,fun j H1 mu1 x1 J1 s1 p hp=>?_⟩
  have fr:Ext mu1 mu1 H1 (upd H1 p (.lst [])):=Ext.fresh hp
  refine qkY (hb p) J1 fr.w qat (s1.notin hp) .nil ((qqL k keep (he.ext x1)).ext fr) (s1.fresh hp) e2 (by simpa using hl) fun σ' H' mu' vs' x' ha' hn' hr' he' s'=>?_
  have y:Ext mu1 (mu'++[p]) H1 H':=by
   refine ⟨((List.cons_prefix_cons.mp x'.pre).2).trans (List.prefix_append _ _),fun b o e n=>?_,fun b ys e=>x'.tup b ys (fr.tup b ys e),fun b o u e=>x'.frz b o u (fr.frz b o u e),fun b hb'=>?_⟩
   ·have nb:b≠p:=qav e hp
    exact x'.old b o (by rw [qar nb];exact e) fun z=>by
     rcases List.mem_cons.mp z with z | z
     ·exact nb z
     ·exact n z
   ·rcases List.mem_append.mp hb' with z | z
    ·rcases x'.new b (mC1 _ z) with q | q
     ·rcases List.mem_cons.mp q with q | q
      ·exact .inr (by rw [q];exact hp)
      ·exact .inl q
     ·by_cases hbp:b=p
      ·exact .inr (by rw [hbp];exact hp)
      ·rw [qar hbp] at q;exact .inr q
    ·have:b=p:=by simpa using z
     exact .inr (by rw [this];exact hp)
  refine hc _ H' (mu'++[p]) (x1.trans y) (.ref (qce s'.len p)) ⟨by rw [lA1,lA1,s'.len];rfl,?_,fun n o b h1 h2=>?_⟩
  ·rw [List.nodup_append]
   refine ⟨s'.nd,by simp,fun b hb c hc e=>?_⟩
   have:c=p:=by simpa using hc
   subst this;subst e
   exact hn' hb
  ·by_cases hk:n<S2.length
   ·rw [gL1 hk] at h1
    rw [gL1 (by rw [s'.len];exact hk)] at h2
    exact (s'.ob n o b h1 h2).mor [p]
   ·have hk':n=S2.length:=by
     have:=(gE1.mp h1).1
     rw [lA1] at this
     simp at this
     lia
    subst hk'
    rw [gR1 (nR1 _)] at h1
    rw [<- s'.len,gR1 (nR1 _)] at h2
    simp at h1 h2
    subst h1;subst h2
    exact ⟨vs',ha',(by simpa using hr':Reps K H' mu' xs vs').mor [p]⟩
 ·cases hm
section
variable {X:Cx}
theorem qZ {elt tg iter:Expr}{ifs:List Expr}{scope:Scope}{pos:Pos}{T:List Str}{keep:List Nat}{cl:List (Str×Addr)}{m:FI}{g:FG}{t:FT}{e:FE}(hc:X.calm=true)
  (C:CSc X scope T keep) (hcl:cloF X.env.cells scope.names []=some cl) (hi:XI X tg iter m) (hb:∀ s H fp,XB1 (cxC X scope cl T keep s H fp) X.K tg ifs elt g t e)
  (hs:∀ x,foldedSetIterable iter X.env x=pure x:=by intro _;rfl):XE X (.ListComp elt [⟨tg,iter,ifs,0⟩] scope pos) (qbK T.length keep m g t (qbm e)):=
 ⟨qbj (qmD (emit:=qjw elt) (tb:=fun p=>qka p (tM X.K e)) hc (fun it acc env=>qln elt tg iter ifs scope pos it acc env) C hcl hi.h (fun s H fp p=>⟨(hb s H fp).g.h,(hb s H fp).t.h,qiD (hb s H fp).e.h p⟩) hs)
  fun σ H Q h=>qhG (fun a E σ H q=>qhC q) h⟩
theorem qct {elt tg iter:Expr}{ifs:List Expr}{scope:Scope}{pos spos py:Pos}{y:Str}(i:Nat){T:List Str}{keep:List Nat}{cl:List (Str×Addr)}{m:FI}{g:FG}{t:FT}{e:FE}(hc:X.calm=true)
  (C:CSc X scope T keep) (hcl:cloF X.env.cells scope.names []=some cl) (hi:XI X tg iter m) (hb:∀ s H fp,XB1 (cxC X scope cl T keep s H fp) X.K tg ifs elt g t e)
  (hN:X.N.Nodup) (hy:X.N[i]? = some y) (hx:Loc X.env.scope y) (hsw:swapsWith (.ListComp elt [⟨tg,iter,ifs,0⟩] scope pos) (some (.Name y py)) spos.line X.env=pure true:=by rfl)
  (hf:X.fn y=true\/X.env.scope.names.lookup y=some .local:=by first | exact .inl rfl | exact .inr rfl | assumption)
  (hs:∀ x,foldedSetIterable iter X.env x=pure x:=by intro _;rfl):XS X (.Assign [.Name y py] (.ListComp elt [⟨tg,iter,ifs,0⟩] scope pos) spos) (mAsg (qbK T.length keep m g t (qbm e)) (gN i)):=
 ⟨qdj (qmr (emit:=qjw elt) (tb:=fun p=>qka p (tM X.K e)) hc hsw (fun it acc env=>qln elt tg iter ifs scope pos it acc env) C hcl hi.h (fun s H fp p=>⟨(hb s H fp).g.h,(hb s H fp).t.h,qiD (hb s H fp).e.h p⟩) hN hy hx hf hs)
  fun E σ H h=>qpQ (fun σ H Q q=>qhG (fun a E σ H q=>qhC q) q) h⟩
end
noncomputable def keyD:D->Option Key
 | .int i=>some (.inl i)
 | .str x=>some (.inr x)
 | _=>none
noncomputable def qak {κ:Type}[DecidableEq κ](kvs:List (κ×D))(k:κ):Option D:=(kvs.find? fun p=>decide (p.1=k)).map (·.2)
noncomputable def putD {κ:Type}[DecidableEq κ](kvs:List (κ×D))(k:κ)(d:D):List (κ×D):=
 if (kvs.any fun p=>decide (p.1=k))=true then kvs.map (fun p=>if p.1=k then (p.1,d) else p) else kvs++[(k,d)]
section
variable {K:Fg1} {H:Hp} {mu:List Addr}
theorem qdI {d:D}{v:V}{k:Key}(r:Rep K H mu d v)(h:keyD d=some k):v=kV k:=by
 cases r with
 | int i=>cases h;rfl
 | str x=>cases h;rfl
 | _=>cases h
end
section
variable {κ:Type} [DecidableEq κ] {K:Fg1} {H:Hp} {mu:List Addr}
theorem KR.length:∀ {ks:List (κ×D)} {ws:List (κ×V)},KR K H mu ks ws->ks.length=ws.length:=fun h=>Paired.length h
theorem KR.look {k:κ}:∀ {ks:List (κ×D)} {ws:List (κ×V)},KR K H mu ks ws ->
  (∀ d,qak ks k=some d -> ∃ v,valV ws k=some v/\Rep K H mu d v)/\(qak ks k=none->valV ws k=none):=by
 intro ks ws h
 induction h with
 | nil=>exact ⟨fun d h=>by simp [qak] at h,fun _=>rfl⟩
 | @cons p q ks ws r t ih=>
  obtain ⟨k1,d1⟩:=p
  obtain ⟨k2,v2⟩:=q
  obtain ⟨e,r⟩:=r
  dsimp only at e r
  subst e
  obtain ⟨h1,h2⟩:=ih
  by_cases hk:k1=k
  ·subst hk
   refine ⟨fun d h=>?_,fun h=>?_⟩
   ·have:d1=d:=by simpa [qak] using h
    subst this
    exact ⟨v2,by simp [valV],r⟩
   ·simp [qak] at h
  ·have e1:qak ((k1,d1)::ks) k=qak ks k:=by simp [qak,List.find?_cons,hk]
   have e2:valV ((k1,v2)::ws) k=valV ws k:=by simp [valV,List.find?_cons,hk]
   rw [e1,e2]
   exact ⟨h1,h2⟩
theorem KR.any {k:κ}:∀ {ks:List (κ×D)} {ws:List (κ×V)},KR K H mu ks ws->(ks.any fun p=>decide (p.1=k))=ws.any fun p=>decide (p.1=k):=by
 intro ks ws h
 induction h with
 | nil=>rfl
 | cons r t ih=>rw [List.any_cons,List.any_cons,ih,r.1]
theorem KR.repl {k:κ}{d:D}{v:V}(q:Rep K H mu d v):∀ {ks:List (κ×D)} {ws:List (κ×V)},KR K H mu ks ws ->
  KR K H mu (ks.map fun p=>if p.1=k then (p.1,d) else p) (ws.map fun p=>if p.1=k then (p.1,v) else p):=by
 intro ks ws h
 induction h with
 | nil=>exact .nil
 | @cons a b ks ws r t ih=>
  refine .cons ?_ ih
  obtain ⟨e,r⟩:=r
  dsimp only
  by_cases h:a.1=k
  ·rw [if_pos h,if_pos (e ▸ h)];exact ⟨e,q⟩
  ·rw [if_neg h,if_neg (e ▸ h)];exact ⟨e,r⟩
theorem KR.snoc {k:κ}{d:D}{v:V}(q:Rep K H mu d v):∀ {ks:List (κ×D)} {ws:List (κ×V)},KR K H mu ks ws->KR K H mu (ks++[(k,d)]) (ws++[(k,v)]):=by
 intro ks ws h
 induction h with
 | nil=>exact .cons ⟨rfl,q⟩ .nil
 | cons r t ih=>exact .cons r ih
theorem KR.put {k:κ}{d:D}{v:V}(q:Rep K H mu d v){ks:List (κ×D)}{ws:List (κ×V)}(h:KR K H mu ks ws):KR K H mu (putD ks k d) (putK ws k v):=by
 unfold putD putK
 rw [h.any]
 split
 ·exact h.repl q
 ·exact h.snoc q
end
noncomputable def gInX:G2:=fun d e S=>match e with
 | .ref n=>match S[n]? with
  | some (.dct kvs)=>(keyD d).map fun k=>(.bl (qak kvs k).isSome,S)
  | _=>gIn d e S
 | _=>gIn d e S
noncomputable def qcj:G2:=fun d e S=>match e with
 | .ref n=>match S[n]? with
  | some (.dct kvs)=>(keyD d).map fun k=>(.bl (!(qak kvs k).isSome),S)
  | _=>qdT d e S
 | _=>qdT d e S
noncomputable def gIxX:G2:=fun d e S=>match d with
 | .ref n=>match S[n]? with
  | some (.dct kvs)=>(keyD e).bind fun k=>(qak kvs k).map fun x=>(x,S)
  | _=>gIx d e S
 | _=>gIx d e S
noncomputable def qeD:G3:=fun o i v S=>match o with
 | .ref n=>match S[n]? with
  | some (.dct kvs)=>(keyD i).bind fun k=>if kvs.length<sizeLine then some (.non,S.set n (.dct (putD kvs k v))) else none
  | _=>qep o i v S
 | _=>qep o i v S
section
variable {X:Cx}
theorem qfk {K:Fg1}{H:Hp}{mu:List Addr}{S:Sto}(hs:Sim K H mu S){n:Nat}{a:Addr}{kvs:List (Key×D)}{k:Key}{y:V}(hn:mu[n]? = some a)(he:S[n]? = some (.dct kvs))(hy:y=kV k):
  ∃ o:Option V,DGet H a y o/\(∀ d,qak kvs k=some d -> ∃ v,o=some v/\Rep K H mu d v)/\(qak kvs k=none->o=none)/\o.isSome=(qak kvs k).isSome:=by
 obtain ⟨ws,hw,hk⟩:=hs.dct he hn
 subst hy
 obtain ⟨h1,h2⟩:=hk.look (k:=k)
 refine ⟨valV ws k,DGet.k hw,h1,h2,?_⟩
 cases e:qak kvs k with
 | none=>rw [h2 e];rfl
 | some d=>obtain ⟨v,e2,_⟩:=h1 d e;rw [e2];rfl
theorem qqx (hu:X.A.units+64<cLine):OpR X (compareOp .In) (r2 X.K (b2 gInX)):=by
 intro pins s σ H x y u w Q I rx ry h
 obtain ⟨mu,S,d,e,r,S',r1,r2',hs,hm,hc⟩:=rn2 h
 have back:gIn d e S=some (r,S')->wpAny (model X.prog X.w) X.A (compareOp .In u w) (EP X pins σ Q) X.xe s:=fun hm=>o_in hu pins s σ H x y u w Q I rx ry ⟨mu,S,[d,e],r,S',.cons r1 (.cons r2' .nil),hs,hm,hc⟩
 unfold gInX at hm
 split at hm
 ·rename_i n
  split at hm
  ·rename_i kvs en
   obtain ⟨k,ek,hm⟩:=oM1.mp hm
   cases hm
   cases r2' with
   | ref hn=>
    cases ry
    obtain ⟨o,g,_,_,hi⟩:=qfk hs hn en (qdI r1 ek)
    exact d_in (by lia) I g rx fun s' I'=>⟨.bl o.isSome,H,I',rfl,by rw [hi];exact hc.now (.bl _) hs⟩
  ·exact back hm
 ·exact back hm
theorem qkC (hu:X.A.units+64<cLine):OpR X (compareOp .NotIn) (r2 X.K (b2 qcj)):=by
 intro pins s σ H x y u w Q I rx ry h
 obtain ⟨mu,S,d,e,r,S',r1,r2',hs,hm,hc⟩:=rn2 h
 have back:qdT d e S=some (r,S')->wpAny (model X.prog X.w) X.A (compareOp .NotIn u w) (EP X pins σ Q) X.xe s:=fun hm=>qmM hu pins s σ H x y u w Q I rx ry ⟨mu,S,[d,e],r,S',.cons r1 (.cons r2' .nil),hs,hm,hc⟩
 unfold qcj at hm
 split at hm
 ·rename_i n
  split at hm
  ·rename_i kvs en
   obtain ⟨k,ek,hm⟩:=oM1.mp hm
   cases hm
   cases r2' with
   | ref hn=>
    cases ry
    obtain ⟨o,g,_,_,hi⟩:=qfk hs hn en (qdI r1 ek)
    exact qnn (by lia) I g rx fun s' I'=>⟨.bl (!o.isSome),H,I',rfl,by rw [hi];exact hc.now (.bl _) hs⟩
  ·exact back hm
 ·exact back hm
theorem qp3 (hu:X.A.units+64<cLine):IxR X (r2 X.K (b2 gIxX)):=by
 intro value slice pins s σ H x y v u Q I rx ry h hs2
 obtain ⟨mu,S,d,e,r,S',r1,r2',hs,hm,hc⟩:=rn2 h
 have back:gIx d e S=some (r,S')->wpAny (model X.prog X.w) X.A (subscriptTail value slice v u) (EP X pins σ Q) X.xe s:=fun hm=>x_ix value slice pins s σ H x y v u Q I rx ry ⟨mu,S,[d,e],r,S',.cons r1 (.cons r2' .nil),hs,hm,hc⟩ hs2
 unfold gIxX at hm
 split at hm
 ·rename_i n
  split at hm
  ·rename_i kvs en
   obtain ⟨k,ek,hm⟩:=oB1.mp hm
   obtain ⟨z,ez,hm⟩:=oM1.mp hm
   cases hm
   cases r1 with
   | @ref _ a hn=>
    cases rx
    obtain ⟨o,g,h1,_,_⟩:=qfk hs hn en (qdI r2' ek)
    obtain ⟨v',ev,rv⟩:=h1 _ ez
    subst ev
    have hT:=qgZ I g
    unfold subscriptTail
    refine wB1 ?_
    rw [getitemInPython_of_ne hT.not_modules]
    refine wB1 (wpAny_specialOf hT PySem.F.slot_dict_getitem.lookup ?_)
    have fin:wpAny (model X.prog X.w) X.A (subscripted slice false (.ref a) u) (fun r s₃=>wpAny (model X.prog X.w) X.A (letTemporaryGo value (.ref a) r >>= fun _=>pure r) (EP X pins σ Q) X.xe s₃) X.xe s:=by
     rw [hs2]
     exact wpAny_operating (wpAny_mono (qjB (by lia) I g ry fun w' s3 I3 rw'=>(⟨v',H,I3,rw',hc.now rv hs⟩:EP X pins σ Q w' s3)) (fun r s₃ h₃=>wB1 (wpAny_letTemporaryGo (wP1 h₃))) fun _ _ x=>x)
    first
     | exact wP1 (wB1 fin)
     | exact wB1 fin
     | exact fin
  ·exact back hm
 ·exact back hm
theorem qn7 (hu:X.A.units+64<cLine):PSet X (rU X.K (b3 qeD)):=by
 intro pins s σ H o i v ov iv u Q I ro ri rv h
 obtain ⟨mu,S,ds,d,S',hr,hs,hm,hc⟩:=id h
 cases hr with
 | cons q1 t1=>cases t1 with
  | cons q2 t2=>cases t2 with
   | cons q3 t3=>
    cases t3
    rename_i d1 d2 d3
    dsimp only [b3] at hm
    have back:qep d1 d2 d3 S=some (d,S')->wpAny (model X.prog X.w) X.A (setItem ov iv u) (fun _ s'=>∃ H',Inv X pins σ H' s'/\Q H') X.xe s:=fun hm=>qqj pins s σ H o i v ov iv u Q I ro ri rv ⟨mu,S,[d1,d2,d3],d,S',.cons q1 (.cons q2 (.cons q3 .nil)),hs,hm,hc⟩
    unfold qeD at hm
    split at hm
    ·rename_i n
     split at hm
     ·rename_i kvs en
      obtain ⟨k,ek,hm⟩:=oB1.mp hm
      split at hm
      ·rename_i hl
       cases hm
       cases q1 with
       | ref hn=>
        cases ro
        obtain ⟨ws,hw,hk⟩:=hs.dct en hn
        have ey:=qdI q2 ek
        subst ey
        refine qjA (by lia) I (DPut.k hw (by rw [<- hk.length];exact hl)) ri rv fun s' I'=>⟨_,I',?_⟩
        have put:Ext mu mu H (upd H _ (.dK (putK ws k v))):=Ext.put hw trivial (gM1 hn)
        exact hc _ mu put (hs.put hn hw trivial ⟨_,qat,(hk.put q3).ext put⟩)
      ·cases hm
     ·exact back hm
    ·exact back hm
noncomputable def gIsX:G2:=fun d e S=>match e with
 | .non=>some (.bl (isNon d),S)
 | .bl b=>match d with
  | .bl c=>some (.bl (c == b),S)
  | _=>none
 | _=>none
noncomputable def qgW:G2:=fun d e S=>match e with
 | .non=>some (.bl (!isNon d),S)
 | .bl b=>match d with
  | .bl c=>some (.bl (!(c == b)),S)
  | _=>none
 | _=>none
theorem qoJ:OpR X (compareOp .Is) (r2 X.K (b2 gIsX)):=by
 intro pins s σ H x y u w Q I rx ry h
 obtain ⟨mu,S,d,e,r,S',r1,r2',hs,hm,hc⟩:=rn2 h
 cases e with
 | non=>exact qqw pins s σ H x y u w Q I rx ry ⟨mu,S,[d,.non],r,S',.cons r1 (.cons r2' .nil),hs,hm,hc⟩
 | bl b=>
  cases d with
  | bl c=>
   cases hm;cases r1;cases r2';cases rx;cases ry
   exact is_bool ⟨.bl (c == b),H,I,rfl,hc.now (.bl _) hs⟩
  | _=>cases hm
 | _=>cases hm
theorem qkD:OpR X (compareOp .IsNot) (r2 X.K (b2 qgW)):=by
 intro pins s σ H x y u w Q I rx ry h
 obtain ⟨mu,S,d,e,r,S',r1,r2',hs,hm,hc⟩:=rn2 h
 cases e with
 | non=>exact qoI pins s σ H x y u w Q I rx ry ⟨mu,S,[d,.non],r,S',.cons r1 (.cons r2' .nil),hs,hm,hc⟩
 | bl b=>
  cases d with
  | bl c=>
   cases hm;cases r1;cases r2';cases rx;cases ry
   exact isnot_bool ⟨.bl (!(c == b)),H,I,rfl,hc.now (.bl _) hs⟩
  | _=>cases hm
 | _=>cases hm
noncomputable def qgN:FE:=fun _ S=>some (.ref S.length,S++[.dct []])
theorem qeW {pos:Pos}:XE X (.Dict [] [] pos) qgN:=⟨qbj qku <| by
 rintro σ H Q ⟨r,mu,S,d,S',he,hs,hm,hc⟩ p hp
 cases hm
 exact hc _ _ (mu++[p]) (Ext.new_ hp) (.ref (qce hs.len p)) (hs.new hp ⟨[],qat,.nil⟩)⟩
noncomputable def mPrs:List (FE×FE)->Ev->Sto->Option (List (D×D)×Sto)
 | [],_,S=>some ([],S)
 | (a,b)::l,r,S=>(a r S).bind fun p=>(b r p.2).bind fun q=>(mPrs l r q.2).map fun t=>((p.1,q.1)::t.1,t.2)
noncomputable def qnb:List (D×D)->Option (List (Key×D))
 | []=>some []
 | (k,d)::l=>(keyD k).bind fun k=>(qnb l).map fun t=>(k,d)::t
noncomputable def qpd (l:List (FE×FE)):FE:=fun r S=>(mPrs l r S).bind fun p=>(qnb p.1).bind fun kvs=>if kvs.length<=15 then some (.ref p.2.length,p.2++[.dct (kvs.foldl (fun acc kv=>putD acc kv.1 kv.2) [])]) else none
structure XP (X:Cx)(pos:Pos)(ks:List (Option Expr))(vs:List Expr)(l:List (FE×FE)):Prop where
 h:PPs X pos ks vs (l.map fun p=>(tM X.K p.1,tM X.K p.2))
theorem qlZ {pos:Pos}:XP X pos [] [] []:=⟨qms⟩
theorem qj0 {pos:Pos}{k v:Expr}{ks:List (Option Expr)}{vs:List Expr}{a b:FE}{l:List (FE×FE)}(hk:XE X k a)(hv:XE X v b)(t:XP X pos ks vs l):XP X pos (some k::ks) (v::vs) ((a,b)::l):=⟨qkl hk.h hv.h t.h⟩
theorem qlA {K:Fg1}{σ:L2.St}:∀ {l:List (FE×FE)} {r:Ev} {mu:List Addr} {H:Hp} {S S':Sto} {ps:List (D×D)} {Q:List (V×V)->Hp->Prop},EnvR K H mu r σ->Sim K H mu S->mPrs l r S=some (ps,S') ->
  (∀ vs H' mu',Ext mu mu' H H'->Paired (fun (p:D×D) (q:V×V)=>Rep K H' mu' p.1 q.1/\Rep K H' mu' p.2 q.2) ps vs->Sim K H' mu' S'->Q vs H')->qha (l.map fun p=>(tM K p.1,tM K p.2)) σ H Q
 | [],r,mu,H,S,S',ps,Q,he,hs,hm,hc=>by cases hm;exact hc [] H mu (.refl _ _) .nil hs
 | (a,b)::l,r,mu,H,S,S',ps,Q,he,hs,hm,hc=>by
  obtain ⟨⟨d,S1⟩,e1,hm⟩:=oB1.mp hm
  obtain ⟨⟨d2,S2⟩,e2,hm⟩:=oB1.mp hm
  obtain ⟨⟨t,S3⟩,e3,hm⟩:=oM1.mp hm
  cases hm
  refine ⟨r,mu,S,d,S1,he,hs,e1,fun v H1 mu1 x1 r1 s1=>⟨r,mu1,S1,d2,S2,he.ext x1,s1,e2,fun v2 H2 mu2 x2 r2 s2=>?_⟩⟩
  refine qlA ((he.ext x1).ext x2) s2 e3 fun vs H3 mu3 x3 q3 s3=>hc _ H3 mu3 ((x1.trans x2).trans x3) (.cons ⟨(r1.ext x2).ext x3,r2.ext x3⟩ q3) s3
theorem qk2 {K:Fg1}{H:Hp}{mu:List Addr}:∀ {ps:List (D×D)} {vs:List (V×V)} {kvs:List (Key×D)},Paired (fun (p:D×D) (q:V×V)=>Rep K H mu p.1 q.1/\Rep K H mu p.2 q.2) ps vs->qnb ps=some kvs ->
  ∃ ws:List (Key×V),vs=ws.map (fun kv=>(kV kv.1,kv.2))/\KR K H mu kvs ws:=by
 intro ps vs kvs h0 h
 induction h0 generalizing kvs with
 | nil=>cases h;exact ⟨[],rfl,.nil⟩
 | @cons a b ps vs q t ih=>
  obtain ⟨k,d⟩:=a
  obtain ⟨v1,v2⟩:=b
  obtain ⟨kk,ek,h⟩:=oB1.mp h
  obtain ⟨rest,er,h⟩:=oM1.mp h
  cases h
  obtain ⟨ws,e,r⟩:=ih er
  have:=qdI q.1 ek
  dsimp only at this
  subst this
  exact ⟨(kk,v2)::ws,by rw [mP1,<- e],.cons ⟨rfl,q.2⟩ r⟩
theorem qkP {K:Fg1}{H:Hp}{mu:List Addr}:∀ {kvs:List (Key×D)} {ws:List (Key×V)} {acc:List (Key×D)} {acw:List (Key×V)},KR K H mu kvs ws->KR K H mu acc acw->KR K H mu (kvs.foldl (fun acc kv=>putD acc kv.1 kv.2) acc) (qdn acw ws):=by
 intro kvs ws acc acw h0 h
 induction h0 generalizing acc acw with
 | nil=>exact h
 | @cons a b kvs ws r t ih=>
  obtain ⟨k,d⟩:=a
  obtain ⟨k2,v⟩:=b
  obtain ⟨e,r⟩:=r
  dsimp only at e r
  subst e
  show KR K H mu (kvs.foldl _ (putD acc k d)) (qdn (putK acw k v) ws)
  exact ih (h.put r)
theorem qj3 {pos:Pos}{ks:List (Option Expr)}{vs:List Expr}{l:List (FE×FE)}(h:XP X pos ks vs l)(hall:ks.all (·.isSome)=true:=by rfl)(hl:ks.length=vs.length:=by rfl)(h0:ks≠[]:=by (intro z;cases z))(h15:ks.length<=15:=by decide):XE X (.Dict ks vs pos) (qpd l):=
 ⟨qbj (qmC h.h hall hl h0 h15) <| by
  rintro σ H Q ⟨r,mu,S,d,S',he,hs,hm,hc⟩ p hp
  obtain ⟨⟨ps,S1⟩,e1,hm⟩:=oB1.mp hm
  obtain ⟨kvs,e2,hm⟩:=oB1.mp hm
  dsimp only at hm
  split at hm
  ·rename_i hlen
   cases hm
   have fr:Ext mu mu H (upd H p (.dK [])):=Ext.fresh hp
   refine qlA (he.ext fr) (hs.fresh hp) e1 fun vs H1 mu1 x1 q1 s1=>?_
   obtain ⟨hp1,hn1⟩:=x1.held (a:=p) (o:=.dK []) qat (hs.notin hp)
   obtain ⟨ws,ew,rk⟩:=qk2 q1 e2
   refine ⟨hp1,ws,ew,by rw [<- rk.length];exact hlen,?_⟩
   have put:Ext (p::mu1) (p::mu1) H1 (upd H1 p (.dK (qdn [] ws))):=Ext.put hp1 trivial mS1
   have s2:=s1.aside put.inner hn1
   have y:Ext mu (mu1++[p]) H (upd H1 p (.dK (qdn [] ws))):=by
    refine ⟨x1.pre.trans (List.prefix_append _ _),fun b o e n=>?_,fun b ys e=>put.tup b ys (x1.tup b ys (fr.tup b ys e)),fun b o u e=>put.frz b o u (x1.frz b o u (fr.frz b o u e)),fun b hb'=>?_⟩
    ·have nb:b≠p:=qav e hp
     rw [qar nb]
     exact x1.old b o (by rw [qar nb];exact e) n
    ·rcases List.mem_append.mp hb' with z | z
     ·rcases x1.new b z with q | q
      ·exact .inl q
      ·by_cases hbp:b=p
       ·exact .inr (by rw [hbp];exact hp)
       ·rw [qar hbp] at q;exact .inr q
     ·have:b=p:=by simpa using z
      exact .inr (by rw [this];exact hp)
   have rk2:=qkP rk (acc:=[]) (acw:=[]) .nil
   refine hc _ _ (mu1++[p]) y (.ref (qce s1.len p)) ⟨by rw [lA1,lA1,s1.len];rfl,?_,fun n o b h1 h2=>?_⟩
   ·rw [List.nodup_append]
    refine ⟨s1.nd,by simp,fun b hb c hc e=>?_⟩
    have:c=p:=by simpa using hc
    subst this;subst e
    exact hn1 hb
   ·by_cases hk:n<S1.length
    ·rw [gL1 hk] at h1
     rw [gL1 (by rw [s1.len];exact hk)] at h2
     exact (s2.ob n o b h1 h2).mor [p]
    ·have hk':n=S1.length:=by
      have:=(gE1.mp h1).1
      rw [lA1] at this
      simp at this
      lia
     subst hk'
     rw [gR1 (nR1 _)] at h1
     rw [<- s1.len,gR1 (nR1 _)] at h2
     simp at h1 h2
     subst h1;subst h2
     exact ⟨_,qat,KR.mor [p] (Paired.mapP rk2 fun _ _ z=>⟨z.1,z.2.exw put.inner⟩)⟩
  ·cases hm⟩
theorem qpr {K:Fg1}{H:Hp}{mu:List Addr}{S:Sto}(hs:Sim K H mu S){n:Nat}{a:Addr}{kvs:List (Key×D)}(hn:mu[n]? = some a)(he:S[n]? = some (.dct kvs)):IsD H a:=by
 obtain ⟨ws,hw,_⟩:=hs.dct he hn
 exact .inl ⟨ws,.inl hw⟩
end
section
variable {X:Cx}
end
section
variable {K:Fg1} {H H':Hp} {mu mu':List Addr} {S:Sto}
end
theorem qeT {X:Cx}(i j:Nat){x y:Str}{a b:Expr}{m:FA}{px py pt pos:Pos}{kt k2 pt2}(hc:X.calm=true)(hN:X.N.Nodup)(hi:X.N[i]? = some x)(hj:X.N[j]? = some y)(hij:i≠j)
  (hx:X.env.scope.names.lookup x=some .local) (hy:X.env.scope.names.lookup y=some .local) (ha:XA X [a,b] m)
  (hw:swappedStores [.Tuple [.Name x px,.Name y py] kt pt] (.Tuple [a,b] k2 pt2) X.env=pure (some [x,y]):=by rfl)
  (hs:swapsWithSole [.Tuple [.Name x px,.Name y py] kt pt] (.Tuple [a,b] k2 pt2) pos.line X.env=pure false:=by rfl):
  XS X (.Assign [.Tuple [.Name x px,.Name y py] kt pt] (.Tuple [a,b] k2 pt2) pos) (mAsg (mTup m) (gT 2 (gCs (gN i) (gCs (gN j) gNl)))):=
 ⟨qdj (qok hc hN hi hj hij hx hy ha.h hw hs) <| by
  rintro E σ H ⟨r,mu,S,f,r',S',he,hs,hm,hc⟩
  obtain ⟨⟨d,S1⟩,e1,hm⟩:=oB1.mp hm
  obtain ⟨⟨r2,S2⟩,e2,hm⟩:=oB1.mp hm
  cases hm
  obtain ⟨⟨ds,S3⟩,e3,e1⟩:=oB1.mp e1
  dsimp only at e1
  split at e1
  ·cases e1
   refine ⟨r,mu,S,ds,_,he,hs,e3,fun vs H1 mu1 x1 r1 s1=>?_⟩
   dsimp only at e2
   rw [gT] at e2
   split at e2
   ·cases r1 with
    | nil=>cases e2
    | cons q1 r1=>cases r1 with
     | nil=>cases e2
     | cons q2 r1=>cases r1 with
      | nil=>
       cases e2
       exact ⟨_,_,rfl,hc _ H1 mu1 x1 (((he.ext x1).set q1).set q2) s1⟩
      | cons _ _=>cases e2
   ·cases e2
  ·cases e1⟩
theorem qma (ks vs pos rest env):starEach (.Dict ks vs pos::rest) env=(false,eval (.Dict ks vs pos) env)::starEach rest env:=rfl
end Mi
end
section
namespace HT
open PySem PySem.Spec PyProof.Rows
variable {prog:Program} {w:World} {A:Around} {E:Value->Shared->Prop} {s:Shared}
theorem qc6 {t sl:Addr}{items:Array Value}{vl vu:Value}{lo hi:Option Int}{Q:Value->Shared->Prop}(ht:IsTup s.heap t items)(hs:s.heap.IsSliceOf sl vl vu .none)(pl:IsPart vl lo)(pu:IsPart vu hi)
  (hw:sIx items.size 0 lo=0/\sIx items.size items.size hi=items.size) (h:Q (.ref t) s):wpAny (model prog w) A (getItem (.ref t) (.ref sl)) Q E s:=by
 obtain ⟨os,hos,hcs,hds⟩:=id hs
 have hTs:s.TypeIs (.ref sl) "slice":=⟨os,hos,hcs⟩
 unfold getItem
 try with_reducible refine wpAny_holding ?_
 first | refine wB1 (wP1 ?_) | skip
 refine wB1 (wpAny_sequenceKey ht.typeIs (by decide) ?_)
 refine wB1 (wpAny_callSpecial?_slot (name:=Str.ofString "__getitem__") ht.typeIs PyProof.Rows.slot_tuple_getitem
  (wE1 PyProof.Rows.slot_tuple_getitem ht.typeIs entry_tuple_getitem ?_ (args_tuple_getitem _ _)))
 show wpAny _ _ (Builtin.Tuple.tupleItemsOf (.ref t) >>= _) _ _ s
 refine wB1 (tupleItemsOf_ ht ?_)
 refine wB1 (wpAny_typeOf hTs ?_)
 rw [if_pos (by decide)]
 refine wB1 (qcp hs pl pu ?_)
 have hyes:((((sIx items.size 0 lo:Nat):Int) == 0&&(1:Int) == 1&&(sIx items.size items.size hi-sIx items.size 0 lo) == items.size)=true):=by
  rw [hw.1,hw.2];simp
 show wpAny _ _ (if (((sIx items.size 0 lo:Nat):Int) == 0&&(1:Int) == 1&&(sIx items.size items.size hi-sIx items.size 0 lo) == items.size)=true then _ else _) _ _ s
 rw [if_pos hyes]
 refine wB1 ?_
 unfold Builtin.Tuple.tupleIsExact
 refine wB1 (wpAny_typeOf ht.typeIs (wP1 ?_))
 rw [if_pos (by decide)]
 first
  | exact wB1 (wpAny_rule (wP1 ⟨_,rfl,wP1 h⟩))
  | exact wB1 (wpAny_rule (wB1 (wP1 ⟨_,rfl,wP1 h⟩)))
end HT
namespace Mi
open PySem PySem.Spec PyProof.Rows L2
noncomputable def rSlW (K:Fg1):V->Option Int->Option Int->Hp->VK->Prop:=fun x lo hi H Q=>∃ a xs,x = .ref a/\SqT K H a xs/\(HT.sIx xs.length 0 lo=0/\HT.sIx xs.length xs.length hi=xs.length)/\Q (.ref a) H
section
variable {X:Cx}
theorem qmf:SlR X (rSlW X.K):=by
 intro pins s σ H x v vl vu lo hi sl Q I rx hs pl pu h
 obtain ⟨a,xs,rfl,hx,hw,q⟩:=h
 cases rx
 obtain ⟨its,r,ht,hz⟩:=I.tuple hx
 have hlen:its.toArray.size=xs.length:=by rw [sT1];exact r.length.symm
 refine ⟨"tuple",_,PyProof.Rows.slot_tuple_getitem.lookup,ht.typeIs,?_⟩
 exact HT.qc6 ht hs pl pu (by rw [hlen];exact hw) ⟨.ref a,H,I,rfl,q⟩
noncomputable def qlw (S:Sto)(d:D)(lo hi:Option Int):Option (D×Sto):=(qaz S d).map fun p=>if p.1=true then (.ref S.length,S++[.lst (Mi.cutD p.2 lo hi)]) else (.tup (Mi.cutD p.2 lo hi),S)
noncomputable def mSlX (m:FE)(lo hi:FO):FE:=fun r S=>(m r S).bind fun p=>(lo r p.2).bind fun a=>(hi r a.2).bind fun b=>qlw b.2 p.1 a.1 b.1
theorem qjC {xs:List D}{lo hi:Option Int}(h:HT.sIx xs.length 0 lo=0/\HT.sIx xs.length xs.length hi=xs.length):Mi.cutD xs lo hi=xs:=by
 unfold Mi.cutD
 rw [h.1,h.2,List.drop_zero,Nat.sub_zero,List.take_length]
theorem qdw {e:Expr}{lo hi:Option Expr}{m:FE}{a b:FO}{pos p2:Pos}(h:XE X e m)(hl:XO X lo a)(hh:XO X hi b):XE X (.Subscript e (.Slice lo hi none p2) pos) (mSlX m a b):=
 ⟨qbj (qks (SlR.or qmf (SlR.or qn1 qmg)) h.h hl.h hh.h) <| by
  rintro σ H Q ⟨r,mu,S,d,S',he,hs,hm,hc⟩
  obtain ⟨⟨d1,S1⟩,e1,hm⟩:=oB1.mp hm
  obtain ⟨⟨o1,S2⟩,e2,hm⟩:=oB1.mp hm
  obtain ⟨⟨o2,S3⟩,e3,hm⟩:=oB1.mp hm
  refine ⟨r,mu,S,d1,S1,he,hs,e1,fun v H1 mu1 x1 r1 s1=>?_⟩
  refine ⟨r,mu1,S1,o1,S2,he.ext x1,s1,e2,fun H2 mu2 x2 s2=>?_⟩
  refine ⟨r,mu2,S2,o2,S3,(he.ext x1).ext x2,s2,e3,fun H3 mu3 x3 s3=>?_⟩
  obtain ⟨⟨k,xs⟩,e4,hm⟩:=oM1.mp hm
  have xx:=(x1.trans x2).trans x3
  obtain ⟨c,vs,rfl,q,t⟩:=qap ((r1.ext x2).ext x3) s3 e4
  cases k with
  | true=>
   cases hm
   right;right
   exact ⟨c,vs,rfl,q,fun p hp=>hc _ _ (mu3++[p]) (xx.trans (Ext.new_ hp)) (.ref (qce s3.len p)) (s3.newL (qjD t o1 o2) hp)⟩
  | false=>
   simp only [bF1,if_false] at hm
   cases hm
   by_cases hw:HT.sIx xs.length 0 o1=0/\HT.sIx xs.length xs.length o2=xs.length
   ·left
    rw [qjC hw] at hc
    exact ⟨c,vs,rfl,q,by rw [<- t.length];exact hw,hc _ _ mu3 xx (.tup q t) s3⟩
   ·right;left
    exact ⟨c,vs,rfl,q,by rw [<- t.length];exact hw,fun p hp=>hc _ _ mu3 (xx.trans (Ext.fresh hp)) (.tup (SqT.of qat) ((qjD t o1 o2).ext (Ext.fresh hp))) (s3.fresh hp)⟩⟩
end
mutual
inductive IsTK (h:Heap):TK->Value->Prop
 | non:IsTK h .non .none
 | int (i t):IsTK h (.int i) (.int i t)
 | tup {a o items n xs}:h.get? a=some o->o.cls = .type "tuple"->o.data = .seq items n->qdt h xs items.toList->IsTK h (.tup xs) (.ref a)
inductive qdt (h:Heap):List TK->List Value->Prop
 | nil:qdt h [] []
 | cons {k v ks vs}:IsTK h k v->qdt h ks vs->qdt h (k::ks) (v::vs)
end
section
variable {prog:Program} {w:World} {A:Around} {E:Value->Shared->Prop} {s:Shared}
theorem qgv {Q:Int->Shared->Prop}(h:Q 0xFCA86420 {s with toks:=s.toks+1}):wpAny (model prog w) A (pyHash .none) Q E s:=by
 have hT:s.TypeIs .none "NoneType":=rfl
 unfold pyHash
 first | unfold pyHashByItsType | skip
 have hv:[Value.none].any Value.onHeap=false:=rfl
 refine wB1 ?_
 rw [cRoomFor,if_neg (by rw [hv];exact Bool.false_ne_true)];refine wP1 ?_
 refine wB1 (wpAny_specialOf hT F.slot_NoneType_hash.lookup ?_)
 show wpAny _ _ (if (some (Value.builtin "NoneType.__hash__") == some Value.none)=true then _ else _) Q E s
 rw [if_neg (by rw [beq_builtin_none];exact Bool.false_ne_true)]
 refine wB1 (wpAny_specialOf hT F.slot_NoneType_hash.lookup ?_)
 show wpAny _ _ (callSpecialIfBoundUnlessNone? .none "__hash__" _ >>= _) Q E s
 refine wB1 (wpAny_callSpecialIfBoundUnlessNone?_slot hT F.slot_NoneType_hash (wE1 F.slot_NoneType_hash hT F.entry_NoneType_hash (show wpAny _ _ (retInt 0xFCA86420) _ _ s from wpAny_ret_mkInt ?_) (F.args_NoneType_hash_1 _)))
 exact wP1 h
noncomputable def qhS (prog:Program)(w:World)(k:TK):Prop:=∀ {A:Around} {E:Value->Shared->Prop} {s:Shared} {v:Value} {Q:Int->Shared->Prop},A.units+k.dep<cLine->IsTK s.heap k v->Q k.hash {s with toks:=s.toks+k.draws}->wpAny (model prog w) A (pyHash v) Q E s
theorem qdt.split {h:Heap}:∀ {ks:List TK} {vs:List Value},qdt h ks vs->ks.length=vs.length:=fun h0=>h0.rec (motive_1:=fun _ _ _=>True) (motive_2:=fun ks vs _=>ks.length=vs.length) trivial (fun _ _=>trivial) (fun _ _ _ _ _=>trivial) rfl (fun _ _ _ ih=>congrArg (· + 1) ih)
theorem qk6 {xs:List TK}(all:∀ k∈xs,qhS prog w k):qhS prog w (.tup xs):=by
 intro A E s v Q hu hk h
 cases hk with
 | @tup a o items n _ ho hc hd hi=>
  have hT:s.TypeIs (.ref a) "tuple":=⟨o,ho,hc⟩
  rw [TK.dep] at hu
  unfold pyHash
  first | unfold pyHashByItsType | skip
  first | refine wB1 (wpAny_cRoomFor_or (.inr (by lia)) ?_) | skip
  refine wB1 (wpAny_specialOf hT F.slot_tuple_hash.lookup ?_)
  show wpAny _ _ (if (some (Value.builtin "tuple.__hash__") == some Value.none)=true then _ else _) Q E s
  rw [if_neg (by rw [beq_builtin_none];exact Bool.false_ne_true)]
  refine wB1 (wpAny_specialOf hT F.slot_tuple_hash.lookup ?_)
  show wpAny _ _ (callSpecialIfBoundUnlessNone? (.ref a) "__hash__" _ >>= _) Q E s
  refine wB1 (wpAny_callSpecialIfBoundUnlessNone?_slot hT F.slot_tuple_hash (wE1 F.slot_tuple_hash hT F.entry_tuple_hash ?_ (F.args_tuple_hash_1 _)))
  show wpAny _ _ (Builtin.Tuple.tupleItemsOf (.ref a) >>= _) _ _ s
  refine wB1 (wpAny_tupleItemsOf ho hd ?_)
  refine wB1 ?_
  rw [<- Array.forIn_toList]
  refine wpAny_forIn_list _
   (fun rest (b:Array Int) s'=>∃ done left,xs=done++left/\qdt s.heap left rest/\b.toList=TK.hashes done/\s'={s with toks:=s.toks+TK.drawsAll done})
   _ ?_ ?_ _ _ ⟨[],xs,rfl,hi,rfl,rfl⟩
  ·rintro x rest b s' ⟨done,left,e,hl,hb,rfl⟩
   cases hl with
   | @cons k _ ks' _ h1 hl'=>
    have hm:k∈xs:=by rw [e];simp
    refine wB1 (all k hm (show A.in1.units+k.dep<cLine by have:=TK.dep_mem hm;rw [show A.in1.units=A.units+1 from rfl];lia) h1 ?_)
    first
     | exact wP1 ⟨done++[k],ks',by simp [e],hl',by rw [TK.hashes_app];simp [hb,TK.hashes],by rw [TK.draws_app];simp [TK.drawsAll,Nat.add_assoc]⟩
     | exact wB1 (wP1 (wP1 ⟨done++[k],ks',by simp [e],hl',by rw [TK.hashes_app];simp [hb,TK.hashes],by rw [TK.draws_app];simp [TK.drawsAll,Nat.add_assoc]⟩))
  ·rintro b s' ⟨done,left,e,hl,hb,rfl⟩
   cases hl
   rw [List.append_nil] at e
   subst e
   show wpAny _ _ (retInt (Builtin.Tuple.tupleHashOf b.toList)) _ _ _
   rw [hb]
   refine wpAny_ret_mkInt ?_
   show wpAny _ _ (if (decide (-(2:Int)^63<=Builtin.Tuple.tupleHashOf (TK.hashes xs))&&decide (Builtin.Tuple.tupleHashOf (TK.hashes xs)<2^63))=true then _ else _) Q E _
   rw [TK.hash,TK.draws] at h
   unfold reduceHash at h
   by_cases hr:(decide (-(2:Int)^63<=Builtin.Tuple.tupleHashOf (TK.hashes xs))&&decide (Builtin.Tuple.tupleHashOf (TK.hashes xs)<2^63))=true
   ·rw [if_pos hr]
    rw [if_pos hr] at h
    exact wP1 (by simpa [Nat.add_assoc] using h)
   ·rw [if_neg hr]
    rw [if_neg hr] at h
    exact wB1 (wpAny_rule (wP1 (by simpa [Nat.add_assoc] using h)))
mutual
theorem qjg:∀ k:TK,qhS prog w k
 | .non=>fun hu hk h=>by cases hk;exact qgv h
 | .int i=>fun hu hk h=>by cases hk;exact wpAny_pyHash_int h
 | .tup xs=>qk6 (qhv xs)
theorem qhv:∀ ks:List TK,∀ k∈ks,qhS prog w k
 | [],k,h=>by simp at h
 | x::xs,k,h=>by
  by_cases e:k=x
  ·rw [e];exact qjg x
  ·exact qhv xs k ((List.mem_cons.mp h).resolve_left e)
end
end
theorem IsTK.inj {h:Heap}:∀ {k k':TK} {v:Value},IsTK h k v->IsTK h k' v->k=k':=fun h0=>h0.rec (motive_1:=fun k v _=>∀ k',IsTK h k' v->k=k') (motive_2:=fun k v _=>∀ k',qdt h k' v->k=k')
  (fun k' g=>by cases g;rfl) (fun _ _ k' g=>by cases g;rfl)
  (fun e1 c1 d1 t1 ih k' g=>by
   cases g with
   | tup e2 c2 d2 t2=>
    rw [e1] at e2;cases e2
    rw [d1] at d2;cases d2
    rw [ih _ t2])
  (fun k' g=>by cases g;rfl) (fun _ _ a b k' g=>by cases g with | cons r' t'=>rw [a _ r',b _ t']) _
theorem IsTK.keeps {h h':Heap}{d:Addr}{o:Obj}{es ep}(ho:h.get? d=some o)(hd:o.data = .dict es ep)(hs:Heap.SameBut d h h'):∀ {k:TK} {v:Value},IsTK h k v->IsTK h' k v:=fun h0=>h0.rec (motive_1:=fun k v _=>IsTK h' k v) (motive_2:=fun k v _=>qdt h' k v) .non .int
  (fun {a} _ _ _ _ e1 c1 d1 _ ih=>.tup ((hs.2 a (fun z=>by subst z;rw [e1] at ho;cases ho;rw [d1] at hd;cases hd)).trans e1) c1 d1 ih) .nil (fun _ _ a b=>.cons a b)
theorem qdt.at {h:Heap}:∀ {ks:List TK} {vs:List Value} (j:Nat) (h1:j<ks.length) (h2:j<vs.length),qdt h ks vs->IsTK h ks[j] vs[j]
 | _::_,_::_,0,_,_,.cons r _=>r
 | _::ks,_::vs,j+1,h1,h2,.cons _ t=>qdt.at j (by simpa using h1) (by simpa using h2) t
theorem qlj {xs ys:List TK}(hl:xs.length=ys.length):((List.range (min xs.length ys.length)).all fun j=>decide (xs[j]? = ys[j]?))=decide (xs=ys):=by
 by_cases h:xs=ys
 ·subst h
  simp
 ·rw [decide_eq_false h,List.all_eq_false]
  have:∃ j,xs[j]? ≠ ys[j]?:=Classical.byContradiction fun z=>h (List.ext_getElem? fun j=>Classical.byContradiction fun q=>z ⟨j,q⟩)
  obtain ⟨j,hj⟩:=this
  refine ⟨j,?_,by simpa using hj⟩
  rw [List.mem_range,hl,Nat.min_self]
  apply Classical.byContradiction
  intro hn
  exact hj (by rw [List.getElem?_eq_none (by lia),List.getElem?_eq_none (by lia)])
theorem qqU:∀ (n:Nat) {k k':TK} {A:Around} {s:Shared} {u v:Value},k.dep<=n->A.units+n<cLine->IsTK s.heap k u->IsTK s.heap k' v->SeqAt.EqAt A s u v (decide (k=k')):=by
 intro n
 induction n with
 | zero=>
  intro k k' A s u v hd hu r r'
  cases r with
  | tup _ _ _ _=>simp [TK.dep] at hd
  | non=>
   cases r' with
   | non=>simpa using SeqAt.EqAt.same (A:=A) (s:=s) Value.none
   | int i t=>simpa [eqV] using qer (A:=A) (s:=s) (y:=.non) (x:=.int i) rfl ⟨t,rfl⟩ rfl rfl
   | tup e c d t=>simpa using (qaZ (A:=A) (s:=s) (b:=false) (v:=.non) (u:=.none) ⟨_,e,c,_,d⟩ rfl rfl (by lia)).2.1
  | int i t=>
   cases r' with
   | non=>simpa [eqV] using qer (A:=A) (s:=s) (y:=.int i) (x:=.non) ⟨t,rfl⟩ rfl rfl rfl
   | int j t'=>
    have:=qer (A:=A) (s:=s) (y:=.int i) (x:=.int j) ⟨t,rfl⟩ ⟨t',rfl⟩ rfl rfl
    have e:eqV (.int i) (.int j)=decide (TK.int i=TK.int j):=by
     by_cases h:i=j
     ·subst h;simp [eqV]
     ·rw [decide_eq_false (fun z=>h (by injection z))];simp [eqV,h]
    rw [e] at this;exact this
   | tup e c d q=>simpa using (qaZ (A:=A) (s:=s) (b:=false) (v:=.int i) (u:=.int i t) ⟨_,e,c,_,d⟩ ⟨t,rfl⟩ rfl (by lia)).2.1
 | succ n ih=>
  intro k k' A s u v hd hu r r'
  cases r with
  | non=>
   cases r' with
   | non=>simpa using SeqAt.EqAt.same (A:=A) (s:=s) Value.none
   | int i t=>simpa [eqV] using qer (A:=A) (s:=s) (y:=.non) (x:=.int i) rfl ⟨t,rfl⟩ rfl rfl
   | tup e c d t=>simpa using (qaZ (A:=A) (s:=s) (b:=false) (v:=.non) (u:=.none) ⟨_,e,c,_,d⟩ rfl rfl (by lia)).2.1
  | int i t=>
   cases r' with
   | non=>simpa [eqV] using qer (A:=A) (s:=s) (y:=.int i) (x:=.non) ⟨t,rfl⟩ rfl rfl rfl
   | int j t'=>
    have:=qer (A:=A) (s:=s) (y:=.int i) (x:=.int j) ⟨t,rfl⟩ ⟨t',rfl⟩ rfl rfl
    have e:eqV (.int i) (.int j)=decide (TK.int i=TK.int j):=by
     by_cases h:i=j
     ·subst h;simp [eqV]
     ·rw [decide_eq_false (fun z=>h (by injection z))];simp [eqV,h]
    rw [e] at this;exact this
   | tup e c d q=>simpa using (qaZ (A:=A) (s:=s) (b:=false) (v:=.int i) (u:=.int i t) ⟨_,e,c,_,d⟩ ⟨t,rfl⟩ rfl (by lia)).2.1
  | @tup a o items m xs e1 c1 d1 t1=>
   cases r' with
   | non=>simpa using (qaZ (A:=A) (s:=s) (b:=false) (v:=.non) (u:=.none) ⟨_,e1,c1,_,d1⟩ rfl rfl (by lia)).1
   | int i t=>simpa using (qaZ (A:=A) (s:=s) (b:=false) (v:=.int i) (u:=.int i t) ⟨_,e1,c1,_,d1⟩ ⟨t,rfl⟩ rfl (by lia)).1
   | @tup a2 o2 items2 m2 ys e2 c2 d2 t2=>
    by_cases ha:a=a2
    ·subst ha
     have:TK.tup xs=TK.tup ys:=IsTK.inj (.tup e1 c1 d1 t1) (.tup e2 c2 d2 t2)
     rw [decide_eq_true this]
     exact .same _
    ·refine .of_refs ha ?_
     have l1:=t1.split
     have l2:=t2.split
     have rc:=SeqAt.RcAt.tuples (A:=A) (s:=s) (e:=fun j=>decide (xs[j]? = ys[j]?)) ⟨o,e1,c1,m,d1⟩ ⟨o2,e2,c2,m2,d2⟩ (by lia) (fun j h1 h2=>by
      have g1:j<xs.length:=by rw [l1];simpa using h1
      have g2:j<ys.length:=by rw [l2];simpa using h2
      rw [TK.dep] at hd
      have hm:=TK.dep_mem (List.getElem_mem g1)
      have q:=ih (k:=xs[j]) (k':=ys[j]) (A:=A.in1) (s:=s) (by lia) (by show A.units+1+n<cLine;lia) (t1.at j g1 (by simpa using h1)) (t2.at j g2 (by simpa using h2))
      have e:decide (xs[j]? = ys[j]?)=decide (xs[j]=ys[j]):=by
       rw [gG1 g1,gG1 g2];simp
      rw [e]
      simpa using q)
     have z1:items.size=xs.length:=by rw [l1];simp
     have z2:items2.size=ys.length:=by rw [l2];simp
     rw [z1,z2] at rc
     have fin:((List.range (min xs.length ys.length)).all (fun j=>decide (xs[j]? = ys[j]?))&&xs.length == ys.length)=decide (TK.tup xs=TK.tup ys):=by
      by_cases hl:xs.length=ys.length
      ·rw [qlj hl,hl,beq_self_eq_true,Bool.and_true]
       by_cases h:xs=ys
       ·subst h;simp
       ·rw [decide_eq_false h,decide_eq_false (fun z=>h (by injection z))]
      ·have hb:(xs.length == ys.length)=false:=by simpa using hl
       rw [hb,Bool.and_false,decide_eq_false (fun z=>hl (by injection z with z;rw [z]))]
     rw [fin] at rc
     exact rc
theorem qkh {prog:Program}{w:World}:∀ (n:Nat) {k:TK} {A:Around} {E:Value->Shared->Prop} {s:Shared} {v:Value} {Q:Bool->Shared->Prop},k.dep<=n->IsTK s.heap k v->Q true s->wpAny (model prog w) A (eqIsQuiet n v) Q E s:=by
 intro n
 induction n with
 | zero=>
  intro k A E s v Q hd r h
  cases r with
  | non=>rw [eqIsQuiet_byValue 0 rfl];exact wP1 h
  | int i t=>rw [eqIsQuiet_byValue 0 rfl];exact wP1 h
  | tup _ _ _ _=>simp [TK.dep] at hd
 | succ n ih=>
  intro k A E s v Q hd r h
  cases r with
  | non=>rw [eqIsQuiet_byValue _ rfl];exact wP1 h
  | int i t=>rw [eqIsQuiet_byValue _ rfl];exact wP1 h
  | @tup a o items m xs e1 c1 d1 t1=>
   have hT:s.TypeIs (.ref a) "tuple":=⟨o,e1,c1⟩
   rw [TK.dep] at hd
   unfold eqIsQuiet
   refine wB1 (wpAny_specialOf hT F.slot_tuple_eq.lookup ?_)
   show wpAny _ _ (isInstance (.ref a) (.type "tuple") >>= _) _ _ s
   refine wB1 (wpAny_isInstance hT isSubtype_tuple_tuple ?_)
   simp only [Bool.not_true,bF1,if_false]
   refine wB1 (wpAny_seqItems e1 d1 ?_)
   refine wB1 ?_
   show wpAny _ _ (forIn items _ _) _ _ s
   rw [<- Array.forIn_toList]
   refine wpAny_forIn_list _ (fun rest r s'=>r.1=none/\s'=s /\ ∃ ks,qdt s.heap ks rest/\TK.depAll ks<=n) _ ?_ ?_ _ _ ⟨rfl,rfl,xs,t1,by lia⟩
   ·rintro v rest r s' ⟨hr,rfl,ks,hk,hn⟩
    cases hk with
    | @cons k1 _ ks1 _ q1 q2=>
     rw [TK.depAll] at hn
     refine wB1 (ih (k:=k1) (by lia) q1 ?_)
     simp only [Bool.not_true,bF1,if_false]
     exact wP1 ⟨rfl,rfl,ks1,q2,by lia⟩
   ·rintro ⟨r1,r2⟩ s' ⟨hr,rfl,_⟩
    simp only at hr
    subst hr
    exact wP1 h
noncomputable def qdd (prog:Program)(w:World):HeapKind prog w TK where
 is:=fun h k a=>IsTK h k (.ref a)/\k.dep<=8
 hash:=TK.hash
 draws:=TK.draws
 room:=fun A=>A.units+8<cLine
 inj:=fun hx hy=>hx.1.inj hy.1
 keeps:=fun x ho hd hs=>⟨x.1.keeps ho hd hs,x.2⟩
 pyHash:=fun hu hk h=>qjg _ (by have:=hk.2;omega) hk.1 h
 eqBool:=fun hu hx hy h=>qqU 8 hx.2 hu hx.1 hy.1 _ _ _ _ h
 quiet:=fun hk h=>qkh 8 hk.2 hk.1 h
noncomputable def gExt:G2:=fun o v S=>match o,v with
 | .ref n,.ref b=>match S[n]?,S[b]? with
  | some (.lst xs),some (.lst ys)=>if xs.length+ys.length<=sizeLine then some (.non,S.set n (.lst (xs++ys))) else none
  | _,_=>none
 | _,_=>none
noncomputable def insN (n:Nat)(k:Int):Nat:=if k<0 then (k+(n:Int)).toNat else min k.toNat n
noncomputable def gIns:G3:=fun o i v S=>match o,i with
 | .ref n,.int k=>match S[n]? with
  | some (.lst xs)=>if-(2^63)<=k/\k<2^63/\xs.length<sizeLine then some (.non,S.set n (.lst (xs.take (insN xs.length k)++v::xs.drop (insN xs.length k)))) else none
  | _=>none
 | _,_=>none
noncomputable def eqsL (f:D->D->Option Bool)(x:D):List D->Option (List Bool)
 | []=>some []
 | y::ys=>(f y x).bind fun b=>(eqsL f x ys).map (b :: ·)
noncomputable def gIdx:G2:=fun o x S=>match o with
 | .ref n=>match S[n]? with
  | some (.lst ys)=>(eqsL (eqN S qam) x ys).bind fun bs=>if bs.length<2^62 then (bs.findIdx? id).map fun j=>(.int (j:Nat),S) else none
  | _=>none
 | _=>none
theorem qjr (f:D->D->Option Bool)(x:D):∀ {ys:List D} {bs:List Bool},eqsL f x ys=some bs->bs.length=ys.length /\ ∀ (j:Nat) (y:D) (k:Bool),ys[j]? = some y->bs[j]? = some k->f y x=some k
 | [],bs,h=>by cases h;exact ⟨rfl,fun j y k h=>by simp at h⟩
 | y::ys,bs,h=>by
  rw [eqsL] at h
  obtain ⟨b,eb,h⟩:=oB1.mp h
  obtain ⟨bt,et,h⟩:=oM1.mp h
  obtain ⟨l1,a1⟩:=qjr f x et
  subst h
  refine ⟨by simp [l1],fun j=>?_⟩
  cases j with
  | zero=>intro y' k h1 h2;simp at h1 h2;subst h1;subst h2;exact eb
  | succ j=>intro y' k h1 h2;exact a1 j y' k (by simpa using h1) (by simpa using h2)
section
open PySem.MeetsSeq PySem.MeetsSeq2 PySem.MeetsSeq3 PySem.SeqRoads2
theorem qhu {l:Addr}{its:Array Value}{n:Nat}{x:Value}{e:Nat->Bool}{top:Int}{j:Nat}(hj:j<its.size)(ht:(j:Int)<top)(hit:e j=true):∀ (k i:Nat),i+k=j->(∀ m,i<=m->m<j->e m=false) ->
  Meets (Builtin.«list.index.loop» ⟨[.ref l,x,rawInt i,rawInt top],[]⟩)
   (fun A R s=>s.heap.get? l=some {cls:=.type "list",data:=.seq its n}/\(∀ m (h:m<its.size),SeqAt.EqAt A.in1 s its[m] x (e m))/\R (.ok (.ret (.int j s.toks))) {s with toks:=s.toks+1})
 | 0,i,hk,hno,prog,w,A,R,⟨hp,g,d,tk,os⟩,⟨hl,he,h⟩=>by
  have ei:i=j:=by lia
  subst ei
  wp_walk using AutoSeq1.wpAny_loadPart' hl
  rw [show (if (i:Int)<top then its[((i:Nat):Int).toNat]? else none)=some its[i] by simp [ht,hj]]
  refine wB1 (he i hj prog w _ _ ?_)
  rw [hit]
  wp_walk
  exact h
 | k+1,i,hk,hno,prog,w,A,R,⟨hp,g,d,tk,os⟩,⟨hl,he,h⟩=>by
  have h1:i<its.size:=by lia
  have h2:(i:Int)<top:=by lia
  wp_walk using AutoSeq1.wpAny_loadPart' hl
  rw [show (if (i:Int)<top then its[((i:Nat):Int).toNat]? else none)=some its[i] by simp [h1,h2]]
  refine wB1 (he i h1 prog w _ _ ?_)
  rw [hno i (nR1 i) (by lia)]
  wp_walk
  rw [show ((i:Int)+1)=((i+1:Nat):Int) by push_cast;rfl]
  have z:=qhu (l:=l) (n:=n) (x:=x) hj ht hit k (i+1) (by lia) (fun m a b=>hno m (by lia) b) prog w A R _ ⟨hl,he,h⟩
  exact ⟨plainId_quiet plain_index_loop _,wD1 entry_index_loop (by rw [Around.under_plainId plain_index_loop _];exact z)⟩
theorem qk4 {l:Addr}{its:Array Value}{n:Nat}{x:Value}{e:Nat->Bool}{j:Nat}(hj:j<its.size)(ht:(j:Int)<2^63-1)(hit:e j=true)(hno:∀ m,m<j->e m=false):
  Meets (Builtin.«list.index» ⟨[.ref l,x],[]⟩)
   (fun A R s=>s.heap.get? l=some {cls:=.type "list",data:=.seq its n}/\(∀ m (h:m<its.size),SeqAt.EqAt A.in1 s its[m] x (e m))/\R (.ok (.ret (.int j s.toks))) {s with toks:=s.toks+1}):=by
 intro prog w A R ⟨hp,g,d,tk,os⟩ ⟨hl,he,h⟩
 wp_walk using AutoSeq1.wpAny_loadPart' hl
 rw [show ((fun i:Int=>if i<0 then max 0 (i+(its.size:Int)) else i) ((none:Option Int).getD 0))=((0:Nat):Int) by simp,show ((fun i:Int=>if i<0 then max 0 (i+(its.size:Int)) else i) ((none:Option Int).getD (2^63-1)))=2^63-1 by simp]
 have z:=qhu (l:=l) (n:=n) (x:=x) hj ht hit j 0 (by lia) (fun m _ b=>hno m b) prog w A R _ ⟨hl,he,h⟩
 exact ⟨plainId_quiet plain_index_loop _,wD1 entry_index_loop (by rw [Around.under_plainId plain_index_loop _];exact z)⟩
end
section
variable {X:Cx}
theorem qp8 (hu:X.A.units+64<cLine):MtR X "list.index" (fun x xs H Q=>rN X.K (b2 gIdx) (x::xs) H Q):=by
 intro pins s σ H x xs v us Q I rx rv h
 obtain ⟨x',y,mu,S,d,e,r',S',e0,r1,r2,hs,hm,hc⟩:=rn2l h
 cases e0
 unfold gIdx at hm
 split at hm
 ·rename_i n
  split at hm
  ·rename_i ys en
   obtain ⟨bs,eb,hm⟩:=oB1.mp hm
   split at hm
   ·rename_i hlen
    obtain ⟨j,ej,hm⟩:=oM1.mp hm
    cases hm
    cases r1 with
    | ref qn=>
     obtain ⟨vs,ev,t⟩:=hs.lst en qn
     cases rx
     obtain ⟨u,rfl,ru⟩:=rv.one
     obtain ⟨z,its,n',rvs,hl,e⟩:=I.lstM ev
     obtain ⟨l1,at1⟩:=qjr _ _ eb
     have l2:=t.length
     have l3:=rvs.length
     rw [List.findIdx?_eq_some_iff_getElem] at ej
     obtain ⟨hj,hit,hno⟩:=ej
     have ats:∀ m (hm:m<its.toArray.size),SeqAt.EqAt X.A.in1 s its.toArray[m] u (bs[m]?.getD false):=fun m hm=>by
      have m1:m<its.length:=by simpa using hm
      obtain ⟨y',ey,q1⟩:=t.getV (i:=m) (v:=vs[m]'(by lia)) (gG1 (by lia))
      obtain ⟨w',ew,q2⟩:=rvs.get (i:=m) (x:=vs[m]'(by lia)) (gG1 (by lia))
      have m2:m<bs.length:=by lia
      have e3:its.toArray[m]=w':=by
       have:=gG1 m1
       rw [this] at ew
       simpa using ew
      rw [e3,gG1 m2]
      exact (qeR I hs qam (A:=X.A.in1) (by show X.A.units+1+60<cLine;lia) q1 r2 q2 ru (at1 m y' bs[m] ey (gG1 m2))).1
     refine call_meets F.slot_list_index ⟨_,e,rfl⟩ F.entry_list_index (F.args_list_index_2 _ _)
      (qk4 (n:=n') (e:=fun m=>bs[m]?.getD false) (j:=j) (by simp;lia) (by lia) ?_ ?_) ⟨e,ats,?_⟩
     ·simp only [gG1 hj,Option.getD_some];simpa using hit
     ·intro m hm
      have m2:m<bs.length:=by lia
      have:=hno m hm
      simp only [gG1 m2,Option.getD_some]
      simpa using this
     ·exact ⟨.int j,H,I.tok _,⟨_,rfl⟩,hc.now (.int _) hs⟩
   ·cases hm
  ·cases hm
 ·cases hm
end
mutual
noncomputable def kD:D->Option TK
 | .non=>some .non
 | .int i=>some (.int i)
 | .tup xs=>(kDs xs).map .tup
 | _=>none
noncomputable def kDs:List D->Option (List TK)
 | []=>some []
 | x::xs=>(kD x).bind fun k=>(kDs xs).map (k :: ·)
end
noncomputable def keyT:D->Option TK
 | .tup xs=>(kDs xs).bind fun ks=>if (TK.tup ks).dep<=8 then some (.tup ks) else none
 | _=>none
mutual
theorem qqK:∀ {d:D} {k:TK},kD d=some k->tkD k=d
 | .non,k,h=>by cases h;rfl
 | .int i,k,h=>by cases h;rfl
 | .tup xs,k,h=>by
  rw [kD] at h
  obtain ⟨ks,e,h⟩:=oM1.mp h
  subst h
  rw [tkD,qi9 e]
 | .bl _,k,h=>by simp [kD] at h
 | .str _,k,h=>by simp [kD] at h
 | .rol _,k,h=>by simp [kD] at h
 | .fn _,k,h=>by simp [kD] at h
 | .ref _,k,h=>by simp [kD] at h
theorem qi9:∀ {ds:List D} {ks:List TK},kDs ds=some ks->tkDs ks=ds
 | [],ks,h=>by cases h;rfl
 | x::xs,ks,h=>by
  rw [kDs] at h
  obtain ⟨k,e1,h⟩:=oB1.mp h
  obtain ⟨t,e2,h⟩:=oM1.mp h
  subst h
  rw [tkDs,qqK e1,qi9 e2]
end
theorem qgQ {d:D}{k:TK}(h:keyT d=some k):tkD k=d/\k.dep<=8 /\ ∃ xs,k = .tup xs:=by
 cases d with
 | tup xs=>
  rw [keyT] at h
  obtain ⟨ks,e,h⟩:=oB1.mp h
  split at h
  ·rename_i hd
   cases h
   exact ⟨by rw [tkD,qi9 e],hd,ks,rfl⟩
  ·cases h
 | _=>cases h
section
variable {X:Cx} {pins:List (Addr×Obj)} {σ:L2.St} {H:Hp} {s:Shared} {mu:List Addr}
mutual
theorem qj9 (I:Inv X pins σ H s):∀ (k:TK) {v:V} {u:Value},Rep X.K H mu (tkD k) v->RelV v u->IsTK s.heap k u
 | .non,v,u,r,q=>by
  rw [tkD] at r;cases r;cases q;exact .non
 | .int i,v,u,r,q=>by
  rw [tkD] at r;cases r;obtain ⟨t,rfl⟩:=q;exact .int i t
 | .tup xs,v,u,r,q=>by
  rw [tkD] at r
  cases r with
  | tup h t=>
   cases q
   obtain ⟨its,rv,⟨o,e1,e2,n,e3⟩,_⟩:=I.tuple h
   exact .tup e1 e2 e3 (by simpa using qlq I xs t rv)
theorem qlq (I:Inv X pins σ H s):∀ (ks:List TK) {vs:List V} {us:List Value},Reps X.K H mu (tkDs ks) vs->Vals vs us->qdt s.heap ks us
 | [],vs,us,r,q=>by rw [tkDs] at r;cases r;cases q;exact .nil
 | k::ks,vs,us,r,q=>by
  rw [tkDs] at r
  cases r with
  | cons r t=>cases q with
   | cons q p=>exact .cons (qj9 I k r q) (qlq I ks t p)
end
theorem qhW {α β γ δ:Type}{F:α->β->Prop}{G:γ->δ->Prop}{f:α->γ}{g:β->δ}:∀ {l₁:List α} {l₂:List β},Paired F l₁ l₂->(∀ a b,F a b->G (f a) (g b))->Paired G (l₁.map f) (l₂.map g):=by
 intro a b h g
 induction h with
 | nil=>exact .nil
 | cons r t ih=>exact .cons (g _ _ r) ih
theorem qhX {α β:Type}{F:α->β->Prop}:∀ {l₁ m₁:List α} {l₂ m₂:List β},Paired F l₁ l₂->Paired F m₁ m₂->Paired F (l₁++m₁) (l₂++m₂):=by
 intro a b c d h g
 induction h with
 | nil=>exact g
 | cons r t ih=>exact .cons r ih
theorem KT.length {K:Fg1}:∀ {ks:List (TK×D)} {ws:List (TK×Addr×Value)},KT K H mu ks ws->ks.length=ws.length:=fun h=>Paired.length h
theorem KT.mem {K:Fg1}:∀ {ks:List (TK×D)} {ws:List (TK×Addr×Value)},KT K H mu ks ws -> ∀ x∈ws,x.1.dep<=8/\Rep K H mu (tkD x.1) (.ref x.2.1):=by
 intro ks ws h0 x h
 induction h0 with
 | nil=>cases h
 | cons r t ih=>
  rcases List.mem_cons.mp h with e | e
  ·subst e;rw [<- r.1];exact ⟨r.2.1,r.2.2.1⟩
  ·exact ih e
theorem KT.look {K:Fg1}{k:TK}:∀ {ks:List (TK×D)} {ws:List (TK×Addr×Value)},KT K H mu ks ws ->
  (∀ d,qak ks k=some d -> ∃ p v,atKey ws k=some p/\RelV v p.2/\Rep K H mu d v)/\(atKey ws k).isSome=(qak ks k).isSome:=by
 intro ks ws h
 induction h with
 | nil=>exact ⟨fun d h=>by simp [qak] at h,rfl⟩
 | @cons p q0 ks ws r t ih=>
  obtain ⟨k1,d1⟩:=p
  obtain ⟨k2,a2,v2⟩:=q0
  obtain ⟨z,d,q,v,rv,r⟩:=r
  dsimp only at z q rv r
  subst z
  obtain ⟨h1,h2⟩:=ih
  by_cases hk:k1=k
  ·subst hk
   refine ⟨fun d h=>?_,by simp [atKey,qak]⟩
   have:d1=d:=by simpa [qak] using h
   subst this
   exact ⟨(a2,v2),v,by simp [atKey],rv,r⟩
  ·have e1:qak ((k1,d1)::ks) k=qak ks k:=by simp [qak,List.find?_cons,hk]
   have e2:atKey ((k1,a2,v2)::ws) k=atKey ws k:=by simp [atKey,List.find?_cons,hk]
   rw [e1,e2]
   exact ⟨h1,h2⟩
theorem KT.put {K:Fg1}{k:TK}{d:D}{v:V}{a:Addr}{u:Value}(hk:k.dep<=8)(qk:Rep K H mu (tkD k) (.ref a))(rv:RelV v u)(q:Rep K H mu d v){ks:List (TK×D)}{ws:List (TK×Addr×Value)}(h:KT K H mu ks ws):KT K H mu (putD ks k d) (storedH ws k a u):=by
 unfold putD storedH
 have e:(ks.any fun p=>decide (p.1=k))=(atKey ws k).isSome:=by
  rw [h.look.2]
  unfold qak
  rw [Option.isSome_map,Bool.eq_iff_iff,List.find?_isSome,List.any_eq_true]
 rw [e]
 split
 ·clear e
  refine qhW h fun p w ⟨z,d',k',v',rv',r'⟩=>?_
  unfold putAt
  by_cases hp:p.1=k
  ·rw [if_pos hp,if_pos (by rw [<- z];exact hp)]
   exact ⟨z,d',k',v,rv,q⟩
  ·rw [if_neg hp,if_neg (by rw [<- z];exact hp)]
   exact ⟨z,d',k',v',rv',r'⟩
 ·exact qhX h (.cons ⟨rfl,hk,qk,v,rv,q⟩ .nil)
theorem qjz (I:Inv X pins σ H s){a:Addr}{xs:List (TK×Addr×Value)}{kvs:List (TK×D)}(e:H a=some (.ext (qey a xs)))(h:KT X.K H mu kvs xs):(a == sysModules)=false/\s.heap.DictOfH (qdd X.prog X.w) a xs:=by
 obtain ⟨⟨h1,h2,o,es,ep,h3,h4,h5,h6⟩,_⟩:=(show qbL X.prog X.w H s.heap a (.ext (qey a xs)) from I.hok a _ e)
 exact ⟨h1,o,es,ep,h3,h4,h5,h6,fun x hx=>⟨qj9 I _ (h.mem x hx).2 rfl,(h.mem x hx).1⟩,h2⟩
theorem qjp {h:Heap}{a:Addr}{xs:List (TK×Addr×Value)}(hd:(a == sysModules)=false)(hm:h.DictOfH (qdd X.prog X.w) a xs):qbL X.prog X.w H h a (.ext (qey a xs)):=by
 obtain ⟨o,es,ep,h3,h4,h5,h6,h7,h8⟩:=hm
 refine ⟨⟨hd,h8,o,es,ep,h3,h4,h5,h6⟩,⟨o,h3⟩,fun g1 g2 ⟨a1,a2,o',es',ep',b3,b4,b5,b6⟩ st=>⟨a1,a2,o',es',ep',st _ b3,b4,b5,b6⟩⟩
end
noncomputable def gInY:G2:=fun d e S=>match e with
 | .ref n=>match S[n]? with
  | some (.dcT kvs)=>(keyT d).map fun k=>(.bl (qak kvs k).isSome,S)
  | _=>gInX d e S
 | _=>gInX d e S
noncomputable def qaH:G2:=fun d e S=>match e with
 | .ref n=>match S[n]? with
  | some (.dcT kvs)=>(keyT d).map fun k=>(.bl (!(qak kvs k).isSome),S)
  | _=>qcj d e S
 | _=>qcj d e S
noncomputable def gIxY:G2:=fun d e S=>match d with
 | .ref n=>match S[n]? with
  | some (.dcT kvs)=>(keyT e).bind fun k=>(qak kvs k).map fun x=>(x,S)
  | some (.dcF kvs)=>(keyT e).bind fun k=>(qak kvs k).map fun x=>(x,S)
  | _=>gIxX d e S
 | _=>gIxX d e S
noncomputable def qcL:G3:=fun o i v S=>match o with
 | .ref n=>match S[n]? with
  | some (.dcT kvs)=>(keyT i).bind fun k=>if kvs.length<sizeLine then some (.non,S.set n (.dcT (putD kvs k v))) else none
  | some (.dct [])=>match keyT i with
   | some k=>some (.non,S.set n (.dcT [(k,v)]))
   | none=>qeD o i v S
  | _=>qeD o i v S
 | _=>qeD o i v S
section
variable {X:Cx}
theorem qgP {κ:Type}[DecidableEq κ](kvs:List (κ×D))(k:κ)(d:D):(putD kvs k d).length<=kvs.length+1:=by
 unfold putD
 split
 ·rw [lM1];lia
 ·simp
theorem qhB {h:Heap}{a:Addr}(dd:h.DictOf (qaT X.prog X.w) a []):h.DictOfH (qdd X.prog X.w) a []:=by
 obtain ⟨o,es,ep,h1,h2,h3,_,h4,_⟩:=dd
 have e:es.toList=[]:=by
  generalize es.toList=l at h4
  cases h4
  rfl
 exact ⟨o,es,ep,h1,h2,h3,e,(fun x hx=>by simp at hx),List.nodup_nil⟩
theorem qdF {A:Around}(hu:A.units+64<cLine):(qdd X.prog X.w).room A.in1:=by
 show A.units+1+8<cLine
 lia
theorem qeN {pins:List (Addr×Obj)}{σ:L2.St}{H:Hp}{s:Shared}{mu:List Addr}(I:Inv X pins σ H s){d:D}{v:V}{u:Value}{k:TK}(r:Rep X.K H mu d v)(q:RelV v u)(h:keyT d=some k):
  ∃ a,u = .ref a/\v = .ref a/\Rep X.K H mu (tkD k) (.ref a)/\k.dep<=8/\(qdd X.prog X.w).is s.heap k a:=by
 obtain ⟨e,hd,xs,ex⟩:=qgQ h
 subst e
 have is:=qj9 I k r q
 subst ex
 cases id is with
 | @tup a _ _ _ _ _ _ _ _=>
  rw [tkD] at r
  cases r with
  | tup h1 h2=>
   cases q
   exact ⟨a,rfl,rfl,by rw [tkD];exact .tup h1 h2,hd,is,hd⟩
theorem qmN (hu:X.A.units+64<cLine):OpR X (compareOp .In) (r2 X.K (b2 gInY)):=by
 intro pins s σ H x y u w Q I rx ry h
 obtain ⟨mu,S,d,e,r,S',r1,r2',hs,hm,hc⟩:=rn2 h
 have back:gInX d e S=some (r,S')->wpAny (model X.prog X.w) X.A (compareOp .In u w) (EP X pins σ Q) X.xe s:=fun hm=>qqx hu pins s σ H x y u w Q I rx ry ⟨mu,S,[d,e],r,S',.cons r1 (.cons r2' .nil),hs,hm,hc⟩
 unfold gInY at hm
 split at hm
 ·rename_i n
  split at hm
  ·rename_i kvs en
   obtain ⟨k,ek,hm⟩:=oM1.mp hm
   cases hm
   cases r2' with
   | ref hn=>
    cases ry
    obtain ⟨xs,hx,hk,_⟩:=hs.dcT en hn
    obtain ⟨hd,dd⟩:=qjz I hx hk
    obtain ⟨a,rfl,rfl,_,_,hi⟩:=qeN I r1 rx ek
    refine wpAny_in_heap (qdF hu) hi hd dd ?_
    exact ⟨.bl (atKey xs k).isSome,H,I.tok _,rfl,by rw [hk.look.2];exact hc.now (.bl _) hs⟩
  ·exact back hm
 ·exact back hm
theorem qdk (hu:X.A.units+64<cLine):OpR X (compareOp .NotIn) (r2 X.K (b2 qaH)):=by
 intro pins s σ H x y u w Q I rx ry h
 obtain ⟨mu,S,d,e,r,S',r1,r2',hs,hm,hc⟩:=rn2 h
 have back:qcj d e S=some (r,S')->wpAny (model X.prog X.w) X.A (compareOp .NotIn u w) (EP X pins σ Q) X.xe s:=fun hm=>qkC hu pins s σ H x y u w Q I rx ry ⟨mu,S,[d,e],r,S',.cons r1 (.cons r2' .nil),hs,hm,hc⟩
 unfold qaH at hm
 split at hm
 ·rename_i n
  split at hm
  ·rename_i kvs en
   obtain ⟨k,ek,hm⟩:=oM1.mp hm
   cases hm
   cases r2' with
   | ref hn=>
    cases ry
    obtain ⟨xs,hx,hk,_⟩:=hs.dcT en hn
    obtain ⟨hd,dd⟩:=qjz I hx hk
    obtain ⟨a,rfl,rfl,_,_,hi⟩:=qeN I r1 rx ek
    refine wpAny_notIn_heap (qdF hu) hi hd dd ?_
    exact ⟨.bl (!(atKey xs k).isSome),H,I.tok _,rfl,by rw [hk.look.2];exact hc.now (.bl _) hs⟩
  ·exact back hm
 ·exact back hm
theorem qpB {pins:List (Addr×Obj)}{σ:L2.St}{H:Hp}{s:Shared}{mu:List Addr}(I:Inv X pins σ H s){a:Addr}{xs:List (TK×Addr×Value)}{kvs:List (TK×D)}(e:∃ o u,H a=some (.frz o u)/\qp1 a xs o)(h:KT X.K H mu kvs xs):(a == sysModules)=false/\s.heap.DictOfH (qdd X.prog X.w) a xs:=by
 obtain ⟨o,u,e,h1,h2,h4,es,ep,h5,h6⟩:=e
 obtain ⟨h3,_⟩:=(show qbL X.prog X.w H s.heap a (.frz o u) from I.hok a _ e)
 exact ⟨h1,o,es,ep,h3,h4,h5,h6,fun x hx=>⟨qj9 I _ (h.mem x hx).2 rfl,(h.mem x hx).1⟩,h2⟩
theorem qP (hu:X.A.units+64<cLine):IxR X (r2 X.K (b2 gIxY)):=by
 intro value slice pins s σ H x y v u Q I rx ry h hs2
 obtain ⟨mu,S,d,e,r,S',r1,r2',hs,hm,hc⟩:=rn2 h
 have back:gIxX d e S=some (r,S')->wpAny (model X.prog X.w) X.A (subscriptTail value slice v u) (EP X pins σ Q) X.xe s:=fun hm=>qp3 hu value slice pins s σ H x y v u Q I rx ry ⟨mu,S,[d,e],r,S',.cons r1 (.cons r2' .nil),hs,hm,hc⟩ hs2
 have main:∀ kvs a xs,v = .ref a->KT X.K H mu kvs xs->s.heap.DictOfH (qdd X.prog X.w) a xs->((keyT e).bind fun k=>(qak kvs k).map fun x=>(x,S))=some (r,S')->wpAny (model X.prog X.w) X.A (subscriptTail value slice v u) (EP X pins σ Q) X.xe s:=fun kvs a xs ev hk dd hm=>by
  obtain ⟨k,ek,hm⟩:=oB1.mp hm
  obtain ⟨z,ez,hm⟩:=oM1.mp hm
  cases hm
  subst ev
  obtain ⟨b,rfl,rfl,_,_,hi⟩:=qeN I r2' ry ek
  obtain ⟨p,v',ep,rv,rd⟩:=hk.look.1 _ ez
  have hT:=dd.typeIs
  unfold subscriptTail
  refine wB1 ?_
  rw [getitemInPython_of_ne hT.not_modules]
  refine wB1 (wpAny_specialOf hT PySem.F.slot_dict_getitem.lookup ?_)
  have fin:wpAny (model X.prog X.w) X.A (subscripted slice false (.ref a) (.ref b)) (fun r s₃=>wpAny (model X.prog X.w) X.A (letTemporaryGo value (.ref a) r >>= fun _=>pure r) (EP X pins σ Q) X.xe s₃) X.xe s:=by
   rw [hs2]
   exact wpAny_operating (wpAny_mono (wpAny_getItem_heap (qdF hu) hi dd ep (show EP X pins σ Q p.2 _ from ⟨v',H,I.tok _,rv,hc.now rd hs⟩)) (fun r s₃ h₃=>wB1 (wpAny_letTemporaryGo (wP1 h₃))) fun _ _ x=>x)
  first
   | exact wP1 (wB1 fin)
   | exact wB1 fin
   | exact fin
 unfold gIxY at hm
 split at hm
 ·rename_i n
  split at hm
  ·rename_i kvs en
   cases r1 with
   | @ref _ a hn=>
    cases rx
    obtain ⟨xs,hx,hk,_⟩:=hs.dcT en hn
    exact main kvs a xs rfl hk (qjz I hx hk).2 hm
  ·rename_i kvs en
   cases r1 with
   | @ref _ a hn=>
    cases rx
    obtain ⟨xs,hx,hk,_⟩:=(show ObR X.K H mu a (.dcF kvs) from hs.ob n _ a en hn)
    exact main kvs a xs rfl hk (qpB I hx hk).2 hm
  ·exact back hm
 ·exact back hm
theorem qeK (hu:X.A.units+64<cLine):PSet X (rU X.K (b3 qcL)):=by
 intro pins s σ H o i v ov iv u Q I ro ri rv h
 obtain ⟨mu,S,ds,d,S',hr,hs,hm,hc⟩:=id h
 cases hr with
 | cons q1 t1=>cases t1 with
  | cons q2 t2=>cases t2 with
   | cons q3 t3=>
    cases t3
    rename_i d1 d2 d3
    dsimp only [b3] at hm
    have back:qeD d1 d2 d3 S=some (d,S')->wpAny (model X.prog X.w) X.A (setItem ov iv u) (fun _ s'=>∃ H',Inv X pins σ H' s'/\Q H') X.xe s:=fun hm=>qn7 hu pins s σ H o i v ov iv u Q I ro ri rv ⟨mu,S,[d1,d2,d3],d,S',.cons q1 (.cons q2 (.cons q3 .nil)),hs,hm,hc⟩
    unfold qcL at hm
    split at hm
    ·rename_i n
     split at hm
     ·rename_i kvs en
      obtain ⟨k,ek,hm⟩:=oB1.mp hm
      split at hm
      ·rename_i hl
       cases hm
       cases q1 with
       | @ref _ ad hn=>
        cases ro
        obtain ⟨xs,hx,hk,hz⟩:=hs.dcT en hn
        obtain ⟨hd,dd⟩:=qjz I hx hk
        obtain ⟨b,rfl,rfl,rk,dk,hi⟩:=qeN I q2 ri ek
        refine wpAny_setItem_heap (hsz:=hz) (qdF hu) hi dd fun h' dd' hsame=>?_
        have hq:∃ q,h'.get? _=some q:=let ⟨q,_,_,hq,_⟩:=dd';⟨q,hq⟩
        have put:Ext mu mu H (upd H ad (.ext (qey ad (storedH xs k b u)))):=Ext.put hx trivial (gM1 hn)
        refine ⟨_,qdM I (by rw [hx];exact True.intro) hsame hq (qjp hd dd'),hc _ mu put (hs.put hn hx trivial ⟨_,qat,((hk.put dk rk rv q3).ext put),?_⟩)⟩
        rw [<- (hk.put dk rk rv q3).length]
        have:=qgP kvs k d3
        lia
      ·cases hm
     ·rename_i en
      split at hm
      ·rename_i k ek
       cases hm
       cases q1 with
       | @ref _ ad hn=>
        cases ro
        obtain ⟨ws,hw,hk⟩:=hs.dct en hn
        cases hk
        obtain ⟨z,hd,vs,rel,dd⟩:=qjx I.hok hw
        cases rel
        obtain ⟨b,rfl,rfl,rk,dk,hi⟩:=qeN I q2 ri ek
        have dd2:s.heap.DictOfH (qdd X.prog X.w) _ []:=qhB dd
        refine wpAny_setItem_heap (hsz:=Nat.zero_le _) (qdF hu) hi dd2 fun h' dd' hsame=>?_
        have hq:∃ q,h'.get? _=some q:=let ⟨q,_,_,hq,_⟩:=dd';⟨q,hq⟩
        have put:Ext mu mu H (upd H ad (.ext (qey ad (storedH [] k b u)))):=Ext.put hw trivial (gM1 hn)
        exact ⟨_,qdM I (by rw [hw];exact True.intro) hsame hq (qjp hd dd'),hc _ mu put (hs.put hn hw trivial ⟨_,qat,KT.ext put (.cons ⟨rfl,dk,rk,v,rv,q3⟩ .nil),(show 1<=sizeLine by decide)⟩)⟩
      ·exact back hm
     ·exact back hm
    ·exact back hm
end
noncomputable def truD (S:Sto)(d:D):Option Bool:=match d with
 | .non=>some false
 | .bl b=>some b
 | .int i=>some (i != 0)
 | .str y=>if y.length<=sizeLine then some ((y.length:Int) != 0) else none
 | .ref n=>match S[n]? with
  | some (.dct kvs)=>some (!kvs.isEmpty)
  | _=>(qaz S d).map fun p=> !p.2.isEmpty
 | _=>(qaz S d).map fun p=> !p.2.isEmpty
noncomputable def mTr (m:FE):FT:=fun r S=>(m r S).bind fun p=>(truD p.2 p.1).map fun b=>(b,p.2)
section
variable {K:Fg1} {H:Hp} {mu:List Addr} {S:Sto}
theorem qgt {d:D}{v:V}{b:Bool}(r:Rep K H mu d v)(s:Sim K H mu S)(h:((qaz S d).map fun p=> !p.2.isEmpty)=some b):TruV K v H b:=by
 obtain ⟨⟨k,xs⟩,e,h⟩:=oM1.mp h
 obtain ⟨a,vs,rfl,q,t⟩:=qap r s e
 have z:(!xs.isEmpty) = !vs.isEmpty:=by cases t<;>rfl
 dsimp only at h
 rw [z] at h
 cases k
 ·exact .inr (.inl ⟨vs,q,h.symm⟩)
 ·exact .inl ⟨vs,q,h.symm⟩
theorem qnM {d:D}{v:V}{b:Bool}(r:Rep K H mu d v)(s:Sim K H mu S)(h:truD S d=some b):TruV K v H b:=by
 cases d with
 | non=>cases r;cases h;rfl
 | bl k=>cases r;cases h;rfl
 | int i=>cases r;cases h;rfl
 | str y=>
  rw [truD] at h
  split at h
  ·rename_i hl
   cases r;cases h;exact ⟨hl,rfl⟩
  ·cases h
 | tup xs=>exact qgt r s h
 | rol xs=>exact qgt r s h
 | fn x=>cases h
 | ref n=>
  rw [truD] at h
  split at h
  ·rename_i kvs en
   cases h
   cases r with
   | ref hn=>
    obtain ⟨ws,hw,hk⟩:=s.dct en hn
    refine .inr (.inr ⟨ws,hw,?_⟩)
    cases hk<;>rfl
  ·exact qgt r s h
end
theorem qgo {X:Cx}{x:Expr}{f:FE}(h:XE X x f)(he:∀ whole,isTrue x X.env whole=(do let v<-whole;standAt x.pos;holding [v] (truthy v)):=by intro _;rfl):XT X x (mTr f):=
 ⟨qiE (qki h.h he) <| by
  rintro σ H Q ⟨r,mu,S,b,S',he,hs,hm,hc⟩
  obtain ⟨⟨d1,S1⟩,e1,hm⟩:=oB1.mp hm
  obtain ⟨b1,e2,hm⟩:=oM1.mp hm
  cases hm
  exact ⟨r,mu,S,_,_,he,hs,e1,fun v H1 mu1 x1 r1 s1=>⟨_,qnM r1 s1 e2,hc H1 mu1 x1 s1⟩⟩⟩
section
variable {X:Cx} {pins:List (Addr×Obj)} {σ:L2.St} {H:Hp} {s:Shared} {mu:List Addr}
end
section
variable {X:Cx}
noncomputable def qeP:List D->Option (List Int)
 | []=>some []
 | .int i::ds=>(qeP ds).map fun is=>i::is
 | _=>none
noncomputable def ddI (ns:List Int):List Int:=ns.foldl step_dedup []
theorem qfu:∀ (ns acc:List Int),acc.Nodup->(ns.foldl step_dedup acc).Nodup
 | [],acc,h=>h
 | n::ns,acc,h=>by
  rw [List.foldl_cons]
  refine qfu ns _ ?_
  unfold step_dedup
  split
  ·exact h
  ·rename_i hn
   rw [List.nodup_append]
   refine ⟨h,by simp,fun a ha b hb e=>?_⟩
   simp at hb
   apply hn
   rw [List.any_eq_true]
   exact ⟨a,ha,by simp [e,hb]⟩
theorem qhF (ns:List Int):firstMet (fun i=>ns.getD i 0) ns.length=ddI ns:=by
 unfold firstMet ddI
 congr 1
 apply List.ext_getElem
 ·simp
 ·intro i h1 h2
  simp at h1 ⊢
  rw [gG1 (by omega)];rfl
theorem qf6 {K:Fg1}{H:Hp}{mu:List Addr}:∀ {ds:List D} {vs:List V} {us:List Value} {ns:List Int},Reps K H mu ds vs->Vals vs us->qeP ds=some ns->IntsAre us ns/\ns.length=ds.length:=by
 intro ds vs us ns h0 tt h
 induction h0 using Reps.ind generalizing us ns with
 | hn=>cases h;cases tt;exact ⟨.nil,rfl⟩
 | @hc d v ds vs r t ih=>
  cases d with
  | int i=>
   obtain ⟨c,e,h⟩:=oM1.mp h
   cases h
   cases r
   cases tt with
   | cons r tt=>
    obtain ⟨e1,e2⟩:=ih tt e
    obtain ⟨tk,rfl⟩:=r
    exact ⟨.cons _ _ e1,by rw [lC1,lC1,e2]⟩
  | _=>cases h
theorem qdU (l:List Int):(fun k'=>l.any (· == k'))=fun k'=>l.contains k':=by
 funext k
 induction l with
 | nil=>rfl
 | cons x xs ih=>rw [List.any_cons,List.contains_cons,ih,show (x == k)=(k == x) from Bool.beq_comm]
noncomputable def qhw:G1:=fun d S=>match qaz S d with
 | some (true,xs)=>(qeP xs).bind fun ns=>if ns.length+1<scanBound then some (.ref S.length,S++[.iset (ddI ns)]) else none
 | _=>none
theorem qq3 {k:Nat}(hr:Room k X.A):qbE X (.type "set") (rN X.K (b1 qhw)):=by
 intro pins s σ H xs us Q I r h
 obtain ⟨x,mu,S,d,r',S',rfl,r1,hs,hm,hc⟩:=rn1 h
 unfold qhw at hm
 split at hm
 ·rename_i ys e1
  obtain ⟨ns,e,hm⟩:=oB1.mp hm
  split at hm
  ·rename_i hl
   cases hm
   obtain ⟨a,vs,rfl,q,t⟩:=qap r1 hs e1
   cases r with
   | cons rv rt=>
    cases rt
    cases rv
    obtain ⟨its,vv,⟨o,n,ho,hcl,hdn,hd⟩,_⟩:=I.list q
    obtain ⟨hi,hlen⟩:=qf6 t vv e
    have hsz:its.toArray.size=ns.length:=by rw [sT1,hi.length]
    refine PySem.call_set_list (items:=its.toArray) (ns:=ns) hr.hd ⟨o,ho,hcl,⟨n,hd⟩⟩ (by simpa using hi) (by rw [hsz];exact hl) fun h' tk hS hk=>?_
    rw [hsz,qhF] at hS
    have nd:(ddI ns).Nodup:=qfu ns [] List.nodup_nil
    have fe:=qdU (ddI ns)
    rw [fe] at hS
    refine ⟨.ref s.heap.objs.size,upd H s.heap.objs.size (.set (fun k=>(ddI ns).contains k) (ddI ns).length),I.laid (fun b u z=>hk b u (hL1 z) z) (nR1 _) hS,rfl,?_⟩
    exact hc _ _ (mu++[s.heap.objs.size]) (Ext.new_ I.fresh) (.ref (qce hs.len _)) (hs.new I.fresh ⟨qat,nd⟩)
  ·cases hm
 ·cases hm
noncomputable def qgU:G1:=fun d S=>match d with
 | .ref n=>match S[n]? with
  | some (.iset xs)=>some (.int xs.length,S)
  | _=>gLen d S
 | _=>gLen d S
theorem qlT:qbE X (.builtin "len") (rN X.K (b1 qgU)):=by
 intro pins s σ H xs us Q I r h
 obtain ⟨x,mu,S,d,r',S',hx,r1,hs,hm,hc⟩:=rn1 h
 have hm0:=hm
 unfold qgU at hm
 split at hm
 ·rename_i n
  split at hm
  ·rename_i ys e
   cases hm
   subst hx
   cases r1 with
   | ref hn=>
    obtain ⟨ha,nd⟩:=hs.iset e hn
    cases r with
    | cons rv rt=>
     cases rt
     cases rv
     have so:=I.hok _ _ ha
     obtain ⟨o,es,ep,t,ho,hex,hd,_,_,hlt,hf,hn⟩:=so
     refine PySem.call_len_set ho hex hd hf (by unfold scanBound at hlt;lia) ?_
     refine ⟨.int es.size,H,I.tok _,⟨_,rfl⟩,?_⟩
     rw [hn]
     exact hc.now (.int _) hs
  ·exact qa9 pins s σ H xs us Q I r (by subst hx;exact ⟨mu,S,[_],r',S',.cons r1 .nil,hs,(show b1 gLen [_] S=_ from hm),hc⟩)
 ·exact qa9 pins s σ H xs us Q I r (by subst hx;exact ⟨mu,S,[_],r',S',.cons r1 .nil,hs,(show b1 gLen [_] S=_ from hm),hc⟩)
end
@[elab_as_elim] theorem ln0 {P:List Value->Prop}{us:List Value}(l:us.length=0)(f:P []):P us:=by
 cases us with
 | nil=>exact f
 | cons _ _=>cases l
@[elab_as_elim] theorem ln1 {P:List Value->Prop}{us:List Value}(l:us.length=1)(f:∀ a,P [a]):P us:=by
 cases us with
 | nil=>cases l
 | cons a us=>exact ln0 (P:=fun us=>P (a::us)) (Nat.succ.inj l) (f a)
@[elab_as_elim] theorem ln2 {P:List Value->Prop}{us:List Value}(l:us.length=2)(f:∀ a b,P [a,b]):P us:=by
 cases us with
 | nil=>cases l
 | cons a us=>exact ln1 (P:=fun us=>P (a::us)) (Nat.succ.inj l) (f a)
@[elab_as_elim] theorem ln3 {P:List Value->Prop}{us:List Value}(l:us.length=3)(f:∀ a b c,P [a,b,c]):P us:=by
 cases us with
 | nil=>cases l
 | cons a us=>exact ln2 (P:=fun us=>P (a::us)) (Nat.succ.inj l) (f a)
end Mi
end
section
namespace HT
open PySem PySem.Spec PyProof.Rows
variable {prog:Program} {w:World} {A:Around} {E:Value->Shared->Prop} {s:Shared}
end HT
namespace Mi
open PySem PySem.Spec PyProof.Rows L2
section
variable {X:Cx}
end
end Mi
end
section
namespace HT
open PySem PySem.Spec PyProof.Rows
section
variable {prog:Program} {w:World} {A:Around} {R:Result->Shared->Prop} {I ax L:Addr} {xs:Array Value}
end
section
variable {prog:Program} {w:World} {A:Around} {E:Value->Shared->Prop} {s:Shared}
end
end HT
namespace Mi
open PySem PySem.Spec PyProof.Rows L2
section
variable {X:Cx}
end
section
variable {X:Cx}
end
section
variable {elt tg iter tg2 iter2 tg3 iter3:Expr} {ifs ifs2 ifs3:List Expr} {scope:Scope} {pos:Pos}
end
section
variable {X:Cx}
end
noncomputable def insI (a:Int):List Int->List Int
 | []=>[a]
 | b::l=>if a<=b then a::b::l else b::insI a l
noncomputable def qdW:List Int->List Int
 | []=>[]
 | a::l=>insI a (qdW l)
theorem qeo (a:Int):∀ l:List Int,(insI a l).Perm (a::l)
 | []=>.refl _
 | b::l=>by
  rw [insI]
  split
  ·exact .refl _
  ·exact ((qeo a l).cons b).trans (.swap _ _ _)
theorem qbb:∀ l:List Int,(qdW l).Perm l
 | []=>.refl _
 | a::l=>(qeo a _).trans ((qbb l).cons a)
theorem qjc {a:Int}:∀ {l:List Int},l.Pairwise (· <= ·)->(insI a l).Pairwise (· <= ·)
 | [],_=>List.pairwise_singleton _ _
 | b::l,h=>by
  rw [List.pairwise_cons] at h
  rw [insI]
  split
  ·rename_i hab
   rw [List.pairwise_cons,List.pairwise_cons]
   exact ⟨fun x hx=>by
    rcases List.mem_cons.mp hx with z | z
    ·lia
    ·have:=h.1 x z;lia,h.1,h.2⟩
  ·rename_i hab
   rw [List.pairwise_cons]
   refine ⟨fun x hx=>?_,qjc h.2⟩
   rcases List.mem_cons.mp ((qeo a l).mem_iff.mp hx) with z | z
   ·lia
   ·exact h.1 x z
theorem qdZ:∀ l:List Int,(qdW l).Pairwise (· <= ·)
 | []=>.nil
 | a::l=>qjc (qdZ l)
theorem qe8:∀ {a b:List Int},a.Perm b->a.Pairwise (· <= ·)->b.Pairwise (· <= ·)->a=b
 | [],b,p,_,_=>(List.nil_perm.mp p).symm
 | x::a,[],p,_,_=>absurd p.length_eq (by simp)
 | x::a,y::b,p,h1,h2=>by
  rw [List.pairwise_cons] at h1 h2
  have e:x=y:=by
   have hx:=p.mem_iff.mp (mS1 (a:=x) (l:=a))
   have hy:=p.mem_iff.mpr (mS1 (a:=y) (l:=b))
   rcases List.mem_cons.mp hx with z | z
   ·exact z
   ·rcases List.mem_cons.mp hy with z' | z'
    ·exact z'.symm
    ·have:=h2.1 x z;have:=h1.1 y z';lia
  subst e
  rw [qe8 (List.perm_cons x |>.mp p) h1.2 h2.2]
noncomputable def qfo:List D->Option (List Int)
 | []=>some []
 | .int i::l=>(qfo l).map fun t=>i::t
 | _=>none
section
variable {X:Cx}
theorem qf4 {K:Fg1}{H:Hp}{mu:List Addr}:∀ {ds:List D} {vs:List V} {us:List Value} {ns:List Int},Reps K H mu ds vs->Vals vs us->qfo ds=some ns->IntsAre us ns:=by
 intro ds
 induction ds with
 | nil=>intro vs us ns r v h;cases r;cases v;cases h;exact .nil
 | cons d ds ih=>
  intro vs us ns r v h
  cases r with
  | cons r1 t=>
   cases v with
   | cons q1 tt=>
    cases r1
    case int i=>
     obtain ⟨m,e,h⟩:=oM1.mp h
     subst h
     obtain ⟨tk,rfl⟩:=q1
     exact .cons i tk (ih t tt e)
    all_goals cases h
theorem qf5:∀ {us:List Value} {ns:List Int},IntsAre us ns->Vals (ns.map V.int) us:=by
 intro us ns h
 induction h with
 | nil=>exact .nil
 | cons i t _ ih=>exact .cons ⟨t,rfl⟩ ih
theorem qf7:∀ {ds:List D} {ns:List Int},qfo ds=some ns->ns.length=ds.length:=by
 intro ds
 induction ds with
 | nil=>intro ns h;cases h;rfl
 | cons d ds ih=>
  intro ns h
  cases d with
  | int i=>
   obtain ⟨m,e,h⟩:=oM1.mp h
   subst h
   rw [lC1,lC1,ih e]
  | _=>cases h
end
end Mi
namespace Mi
open PySem PySem.Spec PyProof.Rows L2
section
variable {X:Cx}
end
section
variable {X:Cx}
end
theorem qd6 (n:Nat):∀ ns:List Int,D.unds n (ns.map D.int)=true
 | []=>rfl
 | _::ns=>by rw [mP1,D.unds,qd6 n ns];rfl
theorem qng {n:Nat}{d:D}{S:Sto}(h:S.length=n):gc n (d,S)=(d,S):=by
 unfold gc
 split
 ·rw [show (d,S).2=S from rfl,<- h,List.take_length]
 ·rfl
theorem qjL {n:Nat}{f:FN}{ds:List D}{S S1:Sto}{d:D}(h:f ds []=some (d,S1))(hn:ds.length=n)(hu:D.unds 0 ds=true)(hd:d.und 0=true):qaj n f ds S=some (d,S):=by
 unfold qaj qif
 rw [if_pos hn,if_pos hu,h,oP1,if_pos hd]
theorem qhM {n:Nat}{f:FN}{ds:List D}{S S1:Sto}{d:D}(h:f ds []=some (d,S1))(hn:ds.length=n)(hu:D.unds 0 ds=true)(hd:d.und 0=false):qaj n f ds S=some (d.sh S.length,S++S1.map (Ob.sh S.length)):=by
 unfold qaj qif
 rw [if_pos hn,if_pos hu,h,oP1,if_neg (by dsimp only;rw [hd];decide)]
theorem qge {n:Nat}{f:FN}{ds:List D}{S S1:Sto}{d:D}(h:f ds S=some (d,S1))(hn:ds.length=n)(hu:D.unds 0 ds=false):qaj n f ds S=some (gc S.length (d,S1)):=by
 unfold qaj qif
 rw [if_pos hn,if_neg (by rw [hu];decide),h,oP1]
theorem qjN {n:Nat}{f:FN}{ds:List D}{S S1:Sto}{d:D}(h:f ds S=some (d,S1))(hn:ds.length=n)(hu:D.unds 0 ds=false)(hl:S1.length=S.length):qaj n f ds S=some (d,S1):=by
 rw [qge h hn hu,qng hl]
theorem qiX {i j:Int}(h1: -(2^64)<i)(h2:i<2^64):qaS i j=true:=by
 unfold qaS;simp only [Bool.or_eq_true,bA1,decide_eq_true_eq];exact .inl (.inl ⟨h1,h2⟩)
theorem qkJ {i j:Int}(h1: -(2^64)<j)(h2:j<2^64):qaS i j=true:=by
 unfold qaS;simp only [Bool.or_eq_true,bA1,decide_eq_true_eq];exact .inl (.inr ⟨h1,h2⟩)
theorem qbp {S:Sto}{n:Nat}{xs:List D}(h:S[n]? = some (.lst xs)):okC S [(n,xs)]=true:=by
 rw [okC,h];simp [D.sames_refl,okC]
noncomputable def refs (n:Nat):Nat->List D
 | 0=>[]
 | k+1=>.ref n::refs (n+1) k
theorem qhp:∀ {n:Nat} {lo:Int} {d:D},d∈nums lo n -> ∃ k:Int,d = .int k/\lo<=k/\k<lo+n
 | 0,lo,d,h=>by simp [nums] at h
 | n+1,lo,d,h=>by
  rw [nums] at h
  rcases List.mem_cons.mp h with h | h
  ·exact ⟨lo,h,Int.le_refl _,by lia⟩
  ·obtain ⟨k,e,h1,h2⟩:=qhp h
   exact ⟨k,e,by lia,by lia⟩
open Classical in
noncomputable def rkV (ws:List Value)(x:Value):Nat:=ws.findIdx fun y=>decide (y=x)
theorem qob {ws:List Value}{x:Value}(h:x∈ws):ws[rkV ws x]? = some x:=by
 have hl:rkV ws x<ws.length:=List.findIdx_lt_length_of_exists ⟨x,h,by simp⟩
 rw [gG1 hl]
 have:=List.findIdx_getElem (w:=hl)
 have e:ws[rkV ws x]=x:=of_decide_eq_true this
 rw [e]
noncomputable def kR (ws:List Value)(xs:Array Keyed)(i:Nat):Nat:=(xs[i]?.map fun p=>rkV ws p.1).getD 0
theorem qd4 {ws:List Value}{xs ys:Array Keyed}{i j:Nat}(h:xs[i]? = ys[j]?):kR ws xs i=kR ws ys j:=by unfold kR;rw [h]
noncomputable def Up (ws:List Value)(xs:Array Keyed)(k:Nat):Prop:=∀ i j,i<j->j<k->kR ws xs i<kR ws xs j
noncomputable def Dn (ws:List Value)(xs:Array Keyed)(k:Nat):Prop:=∀ i j,i<j->j<k->kR ws xs j<kR ws xs i
structure SoB (κ:SortKind)(a₀:Array Keyed)(st:SortSt):Prop where
 perm:(arrOf st).Perm a₀
 kind:kindOf st=κ
 failed:failedOf st=none
 pend:pendingOf st = #[]
theorem SoB.arr {κ:SortKind}{a₀:Array Keyed}{st:SortSt}(b:SoB κ a₀ st){xs:Array Keyed}(p:xs.Perm (arrOf st)):SoB κ a₀ (setArr st xs):=⟨p.trans b.perm,b.kind,b.failed,b.pend⟩
structure SoC (prog:Program)(w:World)(A:Around)(s:Shared)(κ:SortKind)(ws:List Value)(a₀:Array Keyed):Prop where
 nd:ws.Nodup
 keys:(a₀.toList.map (·.1)).Perm ws
 lt:∀ (x y:Value) (i j:Nat),ws[i]? = some x->ws[j]? = some y->i≠j -> ∀ (E:Value->Shared->Prop) (Q:Bool->Shared->Prop),Q (decide (i<j)) s->wpAny (model prog w) A (keyLt' κ x y) Q E s
section
variable {prog:Program} {w:World} {A:Around} {E:Value->Shared->Prop} {s:Shared} {κ:SortKind} {ws:List Value} {a₀:Array Keyed}
theorem SoC.at_ (C:SoC prog w A s κ ws a₀){xs:Array Keyed}(p:xs.Perm a₀){i:Nat}(hi:i<a₀.size):∃ x q,xs[i]? = some (x,q)/\ws[kR ws xs i]? = some x:=by
 have hi':i<xs.size:=by rw [p.size_eq];exact hi
 refine ⟨xs[i].1,xs[i].2,aG1 hi',?_⟩
 have hm:xs[i]∈a₀.toList:=(Array.perm_iff_toList_perm.mp p).mem_iff.mp (by simp)
 have:=qob (C.keys.mem_iff.mp (List.mem_map.mpr ⟨_,hm,rfl⟩))
 unfold kR
 rw [aG1 hi']
 exact this
theorem SoC.inj (C:SoC prog w A s κ ws a₀){xs:Array Keyed}(p:xs.Perm a₀){i j:Nat}(hi:i<a₀.size)(hj:j<a₀.size)(h:kR ws xs i=kR ws xs j):i=j:=by
 obtain ⟨x,q,e1,f1⟩:=C.at_ p hi
 obtain ⟨y,r,e2,f2⟩:=C.at_ p hj
 rw [h,f2] at f1
 cases f1
 have nd:(xs.toList.map (·.1)).Nodup:=(((Array.perm_iff_toList_perm.mp p).map (·.1)).trans C.keys).nodup_iff.mpr C.nd
 have g1:(xs.toList.map (·.1))[i]? = some x:=by rw [gP1,aT1,e1];rfl
 have g2:(xs.toList.map (·.1))[j]? = some x:=by rw [gP1,aT1,e2];rfl
 exact (List.getElem?_inj (gE1.mp g1).1 nd).mp (g1.trans g2.symm)
theorem SoC.cmp (C:SoC prog w A s κ ws a₀){st:SortSt}{i j:Nat}{Q:Option Bool->SortSt->Prop}(b:SoB κ a₀ st)(hi:i<a₀.size)(hj:j<a₀.size)(hij:i≠j)
  (h:Q (some (decide (kR ws (arrOf st) i<kR ws (arrOf st) j))) st):wpS (model prog w) A E s (ltAt' i j) Q st:=by
 obtain ⟨x,q,e1,f1⟩:=C.at_ b.perm hi
 obtain ⟨y,r,e2,f2⟩:=C.at_ b.perm hj
 have hne:kR ws (arrOf st) i≠kR ws (arrOf st) j:=fun z=>hij (C.inj b.perm hi hj z)
 rw [ltAt'_eq]
 refine wpS_bind (wpS_get ?_)
 show wpS _ _ _ _ (do let x<-elem' (arrOf st) i;let y<-elem' (arrOf st) j;lt' x y) Q st
 rw [elem'_eq,elem'_eq,e1,e2]
 refine wpS_bind (wpS_pure (wpS_bind (wpS_pure ?_)))
 rw [lt'_eq]
 refine wpS_bind (wpS_get ?_)
 rw [b.kind]
 exact wpS_bind (wpS_lift (wpAny_attempt (C.lt x y _ _ f1 f2 hne _ _ ⟨rfl,wpS_pure h⟩)))
theorem Up.one {xs:Array Keyed}:Up ws xs 1:=fun i j h1 h2=>by lia
theorem Up.snoc {xs:Array Keyed}{n:Nat}(u:Up ws xs n)(h:n=0\/kR ws xs (n-1)<kR ws xs n):Up ws xs (n+1):=fun i j h1 h2=>by
 by_cases z:j<n
 ·exact u i j h1 z
 ·have ej:j=n:=by lia
  subst ej
  rcases h with h | h
  ·lia
  ·by_cases z2:i=j-1
   ·rw [z2];exact h
   ·exact Nat.lt_trans (u i (j-1) (by lia) (by lia)) h
theorem Dn.snoc {xs:Array Keyed}{n:Nat}(u:Dn ws xs n)(h:kR ws xs n<kR ws xs (n-1)):Dn ws xs (n+1):=fun i j h1 h2=>by
 by_cases z:j<n
 ·exact u i j h1 z
 ·have ej:j=n:=by lia
  subst ej
  by_cases z2:i=j-1
  ·rw [z2];exact h
  ·exact Nat.lt_trans h (u i (j-1) (by lia) (by lia))
theorem qlv (C:SoC prog w A s κ ws a₀){st:SortSt}{a nrem:Nat}{Q:AscSt->SortSt->Prop}(hn:nrem<=a₀.size)(ha:1<=a)(han:a<=nrem)(b:SoB κ a₀ st)(u:Up ws (arrOf st) a)
  (h:∀ n,a<=n->n<=nrem->Up ws (arrOf st) n->(n=nrem\/kR ws (arrOf st) n<kR ws (arrOf st) (n-1))->Q (none,n) st):wpS (model prog w) A E s (ascLoop a nrem) Q st:=by
 unfold ascLoop
 refine wpS_forRange (fun x c st'=>st'=st/\c=(none,x)/\Up ws (arrOf st) x) ?_ ?_ ⟨rfl,rfl,u⟩
 ·rintro x c st' h1 h2 ⟨rfl,rfl,u'⟩
  refine wpS_bind (C.cmp b (by lia) (by lia) (by lia) ?_)
  by_cases z:kR ws (arrOf st') x<kR ws (arrOf st') (x-1)
  ·simp only [z,decide_true,if_true]
   exact wpS_pure (h x h1 (by lia) u' (.inr z))
  ·simp only [z,decide_false,bF1,if_false]
   have:kR ws (arrOf st') x≠kR ws (arrOf st') (x-1):=fun e=>by have:=C.inj b.perm (by lia) (by lia) e;lia
   exact wpS_pure ⟨rfl,rfl,u'.snoc (.inr (by lia))⟩
 ·rintro c st' ⟨rfl,rfl,u'⟩
  rw [Nat.max_eq_right han] at u' ⊢
  exact h nrem han (nR1 _) u' (.inl rfl)
theorem qmc (C:SoC prog w A s κ ws a₀){st:SortSt}{n nrem:Nat}{Q:Option Nat->SortSt->Prop}(hn:nrem<=a₀.size)(h1:1<=n)(hnn:n<=nrem)(b:SoB κ a₀ st)(d:Dn ws (arrOf st) n)
  (h:∀ m st',SoB κ a₀ st'->m<=nrem->Up ws (arrOf st') m->Q (some m) st'):wpS (model prog w) A E s (tail3 n nrem) Q st:=by
 unfold tail3
 have hsz:n<=(arrOf st).size:=by rw [b.perm.size_eq];lia
 have b':SoB κ a₀ (setArr st (mirror (arrOf st) 0 n ((n-0)/2))):=b.arr (mirror_perm _ _ _ _)
 refine wpS_bind (wpS_reverse (wpS_bind (qlv C hn h1 hnn b' (fun i j h3 h4=>?_) fun m h3 h4 u _=>wpS_pure (h m _ b' h4 u))))
 have g:∀ k,k<n->kR ws (mirror (arrOf st) 0 n ((n-0)/2)) k=kR ws (arrOf st) (n-1-k):=fun k hk=>qd4 (by
  rw [getElem?_mirror_all hsz,if_pos (by lia)]
  congr 1;lia)
 show kR ws (mirror (arrOf st) 0 n ((n-0)/2)) i<kR ws (mirror (arrOf st) 0 n ((n-0)/2)) j
 rw [g i (by lia),g j h4]
 exact d _ _ (by lia) (by lia)
theorem qme (C:SoC prog w A s κ ws a₀){st:SortSt}{n nrem:Nat}{Q:DescSt->SortSt->Prop}(hn:nrem<=a₀.size)(h1:1<=n)(hnn:n<=nrem)(b:SoB κ a₀ st)(d:Dn ws (arrOf st) n)
  (h:∀ m,n<=m->m<=nrem->Dn ws (arrOf st) m->Q (none,m,0) st):wpS (model prog w) A E s (descLoop n nrem) Q st:=by
 unfold descLoop
 refine wpS_forRange (fun x c st'=>st'=st/\c=(none,x,0)/\Dn ws (arrOf st) x) ?_ ?_ ⟨rfl,rfl,d⟩
 ·rintro x c st' h2 h3 ⟨rfl,rfl,d'⟩
  dsimp only
  refine wpS_bind (C.cmp b (by lia) (by lia) (by lia) ?_)
  by_cases z:kR ws (arrOf st') x<kR ws (arrOf st') (x-1)
  ·simp only [z,decide_true,if_true]
   exact wpS_pure ⟨rfl,rfl,d'.snoc z⟩
  ·simp only [z,decide_false,bF1,if_false]
   have z2:kR ws (arrOf st') (x-1)<kR ws (arrOf st') x:=by
    have:kR ws (arrOf st') x≠kR ws (arrOf st') (x-1):=fun e=>by have:=C.inj b.perm (by lia) (by lia) e;lia
    lia
   refine wpS_bind (C.cmp b (by lia) (by lia) (by lia) ?_)
   simp only [z2,decide_true,if_true]
   exact wpS_pure (h x h2 (by lia) d')
 ·rintro c st' ⟨rfl,rfl,d'⟩
  rw [Nat.max_eq_right hnn] at d' ⊢
  exact h nrem hnn (nR1 _) d'
theorem qnX (C:SoC prog w A s κ ws a₀){st:SortSt}{nrem:Nat}{Q:Option Nat->SortSt->Prop}(hn:nrem<=a₀.size)(h1:1<=nrem)(b:SoB κ a₀ st)
  (h:∀ m st',SoB κ a₀ st'->m<=nrem->Up ws (arrOf st') m->Q (some m) st'):wpS (model prog w) A E s (countRun' 0 nrem) Q st:=by
 rw [countRun0_eq]
 refine wpS_bind (qlv C hn (nR1 1) h1 b .one fun n h2 h3 u or=>?_)
 dsimp only
 by_cases z:n=nrem
 ·rw [if_pos (by simpa using z)]
  exact wpS_pure (h n st b h3 u)
 ·rw [if_neg (by simpa using z)]
  have hl:=or.resolve_left z
  by_cases z2:n>1
  ·rw [if_pos z2]
   have:=u 0 (n-1) (by lia) (by lia)
   refine wpS_bind (C.cmp b (by lia) (by lia) (by lia) ?_)
   simp only [this,decide_true,if_true]
   exact wpS_pure (h n st b h3 u)
  ·rw [if_neg z2]
   have e:n=1:=by lia
   subst e
   unfold descPart
   refine wpS_bind (wpS_lift (wpAny_rule ⟨rfl,?_⟩))
   refine wpS_bind (qme C hn (by lia) (by lia) b (fun i j h4 h5=>?_) fun m h4 h5 d=>?_)
   ·have ei:i=0:=by lia
    have ej:j=1:=by lia
    subst ei;subst ej
    exact hl
   ·dsimp only
    rw [if_neg (by lia)]
    exact qmc C hn (by lia) h5 b d h
theorem qnZ (C:SoC prog w A s κ ws a₀){st:SortSt}{n ok:Nat}{Q:Bool->SortSt->Prop}(hn:n<=a₀.size)(hok:ok<=n)(b:SoB κ a₀ st)(u:Up ws (arrOf st) ok)
  (h:∀ st',SoB κ a₀ st'->Up ws (arrOf st') n->Q true st'):wpS (model prog w) A E s (binarySort' 0 n ok) Q st:=by
 rw [binarySort'_eq]
 simp only [Nat.zero_add]
 refine wpS_bind (wpS_mono (wpS_forRange (fun k c st'=>c=(none,())/\SoB κ a₀ st'/\Up ws (arrOf st') (min k n)) (Q:=fun c st'=>c=(none,())/\SoB κ a₀ st'/\Up ws (arrOf st') n) ?_ ?_ ⟨rfl,b,fun i j h1 h2=>?_⟩) ?_)
 ·rintro k c st' hk1 hk2 ⟨rfl,b',u'⟩
  rw [Nat.min_eq_left (by lia)] at u'
  have hks:k<(arrOf st').size:=by rw [b'.perm.size_eq];lia
  refine wpS_bind (wpS_mono (wpS_forRange (fun x c st2=>st2=st' /\ ∃ l r,c=(none,l,r)/\l<=r/\r<=k/\r-l<=k-x/\(∀ i,i<l->kR ws (arrOf st') i<kR ws (arrOf st') k) /\ ∀ i,r<=i->i<k->kR ws (arrOf st') k<kR ws (arrOf st') i)
   (Q:=fun c st2=>st2=st' /\ ∃ l r,c=(none,l,r)/\l<=k/\(∀ i,i<l->kR ws (arrOf st') i<kR ws (arrOf st') k) /\ ∀ i,l<=i->i<k->kR ws (arrOf st') k<kR ws (arrOf st') i) ?_ ?_ ⟨rfl,0,k,rfl,by lia,by lia,by lia,fun i h1=>by lia,fun i h1 h2=>by lia⟩) ?_)
  ·rintro x c st2 _ hx ⟨rfl,l,r,rfl,h1,h2,h3,h4,h5⟩
   dsimp only
   by_cases z:l>=r
   ·rw [if_pos z]
    have e:l=r:=by lia
    subst e
    exact wpS_pure ⟨rfl,l,l,rfl,h2,h4,h5⟩
   ·rw [if_neg z]
    refine wpS_bind (C.cmp b' (by lia) (by lia) (by lia) ?_)
    by_cases z2:kR ws (arrOf st2) k<kR ws (arrOf st2) ((l+r)/2)
    ·simp only [z2,decide_true,if_true]
     refine wpS_pure ⟨rfl,l,(l+r)/2,rfl,by lia,by lia,by lia,h4,fun i h6 h7=>?_⟩
     by_cases z3:(l+r)/2=i
     ·rw [<- z3];exact z2
     ·exact Nat.lt_trans z2 (u' _ i (by lia) h7)
    ·simp only [z2,decide_false,bF1,if_false]
     refine wpS_pure ⟨rfl,(l+r)/2+1,r,rfl,by lia,by lia,by lia,fun i h6=>?_,h5⟩
     have z4:kR ws (arrOf st2) ((l+r)/2)<kR ws (arrOf st2) k:=by
      have:kR ws (arrOf st2) k≠kR ws (arrOf st2) ((l+r)/2):=fun e=>by have:=C.inj b'.perm (by lia) (by lia) e;lia
      lia
     by_cases z3:i=(l+r)/2
     ·rw [z3];exact z4
     ·exact Nat.lt_trans (u' i _ (by lia) (by lia)) z4
  ·rintro c st2 ⟨rfl,l,r,rfl,h1,h2,h3,h4,h5⟩
   have e:l=r:=by lia
   subst e
   exact ⟨rfl,l,l,rfl,h2,h4,h5⟩
  ·rintro c st2 ⟨rfl,l,r,rfl,h1,h2,h3⟩
   show wpS _ _ _ _ (do moveDown' k l;pure (ForInStep.yield (none,()))) _ _
   rw [moveDown'_eq]
   refine wpS_bind (wpS_modify (wpS_pure ⟨rfl,b'.arr (bubble_perm _ _ _),?_⟩))
   rw [Nat.min_eq_left (by lia)]
   have g:∀ i,kR ws (bubble (arrOf st2) k (k-l)) i=if i=l then kR ws (arrOf st2) k else if l<i/\i<=k then kR ws (arrOf st2) (i-1) else kR ws (arrOf st2) i:=fun i=>by
    have e:=getElem?_bubble hks (k-l) (by lia) i
    rw [show k-(k-l)=l by lia] at e
    by_cases z1:i=l
    ·rw [if_pos z1] at e ⊢;exact qd4 e
    ·rw [if_neg z1] at e ⊢
     by_cases z2:l<i/\i<=k
     ·rw [if_pos z2] at e ⊢;exact qd4 e
     ·rw [if_neg z2] at e ⊢;exact qd4 e
   intro i j h4 h5
   show kR ws (bubble (arrOf st2) k (k-l)) i<kR ws (bubble (arrOf st2) k (k-l)) j
   rw [g,g]
   repeat' split
   all_goals first
    | (exfalso;lia)
    | exact h2 _ (by lia)
    | exact h3 _ (by lia) (by lia)
    | exact u' _ _ (by lia) (by lia)
 ·rintro c st' ⟨hc,b',u'⟩
  refine ⟨hc,b',?_⟩
  rwa [show min (max (max ok 1) n) n=n by lia] at u'
 ·by_cases z:ok=0
  ·lia
  ·exact u i j h1 (by lia)
 ·rintro c st' ⟨rfl,b',u'⟩
  exact wpS_pure (h st' b' u')
theorem qn0 (C:SoC prog w A s κ ws a₀){st:SortSt}{Q:Unit->SortSt->Prop}(b:SoB κ a₀ st)(h2:2<=a₀.size)(h64:a₀.size<64)
  (h:∀ st',(arrOf st').Perm a₀->failedOf st'=none->Up ws (arrOf st') a₀.size->Q () st'):wpS (model prog w) A E s sortRuns' Q st:=by
 rw [sortRuns'_eq]
 refine wpS_bind (wpS_get ?_)
 dsimp only
 have hmr:minRun' a₀.size a₀.size 0=a₀.size:=by
  generalize hz:a₀.size=z at *
  cases z with
  | zero=>lia
  | succ f=>rw [minRun'_succ,if_pos h64]
 simp only [b.perm.size_eq,hmr]
 have done:∀ st',SoB κ a₀ st'->Up ws (arrOf st') a₀.size->(arrOf (setPending st' ((pendingOf st').push (0,a₀.size,0)))).Perm a₀/\failedOf (setPending st' ((pendingOf st').push (0,a₀.size,0)))=none/\pendingOf (setPending st' ((pendingOf st').push (0,a₀.size,0))) = #[(0,a₀.size,0)]/\Up ws (arrOf (setPending st' ((pendingOf st').push (0,a₀.size,0)))) a₀.size:=fun st' b' u'=>
  ⟨b'.perm,b'.failed,by show (pendingOf st').push _=_;rw [b'.pend];rfl,u'⟩
 refine wpS_bind (wpS_mono (wpS_forRange
  (fun x c st'=>(x=0/\c=(none,0)/\SoB κ a₀ st')\/(1<=x/\c=(none,a₀.size)/\(arrOf st').Perm a₀/\failedOf st'=none/\pendingOf st' = #[(0,a₀.size,0)]/\Up ws (arrOf st') a₀.size))
  (Q:=fun c st'=>c=(none,a₀.size)/\(arrOf st').Perm a₀/\failedOf st'=none/\pendingOf st' = #[(0,a₀.size,0)]/\Up ws (arrOf st') a₀.size) ?_ ?_ (.inl ⟨rfl,rfl,b⟩)) ?_)
 ·rintro x c st' _ hx (⟨rfl,rfl,b'⟩ | ⟨hx1,rfl,D⟩)
  ·dsimp only
   rw [if_neg (by lia)]
   simp only [Nat.sub_zero,Nat.min_self,Nat.zero_add]
   refine wpS_bind (qnX C (nR1 _) (by lia) b' fun m st2 b2 hm u2=>?_)
   dsimp only
   by_cases z:m<a₀.size
   ·rw [if_pos z]
    refine wpS_bind (wpS_lift (wpAny_rule ⟨rfl,?_⟩))
    refine wpS_bind (qnZ C (nR1 _) hm b2 u2 fun st3 b3 u3=>?_)
    simp only [Bool.not_true,bF1,if_false]
    refine wpS_bind (wpS_get ?_)
    rw [b3.pend]
    exact wpS_bind (wpS_modify (wpS_pure (.inr ⟨by lia,rfl,done st3 b3 u3⟩)))
   ·rw [if_neg z]
    have e:m=a₀.size:=by lia
    subst e
    refine wpS_bind (wpS_get ?_)
    rw [b2.pend]
    exact wpS_bind (wpS_modify (wpS_pure (.inr ⟨by lia,rfl,done st2 b2 u2⟩)))
  ·dsimp only
   rw [if_pos (nR1 _)]
   exact wpS_pure ⟨rfl,D⟩
 ·rintro c st' (⟨hx,_⟩ | ⟨_,hc,D⟩)
  ·lia
  ·exact ⟨hc,D⟩
 ·rintro c st' ⟨rfl,D⟩
  dsimp only
  refine wpS_bind (wpS_mono (wpS_forRange (fun _ c st2=>st2=st'/\c=(none,())) (Q:=fun c st2=>st2=st'/\c=(none,())) ?_ (fun _ _ hh=>hh) ⟨rfl,rfl⟩) ?_)
  ·rintro x c st2 _ _ ⟨rfl,rfl⟩
   refine wpS_bind (wpS_get ?_)
   rw [if_pos (by rw [D.2.2.1];exact nR1 1)]
   exact wpS_pure ⟨rfl,rfl⟩
  ·rintro c st2 ⟨rfl,rfl⟩
   exact wpS_pure (h _ D.1 D.2.1 D.2.2.2)
theorem qnY (C:SoC prog w A s κ ws (pairsOf vs)){xs:Array Keyed}(p:xs.Perm (pairsOf vs))(u:Up ws xs (pairsOf vs).size):xs.map (·.2)=ws.toArray:=by
 have hl:ws.length=(pairsOf vs).size:=by rw [<- C.keys.length_eq,lM1];simp
 have hge:∀ i,i<(pairsOf vs).size->i<=kR ws xs i:=by
  intro i
  induction i with
  | zero=>intro _;lia
  | succ i ih=>intro h;have:=ih (by lia);have:=u i (i+1) (by lia) h;lia
 have hle:∀ d i,i+d+1=(pairsOf vs).size->kR ws xs i<=i:=by
  intro d
  induction d with
  | zero=>
   intro i h
   obtain ⟨x,q,_,f⟩:=C.at_ p (i:=i) (by lia)
   have:=(gE1.mp f).1
   lia
  | succ d ih=>
   intro i h
   have:=ih (i+1) (by lia)
   have:=u i (i+1) (by lia) (by lia)
   lia
 apply Array.ext
 ·rw [Array.size_map,p.size_eq,<- hl];simp
 ·intro i h1 h2
  rw [Array.size_map,p.size_eq] at h1
  have hk:kR ws xs i=i:=Nat.le_antisymm (hle ((pairsOf vs).size-1-i) i (by lia)) (hge i h1)
  obtain ⟨x,q,e,f⟩:=C.at_ p h1
  rw [hk] at f
  have hm:(x,q)∈(pairsOf vs).toList:=(Array.perm_iff_toList_perm.mp p).mem_iff.mp (Array.mem_toList_iff.mpr (Array.mem_of_getElem? e))
  rw [pairsOf_toList] at hm
  have hq:x=q:=(mem_zip_self hm).1
  have g1:(xs.map (·.2))[i]? = some q:=by rw [Array.getElem?_map,e];rfl
  have g2:ws.toArray[i]? = some x:=by rw [List.getElem?_toArray];exact f
  rw [aG1 (by rw [Array.size_map,p.size_eq];exact h1)] at g1
  rw [aG1 h2] at g2
  rw [Option.some.inj g1,Option.some.inj g2,hq]
end
section
variable {prog:Program} {w:World} {A:Around} {E:Value->Shared->Prop} {s:Shared}
theorem qf1 (f:Bool)(x y:Value):keyLt' (tuples' f) x y=(do
  let xs<-Builtin.List.listItems x
  let ys<-Builtin.List.listItems y
  for ((p,q),i) in (xs.toList.zip ys.toList).zipIdx do
   if !(<- eqBool p q) then return<-oneLt' (f&&i == 0) p q
  return decide (xs.size<ys.size)):=rfl
end
section
variable {prog:Program} {w:World} {A:Around} {E:Value->Shared->Prop} {s:Shared}
theorem qgL {M:Model}{α β:Type}{f:α->Sem β}{P:α->β->Prop}:∀ {l:List α} {Q:List β->Shared->Prop},(∀ v∈l,∃ r,P v r /\ ∀ Q:β->Shared->Prop,Q r s->wpAny M A (f v) Q E s) ->
  (∀ rs,rs.length=l.length->(∀ r∈rs,∃ v∈l,P v r)->Q rs s)->wpAny M A (l.mapM f) Q E s
 | [],Q,_,q=>by rw [List.mapM_nil];exact wP1 (q [] rfl fun r hr=>by cases hr)
 | v::l,Q,h,q=>by
  rw [List.mapM_cons]
  obtain ⟨r,p,hr⟩:=h v mS1
  refine wB1 (hr _ ?_)
  refine wB1 (qgL (fun v hv=>h v (mC1 _ hv)) fun rs hl hm=>?_)
  refine wP1 (q (r::rs) (by rw [lC1,lC1,hl]) fun x hx=>?_)
  rcases List.mem_cons.mp hx with z | z
  ·exact ⟨v,mS1,by rw [z];exact p⟩
  ·obtain ⟨v',h1,h2⟩:=hm x z
   exact ⟨v',mC1 _ h1,h2⟩
theorem qlb (v:Value):firstOfTuple' v=(do
  if (<- typeOf v) != .type "tuple" then return none
  return (<- Builtin.List.listItems v)[0]?):=rfl
theorem qmd {a:Addr}{vs ws:List Value}{n:Nat}{κ:SortKind}{P:Fin->Shared->Prop}(ho:s.heap.get? a=some (seqObj "list" vs.toArray n))(h64:vs.length<64)(hp:vs.Perm ws)
  (hC:∀ h',(∀ b o,b≠a->s.heap.get? b=some o->h'.get? b=some o)->2<=vs.length->SoC prog w A {s with heap:=h'} κ ws (pairsOf vs) /\ ∀ Q:SortKind->Shared->Prop,Q κ {s with heap:=h'}->wpAny (model prog w) A (keyKind' vs.toArray) Q E {s with heap:=h'})
  (h:P (.done (.ret .none)) {s with heap:=sortedHeap s.heap a vs ws.toArray}):wpAny (model prog w) A (Builtin.«list.sort» ⟨[.ref a],[]⟩) P E s:=by
 rw [list_sort_plain]
 have ha:a<s.heap.objs.size:=hL1 ho
 refine wB1 (listItems_at ho rfl ?_)
 refine wB1 (listUpdate_at ho rfl ?_)
 obtain ⟨e1,ho1⟩:∃ e1,(s.heap.update a (Obj.mapSeq fun _=> #[])).get? a=some (seqObj "list" #[] e1):=⟨_,get?_update_seq ho (fun _=> #[])⟩
 refine wB1 (seqEpoch_at ho1 rfl (wB1 (wpAny_newTuple (wB1 (wpAny_newList (wpAny_holding ?_))))))
 have keep:∀ b o,b≠a->s.heap.get? b=some o->(((s.heap.update a (Obj.mapSeq fun _=> #[])).push (seqObj "tuple" vs.toArray 0)).push (seqObj "list" #[] 0)).get? b=some o:=fun b o hb e=>
  hP1 _ (hP1 _ (by rw [hU1 _ _ _ _ hb];exact e))
 have ho6:(((s.heap.update a (Obj.mapSeq fun _=> #[])).push (seqObj "tuple" vs.toArray 0)).push (seqObj "list" #[] 0)).get? a=some (seqObj "list" #[] e1):=hP1 _ (hP1 _ ho1)
 show wpAny (model prog w) A _ P E {s with heap:=((s.heap.update a (Obj.mapSeq fun _=> #[])).push (seqObj "tuple" vs.toArray 0)).push (seqObj "list" #[] 0)}
 dsimp only
 have hsz:vs.toArray.size=vs.length:=by simp
 have hpl:=hp.length_eq
 have fin:∀ xs:Array Keyed,xs.map (·.2)=ws.toArray->P (.done (.ret .none)) {s with heap:=sortedHeap s.heap a vs (xs.map (·.2))}:=fun xs e=>by rw [e];exact h
 by_cases h2:vs.toArray.size<2
 ·rw [if_pos h2,if_pos h2]
  refine wB1 (wP1 ?_)
  rw [StateT.run_pure]
  refine wB1 (wP1 (wB1 (seqEpoch_at ho6 rfl ?_)))
  have e:((vs.toArray.zip vs.toArray).map (·.2):Array Value)=ws.toArray:=by
   have:vs=ws:=by
    match vs,ws,hp,h2 with
    | [],ws,hp,_=>exact (List.nil_perm.mp hp).symm
    | [x],ws,hp,_=>exact (List.singleton_perm.mp hp).symm ▸ rfl
    | _::_::_,_,_,h2=>simp at h2;lia
   subst this
   apply Array.ext'
   simp
   exact List.map_snd_zip (nR1 _)
  refine wB1 (listUpdate_at ho6 rfl ?_ (hsz2:=by
   show (Array.map (·.2) (vs.toArray.zip vs.toArray)).size<=_
   rw [e,sT1,<- hpl,sizeLine_eq];lia))
  simp only [bne_self_eq_false,bF1,if_false]
  exact wP1 (fin _ e)
 ·rw [if_neg h2,if_neg h2]
  obtain ⟨C,K⟩:=hC _ keep (by lia)
  refine wB1 (K _ ?_)
  refine wB1 (wpAny_mono (qn0 C (st:=SortSt.mk' κ (vs.toArray.zip vs.toArray) #[] 7 none)
   (Q:=fun _ st'=>(arrOf st').Perm (pairsOf vs)/\failedOf st'=none/\Up ws (arrOf st') (pairsOf vs).size) ⟨Array.Perm.refl _,rfl,rfl,rfl⟩ (by rw [pairsOf_size];lia) (by rw [pairsOf_size];exact h64) fun st' a1 a2 a3=>⟨a1,a2,a3⟩) ?_ fun _ _ e=>e)
  rintro ⟨⟨⟩,st'⟩ s' ⟨rfl,hq,hf,hu⟩
  have e:=qnY C hq hu
  refine wB1 (seqEpoch_at ho6 rfl ?_)
  refine wB1 (listUpdate_at ho6 rfl ?_ (hsz2:=by
   show (Array.map (·.2) (arrOf st')).size<=_
   rw [e,sT1,<- hpl,sizeLine_eq];lia))
  rw [hf]
  simp only [bne_self_eq_false,bF1,if_false]
  exact wP1 (fin _ e)
end
section
variable {prog:Program} {w:World} {A:Around} {E:Value->Shared->Prop} {s:Shared}
end
section
variable {prog:Program} {w:World} {A:Around} {E:Value->Shared->Prop} {R:Result->Shared->Prop}
end
section
variable {prog:Program} {w:World} {A:Around} {E:Value->Shared->Prop} {s:Shared}
end
section
variable {X:Cx}
end
section
variable {X:Cx}
end
section
variable {prog:Program} {w:World} {A:Around} {E:Value->Shared->Prop} {s:Shared}
end
section
variable {prog:Program} {w:World} {A:Around} {E:Value->Shared->Prop} {R:Result->Shared->Prop}
end
section
variable {X:Cx}
end
section
variable {X:Cx}
end
section
variable {X:Cx} {pins:List (Addr×Obj)} {σ:L2.St} {H:Hp} {s:Shared} {a:Addr} {u v:HO}
end
section
variable {K:Fg1} {H H':Hp} {mu mu':List Addr} {S:Sto} {n:Nat} {a:Addr} {o:Obj} {u:HO}
end
noncomputable def Ris (xs:Array Nat):Prop:=xs.toList.Pairwise (· < ·)
structure TS (l:Bool)(t:SetTable):Prop where
 up:Ris t.place
 du:t.dummies = #[]
 ld:t.led=l
noncomputable def kOf (e:Int×Value):Int:=match e.2 with
 | .int k _=>k
 | _=>0
structure Els (es:Array (Int×Value))(ns:List Int):Prop where
 el:∀ e∈es.toList,∃ k t,e=(hashInt k,Value.int k t)
 pm:(es.toList.map kOf).Perm ns
theorem Els.size {es:Array (Int×Value)}{ns:List Int}(h:Els es ns):es.size=ns.length:=by
 have:=h.pm.length_eq
 rw [lM1,Array.length_toList] at this
 exact this
noncomputable def stO (es:Array (Int×Value))(ep:Nat)(t:SetTable):Obj:={cls:=.type "set",dict:=none,data:=.set es ep t,slots:= #[]}
section
variable {P:Program} {w:World} {A:Around} {E:Value->Shared->Prop} {s:Shared} {b:Bool} {p:Addr} {ns:List Int}
end
section
variable {P:Program} {w:World} {A:Around} {E:Value->Shared->Prop} {s:Shared}
noncomputable def byT (w:World):Bool:=w.params.followText "set-order"
theorem qmP (x:Value){G:Value->Shared->Prop}(q:G (.ref s.heap.objs.size) {s with heap:=s.heap.push (stO #[] 0 (.fresh 0 0 (!byT w)))}):
  codeAny (model P w) A (.call (.builtin "set.__new__") ⟨[.type "set",x],[]⟩) (wants G E) s:=by
 refine codeAny_of_tree (?_:wpAny _ A.in1 (do checkBuiltinCall "set.__new__" ⟨[.type "set",x],[]⟩;again (.builtin "set.__new__" ⟨[.type "set",x],[]⟩)) _ _ s)
 refine wB1 (wpAny_of_eq (PySem.F.newCall_set_1 x) (wP1 ⟨plainId_quiet PySem.F.plain_set_new _,wD1 PySem.F.entry_set_new (?_:_)⟩))
 rw [Around.under_plainId PySem.F.plain_set_new _];unfold Builtin.«set.__new__» Builtin.Frozenset.newClass
 have hsub:=sub_set_self;obtain ⟨hp,g,d,tk,os⟩:=s;dsimp only
 wp_walk
 refine wpAny_askSetting (wP1 (?_:_));dsimp only;simp only [newObj]
 exact wB1 (wpAny_alloc (wP1 (wP1 q)))
end
section
variable {P:Program} {w:World} {A:Around} {E:Value->Shared->Prop} {b:Bool}
end
section
variable {P:Program} {w:World} {A:Around} {E:Value->Shared->Prop} {s:Shared} {it a:Addr} {f:Value} {i ep:Nat} {es:Array (Int×Value)} {t:SetTable} {pl:List Value}
end
section
variable {P:Program} {w:World} {A:Around} {E:Value->Shared->Prop} {s:Shared} {it a:Addr} {f:Value} {i ep:Nat} {es:Array (Int×Value)} {t:SetTable} {pl:List Value}
end
section
variable {P:Program} {w:World} {A:Around} {E:Value->Shared->Prop}
end
section
variable {X:Cx}
end
section
variable {X:Cx} {pins:List (Addr×Obj)} {σ:L2.St} {H:Hp} {s:Shared} {a:Addr} {kvs:List (Key×V)} {k:Key} {v:V} {u r:Value} {A:Around} {E:Value->Shared->Prop}
theorem qpF {Q:Value->Shared->Prop}(I:Inv X pins σ H s)(e:H a=some (.dK kvs))(l:kvs.length<sizeLine)(ry:RelV (kV k) u)(rv:RelV v r)
  (h1:∀ z,valV kvs k=some z -> ∀ w' s',Inv X pins σ H s'->RelV z w'->Q w' s')
  (h2:valV kvs k=none -> ∀ s',Inv X pins σ (upd H a (.dK (putK kvs k v))) s'->Q r s'):wpAny (model X.prog X.w) A (call (.builtin "dict.setdefault") [.ref a,u,r]) Q E s:=by
 obtain ⟨z,hd,vs,rel,dd⟩:=qjx I.hok e
 refine call_meetsIn PySem.F.slot_dict_setdefault dd.typeIs PySem.F.entry_dict_setdefault (PySem.F.args_dict_setdefault_3 _ _ _) (kt_meets_setdefault (qaT X.prog X.w) a (qgS ry) hd r) ⟨vs,dd,by rw [<- rel.length];exact z,fun v' hv'=>?_,fun hn h' dd' hs=>?_⟩
 ·cases ev:valV kvs k with
  | none=>
   have:=rel.val k
   rw [ev,hv'] at this
   cases this
  | some z=>
   obtain ⟨w',hw,rw'⟩:=RelO.some_of (v:=z) (o:=valueAt vs k) (by rw [<- ev];exact rel.val k)
   rw [hw] at hv'
   cases hv'
   exact h1 z ev _ _ (I.tok _) rw'
 ·cases ev:valV kvs k with
  | some z=>
   obtain ⟨w',hw,rw'⟩:=RelO.some_of (v:=z) (o:=valueAt vs k) (by rw [<- ev];exact rel.val k)
   rw [hw] at hn
   cases hn
  | none=>
   have hl:(putK kvs k v).length<=sizeLine:=by have:=qch kvs k v;lia
   have he:∃ q,h'.get? a=some q:=let ⟨q,_,_,hq,_⟩:=dd';⟨q,hq⟩
   exact h2 ev _ (qdM I (by rw [e];exact True.intro) hs he (qjy hl hd (rel.put k rv) dd'))
end
noncomputable def tDSD (td ty tx:TE):TE:=fun σ H Q=>td σ H fun x H1=>∃ a,x = .ref a/\IsD H1 a/\ty σ H1 fun y H2=>tx σ H2 fun z H3=>∃ kvs k,H3 a=some (.dK kvs)/\kvs.length<sizeLine/\y=kV k /\
 (∀ v,valV kvs k=some v->Q v H3)/\(valV kvs k=none->Q z (upd H3 a (.dK (putK kvs k z))))
section
variable {X:Cx}
theorem qoy {o e f:Expr}{apos cpos:Pos}{td ty tx:TE}(ho:PE X o td)(he:PE X e ty)(hf:PE X f tx)(m:M2 X o "setdefault" apos e f cpos):PE X (.Call (.Attribute o "setdefault" apos) [e,f] [] cpos) (tDSD td ty tx):=by
 intro pins s σ H Q I h
 refine wpAny_Call_method m.base m.few m.line PySem.F.plainAttrs_dict PySem.F.slot_dict_setdefault PySem.F.type_dict_setdefault (thn (ho pins s σ H _ I h) fun u s1 ⟨x,H1,I1,rx,a,ex,d,q1⟩=>?_)
 subst ex
 obtain rfl:u=Value.ref a:=rx
 obtain ⟨t1,t2,_⟩:=qps I1 d
 refine ⟨t1,t2,?_⟩
 rw [m.trees]
 refine Calls.callWith_builtin rfl (Calls.evalArgs_plain (Calls.spliced_cons (thn (he pins s1 σ H1 _ I1 q1) fun iv s2 ⟨y,H2,I2,ry,q2⟩=>
  Calls.spliced_cons (thn (hf pins s2 σ H2 _ I2 q2) fun fv s3 ⟨z,H3,I3,rz,kvs,k,ea,el,ey,q3,q4⟩=>Calls.spliced_nil ?_))))
 subst ey
 exact qpF I3 ea el ry rz (fun v l w' s' I' r'=>⟨v,H3,I',r',q3 v l⟩) fun l s' I'=>⟨z,_,I',rz,q4 l⟩
noncomputable def qfX (m a b:FE):FE:=fun r S=>(m r S).bind fun p=>match p.1 with
 | .ref n=>match p.2[n]? with
  | some (.dct _)=>(a r p.2).bind fun q=>(b r q.2).bind fun t=>match t.2[n]? with
   | some (.dct kvs)=>(keyD q.1).bind fun k=>if kvs.length<sizeLine then some (match qak kvs k with | some z=>(z,t.2) | none=>(t.1,t.2.set n (.dct (putD kvs k t.1)))) else none
   | _=>none
  | _=>none
 | _=>none
theorem ql0 {o e f:Expr} {apos cpos:Pos} {m a b:FE} (ho:XE X o m) (he:XE X e a) (hf:XE X f b) (hm:M2 X o "setdefault" apos e f cpos:=by exact ⟨rfl,rfl,rfl,rfl⟩):XE X (.Call (.Attribute o "setdefault" apos) [e,f] [] cpos) (qfX m a b):=
 ⟨qbj (qoy ho.h he.h hf.h hm) <| by
  rintro σ H Q ⟨r,mu,S,d,S',he,hs,hm,hc⟩
  obtain ⟨⟨d1,S1⟩,e1,hm⟩:=oB1.mp hm
  refine ⟨r,mu,S,d1,S1,he,hs,e1,fun v1 H1 mu1 x1 r1 s1=>?_⟩
  dsimp only at hm
  split at hm
  ·rename_i n
   split at hm
   ·rename_i kv0 en0
    cases r1 with
    | @ref _ ad hn=>
     refine ⟨ad,rfl,qpr s1 hn en0,?_⟩
     obtain ⟨⟨d2,S2⟩,e2,hm⟩:=oB1.mp hm
     obtain ⟨⟨d3,S3⟩,e3,hm⟩:=oB1.mp hm
     refine ⟨r,mu1,S1,d2,S2,he.ext x1,s1,e2,fun v2 H2 mu2 x2 r2 s2=>?_⟩
     refine ⟨r,mu2,S2,d3,S3,(he.ext x1).ext x2,s2,e3,fun v3 H3 mu3 x3 r3 s3=>?_⟩
     dsimp only at hm
     split at hm
     ·rename_i kvs en
      obtain ⟨k,ek,hm⟩:=oB1.mp hm
      split at hm
      ·rename_i hl
       have hm:=Option.some.inj hm
       have hn3:=x3.at (x2.at hn)
       obtain ⟨ws,hw,hk⟩:=s3.dct en hn3
       have lk:=hk.look (k:=k)
       refine ⟨ws,k,hw,by rw [<- hk.length];exact hl,qdI (r2.ext x3) ek,fun v ev=>?_,fun ev=>?_⟩
       ·cases e:qak kvs k with
        | none=>have:=lk.2;rw [e] at this;simp [ev] at this
        | some z=>
         rw [e] at hm
         cases hm
         obtain ⟨v',ev',rv⟩:=lk.1 _ e
         rw [ev] at ev'
         cases ev'
         exact hc _ H3 mu3 ((x1.trans x2).trans x3) rv s3
       ·cases e:qak kvs k with
        | some z=>
         obtain ⟨v',ev',rv⟩:=lk.1 _ e
         rw [ev] at ev'
         cases ev'
        | none=>
         rw [e] at hm
         cases hm
         have put:Ext mu3 mu3 H3 (upd H3 _ (.dK (putK ws k v3))):=Ext.put hw trivial (gM1 hn3)
         exact hc _ _ mu3 (((x1.trans x2).trans x3).trans put) (r3.ext put) (s3.put hn3 hw trivial ⟨_,qat,(hk.put r3).ext put⟩)
      ·cases hm
     ·cases hm
   ·cases hm
  ·cases hm⟩
end
open AutoSeq1 (wpAny_loadPart')
section
variable {prog:Program} {w:World} {A:Around} {E:Value->Shared->Prop} {s:Shared}
theorem qg2 {Q:List Value->Shared->Prop}{r:Addr}{a b c:Int}{t u v:Tok}{n:Nat}(hh:A.handled=none)(hr:IsRange s.heap r a b c t u v)(hsmall:Builtin.Range.small a b c=true)
  (hn:Builtin.Range.rangeSize a b c=n) (hlen:n<=2^24)
  (hQ:∀ h' tk acc,(∀ b o',s.heap.get? b=some o'->h'.get? b=some o')->ItemsOf (fun i v=>∃ t,v = .int (a+i*c) t) acc n->Q acc.toList {s with heap:=h',toks:=tk}):
  wpAny (model prog w) A (collect (.ref r)) Q E s:=by
 unfold collect
 refine wB1 (wpAny_runValue (wD1 F.entry_proto_collect (?_:_)))
 rw [Around.under_plainId F.plain_proto_collect _]
 show wpAny _ A.in1 (newList [] >>= fun l=>again (.builtin "list.__iadd__" ⟨[l,.ref r],[]⟩)) _ _ s
 refine wB1 (wO1 (?_:_))
 refine wP1 ⟨plainId_quiet F.plain_list_iadd _,wD1 F.entry_list_iadd (?_:_)⟩
 rw [Around.under_plainId F.plain_list_iadd _]
 show wpAny _ A.in1 (Builtin.List.listExtendWith (.ref s.heap.objs.size) (.ref r) (.ref s.heap.objs.size)) _ _ _
 have hS:(s.heap.push {cls:=.type "list",data:=.seq ([]:List Value).toArray}).get? s.heap.objs.size=some {cls:=.type "list",data:=.seq #[] 0}:=hS1 _ rfl
 have fin':∀ h' tk acc c',(∀ b o',s.heap.get? b=some o'->h'.get? b=some o')->h'.get? s.heap.objs.size=some {cls:=.type "list",dict:=none,data:=.seq acc c',slots:= #[]}->ItemsOf (fun i v=>∃ t,v = .int (a+i*c) t) acc n ->
   wpAny (model prog w) A (match Value.ref s.heap.objs.size with
   | Value.ref a=>do
    match (<- load a).data with
     | Data.seq xs _=>pure xs.toList
     | _=>unsupported "internal:collect"
   | _=>unsupported "internal:collect") Q E {s with heap:=h',toks:=tk}:=by
  intro h' tk acc c' hk hS' ha
  show wpAny _ A (load s.heap.objs.size >>= _) _ _ _
  refine wB1 (wpAny_load hS' (?_:_))
  refine wP1 (?_:_)
  exact hQ h' tk acc hk ha
 refine wpAny_mono (wpAny_extend_range (A:=A) (R:=fun r' s'=>∃ h' tk acc c',r' = .ok (.ret (.ref s.heap.objs.size))/\s'={s with heap:=h',toks:=tk}/\(∀ b o',s.heap.get? b=some o'->h'.get? b=some o')/\h'.get? s.heap.objs.size=some {cls:=.type "list",dict:=none,data:=.seq acc c',slots:= #[]}/\ItemsOf (fun i v=>∃ t,v = .int (a+i*c) t) acc n)
  (s:={s with heap:=s.heap.push {cls:=.type "list",data:=.seq ([]:List Value).toArray}}) hh (hP1 _ hr) hsmall hn hlen _ _ 0 hS fun h' tk acc c' hk hS' ha=>
   ⟨h',tk,acc,c',rfl,rfl,fun b o e=>hk b o (nN1 (hL1 e)) (hP1 _ e),hS',ha⟩) (fun fin s' h=>?_) (fun e s' h=>?_)
 ·cases fin with
  | done f=>
   obtain ⟨h',tk,acc,c',e,rfl,q⟩:=h
   cases e
   exact fin' h' tk acc c' q.1 q.2.1 q.2.2
  | again c'=>exact ⟨h.1,codeAny_mono h.2 fun r s'' hr=>by obtain ⟨h',tk,acc,c',rfl,rfl,q⟩:=hr;exact fin' h' tk acc c' q.1 q.2.1 q.2.2⟩
 ·obtain ⟨_,_,_,_,e,_⟩:=h
  cases e
end
theorem qh4 (r:Addr)(a b c:Int)(t u v:Tok)(n:Nat)(hsmall:Builtin.Range.small a b c=true)(hn:Builtin.Range.rangeSize a b c=n)(hlen:n<=2^20):
  Meets (Builtin.«tuple.__new__» ⟨[.type "tuple",.ref r],[]⟩)
   (fun A R s=>A.handled=none/\IsRange s.heap r a b c t u v /\ ∀ (h':Heap) (tk:Nat) (acc:Array Value),(∀ b o',s.heap.get? b=some o'->h'.get? b=some o')->ItemsOf (fun i v=>∃ t,v = .int (a+i*c) t) acc n ->
    R (.ok (.ret (.ref h'.objs.size))) {s with heap:=h'.push {cls:=.type "tuple",data:=.seq acc},toks:=tk}):=
 .of_wp fun prog w A R s h=>by
  obtain ⟨hp,g,d,tk0,os⟩:=s;obtain ⟨hh,ht,h⟩:=h
  have hsub:=sub_tuple_self
  have hinit:=init_tuple_lookup
  have hmh:=madeHere_tuple
  have hT:Shared.TypeIs ⟨hp,g,d,tk0,os⟩ (.ref r) "range":=⟨_,ht,rfl⟩
  have hh1:A.in1.handled=none:=hh
  wp_walk using wpAny_loadPart' ht,wpAny_typeOf hT,qg2 hh1 ht hsmall hn (Nat.le_trans hlen (by decide))
  intro h' tk acc hk ha
  show wpAny _ _ (Builtin.Tuple.tupleExact acc.toList.toArray >>= fun v=>ret v) _ _ _
  unfold Builtin.Tuple.tupleExact
  have hz:n<=sizeLine:=Nat.le_trans hlen (by decide)
  refine wB1 (wO1 (?_:_) (show acc.toList.toArray.size<=sizeLine by simp only [Array.toArray_toList];rw [ha.1];exact hz))
  refine wP1 ⟨_,rfl,(?_:_)⟩
  have e:acc.toList.toArray=acc:=by simp
  rw [e]
  exact h h' tk acc hk ha
section
variable {X:Cx}
theorem qpK (hc:X.calm=true):qbE X (.type "tuple") (fun xs H Q=>∃ p i j,xs=[.ref p]/\H p=some (.rng i j)/\(-(2^62)<=i/\i<2^62 /\ -(2^62)<=j/\j<2^62)/\(j-i).toNat<=2^20 /\ ∀ l,H l=none->Q (.ref l) (upd H l (.tup (rngV i (j-i).toNat)))):=by
 intro pins s σ H xs us Q I r h
 obtain ⟨p,i,j,rfl,hp,⟨h1,h2,h3,h4⟩,hl,q⟩:=h
 obtain ⟨u,rfl,ru⟩:=qez r
 cases ru
 obtain ⟨t,u,v,e⟩:=I.hok p _ hp
 have hz:(((j-i).toNat:Nat):Int)=Builtin.Range.rangeSize i j 1:=by rw [rangeSize_one];split<;>lia
 refine callType_new F.called_tuple (by decide) (F.typeCall_tuple_1 _) (F.newCall_tuple_1 _) (fun obj=>F.args_object_init_2 obj _) F.entry_tuple_new
  (qh4 p i j 1 t u v (j-i).toNat (small_one h1 h2 h3 h4) hz.symm hl) ⟨I.ok.hd hc,e,fun h' tk acc hk hi=>⟨⟨_,hS1 _ rfl,rfl⟩,(?_:_)⟩⟩
 obtain ⟨hsz,hval⟩:=hi
 have vals:Vals (rngV i (j-i).toNat) acc.toList:=qgr (by rw [qdh];simpa using hsz.symm) fun k x u hx hu=>by
  rw [qe7 _ _ _ _ hx]
  obtain ⟨t',rfl⟩:=hval k u (by simpa using hu)
  exact ⟨t',by rw [Int.mul_one]⟩
 have I1:Inv X pins σ H {s with heap:=h',toks:=tk}:=I.kept (t':=tk) hk
 have I2:Inv X pins σ (upd H h'.objs.size (.tup (rngV i (j-i).toNat))) {s with heap:=h'.push {cls:=.type "tuple",data:=.seq acc},toks:=tk}:=
  I1.laid (t':=tk) (fun b o e=>hP1 _ e) (nR1 _) (show qbL X.prog X.w _ _ _ (.tup _) from ⟨by rw [qdh];exact Nat.le_trans hl (by decide),acc.toList,vals,by simpa using IsTup.new _ _⟩)
 exact ⟨.ref h'.objs.size,_,I2,rfl,q _ (I1.hok.fresh (nR1 _))⟩
noncomputable def mTR1 (m:FA):FE:=fun r S=>(m r S).bind fun p=>match p.1 with
 | [.int j]=>if qfH 0 j=true then some (.tup (nums 0 j.toNat),p.2) else none
 | _=>none
theorem qj1 {a:Expr}{m:FA}{p1 p2 pos1 pos2:Pos}(hc:X.calm=true)(hg:Gl X "range")(hm:X.mg "range"=none)(hg2:Gl X "tuple")(hm2:X.mg "tuple"=none)(ha:XA X [a] m)(hs:starEach [a] X.env=[(false,eval a X.env)]:=by rfl)
  (hs2:starEach [.Call (.Name "range" p1) [a] [] pos1] X.env=[(false,eval (.Call (.Name "range" p1) [a] [] pos1) X.env)]:=by rfl):XE X (.Call (.Name "tuple" p2) [.Call (.Name "range" p1) [a] [] pos1] [] pos2) (mTR1 m):=
 ⟨qbj (qef (qpK hc) hg2 hm2 (by decide+kernel) (qgy (qfL hg hm ha.h hs) qiO hs2) (by decide) (by decide) hs2) <| by
  rintro σ H Q ⟨r,mu,S,d,S',he,hs,hm,hcc⟩
  obtain ⟨⟨ds,S1⟩,e1,hm⟩:=oB1.mp hm
  dsimp only at hm
  split at hm
  ·rename_i j
   split at hm
   ·rename_i hb
    cases hm
    refine ⟨r,mu,S,_,_,he,hs,e1,fun vs H1 mu1 x1 r1 s1=>?_⟩
    obtain ⟨v,rfl,rv⟩:=qd2 r1
    cases rv
    refine ⟨j,rfl,fun p hp=>⟨p,0,j,rfl,qat,(qd0 hb).1,(qd0 hb).2,fun l hl=>?_⟩⟩
    have x2:=(x1.trans (Ext.fresh (u:=.rng 0 j) hp)).trans (Ext.fresh (u:=.tup (rngV 0 (j-0).toNat)) hl)
    exact hcc _ _ mu1 x2 (.tup (SqT.of qat) (by rw [Int.sub_zero];exact qe6 _ _)) ((s1.fresh hp).fresh hl)
   ·cases hm
  ·cases hm⟩
end
section
variable {P:Program} {w:World} {A:Around} {E:Value->Shared->Prop} {s:Shared}
set_option maxHeartbeats 3200000 in
theorem qjM {l:Addr}{its:Array Value}{Q:Value->Shared->Prop}(hl:s.heap.IsTuple l its)
  (run:∀ A':Around,A'.handled=A.handled -> ∀ R:Result->Shared->Prop,(∀ s',Q (.ref s.heap.objs.size) s'->R (.ok (.ret .none)) s') ->
   codeAny (model P w) A' (.builtin "set.update.loop" ⟨[.ref s.heap.objs.size,.ref (s.heap.objs.size+1)],[]⟩) R {s with heap:=(s.heap.push (stO #[] 0 (.fresh 0 0 (!byT w)))).push {cls:=.type "tuple_iterator",data:=.fields #[.ref l,.int 0 0]}}):
  wpAny (model P w) A (call (.type "set") [.ref l]) Q E s:=by
 obtain ⟨cc,tt,hmro⟩:=PySem.F.called_set.mro
 have hmade:=PySem.F.called_set.made;have hsub:=PySem.F.called_set.sub
 refine wpAny_call (codeAny_of_tree (?_:wpAny _ _ (callAny (.type "set") _) _ _ _))
 refine wP1 ⟨Code.quiet_builtin _ (by decide+kernel),wD1 PySem.F.entry_type_call (?_:_)⟩
 rw [Around.under_plain (weight_type_call_type "set" [.ref l] []) rfl];have n1:=PySem.F.called_set.notType;have n2:=PySem.F.called_set.canCreate;have n3:=PySem.F.typeCall_set_1 (.ref l)
 repeat (any_goals (first | wp_step | assumption))
 refine codeAny_mono (qmP (.ref l) (E:=E) (G:=fun x s1=>x = .ref s.heap.objs.size/\s1={s with heap:=s.heap.push (stO #[] 0 (.fresh 0 0 (!byT w)))}) ⟨rfl,rfl⟩) fun r s1 hr=>?_
 cases r with
 | error e=>exact hr
 | ok fl=>
  cases fl with
  | ret x=>
   obtain ⟨rfl,rfl⟩:=hr
   have hS:(s.heap.push (stO #[] 0 (.fresh 0 0 (!byT w)))).get? s.heap.objs.size=some (stO #[] 0 (.fresh 0 0 (!byT w))):=hS1 _ rfl
   have hT:Shared.TypeIs {s with heap:=s.heap.push (stO #[] 0 (.fresh 0 0 (!byT w)))} (.ref s.heap.objs.size) "set":=⟨_,hS,rfl⟩
   have n4:=PySem.F.called_set.init.lookup;have n5:=PySem.F.called_set.init.bind (.ref s.heap.objs.size)
   repeat (any_goals (first | wp_step | assumption))
   refine codeAny_mono (codeAny_call_builtin (R:=wants (fun r s2=>r = .none/\Q (.ref s.heap.objs.size) s2) E) PySem.F.called_set.init.plain PySem.F.entry_set_init (check_set_init_1 hT (?_:_))) fun r2 s2 hr2=>?_
   ·obtain ⟨ol,hol,hcl,nl,hdl⟩:=hl
    obtain ⟨oc,od,oa,os⟩:=ol
    simp only at hcl hdl
    subst hcl;subst hdl
    have k1:(s.heap.push (stO #[] 0 (.fresh 0 0 (!byT w)))).get? l=some {cls:=.type "tuple",dict:=od,data:=.seq its nl,slots:=os}:=hP1 _ hol
    have k2:=PySem.F.sub_tuple_set;have k3:=PySem.F.sub_tuple_frozenset;have k4:(Value.type "tuple" == Value.type "dict")=false:=by decide
    have k5:(s.heap.push (stO #[] 0 (.fresh 0 0 (!byT w)))).IsTuple l its:=⟨_,k1,rfl,nl,rfl⟩
    have hS':(s.heap.push (stO #[] 0 (.fresh 0 0 (!byT w)))).get? s.heap.objs.size=some {cls:=.type "set",dict:=none,data:=.set #[] 0 (.fresh 0 0 (!byT w)),slots:= #[]}:=hS
    unfold Builtin.«set.__init__» noKeywords Builtin.Frozenset.updateFrom
    generalize hPI:pyIter=PI
    wp_walk
    subst hPI
    refine wpAny_pyIter_tuple k5 (wB1 (wpAny_runValue (?_:_)))
    dsimp only
    rw [show (s.heap.push (stO #[] 0 (.fresh 0 0 (!byT w)))).objs.size=s.heap.objs.size+1 from by rw [hZ1]]
    refine run A.in1.in1 (by simp) _ fun s' q=>?_
    exact wP1 (wP1 ⟨rfl,q⟩)
   ·cases r2 with
    | error e=>exact hr2
    | ok f2=>
     cases f2 with
     | ret r=>
      obtain ⟨rfl,q⟩:=hr2
      repeat (any_goals (first | wp_step | assumption))
     | _=>exact hr2.elim
  | _=>exact hr.elim
theorem qid {l:Addr}{its:Array Value}{ns:List Int}{Q:Value->Shared->Prop}(hh:A.handled=none)(hl:s.heap.IsTuple l its)(hI:IntsAre its.toList ns)(hb:its.size+1<scanBound)
  (q:∀ h' tk,(∀ c o,s.heap.get? c=some o->h'.get? c=some o)->h'.SetOf (intKind P w) s.heap.objs.size (fun k'=>(firstMet (fun i=>ns.getD i 0) its.size).any (· == k')) (firstMet (fun i=>ns.getD i 0) its.size).length->Q (.ref s.heap.objs.size) {s with heap:=h',toks:=tk}):wpAny (model P w) A (call (.type "set") [.ref l]) Q E s:=by
 have hlt:l<s.heap.objs.size:=by obtain ⟨o,e,_⟩:=hl;exact hL1 e
 refine qjM hl fun A' hA R hR=>?_
 have z1:(s.heap.push (stO #[] 0 (.fresh 0 0 (!byT w)))).objs.size=s.heap.objs.size+1:=by rw [hZ1]
 have g1:(s.heap.push (stO #[] 0 (.fresh 0 0 (!byT w)))).get? s.heap.objs.size=some (stO #[] 0 (.fresh 0 0 (!byT w))):=hS1 _ rfl
 have hval:∀ (i:Nat) (v:Value),its[i]? = some v -> ∃ t,v = .int ((fun i=>ns.getD i 0) i) t:=fun i v hv=>PyProof.Rows.IntsAre.int_at hI i v (by rw [aT1];exact hv)
 have hSf:s.heap.objs.size∉[s.heap.objs.size+1,l]:=by
  simp only [List.mem_cons,List.mem_singleton,List.not_mem_nil,or_false,not_or]
  exact ⟨nN1 (Nat.lt_succ_self _),nG1 hlt⟩
 have hh3:A'.in1.handled=none:=by simpa using hA.trans hh
 refine PyProof.Rows.codeAny_set_update_loopS ((Walks.tuple hh3 _ l (nN1 (Nat.lt_succ_of_lt hlt)) its).toS) s.heap.objs.size hSf (fun i=>ns.getD i 0) hval hb (its.size-0) 0 _ (by lia) (Nat.zero_le _) ⟨?_,?_⟩ ?_ fun s' hm hS'=>?_
 ·refine ⟨{cls:=.type "tuple_iterator",data:=.fields #[.ref l,.int 0 0]},?_,rfl,rfl⟩
  have this:((s.heap.push (stO #[] 0 (.fresh 0 0 (!byT w)))).push {cls:=.type "tuple_iterator",data:=.fields #[.ref l,.int 0 0]}).get? (s.heap.push (stO #[] 0 (.fresh 0 0 (!byT w)))).objs.size=some {cls:=.type "tuple_iterator",data:=.fields #[.ref l,.int 0 0]}:=hS1 _ rfl
  rw [z1] at this
  exact this
 ·obtain ⟨o,e,r⟩:=hl
  exact ⟨o,hP1 _ (hP1 _ e),r⟩
 ·exact PyProof.Rows.SetOf_congr ((PyProof.Rows.setObjOf_fresh (knd:=intKind P w) (!byT w)).setOf (hP1 _ g1) (by unfold scanBound;lia)) (fun _=>rfl) rfl
 ·obtain ⟨h',g',d',tk',os'⟩:=s'
  have eg:g'=s.gens:=hm.gens
  have ed:d'=s.drawn:=hm.drawn
  have eo:os'=s.os:=hm.os
  subst eg;subst ed;subst eo
  refine hR _ (q h' tk' (fun c o e=>hm.heap c o ?_ (hP1 _ (hP1 _ e))) hS')
  have:=hL1 e
  simp only [List.mem_cons,List.mem_singleton,List.not_mem_nil,or_false,not_or]
  exact ⟨nN1 this,nN1 (Nat.lt_succ_of_lt this)⟩
end
section
variable {X:Cx}
noncomputable def qci:G1:=fun d S=>match qaz S d with
 | some (_,xs)=>(qeP xs).bind fun ns=>if ns.length+1<scanBound then some (.ref S.length,S++[.iset (ddI ns)]) else none
 | _=>none
theorem qlS {k:Nat}(hr:Room k X.A):qbE X (.type "set") (rN X.K (b1 qci)):=by
 intro pins s σ H xs us Q I r h
 have h0:=h
 obtain ⟨x,mu,S,d,r',S',rfl,r1,hs,hm,hc⟩:=rn1 h
 unfold qci at hm
 split at hm
 ·rename_i b ys e1
  cases b with
  | true=>exact qq3 hr pins s σ H _ us Q I r ⟨mu,S,[d],r',S',.cons r1 .nil,hs,(by show qhw d S=_;unfold qhw;rw [e1];exact hm),hc⟩
  | false=>
  obtain ⟨ns,e,hm⟩:=oB1.mp hm
  split at hm
  ·rename_i hl
   cases hm
   obtain ⟨a,vs,rfl,q,t⟩:=qap r1 hs e1
   cases r with
   | cons rv rt=>
    cases rt
    cases rv
    obtain ⟨its,vv,ht,_⟩:=I.tuple q
    obtain ⟨hi,hlen⟩:=qf6 t vv e
    have hsz:its.toArray.size=ns.length:=by rw [sT1,hi.length]
    refine qid (its:=its.toArray) (ns:=ns) hr.hd ht (by simpa using hi) (by rw [hsz];exact hl) fun h' tk hk hS=>?_
    rw [hsz,qhF] at hS
    have nd:(ddI ns).Nodup:=qfu ns [] List.nodup_nil
    have fe:=qdU (ddI ns)
    rw [fe] at hS
    refine ⟨.ref s.heap.objs.size,upd H s.heap.objs.size (.set (fun k=>(ddI ns).contains k) (ddI ns).length),I.laid (fun b u z=>hk b u z) (nR1 _) hS,rfl,?_⟩
    exact hc _ _ (mu++[s.heap.objs.size]) (Ext.new_ I.fresh) (.ref (qce hs.len _)) (hs.new I.fresh ⟨qat,nd⟩)
  ·cases hm
 ·cases hm
end
section
variable {X:Cx} {a b:Expr} {rest:List Expr} {pos:Pos} {ta tb:TE} {f g:FE}
end
section
variable {X:Cx}
theorem KR.len {K:Fg1}{H:Hp}{mu:List Addr}{ks:List (Key×D)}{ws:List (Key×V)}(h:KR K H mu ks ws):ws.length=ks.length:=by
 induction h with
 | nil=>rfl
 | cons _ _ ih=>rw [lC1,lC1,ih]
noncomputable def qgV:G1:=fun d S=>match d with
 | .ref n=>match S[n]? with
  | some (.dct kvs)=>some (.int kvs.length,S)
  | _=>gLen d S
 | _=>gLen d S
theorem qpN:qbE X (.builtin "len") (rN X.K (b1 qgV)):=by
 intro pins s σ H xs us Q I r h
 obtain ⟨x,mu,S,d,r',S',hx,r1,hs,hm,hc⟩:=rn1 h
 have hm0:=hm
 unfold qgV at hm
 split at hm
 ·rename_i n
  split at hm
  ·rename_i ys e
   cases hm
   subst hx
   cases r1 with
   | ref hn=>
    obtain ⟨ws,ha,hk⟩:=hs.dct e hn
    cases r with
    | cons rv rt=>
     cases rt
     cases rv
     refine qqX I (Rd.of ha) fun t s' I'=>⟨.int ws.length,H,I',⟨_,rfl⟩,?_⟩
     rw [hk.len]
     exact hc.now (.int _) hs
  ·exact qa9 pins s σ H xs us Q I r (by subst hx;exact ⟨mu,S,[_],r',S',.cons r1 .nil,hs,(show b1 gLen [_] S=_ from hm),hc⟩)
 ·exact qa9 pins s σ H xs us Q I r (by subst hx;exact ⟨mu,S,[_],r',S',.cons r1 .nil,hs,(show b1 gLen [_] S=_ from hm),hc⟩)
end
section
variable {P:Program} {w:World} {A:Around} {E:Value->Shared->Prop} {b:Bool}
end
section
variable {X:Cx}
end
section
variable {X:Cx}
end
section
variable {prog:Program} {w:World} {A:Around} {E:Value->Shared->Prop} {s:Shared}
theorem qg1 {l:Addr}{vs:List Value}{Q:List Value->Shared->Prop}(hl:s.heap.IsTuple l vs.toArray)
  (h:Q vs {s with heap:=(s.heap.push (seqObj "list" #[] 0)).update s.heap.objs.size (Obj.mapSeq (· ++ vs.toArray))}) (hsz:vs.length<=sizeLine:=by size_fits):
  wpAny (model prog w) A (collect (.ref l)) Q E s:=by
 obtain ⟨o,ho,hc,n,hd⟩:=id hl
 unfold collect
 refine wB1 (wpAny_runValue (wD1 entry_proto_collect' ?_))
 show wpAny _ _ (do again (.builtin "list.__iadd__" ⟨[<- newList [],.ref l],[]⟩)) _ _ s
 refine wB1 (wpAny_newList (wP1 ⟨Code.quiet_builtin _ (by decide+kernel),wD1 entry_list_iadd' ?_⟩))
 show wpAny _ _ (Builtin.List.listExtendWith (.ref s.heap.objs.size) (.ref l) (.ref s.heap.objs.size)) _ _ {s with heap:=s.heap.push (seqObj "list" #[] 0)}
 unfold Builtin.List.listExtendWith
 have ho':(s.heap.push (seqObj "list" #[] 0)).get? l=some o:=hP1 _ ho
 refine wB1 (wpAny_typeOf (T:="tuple") ⟨o,ho',hc⟩ ?_)
 have ht:(Value.type "tuple" == Value.type "tuple")=true:=by rfl
 rw [if_pos (by rw [ht];simp)]
 refine wB1 (listItems_at ho' hd ?_)
 refine wB1 (listItems_at (xs:= #[]) (n:=0) (hS1 _ rfl) rfl ?_)
 rw [if_neg (by simp)]
 refine wB1 (listUpdate_at (xs:= #[]) (n:=0) (hS1 _ rfl) rfl ?_ (Nat.zero_le _) (by show (#[]++vs.toArray).size<=sizeLine+1;simp only [Array.size_append,sT1,List.length_nil];omega))
 refine wP1 ?_
 show wpAny (model prog w) A (do
   let o<-load s.heap.objs.size
   match o.data with
   | .seq xs _=>pure xs.toList
   | _=>unsupported "internal:collect") Q E {s with heap:=(s.heap.push (seqObj "list" #[] 0)).update s.heap.objs.size (Obj.mapSeq (· ++ vs.toArray))}
 refine wB1 (wpAny_load (get?_update_seq (hS1 _ rfl) _) ?_)
 show wpAny _ _ (pure ((#[]:Array Value)++vs.toArray).toList) Q E _
 rw [show ((#[]:Array Value)++vs.toArray).toList=vs by simp]
 exact wP1 h
theorem qeI {l:Addr}{vs:List Value}{Q:Value->Shared->Prop}(hl:s.heap.IsList l vs.toArray\/s.heap.IsTuple l vs.toArray)(h64:vs.length<64)
  (h:∀ P:PySem.Fin->Shared->Prop,(∀ out:Array Value,Q (.ref (s.heap.objs.size+1)) {s with heap:=sortedAll s.heap vs out}->P (.done (.ret .none)) {s with heap:=sortedAll s.heap vs out}) ->
   ∀ E' (h':Heap),h'=(((s.heap.push (seqObj "list" #[] 0)).update s.heap.objs.size (Obj.mapSeq (· ++ vs.toArray))).push (seqObj "list" vs.toArray 0))->h'.get? (s.heap.objs.size+1)=some (seqObj "list" vs.toArray 0) ->
   wpAny (model prog w) A.in1.in1 (Builtin.«list.sort» ⟨[.ref (s.heap.objs.size+1)],[]⟩) P E' {s with heap:=h'}):
  wpAny (model prog w) A (call (.builtin "sorted") [.ref l]) Q E s:=by
 refine Calls.call_function_entry kind_sorted plain_sorted entry_sorted (args_sorted1 _) ?_
 unfold Builtin.«sorted»
 refine wB1 (m:=checkCount "sorted" 1 1 _) (wP1 ?_)
 have go:∀ (E':Value->Shared->Prop) (Q:List Value->Shared->Prop),Q vs {s with heap:=(s.heap.push (seqObj "list" #[] 0)).update s.heap.objs.size (Obj.mapSeq (· ++ vs.toArray))}->wpAny (model prog w) A.in1 (collect (.ref l)) Q E' s:=fun E' Q hq=>by
  rcases hl with hl | hl
  ·exact collect_list hl hq (by rw [sizeLine_eq];omega)
  ·exact qg1 hl hq (by rw [sizeLine_eq];omega)
 refine wB1 (go _ _ ?_)
 refine wB1 (wpAny_newList ?_ (by rw [sizeLine_eq];omega))
 have hsz:((s.heap.push (seqObj "list" #[] 0)).update s.heap.objs.size (Obj.mapSeq (· ++ vs.toArray))).objs.size=s.heap.objs.size+1:=by
  rw [Heap.size_update,size_push']
 have hoL:(((s.heap.push (seqObj "list" #[] 0)).update s.heap.objs.size (Obj.mapSeq (· ++ vs.toArray))).push (seqObj "list" vs.toArray 0)).get? (s.heap.objs.size+1)=some (seqObj "list" vs.toArray 0):=by
  rw [<- hsz];exact hS1 _ rfl
 show wpAny _ _ _ _ _ {s with heap:=((s.heap.push (seqObj "list" #[] 0)).update s.heap.objs.size (Obj.mapSeq (· ++ vs.toArray))).push (seqObj "list" vs.toArray 0)}
 rw [hsz]
 refine wB1 (wpAny_holding (wE1 slot_list_sort ⟨_,hoL,rfl⟩ entry_list_sort (h _ ?_ _ _ rfl hoL) (args_list_sort _)))
 intro out hq
 exact ⟨_,rfl,wP1 ⟨_,rfl,hq⟩⟩
theorem qgR {vs:List Value}{b:Addr}{o:Obj}(q:s.heap.get? b=some o):b≠s.heap.objs.size+1/\(((s.heap.push (seqObj "list" #[] 0)).update s.heap.objs.size (Obj.mapSeq (· ++ vs.toArray))).push (seqObj "list" vs.toArray 0)).get? b=some o:=by
 have hlt:b<s.heap.objs.size:=hL1 q
 have hsz:((s.heap.push (seqObj "list" #[] 0)).update s.heap.objs.size (Obj.mapSeq (· ++ vs.toArray))).objs.size=s.heap.objs.size+1:=by
  rw [Heap.size_update,size_push']
 refine ⟨nN1 (Nat.lt_succ_of_lt hlt),?_⟩
 rw [Heap.get?_push_ne _ _ _ (by rw [hsz];exact nN1 (Nat.lt_succ_of_lt hlt)),hU1 _ _ _ _ (nN1 hlt),Heap.get?_push_ne _ _ _ (nN1 hlt)]
 exact q
theorem qpi {a b:Addr}{k l:Int}{t u:Tok}{us zs:List Value}{Q:Bool->Shared->Prop}(ha:IsTup s.heap a (Value.int k t::us).toArray)(hb:IsTup s.heap b (Value.int l u::zs).toArray)(hne:k≠l)(h:Q (decide (k<l)) s):
  wpAny (model prog w) A (keyLt' (tuples' true) (.ref a) (.ref b)) Q E s:=by
 rw [qf1]
 obtain ⟨o,e1,c1,_,d1⟩:=ha
 obtain ⟨o2,e2,c2,_,d2⟩:=hb
 refine wB1 (listItems_at e1 d1 (wB1 (listItems_at e2 d2 ?_)))
 rw [List.zip_cons_cons,List.zipIdx_cons,List.forIn_cons]
 refine wB1 (wB1 ?_)
 dsimp only
 refine wB1 (wpAny_eqBool_int ?_)
 rw [beq_false_of_ne hne]
 simp only [Bool.not_false,if_true]
 exact wB1 (oneLt_int (wP1 (wP1 (wP1 h))))
theorem qpj {vs:List Value}{Q:SortKind->Shared->Prop}(hne:vs≠[])(h:∀ v∈vs,∃ a k t ps,v = .ref a/\IsTup s.heap a (Value.int k t::ps).toArray)(q:Q (tuples' true) s):
  wpAny (model prog w) A (keyKind' vs.toArray) Q E s:=by
 rw [keyKind'_eq,List.mapM_toArray,<- bind_pure_comp]
 refine wB1 (wB1 (qgL (P:=fun _ r=>∃ k t,r=some (Value.int k t)) (fun v hv=>?_) fun rs hl hr=>wP1 ?_))
 ·obtain ⟨a,k,t,ps,rfl,⟨o,e1,c1,_,d1⟩⟩:=h v hv
  refine ⟨some (.int k t),⟨k,t,rfl⟩,fun Q q=>?_⟩
  rw [qlb]
  refine wB1 (wpAny_typeOf (T:="tuple") ⟨o,e1,c1⟩ ?_)
  rw [if_neg (by decide)]
  refine wB1 (listItems_at e1 d1 (wP1 ?_))
  simpa using q
 ·have hs:rs.toArray.all (·.isSome)=true:=by
   rw [List.all_toArray,List.all_eq_true]
   intro r hm
   obtain ⟨v,_,k,t,e⟩:=hr r hm
   rw [e];rfl
  rw [if_pos hs]
  refine wB1 (wpAny_rule ?_)
  rw [oneTypeOnly'_eq]
  have hf:rs.toArray.filterMap id=(rs.filterMap id).toArray:=by simp
  rw [hf,List.mapM_toArray,<- bind_pure_comp]
  refine wB1 (wB1 (wB1 (qgL (P:=fun _ t=>t=Value.type "int") (fun v hv=>?_) fun ts htl ht=>wP1 ?_)))
  ·obtain ⟨r,hm,e⟩:=List.mem_filterMap.mp hv
   obtain ⟨v',_,k,t,e'⟩:=hr r hm
   rw [e'] at e
   cases e
   exact ⟨_,rfl,fun Q q=>wpAny_typeOf (T:="int") (typeIs_int s k t) q⟩
  ·cases ts with
   | nil=>
    exfalso
    cases rs with
    | nil=>exact hne (List.length_eq_zero_iff.mp hl.symm)
    | cons r rs=>
     obtain ⟨_,_,k,t,e⟩:=hr r mS1
     rw [e] at htl
     simp at htl
   | cons t ts=>
    have all:∀ x∈t::ts,x=Value.type "int":=fun x hx=>by obtain ⟨_,_,z⟩:=ht x hx;exact z
    have e0:=all t mS1
    subst e0
    have ha:((Value.type "int"::ts).toArray.all fun x=>x == Value.type "int")=true:=by
     rw [List.all_toArray,List.all_eq_true]
     intro x hx
     rw [all x hx];rfl
    show wpAny _ _ (pure (if ((Value.type "int"::ts).toArray.all fun x=>x == Value.type "int")=true then some (Value.type "int") else none)) _ _ _
    rw [if_pos ha]
    exact wP1 (wP1 q)
end
noncomputable def qcz:D->Option Int
 | .tup (.int k::_)=>some k
 | _=>none
noncomputable def qee:List D->Bool
 | []=>true
 | x::l=>(match qcz x with
  | some a=>l.all fun y=>match qcz y with
   | some b=>decide (a<b)
   | none=>false
  | none=>false)&&qee l
theorem qhf:∀ {l:List D} {i:Nat} {x:D},qee l=true->l[i]? = some x -> ∃ k,qcz x=some k
 | [],i,x,_,h=>by simp at h
 | y::l,0,x,h,e=>by
  cases e
  rw [qee,bA1] at h
  cases hy:qcz y with
  | some k=>exact ⟨k,rfl⟩
  | none=>rw [hy] at h;cases h.1
 | y::l,i+1,x,h,e=>by
  rw [qee,bA1] at h
  exact qhf h.2 (by simpa using e)
theorem qd1:∀ {l:List D} {i j:Nat} {x y:D} {a b:Int},qee l=true->l[i]? = some x->l[j]? = some y->i<j->qcz x=some a->qcz y=some b->a<b
 | [],i,j,x,y,_,_,_,h,_,_,_,_=>by simp at h
 | z::l,0,0,_,_,_,_,_,_,_,h,_,_=>by omega
 | z::l,0,j+1,x,y,a,b,h,e1,e2,_,f1,f2=>by
  cases e1
  rw [qee,bA1,f1] at h
  have:=List.all_eq_true.mp h.1 y (gM1 (by simpa using e2))
  rw [f2] at this
  exact of_decide_eq_true this
 | z::l,i+1,0,_,_,_,_,_,_,_,h,_,_=>by omega
 | z::l,i+1,j+1,x,y,a,b,h,e1,e2,hij,f1,f2=>by
  rw [qee,bA1] at h
  exact qd1 h.2 (by simpa using e1) (by simpa using e2) (by omega) f1 f2
noncomputable def qb6:G1:=fun d S=>match qaz S d with
 | some (true,xs)=>match qfo xs with
  | some ns=>if ns.length<64 then some (.ref S.length,S++[.lst ((qdW ns).map D.int)]) else none
  | none=>if (qee xs&&decide (xs.length<64))=true then some (.ref S.length,S++[.lst xs]) else none
 | some (false,xs)=>(qfo xs).bind fun ns=>if ns.length<64 then some (.ref S.length,S++[.lst ((qdW ns).map D.int)]) else none
 | none=>none
section
variable {X:Cx} {pins:List (Addr×Obj)} {σ:L2.St} {H:Hp} {s:Shared} {mu:List Addr}
theorem qn9 (I:Inv X pins σ H s):∀ {ds:List D} {vs:List V} {its:List Value} {i:Nat} {d:D} {k:Int},Reps X.K H mu ds vs->Vals vs its->ds[i]? = some d->qcz d=some k -> ∃ b t ps,its[i]? = some (.ref b)/\IsTup s.heap b (Value.int k t::ps).toArray:=by
 intro ds
 induction ds with
 | nil=>intro vs its i d k _ _ h;simp at h
 | cons x ds ih=>
  intro vs its i d k t rv h hk
  cases t with
  | cons r1 t=>
   cases rv with
   | cons q1 tt=>
    cases i with
    | zero=>
     have:x=d:=by simpa using h
     subst this
     unfold qcz at hk
     split at hk
     ·rename_i k' rest
      cases hk
      cases r1 with
      | tup q t2=>
       obtain ⟨is,v2,it,_⟩:=I.tuple q
       cases t2 with
       | cons rk t3=>
        cases rk
        cases v2 with
        | cons qk _=>
         obtain ⟨tk,rfl⟩:=qk
         cases q1
         exact ⟨_,tk,_,rfl,it⟩
     ·cases hk
    | succ i=>
     obtain ⟨b,tk,ps,e,h⟩:=ih t tt (by simpa using h) hk
     exact ⟨b,tk,ps,by simpa using e,h⟩
end
section
variable {X:Cx}
theorem qjR:qbE X (.builtin "sorted") (rN X.K (b1 qb6)):=by
 intro pins s σ H xs us Q I r h
 obtain ⟨x,mu,S,d,r',S',rfl,r1,hs,hm,hc⟩:=rn1 h
 unfold qb6 at hm
 split at hm
 ·rename_i ds en
  obtain ⟨a,vs,rfl,q,t⟩:=qap r1 hs en
  obtain ⟨u,rfl,r2⟩:=qez r
  cases r2
  obtain ⟨its,rv,ht,hz⟩:=I.list q
  split at hm
  ·rename_i ns e1
   split at hm
   ·rename_i hl
    cases hm
    have hI:=qf4 t rv e1
    have hlen:its.length=ns.length:=by rw [<- rv.length,<- t.length,qf7 e1]
    refine sorted_ints ht.isList hI (by lia) fun out ns' hI' hp hpw=>?_
    have en':ns'=qdW ns:=qe8 (hp.trans (qbb ns).symm) hpw (qdZ ns)
    subst en'
    obtain ⟨ep,hat⟩:=sortedAll_at s.heap its out
    have hfr:=I.hok.fresh (Nat.le_succ s.heap.objs.size)
    refine ⟨.ref (s.heap.objs.size+1),_,I.laid (t':=s.toks) (o:=.lst ((qdW ns).map V.int)) (fun b ob q=>sortedAll_old q) (Nat.le_succ _) ?_,rfl,hc _ _ (mu++[_]) (Ext.new_ hfr) (.ref (qce hs.len _)) (hs.newL (qdi _) hfr)⟩
    refine ⟨?_,out.toList,ep,qf5 hI',by rw [Array.toArray_toList];exact hat⟩
    rw [lM1,(qbb ns).length_eq,sizeLine_eq]
    lia
   ·cases hm
  ·split at hm
   ·rename_i hcond
    cases hm
    rw [bA1,decide_eq_true_eq] at hcond
    obtain ⟨hr,hl⟩:=hcond
    have hlen:its.length=ds.length:=by rw [<- rv.length,<- t.length]
    have row:∀ (i:Nat) (v:Value),its[i]? = some v -> ∃ b d k t ps,v = .ref b/\ds[i]? = some d/\qcz d=some k/\IsTup s.heap b (Value.int k t::ps).toArray:=fun i v hv=>by
     have hi:=(gE1.mp hv).1
     have hd:ds[i]? = some ds[i]:=gG1 (by omega)
     obtain ⟨k,hk⟩:=qhf hr hd
     obtain ⟨b,tk,ps,e,it⟩:=qn9 I t rv hd hk
     rw [hv] at e;cases e
     exact ⟨b,_,k,tk,ps,rfl,hd,hk,it⟩
    have uq:∀ {b:Addr} {k l:Int} {t u:Tok} {ps qs:List Value},IsTup s.heap b (Value.int k t::ps).toArray->IsTup s.heap b (Value.int l u::qs).toArray->k=l:=fun h1 h2=>by
     obtain ⟨o,e1,_,_,d1⟩:=h1
     obtain ⟨o2,e2,_,_,d2⟩:=h2
     rw [e1] at e2;cases e2
     rw [d1] at d2
     injection d2 with d2 _
     have:=congrArg Array.toList d2
     injection this with h1 _
     injection h1
    refine qeI (.inl ht.isList) (by omega) fun P hP E' h' eh hoL=>?_
    refine qmd (s:={s with heap:=h'}) (κ:=tuples' true) (ws:=its) hoL (by omega) (List.Perm.refl _) (fun h'' k2 h2=>?_) ?_
    ·have keep:∀ b o,s.heap.get? b=some o->h''.get? b=some o:=fun b o e=>by
      have:=qgR (vs:=its) e
      rw [<- eh] at this
      exact k2 b o this.1 this.2
     have kt:∀ {b:Addr} {xs:Array Value},IsTup s.heap b xs->IsTup h'' b xs:=fun h=>h.keeps keep
     refine ⟨⟨?_,?_,?_⟩,fun Q q=>?_⟩
     ·refine List.pairwise_iff_getElem.mpr fun i j hi hj hij e=>?_
      obtain ⟨b,d1,k1,t1,ps1,e1,f1,g1,i1⟩:=row i _ (gG1 hi)
      obtain ⟨b2,d2,k3,t2,ps2,e2,f2,g2,i2⟩:=row j _ (gG1 hj)
      rw [e1,e2] at e
      cases e
      have:=qd1 hr f1 f2 hij g1 g2
      have:=uq i1 i2
      omega
     ·rw [pairsOf_toList]
      have:(its.zip its).map (·.1)=its:=List.map_fst_zip (nR1 _)
      rw [this]
     ·intro x y i j hx hy hij E Q q
      obtain ⟨b,d1,k1,t1,ps1,rfl,f1,g1,i1⟩:=row i _ hx
      obtain ⟨b2,d2,k3,t2,ps2,rfl,f2,g2,i2⟩:=row j _ hy
      have hk:k1≠k3/\decide (k1<k3)=decide (i<j):=by
       by_cases z:i<j
       ·have:=qd1 hr f1 f2 z g1 g2
        exact ⟨by omega,by rw [decide_eq_true z,decide_eq_true this]⟩
       ·have:=qd1 hr f2 f1 (by omega) g2 g1
        exact ⟨by omega,by rw [decide_eq_false z,decide_eq_false (by omega)]⟩
      exact qpi (kt i1) (kt i2) hk.1 (by rw [hk.2];exact q)
     ·refine qpj (fun z=>by rw [z] at h2;simp at h2) (fun v hv=>?_) q
      obtain ⟨i,hi⟩:=List.getElem?_of_mem hv
      obtain ⟨b,d1,k1,t1,ps1,rfl,f1,g1,i1⟩:=row i _ hi
      exact ⟨b,k1,t1,ps1,rfl,kt i1⟩
    ·have e0:sortedHeap h' (s.heap.objs.size+1) its its.toArray=sortedAll s.heap its its.toArray:=by rw [eh];rfl
     show P _ {s with heap:=sortedHeap h' (s.heap.objs.size+1) its its.toArray}
     rw [e0]
     refine hP its.toArray ?_
     obtain ⟨ep,hat⟩:=sortedAll_at s.heap its its.toArray
     have hfr:=I.hok.fresh (Nat.le_succ s.heap.objs.size)
     refine ⟨.ref (s.heap.objs.size+1),_,I.laid (t':=s.toks) (o:=.lst vs) (fun b ob q=>sortedAll_old q) (Nat.le_succ _) ?_,rfl,hc _ _ (mu++[_]) (Ext.new_ hfr) (.ref (qce hs.len _)) (hs.newL t hfr)⟩
     refine ⟨?_,its,ep,rv,hat⟩
     rw [rv.length,sizeLine_eq]
     lia
   ·cases hm
 ·rename_i ds en
  obtain ⟨ns,e1,hm⟩:=oB1.mp hm
  split at hm
  ·rename_i hl
   cases hm
   obtain ⟨a,vs,rfl,q,t⟩:=qap r1 hs en
   obtain ⟨u,rfl,r2⟩:=qez r
   cases r2
   obtain ⟨its,rv,ht,hz⟩:=I.tuple q
   have hI:=qf4 t rv e1
   have hlen:its.length=ns.length:=by rw [<- rv.length,<- t.length,qf7 e1]
   refine qeI (.inr ht) (by omega) fun P hP E' h' eh hoL=>?_
   refine list_sort_tree (s:={s with heap:=h'}) hoL hI (by omega) fun out ns' hI' hp hpw=>?_
   have e0:sortedHeap h' (s.heap.objs.size+1) its out=sortedAll s.heap its out:=by rw [eh];rfl
   show P _ {s with heap:=sortedHeap h' (s.heap.objs.size+1) its out}
   rw [e0]
   refine hP out ?_
   have en':ns'=qdW ns:=qe8 (hp.trans (qbb ns).symm) hpw (qdZ ns)
   subst en'
   obtain ⟨ep,hat⟩:=sortedAll_at s.heap its out
   have hfr:=I.hok.fresh (Nat.le_succ s.heap.objs.size)
   refine ⟨.ref (s.heap.objs.size+1),_,I.laid (t':=s.toks) (o:=.lst ((qdW ns).map V.int)) (fun b ob q=>sortedAll_old q) (Nat.le_succ _) ?_,rfl,hc _ _ (mu++[_]) (Ext.new_ hfr) (.ref (qce hs.len _)) (hs.newL (qdi _) hfr)⟩
   refine ⟨?_,out.toList,ep,qf5 hI',by rw [Array.toArray_toList];exact hat⟩
   rw [lM1,(qbb ns).length_eq,sizeLine_eq]
   lia
  ·cases hm
 ·cases hm
end
theorem qqY {K:Fg1}{x:Str}{f:Addr}(h:wN1 K mainGlobals x=some (some (.ref f))):CV K (.fn x) (.ref f):=⟨.ref f,rfl,fun _ _=>.fn h⟩
section
variable {X:Cx} {f:Addr} {fd:FuncData} {ps:List Str} {k n:Nat} {sp:Sp} {dvs:List V} {ds:List Value} {CX:CXT} {E:XK} {t:TA} {e:Expr} {es:List Expr} {p pos:Pos} {i:Nat} {v x:Str}
theorem qkv (hN:X.N[i]? = some v)(hv:Vis X.env.scope v)(F:FnOk X.prog X.w X.K X.mg X.base CX k f fd ps sp)(hr:Room k X.A)(hm:X.mg x=some (.ref f))(hk:wK1 X.K (.ref f)=true)(hb:qa6 X.K fd ps ds)(hd:Vals dvs ds)(hx:qhR CX X E)
  (ha:PA X (e::es) t) (hdb:(v == ("__debug__":Str))=false:=by decide) (hcd:(v == ("__classdict__":Str))=false:=by decide) (he:starEach (e::es) X.env=(false,eval e X.env)::starEach es X.env:=by rfl) (hpl:(backTo pos (starEach es X.env)).any (·.1)=false:=by rfl):
  PE X (.Call (.Name v p) (e::es) [] pos) (fun σ H Q=>(∃ a,σ[i]? = some (some (.ref a))/\wN1 X.K mainGlobals x=some (some (.ref a)))/\qnU sp dvs E t σ H Q):=by
 rintro pins s σ H Q I ⟨⟨a,e0,hns⟩,h⟩
 have hma:=wM1 I.ok.mod.kin I.ok.mod.glob hns
 rw [hm] at hma
 cases hma
 obtain ⟨m,hn,hl⟩:=I.loc
 obtain ⟨u,r,l⟩:=hl i v _ hN e0 hv
 cases r
 have fin:wpAny (model X.prog X.w) X.A (callWith pos (.ref f) [] (backTo pos (starEach (e::es) X.env)) (backToKw pos (keywordEach [] X.env))) (EP X pins σ Q) X.xe s:=by
  refine PySem.W.callWith_K (h₀:=X.base) I.ok.mod.kin hk (thn (ha pos pins s σ H _ I h) fun us s1 ⟨vs,H1,I1,r,q⟩=>⟨I1.kIn,?_⟩) he hpl
  exact qly F hr hb hd hx I1 r q
 refine wpAny_Call_Name_kw ?_
 rcases l with ⟨hk,hm⟩ | ⟨hk,c,hc,hcell⟩
 ·exact wpAny_Name (wpAny_loadName_local I.ok.kind hk hn hm fin) hdb
 ·rcases hk with hk | hk
  ·exact wpAny_Name (wpAny_loadName_cell I.ok.kind hk hc hcell fin) hdb
  ·exact wpAny_Name (wpAny_loadName_free I.ok.kind hk hc hcell fin hcd) hdb
noncomputable def mFnV (i:Nat)(x:Str)(g:FN)(a:FA):FE:=fun r S=>match r[i]? with
 | some (some (.fn y))=>if y=x then mN g a r S else none
 | _=>none
theorem qkR {m:FN}{a:FA}{k':Nat}(i:Nat)(h:Own X.prog X.w X.K X.mg X.base k x n m)(hr:Room k' X.A)(hk:k<=k')(hN:X.N[i]? = some v)(hv:Vis X.env.scope v)(ha:MA X (e::es) a)(hdb:(v == ("__debug__":Str))=false:=by decide)(hcd:(v == ("__classdict__":Str))=false:=by decide)
  (he:starEach (e::es) X.env=(false,eval e X.env)::starEach es X.env:=by rfl) (hpl:(backTo pos (starEach es X.env)).any (·.1)=false:=by rfl):ME X (.Call (.Name v p) (e::es) [] pos) (mFnV i x (qaj n m) a):=by
 obtain ⟨f,fd,ps,F,b,kp,hmg⟩:=h
 refine qbj (qkv (E:=E0) hN hv F (hr.mono hk) hmg kp b .nil qoz ha hdb hcd he hpl) fun σ H Q h=>?_
 obtain ⟨r,mu,S,d,S',he,hs,hm,hc⟩:=h
 unfold mFnV at hm
 split at hm
 ·rename_i y e1
  split at hm
  ·rename_i e2
   subst e2
   obtain ⟨v0,g1,g2⟩:=he.val i _ e1
   cases g2 with
   | fn hns=>
    refine ⟨⟨_,g1,hns⟩,?_⟩
    obtain ⟨r,mu,S,ds,S',he,hs,hm,hc⟩:=qkU (K:=X.K) (f:=qaj n m) ⟨r,mu,S,d,S',he,hs,hm,hc⟩
    refine ⟨r,mu,S,ds,S',he,hs,hm,fun vs H' mu' x1 r1 s1=>?_⟩
    have q:=hc vs H' mu' x1 r1 s1
    show spM X.K n m (vs++[]) H' Q E0
    rw [List.append_nil]
    obtain ⟨mu2,S2,ds2,d2,S3,h1,h2,h3,h4⟩:=q
    unfold qaj at h3
    split at h3
    ·rename_i hl
     exact ⟨by rw [<- h1.length];exact hl,qhN ⟨mu2,S2,ds2,d2,S3,h1,h2,h3,h4⟩⟩
    ·cases h3
  ·cases hm
 ·cases hm
theorem qfD {m:FN}{a:FA}{k':Nat}(i:Nat)(h:Own X.prog X.w X.K X.mg X.base k x n m)(hr:Room k' X.A)(hk:k<=k')(hN:X.N[i]? = some v)(hv:Vis X.env.scope v)(ha:XA X (e::es) a)(hdb:(v == ("__debug__":Str))=false:=by decide)(hcd:(v == ("__classdict__":Str))=false:=by decide)
  (he:starEach (e::es) X.env=(false,eval e X.env)::starEach es X.env:=by rfl) (hpl:(backTo pos (starEach es X.env)).any (·.1)=false:=by rfl):XE X (.Call (.Name v p) (e::es) [] pos) (mFnV i x (qaj n m) a):=⟨qkR i h hr hk hN hv ha.h hdb hcd he hpl⟩
end
section
variable {prog:Program} {w:World} {K:Type} [DecidableEq K] {knd:HeapKind prog w K} {A:Around} {E:Value->Shared->Prop} {s:Shared}
theorem qh5 {d:Addr}(hd:(d == sysModules)=false):
  MeetsIn prog w (Builtin.«dict.__len__» ⟨[.ref d],[]⟩) (fun _ R s=>∃ xs,s.heap.DictOfH knd d xs/\R (.ok (.ret (.int xs.length s.toks))) {s with toks:=s.toks+1}):=
 .of_wp fun A R s ⟨xs,hm,h⟩=>by
  obtain ⟨o,es,ep,ho,hc,hdat,hk,_⟩:=hm
  show wpAny _ _ (dictSize d >>= _) _ _ s
  unfold dictSize
  refine wB1 (wB1 (wpAny_dictEntries ho hdat (wP1 ?_)))
  show wpAny _ _ (Builtin.Dict.pendingCount d >>= _) _ _ s
  refine wB1 (wpAny_pendingCount_other hd ?_)
  refine wpAny_ret_mkInt ?_
  rw [Nat.add_zero,size_of_entries hk];exact h
theorem qjQ {d:Addr}{xs:List (K×Addr×Value)}{Q:Value->Shared->Prop}(hd:(d == sysModules)=false)(hm:s.heap.DictOfH knd d xs)(hfit:(xs.length:Int)<2^63)
  (h:Q (.int xs.length (s.toks+1)) {s with toks:=s.toks+1+1}):wpAny (model prog w) A (call (.builtin "len") [.ref d]) Q E s:=by
 refine Calls.call_function_entry kind_len plain_len entry_len (args_len1 _) ?_
 unfold Builtin.«len»
 refine wB1 (m:=oneArg "len" _) (wP1 ?_)
 refine wB1 (m:=callSpecial? (.ref d) (Str.ofString "__len__")) (wpAny_callSpecial?_slot (name:=Str.ofString "__len__") hm.typeIs F.slot_dict_len
  (call_meetsIn F.slot_dict_len hm.typeIs F.entry_dict_len (F.args_dict_len_1 _) (qh5 (knd:=knd) hd) ⟨xs,hm,?_⟩))
 show wpAny _ _ _ _ _ {s with toks:=s.toks+1}
 refine wB1 (wpAny_holding (wP1 ?_))
 refine wB1 (wpAny_letGo ?_)
 show wpAny _ _ (if ((xs.length:Nat):Int)<0 then _ else _) _ _ _
 rw [if_neg (by omega)]
 show wpAny _ _ (if ((xs.length:Nat):Int)>=2^63 then _ else _) _ _ _
 rw [if_neg (by omega)]
 exact wB1 (wpAny_mkInt (wP1 ⟨_,rfl,h⟩))
end
section
variable {X:Cx}
noncomputable def qib:G1:=fun d S=>match d with
 | .ref n=>match S[n]? with
  | some (.dcT kvs)=>some (.int kvs.length,S)
  | _=>qgV d S
 | _=>qgV d S
theorem qpM:qbE X (.builtin "len") (rN X.K (b1 qib)):=by
 intro pins s σ H xs us Q I r h
 obtain ⟨x,mu,S,d,r',S',hx,r1,hs,hm,hc⟩:=rn1 h
 have back:qgV d S=some (r',S')->wpAny (model X.prog X.w) X.A (call (.builtin "len") us) (EP X pins σ Q) X.xe s:=fun hm=>qpN pins s σ H xs us Q I r (by subst hx;exact ⟨mu,S,[d],r',S',.cons r1 .nil,hs,(show b1 qgV [d] S=_ from hm),hc⟩)
 unfold qib at hm
 split at hm
 ·rename_i n
  split at hm
  ·rename_i ys e
   cases hm
   subst hx
   cases r1 with
   | ref hn=>
    obtain ⟨ws,ha,hk,hl⟩:=hs.dcT e hn
    obtain ⟨hd,dd⟩:=qjz I ha hk
    cases r with
    | cons rv rt=>
     cases rt
     cases rv
     refine qjQ hd dd (by rw [sizeLine_eq] at hl;lia) ?_
     refine ⟨.int ws.length,H,I.tok _,⟨_,rfl⟩,?_⟩
     rw [<- hk.length]
     exact hc.now (.int _) hs
  ·exact back hm
 ·exact back hm
noncomputable def qdK:G2:=fun d e S=>match e with
 | .ref n=>match S[n]? with
  | some (.dct [])=>match keyT d with
   | some _=>some (.bl true,S)
   | none=>qaH d e S
  | _=>qaH d e S
 | _=>qaH d e S
theorem qkB (hu:X.A.units+64<cLine):OpR X (compareOp .NotIn) (r2 X.K (b2 qdK)):=by
 intro pins s σ H x y u w Q I rx ry h
 obtain ⟨mu,S,d,e,r,S',r1,r2',hs,hm,hc⟩:=rn2 h
 have back:qaH d e S=some (r,S')->wpAny (model X.prog X.w) X.A (compareOp .NotIn u w) (EP X pins σ Q) X.xe s:=fun hm=>qdk hu pins s σ H x y u w Q I rx ry ⟨mu,S,[d,e],r,S',.cons r1 (.cons r2' .nil),hs,hm,hc⟩
 unfold qdK at hm
 split at hm
 ·rename_i n
  split at hm
  ·rename_i en
   split at hm
   ·rename_i k ek
    cases hm
    cases r2' with
    | ref hn=>
     cases ry
     obtain ⟨ws,hw,hk⟩:=hs.dct en hn
     cases hk
     obtain ⟨z,hd,vs,rel,dd⟩:=qjx I.hok hw
     cases rel
     obtain ⟨b,rfl,rfl,rk,dk,hi⟩:=qeN I r1 rx ek
     have dd2:s.heap.DictOfH (qdd X.prog X.w) _ []:=qhB dd
     refine wpAny_notIn_heap (qdF hu) hi hd dd2 ?_
     exact ⟨.bl true,H,I.tok _,rfl,hc.now (.bl _) hs⟩
   ·exact back hm
  ·exact back hm
 ·exact back hm
end
noncomputable def W {α:Type}(o:Option α)(Q:α->Prop):Prop:=∃ x,o=some x/\Q x
section
variable {α β:Type} {Q:α->Prop}
theorem qan {x:α}:W (some x) Q↔Q x:=⟨fun ⟨_,e,h⟩=>(by cases e;exact h),fun h=>⟨x,rfl,h⟩⟩
theorem qev:W (none:Option α) Q↔False:=⟨fun ⟨_,e,_⟩=>(by cases e),False.elim⟩
theorem qae {o:Option β}{f:β->Option α}:W (o.bind f) Q↔W o fun x=>W (f x) Q:=by
 cases o with
 | none=>exact ⟨fun ⟨_,e,_⟩=>(by cases e),fun ⟨_,e,_⟩=>(by cases e)⟩
 | some x=>exact ⟨fun h=>⟨x,rfl,h⟩,fun ⟨_,e,h⟩=>by cases e;exact h⟩
theorem qfA {o:Option β}{f:β->α}:W (o.map f) Q↔W o fun x=>Q (f x):=by
 cases o with
 | none=>exact ⟨fun ⟨_,e,_⟩=>(by cases e),fun ⟨_,e,_⟩=>(by cases e)⟩
 | some x=>exact ⟨fun ⟨_,e,h⟩=>(by cases e;exact ⟨x,rfl,h⟩),fun ⟨_,e,h⟩=>(by cases e;exact ⟨_,rfl,h⟩)⟩
theorem qjZ {c:Prop}[Decidable c]{a b:Option α}:W (if c then a else b) Q↔if c then W a Q else W b Q:=by split<;>exact Iff.rfl
theorem W.mono {o:Option α}{Q':α->Prop}(h:W o Q)(k:∀ x,Q x->Q' x):W o Q':=let ⟨x,e,q⟩:=h;⟨x,e,k x q⟩
theorem W.of {o:Option α}{x:α}(e:o=some x)(h:Q x):W o Q:=⟨x,e,h⟩
end
theorem seqW {a b:FS}{r:Ev}{S:Sto}{Q:Fl×Ev×Sto->Prop}(R:Ev->Sto->Prop)(h1:W (a r S) fun p=>p.1 = .nx/\R p.2.1 p.2.2)(h2:∀ r S,R r S->W (b r S) Q):W (mSeq a b r S) Q:=by
 obtain ⟨⟨f,r1,S1⟩,e,hf,hR⟩:=h1
 dsimp only at hf hR
 subst hf
 unfold mSeq
 rw [e]
 exact h2 r1 S1 hR
theorem fnW {n:Nat}{b:FS}{ds:List D}{S:Sto}{Q:D×Sto->Prop}(h:W (b (qco n ds) S) fun p=>match p.1 with
  | .rt d=>Q (d,p.2.2)
  | .nx=>Q (.non,p.2.2)
  | _=>False):W (fnB n b ds S) Q:=by
 obtain ⟨⟨f,r1,S1⟩,e,q⟩:=h
 unfold fnB
 rw [e]
 cases f with
 | rt d=>exact ⟨_,rfl,q⟩
 | nx=>exact ⟨_,rfl,q⟩
 | bk=>exact q.elim
 | ct=>exact q.elim
theorem qnt {n:Nat}{f:FN}{ds:List D}{S:Sto}{Q:D×Sto->Prop}(hn:ds.length=n)(hu:D.unds 0 ds=false)(h:W (f ds S) fun p=>Q (gc S.length p)):W (qaj n f ds S) Q:=by
 obtain ⟨⟨d,S1⟩,e,q⟩:=h
 exact ⟨_,qge e hn hu,q⟩
theorem qfz {n:Nat}{f:FN}{ds:List D}{S:Sto}{Q:D×Sto->Prop}(hn:ds.length=n)(hu:D.unds 0 ds=true)(h:W (f ds []) fun p=>p.1.und 0=true/\Q (p.1,S)):W (qaj n f ds S) Q:=by
 obtain ⟨⟨d,S1⟩,e,q1,q2⟩:=h
 exact ⟨_,qjL e hn hu q1,q2⟩
mutual
theorem qeZ {n:Nat}:∀ {d:D},d.und 0=true->d.und n=true
 | .non,_=>rfl
 | .bl _,_=>rfl
 | .int _,_=>rfl
 | .str _,_=>rfl
 | .tup xs,h=>by rw [D.und] at h ⊢;exact qdc h
 | .rol xs,h=>by rw [D.und] at h ⊢;exact qdc h
 | .fn _,_=>rfl
 | .ref k,h=>by simp [D.und] at h
theorem qdc {n:Nat}:∀ {ds:List D},D.unds 0 ds=true->D.unds n ds=true
 | [],_=>rfl
 | d::ds,h=>by
  rw [D.unds,bA1] at h ⊢
  exact ⟨qeZ h.1,qdc h.2⟩
end
theorem qie {n:Nat}{f:FN}{ds:List D}{o:Ob}{T:Sto}{Q:D×Sto->Prop}(hn:ds.length=n)(hu:D.unds 0 ds=false)(hT:T.all (Ob.und (T.length+1))=true)
  (h:W (f ds (o::T)) fun p=>∃ d o' G,p=(d,o'::(T++G))/\d.und 0=true/\o'.und (T.length+1)=true/\Q (d,o'::T)):W (qaj n f ds (o::T)) Q:=by
 refine qnt hn hu (h.mono ?_)
 rintro p ⟨d,o',G,rfl,hd,ho,q⟩
 have e:(o'::(T++G)).take (T.length+1)=o'::T:=by simp
 unfold gc
 dsimp only [lC1]
 rw [if_pos (by rw [e,qeZ hd,List.all_cons,ho,hT];rfl),e]
 exact q
theorem qaO {c:List (Nat×List D)}{g:FG}{b:FS}{Q:Fl×Ev×Sto->Prop}(I:Nat->Ev->Sto->Prop):∀ (items:List D) (k:Nat) (r:Ev) (S:Sto),I k r S ->
  (∀ i r S,I i r S->okC S c=true) ->
  (∀ i d,items[i]? = some d -> ∀ r S,I (k+i) r S->W (g d r S) fun p=>W (b p.1 p.2) fun q=>q.1 = .nx/\I (k+i+1) q.2.1 q.2.2) ->
  (∀ r S,I (k+items.length) r S->Q (.nx,r,S))->W (qdX c g b items r S) Q
 | [],k,r,S,hi,hok,_,hq=>by rw [qdX];dsimp only;rw [if_pos (hok _ _ _ hi),qan];exact hq r S (by simpa using hi)
 | d::ds,k,r,S,hi,hok,hs,hq=>by
  rw [qdX];dsimp only;rw [if_pos (hok _ _ _ hi),qae]
  obtain ⟨p,e1,h1⟩:=hs 0 d rfl r S (by simpa using hi)
  refine ⟨p,e1,?_⟩
  dsimp only
  rw [qae]
  obtain ⟨⟨f,r1,S1⟩,e2,h2,h3⟩:=h1
  refine ⟨_,e2,?_⟩
  dsimp only at h2 h3 ⊢
  subst h2
  refine qaO I ds (k+1) r1 S1 (by simpa using h3) hok (fun i d' hd r S hI=>?_) fun r S hI=>hq r S (by rw [lC1,show k+(ds.length+1)=k+1+ds.length by lia];exact hI)
  have:=hs (i+1) d' (by simpa using hd) r S (by rw [show k+(i+1)=k+1+i by lia];exact hI)
  rw [show k+(i+1)+1=k+1+i+1 by lia] at this
  exact this
theorem qc5 {c:List (Nat×List D)}{g:FG}{t:FT}{e:FE}{Q:List D×Ev×Sto->Prop}(I:Nat->List D->Ev->Sto->Prop):∀ (items:List D) (k:Nat) (acc:List D) (r:Ev) (S:Sto),I k acc r S ->
  (∀ i acc r S,I i acc r S->okC S c=true) ->
  (∀ i d,items[i]? = some d -> ∀ acc r S,I (k+i) acc r S->W (g d r S) fun p=>W (t p.1 p.2) fun b=>if b.1=true then W (e p.1 b.2) fun x=>I (k+i+1) (acc++[x.1]) p.1 x.2 else I (k+i+1) acc p.1 b.2) ->
  (∀ xs r S,I (k+items.length) (acc++xs) r S->Q (xs,r,S))->W (qcx c g t (qbm e) items r S) Q
 | [],k,acc,r,S,hi,hok,_,hq=>by rw [qcx];dsimp only;rw [if_pos (hok _ _ _ _ hi),qan];exact hq [] r S (by simpa using hi)
 | d::ds,k,acc,r,S,hi,hok,hs,hq=>by
  rw [qcx];dsimp only;rw [if_pos (hok _ _ _ _ hi),qae]
  obtain ⟨p,e1,h1⟩:=hs 0 d rfl acc r S (by simpa using hi)
  refine ⟨p,e1,?_⟩
  dsimp only
  rw [qae]
  obtain ⟨⟨b,S1⟩,e2,h2⟩:=h1
  refine ⟨_,e2,?_⟩
  have step:∀ i d',ds[i]? = some d' -> ∀ acc r S,I (k+1+i) acc r S->W (g d' r S) fun p=>W (t p.1 p.2) fun b=>if b.1=true then W (e p.1 b.2) fun x=>I (k+1+i+1) (acc++[x.1]) p.1 x.2 else I (k+1+i+1) acc p.1 b.2:=fun i d' hd acc r S hI=>by
   have:=hs (i+1) d' (by simpa using hd) acc r S (by rw [show k+(i+1)=k+1+i by lia];exact hI)
   rw [show k+(i+1)+1=k+1+i+1 by lia] at this
   exact this
  dsimp only at h2 ⊢
  cases b with
  | true=>
   rw [if_pos rfl] at h2 ⊢
   rw [qae,qbm,qfA]
   obtain ⟨⟨x,S2⟩,e3,h3⟩:=h2
   refine ⟨_,e3,?_⟩
   dsimp only at h3 ⊢
   rw [qfA]
   refine qc5 I ds (k+1) (acc++[x]) p.1 S2 (by simpa using h3) hok step fun xs r S hI=>?_
   refine hq _ r S ?_
   rw [lC1,show k+(ds.length+1)=k+1+ds.length by lia]
   simpa using hI
  | false=>
   rw [if_neg (by decide)] at h2 ⊢
   refine qc5 I ds (k+1) acc p.1 S1 (by simpa using h2) hok step fun xs r S hI=>?_
   refine hq _ r S ?_
   rw [lC1,show k+(ds.length+1)=k+1+ds.length by lia]
   exact hI
theorem qnL {S:Sto}{b:Bool}:truD S (.bl b)=some b:=rfl
theorem qp6 {S:Sto}:truD S .non=some false:=rfl
theorem qp7 {S:Sto}{i:Int}:truD S (.int i)=some (i != 0):=rfl
theorem qnm {x y:Int}{S:Sto}:gEq (.int x) (.int y) S=some (.bl (x == y),S):=rfl
theorem qni {x y:Int}{S:Sto}:gNe (.int x) (.int y) S=some (.bl (!(x == y)),S):=rfl
theorem qnj {x y:Int}{S:Sto}:gLt (.int x) (.int y) S=some (.bl (decide (x<y)),S):=rfl
theorem qqQ {x y:Str}{S:Sto}:gEq (.str x) (.str y) S=some (.bl (x == y),S):=rfl
theorem qnh {x y:Str}{S:Sto}:gNe (.str x) (.str y) S=some (.bl (!(x == y)),S):=rfl
theorem ite_and' {c p:Prop}[Decidable c]:(if c then p else False)↔c/\p:=by split<;>simp [*]
noncomputable def bnd (j:Int):Bool:=decide (-(2^62)<=j)&&decide (j<2^62)
theorem qba {n:Nat}(h:n<2^60):bnd n=true:=by
 unfold bnd
 rw [bA1,decide_eq_true_eq,decide_eq_true_eq]
 lia
theorem qpP {j:Int}(h: -(2^60)<=j)(h':j<2^60):bnd j=true:=by
 unfold bnd
 rw [bA1,decide_eq_true_eq,decide_eq_true_eq]
 lia
noncomputable def rW1 (p:List D×Sto)(Q:Itm×Sto->Prop):Prop:=match p.1 with
 | [.int j]=>bnd j=true/\Q (⟨nums 0 j.toNat,[]⟩,p.2)
 | _=>False
noncomputable def rW2 (p:List D×Sto)(Q:Itm×Sto->Prop):Prop:=match p.1 with
 | [.int i,.int j]=>bnd i=true/\bnd j=true/\Q (⟨nums i (j-i).toNat,[]⟩,p.2)
 | _=>False
theorem qpX {m:FA}{r:Ev}{S:Sto}{Q:Itm×Sto->Prop}:W (iR1 m r S) Q↔W (m r S) fun p=>rW1 p Q:=by
 unfold iR1
 rw [qae]
 constructor
 ·refine fun h=>h.mono fun p q=>?_
  unfold rW1
  split at q
  ·rename_i j e
   try rw [e]
   rw [qjZ] at q
   split at q
   ·rename_i hc
    exact ⟨by unfold bnd;rw [bA1,decide_eq_true_eq,decide_eq_true_eq];exact hc,qan.mp q⟩
   ·exact (qev.mp q).elim
  ·exact (qev.mp q).elim
 ·refine fun h=>h.mono fun p q=>?_
  unfold rW1 at q
  split at q
  ·rename_i j e
   obtain ⟨q1,q2⟩:=q
   unfold bnd at q1
   rw [bA1,decide_eq_true_eq,decide_eq_true_eq] at q1
   try rw [e]
   try dsimp only
   rw [if_pos q1]
   exact qan.mpr q2
  ·exact q.elim
theorem qq7 {m:FA}{r:Ev}{S:Sto}{Q:Itm×Sto->Prop}:W (iR2 m r S) Q↔W (m r S) fun p=>rW2 p Q:=by
 unfold iR2
 rw [qae]
 constructor
 ·refine fun h=>h.mono fun p q=>?_
  unfold rW2
  split at q
  ·rename_i i j e
   try rw [e]
   rw [qjZ] at q
   split at q
   ·rename_i hc
    refine ⟨?_,?_,qan.mp q⟩
    ·unfold bnd;rw [bA1,decide_eq_true_eq,decide_eq_true_eq];exact ⟨hc.1,hc.2.1⟩
    ·unfold bnd;rw [bA1,decide_eq_true_eq,decide_eq_true_eq];exact hc.2.2
   ·exact (qev.mp q).elim
  ·exact (qev.mp q).elim
 ·refine fun h=>h.mono fun p q=>?_
  unfold rW2 at q
  split at q
  ·rename_i i j e
   obtain ⟨q1,q3,q2⟩:=q
   unfold bnd at q1 q3
   rw [bA1,decide_eq_true_eq,decide_eq_true_eq] at q1 q3
   try rw [e]
   try dsimp only
   rw [if_pos ⟨q1.1,q1.2,q3⟩]
   exact qan.mpr q2
  ·exact q.elim
noncomputable def fits (n:Nat):Bool:=decide (n<=sizeLine)
theorem qah {n:Nat}(h:n<=100000):fits n=true:=by unfold fits;rw [decide_eq_true_eq];exact Nat.le_trans h (by decide)
theorem qhy {n:Nat}:fits n=true↔n<=sizeLine:=by unfold fits;rw [decide_eq_true_eq]
theorem ft0:fits 0=true:=qah (by decide)
theorem ft1:fits 1=true:=qah (by decide)
theorem ft2:fits 2=true:=qah (by decide)
theorem ft3:fits 3=true:=qah (by decide)
theorem ft4:fits 4=true:=qah (by decide)
theorem ft5:fits 5=true:=qah (by decide)
theorem ft6:fits 6=true:=qah (by decide)
theorem ft7:fits 7=true:=qah (by decide)
theorem ft8:fits 8=true:=qah (by decide)
theorem qdV {α:Type}{n:Nat}{o:Option α}{Q:α->Prop}:W (if n<=sizeLine then o else none) Q↔fits n=true/\W o Q:=by
 rw [qhy,qjZ]
 split
 ·rename_i h;exact ⟨fun q=>⟨h,q⟩,fun q=>q.2⟩
 ·rename_i h;exact ⟨fun q=>(qev.mp q).elim,fun q=>absurd q.1 h⟩
theorem qhQ {a:FA}{r:Ev}{S:Sto}{Q:D×Sto->Prop}:W (mTup a r S) Q↔W (a r S) fun p=>fits p.1.length=true/\Q (.tup p.1,p.2):=by
 unfold mTup
 rw [qae]
 exact ⟨fun h=>h.mono fun p q=>(qdV.mp q).imp_right qan.mp,fun h=>h.mono fun p q=>qdV.mpr (q.imp_right qan.mpr)⟩
theorem qlU {a:FA}{r:Ev}{S:Sto}{Q:D×Sto->Prop}:W (mLst a r S) Q↔W (a r S) fun p=>fits p.1.length=true/\Q (.ref p.2.length,p.2++[.lst p.1]):=by
 unfold mLst
 rw [qae]
 exact ⟨fun h=>h.mono fun p q=>(qdV.mp q).imp_right qan.mp,fun h=>h.mono fun p q=>qdV.mpr (q.imp_right qan.mpr)⟩
theorem qnB {k:Nat}{keep:List Nat}{m:FI}{g:FG}{t:FT}{b:FV}{r:Ev}{S:Sto}{Q:D×Sto->Prop}:W (qbK k keep m g t b r S) Q↔W (m r S) fun p=>W (qcx p.1.chk g t b p.1.items (inEv k keep r) p.2) fun q=>fits q.1.length=true/\Q (.ref q.2.2.length,q.2.2++[.lst q.1]):=by
 unfold qbK
 rw [qae]
 refine ⟨fun h=>h.mono fun p q=>?_,fun h=>h.mono fun p q=>?_⟩
 ·rw [qae] at q
  exact q.mono fun z w=>(qdV.mp w).imp_right qan.mp
 ·rw [qae]
  exact q.mono fun z w=>qdV.mpr (w.imp_right qan.mpr)
theorem qpZ {xs ys:List D}{S:Sto}{Q:D×Sto->Prop}:W (gAdd (.tup xs) (.tup ys) S) Q↔fits (xs.length+ys.length)=true/\Q (.tup (xs++ys),S):=
 ⟨fun q=>(qdV.mp q).imp_right qan.mp,fun q=>qdV.mpr (q.imp_right qan.mpr)⟩
theorem qlX {x y:Int}{S:Sto}{Q:D×Sto->Prop}:W (gAdd (.int x) (.int y) S) Q↔Q (.int (x+y),S):=qan
theorem qeF {n:Nat}{v:D}{xs:List D}{S:Sto}{Q:D×Sto->Prop}(h:S[n]? = some (.lst xs)):W (gApp (.ref n) v S) Q↔fits (xs.length+1)=true/\Q (.non,S.set n (.lst (xs++[v]))):=by
 rw [gApp];simp only [h]
 rw [qjZ,qhy]
 split
 ·rename_i hl;exact ⟨fun q=>⟨hl,qan.mp q⟩,fun q=>qan.mpr q.2⟩
 ·rename_i hl;exact ⟨fun q=>(qev.mp q).elim,fun q=>absurd q.1 hl⟩
theorem qex {n:Nat}{i:Nat}{xs:List D}{x:D}{S:Sto}{Q:D×Sto->Prop}(h:S[n]? = some (.lst xs))(hx:xs[i]? = some x)(q:Q (x,S)):W (gIxY (.ref n) (.int i) S) Q:=by
 refine W.of (x:=(x,S)) ?_ q
 have hl:=(gE1.mp hx).1
 simp only [gIxY,gIxX,gIx,h,qaz,atI,ixN,oS1,if_pos (show (0:Int)<=i by lia)]
 rw [if_pos (by lia)]
 simp [hx]
theorem qew {i:Nat}{xs:List D}{x:D}{S:Sto}{Q:D×Sto->Prop}(hx:xs[i]? = some x)(q:Q (x,S)):W (gIxY (.tup xs) (.int i) S) Q:=by
 refine W.of (x:=(x,S)) ?_ q
 have hl:=(gE1.mp hx).1
 simp only [gIxY,gIxX,gIx,qaz,atI,ixN,oS1,if_pos (show (0:Int)<=i by lia)]
 rw [if_pos (by lia)]
 simp [hx]
theorem rp0:List.replicate 0 (none:Option D)=[]:=rfl
theorem rp1:List.replicate 1 (none:Option D)=[none]:=rfl
theorem rp2:List.replicate 2 (none:Option D)=[none,none]:=rfl
theorem rp3:List.replicate 3 (none:Option D)=[none,none,none]:=rfl
theorem rp4:List.replicate 4 (none:Option D)=[none,none,none,none]:=rfl
theorem rp5:List.replicate 5 (none:Option D)=[none,none,none,none,none]:=rfl
theorem rp6:List.replicate 6 (none:Option D)=[none,none,none,none,none,none]:=rfl
theorem rp7:List.replicate 7 (none:Option D)=[none,none,none,none,none,none,none]:=rfl
theorem rp8:List.replicate 8 (none:Option D)=[none,none,none,none,none,none,none,none]:=rfl
theorem rp9:List.replicate 9 (none:Option D)=[none,none,none,none,none,none,none,none,none]:=rfl
theorem rp10:List.replicate 10 (none:Option D)=[none,none,none,none,none,none,none,none,none,none]:=rfl
theorem rp11:List.replicate 11 (none:Option D)=[none,none,none,none,none,none,none,none,none,none,none]:=rfl
theorem rp12:List.replicate 12 (none:Option D)=[none,none,none,none,none,none,none,none,none,none,none,none]:=rfl
theorem rp13:List.replicate 13 (none:Option D)=[none,none,none,none,none,none,none,none,none,none,none,none,none]:=rfl
theorem rp14:List.replicate 14 (none:Option D)=[none,none,none,none,none,none,none,none,none,none,none,none,none,none]:=rfl
theorem rp15:List.replicate 15 (none:Option D)=[none,none,none,none,none,none,none,none,none,none,none,none,none,none,none]:=rfl
theorem rp16:List.replicate 16 (none:Option D)=[none,none,none,none,none,none,none,none,none,none,none,none,none,none,none,none]:=rfl
theorem rp17:List.replicate 17 (none:Option D)=[none,none,none,none,none,none,none,none,none,none,none,none,none,none,none,none,none]:=rfl
theorem rp18:List.replicate 18 (none:Option D)=[none,none,none,none,none,none,none,none,none,none,none,none,none,none,none,none,none,none]:=rfl
theorem rp19:List.replicate 19 (none:Option D)=[none,none,none,none,none,none,none,none,none,none,none,none,none,none,none,none,none,none,none]:=rfl
theorem rp20:List.replicate 20 (none:Option D)=[none,none,none,none,none,none,none,none,none,none,none,none,none,none,none,none,none,none,none,none]:=rfl
theorem qaU {α:Type}{T G:List α}{k:Nat}:(T++G)[T.length+k]? = G[k]?:=by rw [gR1 (by lia)];congr 1;lia
theorem qai {α:Type}{T G:List α}:(T++G)[T.length]? = G[0]?:=by rw [gR1 (by lia)];congr 1;lia
theorem qnl {S:Sto}{i j:Nat}{xs:List D}(h:S[i]? = some (.lst xs))(h':S[j]? = some (.lst [])):gEq (.ref i) (.ref j) S=some (.bl xs.isEmpty,S):=by
 unfold gEq qam
 rw [show (60:Nat)=59+1 from rfl,eqN]
 simp only [qaz,h,h']
 cases xs with
 | nil=>simp [eqL]
 | cons x xs=>simp
theorem qji {S:Sto}{i j:Nat}{xs:List D}(h:S[i]? = some (.lst xs))(h':S[j]? = some (.lst [])):gNe (.ref i) (.ref j) S=some (.bl (!xs.isEmpty),S):=by
 unfold gNe qam
 rw [show (60:Nat)=59+1 from rfl,eqN]
 simp only [qaz,h,h']
 cases xs with
 | nil=>simp [eqL]
 | cons x xs=>simp
theorem qgF:∀ (n:Nat) (lo:Int),nums lo n=(List.range n).map fun i:Nat=>D.int (lo+i)
 | 0,lo=>rfl
 | n+1,lo=>by
  rw [nums,qgF n (lo+1),List.range_succ_eq_map,mP1,List.map_map]
  congr 1
  ·simp
  ·apply List.map_congr_left
   intro i _
   simp only [Function.comp_apply,Nat.succ_eq_add_one]
   congr 1
   push_cast
   lia
theorem qdl (n:Nat):nums 0 n=(List.range n).map fun i:Nat=>D.int i:=by
 rw [qgF]
 apply List.map_congr_left
 intro i _
 simp
theorem mapW {α:Type}{c:List (Nat×List D)}{g:FG}{t:FT}{e:FE}{S:Sto}{f:α->D}{Q:List D×Ev×Sto->Prop}(F:α->D)(P:Ev->Prop)(hok:okC S c=true):∀ (xs:List α) (r:Ev),P r ->
  (∀ a∈xs,∀ r,P r->W (g (f a) r S) fun p=>W (t p.1 p.2) fun b=>b.1=true/\W (e p.1 b.2) fun x=>x.1=F a/\x.2=S/\P p.1) ->
  (∀ r',P r'->Q (xs.map F,r',S))->W (qcx c g t (qbm e) (xs.map f) r S) Q
 | [],r,hr,_,h=>by rw [List.map_nil,qcx];dsimp only;rw [if_pos hok,qan];exact h r hr
 | a::xs,r,hr,hs,h=>by
  rw [mP1,qcx];dsimp only;rw [if_pos hok,qae]
  obtain ⟨p,e1,⟨b,e2,hb,⟨x,e3,hx,hS,hp⟩⟩⟩:=hs a mS1 r hr
  refine ⟨p,e1,?_⟩
  dsimp only;rw [qae]
  refine ⟨b,e2,?_⟩
  dsimp only;rw [if_pos hb,qae,qbm,qfA]
  refine ⟨x,e3,?_⟩
  dsimp only
  rw [hS,qfA]
  refine mapW F P hok xs p.1 hp (fun a ha=>hs a (mC1 _ ha)) fun r' hr'=>?_
  have:=h r' hr'
  rw [mP1,<- hx] at this
  exact this
theorem qdL {α:Type}{c:List (Nat×List D)}{g:FG}{t:FT}{e:FE}{S:Sto}{f:α->D}{Q:List D×Ev×Sto->Prop}(k:α->Bool)(F:α->D)(P:Ev->Prop)(hok:okC S c=true):∀ (xs:List α) (r:Ev),P r ->
  (∀ a∈xs,∀ r,P r->W (g (f a) r S) fun p=>W (t p.1 p.2) fun b=>b.1=k a/\b.2=S/\P p.1/\(k a=true->W (e p.1 S) fun x=>x.1=F a/\x.2=S)) ->
  (∀ r',P r'->Q ((xs.filter k).map F,r',S))->W (qcx c g t (qbm e) (xs.map f) r S) Q
 | [],r,hr,_,h=>by rw [List.map_nil,qcx];dsimp only;rw [if_pos hok,qan];exact h r hr
 | a::xs,r,hr,hs,h=>by
  rw [mP1,qcx];dsimp only;rw [if_pos hok,qae]
  obtain ⟨p,e1,⟨b,e2,hb,hS,hp,hx⟩⟩:=hs a mS1 r hr
  refine ⟨p,e1,?_⟩
  dsimp only;rw [qae]
  refine ⟨b,e2,?_⟩
  dsimp only
  cases hk:k a with
  | true=>
   rw [hb,hk,if_pos rfl,qae,qbm,qfA,hS]
   obtain ⟨x,e3,hx,hS2⟩:=hx hk
   refine ⟨x,e3,?_⟩
   dsimp only
   rw [hS2,qfA]
   refine qdL k F P hok xs p.1 hp (fun a ha=>hs a (mC1 _ ha)) fun r' hr'=>?_
   have:=h r' hr'
   rw [List.filter_cons,hk,if_pos rfl,mP1,<- hx] at this
   exact this
  | false=>
   rw [hb,hk,if_neg (by decide),hS]
   refine qdL k F P hok xs p.1 hp (fun a ha=>hs a (mC1 _ ha)) fun r' hr'=>?_
   have:=h r' hr'
   rw [List.filter_cons,hk,if_neg (by decide)] at this
   exact this
mutual
theorem qnF {n m:Nat}(h:n<=m):∀ {d:D},d.und n=true->d.und m=true
 | .non,_=>rfl
 | .bl _,_=>rfl
 | .int _,_=>rfl
 | .str _,_=>rfl
 | .tup xs,q=>by rw [D.und] at q ⊢;exact qcY h q
 | .rol xs,q=>by rw [D.und] at q ⊢;exact qcY h q
 | .fn _,_=>rfl
 | .ref k,q=>by simp [D.und] at q ⊢;lia
theorem qcY {n m:Nat}(h:n<=m):∀ {ds:List D},D.unds n ds=true->D.unds m ds=true
 | [],_=>rfl
 | d::ds,q=>by
  rw [D.unds,bA1] at q ⊢
  exact ⟨qnF h q.1,qcY h q.2⟩
end
theorem qcJ {n m:Nat}(h:n<=m):∀ {o:Ob},o.und n=true->o.und m=true
 | .lst xs,q=>by rw [Ob.und] at q ⊢;exact qcY h q
 | .dct xs,q=>by rw [Ob.und] at q ⊢;exact qcY h q
 | .dcT xs,q=>by rw [Ob.und] at q ⊢;exact qcY h q
 | .dcF xs,q=>by rw [Ob.und] at q ⊢;exact qcY h q
 | .iset _,_=>rfl
theorem allU {k:Nat}{T G:Sto}(h:T.all (Ob.und (T.length+k))=true)(hg:G.all (Ob.und 0)=true):(T++G).all (Ob.und ((T++G).length+k))=true:=by
 rw [List.all_append,bA1]
 rw [List.all_eq_true] at h hg
 refine ⟨List.all_eq_true.mpr fun o ho=>qcJ (by rw [lA1];lia) (h o ho),List.all_eq_true.mpr fun o ho=>qcJ (Nat.zero_le _) (hg o ho)⟩
theorem qlV {n:Nat}{xs:List Int}{S:Sto}{Q:D×Sto->Prop}(h:S[n]? = some (.iset xs))(q:Q (.int xs.length,S)):W (qgU (.ref n) S) Q:=by
 refine W.of ?_ q
 unfold qgU
 simp only [h]
theorem qa1 {α:Type}{n:Nat}{f:α->D}:∀ {xs:List α},(∀ x∈xs,(f x).und n=true)->D.unds n (xs.map f)=true
 | [],_=>rfl
 | x::xs,h=>by rw [mP1,D.unds,h x mS1,qa1 fun y hy=>h y (mC1 _ hy)];rfl
theorem al1 {x:Nat}:x+1+1=x+2:=rfl
theorem al2 {x:Nat}:x+2+1=x+3:=rfl
theorem al3 {x:Nat}:x+3+1=x+4:=rfl
theorem al4 {x:Nat}:x+4+1=x+5:=rfl
theorem al5 {x:Nat}:x+5+1=x+6:=rfl
theorem al6 {x:Nat}:x+6+1=x+7:=rfl
theorem al7 {x:Nat}:x+1+2=x+3:=rfl
theorem qi4 {xs:List D}{S:Sto}:gLen (.tup xs) S=some (.int xs.length,S):=rfl
theorem qqI {xs:List D}{S:Sto}:gLen (.rol xs) S=some (.int xs.length,S):=rfl
theorem qp2 {S:Sto}:gLen (.str "") S=some (.int 0,S):=rfl
theorem qdA {xs:List D}{S:Sto}:qaz S (.tup xs)=some (false,xs):=rfl
theorem qqi {xs:List D}{S:Sto}:qaz S (.rol xs)=some (true,xs):=rfl
theorem qnq {xs:List D}{S:Sto}:qfw S (.tup xs)=[]:=rfl
theorem qq1 {xs:List D}{S:Sto}:qfw S (.rol xs)=[]:=rfl
theorem qcu {n:Nat}{xs:List D}{S:Sto}(h:S[n]? = some (.lst xs)):qaz S (.ref n)=some (true,xs):=by simp only [qaz,h]
theorem qg3 {n:Nat}{xs:List D}{S:Sto}(h:S[n]? = some (.lst xs)):qfw S (.ref n)=[(n,xs)]:=by simp only [qfw,h]
noncomputable def sW (S:Sto)(d:D)(Q:List D×List (Nat×List D)->Prop):Prop:=W (qaz S d) fun q=>Q (q.2,qfw S d)
theorem qhd {xs:List D}{S:Sto}{Q:List D×List (Nat×List D)->Prop}:sW S (.tup xs) Q↔Q (xs,[]):=qan
theorem qaE {n:Nat}{xs:List D}{S:Sto}{Q:List D×List (Nat×List D)->Prop}(h:S[n]? = some (.lst xs))(q:Q (xs,[(n,xs)])):sW S (.ref n) Q:=by
 unfold sW
 rw [qcu h,qg3 h,qan]
 exact q
theorem qpW {m:FE}{r:Ev}{S:Sto}{Q:Itm×Sto->Prop}:W (iSeq m r S) Q↔W (m r S) fun p=>sW p.2 p.1 fun q=>Q (⟨q.1,q.2⟩,p.2):=by
 unfold iSeq
 rw [qae]
 refine ⟨fun h=>h.mono fun p q=>?_,fun h=>h.mono fun p q=>?_⟩
 ·rw [qae] at q
  exact q.mono fun z w=>qan.mp w
 ·rw [qae]
  exact W.mono (show W (qaz p.2 p.1) _ from q) fun z w=>qan.mpr w
theorem qpY {d:D}{S:Sto}{Q:D×Sto->Prop}:W (Mi.gTup d S) Q↔sW S d fun q=>Q (.tup q.1,S):=by
 unfold Mi.gTup
 rw [qfA]
 exact Iff.rfl
theorem qq6 {n:Nat}{S:Sto}{Q:D×Sto->Prop}:W (gLen (.ref n) S) Q↔sW S (.ref n) fun q=>Q (.int q.1.length,S):=by
 unfold gLen sW
 rw [qfA]
noncomputable def pD (e:Nat×Nat):D:=.tup [.int e.1,.int e.2]
theorem qhA {S:Sto}{n:Nat}{a b:Nat×Nat}:eqN S (n+2) (pD a) (pD b)=some (a == b):=by
 obtain ⟨a1,a2⟩:=a
 obtain ⟨b1,b2⟩:=b
 rw [eqN]
 have e1:∀ x y:Nat,eqN S (n+1) (.int x) (.int y)=some ((x:Int) == (y:Int)):=fun x y=>rfl
 have e2:∀ x y:Nat,((x:Int) == (y:Int))=(x == y):=fun x y=>by
  rw [Bool.eq_iff_iff,beq_iff_eq,beq_iff_eq];lia
 simp [pD,qaz,eqL,e1,e2]
 rfl
theorem qjq {S:Sto}{n:Nat}{e:Nat×Nat}:∀ row:List (Nat×Nat),eqsL (eqN S (n+2)) (pD e) (row.map pD)=some (row.map fun a=>a == e)
 | []=>rfl
 | a::row=>by rw [mP1,eqsL,qhA,qjq row];rfl
theorem qpV {S:Sto}{n j:Nat}{row:List (Nat×Nat)}{e:Nat×Nat}{Q:D×Sto->Prop}(h:S[n]? = some (.lst (row.map pD)))(hl:row.length<1000)(hj:row.findIdx? (· == e)=some j)(q:Q (.int j,S)):W (gIdx (.ref n) (pD e) S) Q:=by
 refine W.of ?_ q
 unfold gIdx qam
 simp only [h,show (60:Nat)=58+2 from rfl,qjq,oS1,lM1]
 rw [if_pos (by lia),List.findIdx?_map]
 simp [Function.comp_def,hj]
theorem qds {f:FN}{o:FE}{a:FA}{r:Ev}{S:Sto}{Q:D×Sto->Prop}(h:W (o r S) fun p=>∃ n xs,p.1 = .ref n/\p.2[n]? = some (.lst xs)/\W (a r p.2) fun q=>W (f (.ref n::q.1) q.2) Q):W (mMt f o a r S) Q:=by
 unfold mMt
 rw [qae]
 refine h.mono ?_
 rintro ⟨d,S1⟩ ⟨n,xs,rfl,e,q⟩
 dsimp only at e q ⊢
 rw [e]
 dsimp only
 rw [qae]
 exact q
theorem qgu:∀ {k n i:Nat},i<k->(refs n k)[i]? = some (.ref (n+i))
 | k+1,n,0,_=>rfl
 | k+1,n,i+1,h=>by rw [refs,gC1,qgu (Nat.lt_of_succ_lt_succ h),show n+1+i=n+(i+1) by lia]
theorem qd3:∀ k n:Nat,(refs n k).length=k
 | 0,_=>rfl
 | k+1,n=>by rw [refs,lC1,qd3]
noncomputable def tot (E:List (List (Nat×Nat))):Nat:=(E.map List.length).sum
noncomputable def nmD (rs:List Nat):List D:=rs.map fun i:Nat=>D.int i
theorem qbw (rs:List Nat):(nmD rs).length=rs.length:=by simp [nmD]
theorem qaW (rs:List Nat):D.unds 0 (nmD rs)=true:=qa1 fun _ _=>rfl
theorem qje {S:Sto}{n:Nat}{x:Nat}:∀ cs:List Nat,inL (eqN S (n+1)) (.int x) (nmD cs)=some (cs.contains x)
 | []=>rfl
 | c::cs=>by
  have e1:eqN S (n+1) (.int c) (.int x)=some ((c:Int) == (x:Int)):=rfl
  have e2:((c:Int) == (x:Int))=(x == c):=by
   rw [Bool.eq_iff_iff,beq_iff_eq,beq_iff_eq];lia
  have ih:=qje (S:=S) (n:=n) (x:=x) cs
  rw [nmD,mP1,inL,e1,e2]
  rw [nmD] at ih
  rw [ih,List.contains_cons];rfl
theorem qpu {S:Sto}{x:Nat}{cs:List Nat}:gInY (.int x) (.tup (nmD cs)) S=some (.bl (cs.contains x),S):=by
 simp only [gInY,gInX,gIn,qaz,oS1,qam,show (60:Nat)=59+1 from rfl,qje,oP1]
theorem qk0 {κ:Type}[DecidableEq κ]{k:κ}:qak ([]:List (κ×D)) k=none:=rfl
theorem qbr {κ:Type}[DecidableEq κ]{k a:κ}{d:D}{r:List (κ×D)}:qak ((a,d)::r) k=if a=k then some d else qak r k:=by
 unfold qak
 rw [List.find?_cons]
 by_cases h:a=k
 ·simp [h]
 ·simp [h]
theorem qfl {κ:Type}[DecidableEq κ]{k:κ}{b:List (κ×D)}:∀ {a:List (κ×D)},qak (a++b) k=(qak a k).or (qak b k)
 | []=>rfl
 | (x,d)::a=>by
  rw [List.cons_append,qbr,qbr,qfl (a:=a)]
  split<;>rfl
theorem qdq {κ:Type}[DecidableEq κ]{k:κ}:∀ {a:List (κ×D)},(a.any fun p=>decide (p.1=k))=false->qak a k=none
 | [],_=>rfl
 | (x,d)::a,h=>by
  simp only [List.any_cons,Bool.or_eq_false_iff,decide_eq_false_iff_not] at h
  rw [qbr,if_neg h.1]
  exact qdq h.2
theorem qel {κ:Type}[DecidableEq κ]{k k':κ}{v:D}:∀ {a:List (κ×D)},(a.any fun p=>decide (p.1=k))=true->qak (a.map fun p=>if p.1=k then (p.1,v) else p) k'=if k'=k then some v else qak a k'
 | [],h=>by simp at h
 | (x,d)::a,h=>by
  rw [mP1]
  by_cases hx:x=k
  ·subst hx
   rw [if_pos (show (x,d).1=x from rfl)]
   rw [qbr,qbr]
   by_cases hk:k'=x
   ·subst hk;simp
   ·rw [if_neg (Ne.symm hk),if_neg (Ne.symm hk),if_neg hk]
    by_cases ha:(a.any fun p=>decide (p.1=x))=true
    ·rw [qel ha,if_neg hk]
    ·have:(a.map fun p=>if p.1=x then (p.1,v) else p)=a:=by
      have ha':(a.any fun p=>decide (p.1=x))=false:=Bool.eq_false_iff.mpr ha
      rw [List.any_eq_false] at ha'
      conv=>rhs;rw [<- List.map_id a]
      apply List.map_congr_left
      intro p hp
      have:=ha' p hp
      simp at this
      simp [this]
     rw [this]
  ·simp only [List.any_cons,decide_eq_false hx,Bool.false_or] at h
   rw [if_neg (show ¬ (x,d).1=k from hx)]
   rw [qbr,qbr,qel h]
   by_cases hxk:x=k'
   ·subst hxk;simp [hx]
   ·simp [hxk]
theorem qa5 {κ:Type}[DecidableEq κ]{k k':κ}{v:D}{a:List (κ×D)}:qak (putD a k v) k'=if k'=k then some v else qak a k':=by
 unfold putD
 split
 ·rename_i h;exact qel h
 ·rename_i h
  have h':(a.any fun p=>decide (p.1=k))=false:=Bool.eq_false_iff.mpr h
  rw [qfl,qbr,qk0]
  by_cases hk:k'=k
  ·subst hk
   rw [qdq h',if_pos rfl];rfl
  ·rw [if_neg (Ne.symm hk),if_neg hk]
   cases qak a k'<;>rfl
theorem qgw {κ:Type}[DecidableEq κ]{k:κ}{v:D}{a:List (κ×D)}:(putD a k v).length<=a.length+1:=by
 unfold putD
 split
 ·rw [lM1];lia
 ·rw [lA1];simp
theorem qog {κ:Type}[DecidableEq κ]{k:κ}{v:D}{a:List (κ×D)}:putD a k v≠[]:=by
 unfold putD
 split
 ·rename_i h
  intro z
  cases a with
  | nil=>simp at h
  | cons x xs=>simp at z
 ·simp
noncomputable def dO (F:List (TK×D)):Ob:=if F=[] then .dct [] else .dcT F
theorem qjW {U:Sto}{n:Nat}{F:List (TK×D)}{key v:D}{k:TK}{Q:D×Sto->Prop}(h:U[n]? = some (dO F))(hk:keyT key=some k)(hl:F.length<1000)(q:Q (.non,U.set n (dO (putD F k v)))):W (qcL (.ref n) key v U) Q:=by
 refine W.of ?_ q
 unfold dO at h ⊢
 rw [if_neg qog]
 by_cases hF:F=[]
 ·subst hF
  rw [if_pos rfl] at h
  simp only [qcL,h,hk]
  rfl
 ·rw [if_neg hF] at h
  simp only [qcL,h,hk,oS1]
  rw [if_pos (nL1 hl (by decide))]
theorem qlW {U:Sto}{n:Nat}{F:List (TK×D)}{key v:D}{k:TK}{Q:D×Sto->Prop}(h:U[n]? = some (dO F))(hk:keyT key=some k)(hv:qak F k=some v)(q:Q (v,U)):W (gIxY (.ref n) key U) Q:=by
 refine W.of ?_ q
 unfold dO at h
 by_cases hF:F=[]
 ·subst hF;cases hv
 ·rw [if_neg hF] at h
  simp only [gIxY,h,hk,oS1,hv,oP1]
noncomputable def tkP (e:Nat×Nat):TK:=.tup [.int e.1,.int e.2]
theorem qjY {U:Sto}{n i:Nat}{xs:List D}{x:D}{Q:D×Sto->Prop}(h:U[n]? = some (.lst xs))(hx:xs[i]? = some x)(hb:i<1000)(q:Q (x,U.set n (.lst (xs.eraseIdx i)))):W (gPop (.ref n) (.int i) U) Q:=by
 have hl:=(gE1.mp hx).1
 refine W.of ?_ q
 simp only [gPop,h]
 rw [if_pos ⟨by lia,by lia⟩]
 simp only [ixN,if_pos (show (0:Int)<=i by lia)]
 rw [if_pos (by lia)]
 simp [hx]
theorem qpw {d:D}{S G:Sto}(hd:d.und 0=true)(hS:S.all (Ob.und S.length)=true):gc S.length (d,S++G)=(d,S):=by
 unfold gc
 dsimp only
 rw [List.take_left,if_pos (by rw [qeZ hd,hS];rfl)]
theorem qfC {m:FA}{r:Ev}{S:Sto}{xs:List D}{Q:Itm×Sto->Prop}(hm:m r S=some ([.tup xs],S))(q:Q (⟨enD 0 xs,[]⟩,S)):W (iEn m r S) Q:=by
 refine W.of (x:=(⟨enD 0 xs,[]⟩,S)) ?_ q
 simp only [iEn,hm,oS1,qdA,qnq]
theorem qlN {α:Type}{f:α->D}:∀ (l:List α) (k:Nat),enD k (l.map f)=(l.zipIdx k).map fun p=>D.tup [.int (p.2:Nat),f p.1]
 | [],_=>rfl
 | a::l,k=>by rw [mP1,enD,qlN l (k+1),List.zipIdx_cons];rfl
theorem qii {α:Type}{l:List α}{p:α×Nat}(h:p∈l.zipIdx):l[p.2]? = some p.1:=by
 have:=List.mem_zipIdx_iff_getElem?.mp h
 exact this
mutual
theorem qlx {n:Nat}:∀ {d:D},d.und 0=true->d.sh n=d
 | .non,_=>rfl
 | .bl _,_=>rfl
 | .int _,_=>rfl
 | .str _,_=>rfl
 | .tup xs,h=>by rw [D.und] at h;rw [D.sh,qe3 h]
 | .rol xs,h=>by rw [D.und] at h;rw [D.sh,qe3 h]
 | .fn _,_=>rfl
 | .ref k,h=>by simp [D.und] at h
theorem qe3 {n:Nat}:∀ {ds:List D},D.unds 0 ds=true->D.shs n ds=ds
 | [],_=>rfl
 | d::ds,h=>by
  rw [D.unds,bA1] at h
  rw [D.shs,qlx h.1,qe3 h.2]
end
theorem qjb (xs:List Nat):qeP (nmD xs)=some (xs.map fun (r:Nat)=>(r:Int)):=by
 induction xs with
 | nil=>rfl
 | cons x xs ih=>
  show (qeP (nmD xs)).map _=_
  rw [ih];rfl
end Mi
end
local macro_rules | `(tactic| walk_at "own wq") => `(tactic| simp only [Mi.qan, Mi.qev, Mi.ite_and', Mi.qae, Mi.qfA, Mi.qjZ, Mi.mSeq, Mi.mAsg, Mi.mIfS, Mi.mRet, Mi.qbQ, Mi.mNx, Mi.mN, Mi.qaa, Mi.mNil, Mi.m2, Mi.mV, Mi.mC, Mi.qhQ, Mi.qlU, Mi.mB, Mi.mAnd, Mi.mOr, Mi.mNot, Mi.mIf, Mi.qcr, Mi.mTr, Mi.qnL, Mi.gN, Mi.gT, Mi.gCs, Mi.gNl, Mi.gS, Mi.b1, Mi.b2, Mi.b3, Mi.fnB, Mi.qco, Mi.qnB, Mi.qpX, Mi.qq7, Mi.rW1, Mi.rW2, Mi.mFor, Mi.inEv, Mi.qpZ, Mi.qlX, Mi.gCmp, Mi.gInt, Mi.qnm, Mi.qni, Mi.qnj, Mi.qnh, Mi.ft0, Mi.ft1, Mi.ft2, Mi.ft3, Mi.ft6, true_and, Mi.qaU, Mi.qai, List.append_assoc, lA1, List.getElem?_cons_zero, gC1, List.getElem?_nil, List.set_cons_zero, List.set_cons_succ, lC1, List.length_nil, mP1, List.map_nil, Mi.rp0, Mi.rp1, Mi.rp2, Mi.rp3, Mi.rp4, Mi.rp8, Mi.rp11, Mi.rp12, List.nil_append, List.cons_append, List.append_nil, Nat.reduceAdd, Nat.reduceSub, Option.join_some, Option.join_none, oP1, Option.map_none, oS1, Option.bind_none, if_true, if_false, bF1, Bool.not_true, Bool.not_false, ite_true, ite_false, reduceIte, decide_true, decide_false, Mi.al1, Mi.al7, Mi.qi4, Mi.qdA, Mi.qpW, Mi.qpY, Mi.qq6])
section
namespace Law
open PySem PySem.Spec PyProof.Rows L2 Mi
noncomputable def top (i:Nat):Stmt:=PySem.Challenge.pw_ringmeet_k40_two_walkers_and_turns.main.body.getD i (.Pass ⟨0,0,0,0⟩)
structure Blt (mg:Str->Option Value):Prop where
 z_enumerate:mg "enumerate"=none
 z_int:mg "int"=none
 z_len:mg "len"=none
 z_list:mg "list"=none
 z_max:mg "max"=none
 z_min:mg "min"=none
 z_range:mg "range"=none
 z_set:mg "set"=none
 z_sorted:mg "sorted"=none
 z_tuple:mg "tuple"=none
noncomputable abbrev qdC:Stmt:=top 1
noncomputable def qfM:FS:=(mSeq (mAsg (mN (b1 gTup) (qaa (qbK 2 [2] (iSeq (mV 5)) (gT 2 (gCs (gN 0) (gCs (gN 1) gNl))) qcr (qbm (mTup (qaa (m2 (b2 gIxY) (mV 2) (mV 0)) (qaa (mV 1) mNil))))) mNil)) (gN 6))
  (qbQ (mMt (b2 gApp) (mV 3) (qaa (mTup (qaa (m2 (b2 gIxY) (mV 2) (mV 4)) (qaa (m2 (b2 gIxY) (mV 1) (mV 4)) (qaa (mV 6) mNil)))) mNil))))
noncomputable def qg5:FS:=(mSeq (mAsg (mLst mNil) (gN 3))
  (mSeq (mFor (iEn (qaa (mV 0) mNil)) (gT 2 (gCs (gN 4) (gCs (gN 5) gNl))) qfM)
  (mRet (mV 3))))
noncomputable def qc4:FN:=fnB 7 qg5
theorem qde:qas ["web","signs","colours","found","room","doors","led_to"] ["web","signs","colours"] (qab qdC):=⟨rfl,rfl,rfl,by decide+kernel,rfl,by decide+kernel,by decide+kernel⟩
theorem qky {P:Program}{w:World}{K:Fg1}{mg:Str->Option Value}{base:Heap}{f:Addr}{fd:FuncData}(F:Fun K "looks" "looks" qdC f fd)(hb:qa6 K fd ["web","signs","colours"] [])(hm:mg "looks"=some (.ref f))(B:Blt mg):
  Own P w K mg base 1 "looks" 3 qc4:=qaD (k:=0) (n:=3) (N:=["web","signs","colours","found","room","doors","led_to"]) (ps:=["web","signs","colours"]) (b:=qg5) F hb hm qde rfl fun cdv A outer s H E hr=>
 (qF (qY 3 qde.nd rfl (by first|exact Or.inl rfl|exact Or.inr rfl) (qaY qN))
  (qF (qW PassesOwn.never rfl (qaV rfl B.z_enumerate (qA (xmv 0) qN (qM ..))) (qay rfl (qac (qO 4 qde.nd rfl (by first|exact Or.inl rfl|exact Or.inr rfl)) (qac (qO 5 qde.nd rfl (by first|exact Or.inl rfl|exact Or.inr rfl)) qao))) (qF (qY 6 qde.nd rfl (by first|exact Or.inl rfl|exact Or.inr rfl) (qE qbu rfl B.z_tuple (by decide+kernel) (qA (qZ rfl (T:=["there","back"]) (keep:=[2]) ⟨rfl,by decide+kernel,(List.forall_mem_cons.mpr ⟨⟨_,rfl,rfl,(by first|exact Or.inl rfl|exact Or.inr rfl),(by first | decide+kernel | (show ¬ (("colours":Str),NameKind.cell)∈(_:List (Str×NameKind));decide+kernel))⟩,(List.forall_mem_nil _)⟩)⟩ rfl (qd (xmv 5)) (fun _ _ _=>⟨(qay rfl (qac (qO 0 (show List.Nodup (["there","back","colours"]:List Str) by decide+kernel) rfl (by first|exact Or.inl rfl|exact Or.inr rfl)) (qac (qO 1 (show List.Nodup (["there","back","colours"]:List Str) by decide+kernel) rfl (by first|exact Or.inl rfl|exact Or.inr rfl)) qao))),qaK,(qaw (qA (qJ (qP hr.units) (xmv 2) (xmv 0) (fun _ _=>rfl)) (qA (xmv 1) qN (qM ..)) (qS ..)))⟩)) qN (qaB ..))))
  (qG (qa0 (qe PySem.F.slot_list_append PySem.F.type_list_append qdy (xmv 3) (qA (qaw (qA (qJ (qP hr.units) (xmv 2) (xmv 4) (fun _ _=>rfl)) (qA (qJ (qP hr.units) (xmv 1) (xmv 4) (fun _ _=>rfl)) (qA (xmv 6) qN (qM ..)) (qS ..)) (qS ..))) qN (qT ..)))))))
  (qG (qU (xmv 3)))))
noncomputable abbrev qbS:Stmt:=top 4
noncomputable def qdR:FS:=(mIfS (mB (m2 (b2 qdK) (mV 2) (mV 1))) (mAsg (mN (b1 qib) (qaa (mV 1) mNil)) (gS (b3 qcL) (mV 1) (mV 2))) mNx)
noncomputable def qdN:FS:=(mSeq (mAsg qgN (gN 1))
  (mSeq (mFor (iSeq (mV 0)) (gN 2) qdR)
  (mRet (mN (b1 gTup) (qaa (qbK 1 [1] (iSeq (mV 0)) (gN 0) qcr (qbm (m2 (b2 gIxY) (mV 1) (mV 0)))) mNil)))))
noncomputable def qbC:FN:=fnB 3 qdN
theorem qcZ:qas ["things","numbers","thing"] ["things"] (qab qbS):=⟨rfl,rfl,rfl,by decide+kernel,rfl,by decide+kernel,by decide+kernel⟩
theorem qgB {P:Program}{w:World}{K:Fg1}{mg:Str->Option Value}{base:Heap}{f:Addr}{fd:FuncData}(F:Fun K "numbered" "numbered" qbS f fd)(hb:qa6 K fd ["things"] [])(hm:mg "numbered"=some (.ref f))(B:Blt mg):
  Own P w K mg base 1 "numbered" 1 qbC:=qaD (k:=0) (n:=1) (N:=["things","numbers","thing"]) (ps:=["things"]) (b:=qdN) F hb hm qcZ rfl fun cdv A outer s H E hr=>
 (qF (qY 1 qcZ.nd rfl (by first|exact Or.inl rfl|exact Or.inr rfl) qeW)
  (qF (qW PassesOwn.never rfl (qd (xmv 0)) (qO 2 qcZ.nd rfl (by first|exact Or.inl rfl|exact Or.inr rfl)) (qG (qV (qX (qkB hr.units) (xmv 2) (xmv 1) (by with_unfolding_all rfl)) (qG (qR (qD qpM rfl B.z_len (by decide+kernel) (qA (xmv 1) qN (qM ..))) (qdv (xmv 1) (xmv 2) (qeK hr.units)))) qQ)))
  (qG (qU (qE qbu rfl B.z_tuple (by decide+kernel) (qA (qZ rfl (T:=["thing"]) (keep:=[1]) ⟨rfl,by decide+kernel,(List.forall_mem_cons.mpr ⟨⟨_,rfl,rfl,(by first|exact Or.inl rfl|exact Or.inr rfl),(by first | decide+kernel | (show ¬ (("numbers":Str),NameKind.cell)∈(_:List (Str×NameKind));decide+kernel))⟩,(List.forall_mem_nil _)⟩)⟩ rfl (qd (xmv 0)) (fun _ _ _=>⟨(qO 0 (show List.Nodup (["thing","numbers"]:List Str) by decide+kernel) rfl (by first|exact Or.inl rfl|exact Or.inr rfl)),qaK,(qJ (qP hr.units) (xmv 1) (xmv 0) (fun _ _=>rfl))⟩)) qN (qaB ..)))))))
noncomputable abbrev qbc:Stmt:=top 5
noncomputable def qcA:FS:=(mRet (m2 (b2 gEq) (mN (b1 qgU) (qaa (mN (b1 qci) (qaa (mV 0) mNil)) mNil)) (mN (b1 gLen) (qaa (mV 0) mNil))))
noncomputable def qbF:FN:=fnB 1 qcA
theorem qe4:qas ["colours"] ["colours"] (qab qbc):=⟨rfl,rfl,rfl,by decide+kernel,rfl,by decide+kernel,by decide+kernel⟩
theorem qfb {P:Program}{w:World}{K:Fg1}{mg:Str->Option Value}{base:Heap}{f:Addr}{fd:FuncData}(F:Fun K "all_unlike" "all_unlike" qbc f fd)(hb:qa6 K fd ["colours"] [])(hm:mg "all_unlike"=some (.ref f))(B:Blt mg):
  Own P w K mg base 1 "all_unlike" 1 qbF:=qaD (k:=0) (n:=1) (N:=["colours"]) (ps:=["colours"]) (b:=qcA) F hb hm qe4 rfl fun cdv A outer s H E hr=>
 (qG (qU (qdx (o_eq hr.units) (qD qlT rfl B.z_len (by decide+kernel) (qA (qE (qlS hr) rfl B.z_set (by decide+kernel) (qA (xmv 0) qN (qM ..))) qN (qL ..))) (qD qa9 rfl B.z_len (by decide+kernel) (qA (xmv 0) qN (qM ..))) (qaC _))))
noncomputable abbrev qa3:Stmt:=top 7
noncomputable def qck:FS:=(mRet (mN (b1 gTup) (qaa (qbK 1 [1] (iR1 (qaa (mN (b1 gLen) (qaa (mV 0) mNil)) mNil)) (gN 0) qcr (qbm (mIf (mB (m2 (b2 gInY) (mV 0) (mV 1))) (mC (D.int (1))) (mC (D.int (0)))))) mNil)))
noncomputable def qaN:FN:=fnB 2 qck
theorem qeA:qas ["web","chalk"] ["web","chalk"] (qab qa3):=⟨rfl,rfl,rfl,by decide+kernel,rfl,by decide+kernel,by decide+kernel⟩
theorem qeB {P:Program}{w:World}{K:Fg1}{mg:Str->Option Value}{base:Heap}{f:Addr}{fd:FuncData}(F:Fun K "chalk_signs" "chalk_signs" qa3 f fd)(hb:qa6 K fd ["web","chalk"] [])(hm:mg "chalk_signs"=some (.ref f))(B:Blt mg):
  Own P w K mg base 1 "chalk_signs" 2 qaN:=qaD (k:=0) (n:=2) (N:=["web","chalk"]) (ps:=["web","chalk"]) (b:=qck) F hb hm qeA rfl fun cdv A outer s H E hr=>
 (qG (qU (qE qbu rfl B.z_tuple (by decide+kernel) (qA (qZ rfl (T:=["room"]) (keep:=[1]) ⟨rfl,by decide+kernel,(List.forall_mem_cons.mpr ⟨⟨_,rfl,rfl,(by first|exact Or.inl rfl|exact Or.inr rfl),(by first | decide+kernel | (show ¬ (("chalk":Str),NameKind.cell)∈(_:List (Str×NameKind));decide+kernel))⟩,(List.forall_mem_nil _)⟩)⟩ rfl (qax rfl B.z_range (qA (qD qa9 rfl B.z_len (by decide+kernel) (qA (xmv 0) qN (qM ..))) qN (qL ..))) (fun _ _ _=>⟨(qO 0 (show List.Nodup (["room","chalk"]:List Str) by decide+kernel) rfl (by first|exact Or.inl rfl|exact Or.inr rfl)),qaK,(qil (qX (qmN hr.units) (xmv 0) (xmv 1) (by with_unfolding_all rfl)) qK qK)⟩)) qN (qaB ..)))))
noncomputable abbrev qbB:Stmt:=top 13
noncomputable def qcm:FS:=(mSeq (mAsg (mC (D.int (0))) (gN 2))
  (mSeq (mIfS (mB (m2 (b2 gLt) (mV 1) (mN (b1 gLen) (qaa (mV 0) mNil)))) (mAsg (m2 (b2 gIxY) (mV 0) (mV 1)) (gN 2)) mNx)
  (mSeq (mAsg (m2 (b2 gMul) (m2 (b2 gPow) (mC (D.int (10))) (mC (D.int (60)))) (m2 (b2 gPow) (mC (D.int (10))) (mC (D.int (30))))) (gN 3))
  (mRet (mLst (qaa (m2 (b2 gMul) (m2 (b2 gMod) (mV 2) (mV 3)) (mN (b1 gInt) (qaa (m2 (b2 (gCmp fun i j=>decide (j<=i))) (mV 2) (m2 (b2 gPow) (mC (D.int (10))) (mC (D.int (18))))) mNil))) (qaa (m2 (b2 gMod) (m2 (b2 gAdd) (m2 (b2 gAdd) (m2 (b2 gMod) (mV 2) (mC (D.int (2305843009213693951)))) (m2 (b2 gMul) (mC (D.int (7919))) (mV 1))) (mC (D.int (5)))) (mC (D.int (2305843009213693951)))) (qaa (mC (D.int (0))) mNil))))))))
noncomputable def qa8:FN:=fnB 4 qcm
theorem qb4:qas ["_law_script","_law_k","_law_cell","_law_far"] ["_law_script","_law_k"] (qab qbB):=⟨rfl,rfl,rfl,by decide+kernel,rfl,by decide+kernel,by decide+kernel⟩
theorem qfR {P:Program}{w:World}{K:Fg1}{mg:Str->Option Value}{base:Heap}{f:Addr}{fd:FuncData}(F:Fun K "_law_hand" "_law_hand" qbB f fd)(hb:qa6 K fd ["_law_script","_law_k"] [])(hm:mg "_law_hand"=some (.ref f))(B:Blt mg):
  Own P w K mg base 1 "_law_hand" 2 qa8:=qaD (k:=0) (n:=2) (N:=["_law_script","_law_k","_law_cell","_law_far"]) (ps:=["_law_script","_law_k"]) (b:=qcm) F hb hm qb4 rfl fun cdv A outer s H E hr=>
 (qF (qY 2 qb4.nd rfl (by first|exact Or.inl rfl|exact Or.inr rfl) qK)
  (qF (qV (qX (qh0 hr.units) (xmv 1) (qD qa9 rfl B.z_len (by decide+kernel) (qA (xmv 0) qN (qM ..))) (qaC _)) (qG (qY 2 qb4.nd rfl (by first|exact Or.inl rfl|exact Or.inr rfl) (qJ (qP hr.units) (xmv 0) (xmv 1) (fun _ _=>rfl)))) qQ)
  (qF (qY 3 qb4.nd rfl (by first|exact Or.inl rfl|exact Or.inr rfl) (qI qfS (qI qmL qK qK) (qI qmL qK qK)))
  (qG (qU (qaY (qA (qI qfS (qI qfT (xmv 2) (xmv 3)) (qE qnw rfl B.z_int (by decide+kernel) (qA (qdx o_ge (xmv 2) (qI qmL qK qK) (qaC _)) qN (qdz ..)))) (qA (qI qfT (qI qc3 (qI qc3 (qI qfT (xmv 2) qK) (qI qfS qK (xmv 1))) qK) qK) (qA qK qN (qC ..)) (qB ..)) (qB ..))))))))
noncomputable abbrev qbz:Stmt:=top 14
noncomputable def qcl:FS:=(mSeq (mIfS (mB (m2 (b2 (gCmp fun i j=>decide (j<i))) (m2 (b2 gIxY) (mV 0) (mC (D.int (0)))) (mC (D.int (0))))) (mSeq (mAsg (m2 (b2 gMod) (m2 (b2 gIxY) (mV 0) (mC (D.int (0)))) (mV 1)) (gN 2))
  (mSeq (mAsg (m2 (b2 gDiv) (m2 (b2 gIxY) (mV 0) (mC (D.int (0)))) (mV 1)) (gS (b3 qcL) (mV 0) (mC (D.int (0)))))
  (mRet (mV 2)))) mNx)
  (mSeq (mAsg (m2 (b2 gAdd) (m2 (b2 gIxY) (mV 0) (mC (D.int (2)))) (mC (D.int (1)))) (gS (b3 qcL) (mV 0) (mC (D.int (2)))))
  (mSeq (mAsg (m2 (b2 gMod) (m2 (b2 gMul) (m2 (b2 gAdd) (m2 (b2 gAdd) (m2 (b2 gIxY) (mV 0) (mC (D.int (1)))) (m2 (b2 gMul) (m2 (b2 gMul) (mC (D.int (9973))) (m2 (b2 gIxY) (mV 0) (mC (D.int (2))))) (m2 (b2 gIxY) (mV 0) (mC (D.int (2)))))) (mC (D.int (17)))) (mC (D.int (69621)))) (mC (D.int (2305843009213693921)))) (gN 3))
  (mSeq (mAsg (m2 (b2 gMod) (m2 (b2 gMul) (mV 3) (m2 (b2 gAdd) (m2 (b2 gMod) (mV 3) (mC (D.int (999983)))) (m2 (b2 gMul) (mC (D.int (7919))) (m2 (b2 gIxY) (mV 0) (mC (D.int (2))))))) (mC (D.int (2305843009213693907)))) (gN 3))
  (mRet (m2 (b2 gMod) (m2 (b2 gAdd) (m2 (b2 gDiv) (mV 3) (mC (D.int (101)))) (m2 (b2 gDiv) (mV 3) (mC (D.int (1000003))))) (mV 1)))))))
noncomputable def qag:FN:=fnB 4 qcl
theorem qb3:qas ["_law_hand_here","_law_many","_law_digit","_law_mixed"] ["_law_hand_here","_law_many"] (qab qbz):=⟨rfl,rfl,rfl,by decide+kernel,rfl,by decide+kernel,by decide+kernel⟩
theorem qfP {P:Program}{w:World}{K:Fg1}{mg:Str->Option Value}{base:Heap}{f:Addr}{fd:FuncData}(F:Fun K "_law_take" "_law_take" qbz f fd)(hb:qa6 K fd ["_law_hand_here","_law_many"] [])(hm:mg "_law_take"=some (.ref f))(B:Blt mg):
  Own P w K mg base 1 "_law_take" 2 qag:=qaD (k:=0) (n:=2) (N:=["_law_hand_here","_law_many","_law_digit","_law_mixed"]) (ps:=["_law_hand_here","_law_many"]) (b:=qcl) F hb hm qb3 rfl fun cdv A outer s H E hr=>
 (qF (qV (qX o_gt (qJ (qP hr.units) (xmv 0) qK (fun _ _=>rfl)) qK (qaC _)) (qF (qY 2 qb3.nd rfl (by first|exact Or.inl rfl|exact Or.inr rfl) (qI qfT (qJ (qP hr.units) (xmv 0) qK (fun _ _=>rfl)) (xmv 1)))
  (qF (qR (qI qkE (qJ (qP hr.units) (xmv 0) qK (fun _ _=>rfl)) (xmv 1)) (qdv (xmv 0) qK (qeK hr.units)))
  (qG (qU (xmv 2))))) qQ)
  (qF (qR (qI qc3 (qJ (qP hr.units) (xmv 0) qK (fun _ _=>rfl)) qK) (qdv (xmv 0) qK (qeK hr.units)))
  (qF (qY 3 qb3.nd rfl (by first|exact Or.inl rfl|exact Or.inr rfl) (qI qfT (qI qfS (qI qc3 (qI qc3 (qJ (qP hr.units) (xmv 0) qK (fun _ _=>rfl)) (qI qfS (qI qfS qK (qJ (qP hr.units) (xmv 0) qK (fun _ _=>rfl))) (qJ (qP hr.units) (xmv 0) qK (fun _ _=>rfl)))) qK) qK) qK))
  (qF (qY 3 qb3.nd rfl (by first|exact Or.inl rfl|exact Or.inr rfl) (qI qfT (qI qfS (xmv 3) (qI qc3 (qI qfT (xmv 3) qK) (qI qfS qK (qJ (qP hr.units) (xmv 0) qK (fun _ _=>rfl))))) qK))
  (qG (qU (qI qfT (qI qc3 (qI qkE (xmv 3) qK) (qI qkE (xmv 3) qK)) (xmv 1))))))))
noncomputable abbrev qbg:Stmt:=top 20
noncomputable def qcS:FS:=(mIfS (mB (m2 (b2 gNe) (m2 (b2 gIxY) (m2 (b2 gIxY) (mV 0) (m2 (b2 gIxY) (mV 1) (mV 2))) (mV 4)) (mTup (qaa (m2 (b2 gIxY) (mV 1) (mV 5)) (qaa (mV 6) mNil))))) (mRet (mC (D.bl false))) mNx)
noncomputable def qcR:FS:=(mSeq (mIfS (mB (m2 (b2 gNe) (mN (b1 gLen) (qaa (m2 (b2 gIxY) (mV 0) (m2 (b2 gIxY) (mV 1) (mV 2))) mNil)) (mN (b1 gLen) (qaa (mV 3) mNil)))) (mRet (mC (D.bl false))) mNx)
  (mFor (iEn (qaa (mV 3) mNil)) (gT 2 (gCs (gN 4) (gCs (gT 2 (gCs (gN 5) (gCs (gN 6) gNl))) gNl))) qcS))
noncomputable def qcE:FS:=(mSeq (mFor (iEn (qaa (mV 0) mNil)) (gT 2 (gCs (gN 2) (gCs (gN 3) gNl))) qcR)
  (mRet (mC (D.bl true))))
noncomputable def qbl:FN:=fnB 7 qcE
theorem qa2:qas ["_law_web_here","_law_turn","_law_room","_law_row","_law_door","_law_other","_law_back"] ["_law_web_here","_law_turn"] (qab qbg):=⟨rfl,rfl,rfl,by decide+kernel,rfl,by decide+kernel,by decide+kernel⟩
theorem qff {P:Program}{w:World}{K:Fg1}{mg:Str->Option Value}{base:Heap}{f:Addr}{fd:FuncData}(F:Fun K "_law_keeps" "_law_keeps" qbg f fd)(hb:qa6 K fd ["_law_web_here","_law_turn"] [])(hm:mg "_law_keeps"=some (.ref f))(B:Blt mg):
  Own P w K mg base 1 "_law_keeps" 2 qbl:=qaD (k:=0) (n:=2) (N:=["_law_web_here","_law_turn","_law_room","_law_row","_law_door","_law_other","_law_back"]) (ps:=["_law_web_here","_law_turn"]) (b:=qcE) F hb hm qa2 rfl fun cdv A outer s H E hr=>
 (qF (qW PassesOwn.never rfl (qaV rfl B.z_enumerate (qA (xmv 0) qN (qM ..))) (qay rfl (qac (qO 2 qa2.nd rfl (by first|exact Or.inl rfl|exact Or.inr rfl)) (qac (qO 3 qa2.nd rfl (by first|exact Or.inl rfl|exact Or.inr rfl)) qao))) (qF (qV (qX (o_ne hr.units) (qD qa9 rfl B.z_len (by decide+kernel) (qA (qJ (qP hr.units) (xmv 0) (qJ (qP hr.units) (xmv 1) (xmv 2) (fun _ _=>rfl)) (fun _ _=>rfl)) qN (qS ..))) (qD qa9 rfl B.z_len (by decide+kernel) (qA (xmv 3) qN (qM ..))) (qaC _)) (qG (qU qd5)) qQ)
  (qG (qW PassesOwn.never rfl (qaV rfl B.z_enumerate (qA (xmv 3) qN (qM ..))) (qay rfl (qac (qO 4 qa2.nd rfl (by first|exact Or.inl rfl|exact Or.inr rfl)) (qac (qay rfl (qac (qO 5 qa2.nd rfl (by first|exact Or.inl rfl|exact Or.inr rfl)) (qac (qO 6 qa2.nd rfl (by first|exact Or.inl rfl|exact Or.inr rfl)) qao))) qao))) (qG (qV (qX (o_ne hr.units) (qJ (qP hr.units) (qJ (qP hr.units) (xmv 0) (qJ (qP hr.units) (xmv 1) (xmv 2) (fun _ _=>rfl)) (fun _ _=>rfl)) (xmv 4) (fun _ _=>rfl)) (qaw (qA (qJ (qP hr.units) (xmv 1) (xmv 5) (fun _ _=>rfl)) (qA (xmv 6) qN (qM ..)) (qS ..))) (qaC _)) (qG (qU qd5)) qQ))))))
  (qG (qU qd5)))
noncomputable abbrev qbd:Stmt:=top 21
noncomputable def qcP:FS:=(mIfS (mB (m2 (b2 qaH) (mV 5) (mV 1))) (mSeq (mAsg (m2 (b2 gAdd) (m2 (b2 gIxY) (mV 1) (mV 3)) (mTup (qaa (mV 4) mNil))) (gS (b3 qcL) (mV 1) (mV 5)))
  (qbQ (mMt (b2 gApp) (mV 2) (qaa (mV 5) mNil)))) mNx)
noncomputable def qcO:FT:=(mB (m2 (b2 gNe) (mV 2) (mLst mNil)))
noncomputable def qcN:FS:=(mSeq (mAsg (mMt (b2 gPop) (mV 2) (qaa (mC (D.int (0))) mNil)) (gN 3))
  (mFor (iEn (qaa (m2 (b2 gIxY) (mV 0) (mV 3)) mNil)) (gT 2 (gCs (gN 4) (gCs (gT 2 (gCs (gN 5) (gCs (gN 6) gNl))) gNl))) qcP))
noncomputable def qcB:FS:=(mSeq (mAsg (mTup (qaa (qpd [((mC (D.int (0))),(mTup mNil))]) (qaa (mLst (qaa (mC (D.int (0))) mNil)) mNil))) (gT 2 (gCs (gN 1) (gCs (gN 2) gNl))))
  (mSeq (whl qcO qcN 100000)
  (mRet (qbK 1 [1] (iR1 (qaa (mN (b1 gLen) (qaa (mV 0) mNil)) mNil)) (gN 0) qcr (qbm (m2 (b2 gIxY) (mV 1) (mV 0)))))))
noncomputable def qbG:FN:=fnB 7 qcB
theorem qaM:qas ["_law_web_here","_law_found","_law_waiting","_law_room","_law_door","_law_other","_law_back"] ["_law_web_here"] (qab qbd):=⟨rfl,rfl,rfl,by decide+kernel,rfl,by decide+kernel,by decide+kernel⟩
theorem qfc {P:Program}{w:World}{K:Fg1}{mg:Str->Option Value}{base:Heap}{f:Addr}{fd:FuncData}(F:Fun K "_law_walks" "_law_walks" qbd f fd)(hb:qa6 K fd ["_law_web_here"] [])(hm:mg "_law_walks"=some (.ref f))(B:Blt mg):
  Own P w K mg base 1 "_law_walks" 1 qbG:=qaD (k:=0) (n:=1) (N:=["_law_web_here","_law_found","_law_waiting","_law_room","_law_door","_law_other","_law_back"]) (ps:=["_law_web_here"]) (b:=qcB) F hb hm qaM rfl fun cdv A outer s H E hr=>
 (qF (qR (qaw (qA (qj3 (qj0 qK (qaw qN) qlZ)) (qA (qaY (qA qK qN (qC ..))) qN (qe0 ..)) (qma ..))) (qay rfl (qac (qO 1 qaM.nd rfl (by first|exact Or.inl rfl|exact Or.inr rfl)) (qac (qO 2 qaM.nd rfl (by first|exact Or.inl rfl|exact Or.inr rfl)) qao))))
  (qF (qdb 100000 PassesOwn.never (qX (o_ne hr.units) (xmv 2) (qaY qN) (qaC _)) (qF (qY 3 qaM.nd rfl (by first|exact Or.inl rfl|exact Or.inr rfl) (qe PySem.F.slot_list_pop PySem.F.type_list_pop ql4 (xmv 2) (qA qK qN (qC ..))))
  (qG (qW PassesOwn.never rfl (qaV rfl B.z_enumerate (qA (qJ (qP hr.units) (xmv 0) (xmv 3) (fun _ _=>rfl)) qN (qS ..))) (qay rfl (qac (qO 4 qaM.nd rfl (by first|exact Or.inl rfl|exact Or.inr rfl)) (qac (qay rfl (qac (qO 5 qaM.nd rfl (by first|exact Or.inl rfl|exact Or.inr rfl)) (qac (qO 6 qaM.nd rfl (by first|exact Or.inl rfl|exact Or.inr rfl)) qao))) qao))) (qG (qV (qX (qdk hr.units) (xmv 5) (xmv 1) (by with_unfolding_all rfl)) (qF (qR (qI qc3 (qJ (qP hr.units) (xmv 1) (xmv 3) (fun _ _=>rfl)) (qaw (qA (xmv 4) qN (qM ..)))) (qdv (xmv 1) (xmv 5) (qeK hr.units)))
  (qG (qa0 (qe PySem.F.slot_list_append PySem.F.type_list_append qdy (xmv 2) (qA (xmv 5) qN (qM ..)))))) qQ))))))
  (qG (qU (qZ rfl (T:=["_law_room"]) (keep:=[1]) ⟨rfl,by decide+kernel,(List.forall_mem_cons.mpr ⟨⟨_,rfl,rfl,(by first|exact Or.inl rfl|exact Or.inr rfl),(by first | decide+kernel | (show ¬ (("_law_found":Str),NameKind.cell)∈(_:List (Str×NameKind));decide+kernel))⟩,(List.forall_mem_nil _)⟩)⟩ rfl (qax rfl B.z_range (qA (qD qa9 rfl B.z_len (by decide+kernel) (qA (xmv 0) qN (qM ..))) qN (qL ..))) (fun _ _ _=>⟨(qO 0 (show List.Nodup (["_law_room","_law_found"]:List Str) by decide+kernel) rfl (by first|exact Or.inl rfl|exact Or.inr rfl)),qaK,(qJ (qP hr.units) (xmv 1) (xmv 0) (fun _ _=>rfl))⟩))))))
noncomputable abbrev qbU:Stmt:=top 22
noncomputable def qdS:FS:=(mSeq (mIfS (mOr (mB (m2 (b2 gIsX) (mV 1) (mC D.non))) (mB (m2 (b2 (gCmp fun i j=>decide (j<=i))) (mV 3) (mN (b1 gLen) (qaa (m2 (b2 gIxY) (mV 0) (mV 1)) mNil))))) (mRet (mC D.non)) mNx)
  (mAsg (m2 (b2 gIxY) (m2 (b2 gIxY) (m2 (b2 gIxY) (mV 0) (mV 1)) (mV 3)) (mC (D.int (0)))) (gN 1)))
noncomputable def qdP:FS:=(mSeq (mFor (iSeq (mV 2)) (gN 3) qdS)
  (mRet (mV 1)))
noncomputable def qcg:FN:=fnB 4 qdP
theorem qc1:qas ["_law_web_here","_law_room","_law_walk","_law_door"] ["_law_web_here","_law_room","_law_walk"] (qab qbU):=⟨rfl,rfl,rfl,by decide+kernel,rfl,by decide+kernel,by decide+kernel⟩
theorem qgD {P:Program}{w:World}{K:Fg1}{mg:Str->Option Value}{base:Heap}{f:Addr}{fd:FuncData}(F:Fun K "_law_led" "_law_led" qbU f fd)(hb:qa6 K fd ["_law_web_here","_law_room","_law_walk"] [])(hm:mg "_law_led"=some (.ref f))(B:Blt mg):
  Own P w K mg base 1 "_law_led" 3 qcg:=qaD (k:=0) (n:=3) (N:=["_law_web_here","_law_room","_law_walk","_law_door"]) (ps:=["_law_web_here","_law_room","_law_walk"]) (b:=qdP) F hb hm qc1 rfl fun cdv A outer s H E hr=>
 (qF (qW PassesOwn.never rfl (qd (xmv 2)) (qO 3 qc1.nd rfl (by first|exact Or.inl rfl|exact Or.inr rfl)) (qF (qV (qgn (qll (qX qoJ (xmv 1) qcs (qaC _)) (qij (qX o_ge (xmv 3) (qD qa9 rfl B.z_len (by decide+kernel) (qA (qJ (qP hr.units) (xmv 0) (xmv 1) (fun _ _=>rfl)) qN (qS ..))) (qaC _))))) (qG (qU qcs)) qQ)
  (qG (qY 1 qc1.nd rfl (by first|exact Or.inl rfl|exact Or.inr rfl) (qJ (qP hr.units) (qJ (qP hr.units) (qJ (qP hr.units) (xmv 0) (xmv 1) (fun _ _=>rfl)) (xmv 3) (fun _ _=>rfl)) qK (fun _ _=>rfl))))))
  (qG (qU (xmv 1))))
noncomputable abbrev qaG:Stmt:=top 26
noncomputable def qb5:FS:=(mSeq (mAsg (qbK 2 [3,2] (iEn (qaa (mV 0) mNil)) (gT 2 (gCs (gN 0) (gCs (gN 1) gNl))) (mAnd (mB (m2 (b2 gEq) (mV 1) (mV 2))) (mB (m2 (b2 gNe) (mV 0) (mV 3)))) (qbm (mV 0))) (gN 4))
  (mSeq (mIfS (mB (m2 (b2 gNe) (mN (b1 gLen) (qaa (mV 4) mNil)) (mC (D.int (1))))) (mRet (mC D.non)) mNx)
  (qbQ (mMt (b2 gApp) (mV 1) (qaa (m2 (b2 gIxY) (mV 4) (mC (D.int (0)))) mNil)))))
noncomputable def qbO:FS:=(mSeq (mAsg (mLst mNil) (gN 1))
  (mSeq (mFor (iEn (qaa (mV 0) mNil)) (gT 2 (gCs (gN 2) (gCs (gN 3) gNl))) qb5)
  (mRet (mN (b1 gTup) (qaa (mV 1) mNil)))))
noncomputable def qaR:FN:=fnB 5 qbO
theorem qaJ:qas ["_law_colours","_law_found","_law_room","_law_colour","_law_others"] ["_law_colours"] (qab qaG):=⟨rfl,rfl,rfl,by decide+kernel,rfl,by decide+kernel,by decide+kernel⟩
theorem qdH {P:Program}{w:World}{K:Fg1}{mg:Str->Option Value}{base:Heap}{f:Addr}{fd:FuncData}(F:Fun K "_law_exchanged" "_law_exchanged" qaG f fd)(hb:qa6 K fd ["_law_colours"] [])(hm:mg "_law_exchanged"=some (.ref f))(B:Blt mg):
  Own P w K mg base 1 "_law_exchanged" 1 qaR:=qaD (k:=0) (n:=1) (N:=["_law_colours","_law_found","_law_room","_law_colour","_law_others"]) (ps:=["_law_colours"]) (b:=qbO) F hb hm qaJ rfl fun cdv A outer s H E hr=>
 (qF (qY 1 qaJ.nd rfl (by first|exact Or.inl rfl|exact Or.inr rfl) (qaY qN))
  (qF (qW PassesOwn.never rfl (qaV rfl B.z_enumerate (qA (xmv 0) qN (qM ..))) (qay rfl (qac (qO 2 qaJ.nd rfl (by first|exact Or.inl rfl|exact Or.inr rfl)) (qac (qO 3 qaJ.nd rfl (by first|exact Or.inl rfl|exact Or.inr rfl)) qao))) (qF (qct 4 rfl (T:=["_law_other","_law_its"]) (keep:=[3,2]) ⟨rfl,by decide+kernel,(List.forall_mem_cons.mpr ⟨⟨_,rfl,rfl,(by first|exact Or.inl rfl|exact Or.inr rfl),(by first | decide+kernel | (show ¬ (("_law_colour":Str),NameKind.cell)∈(_:List (Str×NameKind));decide+kernel))⟩,(List.forall_mem_cons.mpr ⟨⟨_,rfl,rfl,(by first|exact Or.inl rfl|exact Or.inr rfl),(by first | decide+kernel | (show ¬ (("_law_room":Str),NameKind.cell)∈(_:List (Str×NameKind));decide+kernel))⟩,(List.forall_mem_nil _)⟩)⟩)⟩ rfl (qaV rfl B.z_enumerate (qA (xmv 0) qN (qM ..))) (fun _ _ _=>⟨(qay rfl (qac (qO 0 (show List.Nodup (["_law_other","_law_its","_law_colour","_law_room"]:List Str) by decide+kernel) rfl (by first|exact Or.inl rfl|exact Or.inr rfl)) (qac (qO 1 (show List.Nodup (["_law_other","_law_its","_law_colour","_law_room"]:List Str) by decide+kernel) rfl (by first|exact Or.inl rfl|exact Or.inr rfl)) qao))),(qcH (qgn (qdu (qX (o_eq hr.units) (xmv 1) (xmv 2) (qaC _)) (qda (qX (o_ne hr.units) (xmv 0) (xmv 3) (qaC _)))))),(xmv 0)⟩) qaJ.nd rfl (by first|exact Or.inl rfl|exact Or.inr rfl))
  (qF (qV (qX (o_ne hr.units) (qD qa9 rfl B.z_len (by decide+kernel) (qA (xmv 4) qN (qM ..))) qK (qaC _)) (qG (qU qcs)) qQ)
  (qG (qa0 (qe PySem.F.slot_list_append PySem.F.type_list_append qdy (xmv 1) (qA (qJ (qP hr.units) (xmv 4) qK (fun _ _=>rfl)) qN (qS ..))))))))
  (qG (qU (qE qbu rfl B.z_tuple (by decide+kernel) (qA (xmv 1) qN (qM ..)))))))
noncomputable abbrev qcd:Stmt:=top 3
noncomputable def qeh:FT:=(mB (m2 (b2 gNe) (mV 4) (mV 3)))
noncomputable def qeg:FS:=(mSeq (mAsg (mV 4) (gN 3))
  (mAsg (mFnV 2 "numbered" (qaj 1 qbC) (qaa (mN (qaj 3 qc4) (qaa (mV 0) (qaa (mV 1) (qaa (mV 3) mNil)))) mNil)) (gN 4)))
noncomputable def qeu:FS:=(mSeq (mAsg (mN (b1 gTup) (qaa (qbK 1 [] (iSeq (mV 0)) (gN 0) qcr (qbm (mC (D.int (0))))) mNil)) (gN 3))
  (mSeq (mAsg (mFnV 2 "numbered" (qaj 1 qbC) (qaa (mN (qaj 3 qc4) (qaa (mV 0) (qaa (mV 1) (qaa (mV 3) mNil)))) mNil)) (gN 4))
  (mSeq (whl qeh qeg 100000)
  (mRet (mV 3)))))
noncomputable def qcw:FN:=fnB 5 qeu
theorem qcc:qas ["web","signs","numbering","colours","finer"] ["web","signs","numbering"] (qab qcd):=⟨rfl,rfl,rfl,by decide+kernel,rfl,by decide+kernel,by decide+kernel⟩
theorem qhZ {P:Program}{w:World}{K:Fg1}{mg:Str->Option Value}{base:Heap}{f:Addr}{fd:FuncData}(F:Fun K "refined" "refined" qcd f fd)(hb:qa6 K fd ["web","signs","numbering"] [])(hm:mg "refined"=some (.ref f))(B:Blt mg)(o_looks:Own P w K mg base 1 "looks" 3 qc4)(o_numbered:Own P w K mg base 1 "numbered" 1 qbC):
  Own P w K mg base 2 "refined" 3 qcw:=qaD (k:=1) (n:=3) (N:=["web","signs","numbering","colours","finer"]) (ps:=["web","signs","numbering"]) (b:=qeu) F hb hm qcc rfl fun cdv A outer s H E hr=>
 (qF (qY 3 qcc.nd rfl (by first|exact Or.inl rfl|exact Or.inr rfl) (qE qbu rfl B.z_tuple (by decide+kernel) (qA (qZ rfl (T:=["room"]) (keep:=[]) ⟨rfl,by decide+kernel,(List.forall_mem_nil _)⟩ rfl (qd (xmv 0)) (fun _ _ _=>⟨(qO 0 (show List.Nodup (["room"]:List Str) by decide+kernel) rfl (by first|exact Or.inl rfl|exact Or.inr rfl)),qaK,qK⟩)) qN (qaB ..))))
  (qF (qY 4 qcc.nd rfl (by first|exact Or.inl rfl|exact Or.inr rfl) (qfD 2 o_numbered hr (by first|decide|omega) rfl (by first|exact Or.inl rfl|exact Or.inr rfl) (qA (qH o_looks hr (by first|decide|omega) rfl (qA (xmv 0) (qA (xmv 1) (qA (xmv 3) qN (qM ..)) (qM ..)) (qM ..))) qN (qL ..))))
  (qF (qdb 100000 PassesOwn.never (qX (o_ne hr.units) (xmv 4) (xmv 3) (qaC _)) (qF (qY 3 qcc.nd rfl (by first|exact Or.inl rfl|exact Or.inr rfl) (xmv 4))
  (qG (qY 4 qcc.nd rfl (by first|exact Or.inl rfl|exact Or.inr rfl) (qfD 2 o_numbered hr (by first|decide|omega) rfl (by first|exact Or.inl rfl|exact Or.inr rfl) (qA (qH o_looks hr (by first|decide|omega) rfl (qA (xmv 0) (qA (xmv 1) (qA (xmv 3) qN (qM ..)) (qM ..)) (qM ..))) qN (qL ..)))))))
  (qG (qU (xmv 3))))))
noncomputable abbrev qby:Stmt:=top 8
noncomputable def qc8:FS:=(mSeq (mAsg (mV 1) (gT 2 (gCs (gN 2) (gCs (gN 3) gNl))))
  (mSeq (mAsg (mN (qaj 2 qaN) (qaa (mV 0) (qaa (mV 3) mNil))) (gN 4))
  (mRet (mN (b1 gTup) (qaa (qbK 2 [2] (iEn (qaa (mV 4) mNil)) (gT 2 (gCs (gN 0) (gCs (gN 1) gNl))) qcr (qbm (mIf (mB (m2 (b2 gInY) (mV 0) (mV 2))) (m2 (b2 gAdd) (mV 1) (mC (D.int (2)))) (mV 1)))) mNil)))))
noncomputable def qb0:FN:=fnB 5 qc8
theorem qb2:qas ["web","standing","rooms","chalk","signs"] ["web","standing"] (qab qby):=⟨rfl,rfl,rfl,by decide+kernel,rfl,by decide+kernel,by decide+kernel⟩
theorem qfO {P:Program}{w:World}{K:Fg1}{mg:Str->Option Value}{base:Heap}{f:Addr}{fd:FuncData}(F:Fun K "all_signs" "all_signs" qby f fd)(hb:qa6 K fd ["web","standing"] [])(hm:mg "all_signs"=some (.ref f))(B:Blt mg)(o_chalk_signs:Own P w K mg base 1 "chalk_signs" 2 qaN):
  Own P w K mg base 2 "all_signs" 2 qb0:=qaD (k:=1) (n:=2) (N:=["web","standing","rooms","chalk","signs"]) (ps:=["web","standing"]) (b:=qc8) F hb hm qb2 rfl fun cdv A outer s H E hr=>
 (qF (qR (xmv 1) (qay rfl (qac (qO 2 qb2.nd rfl (by first|exact Or.inl rfl|exact Or.inr rfl)) (qac (qO 3 qb2.nd rfl (by first|exact Or.inl rfl|exact Or.inr rfl)) qao))))
  (qF (qY 4 qb2.nd rfl (by first|exact Or.inl rfl|exact Or.inr rfl) (qH o_chalk_signs hr (by first|decide|omega) rfl (qA (xmv 0) (qA (xmv 3) qN (qM ..)) (qM ..))))
  (qG (qU (qE qbu rfl B.z_tuple (by decide+kernel) (qA (qZ rfl (T:=["room","sign"]) (keep:=[2]) ⟨rfl,by decide+kernel,(List.forall_mem_cons.mpr ⟨⟨_,rfl,rfl,(by first|exact Or.inl rfl|exact Or.inr rfl),(by first | decide+kernel | (show ¬ (("rooms":Str),NameKind.cell)∈(_:List (Str×NameKind));decide+kernel))⟩,(List.forall_mem_nil _)⟩)⟩ rfl (qaV rfl B.z_enumerate (qA (xmv 4) qN (qM ..))) (fun _ _ _=>⟨(qay rfl (qac (qO 0 (show List.Nodup (["room","sign","rooms"]:List Str) by decide+kernel) rfl (by first|exact Or.inl rfl|exact Or.inr rfl)) (qac (qO 1 (show List.Nodup (["room","sign","rooms"]:List Str) by decide+kernel) rfl (by first|exact Or.inl rfl|exact Or.inr rfl)) qao))),qaK,(qil (qX (qmN hr.units) (xmv 0) (xmv 2) (by with_unfolding_all rfl)) (qI qc3 (xmv 1) qK) (xmv 1))⟩)) qN (qaB ..)))))))
noncomputable abbrev qa4:Stmt:=top 15
noncomputable def qbZ:FT:=(mB (m2 (b2 gNe) (mV 4) (mLst mNil)))
noncomputable def qbY:FS:=(qbQ (mMt (b2 gApp) (mV 5) (qaa (mMt (b2 gPop) (mV 4) (qaa (mN (qaj 2 qag) (qaa (mV 0) (qaa (mN (b1 gLen) (qaa (mV 4) mNil)) mNil))) mNil)) mNil)))
noncomputable def qbX:FS:=(mSeq (mAsg (mTup (qaa (mN (b1 gLst) (qaa (mV 3) mNil)) (qaa (mLst mNil) mNil))) (gT 2 (gCs (gN 4) (gCs (gN 5) gNl))))
  (mSeq (whl qbZ qbY 100000)
  (qbQ (mMt (b2 gApp) (mV 2) (qaa (mV 5) mNil)))))
noncomputable def qbW:FS:=(qbQ (mMt (b2 gApp) (qfX (mV 6) (mV 9) (mLst mNil)) (qaa (mTup (qaa (mV 7) (qaa (mV 8) mNil))) mNil)))
noncomputable def qcv:FS:=(mFor (iEn (qaa (mV 5) mNil)) (gT 2 (gCs (gN 8) (gCs (gN 9) gNl))) qbW)
noncomputable def qcn:FS:=(mSeq (mAsg (mLst mNil) (gN 2))
  (mSeq (mFor (iSeq (mV 1)) (gN 3) qbX)
  (mSeq (mAsg qgN (gN 6))
  (mSeq (mFor (iEn (qaa (mV 2) mNil)) (gT 2 (gCs (gN 7) (gCs (gN 5) gNl))) qcv)
  (mRet (mN (b1 gTup) (qaa (qbK 2 [6] (iEn (qaa (mV 2) mNil)) (gT 2 (gCs (gN 0) (gCs (gN 1) gNl))) qcr (qbm (mN (b1 gTup) (qaa (qbK 2 [2,0] (iEn (qaa (mV 1) mNil)) (gT 2 (gCs (gN 0) (gCs (gN 1) gNl))) qcr (qbm (m2 (b2 gIxY) (m2 (b2 gIxY) (mV 2) (mV 1)) (mN (b1 gInt) (qaa (m2 (b2 gEq) (m2 (b2 gIxY) (m2 (b2 gIxY) (mV 2) (mV 1)) (mC (D.int (0)))) (mTup (qaa (mV 3) (qaa (mV 0) mNil)))) mNil))))) mNil)))) mNil)))))))
noncomputable def qbq:FN:=fnB 10 qcn
theorem qaA:qas ["_law_hand_here","_law_ends","_law_rows","_law_some","_law_left","_law_row","_law_places","_law_room","_law_door","_law_way"] ["_law_hand_here","_law_ends"] (qab qa4):=⟨rfl,rfl,rfl,by decide+kernel,rfl,by decide+kernel,by decide+kernel⟩
theorem qeC {P:Program}{w:World}{K:Fg1}{mg:Str->Option Value}{base:Heap}{f:Addr}{fd:FuncData}(F:Fun K "_law_doored" "_law_doored" qa4 f fd)(hb:qa6 K fd ["_law_hand_here","_law_ends"] [])(hm:mg "_law_doored"=some (.ref f))(B:Blt mg)(o__law_take:Own P w K mg base 1 "_law_take" 2 qag):
  Own P w K mg base 2 "_law_doored" 2 qbq:=qaD (k:=1) (n:=2) (N:=["_law_hand_here","_law_ends","_law_rows","_law_some","_law_left","_law_row","_law_places","_law_room","_law_door","_law_way"]) (ps:=["_law_hand_here","_law_ends"]) (b:=qcn) F hb hm qaA rfl fun cdv A outer s H E hr=>
 (qF (qY 2 qaA.nd rfl (by first|exact Or.inl rfl|exact Or.inr rfl) (qaY qN))
  (qF (qW PassesOwn.never rfl (qd (xmv 1)) (qO 3 qaA.nd rfl (by first|exact Or.inl rfl|exact Or.inr rfl)) (qF (qeT 4 5 rfl qaA.nd rfl rfl (by decide) rfl rfl (qA (qE qpL rfl B.z_list (by decide+kernel) (qA (xmv 3) qN (qM ..))) (qA (qaY qN) qN (qe0 ..)) (qL ..)))
  (qF (qdb 100000 PassesOwn.never (qX (o_ne hr.units) (xmv 4) (qaY qN) (qaC _)) (qG (qa0 (qe PySem.F.slot_list_append PySem.F.type_list_append qdy (xmv 5) (qA (qe PySem.F.slot_list_pop PySem.F.type_list_pop ql4 (xmv 4) (qA (qH o__law_take hr (by first|decide|omega) rfl (qA (xmv 0) (qA (qD qa9 rfl B.z_len (by decide+kernel) (qA (xmv 4) qN (qM ..))) qN (qL ..)) (qM ..))) qN (qL ..))) qN (qL ..))))))
  (qG (qa0 (qe PySem.F.slot_list_append PySem.F.type_list_append qdy (xmv 2) (qA (xmv 5) qN (qM ..))))))))
  (qF (qY 6 qaA.nd rfl (by first|exact Or.inl rfl|exact Or.inr rfl) qeW)
  (qF (qW PassesOwn.never rfl (qaV rfl B.z_enumerate (qA (xmv 2) qN (qM ..))) (qay rfl (qac (qO 7 qaA.nd rfl (by first|exact Or.inl rfl|exact Or.inr rfl)) (qac (qO 5 qaA.nd rfl (by first|exact Or.inl rfl|exact Or.inr rfl)) qao))) (qG (qW PassesOwn.never rfl (qaV rfl B.z_enumerate (qA (xmv 5) qN (qM ..))) (qay rfl (qac (qO 8 qaA.nd rfl (by first|exact Or.inl rfl|exact Or.inr rfl)) (qac (qO 9 qaA.nd rfl (by first|exact Or.inl rfl|exact Or.inr rfl)) qao))) (qG (qa0 (qe PySem.F.slot_list_append PySem.F.type_list_append qdy (ql0 (xmv 6) (xmv 9) (qaY qN)) (qA (qaw (qA (xmv 7) (qA (xmv 8) qN (qM ..)) (qM ..))) qN (qT ..))))))))
  (qG (qU (qE qbu rfl B.z_tuple (by decide+kernel) (qA (qZ rfl (T:=["_law_room","_law_row"]) (keep:=[6]) ⟨rfl,by decide+kernel,(List.forall_mem_cons.mpr ⟨⟨_,rfl,rfl,(by first|exact Or.inl rfl|exact Or.inr rfl),(by first | decide+kernel | (show ¬ (("_law_places":Str),NameKind.cell)∈(_:List (Str×NameKind));decide+kernel))⟩,(List.forall_mem_nil _)⟩)⟩ rfl (qaV rfl B.z_enumerate (qA (xmv 2) qN (qM ..))) (fun _ _ _=>⟨(qay rfl (qac (qO 0 (show List.Nodup (["_law_room","_law_row","_law_places"]:List Str) by decide+kernel) rfl (by first|exact Or.inl rfl|exact Or.inr rfl)) (qac (qO 1 (show List.Nodup (["_law_room","_law_row","_law_places"]:List Str) by decide+kernel) rfl (by first|exact Or.inl rfl|exact Or.inr rfl)) qao))),qaK,(qE qbu rfl B.z_tuple (by decide+kernel) (qA (qZ rfl (T:=["_law_door","_law_way"]) (keep:=[2,0]) ⟨rfl,by decide+kernel,(List.forall_mem_cons.mpr ⟨⟨_,rfl,rfl,(by first|exact Or.inl rfl|exact Or.inr rfl),(by first | decide+kernel | (show ¬ (("_law_places":Str),NameKind.cell)∈(_:List (Str×NameKind));decide+kernel))⟩,(List.forall_mem_cons.mpr ⟨⟨_,rfl,rfl,(by first|exact Or.inl rfl|exact Or.inr rfl),(by first | decide+kernel | (show ¬ (("_law_room":Str),NameKind.cell)∈(_:List (Str×NameKind));decide+kernel))⟩,(List.forall_mem_nil _)⟩)⟩)⟩ rfl (qaV rfl B.z_enumerate (qA (xmv 1) qN (qM ..))) (fun _ _ _=>⟨(qay rfl (qac (qO 0 (show List.Nodup (["_law_door","_law_way","_law_places","_law_room"]:List Str) by decide+kernel) rfl (by first|exact Or.inl rfl|exact Or.inr rfl)) (qac (qO 1 (show List.Nodup (["_law_door","_law_way","_law_places","_law_room"]:List Str) by decide+kernel) rfl (by first|exact Or.inl rfl|exact Or.inr rfl)) qao))),qaK,(qJ (qP hr.units) (qJ (qP hr.units) (xmv 2) (xmv 1) (fun _ _=>rfl)) (qE qnw rfl B.z_int (by decide+kernel) (qA (qdx (o_eq hr.units) (qJ (qP hr.units) (qJ (qP hr.units) (xmv 2) (xmv 1) (fun _ _=>rfl)) qK (fun _ _=>rfl)) (qaw (qA (xmv 3) (qA (xmv 0) qN (qM ..)) (qM ..))) (qaC _)) qN (qdz ..))) (fun _ _=>rfl))⟩)) qN (qaB ..)))⟩)) qN (qaB ..)))))))))
noncomputable abbrev qbf:Stmt:=top 17
noncomputable def qcD:FS:=(mSeq (mAsg (mLR1 (qaa (mV 1) mNil)) (gN 2))
  (mRet (qbK 1 [2,0] (iR1 (qaa (mV 1) mNil)) (gN 0) qcr (qbm (mMt (b2 gPop) (mV 1) (qaa (mN (qaj 2 qag) (qaa (mV 2) (qaa (mN (b1 gLen) (qaa (mV 1) mNil)) mNil))) mNil))))))
noncomputable def qbk:FN:=fnB 3 qcD
theorem qdf:qas ["_law_hand_here","_law_many","_law_left"] ["_law_hand_here","_law_many"] (qab qbf):=⟨rfl,rfl,rfl,by decide+kernel,rfl,by decide+kernel,by decide+kernel⟩
theorem qfe {P:Program}{w:World}{K:Fg1}{mg:Str->Option Value}{base:Heap}{f:Addr}{fd:FuncData}(F:Fun K "_law_order" "_law_order" qbf f fd)(hb:qa6 K fd ["_law_hand_here","_law_many"] [])(hm:mg "_law_order"=some (.ref f))(B:Blt mg)(o__law_take:Own P w K mg base 1 "_law_take" 2 qag):
  Own P w K mg base 2 "_law_order" 2 qbk:=qaD (k:=1) (n:=2) (N:=["_law_hand_here","_law_many","_law_left"]) (ps:=["_law_hand_here","_law_many"]) (b:=qcD) F hb hm qdf rfl fun cdv A outer s H E hr=>
 (qF (qY 2 qdf.nd rfl (by first|exact Or.inl rfl|exact Or.inr rfl) (qeH rfl rfl B.z_range rfl B.z_list (qA (xmv 1) qN (qM ..))))
  (qG (qU (qZ rfl (T:=["_law_k"]) (keep:=[2,0]) ⟨rfl,by decide+kernel,(List.forall_mem_cons.mpr ⟨⟨_,rfl,rfl,(by first|exact Or.inl rfl|exact Or.inr rfl),(by first | decide+kernel | (show ¬ (("_law_left":Str),NameKind.cell)∈(_:List (Str×NameKind));decide+kernel))⟩,(List.forall_mem_cons.mpr ⟨⟨_,rfl,rfl,(by first|exact Or.inl rfl|exact Or.inr rfl),(by first | decide+kernel | (show ¬ (("_law_hand_here":Str),NameKind.cell)∈(_:List (Str×NameKind));decide+kernel))⟩,(List.forall_mem_nil _)⟩)⟩)⟩ rfl (qax rfl B.z_range (qA (xmv 1) qN (qM ..))) (fun _ _ _=>⟨(qO 0 (show List.Nodup (["_law_k","_law_left","_law_hand_here"]:List Str) by decide+kernel) rfl (by first|exact Or.inl rfl|exact Or.inr rfl)),qaK,(qe PySem.F.slot_list_pop PySem.F.type_list_pop ql4 (xmv 1) (qA (qH o__law_take hr (by first|decide|omega) rfl (qA (xmv 2) (qA (qD qa9 rfl B.z_len (by decide+kernel) (qA (xmv 1) qN (qM ..))) qN (qL ..)) (qM ..))) qN (qL ..)))⟩)))))
noncomputable abbrev qbe:Stmt:=top 23
noncomputable def qcQ:FS:=(mSeq (mAsg (mN (b1 gTup) (qaa (qbK 1 [0,3] (iSeq (mV 2)) (gN 0) qcr (qbm (mN (qaj 3 qcg) (qaa (mV 1) (qaa (mV 2) (qaa (mV 0) mNil)))))) mNil)) (gN 4))
  (mIfS (mAnd (mB (m2 (b2 qaH) (mC D.non) (mV 4))) (mAnd (mB (m2 (b2 gEq) (mN (b1 qgU) (qaa (mN (b1 qci) (qaa (mV 4) mNil)) mNil)) (mN (b1 gLen) (qaa (mV 4) mNil)))) (mTr (mN (qaj 2 qbl) (qaa (mV 0) (qaa (mV 4) mNil)))))) (qbQ (mMt (b2 gApp) (mV 1) (qaa (mV 4) mNil))) mNx))
noncomputable def qcC:FS:=(mSeq (mAsg (mTup (qaa (mLst mNil) (qaa (mN (qaj 1 qbG) (qaa (mV 0) mNil)) mNil))) (gT 2 (gCs (gN 1) (gCs (gN 2) gNl))))
  (mSeq (mFor (iR1 (qaa (mN (b1 gLen) (qaa (mV 0) mNil)) mNil)) (gN 3) qcQ)
  (mRet (mN (b1 qb6) (qaa (mV 1) mNil)))))
noncomputable def qbH:FN:=fnB 5 qcC
theorem qbP:qas ["_law_web_here","_law_found","_law_walks_here","_law_room","_law_turn"] ["_law_web_here"] (qab qbe):=⟨rfl,rfl,rfl,by decide+kernel,rfl,by decide+kernel,by decide+kernel⟩
theorem qfd {P:Program}{w:World}{K:Fg1}{mg:Str->Option Value}{base:Heap}{f:Addr}{fd:FuncData}(F:Fun K "_law_turns" "_law_turns" qbe f fd)(hb:qa6 K fd ["_law_web_here"] [])(hm:mg "_law_turns"=some (.ref f))(B:Blt mg)(o__law_keeps:Own P w K mg base 1 "_law_keeps" 2 qbl)(o__law_led:Own P w K mg base 1 "_law_led" 3 qcg)(o__law_walks:Own P w K mg base 1 "_law_walks" 1 qbG):
  Own P w K mg base 2 "_law_turns" 1 qbH:=qaD (k:=1) (n:=1) (N:=["_law_web_here","_law_found","_law_walks_here","_law_room","_law_turn"]) (ps:=["_law_web_here"]) (b:=qcC) F hb hm qbP rfl fun cdv A outer s H E hr=>
 (qF (qeT 1 2 rfl qbP.nd rfl rfl (by decide) rfl rfl (qA (qaY qN) (qA (qH o__law_walks hr (by first|decide|omega) rfl (qA (xmv 0) qN (qM ..))) qN (qL ..)) (qe0 ..)))
  (qF (qW PassesOwn.never rfl (qax rfl B.z_range (qA (qD qa9 rfl B.z_len (by decide+kernel) (qA (xmv 0) qN (qM ..))) qN (qL ..))) (qO 3 qbP.nd rfl (by first|exact Or.inl rfl|exact Or.inr rfl)) (qF (qY 4 qbP.nd rfl (by first|exact Or.inl rfl|exact Or.inr rfl) (qE qbu rfl B.z_tuple (by decide+kernel) (qA (qZ rfl (T:=["_law_walk"]) (keep:=[0,3]) ⟨rfl,by decide+kernel,(List.forall_mem_cons.mpr ⟨⟨_,rfl,rfl,(by first|exact Or.inl rfl|exact Or.inr rfl),(by first | decide+kernel | (show ¬ (("_law_web_here":Str),NameKind.cell)∈(_:List (Str×NameKind));decide+kernel))⟩,(List.forall_mem_cons.mpr ⟨⟨_,rfl,rfl,(by first|exact Or.inl rfl|exact Or.inr rfl),(by first | decide+kernel | (show ¬ (("_law_room":Str),NameKind.cell)∈(_:List (Str×NameKind));decide+kernel))⟩,(List.forall_mem_nil _)⟩)⟩)⟩ rfl (qd (xmv 2)) (fun _ _ _=>⟨(qO 0 (show List.Nodup (["_law_walk","_law_web_here","_law_room"]:List Str) by decide+kernel) rfl (by first|exact Or.inl rfl|exact Or.inr rfl)),qaK,(qH o__law_led hr (by first|decide|omega) rfl (qA (xmv 1) (qA (xmv 2) (qA (xmv 0) qN (qM ..)) (qM ..)) (qM ..)))⟩)) qN (qaB ..))))
  (qG (qV (qgn (qdu (qX (qdk hr.units) qcs (xmv 4) (by with_unfolding_all rfl)) (qdu (qX (o_eq hr.units) (qD qlT rfl B.z_len (by decide+kernel) (qA (qE (qlS hr) rfl B.z_set (by decide+kernel) (qA (xmv 4) qN (qM ..))) qN (qL ..))) (qD qa9 rfl B.z_len (by decide+kernel) (qA (xmv 4) qN (qM ..))) (qaC _)) (qda (qgo (qH o__law_keeps hr (by first|decide|omega) rfl (qA (xmv 0) (qA (xmv 4) qN (qM ..)) (qM ..)))))))) (qG (qa0 (qe PySem.F.slot_list_append PySem.F.type_list_append qdy (xmv 1) (qA (xmv 4) qN (qM ..))))) qQ))))
  (qG (qU (qD qjR rfl B.z_sorted (by decide+kernel) (qA (xmv 1) qN (qM ..)))))))
noncomputable abbrev qbA:Stmt:=top 24
noncomputable def qc9:FS:=(mSeq (mAsg (qbK 1 [0] (iR1 (qaa (mN (b1 gLen) (qaa (mV 1) mNil)) mNil)) (gN 0) (mB (m2 (b2 gEq) (mN (qaj 2 qag) (qaa (mV 1) (qaa (mC (D.int (2))) mNil))) (mC (D.int (0))))) (qbm (mV 0))) (gN 3))
  (mRet (mN (b1 gTup) (qaa (qbK 1 [2,3] (iR1 (qaa (mN (b1 gLen) (qaa (mV 1) mNil)) mNil)) (gN 0) (mB (m2 (b2 gInY) (m2 (b2 gIxY) (mV 1) (mV 0)) (mV 2))) (qbm (mV 0))) mNil))))
noncomputable def qbD:FN:=fnB 4 qc9
theorem qdQ:qas ["_law_hand_here","_law_web_here","_law_copied","_law_kept_here"] ["_law_hand_here","_law_web_here","_law_copied"] (qab qbA):=⟨rfl,rfl,rfl,by decide+kernel,rfl,by decide+kernel,by decide+kernel⟩
theorem qfQ {P:Program}{w:World}{K:Fg1}{mg:Str->Option Value}{base:Heap}{f:Addr}{fd:FuncData}(F:Fun K "_law_kept" "_law_kept" qbA f fd)(hb:qa6 K fd ["_law_hand_here","_law_web_here","_law_copied"] [])(hm:mg "_law_kept"=some (.ref f))(B:Blt mg)(o__law_take:Own P w K mg base 1 "_law_take" 2 qag):
  Own P w K mg base 2 "_law_kept" 3 qbD:=qaD (k:=1) (n:=3) (N:=["_law_hand_here","_law_web_here","_law_copied","_law_kept_here"]) (ps:=["_law_hand_here","_law_web_here","_law_copied"]) (b:=qc9) F hb hm qdQ rfl fun cdv A outer s H E hr=>
 (qF (qY 3 qdQ.nd rfl (by first|exact Or.inl rfl|exact Or.inr rfl) (qZ rfl (T:=["_law_room"]) (keep:=[0]) ⟨rfl,by decide+kernel,(List.forall_mem_cons.mpr ⟨⟨_,rfl,rfl,(by first|exact Or.inl rfl|exact Or.inr rfl),(by first | decide+kernel | (show ¬ (("_law_hand_here":Str),NameKind.cell)∈(_:List (Str×NameKind));decide+kernel))⟩,(List.forall_mem_nil _)⟩)⟩ rfl (qax rfl B.z_range (qA (qD qa9 rfl B.z_len (by decide+kernel) (qA (xmv 1) qN (qM ..))) qN (qL ..))) (fun _ _ _=>⟨(qO 0 (show List.Nodup (["_law_room","_law_hand_here"]:List Str) by decide+kernel) rfl (by first|exact Or.inl rfl|exact Or.inr rfl)),(qcH (qX (o_eq hr.units) (qH o__law_take hr (by first|decide|omega) rfl (qA (xmv 1) (qA qK qN (qC ..)) (qM ..))) qK (qaC _))),(xmv 0)⟩)))
  (qG (qU (qE qbu rfl B.z_tuple (by decide+kernel) (qA (qZ rfl (T:=["_law_room"]) (keep:=[2,3]) ⟨rfl,by decide+kernel,(List.forall_mem_cons.mpr ⟨⟨_,rfl,rfl,(by first|exact Or.inl rfl|exact Or.inr rfl),(by first | decide+kernel | (show ¬ (("_law_copied":Str),NameKind.cell)∈(_:List (Str×NameKind));decide+kernel))⟩,(List.forall_mem_cons.mpr ⟨⟨_,rfl,rfl,(by first|exact Or.inl rfl|exact Or.inr rfl),(by first | decide+kernel | (show ¬ (("_law_kept_here":Str),NameKind.cell)∈(_:List (Str×NameKind));decide+kernel))⟩,(List.forall_mem_nil _)⟩)⟩)⟩ rfl (qax rfl B.z_range (qA (qD qa9 rfl B.z_len (by decide+kernel) (qA (xmv 1) qN (qM ..))) qN (qL ..))) (fun _ _ _=>⟨(qO 0 (show List.Nodup (["_law_room","_law_copied","_law_kept_here"]:List Str) by decide+kernel) rfl (by first|exact Or.inl rfl|exact Or.inr rfl)),(qcH (qX (qmN hr.units) (qJ (qP hr.units) (xmv 1) (xmv 0) (fun _ _=>rfl)) (xmv 2) (by with_unfolding_all rfl))),(xmv 0)⟩)) qN (qaB ..))))))
noncomputable abbrev qbx:Stmt:=top 2
noncomputable def qc7:FS:=(mRet (mN (qaj 3 qcw) (qaa (mV 0) (qaa (mV 1) (qaa (mC (D.fn "numbered")) mNil)))))
noncomputable def qa7:FN:=fnB 2 qc7
theorem qfG:qas ["web","signs"] ["web","signs"] (qab qbx):=⟨rfl,rfl,rfl,by decide+kernel,rfl,by decide+kernel,by decide+kernel⟩
theorem qfN {P:Program}{w:World}{K:Fg1}{mg:Str->Option Value}{base:Heap}{f:Addr}{fd:FuncData}(F:Fun K "colouring" "colouring" qbx f fd)(hb:qa6 K fd ["web","signs"] [])(hm:mg "colouring"=some (.ref f))(B:Blt mg)(o_refined:Own P w K mg base 2 "refined" 3 qcw)(g_numbered:CGl K mg "numbered" (D.fn "numbered")):
  Own P w K mg base 3 "colouring" 2 qa7:=qaD (k:=2) (n:=2) (N:=["web","signs"]) (ps:=["web","signs"]) (b:=qc7) F hb hm qfG rfl fun cdv A outer s H E hr=>
 (qG (qU (qH o_refined hr (by first|decide|omega) rfl (qA (xmv 0) (qA (xmv 1) (qA (qj2 g_numbered rfl) qN (qM ..)) (qM ..)) (qM ..)))))
noncomputable abbrev qaF:Stmt:=top 16
noncomputable def qbo:FS:=(mSeq (mAsg (qbK 1 [4] (iR1 (qaa (mV 5) mNil)) (gN 0) (mB (m2 (b2 gLt) (mN (b1 gLen) (qaa (m2 (b2 gIxY) (mV 1) (mV 0)) mNil)) (mC (D.int (4))))) (qbm (mV 0))) (gN 6))
  (mSeq (mAsg (m2 (b2 gIxY) (mV 6) (mN (qaj 2 qag) (qaa (mV 0) (qaa (mN (b1 gLen) (qaa (mV 6) mNil)) mNil)))) (gN 7))
  (mSeq (qbQ (mMt (b2 gApp) (m2 (b2 gIxY) (mV 4) (mV 5)) (qaa (mV 3) mNil)))
  (mSeq (qbQ (mMt (b2 gApp) (m2 (b2 gIxY) (mV 4) (mV 7)) (qaa (mV 3) mNil)))
  (mAsg (m2 (b2 gAdd) (mV 3) (mC (D.int (1)))) (gN 3))))))
noncomputable def qbn:FS:=(mSeq (mAsg (mTup (qaa (mN (qaj 2 qag) (qaa (mV 0) (qaa (mV 2) mNil))) (qaa (mN (qaj 2 qag) (qaa (mV 0) (qaa (mV 2) mNil))) mNil))) (gT 2 (gCs (gN 9) (gCs (gN 7) gNl))))
  (mIfS (mAnd (mB (m2 (b2 gLt) (m2 (b2 gAdd) (mN (b1 gLen) (qaa (m2 (b2 gIxY) (mV 4) (mV 9)) mNil)) (mN (b1 gInt) (qaa (m2 (b2 gEq) (mV 9) (mV 7)) mNil))) (mC (D.int (4))))) (mB (m2 (b2 gLt) (mN (b1 gLen) (qaa (m2 (b2 gIxY) (mV 4) (mV 7)) mNil)) (mC (D.int (4)))))) (mSeq (qbQ (mMt (b2 gApp) (m2 (b2 gIxY) (mV 4) (mV 9)) (qaa (mV 3) mNil)))
  (mSeq (qbQ (mMt (b2 gApp) (m2 (b2 gIxY) (mV 4) (mV 7)) (qaa (mV 3) mNil)))
  (mAsg (m2 (b2 gAdd) (mV 3) (mC (D.int (1)))) (gN 3)))) mNx))
noncomputable def qbN:FS:=(mSeq (mAsg (mTup (qaa (m2 (b2 gAdd) (mC (D.int (1))) (mN (qaj 2 qag) (qaa (mV 0) (qaa (mV 1) mNil)))) (qaa (mC (D.int (0))) mNil))) (gT 2 (gCs (gN 2) (gCs (gN 3) gNl))))
  (mSeq (mAsg (qbK 1 [] (iR1 (qaa (mV 2) mNil)) (gN 0) qcr (qbm (mLst mNil))) (gN 4))
  (mSeq (mFor (iR2 (qaa (mC (D.int (1))) (qaa (mV 2) mNil))) (gN 5) qbo)
  (mSeq (mFor (iR1 (qaa (mN (qaj 2 qag) (qaa (mV 0) (qaa (mC (D.int (6))) mNil))) mNil)) (gN 8) qbn)
  (mRet (mN (qaj 2 qbq) (qaa (mV 0) (qaa (mV 4) mNil))))))))
noncomputable def qaQ:FN:=fnB 10 qbN
theorem qal:qas ["_law_hand_here","_law_most","_law_rooms","_law_many","_law_ends","_law_room","_law_some","_law_other","_law_turn","_law_one"] ["_law_hand_here","_law_most"] (qab qaF):=⟨rfl,rfl,rfl,by decide+kernel,rfl,by decide+kernel,by decide+kernel⟩
theorem qdG {P:Program}{w:World}{K:Fg1}{mg:Str->Option Value}{base:Heap}{f:Addr}{fd:FuncData}(F:Fun K "_law_plain_web" "_law_plain_web" qaF f fd)(hb:qa6 K fd ["_law_hand_here","_law_most"] [])(hm:mg "_law_plain_web"=some (.ref f))(B:Blt mg)(o__law_doored:Own P w K mg base 2 "_law_doored" 2 qbq)(o__law_take:Own P w K mg base 1 "_law_take" 2 qag):
  Own P w K mg base 3 "_law_plain_web" 2 qaQ:=qaD (k:=2) (n:=2) (N:=["_law_hand_here","_law_most","_law_rooms","_law_many","_law_ends","_law_room","_law_some","_law_other","_law_turn","_law_one"]) (ps:=["_law_hand_here","_law_most"]) (b:=qbN) F hb hm qal rfl fun cdv A outer s H E hr=>
 (qF (qeT 2 3 rfl qal.nd rfl rfl (by decide) rfl rfl (qA (qI qc3 qK (qH o__law_take hr (by first|decide|omega) rfl (qA (xmv 0) (qA (xmv 1) qN (qM ..)) (qM ..)))) (qA qK qN (qC ..)) (qB ..)))
  (qF (qY 4 qal.nd rfl (by first|exact Or.inl rfl|exact Or.inr rfl) (qZ rfl (T:=["_law_room"]) (keep:=[]) ⟨rfl,by decide+kernel,(List.forall_mem_nil _)⟩ rfl (qax rfl B.z_range (qA (xmv 2) qN (qM ..))) (fun _ _ _=>⟨(qO 0 (show List.Nodup (["_law_room"]:List Str) by decide+kernel) rfl (by first|exact Or.inl rfl|exact Or.inr rfl)),qaK,(qaY qN)⟩)))
  (qF (qW PassesOwn.never rfl (qeG rfl B.z_range (qA qK (qA (xmv 2) qN (qM ..)) (qC ..))) (qO 5 qal.nd rfl (by first|exact Or.inl rfl|exact Or.inr rfl)) (qF (qct 6 rfl (T:=["_law_other"]) (keep:=[4]) ⟨rfl,by decide+kernel,(List.forall_mem_cons.mpr ⟨⟨_,rfl,rfl,(by first|exact Or.inl rfl|exact Or.inr rfl),(by first | decide+kernel | (show ¬ (("_law_ends":Str),NameKind.cell)∈(_:List (Str×NameKind));decide+kernel))⟩,(List.forall_mem_nil _)⟩)⟩ rfl (qax rfl B.z_range (qA (xmv 5) qN (qM ..))) (fun _ _ _=>⟨(qO 0 (show List.Nodup (["_law_other","_law_ends"]:List Str) by decide+kernel) rfl (by first|exact Or.inl rfl|exact Or.inr rfl)),(qcH (qX (qh0 hr.units) (qD qa9 rfl B.z_len (by decide+kernel) (qA (qJ (qP hr.units) (xmv 1) (xmv 0) (fun _ _=>rfl)) qN (qS ..))) qK (qaC _))),(xmv 0)⟩) qal.nd rfl (by first|exact Or.inl rfl|exact Or.inr rfl))
  (qF (qY 7 qal.nd rfl (by first|exact Or.inl rfl|exact Or.inr rfl) (qJ (qP hr.units) (xmv 6) (qH o__law_take hr (by first|decide|omega) rfl (qA (xmv 0) (qA (qD qa9 rfl B.z_len (by decide+kernel) (qA (xmv 6) qN (qM ..))) qN (qL ..)) (qM ..))) (fun _ _=>rfl)))
  (qF (qa0 (qe PySem.F.slot_list_append PySem.F.type_list_append qdy (qJ (qP hr.units) (xmv 4) (xmv 5) (fun _ _=>rfl)) (qA (xmv 3) qN (qM ..))))
  (qF (qa0 (qe PySem.F.slot_list_append PySem.F.type_list_append qdy (qJ (qP hr.units) (xmv 4) (xmv 7) (fun _ _=>rfl)) (qA (xmv 3) qN (qM ..))))
  (qG (qY 3 qal.nd rfl (by first|exact Or.inl rfl|exact Or.inr rfl) (qI qc3 (xmv 3) qK))))))))
  (qF (qW PassesOwn.never rfl (qax rfl B.z_range (qA (qH o__law_take hr (by first|decide|omega) rfl (qA (xmv 0) (qA qK qN (qC ..)) (qM ..))) qN (qL ..))) (qO 8 qal.nd rfl (by first|exact Or.inl rfl|exact Or.inr rfl)) (qF (qeT 9 7 rfl qal.nd rfl rfl (by decide) rfl rfl (qA (qH o__law_take hr (by first|decide|omega) rfl (qA (xmv 0) (qA (xmv 2) qN (qM ..)) (qM ..))) (qA (qH o__law_take hr (by first|decide|omega) rfl (qA (xmv 0) (qA (xmv 2) qN (qM ..)) (qM ..))) qN (qL ..)) (qL ..)))
  (qG (qV (qgn (qdu (qX (qh0 hr.units) (qI qc3 (qD qa9 rfl B.z_len (by decide+kernel) (qA (qJ (qP hr.units) (xmv 4) (xmv 9) (fun _ _=>rfl)) qN (qS ..))) (qE qnw rfl B.z_int (by decide+kernel) (qA (qdx (o_eq hr.units) (xmv 9) (xmv 7) (qaC _)) qN (qdz ..)))) qK (qaC _)) (qda (qX (qh0 hr.units) (qD qa9 rfl B.z_len (by decide+kernel) (qA (qJ (qP hr.units) (xmv 4) (xmv 7) (fun _ _=>rfl)) qN (qS ..))) qK (qaC _))))) (qF (qa0 (qe PySem.F.slot_list_append PySem.F.type_list_append qdy (qJ (qP hr.units) (xmv 4) (xmv 9) (fun _ _=>rfl)) (qA (xmv 3) qN (qM ..))))
  (qF (qa0 (qe PySem.F.slot_list_append PySem.F.type_list_append qdy (qJ (qP hr.units) (xmv 4) (xmv 7) (fun _ _=>rfl)) (qA (xmv 3) qN (qM ..))))
  (qG (qY 3 qal.nd rfl (by first|exact Or.inl rfl|exact Or.inr rfl) (qI qc3 (xmv 3) qK))))) qQ))))
  (qG (qU (qH o__law_doored hr (by first|decide|omega) rfl (qA (xmv 0) (qA (xmv 4) qN (qM ..)) (qM ..)))))))))
noncomputable abbrev qbh:Stmt:=top 18
noncomputable def qca:FS:=(mSeq (mAsg (mTup (qaa (mV 7) (qaa (mV 10) (qaa (mV 8) mNil)))) (gS (b3 qcL) (mV 3) (mTup (qaa (mV 4) (qaa (mV 9) (qaa (mV 6) mNil))))))
  (mAsg (mTup (qaa (mV 4) (qaa (mV 9) (qaa (mV 6) mNil)))) (gS (b3 qcL) (mV 3) (mTup (qaa (mV 7) (qaa (mV 10) (qaa (mV 8) mNil)))))))
noncomputable def qcV:FS:=(mIfS (mB (m2 (b2 gLt) (mTup (qaa (mV 4) (qaa (mV 6) mNil))) (mTup (qaa (mV 7) (qaa (mV 8) mNil))))) (mFor (iEn (qaa (mN (qaj 2 qbk) (qaa (mV 0) (qaa (mV 2) mNil))) mNil)) (gT 2 (gCs (gN 9) (gCs (gN 10) gNl))) qca) mNx)
noncomputable def qb9:FS:=(mFor (iEn (qaa (mV 5) mNil)) (gT 2 (gCs (gN 6) (gCs (gT 2 (gCs (gN 7) (gCs (gN 8) gNl))) gNl))) qcV)
noncomputable def qcU:FS:=(mIfS (mB (m2 (b2 qaH) (mSlX (m2 (b2 gIxY) (mV 3) (mTup (qaa (mV 4) (qaa (mV 9) (qaa (mV 6) mNil))))) qh2 (qh1 (mC (D.int (2))))) (mV 11))) (qbQ (mMt (b2 gApp) (mV 11) (qaa (mSlX (m2 (b2 gIxY) (mV 3) (mTup (qaa (mV 4) (qaa (mV 9) (qaa (mV 6) mNil))))) qh2 (qh1 (mC (D.int (2))))) mNil))) mNx)
noncomputable def qb8:FT:=(mB (m2 (b2 gLt) (mV 12) (mN (b1 gLen) (qaa (mV 11) mNil))))
noncomputable def qb7:FS:=(mSeq (mAsg (m2 (b2 gIxY) (mV 11) (mV 12)) (gT 2 (gCs (gN 4) (gCs (gN 9) gNl))))
  (mSeq (mFor (iR1 (qaa (mN (b1 gLen) (qaa (m2 (b2 gIxY) (mV 1) (mV 4)) mNil)) mNil)) (gN 6) qcU)
  (mAsg (m2 (b2 gAdd) (mV 12) (mC (D.int (1)))) (gN 12))))
noncomputable def qcT:FS:=(mSeq (mAsg (qbK 1 [3,4,9] (iR1 (qaa (mN (b1 gLen) (qaa (m2 (b2 gIxY) (mV 1) (mV 4)) mNil)) mNil)) (gN 0) qcr (qbm (m2 (b2 gIxY) (mV 1) (mTup (qaa (mV 2) (qaa (mV 3) (qaa (mV 0) mNil))))))) (gN 14))
  (qbQ (mMt (b2 gApp) (mV 13) (qaa (mN (b1 gTup) (qaa (qbK 1 [11] (iSeq (mV 14)) (gN 0) qcr (qbm (mTup (qaa (mMt (b2 gIdx) (mV 1) (qaa (mSlX (mV 0) qh2 (qh1 (mC (D.int (2))))) mNil)) (qaa (m2 (b2 gIxY) (mV 0) (mC (D.int (2)))) mNil))))) mNil)) mNil))))
noncomputable def qcF:FS:=(mSeq (mAsg qgN (gN 3))
  (mSeq (mFor (iEn (qaa (mV 1) mNil)) (gT 2 (gCs (gN 4) (gCs (gN 5) gNl))) qb9)
  (mSeq (mAsg (mTup (qaa (mLst (qaa (mTup (qaa (mC (D.int (0))) (qaa (mC (D.int (0))) mNil))) mNil)) (qaa (mC (D.int (0))) mNil))) (gT 2 (gCs (gN 11) (gCs (gN 12) gNl))))
  (mSeq (whl qb8 qb7 100000)
  (mSeq (mAsg (mLst mNil) (gN 13))
  (mSeq (mFor (iSeq (mV 11)) (gT 2 (gCs (gN 4) (gCs (gN 9) gNl))) qcT)
  (mRet (mTup (qaa (mN (b1 gTup) (qaa (mV 13) mNil)) (qaa (mN (b1 gTup) (qaa (qbK 2 [] (iSeq (mV 11)) (gT 2 (gCs (gN 0) (gCs (gN 1) gNl))) qcr (qbm (mV 0))) mNil)) mNil))))))))))
noncomputable def qbI:FN:=fnB 15 qcF
theorem qaf:qas ["_law_hand_here","_law_web_here","_law_copies","_law_steps","_law_room","_law_row","_law_door","_law_other","_law_back","_law_copy","_law_to","_law_met","_law_at","_law_found","_law_some"] ["_law_hand_here","_law_web_here","_law_copies"] (qab qbh):=⟨rfl,rfl,rfl,by decide+kernel,rfl,by decide+kernel,by decide+kernel⟩
theorem qfg {P:Program}{w:World}{K:Fg1}{mg:Str->Option Value}{base:Heap}{f:Addr}{fd:FuncData}(F:Fun K "_law_cover" "_law_cover" qbh f fd)(hb:qa6 K fd ["_law_hand_here","_law_web_here","_law_copies"] [])(hm:mg "_law_cover"=some (.ref f))(B:Blt mg)(o__law_order:Own P w K mg base 2 "_law_order" 2 qbk):
  Own P w K mg base 3 "_law_cover" 3 qbI:=qaD (k:=2) (n:=3) (N:=["_law_hand_here","_law_web_here","_law_copies","_law_steps","_law_room","_law_row","_law_door","_law_other","_law_back","_law_copy","_law_to","_law_met","_law_at","_law_found","_law_some"]) (ps:=["_law_hand_here","_law_web_here","_law_copies"]) (b:=qcF) F hb hm qaf rfl fun cdv A outer s H E hr=>
 (qF (qY 3 qaf.nd rfl (by first|exact Or.inl rfl|exact Or.inr rfl) qeW)
  (qF (qW PassesOwn.never rfl (qaV rfl B.z_enumerate (qA (xmv 1) qN (qM ..))) (qay rfl (qac (qO 4 qaf.nd rfl (by first|exact Or.inl rfl|exact Or.inr rfl)) (qac (qO 5 qaf.nd rfl (by first|exact Or.inl rfl|exact Or.inr rfl)) qao))) (qG (qW PassesOwn.never rfl (qaV rfl B.z_enumerate (qA (xmv 5) qN (qM ..))) (qay rfl (qac (qO 6 qaf.nd rfl (by first|exact Or.inl rfl|exact Or.inr rfl)) (qac (qay rfl (qac (qO 7 qaf.nd rfl (by first|exact Or.inl rfl|exact Or.inr rfl)) (qac (qO 8 qaf.nd rfl (by first|exact Or.inl rfl|exact Or.inr rfl)) qao))) qao))) (qG (qV (qX (qh0 hr.units) (qaw (qA (xmv 4) (qA (xmv 6) qN (qM ..)) (qM ..))) (qaw (qA (xmv 7) (qA (xmv 8) qN (qM ..)) (qM ..))) (qaC _)) (qG (qW PassesOwn.never rfl (qaV rfl B.z_enumerate (qA (qH o__law_order hr (by first|decide|omega) rfl (qA (xmv 0) (qA (xmv 2) qN (qM ..)) (qM ..))) qN (qL ..))) (qay rfl (qac (qO 9 qaf.nd rfl (by first|exact Or.inl rfl|exact Or.inr rfl)) (qac (qO 10 qaf.nd rfl (by first|exact Or.inl rfl|exact Or.inr rfl)) qao))) (qF (qR (qaw (qA (xmv 7) (qA (xmv 10) (qA (xmv 8) qN (qM ..)) (qM ..)) (qM ..))) (qdv (xmv 3) (qaw (qA (xmv 4) (qA (xmv 9) (qA (xmv 6) qN (qM ..)) (qM ..)) (qM ..))) (qeK hr.units)))
  (qG (qR (qaw (qA (xmv 4) (qA (xmv 9) (qA (xmv 6) qN (qM ..)) (qM ..)) (qM ..))) (qdv (xmv 3) (qaw (qA (xmv 7) (qA (xmv 10) (qA (xmv 8) qN (qM ..)) (qM ..)) (qM ..))) (qeK hr.units))))))) qQ)))))
  (qF (qR (qaw (qA (qaY (qA (qaw (qA qK (qA qK qN (qC ..)) (qC ..))) qN (qT ..))) (qA qK qN (qC ..)) (qe0 ..))) (qay rfl (qac (qO 11 qaf.nd rfl (by first|exact Or.inl rfl|exact Or.inr rfl)) (qac (qO 12 qaf.nd rfl (by first|exact Or.inl rfl|exact Or.inr rfl)) qao))))
  (qF (qdb 100000 PassesOwn.never (qX (qh0 hr.units) (xmv 12) (qD qa9 rfl B.z_len (by decide+kernel) (qA (xmv 11) qN (qM ..))) (qaC _)) (qF (qR (qJ (qP hr.units) (xmv 11) (xmv 12) (fun _ _=>rfl)) (qay rfl (qac (qO 4 qaf.nd rfl (by first|exact Or.inl rfl|exact Or.inr rfl)) (qac (qO 9 qaf.nd rfl (by first|exact Or.inl rfl|exact Or.inr rfl)) qao))))
  (qF (qW PassesOwn.never rfl (qax rfl B.z_range (qA (qD qa9 rfl B.z_len (by decide+kernel) (qA (qJ (qP hr.units) (xmv 1) (xmv 4) (fun _ _=>rfl)) qN (qS ..))) qN (qL ..))) (qO 6 qaf.nd rfl (by first|exact Or.inl rfl|exact Or.inr rfl)) (qG (qV (qX (qdk hr.units) (qdw (qJ (qP hr.units) (xmv 3) (qaw (qA (xmv 4) (qA (xmv 9) (qA (xmv 6) qN (qM ..)) (qM ..)) (qM ..))) (fun _ _=>rfl)) qeV (qeU qK)) (xmv 11) (by with_unfolding_all rfl)) (qG (qa0 (qe PySem.F.slot_list_append PySem.F.type_list_append qdy (xmv 11) (qA (qdw (qJ (qP hr.units) (xmv 3) (qaw (qA (xmv 4) (qA (xmv 9) (qA (xmv 6) qN (qM ..)) (qM ..)) (qM ..))) (fun _ _=>rfl)) qeV (qeU qK)) qN (qS ..))))) qQ)))
  (qG (qY 12 qaf.nd rfl (by first|exact Or.inl rfl|exact Or.inr rfl) (qI qc3 (xmv 12) qK))))))
  (qF (qY 13 qaf.nd rfl (by first|exact Or.inl rfl|exact Or.inr rfl) (qaY qN))
  (qF (qW PassesOwn.never rfl (qd (xmv 11)) (qay rfl (qac (qO 4 qaf.nd rfl (by first|exact Or.inl rfl|exact Or.inr rfl)) (qac (qO 9 qaf.nd rfl (by first|exact Or.inl rfl|exact Or.inr rfl)) qao))) (qF (qct 14 rfl (T:=["_law_door"]) (keep:=[3,4,9]) ⟨rfl,by decide+kernel,(List.forall_mem_cons.mpr ⟨⟨_,rfl,rfl,(by first|exact Or.inl rfl|exact Or.inr rfl),(by first | decide+kernel | (show ¬ (("_law_steps":Str),NameKind.cell)∈(_:List (Str×NameKind));decide+kernel))⟩,(List.forall_mem_cons.mpr ⟨⟨_,rfl,rfl,(by first|exact Or.inl rfl|exact Or.inr rfl),(by first | decide+kernel | (show ¬ (("_law_room":Str),NameKind.cell)∈(_:List (Str×NameKind));decide+kernel))⟩,(List.forall_mem_cons.mpr ⟨⟨_,rfl,rfl,(by first|exact Or.inl rfl|exact Or.inr rfl),(by first | decide+kernel | (show ¬ (("_law_copy":Str),NameKind.cell)∈(_:List (Str×NameKind));decide+kernel))⟩,(List.forall_mem_nil _)⟩)⟩)⟩)⟩ rfl (qax rfl B.z_range (qA (qD qa9 rfl B.z_len (by decide+kernel) (qA (qJ (qP hr.units) (xmv 1) (xmv 4) (fun _ _=>rfl)) qN (qS ..))) qN (qL ..))) (fun _ _ _=>⟨(qO 0 (show List.Nodup (["_law_door","_law_steps","_law_room","_law_copy"]:List Str) by decide+kernel) rfl (by first|exact Or.inl rfl|exact Or.inr rfl)),qaK,(qJ (qP hr.units) (xmv 1) (qaw (qA (xmv 2) (qA (xmv 3) (qA (xmv 0) qN (qM ..)) (qM ..)) (qM ..))) (fun _ _=>rfl))⟩) qaf.nd rfl (by first|exact Or.inl rfl|exact Or.inr rfl))
  (qG (qa0 (qe PySem.F.slot_list_append PySem.F.type_list_append qdy (xmv 13) (qA (qE qbu rfl B.z_tuple (by decide+kernel) (qA (qZ rfl (T:=["_law_step"]) (keep:=[11]) ⟨rfl,by decide+kernel,(List.forall_mem_cons.mpr ⟨⟨_,rfl,rfl,(by first|exact Or.inl rfl|exact Or.inr rfl),(by first | decide+kernel | (show ¬ (("_law_met":Str),NameKind.cell)∈(_:List (Str×NameKind));decide+kernel))⟩,(List.forall_mem_nil _)⟩)⟩ rfl (qd (xmv 14)) (fun _ _ _=>⟨(qO 0 (show List.Nodup (["_law_step","_law_met"]:List Str) by decide+kernel) rfl (by first|exact Or.inl rfl|exact Or.inr rfl)),qaK,(qaw (qA (qe PySem.F.slot_list_index PySem.F.type_list_index (qp8 hr.units) (xmv 1) (qA (qdw (xmv 0) qeV (qeU qK)) qN (qS ..))) (qA (qJ (qP hr.units) (xmv 0) qK (fun _ _=>rfl)) qN (qS ..)) (qL ..)))⟩)) qN (qaB ..))) qN (qL ..)))))))
  (qG (qU (qaw (qA (qE qbu rfl B.z_tuple (by decide+kernel) (qA (xmv 13) qN (qM ..))) (qA (qE qbu rfl B.z_tuple (by decide+kernel) (qA (qZ rfl (T:=["_law_room","_law_copy"]) (keep:=[]) ⟨rfl,by decide+kernel,(List.forall_mem_nil _)⟩ rfl (qd (xmv 11)) (fun _ _ _=>⟨(qay rfl (qac (qO 0 (show List.Nodup (["_law_room","_law_copy"]:List Str) by decide+kernel) rfl (by first|exact Or.inl rfl|exact Or.inr rfl)) (qac (qO 1 (show List.Nodup (["_law_room","_law_copy"]:List Str) by decide+kernel) rfl (by first|exact Or.inl rfl|exact Or.inr rfl)) qao))),qaK,(xmv 0)⟩)) qN (qaB ..))) qN (qL ..)) (qL ..)))))))))))
noncomputable abbrev qbi:Stmt:=top 25
noncomputable def qcG:FS:=(mSeq (mAsg (mLst (qaa (mN (qaj 3 qbD) (qaa (mV 0) (qaa (mV 1) (qaa (mV 2) mNil)))) (qaa (mN (qaj 3 qbD) (qaa (mV 0) (qaa (mV 1) (qaa (mLR1 (qaa (mN (b1 gLen) (qaa (mV 1) mNil)) mNil)) mNil)))) (qaa (mTup mNil) mNil)))) (gN 3))
  (mRet (m2 (b2 gIxY) (mV 3) (m2 (b2 gIxY) (mLst (qaa (mC (D.int (0))) (qaa (mC (D.int (0))) (qaa (mC (D.int (1))) (qaa (mC (D.int (2))) (qaa (mC (D.int (2))) (qaa (mC (D.int (2))) mNil))))))) (mN (qaj 2 qag) (qaa (mV 0) (qaa (mC (D.int (6))) mNil)))))))
noncomputable def qbJ:FN:=fnB 4 qcG
theorem qdg:qas ["_law_hand_here","_law_web_here","_law_copied","_law_some"] ["_law_hand_here","_law_web_here","_law_copied"] (qab qbi):=⟨rfl,rfl,rfl,by decide+kernel,rfl,by decide+kernel,by decide+kernel⟩
theorem qfh {P:Program}{w:World}{K:Fg1}{mg:Str->Option Value}{base:Heap}{f:Addr}{fd:FuncData}(F:Fun K "_law_chalk" "_law_chalk" qbi f fd)(hb:qa6 K fd ["_law_hand_here","_law_web_here","_law_copied"] [])(hm:mg "_law_chalk"=some (.ref f))(B:Blt mg)(o__law_kept:Own P w K mg base 2 "_law_kept" 3 qbD)(o__law_take:Own P w K mg base 1 "_law_take" 2 qag):
  Own P w K mg base 3 "_law_chalk" 3 qbJ:=qaD (k:=2) (n:=3) (N:=["_law_hand_here","_law_web_here","_law_copied","_law_some"]) (ps:=["_law_hand_here","_law_web_here","_law_copied"]) (b:=qcG) F hb hm qdg rfl fun cdv A outer s H E hr=>
 (qF (qY 3 qdg.nd rfl (by first|exact Or.inl rfl|exact Or.inr rfl) (qaY (qA (qH o__law_kept hr (by first|decide|omega) rfl (qA (xmv 0) (qA (xmv 1) (qA (xmv 2) qN (qM ..)) (qM ..)) (qM ..))) (qA (qH o__law_kept hr (by first|decide|omega) rfl (qA (xmv 0) (qA (xmv 1) (qA (qeH rfl rfl B.z_range rfl B.z_list (qA (qD qa9 rfl B.z_len (by decide+kernel) (qA (xmv 1) qN (qM ..))) qN (qL ..))) qN (qL ..)) (qM ..)) (qM ..))) (qA (qaw qN) qN (qT ..)) (qL ..)) (qL ..))))
  (qG (qU (qJ (qP hr.units) (xmv 3) (qJ (qP hr.units) (qaY (qA qK (qA qK (qA qK (qA qK (qA qK (qA qK qN (qC ..)) (qC ..)) (qC ..)) (qC ..)) (qC ..)) (qC ..))) (qH o__law_take hr (by first|decide|omega) rfl (qA (xmv 0) (qA qK qN (qC ..)) (qM ..))) (fun _ _=>rfl)) (fun _ _=>rfl)))))
noncomputable abbrev qdD:Stmt:=top 11
noncomputable def qiS:FS:=(mIfS (mB (m2 (b2 gEq) (m2 (b2 gIxY) (mV 4) (m2 (b2 gIxY) (mV 2) (mV 5))) (m2 (b2 gIxY) (mV 4) (m2 (b2 gIxY) (mV 2) (mV 6))))) (mRet (mTup (qaa (mC (D.str "alike")) (qaa (mV 5) (qaa (mV 6) (qaa (mV 4) mNil)))))) mNx)
noncomputable def qiR:FS:=(mFor (iR2 (qaa (m2 (b2 gAdd) (mV 5) (mC (D.int (1)))) (qaa (mN (b1 gLen) (qaa (mV 2) mNil)) mNil))) (gN 6) qiS)
noncomputable def qjS:FS:=(mSeq (mAsg (mV 1) (gT 2 (gCs (gN 2) (gCs (gN 3) gNl))))
  (mSeq (mAsg (mN (qaj 2 qa7) (qaa (mV 0) (qaa (mN (qaj 2 qaN) (qaa (mV 0) (qaa (mV 3) mNil))) mNil))) (gN 4))
  (mSeq (mFor (iR1 (qaa (mN (b1 gLen) (qaa (mV 2) mNil)) mNil)) (gN 5) qiR)
  (mRet (mC D.non)))))
noncomputable def qgM:FN:=fnB 7 qjS
theorem qcI:qas ["web","standing","rooms","chalk","colours","i","j"] ["web","standing"] (qab qdD):=⟨rfl,rfl,rfl,by decide+kernel,rfl,by decide+kernel,by decide+kernel⟩
theorem qkz {P:Program}{w:World}{K:Fg1}{mg:Str->Option Value}{base:Heap}{f:Addr}{fd:FuncData}(F:Fun K "alike" "alike" qdD f fd)(hb:qa6 K fd ["web","standing"] [])(hm:mg "alike"=some (.ref f))(B:Blt mg)(o_chalk_signs:Own P w K mg base 1 "chalk_signs" 2 qaN)(o_colouring:Own P w K mg base 3 "colouring" 2 qa7):
  Own P w K mg base 4 "alike" 2 qgM:=qaD (k:=3) (n:=2) (N:=["web","standing","rooms","chalk","colours","i","j"]) (ps:=["web","standing"]) (b:=qjS) F hb hm qcI rfl fun cdv A outer s H E hr=>
 (qF (qR (xmv 1) (qay rfl (qac (qO 2 qcI.nd rfl (by first|exact Or.inl rfl|exact Or.inr rfl)) (qac (qO 3 qcI.nd rfl (by first|exact Or.inl rfl|exact Or.inr rfl)) qao))))
  (qF (qY 4 qcI.nd rfl (by first|exact Or.inl rfl|exact Or.inr rfl) (qH o_colouring hr (by first|decide|omega) rfl (qA (xmv 0) (qA (qH o_chalk_signs hr (by first|decide|omega) rfl (qA (xmv 0) (qA (xmv 3) qN (qM ..)) (qM ..))) qN (qL ..)) (qM ..))))
  (qF (qW PassesOwn.never rfl (qax rfl B.z_range (qA (qD qa9 rfl B.z_len (by decide+kernel) (qA (xmv 2) qN (qM ..))) qN (qL ..))) (qO 5 qcI.nd rfl (by first|exact Or.inl rfl|exact Or.inr rfl)) (qG (qW PassesOwn.never rfl (qeG rfl B.z_range (qA (qI qc3 (xmv 5) qK) (qA (qD qa9 rfl B.z_len (by decide+kernel) (qA (xmv 2) qN (qM ..))) qN (qL ..)) (qB ..))) (qO 6 qcI.nd rfl (by first|exact Or.inl rfl|exact Or.inr rfl)) (qG (qV (qX (o_eq hr.units) (qJ (qP hr.units) (xmv 4) (qJ (qP hr.units) (xmv 2) (xmv 5) (fun _ _=>rfl)) (fun _ _=>rfl)) (qJ (qP hr.units) (xmv 4) (qJ (qP hr.units) (xmv 2) (xmv 6) (fun _ _=>rfl)) (fun _ _=>rfl)) (qaC _)) (qG (qU (qaw (qA qgp (qA (xmv 5) (qA (xmv 6) (qA (xmv 4) qN (qM ..)) (qM ..)) (qM ..)) (qC ..))))) qQ)))))
  (qG (qU qcs)))))
noncomputable abbrev qbT:Stmt:=top 19
noncomputable def qdO:FS:=(mSeq (mAsg (m2 (b2 gIxY) (mLst (qaa (mC (D.int (1))) (qaa (mC (D.int (1))) (qaa (mC (D.int (2))) (qaa (mC (D.int (2))) (qaa (mC (D.int (3))) (qaa (mC (D.int (4))) mNil))))))) (mN (qaj 2 qag) (qaa (mV 0) (qaa (mC (D.int (6))) mNil)))) (gN 1))
  (mSeq (mAsg (mN (qaj 2 qaQ) (qaa (mV 0) (qaa (m2 (b2 gDiv) (mC (D.int (8))) (mV 1)) mNil))) (gN 2))
  (mSeq (mIfS (mB (m2 (b2 gEq) (mV 1) (mC (D.int (1))))) (mRet (mTup (qaa (mV 2) (qaa (mTR1 (qaa (mN (b1 gLen) (qaa (mV 2) mNil)) mNil)) mNil)))) mNx)
  (mRet (mN (qaj 3 qbI) (qaa (mV 0) (qaa (mV 2) (qaa (mV 1) mNil))))))))
noncomputable def qcf:FN:=fnB 3 qdO
theorem qc0:qas ["_law_hand_here","_law_copies","_law_web_here"] ["_law_hand_here"] (qab qbT):=⟨rfl,rfl,rfl,by decide+kernel,rfl,by decide+kernel,by decide+kernel⟩
theorem qgC {P:Program}{w:World}{K:Fg1}{mg:Str->Option Value}{base:Heap}{f:Addr}{fd:FuncData}(F:Fun K "_law_web" "_law_web" qbT f fd)(hb:qa6 K fd ["_law_hand_here"] [])(hm:mg "_law_web"=some (.ref f))(B:Blt mg)(o__law_cover:Own P w K mg base 3 "_law_cover" 3 qbI)(o__law_plain_web:Own P w K mg base 3 "_law_plain_web" 2 qaQ)(o__law_take:Own P w K mg base 1 "_law_take" 2 qag):
  Own P w K mg base 4 "_law_web" 1 qcf:=qaD (k:=3) (n:=1) (N:=["_law_hand_here","_law_copies","_law_web_here"]) (ps:=["_law_hand_here"]) (b:=qdO) F hb hm qc0 rfl fun cdv A outer s H E hr=>
 (qF (qY 1 qc0.nd rfl (by first|exact Or.inl rfl|exact Or.inr rfl) (qJ (qP hr.units) (qaY (qA qK (qA qK (qA qK (qA qK (qA qK (qA qK qN (qC ..)) (qC ..)) (qC ..)) (qC ..)) (qC ..)) (qC ..))) (qH o__law_take hr (by first|decide|omega) rfl (qA (xmv 0) (qA qK qN (qC ..)) (qM ..))) (fun _ _=>rfl)))
  (qF (qY 2 qc0.nd rfl (by first|exact Or.inl rfl|exact Or.inr rfl) (qH o__law_plain_web hr (by first|decide|omega) rfl (qA (xmv 0) (qA (qI qkE qK (xmv 1)) qN (qB ..)) (qM ..))))
  (qF (qV (qX (o_eq hr.units) (xmv 1) qK (qaC _)) (qG (qU (qaw (qA (xmv 2) (qA (qj1 rfl rfl B.z_range rfl B.z_tuple (qA (qD qa9 rfl B.z_len (by decide+kernel) (qA (xmv 2) qN (qM ..))) qN (qL ..))) qN (qL ..)) (qM ..))))) qQ)
  (qG (qU (qH o__law_cover hr (by first|decide|omega) rfl (qA (xmv 0) (qA (xmv 2) (qA (xmv 1) qN (qM ..)) (qM ..)) (qM ..))))))))
noncomputable abbrev qdB:Stmt:=top 10
noncomputable def qg4:FS:=(mSeq (mAsg (mN (qaj 2 qa7) (qaa (mV 0) (qaa (mN (qaj 2 qb0) (qaa (mV 0) (qaa (mV 1) mNil))) mNil))) (gN 3))
  (mSeq (mIfS (mNot (mTr (mN (qaj 1 qbF) (qaa (mV 3) mNil)))) (mRet (mTup (qaa (mC (D.str "colours")) (qaa (mV 3) mNil)))) mNx)
  (mRet (mIf (mTr (mV 2)) (mN (qaj 2 qgM) (qaa (mV 0) (qaa (mV 1) mNil))) (mC D.non)))))
noncomputable def qek:FN:=fnB 4 qg4
theorem qhc:qas ["web","standing","quiet","colours"] ["web","standing","quiet"] (qab qdB):=⟨rfl,rfl,rfl,by decide+kernel,rfl,by decide+kernel,by decide+kernel⟩
theorem qkx {P:Program}{w:World}{K:Fg1}{mg:Str->Option Value}{base:Heap}{f:Addr}{fd:FuncData}(F:Fun K "never" "never" qdB f fd)(hb:qa6 K fd ["web","standing","quiet"] [])(hm:mg "never"=some (.ref f))(B:Blt mg)(o_alike:Own P w K mg base 4 "alike" 2 qgM)(o_all_signs:Own P w K mg base 2 "all_signs" 2 qb0)(o_all_unlike:Own P w K mg base 1 "all_unlike" 1 qbF)(o_colouring:Own P w K mg base 3 "colouring" 2 qa7):
  Own P w K mg base 5 "never" 3 qek:=qaD (k:=4) (n:=3) (N:=["web","standing","quiet","colours"]) (ps:=["web","standing","quiet"]) (b:=qg4) F hb hm qhc rfl fun cdv A outer s H E hr=>
 (qF (qY 3 qhc.nd rfl (by first|exact Or.inl rfl|exact Or.inr rfl) (qH o_colouring hr (by first|decide|omega) rfl (qA (xmv 0) (qA (qH o_all_signs hr (by first|decide|omega) rfl (qA (xmv 0) (qA (xmv 1) qN (qM ..)) (qM ..))) qN (qL ..)) (qM ..))))
  (qF (qV (qlY (qgo (qH o_all_unlike hr (by first|decide|omega) rfl (qA (xmv 3) qN (qM ..))))) (qG (qU (qaw (qA qgp (qA (xmv 3) qN (qM ..)) (qC ..))))) qQ)
  (qG (qU (qil (qgo (xmv 2)) (qH o_alike hr (by first|decide|omega) rfl (qA (xmv 0) (qA (xmv 1) qN (qM ..)) (qM ..))) qcs)))))
noncomputable abbrev qe5:Stmt:=top 27
noncomputable def qgA:FS:=(mSeq (mAsg (mN (qaj 3 qek) (qaa (mV 3) (qaa (mTup (qaa (mTup (qaa (mV 9) (qaa (mV 8) mNil))) (qaa (mV 5) mNil))) (qaa (mC (D.bl false)) mNil)))) (gN 10))
  (mSeq (mAsg (qbK 1 [9,8] (iSeq (mV 7)) (gN 0) (mAnd (mB (m2 (b2 gEq) (m2 (b2 gIxY) (mV 0) (mV 1)) (mV 2))) (mB (m2 (b2 gEq) (m2 (b2 gIxY) (mV 0) (mV 2)) (mV 1)))) (qbm (mV 0))) (gN 11))
  (mSeq (mIfS (mB (m2 (b2 gNe) (m2 (b2 gIsX) (mV 10) (mC D.non)) (m2 (b2 gEq) (mV 11) (mLst mNil)))) (mRet (mC (D.bl false))) mNx)
  (mIfS (mAnd (mB (m2 (b2 qgW) (mV 10) (mC D.non))) (mOr (mB (m2 (b2 gNe) (m2 (b2 gIxY) (mV 10) (mC (D.int (0)))) (mC (D.str "colours")))) (mB (m2 (b2 qaH) (mN (qaj 1 qaR) (qaa (m2 (b2 gIxY) (mV 10) (mC (D.int (1)))) mNil)) (mV 11))))) (mRet (mC (D.bl false))) mNx))))
noncomputable def qiQ:FS:=(mFor (iR1 (qaa (mV 8) mNil)) (gN 9) qgA)
noncomputable def qgz:FS:=(mSeq (mAsg (mN (qaj 2 qa8) (qaa (mV 0) (qaa (mV 1) mNil))) (gN 2))
  (mSeq (mAsg (mN (qaj 1 qcf) (qaa (mV 2) mNil)) (gT 2 (gCs (gN 3) (gCs (gN 4) gNl))))
  (mSeq (mAsg (mTup (qaa (mN (qaj 3 qbJ) (qaa (mV 2) (qaa (mV 3) (qaa (mV 4) mNil)))) (qaa (mN (qaj 1 qbH) (qaa (mV 3) mNil)) mNil))) (gT 2 (gCs (gN 5) (gCs (gN 6) gNl))))
  (mSeq (mAsg (qbK 1 [5] (iSeq (mV 6)) (gN 0) (mB (m2 (b2 gEq) (mN (b1 gTup) (qaa (mN (b1 qb6) (qaa (qbK 1 [0] (iSeq (mV 1)) (gN 0) qcr (qbm (m2 (b2 gIxY) (mV 1) (mV 0)))) mNil)) mNil)) (mV 1))) (qbm (mV 0))) (gN 7))
  (mFor (iR1 (qaa (mN (b1 gLen) (qaa (mV 3) mNil)) mNil)) (gN 8) qiQ)))))
noncomputable def qiP:FS:=(qh7 [true,true,false,false,false,false,false,false,false,false,false,false] [true,false,false,false,false,false,false,false,false,false,false,false] qgz)
noncomputable def qnx:FS:=(mSeq (mFor (iR1 (qaa (mN (b2 gMax) (qaa (mC (D.int (1))) (qaa (mN (b2 gMin) (qaa (mC (D.int (4))) (qaa (mN (b1 gLen) (qaa (mV 0) mNil)) mNil))) mNil))) mNil)) (gN 1) qiP)
  (mRet (mC (D.bl true))))
noncomputable def m_law:FN:=fnB 12 qnx
theorem qcq:qas ["_law_script","_law_k","_law_hand_here","_law_web_here","_law_copied","_law_chalk_here","_law_every","_law_kept_here","_law_other","_law_room","_law_told","_law_due"] ["_law_script"] (qab qe5):=⟨rfl,rfl,rfl,by decide+kernel,rfl,by decide+kernel,by decide+kernel⟩
theorem qoH {P:Program}{w:World}{K:Fg1}{mg:Str->Option Value}{base:Heap}{f:Addr}{fd:FuncData}(F:Fun K "law" "law" qe5 f fd)(hb:qa6 K fd ["_law_script"] [])(hm:mg "law"=some (.ref f))(B:Blt mg)(o__law_chalk:Own P w K mg base 3 "_law_chalk" 3 qbJ)(o__law_exchanged:Own P w K mg base 1 "_law_exchanged" 1 qaR)(o__law_hand:Own P w K mg base 1 "_law_hand" 2 qa8)(o__law_turns:Own P w K mg base 2 "_law_turns" 1 qbH)(o__law_web:Own P w K mg base 4 "_law_web" 1 qcf)(o_never:Own P w K mg base 5 "never" 3 qek):
  FnOk P w K mg base CX0 6 f fd ["_law_script"] (spM K 1 m_law):=qnC (k:=5) (n:=1) (N:=["_law_script","_law_k","_law_hand_here","_law_web_here","_law_copied","_law_chalk_here","_law_every","_law_kept_here","_law_other","_law_room","_law_told","_law_due"]) (ps:=["_law_script"]) (b:=qnx) F qcq rfl fun cdv A outer s H E hr=>
 (qF (qW PassesOwn.never rfl (qax rfl B.z_range (qA (qD (qq5 rfl) rfl B.z_max (by decide+kernel) (qA qK (qA (qD (qq4 rfl) rfl B.z_min (by decide+kernel) (qA qK (qA (qD qa9 rfl B.z_len (by decide+kernel) (qA (xmv 0) qN (qM ..))) qN (qL ..)) (qC ..))) qN (qL ..)) (qC ..))) qN (qL ..))) (qO 1 qcq.nd rfl (by first|exact Or.inl rfl|exact Or.inr rfl)) (qik [true,true,false,false,false,false,false,false,false,false,false,false] [true,false,false,false,false,false,false,false,false,false,false,false] (qF (qY 2 qcq.nd rfl (by first|exact Or.inl rfl|exact Or.inr rfl) (qH o__law_hand hr (by first|decide|omega) rfl (qA (xmv 0) (qA (xmv 1) qN (qM ..)) (qM ..))))
  (qF (qR (qH o__law_web hr (by first|decide|omega) rfl (qA (xmv 2) qN (qM ..))) (qay rfl (qac (qO 3 qcq.nd rfl (by first|exact Or.inl rfl|exact Or.inr rfl)) (qac (qO 4 qcq.nd rfl (by first|exact Or.inl rfl|exact Or.inr rfl)) qao))))
  (qF (qR (qaw (qA (qH o__law_chalk hr (by first|decide|omega) rfl (qA (xmv 2) (qA (xmv 3) (qA (xmv 4) qN (qM ..)) (qM ..)) (qM ..))) (qA (qH o__law_turns hr (by first|decide|omega) rfl (qA (xmv 3) qN (qM ..))) qN (qL ..)) (qL ..))) (qay rfl (qac (qO 5 qcq.nd rfl (by first|exact Or.inl rfl|exact Or.inr rfl)) (qac (qO 6 qcq.nd rfl (by first|exact Or.inl rfl|exact Or.inr rfl)) qao))))
  (qF (qct 7 rfl (T:=["_law_one"]) (keep:=[5]) ⟨rfl,by decide+kernel,(List.forall_mem_cons.mpr ⟨⟨_,rfl,rfl,(by first|exact Or.inl rfl|exact Or.inr rfl),(by first | decide+kernel | (show ¬ (("_law_chalk_here":Str),NameKind.cell)∈(_:List (Str×NameKind));decide+kernel))⟩,(List.forall_mem_nil _)⟩)⟩ rfl (qd (xmv 6)) (fun _ _ _=>⟨(qO 0 (show List.Nodup (["_law_one","_law_chalk_here"]:List Str) by decide+kernel) rfl (by first|exact Or.inl rfl|exact Or.inr rfl)),(qcH (qX (o_eq hr.units) (qE qbu rfl B.z_tuple (by decide+kernel) (qA (qD qjR rfl B.z_sorted (by decide+kernel) (qA (qZ rfl (T:=["_law_room"]) (keep:=[0]) ⟨rfl,by decide+kernel,(List.forall_mem_cons.mpr ⟨⟨_,rfl,rfl,(by first|exact Or.inl rfl|exact Or.inr rfl),(by first | decide+kernel | (show ¬ (("_law_one":Str),NameKind.cell)∈(_:List (Str×NameKind));decide+kernel))⟩,(List.forall_mem_nil _)⟩)⟩ rfl (qd (xmv 1)) (fun _ _ _=>⟨(qO 0 (show List.Nodup (["_law_room","_law_one"]:List Str) by decide+kernel) rfl (by first|exact Or.inl rfl|exact Or.inr rfl)),qaK,(qJ (qP hr.units) (xmv 1) (xmv 0) (fun _ _=>rfl))⟩)) qN (qaB ..))) qN (qL ..))) (xmv 1) (qaC _))),(xmv 0)⟩) qcq.nd rfl (by first|exact Or.inl rfl|exact Or.inr rfl))
  (qG (qW PassesOwn.never rfl (qax rfl B.z_range (qA (qD qa9 rfl B.z_len (by decide+kernel) (qA (xmv 3) qN (qM ..))) qN (qL ..))) (qO 8 qcq.nd rfl (by first|exact Or.inl rfl|exact Or.inr rfl)) (qG (qW PassesOwn.never rfl (qax rfl B.z_range (qA (xmv 8) qN (qM ..))) (qO 9 qcq.nd rfl (by first|exact Or.inl rfl|exact Or.inr rfl)) (qF (qY 10 qcq.nd rfl (by first|exact Or.inl rfl|exact Or.inr rfl) (qH o_never hr (by first|decide|omega) rfl (qA (xmv 3) (qA (qaw (qA (qaw (qA (xmv 9) (qA (xmv 8) qN (qM ..)) (qM ..))) (qA (xmv 5) qN (qM ..)) (qT ..))) (qA qd5 qN (qC ..)) (qT ..)) (qM ..))))
  (qF (qct 11 rfl (T:=["_law_one"]) (keep:=[9,8]) ⟨rfl,by decide+kernel,(List.forall_mem_cons.mpr ⟨⟨_,rfl,rfl,(by first|exact Or.inl rfl|exact Or.inr rfl),(by first | decide+kernel | (show ¬ (("_law_room":Str),NameKind.cell)∈(_:List (Str×NameKind));decide+kernel))⟩,(List.forall_mem_cons.mpr ⟨⟨_,rfl,rfl,(by first|exact Or.inl rfl|exact Or.inr rfl),(by first | decide+kernel | (show ¬ (("_law_other":Str),NameKind.cell)∈(_:List (Str×NameKind));decide+kernel))⟩,(List.forall_mem_nil _)⟩)⟩)⟩ rfl (qd (xmv 7)) (fun _ _ _=>⟨(qO 0 (show List.Nodup (["_law_one","_law_room","_law_other"]:List Str) by decide+kernel) rfl (by first|exact Or.inl rfl|exact Or.inr rfl)),(qcH (qgn (qdu (qX (o_eq hr.units) (qJ (qP hr.units) (xmv 0) (xmv 1) (fun _ _=>rfl)) (xmv 2) (qaC _)) (qda (qX (o_eq hr.units) (qJ (qP hr.units) (xmv 0) (xmv 2) (fun _ _=>rfl)) (xmv 1) (qaC _)))))),(xmv 0)⟩) qcq.nd rfl (by first|exact Or.inl rfl|exact Or.inr rfl))
  (qF (qV (qX (o_ne hr.units) (qdx qoJ (xmv 10) qcs (qaC _)) (qdx (o_eq hr.units) (xmv 11) (qaY qN) (qaC _)) (qaC _)) (qG (qU qd5)) qQ)
  (qG (qV (qgn (qdu (qX qkD (xmv 10) qcs (qaC _)) (qda (qgn (qll (qX (o_ne hr.units) (qJ (qP hr.units) (xmv 10) qK (fun _ _=>rfl)) qgp (qaC _)) (qij (qX (qdk hr.units) (qH o__law_exchanged hr (by first|decide|omega) rfl (qA (qJ (qP hr.units) (xmv 10) qK (fun _ _=>rfl)) qN (qS ..))) (xmv 11) (by with_unfolding_all rfl)))))))) (qG (qU qd5)) qQ)))))))))))))))
  (qG (qU qd5)))
theorem all_mk {l:PySem.W.OpenLaw}{w:World}{K:Fg1}{h:Heap}{mg:Str->Option Value}{fa f1 f2 f3 f4 f5 f6 f7 f8 f9 f10 f11 f12 f13 f14 f15 f16 f17 f18 f19 f20 f21 f22 f23 f24:Addr}(X:K.In h)(G:h.Ns mainGlobals mg)(hfa:mg "law"=some (.ref fa))
  {oe1 oe2 oe3 oe4 oe5 oe6 oe7 oe8 oe9 oe10 oe11 oe12 oe13 oe14 oe15 oe16 oe17 oe18 oe19 oe20 oe21 oe22 oe23 oe24 an1 an2 an3 an4 an5 an6 an7 an8 an9 an10 an11 an12 an13 an14 an15 an16 an17 an18 an19 an20 an21 an22 an23 an24:Option Addr} {sn1 sn2 sn3 sn4 sn5 sn6 sn7 sn8 sn9 sn10 sn11 sn12 sn13 sn14 sn15 sn16 sn17 sn18 sn19 sn20 sn21 sn22 sn23 sn24:Array (Option Value)} {oc1 oc2 oc3 oc4 oc5 oc6 oc7 oc8 oc9 oc10 oc11 oc12 oc13 oc14 oc15 oc16 oc17 oc18 oc19 oc20 oc21 oc22 oc23 oc24 kV1 kV2 kV3 kV4 kV5 kV6 kV7 kV8 kV9 kV10 kV11 kV12 kV13 kV14 kV15 kV16 kV17 kV18 kV19 kV20 kV21 kV22 kV23 kV24 dc1 dc2 dc3 dc4 dc5 dc6 dc7 dc8 dc9 dc10 dc11 dc12 dc13 dc14 dc15 dc16 dc17 dc18 dc19 dc20 dc21 dc22 dc23 dc24 pm1 pm2 pm3 pm4 pm5 pm6 pm7 pm8 pm9 pm10 pm11 pm12 pm13 pm14 pm15 pm16 pm17 pm18 pm19 pm20 pm21 pm22 pm23 pm24 cd1 cd2 cd3 cd4 cd5 cd6 cd7 cd8 cd9 cd10 cd11 cd12 cd13 cd14 cd15 cd16 cd17 cd18 cd19 cd20 cd21 cd22 cd23 cd24 ct1 ct2 ct3 ct4 ct5 ct6 ct7 ct8 ct9 ct10 ct11 ct12 ct13 ct14 ct15 ct16 ct17 ct18 ct19 ct20 ct21 ct22 ct23 ct24:Value}
  (a1:wN1 K mainGlobals "looks"=some (some (.ref f1)))
  (l1:K.lookup f1=some ⟨oc1,oe1,.func (wF1 "looks" "looks" (qau qdC) (qaq qdC) (qab qdC) .none kV1 dc1 pm1 an1 cd1 ct1),sn1⟩)
  (c1:wC1 K cd1 "looks"=true)
  (k1:wK1 K (.ref f1)=true)
  (a2:wN1 K mainGlobals "numbered"=some (some (.ref f2)))
  (l2:K.lookup f2=some ⟨oc2,oe2,.func (wF1 "numbered" "numbered" (qau qbS) (qaq qbS) (qab qbS) .none kV2 dc2 pm2 an2 cd2 ct2),sn2⟩)
  (c2:wC1 K cd2 "numbered"=true)
  (k2:wK1 K (.ref f2)=true)
  (a3:wN1 K mainGlobals "all_unlike"=some (some (.ref f3)))
  (l3:K.lookup f3=some ⟨oc3,oe3,.func (wF1 "all_unlike" "all_unlike" (qau qbc) (qaq qbc) (qab qbc) .none kV3 dc3 pm3 an3 cd3 ct3),sn3⟩)
  (c3:wC1 K cd3 "all_unlike"=true)
  (k3:wK1 K (.ref f3)=true)
  (a4:wN1 K mainGlobals "chalk_signs"=some (some (.ref f4)))
  (l4:K.lookup f4=some ⟨oc4,oe4,.func (wF1 "chalk_signs" "chalk_signs" (qau qa3) (qaq qa3) (qab qa3) .none kV4 dc4 pm4 an4 cd4 ct4),sn4⟩)
  (c4:wC1 K cd4 "chalk_signs"=true)
  (k4:wK1 K (.ref f4)=true)
  (a5:wN1 K mainGlobals "_law_hand"=some (some (.ref f5)))
  (l5:K.lookup f5=some ⟨oc5,oe5,.func (wF1 "_law_hand" "_law_hand" (qau qbB) (qaq qbB) (qab qbB) .none kV5 dc5 pm5 an5 cd5 ct5),sn5⟩)
  (c5:wC1 K cd5 "_law_hand"=true)
  (k5:wK1 K (.ref f5)=true)
  (a6:wN1 K mainGlobals "_law_take"=some (some (.ref f6)))
  (l6:K.lookup f6=some ⟨oc6,oe6,.func (wF1 "_law_take" "_law_take" (qau qbz) (qaq qbz) (qab qbz) .none kV6 dc6 pm6 an6 cd6 ct6),sn6⟩)
  (c6:wC1 K cd6 "_law_take"=true)
  (k6:wK1 K (.ref f6)=true)
  (a7:wN1 K mainGlobals "_law_keeps"=some (some (.ref f7)))
  (l7:K.lookup f7=some ⟨oc7,oe7,.func (wF1 "_law_keeps" "_law_keeps" (qau qbg) (qaq qbg) (qab qbg) .none kV7 dc7 pm7 an7 cd7 ct7),sn7⟩)
  (c7:wC1 K cd7 "_law_keeps"=true)
  (k7:wK1 K (.ref f7)=true)
  (a8:wN1 K mainGlobals "_law_walks"=some (some (.ref f8)))
  (l8:K.lookup f8=some ⟨oc8,oe8,.func (wF1 "_law_walks" "_law_walks" (qau qbd) (qaq qbd) (qab qbd) .none kV8 dc8 pm8 an8 cd8 ct8),sn8⟩)
  (c8:wC1 K cd8 "_law_walks"=true)
  (k8:wK1 K (.ref f8)=true)
  (a9:wN1 K mainGlobals "_law_led"=some (some (.ref f9)))
  (l9:K.lookup f9=some ⟨oc9,oe9,.func (wF1 "_law_led" "_law_led" (qau qbU) (qaq qbU) (qab qbU) .none kV9 dc9 pm9 an9 cd9 ct9),sn9⟩)
  (c9:wC1 K cd9 "_law_led"=true)
  (k9:wK1 K (.ref f9)=true)
  (a10:wN1 K mainGlobals "_law_exchanged"=some (some (.ref f10)))
  (l10:K.lookup f10=some ⟨oc10,oe10,.func (wF1 "_law_exchanged" "_law_exchanged" (qau qaG) (qaq qaG) (qab qaG) .none kV10 dc10 pm10 an10 cd10 ct10),sn10⟩)
  (c10:wC1 K cd10 "_law_exchanged"=true)
  (k10:wK1 K (.ref f10)=true)
  (a11:wN1 K mainGlobals "refined"=some (some (.ref f11)))
  (l11:K.lookup f11=some ⟨oc11,oe11,.func (wF1 "refined" "refined" (qau qcd) (qaq qcd) (qab qcd) .none kV11 dc11 pm11 an11 cd11 ct11),sn11⟩)
  (c11:wC1 K cd11 "refined"=true)
  (k11:wK1 K (.ref f11)=true)
  (a12:wN1 K mainGlobals "all_signs"=some (some (.ref f12)))
  (l12:K.lookup f12=some ⟨oc12,oe12,.func (wF1 "all_signs" "all_signs" (qau qby) (qaq qby) (qab qby) .none kV12 dc12 pm12 an12 cd12 ct12),sn12⟩)
  (c12:wC1 K cd12 "all_signs"=true)
  (k12:wK1 K (.ref f12)=true)
  (a13:wN1 K mainGlobals "_law_doored"=some (some (.ref f13)))
  (l13:K.lookup f13=some ⟨oc13,oe13,.func (wF1 "_law_doored" "_law_doored" (qau qa4) (qaq qa4) (qab qa4) .none kV13 dc13 pm13 an13 cd13 ct13),sn13⟩)
  (c13:wC1 K cd13 "_law_doored"=true)
  (k13:wK1 K (.ref f13)=true)
  (a14:wN1 K mainGlobals "_law_order"=some (some (.ref f14)))
  (l14:K.lookup f14=some ⟨oc14,oe14,.func (wF1 "_law_order" "_law_order" (qau qbf) (qaq qbf) (qab qbf) .none kV14 dc14 pm14 an14 cd14 ct14),sn14⟩)
  (c14:wC1 K cd14 "_law_order"=true)
  (k14:wK1 K (.ref f14)=true)
  (a15:wN1 K mainGlobals "_law_turns"=some (some (.ref f15)))
  (l15:K.lookup f15=some ⟨oc15,oe15,.func (wF1 "_law_turns" "_law_turns" (qau qbe) (qaq qbe) (qab qbe) .none kV15 dc15 pm15 an15 cd15 ct15),sn15⟩)
  (c15:wC1 K cd15 "_law_turns"=true)
  (k15:wK1 K (.ref f15)=true)
  (a16:wN1 K mainGlobals "_law_kept"=some (some (.ref f16)))
  (l16:K.lookup f16=some ⟨oc16,oe16,.func (wF1 "_law_kept" "_law_kept" (qau qbA) (qaq qbA) (qab qbA) .none kV16 dc16 pm16 an16 cd16 ct16),sn16⟩)
  (c16:wC1 K cd16 "_law_kept"=true)
  (k16:wK1 K (.ref f16)=true)
  (a17:wN1 K mainGlobals "colouring"=some (some (.ref f17)))
  (l17:K.lookup f17=some ⟨oc17,oe17,.func (wF1 "colouring" "colouring" (qau qbx) (qaq qbx) (qab qbx) .none kV17 dc17 pm17 an17 cd17 ct17),sn17⟩)
  (c17:wC1 K cd17 "colouring"=true)
  (k17:wK1 K (.ref f17)=true)
  (a18:wN1 K mainGlobals "_law_plain_web"=some (some (.ref f18)))
  (l18:K.lookup f18=some ⟨oc18,oe18,.func (wF1 "_law_plain_web" "_law_plain_web" (qau qaF) (qaq qaF) (qab qaF) .none kV18 dc18 pm18 an18 cd18 ct18),sn18⟩)
  (c18:wC1 K cd18 "_law_plain_web"=true)
  (k18:wK1 K (.ref f18)=true)
  (a19:wN1 K mainGlobals "_law_cover"=some (some (.ref f19)))
  (l19:K.lookup f19=some ⟨oc19,oe19,.func (wF1 "_law_cover" "_law_cover" (qau qbh) (qaq qbh) (qab qbh) .none kV19 dc19 pm19 an19 cd19 ct19),sn19⟩)
  (c19:wC1 K cd19 "_law_cover"=true)
  (k19:wK1 K (.ref f19)=true)
  (a20:wN1 K mainGlobals "_law_chalk"=some (some (.ref f20)))
  (l20:K.lookup f20=some ⟨oc20,oe20,.func (wF1 "_law_chalk" "_law_chalk" (qau qbi) (qaq qbi) (qab qbi) .none kV20 dc20 pm20 an20 cd20 ct20),sn20⟩)
  (c20:wC1 K cd20 "_law_chalk"=true)
  (k20:wK1 K (.ref f20)=true)
  (a21:wN1 K mainGlobals "alike"=some (some (.ref f21)))
  (l21:K.lookup f21=some ⟨oc21,oe21,.func (wF1 "alike" "alike" (qau qdD) (qaq qdD) (qab qdD) .none kV21 dc21 pm21 an21 cd21 ct21),sn21⟩)
  (c21:wC1 K cd21 "alike"=true)
  (k21:wK1 K (.ref f21)=true)
  (a22:wN1 K mainGlobals "_law_web"=some (some (.ref f22)))
  (l22:K.lookup f22=some ⟨oc22,oe22,.func (wF1 "_law_web" "_law_web" (qau qbT) (qaq qbT) (qab qbT) .none kV22 dc22 pm22 an22 cd22 ct22),sn22⟩)
  (c22:wC1 K cd22 "_law_web"=true)
  (k22:wK1 K (.ref f22)=true)
  (a23:wN1 K mainGlobals "never"=some (some (.ref f23)))
  (l23:K.lookup f23=some ⟨oc23,oe23,.func (wF1 "never" "never" (qau qdB) (qaq qdB) (qab qdB) .none kV23 dc23 pm23 an23 cd23 ct23),sn23⟩)
  (c23:wC1 K cd23 "never"=true)
  (k23:wK1 K (.ref f23)=true)
  (a24:wN1 K mainGlobals "law"=some (some (.ref f24)))
  (l24:K.lookup f24=some ⟨oc24,oe24,.func (wF1 "law" "law" (qau qe5) (qaq qe5) (qab qe5) .none kV24 dc24 pm24 an24 cd24 ct24),sn24⟩)
  (c24:wC1 K cd24 "law"=true)
  (k24:wK1 K (.ref f24)=true)
  (z_enumerate:wN1 K mainGlobals "enumerate"=some none)
  (z_int:wN1 K mainGlobals "int"=some none)
  (z_len:wN1 K mainGlobals "len"=some none)
  (z_list:wN1 K mainGlobals "list"=some none)
  (z_max:wN1 K mainGlobals "max"=some none)
  (z_min:wN1 K mainGlobals "min"=some none)
  (z_range:wN1 K mainGlobals "range"=some none)
  (z_set:wN1 K mainGlobals "set"=some none)
  (z_sorted:wN1 K mainGlobals "sorted"=some none)
  (z_tuple:wN1 K mainGlobals "tuple"=some none)
  :∃ fd:FuncData,(∀ (s:Shared) (v:Value),BindsTo s fd ⟨[v],[]⟩ [("_law_script",v)]) /\ ∀ base:Heap,K.In base->base.Ns mainGlobals mg->FnOk l.prog w K mg base CX0 6 fa fd ["_law_script"] (spM K 1 m_law):=by
 have e:=hfa.symm.trans (wM1 X G a24)
 cases e
 have B:Blt mg:=⟨PySem.W.mg_none_of X G z_enumerate,PySem.W.mg_none_of X G z_int,PySem.W.mg_none_of X G z_len,PySem.W.mg_none_of X G z_list,PySem.W.mg_none_of X G z_max,PySem.W.mg_none_of X G z_min,PySem.W.mg_none_of X G z_range,PySem.W.mg_none_of X G z_set,PySem.W.mg_none_of X G z_sorted,PySem.W.mg_none_of X G z_tuple⟩
 have g_numbered:CGl K mg "numbered" (D.fn "numbered"):=qpJ (wM1 X G a2) (qqY a2)
 have F1:=qaX (st:=qdC) l1 c1 k1
 have b1:=F1.binds (ps:=["web","signs","colours"]) fun _ _ _ _ _ _ us hl=>ln3 hl fun _ _ _=>rfl
 have F2:=qaX (st:=qbS) l2 c2 k2
 have b2:=F2.binds (ps:=["things"]) fun _ _ _ _ _ _ us hl=>ln1 hl fun _=>rfl
 have F3:=qaX (st:=qbc) l3 c3 k3
 have b3:=F3.binds (ps:=["colours"]) fun _ _ _ _ _ _ us hl=>ln1 hl fun _=>rfl
 have F4:=qaX (st:=qa3) l4 c4 k4
 have b4:=F4.binds (ps:=["web","chalk"]) fun _ _ _ _ _ _ us hl=>ln2 hl fun _ _=>rfl
 have F5:=qaX (st:=qbB) l5 c5 k5
 have b5:=F5.binds (ps:=["_law_script","_law_k"]) fun _ _ _ _ _ _ us hl=>ln2 hl fun _ _=>rfl
 have F6:=qaX (st:=qbz) l6 c6 k6
 have b6:=F6.binds (ps:=["_law_hand_here","_law_many"]) fun _ _ _ _ _ _ us hl=>ln2 hl fun _ _=>rfl
 have F7:=qaX (st:=qbg) l7 c7 k7
 have b7:=F7.binds (ps:=["_law_web_here","_law_turn"]) fun _ _ _ _ _ _ us hl=>ln2 hl fun _ _=>rfl
 have F8:=qaX (st:=qbd) l8 c8 k8
 have b8:=F8.binds (ps:=["_law_web_here"]) fun _ _ _ _ _ _ us hl=>ln1 hl fun _=>rfl
 have F9:=qaX (st:=qbU) l9 c9 k9
 have b9:=F9.binds (ps:=["_law_web_here","_law_room","_law_walk"]) fun _ _ _ _ _ _ us hl=>ln3 hl fun _ _ _=>rfl
 have F10:=qaX (st:=qaG) l10 c10 k10
 have b10:=F10.binds (ps:=["_law_colours"]) fun _ _ _ _ _ _ us hl=>ln1 hl fun _=>rfl
 have F11:=qaX (st:=qcd) l11 c11 k11
 have b11:=F11.binds (ps:=["web","signs","numbering"]) fun _ _ _ _ _ _ us hl=>ln3 hl fun _ _ _=>rfl
 have F12:=qaX (st:=qby) l12 c12 k12
 have b12:=F12.binds (ps:=["web","standing"]) fun _ _ _ _ _ _ us hl=>ln2 hl fun _ _=>rfl
 have F13:=qaX (st:=qa4) l13 c13 k13
 have b13:=F13.binds (ps:=["_law_hand_here","_law_ends"]) fun _ _ _ _ _ _ us hl=>ln2 hl fun _ _=>rfl
 have F14:=qaX (st:=qbf) l14 c14 k14
 have b14:=F14.binds (ps:=["_law_hand_here","_law_many"]) fun _ _ _ _ _ _ us hl=>ln2 hl fun _ _=>rfl
 have F15:=qaX (st:=qbe) l15 c15 k15
 have b15:=F15.binds (ps:=["_law_web_here"]) fun _ _ _ _ _ _ us hl=>ln1 hl fun _=>rfl
 have F16:=qaX (st:=qbA) l16 c16 k16
 have b16:=F16.binds (ps:=["_law_hand_here","_law_web_here","_law_copied"]) fun _ _ _ _ _ _ us hl=>ln3 hl fun _ _ _=>rfl
 have F17:=qaX (st:=qbx) l17 c17 k17
 have b17:=F17.binds (ps:=["web","signs"]) fun _ _ _ _ _ _ us hl=>ln2 hl fun _ _=>rfl
 have F18:=qaX (st:=qaF) l18 c18 k18
 have b18:=F18.binds (ps:=["_law_hand_here","_law_most"]) fun _ _ _ _ _ _ us hl=>ln2 hl fun _ _=>rfl
 have F19:=qaX (st:=qbh) l19 c19 k19
 have b19:=F19.binds (ps:=["_law_hand_here","_law_web_here","_law_copies"]) fun _ _ _ _ _ _ us hl=>ln3 hl fun _ _ _=>rfl
 have F20:=qaX (st:=qbi) l20 c20 k20
 have b20:=F20.binds (ps:=["_law_hand_here","_law_web_here","_law_copied"]) fun _ _ _ _ _ _ us hl=>ln3 hl fun _ _ _=>rfl
 have F21:=qaX (st:=qdD) l21 c21 k21
 have b21:=F21.binds (ps:=["web","standing"]) fun _ _ _ _ _ _ us hl=>ln2 hl fun _ _=>rfl
 have F22:=qaX (st:=qbT) l22 c22 k22
 have b22:=F22.binds (ps:=["_law_hand_here"]) fun _ _ _ _ _ _ us hl=>ln1 hl fun _=>rfl
 have F23:=qaX (st:=qdB) l23 c23 k23
 have b23:=F23.binds (ps:=["web","standing","quiet"]) fun _ _ _ _ _ _ us hl=>ln3 hl fun _ _ _=>rfl
 have F24:=qaX (st:=qe5) l24 c24 k24
 have b24:=F24.binds (ps:=["_law_script"]) fun _ _ _ _ _ _ us hl=>ln1 hl fun _=>rfl
 refine ⟨wF1 "law" "law" (qau qe5) (qaq qe5) (qab qe5) .none kV24 dc24 pm24 an24 cd24 ct24,fun s v=>.of_eq rfl,fun base _ _=>?_⟩
 have o_looks:=qky (P:=l.prog) (w:=w) (base:=base) F1 b1 (wM1 X G a1) B
 have o_numbered:=qgB (P:=l.prog) (w:=w) (base:=base) F2 b2 (wM1 X G a2) B
 have o_all_unlike:=qfb (P:=l.prog) (w:=w) (base:=base) F3 b3 (wM1 X G a3) B
 have o_chalk_signs:=qeB (P:=l.prog) (w:=w) (base:=base) F4 b4 (wM1 X G a4) B
 have o__law_hand:=qfR (P:=l.prog) (w:=w) (base:=base) F5 b5 (wM1 X G a5) B
 have o__law_take:=qfP (P:=l.prog) (w:=w) (base:=base) F6 b6 (wM1 X G a6) B
 have o__law_keeps:=qff (P:=l.prog) (w:=w) (base:=base) F7 b7 (wM1 X G a7) B
 have o__law_walks:=qfc (P:=l.prog) (w:=w) (base:=base) F8 b8 (wM1 X G a8) B
 have o__law_led:=qgD (P:=l.prog) (w:=w) (base:=base) F9 b9 (wM1 X G a9) B
 have o__law_exchanged:=qdH (P:=l.prog) (w:=w) (base:=base) F10 b10 (wM1 X G a10) B
 have o_refined:=qhZ (P:=l.prog) (w:=w) (base:=base) F11 b11 (wM1 X G a11) B o_looks o_numbered
 have o_all_signs:=qfO (P:=l.prog) (w:=w) (base:=base) F12 b12 (wM1 X G a12) B o_chalk_signs
 have o__law_doored:=qeC (P:=l.prog) (w:=w) (base:=base) F13 b13 (wM1 X G a13) B o__law_take
 have o__law_order:=qfe (P:=l.prog) (w:=w) (base:=base) F14 b14 (wM1 X G a14) B o__law_take
 have o__law_turns:=qfd (P:=l.prog) (w:=w) (base:=base) F15 b15 (wM1 X G a15) B o__law_keeps o__law_led o__law_walks
 have o__law_kept:=qfQ (P:=l.prog) (w:=w) (base:=base) F16 b16 (wM1 X G a16) B o__law_take
 have o_colouring:=qfN (P:=l.prog) (w:=w) (base:=base) F17 b17 (wM1 X G a17) B o_refined g_numbered
 have o__law_plain_web:=qdG (P:=l.prog) (w:=w) (base:=base) F18 b18 (wM1 X G a18) B o__law_doored o__law_take
 have o__law_cover:=qfg (P:=l.prog) (w:=w) (base:=base) F19 b19 (wM1 X G a19) B o__law_order
 have o__law_chalk:=qfh (P:=l.prog) (w:=w) (base:=base) F20 b20 (wM1 X G a20) B o__law_kept o__law_take
 have o_alike:=qkz (P:=l.prog) (w:=w) (base:=base) F21 b21 (wM1 X G a21) B o_chalk_signs o_colouring
 have o__law_web:=qgC (P:=l.prog) (w:=w) (base:=base) F22 b22 (wM1 X G a22) B o__law_cover o__law_plain_web o__law_take
 have o_never:=qkx (P:=l.prog) (w:=w) (base:=base) F23 b23 (wM1 X G a23) B o_alike o_all_signs o_all_unlike o_colouring
 have o_law:=qoH (P:=l.prog) (w:=w) (base:=base) F24 b24 (wM1 X G a24) B o__law_chalk o__law_exchanged o__law_hand o__law_turns o__law_web o_never
 exact o_law
noncomputable def hnd (g m c:Int):Ob:=.lst [.int g,.int m,.int c]
noncomputable def mix1 (m c:Int):Int:=(m+9973*c*c+17)*69621%2305843009213693921
noncomputable def mix2 (m c:Int):Int:=mix1 m c*(mix1 m c%999983+7919*c)%2305843009213693907
theorem atI0 {a b c:D}:atI [a,b,c] 0=some a:=by rfl
theorem atI1 {a b c:D}:atI [a,b,c] 1=some b:=by rfl
theorem atI2 {a b c:D}:atI [a,b,c] 2=some c:=by rfl
theorem qnR {T:Sto}{g m c k:Int}(hg:0<g)(hk:0<k)(hk2:k<1073741824):
  qag [.ref 0,.int k] (hnd g m c::T)=some (.int (g%k),hnd (g/k) m c::T):=by
 simp [qag,fnB,qco,qcl,mSeq,mIfS,mB,m2,b2,gCmp,mV,mC,gIxY,gIxX,gIx,qaz,hnd,hg,hk,hk2,mAsg,gN,gMod,gDiv,gS,b3,qcL,qeD,qep,mRet,atI0,ixN]
theorem qnQ {T:Sto}{g m c k:Int}(hg:¬ 0<g)(hk:0<k)(hk2:k<1073741824)(hc:0<=c)(hc2:c<2^60):
  qag [.ref 0,.int k] (hnd g m c::T)=some (.int ((mix2 m (c+1)/101+mix2 m (c+1)/1000003)%k),hnd g m (c+1)::T):=by
 have f1:qaS 9973 (c+1)=true:=qiX (by decide) (by decide)
 have f2:qaS (9973*(c+1)) (c+1)=true:=qkJ (by omega) (by omega)
 have f3:qaS (m+9973*(c+1)*(c+1)+17) 69621=true:=qkJ (by decide) (by decide)
 have f4:qaS 7919 (c+1)=true:=qiX (by decide) (by decide)
 have q:=Int.emod_lt_of_pos ((m+9973*(c+1)*(c+1)+17)*69621) (show (0:Int)<2305843009213693921 by decide)
 have q':=Int.emod_nonneg ((m+9973*(c+1)*(c+1)+17)*69621) (show (2305843009213693921:Int)≠0 by decide)
 have f5:qaS ((m+9973*(c+1)*(c+1)+17)*69621%2305843009213693921) ((m+9973*(c+1)*(c+1)+17)*69621%2305843009213693921%999983+7919*(c+1))=true:=qiX (by omega) (by omega)
 simp [qag,fnB,qco,qcl,mSeq,mIfS,mB,m2,b2,gCmp,mV,mC,gIxY,gIxX,gIx,qaz,hnd,hg,hk,hk2,mAsg,gN,gMod,gDiv,gS,b3,qcL,qeD,qep,mRet,atI0,atI1,atI2,ixN,mNx,gAdd,gMul,f1,f2,f3,f4,f5,mix1,mix2]
noncomputable def Hnd (o:Ob)(n:Nat):Prop:=∃ g m c:Int,o=hnd g m c/\0<=c/\c<=n
theorem Hnd.und {o:Ob}{n k:Nat}(h:Hnd o n):o.und k=true:=by
 obtain ⟨g,m,c,rfl,_⟩:=h
 rfl
theorem Hnd.more {o:Ob}{n k:Nat}(h:Hnd o n)(hk:n<=k):Hnd o k:=by
 obtain ⟨g,m,c,e,h0,h1⟩:=h
 exact ⟨g,m,c,e,h0,by lia⟩
theorem qcM {o:Ob}{n:Nat}{k:Int}{T:Sto}{Q:D×Sto->Prop}(ho:Hnd o n)(hn:n<=2^50)(hk:0<k)(hk2:k<1073741824)
  (h:∀ (d:Nat) o',Hnd o' (n+1)->(d:Int)<k->Q (.int d,o'::T)):W (qaj 2 qag [.ref 0,.int k] (o::T)) Q:=by
 obtain ⟨g,m,c,rfl,h0,h1⟩:=ho
 have call:∀ d o',qag [.ref 0,.int k] (hnd g m c::T)=some (d,o'::T)->qaj 2 qag [.ref 0,.int k] (hnd g m c::T)=some (d,o'::T):=fun d o e=>qjN e rfl (by simp [D.unds,D.und]) (by simp)
 by_cases hg:0<g
 ·have d0:=Int.emod_nonneg g (show k≠0 by lia)
  obtain ⟨d,e⟩:=Int.eq_ofNat_of_zero_le d0
  refine ⟨_,call _ _ (qnR hg hk hk2),?_⟩
  rw [e]
  exact h d _ ⟨_,_,_,rfl,h0,by lia⟩ (by rw [<- e];exact Int.emod_lt_of_pos _ hk)
 ·have d0:=Int.emod_nonneg (mix2 m (c+1)/101+mix2 m (c+1)/1000003) (show k≠0 by lia)
  obtain ⟨d,e⟩:=Int.eq_ofNat_of_zero_le d0
  refine ⟨_,call _ _ (qnQ hg hk hk2 h0 (by lia)),?_⟩
  rw [e]
  exact h d _ ⟨_,_,_,rfl,by lia,by push_cast;lia⟩ (by rw [<- e];exact Int.emod_lt_of_pos _ hk)
theorem qne (ns:List Int)(k:Int)(h0:0<=k)(hk:k<63):∃ o,qaj 2 qa8 [.rol (ns.map D.int),.int k] []=some (.ref 0,[o])/\Hnd o 0:=by
 have key:∃ g m,qa8 [.rol (ns.map D.int),.int k] []=some (.ref 0,[hnd g m 0]):=by
  have f0:qaS (10^60) (10^30)=true:=by decide+kernel
  have f1:qaS 7919 k=true:=qiX (by decide) (by decide)
  have f00:qaS 0 0=true:=qiX (by decide) (by decide)
  have fI:∀ (x:Int) (b:Prop) [Decidable b],qaS x (if b then 1 else 0)=true:=fun x b _=>by
   split
   ·exact qkJ (by decide) (by decide)
   ·exact qkJ (by decide) (by decide)
  have lt:gLt (.int k) (.int ns.length) []=some (.bl (decide (k<ns.length)),[]):=by rfl
  by_cases hl:k<ns.length
  ·have hat:atI (ns.map D.int) k=some (.int (ns[k.toNat]'(by lia))):=by
    unfold atI ixN
    rw [if_pos h0,if_pos (by simpa using hl)]
    simp [show k.toNat<ns.length by lia]
   generalize hx:ns[k.toNat]'(by lia)=x at hat
   simp [qa8,fnB,qco,qcm,mSeq,mIfS,mB,m2,b2,b1,mN,qaa,mNil,gCmp,mV,mC,gIxY,gIxX,gIx,gLen,qaz,mAsg,gN,gMod,gMul,gAdd,gPow,gInt,mRet,mLst,lt,hl,hat,f1,fI,sizeLine,hnd,mNx]
   simp [show qaS 1000000000000000000000000000000000000000000000000000000000000 1000000000000000000000000000000=true from f0,f00,f1,fI]
  ·simp [qa8,fnB,qco,qcm,mSeq,mIfS,mB,m2,b2,b1,mN,qaa,mNil,gCmp,mV,mC,gIxY,gIxX,gIx,gLen,qaz,mAsg,gN,gMod,gMul,gAdd,gPow,gInt,mRet,mLst,lt,hl,f1,fI,sizeLine,hnd,mNx]
   simp [show qaS 1000000000000000000000000000000000000000000000000000000000000 1000000000000000000000000000000=true from f0,f00,f1,fI]
 obtain ⟨g,m,e⟩:=key
 refine ⟨hnd g m 0,?_,_,_,_,rfl,Int.le_refl _,Int.le_refl _⟩
 rw [qhM (n:=2) e rfl (by rw [D.unds,D.und,qd6];rfl) (by simp [D.und])]
 simp [D.sh,Ob.sh,D.shs,hnd]
noncomputable abbrev Rw1:=List (List Nat)
structure WN (t m:Nat)(T:Sto)(E:Rw1)(U:Sto):Prop where
 tl:T.length=t
 low:U.take t=T
 el:E.length=m
 row:∀ (i:Nat) (row:List Nat),E[i]? = some row->U[t+i]? = some (.lst (nmD row))
 ends:U[t+m]? = some (.lst (refs (t+1) m))
 cl:∀ o∈U,o.und (U.length+1)=true
theorem qoN {n:Nat}{xs:List Nat}:(Ob.lst (nmD xs)).und n=true:=qdc (qaW xs)
theorem WN.app {t m:Nat}{T:Sto}{E:Rw1}{U G:Sto}(w:WN t m T E U)(hG:∀ o∈G,o.und 0=true):WN t m T E (U++G):=by
 have hl:t+m<U.length:=(gE1.mp w.ends).1
 refine ⟨w.tl,?_,w.el,fun i row h=>?_,?_,fun o ho=>?_⟩
 ·rw [List.take_append_of_le_length (by lia)];exact w.low
 ·have:=w.row i row h
  rw [gL1 (gE1.mp this).1];exact this
 ·rw [gL1 hl];exact w.ends
 ·rcases List.mem_append.mp ho with ho | ho
  ·exact qcJ (by rw [lA1];lia) (w.cl o ho)
  ·exact qcJ (Nat.zero_le _) (hG o ho)
theorem WN.setRow {t m i:Nat}{T:Sto}{E:Rw1}{U:Sto}{row:List Nat}(w:WN t m T E U)(hi:i<m):WN t m T (E.set i row) (U.set (t+i) (.lst (nmD row))):=by
 have hl:t+m<U.length:=(gE1.mp w.ends).1
 refine ⟨w.tl,?_,by rw [List.length_set];exact w.el,fun j r h=>?_,?_,fun o ho=>?_⟩
 ·rw [List.take_set_of_le (by lia)];exact w.low
 ·by_cases e:i=j
  ·subst e
   rw [List.getElem?_set_self (by rw [w.el];exact hi)] at h
   cases h
   rw [List.getElem?_set_self (by lia)]
  ·rw [gS1 e] at h
   rw [gS1 (by lia)];exact w.row j r h
 ·rw [gS1 (by lia)];exact w.ends
 ·rw [List.length_set]
  rcases List.mem_or_eq_of_mem_set ho with ho | rfl
  ·exact w.cl o ho
  ·exact qoN
theorem WN.split {t m:Nat}{T:Sto}{E:Rw1}{U:Sto}(w:WN t m T E U):U=T++U.drop t:=by
 conv=>lhs;rw [<- List.take_append_drop t U,w.low]
theorem qfJ:∀ (k n:Nat),refs n (k+1)=refs n k++[.ref (n+k)]
 | 0,n=>rfl
 | k+1,n=>by
  rw [refs,qfJ k (n+1),refs,List.cons_append,show n+1+k=n+(k+1) by lia]
theorem qhg:∀ (k n N:Nat),n+k<=N->D.unds N (refs n k)=true
 | 0,_,_,_=>rfl
 | k+1,n,N,h=>by
  rw [refs,D.unds,qhg k (n+1) N (by lia),D.und,Bool.and_true,decide_eq_true_eq];lia
theorem qj4 {t m:Nat}{T:Sto}(tl:T.length=t)(hT:T.all (Ob.und (T.length+1))=true):WN t m T (List.replicate m []) (T++(List.replicate m (.lst [])++[.lst (refs (t+1) m)])):=by
 refine ⟨tl,by rw [<- tl,List.take_left],by simp,fun i row h=>?_,?_,fun o ho=>?_⟩
 ·have hi:i<m:=by have:=(gE1.mp h).1;simpa using this
  rw [List.getElem?_replicate,if_pos hi] at h
  cases h
  rw [<- tl,qaU,gL1 (by simpa using hi),List.getElem?_replicate,if_pos hi]
  rfl
 ·rw [<- tl,qaU,gR1 (by simp)]
  simp
 ·rw [List.mem_append,List.mem_append,List.mem_replicate,List.mem_singleton] at ho
  rcases ho with ho | ⟨_,rfl⟩ | rfl
  ·exact qcJ (by rw [lA1];lia) (List.all_eq_true.mp hT o ho)
  ·rfl
  ·rw [Ob.und]
   exact qhg _ _ _ (by simp;lia)
theorem qfB {t m i:Nat}{T:Sto}{E:Rw1}{U:Sto}{o:Ob}{Q:D×Sto->Prop}(w:WN t m T E U)(hi:i<m)(q:Q (.ref (t+i+1),o::U)):W (gIxY (.ref (t+m+1)) (.int i) (o::U)) Q:=
 qex (xs:=refs (t+1) m) (x:=.ref (t+i+1)) (by rw [gC1];exact w.ends) (by rw [qgu hi];congr 2;lia) q
theorem qfq {v k:Nat}:∀ {E:Rw1} {i:Nat} {row:List Nat},E[i]? = some row->(E.set i (row++[k])).flatten.count v=E.flatten.count v+if k=v then 1 else 0
 | [],i,row,h=>by simp at h
 | r::E,0,row,h=>by
  rw [List.getElem?_cons_zero] at h;cases h
  simp only [List.set_cons_zero,List.flatten_cons,List.count_append,List.count_cons,List.count_nil,beq_iff_eq]
  lia
 | r::E,i+1,row,h=>by
  rw [gC1] at h
  simp only [List.set_cons_succ,List.flatten_cons,List.count_append,qfq h]
  lia
theorem qfp {k:Nat}:∀ {E:Rw1} {i:Nat} {row:List Nat},E[i]? = some row->(E.set i (row++[k])).flatten.length=E.flatten.length+1
 | [],i,row,h=>by simp at h
 | r::E,0,row,h=>by
  rw [List.getElem?_cons_zero] at h;cases h
  simp only [List.set_cons_zero,List.flatten_cons,lA1,lC1,List.length_nil]
  lia
 | r::E,i+1,row,h=>by
  rw [gC1] at h
  simp only [List.set_cons_succ,List.flatten_cons,lA1,qfp h]
  lia
theorem qjm:∀ {E:Rw1} {k:Nat},k<=E.length->(∀ (i:Nat) (row:List Nat),i<k->E[i]? = some row->4<=row.length)->4*k<=E.flatten.length
 | E,0,_,_=>by lia
 | [],k+1,h,_=>by simp at h
 | r::E,k+1,h,a=>by
  have h1:=a 0 r (by lia) rfl
  have h2:=qjm (E:=E) (k:=k) (by simpa using h) fun i row hi hr=>a (i+1) row (by lia) hr
  rw [List.flatten_cons,lA1]
  lia
structure WE (m:Nat)(E:Rw1)(k i:Nat):Prop where
 len:E.length=m
 le:∀ (i:Nat) (row:List Nat),E[i]? = some row->row.length<=4
 fl:E.flatten.length=2*k
 ct:∀ v,E.flatten.count v=if v<k then 2 else 0
 jn:∀ j,1<=j->j<=i -> ∃ a ra rb v,a<j/\E[a]? = some ra/\E[j]? = some rb/\v∈ra/\v∈rb
theorem qj6 (m:Nat):WE m (List.replicate m []) 0 0:=by
 have e:(List.replicate m ([]:List Nat)).flatten=[]:=by
  rw [List.flatten_eq_nil_iff]
  intro l hl
  exact (List.mem_replicate.mp hl).2
 refine ⟨by simp,fun i row h=>?_,by rw [e];rfl,fun v=>by rw [e,if_neg (by lia)];rfl,fun j h1 h2=>by lia⟩
 rw [List.getElem?_replicate] at h
 split at h
 ·cases h;simp
 ·cases h
theorem qeb {E:Rw1}{i k:Nat}{row:List Nat}(h:E[i]? = some row){j:Nat}{r:List Nat}(hj:E[j]? = some r):∃ r',(E.set i (row++[k]))[j]? = some r' /\ ∀ x∈r,x∈r':=by
 by_cases z:i=j
 ·subst z
  rw [h] at hj;cases hj
  exact ⟨_,List.getElem?_set_self (gE1.mp h).1,fun x hx=>List.mem_append_left _ hx⟩
 ·exact ⟨r,by rw [gS1 z];exact hj,fun x hx=>hx⟩
theorem WE.tie {m a b k i i':Nat}{E:Rw1}{ra rb:List Nat}(w:WE m E k i)(ha:E[a]? = some ra)(la:ra.length<4)(hb:(E.set a (ra++[k]))[b]? = some rb)(lb:rb.length<4)(hi:i'<=i\/(i'=i+1/\b<a/\a=i')):
  WE m ((E.set a (ra++[k])).set b (rb++[k])) (k+1) i':=by
 have a1:(E.set a (ra++[k]))[a]? = some (ra++[k]):=List.getElem?_set_self (gE1.mp ha).1
 refine ⟨by rw [List.length_set,List.length_set];exact w.len,fun j row hj=>?_,?_,fun v=>?_,fun j h1 h2=>?_⟩
 ·by_cases z:b=j
  ·subst z
   rw [List.getElem?_set_self (gE1.mp hb).1] at hj
   cases hj
   rw [lA1,List.length_singleton];lia
  ·rw [gS1 z] at hj
   by_cases z2:a=j
   ·subst z2
    rw [a1] at hj;cases hj
    rw [lA1,List.length_singleton];lia
   ·rw [gS1 z2] at hj
    exact w.le j row hj
 ·rw [qfp hb,qfp ha,w.fl];lia
 ·rw [qfq hb,qfq ha,w.ct v]
  split<;>split<;>split<;>lia
 ·rcases (show j<=i\/(j=a/\b<a) by lia) with hji | ⟨rfl,hba⟩
  ·obtain ⟨c,ra',rb',v,h3,h4,h5,h6,h7⟩:=w.jn j h1 hji
   obtain ⟨r1,e1,u1⟩:=qeb (k:=k) ha h4
   obtain ⟨r1',e1',u1'⟩:=qeb (k:=k) hb e1
   obtain ⟨r2,e2,u2⟩:=qeb (k:=k) ha h5
   obtain ⟨r2',e2',u2'⟩:=qeb (k:=k) hb e2
   exact ⟨c,r1',r2',v,h3,e1',e2',u1' _ (u1 _ h6),u2' _ (u2 _ h7)⟩
  ·obtain ⟨r2,e2,u2⟩:=qeb (k:=k) hb a1
   exact ⟨b,rb++[k],r2,k,hba,List.getElem?_set_self (gE1.mp hb).1,e2,by simp,u2 _ (by simp)⟩
theorem qnP {t m a b k:Nat}{T:Sto}{E:Rw1}{U:Sto}{o:Ob}{ra:List Nat}{r:Ev}{f g:FE}{Q:Fl×Ev×Sto->Prop}(w:WN t m T E U)(ha:a<m)(hb:b<m)(hra:E[a]? = some ra)(la:ra.length<100)(lb:∀ rb,E[b]? = some rb->rb.length<100)
  (hf:∀ S,f r S=some (.int a,S)) (hg:∀ S,g r S=some (.int b,S)) (h4:mV 4 r=fun S=>some (.ref (t+m+1),S)) (h3:mV 3 r=fun S=>some (.int k,S))
  (h:∀ rb U',(E.set a (ra++[k]))[b]? = some rb->WN t m T ((E.set a (ra++[k])).set b (rb++[k])) U'->Q (.nx,r.set 3 (some (.int ((k+1:Nat):Int))),o::U')):
  W (mSeq (qbQ (mMt (b2 gApp) (m2 (b2 gIxY) (mV 4) f) (qaa (mV 3) mNil))) (mSeq (qbQ (mMt (b2 gApp) (m2 (b2 gIxY) (mV 4) g) (qaa (mV 3) mNil))) (mAsg (m2 (b2 gAdd) (mV 3) (mC (D.int (1)))) (gN 3))) r (o::U)) Q:=by
 have ap:∀ (xs:List Nat),nmD xs++[D.int (k:Int)]=nmD (xs++[k]):=fun xs=>by simp [nmD]
 have nml:∀ {x:Nat} {rx:List Nat} {E:Rw1} {U:Sto} {e:FE} {P:Fl×Ev×Sto->Prop} (w:WN t m T E U),x<m->E[x]? = some rx->rx.length<200->(∀ S,e r S=some (.int x,S))->P (.nx,r,o::U.set (t+x) (.lst (nmD (rx++[k])))) ->
   W (qbQ (mMt (b2 gApp) (m2 (b2 gIxY) (mV 4) e) (qaa (mV 3) mNil)) r (o::U)) P:=by
  intro x rx E U e P w hx hrx hl he q
  have g1:(o::U)[t+x+1]? = some (.lst (nmD rx)):=by rw [gC1];exact w.row x rx hrx
  unfold qbQ
  rw [qae]
  refine qds ?_
  unfold m2
  rw [h4]
  simp only [oS1,he,b2]
  refine qfB w hx ?_
  refine ⟨t+x+1,nmD rx,rfl,g1,?_⟩
  unfold qaa mNil
  rw [h3]
  simp only [oS1,oP1]
  rw [qan]
  refine (qeF g1).mpr ⟨qah (by rw [qbw];lia),?_⟩
  rw [ap,List.set_cons_succ]
  exact qan.mpr q
 have w1:=w.setRow (row:=ra++[k]) ha
 obtain ⟨rb,hrb⟩:∃ rb,(E.set a (ra++[k]))[b]? = some rb:=⟨_,gG1 (by rw [w1.el];exact hb)⟩
 have lb':rb.length<200:=by
  by_cases e:a=b
  ·subst e
   rw [List.getElem?_set_self (by rw [w.el];exact ha)] at hrb
   cases hrb
   rw [lA1,List.length_singleton];lia
  ·rw [gS1 e] at hrb
   have:=lb rb hrb
   lia
 refine seqW (fun r' S=>r'=r/\S=o::U.set (t+a) (.lst (nmD (ra++[k])))) (nml w ha hra (by lia) hf ⟨rfl,rfl,rfl⟩) ?_
 rintro r' S ⟨rfl,rfl⟩
 refine seqW (fun r'' S=>r''=r'/\S=o::(U.set (t+a) (.lst (nmD (ra++[k])))).set (t+b) (.lst (nmD (rb++[k])))) (nml w1 hb hrb lb' hg ⟨rfl,rfl,rfl⟩) ?_
 rintro r'' S ⟨rfl,rfl⟩
 unfold mAsg m2 mC gN
 rw [h3]
 simp only [oS1,b2]
 rw [qae,qlX]
 exact qan.mpr (h rb _ hrb (w1.setRow hb))
theorem qnN {t m i n:Nat}{T U:Sto}{E:Rw1}{o:Ob}{x1 x6 x7 x8 x9:Option D}{Q:Fl×Ev×Sto->Prop}(w:WN t m T E U)(v:WE m E i i)(ho:Hnd o n)(hn:n<=2^44)(hi:i+1<m)(hm:m<=8)
  (he:∀ j row,i+1<=j->E[j]? = some row->row=[])
  (h:∀ E' o' U' x6' x7',WN t m T E' U'->WE m E' (i+1) (i+1)->Hnd o' (n+1)->(∀ j row,i+2<=j->E'[j]? = some row->row=[]) ->
   Q (.nx,[some (.ref 0),x1,some (.int m),some (.int ((i+1:Nat):Int)),some (.ref (t+m+1)),some (.int ((i+1:Nat):Int)),x6',x7',x8,x9],o'::U')):
  W (qbo [some (.ref 0),x1,some (.int m),some (.int (i:Nat)),some (.ref (t+m+1)),some (.int ((i+1:Nat):Int)),x6,x7,x8,x9] (o::U)) Q:=by
 have rowAt:∀ j,j<m -> ∃ row,E[j]? = some row:=fun j hj=>⟨_,gG1 (by rw [v.len];exact hj)⟩
 let k:Nat->Bool:=fun j=>decide ((E.getD j []).length<4)
 unfold qbo
 have hne:(List.range (i+1)).filter k≠[]:=by
  intro z
  have all4:∀ j row,j<i+1->E[j]? = some row->4<=row.length:=fun j row hj hr=>by
   have:=List.filter_eq_nil_iff.mp z j (List.mem_range.mpr hj)
   simp only [k,List.getD_eq_getElem?_getD,hr,Option.getD_some,decide_eq_true_eq] at this
   lia
  have:=qjm (E:=E) (k:=i+1) (by rw [v.len];lia) all4
  have:=v.fl
  lia
 generalize hL:(List.range (i+1)).filter k=L at hne
 have hLm:∀ j∈L,j<i+1/\k j=true:=fun j hj=>by
  rw [<- hL,List.mem_filter] at hj
  exact ⟨List.mem_range.mp hj.1,hj.2⟩
 have hLl:L.length<=8:=by
  rw [<- hL]
  have:=List.length_filter_le k (List.range (i+1))
  simp at this
  lia
 refine seqW (fun r S=>r=[some (.ref 0),x1,some (.int m),some (.int (i:Nat)),some (.ref (t+m+1)),some (.int ((i+1:Nat):Int)),some (.ref (U.length+1)),x7,x8,x9]/\S=o::(U++[.lst (nmD L)])) ?_ ?_
 ·walk_at "own wq"
  rw [qdl,Int.toNat_natCast]
  refine ⟨qba (by lia),?_⟩
  refine qdL k (fun j:Nat=>.int j) (fun r=>∃ x,r=[x,some (.ref (t+m+1))]) rfl (List.range (i+1)) _ ⟨_,rfl⟩ ?_ ?_
  ·rintro j hj r ⟨x,rfl⟩
   have hj':j<m:=by have:=List.mem_range.mp hj;lia
   obtain ⟨row,hrow⟩:=rowAt j hj'
   walk_at "own wq"
   refine qfB w hj' ?_
   walk_at "own wq"
   refine qaE (xs:=nmD row) (by rw [gC1];exact w.row j row hrow) ?_
   walk_at "own wq"
   refine ⟨?_,⟨_,rfl⟩,fun _=>trivial⟩
   simp only [k,List.getD_eq_getElem?_getD,hrow,Option.getD_some,qbw]
   rw [Bool.eq_iff_iff,decide_eq_true_eq,decide_eq_true_eq]
   lia
  ·rintro r' _
   walk_at "own wq"
   rw [hL]
   exact ⟨qah (by rw [lM1];lia),rfl⟩
 rintro r S ⟨rfl,rfl⟩
 have hL0:0<L.length:=List.length_pos_iff.mpr hne
 have gL:∀ o:Ob,(o::(U++[Ob.lst (nmD L)]))[U.length+1]? = some (.lst (nmD L)):=fun o=>by rw [gC1,qai];rfl
 refine seqW (fun r S=>∃ j o1,j<i+1/\k j=true/\Hnd o1 (n+1)/\r=[some (.ref 0),x1,some (.int m),some (.int (i:Nat)),some (.ref (t+m+1)),some (.int ((i+1:Nat):Int)),some (.ref (U.length+1)),some (.int (j:Nat)),x8,x9]/\S=o1::(U++[.lst (nmD L)])) ?_ ?_
 ·walk_at "own wq"
  refine qaE (gL _) ?_
  walk_at "own wq"
  rw [qbw]
  refine qcM ho (by lia) (by lia) (by lia) fun d o1 ho1 hd=>?_
  have hd':d<L.length:=by lia
  refine qex (i:=d) (xs:=nmD L) (x:=.int (L[d]:Nat)) (gL _) (by rw [nmD,gP1,gG1 hd'];rfl) ?_
  obtain ⟨hj1,hj2⟩:=hLm L[d] (List.getElem_mem hd')
  exact ⟨L[d],o1,hj1,hj2,ho1,rfl,rfl⟩
 rintro r S ⟨j,o1,hj1,hj2,ho1,rfl,rfl⟩
 obtain ⟨row,hrow⟩:=rowAt j (by lia)
 have hrl:row.length<4:=by
  simp only [k,List.getD_eq_getElem?_getD,hrow,Option.getD_some,decide_eq_true_eq] at hj2
  exact hj2
 obtain ⟨rb,hrb⟩:=rowAt (i+1) hi
 have hrb0:=he (i+1) rb (nR1 _) hrb
 subst hrb0
 have w':=w.app (G:=[Ob.lst (nmD L)]) fun o ho=>by rw [List.mem_singleton] at ho;subst ho;exact qoN
 refine qnP (a:=i+1) (b:=j) (ra:=[]) w' hi (by lia) hrb (by simp) (fun rb hb=>by rw [hrow] at hb;cases hb;lia) (fun _=>rfl) (fun _=>rfl) rfl rfl fun rb U2 hrb2 w2=>?_
 have hne2:i+1≠j:=by lia
 have hrb3:rb=row:=by
  rw [gS1 hne2,hrow] at hrb2
  cases hrb2;rfl
 subst hrb3
 refine h _ o1 U2 _ _ w2 (v.tie hrb (by simp) hrb2 hrl (.inr ⟨rfl,by lia,rfl⟩)) ho1 fun j' row' hj' hr'=>?_
 rw [gS1 (by lia),gS1 (by lia)] at hr'
 exact he j' row' (by lia) hr'
theorem qoY {t m n k i:Nat}{T U:Sto}{E:Rw1}{o:Ob}{x1 x5 x6 x7 x8 x9:Option D}{Q:Fl×Ev×Sto->Prop}(w:WN t m T E U)(v:WE m E k i)(ho:Hnd o n)(hn:n<=2^44)(hm0:0<m)(hm:m<=8)
  (h:∀ E' k' o' U' x7' x9',WN t m T E' U'->WE m E' k' i->Hnd o' (n+2) ->
   Q (.nx,[some (.ref 0),x1,some (.int m),some (.int (k':Nat)),some (.ref (t+m+1)),x5,x6,x7',x8,x9'],o'::U')):
  W (qbn [some (.ref 0),x1,some (.int m),some (.int (k:Nat)),some (.ref (t+m+1)),x5,x6,x7,x8,x9] (o::U)) Q:=by
 have rowAt:∀ j,j<m -> ∃ row,E[j]? = some row:=fun j hj=>⟨_,gG1 (by rw [v.len];exact hj)⟩
 unfold qbn
 refine seqW (fun r S=>∃ a b o2,a<m/\b<m/\Hnd o2 (n+2)/\r=[some (.ref 0),x1,some (.int m),some (.int (k:Nat)),some (.ref (t+m+1)),x5,x6,some (.int (b:Nat)),x8,some (.int (a:Nat))]/\S=o2::U) ?_ ?_
 ·walk_at "own wq"
  refine qcM ho (by lia) (by lia) (by lia) fun a o1 ho1 ha=>?_
  walk_at "own wq"
  refine qcM ho1 (by lia) (by lia) (by lia) fun b o2 ho2 hb=>?_
  walk_at "own wq"
  exact ⟨a,b,o2,by lia,by lia,ho2,rfl,rfl⟩
 rintro r S ⟨a,b,o2,ha,hb,ho2,rfl,rfl⟩
 obtain ⟨ra,hra⟩:=rowAt a ha
 obtain ⟨rb,hrb⟩:=rowAt b hb
 have skip:Q (.nx,[some (.ref 0),x1,some (.int m),some (.int (k:Nat)),some (.ref (t+m+1)),x5,x6,some (.int (b:Nat)),x8,some (.int (a:Nat))],o2::U):=
  h E k o2 U _ _ w v ho2
 unfold mIfS
 rw [qae]
 have cond:W (mAnd (mB (m2 (b2 gLt) (m2 (b2 gAdd) (mN (b1 gLen) (qaa (m2 (b2 gIxY) (mV 4) (mV 9)) mNil)) (mN (b1 gInt) (qaa (m2 (b2 gEq) (mV 9) (mV 7)) mNil))) (mC (D.int (4))))) (mB (m2 (b2 gLt) (mN (b1 gLen) (qaa (m2 (b2 gIxY) (mV 4) (mV 7)) mNil)) (mC (D.int (4))))) [some (.ref 0),x1,some (.int m),some (.int (k:Nat)),some (.ref (t+m+1)),x5,x6,some (.int (b:Nat)),x8,some (.int (a:Nat))] (o2::U)) fun p=>p.2=o2::U/\(p.1=true->ra.length+(if a=b then 1 else 0)<4/\rb.length<4):=by
  walk_at "own wq"
  refine qfB w ha ?_
  walk_at "own wq"
  refine qaE (xs:=nmD ra) (by rw [gC1];exact w.row a ra hra) ?_
  walk_at "own wq"
  rw [qbw]
  have e1:((a:Int) == (b:Int))=decide (a=b):=by
   rw [Bool.eq_iff_iff,beq_iff_eq,decide_eq_true_eq];lia
  rw [e1]
  have rest:W (gIxY (D.ref (t+m+1)) (D.int (b:Int)) (o2::U)) fun x=>W (gLen x.fst x.snd) fun x=>W (gLt x.fst (D.int 4) x.snd) fun x=>W (match x.fst with | D.bl b=>some (b,x.snd) | x=>none) fun p=>p.snd=o2::U/\(p.fst=true->rb.length<4):=by
   refine qfB w hb ?_
   walk_at "own wq"
   refine qaE (xs:=nmD rb) (by rw [gC1];exact w.row b rb hrb) ?_
   walk_at "own wq"
   rw [qbw]
   intro hlb
   rw [decide_eq_true_eq] at hlb
   lia
  by_cases hab:a=b
  ·rw [decide_eq_true hab]
   walk_at "own wq"
   split
   ·rename_i hla
    rw [decide_eq_true_eq] at hla
    refine rest.mono fun x hx=>hx.mono fun y hy=>hy.mono fun z hz=>hz.mono fun p hp=>⟨hp.1,fun e=>⟨by first | lia | (rw [if_pos hab];lia),hp.2 e⟩⟩
   ·first | (intro z;cases z;done) | (refine ⟨_,rfl,?_,fun z=>?_⟩<;>first | rfl | cases z) | walk_at "own wq"
  ·rw [decide_eq_false hab]
   walk_at "own wq"
   split
   ·rename_i hla
    rw [decide_eq_true_eq] at hla
    refine rest.mono fun x hx=>hx.mono fun y hy=>hy.mono fun z hz=>hz.mono fun p hp=>⟨hp.1,fun e=>⟨by first | lia | (rw [if_neg hab];lia),hp.2 e⟩⟩
   ·first | (intro z;cases z;done) | (refine ⟨_,rfl,?_,fun z=>?_⟩<;>first | rfl | cases z) | walk_at "own wq"
 obtain ⟨⟨c,S1⟩,ec,hS,hc⟩:=cond
 dsimp only at hS hc
 subst hS
 refine ⟨_,ec,?_⟩
 dsimp only
 cases c with
 | false=>rw [if_neg (by decide)];exact qan.mpr skip
 | true=>
  rw [if_pos rfl]
  obtain ⟨h1,h2⟩:=hc rfl
  refine qnP (a:=a) (b:=b) w ha hb hra (by lia) (fun rb' hb'=>by rw [hrb] at hb';cases hb';lia) (fun _=>rfl) (fun _=>rfl) rfl rfl fun rb' U2 hrb2 w2=>?_
  have hl:rb'.length<4:=by
   by_cases hab:a=b
   ·subst hab
    rw [List.getElem?_set_self (by rw [v.len];exact ha)] at hrb2
    cases hrb2
    rw [if_pos rfl] at h1
    rw [lA1,List.length_singleton];lia
   ·rw [gS1 hab,hrb] at hrb2
    cases hrb2
    exact h2
  exact h _ (k+1) o2 U2 _ _ w2 (v.tie hra (by lia) hrb2 hl (.inl (nR1 _))) ho2
noncomputable abbrev Pl:=List ((Nat×Nat)×Nat)
noncomputable def qc2 (i:Nat)(row:List Nat):Pl:=row.zipIdx.map fun p=>((i,p.2),p.1)
noncomputable def qbv:Nat->Rw1->Pl
 | _,[]=>[]
 | i,row::R=>qc2 i row++qbv (i+1) R
noncomputable def ps (A:Pl)(v:Nat):List (Nat×Nat):=(A.filter fun x=>x.2 == v).map (·.1)
theorem qkm {i j v:Nat}{row:List Nat}(h:row[j]? = some v):qc2 i (row.take (j+1))=qc2 i (row.take j)++[((i,j),v)]:=by
 have hj:=(gE1.mp h).1
 unfold qc2
 rw [List.take_succ,h,Option.toList_some,List.zipIdx_append,List.map_append]
 simp;lia
theorem qeq:∀ {R:Rw1} {i k:Nat} {row:List Nat},R[i]? = some row->qbv k (R.take (i+1))=qbv k (R.take i)++qc2 (k+i) row
 | [],i,k,row,h=>by simp at h
 | r::R,0,k,row,h=>by
  rw [List.getElem?_cons_zero] at h;cases h
  simp [qbv]
 | r::R,i+1,k,row,h=>by
  rw [gC1] at h
  rw [List.take_succ_cons,List.take_succ_cons,qbv,qbv,qeq h,List.append_assoc,show k+1+i=k+(i+1) by lia]
theorem qi0 {i:Nat}{row:List Nat}{x:(Nat×Nat)×Nat}:x∈qc2 i row↔x.1.1=i/\row[x.1.2]? = some x.2:=by
 obtain ⟨⟨a,b⟩,c⟩:=x
 unfold qc2
 rw [List.mem_map]
 constructor
 ·rintro ⟨⟨v,j⟩,h,e⟩
  cases e
  exact ⟨rfl,List.mem_zipIdx_iff_getElem?.mp h⟩
 ·rintro ⟨rfl,h⟩
  exact ⟨(c,b),List.mem_zipIdx_iff_getElem?.mpr h,rfl⟩
theorem qfi:∀ {R:Rw1} {k:Nat} {x:(Nat×Nat)×Nat},x∈qbv k R ↔ ∃ i row,x.1.1=k+i/\R[i]? = some row/\row[x.1.2]? = some x.2
 | [],k,x=>by simp [qbv]
 | r::R,k,x=>by
  rw [qbv,List.mem_append,qi0,qfi (R:=R)]
  constructor
  ·rintro (⟨h1,h2⟩ | ⟨i,row,h1,h2,h3⟩)
   ·exact ⟨0,r,by lia,rfl,h2⟩
   ·exact ⟨i+1,row,by lia,h2,h3⟩
  ·rintro ⟨i,row,h1,h2,h3⟩
   cases i with
   | zero=>cases h2;exact .inl ⟨by lia,h3⟩
   | succ i=>exact .inr ⟨i,row,by lia,h2,h3⟩
theorem qmt {i:Nat}{row:List Nat}:(qc2 i row).map (·.2)=row:=by
 unfold qc2
 rw [List.map_map]
 exact List.zipIdx_map_fst 0 row
theorem qhx:∀ {R:Rw1} {k:Nat},(qbv k R).map (·.2)=R.flatten
 | [],_=>rfl
 | r::R,k=>by rw [qbv,List.map_append,qmt,qhx (R:=R),List.flatten_cons]
theorem qoo {i:Nat}{row:List Nat}:((qc2 i row).map (·.1)).Nodup:=by
 unfold qc2
 rw [List.map_map]
 have e:(row.zipIdx.map ((fun x:(Nat×Nat)×Nat=>x.1)∘fun p=>((i,p.2),p.1)))=(row.zipIdx.map (·.2)).map fun j=>(i,j):=by rw [List.map_map];rfl
 rw [e,List.zipIdx_map_snd,<- List.range_eq_range']
 exact List.pairwise_map.mpr (List.nodup_range.imp fun h z=>h (Prod.mk.inj z).2)
theorem qgX:∀ {R:Rw1} {k:Nat},((qbv k R).map (·.1)).Nodup
 | [],_=>List.nodup_nil
 | r::R,k=>by
  rw [qbv,List.map_append,List.nodup_append]
  refine ⟨qoo,qgX,fun a ha b hb e=>?_⟩
  obtain ⟨x,hx,rfl⟩:=List.mem_map.mp ha
  obtain ⟨y,hy,rfl⟩:=List.mem_map.mp hb
  have h1:=(qi0.mp hx).1
  obtain ⟨i,row,h2,_⟩:=qfi.mp hy
  rw [e] at h1
  lia
theorem qol {A:Pl}{v:Nat}:(ps A v).length=(A.map (·.2)).count v:=by
 unfold ps
 rw [lM1,List.count,List.countP_map,List.countP_eq_length_filter]
 rfl
theorem qe9 {A:Pl}{p:Nat×Nat}{v u:Nat}:ps (A++[(p,v)]) u=if v=u then ps A u++[p] else ps A u:=by
 unfold ps
 rw [List.filter_append,List.map_append]
 by_cases h:v=u
 ·simp [h]
 ·simp [h]
theorem qo2 {A:Pl}{p:Nat×Nat}{v:Nat}:p∈ps A v↔(p,v)∈A:=by
 unfold ps
 rw [List.mem_map]
 constructor
 ·rintro ⟨⟨q,u⟩,h,e⟩
  obtain ⟨h1,h2⟩:=List.mem_filter.mp h
  have h2:u=v:=by simpa using h2
  cases e;cases h2;exact h1
 ·intro h
  exact ⟨(p,v),List.mem_filter.mpr ⟨h,by simp⟩,rfl⟩
theorem qqn {A:Pl}{v:Nat}(h:(A.map (·.1)).Nodup):(ps A v).Nodup:=h.sublist (List.filter_sublist.map _)
structure PL (b:Nat)(A:Pl)(kv:List (Key×D))(H:Sto):Prop where
 no:∀ v:Nat,ps A v=[]->qak kv (Sum.inl (v:Int))=none
 yes:∀ v:Nat,ps A v≠[] -> ∃ h,qak kv (Sum.inl (v:Int))=some (.ref (b+h))/\H[h]? = some (.lst ((ps A v).map pD))
 inj:∀ v u h:Nat,qak kv (Sum.inl (v:Int))=some (.ref (b+h))->qak kv (Sum.inl (u:Int))=some (.ref (b+h))->v=u
 few:kv.length<=A.length
theorem qf8 {v u:Nat}(h:v≠u):(Sum.inl (v:Int):Key)≠Sum.inl (u:Int):=fun e=>h (by injection e with e;lia)
theorem PL.old {b v h:Nat}{A:Pl}{kv:List (Key×D)}{H:Sto}{p:Nat×Nat}(P:PL b A kv H)(hv:ps A v≠[])(e:qak kv (Sum.inl (v:Int))=some (.ref (b+h)))(eh:H[h]? = some (.lst ((ps A v).map pD))):
  PL b (A++[(p,v)]) kv ((H++[Ob.lst []]).set h (.lst ((ps A v).map pD++[pD p]))):=by
 have hl:=(gE1.mp eh).1
 refine ⟨fun u hu=>?_,fun u hu=>?_,P.inj,by rw [lA1];have:=P.few;lia⟩
 ·rw [qe9] at hu
  split at hu
  ·simp at hu
  ·exact P.no u hu
 ·rw [qe9] at hu ⊢
  by_cases hvu:v=u
  ·subst hvu
   rw [if_pos rfl,List.map_append]
   exact ⟨h,e,List.getElem?_set_self (by rw [lA1];lia)⟩
  ·rw [if_neg hvu] at hu ⊢
   obtain ⟨h',e1,e2⟩:=P.yes u hu
   refine ⟨h',e1,?_⟩
   rw [gS1 (fun z=>hvu (P.inj v u h e (by rw [z];exact e1))),gL1 (gE1.mp e2).1]
   exact e2
theorem PL.new {b v:Nat}{A:Pl}{kv:List (Key×D)}{H:Sto}{p:Nat×Nat}(P:PL b A kv H)(hv:ps A v=[]):
  PL b (A++[(p,v)]) (putD kv (Sum.inl (v:Int)) (.ref (b+H.length))) (H++[.lst [pD p]]):=by
 refine ⟨fun u hu=>?_,fun u hu=>?_,fun u u' h e1 e2=>?_,by rw [lA1,List.length_singleton];have:=P.few;have:=qgw (k:=(Sum.inl (v:Int):Key)) (v:=D.ref (b+H.length)) (a:=kv);lia⟩
 ·rw [qe9] at hu
  split at hu
  ·simp at hu
  ·rename_i hne
   rw [qa5,if_neg (qf8 (Ne.symm hne))]
   exact P.no u hu
 ·rw [qe9] at hu ⊢
  by_cases hvu:v=u
  ·subst hvu
   rw [if_pos rfl,hv,qa5,if_pos rfl]
   exact ⟨H.length,rfl,by rw [gR1 (nR1 _),Nat.sub_self];rfl⟩
  ·rw [if_neg hvu] at hu ⊢
   obtain ⟨h',e1,e2⟩:=P.yes u hu
   refine ⟨h',by rw [qa5,if_neg (qf8 (Ne.symm hvu))];exact e1,?_⟩
   rw [gL1 (gE1.mp e2).1]
   exact e2
 ·have old:∀ w:Nat,w≠v->qak kv (Sum.inl (w:Int))=some (.ref (b+h))->h<H.length:=fun w hw e=>by
   by_cases hz:ps A w=[]
   ·rw [P.no w hz] at e;cases e
   ·obtain ⟨h',e3,e4⟩:=P.yes w hz
    rw [e] at e3
    have:h=h':=by injection e3 with e3;injection e3 with e3;lia
    rw [this]
    exact (gE1.mp e4).1
  rw [qa5] at e1 e2
  by_cases h1:u=v
  ·by_cases h2:u'=v
   ·rw [h1,h2]
   ·rw [if_pos (by rw [h1])] at e1
    rw [if_neg (qf8 h2)] at e2
    have:=old u' h2 e2
    have:h=H.length:=by injection e1 with e1;injection e1 with e1;lia
    lia
  ·rw [if_neg (qf8 h1)] at e1
   by_cases h2:u'=v
   ·rw [if_pos (by rw [h2])] at e2
    have:=old u h1 e1
    have:h=H.length:=by injection e2 with e2;injection e2 with e2;lia
    lia
   ·rw [if_neg (qf8 h2)] at e2
    exact P.inj u u' h e1 e2
noncomputable def part (A:Pl)(v:Nat)(e:Nat×Nat):Nat×Nat:=let l:=ps A v;if l.getD 0 (0,0)=e then l.getD 1 (0,0) else l.getD 0 (0,0)
theorem qlm {A:Pl}{v:Nat}(h2:(ps A v).length=2):∃ p q,ps A v=[p,q]:=by
 match hp:ps A v,h2 with
 | [p,q],_=>exact ⟨p,q,rfl⟩
theorem qiN {A:Pl}{v:Nat}{e:Nat×Nat}(nd:(A.map (·.1)).Nodup)(h2:(ps A v).length=2)(he:(e,v)∈A):(part A v e,v)∈A/\part A v e≠e/\part A v (part A v e)=e /\ ∀ x,(x,v)∈A->x=e\/x=part A v e:=by
 obtain ⟨p,q,hp⟩:=qlm h2
 have hn:=qqn (v:=v) nd
 rw [hp] at hn
 have hpq:p≠q:=by simpa using hn
 have m:∀ x,(x,v)∈A↔x=p\/x=q:=fun x=>by rw [<- qo2,hp];simp
 have d:∀ x,part A v x=if p=x then q else p:=fun x=>by simp [part,hp]
 rcases (m e).mp he with rfl | rfl
 ·have d1:part A v e=q:=by rw [d,if_pos rfl]
  rw [d1]
  exact ⟨(m q).mpr (.inr rfl),Ne.symm hpq,by rw [d,if_neg hpq],fun x hx=>(m x).mp hx⟩
 ·have d1:part A v e=p:=by rw [d,if_neg hpq]
  rw [d1]
  exact ⟨(m p).mpr (.inl rfl),hpq,by rw [d,if_pos rfl],fun x hx=>((m x).mp hx).symm⟩
theorem qim {c:FT}{b:FS}{Q:Fl×Ev×Sto->Prop}(I:Nat->Ev->Sto->Prop)(N:Nat)
  (step:∀ k r S,I k r S->W (c r S) fun p=>if p.1=true then k<N/\W (b r p.2) fun q=>q.1 = .nx/\I (k+1) q.2.1 q.2.2 else Q (.nx,r,p.2)):
  ∀ (fuel k:Nat) (r:Ev) (S:Sto),N-k<fuel->I k r S->W (whl c b fuel r S) Q
 | 0,k,r,S,hf,_=>by lia
 | fuel+1,k,r,S,hf,hi=>by
  rw [whl]
  dsimp only
  rw [qae]
  obtain ⟨⟨t,S1⟩,e,h⟩:=step k r S hi
  refine ⟨_,e,?_⟩
  dsimp only at h ⊢
  cases t with
  | true=>
   rw [if_pos rfl] at h ⊢
   obtain ⟨hk,⟨f,r1,S2⟩,e2,hf2,hi2⟩:=h
   dsimp only at hf2 hi2
   subst hf2
   rw [e2,oS1]
   exact qim I N step fuel (k+1) r1 S2 (by lia) hi2
  | false=>
   rw [if_neg (by decide)] at h ⊢
   exact qan.mpr h
theorem qlk {m:FA}{r:Ev}{S:Sto}{xs:List D}{n:Nat}{Q:Itm×Sto->Prop}(hm:m r S=some ([.ref n],S))(hn:S[n]? = some (.lst xs))(q:Q (⟨enD 0 xs,[(n,xs)]⟩,S)):W (iEn m r S) Q:=by
 refine W.of (x:=(⟨enD 0 xs,[(n,xs)]⟩,S)) ?_ q
 simp only [iEn,hm,oS1,qcu hn,qg3 hn]
theorem qeQ:∀ {xs:List Nat} {i:Nat} (h:i<xs.length),(xs[i]::xs.eraseIdx i).Perm xs
 | x::xs,0,h=>.refl _
 | x::xs,i+1,h=>by
  rw [List.eraseIdx_cons_succ,List.getElem_cons_succ]
  exact (List.Perm.swap x _ _).trans ((qeQ (by simpa using h)).cons x)
theorem qhi {xs rs row:List Nat}{i:Nat}{x:Nat}(h:(rs++xs).Perm row)(hx:xs[i]? = some x):((rs++[x])++xs.eraseIdx i).Perm row:=by
 refine List.Perm.trans ?_ h
 rw [List.append_assoc]
 refine List.Perm.append_left rs ?_
 obtain ⟨hi,rfl⟩:=gE1.mp hx
 exact qeQ hi
theorem qlC {xs:List Nat}{i x:Nat}(h:xs[i]? = some x):(nmD xs)[i]? = some (.int x):=by rw [nmD,gP1,h];rfl
theorem qho {xs:List Nat}{i:Nat}:(nmD xs).eraseIdx i=nmD (xs.eraseIdx i):=by
 rw [nmD,nmD,List.eraseIdx_eq_take_drop_succ,List.eraseIdx_eq_take_drop_succ,List.map_append,List.map_take,List.map_drop]
theorem qei {xs:List Nat}{x:Nat}:nmD xs++[D.int (x:Int)]=nmD (xs++[x]):=by simp [nmD]
theorem qn2 {V:Sto}{o:Ob}{n:Nat}{row:List Nat}{x1 x2 x3 x6 x7 x8 x9:Option D}{Q:Fl×Ev×Sto->Prop}(ho:Hnd o n)(hn:n<=2^44)(hr:row.length<=4)
  (q:∀ o' rs G,Hnd o' (n+4)->rs.Perm row->Q (.nx,[some (.ref 0),x1,x2,x3,some (.ref (V.length+1)),some (.ref (V.length+2)),x6,x7,x8,x9],o'::(V ++ .lst [] :: .lst (nmD rs)::G))):
  W (whl qbZ qbY 100000 [some (.ref 0),x1,x2,x3,some (.ref (V.length+1)),some (.ref (V.length+2)),x6,x7,x8,x9] (o::(V++[.lst (nmD row),.lst []]))) Q:=by
 refine qim (fun k r S=>∃ o' ls rs G,Hnd o' (n+k)/\(rs++ls).Perm row/\rs.length=k/\S=o'::(V ++ .lst (nmD ls) :: .lst (nmD rs)::G)/\r=[some (.ref 0),x1,x2,x3,some (.ref (V.length+1)),some (.ref (V.length+2)),x6,x7,x8,x9]) 4 ?_ 100000 0 _ _ (by lia) ⟨o,row,[],[],ho,.refl _,rfl,rfl,rfl⟩
 rintro k r S ⟨o',ls,rs,G,ho',hp,hk,rfl,rfl⟩
 have hlen:=hp.length_eq
 rw [lA1] at hlen
 have gl:∀ (o:Ob) (X:Ob) (Y:Sto),(o::(V++X::Y))[V.length+1]? = some X:=fun o X Y=>by rw [gC1,qai];rfl
 have gr:∀ (o:Ob) (X Z:Ob) (Y:Sto),(o::(V++X::Z::Y))[V.length+2]? = some Z:=fun o X Z Y=>by rw [gC1,qaU];rfl
 refine W.of (x:=(!(nmD ls).isEmpty,o'::(V ++ .lst (nmD ls) :: .lst (nmD rs)::(G++[.lst []])))) ?_ ?_
 ·have e:(o'::(V++Ob.lst (nmD ls)::Ob.lst (nmD rs)::G))++[Ob.lst []]=o'::(V ++ .lst (nmD ls) :: .lst (nmD rs)::(G++[.lst []])):=by simp
  unfold qbZ mB m2 mV mLst mNil b2
  simp only [gC1,List.getElem?_cons_zero,Option.join_some,oP1,oS1]
  rw [if_pos (show ([]:List D).length<=sizeLine by decide),oS1,e,qji (xs:=nmD ls) (gl _ _ _) (by rw [<- e,qai];rfl)]
  rfl
 dsimp only
 cases ls with
 | nil=>
  rw [show (nmD ([]:List Nat)).isEmpty=true from rfl,if_neg (by decide)]
  rw [List.append_nil] at hp
  exact q o' rs _ (ho'.more (by simp at hlen;lia)) hp
 | cons l ls=>
  rw [show (!(nmD (l::ls)).isEmpty)=true from rfl,if_pos rfl]
  refine ⟨by rw [lC1] at hlen;lia,?_⟩
  unfold qbY
  walk_at "own wq"
  refine qds ?_
  walk_at "own wq"
  refine ⟨V.length+2,nmD rs,rfl,gr _ _ _ _,?_⟩
  refine qds ?_
  walk_at "own wq"
  refine ⟨V.length+1,nmD (l::ls),rfl,gl _ _ _,?_⟩
  refine qaE (gl _ _ _) ?_
  walk_at "own wq"
  rw [qbw]
  rw [lC1] at hlen
  refine qcM ho' (by lia) (by rw [lC1];lia) (by rw [lC1];lia) fun d o1 ho1 hd=>?_
  obtain ⟨x,hx⟩:∃ x,(l::ls)[d]? = some x:=⟨_,gG1 (by lia)⟩
  walk_at "own wq"
  refine qjY (gl _ _ _) (qlC hx) (by rw [lC1] at hd;lia) ?_
  have es:∀ X,(o1::(V++Ob.lst (nmD (l::ls))::Ob.lst (nmD rs)::(G++[Ob.lst []]))).set (V.length+1) X=o1::(V++X :: .lst (nmD rs)::(G++[.lst []])):=fun X=>by
   rw [List.set_cons_succ,List.set_append_right _ _ (nR1 _),Nat.sub_self];rfl
  rw [es]
  walk_at "own wq"
  refine (qeF (gr _ _ _ _)).mpr ⟨qah (by rw [qbw];lia),?_⟩
  refine ⟨o1,(l::ls).eraseIdx d,rs++[x],G++[.lst []],ho1.more (by lia),qhi hp hx,by rw [lA1,hk];rfl,?_,trivial⟩
  rw [List.set_cons_succ,List.set_append_right _ _ (by lia),show V.length+1-V.length=1 by lia,qei,qho]
  rfl
noncomputable def rk (u:Nat)(ks:List Nat):List D:=ks.map fun k=>D.ref (u+2+k)
structure RS (R:Rw1)(ks:List Nat)(G:Sto):Prop where
 len:ks.length=R.length
 row:∀ (j k:Nat) (row:List Nat),ks[j]? = some k->R[j]? = some row->G[k]? = some (.lst (nmD row))
theorem RS.app {R:Rw1}{ks:List Nat}{G H:Sto}(r:RS R ks G):RS R ks (G++H):=
 ⟨r.len,fun j k row h1 h2=>by have:=r.row j k row h1 h2;rw [gL1 (gE1.mp this).1];exact this⟩
theorem RS.snoc {R:Rw1}{ks:List Nat}{G:Sto}{k:Nat}{row:List Nat}(r:RS R ks G)(h:G[k]? = some (.lst (nmD row))):RS (R++[row]) (ks++[k]) G:=by
 refine ⟨by rw [lA1,lA1,r.len];rfl,fun j k' row' h1 h2=>?_⟩
 by_cases hj:j<ks.length
 ·rw [gL1 hj] at h1
  rw [gL1 (by rw [<- r.len];exact hj)] at h2
  exact r.row j k' row' h1 h2
 ·have:=(gE1.mp h1).1
  rw [lA1,List.length_singleton] at this
  have e:j=ks.length:=by lia
  subst e
  rw [List.getElem?_concat_length] at h1
  rw [r.len,List.getElem?_concat_length] at h2
  cases h1;cases h2;exact h
theorem qnI {U G:Sto}{ks:List Nat}{o:Ob}{n e i:Nat}{row:List Nat}{x4 x5 x6 x7 x8 x9:Option D}{Q:Fl×Ev×Sto->Prop}(hi:U[i]? = some (.lst (nmD row)))(ho:Hnd o n)(hn:n<=2^44)(hr:row.length<=4)(hk:ks.length<=100)
  (q:∀ o' rs G' k x4' x5',Hnd o' (n+4)->rs.Perm row->(G++G')[k]? = some (.lst (nmD rs))->Q (.nx,[some (.ref 0),some (.ref e),some (.ref (U.length+1)),some (.ref (i+1)),x4',x5',x6,x7,x8,x9],o'::(U ++ .lst (rk U.length (ks++[k]))::(G++G')))):
  W (qbX [some (.ref 0),some (.ref e),some (.ref (U.length+1)),some (.ref (i+1)),x4,x5,x6,x7,x8,x9] (o::(U ++ .lst (rk U.length ks)::G))) Q:=by
 generalize hV:U ++ .lst (rk U.length ks)::G=V
 have hVl:V.length=U.length+1+G.length:=by rw [<- hV];simp;lia
 have hVi:V[i]? = some (.lst (nmD row)):=by rw [<- hV,gL1 (gE1.mp hi).1];exact hi
 have hVu:V[U.length]? = some (.lst (rk U.length ks)):=by rw [<- hV,qai];rfl
 unfold qbX
 refine seqW (fun r S=>S=o::(V++[.lst (nmD row),.lst []])/\r=[some (.ref 0),some (.ref e),some (.ref (U.length+1)),some (.ref (i+1)),some (.ref (V.length+1)),some (.ref (V.length+2)),x6,x7,x8,x9]) ?_ ?_
 ·have e1:∀ S:Sto,S[i+1]? = some (.lst (nmD row))->gLst (.ref (i+1)) S=some (.ref S.length,S++[.lst (nmD row)]):=fun S h=>by unfold gLst;rw [qcu h];rfl
  ((try walk_at "own wq");repeat (simp only [e1 (o::V) (by rw [gC1];exact hVi)];try walk_at "own wq"))
 rintro r S ⟨rfl,rfl⟩
 refine seqW (fun r S=>∃ o' rs G2,Hnd o' (n+4)/\rs.Perm row/\S=o'::(V ++ .lst [] :: .lst (nmD rs)::G2)/\r=[some (.ref 0),some (.ref e),some (.ref (U.length+1)),some (.ref (i+1)),some (.ref (V.length+1)),some (.ref (V.length+2)),x6,x7,x8,x9]) ?_ ?_
 ·refine qn2 ho hn hr fun o' rs G2 h1 h2=>⟨rfl,o',rs,G2,h1,h2,rfl,rfl⟩
 rintro r S ⟨o',rs,G2,ho',hp,rfl,rfl⟩
 have hVu':(o'::(V++Ob.lst []::Ob.lst (nmD rs)::G2))[U.length+1]? = some (.lst (rk U.length ks)):=by
  rw [gC1,gL1 (by lia)];exact hVu
 walk_at "own wq"
 refine qds ?_
 walk_at "own wq"
 refine ⟨U.length+1,_,rfl,hVu',?_⟩
 refine (qeF hVu').mpr ⟨qah (by unfold rk;rw [lM1];lia),?_⟩
 have es:(o'::(V++Ob.lst []::Ob.lst (nmD rs)::G2)).set (U.length+1) (.lst (rk U.length ks++[.ref (V.length+2)]))=o'::(U ++ .lst (rk U.length (ks++[G.length+1]))::(G++Ob.lst []::Ob.lst (nmD rs)::G2)):=by
  have e2:rk U.length ks++[.ref (V.length+2)]=rk U.length (ks++[G.length+1]):=by
   unfold rk
   rw [List.map_append,hVl,show U.length+1+G.length+2=U.length+2+(G.length+1) by lia]
   rfl
  rw [e2,<- hV,List.set_cons_succ,List.append_assoc,List.set_append_right _ _ (nR1 _),Nat.sub_self]
  rfl
 rw [es]
 exact q o' rs _ (G.length+1) _ _ ho' hp (by rw [qaU];rfl)
theorem qq9 {m a b:FE}{r:Ev}{S:Sto}{n v:Nat}{kv:List (Key×D)}{Q:D×Sto->Prop}(hm:m r S=some (.ref n,S))(ha:a r S=some (.int v,S))(hb:b r S=some (.ref S.length,S++[.lst []]))(hn:S[n]? = some (.dct kv))(hl:kv.length<1000)
  (h1:∀ z,qak kv (Sum.inl (v:Int))=some z->Q (z,S++[.lst []])) (h2:qak kv (Sum.inl (v:Int))=none->Q (.ref S.length,(S++[Ob.lst []]).set n (.dct (putD kv (Sum.inl (v:Int)) (.ref S.length))))):W (qfX m a b r S) Q:=by
 have hn2:(S++[Ob.lst []])[n]? = some (.dct kv):=by rw [gL1 (gE1.mp hn).1];exact hn
 have hs:kv.length<sizeLine:=nL1 hl (by decide)
 cases hk:qak kv (Sum.inl (v:Int)) with
 | some z=>
  refine W.of ?_ (h1 z hk)
  simp only [qfX,hm,oS1,hn,ha,hb,hn2,keyD,if_pos hs,hk]
 | none=>
  refine W.of ?_ (h2 hk)
  simp only [qfX,hm,oS1,hn,ha,hb,hn2,keyD,if_pos hs,hk]
theorem qmx {X H:Sto}{o:Ob}{A:Pl}{kv:List (Key×D)}{i j v:Nat}{x1 x2 x3 x4 x5:Option D}{Q:Fl×Ev×Sto->Prop}(P:PL (X.length+2) A kv H)(hA:A.length<100)
  (q:∀ kv' H',PL (X.length+2) (A++[((i,j),v)]) kv' H'->Q (.nx,[some (.ref 0),x1,x2,x3,x4,x5,some (.ref (X.length+1)),some (.int (i:Nat)),some (.int (j:Nat)),some (.int (v:Nat))],o::(X ++ .dct kv'::H'))):
  W (qbW [some (.ref 0),x1,x2,x3,x4,x5,some (.ref (X.length+1)),some (.int (i:Nat)),some (.int (j:Nat)),some (.int (v:Nat))] (o::(X ++ .dct kv::H))) Q:=by
 have hf:=P.few
 have gd:∀ (o:Ob) (Z:Ob) (Y:Sto),(o::(X++Z::Y))[X.length+1]? = some Z:=fun o Z Y=>by rw [gC1,qai];rfl
 have gh:∀ (o:Ob) (Z:Ob) (Y:Sto) (h:Nat),(o::(X++Z::Y))[X.length+2+h]? = Y[h]?:=fun o Z Y h=>by rw [show X.length+2+h=X.length+(h+1)+1 by lia,gC1,qaU];rfl
 have sl:(o::(X++Ob.dct kv::H)).length=X.length+2+H.length:=by simp;lia
 have sa:(o::(X++Ob.dct kv::H))++[Ob.lst []]=o::(X ++ .dct kv::(H++[.lst []])):=by simp
 have st:∀ (Z:Ob) (Y:Sto) (h:Nat) (V:Ob),(o::(X++Z::Y)).set (X.length+2+h) V=o::(X++Z::Y.set h V):=fun Z Y h V=>by
  rw [show X.length+2+h=X.length+(h+1)+1 by lia,List.set_cons_succ,List.set_append_right _ _ (by lia),show X.length+(h+1)-X.length=h+1 by lia];rfl
 have fin:∀ (kv':List (Key×D)) (H1:Sto) (h:Nat) (ys:List (Nat×Nat)) (S1:Sto),S1=o::(X ++ .dct kv'::H1)->H1[h]? = some (.lst (ys.map pD))->ys.length<200->PL (X.length+2) (A++[((i,j),v)]) kv' (H1.set h (.lst (ys.map pD++[pD (i,j)]))) ->
   ∃ n xs,D.ref (X.length+2+h) = .ref n/\S1[n]? = some (.lst xs)/\W (qaa (mTup (qaa (mV 7) (qaa (mV 8) mNil))) mNil [some (.ref 0),x1,x2,x3,x4,x5,some (.ref (X.length+1)),some (.int (i:Nat)),some (.int (j:Nat)),some (.int (v:Nat))] S1) fun q=>W (b2 gApp (.ref n::q.1) q.2) fun p=>W (some (Fl.nx,[some (.ref 0),x1,x2,x3,x4,x5,some (.ref (X.length+1)),some (.int (i:Nat)),some (.int (j:Nat)),some (.int (v:Nat))],p.2)) Q:=by
  rintro kv' H1 h ys S1 rfl e hl P'
  have e2:=gh o (.dct kv') H1 h
  rw [e] at e2
  refine ⟨X.length+2+h,_,rfl,e2,?_⟩
  walk_at "own wq"
  refine (qeF e2).mpr ⟨qah (by rw [lM1];lia),?_⟩
  have:=q kv' _ P'
  rw [<- st] at this
  exact this
 unfold qbW
 unfold qbQ
 rw [qae]
 refine qds ?_
 refine qq9 (n:=X.length+1) (v:=v) (kv:=kv) rfl rfl ?_ (gd _ _ _) (by lia) (fun z hz=>?_) (fun hz=>?_)
 ·unfold mLst mNil
  rw [oS1]
  rfl
 ·by_cases hv:ps A v=[]
  ·rw [P.no v hv] at hz;cases hz
  ·obtain ⟨h,e1,e2⟩:=P.yes v hv
   rw [e1] at hz;cases hz
   have hl:=(gE1.mp e2).1
   refine fin kv (H++[.lst []]) h (ps A v) _ sa (by rw [gL1 hl];exact e2) ?_ (P.old hv e1 e2)
   unfold ps
   rw [lM1]
   have:=List.length_filter_le (fun x=>x.2 == v) A
   lia
 ·by_cases hv:ps A v=[]
  ·have hput:=P.new (p:=(i,j)) hv
   rw [sl]
   refine fin (putD kv (Sum.inl (v:Int)) (.ref (X.length+2+H.length))) (H++[.lst []]) H.length [] _ ?_ (by rw [gR1 (nR1 _),Nat.sub_self];rfl) (by simp) ?_
   ·rw [sa,List.set_cons_succ,List.set_append_right _ _ (nR1 _),Nat.sub_self];rfl
   ·rw [List.set_append_right _ _ (nR1 _),Nat.sub_self]
    exact hput
  ·obtain ⟨h,e1,e2⟩:=P.yes v hv
   rw [e1] at hz;cases hz
noncomputable abbrev qad:=List (List (Nat×Nat))
noncomputable def webD (w:qad):D:=.tup (w.map fun row=>.tup (row.map pD))
theorem qaL (w:qad):(webD w).und 0=true:=by
 unfold webD
 rw [D.und]
 exact qa1 fun row _=>by rw [D.und];exact qa1 fun _ _=>rfl
noncomputable def rowR (A:Pl)(i:Nat)(row:List Nat):List (Nat×Nat):=row.zipIdx.map fun q=>part A q.1 (i,q.2)
noncomputable def webR (R:Rw1):qad:=R.zipIdx.map fun p=>rowR (qbv 0 R) p.2 p.1
theorem qgq {R:Rw1}{i:Nat}:(webR R)[i]? = (R[i]?).map (rowR (qbv 0 R) i):=by
 unfold webR
 rw [gP1,List.getElem?_zipIdx]
 cases R[i]? <;> simp
structure Shuf (E R:Rw1):Prop where
 len:R.length=E.length
 row:∀ (i:Nat) (r e:List Nat),R[i]? = some r->E[i]? = some e->r.Perm e
theorem Shuf.snoc {E R:Rw1}{i:Nat}{r e:List Nat}(h:Shuf (E.take i) R)(he:E[i]? = some e)(p:r.Perm e):Shuf (E.take (i+1)) (R++[r]):=by
 have hi:=(gE1.mp he).1
 have hl:R.length=i:=by have:=h.len;rw [List.length_take] at this;lia
 refine ⟨by rw [lA1,List.length_take,hl,List.length_singleton];lia,fun j r' e' h1 h2=>?_⟩
 by_cases hj:j<i
 ·rw [gL1 (by lia)] at h1
  rw [List.getElem?_take_of_lt (by lia)] at h2
  exact h.row j r' e' h1 (by rw [List.getElem?_take_of_lt hj];exact h2)
 ·have:=(gE1.mp h1).1
  rw [lA1,List.length_singleton] at this
  have e:j=i:=by lia
  subst e
  rw [List.getElem?_take_of_lt (by lia),he] at h2
  rw [<- hl,List.getElem?_concat_length] at h1
  cases h1;cases h2;exact p
theorem qea:∀ {E R:Rw1},Shuf E R->R.flatten.Perm E.flatten
 | [],[],_=>.refl _
 | [],_::_,h=>by have:=h.len;simp at this
 | _::_,[],h=>by have:=h.len;simp at this
 | e::E,r::R,h=>(h.row 0 r e rfl rfl).append (qea ⟨by simpa using h.len,fun i a b h1 h2=>h.row (i+1) a b h1 h2⟩)
theorem qiF {m k l i j a:Nat}{E R:Rw1}{row:List Nat}(v:WE m E k l)(sh:Shuf E R)(hr:R[i]? = some row)(ha:row[j]? = some a):(ps (qbv 0 R) a).length=2:=by
 rw [qol,qhx,(qea sh).count_eq,v.ct a]
 have hm:a∈R.flatten:=List.mem_flatten.mpr ⟨row,gM1 hr,gM1 ha⟩
 have:=List.count_pos_iff.mpr hm
 rw [(qea sh).count_eq,v.ct a] at this
 split at this
 ·rename_i h;rw [if_pos h]
 ·lia
theorem qoa {u j k:Nat}{ks:List Nat}(h:ks[j]? = some k):(rk u ks)[j]? = some (.ref (u+2+k)):=by unfold rk;rw [gP1,h];rfl
theorem qhe {u:Nat}{ks:List Nat}:(rk u ks).length=ks.length:=by unfold rk;rw [lM1]
theorem qjj {S:Sto}{n v:Nat}{F:List (Key×D)}{d:D}{Q:D×Sto->Prop}(h:S[n]? = some (.dct F))(hl:qak F (Sum.inl (v:Int))=some d)(q:Q (d,S)):W (gIxY (.ref n) (.int (v:Nat)) S) Q:=by
 refine W.of ?_ q
 simp only [gIxY,gIxX,h,keyD,oS1,hl,oP1]
theorem qqV {a:Nat×Nat}{i j:Nat}{S:Sto}:gEq (pD a) (.tup [.int i,.int j]) S=some (.bl (a == (i,j)),S):=by
 have:=qhA (S:=S) (n:=58) (a:=a) (b:=(i,j))
 show (eqN S qam (pD a) (pD (i,j))).map _=_
 unfold qam
 rw [this];rfl
inductive DI (E:Rw1)(U:Sto)(t m n:Nat):Nat->Ev->Sto->Prop
 | mk (i:Nat) (R:Rw1) (ks:List Nat) (G:Sto) (o':Ob) (x3 x4 x5:Option D) (hi:i<=m) (sh:Shuf (E.take i) R) (rs:RS R ks G) (ho:Hnd o' (n+4*i)):DI E U t m n i [some (.ref 0),some (.ref (t+m+1)),some (.ref (U.length+1)),x3,x4,x5,none,none,none,none] (o'::(U ++ .lst (rk U.length ks)::G))
inductive DJ (R:Rw1)(X:Sto)(o':Ob)(a b:Nat)(x3 x4:Option D)(m:Nat):Nat->Ev->Sto->Prop
 | mk (i:Nat) (kv:List (Key×D)) (H:Sto) (x5 x7 x8 x9:Option D) (hi:i<=m) (P:PL (X.length+2) (qbv 0 (R.take i)) kv H):DJ R X o' a b x3 x4 m i [some (.ref 0),some (.ref a),some (.ref b),x3,x4,x5,some (.ref (X.length+1)),x7,x8,x9] (o'::(X ++ .dct kv::H))
inductive DK (R:Rw1)(X:Sto)(o':Ob)(a b:Nat)(x3 x4:Option D)(x5:Nat)(i:Nat)(row:List Nat):Nat->Ev->Sto->Prop
 | mk (j:Nat) (kv:List (Key×D)) (H:Sto) (x8 x9:Option D) (hj:j<=row.length) (P:PL (X.length+2) (qbv 0 (R.take i)++qc2 i (row.take j)) kv H):DK R X o' a b x3 x4 x5 i row j [some (.ref 0),some (.ref a),some (.ref b),x3,x4,some (.ref x5),some (.ref (X.length+1)),some (.int (i:Nat)),x8,x9] (o'::(X ++ .dct kv::H))
theorem qlf {t m n k:Nat}{T U:Sto}{E:Rw1}{o:Ob}{Q:D×Sto->Prop}(w:WN t m T E U)(v:WE m E k (m-1))(ho:Hnd o n)(hn:n<=2^43)(hm:m<=8)
  (q:∀ R o',Shuf E R->Hnd o' (n+40)->Q (webD (webR R),o'::U)):W (qaj 2 qbq [.ref 0,.ref (t+m+1)] (o::U)) Q:=by
 refine qie rfl rfl (List.all_eq_true.mpr w.cl) ?_
 unfold qbq
 refine fnW ?_
 unfold qcn
 have hlE:=w.el
 refine seqW (fun r S=>S=o::(U ++ .lst (rk U.length [])::[])/\r=[some (.ref 0),some (.ref (t+m+1)),some (.ref (U.length+1)),none,none,none,none,none,none,none]) ?_ ?_
 ·walk_at "own wq"
  exact ⟨rfl,trivial⟩
 rintro r S ⟨rfl,rfl⟩
 refine seqW (DI E U t m n m) ?_ ?_
 ·have hends:∀ (o:Ob) (Y:Sto),(o::(U++Y))[t+m+1]? = some (.lst (refs (t+1) m)):=fun o Y=>by rw [gC1,gL1 (gE1.mp w.ends).1];exact w.ends
  walk_at "own wq"
  refine qaE (hends _ _) ?_
  refine qaO (DI E U t m n) _ 0 _ _ (.mk 0 [] [] [] o none none none (Nat.zero_le _) ⟨rfl,fun i r e h=>by simp at h⟩ ⟨rfl,fun j k row h=>by simp at h⟩ ho) ?_ ?_ ?_
  ·rintro i r S ⟨R,ks,G,o',x3,x4,x5,_,_,_,_⟩
   exact qbp (hends _ _)
  ·rintro i d hd r S ⟨R,ks,G,o',x3,x4,x5,hi,sh,rs,ho'⟩
   have hlt:=(gE1.mp hd).1
   dsimp only at hlt hd
   rw [qd3] at hlt
   rw [Nat.zero_add] at *
   rw [qgu hlt] at hd
   cases hd
   obtain ⟨row,hrow⟩:∃ row,E[i]? = some row:=⟨_,gG1 (by lia)⟩
   have hks:ks.length=i:=by rw [rs.len,sh.len,List.length_take];lia
   walk_at "own wq"
   rw [show t+1+i=t+i+1 by lia]
   refine qnI (i:=t+i) (w.row i row hrow) ho' (by lia) (v.le i row hrow) (by lia) fun o2 rs2 G2 k2 x4' x5' h1 h2 h3=>?_
   exact ⟨rfl,.mk _ (R++[rs2]) (ks++[k2]) (G++G2) o2 _ _ _ hlt (sh.snoc hrow h2) (rs.app.snoc h3) (h1.more (nR1 _))⟩
  ·intro r S h
   rw [qd3,Nat.zero_add] at h
   exact ⟨rfl,h⟩
 rintro r S ⟨R,ks,G,o',x3,x4,x5,_,sh,rs,ho'⟩
 rw [List.take_of_length_le (Nat.le_of_eq hlE)] at sh
 generalize hX:U ++ .lst (rk U.length ks)::G=X
 have hRl:R.length=m:=by rw [sh.len];exact hlE
 have hr4:∀ (i:Nat) (row:List Nat),R[i]? = some row->row.length<=4:=fun i row h=>by
  obtain ⟨e,he⟩:∃ e,E[i]? = some e:=⟨_,gG1 (by have:=(gE1.mp h).1;lia)⟩
  rw [(sh.row i row e h he).length_eq]
  exact v.le i e he
 have gk:∀ (o:Ob) (Y:Sto),(o::(X++Y))[U.length+1]? = some (.lst (rk U.length ks)):=fun o Y=>by
  rw [<- hX,gC1,List.append_assoc,qai];rfl
 have grow:∀ (o:Ob) (Y:Sto) (i k:Nat) (row:List Nat),ks[i]? = some k->R[i]? = some row->(o::(X++Y))[U.length+2+k]? = some (.lst (nmD row)):=fun o Y i k row h1 h2=>by
  have e:=rs.row i k row h1 h2
  rw [<- hX,show U.length+2+k=U.length+(k+1)+1 by lia,gC1,List.append_assoc,qaU,List.cons_append,gC1,gL1 (gE1.mp e).1]
  exact e
 refine seqW (fun r S=>S=o'::(X ++ .dct []::[])/\r=[some (.ref 0),some (.ref (t+m+1)),some (.ref (U.length+1)),x3,x4,x5,some (.ref (X.length+1)),none,none,none]) ?_ ?_
 ·((try walk_at "own wq");repeat (simp only [qgN];try walk_at "own wq"))
 rintro r S ⟨rfl,rfl⟩
 have lenA:∀ i,i<=m->(qbv 0 (R.take i)).length<=4*i:=by
  intro i
  induction i with
  | zero=>intro _;simp [qbv]
  | succ i ih=>
   intro hi
   obtain ⟨row,hrow⟩:∃ row,R[i]? = some row:=⟨_,gG1 (by lia)⟩
   rw [qeq hrow,lA1]
   have:=ih (by lia)
   have:=hr4 i row hrow
   simp [qc2]
   lia
 refine seqW (DJ R X o' (t+m+1) (U.length+1) x3 x4 m m) ?_ ?_
 ·unfold mFor
  rw [qae]
  refine qlk (n:=U.length+1) rfl (gk _ _) ?_
  refine qaO (DJ R X o' (t+m+1) (U.length+1) x3 x4 m) _ 0 _ _ (.mk 0 [] [] _ _ _ _ (Nat.zero_le _) ⟨fun v _=>rfl,fun v h=>(h rfl).elim,fun v u h e=>by simp [qak] at e,by simp⟩) ?_ ?_ ?_
  ·rintro i r S ⟨kv,H,x5,x7,x8,x9,_,_⟩
   exact qbp (gk _ _)
  ·rintro i d hd r S ⟨kv,H,x5,x7,x8,x9,hi,P⟩
   dsimp only at hd
   rw [qbt] at hd
   obtain ⟨z,hz,rfl⟩:=oM1.mp hd
   have hlt:=(gE1.mp hz).1
   rw [qhe] at hlt
   obtain ⟨k2,hk2⟩:∃ k2,ks[i]? = some k2:=⟨_,gG1 hlt⟩
   rw [qoa hk2] at hz
   cases hz
   have hil:i<m:=by rw [<- hRl,<- rs.len];exact hlt
   obtain ⟨row,hrow⟩:∃ row,R[i]? = some row:=⟨_,gG1 (by lia)⟩
   rw [Nat.zero_add] at *
   walk_at "own wq"
   unfold qcv mFor
   rw [qae]
   refine qlk (n:=U.length+2+k2) rfl (grow _ _ i k2 row hk2 hrow) ?_
   refine qaO (DK R X o' (t+m+1) (U.length+1) x3 x4 (U.length+2+k2) i row) _ 0 _ _ (.mk 0 kv H _ _ (Nat.zero_le _) (by simpa [qc2] using P)) ?_ ?_ ?_
   ·rintro j r S ⟨kv,H,x8,x9,_,_⟩
    exact qbp (grow _ _ i k2 row hk2 hrow)
   ·rintro j d hd r S ⟨kv,H,x8,x9,hj,P⟩
    dsimp only at hd
    rw [qbt] at hd
    obtain ⟨z,hz,rfl⟩:=oM1.mp hd
    rw [nmD,gP1] at hz
    obtain ⟨way,hway,rfl⟩:=oM1.mp hz
    have hjl:=(gE1.mp hway).1
    rw [Nat.zero_add] at *
    have:=lenA i (by lia)
    have:=hr4 i row hrow
    walk_at "own wq"
    refine qmx P (by rw [lA1];simp [qc2];lia) fun kv' H' P'=>?_
    rw [List.append_assoc,<- qkm hway] at P'
    exact ⟨rfl,.mk _ kv' H' _ _ hjl P'⟩
   ·rintro r S ⟨kv,H,x8,x9,hj,P⟩
    rw [qbM,qbw,Nat.zero_add,List.take_length] at P
    refine ⟨rfl,.mk _ kv H _ _ _ _ hil ?_⟩
    rw [qeq hrow,Nat.zero_add]
    exact P
  ·intro r S h
   rw [qbM,qhe,rs.len,Nat.zero_add,hRl] at h
   exact ⟨rfl,h⟩
 rintro r S ⟨kv,H,x5,x7,x8,x9,_,P⟩
 rw [List.take_of_length_le (Nat.le_of_eq hRl)] at P
 obtain ⟨Y,hY⟩:∃ Y,Y=Ob.dct kv::H:=⟨_,rfl⟩
 rw [<- hY]
 have cnt:∀ (i j a:Nat) (row:List Nat),R[i]? = some row->row[j]? = some a -> ∃ p p' h,ps (qbv 0 R) a=[p,p']/\qak kv (Sum.inl (a:Int))=some (.ref (X.length+2+h))/\H[h]? = some (.lst [pD p,pD p']):=by
  intro i j a row hr ha
  have h2:=qiF v sh hr ha
  obtain ⟨p,p',e⟩:=qlm h2
  obtain ⟨h,e1,e2⟩:=P.yes a (by rw [e];simp)
  rw [e] at e2
  exact ⟨p,p',h,e,e1,e2⟩
 have gY:∀ (o:Ob) (Z:Sto) (h:Nat) (x:Ob),H[h]? = some x->(o::(X++(Y++Z)))[X.length+2+h]? = some x:=fun o Z h x e=>by
  rw [hY,show X.length+2+h=X.length+(h+1)+1 by lia,gC1,qaU,List.cons_append,gC1,gL1 (gE1.mp e).1]
  exact e
 have gd:∀ (o:Ob) (Z:Sto),(o::(X++(Y++Z)))[X.length+1]? = some (.dct kv):=fun o Z=>by rw [hY,gC1,qai];rfl
 walk_at "own wq"
 refine qlk (n:=U.length+1) rfl (gk _ _) ?_
 refine qc5 (fun i acc r S=>∃ Z x0 x1,S=o'::(X++(Y++Z))/\r=[x0,x1,some (.ref (X.length+1))]/\acc=(((webR R).take i).map fun row=>.tup (row.map pD))) _ 0 [] _ _ ⟨[],none,none,by rw [List.append_nil],rfl,rfl⟩ ?_ ?_ ?_
 ·rintro i acc r S ⟨Z,x0,x1,rfl,_⟩
  exact qbp (gk _ _)
 ·rintro i d hd acc r S ⟨Z,x0,x1,rfl,rfl,rfl⟩
  dsimp only at hd
  rw [qbt] at hd
  obtain ⟨z,hz,rfl⟩:=oM1.mp hd
  have hlt:=(gE1.mp hz).1
  rw [qhe] at hlt
  obtain ⟨k2,hk2⟩:∃ k2,ks[i]? = some k2:=⟨_,gG1 hlt⟩
  rw [qoa hk2] at hz
  cases hz
  obtain ⟨row,hrow⟩:∃ row,R[i]? = some row:=⟨_,gG1 (by rw [<- rs.len];exact hlt)⟩
  rw [Nat.zero_add] at *
  have hl:=hr4 i row hrow
  walk_at "own wq"
  refine qlk (n:=U.length+2+k2) rfl (grow _ _ i k2 row hk2 hrow) ?_
  dsimp only
  rw [nmD,qlN]
  refine mapW (f:=fun p:Nat×Nat=>D.tup [.int p.2,.int p.1]) (fun p=>pD (part (qbv 0 R) p.1 (i,p.2))) (fun r=>∃ x0 x1,r=[x0,x1,some (.ref (X.length+1)),some (.int (i:Nat))]) (qbp (grow _ _ i k2 row hk2 hrow)) row.zipIdx _ ⟨_,_,rfl⟩ ?_ ?_
  ·rintro ⟨a,j⟩ ha r ⟨y0,y1,rfl⟩
   obtain ⟨p,p',h,c1,c2,c3⟩:=cnt i j a row hrow (qii ha)
   have c4:=gY o' Z h _ c3
   walk_at "own wq"
   refine qjj (gd _ _) c2 ?_
   refine qjj (gd _ _) c2 ?_
   refine qex (i:=0) (x:=pD p) c4 rfl ?_
   ((try walk_at "own wq");repeat (simp only [qqV];try walk_at "own wq"))
   by_cases hp:p=(i,j)
   ·rw [show (p == (i,j))=true by rw [hp];simp]
    walk_at "own wq"
    refine qex (i:=1) (x:=pD p') c4 rfl ?_
    refine ⟨?_,rfl,_,_,rfl⟩
    simp [part,c1,hp]
   ·rw [show (p == (i,j))=false by simp [hp]]
    walk_at "own wq"
    refine qex (i:=0) (x:=pD p) c4 rfl ?_
    refine ⟨?_,rfl,_,_,rfl⟩
    simp [part,c1,hp]
  ·rintro r' _
   walk_at "own wq"
   refine ⟨qah (by rw [lM1,List.length_zipIdx];lia),?_⟩
   refine qaE (xs:=row.zipIdx.map fun p=>pD (part (qbv 0 R) p.1 (i,p.2))) (by rw [gC1];simp only [<- lA1,<- Nat.add_assoc,<- List.append_assoc];rw [qai];rfl) ?_
   refine ⟨Z++[Ob.lst (row.zipIdx.map fun p=>pD (part (qbv 0 R) p.1 (i,p.2)))],_,_,rfl,rfl,?_⟩
   rw [List.take_succ,qgq,hrow]
   simp [rowR,Function.comp_def]
 ·rintro xs r S ⟨Z,x0,x1,rfl,rfl,e⟩
  dsimp only at e
  have hwl:(webR R).length=m:=by unfold webR;simp [hRl]
  rw [List.nil_append,Nat.zero_add,qbM,qhe,rs.len,List.take_of_length_le (by lia)] at e
  subst e
  walk_at "own wq"
  refine ⟨qah (by rw [lM1];lia),?_⟩
  refine qaE (xs:=(webR R).map fun row=>.tup (row.map pD)) (by rw [gC1];simp only [<- lA1,<- Nat.add_assoc,<- List.append_assoc];rw [qai];rfl) ?_
  refine ⟨webD (webR R),o',(.lst (rk U.length ks)::G)++(Y++(Z++[Ob.lst ((webR R).map fun row=>.tup (row.map pD))])),?_,qaL _,ho'.und,q R o' sh (ho'.more (by lia))⟩
  rw [<- hX]
  simp only [List.append_assoc]
  rfl
noncomputable def At (w:qad)(r d:Nat)(e:Nat×Nat):Prop:=∃ row,w[r]? = some row/\row[d]? = some e
structure WebJ (m:Nat)(w:qad):Prop where
 len:w.length=m
 le:∀ (i:Nat) (row:List (Nat×Nat)),w[i]? = some row->row.length<=4
 to:∀ (r d:Nat) (e:Nat×Nat),At w r d e->e.1<m
 jn:∀ j,1<=j->j<m -> ∃ a d e,a<j/\At w a d e/\e.1=j
structure WebC (m:Nat)(w:qad):Prop extends WebJ m w where
 bk:∀ (r d:Nat) (e:Nat×Nat),At w r d e->At w e.1 e.2 (r,d)
theorem qcX {w:qad}{r d:Nat}{e e':Nat×Nat}(h:At w r d e)(h':At w r d e'):e=e':=by
 obtain ⟨r1,g1,g2⟩:=h
 obtain ⟨r2,g3,g4⟩:=h'
 rw [g1] at g3;cases g3
 rw [g2] at g4;cases g4
 rfl
structure WebB (m:Nat)(w:qad):Prop extends WebJ m w where
 back:∀ (r d:Nat) (e:Nat×Nat),At w r d e->At w e.1 e.2 (r,d)/\e≠(r,d)
theorem at_R {R:Rw1}{i j:Nat}{e:Nat×Nat}:At (webR R) i j e ↔ ∃ row a,R[i]? = some row/\row[j]? = some a/\e=part (qbv 0 R) a (i,j):=by
 unfold At
 rw [qgq]
 constructor
 ·rintro ⟨row,h1,h2⟩
  obtain ⟨row',h3,rfl⟩:=oM1.mp h1
  unfold rowR at h2
  rw [gP1,List.getElem?_zipIdx] at h2
  obtain ⟨x,h4,rfl⟩:=oM1.mp h2
  obtain ⟨a,h5,rfl⟩:=oM1.mp h4
  exact ⟨row',a,h3,h5,by simp⟩
 ·rintro ⟨row,a,h1,h2,rfl⟩
  refine ⟨rowR (qbv 0 R) i row,by rw [h1];rfl,?_⟩
  unfold rowR
  rw [gP1,List.getElem?_zipIdx,h2]
  simp
theorem qfr {R:Rw1}{i j a:Nat}:((i,j),a)∈qbv 0 R ↔ ∃ row,R[i]? = some row/\row[j]? = some a:=by
 rw [qfi]
 constructor
 ·rintro ⟨i',row,h1,h2,h3⟩
  rw [Nat.zero_add] at h1
  dsimp only at h1
  subst h1
  exact ⟨row,h2,h3⟩
 ·rintro ⟨row,h2,h3⟩
  exact ⟨i,row,(Nat.zero_add i).symm,h2,h3⟩
theorem ql1 {m k:Nat}{E R:Rw1}(v:WE m E k (m-1))(sh:Shuf E R):WebB m (webR R):=by
 have hRl:R.length=m:=by rw [sh.len];exact v.len
 have hE:∀ (i:Nat) (row:List Nat),R[i]? = some row -> ∃ e,E[i]? = some e/\row.Perm e:=fun i row h=>by
  obtain ⟨e,he⟩:∃ e,E[i]? = some e:=⟨_,gG1 (by have:=(gE1.mp h).1;rw [v.len];lia)⟩
  exact ⟨e,he,sh.row i row e h he⟩
 have key:∀ (r d:Nat) (e:Nat×Nat),At (webR R) r d e->At (webR R) e.1 e.2 (r,d)/\e≠(r,d)/\e.1<m:=fun r d e h=>by
  obtain ⟨row,a,h1,h2,rfl⟩:=at_R.mp h
  obtain ⟨p1,p2,p3,_⟩:=qiN qgX (qiF v sh h1 h2) (qfr.mpr ⟨row,h1,h2⟩)
  generalize part (qbv 0 R) a (r,d)=g at *
  obtain ⟨row',h3,h4⟩:=(qfr (i:=g.1) (j:=g.2)).mp p1
  refine ⟨at_R.mpr ⟨row',a,h3,h4,p3.symm⟩,p2,?_⟩
  have:=(gE1.mp h3).1
  lia
 refine ⟨⟨by unfold webR;simp [hRl],fun i row h=>?_,fun r d e h=>(key r d e h).2.2,fun j h1 h2=>?_⟩,fun r d e h=>⟨(key r d e h).1,(key r d e h).2.1⟩⟩
 ·rw [qgq] at h
  obtain ⟨row',h3,rfl⟩:=oM1.mp h
  obtain ⟨e,he,p⟩:=hE i row' h3
  unfold rowR
  rw [lM1,List.length_zipIdx,p.length_eq]
  exact v.le i e he
 ·obtain ⟨a,ra,rb,x,g1,g2,g3,g4,g5⟩:=v.jn j h1 (by lia)
  obtain ⟨sa,hsa⟩:∃ s,R[a]? = some s:=⟨_,gG1 (by lia)⟩
  obtain ⟨sb,hsb⟩:∃ s,R[j]? = some s:=⟨_,gG1 (by lia)⟩
  obtain ⟨d,hd⟩:=List.getElem?_of_mem ((sh.row a sa ra hsa g2).mem_iff.mpr g4)
  obtain ⟨d',hd'⟩:=List.getElem?_of_mem ((sh.row j sb rb hsb g3).mem_iff.mpr g5)
  obtain ⟨_,_,_,p4⟩:=qiN qgX (qiF v sh hsa hd) (qfr.mpr ⟨sa,hsa,hd⟩)
  rcases p4 (j,d') (qfr.mpr ⟨sb,hsb,hd'⟩) with z | z
  ·injection z with z1 z2;lia
  ·exact ⟨a,d,_,g1,at_R.mpr ⟨sa,x,hsa,hd,rfl⟩,by rw [<- z]⟩
theorem qmw {o:Ob}{n most:Nat}{T:Sto}{Q:D×Sto->Prop}(ho:Hnd o n)(hn:n<=2^40)(hT:T.all (Ob.und (T.length+1))=true)(h0:1<=most)(h8:most<=8)
  (h:∀ m w o',0<m->m<=most->WebB m w->Hnd o' (n+100)->Q (webD w,o'::T)):W (qaj 2 qaQ [.ref 0,.int most] (o::T)) Q:=by
 refine qie rfl rfl hT ?_
 unfold qaQ
 refine fnW ?_
 unfold qbN
 generalize ht:T.length=t
 refine seqW (fun r S=>∃ (m:Nat) (o1:Ob),0<m/\m<=most/\Hnd o1 (n+1)/\r=[some (.ref 0),some (.int most),some (.int m),some (.int ((0:Nat):Int)),none,none,none,none,none,none]/\S=o1::T) ?_ ?_
 ·walk_at "own wq"
  refine qcM ho (by lia) (by lia) (by lia) fun c o1 ho1 hc=>?_
  walk_at "own wq"
  exact ⟨c+1,o1,by lia,by lia,ho1,by simp [Int.add_comm],rfl⟩
 rintro r S ⟨m,o1,hm0,hm,ho1,rfl,rfl⟩
 refine seqW (fun r S=>∃ U,WN t m T (List.replicate m []) U/\r=[some (.ref 0),some (.int most),some (.int m),some (.int ((0:Nat):Int)),some (.ref (t+m+1)),none,none,none,none,none]/\S=o1::U) ?_ ?_
 ·walk_at "own wq"
  refine ⟨qba (by lia),?_⟩
  rw [Int.toNat_natCast]
  refine qc5 (fun i acc r S=>acc=refs (t+1) i/\S=o1::(T++List.replicate i (.lst [])) /\ ∃ x,r=[x]) (nums 0 m) 0 [] _ _ ⟨rfl,by simp,_,rfl⟩ (fun _ _ _ _ _=>rfl) ?_ ?_
  ·rintro i d hd acc r S ⟨rfl,rfl,x,rfl⟩
   walk_at "own wq"
   rw [Nat.zero_add]
   refine ⟨?_,?_,_,rfl⟩
   ·rw [qfJ,ht,lR1]
    congr 3
    lia
   ·rw [List.replicate_succ']
  ·rintro xs r S ⟨e,rfl,_⟩
   rw [List.nil_append,Nat.zero_add,qaI] at e
   subst e
   rw [Nat.zero_add,qaI]
   walk_at "own wq"
   rw [qd3]
   refine ⟨qah (by lia),_,qj4 ht hT,?_,rfl⟩
   simp [ht]
 rintro r S ⟨U0,w0,rfl,rfl⟩
 refine seqW (fun r S=>∃ E k o2 U x5 x6 x7,WN t m T E U/\WE m E k (m-1)/\Hnd o2 (n+20)/\r=[some (.ref 0),some (.int most),some (.int m),some (.int (k:Nat)),some (.ref (t+m+1)),x5,x6,x7,none,none]/\S=o2::U) ?_ ?_
 ·walk_at "own wq"
  refine ⟨qpP (by decide) (by decide),qba (by lia),?_⟩
  refine qaO (fun i r S=>i<=m-1 /\ ∃ E o2 U x5 x6 x7,WN t m T E U/\WE m E i i/\(∀ j row,i+1<=j->E[j]? = some row->row=[])/\Hnd o2 (n+1+i)/\r=[some (.ref 0),some (.int most),some (.int m),some (.int (i:Nat)),some (.ref (t+m+1)),x5,x6,x7,none,none]/\S=o2::U) _ 0 _ _ ?_ (fun _ _ _ _=>rfl) ?_ ?_
  ·refine ⟨by lia,_,o1,U0,none,none,none,w0,qj6 m,fun j row _ hr=>?_,ho1,rfl,rfl⟩
   rw [List.getElem?_replicate] at hr
   split at hr
   ·cases hr;rfl
   ·cases hr
  ·rintro i d hd r S ⟨hi,E,o2,U,x5,x6,x7,w,v,he,ho2,rfl,rfl⟩
   have hlen:=(gE1.mp hd).1
   rw [qaI] at hlen
   have hd':d = .int ((i+1:Nat):Int):=by
    rw [qgF,gP1,List.getElem?_range hlen] at hd
    simp at hd
    rw [<- hd]
    push_cast
    congr 1
    lia
   subst hd'
   rw [Nat.zero_add] at *
   walk_at "own wq"
   refine qnN w v ho2 (by lia) (by lia) (by lia) he fun E' o' U' x6' x7' w' v' ho' he'=>?_
   exact ⟨rfl,by lia,E',o',U',_,_,_,w',v',he',ho'.more (by lia),rfl,rfl⟩
  ·rintro r S ⟨hi,E,o2,U,x5,x6,x7,w,v,he,ho2,rfl,rfl⟩
   rw [qaI,Nat.zero_add] at *
   have e:((m:Int)-1).toNat=m-1:=by lia
   rw [e] at v ho2 ⊢
   exact ⟨rfl,E,m-1,o2,U,x5,x6,x7,w,v,ho2.more (by lia),rfl,rfl⟩
 rintro r S ⟨E,k,o2,U,x5,x6,x7,w,v,ho2,rfl,rfl⟩
 refine seqW (fun r S=>∃ E k o2 U x5 x6 x7 x8 x9,WN t m T E U/\WE m E k (m-1)/\Hnd o2 (n+50)/\r=[some (.ref 0),some (.int most),some (.int m),some (.int (k:Nat)),some (.ref (t+m+1)),x5,x6,x7,x8,x9]/\S=o2::U) ?_ ?_
 ·walk_at "own wq"
  refine qcM ho2 (by lia) (by lia) (by lia) fun c o3 ho3 hc=>?_
  walk_at "own wq"
  refine ⟨qba (by lia),?_⟩
  rw [Int.toNat_natCast]
  refine qaO (fun i r S=>i<=c /\ ∃ E k o2 U x5 x6 x7 x8 x9,WN t m T E U/\WE m E k (m-1)/\Hnd o2 (n+21+2*i)/\r=[some (.ref 0),some (.int most),some (.int m),some (.int (k:Nat)),some (.ref (t+m+1)),x5,x6,x7,x8,x9]/\S=o2::U) _ 0 _ _ ⟨by lia,E,k,o3,U,x5,x6,x7,none,none,w,v,ho3,rfl,rfl⟩ (fun _ _ _ _=>rfl) ?_ ?_
  ·rintro i d hd r S ⟨hi,E,k,o2,U,x5,x6,x7,x8,x9,w,v,ho2,rfl,rfl⟩
   have hlen:=(gE1.mp hd).1
   rw [qaI] at hlen
   rw [Nat.zero_add] at *
   walk_at "own wq"
   refine qoY w v ho2 (by lia) hm0 (by lia) fun E' k' o' U' x7' x9' w' v' ho'=>?_
   exact ⟨rfl,by lia,E',k',o',U',_,_,_,_,_,w',v',ho'.more (by lia),rfl,rfl⟩
  ·rintro r S ⟨hi,E,k,o2,U,x5,x6,x7,x8,x9,w,v,ho2,rfl,rfl⟩
   rw [qaI,Nat.zero_add] at ho2
   exact ⟨rfl,E,k,o2,U,_,_,_,_,_,w,v,ho2.more (by lia),rfl,rfl⟩
 rintro r S ⟨E,k,o2,U,x5,x6,x7,x8,x9,w,v,ho2,rfl,rfl⟩
 walk_at "own wq"
 refine qlf w v ho2 (by lia) (by lia) fun R o' sh ho'=>?_
 exact ⟨webD (webR R),o',U.drop t,by rw [<- w.split],qaL _,ho'.und,h m _ o' hm0 hm (ql1 v sh) (ho'.more (by lia))⟩
theorem qp0 {m:FA}{r:Ev}{S S1:Sto}{k:Nat}{Q:D×Sto->Prop}(h:m r S=some ([.int k],S1))(hk:k<=1000)(q:Q (.ref S1.length,S1++[.lst (nums 0 k)])):W (mLR1 m r S) Q:=by
 refine W.of ?_ q
 unfold mLR1
 rw [h,oS1]
 dsimp only
 have:qfH 0 (k:Int)=true:=by
  unfold qfH
  simp only [bA1,decide_eq_true_eq]
  lia
 rw [if_pos this,Int.toNat_natCast]
theorem qmG {o:Ob}{n cp:Nat}{T:Sto}{Q:D×Sto->Prop}(ho:Hnd o n)(hn:n<=2^42)(hc:cp<=8)(q:∀ os o',os.Perm (List.range cp)->Hnd o' (n+cp)->Q (.ref (T.length+2),o'::(T++[.lst [],.lst (nmD os)]))):W (qaj 2 qbk [.ref 0,.int cp] (o::T)) Q:=by
 refine qnt rfl rfl ?_
 unfold qbk
 refine fnW ?_
 unfold qcD
 have gl:∀ (o:Ob) (X:Ob) (Y:Sto),(o::(T++X::Y))[T.length+1]? = some X:=fun o X Y=>by rw [gC1,qai];rfl
 refine seqW (fun r S=>S=o::(T++[.lst (nmD (List.range cp))])/\r=[some (.ref 0),some (.int cp),some (.ref (T.length+1))]) ?_ ?_
 ·unfold mAsg
  rw [qae]
  refine qp0 (k:=cp) (S1:=o::T) rfl (by lia) ?_
  rw [qdl]
  walk_at "own wq"
  exact ⟨rfl,trivial⟩
 rintro r S ⟨rfl,rfl⟩
 walk_at "own wq"
 refine ⟨qba (by lia),?_⟩
 rw [Int.toNat_natCast]
 refine qc5 (fun i acc r S=>∃ o' rs ls x,i<=cp/\(rs++ls).Perm (List.range cp)/\rs.length=i/\acc=nmD rs/\Hnd o' (n+i)/\S=o'::(T++[.lst (nmD ls)])/\r=[x,some (.ref (T.length+1)),some (.ref 0)]) (nums 0 cp) 0 [] _ _ ⟨o,[],List.range cp,_,by lia,.refl _,rfl,rfl,ho,rfl,rfl⟩ (fun _ _ _ _ _=>rfl) ?_ ?_
 ·rintro i d hd acc r S ⟨o',rs,ls,x,hi,hp,hl,rfl,ho',rfl,rfl⟩
  have hlt:=(gE1.mp hd).1
  rw [qaI] at hlt
  have hlen:=hp.length_eq
  rw [lA1,List.length_range] at hlen
  rw [Nat.zero_add] at *
  walk_at "own wq"
  refine qds ?_
  walk_at "own wq"
  refine ⟨T.length+1,nmD ls,rfl,gl _ _ _,?_⟩
  refine qaE (gl _ _ _) ?_
  walk_at "own wq"
  rw [qbw]
  refine qcM ho' (by lia) (by lia) (by lia) fun d o1 ho1 hd=>?_
  obtain ⟨y,hy⟩:∃ y,ls[d]? = some y:=⟨_,gG1 (by lia)⟩
  walk_at "own wq"
  refine qjY (gl _ _ _) (qlC hy) (by lia) ?_
  refine ⟨o1,rs++[y],ls.eraseIdx d,_,by lia,qhi hp hy,by rw [lA1,hl];rfl,qei,ho1.more (by lia),?_,rfl⟩
  rw [List.set_cons_succ,List.set_append_right _ _ (nR1 _),Nat.sub_self,qho];rfl
 ·rintro xs r S ⟨o',rs,ls,x,hi,hp,hl,e,ho',rfl,rfl⟩
  rw [qaI,Nat.zero_add] at *
  rw [List.nil_append] at e
  subst e
  have hlen:=hp.length_eq
  rw [lA1,List.length_range] at hlen
  have:ls=[]:=List.eq_nil_of_length_eq_zero (by lia)
  subst this
  rw [List.append_nil] at hp
  walk_at "own wq"
  refine ⟨qah (by rw [qbw];lia),?_⟩
  unfold gc
  rw [if_neg (by simp [D.und])]
  exact q rs o' hp ho'
noncomputable def tk3 (r k d:Nat):TK:=.tup [.int r,.int k,.int d]
noncomputable def t3D (r k d:Nat):D:=.tup [.int r,.int k,.int d]
theorem key3 {r k d:Nat}:keyT (t3D r k d)=some (tk3 r k d):=rfl
theorem qd7 {r k d r' k' d':Nat}(h:tk3 r k d=tk3 r' k' d'):r=r'/\k=k'/\d=d':=by
 simp [tk3] at h
 lia
noncomputable def Ent (w:qad)(cp:Nat)(F:List (TK×D))(r k d:Nat):Prop:=∃ e k',At w r d e/\k'<cp/\qak F (tk3 r k d)=some (t3D e.1 k' e.2)/\qak F (tk3 e.1 k' e.2)=some (t3D r k d)
noncomputable def Kept (F F':List (TK×D))(p e:Nat×Nat):Prop:=∀ a k b,(a,b)≠p->(a,b)≠e->qak F' (tk3 a k b)=qak F (tk3 a k b)
theorem Ent.keep {w:qad}{cp r k d:Nat}{p e:Nat×Nat}{F F':List (TK×D)}(h:Ent w cp F r k d)(hk:Kept F F' p e)(h1:(r,d)≠p)(h2:(r,d)≠e)(h3:∀ e',At w r d e'->e'≠p/\e'≠e):Ent w cp F' r k d:=by
 obtain ⟨e',k',a,b,c,c'⟩:=h
 have:=h3 e' a
 exact ⟨e',k',a,b,by rw [hk r k d h1 h2];exact c,by rw [hk e'.1 k' e'.2 this.1 this.2];exact c'⟩
theorem qq8 {m:FA}{r:Ev}{S:Sto}{Q:Itm×Sto->Prop}(h:W (m r S) fun p=>∃ n xs,p.1=[.ref n]/\p.2[n]? = some (.lst xs)/\Q (⟨enD 0 xs,[(n,xs)]⟩,p.2)):W (iEn m r S) Q:=by
 obtain ⟨⟨a,S1⟩,e,n,xs,h1,h2,q⟩:=h
 dsimp only at h1 h2 q
 subst h1
 refine W.of (x:=(⟨enD 0 xs,[(n,xs)]⟩,S1)) ?_ q
 simp only [iEn,e,oS1,qcu h2,qg3 h2]
theorem ql9 {T G:Sto}{o:Ob}{n cp r d:Nat}{w:qad}{e:Nat×Nat}{F:List (TK×D)}{x1 x5 x9 x10 x11 x12 x13 x14:Option D}{Q:Fl×Ev×Sto->Prop}(ho:Hnd o n)(hn:n<=2^42)(hc:cp<=4)(ha:At w r d e)(hb:At w e.1 e.2 (r,d))(hne:e≠(r,d))(hF:F.length<900)
  (q:∀ F' G' o' x9' x10',Hnd o' (n+4)->Kept F F' (r,d) e->(∀ k,k<cp->Ent w cp F' r k d/\Ent w cp F' e.1 k e.2)->F'.length<=F.length+8 ->
   Q (.nx,[some (.ref 0),x1,some (.int cp),some (.ref (T.length+1)),some (.int r),x5,some (.int d),some (.int e.1),some (.int e.2),x9',x10',x11,x12,x13,x14],o'::(T++dO F'::G'))):
  W (mFor (iEn (qaa (mN (qaj 2 qbk) (qaa (mV 0) (qaa (mV 2) mNil))) mNil)) (gT 2 (gCs (gN 9) (gCs (gN 10) gNl))) qca [some (.ref 0),x1,some (.int cp),some (.ref (T.length+1)),some (.int r),x5,some (.int d),some (.int e.1),some (.int e.2),x9,x10,x11,x12,x13,x14] (o::(T++dO F::G))) Q:=by
 unfold mFor
 rw [qae]
 refine qq8 ?_
 simp (implicitDefEqProofs:=false) only [qaa,mN,mV,List.getElem?_cons_zero,gC1,mNil,oS1,qae,qan]
 refine qmG ho hn (by lia) fun os o' hp ho'=>?_
 have hlen:=hp.length_eq
 rw [List.length_range] at hlen
 have hin:∀ c x:Nat,os[c]? = some x->x<cp:=fun c x h=>List.mem_range.mp (hp.mem_iff.mp (gM1 h))
 walk_at "own wq"
 have eS:o'::(T++dO F::(G++[Ob.lst [],Ob.lst (nmD os)]))=o'::((T++dO F::G)++[Ob.lst [],Ob.lst (nmD os)]):=by simp
 have gO:∀ (F':List (TK×D)),(o'::(T++dO F'::(G++[Ob.lst [],Ob.lst (nmD os)])))[T.length+(G.length+1)+2]? = some (.lst (nmD os)):=fun F'=>by
  rw [show T.length+(G.length+1)+2=T.length+(G.length+1+1)+1 by lia,gC1,qaU,gC1,qaU];rfl
 refine ⟨T.length+(G.length+1)+2,nmD os,by first | rfl | (congr 3;lia),by first | exact gO F | (rw [<- gO F];congr 1;lia),?_⟩
 have gd:∀ (Z:Ob) (Y:Sto),(o'::(T++Z::Y))[T.length+1]? = some Z:=fun Z Y=>by rw [gC1,qai];rfl
 have sd:∀ (Z V:Ob) (Y:Sto),(o'::(T++Z::Y)).set (T.length+1) V=o'::(T++V::Y):=fun Z V Y=>by
  rw [List.set_cons_succ,List.set_append_right _ _ (nR1 _),Nat.sub_self];rfl
 refine qaO (fun i r' S=>∃ F' y9 y10,i<=cp/\Kept F F' (r,d) e/\(∀ c x:Nat,c<i->os[c]? = some x->qak F' (tk3 r c d)=some (t3D e.1 x e.2)/\qak F' (tk3 e.1 x e.2)=some (t3D r c d))/\F'.length<=F.length+2*i/\S=o'::(T++dO F'::(G++[Ob.lst [],Ob.lst (nmD os)]))/\r'=[some (.ref 0),x1,some (.int cp),some (.ref (T.length+1)),some (.int r),x5,some (.int d),some (.int e.1),some (.int e.2),y9,y10,x11,x12,x13,x14]) _ 0 _ _ ⟨F,_,_,by lia,fun _ _ _ _ _=>rfl,fun c x h=>by lia,by lia,rfl,rfl⟩ ?_ ?_ ?_
 ·rintro i r' S ⟨F',y9,y10,_,_,_,_,rfl,_⟩
  exact qbp (gO F')
 ·rintro i dd hd r' S ⟨F',y9,y10,hi,kp,e1,hl,rfl,rfl⟩
  rw [qbt,nmD,gP1,Option.map_map] at hd
  obtain ⟨x,hx,rfl⟩:=oM1.mp hd
  have hlt:=(gE1.mp hx).1
  have hxc:=hin i x hx
  rw [Nat.zero_add] at *
  unfold Function.comp
  walk_at "own wq"
  unfold qca
  refine seqW (fun r' S=>S=o'::(T++dO (putD F' (tk3 r i d) (t3D e.1 x e.2))::(G++[Ob.lst [],Ob.lst (nmD os)]))/\r'=[some (.ref 0),x1,some (.int cp),some (.ref (T.length+1)),some (.int r),x5,some (.int d),some (.int e.1),some (.int e.2),some (.int (i:Nat)),some (.int (x:Nat)),x11,x12,x13,x14]) ?_ ?_
  ·walk_at "own wq"
   refine qjW (key:=t3D r i d) (v:=t3D e.1 x e.2) (F:=F') (gd _ _) key3 (by lia) ?_
   walk_at "own wq"
   exact ⟨sd _ _ _,trivial⟩
  rintro r' S ⟨rfl,rfl⟩
  have pl:=qgw (k:=tk3 r i d) (v:=t3D e.1 x e.2) (a:=F')
  have pl2:=qgw (k:=tk3 e.1 x e.2) (v:=t3D r i d) (a:=putD F' (tk3 r i d) (t3D e.1 x e.2))
  walk_at "own wq"
  refine qjW (key:=t3D e.1 x e.2) (v:=t3D r i d) (F:=putD F' (tk3 r i d) (t3D e.1 x e.2)) (gd _ _) key3 (by lia) ?_
  have ne1:∀ a b:Nat,tk3 r a d≠tk3 e.1 b e.2:=fun a b z=>by
   obtain ⟨z1,_,z3⟩:=qd7 z
   exact hne (by rw [z1,z3])
  refine ⟨_,_,_,by lia,fun a k b h h'=>?_,fun c y h hy=>?_,by lia,sd _ _ _,rfl⟩
  ·rw [qa5,qa5,if_neg,if_neg]
   ·exact kp a k b h h'
   ·intro z
    obtain ⟨z1,_,z3⟩:=qd7 z
    exact h (by rw [z1,z3])
   ·intro z
    obtain ⟨z1,_,z3⟩:=qd7 z
    exact h' (by rw [z1,z3])
  ·rcases Nat.lt_succ_iff_lt_or_eq.mp h with h | rfl
   ·have nx:y≠x:=fun z=>by
     subst z
     have nd:=hp.nodup_iff.mpr List.nodup_range
     obtain ⟨l1,g1⟩:=gE1.mp hy
     obtain ⟨l2,g2⟩:=gE1.mp hx
     have:=(List.getElem_inj nd).mp (g1.trans g2.symm)
     lia
    obtain ⟨q1,q2⟩:=e1 c y h hy
    refine ⟨?_,?_⟩
    ·rw [qa5,qa5,if_neg (ne1 c x),if_neg,q1]
     intro z
     have:=(qd7 z).2.1
     lia
    ·rw [qa5,qa5,if_neg,if_neg (Ne.symm (ne1 i y)),q2]
     intro z
     exact nx (qd7 z).2.1
   ·rw [hx] at hy;cases hy
    refine ⟨?_,?_⟩
    ·rw [qa5,qa5,if_neg (ne1 c x),if_pos rfl]
    ·rw [qa5,if_pos rfl]
 ·rintro r' S ⟨F',y9,y10,hi,kp,e1,hl,rfl,rfl⟩
  rw [qbM,qbw,Nat.zero_add] at *
  refine q F' _ o' _ _ (ho'.more (by lia)) kp (fun k hk=>⟨?_,?_⟩) (by lia)
  ·obtain ⟨x,hx⟩:∃ x,os[k]? = some x:=⟨_,gG1 (by lia)⟩
   obtain ⟨q1,q2⟩:=e1 k x (by lia) hx
   exact ⟨e,x,ha,hin k x hx,q1,q2⟩
  ·obtain ⟨c,hc⟩:=List.getElem?_of_mem (hp.mem_iff.mpr (List.mem_range.mpr hk))
   have hcl:=(gE1.mp hc).1
   obtain ⟨q1,q2⟩:=e1 c k hcl hc
   exact ⟨(r,d),c,hb,by lia,q2,q1⟩
noncomputable def lex (a b:Nat×Nat):Bool:=decide (a.1<b.1)||(decide (a.1=b.1)&&decide (a.2<b.2))
theorem qpy {a b:Nat×Nat}{S:Sto}:gLt (pD a) (pD b) S=some (.bl (lex a b),S):=by
 have e1:∀ (n x y:Nat),eqN S (n+1) (.int x) (.int y)=some (decide (x=y)):=fun n x y=>by
  show some ((x:Int) == (y:Int))=_
  congr 1
  rw [Bool.eq_iff_iff,beq_iff_eq,decide_eq_true_eq];lia
 have e2:∀ (n x y:Nat),ltN S (n+1) (.int x) (.int y)=some (decide (x<y)):=fun n x y=>by
  show some (decide ((x:Int)<(y:Int)))=_
  congr 1
  rw [Bool.eq_iff_iff,decide_eq_true_eq,decide_eq_true_eq];lia
 unfold gLt qam
 rw [show (60:Nat)=58+1+1 from rfl,ltN]
 simp only [pD,ltF,qaz,if_true,ltL,e1,e2,oS1]
 unfold lex
 by_cases h1:a.1=b.1
 ·by_cases h2:a.2=b.2
  ·simp [h1,h2]
  ·simp [h1,h2]
 ·simp [h1]
theorem qna {a b:Nat×Nat}(h:lex a b=false)(hne:b≠a):lex b a=true:=by
 unfold lex at *
 obtain ⟨a1,a2⟩:=a
 obtain ⟨b1,b2⟩:=b
 simp at *
 lia
theorem few:∀ {N:Nat} {l:List Nat},l.Nodup->(∀ x∈l,x<N)->l.length<=N
 | 0,l,_,h=>by
  cases l with
  | nil=>simp
  | cons a l=>have:=h a mS1;lia
 | N+1,l,n,h=>by
  by_cases hm:N∈l
  ·have h1:=few (N:=N) (l:=l.erase N) (n.erase N) fun x hx=>by
    have hx':=(List.Nodup.mem_erase_iff n).mp hx
    have:=h x hx'.2
    have:=hx'.1
    lia
   have:=List.length_erase_of_mem hm
   lia
  ·have:=few (N:=N) (l:=l) n fun x hx=>by
    have h1:=h x hx
    have:x≠N:=fun z=>hm (z ▸ hx)
    lia
   lia
theorem few2 {A B:Nat}{l:List (Nat×Nat)}(n:l.Nodup)(h:∀ x∈l,x.1<A/\x.2<B):l.length<=A*B:=by
 have h1:=few (N:=A*B) (l:=l.map fun x=>x.1*B+x.2) ?_ ?_
 ·simpa using h1
 ·rw [List.nodup_iff_pairwise_ne,List.pairwise_map]
  refine List.Pairwise.imp_of_mem ?_ n
  intro x y hx hy hne e
  apply hne
  have h1:=h x hx
  have h2:=h y hy
  have ex:x.1=(x.1*B+x.2)/B:=by rw [Nat.mul_comm,Nat.mul_add_div (by lia),Nat.div_eq_of_lt h1.2,Nat.add_zero]
  have ey:y.1=(y.1*B+y.2)/B:=by rw [Nat.mul_comm,Nat.mul_add_div (by lia),Nat.div_eq_of_lt h2.2,Nat.add_zero]
  have e1:x.1=y.1:=by rw [ex,ey,e]
  rw [e1] at e
  exact Prod.ext e1 (by lia)
 ·intro z hz
  obtain ⟨x,hx,rfl⟩:=List.mem_map.mp hz
  have h1:=h x hx
  have:(x.1+1)*B<=A*B:=Nat.mul_le_mul_right B h1.1
  rw [Nat.add_mul] at this
  lia
theorem qjn {α:Type}[BEq α][LawfulBEq α]{l:List α}{x:α}(h:x∈l):∃ j,l.findIdx? (· == x)=some j/\l[j]? = some x:=by
 cases e:l.findIdx? (· == x) with
 | none=>
  rw [List.findIdx?_eq_none_iff] at e
  have:=e x h
  simp at this
 | some j=>
  obtain ⟨hj,h1,_⟩:=List.findIdx?_eq_some_iff_getElem.mp e
  exact ⟨j,rfl,by rw [gG1 hj];simp at h1;rw [h1]⟩
theorem qlI {S:Sto}{n:Nat}{x:Nat×Nat}:∀ row:List (Nat×Nat),inL (eqN S (n+2)) (pD x) (row.map pD)=some (row.contains x)
 | []=>rfl
 | y::row=>by
  rw [mP1,inL,qhA,qlI row,List.contains_cons,show (y == x)=(x == y) from Bool.beq_comm];rfl
theorem qnA {S:Sto}{n:Nat}{row:List (Nat×Nat)}{x:Nat×Nat}{Q:D×Sto->Prop}(h:S[n]? = some (.lst (row.map pD)))(q:Q (.bl (!row.contains x),S)):W (qaH (pD x) (.ref n) S) Q:=by
 refine W.of ?_ q
 simp only [qaH,h,qcj,qdT,qcu h,oS1,qam,show (60:Nat)=58+2 from rfl,qlI,oP1]
theorem qpT {m:FE}{lo hi:FO}{r:Ev}{S:Sto}{xs:List D}{a b:Option Int}{Q:D×Sto->Prop}(hm:m r S=some (.tup xs,S))(hl:lo r S=some (a,S))(hh:hi r S=some (b,S))(q:Q (.tup (Mi.cutD xs a b),S)):W (mSlX m lo hi r S) Q:=by
 refine W.of ?_ q
 unfold mSlX
 rw [hm,oS1]
 dsimp only
 rw [hl,oS1]
 dsimp only
 rw [hh,oS1]
 simp only [qlw,qdA,oP1,bF1,if_false]
noncomputable def Don (w:qad)(cp i j:Nat)(F:List (TK×D)):Prop:=∀ r d e,At w r d e->lex (r,d) e=true->(r<i\/(r=i/\d<j)) -> ∀ k,k<cp->Ent w cp F r k d/\Ent w cp F e.1 k e.2
inductive AI (w:qad)(cp m n:Nat)(T:Sto):Nat->Ev->Sto->Prop
 | mk (i:Nat) (F:List (TK×D)) (G:Sto) (o':Ob) (x4 x5 x6 x7 x8 x9 x10:Option D) (hi:i<=m) (don:Don w cp i 0 F) (hF:F.length<=32*i) (ho:Hnd o' (n+16*i)):AI w cp m n T i [some (.ref 0),some (webD w),some (.int cp),some (.ref (T.length+1)),x4,x5,x6,x7,x8,x9,x10,none,none,none,none] (o'::(T++dO F::G))
inductive AJ (w:qad)(cp n:Nat)(T:Sto)(i:Nat)(row:List (Nat×Nat)):Nat->Ev->Sto->Prop
 | mk (j:Nat) (F:List (TK×D)) (G:Sto) (o':Ob) (x6 x7 x8 x9 x10:Option D) (hj:j<=row.length) (don:Don w cp i j F) (hF:F.length<=32*i+8*j) (ho:Hnd o' (n+16*i+4*j)):AJ w cp n T i row j [some (.ref 0),some (webD w),some (.int cp),some (.ref (T.length+1)),some (.int (i:Nat)),some (.tup (row.map pD)),x6,x7,x8,x9,x10,none,none,none,none] (o'::(T++dO F::G))
theorem qig {T:Sto}{o:Ob}{n m cp:Nat}{w:qad}{Q:Fl×Ev×Sto->Prop}(hw:WebB m w)(hm:m<=8)(hc:cp<=4)(ho:Hnd o n)(hn:n<=2^41)
  (q:∀ F G o' x4 x5 x6 x7 x8 x9 x10,Hnd o' (n+128)->(∀ r d e k,At w r d e->k<cp->Ent w cp F r k d) ->
   Q (.nx,[some (.ref 0),some (webD w),some (.int cp),some (.ref (T.length+1)),x4,x5,x6,x7,x8,x9,x10,none,none,none,none],o'::(T++dO F::G))):
  W (mFor (iEn (qaa (mV 1) mNil)) (gT 2 (gCs (gN 4) (gCs (gN 5) gNl))) qb9 [some (.ref 0),some (webD w),some (.int cp),some (.ref (T.length+1)),none,none,none,none,none,none,none,none,none,none,none] (o::(T++dO []::[]))) Q:=by
 unfold mFor
 rw [qae]
 refine qfC (xs:=w.map fun row=>.tup (row.map pD)) rfl ?_
 refine qaO (AI w cp m n T) _ 0 _ _ (.mk 0 [] [] o _ _ _ _ _ _ _ (Nat.zero_le _) (fun r d e h1 h2 h3=>by lia) (by simp) ho) (fun _ _ _ _=>rfl) ?_ ?_
 ·rintro i dd hd r S ⟨F,G,o',x4,x5,x6,x7,x8,x9,x10,hi,don,hF,ho'⟩
  rw [qbt,gP1,Option.map_map] at hd
  obtain ⟨row,hrow,rfl⟩:=oM1.mp hd
  have hil:=(gE1.mp hrow).1
  rw [hw.len] at hil
  have hr4:=hw.le i row hrow
  rw [Nat.zero_add] at *
  unfold Function.comp
  walk_at "own wq"
  unfold qb9 mFor
  rw [qae]
  refine qfC (xs:=row.map pD) rfl ?_
  refine qaO (AJ w cp n T i row) _ 0 _ _ (.mk 0 F G o' _ _ _ _ _ (Nat.zero_le _) don (by lia) (ho'.more (by lia))) (fun _ _ _ _=>rfl) ?_ ?_
  ·rintro j dd hd r S ⟨F,G,o',x6,x7,x8,x9,x10,hj,don,hF,ho'⟩
   rw [qbt,gP1,Option.map_map] at hd
   obtain ⟨e,he,rfl⟩:=oM1.mp hd
   have hjl:=(gE1.mp he).1
   have ha:At w i j e:=⟨row,hrow,he⟩
   have hb:=hw.back i j e ha
   rw [Nat.zero_add] at *
   unfold Function.comp pD
   walk_at "own wq"
   unfold qcV
   have el:∀ S,gLt (D.tup [D.int (i:Int),D.int (j:Int)]) (D.tup [D.int (e.1:Int),D.int (e.2:Int)]) S=some (.bl (lex (i,j) e),S):=fun S=>qpy (a:=(i,j)) (b:=e)
   unfold mIfS
   rw [qae]
   refine W.of (x:=(lex (i,j) e,o'::(T++dO F::G))) ?_ ?_
   ·simp only [mB,m2,mTup,qaa,mNil,mV,gC1,List.getElem?_cons_zero,Option.join_some,oP1,oS1,lC1,List.length_nil,b2,el,Nat.reduceAdd,if_pos (show 2<=sizeLine by decide)]
   dsimp only
   have up:∀ F',lex (i,j) e=true->Kept F F' (i,j) e->(∀ k,k<cp->Ent w cp F' i k j/\Ent w cp F' e.1 k e.2)->Don w cp i (j+1) F':=fun F' hlt kp new r d e' h1 h2 h3 k hk=>by
    by_cases hz:r=i/\d=j
    ·obtain ⟨rfl,rfl⟩:=hz
     obtain rfl:=qcX ha h1
     exact new k hk
    ·have hbf:r<i\/(r=i/\d<j):=by lia
     have n1:(r,d)≠(i,j):=fun z=>by injection z with z1 z2;lia
     have n2:(r,d)≠e:=fun z=>by
      rw [<- z] at hlt
      unfold lex at hlt
      simp at hlt
      lia
     have b1:=(hw.back r d e' h1).1
     have n3:e'≠(i,j):=fun z=>by
      rw [z] at b1
      exact n2 (qcX b1 ha)
     have n4:e'≠e:=fun z=>by
      rw [z] at b1
      exact n1 (qcX b1 hb.1)
     have:=don r d e' h1 h2 hbf k hk
     refine ⟨this.1.keep kp n1 n2 fun e2 h=>?_,this.2.keep kp n3 n4 fun e2 h=>?_⟩
     ·rw [<- qcX h1 h];exact ⟨n3,n4⟩
     ·rw [<- qcX b1 h];exact ⟨n1,n2⟩
   have up0:lex (i,j) e=false->Don w cp i (j+1) F:=fun hlt r d e' h1 h2 h3 k hk=>by
    by_cases hz:r=i/\d=j
    ·obtain ⟨rfl,rfl⟩:=hz
     obtain rfl:=qcX ha h1
     rw [hlt] at h2;cases h2
    ·exact don r d e' h1 h2 (by lia) k hk
   cases hl:lex (i,j) e with
   | false=>
    rw [if_neg (by decide)]
    exact qan.mpr ⟨rfl,.mk _ F G o' _ _ _ _ _ hjl (up0 hl) (by lia) (ho'.more (by lia))⟩
   | true=>
    rw [if_pos rfl]
    refine ql9 (w:=w) ho' (by lia) hc ha hb.1 hb.2 (by lia) fun F' G' o2 x9' x10' h1 h2 h3 h4=>?_
    exact ⟨rfl,.mk _ F' G' o2 _ _ _ _ _ hjl (up F' hl h2 h3) (by lia) (h1.more (by lia))⟩
  ·rintro r S ⟨F,G,o',x6,x7,x8,x9,x10,hj,don,hF,ho'⟩
   rw [qbM,lM1,Nat.zero_add] at *
   refine ⟨rfl,.mk _ F G o' _ _ _ _ _ _ _ hil (fun r d e h1 h2 h3=>don r d e h1 h2 ?_) (by lia) (ho'.more (by lia))⟩
   rcases (show r<i\/r=i by lia) with h | rfl
   ·exact .inl h
   ·obtain ⟨row',g1,g2⟩:=h1
    rw [hrow] at g1;cases g1
    exact .inr ⟨rfl,(gE1.mp g2).1⟩
 ·rintro r S ⟨F,G,o',x4,x5,x6,x7,x8,x9,x10,hi,don,hF,ho'⟩
  rw [qbM,lM1,Nat.zero_add,hw.len] at *
  refine q F G o' _ _ _ _ _ _ _ (ho'.more (by lia)) fun r d e k h hk=>?_
  have lim:∀ r d e,At w r d e->r<m:=fun r d e h=>by
   obtain ⟨row,g1,_⟩:=h
   rw [<- hw.len]
   exact (gE1.mp g1).1
  have hb:=hw.back r d e h
  cases hl:lex (r,d) e with
  | true=>exact (don r d e h hl (.inl (lim r d e h)) k hk).1
  | false=>exact (don e.1 e.2 (r,d) hb.1 (qna hl hb.2) (.inl (lim _ _ _ hb.1)) k hk).2
noncomputable def nxt (F:List (TK×D))(x:Nat×Nat)(d:Nat):(Nat×Nat)×Nat:=match qak F (tk3 x.1 x.2 d) with
 | some (.tup [.int a,.int b,.int c])=>((a.toNat,b.toNat),c.toNat)
 | _=>((0,0),0)
noncomputable def deg (w:qad)(r:Nat):Nat:=(w.getD r []).length
noncomputable def n3D (p:(Nat×Nat)×Nat):D:=t3D p.1.1 p.1.2 p.2
structure MI (m cp:Nat)(met:List (Nat×Nat)):Prop where
 nd:met.Nodup
 inn:∀ x∈met,x.1<m/\x.2<cp
theorem MI.few {m cp:Nat}{met:List (Nat×Nat)}(i:MI m cp met)(h:m*cp<=8):met.length<=8:=Nat.le_trans (few2 i.nd i.inn) h
noncomputable def All (w:qad)(cp:Nat)(F:List (TK×D)):Prop:=∀ r d e k,At w r d e->k<cp->Ent w cp F r k d
theorem qiV {w:qad}{m cp d:Nat}{F:List (TK×D)}{x:Nat×Nat}(hw:WebB m w)(all:All w cp F)(hx:x.1<m/\x.2<cp)(hd:d<deg w x.1):
  qak F (tk3 x.1 x.2 d)=some (n3D (nxt F x d))/\((nxt F x d).1.1<m/\(nxt F x d).1.2<cp)/\nxt F (nxt F x d).1 (nxt F x d).2=(x,d)/\(nxt F x d).2<deg w (nxt F x d).1.1:=by
 obtain ⟨row,hrow⟩:∃ row,w[x.1]? = some row:=⟨_,gG1 (by rw [hw.len];exact hx.1)⟩
 have hd':d<row.length:=by
  unfold deg at hd
  rw [List.getD_eq_getElem?_getD,hrow,Option.getD_some] at hd
  exact hd
 obtain ⟨e,k',h1,h2,h3,h4⟩:=all x.1 d row[d] x.2 ⟨row,hrow,gG1 hd'⟩ hx.2
 have en:nxt F x d=((e.1,k'),e.2):=by
  unfold nxt
  rw [h3]
  simp [t3D]
 rw [en]
 have eb:nxt F (e.1,k') e.2=(x,d):=by
  unfold nxt
  rw [h4]
  simp [t3D]
 refine ⟨h3,⟨hw.to x.1 d e h1,h2⟩,eb,?_⟩
 obtain ⟨row2,g1,g2⟩:=(hw.back x.1 d e h1).1
 unfold deg
 rw [List.getD_eq_getElem?_getD,g1]
 exact (gE1.mp g2).1
noncomputable def Cl (w:qad)(F:List (TK×D))(met:List (Nat×Nat))(i j:Nat):Prop:=∀ a d x,met[a]? = some x->d<deg w x.1->(a<i\/(a=i/\d<j))->(nxt F x d).1∈met
noncomputable def Jn (w:qad)(F:List (TK×D))(met:List (Nat×Nat)):Prop:=∀ b y,1<=b->met[b]? = some y -> ∃ a d x,a<b/\met[a]? = some x/\d<deg w x.1/\(nxt F x d).1=y
theorem Jn.snoc {w:qad}{F:List (TK×D)}{met:List (Nat×Nat)}{a d:Nat}{x:Nat×Nat}(j:Jn w F met)(ha:met[a]? = some x)(hd:d<deg w x.1):Jn w F (met++[(nxt F x d).1]):=by
 have hal:=(gE1.mp ha).1
 intro b y hb hy
 by_cases hlt:b<met.length
 ·rw [gL1 hlt] at hy
  obtain ⟨a',d',x',g1,g2,g3,g4⟩:=j b y hb hy
  exact ⟨a',d',x',g1,by rw [gL1 (by lia)];exact g2,g3,g4⟩
 ·have:=(gE1.mp hy).1
  rw [lA1,List.length_singleton] at this
  have e:b=met.length:=by lia
  subst e
  rw [List.getElem?_concat_length] at hy
  cases hy
  exact ⟨a,d,x,hal,by rw [gL1 hal];exact ha,hd,rfl⟩
theorem get3 {S:Sto}{n:Nat}{F:List (TK×D)}{x:Nat×Nat}{d:Nat}(h:S[n]? = some (dO F))(hl:qak F (tk3 x.1 x.2 d)=some (n3D (nxt F x d))):gIxY (.ref n) (t3D x.1 x.2 d) S=some (n3D (nxt F x d),S):=by
 obtain ⟨p,e,rfl⟩:=qlW (Q:=fun p=>p=(n3D (nxt F x d),S)) h key3 hl rfl
 exact e
theorem W_m2 {f:FN}{a b:FE}{r:Ev}{S:Sto}{Q:D×Sto->Prop}(h:W (a r S) fun p=>W (b r p.2) fun q=>W (f [p.1,q.1] q.2) Q):W (m2 f a b r S) Q:=by
 unfold m2
 rw [qae]
 exact h.mono fun p hp=>by rw [qae];exact hp
theorem cut2 {p:(Nat×Nat)×Nat}:D.tup (Mi.cutD [.int p.1.1,.int p.1.2,.int p.2] none (some 2))=pD p.1:=rfl
theorem qqC {V:Sto}{o:Ob}{n m cp:Nat}{w:qad}{F:List (TK×D)}{x4 x5 x6 x7 x8 x9 x10 x13 x14:Option D}{Q:Fl×Ev×Sto->Prop}(hw:WebB m w)(hm0:0<m)(hc0:0<cp)(h8:m*cp<=8)(all:All w cp F)(hV:V[n]? = some (dO F))
  (q:∀ met y4 y6 y9 y12,MI m cp met->0<met.length->Cl w F met met.length 0->Jn w F met->Q (.nx,[some (.ref 0),some (webD w),some (.int cp),some (.ref (n+1)),y4,x5,y6,x7,x8,y9,x10,some (.ref (V.length+1)),y12,x13,x14],o::(V++[.lst (met.map pD)]))):
  W (whl qb8 qb7 100000 [some (.ref 0),some (webD w),some (.int cp),some (.ref (n+1)),x4,x5,x6,x7,x8,x9,x10,some (.ref (V.length+1)),some (.int ((0:Nat):Int)),x13,x14] (o::(V++[.lst ([(0,0)].map pD)]))) Q:=by
 have gm:∀ (X:Ob),(o::(V++[X]))[V.length+1]? = some X:=fun X=>by rw [gC1,qai];rfl
 have gs:∀ (Y:Sto),(o::(V++Y))[n+1]? = some (dO F):=fun Y=>by rw [gC1,gL1 (gE1.mp hV).1];exact hV
 refine qim (fun k r S=>∃ met y4 y6 y9,MI m cp met/\k<=met.length/\0<met.length/\Cl w F met k 0/\Jn w F met/\S=o::(V++[.lst (met.map pD)])/\r=[some (.ref 0),some (webD w),some (.int cp),some (.ref (n+1)),y4,x5,y6,x7,x8,y9,x10,some (.ref (V.length+1)),some (.int (k:Nat)),x13,x14]) 8 ?_ 100000 0 _ _ (by lia) ⟨[(0,0)],_,_,_,⟨by simp,fun x hx=>by simp at hx;subst hx;exact ⟨hm0,hc0⟩⟩,by lia,by simp,fun a d x _ _ h=>by lia,fun b y h1 h2=>by have:=(gE1.mp h2).1;simp at this;lia,rfl,rfl⟩
 rintro k r S ⟨met,y4,y6,y9,mi,hk,hp,cl,jn,rfl,rfl⟩
 have hf:=mi.few h8
 unfold qb8
 walk_at "own wq"
 refine qaE (gm _) ?_
 walk_at "own wq"
 rw [lM1]
 by_cases hlt:k<met.length
 ·rw [if_pos (by rw [decide_eq_true_eq];lia)]
  refine ⟨by lia,?_⟩
  obtain ⟨x,hx⟩:∃ x,met[k]? = some x:=⟨_,gG1 hlt⟩
  have hxi:=mi.inn x (gM1 hx)
  obtain ⟨row,hrow⟩:∃ row,w[x.1]? = some row:=⟨_,gG1 (by rw [hw.len];exact hxi.1)⟩
  have hdeg:deg w x.1=row.length:=by unfold deg;rw [List.getD_eq_getElem?_getD,hrow];rfl
  have hr4:=hw.le _ row hrow
  unfold qb7
  refine seqW (fun r S=>S=o::(V++[.lst (met.map pD)])/\r=[some (.ref 0),some (webD w),some (.int cp),some (.ref (n+1)),some (.int (x.1:Nat)),x5,y6,x7,x8,some (.int (x.2:Nat)),x10,some (.ref (V.length+1)),some (.int (k:Nat)),x13,x14]) ?_ ?_
  ·walk_at "own wq"
   refine qex (i:=k) (xs:=met.map pD) (x:=pD x) (gm _) (by rw [gP1,hx];rfl) ?_
   rw [pD]
   walk_at "own wq"
  rintro r S ⟨rfl,rfl⟩
  refine seqW (fun r S=>∃ met' y6,met'[k]? = some x/\MI m cp met'/\Cl w F met' k row.length/\Jn w F met'/\S=o::(V++[.lst (met'.map pD)])/\r=[some (.ref 0),some (webD w),some (.int cp),some (.ref (n+1)),some (.int (x.1:Nat)),x5,y6,x7,x8,some (.int (x.2:Nat)),x10,some (.ref (V.length+1)),some (.int (k:Nat)),x13,x14]) ?_ ?_
  ·walk_at "own wq"
   unfold webD
   refine qew (i:=x.1) (x:=.tup (row.map pD)) (by rw [gP1,hrow];rfl) ?_
   walk_at "own wq"
   rw [lM1]
   refine ⟨qba (by lia),?_⟩
   rw [qdl,Int.toNat_natCast]
   refine qaO (fun j r S=>∃ met' y6,j<=row.length/\met'[k]? = some x/\MI m cp met'/\Cl w F met' k j/\Jn w F met'/\S=o::(V++[.lst (met'.map pD)])/\r=[some (.ref 0),some (webD w),some (.int cp),some (.ref (n+1)),some (.int (x.1:Nat)),x5,y6,x7,x8,some (.int (x.2:Nat)),x10,some (.ref (V.length+1)),some (.int (k:Nat)),x13,x14]) _ 0 _ _ ⟨met,_,by lia,hx,mi,cl,jn,rfl,rfl⟩ (fun _ _ _ _=>rfl) ?_ ?_
   ·rintro j dd hd r S ⟨met',z6,hj,hx',mi',cl',jn',rfl,rfl⟩
    have hjl:=(gE1.mp hd).1
    rw [lM1,List.length_range] at hjl
    rw [gP1,List.getElem?_range hjl] at hd
    cases hd
    rw [Nat.zero_add] at *
    have hf':=mi'.few h8
    obtain ⟨n1,⟨n2,n3⟩,_⟩:=qiV hw all hxi (d:=j) (by rw [hdeg];exact hjl)
    have sl:∀ (r:Ev) (S:Sto) (P:D×Sto->Prop),S[n+1]? = some (dO F)->r[3]? = some (some (.ref (n+1)))->r[4]? = some (some (.int (x.1:Nat)))->r[9]? = some (some (.int (x.2:Nat)))->r[6]? = some (some (.int (j:Nat)))->P (pD (nxt F x j).1,S)->W (mSlX (m2 (b2 gIxY) (mV 3) (mTup (qaa (mV 4) (qaa (mV 9) (qaa (mV 6) mNil))))) qh2 (qh1 (mC (D.int (2)))) r S) P:=by
     intro r S P hS h3 h4 h9 h6 p
     refine qpT (xs:=[.int (nxt F x j).1.1,.int (nxt F x j).1.2,.int (nxt F x j).2]) (a:=none) (b:=some 2) ?_ rfl rfl p
     have:=get3 hS n1
     simp only [m2,mTup,qaa,mNil,mV,h3,h4,h9,h6,Option.join_some,oP1,oS1,lC1,List.length_nil,b2,Nat.reduceAdd,if_pos (show 3<=sizeLine by decide)]
     exact this
    walk_at "own wq"
    unfold qcU mIfS mB
    rw [qae,qae]
    refine W_m2 ?_
    refine sl _ _ _ (gs _) rfl rfl rfl rfl ?_
    walk_at "own wq"
    refine qnA (gm _) ?_
    walk_at "own wq"
    have step:∀ met2:List (Nat×Nat),(∀ a,a<=k->met2[a]? = met'[a]?)->(∀ z∈met',z∈met2)->(nxt F x j).1∈met2->Cl w F met2 k (j+1):=fun met2 hg hs hm a d y h1 h2 h3=>by
     rw [hg a (by lia)] at h1
     by_cases hz:a=k/\d=j
     ·obtain ⟨rfl,rfl⟩:=hz
      rw [hx'] at h1;cases h1
      exact hm
     ·exact hs _ (cl' a d y h1 h2 (by lia))
    have hkl:=(gE1.mp hx').1
    by_cases hin:(nxt F x j).1∈met'
    ·rw [if_neg (by simpa using hin)]
     exact ⟨met',_,by lia,hx',mi',step met' (fun _ _=>rfl) (fun _ h=>h) hin,jn',rfl,rfl⟩
    ·rw [if_pos (by simpa using hin)]
     refine qds ?_
     walk_at "own wq"
     refine ⟨V.length+1,met'.map pD,rfl,gm _,?_⟩
     refine sl _ _ _ (gs _) rfl rfl rfl rfl ?_
     walk_at "own wq"
     refine (qeF (gm _)).mpr ⟨qah (by rw [lM1];lia),?_⟩
     refine ⟨met'++[(nxt F x j).1],_,by lia,by rw [gL1 hkl];exact hx',⟨?_,?_⟩,step _ (fun a ha=>gL1 (by lia)) (fun z h=>List.mem_append_left _ h) (by simp),jn'.snoc hx' (by rw [hdeg];exact hjl),?_,rfl⟩
     ·refine List.nodup_append.mpr ⟨mi'.nd,by simp,fun a ha b hb e=>?_⟩
      rw [List.mem_singleton] at hb
      exact hin (by rw [<- hb,<- e];exact ha)
     ·intro y hy
      rcases List.mem_append.mp hy with hy | hy
      ·exact mi'.inn y hy
      ·rw [List.mem_singleton] at hy
       subst hy
       exact ⟨n2,n3⟩
     ·rw [List.set_cons_succ,List.set_append_right _ _ (nR1 _),Nat.sub_self,List.map_append];rfl
   ·rintro r S ⟨met',z6,hj,hx',mi',cl',jn',rfl,rfl⟩
    rw [lM1,List.length_range,Nat.zero_add] at *
    exact ⟨rfl,met',_,hx',mi',cl',jn',rfl,rfl⟩
  rintro r S ⟨met',z6,hx',mi',cl',jn',rfl,rfl⟩
  have hlt':=(gE1.mp hx').1
  walk_at "own wq"
  refine ⟨met',_,_,_,mi',by lia,by lia,fun a d y h1 h2 h3=>cl' a d y h1 h2 ?_,jn',rfl,by push_cast;rfl⟩
  rcases (show a<k\/a=k by lia) with h | rfl
  ·exact .inl h
  ·rw [hx'] at h1;cases h1
   exact .inr ⟨rfl,by rw [<- hdeg];exact h2⟩
 ·rw [if_neg (by rw [decide_eq_true_eq];lia)]
  have e:k=met.length:=by lia
  subst e
  exact q met _ _ _ _ mi hp cl jn
noncomputable def idx (met:List (Nat×Nat))(y:Nat×Nat):Nat:=(met.findIdx? (· == y)).getD 0
noncomputable def rowC (w:qad)(F:List (TK×D))(met:List (Nat×Nat))(x:Nat×Nat):List (Nat×Nat):=(List.range (deg w x.1)).map fun d=>(idx met (nxt F x d).1,(nxt F x d).2)
noncomputable def cov (w:qad)(F:List (TK×D))(met:List (Nat×Nat)):qad:=met.map (rowC w F met)
theorem qga {met:List (Nat×Nat)}{y:Nat×Nat}(h:y∈met):met.findIdx? (· == y)=some (idx met y)/\met[idx met y]? = some y:=by
 obtain ⟨j,h1,h2⟩:=qjn h
 unfold idx
 rw [h1]
 exact ⟨rfl,h2⟩
theorem qhO {w:qad}{F:List (TK×D)}{met:List (Nat×Nat)}{r d:Nat}{e:Nat×Nat}:At (cov w F met) r d e ↔ ∃ x,met[r]? = some x/\d<deg w x.1/\e=(idx met (nxt F x d).1,(nxt F x d).2):=by
 unfold At cov
 rw [gP1]
 constructor
 ·rintro ⟨row,h1,h2⟩
  obtain ⟨x,h3,rfl⟩:=oM1.mp h1
  unfold rowC at h2
  rw [gP1] at h2
  obtain ⟨d',h4,rfl⟩:=oM1.mp h2
  have hl:=(gE1.mp h4).1
  rw [List.length_range] at hl
  rw [List.getElem?_range hl] at h4
  cases h4
  exact ⟨x,h3,hl,rfl⟩
 ·rintro ⟨x,h1,h2,rfl⟩
  refine ⟨rowC w F met x,by rw [h1];rfl,?_⟩
  unfold rowC
  rw [gP1,List.getElem?_range h2];rfl
theorem qpD {m:Nat}{w:qad}(hw:WebB m w)(r:Nat):deg w r<=4:=by
 unfold deg
 rw [List.getD_eq_getElem?_getD]
 cases h:w[r]? with
 | none=>simp
 | some row=>exact hw.le r row h
theorem qj5 {m cp:Nat}{w:qad}{F:List (TK×D)}{met:List (Nat×Nat)}(hw:WebB m w)(all:All w cp F)(mi:MI m cp met)(nd:met.Nodup)(cl:Cl w F met met.length 0)(jn:Jn w F met):WebC met.length (cov w F met):=by
 refine ⟨⟨by unfold cov;rw [lM1],fun i row h=>?_,fun r d e h=>?_,fun j h1 h2=>?_⟩,fun r d e h=>?_⟩
 ·unfold cov at h
  rw [gP1] at h
  obtain ⟨x,_,rfl⟩:=oM1.mp h
  unfold rowC
  rw [lM1,List.length_range]
  exact qpD hw _
 ·obtain ⟨x,h1,h2,rfl⟩:=qhO.mp h
  have:=(qga (cl r d x h1 h2 (.inl (gE1.mp h1).1))).2
  exact (gE1.mp this).1
 ·obtain ⟨y,hy⟩:∃ y,met[j]? = some y:=⟨_,gG1 h2⟩
  obtain ⟨a,d,x,g1,g2,g3,g4⟩:=jn j y h1 hy
  refine ⟨a,d,_,g1,qhO.mpr ⟨x,g2,g3,rfl⟩,?_⟩
  dsimp only
  rw [g4]
  have h3:=(qga (gM1 hy)).2
  obtain ⟨l1,e1⟩:=gE1.mp h3
  obtain ⟨l2,e2⟩:=gE1.mp hy
  exact (List.getElem_inj nd).mp (by rw [e1,e2])
 ·obtain ⟨x,h1,h2,rfl⟩:=qhO.mp h
  have hx:=mi.inn x (gM1 h1)
  obtain ⟨_,_,n3,n4⟩:=qiV hw all hx h2
  have h4:=(qga (cl r d x h1 h2 (.inl (gE1.mp h1).1))).2
  refine qhO.mpr ⟨_,h4,n4,?_⟩
  rw [n3]
  dsimp only
  have h3:=(qga (gM1 h1)).2
  obtain ⟨l1,e1⟩:=gE1.mp h3
  obtain ⟨l2,e2⟩:=gE1.mp h1
  rw [(List.getElem_inj nd).mp (e1.trans e2.symm)]
theorem qkI {o a b X:Ob}{V G:Sto}:(o::(V++a::b::(G++[X])))[V.length+(G.length+2)+1]? = some X:=by
 rw [gC1,qaU,gC1,gC1,qai];rfl
inductive CI (w:qad)(cp n:Nat)(T:Sto):Ev->Sto->Prop
 | mk (F:List (TK×D)) (G:Sto) (o':Ob) (x4 x5 x6 x7 x8 x9 x10:Option D) (ho:Hnd o' (n+128)) (all:All w cp F):CI w cp n T [some (.ref 0),some (webD w),some (.int cp),some (.ref (T.length+1)),x4,x5,x6,x7,x8,x9,x10,none,none,none,none] (o'::(T++dO F::G))
inductive CJ (w:qad)(m cp:Nat)(T V:Sto)(F:List (TK×D))(o':Ob)(x5 x7 x8 x10:Option D):Ev->Sto->Prop
 | mk (met:List (Nat×Nat)) (y4 y6 y9 y12:Option D) (mi:MI m cp met) (hp:0<met.length) (cl:Cl w F met met.length 0) (jn:Jn w F met):CJ w m cp T V F o' x5 x7 x8 x10 [some (.ref 0),some (webD w),some (.int cp),some (.ref (T.length+1)),y4,x5,y6,x7,x8,y9,x10,some (.ref (V.length+1)),y12,none,none] (o'::(V++[.lst (met.map pD)]))
theorem qno {o:Ob}{n m cp:Nat}{T:Sto}{w:qad}{Q:D×Sto->Prop}(hw:WebB m w)(hm0:0<m)(hc0:0<cp)(hc:cp<=4)(h8:m*cp<=8)(ho:Hnd o n)(hn:n<=2^40)(hT:T.all (Ob.und (T.length+1))=true)
  (q:∀ m' cw rs o',0<m'->m'<=8->WebC m' cw->rs.length=m'->Hnd o' (n+128)->Q (.tup [webD cw,.tup (nmD rs)],o'::T)):W (qaj 3 qbI [.ref 0,webD w,.int cp] (o::T)) Q:=by
 have hm8:m<=8:=Nat.le_trans (Nat.le_mul_of_pos_right m hc0) h8
 refine qie rfl rfl hT ?_
 unfold qbI
 refine fnW ?_
 unfold qcF
 refine seqW (fun r S=>S=o::(T++dO []::[])/\r=[some (.ref 0),some (webD w),some (.int cp),some (.ref (T.length+1)),none,none,none,none,none,none,none,none,none,none,none]) ?_ ?_
 ·have d0:dO [] = .dct []:=if_pos rfl
  rw [d0]
  ((try walk_at "own wq");repeat (simp only [qgN];try walk_at "own wq"))
 rintro r S ⟨rfl,rfl⟩
 refine seqW (CI w cp n T) ?_ ?_
 ·exact qig hw hm8 hc ho (by lia) fun F G o' x4 x5 x6 x7 x8 x9 x10 h1 h2=>⟨rfl,.mk F G o' _ _ _ _ _ _ _ h1 h2⟩
 rintro r S ⟨F,G,o',x4,x5,x6,x7,x8,x9,x10,ho',all⟩
 generalize hV:T++dO F::G=V
 have hVs:V[T.length]? = some (dO F):=by rw [<- hV,qai];rfl
 refine seqW (fun r S=>S=o'::(V++[.lst ([(0,0)].map pD)])/\r=[some (.ref 0),some (webD w),some (.int cp),some (.ref (T.length+1)),x4,x5,x6,x7,x8,x9,x10,some (.ref (V.length+1)),some (.int ((0:Nat):Int)),none,none]) ?_ ?_
 ·walk_at "own wq"
  exact ⟨rfl,rfl⟩
 rintro r S ⟨rfl,rfl⟩
 refine seqW (CJ w m cp T V F o' x5 x7 x8 x10) ?_ ?_
 ·exact qqC hw hm0 hc0 h8 all hVs fun met y4 y6 y9 y12 h1 h2 h3 h4=>⟨rfl,.mk met _ _ _ _ h1 h2 h3 h4⟩
 rintro r S ⟨met,y4,y6,y9,y12,mi,hp,cl,jn⟩
 have hf:=mi.few h8
 refine seqW (fun r S=>S=o'::(V ++ .lst (met.map pD) :: .lst []::[])/\r=[some (.ref 0),some (webD w),some (.int cp),some (.ref (T.length+1)),y4,x5,y6,x7,x8,y9,x10,some (.ref (V.length+1)),y12,some (.ref (V.length+2)),none]) ?_ ?_
 ·walk_at "own wq"
 rintro r S ⟨rfl,rfl⟩
 have gm:∀ (X:Ob) (Y:Sto),(o'::(V++X::Y))[V.length+1]? = some X:=fun X Y=>by rw [gC1,qai];rfl
 have gf:∀ (X Z:Ob) (Y:Sto),(o'::(V++X::Z::Y))[V.length+2]? = some Z:=fun X Z Y=>by rw [gC1,qaU];rfl
 have gs:∀ (Y:Sto),(o'::(V++Y))[T.length+1]? = some (dO F):=fun Y=>by rw [gC1,gL1 (gE1.mp hVs).1];exact hVs
 let rD:List (Nat×Nat)->D:=fun row=>.tup (row.map pD)
 refine seqW (fun r S=>∃ G2 y4 y9 y14,S=o'::(V ++ .lst (met.map pD) :: .lst ((cov w F met).map rD)::G2)/\r=[some (.ref 0),some (webD w),some (.int cp),some (.ref (T.length+1)),y4,x5,y6,x7,x8,y9,x10,some (.ref (V.length+1)),y12,some (.ref (V.length+2)),y14]) ?_ ?_
 ·walk_at "own wq"
  refine qaE (gm _ _) ?_
  refine qaO (fun i r S=>∃ G2 y4 y9 y14,i<=met.length/\S=o'::(V ++ .lst (met.map pD) :: .lst (((cov w F met).take i).map rD)::G2)/\r=[some (.ref 0),some (webD w),some (.int cp),some (.ref (T.length+1)),y4,x5,y6,x7,x8,y9,x10,some (.ref (V.length+1)),y12,some (.ref (V.length+2)),y14]) _ 0 _ _ ⟨[],_,_,_,by lia,rfl,rfl⟩ ?_ ?_ ?_
  ·rintro i r S ⟨G2,_,_,_,_,rfl,_⟩
   exact qbp (gm _ _)
  ·rintro i dd hd r S ⟨G2,z4,z9,z14,hi,rfl,rfl⟩
   dsimp only at hd
   rw [gP1] at hd
   obtain ⟨x,hx,rfl⟩:=oM1.mp hd
   have hil:=(gE1.mp hx).1
   have hxi:=mi.inn x (gM1 hx)
   obtain ⟨row,hrow⟩:∃ row,w[x.1]? = some row:=⟨_,gG1 (by rw [hw.len];exact hxi.1)⟩
   have hdeg:deg w x.1=row.length:=by unfold deg;rw [List.getD_eq_getElem?_getD,hrow];rfl
   have hr4:=hw.le _ row hrow
   rw [Nat.zero_add] at *
   rw [pD]
   walk_at "own wq"
   unfold qcT
   refine seqW (fun r S=>S=o'::(V ++ .lst (met.map pD) :: .lst (((cov w F met).take i).map rD)::(G2++[.lst ((List.range (deg w x.1)).map fun d=>n3D (nxt F x d))]))/\r=[some (.ref 0),some (webD w),some (.int cp),some (.ref (T.length+1)),some (.int (x.1:Nat)),x5,y6,x7,x8,some (.int (x.2:Nat)),x10,some (.ref (V.length+1)),y12,some (.ref (V.length+2)),some (.ref (V.length+(G2.length+2)+1))]) ?_ ?_
   ·walk_at "own wq"
    rw [show webD w = .tup (w.map fun row=>.tup (row.map pD)) from rfl]
    refine qew (i:=x.1) (x:=.tup (row.map pD)) (by rw [gP1,hrow];rfl) ?_
    walk_at "own wq"
    rw [lM1]
    refine ⟨qba (by lia),?_⟩
    rw [qdl,Int.toNat_natCast,<- hdeg]
    refine mapW (f:=fun j:Nat=>D.int j) (fun d=>n3D (nxt F x d)) (fun r=>∃ y,r=[y,some (.ref (T.length+1)),some (.int (x.1:Nat)),some (.int (x.2:Nat))]) rfl (List.range (deg w x.1)) _ ⟨_,rfl⟩ ?_ ?_
    ·rintro d hd r ⟨y,rfl⟩
     have n1:=(qiV hw all hxi (List.mem_range.mp hd)).1
     walk_at "own wq"
     refine W.of (get3 (gs _) n1) ⟨rfl,rfl,_,rfl⟩
    ·rintro r' _
     refine ⟨qah (by rw [lM1,List.length_range];lia),?_⟩
     walk_at "own wq"
   rintro r S ⟨rfl,rfl⟩
   walk_at "own wq"
   refine qds ?_
   walk_at "own wq"
   refine ⟨V.length+2,_,rfl,gf _ _ _,?_⟩
   refine qaE qkI ?_
   refine mapW (f:=fun d=>n3D (nxt F x d)) (fun d=>pD (idx met (nxt F x d).1,(nxt F x d).2)) (fun r=>∃ y,r=[y,some (.ref (V.length+1))]) (qbp qkI) (List.range (deg w x.1)) _ ⟨_,rfl⟩ ?_ ?_
   ·rintro d hd r ⟨y,rfl⟩
    have hin:=cl i d x hx (List.mem_range.mp hd) (.inl hil)
    walk_at "own wq"
    refine qds ?_
    walk_at "own wq"
    refine ⟨V.length+1,_,rfl,gm _ _,?_⟩
    refine qpT (xs:=[.int (nxt F x d).1.1,.int (nxt F x d).1.2,.int (nxt F x d).2]) (a:=none) (b:=some 2) rfl rfl rfl ?_
    rw [cut2]
    walk_at "own wq"
    refine qpV (e:=(nxt F x d).1) (gm _ _) (by lia) (qga hin).1 ?_
    refine qew (i:=2) (xs:=[.int (nxt F x d).1.1,.int (nxt F x d).1.2,.int (nxt F x d).2]) (x:=.int (nxt F x d).2) rfl ?_
    walk_at "own wq"
    exact ⟨rfl,_,rfl⟩
   ·rintro r' _
    refine ⟨qah (by rw [lM1,List.length_range];lia),?_⟩
    walk_at "own wq"
    refine qaE (xs:=(List.range (deg w x.1)).map fun d=>pD (idx met (nxt F x d).1,(nxt F x d).2)) ?_ ?_
    ·rw [show ∀ (a b:Ob),G2++[a,b]=(G2++[a])++[b] from fun a b=>by simp]
     have:=qkI (o:=o') (a:=.lst (met.map pD)) (b:=.lst (((cov w F met).take i).map rD)) (V:=V) (G:=G2++[.lst ((List.range (deg w x.1)).map fun d=>n3D (nxt F x d))]) (X:=.lst ((List.range (deg w x.1)).map fun d=>pD (idx met (nxt F x d).1,(nxt F x d).2)))
     rw [<- this]
     congr 1
     simp
     try lia
    refine (qeF (gf _ _ _)).mpr ⟨qah (by rw [lM1,List.length_take];lia),?_⟩
    refine ⟨G2++[.lst ((List.range (deg w x.1)).map fun d=>n3D (nxt F x d)),.lst ((List.range (deg w x.1)).map fun d=>pD (idx met (nxt F x d).1,(nxt F x d).2))],_,_,_,by lia,?_,rfl⟩
    ·rw [List.set_cons_succ,List.set_append_right _ _ (by lia),show V.length+1-V.length=1 by lia,List.take_succ]
     rw [show (cov w F met)[i]? = some (rowC w F met x) by unfold cov;rw [gP1,hx];rfl]
     rw [Option.toList_some,List.map_append]
     rw [show [rowC w F met x].map rD=[.tup ((List.range (deg w x.1)).map fun d=>pD (idx met (nxt F x d).1,(nxt F x d).2))] by simp [rD,rowC,Function.comp_def]]
     rfl
  ·rintro r S ⟨G2,z4,z9,z14,hi,rfl,rfl⟩
   rw [lM1,Nat.zero_add,List.take_of_length_le (by unfold cov;rw [lM1];exact nR1 _)]
   exact ⟨rfl,G2,_,_,_,rfl,rfl⟩
 rintro r S ⟨G2,z4,z9,z14,rfl,rfl⟩
 have hcl:(cov w F met).length=met.length:=by unfold cov;rw [lM1]
 walk_at "own wq"
 refine qaE (gf _ _ _) ?_
 refine qaE (gm _ _) ?_
 refine mapW (f:=pD) (fun x:Nat×Nat=>D.int (x.1:Nat)) (fun r=>∃ y0 y1,r=[y0,y1]) (qbp (gm _ _)) met _ ⟨_,_,rfl⟩ ?_ ?_
 ·rintro x hx r ⟨y0,y1,rfl⟩
  rw [pD]
  walk_at "own wq"
  exact ⟨_,_,rfl⟩
 ·rintro r' _
  refine ⟨qah (by rw [lM1];lia),?_⟩
  walk_at "own wq"
  refine qaE (xs:=met.map fun x:Nat×Nat=>D.int (x.1:Nat)) qkI ?_
  walk_at "own wq"
  have e:met.map (fun x:Nat×Nat=>D.int (x.1:Nat))=nmD (met.map (·.1)):=by rw [nmD,List.map_map];rfl
  rw [e]
  refine ⟨.tup [webD (cov w F met),.tup (nmD (met.map (·.1)))],o',(dO F::G)++(.lst (met.map pD) :: .lst ((cov w F met).map rD)::(G2++[.lst (nmD (met.map (·.1)))])),?_,?_,ho'.und,q met.length _ _ o' hp hf (qj5 hw all mi mi.nd cl jn) (by rw [lM1]) ho'⟩
  ·rw [<- hV,List.append_assoc];rfl
  ·rw [D.und,D.unds,qaL,D.unds,D.unds,D.und,qaW];rfl
theorem qra {m:FA}{r:Ev}{S S1:Sto}{k:Nat}{Q:D×Sto->Prop}(h:m r S=some ([.int k],S1))(hk:k<=1000)(q:Q (.tup (nmD (List.range k)),S1)):W (mTR1 m r S) Q:=by
 refine W.of ?_ q
 unfold mTR1
 rw [h,oS1]
 dsimp only
 have:qfH 0 (k:Int)=true:=by
  unfold qfH
  simp only [bA1,decide_eq_true_eq]
  lia
 rw [if_pos this,Int.toNat_natCast,qdl]
 rfl
theorem div8 {cp:Nat}{S:Sto}(h1:1<=cp)(h4:cp<=4):gDiv (.int 8) (.int cp) S=some (.int ((8/cp:Nat):Int),S):=by
 match cp,h1,h4 with
 | 1,_,_=>rfl
 | 2,_,_=>rfl
 | 3,_,_=>rfl
 | 4,_,_=>rfl
theorem qcy {w:qad}{S:Sto}:gLen (webD w) S=some (.int w.length,S):=by
 unfold webD
 rw [qi4,lM1]
theorem six {d:Nat}(h:d<6):∃ cp:Nat,([.int 1,.int 1,.int 2,.int 2,.int 3,.int 4]:List D)[d]? = some (.int cp)/\1<=cp/\cp<=4:=by
 match d,h with
 | 0,_=>exact ⟨1,rfl,by decide,by decide⟩
 | 1,_=>exact ⟨1,rfl,by decide,by decide⟩
 | 2,_=>exact ⟨2,rfl,by decide,by decide⟩
 | 3,_=>exact ⟨2,rfl,by decide,by decide⟩
 | 4,_=>exact ⟨3,rfl,by decide,by decide⟩
 | 5,_=>exact ⟨4,rfl,by decide,by decide⟩
theorem mul8 {m cp:Nat}(h:m<=8/cp):m*cp<=8:=Nat.le_trans (Nat.mul_le_mul_right cp h) (Nat.div_mul_le_self 8 cp)
theorem qp4 {o:Ob}{n:Nat}{T:Sto}{Q:D×Sto->Prop}(ho:Hnd o n)(hn:n<=2^39)(hT:T.all (Ob.und (T.length+1))=true)
  (q:∀ m w rs o',0<m->m<=8->WebC m w->rs.length=m->Hnd o' (n+300)->Q (.tup [webD w,.tup (nmD rs)],o'::T)):W (qaj 1 qcf [.ref 0] (o::T)) Q:=by
 refine qie rfl rfl hT ?_
 unfold qcf
 refine fnW ?_
 unfold qdO
 generalize hX:T++[Ob.lst [.int 1,.int 1,.int 2,.int 2,.int 3,.int 4]]=X
 have hX2:X.all (Ob.und (X.length+1))=true:=by rw [<- hX];exact allU hT rfl
 refine seqW (fun r S=>∃ (cp:Nat) (o1:Ob),1<=cp/\cp<=4/\Hnd o1 (n+1)/\S=o1::X/\r=[some (.ref 0),some (.int cp),none]) ?_ ?_
 ·walk_at "own wq"
  refine qcM ho (by lia) (by lia) (by lia) fun d o1 ho1 hd=>?_
  obtain ⟨cp,h1,h2,h3⟩:=six (d:=d) (by lia)
  walk_at "own wq"
  refine qex (i:=d) (xs:=[.int 1,.int 1,.int 2,.int 2,.int 3,.int 4]) (x:=.int cp) (by rw [gC1,qai];rfl) h1 ?_
  exact ⟨cp,o1,h2,h3,ho1,by rw [hX],rfl⟩
 rintro r S ⟨cp,o1,h1,h4,ho1,rfl,rfl⟩
 refine seqW (fun r S=>∃ (m:Nat) (w:qad) (o2:Ob),0<m/\m<=8/cp/\WebB m w/\Hnd o2 (n+101)/\S=o2::X/\r=[some (.ref 0),some (.int cp),some (webD w)]) ?_ ?_
 ·((try walk_at "own wq");repeat (simp only [div8 h1 h4];try walk_at "own wq"))
  have h8:1<=8/cp:=Nat.div_pos (by lia) (by lia)
  refine qmw ho1 (by lia) hX2 h8 (Nat.div_le_self 8 cp) fun m w o2 hm0 hm hw ho2=>?_
  exact ⟨m,w,o2,hm0,hm,hw,ho2.more (by lia),rfl,rfl⟩
 rintro r S ⟨m,w,o2,hm0,hm,hw,ho2,rfl,rfl⟩
 have hm8:m<=8:=Nat.le_trans hm (Nat.div_le_self 8 cp)
 have e1:((cp:Int) == 1)=decide (cp=1):=by
  rw [Bool.eq_iff_iff,beq_iff_eq,decide_eq_true_eq];lia
 unfold mSeq mIfS
 rw [qae]
 have cond:mB (m2 (b2 gEq) (mV 1) (mC (D.int (1)))) [some (.ref 0),some (.int cp),some (webD w)] (o2::X)=some (decide (cp=1),o2::X):=by
  rw [<- e1];rfl
 rw [qae]
 refine W.of cond ?_
 dsimp only
 by_cases hcp:cp=1
 ·rw [decide_eq_true hcp,if_pos rfl]
  simp (implicitDefEqProofs:=false) only [mRet,mN,qaa,mV,mNil,oS1,qae,qan,qhQ,gC1,List.getElem?_cons_zero,lC1,List.length_nil,Nat.reduceAdd,al1,ft2,true_and]
  refine qra (k:=m) (S1:=o2::X) ?_ (by lia) ?_
  ·simp only [qaa,mNil,mN,mV,b1,gC1,List.getElem?_cons_zero,Option.join_some,oP1,oS1,qcy,hw.len]
  walk_at "own wq"
  refine ⟨.tup [webD w,.tup (nmD (List.range m))],o2,[Ob.lst [.int 1,.int 1,.int 2,.int 2,.int 3,.int 4]],by rw [hX],?_,ho2.und,q m w _ o2 hm0 hm8 ⟨hw.toWebJ,fun r d e h=>(hw.back r d e h).1⟩ List.length_range (ho2.more (by lia))⟩
  rw [D.und,D.unds,qaL,D.unds,D.unds,D.und,qaW];rfl
 ·rw [decide_eq_false hcp,if_neg (by decide)]
  walk_at "own wq"
  refine qno hw hm0 (by lia) h4 (mul8 hm) ho2 (by lia) hX2 fun m' cw rs o3 hm0' hm' hw' hrs ho3=>?_
  refine ⟨.tup [webD cw,.tup (nmD rs)],o3,[Ob.lst [.int 1,.int 1,.int 2,.int 2,.int 3,.int 4]],by rw [hX],?_,ho3.und,q m' cw rs o3 hm0' hm' hw' hrs (ho3.more (by lia))⟩
  rw [D.und,D.unds,qaL,D.unds,D.unds,D.und,qaW];rfl
open Classical in
noncomputable def tf (P:Prop):Bool:=decide P
theorem tf_e {P:Prop}:tf P=true↔P:=by unfold tf;exact @decide_eq_true_iff P (Classical.propDecidable P)
theorem tf_t {P:Prop}(h:P):tf P=true:=tf_e.mpr h
theorem tf_b {P:Prop}{b:Bool}(h:b=true↔P):b=tf P:=by rw [Bool.eq_iff_iff,tf_e];exact h
theorem tf_f {P:Prop}(h:¬ P):tf P=false:=(tf_b ⟨fun z=>(by cases z),fun z=>(h z).elim⟩).symm
theorem tf_i {P Q:Prop}(h:P↔Q):tf P=tf Q:=tf_b (tf_e.trans h)
theorem qhE:∀ (ns acc:List Int),acc.Nodup->((ns.foldl step_dedup acc).length<=acc.length+ns.length/\((ns.foldl step_dedup acc).length=acc.length+ns.length↔(acc++ns).Nodup))
 | [],acc,h=>by simp [h]
 | n::ns,acc,h=>by
  rw [List.foldl_cons]
  by_cases hn:n∈acc
  ·have e:step_dedup acc n=acc:=by
    unfold step_dedup
    rw [if_pos (List.any_eq_true.mpr ⟨n,hn,by simp⟩)]
   rw [e]
   obtain ⟨h1,h2⟩:=qhE ns acc h
   rw [lC1]
   refine ⟨by lia,⟨fun z=>by lia,fun z=>?_⟩⟩
   rw [List.nodup_append] at z
   exact (z.2.2 n hn n mS1 rfl).elim
  ·have e:step_dedup acc n=acc++[n]:=by
    unfold step_dedup
    rw [if_neg (by rw [List.any_eq_true];rintro ⟨x,hx,hxn⟩;exact hn (by rw [<- beq_iff_eq.mp hxn];exact hx))]
   rw [e]
   have hnd:(acc++[n]).Nodup:=by
    rw [List.nodup_append]
    exact ⟨h,by simp,fun a ha b hb z=>by rw [List.mem_singleton] at hb;subst hb;subst z;exact hn ha⟩
   obtain ⟨h1,h2⟩:=qhE ns (acc++[n]) hnd
   rw [lA1,List.length_singleton,List.append_assoc,List.singleton_append] at *
   rw [lC1]
   refine ⟨by lia,?_⟩
   rw [<- h2]
   constructor<;>intro z<;>lia
theorem qg8 {rs:List Nat}:(rs.map fun (r:Nat)=>(r:Int)).Nodup↔rs.Nodup:=by
 unfold List.Nodup
 rw [List.pairwise_map]
 exact ⟨fun h=>h.imp fun z e=>z (by rw [e]),fun h=>h.imp fun z e=>z (by lia)⟩
theorem qj7 {rs:List Nat}{S:Sto}{Q:D×Sto->Prop}(hl:rs.length<=100)(q:Q (.bl (tf rs.Nodup),S)):W (qaj 1 qbF [.tup (nmD rs)] S) Q:=by
 refine qfz rfl (by rw [D.unds,D.und,qaW];rfl) ?_
 unfold qbF
 refine fnW ?_
 unfold qcA
 have e:qci (.tup (nmD rs)) []=some (.ref 0,[.iset (ddI (rs.map fun (r:Nat)=>(r:Int)))]):=by
  unfold qci
  rw [qdA]
  dsimp only
  rw [qjb,oS1,if_pos (by rw [lM1];unfold scanBound;lia)]
  rfl
 ((try walk_at "own wq");repeat (simp only [e];try walk_at "own wq"))
 refine qlV rfl ?_
 walk_at "own wq"
 refine ⟨rfl,?_⟩
 have:((((ddI (rs.map fun (r:Nat)=>(r:Int))).length:Nat):Int) == (((nmD rs).length:Nat):Int))=tf rs.Nodup:=tf_b (by
  have:=(qhE (rs.map fun (r:Nat)=>(r:Int)) [] List.nodup_nil).2
  rw [List.length_nil,Nat.zero_add,lM1,List.nil_append,qg8] at this
  rw [beq_iff_eq,qbw,<- this]
  unfold ddI
  lia)
 rw [this]
 exact q
theorem qiM {m:Nat}{rs:List Nat}(hl:rs.length=m)(hr:∀ x∈rs,x<m)(nd:rs.Nodup):rs.Perm (List.range m):=by
 refine (List.perm_ext_iff_of_nodup nd List.nodup_range).mpr fun a=>⟨fun h=>List.mem_range.mpr (hr a h),fun h=>?_⟩
 refine Classical.byContradiction fun hn=>?_
 have:=few (N:=m) (l:=a::rs) (List.nodup_cons.mpr ⟨hn,nd⟩) fun x hx=>by
  rcases List.mem_cons.mp hx with rfl | hx
  ·exact List.mem_range.mp h
  ·exact hr x hx
 rw [lC1] at this
 lia
theorem qgE {m:Nat}{rs:List Nat}(h:rs.Perm (List.range m)):rs.length=m/\(∀ x∈rs,x<m)/\rs.Nodup:=by
 refine ⟨by have:=h.length_eq;rwa [List.length_range] at this,fun x hx=>List.mem_range.mp (h.mem_iff.mp hx),h.nodup_iff.mpr List.nodup_range⟩
theorem qfj {c:List (Nat×List D)}{g:FG}{b:FS}{Q:Fl×Ev×Sto->Prop}(I:Nat->Ev->Sto->Prop):∀ (items:List D) (k:Nat) (r:Ev) (S:Sto),I k r S ->
  (∀ i r S,I i r S->okC S c=true) ->
  (∀ i d,items[i]? = some d -> ∀ r S,I (k+i) r S->W (g d r S) fun p=>W (b p.1 p.2) fun q=>(q.1 = .nx/\I (k+i+1) q.2.1 q.2.2) \/ ∃ v,q.1 = .rt v/\Q (.rt v,q.2)) ->
  (∀ r S,I (k+items.length) r S->Q (.nx,r,S))->W (qdX c g b items r S) Q:=by
 intro items
 induction items with
 | nil=>intro k r S hi hok _ hq;rw [qdX];dsimp only;rw [if_pos (hok _ _ _ hi),qan];exact hq r S (by simpa using hi)
 | cons d ds ih=>
  intro k r S hi hok hs hq
  rw [qdX];dsimp only;rw [if_pos (hok _ _ _ hi),qae]
  obtain ⟨p,e1,⟨f,r1,S1⟩,e2,h⟩:=hs 0 d rfl r S (by simpa using hi)
  refine ⟨p,e1,?_⟩
  dsimp only;rw [qae]
  refine ⟨_,e2,?_⟩
  dsimp only at h ⊢
  rcases h with ⟨rfl,hI⟩ | ⟨v,rfl,hQ⟩
  ·exact ih (k+1) r1 S1 hI hok (fun i d hd r S hI=>by
    have:=hs (i+1) d hd r S (by rw [show k+(i+1)=k+1+i by lia];exact hI)
    rw [show k+(i+1)+1=k+1+i+1 by lia] at this
    exact this) fun r S hI=>hq r S (by rw [lC1,show k+(ds.length+1)=k+1+ds.length by lia];exact hI)
  ·exact qan.mpr hQ
theorem qn6 {a b:FS}{r:Ev}{S:Sto}{Q:Fl×Ev×Sto->Prop}(h:W (a r S) fun p=>(p.1 = .nx/\W (b p.2.1 p.2.2) Q) \/ ∃ v,p.1 = .rt v/\Q (.rt v,p.2)):W (mSeq a b r S) Q:=by
 obtain ⟨⟨f,r1,S1⟩,e,h⟩:=h
 unfold mSeq
 rw [e]
 dsimp only at h
 rcases h with ⟨rfl,h⟩ | ⟨v,rfl,h⟩
 ·exact h
 ·exact qan.mpr h
theorem qf9 {c:FT}{m:FE}{b:FS}{r:Ev}{S:Sto}{Q:Fl×Ev×Sto->Prop}(C:Bool×Sto->Prop)(h1:W (c r S) C)(h2:∀ V,C (true,V)->W (m r V) fun p=>Q (.rt p.1,r,p.2))(h3:∀ V,C (false,V)->W (b r V) Q):W (mSeq (mIfS c (mRet m) mNx) b r S) Q:=by
 obtain ⟨⟨t,V⟩,e,hC⟩:=h1
 unfold mSeq mIfS
 simp only [e,oS1]
 cases t with
 | true=>
  rw [if_pos rfl]
  unfold mRet
  rw [qae,qae]
  exact (h2 V hC).mono fun p hp=>qan.mpr (qan.mpr hp)
 | false=>
  rw [if_neg (by decide)]
  exact h3 V hC
theorem qiz {m:Nat}{w:qad}(hw:WebJ m w){r:Nat}(hr:r<m):∃ row,w[r]? = some row:=⟨_,gG1 (by rw [hw.len];exact hr)⟩
theorem qjX {w:qad}{r:Nat}{row:List (Nat×Nat)}{S:Sto}{Q:D×Sto->Prop}(h:w[r]? = some row)(q:Q (.tup (row.map pD),S)):W (gIxY (webD w) (.int r) S) Q:=
 qew (i:=r) (x:=.tup (row.map pD)) (by rw [gP1,h];rfl) q
theorem W_at {rs:List Nat}{i:Nat}{S:Sto}{Q:D×Sto->Prop}(hi:i<rs.length)(q:Q (.int (rs.getD i 0:Nat),S)):W (gIxY (.tup (nmD rs)) (.int i) S) Q:=
 qew (i:=i) (x:=.int (rs.getD i 0:Nat)) (by rw [nmD,gP1,List.getD_eq_getElem?_getD,gG1 hi];rfl) q
theorem qjh {m i:Nat}{rs:List Nat}(hm:0<m)(h:∀ x∈rs,x<m):rs.getD i 0<m:=by
 rw [List.getD_eq_getElem?_getD]
 cases e:rs[i]? with
 | none=>exact hm
 | some x=>exact h x (gM1 e)
noncomputable def rowN (w:qad)(r:Nat):List (Nat×Nat):=w[r]?.getD []
theorem qed {w:qad}{r:Nat}{row:List (Nat×Nat)}(h:w[r]? = some row):rowN w r=row:=by unfold rowN;rw [h];rfl
noncomputable def mvR (rs:List Nat)(e:Nat×Nat):Nat×Nat:=(rs.getD e.1 0,e.2)
noncomputable def Car (w:qad)(rs:List Nat)(r:Nat):Prop:=rowN w (rs.getD r 0)=(rowN w r).map (mvR rs)
theorem qpx {a b:Nat×Nat}{S:Sto}:gNe (pD a) (pD b) S=some (.bl (!(a == b)),S):=by
 show (eqN S qam (pD a) (pD b)).map _=_
 rw [show qam=58+2 from rfl,qhA]
 rfl
theorem qnc {m:Nat}{w:qad}{rs:List Nat}{S:Sto}{Q:D×Sto->Prop}(hw:WebJ m w)(hm0:0<m)(hl:rs.length=m)(hr:∀ x∈rs,x<m)(q:Q (.bl (tf (∀ r,r<m->Car w rs r)),S)):W (qaj 2 qbl [webD w,.tup (nmD rs)] S) Q:=by
 refine qfz rfl (by rw [D.unds,qaL,D.unds,D.und,qaW];rfl) ?_
 unfold qbl
 refine fnW ?_
 unfold qcE
 refine qn6 ?_
 unfold mFor
 rw [qae]
 refine qfC (xs:=w.map fun row=>.tup (row.map pD)) rfl ?_
 refine qfj (fun i r V=>(∀ j,j<i->Car w rs j)/\V=[] /\ ∃ x2 x3 x4 x5 x6,r=[some (webD w),some (.tup (nmD rs)),x2,x3,x4,x5,x6]) _ 0 _ _ ⟨fun j h=>by lia,rfl,_,_,_,_,_,rfl⟩ (fun _ _ _ _=>rfl) ?_ ?_
 ·rintro i dd hdd r V ⟨hdone,rfl,x2,x3,x4,x5,x6,rfl⟩
  rw [qbt,gP1] at hdd
  obtain ⟨z,hz,rfl⟩:=oM1.mp hdd
  obtain ⟨row,hrow,rfl⟩:=oM1.mp hz
  have him:i<m:=by rw [<- hw.len];exact (gE1.mp hrow).1
  rw [Nat.zero_add] at *
  obtain ⟨row2,hrow2⟩:=qiz hw (qjh (i:=i) hm0 hr)
  have bad:¬ Car w rs i->Q (.bl false,S):=fun hno=>by
   rw [tf_f (fun h=>hno (h i him))] at q
   exact q
  have hcar:Car w rs i↔row2=row.map (mvR rs):=by
   unfold Car
   rw [qed hrow,qed hrow2]
  walk_at "own wq"
  unfold qcR
  refine qf9 (fun t=>t=(!(row2.length == row.length),[])) ?_ (fun V1 e=>?_) fun V1 e=>?_
  ·walk_at "own wq"
   refine W_at (by lia) ?_
   refine qjX hrow2 ?_
   walk_at "own wq"
   rw [lM1,lM1]
   have:(((row2.length:Nat):Int) == ((row.length:Nat):Int))=(row2.length == row.length):=by
    rw [Bool.eq_iff_iff,beq_iff_eq,beq_iff_eq];lia
   rw [this]
  ·injection e with e1 e2
   subst e2
   have:¬ Car w rs i:=fun hc=>by
    rw [hcar.mp hc,lM1,beq_self_eq_true] at e1
    cases e1
   walk_at "own wq"
   exact .inr ⟨_,rfl,.inr ⟨_,rfl,rfl,bad this⟩⟩
  ·injection e with e1 e2
   subst e2
   have hlen:row2.length=row.length:=by
    have:(row2.length == row.length)=true:=by
     cases h:row2.length == row.length with
     | true=>rfl
     | false=>rw [h] at e1;cases e1
    exact beq_iff_eq.mp this
   unfold mFor
   rw [qae]
   refine qfC (xs:=row.map pD) rfl ?_
   refine qfj (fun j r V=>(∀ d e,d<j->row[d]? = some e->row2[d]? = some (mvR rs e))/\V=[] /\ ∃ x4 x5 x6,r=[some (webD w),some (.tup (nmD rs)),some (.int (i:Nat)),some (.tup (row.map pD)),x4,x5,x6]) _ 0 _ _ ⟨fun d e h=>by lia,rfl,_,_,_,rfl⟩ (fun _ _ _ _=>rfl) ?_ ?_
   ·rintro j dd hdd r V ⟨hd2,rfl,x4,x5,x6,rfl⟩
    rw [qbt,gP1] at hdd
    obtain ⟨z,hz,rfl⟩:=oM1.mp hdd
    obtain ⟨e,he,rfl⟩:=oM1.mp hz
    have hjl:=(gE1.mp he).1
    rw [Nat.zero_add] at *
    have hto:=hw.to i j e ⟨row,hrow,he⟩
    have he2:row2[j]? = some row2[j]:=gG1 (by lia)
    generalize row2[j]=e' at he2
    rw [show pD e = .tup [.int (e.1:Nat),.int (e.2:Nat)] from rfl]
    walk_at "own wq"
    unfold qcS
    walk_at "own wq"
    refine W_at (by lia) ?_
    refine qjX hrow2 ?_
    refine qew (i:=j) (x:=pD e') (by rw [gP1,he2];rfl) ?_
    refine W_at (by lia) ?_
    walk_at "own wq"
    refine W.of (qpx (a:=e') (b:=mvR rs e)) ?_
    walk_at "own wq"
    by_cases hee:e'=mvR rs e
    ·rw [beq_iff_eq.mpr hee]
     walk_at "own wq"
     refine .inl ⟨fun d e'' hd h=>?_,_,_,_,rfl⟩
     by_cases hdj:d=j
     ·subst hdj
      rw [he] at h;cases h
      rw [he2,hee]
     ·exact hd2 d e'' (by lia) h
    ·rw [beq_false_of_ne hee]
     walk_at "own wq"
     have:¬ Car w rs i:=fun hc=>hee (by
      have h2:=hcar.mp hc
      rw [h2,gP1,he] at he2
      cases he2;rfl)
     exact .inr ⟨_,rfl,.inr ⟨_,rfl,.inr ⟨_,rfl,rfl,bad this⟩⟩⟩
   ·rintro r V ⟨hd2,rfl,x4,x5,x6,rfl⟩
    refine .inl ⟨rfl,fun j hj=>?_,rfl,_,_,_,_,_,rfl⟩
    by_cases hji:j=i
    ·subst hji
     refine hcar.mpr (List.ext_getElem? fun d=>?_)
     rw [gP1]
     cases he:row[d]? with
     | none=>
      rw [List.getElem?_eq_none_iff] at he
      exact List.getElem?_eq_none (by lia)
     | some e=>
      have:=(gE1.mp he).1
      exact hd2 d e (by rw [qbM,lM1];lia) he
    ·exact hdone j (by lia)
 ·rintro r V ⟨hdone,rfl,x2,x3,x4,x5,x6,rfl⟩
  rw [qbM,lM1,Nat.zero_add,hw.len] at hdone
  rw [tf_t hdone] at q
  refine .inl ⟨rfl,?_⟩
  walk_at "own wq"
  exact ⟨rfl,q⟩
theorem qoO {a b:List Nat}(h:D.tup (nmD a) = .tup (nmD b)):a=b:=by
 injection h with h
 unfold nmD at h
 exact (List.map_inj_right fun x y e=>by injection e with e;lia).mp h
noncomputable def dF (L:List (Nat×List Nat)):List (Key×D):=L.map fun p=>(Sum.inl (p.1:Int),D.tup (nmD p.2))
theorem qem:∀ {L:List (Nat×List Nat)} {p:Nat×List Nat},(L.map (·.1)).Nodup->p∈L->qak (dF L) (Sum.inl (p.1:Int))=some (.tup (nmD p.2))
 | [],_,_,h=>by cases h
 | x::L,p,nd,h=>by
  rw [mP1,List.nodup_cons] at nd
  unfold dF qak
  rw [mP1,List.find?_cons]
  rcases List.mem_cons.mp h with z | z
  ·subst z;simp
  ·have hne:x.1≠p.1:=fun e=>nd.1 (by rw [e];exact List.mem_map.mpr ⟨p,z,rfl⟩)
   have:decide ((Sum.inl (x.1:Int):Key)=Sum.inl (p.1:Int))=false:=decide_eq_false fun e=>hne (by injection e with e;lia)
   dsimp only
   rw [this]
   exact qem (L:=L) nd.2 z
theorem qjV {L:List (Nat×List Nat)}{v:Nat}(h:v∉L.map (·.1)):((dF L).any fun p=>decide (p.1=Sum.inl (v:Int)))=false:=by
 rw [Bool.eq_false_iff]
 intro z
 obtain ⟨x,hx,e⟩:=List.any_eq_true.mp z
 obtain ⟨p,hp,rfl⟩:=List.mem_map.mp hx
 have e:=of_decide_eq_true e
 dsimp only at e
 injection e with e
 exact h (List.mem_map.mpr ⟨p,hp,by lia⟩)
theorem qkZ {L:List (Nat×List Nat)}{v:Nat}(h:v∉L.map (·.1)):qak (dF L) (Sum.inl (v:Int))=none:=by
 unfold qak
 rw [Option.map_eq_none_iff,List.find?_eq_none]
 intro x hx z
 have:=qjV h
 rw [Bool.eq_false_iff] at this
 exact this (List.any_eq_true.mpr ⟨x,hx,z⟩)
theorem qmm {L:List (Nat×List Nat)}{v:Nat}{ws:List Nat}(h:v∉L.map (·.1)):putD (dF L) (Sum.inl (v:Int)) (.tup (nmD ws))=dF (L++[(v,ws)]):=by
 unfold putD
 rw [qjV h,if_neg (by decide)]
 unfold dF
 rw [List.map_append]
 rfl
theorem qkF {S:Sto}{n v:Nat}{F:List (Key×D)}(h:S[n]? = some (.dct F)):qaH (.int (v:Nat)) (.ref n) S=some (.bl (!(qak F (Sum.inl (v:Int))).isSome),S):=by
 simp only [qaH,qcj,h,keyD,oP1]
theorem qpq {S:Sto}{n v:Nat}{F:List (Key×D)}{d:D}(h:S[n]? = some (.dct F))(hl:qak F (Sum.inl (v:Int))=some d):gIxY (.ref n) (.int (v:Nat)) S=some (d,S):=by
 simp only [gIxY,gIxX,h,keyD,oS1,hl,oP1]
theorem qn4 {S:Sto}{n v:Nat}{F:List (Key×D)}{d:D}(h:S[n]? = some (.dct F))(hne:F≠[])(hl:F.length<1000):qcL (.ref n) (.int (v:Nat)) d S=some (.non,S.set n (.dct (putD F (Sum.inl (v:Int)) d))):=by
 cases F with
 | nil=>exact absurd rfl hne
 | cons x F=>
  have h2:qcL (.ref n) (.int (v:Nat)) d S=qeD (.ref n) (.int (v:Nat)) d S:=by simp only [qcL,h]
  rw [h2]
  simp only [qeD,h,keyD,oS1]
  rw [if_pos (Nat.lt_trans hl (by decide))]
noncomputable def ledN (w:qad):Nat->List Nat->Option Nat
 | r,[]=>some r
 | r,d::ds=>((rowN w r)[d]?).bind fun e=>ledN w e.1 ds
theorem qhq {w:qad}:∀ {ds:List Nat} {r v d:Nat} {e:Nat×Nat},ledN w r ds=some v->(rowN w v)[d]? = some e->ledN w r (ds++[d])=some e.1
 | [],r,v,d,e,h,he=>by
  rw [ledN] at h;cases h
  rw [List.nil_append,ledN,he];rfl
 | x::ds,r,v,d,e,h,he=>by
  rw [ledN] at h
  rw [List.cons_append,ledN]
  cases hx:(rowN w r)[x]? with
  | none=>rw [hx] at h;cases h
  | some y=>
   rw [hx] at h
   exact qhq (ds:=ds) h he
theorem qjT {w:qad}{r d:Nat}{e:Nat×Nat}(h:At w r d e):(rowN w r)[d]? = some e:=by
 obtain ⟨row,h1,h2⟩:=h
 rw [qed h1];exact h2
theorem qdE {w:qad}{r d:Nat}{e:Nat×Nat}(h:(rowN w r)[d]? = some e):At w r d e:=by
 unfold rowN at h
 cases hr:w[r]? with
 | none=>rw [hr] at h;simp at h
 | some row=>rw [hr] at h;exact ⟨row,hr,h⟩
theorem qi5 {m:Nat}{w:qad}(hw:WebJ m w):∀ {ds:List Nat} {r v:Nat},r<m->ledN w r ds=some v->v<m
 | [],r,v,hr,h=>by rw [ledN] at h;cases h;exact hr
 | d::ds,r,v,hr,h=>by
  rw [ledN] at h
  cases hx:(rowN w r)[d]? with
  | none=>rw [hx] at h;cases h
  | some y=>
   rw [hx] at h
   exact qi5 hw (ds:=ds) (hw.to r d y (qdE hx)) h
structure BJ (m:Nat)(w:qad)(L:List (Nat×List Nat))(a j:Nat):Prop where
 nd:(L.map (·.1)).Nodup
 inn:∀ p∈L,p.1<m
 hd:L[0]? = some (0,[])
 ok:∀ p∈L,ledN w 0 p.2=some p.1
 len:∀ (i:Nat) (p:Nat×List Nat),L[i]? = some p->p.2.length<=i
 cl:∀ (i d:Nat) (p:Nat×List Nat) (e:Nat×Nat),L[i]? = some p->At w p.1 d e->(i<a\/(i=a/\d<j))->e.1∈L.map (·.1)
theorem BJ.few {m a j:Nat}{w:qad}{L:List (Nat×List Nat)}(b:BJ m w L a j):L.length<=m:=by
 have:=Law.few b.nd (N:=m) fun x hx=>by
  obtain ⟨p,hp,rfl⟩:=List.mem_map.mp hx
  exact b.inn p hp
 rwa [lM1] at this
theorem BJ.old {m a j:Nat}{w:qad}{L:List (Nat×List Nat)}{p0:Nat×List Nat}{e:Nat×Nat}(b:BJ m w L a j)(h0:L[a]? = some p0)(hat:At w p0.1 j e)(hin:e.1∈L.map (·.1)):BJ m w L a (j+1):=by
 refine ⟨b.nd,b.inn,b.hd,b.ok,b.len,fun i d p e' h1 h2 h3=>?_⟩
 by_cases hz:i=a/\d=j
 ·obtain ⟨rfl,rfl⟩:=hz
  rw [h0] at h1;cases h1
  rw [<- qcX hat h2];exact hin
 ·exact b.cl i d p e' h1 h2 (by lia)
theorem BJ.new {m a j:Nat}{w:qad}{L:List (Nat×List Nat)}{p0:Nat×List Nat}{e:Nat×Nat}(b:BJ m w L a j)(h0:L[a]? = some p0)(hat:At w p0.1 j e)(hm:e.1<m)(hin:e.1∉L.map (·.1)):BJ m w (L++[(e.1,p0.2++[j])]) a (j+1):=by
 have hal:=(gE1.mp h0).1
 have sub:∀ x,x∈L.map (·.1)->x∈(L++[(e.1,p0.2++[j])]).map (·.1):=fun x hx=>by rw [List.map_append];exact List.mem_append_left _ hx
 refine ⟨?_,fun p hp=>?_,?_,fun p hp=>?_,fun i p h=>?_,fun i d p e' h1 h2 h3=>?_⟩
 ·rw [List.map_append,List.nodup_append]
  refine ⟨b.nd,by simp,fun x hx y hy z=>?_⟩
  have:y=e.1:=by simpa using hy
  exact hin (by rw [<- this,<- z];exact hx)
 ·rcases List.mem_append.mp hp with hp | hp
  ·exact b.inn p hp
  ·rw [List.mem_singleton] at hp;subst hp;exact hm
 ·rw [gL1 (by lia)];exact b.hd
 ·rcases List.mem_append.mp hp with hp | hp
  ·exact b.ok p hp
  ·rw [List.mem_singleton] at hp;subst hp
   exact qhq (b.ok p0 (gM1 h0)) (qjT hat)
 ·by_cases hlt:i<L.length
  ·rw [gL1 hlt] at h
   exact b.len i p h
  ·have:=(gE1.mp h).1
   rw [lA1,List.length_singleton] at this
   have e2:i=L.length:=by lia
   subst e2
   rw [List.getElem?_concat_length] at h
   cases h
   have:=b.len a p0 h0
   rw [lA1,List.length_singleton]
   lia
 ·rw [gL1 (by lia)] at h1
  by_cases hz:i=a/\d=j
  ·obtain ⟨rfl,rfl⟩:=hz
   rw [h0] at h1;cases h1
   rw [<- qcX hat h2,List.map_append]
   exact mA1 _ (by simp)
  ·exact sub _ (b.cl i d p e' h1 h2 (by lia))
theorem BJ.zero {m a j:Nat}{w:qad}{L:List (Nat×List Nat)}(b:BJ m w L a j):0∈L.map (·.1):=List.mem_map.mpr ⟨_,gM1 b.hd,rfl⟩
theorem BJ.all {m a:Nat}{w:qad}{L:List (Nat×List Nat)}(hw:WebJ m w)(b:BJ m w L a 0)(ha:L.length<=a):∀ v,v<m->v∈L.map (·.1):=by
 intro v
 induction v using Nat.strongRecOn with
 | ind v ih=>
  intro hv
  by_cases h0:v=0
  ·subst h0;exact b.zero
  ·obtain ⟨u,d,e,h1,h2,h3⟩:=hw.jn v (by lia) hv
   obtain ⟨p,hp,e1⟩:=List.mem_map.mp (ih u h1 (by lia))
   obtain ⟨i,hi⟩:=List.getElem?_of_mem hp
   have:=b.cl i d p e hi (by rw [e1];exact h2) (.inl (by have:=(gE1.mp hi).1;lia))
   rw [h3] at this
   exact this
structure Wlk (m:Nat)(w:qad)(ws:List (List Nat)):Prop where
 len:ws.length=m
 short:∀ x∈ws,x.length<=8
 hd:ws[0]? = some []
 to:∀ (v:Nat) (x:List Nat),ws[v]? = some x->ledN w 0 x=some v
noncomputable def wksL (ws:List (List Nat)):List D:=ws.map fun x=>.tup (nmD x)
noncomputable def oD:Option Nat->D
 | none=>.non
 | some v=>.int v
theorem qoK (o:Option Nat):(oD o).und 0=true:=by cases o<;>rfl
theorem qkA {n:Nat}{o:Ob}(h:o.und 0=true):o.sh n=o:=by
 have kv:∀ {κ:Type} (l:List (κ×D)),D.unds 0 (l.map (·.2))=true->(l.map fun p=>(p.1,p.2.sh n))=l:=fun l=>by
  induction l with
  | nil=>intro _;rfl
  | cons x l ih=>
   intro h
   rw [mP1,D.unds,bA1] at h
   rw [mP1,ih h.2,qlx h.1]
 cases o with
 | lst xs=>rw [Ob.und] at h;rw [Ob.sh,qe3 h]
 | dct l=>rw [Ob.und] at h;rw [Ob.sh,kv l h]
 | dcT l=>rw [Ob.und] at h;rw [Ob.sh,kv l h]
 | dcF l=>rw [Ob.und] at h;rw [Ob.sh,kv l h]
 | iset l=>rfl
theorem qkb {n:Nat}{S:Sto}(h:S.all (Ob.und 0)=true):S.map (Ob.sh n)=S:=by
 have:S.map (Ob.sh n)=S.map id:=List.map_congr_left fun o ho=>qkA (List.all_eq_true.mp h o ho)
 rw [this,List.map_id]
theorem qnu {n:Nat}{f:FN}{ds:List D}{S:Sto}{Q:D×Sto->Prop}(hn:ds.length=n)(hu:D.unds 0 ds=true)(h:W (f ds []) fun p=>∃ k xs,p.1 = .ref k/\p.2[k]? = some (.lst xs)/\p.2.all (Ob.und 0)=true /\ ∀ G j,(S++G)[j]? = some (.lst xs)->G.all (Ob.und 0)=true->S.length<=j->Q (.ref j,S++G)):W (qaj n f ds S) Q:=by
 obtain ⟨⟨d,G⟩,e,k,xs,rfl,hk,hG,q⟩:=h
 refine ⟨_,qhM e hn hu rfl,?_⟩
 dsimp only at hk hG
 rw [qkb hG]
 exact q G _ (by rw [qaU];exact hk) hG (Nat.le_add_right _ _)
noncomputable def stQ (L:List (Nat×List Nat))(k:Nat)(G:Sto):Sto:=.dct (dF L) :: .lst (nmD ((L.map (·.1)).drop k))::G
theorem qpG (L:List (Nat×List Nat)):(Ob.dct (dF L)).und 0=true:=by
 rw [Ob.und,dF,List.map_map]
 exact qa1 fun p _=>by show (D.tup (nmD p.2)).und 0=true;rw [D.und];exact qaW _
theorem qmb {L:List (Nat×List Nat)}{k:Nat}{G:Sto}(h:G.all (Ob.und 0)=true):(stQ L k G).all (Ob.und 0)=true:=by
 rw [stQ,List.all_cons,List.all_cons,h,qpG,Ob.und,qaW];rfl
theorem ql2 {m:Nat}{w:qad}(hw:WebJ m w)(hm0:0<m)(hm:m<=8):W (qbG [webD w] []) fun p=>∃ k ws,p.1 = .ref k/\p.2[k]? = some (.lst (wksL ws))/\p.2.all (Ob.und 0)=true/\Wlk m w ws:=by
 unfold qbG
 refine fnW ?_
 unfold qcB
 refine seqW (fun r' V=>V=stQ [(0,[])] 0 []/\r'=[some (webD w),some (.ref 0),some (.ref 1),none,none,none,none]) ?_ ?_
 ·exact W.of (x:=(.nx,[some (webD w),some (.ref 0),some (.ref 1),none,none,none,none],stQ [(0,[])] 0 [])) rfl ⟨rfl,rfl,rfl⟩
 rintro r' V ⟨rfl,rfl⟩
 refine seqW (fun r' V=>∃ L a G x3 x4 x5 x6,BJ m w L a 0/\L.length<=a/\G.all (Ob.und 0)=true/\V=stQ L a G/\r'=[some (webD w),some (.ref 0),some (.ref 1),x3,x4,x5,x6]) ?_ ?_
 ·refine qim (fun k r' V=>∃ L G x3 x4 x5 x6,BJ m w L k 0/\G.all (Ob.und 0)=true/\V=stQ L k G/\r'=[some (webD w),some (.ref 0),some (.ref 1),x3,x4,x5,x6]) 8 ?_ 100000 0 _ _ (by lia) ⟨[(0,[])],[],_,_,_,_,⟨by simp,fun p hp=>by simp at hp;subst hp;exact hm0,rfl,fun p hp=>by simp at hp;subst hp;rfl,fun i p h=>by cases i with | zero=>cases h;simp | succ i=>simp at h,fun i d p e _ _ h=>by lia⟩,rfl,rfl,rfl⟩
  rintro k r' V ⟨L,G,x3,x4,x5,x6,b,hG,rfl,rfl⟩
  have hLf:=b.few
  unfold qcO
  have hne:=qji (S:=stQ L k G++[.lst []]) (i:=1) (j:=(stQ L k G).length) (xs:=nmD ((L.map (·.1)).drop k)) rfl (by rw [qai];rfl)
  ((try walk_at "own wq");repeat (simp only [hne];try walk_at "own wq"))
  have hG':(G++[Ob.lst []]).all (Ob.und 0)=true:=by rw [List.all_append,hG];rfl
  have hst:stQ L k G++[Ob.lst []]=stQ L k (G++[.lst []]):=rfl
  by_cases hlt:k<L.length
  ·obtain ⟨p0,h0⟩:∃ p,L[k]? = some p:=⟨_,gG1 hlt⟩
   have hdr:(L.map (·.1)).drop k=p0.1::(L.map (·.1)).drop (k+1):=by
    rw [List.drop_eq_getElem_cons (by rw [lM1];exact hlt)]
    congr 1
    rw [List.getElem_map]
    rw [gG1 hlt] at h0
    cases h0;rfl
   rw [if_pos (by rw [hdr];rfl)]
   refine ⟨by lia,?_⟩
   have hp0:=b.inn p0 (gM1 h0)
   obtain ⟨row,hrow⟩:=qiz hw hp0
   have hr4:=hw.le _ row hrow
   rw [hst]
   unfold qcN
   refine seqW (fun r' V=>V=stQ L (k+1) (G++[.lst []])/\r'=[some (webD w),some (.ref 0),some (.ref 1),some (.int (p0.1:Nat)),x4,x5,x6]) ?_ ?_
   ·unfold mAsg
    rw [qae]
    refine qds ?_
    walk_at "own wq"
    refine ⟨1,nmD ((L.map (·.1)).drop k),rfl,rfl,?_⟩
    refine qjY (n:=1) (i:=0) (xs:=nmD ((L.map (·.1)).drop k)) (x:=.int (p0.1:Nat)) rfl (by rw [hdr];rfl) (by lia) ?_
    walk_at "own wq"
    rw [hdr]
    exact ⟨rfl,trivial⟩
   rintro r' V ⟨rfl,rfl⟩
   unfold mFor
   rw [qae]
   refine qfC (xs:=row.map pD) ?_ ?_
   ·obtain ⟨p,e,rfl⟩:=qjX (S:=stQ L (k+1) (G++[.lst []])) (Q:=fun p=>p=(.tup (row.map pD),stQ L (k+1) (G++[.lst []]))) hrow rfl
    simp only [qaa,mNil,m2,b2,mV,gC1,List.getElem?_cons_zero,oS1,e]
   refine qaO (fun j r' V=>∃ L' y4 y5 y6,j<=row.length/\BJ m w L' k j/\L'[k]? = some p0/\V=stQ L' (k+1) (G++[.lst []])/\r'=[some (webD w),some (.ref 0),some (.ref 1),some (.int (p0.1:Nat)),y4,y5,y6]) _ 0 _ _ ⟨L,_,_,_,by lia,b,h0,rfl,rfl⟩ (fun _ _ _ _=>rfl) ?_ ?_
   ·rintro j dd hdd r' V ⟨L',y4,y5,y6,hj,b',h0',rfl,rfl⟩
    rw [qbt,gP1] at hdd
    obtain ⟨z,hz,rfl⟩:=oM1.mp hdd
    obtain ⟨goal,hgoal,rfl⟩:=oM1.mp hz
    have hjlt:=(gE1.mp hgoal).1
    rw [Nat.zero_add] at *
    have hat:At w p0.1 j goal:=⟨row,hrow,hgoal⟩
    have hLf':=b'.few
    have hp0':=qem b'.nd (gM1 h0')
    have hne':L'≠[]:=fun z=>by rw [z] at h0';simp at h0'
    unfold pD
    walk_at "own wq"
    unfold qcP
    ((try walk_at "own wq");repeat (simp only [qkF (S:=stQ L' (k+1) (G++[.lst []])) (n:=0) (F:=dF L') rfl];try walk_at "own wq"))
    by_cases hin:goal.1∈L'.map (·.1)
    ·obtain ⟨p',hp',e'⟩:=List.mem_map.mp hin
     have hlook:=qem b'.nd hp'
     rw [e'] at hlook
     rw [hlook,if_neg (by simp)]
     exact ⟨L',_,_,_,by lia,b'.old h0' hat hin,h0',rfl,rfl⟩
    ·rw [qkZ hin,if_pos (by simp)]
     ((try walk_at "own wq");repeat (simp only [qpq (S:=stQ L' (k+1) (G++[.lst []])) (n:=0) (F:=dF L') rfl hp0'];try walk_at "own wq"))
     have hkl:=(gE1.mp h0').1
     have hpl:p0.2.length<=8:=by
      have h1:=b'.len k p0 h0'
      lia
     refine ⟨qah (by rw [qbw];lia),?_⟩
     rw [qei]
     ((try walk_at "own wq");repeat (simp only [qn4 (S:=stQ L' (k+1) (G++[.lst []])) (n:=0) (v:=goal.1) (F:=dF L') (d:=.tup (nmD (p0.2++[j]))) rfl (by unfold dF;simpa using hne') (by unfold dF;rw [lM1];lia)];try walk_at "own wq"))
     rw [qmm hin]
     refine qds ?_
     walk_at "own wq"
     refine ⟨1,nmD ((L'.map (·.1)).drop (k+1)),rfl,rfl,?_⟩
     refine (qeF (n:=1) (xs:=nmD ((L'.map (·.1)).drop (k+1))) rfl).mpr ⟨qah (by rw [qbw,List.length_drop,lM1];lia),?_⟩
     refine ⟨L'++[(goal.1,p0.2++[j])],_,_,_,by lia,b'.new h0' hat (hw.to _ _ _ hat) hin,by rw [gL1 hkl];exact h0',?_,rfl⟩
     unfold stQ
     rw [List.map_append,List.drop_append_of_le_length (by rw [lM1];lia)]
     simp [nmD]
   ·rintro r' V ⟨L',y4,y5,y6,hj,b',h0',rfl,rfl⟩
    rw [qbM,lM1,Nat.zero_add] at b'
    refine ⟨rfl,L',_,_,_,_,_,⟨b'.nd,b'.inn,b'.hd,b'.ok,b'.len,fun i d p e h1 h2 h3=>b'.cl i d p e h1 h2 ?_⟩,hG',rfl,rfl⟩
    rcases (show i<k\/i=k by lia) with h | rfl
    ·exact .inl h
    ·rw [h0'] at h1;cases h1
     obtain ⟨row',g1,g2⟩:=h2
     rw [hrow] at g1;cases g1
     exact .inr ⟨rfl,(gE1.mp g2).1⟩
  ·rw [if_neg (by rw [List.drop_of_length_le (by rw [lM1];lia)];decide)]
   exact ⟨L,k,G++[.lst []],_,_,_,_,b,by lia,hG',rfl,rfl⟩
 rintro r' V ⟨L,a,G,x3,x4,x5,x6,b,ha,hG,rfl,rfl⟩
 have each:∀ v,∃ x:List Nat,v<m->x.length<=8/\ledN w 0 x=some v/\qak (dF L) (Sum.inl (v:Int))=some (.tup (nmD x))/\(v=0->x=[]):=fun v=>by
  by_cases hv:v<m
  ·obtain ⟨p,hp,e⟩:=List.mem_map.mp (b.all hw ha v hv)
   have h1:=qem b.nd hp
   have h5:=b.ok p hp
   rw [e] at h1 h5
   obtain ⟨i,hi⟩:=List.getElem?_of_mem hp
   have h2:=b.len i p hi
   have h3:=(gE1.mp hi).1
   have h4:=b.few
   refine ⟨p.2,fun _=>⟨by lia,h5,h1,fun z=>?_⟩⟩
   subst z
   have h6:=qem b.nd (gM1 b.hd)
   dsimp only at h6
   rw [h6] at h1
   have h7:D.tup (nmD []) = .tup (nmD p.2):=by simpa using h1
   exact (qoO h7).symm
  ·exact ⟨[],fun h=>(hv h).elim⟩
 obtain ⟨f,hf⟩:=Classical.axiomOfChoice each
 ((try walk_at "own wq");repeat (simp only [qcy];try walk_at "own wq"))
 rw [hw.len]
 refine ⟨qba (by lia),?_⟩
 rw [qdl,Int.toNat_natCast]
 refine mapW (f:=fun j:Nat=>D.int j) (fun v=>D.tup (nmD (f v))) (fun r'=>∃ x,r'=[x,some (.ref 0)]) rfl (List.range m) _ ⟨_,rfl⟩ ?_ ?_
 ·rintro v hv r' ⟨x,rfl⟩
  walk_at "own wq"
  refine W.of (x:=(.tup (nmD (f v)),stQ L a G)) ?_ ⟨rfl,rfl,_,rfl⟩
  exact qpq rfl (hf v (List.mem_range.mp hv)).2.2.1
 ·rintro r' ⟨x,rfl⟩
  refine ⟨qah (by rw [lM1,List.length_range];lia),?_⟩
  walk_at "own wq"
  refine ⟨_,(List.range m).map f,rfl,?_,?_,⟨by simp,fun x hx=>?_,?_,fun v x h=>?_⟩⟩
  ·first | (rw [qai];show some _=some _;rw [wksL,List.map_map];rfl) | (unfold wksL;rw [List.map_map,qai];rfl)
  ·rw [List.all_append,qmb hG]
   show (D.unds 0 _&&true)=true
   rw [Bool.and_true]
   exact qa1 fun v _=>by rw [D.und];exact qaW _
  ·obtain ⟨v,hv,rfl⟩:=List.mem_map.mp hx
   exact (hf v (List.mem_range.mp hv)).1
  ·rw [gP1,List.getElem?_range hm0,oP1,(hf 0 hm0).2.2.2 rfl]
  ·rw [gP1] at h
   obtain ⟨v',hv',rfl⟩:=oM1.mp h
   have hvm:=(gE1.mp hv').1
   rw [List.length_range] at hvm
   rw [List.getElem?_range hvm] at hv'
   cases hv'
   exact (hf v hvm).2.1
theorem qqJ {m r:Nat}{w:qad}{ws:List Nat}{S:Sto}{Q:D×Sto->Prop}(hw:WebJ m w)(hr:r<m)(q:Q (oD (ledN w r ws),S)):W (qaj 3 qcg [webD w,.int r,.tup (nmD ws)] S) Q:=by
 refine qfz rfl (by rw [D.unds,qaL,D.unds,D.unds,D.und,D.und,qaW];rfl) ?_
 unfold qcg
 refine fnW ?_
 unfold qdP
 refine qn6 ?_
 walk_at "own wq"
 rw [qhd]
 refine qfj (fun i r' V=>∃ (h:Nat) (x3:Option D),h<m/\ledN w r ws=ledN w h (ws.drop i)/\V=[]/\r'=[some (webD w),some (.int (h:Nat)),some (.tup (nmD ws)),x3]) _ 0 _ _ ⟨r,none,hr,rfl,rfl,rfl⟩ (fun _ _ _ _=>rfl) ?_ ?_
 ·rintro i d hd r' V ⟨h,x3,hh,he,rfl,rfl⟩
  dsimp only at hd
  rw [nmD,gP1] at hd
  obtain ⟨x,hx,rfl⟩:=oM1.mp hd
  have hil:=(gE1.mp hx).1
  obtain ⟨row,hrow⟩:=qiz hw hh
  rw [Nat.zero_add] at *
  have hdr:ws.drop i=x::ws.drop (i+1):=by
   rw [List.drop_eq_getElem_cons hil]
   rw [gG1 hil] at hx
   cases hx;rfl
  rw [hdr,ledN,qed hrow] at he
  walk_at "own wq"
  unfold qdS
  refine qf9 (fun t=>t=(decide (row.length<=x),[])) ?_ (fun V e=>?_) fun V e=>?_
  ·have e1:∀ S:Sto,gIsX (.int (h:Nat)) .non S=some (.bl false,S):=fun S=>rfl
   ((try walk_at "own wq");repeat (simp only [e1];try walk_at "own wq"))
   refine qjX hrow ?_
   walk_at "own wq"
   rw [lM1]
   congr 1
   rw [Bool.eq_iff_iff,decide_eq_true_eq,decide_eq_true_eq];lia
  ·injection e with e1 e2
   subst e2
   have hle:row.length<=x:=of_decide_eq_true e1.symm
   rw [List.getElem?_eq_none hle] at he
   walk_at "own wq"
   rw [he] at q
   exact .inr ⟨_,rfl,.inr ⟨_,rfl,rfl,q⟩⟩
  ·injection e with e1 e2
   subst e2
   have hlt:x<row.length:=by
    have:=of_decide_eq_false e1.symm
    lia
   have hrx:row[x]? = some row[x]:=gG1 hlt
   generalize row[x]=e' at hrx
   rw [hrx] at he
   walk_at "own wq"
   refine qjX hrow ?_
   refine qew (i:=x) (x:=pD e') (by rw [gP1,hrx];rfl) ?_
   refine qew (i:=0) (x:=.int (e'.1:Nat)) rfl ?_
   walk_at "own wq"
   exact .inl ⟨e'.1,_,hw.to h x e' ⟨row,hrow,hrx⟩,he,rfl⟩
 ·rintro r' V ⟨h,x3,hh,he,rfl,rfl⟩
  dsimp only at he
  rw [qbw,Nat.zero_add,List.drop_length,ledN] at he
  rw [he] at q
  refine .inl ⟨rfl,?_⟩
  walk_at "own wq"
  exact ⟨rfl,q⟩
noncomputable def cnd (w:qad)(ws:List (List Nat))(r:Nat):List Nat:=ws.map fun x=>(ledN w r x).getD 0
noncomputable def Gd (m:Nat)(w:qad)(ws:List (List Nat))(r:Nat):Prop:=(∀ x∈ws,(ledN w r x).isSome=true)/\(cnd w ws r).Nodup /\ ∀ i,i<m->Car w (cnd w ws r) i
noncomputable def trs (m:Nat)(w:qad)(ws:List (List Nat))(k:Nat):List Nat:=(List.range k).filter fun r=>tf (Gd m w ws r)
noncomputable def trsD (m:Nat)(w:qad)(ws:List (List Nat))(k:Nat):List D:=(trs m w ws k).map fun r=>.tup (nmD (cnd w ws r))
theorem qg9 {m k:Nat}{w:qad}{ws:List (List Nat)}:trsD m w ws (k+1)=trsD m w ws k++if tf (Gd m w ws k)=true then [.tup (nmD (cnd w ws k))] else []:=by
 unfold trsD trs
 rw [List.range_succ,List.filter_append,List.map_append]
 congr 1
 cases h:tf (Gd m w ws k) with
 | true=>rw [List.filter_cons_of_pos (by exact h)];rfl
 | false=>rw [List.filter_cons_of_neg (by rw [h];decide)];rfl
theorem qgs {m k:Nat}{w:qad}{ws:List (List Nat)}:(trsD m w ws k).length<=k:=by
 unfold trsD trs
 rw [lM1]
 exact Nat.le_trans (List.length_filter_le ..) (by rw [List.length_range];exact nR1 _)
theorem qis {m k:Nat}{w:qad}{ws:List (List Nat)}:D.unds 0 (trsD m w ws k)=true:=qa1 fun r _=>by rw [D.und];exact qaW _
theorem qlP {m r:Nat}{w:qad}{ws:List (List Nat)}(hw:WebJ m w)(hm0:0<m)(hr:r<m):∀ x∈cnd w ws r,x<m:=fun x hx=>by
 obtain ⟨y,_,rfl⟩:=List.mem_map.mp hx
 cases h:ledN w r y with
 | none=>exact hm0
 | some v=>exact qi5 hw hr h
theorem qlJ {S:Sto}{n:Nat}{α:Type}{g:α->Option Nat}:∀ l:List α,inL (eqN S (n+1)) .non (l.map fun x=>oD (g x))=some (l.any fun x=>(g x).isNone)
 | []=>rfl
 | x::l=>by
  have e1:eqN S (n+1) (oD (g x)) .non=some ((g x).isNone):=by cases g x<;>rfl
  rw [mP1,inL,e1,oS1,qlJ l];rfl
theorem qhm {S:Sto}{α:Type}{g:α->Option Nat}{l:List α}:qaH .non (.tup (l.map fun x=>oD (g x))) S=some (.bl (!l.any fun x=>(g x).isNone),S):=by
 simp only [qaH,qcj,qdT,qaz,oS1,qam,show (60:Nat)=59+1 from rfl,qlJ,oP1]
theorem qiU {α:Type}{g:α->Option Nat}:∀ {l:List α},(l.any fun x=>(g x).isNone)=false->(l.map fun x=>oD (g x))=nmD (l.map fun x=>(g x).getD 0)
 | [],_=>rfl
 | x::l,h=>by
  rw [List.any_cons,Bool.or_eq_false_iff] at h
  have ih:=qiU h.2
  rw [mP1,ih]
  cases hx:g x with
  | none=>rw [hx] at h;cases h.1
  | some v=>unfold nmD;rw [mP1,mP1,hx];rfl
theorem qn3 {rs:List Nat}{S:Sto}(hl:rs.length<=100):qci (.tup (nmD rs)) S=some (.ref S.length,S++[.iset (ddI (rs.map fun (r:Nat)=>(r:Int)))]):=by
 unfold qci
 rw [qdA]
 dsimp only
 rw [qjb,oS1,if_pos (by rw [lM1];unfold scanBound;lia)]
theorem qpE {rs:List Nat}:((((ddI (rs.map fun (r:Nat)=>(r:Int))).length:Nat):Int) == (((nmD rs).length:Nat):Int))=tf rs.Nodup:=tf_b (by
 have:=(qhE (rs.map fun (r:Nat)=>(r:Int)) [] List.nodup_nil).2
 rw [List.length_nil,Nat.zero_add,lM1,List.nil_append,qg8] at this
 rw [beq_iff_eq,qbw,<- this]
 unfold ddI
 lia)
theorem qfI {α:Type}{f:α->D}{k:α->Int}:∀ {l:List α},(∀ x∈l,qcz (f x)=some (k x))->l.Pairwise (fun a b=>k a<k b)->qee (l.map f)=true
 | [],_,_=>rfl
 | x::l,h,p=>by
  rw [List.pairwise_cons] at p
  rw [mP1,qee,h x mS1,qfI (fun y hy=>h y (mC1 _ hy)) p.2,Bool.and_true]
  dsimp only
  rw [List.all_eq_true]
  intro y hy
  obtain ⟨z,hz,rfl⟩:=List.mem_map.mp hy
  rw [h z (mC1 _ hz)]
  exact decide_eq_true (p.1 z hz)
theorem qjG {m r:Nat}{w:qad}{ws:List (List Nat)}(hk:Wlk m w ws):qcz (.tup (nmD (cnd w ws r)))=some (r:Int):=by
 have h:=hk.hd
 cases ws with
 | nil=>cases h
 | cons x ws=>
  rw [List.getElem?_cons_zero] at h
  cases h
  rfl
theorem qkd {m k n:Nat}{w:qad}{ws:List (List Nat)}{S:Sto}(hk:Wlk m w ws)(hm:k<=8)(hn:S[n]? = some (.lst (trsD m w ws k))):qb6 (.ref n) S=some (.ref S.length,S++[.lst (trsD m w ws k)]):=by
 have hl:=qgs (m:=m) (k:=k) (w:=w) (ws:=ws)
 have hr:qee (trsD m w ws k)=true:=qfI (k:=fun r:Nat=>(r:Int)) (fun r _=>qjG hk) ((List.pairwise_lt_range.sublist List.filter_sublist).imp fun h=>by lia)
 unfold qb6
 rw [qcu hn]
 dsimp only
 unfold trsD at *
 generalize trs m w ws k=l at *
 cases l with
 | nil=>rfl
 | cons x l=>
  have:qfo ((x::l).map fun r=>D.tup (nmD (cnd w ws r)))=none:=rfl
  rw [this]
  dsimp only
  rw [hr,decide_eq_true (by lia)]
  rfl
theorem qkW {m:Nat}{w:qad}(hw:WebJ m w)(hm0:0<m)(hm:m<=8):W (qbH [webD w] []) fun p=>∃ k ws,p.1 = .ref k/\p.2[k]? = some (.lst (trsD m w ws m))/\p.2.all (Ob.und 0)=true/\Wlk m w ws:=by
 unfold qbH
 refine fnW ?_
 unfold qcC
 refine seqW (fun r' V=>∃ G j ws,Wlk m w ws/\G.all (Ob.und 0)=true/\G[j]? = some (.lst (wksL ws))/\V = .lst (trsD m w ws 0)::G/\r'=[some (webD w),some (.ref 0),some (.ref (j+1)),none,none]) ?_ ?_
 ·walk_at "own wq"
  refine qnu rfl (by rw [D.unds,qaL];rfl) ((ql2 hw hm0 hm).mono ?_)
  rintro p ⟨k,ws,h1,h2,h3,h4⟩
  refine ⟨k,wksL ws,h1,h2,h3,fun G j hj hG hjl=>?_⟩
  walk_at "own wq"
  obtain ⟨j',rfl⟩:∃ j',j=j'+1:=⟨j-1,by simp at hjl;lia⟩
  refine ⟨G,j',ws,h4,hG,hj,rfl,rfl⟩
 rintro r' V ⟨G,j,ws,hk,hG,hj,rfl,rfl⟩
 refine seqW (fun r' V=>∃ G x3 x4,G.all (Ob.und 0)=true/\V = .lst (trsD m w ws m)::G/\r'=[some (webD w),some (.ref 0),some (.ref (j+1)),x3,x4]) ?_ ?_
 ·((try walk_at "own wq");repeat (simp only [qcy];try walk_at "own wq"))
  rw [hw.len]
  refine ⟨qba (by lia),?_⟩
  rw [Int.toNat_natCast]
  refine qaO (fun i r' V=>∃ G x3 x4,i<=m/\G.all (Ob.und 0)=true/\G[j]? = some (.lst (wksL ws))/\V = .lst (trsD m w ws i)::G/\r'=[some (webD w),some (.ref 0),some (.ref (j+1)),x3,x4]) _ 0 _ _ ⟨G,_,_,by lia,hG,hj,rfl,rfl⟩ (fun _ _ _ _=>rfl) ?_ ?_
  ·rintro i d hdd r' V ⟨G,x3,x4,hi,hG,hj,rfl,rfl⟩
   have hlt:=(gE1.mp hdd).1
   rw [qaI] at hlt
   rw [qdl,gP1,List.getElem?_range hlt] at hdd
   cases hdd
   rw [Nat.zero_add] at *
   have hcl:(cnd w ws i).length=m:=by unfold cnd;rw [lM1];exact hk.len
   have hcr:=qlP (ws:=ws) hw hm0 hlt
   have hj1:∀ X:Ob,(X::G)[j+1]? = some (.lst (wksL ws)):=fun X=>by rw [gC1];exact hj
   walk_at "own wq"
   unfold qcQ
   refine seqW (fun r' V=>∃ G',G'.all (Ob.und 0)=true/\G'[j]? = some (.lst (wksL ws))/\V = .lst (trsD m w ws i)::G'/\r'=[some (webD w),some (.ref 0),some (.ref (j+1)),some (.int (i:Nat)),some (.tup (ws.map fun x=>oD (ledN w i x)))]) ?_ ?_
   ·walk_at "own wq"
    refine qaE (hj1 _) ?_
    unfold wksL
    refine mapW (f:=fun x:List Nat=>D.tup (nmD x)) (fun x=>oD (ledN w i x)) (fun r=>∃ x,r=[x,some (webD w),some (.int (i:Nat))]) (qbp (hj1 _)) ws _ ⟨_,rfl⟩ ?_ ?_
    ·rintro x hx r ⟨y,rfl⟩
     walk_at "own wq"
     refine qqJ hw hlt ?_
     exact ⟨rfl,rfl,_,rfl⟩
    ·rintro r' _
     refine ⟨qah (by rw [lM1,hk.len];lia),?_⟩
     walk_at "own wq"
     refine qaE (by rw [gC1,qai];rfl) ?_
     walk_at "own wq"
     refine ⟨G++[.lst (ws.map fun x=>oD (ledN w i x))],?_,?_,rfl,trivial⟩
     ·rw [List.all_append,hG]
      show (D.unds 0 _&&true)=true
      rw [Bool.and_true]
      exact qa1 fun x _=>qoK _
     ·rw [gL1 (gE1.mp hj).1];exact hj
   rintro r' V ⟨G,hG,hj,rfl,rfl⟩
   have cond:W (mAnd (mB (m2 (b2 qaH) (mC D.non) (mV 4))) (mAnd (mB (m2 (b2 gEq) (mN (b1 qgU) (qaa (mN (b1 qci) (qaa (mV 4) mNil)) mNil)) (mN (b1 gLen) (qaa (mV 4) mNil)))) (mTr (mN (qaj 2 qbl) (qaa (mV 0) (qaa (mV 4) mNil))))) [some (webD w),some (.ref 0),some (.ref (j+1)),some (.int (i:Nat)),some (.tup (ws.map fun x=>oD (ledN w i x)))] (Ob.lst (trsD m w ws i)::G)) fun p=>p.1=tf (Gd m w ws i) /\ ∃ G',G'.all (Ob.und 0)=true/\p.2=Ob.lst (trsD m w ws i)::(G++G'):=by
    cases hn:ws.any fun x=>(ledN w i x).isNone with
    | true=>
     ((try walk_at "own wq");repeat (simp only [qhm,hn];try walk_at "own wq"))
     refine ⟨(tf_f ?_).symm,[],rfl,by rw [List.append_nil]⟩
     rintro ⟨h,_⟩
     obtain ⟨x,hx,e⟩:=List.any_eq_true.mp hn
     have:=h x hx
     rw [Option.isSome_iff_ne_none] at this
     exact this (Option.isNone_iff_eq_none.mp e)
    | false=>
     have hall:∀ x∈ws,(ledN w i x).isSome=true:=fun x hx=>by
      rw [List.any_eq_false] at hn
      have:=hn x hx
      cases h:ledN w i x with
      | none=>rw [h] at this;exact absurd rfl this
      | some v=>rfl
     ((try walk_at "own wq");repeat (simp only [qhm,hn];try walk_at "own wq"))
     rw [qiU hn]
     have hset:=qn3 (rs:=cnd w ws i) (S:=Ob.lst (trsD m w ws i)::G) (by lia)
     have ec:(ws.map fun x=>(ledN w i x).getD 0)=cnd w ws i:=rfl
     rw [ec]
     ((try walk_at "own wq");repeat (simp only [hset];try walk_at "own wq"))
     refine qlV (by rw [gC1,qai];rfl) ?_
     walk_at "own wq"
     rw [qpE]
     have hG':[Ob.iset (ddI ((cnd w ws i).map fun (r:Nat)=>(r:Int)))].all (Ob.und 0)=true:=rfl
     by_cases hnd:(cnd w ws i).Nodup
     ·rw [tf_t hnd]
      walk_at "own wq"
      refine qnc hw hm0 hcl hcr ?_
      walk_at "own wq"
      exact ⟨tf_i ⟨fun h=>⟨hall,hnd,h⟩,fun h=>h.2.2⟩,_,hG',rfl⟩
     ·rw [tf_f hnd]
      walk_at "own wq"
      exact ⟨(tf_f fun h=>hnd h.2.1).symm,_,hG',rfl⟩
   unfold mIfS
   rw [qae]
   refine cond.mono ?_
   rintro ⟨t,V⟩ ⟨e1,G',hG',e2⟩
   dsimp only at e1 e2 ⊢
   subst e1;subst e2
   have hGG:(G++G').all (Ob.und 0)=true:=by rw [List.all_append,hG,hG'];rfl
   have hjj:(G++G')[j]? = some (.lst (wksL ws)):=by rw [gL1 (gE1.mp hj).1];exact hj
   cases hgd:tf (Gd m w ws i) with
   | true=>
    rw [if_pos rfl]
    unfold qbQ
    rw [qae]
    refine qds ?_
    walk_at "own wq"
    refine ⟨0,trsD m w ws i,rfl,rfl,?_⟩
    have hl:=qgs (m:=m) (k:=i) (w:=w) (ws:=ws)
    refine (qeF (n:=0) (xs:=trsD m w ws i) rfl).mpr ⟨qah (by lia),?_⟩
    walk_at "own wq"
    have hn:(ws.any fun x=>(ledN w i x).isNone)=false:=by
     rw [List.any_eq_false]
     intro x hx
     have:=(tf_e.mp hgd).1 x hx
     cases h:ledN w i x with
     | none=>rw [h] at this;cases this
     | some v=>intro z;cases z
    rw [qiU hn]
    refine ⟨G++G',_,_,by lia,hGG,hjj,?_,rfl⟩
    rw [qg9,hgd,if_pos rfl]
    rfl
   | false=>
    rw [if_neg (by decide)]
    walk_at "own wq"
    refine ⟨G++G',_,_,by lia,hGG,hjj,?_,rfl⟩
    rw [qg9,hgd,if_neg (by decide),List.append_nil]
  ·rintro r' V ⟨G,x3,x4,hi,hG,hj,rfl,rfl⟩
   rw [qaI,Nat.zero_add]
   exact ⟨rfl,G,_,_,hG,rfl,rfl⟩
 rintro r' V ⟨G,x3,x4,hG,rfl,rfl⟩
 have hs:=qkd (n:=0) (S:=Ob.lst (trsD m w ws m)::G) hk hm rfl
 ((try walk_at "own wq");repeat (simp only [hs];try walk_at "own wq"))
 refine ⟨_,ws,rfl,by first | (rw [gC1,qai];rfl) | simp,?_,hk⟩
 rw [List.all_cons,List.all_append,hG,Ob.und,qis]
 show (true&&(true&&(D.unds 0 _&&true)))=true
 rw [qis];rfl
noncomputable abbrev ap (t:List Nat)(v:Nat):Nat:=t.getD v 0
structure Tn (m:Nat)(w:qad)(t:List Nat):Prop where
 pm:t.Perm (List.range m)
 car:∀ r,r<m->Car w t r
theorem Tn.len {m:Nat}{w:qad}{t:List Nat}(h:Tn m w t):t.length=m:=(qgE h.pm).1
theorem Tn.nd {m:Nat}{w:qad}{t:List Nat}(h:Tn m w t):t.Nodup:=(qgE h.pm).2.2
theorem Tn.lt {m v:Nat}{w:qad}{t:List Nat}(h:Tn m w t)(hm:0<m):ap t v<m:=qjh hm (qgE h.pm).2.1
theorem qli {t:List Nat}{v:Nat}(h:v<t.length):t[v]? = some (ap t v):=by
 unfold ap
 rw [List.getD_eq_getElem?_getD,gG1 h];rfl
theorem qhP {m v:Nat}(h:v<m):ap (List.range m) v=v:=by
 unfold ap
 rw [List.getD_eq_getElem?_getD,List.getElem?_range h];rfl
theorem qpR {a b:List Nat}{m:Nat}(ha:a.length=m)(hb:b.length=m)(h:∀ v,v<m->ap a v=ap b v):a=b:=by
 refine List.ext_getElem? fun v=>?_
 by_cases hv:v<m
 ·rw [qli (by lia),qli (by lia),h v hv]
 ·rw [List.getElem?_eq_none (by lia),List.getElem?_eq_none (by lia)]
theorem Tn.inj {m u v:Nat}{w:qad}{t:List Nat}(h:Tn m w t)(hu:u<m)(hv:v<m)(e:ap t u=ap t v):u=v:=by
 have h1:=qli (t:=t) (v:=u) (by rw [h.len];exact hu)
 have h2:=qli (t:=t) (v:=v) (by rw [h.len];exact hv)
 rw [e] at h1
 obtain ⟨l1,e1⟩:=gE1.mp h1
 obtain ⟨l2,e2⟩:=gE1.mp h2
 exact (List.getElem_inj h.nd).mp (e1.trans e2.symm)
theorem Tn.led {m:Nat}{w:qad}{t:List Nat}(hw:WebJ m w)(h:Tn m w t):∀ {x:List Nat} {r v:Nat},r<m->ledN w r x=some v->ledN w (ap t r) x=some (ap t v)
 | [],r,v,_,e=>by rw [ledN] at e;cases e;rfl
 | d::x,r,v,hr,e=>by
  rw [ledN] at e
  cases hd:(rowN w r)[d]? with
  | none=>rw [hd] at e;cases e
  | some p=>
   rw [hd] at e
   have hc:=h.car r hr
   unfold Car at hc
   rw [ledN,show rowN w (ap t r)=_ from hc,gP1,hd]
   exact h.led hw (x:=x) (hw.to r d p (qdE hd)) e
theorem Tn.gd {m:Nat}{w:qad}{t:List Nat}{ws:List (List Nat)}(hw:WebJ m w)(hm0:0<m)(h:Tn m w t)(hk:Wlk m w ws):cnd w ws (ap t 0)=t/\Gd m w ws (ap t 0):=by
 have each:∀ (v:Nat) (x:List Nat),ws[v]? = some x->ledN w (ap t 0) x=some (ap t v):=fun v x e=>h.led hw hm0 (hk.to v x e)
 have e1:cnd w ws (ap t 0)=t:=by
  refine qpR (m:=m) (by unfold cnd;rw [lM1];exact hk.len) h.len fun v hv=>?_
  obtain ⟨x,hx⟩:∃ x,ws[v]? = some x:=⟨_,gG1 (by rw [hk.len];exact hv)⟩
  have:=each v x hx
  show (ws.map _).getD v 0=_
  rw [List.getD_eq_getElem?_getD,gP1,hx]
  simp only [oP1,Option.getD_some,this]
 refine ⟨e1,fun x hx=>?_,by rw [e1];exact h.nd,by rw [e1];exact h.car⟩
 obtain ⟨v,hv⟩:=List.getElem?_of_mem hx
 rw [each v x hv];rfl
theorem Gd.tn {m r:Nat}{w:qad}{ws:List (List Nat)}(hw:WebJ m w)(hm0:0<m)(hr:r<m)(hk:Wlk m w ws)(h:Gd m w ws r):Tn m w (cnd w ws r)/\ap (cnd w ws r) 0=r:=by
 refine ⟨⟨qiM (by unfold cnd;rw [lM1];exact hk.len) (qlP hw hm0 hr) h.2.1,h.2.2⟩,?_⟩
 show (ws.map _).getD 0 0=r
 rw [List.getD_eq_getElem?_getD,gP1,hk.hd]
 simp [ledN]
noncomputable def tsL (m:Nat)(w:qad)(ws:List (List Nat)):List (List Nat):=(trs m w ws m).map (cnd w ws)
theorem qp5 {m:Nat}{w:qad}{ws:List (List Nat)}:trsD m w ws m=(tsL m w ws).map fun t=>.tup (nmD t):=by unfold trsD tsL;rw [List.map_map];rfl
theorem qlF {m:Nat}{w:qad}{ws:List (List Nat)}{t:List Nat}(hw:WebJ m w)(hm0:0<m)(hk:Wlk m w ws):t∈tsL m w ws↔Tn m w t:=by
 unfold tsL trs
 rw [List.mem_map]
 constructor
 ·rintro ⟨r,hr,rfl⟩
  obtain ⟨h1,h2⟩:=List.mem_filter.mp hr
  exact ((tf_e.mp h2).tn hw hm0 (List.mem_range.mp h1) hk).1
 ·intro h
  obtain ⟨e,g⟩:=h.gd hw hm0 hk
  exact ⟨ap t 0,List.mem_filter.mpr ⟨List.mem_range.mpr (h.lt hm0),tf_t g⟩,e⟩
theorem Tn.id {m:Nat}{w:qad}(hw:WebJ m w):Tn m w (List.range m):=by
 refine ⟨.refl _,fun r hr=>?_⟩
 unfold Car
 rw [show (List.range m).getD r 0=r from qhP hr]
 have:(rowN w r).map (mvR (List.range m))=(rowN w r).map _root_.id:=List.map_congr_left fun e he=>by
  obtain ⟨d,hd⟩:=List.getElem?_of_mem he
  have:=hw.to r d e (qdE hd)
  show (ap (List.range m) e.1,e.2)=e
  rw [qhP this]
 rw [this,List.map_id]
theorem qgG {m:Nat}{t:List Nat}{f:Nat->Nat}(h:t.Nodup)(hl:∀ x∈t,x<m)(hf:∀ x y,x<m->y<m->f x=f y->x=y):(t.map f).Nodup:=by
 rw [List.nodup_iff_pairwise_ne,List.pairwise_map]
 exact List.Pairwise.imp_of_mem (fun {x y} hx hy hne e=>hne (hf x y (hl x hx) (hl y hy) e)) h
theorem Tn.inv1 {m v:Nat}{w:qad}{t:List Nat}(h:Tn m w t)(hv:v<m):ap t (t.idxOf v)=v/\t.idxOf v<m:=by
 have hm:v∈t:=h.pm.mem_iff.mpr (List.mem_range.mpr hv)
 have hl:=List.idxOf_lt_length_of_mem hm
 refine ⟨?_,by rw [<- h.len];exact hl⟩
 unfold ap
 rw [List.getD_eq_getElem?_getD,gG1 hl,Option.getD_some,List.getElem_idxOf]
section
variable {α β:Type}
noncomputable def isF (k:Nat->α)(r:Nat):Prop:=∀ s,s<r->k s≠k r
theorem qk8 (k:Nat->α)(r:Nat):∃ s,s<=r/\k s=k r/\isF k s:=by
 induction r using Nat.strongRecOn with
 | ind r ih=>
  by_cases h:isF k r
  ·exact ⟨r,nR1 _,rfl,h⟩
  ·obtain ⟨s,h1,h2⟩:∃ s,s<r/\k s=k r:=Classical.byContradiction fun z=>h fun s hs e=>z ⟨s,hs,e⟩
   obtain ⟨u,g1,g2,g3⟩:=ih s h1
   exact ⟨u,by lia,g2.trans h2,g3⟩
noncomputable def fs (k:Nat->α)(r:Nat):Nat:=Classical.choose (qk8 k r)
theorem qjl (k:Nat->α)(r:Nat):fs k r<=r:=(Classical.choose_spec (qk8 k r)).1
theorem fs_k (k:Nat->α)(r:Nat):k (fs k r)=k r:=(Classical.choose_spec (qk8 k r)).2.1
theorem fs_F (k:Nat->α)(r:Nat):isF k (fs k r):=(Classical.choose_spec (qk8 k r)).2.2
theorem qk9 {k:Nat->α}{r s:Nat}(h:k s=k r)(hf:isF k s):s=fs k r:=by
 rcases Nat.lt_trichotomy s (fs k r) with z | z | z
 ·exact (fs_F k r s z (h.trans (fs_k k r).symm)).elim
 ·exact z
 ·exact (hf _ z ((fs_k k r).trans h.symm)).elim
theorem qgb {k:Nat->α}{r s:Nat}:fs k r=fs k s↔k r=k s:=by
 constructor
 ·intro h;rw [<- fs_k k r,h];exact fs_k k s
 ·intro h;exact qk9 ((fs_k k r).trans h) (fs_F k r)
noncomputable def cnt (k:Nat->α)(n:Nat):Nat:=((List.range n).filter fun s=>tf (isF k s)).length
noncomputable def cn (k:Nat->α)(r:Nat):Nat:=cnt k (fs k r)
theorem qhI {k:Nat->α}{n:Nat}:cnt k (n+1)=cnt k n+if tf (isF k n)=true then 1 else 0:=by
 unfold cnt
 rw [List.range_succ,List.filter_append,lA1]
 congr 1
 cases h:tf (isF k n) with
 | true=>rw [List.filter_cons_of_pos (by exact h)];rfl
 | false=>rw [List.filter_cons_of_neg (by rw [h];decide)];rfl
theorem qhJ {k:Nat->α}{a b:Nat}(h:a<=b):cnt k a<=cnt k b:=by
 induction b with
 | zero=>rw [show a=0 by lia];exact nR1 _
 | succ b ih=>
  rcases Nat.lt_succ_iff_lt_or_eq.mp (Nat.lt_succ_of_le h) with z | z
  ·rw [qhI];have:=ih (by lia);lia
  ·rw [z];exact nR1 _
theorem qjE {k:Nat->α}{a b:Nat}(h:a<b)(hf:isF k a):cnt k a<cnt k b:=by
 have h1:=qhJ (k:=k) (show a+1<=b from h)
 rw [qhI,tf_t hf,if_pos rfl] at h1
 lia
theorem qlQ {k:Nat->α}{r s:Nat}:cn k r=cn k s↔k r=k s:=by
 constructor
 ·intro h
  rw [<- qgb]
  rcases Nat.lt_trichotomy (fs k r) (fs k s) with z | z | z
  ·have:=qjE z (fs_F k r)
   unfold cn at h;lia
  ·exact z
  ·have:=qjE z (fs_F k s)
   unfold cn at h;lia
 ·intro h
  unfold cn
  rw [qgb.mpr h]
theorem qf3 {k:Nat->α}{k':Nat->β}{m r:Nat}(h:∀ a b,a<m->b<m->(k a=k b↔k' a=k' b))(hr:r<m):isF k r↔isF k' r:=
 ⟨fun f s hs e=>f s hs ((h s r (by lia) hr).mpr e),fun f s hs e=>f s hs ((h s r (by lia) hr).mp e)⟩
theorem qla {k:Nat->α}{k':Nat->β}{m r:Nat}(h:∀ a b,a<m->b<m->(k a=k b↔k' a=k' b))(hr:r<m):fs k r=fs k' r:=by
 have h1:=qjl k r
 exact qk9 ((h _ _ (by lia) hr).mp (fs_k k r)) ((qf3 h (by lia)).mp (fs_F k r))
theorem qjF {k:Nat->α}{k':Nat->β}{m n:Nat}(h:∀ a b,a<m->b<m->(k a=k b↔k' a=k' b))(hn:n<=m):cnt k n=cnt k' n:=by
 unfold cnt
 congr 1
 refine List.filter_congr fun s hs=>?_
 exact tf_i (qf3 h (by have:=List.mem_range.mp hs;lia))
theorem qhK {k:Nat->α}{k':Nat->β}{m r:Nat}(h:∀ a b,a<m->b<m->(k a=k b↔k' a=k' b))(hr:r<m):cn k r=cn k' r:=by
 unfold cn
 have h1:=qjl k r
 rw [<- qla h hr]
 exact qjF h (by lia)
theorem qqZ {k:Nat->α}{r:Nat}:cn (cn k) r=cn k r:=qhK (m:=r+1) (fun _ _ _ _=>qlQ) (Nat.lt_succ_self r)
end
noncomputable def sgN (sg:List Int)(r:Nat):Int:=sg.getD r 0
noncomputable def mvC (c:Nat->Nat)(e:Nat×Nat):Nat×Nat:=(c e.1,e.2)
noncomputable def lk (w:qad)(sg:List Int)(c:Nat->Nat)(r:Nat):Nat×Int×List (Nat×Nat):=(c r,sgN sg r,(rowN w r).map (mvC c))
noncomputable def col (w:qad)(sg:List Int):Nat->Nat->Nat
 | 0=>fun _=>0
 | n+1=>cn (lk w sg (col w sg n))
noncomputable def Dr (w:qad)(R:Nat->Nat->Prop)(r s:Nat):Prop:=(rowN w r).length=(rowN w s).length /\ ∀ (d:Nat) (e e':Nat×Nat),(rowN w r)[d]? = some e->(rowN w s)[d]? = some e'->R e.1 e'.1/\e.2=e'.2
theorem Dr.imp {w:qad}{R R':Nat->Nat->Prop}{r s:Nat}(h:Dr w R r s)(i:∀ a b,R a b->R' a b):Dr w R' r s:=⟨h.1,fun d e e' h1 h2=>⟨i _ _ (h.2 d e e' h1 h2).1,(h.2 d e e' h1 h2).2⟩⟩
theorem qpb {γ:Type}{w:qad}{c:Nat->γ}{r s:Nat}:(rowN w r).map (fun e=>(c e.1,e.2))=(rowN w s).map (fun e=>(c e.1,e.2))↔Dr w (fun a b=>c a=c b) r s:=by
 constructor
 ·intro h
  refine ⟨by have:=congrArg List.length h;rwa [lM1,lM1] at this,fun d e e' h1 h2=>?_⟩
  have:=congrArg (fun l:List (γ×Nat)=>l[d]?) h
  simp only [gP1,h1,h2,oP1,Option.some.injEq,Prod.mk.injEq] at this
  exact this
 ·rintro ⟨h1,h2⟩
  refine List.ext_getElem? fun d=>?_
  rw [gP1,gP1]
  cases he:(rowN w r)[d]? with
  | none=>
   rw [List.getElem?_eq_none_iff] at he
   rw [List.getElem?_eq_none (by lia)]
  | some e=>
   have hl:=(gE1.mp he).1
   obtain ⟨e',he'⟩:∃ e',(rowN w s)[d]? = some e':=⟨_,gG1 (by lia)⟩
   rw [he']
   obtain ⟨g1,g2⟩:=h2 d e e' he he'
   simp only [oP1,g1,g2]
noncomputable def RA (w:qad)(sg:List Int):Nat->Nat->Nat->Prop
 | 0=>fun _ _=>True
 | n+1=>fun r s=>RA w sg n r s/\sgN sg r=sgN sg s/\Dr w (RA w sg n) r s
theorem qb1 {w:qad}{sg:List Int}:∀ {n r s:Nat},col w sg n r=col w sg n s↔RA w sg n r s
 | 0,r,s=>⟨fun _=>trivial,fun _=>rfl⟩
 | n+1,r,s=>by
  have ih:=@qb1 w sg n
  rw [col,qlQ,lk,lk,Prod.mk.injEq,Prod.mk.injEq,RA,ih]
  refine and_congr_right fun _=>and_congr_right fun _=>?_
  exact qpb.trans ⟨fun h=>h.imp fun a b=>ih.mp,fun h=>h.imp fun a b=>ih.mpr⟩
theorem qlO {w:qad}{sg:List Int}:∀ {n r:Nat},col w sg n r=cn (col w sg n) r
 | 0,r=>by
  have:fs (col w sg 0) r=0:=(qk9 (k:=col w sg 0) (s:=0) (r:=r) rfl fun s hs=>absurd hs (Nat.not_lt_zero s)).symm
  unfold cn
  rw [this];rfl
 | n+1,r=>by rw [col,qqZ]
noncomputable def Stl (m:Nat)(w:qad)(sg:List Int)(n:Nat):Prop:=∀ r s,r<m->s<m->RA w sg n r s->RA w sg (n+1) r s
theorem Dr.lt {m:Nat}{w:qad}{R R':Nat->Nat->Prop}{r s:Nat}(hw:WebJ m w)(h:Dr w R r s)(i:∀ a b,a<m->b<m->R a b->R' a b):Dr w R' r s:=by
 have at_:∀ {r d:Nat} {e:Nat×Nat},(rowN w r)[d]? = some e->e.1<m:=fun {r d e} he=>by
  unfold rowN at he
  cases hr:w[r]? with
  | none=>rw [hr] at he;simp at he
  | some row=>rw [hr] at he;exact hw.to r d e ⟨row,hr,he⟩
 exact ⟨h.1,fun d e e' h1 h2=>⟨i _ _ (at_ h1) (at_ h2) (h.2 d e e' h1 h2).1,(h.2 d e e' h1 h2).2⟩⟩
theorem Stl.next {m n:Nat}{w:qad}{sg:List Int}(hw:WebJ m w)(h:Stl m w sg n):Stl m w sg (n+1):=fun r s hr hs q=>
 ⟨q,q.2.1,q.2.2.lt hw h⟩
theorem Stl.on {m n:Nat}{w:qad}{sg:List Int}(hw:WebJ m w)(h:Stl m w sg n):∀ k,Stl m w sg (n+k)
 | 0=>h
 | k+1=>(h.on hw k).next hw
theorem Stl.up {m n:Nat}{w:qad}{sg:List Int}(hw:WebJ m w)(h:Stl m w sg n):∀ k r s,r<m->s<m->(RA w sg n r s↔RA w sg (n+k) r s)
 | 0,r,s,_,_=>Iff.rfl
 | k+1,r,s,hr,hs=>(h.up hw k r s hr hs).trans ⟨fun q=>h.on hw k r s hr hs q,fun q=>q.1⟩
theorem qhH {m n k:Nat}{w:qad}{sg:List Int}(h:∀ r s,r<m->s<m->(RA w sg n r s↔RA w sg k r s)){r:Nat}(hr:r<m):col w sg n r=col w sg k r:=by
 rw [qlO (n:=n),qlO (n:=k)]
 exact qhK (m:=m) (fun a b ha hb=>by rw [qb1,qb1];exact h a b ha hb) hr
theorem ql7 {m n:Nat}{w:qad}{sg:List Int}:(∀ r,r<m->col w sg (n+1) r=col w sg n r)↔Stl m w sg n:=by
 constructor
 ·intro h r s hr hs q
  rw [<- qb1] at q ⊢
  rw [h r hr,h s hs,q]
 ·intro h r hr
  exact (qhH (fun r s hr hs=>⟨fun q=>h r s hr hs q,fun q=>q.1⟩) hr).symm
theorem qjo {p q:Nat->Bool}(h:∀ x,p x=true->q x=true):∀ l:List Nat,(l.filter p).length<=(l.filter q).length/\((l.filter p).length=(l.filter q).length -> ∀ x∈l,q x=true->p x=true)
 | []=>⟨nR1 _,fun _ x hx=>by cases hx⟩
 | a::l=>by
  obtain ⟨h1,h2⟩:=qjo h l
  cases hp:p a with
  | true=>
   rw [List.filter_cons_of_pos hp,List.filter_cons_of_pos (h a hp),lC1,lC1]
   refine ⟨by lia,fun e x hx hq=>?_⟩
   rcases List.mem_cons.mp hx with rfl | hx
   ·exact hp
   ·exact h2 (by lia) x hx hq
  | false=>
   rw [List.filter_cons_of_neg (by rw [hp];decide)]
   cases hq:q a with
   | true=>
    rw [List.filter_cons_of_pos hq,lC1]
    exact ⟨by lia,fun e=>by lia⟩
   | false=>
    rw [List.filter_cons_of_neg (by rw [hq];decide)]
    refine ⟨h1,fun e x hx hq'=>?_⟩
    rcases List.mem_cons.mp hx with rfl | hx
    ·rw [hq] at hq';cases hq'
    ·exact h2 e x hx hq'
theorem more {m n:Nat}{w:qad}{sg:List Int}(h:¬ Stl m w sg n):cnt (col w sg n) m<cnt (col w sg (n+1)) m:=by
 have sub:∀ r,isF (col w sg n) r->isF (col w sg (n+1)) r:=fun r hf s hs e=>hf s hs (by rw [qb1] at e ⊢;exact e.1)
 obtain ⟨h1,h2⟩:=qjo (p:=fun s=>tf (isF (col w sg n) s)) (q:=fun s=>tf (isF (col w sg (n+1)) s)) (fun x hx=>tf_t (sub x (tf_e.mp hx))) (List.range m)
 refine Nat.lt_of_le_of_ne h1 fun e=>h fun r s hr hs q=>?_
 have back:∀ x,x<m->isF (col w sg (n+1)) x->isF (col w sg n) x:=fun x hx hf=>tf_e.mp (h2 e x (List.mem_range.mpr hx) (tf_t hf))
 -- both have one first place
 have one:∀ x,x<m->fs (col w sg (n+1)) x=fs (col w sg n) x:=fun x hx=>by
  have l1:=qjl (col w sg (n+1)) x
  refine qk9 ?_ (back _ (by lia) (fs_F _ x))
  have:=fs_k (col w sg (n+1)) x
  rw [qb1] at this ⊢
  exact this.1
 rw [<- qb1] at q ⊢
 rw [<- qgb,one r hr,one s hs,qgb]
 exact q
theorem qpI (k:Nat->Nat)(m:Nat):cnt k m<=m:=by
 unfold cnt
 exact Nat.le_trans (List.length_filter_le ..) (by rw [List.length_range];exact nR1 _)
theorem qiA {m n:Nat}{w:qad}{sg:List Int}(hm:0<m)(h:∀ k,k<n -> ¬ Stl m w sg k):n<m:=by
 have:∀ k,k<=n->k+1<=cnt (col w sg k) m:=fun k=>by
  induction k with
  | zero=>
   intro _
   have:=qjE (k:=col w sg 0) hm (fun s hs=>by lia)
   lia
  | succ k ih=>
   intro hk
   have h1:=ih (by lia)
   have h2:=more (h k (by lia))
   lia
 have h1:=this n (nR1 _)
 have h2:=qpI (col w sg n) m
 lia
noncomputable def colL (m:Nat)(w:qad)(sg:List Int):List Nat:=(List.range m).map (col w sg m)
theorem ql8 {m n:Nat}{w:qad}{sg:List Int}(hw:WebJ m w)(h:Stl m w sg n)(hn:n<=m):(List.range m).map (col w sg n)=colL m w sg:=by
 refine List.map_congr_left fun r hr=>?_
 refine qhH (fun a b ha hb=>?_) (List.mem_range.mp hr)
 have:=h.up hw (m-n) a b ha hb
 rwa [show n+(m-n)=m by lia] at this
theorem qnV {m:Nat}{w:qad}{sg:List Int}(hm:0<m):∃ n,n<m/\Stl m w sg n:=by
 refine Classical.byContradiction fun z=>?_
 have:=qiA (w:=w) (sg:=sg) (n:=m) hm fun k hk hs=>z ⟨k,hk,hs⟩
 lia
theorem all0 {S:Sto}(h:S.all (Ob.und 0)=true):S.all (Ob.und S.length)=true:=by
 rw [List.all_eq_true] at *
 exact fun o ho=>qcJ (Nat.zero_le _) (h o ho)
noncomputable abbrev sgD (sg:List Int):D:=.tup (sg.map D.int)
theorem qfF (sg:List Int):(sgD sg).und 0=true:=by rw [D.und];exact qa1 fun _ _=>rfl
noncomputable abbrev clL (m:Nat)(c:Nat->Nat):List Nat:=(List.range m).map c
noncomputable abbrev clD (m:Nat)(c:Nat->Nat):D:=.tup (nmD (clL m c))
theorem W_cl {m r:Nat}{c:Nat->Nat}{S:Sto}{Q:D×Sto->Prop}(hr:r<m)(q:Q (.int (c r:Nat),S)):W (gIxY (clD m c) (.int r) S) Q:=
 qew (i:=r) (x:=.int (c r:Nat)) (by rw [nmD,gP1,gP1,List.getElem?_range hr];rfl) q
theorem W_sg {m r:Nat}{sg:List Int}{S:Sto}{Q:D×Sto->Prop}(hl:sg.length=m)(hr:r<m)(q:Q (.int (sgN sg r),S)):W (gIxY (sgD sg) (.int r) S) Q:=
 qew (i:=r) (x:=.int (sgN sg r)) (by rw [gP1,gG1 (by lia)];unfold sgN;rw [List.getD_eq_getElem?_getD,gG1 (by lia)];rfl) q
noncomputable abbrev Lk:=Nat×Int×List (Nat×Nat)
noncomputable def lkD (x:Lk):D:=.tup [.int (x.1:Nat),.int x.2.1,.tup (x.2.2.map pD)]
theorem qm8 (x:Lk):(lkD x).und 0=true:=by
 unfold lkD
 rw [D.und,D.unds,D.unds,D.unds,D.und,qa1 (fun _ _=>rfl)];rfl
theorem qm7 {m:Nat}{w:qad}{sg:List Int}{c:Nat->Nat}(hw:WebJ m w)(hm:m<=8)(hs:sg.length=m):W (qc4 [webD w,sgD sg,clD m c] []) fun p=>∃ k,p.1 = .ref k/\p.2[k]? = some (.lst ((List.range m).map fun r=>lkD (lk w sg c r)))/\p.2.all (Ob.und 0)=true:=by
 unfold qc4
 refine fnW ?_
 unfold qg5
 refine seqW (fun r V=>V=[.lst []]/\r=[some (webD w),some (sgD sg),some (clD m c),some (.ref 0),none,none,none]) ?_ ?_
 ·walk_at "own wq"
  try exact ⟨rfl,trivial⟩
 rintro r V ⟨rfl,rfl⟩
 refine seqW (fun r V=>∃ G x4 x5 x6,G.all (Ob.und 0)=true/\V = .lst ((List.range m).map fun r=>lkD (lk w sg c r))::G/\r=[some (webD w),some (sgD sg),some (clD m c),some (.ref 0),x4,x5,x6]) ?_ ?_
 ·unfold mFor
  rw [qae]
  refine qfC (xs:=w.map fun row=>.tup (row.map pD)) rfl ?_
  refine qaO (fun i r V=>∃ G x4 x5 x6,i<=m/\G.all (Ob.und 0)=true/\V = .lst ((List.range i).map fun r=>lkD (lk w sg c r))::G/\r=[some (webD w),some (sgD sg),some (clD m c),some (.ref 0),x4,x5,x6]) _ 0 _ _ ⟨[],_,_,_,by lia,rfl,rfl,rfl⟩ (fun _ _ _ _=>rfl) ?_ ?_
  ·rintro i dd hdd r V ⟨G,x4,x5,x6,hi,hG,rfl,rfl⟩
   rw [qbt,gP1] at hdd
   obtain ⟨z,hz,rfl⟩:=oM1.mp hdd
   obtain ⟨row,hrow,rfl⟩:=oM1.mp hz
   have hil:i<m:=by rw [<- hw.len];exact (gE1.mp hrow).1
   have hr4:=hw.le i row hrow
   rw [Nat.zero_add] at *
   walk_at "own wq"
   unfold qfM
   refine seqW (fun r V=>V = .lst ((List.range i).map fun r=>lkD (lk w sg c r))::(G++[.lst (row.map fun e=>pD (mvC c e))])/\r=[some (webD w),some (sgD sg),some (clD m c),some (.ref 0),some (.int (i:Nat)),some (.tup (row.map pD)),some (.tup (row.map fun e=>pD (mvC c e)))]) ?_ ?_
   ·walk_at "own wq"
    rw [qhd]
    refine mapW (f:=pD) (fun e=>pD (mvC c e)) (fun r'=>∃ x0 x1,r'=[x0,x1,some (clD m c)]) rfl row _ ⟨_,_,rfl⟩ ?_ ?_
    ·rintro e he r' ⟨x0,x1,rfl⟩
     obtain ⟨d,hd⟩:=List.getElem?_of_mem he
     have:=hw.to i d e ⟨row,hrow,hd⟩
     rw [pD]
     walk_at "own wq"
     refine W_cl this ?_
     walk_at "own wq"
     exact ⟨rfl,_,_,rfl⟩
    ·rintro r' _
     refine ⟨qah (by rw [lM1];lia),?_⟩
     walk_at "own wq"
     refine qaE (xs:=row.map fun e=>pD (mvC c e)) (by rw [gC1,qai];rfl) ?_
     first | exact ⟨rfl,rfl⟩ | exact ⟨rfl,trivial⟩ | rfl
   rintro r V ⟨rfl,rfl⟩
   unfold qbQ
   rw [qae]
   refine qds ?_
   walk_at "own wq"
   refine ⟨0,(List.range i).map fun r=>lkD (lk w sg c r),rfl,rfl,?_⟩
   refine W_cl hil ?_
   walk_at "own wq"
   refine W_sg hs hil ?_
   walk_at "own wq"
   refine (qeF (n:=0) (xs:=(List.range i).map fun r=>lkD (lk w sg c r)) rfl).mpr ⟨qah (by rw [lM1,List.length_range];lia),?_⟩
   refine ⟨G++[.lst (row.map fun e=>pD (mvC c e))],_,_,_,by lia,?_,?_,rfl⟩
   ·rw [List.all_append,hG,List.all_cons,Ob.und,qa1 (fun _ _=>rfl)];rfl
   ·have e:lkD (lk w sg c i)=D.tup [D.int (c i:Nat),D.int (sgN sg i),D.tup (row.map fun e=>pD (mvC c e))]:=by
     unfold lk
     rw [qed hrow,lkD,List.map_map]
     rfl
    rw [List.range_succ,List.map_append,mP1,e]
    rfl
  ·rintro r V ⟨G,x4,x5,x6,hi,hG,rfl,rfl⟩
   rw [qbM,lM1,Nat.zero_add,hw.len]
   exact ⟨rfl,G,_,_,_,hG,rfl,rfl⟩
 rintro r V ⟨G,x4,x5,x6,hG,rfl,rfl⟩
 walk_at "own wq"
 refine ⟨0,rfl,rfl,?_⟩
 rw [List.all_cons,hG,Ob.und,qa1 (fun _ _=>qm8 _)];rfl
noncomputable def lkT (x:Lk):TK:=.tup [.int (x.1:Nat),.int x.2.1,.tup (x.2.2.map tkP)]
theorem qpo:∀ l:List (Nat×Nat),kDs (l.map pD)=some (l.map tkP)
 | []=>rfl
 | e::l=>by
  rw [mP1,kDs,qpo l];rfl
theorem qpC:∀ l:List (Nat×Nat),TK.depAll (l.map tkP)<=2
 | []=>by simp [TK.depAll]
 | e::l=>by
  have:=qpC l
  rw [mP1,TK.depAll]
  have:(tkP e).dep<=2:=by simp [tkP,TK.dep,TK.depAll]
  lia
theorem qf0 (x:Lk):keyT (lkD x)=some (lkT x):=by
 have e:kDs [.int (x.1:Nat),.int x.2.1,.tup (x.2.2.map pD)]=some [.int (x.1:Nat),.int x.2.1,.tup (x.2.2.map tkP)]:=by
  simp only [kDs,kD,qpo,oP1,oS1]
 unfold lkD
 rw [keyT,e,oS1,if_pos]
 ·rfl
 ·have:=qpC x.2.2
  simp [TK.dep,TK.depAll]
  lia
theorem qm9 {x y:Lk}(h:lkD x=lkD y):x=y:=by
 obtain ⟨a,b,l⟩:=x
 obtain ⟨a',b',l'⟩:=y
 unfold lkD at h
 injection h with h
 injection h with h1 h
 injection h with h2 h
 injection h with h3 h
 injection h1 with h1
 injection h2 with h2
 injection h3 with h3
 have:l=l':=(List.map_inj_right fun x y e=>by
  unfold pD at e
  injection e with e
  injection e with e1 e
  injection e with e2 e
  injection e1 with e1
  injection e2 with e2
  exact Prod.ext (by lia) (by lia)).mp h3
 dsimp only at h1 h2
 rw [this,h2,show a=a' by lia]
theorem qi3 {x y:Lk}(h:lkT x=lkT y):x=y:=by
 have h1:=(qgQ (qf0 x)).1
 have h2:=(qgQ (qf0 y)).1
 exact qm9 (by rw [<- h1,<- h2,h])
noncomputable def nF (k:Nat->Lk)(i:Nat):List (TK×D):=((List.range i).filter fun f=>tf (isF k f)).map fun f=>(lkT (k f),.int (cnt k f:Nat))
theorem qlE {k:Nat->Lk}{i:Nat}:(nF k i).length=cnt k i:=by unfold nF cnt;rw [lM1]
theorem qgH {k:Nat->Lk}{i:Nat}:nF k (i+1)=nF k i++if tf (isF k i)=true then [(lkT (k i),.int (cnt k i:Nat))] else []:=by
 unfold nF
 rw [List.range_succ,List.filter_append,List.map_append]
 congr 1
 cases h:tf (isF k i) with
 | true=>rw [List.filter_cons_of_pos (by exact h)];rfl
 | false=>rw [List.filter_cons_of_neg (by rw [h];decide)];rfl
theorem qgI {k:Nat->Lk}:∀ {i r:Nat},fs k r<i->qak (nF k i) (lkT (k r))=some (.int (cn k r:Nat))
 | 0,r,h=>by lia
 | i+1,r,h=>by
  rw [qgH,qfl]
  by_cases hi:fs k r<i
  ·rw [qgI hi];rfl
  ·have e:fs k r=i:=by lia
   have hF:=fs_F k r
   have hk:=fs_k k r
   rw [e] at hF hk
   rw [tf_t hF,if_pos rfl]
   have hn:qak (nF k i) (lkT (k r))=none:=by
    refine qdq ?_
    rw [Bool.eq_false_iff]
    intro z
    obtain ⟨p,hp,e2⟩:=List.any_eq_true.mp z
    obtain ⟨f,hf,rfl⟩:=List.mem_map.mp hp
    have hfi:=List.mem_range.mp (List.mem_filter.mp hf).1
    have:=qi3 (of_decide_eq_true e2)
    exact hF f hfi (by rw [hk];exact this)
   rw [hn,Option.none_or,qbr,if_pos (by rw [hk])]
   unfold cn
   rw [e]
theorem qlD {k:Nat->Lk}{i:Nat}(h:isF k i):((nF k i).any fun p=>decide (p.1=lkT (k i)))=false:=by
 rw [Bool.eq_false_iff]
 intro z
 obtain ⟨p,hp,e2⟩:=List.any_eq_true.mp z
 obtain ⟨f,hf,rfl⟩:=List.mem_map.mp hp
 have hfi:=List.mem_range.mp (List.mem_filter.mp hf).1
 exact h f hfi (qi3 (of_decide_eq_true e2))
theorem qoM {S:Sto}{n:Nat}{F:List (TK×D)}{d:D}{k:TK}(h:S[n]? = some (dO F))(hk:keyT d=some k):qdK d (.ref n) S=some (.bl (!(qak F k).isSome),S):=by
 unfold dO at h
 by_cases hF:F=[]
 ·subst hF
  rw [if_pos rfl] at h
  simp only [qdK,h,hk]
  rfl
 ·rw [if_neg hF] at h
  simp only [qdK,qaH,h,hk,oP1]
theorem lenE {S:Sto}{n:Nat}{F:List (TK×D)}(h:S[n]? = some (dO F)):qib (.ref n) S=some (.int (F.length:Nat),S):=by
 unfold dO at h
 by_cases hF:F=[]
 ·subst hF
  rw [if_pos rfl] at h
  simp only [qib,qgV,h]
  rfl
 ·rw [if_neg hF] at h
  simp only [qib,h]
theorem qoL {m n:Nat}{S:Sto}{k:Nat->Lk}{Q:D×Sto->Prop}(hS:S.all (Ob.und 0)=true)(hn:S[n]? = some (.lst ((List.range m).map fun r=>lkD (k r))))(hm:m<=8)(q:Q (clD m (cn k),S)):W (qaj 1 qbC [.ref n] S) Q:=by
 refine qnt rfl rfl ?_
 unfold qbC
 refine fnW ?_
 unfold qdN
 have gn:∀ (X:Ob),(S++[X])[n]? = some (.lst ((List.range m).map fun r=>lkD (k r))):=fun X=>by rw [gL1 (gE1.mp hn).1];exact hn
 have gd:∀ (X:Ob),(S++[X])[S.length]? = some X:=fun X=>by rw [qai];rfl
 have st:∀ (X Y:Ob),(S++[X]).set S.length Y=S++[Y]:=fun X Y=>by rw [List.set_append_right _ _ (nR1 _),Nat.sub_self];rfl
 refine seqW (fun r V=>V=S++[dO (nF k 0)]/\r=[some (.ref n),some (.ref S.length),none]) ?_ ?_
 ·have d0:dO (nF k 0) = .dct []:=if_pos rfl
  rw [d0]
  ((try walk_at "own wq");repeat (simp only [qgN];try walk_at "own wq"))
 rintro r V ⟨rfl,rfl⟩
 refine seqW (fun r V=>∃ x2,V=S++[dO (nF k m)]/\r=[some (.ref n),some (.ref S.length),x2]) ?_ ?_
 ·walk_at "own wq"
  refine qaE (gn _) ?_
  refine qaO (fun i r V=>∃ x2,i<=m/\V=S++[dO (nF k i)]/\r=[some (.ref n),some (.ref S.length),x2]) _ 0 _ _ ⟨_,by lia,rfl,rfl⟩ ?_ ?_ ?_
  ·rintro i r V ⟨_,_,rfl,_⟩
   exact qbp (gn _)
  ·rintro i d hd r V ⟨x2,hi,rfl,rfl⟩
   dsimp only at hd
   have hil:=(gE1.mp hd).1
   rw [lM1,List.length_range] at hil
   rw [gP1,List.getElem?_range hil] at hd
   cases hd
   rw [Nat.zero_add] at *
   walk_at "own wq"
   unfold qdR
   have e1:=qoM (S:=S++[dO (nF k i)]) (d:=lkD (k i)) (gd _) (qf0 _)
   ((try walk_at "own wq");repeat (simp only [e1];try walk_at "own wq"))
   by_cases hf:isF k i
   ·have hnone:qak (nF k i) (lkT (k i))=none:=qdq (qlD hf)
    rw [hnone,if_pos (by rfl)]
    have e2:=lenE (S:=S++[dO (nF k i)]) (gd _)
    ((try walk_at "own wq");repeat (simp only [e2];try walk_at "own wq"))
    refine qjW (F:=nF k i) (gd _) (qf0 _) (by rw [qlE];have:=qhJ (k:=k) hi;have h3:cnt k m<=m:=(by unfold cnt;exact Nat.le_trans (List.length_filter_le ..) (by rw [List.length_range];exact nR1 _));lia) ?_
    rw [st]
    refine ⟨_,hil,?_,rfl⟩
    rw [qgH,tf_t hf,if_pos rfl,qlE]
    unfold putD
    rw [qlD hf,if_neg (by decide)]
   ·obtain ⟨s,hs,hse⟩:∃ s,s<i/\k s=k i:=Classical.byContradiction fun z=>hf fun s hs e=>z ⟨s,hs,e⟩
    have hlt:fs k i<i:=Nat.lt_of_le_of_lt (by rw [<- qgb.mpr hse];exact qjl k s) hs
    rw [qgI hlt,if_neg (by simp)]
    refine ⟨_,hil,?_,rfl⟩
    rw [qgH,tf_f hf,if_neg (by decide),List.append_nil]
  ·rintro r V ⟨x2,hi,rfl,rfl⟩
   rw [lM1,List.length_range,Nat.zero_add]
   exact ⟨rfl,_,rfl,rfl⟩
 rintro r V ⟨x2,rfl,rfl⟩
 walk_at "own wq"
 refine qaE (gn _) ?_
 refine mapW (f:=fun r=>lkD (k r)) (fun r=>D.int (cn k r:Nat)) (fun r=>∃ x,r=[x,some (.ref S.length)]) (qbp (gn _)) (List.range m) _ ⟨_,rfl⟩ ?_ ?_
 ·rintro i hi r ⟨x,rfl⟩
  walk_at "own wq"
  refine qlW (gd _) (qf0 _) (qgI (by have:=qjl k i;have:=List.mem_range.mp hi;lia)) ?_
  exact ⟨rfl,rfl,_,rfl⟩
 ·rintro r' _
  refine ⟨qah (by rw [lM1,List.length_range];lia),?_⟩
  walk_at "own wq"
  refine qaE (xs:=nmD (clL m (cn k))) (by first | (rw [qaU,nmD,List.map_map];rfl) | simp [nmD]) ?_
  have:=qpw (d:=clD m (cn k)) (S:=S) (G:=[dO (nF k m),.lst ((List.range m).map fun r=>D.int (cn k r:Nat))]) (by rw [D.und];exact qaW _) (all0 hS)
  first | (rw [this];exact q) | (show Q (gc _ _);rw [this];exact q)
theorem qlM {S:Sto}{n:Nat}:∀ a b:List Nat,eqL (eqN S (n+1)) (nmD a) (nmD b)=some (tf (a=b))
 | [],[]=>by rw [tf_t rfl];rfl
 | [],_::_=>by rw [tf_f (by simp)];rfl
 | _::_,[]=>by rw [tf_f (by simp)];rfl
 | x::a,y::b=>by
  have e1:eqN S (n+1) (.int x) (.int y)=some ((x:Int) == (y:Int)):=rfl
  show eqL _ (.int x::nmD a) (.int y::nmD b)=_
  rw [eqL,e1,qlM a b,oS1]
  refine congrArg some (tf_b ?_)
  rw [bA1,beq_iff_eq,tf_e,List.cons.injEq]
  constructor
  ·rintro ⟨h1,h2⟩;exact ⟨by lia,h2⟩
  ·rintro ⟨h1,h2⟩;exact ⟨by lia,h2⟩
theorem qjs {S:Sto}{n:Nat}{a b:List Nat}:eqN S (n+2) (.tup (nmD a)) (.tup (nmD b))=some (tf (a=b)):=by
 rw [show n+2=n+1+1 from rfl,eqN]
 simp only [qdA,qlM (S:=S) (n:=n) a b]
 simp
theorem qqz {S:Sto}{a b:List Nat}:gNe (.tup (nmD a)) (.tup (nmD b)) S=some (.bl (!tf (a=b)),S):=by
 show (eqN S qam _ _).map _=_
 rw [show qam=58+2 from rfl,qjs];rfl
theorem qq0 {m:Nat}{c c':Nat->Nat}:clL m c=clL m c' ↔ ∀ r,r<m->c r=c' r:=by
 unfold clL
 rw [List.map_inj_left]
 exact ⟨fun h r hr=>h r (List.mem_range.mpr hr),fun h r hr=>h r (List.mem_range.mp hr)⟩
theorem qpU {i:Nat}{x:Str}{g:FN}{a:FA}{r:Ev}{S:Sto}{Q:D×Sto->Prop}(h:r[i]? = some (some (.fn x)))(q:W (mN g a r S) Q):W (mFnV i x g a r S) Q:=by
 unfold mFnV
 rw [h]
 dsimp only
 rw [if_pos rfl]
 exact q
theorem qiB {m n:Nat}{w:qad}{sg:List Int}{c:Nat->Nat}{S:Sto}{x4:Option D}{Q:D×Sto->Prop}(hw:WebJ m w)(hm:m<=8)(hs:sg.length=m)(hS:S.all (Ob.und 0)=true)
  (q:∀ G,(S++G).all (Ob.und 0)=true->Q (clD m (cn (lk w sg c)),S++G)):W (mFnV 2 "numbered" (qaj 1 qbC) (qaa (mN (qaj 3 qc4) (qaa (mV 0) (qaa (mV 1) (qaa (mV 3) mNil)))) mNil) [some (webD w),some (sgD sg),some (.fn "numbered"),some (clD m c),x4] S) Q:=by
 refine qpU rfl ?_
 simp (implicitDefEqProofs:=false) only [mN,qaa,mV,mNil,List.getElem?_cons_zero,gC1,oS1,qae,qan]
 refine qnu rfl (by rw [D.unds,qaL,D.unds,qfF,D.unds,D.und,qaW];rfl) ((qm7 (c:=c) hw hm hs).mono ?_)
 rintro p ⟨k,h1,h2,h3⟩
 refine ⟨k,_,h1,h2,h3,fun G j hj hG hjl=>?_⟩
 have hSG:(S++G).all (Ob.und 0)=true:=by rw [List.all_append,hS,hG];rfl
 exact qoL hSG hj hm (q G hSG)
theorem qiC {m:Nat}{w:qad}{sg:List Int}{S:Sto}{Q:D×Sto->Prop}(hw:WebJ m w)(hm0:0<m)(hm:m<=8)(hs:sg.length=m)(q:Q (.tup (nmD (colL m w sg)),S)):W (qaj 3 qcw [webD w,sgD sg,.fn "numbered"] S) Q:=by
 refine qfz rfl (by rw [D.unds,qaL,D.unds,qfF];rfl) ?_
 unfold qcw
 refine fnW ?_
 unfold qeu
 refine seqW (fun r V=>V.all (Ob.und 0)=true/\r=[some (webD w),some (sgD sg),some (.fn "numbered"),some (clD m (col w sg 0)),none]) ?_ ?_
 ·walk_at "own wq"
  rw [show webD w = .tup (w.map fun row=>.tup (row.map pD)) from rfl,qhd]
  refine mapW (f:=fun row:List (Nat×Nat)=>D.tup (row.map pD)) (fun _=>.int 0) (fun r=>∃ x,r=[x]) rfl w _ ⟨_,rfl⟩ ?_ ?_
  ·rintro row hr r ⟨x,rfl⟩
   walk_at "own wq"
   exact ⟨_,rfl⟩
  ·rintro r' _
   refine ⟨qah (by rw [lM1,hw.len];lia),?_⟩
   walk_at "own wq"
   refine qaE (xs:=w.map fun _=>D.int 0) rfl ?_
   have e:(w.map fun _=>D.int 0)=nmD (clL m (col w sg 0)):=by
    have h1:(w.map fun _=>D.int 0)=List.replicate m (D.int 0):=by rw [List.map_const',hw.len]
    have h2:nmD (clL m (col w sg 0))=List.replicate m (D.int 0):=by
     unfold nmD clL
     rw [List.map_map]
     have:((fun i:Nat=>D.int i)∘col w sg 0)=fun _=>D.int 0:=rfl
     rw [this,List.map_const',List.length_range]
    rw [h1,h2]
   rw [e]
   refine ⟨?_,rfl⟩
   rw [List.all_cons,Ob.und,qaW];rfl
 rintro r V ⟨hV,rfl⟩
 refine seqW (fun r V=>V.all (Ob.und 0)=true/\r=[some (webD w),some (sgD sg),some (.fn "numbered"),some (clD m (col w sg 0)),some (clD m (col w sg 1))]) ?_ ?_
 ·unfold mAsg
  rw [qae]
  refine qiB (n:=0) hw hm hs hV fun G hG=>?_
  exact W.of rfl ⟨rfl,hG,rfl⟩
 rintro r V ⟨hV,rfl⟩
 refine seqW (fun r V=>r[3]? = some (some (.tup (nmD (colL m w sg))))) ?_ ?_
 ·refine qim (fun k r V=>(∀ j,j<k -> ¬ Stl m w sg j)/\V.all (Ob.und 0)=true/\r=[some (webD w),some (sgD sg),some (.fn "numbered"),some (clD m (col w sg k)),some (clD m (col w sg (k+1)))]) 8 ?_ 100000 0 _ _ (by lia) ⟨fun j h=>by lia,hV,rfl⟩
  rintro k r V ⟨hno,hV,rfl⟩
  unfold qeh
  ((try walk_at "own wq");repeat (simp only [qqz];try walk_at "own wq"))
  have hst:=(qq0 (m:=m) (c:=col w sg (k+1)) (c':=col w sg k)).trans ql7
  by_cases hstl:Stl m w sg k
  ·rw [tf_t (hst.mpr hstl),if_neg (by decide)]
   have hk:=qiA hm0 hno
   show some (some (clD m (col w sg k)))=_
   rw [<- ql8 hw hstl (by lia)]
  ·rw [tf_f (fun h=>hstl (hst.mp h)),if_pos (show (!false)=true from rfl)]
   have hno':∀ j,j<k+1 -> ¬ Stl m w sg j:=fun j hj=>by
    rcases Nat.lt_succ_iff_lt_or_eq.mp hj with h | rfl
    ·exact hno j h
    ·exact hstl
   have hk:=qiA hm0 hno'
   refine ⟨by lia,?_⟩
   unfold qeg
   refine seqW (fun r' V'=>V'=V/\r'=[some (webD w),some (sgD sg),some (.fn "numbered"),some (clD m (col w sg (k+1))),some (clD m (col w sg (k+1)))]) ?_ ?_
   ·walk_at "own wq"
   rintro r' V' ⟨rfl,rfl⟩
   unfold mAsg
   rw [qae]
   refine qiB (n:=0) hw hm hs hV fun G hG=>?_
   exact W.of rfl ⟨rfl,hno',hG,rfl⟩
 rintro r V h3
 unfold mRet
 rw [qae]
 unfold mV
 rw [h3,qan]
 exact qan.mpr ⟨by rw [D.und];exact qaW _,q⟩
theorem qg0 {m:Nat}{w:qad}{sg:List Int}{S:Sto}{Q:D×Sto->Prop}(hw:WebJ m w)(hm0:0<m)(hm:m<=8)(hs:sg.length=m)(q:Q (.tup (nmD (colL m w sg)),S)):W (qaj 2 qa7 [webD w,sgD sg] S) Q:=by
 refine qfz rfl (by rw [D.unds,qaL,D.unds,qfF];rfl) ?_
 unfold qa7
 refine fnW ?_
 unfold qc7
 walk_at "own wq"
 refine qiC hw hm0 hm hs ?_
 exact ⟨by rw [D.und];exact qaW _,q⟩
noncomputable def sgF (ws cs:List Nat)(b:Bool)(r:Nat):Int:=(if cs.contains r then 1 else 0)+(if (b&&ws.contains r)=true then 2 else 0)
noncomputable def sgL (m:Nat)(ws cs:List Nat)(b:Bool):List Int:=(List.range m).map (sgF ws cs b)
theorem qmi {m:Nat}{ws cs:List Nat}{b:Bool}:(sgL m ws cs b).length=m:=by unfold sgL;rw [lM1,List.length_range]
noncomputable def stD (ws cs:List Nat):D:=.tup [.tup (nmD ws),.tup (nmD cs)]
theorem qlt {ws cs:List Nat}:(stD ws cs).und 0=true:=by unfold stD;rw [D.und,D.unds,D.unds,D.und,D.und,qaW,qaW];rfl
theorem qnr {m:Nat}{w:qad}{ws cs:List Nat}{S:Sto}{Q:D×Sto->Prop}(hw:WebJ m w)(hm:m<=8)(q:Q (sgD (sgL m ws cs false),S)):W (qaj 2 qaN [webD w,.tup (nmD cs)] S) Q:=by
 refine qfz rfl (by rw [D.unds,qaL,D.unds,D.und,qaW];rfl) ?_
 unfold qaN
 refine fnW ?_
 unfold qck
 ((try walk_at "own wq");repeat (simp only [qcy];try walk_at "own wq"))
 rw [hw.len]
 refine ⟨qba (by lia),?_⟩
 rw [qdl,Int.toNat_natCast]
 refine mapW (f:=fun i:Nat=>D.int i) (fun r=>D.int (sgF ws cs false r)) (fun r=>∃ x,r=[x,some (.tup (nmD cs))]) rfl (List.range m) _ ⟨_,rfl⟩ ?_ ?_
 ·rintro r hr r' ⟨x,rfl⟩
  ((try walk_at "own wq");repeat (simp only [qpu];try walk_at "own wq"))
  unfold sgF
  cases cs.contains r with
  | true=>exact ⟨rfl,_,rfl⟩
  | false=>exact ⟨rfl,_,rfl⟩
 ·rintro r' _
  refine ⟨qah (by rw [lM1,List.length_range];lia),?_⟩
  walk_at "own wq"
  have e:((List.range m).map fun r=>D.int (sgF ws cs false r))=(sgL m ws cs false).map D.int:=by unfold sgL;rw [List.map_map];rfl
  rw [e]
  refine qaE (xs:=(sgL m ws cs false).map D.int) rfl ?_
  exact ⟨qfF _,q⟩
theorem qpS {m:Nat}{w:qad}{ws cs:List Nat}{S:Sto}{Q:D×Sto->Prop}(hw:WebJ m w)(hm:m<=8)(q:Q (sgD (sgL m ws cs true),S)):W (qaj 2 qb0 [webD w,stD ws cs] S) Q:=by
 refine qfz rfl (by rw [D.unds,qaL,D.unds,qlt];rfl) ?_
 unfold qb0
 refine fnW ?_
 unfold qc8
 refine seqW (fun r V=>V=[]/\r=[some (webD w),some (stD ws cs),some (.tup (nmD ws)),some (.tup (nmD cs)),none]) ?_ ?_
 ·unfold stD
  walk_at "own wq"
 rintro r V ⟨rfl,rfl⟩
 refine seqW (fun r V=>V=[]/\r=[some (webD w),some (stD ws cs),some (.tup (nmD ws)),some (.tup (nmD cs)),some (sgD (sgL m ws cs false))]) ?_ ?_
 ·walk_at "own wq"
  refine qnr (ws:=ws) hw hm ?_
  first | exact ⟨rfl,rfl⟩ | exact ⟨rfl,trivial⟩ | rfl
 rintro r V ⟨rfl,rfl⟩
 walk_at "own wq"
 refine qfC (xs:=(sgL m ws cs false).map D.int) rfl ?_
 have e0:enD 0 ((sgL m ws cs false).map D.int)=(List.range m).map fun r=>D.tup [.int (r:Nat),.int (sgF ws cs false r)]:=by
  refine List.ext_getElem? fun i=>?_
  rw [qbt,gP1,gP1]
  unfold sgL
  rw [gP1]
  by_cases h:i<m
  ·rw [List.getElem?_range h,Nat.zero_add];rfl
  ·rw [List.getElem?_eq_none (by rw [List.length_range];lia)];rfl
 rw [e0]
 refine mapW (f:=fun r:Nat=>D.tup [.int (r:Nat),.int (sgF ws cs false r)]) (fun r=>D.int (sgF ws cs true r)) (fun r=>∃ x0 x1,r=[x0,x1,some (.tup (nmD ws))]) rfl (List.range m) _ ⟨_,_,rfl⟩ ?_ ?_
 ·rintro r hr r' ⟨x0,x1,rfl⟩
  ((try walk_at "own wq");repeat (simp only [qpu];try walk_at "own wq"))
  unfold sgF
  cases ws.contains r with
  | true=>
   cases cs.contains r with
   | true=>exact ⟨rfl,_,_,rfl⟩
   | false=>exact ⟨rfl,_,_,rfl⟩
  | false=>exact ⟨rfl,_,_,rfl⟩
 ·rintro r' _
  refine ⟨qah (by rw [lM1,List.length_range];lia),?_⟩
  walk_at "own wq"
  have e:((List.range m).map fun r=>D.int (sgF ws cs true r))=(sgL m ws cs true).map D.int:=by unfold sgL;rw [List.map_map];rfl
  rw [e]
  refine qaE (xs:=(sgL m ws cs true).map D.int) rfl ?_
  exact ⟨qfF _,q⟩
theorem qlg {m:Nat}{w:qad}{sg:List Int}:(colL m w sg).length=m:=by unfold colL;rw [lM1,List.length_range]
structure Cls (m:Nat)(w:qad)(sg:List Int)(R:Nat->Nat->Prop):Prop where
 refl:∀ a,R a a
 symm:∀ a b,R a b->R b a
 trans:∀ a b c,R a b->R b c->R a c
 sg:∀ a b,a<m->b<m->R a b->sgN sg a=sgN sg b
 dr:∀ a b,a<m->b<m->R a b->Dr w R a b
theorem qnp {m:Nat}{w:qad}{sg:List Int}(hw:WebJ m w)(hm:0<m):Cls m w sg fun a b=>col w sg m a=col w sg m b:=by
 obtain ⟨n,hn,hs⟩:=qnV (w:=w) (sg:=sg) hm
 have hst:=hs.on hw (m-n)
 rw [show n+(m-n)=m by lia] at hst
 refine ⟨fun _=>rfl,fun _ _ h=>h.symm,fun _ _ _ h g=>h.trans g,fun a b ha hb h=>?_,fun a b ha hb h=>?_⟩
 ·exact (hst a b ha hb (qb1.mp h)).2.1
 ·exact (hst a b ha hb (qb1.mp h)).2.2.imp fun x y=>qb1.mpr
section
variable {m:Nat} {w:qad} {sg:List Int} {R:Nat->Nat->Prop}
theorem lim {u d:Nat}{p:Nat×Nat}(hw:WebC m w)(h:At w u d p):u<m:=by
 obtain ⟨row,g,_⟩:=h
 rw [<- hw.len]
 exact (gE1.mp g).1
theorem Cls.door (c:Cls m w sg R)(hw:WebC m w){r s d:Nat}{e:Nat×Nat}(hs:s<m)(h:R r s)(ha:At w r d e):∃ s',At w s d (s',e.2)/\R e.1 s'/\s'<m:=by
 have hr:=lim hw ha
 have hd:=c.dr r s hr hs h
 have h1:=qjT ha
 have hl:=(gE1.mp h1).1
 obtain ⟨e',he'⟩:∃ e',(rowN w s)[d]? = some e':=⟨_,gG1 (by have:=hd.1;lia)⟩
 obtain ⟨g1,g2⟩:=hd.2 d e e' h1 he'
 have ha':=qdE he'
 refine ⟨e'.1,?_,g1,hw.to s d e' ha'⟩
 rw [g2];exact ha'
noncomputable def Oth (m:Nat)(R:Nat->Nat->Prop)(r r':Nat):Prop:=r'<m/\r'≠r/\R r r'
theorem Cls.oth (c:Cls m w sg R)(hw:WebC m w){r r' d:Nat}{e:Nat×Nat}(h:Oth m R r r')(ha:At w r d e):∃ s',At w r' d (s',e.2)/\Oth m R e.1 s':=by
 obtain ⟨h1,h2,h3⟩:=h
 obtain ⟨s',g1,g2,g3⟩:=c.door hw h1 h3 ha
 refine ⟨s',g1,g3,fun z=>h2 ?_,g2⟩
 have b1:=hw.bk _ _ _ ha
 have b2:=hw.bk _ _ _ g1
 dsimp only at b2
 rw [z] at b2
 have:=qcX b1 b2
 have:=congrArg Prod.fst this
 exact this.symm
theorem qlu {P:Nat->Prop}(hw:WebC m w)(step:∀ r d e,r<m->At w r d e->P r->P e.1){v:Nat}(hv:v<m)(h:P v):∀ u,u<m->P u:=by
 have down:∀ u,u<m->P u->P 0:=fun u=>by
  induction u using Nat.strongRecOn with
  | ind u ih=>
   intro hu hf
   by_cases h0:u=0
   ·subst h0;exact hf
   ·obtain ⟨a,d,p,g1,g2,g3⟩:=hw.jn u (by lia) hu
    have hb:=hw.bk a d p g2
    rw [g3] at hb
    exact ih a g1 (lim hw g2) (step u p.2 (a,d) hu hb hf)
 have z:=down v hv h
 intro u
 induction u using Nat.strongRecOn with
 | ind u ih=>
  intro hu
  by_cases h0:u=0
  ·subst h0;exact z
  ·obtain ⟨a,d,p,g1,g2,g3⟩:=hw.jn u (by lia) hu
   have:=step a d p (lim hw g2) g2 (ih a g1 (lim hw g2))
   rwa [g3] at this
theorem Cls.some (c:Cls m w sg R)(hw:WebC m w){v v':Nat}(hv:v<m)(h:Oth m R v v'):∀ u,u<m -> ∃ u',Oth m R u u':=
 qlu hw (P:=fun u=>∃ u',Oth m R u u') (fun r d e _ ha ⟨r',hr'⟩=>by obtain ⟨s',_,hs⟩:=c.oth hw hr' ha;exact ⟨s',hs⟩) hv ⟨v',h⟩
theorem Cls.one (c:Cls m w sg R)(hw:WebC m w){v:Nat}(hv:v<m)(h:∀ a b,Oth m R v a->Oth m R v b->a=b):∀ u,u<m -> ∀ a b,Oth m R u a->Oth m R u b->a=b:=by
 refine qlu hw (P:=fun u=>∀ a b,Oth m R u a->Oth m R u b->a=b) (fun r d e _ ha hP a b h1 h2=>?_) hv h
 have hb:=hw.bk _ _ _ ha
 obtain ⟨ra,ga,oa⟩:=c.oth hw h1 hb
 obtain ⟨rb,gb,ob⟩:=c.oth hw h2 hb
 dsimp only at ga gb oa ob
 have:=hP ra rb oa ob
 subst this
 have k1:=hw.bk _ _ _ ga
 have k2:=hw.bk _ _ _ gb
 exact congrArg Prod.fst (qcX k1 k2)
end
theorem exch {m:Nat}{w:qad}{sg:List Int}{R:Nat->Nat->Prop}(c:Cls m w sg R)(hw:WebC m w)(hm0:0<m){ex:Nat->Nat}(hex:∀ u,u<m->Oth m R u (ex u))(h1:∀ u,u<m -> ∀ a b,Oth m R u a->Oth m R u b->a=b):Tn m w ((List.range m).map ex):=by
 have hap:∀ r,r<m->((List.range m).map ex).getD r 0=ex r:=fun r hr=>by rw [List.getD_eq_getElem?_getD,gP1,List.getElem?_range hr];rfl
 refine ⟨qiM (by rw [lM1,List.length_range]) (fun x hx=>?_) (qgG List.nodup_range (fun x hx=>List.mem_range.mp hx) fun x y hx hy e=>?_),fun r hr=>?_⟩
 ·obtain ⟨y,hy,rfl⟩:=List.mem_map.mp hx
  exact (hex y (List.mem_range.mp hy)).1
 ·have ox:=hex x hx
  have oy:=hex y hy
  refine h1 (ex x) ox.1 x y ⟨hx,ox.2.1.symm,c.symm _ _ ox.2.2⟩ ⟨hy,?_,?_⟩
  ·rw [e];exact oy.2.1.symm
  ·rw [e];exact c.symm _ _ oy.2.2
 ·unfold Car
  rw [hap r hr]
  have ho:=hex r hr
  have hl:=(c.dr r (ex r) hr ho.1 ho.2.2).1
  refine List.ext_getElem? fun d=>?_
  rw [gP1]
  cases he:(rowN w r)[d]? with
  | none=>
   rw [List.getElem?_eq_none_iff] at he
   exact List.getElem?_eq_none (by lia)
  | some e=>
   have ha:=qdE he
   have hem:=hw.to r d e ha
   obtain ⟨s',g1,g2⟩:=c.oth hw ho ha
   rw [qjT g1,oP1]
   have:s'=ex e.1:=h1 e.1 hem s' (ex e.1) g2 (hex e.1 hem)
   unfold mvR
   rw [hap e.1 hem,this]
theorem Tn.col {m:Nat}{w:qad}{sg:List Int}{t:List Nat}(hw:WebJ m w)(h:Tn m w t)(hm0:0<m)(hs:∀ r,r<m->sgN sg (ap t r)=sgN sg r):∀ n r,r<m->RA w sg n r (ap t r)
 | 0,r,_=>trivial
 | n+1,r,hr=>by
  refine ⟨h.col hw hm0 hs n r hr,(hs r hr).symm,?_⟩
  have hc:=h.car r hr
  unfold Car at hc
  have hc':rowN w (ap t r)=(rowN w r).map (mvR t):=hc
  refine ⟨by rw [hc',lM1],fun d e e' h1 h2=>?_⟩
  rw [hc',gP1,h1] at h2
  cases h2
  exact ⟨h.col hw hm0 hs n e.1 (hw.to r d e (qdE h1)),rfl⟩
theorem qke {m:Nat}{ws cs:List Nat}{r:Nat}(h:r<m):sgN (sgL m ws cs true) r=(if cs.contains r then 1 else 0)+(if ws.contains r then 2 else 0):=by
 unfold sgN sgL
 rw [List.getD_eq_getElem?_getD,gP1,List.getElem?_range h]
 simp [sgF]
theorem qix {m:Nat}{ws cs:List Nat}{a b:Nat}(ha:a<m)(hb:b<m)(h:sgN (sgL m ws cs true) a=sgN (sgL m ws cs true) b):(cs.contains a=cs.contains b)/\(ws.contains a=ws.contains b):=by
 rw [qke ha,qke hb] at h
 generalize cs.contains a=p at h ⊢
 generalize cs.contains b=q at h ⊢
 generalize ws.contains a=u at h ⊢
 generalize ws.contains b=v at h ⊢
 revert h
 cases p<;>cases q<;>cases u<;>cases v<;>decide
theorem con2 {x y a:Nat}:([x,y].contains a=true)↔a=x\/a=y:=by simp
theorem con2' {x y a b:Nat}(h:[x,y].contains a=[x,y].contains b):(a=x\/a=y)↔(b=x\/b=y):=by rw [<- con2,<- con2,h]
theorem qio {m x y:Nat}{w:qad}{cs:List Nat}(hw:WebC m w)(hm0:0<m)(hx:x<m)(hy:y<m)(hxy:x≠y)(hn:¬ (colL m w (sgL m [x,y] cs true)).Nodup):
  ∃ ex:Nat->Nat,(∀ u,u<m->Oth m (fun a b=>col w (sgL m [x,y] cs true) m a=col w (sgL m [x,y] cs true) m b) u (ex u))/\(∀ u,u<m -> ∀ a b,Oth m (fun a b=>col w (sgL m [x,y] cs true) m a=col w (sgL m [x,y] cs true) m b) u a->Oth m (fun a b=>col w (sgL m [x,y] cs true) m a=col w (sgL m [x,y] cs true) m b) u b->a=b)/\Tn m w ((List.range m).map ex)/\ex x=y/\ex y=x /\ ∀ r,r<m->cs.contains (ex r)=cs.contains r:=by
 have c:=qnp (sg:=sgL m [x,y] cs true) hw.toWebJ hm0
 generalize hR:(fun a b=>col w (sgL m [x,y] cs true) m a=col w (sgL m [x,y] cs true) m b)=R at c
 have hsome:∃ a b,a<m/\Oth m R a b:=by
  refine Classical.byContradiction fun z=>hn ?_
  unfold colL
  refine qgG List.nodup_range (fun a ha=>List.mem_range.mp ha) fun a b ha hb e=>?_
  refine Classical.byContradiction fun hne=>z ⟨a,b,ha,hb,fun q=>hne q.symm,?_⟩
  rw [<- hR];exact e
 obtain ⟨a,b,ha,hab⟩:=hsome
 have hall:=c.some hw ha hab
 have tx:∀ z,Oth m R x z->z=y:=fun z hz=>by
  have:=(qix hx hz.1 (c.sg x z hx hz.1 hz.2.2)).2
  rcases (con2' this).mp (.inl rfl) with q | q
  ·exact (hz.2.1 q).elim
  ·exact q
 have ty:∀ z,Oth m R y z->z=x:=fun z hz=>by
  have:=(qix hy hz.1 (c.sg y z hy hz.1 hz.2.2)).2
  rcases (con2' this).mp (.inr rfl) with q | q
  ·exact q
  ·exact (hz.2.1 q).elim
 have hone:=c.one hw hx fun a b h1 h2=>(tx a h1).trans (tx b h2).symm
 have each:∀ u,∃ u',u<m->Oth m R u u':=fun u=>by
  by_cases hu:u<m
  ·obtain ⟨u',h⟩:=hall u hu
   exact ⟨u',fun _=>h⟩
  ·exact ⟨0,fun z=>(hu z).elim⟩
 obtain ⟨ex,hex⟩:=Classical.axiomOfChoice each
 refine ⟨ex,hex,hone,exch c hw hm0 hex hone,tx _ (hex x hx),ty _ (hex y hy),fun r hr=>?_⟩
 have ho:=hex r hr
 exact (qix hr ho.1 (c.sg r (ex r) hr ho.1 ho.2.2)).1.symm
theorem qnH {m x y:Nat}{w:qad}{cs t:List Nat}(hw:WebC m w)(hm0:0<m)(hx:x<m)(hy:y<m)(hxy:x≠y)(h:Tn m w t)(h1:ap t x=y)(h2:ap t y=x)(hc:∀ r,r<m->cs.contains (ap t r)=cs.contains r):¬ (colL m w (sgL m [x,y] cs true)).Nodup:=fun hn=>by
 have hs:∀ r,r<m->sgN (sgL m [x,y] cs true) (ap t r)=sgN (sgL m [x,y] cs true) r:=fun r hr=>by
  rw [qke (h.lt hm0),qke hr,hc r hr]
  have:[x,y].contains (ap t r)=[x,y].contains r:=by
   rw [Bool.eq_iff_iff,con2,con2]
   constructor
   ·rintro (z | z)
    ·exact .inr (h.inj hr hy (z.trans h2.symm))
    ·exact .inl (h.inj hr hx (z.trans h1.symm))
   ·rintro (rfl | rfl)
    ·exact .inr h1
    ·exact .inl h2
  rw [this]
 have:=qb1.mpr (h.col hw.toWebJ hm0 hs m x hx)
 rw [h1] at this
 unfold colL at hn
 have g1:((List.range m).map (col w (sgL m [x,y] cs true) m))[x]? = some (col w (sgL m [x,y] cs true) m x):=by rw [gP1,List.getElem?_range hx];rfl
 have g2:((List.range m).map (col w (sgL m [x,y] cs true) m))[y]? = some (col w (sgL m [x,y] cs true) m x):=by rw [gP1,List.getElem?_range hy,this];rfl
 obtain ⟨l1,e1⟩:=gE1.mp g1
 obtain ⟨l2,e2⟩:=gE1.mp g2
 exact hxy ((List.getElem_inj hn).mp (e1.trans e2.symm))
noncomputable def coD (cl:List Nat):D:=.tup [.str "colours",.tup (nmD cl)]
theorem qpH {cl:List Nat}:(coD cl).und 0=true:=by unfold coD;rw [D.und,D.unds,D.unds,D.und,D.und,qaW];rfl
theorem qmQ {m:Nat}{w:qad}{ws cs:List Nat}{S:Sto}{Q:D×Sto->Prop}(hw:WebJ m w)(hm0:0<m)(hm:m<=8)(q1:¬ (colL m w (sgL m ws cs true)).Nodup->Q (coD (colL m w (sgL m ws cs true)),S))(q2:(colL m w (sgL m ws cs true)).Nodup->Q (.non,S)):W (qaj 3 qek [webD w,stD ws cs,.bl false] S) Q:=by
 refine qfz rfl (by rw [D.unds,qaL,D.unds,qlt];rfl) ?_
 unfold qek
 refine fnW ?_
 unfold qg4
 refine seqW (fun r V=>V=[]/\r=[some (webD w),some (stD ws cs),some (.bl false),some (.tup (nmD (colL m w (sgL m ws cs true))))]) ?_ ?_
 ·walk_at "own wq"
  refine qpS hw hm ?_
  walk_at "own wq"
  refine qg0 hw hm0 hm qmi ?_
  first | exact ⟨rfl,rfl⟩ | exact ⟨rfl,trivial⟩ | rfl
 rintro r V ⟨rfl,rfl⟩
 have hcll:(colL m w (sgL m ws cs true)).length=m:=qlg
 refine qf9 (fun t=>t=(!tf (colL m w (sgL m ws cs true)).Nodup,[])) ?_ (fun V e=>?_) fun V e=>?_
 ·walk_at "own wq"
  refine qj7 (by lia) ?_
  walk_at "own wq"
 ·injection e with e1 e2
  subst e2
  have hn:¬ (colL m w (sgL m ws cs true)).Nodup:=fun z=>by rw [tf_t z] at e1;cases e1
  walk_at "own wq"
  exact ⟨qpH,q1 hn⟩
 ·injection e with e1 e2
  subst e2
  have hn:(colL m w (sgL m ws cs true)).Nodup:=Classical.byContradiction fun z=>by rw [tf_f z] at e1;cases e1
  walk_at "own wq"
  exact ⟨rfl,q2 hn⟩
theorem qpt {S:Sto}{x n:Nat}{cs:List Nat}(h:S[n]? = some (.lst (nmD cs))):gInY (.int x) (.ref n) S=some (.bl (cs.contains x),S):=by
 simp only [gInY,gInX,gIn,h,qaz,oS1,qam,show (60:Nat)=59+1 from rfl,qje,oP1]
theorem qlH {o:Ob}{n m:Nat}{w:qad}{cd:D}{rs:List Nat}{T:Sto}{Q:D×Sto->Prop}(hw:WebJ m w)(hm:m<=8)(ho:Hnd o n)(hn:n<=2^40)(hT:T.all (Ob.und (T.length+1))=true)
  (hix:∀ (o':Ob) (Y:Sto) (i:Nat),i<m->gIxY cd (.int i) (o'::(T++Y))=some (.int (rs.getD i 0:Nat),o'::(T++Y)))
  (q:∀ o' f,Hnd o' (n+8)->Q (.tup (nmD ((List.range m).filter f)),o'::T)):W (qaj 3 qbD [.ref 0,webD w,cd] (o::T)) Q:=by
 refine qie rfl (by rw [D.unds];rfl) hT ?_
 unfold qbD
 refine fnW ?_
 unfold qc9
 refine seqW (fun r V=>∃ o' l,Hnd o' (n+8)/\V=o'::(T++[.lst (nmD l)])/\r=[some (.ref 0),some (webD w),some cd,some (.ref (T.length+1))]) ?_ ?_
 ·((try walk_at "own wq");repeat (simp only [qcy];try walk_at "own wq"))
  rw [hw.len]
  refine ⟨qba (by lia),?_⟩
  rw [Int.toNat_natCast]
  refine qc5 (fun i acc r S=>∃ o' l x,i<=m/\acc=nmD l/\l.length<=i/\Hnd o' (n+i)/\S=o'::T/\r=[x,some (.ref 0)]) (nums 0 m) 0 [] _ _ ⟨o,[],_,by lia,rfl,by simp,ho,rfl,rfl⟩ (fun _ _ _ _ _=>rfl) ?_ ?_
  ·rintro i d hd acc r S ⟨o',l,x,hi,rfl,hl,ho',rfl,rfl⟩
   have hlt:=(gE1.mp hd).1
   rw [qaI] at hlt
   rw [qdl,gP1,List.getElem?_range hlt] at hd
   cases hd
   rw [Nat.zero_add] at *
   walk_at "own wq"
   refine qcM ho' (by lia) (by lia) (by lia) fun c o1 ho1 hc=>?_
   walk_at "own wq"
   split
   ·exact ⟨o1,l++[i],_,by lia,qei,by rw [lA1];simp;lia,ho1.more (by lia),rfl,rfl⟩
   ·exact ⟨o1,l,_,by lia,rfl,by lia,ho1.more (by lia),rfl,rfl⟩
  ·rintro xs r S ⟨o',l,x,hi,e,hl,ho',rfl,rfl⟩
   rw [List.nil_append] at e
   subst e
   rw [qaI,Nat.zero_add] at *
   refine ⟨qah (by rw [qbw];lia),?_⟩
   walk_at "own wq"
   exact ⟨o',l,ho'.more (by lia),rfl,trivial⟩
 rintro r V ⟨o1,l,ho1,rfl,rfl⟩
 have gl:∀ Y,(o1::(T ++ .lst (nmD l)::Y))[T.length+1]? = some (.lst (nmD l)):=fun Y=>by rw [gC1,qai];rfl
 ((try walk_at "own wq");repeat (simp only [qcy];try walk_at "own wq"))
 rw [hw.len]
 refine ⟨qba (by lia),?_⟩
 rw [Int.toNat_natCast,qdl]
 refine qdL (f:=fun i:Nat=>D.int i) (fun r=>l.contains (rs.getD r 0)) (fun r=>D.int (r:Nat)) (fun r=>∃ x,r=[x,some cd,some (.ref (T.length+1))]) rfl (List.range m) _ ⟨_,rfl⟩ ?_ ?_
 ·rintro i hi r ⟨x,rfl⟩
  ((try walk_at "own wq");repeat (simp only [hix o1 _ i (List.mem_range.mp hi)];try walk_at "own wq"))
  ((try walk_at "own wq");repeat (simp only [qpt (gl [])];try walk_at "own wq"))
  exact ⟨⟨_,rfl⟩,fun _=>trivial⟩
 ·rintro r' _
  refine ⟨qah (by rw [lM1];exact Nat.le_trans (List.length_filter_le ..) (by rw [List.length_range];lia)),?_⟩
  walk_at "own wq"
  refine qaE (xs:=nmD ((List.range m).filter fun r=>l.contains (rs.getD r 0))) (by first | (rw [gC1,qaU];rfl) | simp [nmD]) ?_
  exact ⟨_,o1,[.lst (nmD l),.lst (nmD ((List.range m).filter fun r=>l.contains (rs.getD r 0)))],rfl,by rw [D.und];exact qaW _,ho1.und,q o1 _ ho1⟩
theorem qq2 {o:Ob}{n m:Nat}{w:qad}{rs:List Nat}{T:Sto}{Q:D×Sto->Prop}(hw:WebJ m w)(hm:m<=8)(hrs:rs.length=m)(ho:Hnd o n)(hn:n<=2^39)(hT:T.all (Ob.und (T.length+1))=true)
  (q:∀ o' f,Hnd o' (n+30)->Q (.tup (nmD ((List.range m).filter f)),o'::T)):W (qaj 3 qbJ [.ref 0,webD w,.tup (nmD rs)] (o::T)) Q:=by
 refine qie rfl rfl hT ?_
 unfold qbJ
 refine fnW ?_
 unfold qcG
 refine seqW (fun r V=>∃ o' f g,Hnd o' (n+16)/\V=o'::(T++[.lst (nmD (List.range m)),.lst [.tup (nmD ((List.range m).filter f)),.tup (nmD ((List.range m).filter g)),.tup []]])/\r=[some (.ref 0),some (webD w),some (.tup (nmD rs)),some (.ref (T.length+2))]) ?_ ?_
 ·simp (implicitDefEqProofs:=false) only [mAsg,qae,qlU,qaa,mN,mV,mNil,qco,mP1,List.map_nil,List.cons_append,List.nil_append,List.getElem?_cons_zero,gC1,oS1,qan]
  refine qlH (rs:=rs) hw hm ho (by lia) hT (fun o' Y i hi=>?_) fun o1 f ho1=>?_
  ·obtain ⟨p,e,rfl⟩:=qew (i:=i) (xs:=nmD rs) (x:=.int (rs.getD i 0:Nat)) (S:=o'::(T++Y)) (Q:=fun p=>p=(.int (rs.getD i 0:Nat),o'::(T++Y))) (by rw [nmD,gP1,List.getD_eq_getElem?_getD,gG1 (by lia)];rfl) rfl
   exact e
  refine qp0 (k:=m) (S1:=o1::T) (by simp only [qaa,mNil,mN,mV,b1,gC1,List.getElem?_cons_zero,oS1,qcy,hw.len]) (by lia) ?_
  dsimp only
  have hT2:(T++[Ob.lst (nums 0 m)]).all (Ob.und ((T++[Ob.lst (nums 0 m)]).length+1))=true:=allU hT (by rw [qdl,List.all_cons,Ob.und,qa1 (fun _ _=>rfl)];rfl)
  have en:nums 0 m=nmD (List.range m):=qdl m
  have hr:=qlH (o:=o1) (cd:=.ref (T.length+1)) (rs:=List.range m) (T:=T++[Ob.lst (nums 0 m)]) (Q:=fun p=>∃ o' g,Hnd o' (n+16)/\p=(.tup (nmD ((List.range m).filter g)),o'::(T++[Ob.lst (nums 0 m)]))) hw hm ho1 (by lia) hT2 (fun o' Y i hi=>by
   obtain ⟨p,e,rfl⟩:=qex (n:=T.length+1) (i:=i) (xs:=nmD (List.range m)) (x:=.int ((List.range m).getD i 0:Nat)) (S:=o'::(T++[Ob.lst (nums 0 m)]++Y)) (Q:=fun p=>p=(.int ((List.range m).getD i 0:Nat),o'::(T++[Ob.lst (nums 0 m)]++Y))) (by rw [gC1,List.append_assoc,qai,en];rfl) (by rw [nmD,gP1,List.getD_eq_getElem?_getD,List.getElem?_range hi];rfl) rfl
   exact e) fun o2 g ho2=>⟨o2,g,ho2.more (by lia),rfl⟩
  refine hr.mono ?_
  rintro p ⟨o2,g,ho2,rfl⟩
  walk_at "own wq"
  refine ⟨o2,f,g,ho2,?_,?_⟩
  ·rw [en];try rfl
  ·first | trivial | rfl
 rintro r V ⟨o1,f,g,ho1,rfl,rfl⟩
 walk_at "own wq"
 refine qcM ho1 (by lia) (by lia) (by lia) fun d o2 ho2 hd=>?_
 have hd6:d<6:=by lia
 have six:∃ k:Nat,k<3/\([.int 0,.int 0,.int 1,.int 2,.int 2,.int 2]:List D)[d]? = some (.int (k:Nat)):=by
  match d,hd6 with
  | 0,_=>exact ⟨0,by decide,rfl⟩
  | 1,_=>exact ⟨0,by decide,rfl⟩
  | 2,_=>exact ⟨1,by decide,rfl⟩
  | 3,_=>exact ⟨2,by decide,rfl⟩
  | 4,_=>exact ⟨2,by decide,rfl⟩
  | 5,_=>exact ⟨2,by decide,rfl⟩
 obtain ⟨k,hk,ek⟩:=six
 dsimp only
 refine qex (i:=d) (xs:=[.int 0,.int 0,.int 1,.int 2,.int 2,.int 2]) (x:=.int (k:Nat)) (by rw [gC1,qaU];rfl) ek ?_
 have pick:∃ h:Nat->Bool,([.tup (nmD ((List.range m).filter f)),.tup (nmD ((List.range m).filter g)),.tup []]:List D)[k]? = some (.tup (nmD ((List.range m).filter h))):=by
  match k,hk with
  | 0,_=>exact ⟨f,rfl⟩
  | 1,_=>exact ⟨g,rfl⟩
  | 2,_=>exact ⟨fun _=>false,by simp [nmD]⟩
 obtain ⟨h,eh⟩:=pick
 refine qex (i:=k) (xs:=[.tup (nmD ((List.range m).filter f)),.tup (nmD ((List.range m).filter g)),.tup []]) (x:=.tup (nmD ((List.range m).filter h))) (by rw [gC1,qaU];rfl) eh ?_
 exact ⟨_,o2,_,rfl,by rw [D.und];exact qaW _,ho2.und,q o2 h (ho2.more (by lia))⟩
theorem qpA {m:Nat}{c:Nat->Nat}:enD 0 (nmD (clL m c))=(List.range m).map fun s=>D.tup [.int (s:Nat),.int (c s:Nat)]:=by
 refine List.ext_getElem? fun i=>?_
 rw [qbt,gP1,nmD,gP1,gP1]
 by_cases h:i<m
 ·rw [List.getElem?_range h,Nat.zero_add];rfl
 ·rw [List.getElem?_eq_none (by rw [List.length_range];lia)];rfl
theorem qlh {a b:Nat}:((a:Int) == (b:Int))=tf (a=b):=tf_b (by rw [beq_iff_eq];lia)
theorem qqT {m:Nat}{c ex:Nat->Nat}{S:Sto}{Q:D×Sto->Prop}(hm:m<=8)(h:∀ r,r<m->(List.range m).filter (fun s=>tf (c s=c r/\s≠r))=[ex r])(q:Q (clD m ex,S)):W (qaj 1 qaR [clD m c] S) Q:=by
 refine qfz rfl (by rw [D.unds,D.und,qaW];rfl) ?_
 unfold qaR
 refine fnW ?_
 unfold qbO
 refine seqW (fun r V=>V=[.lst (nmD (clL 0 ex))]/\r=[some (clD m c),some (.ref 0),none,none,none]) ?_ ?_
 ·walk_at "own wq"
  first | exact ⟨rfl,trivial⟩ | rfl | trivial
 rintro r V ⟨rfl,rfl⟩
 refine seqW (fun r V=>∃ G x2 x3 x4,V = .lst (nmD (clL m ex))::G/\r=[some (clD m c),some (.ref 0),x2,x3,x4]) ?_ ?_
 ·unfold mFor
  rw [qae]
  refine qfC (xs:=nmD (clL m c)) rfl ?_
  rw [qpA]
  refine qaO (fun i r V=>∃ G x2 x3 x4,i<=m/\V = .lst (nmD (clL i ex))::G/\r=[some (clD m c),some (.ref 0),x2,x3,x4]) _ 0 _ _ ⟨[],_,_,_,by lia,rfl,rfl⟩ (fun _ _ _ _=>rfl) ?_ ?_
  ·rintro i d hd r V ⟨G,x2,x3,x4,hi,rfl,rfl⟩
   have hlt:=(gE1.mp hd).1
   rw [lM1,List.length_range] at hlt
   rw [gP1,List.getElem?_range hlt] at hd
   cases hd
   rw [Nat.zero_add] at *
   walk_at "own wq"
   unfold qb5
   refine seqW (fun r V=>V = .lst (nmD (clL i ex))::(G++[.lst [.int (ex i:Nat)]])/\r=[some (clD m c),some (.ref 0),some (.int (i:Nat)),some (.int (c i:Nat)),some (.ref (G.length+1))]) ?_ ?_
   ·walk_at "own wq"
    refine qfC (xs:=nmD (clL m c)) rfl ?_
    rw [qpA]
    refine qdL (f:=fun s:Nat=>D.tup [.int (s:Nat),.int (c s:Nat)]) (fun s=>tf (c s=c i/\s≠i)) (fun s=>D.int (s:Nat)) (fun r=>∃ x0 x1,r=[x0,x1,some (.int (c i:Nat)),some (.int (i:Nat))]) rfl (List.range m) _ ⟨_,_,rfl⟩ ?_ ?_
    ·rintro s hs r ⟨x0,x1,rfl⟩
     walk_at "own wq"
     rw [qlh]
     by_cases h1:c s=c i
     ·rw [tf_t h1]
      walk_at "own wq"
      rw [qlh]
      refine ⟨?_,⟨_,_,rfl⟩,fun _=>?_⟩
      ·by_cases h2:s=i
       ·rw [tf_t h2,tf_f (fun z=>z.2 h2)];rfl
       ·rw [tf_f h2,tf_t ⟨h1,h2⟩];rfl
      ·first | trivial | rfl | exact ⟨rfl,rfl⟩
     ·rw [tf_f h1]
      walk_at "own wq"
      refine ⟨(tf_f (fun z=>h1 z.1)).symm,⟨_,_,rfl⟩,fun _=>?_⟩
      first | trivial | rfl | exact ⟨rfl,rfl⟩
    ·rintro r' _
     rw [h i hlt]
     refine ⟨qah (by simp),?_⟩
     walk_at "own wq"
     all_goals first | exact ⟨rfl,rfl⟩ | exact ⟨rfl,trivial⟩ | rfl
   rintro r V ⟨rfl,rfl⟩
   have g4:(Ob.lst (nmD (clL i ex))::(G++[Ob.lst [.int (ex i:Nat)]]))[G.length+1]? = some (.lst [.int (ex i:Nat)]):=by rw [gC1,qai];rfl
   refine qf9 (fun t=>t=(false,.lst (nmD (clL i ex))::(G++[.lst [.int (ex i:Nat)]]))) ?_ (fun V e=>by cases e) fun V e=>?_
   ·walk_at "own wq"
    refine qaE g4 ?_
    walk_at "own wq"
    rfl
   ·injection e with _ e2
    subst e2
    unfold qbQ
    rw [qae]
    refine qds ?_
    walk_at "own wq"
    refine ⟨0,nmD (clL i ex),rfl,rfl,?_⟩
    refine qex (i:=0) (x:=.int (ex i:Nat)) g4 rfl ?_
    walk_at "own wq"
    refine (qeF (n:=0) (xs:=nmD (clL i ex)) rfl).mpr ⟨qah (by rw [qbw,lM1,List.length_range];lia),?_⟩
    refine ⟨G++[.lst [.int (ex i:Nat)]],_,_,_,by lia,?_,rfl⟩
    rw [qei,List.set_cons_zero]
    congr 3
    unfold clL
    rw [List.range_succ,List.map_append];rfl
  ·rintro r V ⟨G,x2,x3,x4,hi,rfl,rfl⟩
   rw [lM1,List.length_range,Nat.zero_add]
   exact ⟨rfl,G,_,_,_,rfl,rfl⟩
 rintro r V ⟨G,x2,x3,x4,rfl,rfl⟩
 walk_at "own wq"
 refine qaE (n:=0) (xs:=nmD (clL m ex)) rfl ?_
 exact ⟨by rw [D.und];exact qaW _,q⟩
theorem qht:∀ l:List Nat,qfo (nmD l)=some (l.map fun (r:Nat)=>(r:Int))
 | []=>rfl
 | x::l=>by
  show qfo (.int x::nmD l)=_
  rw [qfo,qht l];rfl
noncomputable def srt (l:List Nat):List Nat:=(qdW (l.map fun (r:Nat)=>(r:Int))).map Int.toNat
theorem qkc (l:List Nat):(srt l).Perm l:=by
 have h:=(qbb (l.map fun (r:Nat)=>(r:Int))).map Int.toNat
 rw [List.map_map] at h
 have e:l.map (Int.toNat∘fun (r:Nat)=>(r:Int))=l:=by
  have:l.map (Int.toNat∘fun (r:Nat)=>(r:Int))=l.map id:=List.map_congr_left fun k _=>Int.toNat_natCast k
  rw [this,List.map_id]
 rwa [e] at h
theorem qqh (l:List Nat):(qdW (l.map fun (r:Nat)=>(r:Int))).map D.int=nmD (srt l):=by
 unfold srt
 rw [nmD,List.map_map]
 refine List.map_congr_left fun i hi=>?_
 obtain ⟨k,_,rfl⟩:=List.mem_map.mp ((qbb _).mem_iff.mp hi)
 rfl
theorem qqg {n:Nat}{S:Sto}{l:List Nat}(h:S[n]? = some (.lst (nmD l)))(hl:l.length<64):qb6 (.ref n) S=some (.ref S.length,S++[.lst (nmD (srt l))]):=by
 unfold qb6
 rw [qcu h]
 dsimp only
 rw [qht]
 dsimp only
 rw [if_pos (by rw [lM1];exact hl),qqh]
theorem qnW {l cs:List Nat}(hs:cs.Pairwise (· < ·))(hp:l.Perm cs):srt l=cs:=by
 have h1:qdW (l.map fun (r:Nat)=>(r:Int))=cs.map fun (r:Nat)=>(r:Int):=by
  refine qe8 ((qbb _).trans (hp.map _)) (qdZ _) ?_
  rw [List.pairwise_map]
  exact hs.imp fun h=>by lia
 unfold srt
 rw [h1,List.map_map]
 have:cs.map (Int.toNat∘fun (r:Nat)=>(r:Int))=cs.map id:=List.map_congr_left fun k _=>Int.toNat_natCast k
 rw [this,List.map_id]
theorem qfm {m:Nat}{w:qad}{t:List Nat}{f:Nat->Bool}(hm0:0<m)(h:Tn m w t):srt (((List.range m).filter f).map (ap t))=(List.range m).filter f ↔ ∀ r,r<m->((List.range m).filter f).contains (ap t r)=((List.range m).filter f).contains r:=by
 have hm:∀ x,x∈(List.range m).filter f->x<m:=fun x hx=>List.mem_range.mp (List.mem_filter.mp hx).1
 generalize hcs:(List.range m).filter f=cs at *
 constructor
 ·intro e r hr
  have hp:(cs.map (ap t)).Perm cs:=by have:=qkc (cs.map (ap t));rw [e] at this;exact this.symm
  rw [Bool.eq_iff_iff,List.contains_iff_mem,List.contains_iff_mem]
  constructor
  ·intro q
   obtain ⟨r',h1,h2⟩:=List.mem_map.mp (hp.mem_iff.mpr q)
   rw [<- h.inj (hm r' h1) hr h2];exact h1
  ·intro q
   exact hp.mem_iff.mp (List.mem_map.mpr ⟨r,q,rfl⟩)
 ·intro hk
  have hs:cs.Pairwise (· < ·):=by rw [<- hcs];exact List.pairwise_lt_range.sublist List.filter_sublist
  have hnd:cs.Nodup:=by rw [<- hcs];exact List.nodup_range.filter _
  refine qnW hs ((List.perm_ext_iff_of_nodup (qgG hnd hm fun x y hx hy e=>h.inj hx hy e) hnd).mpr fun x=>?_)
  rw [List.mem_map]
  constructor
  ·rintro ⟨r,hr,rfl⟩
   have:=hk r (hm r hr)
   rw [List.contains_iff_mem.mpr hr] at this
   exact List.contains_iff_mem.mp this
  ·intro hx
   obtain ⟨e1,e2⟩:=h.inv1 (hm x hx)
   refine ⟨t.idxOf x,?_,e1⟩
   have:=hk _ e2
   rw [e1,List.contains_iff_mem.mpr hx] at this
   exact List.contains_iff_mem.mp this.symm
noncomputable def tD (t:List Nat):D:=.tup (nmD t)
theorem qjd {S:Sto}{n:Nat}{x:List Nat}:∀ ts:List (List Nat),inL (eqN S (n+2)) (tD x) (ts.map tD)=some (tf (x∈ts))
 | []=>by rw [tf_f (by simp)];rfl
 | t::ts=>by
  unfold tD
  rw [mP1,inL,qjs,oS1]
  have:=qjd (S:=S) (n:=n) (x:=x) ts
  unfold tD at this
  rw [this,oP1]
  refine congrArg some (tf_b ?_)
  rw [Bool.or_eq_true,tf_e,tf_e,List.mem_cons]
  exact ⟨fun h=>h.imp Eq.symm fun z=>z,fun h=>h.imp Eq.symm fun z=>z⟩
theorem qmO {S:Sto}{n:Nat}{x:List Nat}{ts:List (List Nat)}(h:S[n]? = some (.lst (ts.map tD))):qaH (tD x) (.ref n) S=some (.bl (!tf (x∈ts)),S):=by
 have:qaH (tD x) (.ref n) S=qdT (tD x) (.ref n) S:=by simp only [qaH,qcj,h]
 rw [this]
 simp only [qdT,qcu h,oS1,qam,show (60:Nat)=58+2 from rfl,qjd,oP1]
theorem qpz {S:Sto}{a b:List Nat}:gEq (.tup (nmD a)) (.tup (nmD b)) S=some (.bl (tf (a=b)),S):=by
 show (eqN S qam _ _).map _=_
 rw [show qam=58+2 from rfl,qjs];rfl
theorem qoA {m x y:Nat}{w:qad}{cs:List Nat}{f:Nat->Bool}{ts:List (List Nat)}{S:Sto}{q7:Nat}{N:D}{k:Int}{x2 x4 x6 x10 x11:Option D}{Q:Fl×Ev×Sto->Prop}(hw:WebC m w)(hm0:0<m)(hm:m<=8)(hx:x<m)(hy:y<m)(hxy:x≠y)(hcs:cs=(List.range m).filter f)(h7:S[q7]? = some (.lst (ts.map tD)))(hl:ts.length<=8)(hts:∀ t,t∈ts↔Tn m w t/\srt (cs.map (ap t))=cs)
  (q:∀ x10' x11' G,Q (.nx,[some N,some (.int k),x2,some (webD w),x4,some (.tup (nmD cs)),x6,some (.ref q7),some (.int (y:Nat)),some (.int (x:Nat)),x10',x11'],S++G)):
  W (qgA [some N,some (.int k),x2,some (webD w),x4,some (.tup (nmD cs)),x6,some (.ref q7),some (.int (y:Nat)),some (.int (x:Nat)),x10,x11] S) Q:=by
 have gq:∀ Y,(S++Y)[q7]? = some (.lst (ts.map tD)):=fun Y=>by rw [gL1 (gE1.mp h7).1];exact h7
 unfold qgA
 generalize hcl:colL m w (sgL m [x,y] cs true)=cl
 -- what is told
 refine seqW (fun r V=>∃ d,((¬ cl.Nodup/\d=coD cl)\/(cl.Nodup/\d = .non))/\V=S/\r=[some N,some (.int k),x2,some (webD w),x4,some (.tup (nmD cs)),x6,some (.ref q7),some (.int (y:Nat)),some (.int (x:Nat)),some d,x11]) ?_ ?_
 ·simp (implicitDefEqProofs:=false) only [mAsg,mN,qaa,mNil,mV,mC,qhQ,List.getElem?_cons_zero,gC1,oS1,qae,qan,lC1,List.length_nil,Nat.reduceAdd,ft2,true_and,al1]
  have est:D.tup [D.tup [D.int (x:Nat),D.int (y:Nat)],D.tup (nmD cs)]=stD [x,y] cs:=rfl
  rw [est]
  refine qmQ (ws:=[x,y]) (cs:=cs) hw.toWebJ hm0 hm (fun hn=>?_) fun hn=>?_
  ·rw [hcl] at hn ⊢
   exact W.of rfl ⟨_,.inl ⟨hn,rfl⟩,rfl,rfl⟩
  ·rw [hcl] at hn
   exact W.of rfl ⟨_,.inr ⟨hn,rfl⟩,rfl,rfl⟩
 rintro r V ⟨d,hd,rfl,rfl⟩
 -- what is due
 generalize hdu:ts.filter (fun t=>tf (ap t x=y/\ap t y=x))=du
 have hdl:du.length<=8:=by rw [<- hdu];exact Nat.le_trans (List.length_filter_le ..) hl
 have hmem:∀ t,t∈du↔(Tn m w t/\srt (cs.map (ap t))=cs)/\ap t x=y/\ap t y=x:=fun t=>by
  rw [<- hdu,List.mem_filter,hts,tf_e]
 refine seqW (fun r V'=>V'=V++[.lst (du.map tD)]/\r=[some N,some (.int k),x2,some (webD w),x4,some (.tup (nmD cs)),x6,some (.ref q7),some (.int (y:Nat)),some (.int (x:Nat)),some d,some (.ref V.length)]) ?_ ?_
 ·walk_at "own wq"
  refine qaE h7 ?_
  refine qdL (f:=tD) (fun t=>tf (ap t x=y/\ap t y=x)) tD (fun r=>∃ z,r=[z,some (.int (x:Nat)),some (.int (y:Nat))]) (qbp h7) ts _ ⟨_,rfl⟩ ?_ ?_
  ·rintro t ht r ⟨z,rfl⟩
   have htl:=((hts t).mp ht).1.len
   unfold tD
   walk_at "own wq"
   refine W_at (by lia) ?_
   walk_at "own wq"
   rw [qlh]
   by_cases h1:ap t x=y
   ·rw [show tf (t.getD x 0=y)=true from tf_t h1]
    walk_at "own wq"
    refine W_at (by lia) ?_
    walk_at "own wq"
    rw [qlh]
    refine ⟨tf_i ⟨fun z=>⟨h1,z⟩,fun z=>z.2⟩,⟨_,rfl⟩,fun _=>?_⟩
    first | trivial | rfl | exact ⟨rfl,rfl⟩
   ·rw [show tf (t.getD x 0=y)=false from tf_f h1]
    walk_at "own wq"
    refine ⟨(tf_f fun z=>h1 z.1).symm,⟨_,rfl⟩,fun _=>?_⟩
    first | trivial | rfl | exact ⟨rfl,rfl⟩
  ·rintro r' _
   rw [hdu]
   refine ⟨qah (by dsimp only;rw [lM1];lia),?_⟩
   walk_at "own wq"
   all_goals first | exact ⟨rfl,rfl⟩ | exact ⟨rfl,trivial⟩ | rfl
 rintro r V' ⟨rfl,rfl⟩
 have gd:∀ Y,(V ++ .lst (du.map tD)::Y)[V.length]? = some (.lst (du.map tD)):=fun Y=>by rw [qai];rfl
 have hnil:=qnl (S:=V++[.lst (du.map tD),.lst []]) (i:=V.length) (j:=V.length+1) (xs:=du.map tD) (gd _) (by rw [qaU];rfl)
 have hisn:∀ S,gIsX d .non S=some (.bl (isNon d),S):=fun S=>rfl
 have hisnn:∀ S,qgW d .non S=some (.bl (!isNon d),S):=fun S=>rfl
 have hne:∀ (a:Bool) (S:Sto),gNe (.bl a) (.bl a) S=some (.bl false,S):=fun a S=>by cases a<;>rfl
 have hiff:isNon d=(du.map tD).isEmpty:=by
  rcases hd with ⟨hn,rfl⟩ | ⟨hn,rfl⟩
  ·rw [<- hcl] at hn
   obtain ⟨ex,h1,h2,h3,h4,h5,h6⟩:=qio hw hm0 hx hy hxy hn
   have hap:∀ r,r<m->ap ((List.range m).map ex) r=ex r:=fun r hr=>by
    unfold ap;rw [List.getD_eq_getElem?_getD,gP1,List.getElem?_range hr];rfl
   have:(List.range m).map ex∈du:=(hmem _).mpr ⟨⟨h3,by rw [hcs];exact (qfm hm0 h3).mpr fun r hr=>by rw [hap r hr,<- hcs];exact h6 r hr⟩,by rw [hap x hx];exact h4,by rw [hap y hy];exact h5⟩
   cases du with
   | nil=>cases this
   | cons a l=>rfl
  ·cases du with
   | nil=>rfl
   | cons a l=>
    obtain ⟨⟨h1,h2⟩,h3,h4⟩:=(hmem a).mp mS1
    rw [<- hcl] at hn
    refine (qnH hw hm0 hx hy hxy h1 h3 h4 (fun r hr=>?_) hn).elim
    rw [hcs] at h2 ⊢
    exact (qfm hm0 h1).mp h2 r hr
 refine qf9 (fun t=>t=(false,V++[.lst (du.map tD),.lst []])) ?_ (fun V e=>by cases e) fun V2 e=>?_
 ·((try walk_at "own wq");repeat (simp only [hisn,hnil,<- hiff,hne];try walk_at "own wq"))
 injection e with _ e2
 subst e2
 rcases hd with ⟨hn,rfl⟩ | ⟨hn,rfl⟩
 ·have hnn:=hn
  rw [<- hcl] at hn
  obtain ⟨ex,h1,h2,h3,h4,h5,h6⟩:=qio hw hm0 hx hy hxy hn
  have hap:∀ r,r<m->ap ((List.range m).map ex) r=ex r:=fun r hr=>by
   unfold ap;rw [List.getD_eq_getElem?_getD,gP1,List.getElem?_range hr];rfl
  have hin:clL m ex∈du:=(hmem _).mpr ⟨⟨h3,by rw [hcs];exact (qfm hm0 h3).mpr fun r hr=>by rw [hap r hr,<- hcs];exact h6 r hr⟩,by rw [hap x hx];exact h4,by rw [hap y hy];exact h5⟩
  have c0:∀ S,gIxY (coD cl) (.int 0) S=some (.str "colours",S):=fun S=>rfl
  have c1:∀ S,gIxY (coD cl) (.int 1) S=some (.tup (nmD cl),S):=fun S=>rfl
  have s0:(("colours":Str) == ("colours":Str))=true:=beq_self_eq_true _
  ((try walk_at "own wq");repeat (simp only [hisnn,c0,c1];try walk_at "own wq"))
  rw [if_pos (by rfl)]
  try walk_at "own wq"
  rw [s0]
  walk_at "own wq"
  have ecl:D.tup (nmD cl)=clD m (col w (sgL m [x,y] cs true) m):=by rw [<- hcl];rfl
  rw [ecl]
  refine qqT (ex:=ex) hm (fun r hr=>?_) ?_
  ·refine List.perm_singleton.mp ((List.perm_ext_iff_of_nodup (List.nodup_range.filter _) (by simp)).mpr fun s=>?_)
   rw [List.mem_filter,List.mem_range,tf_e,List.mem_singleton]
   constructor
   ·rintro ⟨a1,a2,a3⟩
    exact h2 r hr s (ex r) ⟨a1,a3,a2.symm⟩ (h1 r hr)
   ·rintro rfl
    have:=h1 r hr
    exact ⟨this.1,this.2.2.symm,this.2.1⟩
  have hni:=qmO (S:=V++[.lst (du.map tD),.lst []]) (x:=clL m ex) (gd _)
  rw [tf_t hin] at hni
  have ek:clD m ex=tD (clL m ex):=rfl
  rw [ek]
  ((try walk_at "own wq");repeat (simp only [hni];try walk_at "own wq"))
  exact q _ _ _
 ·((try walk_at "own wq");repeat (simp only [hisnn];try walk_at "own wq"))
  first | exact q _ _ _ | (rw [if_neg (by decide)];exact q _ _ _) | (simp only [isNon];walk_at "own wq";exact q _ _ _)
theorem qlo {m:Nat}{w:qad}{ws:List (List Nat)}:trsD m w ws m=(tsL m w ws).map tD:=qp5
theorem qpO (ns:List Int)(k:Int)(h0:0<=k)(hk:k<63):W (qgz [some (.rol (ns.map D.int)),some (.int k),none,none,none,none,none,none,none,none,none,none] []) fun p=>p.1 = .nx /\ ∃ r9,p.2.1=some (.rol (ns.map D.int))::r9/\r9.length=11:=by
 unfold qgz
 generalize hN:D.rol (ns.map D.int)=N
 refine seqW (fun r S=>∃ o,Hnd o 0/\S=[o]/\r=[some N,some (.int k),some (.ref 0),none,none,none,none,none,none,none,none,none]) ?_ ?_
 ·obtain ⟨o,e,ho⟩:=qne ns k h0 hk
  rw [hN] at e
  ((try walk_at "own wq");repeat (simp only [e];try walk_at "own wq"))
  exact ⟨o,ho,rfl,trivial⟩
 rintro r S ⟨o,ho,rfl,rfl⟩
 refine seqW (fun r S=>∃ m w rs o,0<m/\m<=8/\WebC m w/\rs.length=m/\Hnd o 300/\S=[o]/\r=[some N,some (.int k),some (.ref 0),some (webD w),some (.tup (nmD rs)),none,none,none,none,none,none,none]) ?_ ?_
 ·walk_at "own wq"
  refine qp4 ho (by lia) rfl fun m w rs o' hm0 hm hw hrs ho'=>?_
  walk_at "own wq"
  exact ⟨m,w,rs,o',hm0,hm,hw,hrs,ho',rfl,rfl⟩
 rintro r S ⟨m,w,rs,o,hm0,hm,hw,hrs,ho,rfl,rfl⟩
 have hwJ:=hw.toWebJ
 refine seqW (fun r S=>∃ f ws j,Wlk m w ws/\S[j]? = some (.lst ((tsL m w ws).map tD))/\r=[some N,some (.int k),some (.ref 0),some (webD w),some (.tup (nmD rs)),some (.tup (nmD ((List.range m).filter f))),some (.ref j),none,none,none,none,none]) ?_ ?_
 ·simp (implicitDefEqProofs:=false) only [mAsg,mN,qaa,mNil,mV,qhQ,List.getElem?_cons_zero,gC1,oS1,qae,qan]
  refine qq2 hwJ hm hrs ho (by lia) rfl fun o' f ho'=>?_
  refine qnu rfl (by rw [D.unds,qaL];rfl) ((qkW hwJ hm0 hm).mono ?_)
  rintro p ⟨kk,ws,h1,h2,h3,hkk⟩
  refine ⟨kk,trsD m w ws m,h1,h2,h3,fun G j hj hG hjl=>?_⟩
  refine ⟨qah (by simp),?_⟩
  refine W.of rfl ⟨trivial,f,ws,j,hkk,by rw [<- qlo];exact hj,rfl⟩
 rintro r S ⟨f,ws,j,hwk,hj,rfl⟩
 obtain ⟨cs,hcs⟩:∃ cs,cs=(List.range m).filter f:=⟨_,rfl⟩
 rw [<- hcs]
 have hcm:∀ x∈cs,x<m:=fun x hx=>by rw [hcs] at hx;exact List.mem_range.mp (List.mem_filter.mp hx).1
 have hcl:cs.length<=8:=by rw [hcs];exact Nat.le_trans (List.length_filter_le ..) (by rw [List.length_range];lia)
 have htl:(tsL m w ws).length<=8:=by
  have:=qgs (m:=m) (k:=m) (w:=w) (ws:=ws)
  rw [qlo,lM1] at this
  lia
 have gj:∀ Y,(S++Y)[j]? = some (.lst ((tsL m w ws).map tD)):=fun Y=>by rw [gL1 (gE1.mp hj).1];exact hj
 refine seqW (fun r S=>∃ (ts:List (List Nat)) (q7:Nat),S[q7]? = some (.lst (ts.map tD))/\ts.length<=8/\(∀ t,t∈ts↔Tn m w t/\srt (cs.map (ap t))=cs)/\r=[some N,some (.int k),some (.ref 0),some (webD w),some (.tup (nmD rs)),some (.tup (nmD cs)),some (.ref j),some (.ref q7),none,none,none,none]) ?_ ?_
 ·walk_at "own wq"
  refine qaE hj ?_
  refine qc5 (fun i acc r V=>i<=(tsL m w ws).length/\(∃ G,V=S++G)/\(∃ x,r=[x,some (.tup (nmD cs))])/\acc=(((tsL m w ws).take i).filter fun t=>tf (srt (cs.map (ap t))=cs)).map tD) _ 0 [] _ _ ⟨by lia,⟨[],by rw [List.append_nil]⟩,⟨_,rfl⟩,rfl⟩ ?_ ?_ ?_
  ·rintro i acc r V ⟨_,⟨G,rfl⟩,_⟩
   exact qbp (gj G)
  ·rintro i d hd acc r V ⟨hi,⟨G,rfl⟩,⟨x,rfl⟩,rfl⟩
   dsimp only at hd
   rw [gP1] at hd
   obtain ⟨t,ht,rfl⟩:=oM1.mp hd
   have hil:=(gE1.mp ht).1
   have tn:=(qlF hwJ hm0 hwk).mp (gM1 ht)
   have htm:=tn.len
   have hstep:(((tsL m w ws).take (i+1)).filter fun t=>tf (srt (cs.map (ap t))=cs)).map tD=(((tsL m w ws).take i).filter fun t=>tf (srt (cs.map (ap t))=cs)).map tD++if tf (srt (cs.map (ap t))=cs)=true then [tD t] else []:=by
    rw [List.take_succ,ht,List.filter_append,List.map_append]
    congr 1
    cases h:tf (srt (cs.map (ap t))=cs) with
    | true=>simp [h]
    | false=>simp [h]
   rw [Nat.zero_add] at *
   unfold tD
   walk_at "own wq"
   rw [qhd]
   refine mapW (f:=fun i:Nat=>D.int i) (fun i=>D.int (ap t i:Nat)) (fun r=>∃ x,r=[x,some (.tup (nmD t))]) rfl cs _ ⟨_,rfl⟩ ?_ ?_
   ·rintro i hi r ⟨x,rfl⟩
    walk_at "own wq"
    refine W_at (by have:=hcm i hi;lia) ?_
    exact ⟨rfl,rfl,_,rfl⟩
   ·rintro r' _
    refine ⟨qah (by rw [lM1];lia),?_⟩
    have en:(cs.map fun i=>D.int (ap t i:Nat))=nmD (cs.map (ap t)):=by rw [nmD,List.map_map];rfl
    dsimp only
    rw [en]
    have hsr:=qqg (n:=(S++G).length) (S:=S++G++[.lst (nmD (cs.map (ap t)))]) (l:=cs.map (ap t)) (by rw [qai];rfl) (by rw [lM1];lia)
    rw [hsr,qan]
    dsimp only
    refine qaE (xs:=nmD (srt (cs.map (ap t)))) (by rw [qai];rfl) ?_
    dsimp only
    rw [qpz,qan]
    dsimp only
    rw [qan]
    cases hk2:tf (srt (cs.map (ap t))=cs) with
    | true=>
     rw [if_pos rfl]
     try walk_at "own wq"
     refine ⟨by lia,⟨_,by first | rfl | (rw [List.append_assoc,List.append_assoc])⟩,⟨_,rfl⟩,?_⟩
     have:=hstep
     unfold tD at this
     rw [this,hk2,if_pos rfl]
    | false=>
     rw [if_neg (by simp)]
     refine ⟨by lia,⟨_,by first | rfl | (rw [List.append_assoc,List.append_assoc])⟩,⟨_,rfl⟩,?_⟩
     have:=hstep
     unfold tD at this
     rw [this,hk2,if_neg (by decide),List.append_nil]
  ·rintro xs r V ⟨hi,⟨G,rfl⟩,⟨x,rfl⟩,e⟩
   dsimp only at e
   rw [List.nil_append,lM1,Nat.zero_add,List.take_length] at e
   subst e
   refine ⟨qah (by dsimp only;rw [lM1];exact Nat.le_trans (List.length_filter_le ..) (by lia)),?_⟩
   walk_at "own wq"
   refine ⟨_,_,by first | (rw [<- List.append_assoc,<- lA1,qai];rfl) | simp,Nat.le_trans (List.length_filter_le ..) htl,fun t=>?_,rfl⟩
   rw [List.mem_filter,tf_e,qlF hwJ hm0 hwk]
 rintro r S2 ⟨ts,q7,h7,hl,hts,rfl⟩
 clear gj hj
 ((try walk_at "own wq");repeat (simp only [qcy];try walk_at "own wq"))
 rw [hw.len]
 refine ⟨qba (by lia),?_⟩
 rw [Int.toNat_natCast]
 refine qaO (fun i r V=>∃ G x8 x9 x10 x11,i<=m/\V=S2++G/\r=[some N,some (.int k),some (.ref 0),some (webD w),some (.tup (nmD rs)),some (.tup (nmD cs)),some (.ref j),some (.ref q7),x8,x9,x10,x11]) _ 0 _ _ ⟨[],_,_,_,_,by lia,by rw [List.append_nil],rfl⟩ (fun _ _ _ _=>rfl) ?_ ?_
 ·rintro y d hd r V ⟨G,x8,x9,x10,x11,hi,rfl,rfl⟩
  have hym:=(gE1.mp hd).1
  rw [qaI] at hym
  rw [qdl,gP1,List.getElem?_range hym] at hd
  cases hd
  rw [Nat.zero_add] at *
  walk_at "own wq"
  unfold qiQ
  unfold mFor
  rw [qae]
  walk_at "own wq"
  refine ⟨qba (by lia),?_⟩
  rw [Int.toNat_natCast]
  refine qaO (fun i r V=>∃ G x9 x10 x11,i<=y/\V=S2++G/\r=[some N,some (.int k),some (.ref 0),some (webD w),some (.tup (nmD rs)),some (.tup (nmD cs)),some (.ref j),some (.ref q7),some (.int (y:Nat)),x9,x10,x11]) _ 0 _ _ ⟨G,_,_,_,by lia,rfl,rfl⟩ (fun _ _ _ _=>rfl) ?_ ?_
  ·rintro x d hd r V ⟨G,x9,x10,x11,hi,rfl,rfl⟩
   have hxm:=(gE1.mp hd).1
   rw [qaI] at hxm
   rw [qdl,gP1,List.getElem?_range hxm] at hd
   cases hd
   rw [Nat.zero_add] at *
   walk_at "own wq"
   have h7':(S2++G)[q7]? = some (.lst (ts.map tD)):=by rw [gL1 (gE1.mp h7).1];exact h7
   refine qoA (f:=f) hw hm0 hm (by lia) hym (by lia) hcs h7' hl hts fun x10' x11' G'=>?_
   exact ⟨rfl,G++G',_,_,_,by lia,by rw [List.append_assoc],rfl⟩
  ·rintro r V ⟨G,x9,x10,x11,hi,rfl,rfl⟩
   exact ⟨rfl,G,_,_,_,_,by lia,rfl,rfl⟩
 ·rintro r V ⟨G,x8,x9,x10,x11,hi,rfl,rfl⟩
  exact ⟨rfl,_,rfl,rfl⟩
theorem truth (ns:List Int)(hl:ns.length<=63):∃ S,m_law [.rol (ns.map D.int)] []=some (.bl true,S):=by
 have key:W (m_law [.rol (ns.map D.int)] []) fun p=>p.1 = .bl true:=by
  unfold m_law
  refine fnW ?_
  unfold qnx
  have hu:(D.rol (ns.map D.int)).und 0=true:=by simp [D.und,qd6]
  have ht:=fun k h0 hk=>qpO ns k h0 hk
  generalize hN:D.rol (ns.map D.int)=N at *
  have hlen:gLen N []=some (.int ns.length,[]):=by rw [<- hN];simp [gLen,qaz]
  refine seqW (fun r S=>S=[]/\r=[some N,none,none,none,none,none,none,none,none,none,none,none]) ?_ ?_
  ·simp only [qco,mP1,List.map_nil,lC1,List.length_nil,Nat.reduceAdd,Nat.reduceSub,rp11,List.cons_append,List.nil_append,mFor,qae,qpX,qaa,mN,mC,mV,mNil,b1,b2,gMax,gMin,hlen,qan,oS1,List.getElem?_cons_zero,rW1]
   have hb:∃ t:Nat,t<=4/\(if (if (ns.length:Int)<4 then (ns.length:Int) else 4)>1 then (if (ns.length:Int)<4 then (ns.length:Int) else 4) else 1)=(t:Int):=by
    by_cases h1:(ns.length:Int)<4
    ·rw [if_pos h1]
     by_cases h2:(ns.length:Int)>1
     ·rw [if_pos h2];exact ⟨ns.length,by lia,rfl⟩
     ·rw [if_neg h2];exact ⟨1,by lia,rfl⟩
    ·rw [if_neg h1]
     exact ⟨4,by lia,by decide⟩
   obtain ⟨t,t1,te⟩:=hb
   rw [te,Int.toNat_natCast]
   refine ⟨qba (by lia),?_⟩
   refine qaO (fun _ r S=>S=[]/\r=[some N,none,none,none,none,none,none,none,none,none,none,none]) _ 0 _ _ ⟨rfl,rfl⟩ (fun _ _ _ _=>rfl) ?_ ?_
   ·rintro i d hd r S ⟨rfl,rfl⟩
    obtain ⟨k,e,k0,k1⟩:=qhp (gM1 hd)
    subst e
    simp only [gN,List.set_cons_succ,List.set_cons_zero,qan]
    obtain ⟨⟨f,r2,S2⟩,e2,hf,r9,hr9,hl9⟩:=ht k k0 (by lia)
    dsimp only at hf hr9
    subst hf;subst hr9
    refine W.of (x:=(.nx,[some N,none,none,none,none,none,none,none,none,none,none,none],[])) ?_ ⟨rfl,rfl,rfl⟩
    match r9,hl9 with
    | [z1,z2,z3,z4,z5,z6,z7,z8,z9,z10,z11],_=>
     unfold qiP qh7
     simp [qcb,qe2,D.und,hu,e2]
   ·rintro r S ⟨rfl,rfl⟩
    exact ⟨rfl,rfl,rfl⟩
  ·rintro r S ⟨rfl,rfl⟩
   simp only [mRet,mC,oS1,qan]
 obtain ⟨⟨d,S⟩,e,h⟩:=key
 dsimp only at h
 exact ⟨S,by rw [e,h]⟩
end Law
end
open PySem PySem.W PyProof.Rows
set_option maxRecDepth 100000 in
set_option maxHeartbeats 0 in
theorem PySem.Challenge.cw_ringmeet_k40_two_walkers_and_turns_holds : PySem.Challenge.rw_ringmeet_k40_two_walkers_and_turns.Holds := by
 w_on;refine PySem.W.holds_law (by decide+kernel) fun said=>?_;k_head;(case hw=>w_witness2)
 k_fill
 refine Mi.walk_m (l:=PySem.Challenge.rw_ringmeet_k40_two_walkers_and_turns) (m:=Law.m_law) (k:=6) (x:="_law_script") rfl rfl ⟨rfl,by decide,by decide,rfl⟩ (fun w h Y=>PySem.W.kIn_of Y) Law.truth ?F
 case F=>
  intro w mg fa h KX G hmg
  refine' Law.all_mk KX G hmg ?a1 ?l1 ?c1 ?k1 ?a2 ?l2 ?c2 ?k2 ?a3 ?l3 ?c3 ?k3 ?a4 ?l4 ?c4 ?k4 ?a5 ?l5 ?c5 ?k5 ?a6 ?l6 ?c6 ?k6 ?a7 ?l7 ?c7 ?k7 ?a8 ?l8 ?c8 ?k8 ?a9 ?l9 ?c9 ?k9 ?a10 ?l10 ?c10 ?k10 ?a11 ?l11 ?c11 ?k11 ?a12 ?l12 ?c12 ?k12 ?a13 ?l13 ?c13 ?k13 ?a14 ?l14 ?c14 ?k14 ?a15 ?l15 ?c15 ?k15 ?a16 ?l16 ?c16 ?k16 ?a17 ?l17 ?c17 ?k17 ?a18 ?l18 ?c18 ?k18 ?a19 ?l19 ?c19 ?k19 ?a20 ?l20 ?c20 ?k20 ?a21 ?l21 ?c21 ?k21 ?a22 ?l22 ?c22 ?k22 ?a23 ?l23 ?c23 ?k23 ?a24 ?l24 ?c24 ?k24 ?z_enumerate ?z_int ?z_len ?z_list ?z_max ?z_min ?z_range ?z_set ?z_sorted ?z_tuple
  (case a1=>k_is)
  (case l1=>k_is)
  (case c1=>k_is)
  (case k1=>k_is)
  (case a2=>k_is)
  (case l2=>k_is)
  (case c2=>k_is)
  (case k2=>k_is)
  (case a3=>k_is)
  (case l3=>k_is)
  (case c3=>k_is)
  (case k3=>k_is)
  (case a4=>k_is)
  (case l4=>k_is)
  (case c4=>k_is)
  (case k4=>k_is)
  (case a5=>k_is)
  (case l5=>k_is)
  (case c5=>k_is)
  (case k5=>k_is)
  (case a6=>k_is)
  (case l6=>k_is)
  (case c6=>k_is)
  (case k6=>k_is)
  (case a7=>k_is)
  (case l7=>k_is)
  (case c7=>k_is)
  (case k7=>k_is)
  (case a8=>k_is)
  (case l8=>k_is)
  (case c8=>k_is)
  (case k8=>k_is)
  (case a9=>k_is)
  (case l9=>k_is)
  (case c9=>k_is)
  (case k9=>k_is)
  (case a10=>k_is)
  (case l10=>k_is)
  (case c10=>k_is)
  (case k10=>k_is)
  (case a11=>k_is)
  (case l11=>k_is)
  (case c11=>k_is)
  (case k11=>k_is)
  (case a12=>k_is)
  (case l12=>k_is)
  (case c12=>k_is)
  (case k12=>k_is)
  (case a13=>k_is)
  (case l13=>k_is)
  (case c13=>k_is)
  (case k13=>k_is)
  (case a14=>k_is)
  (case l14=>k_is)
  (case c14=>k_is)
  (case k14=>k_is)
  (case a15=>k_is)
  (case l15=>k_is)
  (case c15=>k_is)
  (case k15=>k_is)
  (case a16=>k_is)
  (case l16=>k_is)
  (case c16=>k_is)
  (case k16=>k_is)
  (case a17=>k_is)
  (case l17=>k_is)
  (case c17=>k_is)
  (case k17=>k_is)
  (case a18=>k_is)
  (case l18=>k_is)
  (case c18=>k_is)
  (case k18=>k_is)
  (case a19=>k_is)
  (case l19=>k_is)
  (case c19=>k_is)
  (case k19=>k_is)
  (case a20=>k_is)
  (case l20=>k_is)
  (case c20=>k_is)
  (case k20=>k_is)
  (case a21=>k_is)
  (case l21=>k_is)
  (case c21=>k_is)
  (case k21=>k_is)
  (case a22=>k_is)
  (case l22=>k_is)
  (case c22=>k_is)
  (case k22=>k_is)
  (case a23=>k_is)
  (case l23=>k_is)
  (case c23=>k_is)
  (case k23=>k_is)
  (case a24=>k_is)
  (case l24=>k_is)
  (case c24=>k_is)
  (case k24=>k_is)
  (case z_enumerate=>k_is)
  (case z_int=>k_is)
  (case z_len=>k_is)
  (case z_list=>k_is)
  (case z_max=>k_is)
  (case z_min=>k_is)
  (case z_range=>k_is)
  (case z_set=>k_is)
  (case z_sorted=>k_is)
  (case z_tuple=>k_is)

