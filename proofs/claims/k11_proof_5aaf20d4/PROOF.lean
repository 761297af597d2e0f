import PyProof.Rows.All
import Wide.All
import OpenK.AllK
import Wide.FinOn
import Lean
import PyProof.EqAt
import PyProof.EqKinds
import PyProof.TupleCall
import PySem.Challenge.RW_ringmeet_k11_what_is_a_colouring
set_option Elab.async false
set_option compiler.extract_closed false
set_option linter.all false
set_option maxRecDepth 100000
set_option maxHeartbeats 4000000
open List renaming getElem?_eq_some_iff → gE1, getElem?_append_left → gL1, getElem?_eq_getElem → gG1, mem_of_getElem? → gM1, getElem?_set_ne → gS1, length_append → lA1, length_map → lM1, getElem?_cons_succ → gC1, mem_cons_of_mem → mC1, mem_cons_self → mS1, getElem?_map → gP1, getElem?_append_right → gR1, size_toArray → sT1, map_cons → mP1, length_cons → lC1, length_replicate → lR1, mem_append_right → mA1
open Option renaming bind_eq_some_iff → oB1, map_eq_some_iff → oM1, bind_some → oS1, map_some → oP1
open Nat renaming le_refl → nR1, lt_of_lt_of_le → nL1, ne_of_lt → nN1, ne_of_gt → nG1
open Bool renaming and_eq_true → bA1, false_eq_true → bF1
open Array renaming getElem?_eq_getElem → aG1, getElem?_toList → aT1
open PySem.W renaming Frag → Fg1, nsIn → wN1, keepIn → wK1, codeIn → wC1, fnOf → wF1, mg_of → wM1
open PySem.Heap renaming get?_push_of_some → hP1, get?_push_size → hS1, lt_size → hL1, size_push → hZ1, get?_update_ne → hU1, get?_update_self → hW1
open PySem renaming wpAny_bind → wB1, wpAny_pure → wP1, wpAny_setField_rec → wS1, wpAny_newObj_type → wO1, codeAny_builtin → wD1, wpAny_call_entry → wE1
section
namespace L2
open PySem PySem.Spec PyProof.Rows
noncomputable abbrev Key:=Sum Int Str
noncomputable def qhW:Key->Value->Bool
 | .inl k,v=>Value.isInt k v
 | .inr x,v=>Value.isStrOf x v
noncomputable def keyH (w:World):Key->Int
 | .inl k=>hashInt k
 | .inr x=>hashStr w x
theorem qaM:∀ {k:Key} {v:Value},qhW k v=true->(∃ i t,k=Sum.inl i/\v=Value.int i t)\/(∃ x t,k=Sum.inr x/\v=Value.str x t)
 | .inl i,v,h=>by
  obtain ⟨t,e⟩:=Value.isInt_shape (k:=i) (v:=v) h;exact .inl ⟨i,t,rfl,e⟩
 | .inr x,v,h=>by
  obtain ⟨t,e⟩:=Value.isStrOf_shape (x:=x) (v:=v) h;exact .inr ⟨x,t,rfl,e⟩
theorem qjk (i:Int)(t:Tok):qhW (.inl i) (.int i t)=true:=by simp [qhW,Value.isInt]
theorem qjj (x:Str)(t:Tok):qhW (.inr x) (.str x t)=true:=by simp [qhW,Value.isStrOf]
theorem qp4 (a b:Int):decide ((Sum.inl a:Key)=Sum.inl b)=(a == b):=by
 by_cases e:a=b
 ·subst e;simp
 ·have h:¬ (Sum.inl a:Key)=Sum.inl b:=fun q=>e (Sum.inl.inj q);rw [decide_eq_false h];exact (beq_eq_false_iff_ne.mpr e).symm
theorem qp1 (a b:Str):decide ((Sum.inr a:Key)=Sum.inr b)=decide (a=b):=by
 by_cases e:a=b
 ·subst e;simp
 ·have h:¬ (Sum.inr a:Key)=Sum.inr b:=fun q=>e (Sum.inr.inj q);rw [decide_eq_false h,decide_eq_false e]
theorem qp3 (a:Int)(b:Str):decide ((Sum.inl a:Key)=Sum.inr b)=false:=decide_eq_false (fun q=>nomatch q)
theorem qp2 (a:Str)(b:Int):decide ((Sum.inr a:Key)=Sum.inl b)=false:=decide_eq_false (fun q=>nomatch q)
noncomputable def qaZ (prog:Program)(w:World):PySem.KeyKind prog w Key where
 is:=qhW
 hash:=keyH w
 inj:=fun v a b ha hb=>by
  rcases qaM ha with ⟨i,t,rfl,rfl⟩ | ⟨x,t,rfl,rfl⟩
  ·rcases qaM hb with ⟨j,u,rfl,e⟩ | ⟨y,u,rfl,e⟩
   ·injection e with e1 _;rw [e1]
   ·exact nomatch e
  ·rcases qaM hb with ⟨j,u,rfl,e⟩ | ⟨y,u,rfl,e⟩
   ·exact nomatch e
   ·injection e with e1 _;rw [e1]
 byValue:=fun k v h=>by
  rcases qaM h with ⟨i,t,rfl,rfl⟩ | ⟨x,t,rfl,rfl⟩<;>rfl
 pyHash:=fun hv h=>by
  rcases qaM hv with ⟨i,t,rfl,rfl⟩ | ⟨x,t,rfl,rfl⟩
  ·exact wpAny_pyHash_int h
  ·exact wpAny_pyHash_str h
 eqBool:=fun hu hv h=>by
  rcases qaM hu with ⟨i,t,rfl,rfl⟩ | ⟨x,t,rfl,rfl⟩
  ·rcases qaM hv with ⟨j,u,rfl,rfl⟩ | ⟨y,u,rfl,rfl⟩
   ·rw [qp4] at h;exact wpAny_eqBool_int h
   ·rw [qp3] at h;exact SeqAt.EqAt.int_str i t y u _ _ _ _ h
  ·rcases qaM hv with ⟨j,u,rfl,rfl⟩ | ⟨y,u,rfl,rfl⟩
   ·rw [qp2] at h;exact SeqAt.EqAt.str_int x t j u _ _ _ _ h
   ·rw [qp1] at h;exact wpAny_eqBool_str h
 «strs» :=fun k x t v h=>by
  rcases qaM h with ⟨i,u,rfl,e⟩ | ⟨y,u,rfl,e⟩
  ·exact nomatch e
  ·injection e with e1 _;subst e1;cases v<;>rfl
theorem qgw (prog:Program)(w:World)(i:Int)(t:Tok):(qaZ prog w).is (.inl i) (.int i t)=true:=qjk i t
theorem qgv (prog:Program)(w:World)(x:Str)(t:Tok):(qaZ prog w).is (.inr x) (.str x t)=true:=qjj x t
end L2
namespace L2
open PySem PySem.Spec PyProof.Rows
inductive V where
 | non | bl (b:Bool) | int (i:Int) | str (x:Str) | byt (b:Array UInt8) | flt (b:UInt64) | ref (a:Addr) | ty (n:String)
 deriving DecidableEq
noncomputable def RelV:V->Value->Prop
 | .non,u=>u=Value.none
 | .bl b,u=>u=Value.bool b
 | .int i,u=>∃ t,u=Value.int i t
 | .str x,u=>∃ t,u=Value.str x t
 | .byt b,u=>∃ t,u=Value.bytes b t
 | .flt b,u=>∃ t,u=Value.float b t
 | .ref a,u=>u=Value.ref a
 | .ty n,u=>u=Value.type n
noncomputable abbrev Vals:List V->List Value->Prop:=Paired RelV
theorem Vals.length {xs:List V}{us:List Value}(r:Vals xs us):xs.length=us.length:=Paired.length r
theorem Vals.get:∀ {xs:List V} {us:List Value} {i:Nat} {x:V},Vals xs us->xs[i]? = some x -> ∃ u,us[i]? = some u/\RelV x u:=by
 intro xs us i x h e
 induction h generalizing i with
 | nil=>cases e
 | cons r t ih=>cases i with
  | zero=>cases e;exact ⟨_,rfl,r⟩
  | succ i=>exact ih (i:=i) e
theorem Vals.set {x:V}{u:Value}(r:RelV x u):∀ {xs:List V} {us:List Value} (i:Nat),Vals xs us->Vals (xs.set i x) (us.set i u):=by
 intro xs us i h
 induction h generalizing i with
 | nil=>exact .nil
 | cons q t ih=>cases i with
  | zero=>exact .cons r t
  | succ i=>exact .cons q (ih i)
theorem Vals.append:∀ {xs ys:List V} {us ws:List Value},Vals xs us->Vals ys ws->Vals (xs++ys) (us++ws):=by
 intro xs ys us ws h s
 induction h with
 | nil=>exact s
 | cons r t ih=>exact .cons r ih
theorem Vals.take:∀ {xs:List V} {us:List Value} (n:Nat),Vals xs us->Vals (xs.take n) (us.take n):=by
 intro xs us n h
 induction h generalizing n with
 | nil=>rw [List.take_nil,List.take_nil];exact .nil
 | cons r t ih=>cases n with
  | zero=>exact .nil
  | succ n=>exact .cons r (ih n)
theorem Vals.drop:∀ {xs:List V} {us:List Value} (n:Nat),Vals xs us->Vals (xs.drop n) (us.drop n):=by
 intro xs us n h
 induction h generalizing n with
 | nil=>rw [List.drop_nil,List.drop_nil];exact .nil
 | cons r t ih=>cases n with
  | zero=>exact .cons r t
  | succ n=>exact ih n
noncomputable def RelO:Option V->Option Value->Prop
 | some v,some u=>RelV v u
 | none,none=>True
 | _,_=>False
noncomputable def KV {κ:Type}:List (κ×V)->List (κ×Value)->Prop:=Paired fun (p:κ×V) (q:κ×Value)=>p.1=q.1/\RelV p.2 q.2
noncomputable def kV:Key->V
 | .inl i=>.int i
 | .inr x=>.str x
inductive HO where
 /-- a list -/
 | lst (xs:List V)
 /-- a tuple (never changes) -/
 | tup (xs:List V)
 /-- a dict whose keys are ints and texts; one whose keys are tuples of ints and texts (the empty one is both) -/
 | dK (kvs:List (Key×V)) | dT (kvs:List (List Key×V))
 /-- a set of ints: its members, its size -/
 | set (S:Int->Bool) (n:Nat)
 /-- an instance of the class at C, its dict at dx, its attributes -/
 | ins (C dx:Addr) (fs:List (Str×V))
 /-- the dict of the instance at x -/
 | own (x:Addr)
 /-- the dict of an exception -/
 | xd (fs:List (Str×V))
 /-- a bound method, f of x -/
 | met (f x:Addr)
 /-- a range object lo, lo + 1, .. below hi -/
 | rng (lo hi:Int)
 /-- a thing that is known to the object (the script; a dict while a loop walks it): read, never written while it is so -/
 | frz (o:Obj) (u:HO)
 /-- a code object's table -/
 | tbl (ps:Array Value)
 /-- any other thing, by what is true of its one object (a def of one's own: SetO a S n := HO.ext fun h => ..) -/
 | ext (φ:Heap->Prop)
noncomputable abbrev Hp:=Addr->Option HO
noncomputable def upd (H:Hp)(a:Addr)(o:HO):Hp:=fun b=>if b=a then some o else H b
theorem qau {H:Hp}{a:Addr}{o:HO}:upd H a o a=some o:=by unfold upd;rw [if_pos rfl]
theorem qar {H:Hp}{a b:Addr}{o:HO}(h:b≠a):upd H a o b=H b:=by unfold upd;rw [if_neg h]
theorem qrx {H:Hp}{a b:Addr}{o u:HO}(h:H a=some o)(h':H b=some u)(d:o≠u):a≠b:=by
 intro e;subst e;rw [h] at h';exact d (Option.some.inj h')
theorem qav {H:Hp}{a b:Addr}{o:HO}(h:H a=some o)(h':H b=none):a≠b:=by
 intro e;subst e;rw [h] at h';cases h'
section
variable (P:Program) (w:World)
noncomputable def qaV (H:Hp)(h:Heap)(a:Addr):HO->Prop
 | .lst xs=>xs.length<=sizeLine /\ ∃ (its:List Value) (n:Nat),Vals xs its/\h.get? a=some {cls:=.type "list",data:=.seq its.toArray n}
 | .tup xs=>xs.length<=sizeLine /\ ∃ its:List Value,Vals xs its/\IsTup h a its.toArray
 | .dK kvs=>kvs.length<=sizeLine/\(a == sysModules)=false /\ ∃ vs,KV kvs vs/\h.DictOf (qaZ P w) a vs
 | .dT kvs=>kvs.length<=sizeLine/\(a == sysModules)=false /\ ∃ xs:List (List Key×Addr×Value),
   Paired (fun (p:List Key×V) (q:List Key×Addr×Value)=>p.1=q.1/\H q.2.1=some (.tup (p.1.map kV))/\RelV p.2 q.2.2) kvs xs /\
   ∃ o es ep,h.get? a=some o/\o.ExactDict/\o.data = .dict es ep/\es.toList=xs.map (entryOfKey (tupleKind (qaZ P w)))/\(xs.map (·.1)).Nodup
 | .set S n=>h.SetOf (intKind P w) a S n
 | .ins C dx fs=>H dx=some (.own a)/\fs.length<=1000/\dx≠a/\h.get? a=some (PySem.W.instObj C dx) /\
   ∃ mA,h.Ns1 dx mA/\(∀ f,RelO (fs.lookup f) (mA f))/\PySem.Within mA (fs.map (·.1))
 | .own _=>∃ o,h.get? a=some o
 | .xd fs=>∃ mA,h.Ns1 a mA /\ ∀ f,RelO (fs.lookup f) (mA f)
 | .rng lo hi=>∃ t u v,h.get? a=some {cls:=.type "range",data:=.fields #[.int lo t,.int hi u,.int 1 v]}
 | .frz o u=>h.get? a=some o/\qaV H h a u
 | .tbl ps=>h.get? a=some {cls:=.none,data:=.fields ps}
 | .met f x=>h.get? a=some (PySem.W.methodObj (.ref f) (.ref x))
 | .ext φ=>φ h/\(∃ o,h.get? a=some o) /\ ∀ h1 h2:Heap,φ h1->(∀ o,h1.get? a=some o->h2.get? a=some o)->φ h2
noncomputable def HOk (H:Hp)(h:Heap):Prop:=∀ a o,H a=some o->qaV P w H h a o
end
section
variable {P:Program} {w:World} {H H':Hp} {h h':Heap} {a:Addr} {o:HO}
theorem qaV.lt (x:qaV P w H h a o):a<h.objs.size:=by
 cases o with
 | lst xs=>obtain ⟨_,_,_,_,e⟩:=x;exact hL1 e
 | tup xs=>obtain ⟨_,_,_,p⟩:=x;exact p.lt
 | dK kvs=>obtain ⟨_,_,_,_,o,_,_,e,_⟩:=x;exact hL1 e
 | dT kvs=>obtain ⟨_,_,_,_,o,_,_,e,_⟩:=x;exact hL1 e
 | set S n=>obtain ⟨o,_,_,_,e,_⟩:=x;exact hL1 e
 | ins C dx fs=>obtain ⟨_,_,_,e,_⟩:=x;exact hL1 e
 | own y=>obtain ⟨_,e⟩:=x;exact hL1 e
 | xd fs=>obtain ⟨_,⟨_,_,_,e,_⟩,_⟩:=x;exact hL1 e
 | rng lo hi=>obtain ⟨_,_,_,e⟩:=x;exact hL1 e
 | frz ob u=>obtain ⟨e,_⟩:=x;exact hL1 e
 | tbl ps=>exact hL1 (show h.get? a=some _ from x)
 | met f y=>exact hL1 (show h.get? a=some _ from x)
 | ext φ=>obtain ⟨_,⟨_,e⟩,_⟩:=x;exact hL1 e
theorem Paired.mapP {α β:Type}{F G:α->β->Prop}:∀ {l₁:List α} {l₂:List β},Paired F l₁ l₂->(∀ a b,F a b->G a b)->Paired G l₁ l₂:=by
 intro a b h f
 induction h with
 | nil=>exact .nil
 | cons r t ih=>exact .cons (f _ _ r) ih
theorem qaV.stay (x:qaV P w H h a o)(k:∀ b u,(b=a\/H b=some (.own a))->h.get? b=some u->h'.get? b=some u)
  (ho:∀ b,H b=some (.own a)->H' b=some (.own a)) (ht:∀ b xs,H b=some (.tup xs)->H' b=some (.tup xs)):qaV P w H' h' a o:=by
 induction o with
 | lst xs=>obtain ⟨z,its,n,r,e⟩:=x;exact ⟨z,its,n,r,k _ _ (.inl rfl) e⟩
 | tup xs=>obtain ⟨z,its,r,ob,e,c⟩:=x;exact ⟨z,its,r,ob,k _ _ (.inl rfl) e,c⟩
 | dK kvs=>obtain ⟨z,y,vs,r,ob,es,ep,e,c⟩:=x;exact ⟨z,y,vs,r,ob,es,ep,k _ _ (.inl rfl) e,c⟩
 | dT kvs=>
  obtain ⟨z,y,xs,r,ob,es,ep,e,c⟩:=x;exact ⟨z,y,xs,Paired.mapP r fun p q z=>⟨z.1,ht _ _ z.2.1,z.2.2⟩,ob,es,ep,k _ _ (.inl rfl) e,c⟩
 | set S n=>obtain ⟨ob,es,ep,t,e,c⟩:=x;exact ⟨ob,es,ep,t,k _ _ (.inl rfl) e,c⟩
 | ins C dx fs=>
  obtain ⟨d,z,ne,e,mA,⟨od,es,ep,e2,c⟩,r⟩:=x;exact ⟨ho _ d,z,ne,k _ _ (.inl rfl) e,mA,⟨od,es,ep,k _ _ (.inr d) e2,c⟩,r⟩
 | own y=>obtain ⟨ob,e⟩:=x;exact ⟨ob,k _ _ (.inl rfl) e⟩
 | xd fs=>obtain ⟨mA,⟨od,es,ep,e,c⟩,r⟩:=x;exact ⟨mA,⟨od,es,ep,k _ _ (.inl rfl) e,c⟩,r⟩
 | rng lo hi=>obtain ⟨t,u,v,e⟩:=x;exact ⟨t,u,v,k _ _ (.inl rfl) e⟩
 | frz ob u ih=>obtain ⟨e,q⟩:=x;exact ⟨k _ _ (.inl rfl) e,ih q⟩
 | tbl ps=>
  have e:h.get? a=some {cls:=.none,data:=.fields ps}:=x;show h'.get? a=some {cls:=.none,data:=.fields ps};exact k a _ (.inl rfl) e
 | met f y=>
  have e:h.get? a=some (PySem.W.methodObj (.ref f) (.ref y)):=x;show h'.get? a=some (PySem.W.methodObj (.ref f) (.ref y));exact k a _ (.inl rfl) e
 | ext φ=>obtain ⟨p,⟨o,e⟩,st⟩:=x;exact ⟨st _ _ p fun o q=>k _ _ (.inl rfl) q,⟨o,k _ _ (.inl rfl) e⟩,st⟩
theorem HOk.lt (x:HOk P w H h)(e:H a=some o):a<h.objs.size:=(x a o e).lt
theorem HOk.fresh (x:HOk P w H h)(e:h.objs.size<=a):H a=none:=by
 cases q:H a with
 | none=>rfl
 | some u=>exact absurd (nL1 (x.lt q) e) (Nat.lt_irrefl _)
theorem HOk.kept (x:HOk P w H h)(k:∀ b u,h.get? b=some u->h'.get? b=some u):HOk P w H h':=fun a o e=>
 (x a o e).stay (fun b u _ q=>k b u q) (fun _ q=>q) fun _ _ q=>q
theorem HOk.laid (x:HOk P w H h)(k:∀ b u,h.get? b=some u->h'.get? b=some u)(hp:h.objs.size<=a)(new:qaV P w (upd H a o) h' a o):HOk P w (upd H a o) h':=fun b u e=>by
 have hn:=x.fresh hp;by_cases hb:b=a
 ·subst hb;rw [qau] at e;cases e;exact new
 ·rw [qar hb] at e;exact (x b u e).stay (fun c v _ q=>k c v q) (fun c q=>by rw [qar (qav q hn)];exact q) fun c xs q=>by rw [qar (qav q hn)];exact q
end
noncomputable def Rd (H:Hp)(a:Addr)(u:HO):Prop:=H a=some u \/ ∃ o,H a=some (.frz o u)
theorem Rd.of {H:Hp}{a:Addr}{u:HO}(h:H a=some u):Rd H a u:=.inl h
theorem Rd.ok {P:Program}{w:World}{H:Hp}{h:Heap}{a:Addr}{u:HO}(r:Rd H a u)(x:HOk P w H h):qaV P w H h a u:=by
 rcases r with r | ⟨o,r⟩
 ·exact x a u r
 ·obtain ⟨_,q⟩:=x a _ r;exact q
noncomputable def Mut:Option HO->Prop
 | some (.lst _)=>True
 | some (.dK _)=>True
 | some (.dT _)=>True
 | some (.set _ _)=>True
 | some (.ins _ _ _)=>True
 | some (.ext _)=>True
 | _=>False
section
variable {P:Program} {w:World} {H:Hp} {h h':Heap} {x e:Addr} {o':HO}
theorem HOk.write (ok:HOk P w H h)(mu:Mut (H x))(he:e=x\/H e=some (.own x))(k:∀ b u,b≠e->h.get? b=some u->h'.get? b=some u)(heo:∃ u,h'.get? e=some u)
  (new:qaV P w (upd H x o') h' x o'):HOk P w (upd H x o') h':=fun b u q=>by
 have nown:∀ c y,H c=some (.own y)->c≠x:=fun c y r z=>by subst z;rw [r] at mu;exact mu
 have ntup:∀ c xs,H c=some (.tup xs)->c≠x:=fun c xs r z=>by subst z;rw [r] at mu;exact mu
 by_cases hb:b=x
 ·subst hb;rw [qau] at q;cases q;exact new
 ·rw [qar hb] at q;by_cases hbe:b=e
  ·have q':H b=some (.own x):=by
    rcases he with z | z
    ·exact absurd (hbe.trans z) hb
    ·rw [hbe];exact z
   rw [q] at q';cases q';obtain ⟨v,hv⟩:=heo;exact ⟨v,by rw [hbe];exact hv⟩
  ·refine (ok b u q).stay (fun c v hc r=>k c v ?_ r) (fun c r=>by rw [qar (nown c b r)];exact r) fun c xs r=>by rw [qar (ntup c xs r)];exact r
   rcases hc with rfl | hc
   ·exact hbe
   ·rintro rfl;rcases he with z | z
    ·exact nown c b hc z
    ·rw [hc] at z;cases z;exact hb rfl
end
structure Un (fs ex:List Addr)(H H':Hp)(h h':Heap):Prop where
 keep:∀ b o,h.get? b=some o->H b=none->b∉fs->b∉ex->h'.get? b=some o
 slot:∀ b o,h.get? b=some o->H b=none->b∈fs->b∉ex -> ∃ sl,h'.get? b=some {o with slots:=sl}
 free:∀ b o,h.get? b=some o->H b=none->b∉ex->H' b=none
 there:∀ b o,h.get? b=some o->b∉ex -> ∃ o',h'.get? b=some o'
 tups:∀ b xs,H b=some (.tup xs)->H' b=some (.tup xs)
 frzs:∀ b o u,H b=some (.frz o u)->H' b=some (.frz o u)
 tbls:∀ b ps,H b=some (.tbl ps) -> ∃ more,H' b=some (.tbl (ps++more))
section
variable {fs fs' ex ex':List Addr} {H H1 H2:Hp} {h h1 h2 h':Heap} {a x e:Addr} {o:HO}
theorem Un.any (u:Un fs ex H H1 h h1){b:Addr}{ob:Obj}(q:h.get? b=some ob)(n:H b=none)(hx:b∉ex):∃ sl,h1.get? b=some {ob with slots:=sl}:=by
 by_cases hb:b∈fs
 ·exact u.slot b ob q n hb hx
 ·exact ⟨ob.slots,u.keep b ob q n hb hx⟩
theorem Un.kept (k:∀ b u,h.get? b=some u->h'.get? b=some u):Un fs ex H H h h':=
 ⟨fun b ob q _ _ _=>k b ob q,fun b ob q _ _ _=>⟨ob.slots,k b ob q⟩,fun _ _ _ n _=>n,fun b ob q _=>⟨ob,k b ob q⟩,fun _ _ q=>q,fun _ _ _ q=>q,fun _ ps q=>⟨#[],by rw [q];simp⟩⟩
theorem Un.refl:Un fs ex H H h h:=Un.kept fun _ _ q=>q
theorem Un.laid (k:∀ b u,h.get? b=some u->h'.get? b=some u)(hp:h.objs.size<=a)(hn:H a=none):Un fs ex H (upd H a o) h h' where
 keep:=fun b u q _ _ _=>k b u q
 slot:=fun b u q _ _ _=>⟨u.slots,k b u q⟩
 free:=fun b u q n _=>by rw [qar (nN1 (nL1 (hL1 q) hp))];exact n
 there:=fun b u q _=>⟨u,k b u q⟩
 tups:=fun b xs q=>by rw [qar (qav q hn)];exact q
 frzs:=fun b u xs q=>by rw [qar (qav q hn)];exact q
 tbls:=fun b ps q=>⟨#[],by rw [qar (qav q hn),q];simp⟩
theorem Un.write (mu:Mut (H x))(he:e=x\/H e=some (.own x))(k:∀ b u,b≠e->h.get? b=some u->h'.get? b=some u)(heo:∃ u,h'.get? e=some u):Un fs ex H (upd H x o) h h':=by
 have hx:∀ b,H b=none->b≠x:=fun b n z=>by subst z;rw [n] at mu;exact mu
 have hb:∀ b,H b=none->b≠e:=fun b n z=>by
  subst z;rcases he with r | r
  ·exact hx b n r
  ·rw [n] at r;cases r
 have hm:∀ b u,H b=some u -> ¬ Mut (some u)->b≠x:=fun b u q nm z=>by subst z;rw [q] at mu;exact nm mu
 refine ⟨fun b u q n _ _=>k b u (hb b n) q,fun b u q n _ _=>⟨u.slots,k b u (hb b n) q⟩,fun b u q n _=>by rw [qar (hx b n)];exact n,fun b u q _=>?_,
  fun b xs q=>by rw [qar (hm b _ q fun z=>z)];exact q,fun b u xs q=>by rw [qar (hm b _ q fun z=>z)];exact q,fun b ps q=>⟨#[],by rw [qar (hm b _ q fun z=>z),q];simp⟩⟩
 by_cases hbe:b=e
 ·subst hbe;exact heo
 ·exact ⟨u,k b u hbe q⟩
end
noncomputable def trk (h:Heap)(H:Hp):List Addr:=(List.range h.objs.size).filter fun a=>(H a).isSome
noncomputable def hidT (h:Heap)(H:Hp):Heap:=PySem.W.hideAll h (trk h H)
theorem qjt (h:Heap)(H:Hp):(hidT h H).objs.size=h.objs.size:=PySem.W.hideAll_size _ _
theorem qla {h:Heap}{H:Hp}{b:Addr}{o:Obj}(e:h.get? b=some o)(n:H b=none):(hidT h H).get? b=some o:=
 PySem.W.hideAll_get _ e fun hm=>by
  have q:(H b).isSome=true:=(List.mem_filter.mp hm).2;rw [n] at q;simp at q
theorem qm2 {h:Heap}{H:Hp}{b:Addr}{o:Obj}(e:(hidT h H).get? b=some o):h.get? b=some o/\H b=none:=by
 have e':h.get? b=some o:=PySem.W.of_hideAll (trk h H) e;refine ⟨e',?_⟩;cases q:H b with
 | none=>rfl
 | some x=>
  have hm:b∈trk h H:=List.mem_filter.mpr ⟨List.mem_range.mpr (hL1 e'),by simp [q]⟩;have z:(hidT h H).get? b=none:=PySem.W.hideAll_none (trk h H) hm;rw [z] at e;cases e
noncomputable def qn7 (g h:Heap)(L:Addr):List (Addr×Obj):=(List.range h.objs.size).filterMap fun a=>if a=L\/(g.get? a).isSome=true then none else (h.get? a).map fun o=>(a,o)
noncomputable def rest (g h:Heap)(L d:Addr):List (Addr×Obj):=(qn7 g h L).filter fun p=>decide (p.1≠d)
end L2
namespace L2
open PySem PySem.Spec PyProof.Rows
structure Mod (K:Fg1)(mg:Str->Option Value)(base:Heap):Prop where
 kin:K.In base
 glob:base.Ns mainGlobals mg
 blt:∃ mb,base.Ns builtinsNs mb /\ ∀ x:Str,x≠"__name__"->mb x=bootBuiltins x
 nolimit:base.NoLimit
structure Cx where
 prog:Program
 w:World
 K:Fg1
 mg:Str->Option Value
 base:Heap
 A:Around
 N:List Str
 s₀:Shared
 H₀:Hp
 env:Env
 outer:List Env
 stack:List Env
 ex:List Addr
 fn:Str->Bool
 calm:Bool
 pn:List (Addr×Obj)
 xe:Value->Shared->Prop
noncomputable def frs (l:List Env):List Addr:=l.filterMap (·.frame)
noncomputable abbrev Cx.fs (X:Cx):List Addr:=frs X.outer
noncomputable def Vis (sc:Scope)(x:Str):Prop:=sc.names.lookup x=some .local\/sc.names.lookup x=some .cell\/sc.names.lookup x=some .free
noncomputable def Loc (sc:Scope)(x:Str):Prop:=sc.names.lookup x=some .local\/sc.names.lookup x=some .cell
noncomputable def Look (env:Env)(h:Heap)(m:Str->Option Value)(x:Str)(u:Value):Prop:=
 (env.kindOf x=some .local/\m x=some u)\/((env.kindOf x=some .cell\/env.kindOf x=some .free) /\ ∃ c,env.cells.lookup x=some c/\h.IsCell c (some u))
structure Cx.Ok (X:Cx):Prop where
 mod:Mod X.K X.mg X.base
 kind:X.env.scope.kind = .function
 glob:X.env.globals=mainGlobals
 blt:X.env.builtins=builtinsNs
 above:X.s₀.heap.objs.size<=X.env.locals
 inj:∀ x y c,X.env.cells.lookup x=some c->X.env.cells.lookup y=some c->x=y
 has:∀ x,(X.env.kindOf x=some .cell\/X.env.kindOf x=some .free) -> ∃ c,X.env.cells.lookup x=some c
 cab:∀ x c,X.fn x=true->X.env.cells.lookup x=some c->X.s₀.heap.objs.size<=c
 hd:X.calm=true->X.A.handled=none
 frames:X.A.frames=some X.stack
 stk:X.stack=X.outer\/(X.stack=X.env::X.outer/\X.env.frame=some X.env.locals)
 exf:∀ b∈X.ex,b≠X.env.locals /\ ∀ x c,X.env.cells.lookup x=some c->c≠b
 bs:∀ b o,X.base.get? b=some o->X.s₀.heap.get? b=some o/\X.H₀ b=none
 bsz:X.base.objs.size<=X.s₀.heap.objs.size
 noex:∀ b o,X.base.get? b=some o->b∉X.ex
 exfs:∀ b∈X.ex,b∉X.fs
 funs:X.s₀.heap.FunFrames X.base X.outer
 frf:∀ b∈X.fs,X.H₀ b=none
structure Inv (X:Cx)(pins:List (Addr×Obj))(σ:List (Option V))(H:Hp)(s:Shared):Prop where
 ok:X.Ok
 os:s.os=X.s₀.os
 bare:AllBare s.gens
 base:Un X.fs X.ex X.H₀ H X.s₀.heap s.heap
 loc:∃ m,s.heap.Ns X.env.locals m /\ ∀ (i:Nat) (x:Str) (v:V),X.N[i]? = some x->σ[i]? = some (some v)->Vis X.env.scope x -> ∃ u,RelV v u/\Look X.env s.heap m x u
 cell:∀ x c,X.env.cells.lookup x=some c -> ∃ v,s.heap.IsCell c v
 free:H X.env.locals=none
 freeC:∀ x c,X.env.cells.lookup x=some c->H c=none
 pin:∀ p∈X.pn++pins,s.heap.get? p.1=some p.2/\H p.1=none/\p.1≠X.env.locals/\p.1∉X.fs /\ ∀ v,p.2.data ≠ .cell v
 hok:HOk X.prog X.w H s.heap
 len:σ.length=X.N.length
section
variable {X:Cx} {pins:List (Addr×Obj)} {σ:List (Option V)} {H H':Hp} {s:Shared} {h':Heap}
theorem Cx.Ok.nofr (ok:X.Ok){b:Addr}{o:Obj}(e:X.base.get? b=some o):b∉X.fs:=fun hb=>by
 have:=(ok.funs.mem hb).1;rw [e] at this;cases this
theorem Inv.bs (I:Inv X pins σ H s):∀ b o,X.base.get? b=some o->s.heap.get? b=some o/\H b=none:=fun b o e=>
 ⟨I.base.keep b o (I.ok.bs b o e).1 (I.ok.bs b o e).2 (I.ok.nofr e) (I.ok.noex b o e),I.base.free b o (I.ok.bs b o e).1 (I.ok.bs b o e).2 (I.ok.noex b o e)⟩
theorem Inv.bk (I:Inv X pins σ H s):∀ b o,X.base.get? b=some o->s.heap.get? b=some o:=fun b o e=>(I.bs b o e).1
theorem Inv.mod (I:Inv X pins σ H s):Mod X.K X.mg X.base:=I.ok.mod
theorem Inv.kIn (I:Inv X pins σ H s):X.K.In s.heap:=I.ok.mod.kin.keeps I.bk
theorem Inv.lt (I:Inv X pins σ H s):X.env.locals<s.heap.objs.size:=let ⟨_,hn,_⟩:=I.loc;hn.lt
theorem Inv.sz (I:Inv X pins σ H s):X.s₀.heap.objs.size<=s.heap.objs.size:=Nat.le_trans I.ok.above (Nat.le_of_lt I.lt)
theorem Inv.nofs (I:Inv X pins σ H s){a:Addr}(h:s.heap.objs.size<=a):a∉X.fs:=fun hb=>by
 obtain ⟨_,o,ho,_⟩:=I.ok.funs.mem hb;exact absurd (nL1 (hL1 ho) (Nat.le_trans I.sz h)) (Nat.lt_irrefl _)
theorem Inv.cne (I:Inv X pins σ H s):∀ x c,X.env.cells.lookup x=some c->c≠X.env.locals:=fun x c e z=>by
 obtain ⟨v,o,ho,hd⟩:=I.cell x c e;obtain ⟨m,⟨o',es,ep,ho',hd',_⟩,_⟩:=I.loc;rw [z,ho'] at ho;cases ho;rw [hd'] at hd;cases hd
theorem Inv.funs (I:Inv X pins σ H s):s.heap.FunFrames X.base X.outer:=by
 have all:∀ (l:List Env),(∀ b∈frs l,b∈X.fs)->X.s₀.heap.FunFrames X.base l->s.heap.FunFrames X.base l:=by
  intro l
  induction l with
  | nil=>intro _ _;trivial
  | cons env r ih=>
   intro hs hl;obtain ⟨hk,⟨L,o,hf,hn,ho,hd⟩,hr⟩:=hl;have hL:L∈X.fs:=hs L (by unfold frs;rw [List.filterMap_cons,hf];exact mS1);obtain ⟨sl,e⟩:=I.base.slot L o ho (I.ok.frf L hL) hL fun z=>I.ok.exfs L z hL;exact ⟨hk,⟨L,_,hf,hn,e,hd⟩,ih (fun b hb=>hs b (by unfold frs;rw [List.filterMap_cons,hf];exact mC1 _ hb)) hr⟩
 exact all X.outer (fun _ hb=>hb) I.ok.funs
theorem Inv.stack (I:Inv X pins σ H s):s.heap.FunFrames X.base X.stack:=by
 rcases I.ok.stk with e | ⟨e,hf⟩
 ·rw [e];exact I.funs
 ·rw [e];obtain ⟨m,hn,_⟩:=I.loc;refine .cons (by rw [I.ok.kind];decide) hf hn ?_ I.funs;exact Heap.get?_none_of_le (Nat.le_trans I.ok.bsz I.ok.above)
theorem Inv.stkSub (I:Inv X pins σ H s):∀ b∈frs X.stack,b∈X.env.locals::X.fs:=fun b hb=>by
 rcases I.ok.stk with e | ⟨e,hf⟩
 ·rw [e] at hb;exact mC1 _ hb
 ·rw [e] at hb;unfold frs at hb;rw [List.filterMap_cons,hf] at hb;exact hb
theorem Inv.stkFree (I:Inv X pins σ H s):∀ b∈frs X.stack,H b=none:=fun b hb=>by
 rcases List.mem_cons.mp (I.stkSub b hb) with e | hb
 ·rw [e];exact I.free
 ·obtain ⟨_,o,ho,_⟩:=I.ok.funs.mem hb;exact I.base.free b o ho (I.ok.frf b hb) fun z=>I.ok.exfs b z hb
theorem Inv.step {g':Array GenState}{t':Nat}{d':Drawn}{ch:List Addr}(I:Inv X pins σ H s)
  (hch:∀ b∈ch,(b∈X.ex\/X.s₀.heap.objs.size<=b)/\b≠X.env.locals/\(∀ x c,X.env.cells.lookup x=some c->c≠b) /\ ∀ p∈X.pn++pins,p.1≠b)
  (keep:∀ b o,b≠X.env.locals->b∉X.fs->b∉ch->s.heap.get? b=some o->H b=none->h'.get? b=some o)
  (slot:∀ b o,b≠X.env.locals->b∈X.fs->b∉ch->s.heap.get? b=some o->H b=none -> ∃ sl,h'.get? b=some {o with slots:=sl}) (free:∀ b o,b∉ch->s.heap.get? b=some o->H b=none->H' b=none)
  (there:∀ b o,b∉ch->s.heap.get? b=some o -> ∃ o',h'.get? b=some o')
  (tups:∀ b xs,H b=some (.tup xs)->H' b=some (.tup xs)) (frzs:∀ b o u,H b=some (.frz o u)->H' b=some (.frz o u)) (tbls:∀ b ps,H b=some (.tbl ps) -> ∃ more,H' b=some (.tbl (ps++more)))
  (ns:∀ m,s.heap.Ns X.env.locals m->h'.Ns X.env.locals m) (hok:HOk X.prog X.w H' h') (hg:AllBare g'):
  Inv X pins σ H' {s with heap:=h',gens:=g',drawn:=d',toks:=t'}:=by
 have neL:∀ b o,X.s₀.heap.get? b=some o->b≠X.env.locals:=fun b o e=>nN1 (nL1 (hL1 e) I.ok.above);have neC:∀ b o,X.s₀.heap.get? b=some o->b∉X.ex->b∉ch:=fun b o e hx hb=>by
  rcases (hch b hb).1 with z | z
  ·exact hx z
  ·exact absurd (nL1 (hL1 e) z) (Nat.lt_irrefl _)
 have cellK:∀ x c,X.env.cells.lookup x=some c -> ∀ v,s.heap.IsCell c v->h'.IsCell c v:=fun x c e v ⟨o,ho,hd⟩=>by
  have nch:c∉ch:=fun z=>(hch c z).2.2.1 x c e rfl;by_cases hc:c∈X.fs
  ·obtain ⟨sl,q⟩:=slot c o (I.cne x c e) hc nch ho (I.freeC x c e);exact ⟨_,q,hd⟩
  ·exact ⟨o,keep c o (I.cne x c e) hc nch ho (I.freeC x c e),hd⟩
 refine ⟨I.ok,I.os,hg,⟨fun b o e n hb hx=>?_,fun b o e n hb hx=>?_,fun b o e n hx=>?_,fun b o e hx=>?_,fun b xs e=>tups b xs (I.base.tups b xs e),fun b o xs e=>frzs b o xs (I.base.frzs b o xs e),fun b ps e=>?_⟩,?_,fun x c e=>?_,?_,fun x c e=>?_,fun p hp=>?_,hok,I.len⟩
 ·exact keep b o (neL b o e) hb (neC b o e hx) (I.base.keep b o e n hb hx) (I.base.free b o e n hx)
 ·obtain ⟨sl,e1⟩:=I.base.slot b o e n hb hx;obtain ⟨sl',e2⟩:=slot b _ (neL b o e) hb (neC b o e hx) e1 (I.base.free b o e n hx);exact ⟨sl',e2⟩
 ·obtain ⟨o',e1⟩:=I.base.there b o e hx;exact free b o' (neC b o e hx) e1 (I.base.free b o e n hx)
 ·obtain ⟨o',e1⟩:=I.base.there b o e hx;exact there b o' (neC b o e hx) e1
 ·obtain ⟨m1,e1⟩:=I.base.tbls b ps e;obtain ⟨m2,e2⟩:=tbls b _ e1;exact ⟨m1++m2,by rw [e2,Array.append_assoc]⟩
 ·obtain ⟨m,hn,hl⟩:=I.loc;refine ⟨m,ns m hn,fun i x v e1 e2 e3=>?_⟩;obtain ⟨u,r,l⟩:=hl i x v e1 e2 e3;refine ⟨u,r,?_⟩;rcases l with l | ⟨k,c,e,z⟩
  ·exact .inl l
  ·exact .inr ⟨k,c,e,cellK x c e _ z⟩
 ·obtain ⟨v,z⟩:=I.cell x c e;exact ⟨v,cellK x c e v z⟩
 ·obtain ⟨m,⟨o,_,_,ho,_⟩,_⟩:=I.loc;exact free _ o (fun z=>(hch _ z).2.1 rfl) ho I.free
 ·obtain ⟨v,o,ho,hd⟩:=I.cell x c e;exact free c o (fun z=>(hch c z).2.2.1 x c e rfl) ho (I.freeC x c e)
 ·obtain ⟨e,n,ne,nf,d⟩:=I.pin p hp;have nch:p.1∉ch:=fun z=>(hch p.1 z).2.2.2 p hp rfl;exact ⟨keep p.1 p.2 ne nf nch e n,free p.1 p.2 nch e n,ne,nf,d⟩
theorem Inv.un {t':Nat}(I:Inv X pins σ H s)(u:Un X.fs [] H H' s.heap h')(hok:HOk X.prog X.w H' h'):Inv X pins σ H' {s with heap:=h',toks:=t'}:=by
 obtain ⟨m,⟨o,es,ep,ho,r⟩,_⟩:=id I.loc;obtain ⟨sl,hL⟩:=u.any ho I.free (by simp);exact I.step (g':=s.gens) (d':=s.drawn) (ch:=[]) (fun _ z=>nomatch z) (fun b o _ hb _ e n=>u.keep b o e n hb (by simp)) (fun b o _ hb _ e n=>u.slot b o e n hb (by simp)) (fun b o _ e n=>u.free b o e n (by simp)) (fun b o _ e=>u.there b o e (by simp)) u.tups u.frzs u.tbls (fun m' hm=>by
  obtain ⟨o',es',ep',ho',r'⟩:=hm;rw [ho] at ho';cases ho';exact ⟨_,es',ep',hL,r'⟩) hok I.bare
theorem Inv.call {g':Array GenState}{t':Nat}{d':Drawn}{ch:List Addr}(I:Inv X pins σ H s)(u:Un (frs X.stack) ch H H' s.heap h')(hok:HOk X.prog X.w H' h')(hg:AllBare g')
  (hch:∀ b∈ch,(b∈X.ex\/X.s₀.heap.objs.size<=b)/\b≠X.env.locals/\(∀ x c,X.env.cells.lookup x=some c->c≠b) /\ ∀ p∈X.pn++pins,p.1≠b):
  Inv X pins σ H' {s with heap:=h',gens:=g',drawn:=d',toks:=t'}:=by
 obtain ⟨m,⟨o,es,ep,ho,r⟩,_⟩:=id I.loc;obtain ⟨sl,hL⟩:=u.any ho I.free fun z=>(hch _ z).2.1 rfl;exact I.step (ch:=ch) hch (fun b o hL hb hc e n=>u.keep b o e n (fun z=>(List.mem_cons.mp (I.stkSub b z)).elim hL hb) hc) (fun b o _ _ hc e n=>u.any e n hc) (fun b o hc e n=>u.free b o e n hc) (fun b o hc e=>u.there b o e hc) u.tups u.frzs u.tbls (fun m' hm=>by
  obtain ⟨o',es',ep',ho',r'⟩:=hm;rw [ho] at ho';cases ho';exact ⟨_,es',ep',hL,r'⟩) hok hg
theorem Inv.turned {t':Nat}{it:Addr}(I:Inv X pins σ H s)(k:∀ b o,b≠it->s.heap.get? b=some o->h'.get? b=some o)(hn:H it=none)(hL:it≠X.env.locals)
  (h1:it∈X.ex\/X.s₀.heap.objs.size<=it) (h2:∀ x c,X.env.cells.lookup x=some c->c≠it) (h3:∀ p∈X.pn++pins,p.1≠it):Inv X pins σ H {s with heap:=h',toks:=t'}:=by
 have nit:∀ b u,H b=some u->b≠it:=fun b u e z=>by rw [z,hn] at e;cases e
 refine I.step (g':=s.gens) (d':=s.drawn) (ch:=[it]) (fun b hb=>?_) (fun b o _ _ hc e _=>k b o (fun z=>hc (by simp [z])) e) (fun b o _ _ hc e _=>⟨o.slots,k b o (fun z=>hc (by simp [z])) e⟩) (fun _ _ _ _ n=>n)
  (fun b o hc e=>⟨o,k b o (fun z=>hc (by simp [z])) e⟩) (fun _ _ e=>e) (fun _ _ _ e=>e) (fun b ps e=>⟨#[],by rw [e];simp⟩) (fun m hm=>?_) (fun b u e=>?_) I.bare
 ·have e:b=it:=by simpa using hb
  subst e;exact ⟨h1,hL,h2,h3⟩
 ·obtain ⟨o,es,ep,ho,r⟩:=hm;exact ⟨o,es,ep,k _ o (Ne.symm hL) ho,r⟩
 ·refine (I.hok b u e).stay (fun c v hc q=>k c v ?_ q) (fun _ q=>q) fun _ _ q=>q;rcases hc with z | z
  ·rw [z];exact nit b u e
  ·exact nit c _ z
theorem Inv.tok (I:Inv X pins σ H s)(t:Nat):Inv X pins σ H {s with toks:=t}:=I.un (h':=s.heap) (t':=t) Un.refl I.hok
theorem Inv.kept {t':Nat}(I:Inv X pins σ H s)(k:∀ b u,s.heap.get? b=some u->h'.get? b=some u):Inv X pins σ H {s with heap:=h',toks:=t'}:=I.un (Un.kept k) (I.hok.kept k)
theorem Inv.laid {a:Addr}{o:HO}{t':Nat}(I:Inv X pins σ H s)(k:∀ b u,s.heap.get? b=some u->h'.get? b=some u)(hp:s.heap.objs.size<=a)(new:qaV X.prog X.w (upd H a o) h' a o):
  Inv X pins σ (upd H a o) {s with heap:=h',toks:=t'}:=I.un (Un.laid k hp (I.hok.fresh hp)) (I.hok.laid k hp new)
theorem Inv.write {x e:Addr}{o:HO}{t':Nat}(I:Inv X pins σ H s)(mu:Mut (H x))(he:e=x\/H e=some (.own x))(k:∀ b u,b≠e->s.heap.get? b=some u->h'.get? b=some u)(heo:∃ u,h'.get? e=some u)
  (new:qaV X.prog X.w (upd H x o) h' x o):Inv X pins σ (upd H x o) {s with heap:=h',toks:=t'}:=I.un (Un.write mu he k heo) (I.hok.write mu he k heo new)
theorem Inv.pins_of {pins':List (Addr×Obj)}(I:Inv X pins σ H s)(h:∀ p∈pins',s.heap.get? p.1=some p.2/\H p.1=none/\p.1≠X.env.locals/\p.1∉X.fs /\ ∀ v,p.2.data ≠ .cell v):Inv X pins' σ H s:=
 ⟨I.ok,I.os,I.bare,I.base,I.loc,I.cell,I.free,I.freeC,fun p hp=>(List.mem_append.mp hp).elim (fun z=>I.pin p (List.mem_append_left _ z)) (h p),I.hok,I.len⟩
theorem qha {N:List Str}(hN:N.Nodup){i j:Nat}{x:Str}(a:N[i]? = some x)(b:N[j]? = some x):i=j:=by
 obtain ⟨h1,e1⟩:=gE1.mp a;obtain ⟨h2,e2⟩:=gE1.mp b;exact (List.getElem_inj hN).mp (e1.trans e2.symm)
theorem qit {M:Model}{A:Around}{E:Value->Shared->Prop}{i:Nat}{x:Str}{v:V}{u:Value}{Q:Unit->Shared->Prop}(I:Inv X pins σ H s)(hN:X.N.Nodup)(hi:X.N[i]? = some x)(hx:Loc X.env.scope x)(r:RelV v u)
  (h:∀ s',Inv X pins (σ.set i (some v)) H s'->(∃ a,Heap.SameBut a s.heap s'.heap/\(a=X.env.locals\/X.env.cells.lookup x=some a))->Q () s') (hf:X.fn x=true\/X.env.scope.names.lookup x=some .local:=by first | exact .inl rfl | exact .inr rfl | assumption):wpAny M A (storeName X.env x u) Q E s:=by
 obtain ⟨m,hn,hl⟩:=id I.loc;have hcls:(X.env.scope.kind == .class||(X.env.scope.kind == .module&&X.env.locals != X.env.globals))=false:=by rw [I.ok.kind];rfl
 have hiσ:i<σ.length:=by rw [I.len];exact (gE1.mp hi).1
 have cne:=I.cne;have tracked:∀ {a:Addr} {h':Heap},(∃ o,s.heap.get? a=some o/\H a=none)->Heap.SameBut a s.heap h'->HOk X.prog X.w H h':=fun {a h'} ha hs b ob e=>by
  obtain ⟨_,_,hfree⟩:=ha;refine (I.hok b ob e).stay (fun c w' hc q=>(hs.2 c ?_).trans q) (fun _ q=>q) fun _ _ q=>q;rintro rfl;rcases hc with rfl | hc
  ·rw [hfree] at e;cases e
  ·rw [hfree] at hc;cases hc
 rcases hx with hk | hk
 ·refine wpAny_storeName_local hk hn (fun h' hn' hs=>?_) hcls;obtain ⟨oL,_,_,hoL,_⟩:=id hn;refine h _ ⟨I.ok,I.os,I.bare,⟨fun b o e n hb hx=>?_,fun b o e n hb hx=>?_,I.base.free,fun b o e hx=>?_,I.base.tups,I.base.frzs,I.base.tbls⟩,⟨_,hn',fun j y v' e1 e2 e3=>?_⟩,fun y c e=>?_,I.free,I.freeC,fun p hp=>?_,tracked ⟨oL,hoL,I.free⟩ hs,by simpa using I.len⟩ ⟨_,hs,.inl rfl⟩
  ·exact (hs.2 b (nN1 (nL1 (hL1 e) I.ok.above))).trans (I.base.keep b o e n hb hx)
  ·obtain ⟨sl,e1⟩:=I.base.slot b o e n hb hx;exact ⟨sl,(hs.2 b (nN1 (nL1 (hL1 e) I.ok.above))).trans e1⟩
  ·obtain ⟨o',e1⟩:=I.base.there b o e hx;exact ⟨o',(hs.2 b (nN1 (nL1 (hL1 e) I.ok.above))).trans e1⟩
  ·by_cases hj:j=i
   ·subst hj;rw [hi] at e1;cases e1;rw [List.getElem?_set_self hiσ] at e2;cases e2;exact ⟨u,r,.inl ⟨hk,by simp⟩⟩
   ·rw [gS1 (Ne.symm hj)] at e2;obtain ⟨u',r',q⟩:=hl j y v' e1 e2 e3;refine ⟨u',r',?_⟩;rcases q with ⟨k,e⟩ | ⟨k,c,e,z⟩
    ·refine .inl ⟨k,?_⟩;have:y≠x:=fun e=>hj (qha hN e1 (e ▸ hi));simp [this,e]
    ·exact .inr ⟨k,c,e,z.sameBut hs (cne y c e)⟩
  ·obtain ⟨w',z⟩:=I.cell y c e;exact ⟨w',z.sameBut hs (cne y c e)⟩
  ·obtain ⟨e,n,ne,nf,d⟩:=I.pin p hp;exact ⟨(hs.2 p.1 ne).trans e,n,ne,nf,d⟩
 ·have hfn:X.fn x=true:=by
   rcases hf with z | z
   ·exact z
   ·rw [z] at hk;cases hk
  obtain ⟨c,hc⟩:=I.ok.has x (.inl hk);obtain ⟨w',z⟩:=I.cell x c hc;refine wpAny_storeName_cell I.ok.kind hk hc z (fun h' hc' hs=>?_);obtain ⟨oc,hoc,hocd⟩:=id z;refine h {s with heap:=h'} ⟨I.ok,I.os,I.bare,⟨fun b o e n hb hx=>?_,fun b o e n hb hx=>?_,I.base.free,fun b o e hx=>?_,I.base.tups,I.base.frzs,I.base.tbls⟩,⟨m,hn.sameBut hs (Ne.symm (cne x c hc)),fun j y v' e1 e2 e3=>?_⟩,fun y c' e=>?_,I.free,I.freeC,fun p hp=>?_,tracked ⟨oc,hoc,I.freeC x c hc⟩ hs,by simpa using I.len⟩ ⟨c,hs,.inr hc⟩
  ·exact (hs.2 b (nN1 (nL1 (hL1 e) (I.ok.cab x c hfn hc)))).trans (I.base.keep b o e n hb hx)
  ·obtain ⟨sl,e1⟩:=I.base.slot b o e n hb hx;exact ⟨sl,(hs.2 b (nN1 (nL1 (hL1 e) (I.ok.cab x c hfn hc)))).trans e1⟩
  ·obtain ⟨o',e1⟩:=I.base.there b o e hx;exact ⟨o',(hs.2 b (nN1 (nL1 (hL1 e) (I.ok.cab x c hfn hc)))).trans e1⟩
  ·by_cases hj:j=i
   ·subst hj;rw [hi] at e1;cases e1;rw [List.getElem?_set_self hiσ] at e2;cases e2;exact ⟨u,r,.inr ⟨.inl hk,c,hc,hc'⟩⟩
   ·rw [gS1 (Ne.symm hj)] at e2;obtain ⟨u',r',q⟩:=hl j y v' e1 e2 e3;refine ⟨u',r',?_⟩;rcases q with q | ⟨k,c',e,z'⟩
    ·exact .inl q
    ·refine .inr ⟨k,c',e,z'.sameBut hs ?_⟩;rintro rfl;exact hj (qha hN e1 (I.ok.inj _ _ _ e hc ▸ hi))
  ·by_cases hcc:c'=c
   ·subst hcc;exact ⟨_,hc'⟩
   ·obtain ⟨w2,z2⟩:=I.cell y c' e;exact ⟨w2,z2.sameBut hs hcc⟩
  ·obtain ⟨e,n,ne,nf,d⟩:=I.pin p hp;refine ⟨(hs.2 p.1 ?_).trans e,n,ne,nf,d⟩;intro q;rw [q,hoc] at e;have q':oc=p.2:=Option.some.inj e;exact d w' (by rw [<- q'];exact hocd)
theorem qbS {M:Model}{A:Around}{E:Value->Shared->Prop}{i:Nat}{x:Str}{v:V}{u:Value}{Q:Unit->Shared->Prop}(I:Inv X pins σ H s)(hN:X.N.Nodup)(hi:X.N[i]? = some x)(hx:Loc X.env.scope x)(r:RelV v u)
  (h:∀ s',Inv X pins (σ.set i (some v)) H s'->Q () s') (hf:X.fn x=true\/X.env.scope.names.lookup x=some .local:=by first | exact .inl rfl | exact .inr rfl | assumption):wpAny M A (storeName X.env x u) Q E s:=
 qit I hN hi hx r (fun s' I' _=>h s' I') hf
theorem Inv.call' {s':Shared}{ch:List Addr}(I:Inv X pins σ H s)(ho:s'.os=s.os)(u:Un (frs X.stack) ch H H' s.heap s'.heap)(hok:HOk X.prog X.w H' s'.heap)(hg:AllBare s'.gens)
  (hch:∀ b∈ch,(b∈X.ex\/X.s₀.heap.objs.size<=b)/\b≠X.env.locals/\(∀ x c,X.env.cells.lookup x=some c->c≠b) /\ ∀ p∈X.pn++pins,p.1≠b):Inv X pins σ H' s':=by
 obtain ⟨h',g',d',t',o'⟩:=s';have e:o'=s.os:=ho;subst e;exact I.call (g':=g') (t':=t') (d':=d') u hok hg hch
end
noncomputable abbrev XK:=Value->Option Addr->Hp->Prop
noncomputable abbrev St:=List (Option V)
noncomputable abbrev VK:=V->Hp->Prop
noncomputable abbrev TE:=St->Hp->VK->Prop
noncomputable abbrev TT:=St->Hp->(Bool->Hp->Prop)->Prop
noncomputable abbrev TA:=St->Hp->(List V->Hp->Prop)->Prop
structure Ends where
 nx:St->Hp->Prop
 rt:VK
 bk:St->Hp->Prop:=fun _ _=>False
 ct:St->Hp->Prop:=fun _ _=>False
noncomputable abbrev TS:=Ends->St->Hp->Prop
noncomputable def EP (X:Cx)(pins:List (Addr×Obj))(σ:St)(Q:VK)(u:Value)(s':Shared):Prop:=∃ v H',Inv X pins σ H' s'/\RelV v u/\Q v H'
noncomputable def TP (X:Cx)(pins:List (Addr×Obj))(σ:St)(Q:Bool->Hp->Prop)(b:Bool)(s':Shared):Prop:=∃ H',Inv X pins σ H' s'/\Q b H'
noncomputable def AP (X:Cx)(pins:List (Addr×Obj))(σ:St)(Q:List V->Hp->Prop)(us:List Value)(s':Shared):Prop:=∃ vs H',Inv X pins σ H' s'/\Vals vs us/\Q vs H'
noncomputable def SP (X:Cx)(pins:List (Addr×Obj))(D:Ends)(f:Flow)(s':Shared):Prop:=
 match f with
 | .next=>∃ σ' H',Inv X pins σ' H' s'/\D.nx σ' H'
 | .brk=>∃ σ' H',Inv X pins σ' H' s'/\D.bk σ' H'
 | .cont=>∃ σ' H',Inv X pins σ' H' s'/\D.ct σ' H'
 | .ret u=>∃ v σ' H',Inv X pins σ' H' s'/\RelV v u/\D.rt v H'
noncomputable def PE (X:Cx)(e:Expr)(t:TE):Prop:=
 ∀ (pins:List (Addr×Obj)) (s:Shared) (σ:St) (H:Hp) (Q:VK),Inv X pins σ H s->t σ H Q->wpAny (model X.prog X.w) X.A (eval e X.env) (EP X pins σ Q) X.xe s
noncomputable def PT (X:Cx)(e:Expr)(t:TT):Prop:=
 ∀ (pins:List (Addr×Obj)) (s:Shared) (σ:St) (H:Hp) (Q:Bool->Hp->Prop),Inv X pins σ H s->t σ H Q->wpAny (model X.prog X.w) X.A (isTrue e X.env (eval e X.env)) (TP X pins σ Q) X.xe s
noncomputable def PW (X:Cx)(e:Expr)(t:TT):Prop:=
 ∀ (whole:Sem Value) (pins:List (Addr×Obj)) (s:Shared) (σ:St) (H:Hp) (Q:Bool->Hp->Prop),Inv X pins σ H s->t σ H Q->wpAny (model X.prog X.w) X.A (isTrue e X.env whole) (TP X pins σ Q) X.xe s
theorem PW.pt {X:Cx}{e:Expr}{t:TT}(h:PW X e t):PT X e t:=h _
noncomputable def PA (X:Cx)(es:List Expr)(t:TA):Prop:=
 ∀ (pos:Pos) (pins:List (Addr×Obj)) (s:Shared) (σ:St) (H:Hp) (Q:List V->Hp->Prop),Inv X pins σ H s->t σ H Q->wpAny (model X.prog X.w) X.A (spliced (backTo pos (starEach es X.env))) (AP X pins σ Q) X.xe s
noncomputable def PS (X:Cx)(st:Stmt)(t:TS):Prop:=
 ∀ (pins:List (Addr×Obj)) (s:Shared) (σ:St) (H:Hp) (D:Ends),Inv X pins σ H s->t D σ H->wpAny (model X.prog X.w) X.A (exec st X.env) (SP X pins D) X.xe s
noncomputable def PSs (X:Cx)(st:List Stmt)(t:TS):Prop:=
 ∀ (pins:List (Addr×Obj)) (s:Shared) (σ:St) (H:Hp) (D:Ends),Inv X pins σ H s->t D σ H->wpAny (model X.prog X.w) X.A (execs st X.env) (SP X pins D) X.xe s
theorem thn {α:Type}{t:Sem α}{Q Q':α->Shared->Prop}{M:Model}{A:Around}{E:Value->Shared->Prop}{s:Shared}(h:wpAny M A t Q E s)(hQ:∀ a s,Q a s->Q' a s):wpAny M A t Q' E s:=wpAny_mono h hQ fun _ _ x=>x
end L2
namespace L2
open PySem PySem.Spec PyProof.Rows
section
variable {X:Cx}
theorem bin {a b:Expr}{ta tb:TE}(ha:PE X a ta)(hb:PE X b tb){pins:List (Addr×Obj)}{s:Shared}{σ:St}{H:Hp}{R:V->V->Hp->Prop}(I:Inv X pins σ H s)(h:ta σ H fun x H1=>tb σ H1 fun y H2=>R x y H2)
  {α:Type} {Q:α->Shared->Prop} {f:Value->Value->Sem α}
  (hf:∀ v u s2 x y H2,Inv X pins σ H2 s2->RelV x v->RelV y u->R x y H2->wpAny (model X.prog X.w) X.A (f v u) Q X.xe s2):
  wpAny (model X.prog X.w) X.A (eval a X.env) (fun v s₁=>wpAny (model X.prog X.w) X.A (eval b X.env) (fun u s₂=>wpAny (model X.prog X.w) X.A (f v u) Q X.xe s₂) X.xe s₁) X.xe s:=by
 refine thn (ha pins s σ H _ I h) fun v s1 ⟨x,H1,I1,r1,q1⟩=>?_;refine thn (hb pins s1 σ H1 _ I1 q1) fun u s2 ⟨y,H2,I2,r2,q2⟩=>?_;exact hf v u s2 x y H2 I2 r1 r2 q2
noncomputable def tVar (i:Nat):TE:=fun σ H Q=>∃ v,σ[i]? = some (some v)/\Q v H
noncomputable def tC (v:V):TE:=fun _ H Q=>Q v H
theorem qo2 {i:Nat}{x:Str}{pos:Pos}(hN:X.N[i]? = some x)(hv:Vis X.env.scope x)(hd:(x == ("__debug__":Str))=false:=by decide)(hcd:(x == ("__classdict__":Str))=false:=by decide):PE X (.Name x pos) (tVar i):=by
 intro pins s σ H Q I h;obtain ⟨v,e,h⟩:=h;obtain ⟨m,hn,hl⟩:=I.loc;obtain ⟨u,r,l⟩:=hl i x v hN e hv;have fin:EP X pins σ Q u s:=⟨v,H,I,r,h⟩;rcases l with ⟨hk,hm⟩ | ⟨hk,c,hc,hcell⟩
 ·exact wpAny_Name (wpAny_loadName_local I.ok.kind hk hn hm fin) hd
 ·rcases hk with hk | hk
  ·exact wpAny_Name (wpAny_loadName_cell I.ok.kind hk hc hcell fin) hd
  ·exact wpAny_Name (wpAny_loadName_free I.ok.kind hk hc hcell fin hcd) hd
theorem qo9 {i j pos}:PE X (.Constant (.int i) j pos) (tC (.int i)):=fun _ _ _ H _ I h=>wpAny_Constant_int ⟨.int i,H,I.tok _,⟨_,rfl⟩,h⟩
theorem qro {b j pos}:PE X (.Constant (.bool b) j pos) (tC (.bl b)):=fun _ _ _ H _ I h=>Constant_bool ⟨.bl b,H,I,rfl,h⟩
theorem qo7 {j pos}:PE X (.Constant .none j pos) (tC .non):=fun _ _ _ H _ I h=>Constant_none ⟨.non,H,I,rfl,h⟩
theorem qo4 {x j pos}:PE X (.Constant (.str x) j pos) (tC (.str x)):=fun _ _ _ H _ I h=>Calls.Constant_str ⟨.str x,H,I.tok _,⟨_,rfl⟩,h⟩
noncomputable def Gl (X:Cx)(x:Str):Prop:=X.env.kindOf x=some .globalImplicit
theorem qnv {E:Value->Shared->Prop}{pins:List (Addr×Obj)}{s:Shared}{σ:St}{H:Hp}{x:Str}{u:Value}{pos:Pos}{Q:Value->Shared->Prop}(I:Inv X pins σ H s)(hg:Gl X x)(hm:X.mg x=some u)(h:Q u s)
  (hd:(x == ("__debug__":Str))=false:=by decide):wpAny (model X.prog X.w) X.A (eval (.Name x pos) X.env) Q E s:=
 Calls.Name_function_global I.ok.kind hg (Calls.loadGlobal_global (by rw [I.ok.glob];exact I.mod.glob.keeps I.bk) hm h) hd
theorem qdk {E:Value->Shared->Prop}{pins:List (Addr×Obj)}{s:Shared}{σ:St}{H:Hp}{x:Str}{u:Value}{pos:Pos}{Q:Value->Shared->Prop}(I:Inv X pins σ H s)(hg:Gl X x)(hm:X.mg x=none)(hv:bootBuiltins x=some u)(h:Q u s)
  (hn:x≠"__name__":=by decide) (hd:(x == ("__debug__":Str))=false:=by decide):wpAny (model X.prog X.w) X.A (eval (.Name x pos) X.env) Q E s:=by
 obtain ⟨mb,h1,h2⟩:=I.mod.blt;exact Calls.Name_function_global I.ok.kind hg (Calls.loadGlobal_builtin (by rw [I.ok.glob];exact I.mod.glob.keeps I.bk) hm (by rw [I.ok.blt];exact h1.keeps I.bk) ((h2 x hn).trans hv) h) hd
theorem qmY {x:Str}{v:V}{u:Value}{pos:Pos}(hg:Gl X x)(hm:X.mg x=none)(hv:bootBuiltins x=some u)(r:RelV v u)(hn:x≠"__name__":=by decide)(hd:(x == ("__debug__":Str))=false:=by decide):PE X (.Name x pos) (tC v):=
 fun _ _ _ H _ I h=>qdk I hg hm hv ⟨v,H,I,r,h⟩ hn hd
variable {a b:Expr} {ta tb:TE} {pos:Pos}
noncomputable def tB (t:TE):TT:=fun σ H Q=>t σ H fun x H1=>∃ c,x = .bl c/\Q c H1
variable {tA tB':TT} {rest:List Expr}
noncomputable def tAnd (t u:TT):TT:=fun σ H Q=>t σ H fun c H1=>if c=true then u σ H1 Q else Q false H1
noncomputable def tOr (t u:TT):TT:=fun σ H Q=>t σ H fun c H1=>if c=true then Q true H1 else u σ H1 Q
noncomputable def tNot (t:TT):TT:=fun σ H Q=>t σ H fun c H1=>Q (!c) H1
theorem qmI (ha:PT X a tA):PW X (.BoolOp .And [a] pos) tA:=by
 intro wh pins s σ H Q I h;refine isTrue_and (thn (ha pins s σ H Q I h) fun c s1 e=>?_);cases c with
 | true=>exact isTrue_and_nil e
 | false=>exact e
theorem qoK (ha:PT X a tA):PW X (.BoolOp .Or [a] pos) tA:=by
 intro wh pins s σ H Q I h;refine isTrue_or (thn (ha pins s σ H Q I h) fun c s1 e=>?_);cases c with
 | false=>exact isTrue_or_nil e
 | true=>exact e
theorem qoL (ha:PT X a tA)(hb:PW X (.BoolOp .And (b::rest) pos) tB'):PW X (.BoolOp .And (a::b::rest) pos) (tAnd tA tB'):=by
 intro wh pins s σ H Q I h;refine isTrue_and (thn (ha pins s σ H _ I h) fun c s1 ⟨H1,I1,q1⟩=>?_);cases c with
 | true=>exact hb wh pins s1 σ H1 Q I1 q1
 | false=>exact ⟨H1,I1,q1⟩
theorem qrh (ha:PT X a tA)(hb:PW X (.BoolOp .Or (b::rest) pos) tB'):PW X (.BoolOp .Or (a::b::rest) pos) (tOr tA tB'):=by
 intro wh pins s σ H Q I h;refine isTrue_or (thn (ha pins s σ H _ I h) fun c s1 ⟨H1,I1,q1⟩=>?_);cases c with
 | true=>exact ⟨H1,I1,q1⟩
 | false=>exact hb wh pins s1 σ H1 Q I1 q1
theorem qoN (ha:PT X a tA):PT X (.UnaryOp .Not a pos) (tNot tA):=by
 intro pins s σ H Q I h;exact isTrue_not (ha pins s σ H (fun c H1=>Q (!c) H1) I h)
noncomputable def qq7 (ta tb:TE):TE:=fun σ H Q=>ta σ H fun x H1=>∃ c,x = .bl c/\if c=true then tb σ H1 Q else Q (.bl false) H1
noncomputable def qq2 (ta:TE):TE:=fun σ H Q=>ta σ H fun x H1=>∃ c,x = .bl c/\Q (.bl (!c)) H1
theorem qo5 {op}{t:TE}(h:PE X a t):PE X (.BoolOp op [a] pos) t:=fun pins s σ H Q I hw=>BoolOp_one (h pins s σ H Q I hw)
theorem qpa (ha:PE X a ta)(hb:PE X (.BoolOp .And (b::rest) pos) tb):PE X (.BoolOp .And (a::b::rest) pos) (qq7 ta tb):=by
 intro pins s σ H Q I h;refine BoolOp_and (thn (ha pins s σ H _ I h) fun v s1 ⟨x,H1,I1,r1,q1⟩=>?_);obtain ⟨c,rfl,q1⟩:=q1;cases r1;refine wpAny_truthy_bool ?_;cases c with
 | true=>exact hb pins s1 σ H1 Q I1 q1
 | false=>exact ⟨.bl false,H1,I1,rfl,q1⟩
theorem qo6 (ha:PE X a ta):PE X (.UnaryOp .Not a pos) (qq2 ta):=by
 intro pins s σ H Q I h;refine UnaryOp_ (thn (ha pins s σ H _ I h) fun v s1 ⟨x,H1,I1,r1,q1⟩=>?_);obtain ⟨c,rfl,q1⟩:=q1;cases r1;exact not_of (wpAny_truthy_bool ⟨.bl (!c),H1,I1,rfl,q1⟩)
noncomputable def tIf (t:TT)(ta tb:TE):TE:=fun σ H Q=>t σ H fun c H1=>if c=true then ta σ H1 Q else tb σ H1 Q
theorem qkM {c:Expr}(hc:PT X c tA)(ha:PE X a ta)(hb:PE X b tb):PE X (.IfExp c a b pos) (tIf tA ta tb):=by
 intro pins s σ H Q I h;refine wpAny_IfExp (thn (hc pins s σ H _ I h) fun d s1 ⟨H1,I1,q1⟩=>?_);cases d with
 | true=>exact ha pins s1 σ H1 Q I1 q1
 | false=>exact hb pins s1 σ H1 Q I1 q1
end
end L2
namespace L2
open PySem PySem.Spec PyProof.Rows
noncomputable def SqL (K:Fg1)(H:Hp)(a:Addr)(xs:List V):Prop:=
 Rd H a (.lst xs) \/
  ∃ (o:Obj) (its:Array Value) (n:Nat),K.lookup a=some o/\o.cls = .type "list"/\o.dict=none/\o.data = .seq its n/\its.size<=sizeLine/\Vals xs its.toList
noncomputable def SqT (K:Fg1)(H:Hp)(a:Addr)(xs:List V):Prop:=
 Rd H a (.tup xs) \/
  ∃ (o:Obj) (its:Array Value) (n:Nat),K.lookup a=some o/\o.cls = .type "tuple"/\o.data = .seq its n/\its.size<=sizeLine/\Vals xs its.toList
noncomputable def absV:Value->Option V
 | .none=>some .non
 | .bool b=>some (.bl b)
 | .int i _=>some (.int i)
 | .str x _=>some (.str x)
 | .bytes b _=>some (.byt b)
 | .float b _=>some (.flt b)
 | .ref a=>some (.ref a)
 | .type n=>some (.ty n)
 | _=>none
theorem RelV.abs {x:V}{u:Value}(r:RelV x u):absV u=some x:=by
 cases x with
 | non=>cases r;rfl
 | bl _=>cases r;rfl
 | int _=>obtain ⟨t,rfl⟩:=r;rfl
 | str _=>obtain ⟨t,rfl⟩:=r;rfl
 | byt _=>obtain ⟨t,rfl⟩:=r;rfl
 | flt _=>obtain ⟨t,rfl⟩:=r;rfl
 | ref _=>cases r;rfl
 | ty _=>cases r;rfl
theorem RelV.inj {x y:V}{u:Value}(r:RelV x u)(q:RelV y u):x=y:=Option.some.inj (r.abs.symm.trans q.abs)
theorem Vals.inj:∀ {xs ys:List V} {us:List Value},Vals xs us->Vals ys us->xs=ys:=by
 intro xs ys us h g
 induction h generalizing ys with
 | nil=>cases g;rfl
 | cons r t ih=>cases g with
  | cons r' t'=>rw [r.inj r',ih t']
section
variable {X:Cx} {pins:List (Addr×Obj)} {σ:St} {H:Hp} {s:Shared} {a:Addr} {xs ys:List V}
theorem SqL.of {K:Fg1}(h:H a=some (.lst xs)):SqL K H a xs:=.inl (.inl h)
theorem SqT.of {K:Fg1}(h:H a=some (.tup xs)):SqT K H a xs:=.inl (.inl h)
theorem Inv.list (I:Inv X pins σ H s)(h:SqL X.K H a xs):∃ its:List Value,Vals xs its/\PlainL s.heap a its.toArray/\xs.length<=sizeLine:=by
 rcases h with h | ⟨o,its,n,hk,hc,hd,hs,hz,r⟩
 ·obtain ⟨z,its,n,r,e⟩:=h.ok I.hok;exact ⟨its,r,⟨_,n,e,rfl,rfl,rfl⟩,z⟩
 ·refine ⟨its.toList,r,⟨o,n,I.kIn a o hk,hc,hd,by simpa using hs⟩,?_⟩;have e:=r.length;simp only [Array.length_toList] at e;lia
theorem Inv.tuple (I:Inv X pins σ H s)(h:SqT X.K H a xs):∃ its:List Value,Vals xs its/\IsTup s.heap a its.toArray/\xs.length<=sizeLine:=by
 rcases h with h | ⟨o,its,n,hk,hc,hs,hz,r⟩
 ·obtain ⟨z,its,r,p⟩:=h.ok I.hok;exact ⟨its,r,p,z⟩
 ·refine ⟨its.toList,r,⟨o,I.kIn a o hk,hc,n,by simpa using hs⟩,?_⟩;have e:=r.length;simp only [Array.length_toList] at e;lia
theorem Inv.list_inj (I:Inv X pins σ H s)(h:SqL X.K H a xs)(h':SqL X.K H a ys):xs=ys:=by
 obtain ⟨its,r,⟨o,n,e,_,_,d⟩,_⟩:=I.list h;obtain ⟨its',r',⟨o',n',e',_,_,d'⟩,_⟩:=I.list h';rw [e] at e';cases e';rw [d] at d';injection d' with d1 _;have:its=its':=by simpa using congrArg Array.toList d1
 subst this;exact r.inj r'
theorem Inv.tuple_inj (I:Inv X pins σ H s)(h:SqT X.K H a xs)(h':SqT X.K H a ys):xs=ys:=by
 obtain ⟨its,r,⟨o,e,_,n,d⟩,_⟩:=I.tuple h;obtain ⟨its',r',⟨o',e',_,n',d'⟩,_⟩:=I.tuple h';rw [e] at e';cases e';rw [d] at d';injection d' with d1 _;have:its=its':=by simpa using congrArg Array.toList d1
 subst this;exact r.inj r'
end
noncomputable abbrev Cx.wish (X:Cx)(E:Value->Shared->Prop):Cx:={X with xe:=E}
noncomputable abbrev Cx.nox (X:Cx):Cx:=X.wish fun _ _=>False
theorem Cx.Ok.wish {X:Cx}(ok:X.Ok)(E:Value->Shared->Prop):(X.wish E).Ok:=
 ⟨ok.mod,ok.kind,ok.glob,ok.blt,ok.above,ok.inj,ok.has,ok.cab,ok.hd,ok.frames,ok.stk,ok.exf,ok.bs,ok.bsz,ok.noex,ok.exfs,ok.funs,ok.frf⟩
theorem Cx.Ok.unwish {X:Cx}{E:Value->Shared->Prop}(ok:(X.wish E).Ok):X.Ok:=
 ⟨ok.mod,ok.kind,ok.glob,ok.blt,ok.above,ok.inj,ok.has,ok.cab,ok.hd,ok.frames,ok.stk,ok.exf,ok.bs,ok.bsz,ok.noex,ok.exfs,ok.funs,ok.frf⟩
section
variable {X:Cx} {pins:List (Addr×Obj)} {σ:St} {H:Hp} {s:Shared} {E:Value->Shared->Prop}
theorem Inv.wish (I:Inv X pins σ H s)(E:Value->Shared->Prop):Inv (X.wish E) pins σ H s:=⟨I.ok.wish E,I.os,I.bare,I.base,I.loc,I.cell,I.free,I.freeC,I.pin,I.hok,I.len⟩
theorem Inv.unwish (I:Inv (X.wish E) pins σ H s):Inv X pins σ H s:=⟨I.ok.unwish,I.os,I.bare,I.base,I.loc,I.cell,I.free,I.freeC,I.pin,I.hok,I.len⟩
theorem SP.unwish {D:Ends}{f:Flow}{s':Shared}(h:SP (X.wish E) pins D f s'):SP X pins D f s':=by
 cases f with
 | next=>obtain ⟨σ',H',I,q⟩:=h;exact ⟨σ',H',I.unwish,q⟩
 | brk=>obtain ⟨σ',H',I,q⟩:=h;exact ⟨σ',H',I.unwish,q⟩
 | cont=>obtain ⟨σ',H',I,q⟩:=h;exact ⟨σ',H',I.unwish,q⟩
 | ret u=>obtain ⟨v,σ',H',I,r,q⟩:=h;exact ⟨v,σ',H',I.unwish,r,q⟩
theorem PSs.nox {st:List Stmt}{t:TS}(h:PSs X.nox st t):PSs X st t:=fun pins s σ H D I hw=>
 wpAny_mono (h pins s σ H D (I.wish _) hw) (fun _ _ q=>q.unwish) fun _ _ z=>False.elim z
end
section
variable {X:Cx} {st:Stmt} {rest:List Stmt} {t u:TS} {e:Expr} {te:TE} {pos:Pos}
noncomputable def qq3:TS:=fun D σ H=>D.nx σ H
noncomputable def tSeq (t u:TS):TS:=fun D σ H=>t {D with nx:=u D} σ H
theorem qmL:PSs X [] qq3:=fun _ _ σ H _ I h=>wpAny_execs_nil ⟨σ,H,I,h⟩
theorem qkD (h1:PS X st t)(h2:PSs X rest u):PSs X (st::rest) (tSeq t u):=by
 intro pins s σ H D I h;refine wpAny_execs_cons (thn (h1 pins s σ H {D with nx:=u D} I h) fun f s1 q=>?_);cases f with
 | next=>
  obtain ⟨σ',H',I',q⟩:=q;exact h2 pins s1 σ' H' D I' q
 | ret v=>exact q
 | brk=>exact q
 | cont=>exact q
theorem qmK (h1:PS X st t):PSs X [st] t:=by
 intro pins s σ H D I h;refine wpAny_execs_cons (thn (h1 pins s σ H D I h) fun f s1 q=>?_);cases f with
 | next=>exact wpAny_execs_nil q
 | ret v=>exact q
 | brk=>exact q
 | cont=>exact q
theorem Inv.quiet {pins:List (Addr×Obj)}{σ:St}{H:Hp}{s:Shared}(I:Inv X pins σ H s):interactive X.env=false:=by simp [interactive,I.ok.kind]
noncomputable def qq4 (te:TE):TS:=fun D σ H=>te σ H fun _ H1=>D.nx σ H1
theorem qmN (he:PE X e te)(hs:swapsWith e none pos.line X.env=pure false:=by rfl):PS X (.Expr e pos) (qq4 te):=by
 intro pins s σ H D I h;exact wpAny_Expr_any (thn (he pins s σ H _ I h) fun v s1 ⟨x,H1,I1,r1,q1⟩=>⟨σ,H1,I1,q1⟩) I.quiet hs
noncomputable def tRet (te:TE):TS:=fun D σ H=>te σ H D.rt
theorem qoP (he:PE X e te):PS X (.Return (some e) pos) (tRet te):=by
 intro pins s σ H D I h;exact wpAny_Return_some (thn (he pins s σ H _ I h) fun v s1 ⟨x,H1,I1,r1,q1⟩=>⟨x,σ,H1,I1,r1,q1⟩)
noncomputable def tIfS (c:TT)(t u:TS):TS:=fun D σ H=>c σ H fun b H1=>if b=true then t D σ H1 else u D σ H1
theorem qri {c:Expr}{a b:List Stmt}{tc:TT}(hc:PT X c tc)(ha:PSs X a t)(hb:PSs X b u):PS X (.If c a b pos) (tIfS tc t u):=by
 intro pins s σ H D I h;refine wpAny_If (thn (hc pins s σ H _ I h) fun d s1 ⟨H1,I1,q1⟩=>?_);cases d with
 | true=>exact ha pins s1 σ H1 D I1 q1
 | false=>exact hb pins s1 σ H1 D I1 q1
end
noncomputable abbrev TG:=V->St->Hp->(St->Hp->Prop)->Prop
noncomputable abbrev TGs:=List V->St->Hp->(St->Hp->Prop)->Prop
noncomputable def PG (X:Cx)(target:Expr)(t:TG):Prop:=
 ∀ (pins:List (Addr×Obj)) (s:Shared) (σ:St) (H:Hp) (v:V) (u:Value) (Q:St->Hp->Prop),Inv X pins σ H s->RelV v u->t v σ H Q ->
  wpAny (model X.prog X.w) X.A (assign target X.env u) (fun _ s'=>∃ σ' H',Inv X pins σ' H' s'/\Q σ' H') X.xe s
noncomputable def PGs (X:Cx)(ts:List Expr)(t:TGs):Prop:=
 ∀ (pins:List (Addr×Obj)) (s:Shared) (σ:St) (H:Hp) (vs:List V) (us:List Value) (Q:St->Hp->Prop),Inv X pins σ H s->Vals vs us->t vs σ H Q ->
  wpAny (model X.prog X.w) X.A (assignInOrder ((assignEach ts X.env).map (·.2)) us) (fun _ s'=>∃ σ' H',Inv X pins σ' H' s'/\Q σ' H') X.xe s
noncomputable abbrev TSet:=V->V->V->Hp->(Hp->Prop)->Prop
noncomputable def PSet (X:Cx)(t:TSet):Prop:=
 ∀ (pins:List (Addr×Obj)) (s:Shared) (σ:St) (H:Hp) (o i v:V) (ov iv u:Value) (Q:Hp->Prop),Inv X pins σ H s->RelV o ov->RelV i iv->RelV v u->t o i v H Q ->
  wpAny (model X.prog X.w) X.A (setItem ov iv u) (fun _ s'=>∃ H',Inv X pins σ H' s'/\Q H') X.xe s
section
variable {X:Cx} {pos:Pos}
noncomputable def qlc (i:Nat):TG:=fun v σ H Q=>Q (σ.set i (some v)) H
theorem qiS {i:Nat}{x:Str}(hN:X.N.Nodup)(hi:X.N[i]? = some x)(hx:Loc X.env.scope x)(hf:X.fn x=true\/X.env.scope.names.lookup x=some .local:=by first | exact .inl rfl | exact .inr rfl | assumption):PG X (.Name x pos) (qlc i):=by
 intro pins s σ H v u Q I r h;exact wpAny_assign_Name (qbS I hN hi hx r (fun s' I'=>⟨_,H,I',h⟩) hf)
noncomputable def gNil:TGs:=fun vs σ H Q=>vs=[]/\Q σ H
noncomputable def qrS (t:TG)(u:TGs):TGs:=fun vs σ H Q=>∃ v r,vs=v::r/\t v σ H fun σ' H'=>u r σ' H' Q
theorem qmT:PGs X [] gNil:=by
 intro pins s σ H vs us Q I r h;obtain ⟨e,h⟩:=h;subst e;cases r;exact assignInOrder_nil ⟨σ,H,I,h⟩
theorem qkJ {e:Expr}{es:List Expr}{t:TG}{u:TGs}(h1:PG X e t)(h2:PGs X es u)
  (hs:(assignEach (e::es) X.env).map (·.2)=assign e X.env::(assignEach es X.env).map (·.2):=by rfl):PGs X (e::es) (qrS t u):=by
 intro pins s σ H vs us Q I r h;obtain ⟨v,vr,e1,h⟩:=h;subst e1;cases r with
 | cons r rr=>
  rw [hs];refine assignInOrder_cons (thn (h1 pins s σ H _ _ _ I r h) fun _ s1 ⟨σ1,H1,I1,q1⟩=>?_);exact h2 pins s1 σ1 H1 _ _ Q I1 rr q1
noncomputable def gTup (K:Fg1)(n:Nat)(t:TGs):TG:=fun v σ H Q=>∃ a xs,v = .ref a/\SqT K H a xs/\xs.length=n/\t xs σ H Q
theorem qo0 {es:List Expr}{k:Nat}{t:TGs}{n:Nat}(hc:X.calm=true)(h:PGs X es t)
  (hn:(assignEach es X.env).length=n:=by rfl) (hst:(assignEach es X.env).findIdx? (·.1)=none:=by rfl):PG X (.Tuple es k pos) (gTup X.K n t):=by
 intro pins s σ H v u Q I r hw;obtain ⟨a,xs,e1,hq,hl,hw⟩:=hw;subst e1;cases r;obtain ⟨its,rv,ht,hz⟩:=I.tuple hq;refine assign_Tuple_tuple (I.ok.hd hc) ht (by simp [hn,<- hl,rv.length]) hst fun h' hx=>?_;have I1:Inv X pins σ H {s with heap:=h'}:=I.kept (t':=s.toks) fun b o e=>hx b o (nN1 (hL1 e)) e;exact h pins _ σ H xs _ Q I1 (by simpa using rv) hw
noncomputable def gSub (to ti:TE)(t:TSet):TG:=fun v σ H Q=>to σ H fun o H1=>ti σ H1 fun i H2=>t o i v H2 fun H3=>Q σ H3
theorem qo1 {o i:Expr}{to ti:TE}{t:TSet}(ho:PE X o to)(hi:PE X i ti)(hs:PSet X t)
  (ha:∀ v,assign (.Subscript o i pos) X.env v=(do
   let ov<-holding [v] (eval o X.env)
   let iv<-holding [v,ov] (eval i X.env)
   standAt pos
   holding [v,ov,iv] (setItem ov iv v)
   release [v,ov,iv] []):=by intro _;rfl):PG X (.Subscript o i pos) (gSub to ti t):=by
 intro pins s σ H v u Q I r h;rw [ha];refine wB1 (wpAny_holding (thn (ho pins s σ H _ I h) fun ov s1 ⟨x,H1,I1,r1,q1⟩=>?_));refine wB1 (wpAny_holding (thn (hi pins s1 σ H1 _ I1 q1) fun iv s2 ⟨y,H2,I2,r2,q2⟩=>?_));refine wB1 (wpAny_standAt (wB1 (wpAny_holding (thn (hs pins s2 σ H2 x y v ov iv u _ I2 r1 r2 r q2) fun _ s3 ⟨H3,I3,q3⟩=>?_))));exact wpAny_release ⟨σ,H3,I3,q3⟩
noncomputable def tAsg (te:TE)(g:TG):TS:=fun D σ H=>te σ H fun x H1=>g x σ H1 D.nx
theorem qoS {tg e:Expr}{te:TE}{g:TG}(he:PE X e te)(hg:PG X tg g)(hs:swapsWithSole [tg] e pos.line X.env=pure false:=by rfl)(hw:swappedStores [tg] e X.env=pure none:=by rfl)
  (h1:(assignEach [tg] X.env).map (·.2)=[assign tg X.env]:=by rfl):PS X (.Assign [tg] e pos) (tAsg te g):=by
 intro pins s σ H D I h;refine wpAny_Assign_stores (thn (he pins s σ H _ I h) fun v s1 ⟨x,H1,I1,r1,q1⟩=>?_) hs hw;rw [h1];exact thn (hg pins s1 σ H1 x v _ I1 r1 q1) fun _ s2 q=>q
theorem qoO {i:Nat}{x:Str}{e:Expr}{te:TE}{pos':Pos}(hN:X.N.Nodup)(hi:X.N[i]? = some x)(hx:Loc X.env.scope x)(he:PE X e te)(hs:swapsWith e (some (.Name x pos')) pos.line X.env=pure false:=by rfl)(hf:X.fn x=true\/X.env.scope.names.lookup x=some .local:=by first | exact .inl rfl | exact .inr rfl | assumption):
  PS X (.Assign [.Name x pos'] e pos) (tAsg te (qlc i)):=by
 intro pins s σ H D I h;refine wpAny_Assign_Name (thn (he pins s σ H _ I h) fun v s1 ⟨y,H1,I1,r1,q1⟩=>?_) hs;exact qbS I1 hN hi hx r1 (fun s2 I2=>⟨_,H1,I2,q1⟩) hf
noncomputable def tPar (i j:Nat)(ta:TA):TS:=fun D σ H=>ta σ H fun vs H1=>∃ v w,vs=[v,w]/\D.nx ((σ.set i (some v)).set j (some w)) H1
theorem qoQ {i j:Nat}{x y:Str}{a b:Expr}{ta:TA}{px py pt:Pos}{kt k2 pt2}(hc:X.calm=true)(hN:X.N.Nodup)(hi:X.N[i]? = some x)(hj:X.N[j]? = some y)(hij:i≠j)
  (hx:X.env.scope.names.lookup x=some .local) (hy:X.env.scope.names.lookup y=some .local) (ha:PA X [a,b] ta)
  (hw:swappedStores [.Tuple [.Name x px,.Name y py] kt pt] (.Tuple [a,b] k2 pt2) X.env=pure (some [x,y]))
  (hs:swapsWithSole [.Tuple [.Name x px,.Name y py] kt pt] (.Tuple [a,b] k2 pt2) pos.line X.env=pure false:=by rfl):
  PS X (.Assign [.Tuple [.Name x px,.Name y py] kt pt] (.Tuple [a,b] k2 pt2) pos) (tPar i j ta):=by
 intro pins s σ H D I h;rw [exec_Assign_arm];refine wB1 (wpAny_standAt ?_);rw [hs];refine wB1 (wP1 ?_);rw [if_neg (by decide)];refine wB1 (Tuple_ (thn (ha _ pins s σ H _ I h) fun us s1 ⟨vs,H1,I1,r1,q1⟩=>?_));obtain ⟨v,w,e1,q1⟩:=q1;subst e1;obtain ⟨u1,u2,rfl,rv,rw'⟩:∃ u1 u2,us=[u1,u2]/\RelV v u1/\RelV w u2:=by
  cases r1 with
  | cons p q=>
   cases q with
   | cons p' q'=>
    cases q';exact ⟨_,_,rfl,p,p'⟩
 refine wO1 ?_ (by show 2<=sizeLine;decide);have I2:Inv X pins σ H1 {s1 with heap:=s1.heap.push {cls:=.type "tuple",data:=.seq [u1,u2].toArray}}:=I1.kept (t':=s1.toks) fun b o e=>hP1 _ e;rw [hw];refine wB1 (wP1 ?_);show wpAny (model X.prog X.w) X.A (do rule "assign.swapped-stores";let items<-unpackItems (.ref s1.heap.objs.size) 2 none;assignInOrder [fun v=>bindName X.env y v,fun v=>bindName X.env x v] items.reverse;pure Flow.next) _ _ _;refine wB1 (wpAny_rule (wB1 (unpackItems_tuple (items:= #[u1,u2]) (I.ok.hd hc) (IsTup.new s1.heap _) fun h' hx'=>?_)));have I3:=I2.kept (h':=h') (t':=s1.toks) fun b o e=>hx' b o (nN1 (hL1 e)) e;show wpAny _ _ (assignInOrder [fun v=>bindName X.env y v,fun v=>bindName X.env x v] [u2,u1] >>= fun _=>pure Flow.next) _ _ _;refine wB1 (assignInOrder_cons (wpAny_bindName (qbS I3 hN hj (.inl hy) rw' (fun s2 I4=>?_) (.inr hy))));refine assignInOrder_cons (wpAny_bindName (qbS I4 hN hi (.inl hx) rv (fun s3 I5=>assignInOrder_nil (wP1 ?_)) (.inr hx)));rw [List.set_comm _ _ (Ne.symm hij)] at I5;exact ⟨_,H1,I5,q1⟩
noncomputable def qlG (c:TT)(tb:TS):TS:=fun D σ H=>∃ W:Nat->St->Hp->Prop,(∃ m,W m σ H) /\ ∀ m σ H,W m σ H ->
 c σ H fun b H1=>if b=true then ∃ N:St->Hp->Prop,(∀ σ' H',N σ' H' -> ∃ m',m'<m/\W m' σ' H')/\tb {D with nx:=N,ct:=N,bk:=D.nx} σ H1 else D.nx σ H1
theorem qkE {c:Expr}{body:List Stmt}{tc:TT}{tb:TS}(hp:PassesOwn (model X.prog X.w) X.A X.env X.xe)(hc:PT X c tc)(hb:PSs X body tb):PS X (.While c body [] pos) (qlG tc tb):=by
 intro pins s σ H D I h;obtain ⟨W,⟨m0,w0⟩,turn⟩:=h;refine wpAny_While (codeAny_whileLoop (fun n s'=>∃ σ' H',Inv X pins σ' H' s'/\W n σ' H') ?_ m0 ⟨σ,H,I,w0⟩);rintro n s1 ⟨σ1,H1,I1,w1⟩;refine wpAny_passesOwn hp (thn (hc pins s1 σ1 H1 _ I1 (turn n σ1 H1 w1)) fun b s2 ⟨H2,I2,q2⟩=>?_);cases b with
 | true=>
  obtain ⟨N,hN,q2⟩:=q2;rw [if_pos rfl];refine wpAny_passesOwn hp (thn (hb pins s2 σ1 H2 _ I2 q2) fun f s3 q3=>?_);cases f with
  | next=>
   obtain ⟨σ3,H3,I3,n3⟩:=q3;obtain ⟨m',hm,w3⟩:=hN σ3 H3 n3;exact ⟨m',hm,σ3,H3,I3,w3⟩
  | cont=>
   obtain ⟨σ3,H3,I3,n3⟩:=q3;obtain ⟨m',hm,w3⟩:=hN σ3 H3 n3;exact ⟨m',hm,σ3,H3,I3,w3⟩
  | brk=>exact q3
  | ret v=>exact q3
 | false=>
  rw [if_neg Bool.false_ne_true];exact wpAny_execs_nil ⟨σ1,H2,I2,q2⟩
end
structure It where
 go:Nat->Hp->Prop
 yld:Nat->Hp->V->Hp->Prop
 stop:Nat->Hp->Prop
noncomputable def FpOk (X:Cx)(pins:List (Addr×Obj))(H:Hp)(b:Addr):Prop:=
 H b=none/\b≠X.env.locals/\b∉X.fs/\(b∈X.ex\/X.s₀.heap.objs.size<=b)/\(∀ x c,X.env.cells.lookup x=some c->c≠b) /\ ∀ p∈X.pn++pins,p.1≠b
theorem Inv.fpOk {X:Cx}{pins:List (Addr×Obj)}{σ:St}{H H':Hp}{s:Shared}{b:Addr}(I:Inv X pins σ H s)(hb:s.heap.objs.size<=b)(hn:H' b=none):FpOk X pins H' b:=by
 refine ⟨hn,nG1 (nL1 I.lt hb),I.nofs hb,.inr (Nat.le_trans I.sz hb),fun x c e z=>?_,fun p hp z=>?_⟩
 ·obtain ⟨v,q⟩:=I.cell x c e;exact absurd (nL1 q.lt (by rw [z];exact hb)) (Nat.lt_irrefl _)
 ·exact absurd (nL1 (hL1 (I.pin p hp).1) (by rw [z];exact hb)) (Nat.lt_irrefl _)
structure Turn (P:Program)(w:World)(K:Fg1)(tg:Expr)(J:It)(fp:List Addr)(it:Addr)(tn:Nat->Heap->Prop):Prop where
 mem:it∈fp
 obj:∀ i h,tn i h -> ∀ b∈fp,∃ o,h.get? b=some o /\ ∀ v,o.data ≠ .cell v
 keep:∀ i h h',tn i h->(∀ b∈fp,∀ o,h.get? b=some o->h'.get? b=some o)->tn i h'
 item:∀ (X:Cx),X.prog=P->X.w=w->X.K=K->X.calm=true -> ∀ (i:Nat) (pins:List (Addr×Obj)) (s:Shared) (σ:St) (H:Hp) (E:Value->Shared->Prop),Inv X pins σ H s->(∀ b∈fp,FpOk X pins H b)->tn i s.heap->J.go i H ->
  wpAny (model P w) X.A (pyNext (.ref it)) (fun r s1=>∃ u,r=some u /\
   wpAny (model P w) X.A (letOwnedTupleGo tg (.ref it) u) (fun _ s2=>∃ x H',Inv X pins σ H' s2/\RelV x u/\J.yld i H x H'/\tn (i+1) s2.heap /\ ∀ b∈fp,H' b=none) E s1) E s
 done:∀ (X:Cx),X.prog=P->X.w=w->X.K=K->X.calm=true -> ∀ (i:Nat) (pins:List (Addr×Obj)) (s:Shared) (σ:St) (H:Hp) (E:Value->Shared->Prop),Inv X pins σ H s->(∀ b∈fp,FpOk X pins H b)->tn i s.heap->J.stop i H ->
  wpAny (model P w) X.A (pyNext (.ref it)) (fun r s1=>r=none/\Inv X pins σ H s1) E s
 self:∀ (A:Around) (i:Nat) (s:Shared) (Q:Value->Shared->Prop) (E:Value->Shared->Prop),tn i s.heap->Q (.ref it) s->wpAny (model P w) A (pyIter (.ref it)) Q E s
noncomputable abbrev TI:=St->Hp->(It->Hp->Prop)->Prop
noncomputable def PIE (X:Cx)(pins:List (Addr×Obj))(σ:St)(tg:Expr)(R:It->Hp->Prop)(itv:Value)(s2:Shared):Prop:=
 ∃ (it:Addr) (fp:List Addr) (tn:Nat->Heap->Prop) (J:It) (H':Hp),itv = .ref it/\Inv X pins σ H' s2/\Turn X.prog X.w X.K tg J fp it tn/\tn 0 s2.heap/\(∀ b∈fp,FpOk X pins H' b)/\R J H'
noncomputable def PI (X:Cx)(tg iter:Expr)(wi:TI):Prop:=
 ∀ (pins:List (Addr×Obj)) (s:Shared) (σ:St) (H:Hp) (R:It->Hp->Prop),Inv X pins σ H s->wi σ H R ->
  wpAny (model X.prog X.w) X.A (eval iter X.env) (fun v s1=>wpAny (model X.prog X.w) X.A (pyIter v) (PIE X pins σ tg R) X.xe s1) X.xe s
theorem qnG {M:Model}{A:Around}{E:Value->Shared->Prop}{s:Shared}{tg:Expr}{it:Addr}{u:Value}{o:Obj}{n:String}{vs:Array Value}{Q:Unit->Shared->Prop}(ho:s.heap.get? it=some o)(hc:o.cls = .type n)(hd:o.data = .fields vs)
   (hn:["enumerate","zip","dict_itemiterator","dict_reverseitemiterator","odict_iterator","itertools.zip_longest","itertools.pairwise"].contains n=false) (hQ:Q () s):wpAny M A (letOwnedTupleGo tg (.ref it) u) Q E s:=by
 unfold letOwnedTupleGo;cases tg <;> first
   | exact wP1 hQ
   | (cases u<;>first
       | exact wP1 hQ
       | (refine wB1 (wpAny_load ho ?_)
          rw [hc,hd];show wpAny M A (if (["enumerate","zip","dict_itemiterator","dict_reverseitemiterator","odict_iterator","itertools.zip_longest","itertools.pairwise"].contains n&&vs[0]? == some (rawInt _))=true then _ else _) Q E s;rw [if_neg (by intro h;rw [hn,Bool.false_and] at h;cases h)];exact wP1 hQ))
noncomputable def Itl (K:Fg1)(a:Addr):It:=
 ⟨fun i H=>∃ xs x,SqL K H a xs/\xs[i]? = some x,fun i H x H'=>H'=H /\ ∀ xs,SqL K H a xs->xs[i]? = some x,fun i H=>∃ xs,SqL K H a xs/\xs.length<=i⟩
noncomputable def Itt (K:Fg1)(a:Addr):It:=
 ⟨fun i H=>∃ xs x,SqT K H a xs/\xs[i]? = some x,fun i H x H'=>H'=H /\ ∀ xs,SqT K H a xs->xs[i]? = some x,fun i H=>∃ xs,SqT K H a xs/\xs.length<=i⟩
noncomputable def Itr (lo:Int)(n:Nat):It:=⟨fun i _=>i<n,fun i H x H'=>H'=H/\x = .int (lo+i),fun i _=>n<=i⟩
theorem qin {P:Program}{w:World}{K:Fg1}{tg:Expr}(a it:Addr):Turn P w K tg (Itl K a) [it] it (fun i h=>h.IsListIter it a i) where
 mem:=by simp
 obj:=fun i h st b hb=>by
  have e:b=it:=by simpa using hb
  subst e;obtain ⟨o,e,c,d⟩:=st;exact ⟨o,e,fun v z=>by rw [d] at z;cases z⟩
 keep:=fun i h h' st k=>st.at fun o e=>k it (by simp) o e
 item:=by
  intro X hP hw hK hc i pins s σ H E I hf st hg;subst hP hw hK;obtain ⟨xs,x,hq,hx⟩:=hg;obtain ⟨its,rv,p,hz⟩:=I.list hq;obtain ⟨u,hu,ru⟩:=rv.get hx;obtain ⟨f0,f1,f2,f3,f4,f5⟩:=hf it (by simp);refine wpAny_pyNext_list_item st p.isList (x:=u) (by simpa using hu) fun h' st' sb=>?_;have I1:Inv X pins σ H {s with heap:=h'}:=I.turned (t':=s.toks) (fun b o hb e=>(sb.2 b hb).trans e) f0 f1 f3 f4 f5;obtain ⟨o,e,c,d⟩:=id st';exact ⟨u,rfl,qnG (s:={s with heap:=h'}) e c d (by decide) ⟨x,H,I1,ru,⟨rfl,fun ys hy=>by rw [I.list_inj hy hq];exact hx⟩,st',fun b hb=>(hf b hb).1⟩⟩
 done:=by
  intro X hP hw hK hc i pins s σ H E I hf st hg;subst hP hw hK;obtain ⟨xs,hq,hx⟩:=hg;obtain ⟨its,rv,p,hz⟩:=I.list hq;obtain ⟨f0,f1,f2,f3,f4,f5⟩:=hf it (by simp);have hl:=rv.length;exact wpAny_pyNext_list_end (I.ok.hd hc) st p.isList (by simp;lia) fun h' eb=>⟨rfl,I.turned (t':=s.toks) (fun b o hb e=>eb b o hb e) f0 f1 f3 f4 f5⟩
 self:=fun _ _ _ _ _ st h=>wpAny_pyIter_listiter st h
theorem qhJ {P:Program}{w:World}{K:Fg1}{tg:Expr}(a it:Addr):Turn P w K tg (Itt K a) [it] it (fun i h=>h.IsTupleIter it a i) where
 mem:=by simp
 obj:=fun i h st b hb=>by
  have e:b=it:=by simpa using hb
  subst e;obtain ⟨o,e,c,d⟩:=st;exact ⟨o,e,fun v z=>by rw [d] at z;cases z⟩
 keep:=fun i h h' st k=>st.at fun o e=>k it (by simp) o e
 item:=by
  intro X hP hw hK hc i pins s σ H E I hf st hg;subst hP hw hK;obtain ⟨xs,x,hq,hx⟩:=hg;obtain ⟨its,rv,p,hz⟩:=I.tuple hq;obtain ⟨u,hu,ru⟩:=rv.get hx;obtain ⟨f0,f1,f2,f3,f4,f5⟩:=hf it (by simp);refine wpAny_pyNext_tuple_item st (show s.heap.IsTuple a its.toArray from p) (x:=u) (by simpa using hu) fun h' st' sb=>?_;have I1:Inv X pins σ H {s with heap:=h'}:=I.turned (t':=s.toks) (fun b o hb e=>(sb.2 b hb).trans e) f0 f1 f3 f4 f5;obtain ⟨o,e,c,d⟩:=id st';exact ⟨u,rfl,qnG (s:={s with heap:=h'}) e c d (by decide) ⟨x,H,I1,ru,⟨rfl,fun ys hy=>by rw [I.tuple_inj hy hq];exact hx⟩,st',fun b hb=>(hf b hb).1⟩⟩
 done:=by
  intro X hP hw hK hc i pins s σ H E I hf st hg;subst hP hw hK;obtain ⟨xs,hq,hx⟩:=hg;obtain ⟨its,rv,p,hz⟩:=I.tuple hq;obtain ⟨f0,f1,f2,f3,f4,f5⟩:=hf it (by simp);have hl:=rv.length;exact wpAny_pyNext_tuple_end (I.ok.hd hc) st (show s.heap.IsTuple a its.toArray from p) (by simp;lia) fun h' eb=>⟨rfl,I.turned (t':=s.toks) (fun b o hb e=>eb b o hb e) f0 f1 f3 f4 f5⟩
 self:=fun _ _ _ _ _ st h=>wpAny_pyIter_tupleiter st h
theorem qhK {P:Program}{w:World}{K:Fg1}{tg:Expr}(it:Addr)(lo:Int)(n:Nat):Turn P w K tg (Itr lo n) [it] it (fun i h=>IsRangeIter h it (lo+(i:Nat)*1) ((n:Int)-(i:Nat)) 1) where
 mem:=by simp
 obj:=fun i h st b hb=>by
  have e:b=it:=by simpa using hb
  subst e;exact ⟨_,st,fun v z=>by
   have z':Data.fields _=Data.cell v:=z;cases z'⟩
 keep:=fun i h h' st k=>k it (by simp) _ st
 item:=by
  intro X hP hw hK hc i pins s σ H E I hf st hg;subst hP hw hK;obtain ⟨f0,f1,f2,f3,f4,f5⟩:=hf it (by simp);have W:=Walks.range (prog:=X.prog) (w:=X.w) (I.ok.hd hc) it lo 1 n;refine W.item i s _ _ hg st fun v h' tk hv st' kk=>?_;obtain ⟨t,rfl⟩:=hv;have I1:Inv X pins σ H {s with heap:=h',toks:=tk}:=I.turned (fun b o hb e=>kk b o (by simpa using hb) e) f0 f1 f3 f4 f5;refine ⟨_,rfl,qnG (s:={s with heap:=h',toks:=tk}) (n:="range_iterator") st' rfl rfl (by decide) ⟨.int (lo+i),H,I1,⟨t,?_⟩,⟨rfl,rfl⟩,st',fun b hb=>(hf b hb).1⟩⟩;rw [Int.mul_one]
 done:=by
  intro X hP hw hK hc i pins s σ H E I hf st hg;subst hP hw hK;obtain ⟨f0,f1,f2,f3,f4,f5⟩:=hf it (by simp);exact wpAny_pyNext_range_end (I.ok.hd hc) st (by have:n<=i:=hg;lia) fun h' eb=>⟨rfl,I.turned (t':=s.toks) (fun b o hb e=>eb b o hb e) f0 f1 f3 f4 f5⟩
 self:=fun _ _ _ _ _ st h=>wpAny_pyIter_rangeiter st h
end L2
namespace L2
open PySem PySem.Spec PyProof.Rows
section
variable {X:Cx} {tg:Expr}
noncomputable def qrO (K:Fg1)(tl:TE):TI:=fun σ H R=>tl σ H fun x H1=>∃ a,x = .ref a/\(∃ xs,SqL K H1 a xs)/\R (Itl K a) H1
noncomputable def iTup (K:Fg1)(tl:TE):TI:=fun σ H R=>tl σ H fun x H1=>∃ a,x = .ref a/\(∃ xs,SqT K H1 a xs)/\R (Itt K a) H1
theorem qmR {l:Expr}{tl:TE}(hl:PE X l tl):PI X tg l (qrO X.K tl):=by
 intro pins s σ H R I h;refine thn (hl pins s σ H _ I h) fun v s1 ⟨x,H1,I1,r1,q1⟩=>?_;obtain ⟨a,e,⟨xs,hq⟩,q⟩:=q1;subst e;cases r1;obtain ⟨its,rv,p,hz⟩:=I1.list hq;refine wpAny_pyIter_list p.isList ?_;refine ⟨s1.heap.objs.size,[s1.heap.objs.size],_,_,H1,rfl,I1.kept (t':=s1.toks) fun b o e=>hP1 _ e,qin a _,⟨_,hS1 _ rfl,rfl,rfl⟩,fun b hb=>?_,q⟩;have e:b=s1.heap.objs.size:=by simpa using hb
 subst e;exact I1.fpOk (nR1 _) (I1.hok.fresh (nR1 _))
theorem qoZ {l:Expr}{tl:TE}(hl:PE X l tl):PI X tg l (iTup X.K tl):=by
 intro pins s σ H R I h;refine thn (hl pins s σ H _ I h) fun v s1 ⟨x,H1,I1,r1,q1⟩=>?_;obtain ⟨a,e,⟨xs,hq⟩,q⟩:=q1;subst e;cases r1;obtain ⟨its,rv,p,hz⟩:=I1.tuple hq;refine wpAny_pyIter_tuple (show s1.heap.IsTuple a its.toArray from p) ?_;refine ⟨s1.heap.objs.size,[s1.heap.objs.size],_,_,H1,rfl,I1.kept (t':=s1.toks) fun b o e=>hP1 _ e,qhJ a _,⟨_,hS1 _ rfl,rfl,rfl⟩,fun b hb=>?_,q⟩;have e:b=s1.heap.objs.size:=by simpa using hb
 subst e;exact I1.fpOk (nR1 _) (I1.hok.fresh (nR1 _))
theorem qg3 {pins:List (Addr×Obj)}{σ:St}{H:Hp}{s:Shared}{R:It->Hp->Prop}{E:Value->Shared->Prop}{lo hi:Int}{t u v:Tok}{tk:Nat}(I:Inv X pins σ H s)(h1: -(2^62)<=lo)(h2:lo<2^62)(h3: -(2^62)<=hi)(h4:hi<2^62)
  (q:R (Itr lo (hi-lo).toNat) H):wpAny (model X.prog X.w) X.A (pyIter (.ref s.heap.objs.size)) (PIE X pins σ tg R) E {s with heap:=s.heap.push {cls:=.type "range",data:=.fields #[.int lo t,.int hi u,.int 1 v]},toks:=tk}:=by
 refine wpAny_pyIter_range (IsRange.new ..) (small_one h1 h2 h3 h4) ?_;have I1:Inv X pins σ H {s with heap:=s.heap.push {cls:=.type "range",data:=.fields #[.int lo t,.int hi u,.int 1 v]},toks:=tk}:=I.kept fun b o e=>hP1 _ e;refine ⟨(s.heap.push {cls:=.type "range",data:=.fields #[.int lo t,.int hi u,.int 1 v]}).objs.size,[(s.heap.push {cls:=.type "range",data:=.fields #[.int lo t,.int hi u,.int 1 v]}).objs.size],_,_,H,rfl,
  I1.kept (t':=tk) fun b o e=>hP1 _ e,qhK _ lo (hi-lo).toNat,?_,fun b hb=>?_,q⟩
 ·have e1:lo+((0:Nat):Int)*1=lo:=by simp
  have e2:(((hi-lo).toNat:Nat):Int)-((0:Nat):Int)=Builtin.Range.rangeSize lo hi 1:=by rw [rangeSize_one];split<;>lia
  show IsRangeIter _ _ (lo+((0:Nat):Int)*1) ((((hi-lo).toNat:Nat):Int)-((0:Nat):Int)) 1;rw [e1,e2];exact hS1 _ rfl
 ·have e:b=(s.heap.push {cls:=.type "range",data:=.fields #[.int lo t,.int hi u,.int 1 v]}).objs.size:=by simpa using hb
  subst e;exact I1.fpOk (nR1 _) (I1.hok.fresh (nR1 _))
noncomputable def qrN (ta:TA):TI:=fun σ H R=>ta σ H fun vs H1=>∃ j:Int,vs=[.int j] /\ -(2^62)<=j/\j<2^62/\R (Itr 0 j.toNat) H1
noncomputable def qrM (ta:TA):TI:=fun σ H R=>ta σ H fun vs H1=>∃ i j:Int,vs=[.int i,.int j]/\(-(2^62)<=i/\i<2^62 /\ -(2^62)<=j/\j<2^62)/\R (Itr i (j-i).toNat) H1
theorem qiQ {a:Expr}{ta:TA}{p pos:Pos}(hg:Gl X "range")(hm:X.mg "range"=none)(ha:PA X [a] ta)(hs:starEach [a] X.env=[(false,eval a X.env)]:=by rfl):PI X tg (.Call (.Name "range" p) [a] [] pos) (qrN ta):=by
 intro pins s σ H R I h;refine Call_ (qdk I hg hm boot_range (PyProof.Rows.callWith_type1 (thn (ha pos pins s σ H _ I h) fun us s1 ⟨vs,H1,I1,r1,q1⟩=>?_) hs rfl));obtain ⟨j,e,q1,q2,q⟩:=q1;subst e;cases r1 with
 | cons r rr=>
  cases rr;obtain ⟨t,rfl⟩:=r;exact call_range_1 (qg3 I1 (by lia) (by lia) q1 q2 (by simpa using q))
theorem qiP {a b:Expr}{ta:TA}{p pos:Pos}(hg:Gl X "range")(hm:X.mg "range"=none)(ha:PA X [a,b] ta)(hs:starEach [a,b] X.env=[(false,eval a X.env),(false,eval b X.env)]:=by rfl)(hs2:starEach [b] X.env=[(false,eval b X.env)]:=by rfl):
  PI X tg (.Call (.Name "range" p) [a,b] [] pos) (qrM ta):=by
 intro pins s σ H R I h;refine Call_ (qdk I hg hm boot_range (PyProof.Rows.callWith_type1 (thn (ha pos pins s σ H _ I h) fun us s1 ⟨vs,H1,I1,r1,q1⟩=>?_) (by rw [hs,hs2]) (by rw [hs2];rfl)));obtain ⟨i,j,e,⟨q1,q2,q3,q4⟩,q⟩:=q1;subst e;cases r1 with
 | cons r rr=>
  cases rr with
  | cons r' rr=>
   cases rr;obtain ⟨t,rfl⟩:=r;obtain ⟨t',rfl⟩:=r';exact call_range_2 (qg3 I1 q1 q2 q3 q4 q)
noncomputable def tFor (wi:TI)(g:TG)(tb:TS):TS:=fun D σ H=>wi σ H fun J H1=>∃ W:Nat->Nat->St->Hp->Prop,(∃ m,W 0 m σ H1) /\ ∀ i m σ H,W i m σ H ->
 (J.stop i H/\D.nx σ H)\/(J.go i H /\ ∃ N:St->Hp->Prop,(∀ σ' H',N σ' H' -> ∃ m',m'<m/\W (i+1) m' σ' H') /\ ∀ x H',J.yld i H x H'->g x σ H' fun σ2 H2=>tb {D with nx:=N,ct:=N,bk:=D.nx} σ2 H2)
noncomputable def qfz (fp:List Addr)(h:Heap):List (Addr×Obj):=fp.filterMap fun b=>(h.get? b).map fun o=>(b,o)
theorem qcq {fp:List Addr}{h:Heap}{b:Addr}{o:Obj}(hb:b∈fp)(e:h.get? b=some o):(b,o)∈qfz fp h:=List.mem_filterMap.mpr ⟨b,hb,by rw [e];rfl⟩
theorem qiY {fp:List Addr}{h:Heap}{p:Addr×Obj}(hp:p∈qfz fp h):p.1∈fp/\h.get? p.1=some p.2:=by
 obtain ⟨b,hb,e⟩:=List.mem_filterMap.mp hp;cases q:h.get? b with
 | none=>rw [q] at e;cases e
 | some o=>
  rw [q] at e;have e':(b,o)=p:=Option.some.inj e;subst e';exact ⟨hb,q⟩
theorem Inv.pinned {pins:List (Addr×Obj)}{σ:St}{H:Hp}{s:Shared}{fp:List Addr}(I:Inv X pins σ H s)(hf:∀ b∈fp,FpOk X pins H b)(ho:∀ b∈fp,∃ o,s.heap.get? b=some o /\ ∀ v,o.data ≠ .cell v):Inv X (pins++qfz fp s.heap) σ H s:=
 I.pins_of fun p hp=>(List.mem_append.mp hp).elim (fun z=>I.pin p (mA1 _ z)) fun z=>by
  obtain ⟨hb,e⟩:=qiY z;obtain ⟨f0,f1,f2,_⟩:=hf p.1 hb;obtain ⟨o,e',d⟩:=ho p.1 hb;rw [e] at e';cases e';exact ⟨e,f0,f1,f2,d⟩
theorem Inv.unpinned {pins pl:List (Addr×Obj)}{σ:St}{H:Hp}{s:Shared}(I:Inv X (pins++pl) σ H s):Inv X pins σ H s:=I.pins_of fun p hp=>I.pin p (mA1 _ (List.mem_append_left _ hp))
theorem qoR {iter:Expr}{body:List Stmt}{wi:TI}{g:TG}{tb:TS}{pos:Pos}(hp:PassesOwn (model X.prog X.w) X.A X.env X.xe)(hc:X.calm=true)(hi:PI X tg iter wi)(hg:PG X tg g)(hb:PSs X body tb)
  (hs:∀ x,foldedSetIterable iter X.env x=pure x:=by intro _;rfl):PS X (.For tg iter body [] pos) (tFor wi g tb):=by
 intro pins s σ H D I h;refine wpAny_For (thn (hi pins s σ H _ I h) fun v s1 h1=>thn h1 fun itv s2 h2=>?_) hs;obtain ⟨it,fp,tn,J,H2,e,I2,T,st2,f2,W,⟨m0,w0⟩,turn⟩:=h2;subst e
 -- what stays true of the iterator's objects through the loop
 have stat:∀ {H':Hp},(∀ b∈fp,H' b=none) -> ∀ b∈fp,FpOk X pins H' b:=fun hn b hb=>⟨hn b hb,(f2 b hb).2⟩;refine codeAny_forLoop_any (fun n s'=>∃ i σ' H',Inv X pins σ' H' s'/\tn i s'.heap/\(∀ b∈fp,H' b=none)/\W i n σ' H') ?_ m0 ⟨0,σ,H2,I2,st2,fun b hb=>(f2 b hb).1,w0⟩;rintro n s3 ⟨i,σ3,H3,I3,st3,fr3,w3⟩;rcases turn i n σ3 H3 w3 with ⟨stop,qn⟩ | ⟨go,N,hN,step⟩
 ·refine wpAny_passesOwn hp (thn (T.done X rfl rfl rfl hc i pins s3 σ3 H3 X.xe I3 (stat fr3) st3 stop) fun r s4 ⟨hr,I4⟩=>?_);subst hr;exact wpAny_execs_nil ⟨σ3,H3,I4,qn⟩
 ·refine wpAny_passesOwn hp (thn (T.item X rfl rfl rfl hc i pins s3 σ3 H3 X.xe I3 (stat fr3) st3 go) fun r s4 ⟨u,hr,h4⟩=>?_);subst hr;refine wpAny_passesOwn hp (thn h4 fun _ s5 ⟨x,H5,I5,r5,y5,st5,fr5⟩=>?_);have I5':=I5.pinned (stat fr5) (T.obj _ _ st5);refine wpAny_passesOwn hp (thn (hg _ s5 σ3 H5 x u _ I5' r5 (step x H5 y5)) fun _ s6 ⟨σ6,H6,I6,q6⟩=>?_);refine wpAny_passesOwn hp (thn (hb _ s6 σ6 H6 _ I6 q6) fun f s7 q7=>?_);have again:∀ {σ7:St} {H7:Hp},Inv X (pins++qfz fp s5.heap) σ7 H7 s7->N σ7 H7 -> ∃ m,m<n /\ ∃ i σ' H',Inv X pins σ' H' s7/\tn i s7.heap/\(∀ b∈fp,H' b=none)/\W i m σ' H':=fun {σ7 H7} I7 n7=>by
   obtain ⟨m',hm,w7⟩:=hN σ7 H7 n7;refine ⟨m',hm,i+1,σ7,H7,I7.unpinned,T.keep _ _ _ st5 fun b hb o e=>(I7.pin (b,o) (mA1 _ (mA1 _ (qcq hb e)))).1,fun b hb=>?_,w7⟩;obtain ⟨o,e,d⟩:=T.obj _ _ st5 b hb;exact (I7.pin (b,o) (mA1 _ (mA1 _ (qcq hb e)))).2.1
  cases f with
  | next=>obtain ⟨σ7,H7,I7,n7⟩:=q7;exact again I7 n7
  | cont=>obtain ⟨σ7,H7,I7,n7⟩:=q7;exact again I7 n7
  | brk=>obtain ⟨σ7,H7,I7,q7⟩:=q7;exact ⟨σ7,H7,I7.unpinned,q7⟩
  | ret v=>obtain ⟨x7,σ7,H7,I7,r7,q7⟩:=q7;exact ⟨x7,σ7,H7,I7.unpinned,r7,q7⟩
end
end L2
namespace L2
open PySem PySem.Spec PyProof.Rows
noncomputable abbrev R2:=V->V->Hp->VK->Prop
noncomputable def OpR (X:Cx)(f:Value->Value->Sem Value)(r:R2):Prop:=
 ∀ (pins:List (Addr×Obj)) (s:Shared) (σ:St) (H:Hp) (x y:V) (v u:Value) (Q:VK),Inv X pins σ H s->RelV x v->RelV y u->r x y H Q ->
  wpAny (model X.prog X.w) X.A (f v u) (EP X pins σ Q) X.xe s
noncomputable def UnR (X:Cx)(f:Value->Sem Value)(r:V->Hp->VK->Prop):Prop:=
 ∀ (pins:List (Addr×Obj)) (s:Shared) (σ:St) (H:Hp) (x:V) (v:Value) (Q:VK),Inv X pins σ H s->RelV x v->r x H Q ->
  wpAny (model X.prog X.w) X.A (f v) (EP X pins σ Q) X.xe s
noncomputable def qaN (X:Cx)(f:Value)(r:List V->Hp->VK->Prop):Prop:=
 ∀ (pins:List (Addr×Obj)) (s:Shared) (σ:St) (H:Hp) (xs:List V) (us:List Value) (Q:VK),Inv X pins σ H s->Vals xs us->r xs H Q ->
  wpAny (model X.prog X.w) X.A (call f us) (EP X pins σ Q) X.xe s
noncomputable def TruR (X:Cx)(r:V->Hp->(Bool->Hp->Prop)->Prop):Prop:=
 ∀ (pins:List (Addr×Obj)) (s:Shared) (σ:St) (H:Hp) (x:V) (v:Value) (Q:Bool->Hp->Prop),Inv X pins σ H s->RelV x v->r x H Q ->
  wpAny (model X.prog X.w) X.A (truthy v) (TP X pins σ Q) X.xe s
noncomputable def tOp (r:R2)(ta tb:TE):TE:=fun σ H Q=>ta σ H fun x H1=>tb σ H1 fun y H2=>r x y H2 Q
noncomputable def tUn (r:V->Hp->VK->Prop)(ta:TE):TE:=fun σ H Q=>ta σ H fun x H1=>r x H1 Q
noncomputable def rI (C:Int->Int->Prop)(g:Int->Int->V):R2:=fun x y H Q=>∃ i j,x = .int i/\y = .int j/\C i j/\Q (g i j) H
noncomputable def rI0 (g:Int->Int->V):R2:=fun x y H Q=>∃ i j,x = .int i/\y = .int j/\Q (g i j) H
noncomputable def rU (g:Int->V):V->Hp->VK->Prop:=fun x H Q=>∃ i,x = .int i/\Q (g i) H
section
variable {X:Cx} {a b c:Expr} {ta tb tc:TE} {pos:Pos}
theorem binT (ha:PE X a ta)(hb:PE X b tb){pins:List (Addr×Obj)}{s:Shared}{σ:St}{H:Hp}{R:V->V->Hp->Prop}(I:Inv X pins σ H s)
  (h:ta σ H fun x H1=>tb σ H1 fun y H2=>R x y H2) {Q:Value->Shared->Prop} {f:Value->Value->Sem Value}
  (hf:∀ v u s2 x y H2,Inv X pins σ H2 s2->RelV x v->RelV y u->R x y H2->wpAny (model X.prog X.w) X.A (f v u) Q X.xe s2):
  wpAny (model X.prog X.w) X.A (eval a X.env) (fun v s₁=>wpAny (model X.prog X.w) X.A (eval b X.env) (fun u s₂=>wpAny (model X.prog X.w) X.A (f v u) Q X.xe s₂) X.xe s₁) X.xe s:=by
 refine thn (ha pins s σ H _ I h) fun v s1 ⟨x,H1,I1,r1,q1⟩=>?_;refine thn (hb pins s1 σ H1 _ I1 q1) fun u s2 ⟨y,H2,I2,r2,q2⟩=>?_;exact hf v u s2 x y H2 I2 r1 r2 q2
theorem qrl {op:Operator}{r:R2}(ho:OpR X (binaryOp op) r)(ha:PE X a ta)(hb:PE X b tb):PE X (.BinOp a op b pos) (tOp r ta tb):=by
 intro pins s σ H Q I h;exact wpAny_BinOp (binT ha hb I h fun v u s2 x y H2 I2 rx ry q=>ho pins s2 σ H2 x y v u Q I2 rx ry q)
theorem qrk {op:UnaryOp}{r:V->Hp->VK->Prop}(ho:UnR X (unaryOp op) r)(ha:PE X a ta):PE X (.UnaryOp op a pos) (tUn r ta):=by
 intro pins s σ H Q I h;exact UnaryOp_ (thn (ha pins s σ H _ I h) fun v s1 ⟨x,H1,I1,r1,q1⟩=>ho pins s1 σ H1 x v Q I1 r1 q1)
theorem opI {f:Value->Value->Sem Value}{C:Int->Int->Prop}{g:Int->Int->Int}
  (rule:∀ (i j:Int) (t u:Tok) (s:Shared) (Q:Value->Shared->Prop) (E:Value->Shared->Prop),C i j->Q (.int (g i j) s.toks) {s with toks:=s.toks+1}->wpAny (model X.prog X.w) X.A (f (.int i t) (.int j u)) Q E s):
  OpR X f (rI C fun i j=>.int (g i j)):=by
 intro pins s σ H x y v u Q I rx ry h;obtain ⟨i,j,rfl,rfl,hc,q⟩:=h;obtain ⟨t,rfl⟩:=rx;obtain ⟨t',rfl⟩:=ry;exact rule i j t t' s _ _ hc ⟨.int (g i j),H,I.tok _,⟨_,rfl⟩,q⟩
theorem opI0 {f:Value->Value->Sem Value}{g:Int->Int->Int}
  (rule:∀ (i j:Int) (t u:Tok) (s:Shared) (Q:Value->Shared->Prop) (E:Value->Shared->Prop),Q (.int (g i j) s.toks) {s with toks:=s.toks+1}->wpAny (model X.prog X.w) X.A (f (.int i t) (.int j u)) Q E s):
  OpR X f (rI0 fun i j=>.int (g i j)):=by
 intro pins s σ H x y v u Q I rx ry h;obtain ⟨i,j,rfl,rfl,q⟩:=h;obtain ⟨t,rfl⟩:=rx;obtain ⟨t',rfl⟩:=ry;exact rule i j t t' s _ _ ⟨.int (g i j),H,I.tok _,⟨_,rfl⟩,q⟩
theorem opB0 {f:Value->Value->Sem Value}{g:Int->Int->Bool}
  (rule:∀ (i j:Int) (t u:Tok) (s:Shared) (Q:Value->Shared->Prop) (E:Value->Shared->Prop),Q (.bool (g i j)) s->wpAny (model X.prog X.w) X.A (f (.int i t) (.int j u)) Q E s):
  OpR X f (rI0 fun i j=>.bl (g i j)):=by
 intro pins s σ H x y v u Q I rx ry h;obtain ⟨i,j,rfl,rfl,q⟩:=h;obtain ⟨t,rfl⟩:=rx;obtain ⟨t',rfl⟩:=ry;exact rule i j t t' s _ _ ⟨.bl (g i j),H,I,rfl,q⟩
noncomputable def CDiv (i j:Int):Prop:=0<j/\j<1073741824
noncomputable def CPow (i j:Int):Prop:=0<=j/\j<=1000000/\i.natAbs<2^64
theorem qpj:OpR X (binaryOp .Add) (rI0 fun i j=>.int (i+j)):=opI0 fun _ _ _ _ _ _ _ q=>add_int q
theorem qpe:OpR X (binaryOp .Sub) (rI0 fun i j=>.int (i-j)):=opI0 fun _ _ _ _ _ _ _ q=>sub_int q
theorem qm0:OpR X (binaryOp .FloorDiv) (rI CDiv fun i j=>.int (i/j)):=opI fun i j _ _ _ _ _ hc q=>by
 have h1:(0:Int)<j:=hc.1;have h2:j<1073741824:=hc.2;exact floordiv_int (by lia) (by rw [Int.fdiv_eq_ediv_of_nonneg i (by lia)];exact q) (.inl (PyProof.noPylong_small (by lia)))
theorem qph:OpR X (binaryOp .Mod) (rI (fun _ j=>0<j) fun i j=>.int (i%j)):=opI fun i j _ _ _ _ _ hc q=>by
 have h1:(0:Int)<j:=hc;exact mod_int' (by lia) (by rw [Int.fmod_eq_emod_of_nonneg i (by lia)];exact q)
theorem qpg:OpR X (binaryOp .Pow) (rI CPow fun i j=>.int (i^j.toNat)):=opI fun _ _ _ _ _ _ _ hc q=>pow_int_small hc.1 hc.2.1 hc.2.2 q
theorem unI {f:Value->Sem Value}{g:Int->Int}
  (rule:∀ (i:Int) (t:Tok) (s:Shared) (Q:Value->Shared->Prop) (E:Value->Shared->Prop),Q (.int (g i) s.toks) {s with toks:=s.toks+1}->wpAny (model X.prog X.w) X.A (f (.int i t)) Q E s):
  UnR X f (rU fun i=>.int (g i)):=by
 intro pins s σ H x v Q I rx h;obtain ⟨i,rfl,q⟩:=h;obtain ⟨t,rfl⟩:=rx;exact rule i t s _ _ ⟨.int (g i),H,I.tok _,⟨_,rfl⟩,q⟩
theorem qoj:UnR X (unaryOp .USub) (rU fun i=>.int (-i)):=unI fun _ _ _ _ _ q=>neg_int q
theorem qqf {pins:List (Addr×Obj)}{σ:St}{H:Hp}{s:Shared}{Q:VK}{k k':Bool}(I:Inv X pins σ H s)(q:Q (.bl k) H)(e:k=k'):EP X pins σ Q (.bool k') s:=by
 subst e;exact ⟨.bl k,H,I,rfl,q⟩
theorem qrr:OpR X (compareOp .Gt) (rI0 fun i j=>.bl (decide (j<i))):=opB0 fun _ _ _ _ _ _ _ q=>gt_int q
theorem qrs:OpR X (compareOp .GtE) (rI0 fun i j=>.bl (decide (j<=i))):=opB0 fun _ _ _ _ _ _ _ q=>ge_int q
theorem qmZ:OpR X (compareOp .IsNot) (fun x y H Q=>y = .non/\Q (.bl (!decide (x = .non))) H):=by
 intro pins s σ H x y v u Q I rx ry h;obtain ⟨rfl,q⟩:=h;cases ry;refine isnot_none_gen (qqf I q ?_);cases x<;>first
  | (cases rx;rfl)
  | (obtain ⟨t,rfl⟩:=rx;rfl)
theorem qlP (b:Expr){op:CmpOp}(h:op ≠ .In:=by decide)(h2:op ≠ .NotIn:=by decide):behindInMarks op b=false:=by
 have e1:(op == CmpOp.In)=false:=by cases op<;>first | rfl | exact absurd rfl h
 have e2:(op == CmpOp.NotIn)=false:=by cases op<;>first | rfl | exact absurd rfl h2
 cases b<;>simp [behindInMarks,e1,e2]
theorem qmW {op:CmpOp}{r:R2}(ho:OpR X (compareOp op) r)(ha:PE X a ta)(hb:PE X b tb)(hm:behindInMarks op b=false):PE X (.Compare a [op] [b] pos) (tOp r ta tb):=by
 intro pins s σ H Q I h;exact wpAny_Compare1 (binT ha hb I h fun v u s2 x y H2 I2 rx ry q=>ho pins s2 σ H2 x y v u Q I2 rx ry q) hm
noncomputable def qqY (t:TE):TT:=fun σ H Q=>t σ H fun x H'=>∃ k,x = .bl k/\Q k H'
theorem qmJ {op:CmpOp}{r:R2}(ho:OpR X (compareOp op) r)(ha:PE X a ta)(hb:PE X b tb)(hm:behindInMarks op b=false):PT X (.Compare a [op] [b] pos) (qqY (tOp r ta tb)):=by
 intro pins s σ H Q I h;refine wpAny_isTrue_Compare1 (thn (ha pins s σ H _ I h) fun v s1 ⟨x,H1,I1,r1,q1⟩=>thn (hb pins s1 σ H1 _ I1 q1) fun u s2 ⟨y,H2,I2,r2,q2⟩=>
  thn (ho pins s2 σ H2 x y v u _ I2 r1 r2 q2) fun c s3 ⟨z,H3,I3,r3,k,e,q3⟩=>?_) hm
 subst e;cases r3;exact wpAny_truthy_bool ⟨H3,I3,q3⟩
noncomputable def TruV (K:Fg1)(x:V)(H:Hp)(k:Bool):Prop:=
 match x with
 | .non=>k=false
 | .bl b=>k=b
 | .int i=>k=(i != 0)
 | .str y=>y.length<=sizeLine/\k=((y.length:Int) != 0)
 | .byt y=>y.size<=sizeLine/\k=((y.size:Int) != 0)
 | .ref p=>(∃ xs,SqL K H p xs/\k = !xs.isEmpty)\/(∃ xs,SqT K H p xs/\k = !xs.isEmpty) \/ ∃ kvs,H p=some (.dK kvs)/\k = !kvs.isEmpty
 | _=>False
theorem qhY {κ:Type}{kvs:List (κ×V)}{vs:List (κ×Value)}(r:KV kvs vs):(!vs.isEmpty) = !kvs.isEmpty:=by
 cases r<;>rfl
theorem qex {xs:List V}{its:List Value}(r:Vals xs its):(!its.toArray.isEmpty) = !xs.isEmpty:=by
 cases r<;>simp
theorem qew:(sizeLine:Nat)<2^63:=by rw [sizeLine_eq];decide
theorem qoo:TruR X (fun x H Q=>∃ k,TruV X.K x H k/\Q k H):=by
 intro pins s σ H x v Q I rx h;obtain ⟨k,e,q⟩:=h;have hl:=qew;have hs:sizeLine=16777216:=sizeLine_eq;cases x with
 | non=>
  cases rx;have e':k=false:=e;subst e';exact truthy_none ⟨H,I,q⟩
 | bl b=>
  cases rx;have e':k=b:=e;subst e';exact wpAny_truthy_bool ⟨H,I,q⟩
 | int i=>
  obtain ⟨t,rfl⟩:=rx;have e':k=(i != 0):=e;subst e';exact PySem.P.truthy_int ⟨H,I,q⟩
 | str y=>
  obtain ⟨t,rfl⟩:=rx;obtain ⟨hy,e'⟩:y.length<=sizeLine/\k=((y.length:Int) != 0):=e;subst e';exact PySem.P.truthy_str (by lia) ⟨H,I.tok _,q⟩
 | byt y=>
  obtain ⟨t,rfl⟩:=rx;obtain ⟨hy,e'⟩:y.size<=sizeLine/\k=((y.size:Int) != 0):=e;subst e';exact PySem.W.truthy_bytes (by lia) ⟨H,I.tok _,q⟩
 | ref p=>
  cases rx;have e':(∃ xs,SqL X.K H p xs/\k = !xs.isEmpty)\/(∃ xs,SqT X.K H p xs/\k = !xs.isEmpty) \/ ∃ kvs,H p=some (.dK kvs)/\k = !kvs.isEmpty:=e;rcases e' with ⟨xs,hx,e'⟩ | ⟨xs,hx,e'⟩ | ⟨kvs,hx,e'⟩
  ·subst e';obtain ⟨its,r,pl,hz⟩:=I.list hx;have hlen:=r.length;exact wpAny_truthy_list pl.isList (by simp only [sT1];lia) ⟨H,I.tok _,by rw [qex r];exact q⟩
  ·subst e';obtain ⟨its,r,pl,hz⟩:=I.tuple hx;have hlen:=r.length;exact truthy_tuple pl (by simp only [sT1];lia) ⟨H,I.tok _,by rw [qex r];exact q⟩
  ·subst e';obtain ⟨hz,hS,vs,r,m⟩:kvs.length<=sizeLine/\(p == sysModules)=false /\ ∃ vs,KV kvs vs/\s.heap.DictOf (qaZ X.prog X.w) p vs:=I.hok p _ hx;have hlen:kvs.length=vs.length:=Paired.length r;exact wpAny_truthy_dict hS m (by lia) ⟨H,I.tok _,by rw [qhY r];exact q⟩
 | _=>exact (show False from e).elim
theorem qkC (ha:PE X a ta)(he:∀ whole,isTrue a X.env whole=(do let v<-whole;standAt a.pos;holding [v] (truthy v))):
  PT X a (fun σ H Q=>ta σ H fun x H'=>∃ k,TruV X.K x H' k/\Q k H'):=by
 intro pins s σ H Q I h;exact isTrue_plain (thn (ha pins s σ H _ I h) fun v s1 ⟨x,H1,I1,r1,q1⟩=>qoo pins s1 σ H1 x v Q I1 r1 q1) (he _)
theorem qhQ:OpR X (binaryOp .Add) (fun x y H Q=>∃ i j,x = .str i/\y = .str j/\i.length+j.length<=sizeLine/\Q (.str (i++j)) H):=by
 intro pins s σ H x y v u Q I rx ry h;obtain ⟨i,j,rfl,rfl,hz,q⟩:=h;obtain ⟨t,rfl⟩:=rx;obtain ⟨t',rfl⟩:=ry;exact add_str (fun t' tk=>⟨.str (i++j),H,I.tok _,⟨_,rfl⟩,q⟩) hz
theorem qcB {x:V}{us:List Value}(r:Vals [x] us):∃ u,us=[u]/\RelV x u:=by
 cases r with
 | cons r1 r2=>cases r2;exact ⟨_,rfl,r1⟩
theorem qog {x y:V}{us:List Value}(r:Vals [x,y] us):∃ u w',us=[u,w']/\RelV x u/\RelV y w':=by
 cases r with
 | cons r1 r2=>
  cases r2 with
  | cons r3 r4=>cases r4;exact ⟨_,_,rfl,r1,r3⟩
theorem qlq:qaN X (.builtin "abs") (fun xs H Q=>∃ i,xs=[.int i]/\Q (.int (if i<0 then-i else i)) H):=by
 intro pins s σ H xs us Q I r h;obtain ⟨i,rfl,q⟩:=h;obtain ⟨u,rfl,t,rfl⟩:=qcB r;exact call_abs_int fun u tk=>⟨.int (if i<0 then-i else i),H,I.tok _,⟨_,rfl⟩,q⟩
theorem qj3 (hc:X.calm=true):qaN X (.builtin "min") (fun xs H Q=>∃ i j,xs=[.int i,.int j]/\Q (.int (if j<i then j else i)) H):=by
 intro pins s σ H xs us Q I r h;obtain ⟨i,j,rfl,q⟩:=h;obtain ⟨u,w',rfl,⟨t,rfl⟩,⟨t',rfl⟩⟩:=qog r;refine min_two_ints (I.ok.hd hc) fun h' tk k=>⟨_,H,I.kept k,?_,q⟩;by_cases hj:j<i
 ·rw [if_pos hj,if_pos hj];exact ⟨_,rfl⟩
 ·rw [if_neg hj,if_neg hj];exact ⟨_,rfl⟩
theorem qf2:qaN X (.type "int") (fun xs H Q=>(∃ i,xs=[.int i]/\Q (.int i) H) \/ ∃ k,xs=[.bl k]/\Q (.int (if k then 1 else 0)) H):=by
 intro pins s σ H xs us Q I r h;rcases h with ⟨i,rfl,q⟩ | ⟨k,rfl,q⟩
 ·obtain ⟨u,rfl,t,rfl⟩:=qcB r;exact call_int_int ⟨.int i,H,I,⟨_,rfl⟩,q⟩
 ·obtain ⟨u,rfl,r1⟩:=qcB r;cases r1;exact call_int_bool ⟨.int (if k then 1 else 0),H,I.tok _,⟨_,rfl⟩,q⟩
theorem qfY:qaN X (.type "str") (fun xs H Q=>∃ i,xs=[.int i]/\i.natAbs.log2<1920/\Q (.str (toString i)) H):=by
 intro pins s σ H xs us Q I r h;obtain ⟨i,rfl,hz,q⟩:=h;obtain ⟨u,rfl,t,rfl⟩:=qcB r;exact PySem.P.str_of_int hz ⟨.str _,H,I.tok _,⟨_,rfl⟩,q⟩
end
end L2
namespace L2
open PySem PySem.Spec PyProof.Rows
structure ObjM (h:Heap)(x dx C:Addr)(mA:Str->Option Value):Prop where
 obj:h.get? x=some (PySem.W.instObj C dx)
 ns:h.Ns1 dx mA
 ne:dx≠x
theorem qjc {h:Heap}{dx:Addr}{mA:Str->Option Value}(n:h.Ns1 dx mA):∃ od,h.get? dx=some od /\ ∀ name,PySem.W.lookIn name od=some (mA name):=by
 obtain ⟨o,es,ep,ho,hd,hk,_,hm⟩:=n;refine ⟨o,ho,fun name=>?_⟩;have e:=hm name;unfold nsFind findBy at e;rw [<- Array.find?_toList] at e;unfold PySem.W.lookIn;rw [hd];dsimp only;split
 ·rename_i y q;rw [q] at e;exact congrArg some e
 ·rename_i q;rw [q] at e;have a:es.toList.any (·.refKey)=false:=by
   rw [List.any_eq_false];intro y hy;obtain ⟨z,t,hkey⟩:=hk y (Array.mem_toList_iff.mp hy);simp [DictEntry.refKey,hkey]
  have a':¬ es.toList.any (·.refKey)=true:=by rw [a];exact Bool.false_ne_true
  rw [if_neg a'];exact congrArg some e
theorem ObjM.look {h:Heap}{x dx C:Addr}{mA:Str->Option Value}(I:ObjM h x dx C mA):∃ od,PySem.W.InstAt h x (PySem.W.instObj C dx) C (some od) /\ ∀ name,PySem.W.lookIn name od=some (mA name):=
 let ⟨od,ho,hl⟩:=qjc I.ns
 ⟨od,⟨I.obj,rfl,rfl,ho⟩,hl⟩
section
variable {prog:Program} {w:World} {A:Around} {E:Value->Shared->Prop} {s:Shared} {K:Fg1} {x dx C f:Addr} {mA:Str->Option Value} {name:Str} {v:Value}
end
theorem RelO.some_of {v:V}{o:Option Value}(r:RelO (some v) o):∃ u,o=some u/\RelV v u:=by
 cases o with
 | none=>exact (show False from r).elim
 | some u=>exact ⟨u,rfl,r⟩
section
variable {P:Program} {w:World} {H H':Hp} {h h':Heap} {a C dx:Addr} {fs fs':List (Str×V)}
theorem qnF (hok:HOk P w H h)(e:H a=some (.ins C dx fs)):∃ mA,ObjM h a dx C mA/\(∀ f,RelO (fs.lookup f) (mA f))/\PySem.Within mA (fs.map (·.1))/\fs.length<=1000/\H dx=some (.own a):=by
 obtain ⟨d,z,ne,ob,mA,n,r,q⟩:=(show qaV P w H h a (.ins C dx fs) from hok a _ e);exact ⟨mA,⟨ob,n,ne⟩,r,q,z,d⟩
end
structure Cls (K:Fg1)(C:Addr):Prop where
 pg:PySem.W.plainGet K C Str.empty=true
 hd:PySem.W.hasDictIn K C=true
 po:PySem.W.plainOver K C=true
 sa:PySem.W.findIn K (.ref C) "__setattr__"=some (some (.builtin "object.__setattr__"))
theorem Cls.get {K:Fg1}{C:Addr}(c:Cls K C)(f:Str):PySem.W.plainGet K C f=true:=c.pg
section
variable {X:Cx} {pins:List (Addr×Obj)} {σ:St} {H:Hp} {s:Shared} {a C dx:Addr} {fs:List (Str×V)} {f:Str} {v:V} {A:Around} {E:Value->Shared->Prop}
end
section
variable {X:Cx} {o e value:Expr} {f:Str} {pos pos' tpos:Pos} {ta tv:TE}
end
section
variable {X:Cx} {pins:List (Addr×Obj)} {σ:St} {H:Hp} {s:Shared} {A:Around} {E:Value->Shared->Prop} {Q:Value->Shared->Prop} {c:Value} {b:Bool}
inductive TyOf (K:Fg1)(H:Hp):V->Value->Prop where
 | non:TyOf K H .non (.type "NoneType")
 | bl (x:Bool):TyOf K H (.bl x) (.type "bool")
 | int (i:Int):TyOf K H (.int i) (.type "int")
 | str (x:Str):TyOf K H (.str x) (.type "str")
 | flt (x:UInt64):TyOf K H (.flt x) (.type "float")
 | lst {a:Addr} {xs:List V} (e:H a=some (.lst xs)):TyOf K H (.ref a) (.type "list")
 | frz {a:Addr} {o:Obj} {xs:List V} (e:H a=some (.frz o (.lst xs))):TyOf K H (.ref a) (.type "list")
 | tup {a:Addr} {xs:List V} (e:H a=some (.tup xs)):TyOf K H (.ref a) (.type "tuple")
 | dK {a:Addr} {kvs:List (Key×V)} (e:H a=some (.dK kvs)):TyOf K H (.ref a) (.type "dict")
 | dT {a:Addr} {kvs:List (List Key×V)} (e:H a=some (.dT kvs)):TyOf K H (.ref a) (.type "dict")
 | ins {a C dx:Addr} {fs:List (Str×V)} (e:H a=some (.ins C dx fs)) (cl:Cls K C) (ha:PySem.W.findIn K (.ref C) "__class__"=some (some (.builtin "object.__class__")))
   (hn:PySem.W.specialIn K (.builtin "object.__class__") "__get__"=some (some (.builtin "getset_descriptor.__get__"))) (htk:PySem.W.takesIn K (.builtin "object.__class__")=some true)
   (hm:PySem.W.mroIn K C (.type "object")=some true):TyOf K H (.ref a) (.ref C)
theorem qcm {x:V}{u t:Value}(I:Inv X pins σ H s)(rx:RelV x u)(ty:TyOf X.K H x t)(e:PySem.W.kitOne X.K t c=some b)(h:∀ tk,Q (.bool b) {s with toks:=tk}):
  wpAny (model X.prog X.w) A (call (.builtin "isinstance") [u,c]) Q E s:=by
 cases ty with
 | non=>cases (show u=Value.none from rx);exact PySem.W.kia_one PySem.W.kitx_none I.kIn True.intro e (fun z=>nomatch z) h
 | bl y=>cases (show u=Value.bool y from rx);exact PySem.W.kia_one PySem.W.kitx_bool I.kIn True.intro e (fun z=>nomatch z) h
 | int i=>obtain ⟨t,q⟩:=(show ∃ t,u=Value.int i t from rx);cases q;exact PySem.W.kia_one PySem.W.kitx_int I.kIn True.intro e (fun z=>nomatch z) h
 | str y=>obtain ⟨t,q⟩:=(show ∃ t,u=Value.str y t from rx);cases q;exact PySem.W.kia_one PySem.W.kitx_str I.kIn True.intro e (fun z=>nomatch z) h
 | flt y=>obtain ⟨t,q⟩:=(show ∃ t,u=Value.float y t from rx);cases q;exact PySem.W.kia_one PySem.W.kitx_float I.kIn True.intro e (fun z=>nomatch z) h
 | @lst a xs ea=>
  cases (show u=Value.ref a from rx);obtain ⟨_,_,n,_,h1⟩:=(show qaV X.prog X.w H s.heap a (.lst xs) from I.hok a _ ea);exact PySem.W.kia_one PySem.W.kitx_list I.kIn ⟨_,h1,rfl⟩ e (fun z=>nomatch z) h
 | @frz a ob xs ea=>
  cases (show u=Value.ref a from rx);obtain ⟨_,_,_,n,_,h1⟩:=(show qaV X.prog X.w H s.heap a (.frz ob (.lst xs)) from I.hok a _ ea);exact PySem.W.kia_one PySem.W.kitx_list I.kIn ⟨_,h1,rfl⟩ e (fun z=>nomatch z) h
 | @tup a xs ea=>
  cases (show u=Value.ref a from rx);obtain ⟨_,_,_,p⟩:=(show qaV X.prog X.w H s.heap a (.tup xs) from I.hok a _ ea);obtain ⟨o,h1,h2,_⟩:=p;exact PySem.W.kia_one PySem.W.kitx_tuple I.kIn ⟨o,h1,h2⟩ e (fun z=>nomatch z) h
 | @dK a kvs ea=>
  cases (show u=Value.ref a from rx);obtain ⟨_,_,vs,_,p⟩:=(show qaV X.prog X.w H s.heap a (.dK kvs) from I.hok a _ ea);obtain ⟨o,es,ep,h1,h2,_⟩:=p;exact PySem.W.kia_one PySem.W.kitx_dict I.kIn ⟨o,h1,h2.1⟩ e (fun z=>nomatch z) h
 | @dT a kvs ea=>
  cases (show u=Value.ref a from rx);obtain ⟨_,_,xs,_,o,es,ep,h1,h2,_⟩:=(show qaV X.prog X.w H s.heap a (.dT kvs) from I.hok a _ ea);exact PySem.W.kia_one PySem.W.kitx_dict I.kIn ⟨o,h1,h2.1⟩ e (fun z=>nomatch z) h
 | @ins a C dx fs ea cl ha hn htk hm=>
  cases (show u=Value.ref a from rx);obtain ⟨mA,O,_⟩:=qnF I.hok ea;obtain ⟨od,J,_⟩:=O.look;exact PySem.W.kia_one (PySem.W.kitx_own (cl.get _) cl.hd ha hn htk hm) I.kIn J e (fun z=>nomatch z) h
end
end L2
namespace L2
open PySem PySem.Spec PyProof.Rows
structure Room (k:Nat)(A:Around):Prop where
 hd:A.handled=none
 dp:A.depth+3*k+5<recursionLimit
 un:A.units+16*k+200<cLine
 gd:A.guards=some []
theorem Room.mono {j k:Nat}{A:Around}(r:Room k A)(h:j<=k):Room j A:=⟨r.hd,by have:=r.dp;lia,by have:=r.un;lia,r.gd⟩
theorem Room.deeper {k:Nat}{A:Around}(r:Room (k+1) A)(env:Env):Room k (A.deeper env):=
 ⟨r.hd,by have:=r.dp;show A.depth+1+3*k+5<_;lia,by have:=r.un;show A.units+3+16*k+200<_;lia,r.gd⟩
theorem Room.depth {k:Nat}{A:Around}(r:Room k A):A.depth<recursionLimit:=by have:=r.dp;lia
theorem Room.units {k:Nat}{A:Around}(r:Room k A):A.units+64<cLine:=by have:=r.un;lia
noncomputable def tNil:TA:=fun _ H Q=>Q [] H
noncomputable def qq5 (ta:TE)(tr:TA):TA:=fun σ H Q=>ta σ H fun x H1=>tr σ H1 fun xs H2=>Q (x::xs) H2
section
variable {X:Cx} {e:Expr} {es:List Expr} {te:TE} {t:TA} {pos:Pos}
theorem qdT:PA X [] tNil:=fun _ _ _ _ H Q I h=>Calls.spliced_nil ⟨[],H,I,.nil,h⟩
theorem qcf (ha:PE X e te)(hr:PA X es t)(hs:starEach (e::es) X.env=(false,eval e X.env)::starEach es X.env:=by rfl):PA X (e::es) (qq5 te t):=by
 intro pos pins s σ H Q I h;rw [hs];show wpAny _ _ (spliced ((false,eval e X.env)::backTo pos (starEach es X.env))) _ _ s;refine Calls.spliced_cons (thn (ha pins s σ H _ I h) fun u s1 ⟨x,H1,I1,r1,q1⟩=>?_);exact thn (hr pos pins s1 σ H1 _ I1 q1) fun us s2 ⟨xs,H2,I2,r2,q2⟩=>⟨x::xs,H2,I2,.cons r1 r2,q2⟩
noncomputable def tTup (t:TA):TE:=fun σ H Q=>t σ H fun xs H1=>xs.length<=sizeLine /\ ∀ p,H1 p=none->Q (.ref p) (upd H1 p (.tup xs))
noncomputable def tLst (t:TA):TE:=fun σ H Q=>t σ H fun xs H1=>xs.length<=sizeLine /\ ∀ p,H1 p=none->Q (.ref p) (upd H1 p (.lst xs))
theorem qo3 {x1}(h:PA X es t):PE X (.Tuple es x1 pos) (tTup t):=by
 intro pins s σ H Q I hq;refine wpAny_Tuple_spliced (thn (h pos pins s σ H _ I hq) fun us s1 ⟨xs,H1,I1,r,z,q⟩=>⟨by rw [<- r.length];exact z,?_⟩);have hf:H1 s1.heap.objs.size=none:=I1.hok.fresh (nR1 _);refine ⟨.ref s1.heap.objs.size,upd H1 s1.heap.objs.size (.tup xs),I1.laid (t':=s1.toks) (fun b u e=>hP1 _ e) (nR1 _) ?_,rfl,q _ hf⟩;exact ⟨z,us,r,⟨_,hS1 _ rfl,rfl,_,rfl⟩⟩
theorem qo8 (h:PA X es t):PE X (.List es pos) (tLst t):=by
 intro pins s σ H Q I hq;refine wpAny_List_spliced (thn (h pos pins s σ H _ I hq) fun us s1 ⟨xs,H1,I1,r,z,q⟩=>⟨by rw [<- r.length];exact z,?_⟩);have hf:H1 s1.heap.objs.size=none:=I1.hok.fresh (nR1 _);refine ⟨.ref s1.heap.objs.size,upd H1 s1.heap.objs.size (.lst xs),I1.laid (t':=s1.toks) (fun b u e=>hP1 _ e) (nR1 _) ?_,rfl,q _ hf⟩;exact ⟨z,us,0,r,hS1 _ rfl⟩
end
noncomputable abbrev Sp:=List V->Hp->VK->XK->Prop
noncomputable abbrev CXT:=List Env->Hp->Shared->XK->Value->Shared->Prop
structure Env0 (P:Program)(w:World)(K:Fg1)(mg:Str->Option Value)(base:Heap)(A:Around)(outer:List Env)(s:Shared)(H:Hp):Prop where
 frames:A.frames=some outer
 mod:Mod K mg base
 bs:∀ b o,base.get? b=some o->s.heap.get? b=some o/\H b=none
 bsz:base.objs.size<=s.heap.objs.size
 funs:s.heap.FunFrames base outer
 frf:∀ b∈frs outer,H b=none
 hok:HOk P w H s.heap
 bare:AllBare s.gens
noncomputable def CE (outer:List Env)(P:Program)(w:World)(H:Hp)(s:Shared)(Q:VK)(u:Value)(s':Shared):Prop:=
 ∃ v H',s'.os=s.os/\AllBare s'.gens/\Un (frs outer) [] H H' s.heap s'.heap/\HOk P w H' s'.heap/\RelV v u/\Q v H'
noncomputable def CR (CX:CXT)(outer:List Env)(P:Program)(w:World)(H:Hp)(s:Shared)(Q:VK)(E:XK)(r:Result)(s':Shared):Prop:=
 match r with
 | .ok (.ret u)=>CE outer P w H s Q u s'
 | .ok _=>False
 | .error e=>CX outer H s E e s'
structure FnOk (P:Program)(w:World)(K:Fg1)(mg:Str->Option Value)(base:Heap)(CX:CXT)(k:Nat)(f:Addr)(fd:FuncData)(ps:List Str)(sp:Sp):Prop where
 len:∀ vs H Q E,sp vs H Q E->vs.length=ps.length
 run:∀ (A:Around) (outer:List Env) (s:Shared) (H:Hp) (args:Args) (us:List Value) (vs:List V) (Q:VK) (E:XK),Room k A->Env0 P w K mg base A outer s H->BindsTo s fd args (ps.zip us)->Vals vs us->sp vs H Q E ->
  codeAny (model P w) A (.call (.ref f) args) (CR CX outer P w H s Q E) s
theorem FnOk.imp {P:Program}{w:World}{K:Fg1}{mg:Str->Option Value}{base:Heap}{CX:CXT}{k:Nat}{f:Addr}{fd:FuncData}{ps:List Str}{sp sp':Sp}(F:FnOk P w K mg base CX k f fd ps sp)
  (h:∀ vs H Q E,sp' vs H Q E->sp vs H Q E):FnOk P w K mg base CX k f fd ps sp':=
 ⟨fun vs H Q E q=>F.len vs H Q E (h _ _ _ _ q),fun A outer s H args us vs Q E hr he hb hv hs=>F.run A outer s H args us vs Q E hr he hb hv (h _ _ _ _ hs)⟩
section
variable {X:Cx} {pins:List (Addr×Obj)} {σ:St} {H:Hp} {s s':Shared}
theorem Inv.env0 (I:Inv X pins σ H s):Env0 X.prog X.w X.K X.mg X.base X.A X.stack s H:=
 ⟨I.ok.frames,I.ok.mod,I.bs,Nat.le_trans I.ok.bsz I.sz,I.stack,I.stkFree,I.hok,I.bare⟩
theorem Inv.after {Q:VK}{u:Value}(I:Inv X pins σ H s)(h:CE X.stack X.prog X.w H s Q u s'):EP X pins σ Q u s':=by
 obtain ⟨v,H',os,bare,un,hok,r,q⟩:=h;obtain ⟨hh,g,d,t,os'⟩:=s';obtain rfl:os'=s.os:=os;exact ⟨v,H',I.call (h':=hh) (g':=g) (d':=d) (t':=t) (ch:=[]) un hok bare (fun b z=>absurd z (by simp)),r,q⟩
end
noncomputable def qq6 (sp:Sp)(dvs:List V)(E:XK)(t:TA):TE:=fun σ H Q=>t σ H fun vs H1=>sp (vs++dvs) H1 Q E
noncomputable def qfs (K:Fg1)(fd:FuncData)(ps:List Str)(ds:List Value):Prop:=
 ∀ (s:Shared) (us:List Value),K.In s.heap->(us++ds).length=ps.length->BindsTo s fd ⟨us,[]⟩ (ps.zip (us++ds))
theorem qfs.all {K:Fg1}{fd:FuncData}{ps:List Str}(h:∀ us:List Value,us.length=ps.length->bindArgs fd ⟨us,[]⟩=pure (ps.zip us)):qfs K fd ps []:=fun s us _ hl=>by
 rw [List.append_nil] at hl ⊢;exact .of_eq (h us hl)
noncomputable def qkd (CX:CXT)(X:Cx)(E:XK):Prop:=∀ (pins:List (Addr×Obj)) (σ:St) (H:Hp) (s:Shared) (e:Value) (s':Shared),Inv X pins σ H s->CX X.stack H s E e s'->X.xe e s'
section
variable {X:Cx} {CX:CXT} {k:Nat} {f C:Addr} {fd:FuncData} {ps:List Str} {sp:Sp} {dvs:List V} {ds:List Value} {E:XK} {x m:Str} {p pos apos:Pos} {e o:Expr} {es:List Expr} {ta:TE} {t:TA}
theorem qoE {pins:List (Addr×Obj)}{σ:St}{H:Hp}{s:Shared}{Q:VK}{us:List Value}{vs:List V}(F:FnOk X.prog X.w X.K X.mg X.base CX k f fd ps sp)(hr:Room k X.A)(hb:qfs X.K fd ps ds)(hd:Vals dvs ds)(hx:qkd CX X E)
  (I:Inv X pins σ H s) (r:Vals vs us) (h:sp (vs++dvs) H Q E):wpAny (model X.prog X.w) X.A (call (.ref f) us) (EP X pins σ Q) X.xe s:=by
 have r2:Vals (vs++dvs) (us++ds):=r.append hd;have hl:(us++ds).length=ps.length:=by rw [<- r2.length];exact F.len _ _ _ _ h
 refine wpAny_call (codeAny_mono (F.run X.A X.stack s H ⟨us,[]⟩ (us++ds) (vs++dvs) Q E hr I.env0 (hb s us I.kIn hl) r2 h) fun r s' hq=>?_);cases r with
 | error e=>exact hx pins σ H s e s' I hq
 | ok fl=>
  cases fl with
  | ret u=>exact I.after hq
  | next=>exact False.elim hq
  | brk=>exact False.elim hq
  | cont=>exact False.elim hq
theorem qmX (F:FnOk X.prog X.w X.K X.mg X.base CX k f fd ps sp)(hr:Room k X.A)(hg:Gl X x)(hm:X.mg x=some (.ref f))(hk:wK1 X.K (.ref f)=true)(hb:qfs X.K fd ps ds)(hd:Vals dvs ds)(hx:qkd CX X E)
  (ha:PA X (e::es) t) (hdb:(x == ("__debug__":Str))=false:=by decide) (he:starEach (e::es) X.env=(false,eval e X.env)::starEach es X.env:=by rfl) (hpl:(backTo pos (starEach es X.env)).any (·.1)=false:=by rfl):
  PE X (.Call (.Name x p) (e::es) [] pos) (qq6 sp dvs E t):=by
 intro pins s σ H Q I h;refine wpAny_Call_Name_kw (qnv I hg hm ?_ hdb);refine PySem.W.callWith_K (h₀:=X.base) I.ok.mod.kin hk (thn (ha pos pins s σ H _ I h) fun us s1 ⟨vs,H1,I1,r,q⟩=>⟨I1.kIn,?_⟩) he hpl;exact qoE F hr hb hd hx I1 r q
end
section
variable {X:Cx} {CX:CXT} {k:Nat} {f C:Addr} {fd:FuncData} {ps ks:List Str} {sp:Sp} {E:XK} {x m:Str} {p pos apos kpos:Pos} {e o:Expr} {es:List Expr} {kws:List Keyword} {te ta:TE} {t tk:TA} {nm:Option Str}
variable {g:List Value->List Value->List Value} {gV:List V->List V->List V}
end
structure qas (N P:List Str)(sc:Scope):Prop where
 kind:sc.kind = .function
 co:sc.isCoroutine=false
 gen:sc.isGenerator=false
 nd:N.Nodup
 pre:N.take P.length=P
 par:∀ x∈P,sc.names.lookup x=some .local\/sc.names.lookup x=some .cell
 nofree:∀ y∈sc.names,y.2 ≠ .free
theorem qf4 {kindOf:Str->Option NameKind}{x:Str}:∀ {binds:List (Str×Value)} {m:Str->Option Value},(∀ v,(x,v)∉binds)->bindL kindOf binds m x=m x
 | [],_,_=>rfl
 | (n,v)::r,m,h=>by
  unfold bindL;rw [qf4 fun w hw=>h w (mC1 _ hw)];split
  ·have:x≠n:=by rintro rfl;exact h v mS1
   simp [this]
  ·rfl
theorem qf6 {kindOf:Str->Option NameKind}{x:Str}:∀ {binds:List (Str×Value)} {m:Str->Option Value},(∀ v,(x,v)∉binds)->bindC kindOf binds m x=m x
 | [],_,_=>rfl
 | (n,v)::r,m,h=>by
  unfold bindC;rw [qf6 fun w hw=>h w (mC1 _ hw)];split
  ·rfl
  ·have:x≠n:=by rintro rfl;exact h v mS1
   simp [this]
theorem qf5 {kindOf:Str->Option NameKind}{x:Str}{v:Value}:∀ {P:List Str} {vs:List Value} {i:Nat} {m:Str->Option Value},P.Nodup->P[i]? = some x->vs[i]? = some v->kindOf x=some .local ->
  bindL kindOf (P.zip vs) m x=some v
 | [],_,_,_,_,h,_,_=>by simp at h
 | _::_,[],_,_,_,_,h,_=>by simp at h
 | p::P,w::vs,0,m,nd,h1,h2,hk=>by
  simp at h1 h2;subst h1;subst h2;show bindL kindOf ((p,w)::P.zip vs) m p=_;unfold bindL;rw [qf4 fun v hv=>(List.nodup_cons.mp nd).1 (List.of_mem_zip hv).1,if_pos hk];simp
 | p::P,w::vs,i+1,m,nd,h1,h2,hk=>by
  show bindL kindOf ((p,w)::P.zip vs) m x=_;unfold bindL;exact qf5 (i:=i) (List.nodup_cons.mp nd).2 (by simpa using h1) (by simpa using h2) hk
theorem qf7 {kindOf:Str->Option NameKind}{x:Str}{v:Value}:∀ {P:List Str} {vs:List Value} {i:Nat} {m:Str->Option Value},P.Nodup->P[i]? = some x->vs[i]? = some v->kindOf x≠some .local ->
  bindC kindOf (P.zip vs) m x=some v
 | [],_,_,_,_,h,_,_=>by simp at h
 | _::_,[],_,_,_,_,h,_=>by simp at h
 | p::P,w::vs,0,m,nd,h1,h2,hk=>by
  simp at h1 h2;subst h1;subst h2;show bindC kindOf ((p,w)::P.zip vs) m p=_;unfold bindC;rw [qf6 fun v hv=>(List.nodup_cons.mp nd).1 (List.of_mem_zip hv).1,if_neg hk];simp
 | p::P,w::vs,i+1,m,nd,h1,h2,hk=>by
  show bindC kindOf ((p,w)::P.zip vs) m x=_;unfold bindC;exact qf7 (i:=i) (List.nodup_cons.mp nd).2 (by simpa using h1) (by simpa using h2) hk
noncomputable def start (N:List Str)(vs:List V):St:=vs.map some++List.replicate (N.length-vs.length) none
noncomputable def cxOf (CX:CXT)(P:Program)(w:World)(K:Fg1)(mg:Str->Option Value)(base:Heap)(N:List Str)(qual:Str)(scope:Scope)(f:Addr)(cd:Value)(A:Around)(outer:List Env)(s:Shared)(H:Hp)(E:XK):Cx where
 prog:=P
 w:=w
 K:=K
 mg:=mg
 base:=base
 A:=A.deeper (envOfC qual scope s.heap.objs.size f cd)
 N:=N
 s₀:=s
 H₀:=H
 env:=envOfC qual scope s.heap.objs.size f cd
 outer:=outer
 stack:=envOfC qual scope s.heap.objs.size f cd::outer
 ex:=[]
 calm:=true
 fn:=fun _=>true
 pn:=[]
 xe:=fun e s'=>wpAny (model P w) (A.deeper (envOfC qual scope s.heap.objs.size f cd)) (leaving (envOfC qual scope s.heap.objs.size f cd) e) (fun _ s''=>CX outer H s E e s'') (fun e' s''=>CX outer H s E e' s'') s'
theorem qhz {sc:Scope}{n:Nat}{x:Str}(h:sc.names.lookup x=some .cell):∃ c,(cellsFrom n sc.names []).lookup x=some c:=by
 have q:=PySem.W.cellsFrom_some sc.names n [] (.inl h);exact Option.isSome_iff_exists.mp q
theorem qjo {CX:CXT}{P:Program}{w:World}{K:Fg1}{mg:Str->Option Value}{base:Heap}{N ps:List Str}{qual:Str}{scope:Scope}{f:Addr}{cd:Value}{A:Around}{outer:List Env}{s s1:Shared}{H:Hp}{E:XK}{us:List Value}{vs:List V}
  (S:qas N ps scope) (hd:A.handled=none) (e0:Env0 P w K mg base A outer s H) (hl:vs.length=ps.length) (r:Vals vs us)
  (x:InCallC s s.heap.objs.size (bindL (envOfC qual scope s.heap.objs.size f cd).kindOf (ps.zip us) fun _=>none) (cellsFrom (s.heap.objs.size+1) scope.names []) (bindC (envOfC qual scope s.heap.objs.size f cd).kindOf (ps.zip us) fun _=>none) s1):
  Inv (cxOf CX P w K mg base N qual scope f cd A outer s H E) [] (start N vs) H s1:=by
 have hpl:ps.length<=N.length:=by have:=congrArg List.length S.pre;rw [List.length_take] at this;lia
 obtain ⟨h1,tk,rfl,hk⟩:=x.done;have noA:∀ b:Addr,b∉(cxOf CX P w K mg base N qual scope f cd A outer s H E).ex:=fun b z=>absurd (show b∈([]:List Addr) from z) (by simp);refine ⟨⟨e0.mod,S.kind,rfl,rfl,nR1 _,fun y z c h1 h2=>?_,fun y hy=>?_,fun y c _ h=>?_,fun _=>hd,Around.frames_deeper e0.frames,.inr ⟨rfl,rfl⟩,fun b z=>absurd z (noA b),e0.bs,e0.bsz,fun b _ _=>noA b,fun b z=>absurd z (noA b),e0.funs,e0.frf⟩,
  rfl,e0.bare,Un.kept hk,⟨_,x.toInCall.ns,fun i y v h1 h2 h3=>?_⟩,fun y c h=>⟨_,x.cell y c h⟩,e0.hok.fresh (nR1 _),fun y c h=>?_,fun p hp=>absurd (show p∈([]:List (Addr×Obj)) from hp) (by simp),e0.hok.kept hk,?_⟩
 ·exact name_of_addr x.apart (PySem.mem_of_lookup h1) (PySem.mem_of_lookup h2)
 ·have hy:scope.names.lookup y=some .cell\/scope.names.lookup y=some .free:=hy;rcases hy with hy | hy
  ·exact qhz hy
  ·exact absurd rfl (S.nofree _ (PySem.mem_of_lookup hy))
 ·exact Nat.le_of_lt (x.above y c (PySem.mem_of_lookup h))
 ·have hi:i<vs.length:=by
   unfold start at h2;by_cases hi:i<vs.length
   ·exact hi
   ·rw [gR1 (by simpa using hi)] at h2;rw [List.getElem?_replicate] at h2;split at h2<;>cases h2
  have ha:vs[i]? = some v:=by
   unfold start at h2;rw [gL1 (by simpa using hi),gP1] at h2;cases e:vs[i]? with
   | none=>rw [e] at h2;cases h2
   | some a=>rw [e] at h2;cases h2;rfl
  obtain ⟨u,hu,rv⟩:=r.get ha;have hp:ps[i]? = some y:=by
   rw [<- S.pre,List.getElem?_take_of_lt (by lia)];exact h1
  have ndP:ps.Nodup:=by rw [<- S.pre];exact S.nd.sublist (List.take_sublist _ _)
  refine ⟨u,rv,?_⟩;rcases S.par y (gM1 hp) with k | k
  ·exact .inl ⟨k,qf5 ndP hp hu k⟩
  ·obtain ⟨c,e⟩:=qhz (n:=s.heap.objs.size+1) k;refine .inr ⟨.inl k,c,e,?_⟩;have q:=x.cell y c e;rw [qf7 ndP hp hu (by show scope.names.lookup y≠_;rw [k];decide)] at q;exact q
 ·exact e0.hok.fresh (Nat.le_of_lt (x.above y c (PySem.mem_of_lookup h)))
 ·unfold start;show _=N.length;rw [lA1,lM1,lR1];lia
theorem qrV {CX:CXT}{P:Program}{w:World}{K:Fg1}{mg:Str->Option Value}{base:Heap}{k:Nat}{f:Addr}{name qual:Str}{params:Arguments}{body:List Stmt}{scope:Scope}{dV kV doc pm cdv ct oc:Value}{an od:Option Addr}
  {osl:Array (Option Value)} {N ps:List Str} {sp:Sp} (lk:K.lookup f=some ⟨oc,od,.func (wF1 name qual params body scope dV kV doc pm an cdv ct),osl⟩) (hcd:wC1 K cdv qual=true) (S:qas N ps scope)
  (len:∀ vs H Q E,sp vs H Q E->vs.length=ps.length)
  (hbody:∀ (A:Around) (outer:List Env) (s:Shared) (H:Hp) (vs:List V) (Q:VK) (E:XK),Room k (A.deeper (envOfC qual scope s.heap.objs.size f cdv))->sp vs H Q E ->
   ∃ t,PSs (cxOf CX P w K mg base N qual scope f cdv A outer s H E) body t/\t {nx:=fun _ H'=>Q .non H',rt:=Q} (start N vs) H):
  FnOk P w K mg base CX (k+1) f (wF1 name qual params body scope dV kV doc pm an cdv ct) ps sp:=by
 refine ⟨len,fun A outer s H args us vs Q E hr e0 hb r hsp=>?_⟩;have hl:=len _ _ _ _ hsp;have KX:K.In s.heap:=e0.mod.kin.keeps fun b o e=>(e0.bs b o e).1;have lim:s.heap.NoLimit:=e0.mod.nolimit.keeps fun b o e=>(e0.bs b o e).1;have hkind:∀ y∈ps.zip us,scope.names.lookup y.1=some .local\/(scope.names.lookup y.1=some .cell/\((cellsFrom (s.heap.objs.size+1) scope.names []).lookup y.1).isSome=true):=fun ⟨n,v⟩ hy=>by
  rcases S.par n (List.of_mem_zip hy).1 with q | q
  ·exact .inl q
  ·exact .inr ⟨q,PySem.W.cellsFrom_some _ _ _ (.inl q)⟩
 refine codeAny_call_function hr.depth (KX _ _ lk) rfl S.co S.gen rfl (PySem.W.codeRec_of KX hcd) (hb _ _ _ _ ?_);refine wpAny_newFunctionEnv_cells S.kind hkind fun env he s1 x=>?_;subst he;refine ⟨lim.keeps x.toInCall.keep,codeAny_func ?_⟩;obtain ⟨t,ht,hq⟩:=hbody A outer s H vs Q E (hr.deeper _) hsp;have I:Inv (cxOf CX P w K mg base N qual scope f cdv A outer s H E) [] (start N vs) H s1:=qjo S hr.hd e0 hl r x;refine wpAny_mono (ht [] s1 (start N vs) H _ I hq) (fun fl s' hs=>?_) fun e s' hs=>hs;have fin:∀ {σ':St} {H':Hp} {v:V} {u:Value},Inv (cxOf CX P w K mg base N qual scope f cdv A outer s H E) [] σ' H' s'->RelV v u->Q v H'->CE outer P w H s Q u s':=
  fun {σ' H' v u} J rv q=>⟨v,H',J.os,J.bare,J.base,J.hok,rv,q⟩
 cases fl with
 | ret u=>
  obtain ⟨v,σ',H',J,rv,q⟩:=hs;exact fin J rv q
 | next=>
  obtain ⟨σ',H',J,q⟩:=hs;exact fin (v:=V.non) (u:=Value.none) J rfl q
 | brk=>
  obtain ⟨_,_,_,q⟩:=hs;exact False.elim q
 | cont=>
  obtain ⟨_,_,_,q⟩:=hs;exact False.elim q
end L2
namespace L2
open PySem PySem.Spec PyProof.Rows
section
variable {X:Cx} {x:Str} {p pos:Pos} {e:Expr} {es:List Expr} {t:TA} {id T:String} {r:List V->Hp->VK->Prop}
noncomputable def tCB (r:List V->Hp->VK->Prop)(t:TA):TE:=fun σ H Q=>t σ H fun vs H1=>r vs H1 Q
theorem qdF (hc:qaN X (.builtin id) r)(hg:Gl X x)(hm:X.mg x=none)(hv:bootBuiltins x=some (.builtin id))(ha:PA X (e::es) t)(hn:x≠"__name__":=by decide)(hdb:(x == ("__debug__":Str))=false:=by decide)
  (he:starEach (e::es) X.env=(false,eval e X.env)::starEach es X.env:=by rfl) (hpl:(backTo pos (starEach es X.env)).any (·.1)=false:=by rfl):PE X (.Call (.Name x p) (e::es) [] pos) (tCB r t):=by
 intro pins s σ H Q I h;refine wpAny_Call_Name_kw (qdk I hg hm hv ?_ hn hdb);exact PyProof.Rows.callWith_builtin1 (thn (ha pos pins s σ H _ I h) fun us s1 ⟨vs,H1,I1,r1,q1⟩=>hc pins s1 σ H1 vs us Q I1 r1 q1) he hpl
theorem qcW (hc:qaN X (.type T) r)(hg:Gl X x)(hm:X.mg x=none)(hv:bootBuiltins x=some (.type T))(ha:PA X (e::es) t)(hn:x≠"__name__":=by decide)(hdb:(x == ("__debug__":Str))=false:=by decide)
  (he:starEach (e::es) X.env=(false,eval e X.env)::starEach es X.env:=by rfl) (hpl:(backTo pos (starEach es X.env)).any (·.1)=false:=by rfl):PE X (.Call (.Name x p) (e::es) [] pos) (tCB r t):=by
 intro pins s σ H Q I h;refine wpAny_Call_Name_kw (qdk I hg hm hv ?_ hn hdb);exact PyProof.Rows.callWith_type1 (thn (ha pos pins s σ H _ I h) fun us s1 ⟨vs,H1,I1,r1,q1⟩=>hc pins s1 σ H1 vs us Q I1 r1 q1) he hpl
end
end L2
namespace HT
open PySem PyProof.Rows
section
open PySem.SeqAt
open PySem.AutoSeq1 (wpAny_loadPart')
open PySem.MeetsSeq PySem.MeetsSeq2 PySem.MeetsSeq3
end
section
variable {prog:Program} {w:World} {A:Around} {E:Value->Shared->Prop} {s:Shared}
theorem qnX {t b:Addr}{vs ws:List Value}{Q:Value->Shared->Prop}(ht:IsTup s.heap t vs.toArray)(hb:IsTup s.heap b ws.toArray)(hv:vs≠[])
  (h1:ws=[]->Q (.ref t) s) (h2:ws≠[]->Q (.ref s.heap.objs.size) {s with heap:=s.heap.push {cls:=.type "tuple",data:=.seq (vs++ws).toArray}})
  (hsz:vs.length+ws.length<=sizeLine):wpAny (model prog w) A (binaryOp .Add (.ref t) (.ref b)) Q E s:=by
 obtain ⟨⟨cls,dd,data,sl⟩,ho,hc,n,hd⟩:=id ht;obtain ⟨⟨cls2,dd2,data2,sl2⟩,ho2,hc2,n2,hd2⟩:=id hb;simp only at hc hd hc2 hd2;subst hc hd hc2 hd2;have e:vs.toArray++ws.toArray=(vs++ws).toArray:=by simp
 by_cases hw:ws=[]
 ·exact concat_meets ⟨_,ho,rfl⟩ ⟨_,ho2,rfl⟩ noFill_tuple_add seq_tuple_add PySem.F.slot_tuple_add PySem.F.entry_tuple_add (PySem.F.args_tuple_add_2 _ _)
   (tuple_addW1 t b vs.toArray ws.toArray n n2 dd dd2 sl sl2 (by simpa using hv) (by simp [hw])) ⟨ho,ho2,h1 hw⟩
 ·refine concat_meets ⟨_,ho,rfl⟩ ⟨_,ho2,rfl⟩ noFill_tuple_add seq_tuple_add PySem.F.slot_tuple_add PySem.F.entry_tuple_add (PySem.F.args_tuple_add_2 _ _)
   (tuple_addW2 t b vs.toArray ws.toArray n n2 dd dd2 sl sl2 (by simpa using hv) (by simpa using hw) (by rw [sT1,sT1];exact hsz)) ⟨ho,ho2,?_⟩
  rw [e];exact h2 hw
noncomputable def sIx (n d:Nat):Option Int->Nat
 | none=>d
 | some v=>if v<0 then (v+(n:Int)).toNat else min v.toNat n
theorem qdD (n d:Nat):sIx n d none=d:=rfl
theorem qgj (n d k:Nat):sIx n d (some (k:Int))=min k n:=by
 show (if (k:Int)<0 then ((k:Int)+(n:Int)).toNat else min (k:Int).toNat n)=min k n;rw [if_neg (by lia),Int.toNat_natCast]
theorem qoC (n d:Nat)(hd:d<=n)(o:Option Int):sIx n d o<=n:=by
 cases o with
 | none=>exact hd
 | some v=>
  show (if v<0 then (v+(n:Int)).toNat else min v.toNat n)<=n;by_cases hv:v<0
  ·rw [if_pos hv];lia
  ·rw [if_neg hv];exact Nat.min_le_right _ _
theorem qjV (v:Int)(n d:Nat):(if v<0 then max (v+(n:Int)) 0 else min v (n:Int))=((sIx n d (some v):Nat):Int):=by
 show (if v<0 then max (v+(n:Int)) 0 else min v (n:Int))=(((if v<0 then (v+(n:Int)).toNat else min v.toNat n):Nat):Int);by_cases hv:v<0
 ·simp only [if_pos hv];lia
 ·simp only [if_neg hv];lia
theorem qh6 (lo hi:Option Int)(n:Nat):Builtin.Slice.sliceAdjust lo hi 1 (n:Int)=(((sIx n 0 lo:Nat):Int),((sIx n n hi:Nat):Int)):=by
 have h1:¬ ((1:Int)<0):=by lia
 unfold Builtin.Slice.sliceAdjust;simp only [h1,if_false];refine Prod.ext ?_ ?_
 ·cases lo with
  | none=>rfl
  | some v=>exact qjV v n 0
 ·cases hi with
  | none=>rfl
  | some v=>exact qjV v n n
theorem qhN (i j:Nat):Builtin.Slice.slicePlaces (i:Int) (j:Int) 1=j-i:=by
 unfold Builtin.Slice.slicePlaces;have h1:(1:Int)>0:=by lia
 simp only [h1,if_true,Int.ediv_one];split<;>lia
theorem qeu {v:Value}{o:Option Int}{Q:Option Int->Shared->Prop}(p:IsPart v o)(h:Q o s):wpAny (model prog w) A (Builtin.Slice.slicePartIndex v) Q E s:=by
 cases p with
 | none=>exact slicePart_none h
 | int i t=>exact slicePart_int h
theorem qb3 {sl:Addr}{vl vu:Value}{lo hi:Option Int}{n:Nat}{Q:Int×Int×Nat->Shared->Prop}(hs:s.heap.IsSliceOf sl vl vu .none)(pl:IsPart vl lo)(pu:IsPart vu hi)
  (h:Q (((sIx n 0 lo:Nat):Int),1,sIx n n hi-sIx n 0 lo) s):wpAny (model prog w) A (Builtin.Slice.sliceApplied (.ref sl) (pure (n:Int))) Q E s:=by
 obtain ⟨os,hos,hcs,hds⟩:=id hs;unfold Builtin.Slice.sliceApplied Builtin.Slice.sliceFields;refine wB1 (wB1 (wpAny_field hos hds (x:=vl) rfl (wB1 (wpAny_field hos hds (x:=vu) rfl (wB1 (wpAny_field hos hds (x:=.none) rfl (wP1 ?_)))))));refine wB1 (slicePart_none ?_);show wpAny _ _ (if ((1:Int) == 0)=true then _ else _) _ _ s;rw [if_neg (by decide)];refine wB1 (qeu pl (wB1 (qeu pu (wB1 (wP1 ?_)))));show wpAny _ _ (match Builtin.Slice.sliceAdjust lo hi 1 (n:Int) with | (lo,hi)=>pure (lo,(1:Int),Builtin.Slice.slicePlaces lo hi 1)) _ _ s;rw [qh6 lo hi n];show wpAny _ _ (pure (((sIx n 0 lo:Nat):Int),(1:Int),Builtin.Slice.slicePlaces ((sIx n 0 lo:Nat):Int) ((sIx n n hi:Nat):Int) 1)) _ _ s;rw [qhN];exact wP1 h
theorem qkI (xs:Array Value)(i k:Nat):((List.range k).filterMap fun (m:Nat)=>xs[((i:Int)+(m:Int)*1).toNat]?).toArray=((xs.toList.drop i).take k).toArray:=by
 have e:(fun (m:Nat)=>xs[((i:Int)+(m:Int)*1).toNat]?)=fun m=>xs[i+m]?:=by
  funext m
  have:((i:Int)+(m:Int)*1).toNat=i+m:=by lia
  rw [this]
 rw [e];have:=pick_run xs i k;rw [List.filterMap_map] at this;have e2:((fun x=>xs[x]?)∘fun x=>i+x)=fun m=>xs[i+m]?:=rfl;rw [e2] at this;rw [this]
theorem qdd {t sl:Addr}{items:Array Value}{vl vu:Value}{lo hi:Option Int}{Q:Value->Shared->Prop}(ht:IsTup s.heap t items)(hs:s.heap.IsSliceOf sl vl vu .none)(pl:IsPart vl lo)(pu:IsPart vu hi)
  (hw:¬ (sIx items.size 0 lo=0/\sIx items.size items.size hi=items.size))
  (h:Q (.ref s.heap.objs.size) {s with heap:=s.heap.push {cls:=.type "tuple",data:=.seq ((items.toList.drop (sIx items.size 0 lo)).take (sIx items.size items.size hi-sIx items.size 0 lo)).toArray}})
  (hsz:items.size<=sizeLine):wpAny (model prog w) A (getItem (.ref t) (.ref sl)) Q E s:=by
 have htake:sizeOk (.seq ((items.toList.drop (sIx items.size 0 lo)).take (sIx items.size items.size hi-sIx items.size 0 lo)).toArray):=by
  show ((items.toList.drop (sIx items.size 0 lo)).take (sIx items.size items.size hi-sIx items.size 0 lo)).toArray.size<=sizeLine;rw [sT1,List.length_take,List.length_drop,Array.length_toList];omega
 have hj:sIx items.size items.size hi<=items.size:=qoC _ _ (nR1 _) hi;obtain ⟨os,hos,hcs,hds⟩:=id hs;have hTs:s.TypeIs (.ref sl) "slice":=⟨os,hos,hcs⟩;unfold getItem
 try with_reducible refine wpAny_holding ?_
 first | refine wB1 (wP1 ?_) | skip
 refine wB1 (wpAny_sequenceKey ht.typeIs (by decide) ?_);refine wB1 (wpAny_callSpecial?_slot (name:=Str.ofString "__getitem__") ht.typeIs PyProof.Rows.slot_tuple_getitem
  (wE1 PyProof.Rows.slot_tuple_getitem ht.typeIs entry_tuple_getitem ?_ (args_tuple_getitem _ _)))
 show wpAny _ _ (Builtin.Tuple.tupleItemsOf (.ref t) >>= _) _ _ s;refine wB1 (tupleItemsOf_ ht ?_);refine wB1 (wpAny_typeOf hTs ?_);rw [if_pos (by decide)];refine wB1 (qb3 hs pl pu ?_);have hno:¬ ((((sIx items.size 0 lo:Nat):Int) == 0&&(1:Int) == 1&&(sIx items.size items.size hi-sIx items.size 0 lo) == items.size)=true):=by
  intro q;rw [bA1,bA1] at q;have q1:((sIx items.size 0 lo:Nat):Int)=0:=eq_of_beq q.1.1;have q2:sIx items.size items.size hi-sIx items.size 0 lo=items.size:=eq_of_beq q.2;exact hw ⟨by omega,by omega⟩
 show wpAny _ _ (if (((sIx items.size 0 lo:Nat):Int) == 0&&(1:Int) == 1&&(sIx items.size items.size hi-sIx items.size 0 lo) == items.size)=true then _ else _) _ _ s;rw [if_neg hno,qkI]
 first
  | exact wB1 (m:=Builtin.Tuple.tupleExact _) (wO1 (wP1 ⟨_,rfl,wP1 h⟩) htake)
  | exact wB1 (m:=Builtin.Tuple.tupleExact _) (wO1 (wB1 (wP1 (wP1 ⟨_,rfl,wP1 h⟩))) htake)
  | exact wB1 (wB1 (m:=Builtin.Tuple.tupleExact _) (wO1 (wP1 (wP1 ⟨_,rfl,wP1 h⟩)) htake))
  | exact wB1 (wB1 (m:=Builtin.Tuple.tupleExact _) (wO1 (wP1 ⟨_,rfl,wP1 h⟩) htake))
end
end HT
namespace L2
open PySem PySem.Spec PyProof.Rows
noncomputable abbrev TO:=St->Hp->(Option Int->Hp->Prop)->Prop
noncomputable def PO (X:Cx)(e:Option Expr)(t:TO):Prop:=
 ∀ (pins:List (Addr×Obj)) (s:Shared) (σ:St) (H:Hp) (Q:Option Int->Hp->Prop),Inv X pins σ H s->t σ H Q ->
  wpAny (model X.prog X.w) X.A (evalPart e X.env) (fun u s'=>∃ o H',Inv X pins σ H' s'/\IsPart u o/\Q o H') X.xe s
noncomputable def qmv:TO:=fun _ H Q=>Q none H
noncomputable def qq0 (t:TE):TO:=fun σ H Q=>t σ H fun x H1=>∃ i,x = .int i/\Q (some i) H1
section
variable {X:Cx} {e:Expr} {te:TE} {lo hi:Option Expr} {tl th:TO} {pos p2:Pos}
theorem qmQ:PO X none qmv:=by
 intro pins s σ H Q I h;rw [evalPart_none];exact wP1 ⟨none,H,I,.none,h⟩
theorem qmP (h:PE X e te):PO X (some e) (qq0 te):=by
 intro pins s σ H Q I hw;rw [evalPart_some];refine thn (h pins s σ H _ I hw) fun u s1 ⟨x,H1,I1,r1,q1⟩=>?_;obtain ⟨i,rfl,q⟩:=q1;obtain ⟨t,rfl⟩:=r1;exact ⟨some i,H1,I1,.int i t,q⟩
noncomputable def SlR (X:Cx)(r:V->Option Int->Option Int->Hp->VK->Prop):Prop:=
 ∀ (pins:List (Addr×Obj)) (s:Shared) (σ:St) (H:Hp) (x:V) (v vl vu:Value) (lo hi:Option Int) (sl:Addr) (Q:VK),Inv X pins σ H s->RelV x v->s.heap.IsSliceOf sl vl vu .none->IsPart vl lo->IsPart vu hi->r x lo hi H Q ->
  ∃ T id,typeLookup (.type T) "__getitem__"=pure (some (.builtin id))/\s.TypeIs v T/\wpAny (model X.prog X.w) X.A (getItem v (.ref sl)) (EP X pins σ Q) X.xe s
theorem SlR.or {r r':V->Option Int->Option Int->Hp->VK->Prop}(h:SlR X r)(h':SlR X r'):SlR X (fun x lo hi H Q=>r x lo hi H Q\/r' x lo hi H Q):=by
 intro pins s σ H x v vl vu lo hi sl Q I rx hs pl pu q;rcases q with q | q
 ·exact h pins s σ H x v vl vu lo hi sl Q I rx hs pl pu q
 ·exact h' pins s σ H x v vl vu lo hi sl Q I rx hs pl pu q
noncomputable def tSl (r:V->Option Int->Option Int->Hp->VK->Prop)(te:TE)(tl th:TO):TE:=fun σ H Q=>te σ H fun x H1=>tl σ H1 fun l H2=>th σ H2 fun u H3=>r x l u H3 Q
theorem qkL {r:V->Option Int->Option Int->Hp->VK->Prop}(hr:SlR X r)(he:PE X e te)(hl:PO X lo tl)(hu:PO X hi th):PE X (.Subscript e (.Slice lo hi none p2) pos) (tSl r te tl th):=by
 intro pins s σ H Q I h;refine Subscript_ (thn (he pins s σ H _ I h) fun v s1 ⟨x,H1,I1,r1,q1⟩=>?_);refine wpAny_Slice (thn (hl pins s1 σ H1 _ I1 q1) fun vl s2 ⟨l,H2,I2,pl,q2⟩=>thn (hu pins s2 σ H2 _ I2 q2) fun vu s3 ⟨u,H3,I3,pu,q3⟩=>?_);rw [evalPart_none];refine wP1 ?_;have I4:Inv X pins σ H3 {s3 with heap:=s3.heap.push {cls:=.type "slice",data:=.fields #[vl,vu,.none]}}:=I3.kept (t':=s3.toks) fun b ob q=>hP1 _ q;obtain ⟨T,id,hT,ht,hg⟩:=hr pins {s3 with heap:=s3.heap.push {cls:=.type "slice",data:=.fields #[vl,vu,.none]}} σ H3 x v vl vu l u s3.heap.objs.size Q I4 r1 (Heap.IsSliceOf.new ..) pl pu q3;show wpAny (model X.prog X.w) X.A (subscriptTail e (.Slice lo hi none p2) v (.ref s3.heap.objs.size)) (EP X pins σ Q) X.xe {s3 with heap:=s3.heap.push {cls:=.type "slice",data:=.fields #[vl,vu,.none]}};exact tail_any (ops:=[.ref s3.heap.objs.size,v]) ht hT hg (by with_unfolding_all rfl)
noncomputable def cutV (xs:List V)(lo hi:Option Int):List V:=(xs.drop (HT.sIx xs.length 0 lo)).take (HT.sIx xs.length xs.length hi-HT.sIx xs.length 0 lo)
theorem qd9 (xs:List V)(lo hi:Option Int):(cutV xs lo hi).length<=xs.length:=by
 unfold cutV;rw [List.length_take,List.length_drop];lia
noncomputable def rSlT (K:Fg1):V->Option Int->Option Int->Hp->VK->Prop:=fun x lo hi H Q=>∃ a xs,x = .ref a/\SqT K H a xs /\
 ¬ (HT.sIx xs.length 0 lo=0/\HT.sIx xs.length xs.length hi=xs.length) /\ ∀ p,H p=none->Q (.ref p) (upd H p (.tup (cutV xs lo hi)))
theorem qoy:SlR X (rSlT X.K):=by
 intro pins s σ H x v vl vu lo hi sl Q I rx hs pl pu h;obtain ⟨a,xs,rfl,hx,hw,q⟩:=h;cases rx;obtain ⟨its,r,ht,hz⟩:=I.tuple hx;have hlen:its.toArray.size=xs.length:=by rw [sT1];exact r.length.symm
 refine ⟨"tuple",_,PyProof.Rows.slot_tuple_getitem.lookup,ht.typeIs,?_⟩;refine HT.qdd ht hs pl pu (by rw [hlen];exact hw) ?_ (by rw [hlen];exact hz);rw [hlen];refine ⟨.ref s.heap.objs.size,_,I.laid (t':=s.toks) (o:=.tup (cutV xs lo hi)) (fun b ob q=>hP1 _ q) (nR1 _) ?_,rfl,q _ (I.hok.fresh (nR1 _))⟩;exact ⟨Nat.le_trans (qd9 xs lo hi) hz,_,(r.drop (HT.sIx xs.length 0 lo)).take (HT.sIx xs.length xs.length hi-HT.sIx xs.length 0 lo),IsTup.new _ _⟩
noncomputable def qrg (K:Fg1):R2:=fun x y H Q=>∃ a b xs ys,x = .ref a/\y = .ref b/\SqT K H a xs/\SqT K H b ys/\xs≠[]/\xs.length+ys.length<=sizeLine /\
 (ys=[]->Q (.ref a) H)/\(ys≠[] -> ∀ p,H p=none->Q (.ref p) (upd H p (.tup (xs++ys))))
theorem Vals.nil_iff {xs:List V}{us:List Value}(r:Vals xs us):us=[]↔xs=[]:=by
 cases r with
 | nil=>simp
 | cons _ _=>simp
theorem qm1:OpR X (binaryOp .Add) (qrg X.K):=by
 intro pins s σ H x y v u Q I rx ry h;obtain ⟨a,b,xs,ys,rfl,rfl,ha,hb,hx,hz,q1,q2⟩:=h;cases rx;cases ry;obtain ⟨its,r1,p1,_⟩:=I.tuple ha;obtain ⟨its2,r2,p2,_⟩:=I.tuple hb;refine HT.qnX p1 p2 (fun z=>hx (r1.nil_iff.mp z)) (fun z=>⟨.ref a,H,I,rfl,q1 (r2.nil_iff.mp z)⟩) (fun z=>?_) (by rw [<- r1.length,<- r2.length];exact hz);refine ⟨.ref s.heap.objs.size,_,I.laid (t':=s.toks) (o:=.tup (xs++ys)) (fun b ob q=>hP1 _ q) (nR1 _) ?_,rfl,q2 (fun w=>z (r2.nil_iff.mpr w)) _ (I.hok.fresh (nR1 _))⟩;exact ⟨by rw [lA1];exact hz,_,r1.append r2,IsTup.new _ _⟩
end
end L2
namespace L2
open PySem PySem.Spec PyProof.Rows
noncomputable def ixN (n:Nat)(i:Int):Option Nat:=if 0<=i then (if i<n then some i.toNat else none) else if-(n:Int)<=i then some (i+n).toNat else none
noncomputable def atI {α:Type}(xs:List α)(i:Int):Option α:=(ixN xs.length i).bind fun j=>xs[j]?
theorem qgA {n:Nat}{i:Int}{j:Nat}(h:ixN n i=some j):seqIndex? i n=some j/\j<n /\ -(n:Int)<=i/\i<n:=by
 unfold ixN at h;by_cases h0:0<=i
 ·rw [if_pos h0] at h;by_cases h1:i<n
  ·rw [if_pos h1] at h;have e:i.toNat=j:=Option.some.inj h;exact ⟨by rw [seqIndex_of h0 h1,e],by lia,by lia,h1⟩
  ·rw [if_neg h1] at h;cases h
 ·rw [if_neg h0] at h;by_cases h1: -(n:Int)<=i
  ·rw [if_pos h1] at h;have e:(i+n).toNat=j:=Option.some.inj h;exact ⟨by rw [seqIndex_neg (by lia) h1,e],by lia,h1,by lia⟩
  ·rw [if_neg h1] at h;cases h
theorem qj8 {α:Type}{xs:List α}{i:Int}{v:α}(h:atI xs i=some v):∃ j,seqIndex? i xs.length=some j/\xs[j]? = some v/\j<xs.length /\ -(xs.length:Int)<=i/\i<xs.length:=by
 unfold atI at h;cases e:ixN xs.length i with
 | none=>rw [e] at h;cases h
 | some j=>
  rw [e] at h;obtain ⟨h1,h2,h3,h4⟩:=qgA e;exact ⟨j,h1,h,h2,h3,h4⟩
theorem qn6 {α:Type}{xs:List α}{j:Nat}{v:α}(h:xs[j]? = some v):atI xs (j:Int)=some v:=by
 have hj:j<xs.length:=(gE1.mp h).1;have e:ixN xs.length (j:Int)=some j:=by
  unfold ixN;rw [if_pos (by lia),if_pos (by lia)];simp
 unfold atI;rw [e];exact h
noncomputable def qfr (b:Expr):Prop:=∀ o i,subscripted b false o i=operate [o,i] (getItem o i)
noncomputable def IxR (X:Cx)(r:R2):Prop:=
 ∀ (value slice:Expr) (pins:List (Addr×Obj)) (s:Shared) (σ:St) (H:Hp) (x y:V) (v u:Value) (Q:VK),Inv X pins σ H s->RelV x v->RelV y u->r x y H Q ->
  subscripted slice false v u=operate [v,u] (getItem v u)->wpAny (model X.prog X.w) X.A (subscriptTail value slice v u) (EP X pins σ Q) X.xe s
noncomputable def MtR (X:Cx)(id:String)(r:V->List V->Hp->VK->Prop):Prop:=
 ∀ (pins:List (Addr×Obj)) (s:Shared) (σ:St) (H:Hp) (x:V) (xs:List V) (v:Value) (us:List Value) (Q:VK),Inv X pins σ H s->RelV x v->Vals xs us->r x xs H Q ->
  wpAny (model X.prog X.w) X.A (call (.builtin id) (v::us)) (EP X pins σ Q) X.xe s
section
variable {X:Cx} {a b:Expr} {ta tb:TE} {pos:Pos}
theorem qrm {r:R2}(hr:IxR X r)(ha:PE X a ta)(hb:PE X b tb)(hs:qfr b):PE X (.Subscript a b pos) (tOp r ta tb):=by
 intro pins s σ H Q I h;exact Subscript_ (binT ha hb I h fun v u s2 x y H2 I2 rx ry q=>hr a b pins s2 σ H2 x y v u Q I2 rx ry q (hs _ _))
noncomputable def rIxL (K:Fg1):R2:=fun x y H Q=>∃ p xs i v,x = .ref p/\y = .int i/\SqL K H p xs/\atI xs i=some v/\Q v H
noncomputable def rIxT (K:Fg1):R2:=fun x y H Q=>∃ p xs i v,x = .ref p/\y = .int i/\SqT K H p xs/\atI xs i=some v/\Q v H
theorem qnD:IxR X (rIxL X.K):=by
 intro value slice pins s σ H x y v u Q I rx ry h hs;obtain ⟨p,xs,i,z,rfl,rfl,hq,he,q⟩:=h;cases rx;obtain ⟨t,rfl⟩:=ry;obtain ⟨its,r,pl,hz⟩:=I.list hq;obtain ⟨j,h1,h2,h3,h4,h5⟩:=qj8 he;obtain ⟨w,ew,rw'⟩:=r.get h2;have hl:=r.length;have hn:=qew;have fin:EP X pins σ Q w s:=⟨z,H,I,rw',q⟩;by_cases h0:0<=i
 ·have hj:i.toNat=j:=by
   rw [seqIndex_of h0 h5] at h1;exact Option.some.inj h1
  exact item_listR pl.isList h0 (by lia) (by rw [hj];simpa using ew) fin hs
 ·have hj:(i+(its.toArray.size:Int)).toNat=j:=by
   rw [seqIndex_neg (by lia) h4] at h1;rw [sT1,<- hl];exact Option.some.inj h1
  exact subscriptTail_builtinR (x:=w) pl.isList.typeIs slot_list_getitem.lookup
   (wpAny_getItem_list_neg (Q:=fun r s'=>r=w/\EP X pins σ Q r s') pl.isList (by lia) (by rw [sT1]<;>lia) (by lia) (by rw [hj];simpa using ew) ⟨rfl,fin⟩) hs
theorem ix_tup:IxR X (rIxT X.K):=by
 intro value slice pins s σ H x y v u Q I rx ry h hs;obtain ⟨p,xs,i,z,rfl,rfl,hq,he,q⟩:=h;cases rx;obtain ⟨t,rfl⟩:=ry;obtain ⟨its,r,pl,hz⟩:=I.tuple hq;obtain ⟨j,h1,h2,h3,h4,h5⟩:=qj8 he;obtain ⟨w,ew,rw'⟩:=r.get h2;have hl:=r.length;have hn:=qew;have fin:EP X pins σ Q w s:=⟨z,H,I,rw',q⟩;exact subscriptTail_builtinR (x:=w) pl.typeIs slot_tuple_getitem.lookup
  (getItem_tuple (j:=j) (Q:=fun r s'=>r=w/\EP X pins σ Q r s') pl (by lia) (by lia) (by rw [sT1,<- hl];exact h1) (by simpa using ew) ⟨rfl,fin⟩) hs
theorem qhU (its:List Value)(n j:Nat)(u:Value):Obj.mapSeq (·.setIfInBounds j u) {cls:=.type "list",data:=.seq its.toArray n}={cls:=.type "list",data:=.seq (its.set j u).toArray n}:=by
 simp [Obj.mapSeq]
theorem Inv.lst {pins:List (Addr×Obj)}{σ:St}{H:Hp}{s:Shared}{p:Addr}{xs:List V}(I:Inv X pins σ H s)(h:H p=some (.lst xs)):
  ∃ (its:List Value) (n:Nat),Vals xs its/\s.heap.get? p=some {cls:=.type "list",data:=.seq its.toArray n}/\xs.length<=sizeLine:=by
 obtain ⟨z,its,n,r,e⟩:=I.hok p _ h;exact ⟨its,n,r,e,z⟩
theorem Inv.lstUpd {pins:List (Addr×Obj)}{σ:St}{H:Hp}{s:Shared}{p:Addr}{xs ys:List V}{its its':List Value}{n n':Nat}{f:Obj->Obj}(I:Inv X pins σ H s)(h:H p=some (.lst xs))
  (ho:s.heap.get? p=some {cls:=.type "list",data:=.seq its.toArray n}) (hf:f {cls:=.type "list",data:=.seq its.toArray n}={cls:=.type "list",data:=.seq its'.toArray n'}) (r:Vals ys its') (hz:ys.length<=sizeLine) (t:Nat):
  Inv X pins σ (upd H p (.lst ys)) {s with heap:=s.heap.update p f,toks:=t}:=by
 have e:(s.heap.update p f).get? p=some {cls:=.type "list",data:=.seq its'.toArray n'}:=by
  rw [hW1 f ho (by rw [hf]<;>rfl),hf]
 refine I.write (x:=p) (e:=p) (by rw [h];trivial) (.inl rfl) (fun b u hb q=>(Heap.get?_update_other _ _ (Ne.symm hb)).trans q) ⟨_,e⟩ ?_;exact ⟨hz,its',n',r,e⟩
noncomputable def qrd:V->V->V->Hp->(Hp->Prop)->Prop:=fun o i v H Q=>∃ p xs k j,o = .ref p/\i = .int k/\H p=some (.lst xs)/\ixN xs.length k=some j/\Q (upd H p (.lst (xs.set j v)))
theorem qkv:PSet X qrd:=by
 intro pins s σ H o i v ov iv u Q I ro ri rv h;obtain ⟨p,xs,k,j,rfl,rfl,hp,hj,q⟩:=h;cases ro;obtain ⟨t,rfl⟩:=ri;obtain ⟨its,n,r,ho,hz⟩:=I.lst hp;obtain ⟨h1,h2,h3,h4⟩:=qgA hj;have hl:=r.length;have hn:=qew;have I':Inv X pins σ (upd H p (.lst (xs.set j v))) {s with heap:=s.heap.update p (Obj.mapSeq (·.setIfInBounds j u))}:=
  I.lstUpd hp ho (qhU its n j u) (r.set rv j) (by rw [List.length_set];exact hz) s.toks
 by_cases h0:0<=k
 ·have hk:k.toNat=j:=by
   rw [seqIndex_of h0 h4] at h1;exact Option.some.inj h1
  exact PySem.W.ki_setAt ho h0 (by lia) (by rw [sT1,<- hl];exact h4) (by rw [hk];exact ⟨_,I',q⟩)
 ·have hk:(k+(its.toArray.size:Int)).toNat=j:=by
   rw [seqIndex_neg (by lia) h3] at h1;rw [sT1,<- hl];exact Option.some.inj h1
  exact PySem.W.ki_setBack ho (by lia) (by rw [sT1,<- hl];exact h3) (by lia) (by rw [hk];exact ⟨_,I',q⟩)
theorem qfv (lo hi:Option Int)(n:Nat):(sliceBounds lo hi none n).1=((HT.sIx n 0 lo:Nat):Int)/\(sliceBounds lo hi none n).2.1=((HT.sIx n n hi:Nat):Int)/\(sliceBounds lo hi none n).2.2=1:=by
 refine ⟨?_,?_,rfl⟩
 ·cases lo with
  | none=>simp [sliceBounds,HT.sIx]
  | some i=>
   simp only [sliceBounds,HT.sIx,Option.getD_none,show (1:Int)>0 by decide,if_true];by_cases h:i<0
   ·simp only [h,if_true]<;>lia
   ·simp only [h,if_false]<;>lia
 ·cases hi with
  | none=>simp [sliceBounds,HT.sIx]
  | some i=>
   simp only [sliceBounds,HT.sIx,Option.getD_none,show (1:Int)>0 by decide,if_true];by_cases h:i<0
   ·simp only [h,if_true]<;>lia
   ·simp only [h,if_false]<;>lia
theorem qeK (its:List Value)(lo hi:Option Int):slicePick its.toArray lo hi none=((its.drop (HT.sIx its.length 0 lo)).take (HT.sIx its.length its.length hi-HT.sIx its.length 0 lo)).toArray:=by
 obtain ⟨h1,h2,h3⟩:=qfv lo hi its.toArray.size;unfold slicePick;rw [h1,h2,h3];simp only [sliceRange_one,pick_run,sT1]<;>rfl
noncomputable def rSlL (K:Fg1):V->Option Int->Option Int->Hp->VK->Prop:=fun x lo hi H Q=>∃ a xs,x = .ref a/\SqL K H a xs /\ ∀ p,H p=none->Q (.ref p) (upd H p (.lst (cutV xs lo hi)))
theorem qmz:SlR X (rSlL X.K):=by
 intro pins s σ H x v vl vu lo hi sl Q I rx hs pl pu h;obtain ⟨a,xs,rfl,hx,q⟩:=h;cases rx;obtain ⟨its,r,ht,hz⟩:=I.list hx;have hlen:=r.length;refine ⟨"list",_,slot_list_getitem.lookup,ht.isList.typeIs,?_⟩;refine wpAny_getItem_list_slice ht.isList hs pl pu .none (by simp) ?_ (by rw [sT1]<;>lia);rw [qeK,<- hlen];refine ⟨.ref s.heap.objs.size,_,I.laid (t':=s.toks) (o:=.lst (cutV xs lo hi)) (fun b ob q=>hP1 _ q) (nR1 _) ?_,rfl,q _ (I.hok.fresh (nR1 _))⟩;exact ⟨Nat.le_trans (qd9 xs lo hi) hz,_,0,(r.drop (HT.sIx xs.length 0 lo)).take (HT.sIx xs.length xs.length hi-HT.sIx xs.length 0 lo),hS1 _ rfl⟩
noncomputable def qep:V->Bool
 | .non=>true
 | .bl _=>true
 | .int _=>true
 | .str _=>true
 | _=>false
noncomputable def eqV:V->V->Bool
 | .non,.non=>true
 | .bl a,.bl b=>a == b
 | .bl a,.int b=>(if a then 1 else 0) == b
 | .int a,.bl b=>a == (if b then 1 else 0)
 | .int a,.int b=>a == b
 | .str a,.str b=>a == b
 | _,_=>false
theorem qd7 {A:Around}{s:Shared}{y x:V}{u v:Value}(ry:RelV y u)(rx:RelV x v)(fy:qep y=true)(fx:qep x=true):SeqAt.EqAt A s u v (eqV y x):=by
 cases y with
 | non=>
  cases ry;cases x with
  | non=>cases rx;exact SeqAt.EqAt.same _
  | bl b=>cases rx;exact SeqAt.EqAt.none_bool b
  | int b=>obtain ⟨t,rfl⟩:=rx;exact SeqAt.EqAt.none_int b t
  | str b=>obtain ⟨t,rfl⟩:=rx;exact SeqAt.EqAt.none_str b t
  | _=>exact absurd (show false=true from fx) Bool.false_ne_true
 | bl a=>
  cases ry;cases x with
  | non=>cases rx;exact SeqAt.EqAt.bool_none a
  | bl b=>cases rx;exact SeqAt.EqAt.bool_bool a b
  | int b=>obtain ⟨t,rfl⟩:=rx;exact SeqAt.EqAt.bool_int a b t
  | str b=>obtain ⟨t,rfl⟩:=rx;exact SeqAt.EqAt.bool_str a b t
  | _=>exact absurd (show false=true from fx) Bool.false_ne_true
 | int a=>
  obtain ⟨t',rfl⟩:=ry;cases x with
  | non=>cases rx;exact SeqAt.EqAt.int_none a t'
  | bl b=>cases rx;exact SeqAt.EqAt.int_bool a t' b
  | int b=>obtain ⟨t,rfl⟩:=rx;exact SeqAt.EqAt.int_int a t' b t
  | str b=>obtain ⟨t,rfl⟩:=rx;exact SeqAt.EqAt.int_str a t' b t
  | _=>exact absurd (show false=true from fx) Bool.false_ne_true
 | str a=>
  obtain ⟨t',rfl⟩:=ry;cases x with
  | non=>cases rx;exact SeqAt.EqAt.str_none a t'
  | bl b=>cases rx;exact SeqAt.EqAt.str_bool a t' b
  | int b=>obtain ⟨t,rfl⟩:=rx;exact SeqAt.EqAt.str_int a t' b t
  | str b=>obtain ⟨t,rfl⟩:=rx;exact SeqAt.EqAt.str_str a t' b t
  | _=>exact absurd (show false=true from fx) Bool.false_ne_true
 | _=>exact absurd (show false=true from fy) Bool.false_ne_true
theorem qf1:qaN X (.builtin "len") (fun xs H Q=>∃ p ys,xs=[.ref p]/\(SqL X.K H p ys\/SqT X.K H p ys)/\Q (.int ys.length) H):=by
 intro pins s σ H xs us Q I r h;obtain ⟨p,ys,rfl,hq,q⟩:=h;obtain ⟨u,rfl,rx⟩:=qcB r;cases rx;have hn:=qew;rcases hq with hq | hq
 ·obtain ⟨its,r',pl,hz⟩:=I.list hq;have hlen:=r'.length;exact Calls.call_len_list pl.isList (by simp only [sT1]<;>lia) ⟨.int ys.length,H,I.tok _,⟨s.toks+1,by rw [sT1,hlen]⟩,q⟩
 ·obtain ⟨its,r',pl,hz⟩:=I.tuple hq;have hlen:=r'.length;exact len_tuple pl (by simp only [sT1]<;>lia) ⟨.int ys.length,H,I.tok _,⟨s.toks+1,by rw [sT1,hlen]⟩,q⟩
theorem qf0:qaN X (.builtin "len") (fun xs H Q=>∃ z,xs=[.str z]/\z.length<=sizeLine/\Q (.int z.length) H):=by
 intro pins s σ H xs us Q I r h;obtain ⟨z,rfl,hz,q⟩:=h;obtain ⟨u,rfl,t,rfl⟩:=qcB r;have hn:=qew;exact len_str (by lia) ⟨.int z.length,H,I.tok _,⟨_,rfl⟩,q⟩
theorem qfZ:qaN X (.type "list") (fun xs H Q=>∃ p ys,xs=[.ref p]/\(SqL X.K H p ys\/SqT X.K H p ys) /\ ∀ l,H l=none->Q (.ref l) (upd H l (.lst ys))):=by
 intro pins s σ H xs us Q I r h;obtain ⟨p,ys,rfl,hq,q⟩:=h;obtain ⟨u,rfl,rx⟩:=qcB r;cases rx;have fin:∀ (its:List Value),Vals ys its->ys.length<=sizeLine -> ∀ (h':Heap) (c':Nat),(∀ b o',s.heap.get? b=some o'->h'.get? b=some o') ->
   h'.get? s.heap.objs.size=some {cls:=.type "list",dict:=none,data:=.seq its.toArray c',slots:= #[]}->EP X pins σ Q (.ref s.heap.objs.size) {s with heap:=h'}:=fun its r' hz h' c' kp e=>
  ⟨.ref s.heap.objs.size,_,I.laid (t':=s.toks) kp (nR1 _) (show qaV X.prog X.w _ h' _ (.lst ys) from ⟨hz,its,c',r',e⟩),rfl,q _ (I.hok.fresh (nR1 _))⟩
 rcases hq with hq | hq
 ·obtain ⟨its,r',pl,hz⟩:=I.list hq;have hlen:=r'.length;obtain ⟨o,ho,hc,n,hd⟩:=pl.isList;exact call_list_seq p (.inl rfl) ho hc hd (fun h' c' kp e=>fin its r' hz h' c' kp e) (by simp only [sT1]<;>lia)
 ·obtain ⟨its,r',pl,hz⟩:=I.tuple hq;have hlen:=r'.length;obtain ⟨o,ho,hc,n,hd⟩:=pl;exact call_list_seq p (.inr rfl) ho hc hd (fun h' c' kp e=>fin its r' hz h' c' kp e) (by simp only [sT1]<;>lia)
theorem qfl:qaN X (.type "tuple") (fun xs H Q=>∃ p ys,xs=[.ref p]/\((SqL X.K H p ys /\ ∀ l,H l=none->Q (.ref l) (upd H l (.tup ys)))\/(SqT X.K H p ys/\Q (.ref p) H))):=by
 intro pins s σ H xs us Q I r h;obtain ⟨p,ys,rfl,h⟩:=h;obtain ⟨u,rfl,rx⟩:=qcB r;cases rx;rcases h with ⟨hq,q⟩ | ⟨hq,q⟩
 ·obtain ⟨its,r',pl,hz⟩:=I.list hq;have hlen:=r'.length;refine call_tuple_list pl.isList (fun h' kp=>?_) (by simp only [sT1]<;>lia);have I1:Inv X pins σ H {s with heap:=h'}:=I.kept (t':=s.toks) kp;have I2:Inv X pins σ (upd H h'.objs.size (.tup ys)) {s with heap:=h'.push {cls:=.type "tuple",data:=.seq its.toArray}}:=
   I1.laid (t':=s.toks) (fun b o e=>hP1 _ e) (nR1 _) (show qaV X.prog X.w _ _ _ (.tup ys) from ⟨hz,its,r',IsTup.new _ _⟩)
  exact ⟨.ref h'.objs.size,_,I2,rfl,q _ (I1.hok.fresh (nR1 _))⟩
 ·obtain ⟨its,r',pl,hz⟩:=I.tuple hq;exact call_tuple_same pl ⟨.ref p,H,I,rfl,q⟩
noncomputable def tyV (K:Fg1)(T:String)(x:V)(H:Hp):Prop:=match x with
 | .str _=>T="str"
 | .int _=>T="int"
 | .ref p=>(T="list" /\ ∃ xs,SqL K H p xs)\/(T="tuple" /\ ∃ o,K.lookup p=some o/\o.cls = .type "tuple"/\o.dict=none) \/
   (T="dict"/\((∃ kvs,H p=some (.dK kvs)) \/ ∃ kvs,H p=some (.dT kvs)))\/(T="set" /\ ∃ S n,H p=some (.set S n))
 | _=>False
theorem qok {pins:List (Addr×Obj)}{σ:St}{H:Hp}{s:Shared}{T:String}{x:V}{v:Value}(I:Inv X pins σ H s)(r:RelV x v)(ty:tyV X.K T x H):
  s.TypeIs v T /\ ∀ a,v = .ref a -> ∃ ob,s.heap.get? a=some ob/\ob.dict=none:=by
 cases x with
 | str z=>
  obtain ⟨t,rfl⟩:=r;cases (show T="str" from ty);exact ⟨typeIs_str s z t,fun _ e=>nomatch e⟩
 | int i=>
  obtain ⟨t,rfl⟩:=r;cases (show T="int" from ty);exact ⟨typeIs_int s i t,fun _ e=>nomatch e⟩
 | ref p=>
  cases r;rcases ty with ⟨rfl,xs,hq⟩ | ⟨rfl,o,hk,hc,hd⟩ | ⟨rfl,hk⟩ | ⟨rfl,S,n,hk⟩
  ·obtain ⟨its,_,pl,_⟩:=I.list hq;refine ⟨pl.isList.typeIs,fun a e=>?_⟩;cases e;obtain ⟨o,n,e,c,hd,_⟩:=pl;exact ⟨o,e,hd⟩
  ·refine ⟨⟨o,I.kIn p o hk,hc⟩,fun a e=>?_⟩;cases e;exact ⟨o,I.kIn _ o hk,hd⟩
  ·have z:∃ o,s.heap.get? p=some o/\o.ExactDict:=by
    rcases hk with ⟨kvs,hk⟩ | ⟨kvs,hk⟩
    ·obtain ⟨_,_,_,_,o,_,_,e,ex,_⟩:=I.hok p _ hk;exact ⟨o,e,ex⟩
    ·obtain ⟨_,_,_,_,o,_,_,e,ex,_⟩:=I.hok p _ hk;exact ⟨o,e,ex⟩
   obtain ⟨o,e,ex⟩:=z;refine ⟨⟨o,e,ex.1⟩,fun a e2=>?_⟩;cases e2;exact ⟨o,e,ex.2.1⟩
  ·obtain ⟨o,_,_,_,e,ex,_⟩:=I.hok p _ hk;refine ⟨⟨o,e,ex.1⟩,fun a e2=>?_⟩;cases e2;exact ⟨o,e,ex.2.1⟩
 | _=>exact False.elim ty
noncomputable def tBM (K:Fg1)(T:String)(r:V->List V->Hp->VK->Prop)(to:TE)(t:TA):TE:=fun σ H Q=>to σ H fun x H1=>tyV K T x H1/\t σ H1 fun xs H2=>r x xs H2 Q
variable {o e:Expr} {es:List Expr} {to:TE} {t:TA} {name:Str} {apos cpos:Pos} {T id:String} {r:V->List V->Hp->VK->Prop}
theorem qrn (pa:PlainAttrs T)(slot:Slot T name id)(hty:typeOf (.builtin id)=pure (.type "method_descriptor"))(hm:MtR X id r)(ho:PE X o to)(ha:PA X (e::es) t)
  (hbase:attributeBase o name X.env (eval o X.env)=eval o X.env:=by rfl)
  (hfew:((backTo cpos (starEach (e::es) X.env)).all (fun x=> !x.1)&&(backToKw cpos (keywordEach [] X.env)).all (fun x=>x.1.isSome)
   && decide ((e::es).length+([]:List Keyword).length+(if ([]:List Keyword).isEmpty then 0 else 1)<30))=true:=by rfl)
  (hline:(apos.endLine == cpos.line)=true:=by rfl) (hs:starEach (e::es) X.env=(false,eval e X.env)::starEach es X.env:=by rfl) (hplain:(backTo cpos (starEach es X.env)).any (·.1)=false:=by rfl):
  PE X (.Call (.Attribute o name apos) (e::es) [] cpos) (tBM X.K T r to t):=by
 intro pins s σ H Q I h;refine wpAny_Call_method_late hbase hfew hline rfl (thn (ho pins s σ H _ I h) fun v s1 ⟨x,H1,I1,r1,ty,q1⟩=>?_);obtain ⟨h1,h2⟩:=qok I1 r1 ty;refine ⟨T,id,pa,slot,hty,h1,h2,?_⟩;have hA:=ha cpos pins s1 σ H1 _ I1 q1;rw [hs] at hA ⊢;refine Calls.callWith_builtin (by show (false||(backTo cpos (starEach es X.env)).any (·.1))=false;rw [hplain]<;>rfl) (Calls.evalArgs_plain ?_);exact thn hA fun us s2 ⟨vs,H2,I2,r2,q2⟩=>hm pins s2 σ H2 x vs v us Q I2 r1 r2 q2
end
end L2
namespace L2
open PySem PySem.Spec PyProof.Rows
noncomputable def MtM (X:Cx)(id:String)(r:V->List V->Hp->VK->Prop):Prop:=
 ∀ (pins:List (Addr×Obj)) (s:Shared) (σ:St) (H:Hp) (x:V) (xs:List V) (v:Value) (us:List Value) (Q:VK),Inv X pins σ H s->RelV x v->Vals xs us->r x xs H Q ->
  wpAny (model X.prog X.w) X.A (call (.builtin id) (v::us)) (EP X pins σ Q) X.xe s
theorem Vals.one:∀ {x:V} {us:List Value},Vals [x] us -> ∃ u,us=[u]/\RelV x u:=by
 intro x us h;cases h with
 | cons r t=>cases t;exact ⟨_,rfl,r⟩
theorem Vals.eraseIdx:∀ {xs:List V} {us:List Value} (i:Nat),Vals xs us->Vals (xs.eraseIdx i) (us.eraseIdx i)
 | _,_,_,.nil=>.nil
 | _,_,0,.cons _ t=>t
 | _,_,i+1,.cons r t=>.cons r (Vals.eraseIdx i t)
theorem Vals.rep {xs:List V}{us:List Value}(h:Vals xs us):∀ k:Nat,Vals (List.replicate k xs).flatten (List.replicate k us).flatten
 | 0=>.nil
 | k+1=>by
  rw [List.replicate_succ,List.replicate_succ,List.flatten_cons,List.flatten_cons];exact Vals.append h (Vals.rep h k)
theorem qfL {α:Type}:∀ (l:List α) (i:Nat),(l.eraseIdx i).length<=l.length
 | [],_=>nR1 _
 | _::_,0=>Nat.le_succ _
 | _::r,i+1=>Nat.succ_le_succ (qfL r i)
theorem qfP (its:List Value):∀ (k:Nat) (acc:List Value),
  List.foldl (fun x1 x2=>x1++x2) acc.toArray (List.replicate k its.toArray)=(acc++(List.replicate k its).flatten).toArray
 | 0,acc=>by simp
 | k+1,acc=>by
  have e:acc.toArray++its.toArray=(acc++its).toArray:=by simp
  have e2:(acc++its)++(List.replicate k its).flatten=acc++(List.replicate (k+1) its).flatten:=by
   rw [List.replicate_succ,List.flatten_cons,List.append_assoc]
  rw [<- e2,<- qfP its k (acc++its),<- e,List.replicate_succ,List.foldl_cons]
section
variable {X:Cx} {pins:List (Addr×Obj)} {σ:St} {H:Hp} {s:Shared} {l b:Addr} {xs ys zs:List V}
theorem Inv.lset {its its':List Value}{n:Nat}{f:Array Value->Array Value}{t':Nat}(I:Inv X pins σ H s)(hH:H l=some (.lst xs))
  (e:s.heap.get? l=some {cls:=.type "list",data:=.seq its.toArray n}) (hf:f its.toArray=its'.toArray) (hv:Vals ys its') (hz:ys.length<=sizeLine):
  Inv X pins σ (upd H l (.lst ys)) {s with heap:=s.heap.update l (Obj.mapSeq f),toks:=t'}:=by
 have q:=PySem.IsL.update e f;rw [hf] at q;refine I.write (x:=l) (e:=l) (by rw [hH];exact trivial) (.inl rfl) (fun b' u hb hu=>(Heap.get?_update_other s.heap (Obj.mapSeq f) (Ne.symm hb)).trans hu) ⟨_,q⟩ ?_;exact ⟨hz,its',_,hv,q⟩
theorem Inv.lnew {its:List Value}{t':Nat}(I:Inv X pins σ H s)(hv:Vals ys its)(hz:ys.length<=sizeLine):
  Inv X pins σ (upd H s.heap.objs.size (.lst ys)) {s with heap:=s.heap.push {cls:=.type "list",data:=.seq its.toArray},toks:=t'}:=
 I.laid (fun _ _ q=>hP1 _ q) (nR1 _) ⟨hz,its,0,hv,hS1 _ rfl⟩
theorem Inv.fresh (I:Inv X pins σ H s):H s.heap.objs.size=none:=I.hok.fresh (nR1 _)
theorem Inv.lstM (I:Inv X pins σ H s)(hH:H l=some (.lst xs)):xs.length<=sizeLine /\ ∃ (its:List Value) (n:Nat),Vals xs its/\xs.length=its.length/\s.heap.get? l=some {cls:=.type "list",data:=.seq its.toArray n}:=by
 obtain ⟨z,its,n,r,e⟩:=I.hok l _ hH;exact ⟨z,its,n,r,r.length,e⟩
theorem qkV {n:Nat}(h:n<=sizeLine):Builtin.List.listTooLong n=false:=by
 unfold Builtin.List.listTooLong;exact decide_eq_false (by lia)
end
section
variable {X:Cx}
noncomputable def qmH:V->List V->Hp->VK->Prop:=fun x vs H Q=>∃ l xs y,x = .ref l/\vs=[y]/\H l=some (.lst xs)/\xs.length<sizeLine/\Q .non (upd H l (.lst (xs++[y])))
theorem qfJ:MtM X "list.append" qmH:=by
 intro pins s σ H x vs v us Q I rx rv h;obtain ⟨l,xs,y,rfl,rfl,hH,hz,q⟩:=h;cases rx;obtain ⟨u,rfl,ru⟩:=rv.one;obtain ⟨z,its,n,r,hl,e⟩:=I.lstM hH;refine call_meets F.slot_list_append ⟨_,e,rfl⟩ F.entry_list_append (F.args_list_append_2 _ _) (PySem.list_append l its.toArray n u (by rw [sT1];lia)) ⟨e,?_⟩;refine ⟨.non,_,I.lset (its':=its++[u]) hH e (by simp) (r.append (.cons ru .nil)) ?_,rfl,q⟩;rw [lA1,List.length_singleton];lia
noncomputable def qoJ:V->List V->Hp->VK->Prop:=fun x vs H Q=>∃ l xs i k y,x = .ref l/\vs=[.int i]/\H l=some (.lst xs) /\ -(2^63)<=i/\i<2^63/\seqIndex? i xs.length=some k/\xs[k]? = some y/\Q y (upd H l (.lst (xs.eraseIdx k)))
theorem qkX:MtM X "list.pop" qoJ:=by
 intro pins s σ H x vs v us Q I rx rv h;obtain ⟨l,xs,i,k,y,rfl,rfl,hH,h1,h2,hk,hy,q⟩:=h;cases rx;obtain ⟨u,rfl,ru⟩:=rv.one;obtain ⟨t,rfl⟩:=ru;obtain ⟨z,its,n,r,hl,e⟩:=I.lstM hH;obtain ⟨w,hw,rw'⟩:=r.get hy;refine call_meets F.slot_list_pop ⟨_,e,rfl⟩ F.entry_list_pop (F.args_list_pop_2 _ _)
  (MeetsSeq.list_pop_at l its.toArray n i t k w (fitsIndex_both h1 h2) (by rw [sT1,<- hl];exact hk) (by rw [<- aT1];exact hw) (by rw [sT1];lia)) ⟨e,?_⟩
 refine ⟨y,_,I.lset (its':=its.eraseIdx k) hH e ?_ (r.eraseIdx k) ?_,rw',q⟩
 ·show its.toArray.eraseIdxIfInBounds k=(its.eraseIdx k).toArray;rw [List.eraseIdxIfInBounds_toArray]
 ·have:=qfL xs k;lia
noncomputable def rCat:R2:=fun x y H Q=>∃ l b xs zs,x = .ref l/\y = .ref b/\H l=some (.lst xs)/\H b=some (.lst zs)/\xs.length+zs.length<=sizeLine /\ ∀ p,H p=none->Q (.ref p) (upd H p (.lst (xs++zs)))
theorem qpi:OpR X (binaryOp .Add) rCat:=by
 intro pins s σ H x y v u Q I rx ry h;obtain ⟨l,b,xs,zs,rfl,rfl,hH,hB,hz,q⟩:=h;cases rx;cases ry;obtain ⟨z,its,n,r,hl,e⟩:=I.lstM hH;obtain ⟨z2,its2,n2,r2,hl2,e2⟩:=I.lstM hB;refine PySem.P.add_list e e2 ?_ (by rw [sT1,sT1];lia);have ea:its.toArray++its2.toArray=(its++its2).toArray:=by simp
 rw [ea];exact ⟨.ref _,_,I.lnew (t':=s.toks) (r.append r2) (by rw [lA1];lia),rfl,q _ I.fresh⟩
noncomputable def rRep:R2:=fun x y H Q=>∃ l k xs,x = .ref l/\y = .int k/\H l=some (.lst xs) /\ -(2^63)<=k/\k<2^63/\xs.length*k.toNat<=sizeLine /\
 ∀ p,H p=none->Q (.ref p) (upd H p (.lst (List.replicate k.toNat xs).flatten))
theorem qnu {α:Type}(xs:List α)(k:Nat):(List.replicate k xs).flatten.length=k*xs.length:=by
 induction k with
 | zero=>simp
 | succ k ih=>rw [List.replicate_succ,List.flatten_cons,lA1,ih,Nat.succ_mul,Nat.add_comm]
theorem qpf:OpR X (binaryOp .Mult) rRep:=by
 intro pins s σ H x y v u Q I rx ry h;obtain ⟨l,k,xs,rfl,rfl,hH,h1,h2,hz,q⟩:=h;cases rx;obtain ⟨t,rfl⟩:=ry;obtain ⟨z,its,n,r,hl,e⟩:=I.lstM hH;have hlen:its.toArray.size*k.toNat<=sizeLine:=by rw [sT1,<- hl];exact hz
 have hcap:¬ its.toArray.size*k.toNat>(2^63-1)/8:=by
  have:(sizeLine:Nat)<=(2^63-1)/8:=by decide
  lia
 have hfit:¬ (!Builtin.List.listFitsIndex k)=true:=by
  rw [fitsIndex_both h1 h2];exact Bool.false_ne_true
 have hlong:¬ Builtin.List.listTooLong (its.toArray.size*k.toNat)=true:=by
  rw [qkV hlen];exact Bool.false_ne_true
 have hnew:List.foldl (fun x1 x2=>x1++x2) #[] (List.replicate (if its.toArray.isEmpty=true then 0 else k.toNat) its.toArray)=(List.replicate k.toNat its).flatten.toArray:=by
  have f0:∀ m:Nat,List.foldl (fun x1 x2=>x1++x2) #[] (List.replicate m its.toArray)=(List.replicate m its).flatten.toArray:=fun m=>by
   have:=qfP its m [];rw [List.nil_append] at this;exact this
  rw [f0];cases its with
  | nil=>simp
  | cons a r'=>rw [if_neg (by simp)]
 refine wpAny_binaryOp_repeat_ref (T:="list") (U:="int") (by decide) ⟨_,e,rfl⟩ (fun s'=>typeIs_int s' k t) noFill_list_mul F.fills_int_mul F.slot_int_rmul repeat_list F.slot_int_index.lookup
  (call_meets F.slot_int_rmul (typeIs_int s k t) F.entry_int_rmul (F.args_int_rmul_2 _ _) (int___rmul___int_list k t l its.toArray n)
   ⟨e,rfl,⟨_,e,rfl⟩,call_meets F.slot_list_mul ⟨_,e,rfl⟩ F.entry_list_mul (F.args_list_mul_2 _ _) (AutoListH.list___mul___list_int_3 l its.toArray n k t hfit hcap hlong) ⟨e,?_⟩⟩)
 rw [hnew];exact ⟨.ref _,_,I.lnew (t':=s.toks) (r.rep k.toNat) (by rw [qnu,Nat.mul_comm];exact hz),rfl,q _ I.fresh⟩
end
section
variable {prog:Program} {w:World} {A:Around} {E:Value->Shared->Prop} {s:Shared}
end
section
variable {X:Cx}
end
end L2
namespace Att
open PySem PySem.W PySem.Calls PyProof.Rows
theorem qd1 {P:Params}{h:Heap}:∀ (ns:List Int) (vs:List Value),WellAll P h vs (ns.map WData.int)->IntsAre vs ns:=by
 intro ns
 induction ns with
 | nil=>
  intro vs w;rw [List.map_nil] at w;cases w;exact .nil
 | cons n ns ih=>
  intro vs w;rw [mP1] at w;cases w with
  | cons a b=>
   cases a;exact .cons _ _ (ih _ b)
theorem qiC {l:OpenLaw}{n:Nat}(hn:l.most=some n){P:Params}{h:Heap}{args:List WData}{vals:List Value}
  (hpre:l.row.toRowW.claim.pre args=true) (hwl:WellAll P h vals args):
  ∃ a vs ns,vals=[Value.ref a]/\args=[WData.list (ns.map WData.int)]/\h.get? a=some {cls:=.type "list",data:=.seq vs.toArray}/\IntsAre vs ns/\ns.length<=n:=by
 have hsh:WShape.hasAll [] args [.list .int]=true:=(pre_splitW hpre).1;have hc:l.pre.holds [] {args:=args}=true:=(pre_splitW hpre).2;obtain ⟨d,r,rfl,h1,h2⟩:=hasAllW_cons hsh;obtain rfl:=hasAllW_nil h2;obtain ⟨xs,rfl,h3⟩:=hasW_list h1;obtain ⟨ns,rfl⟩:=items_int h3;have hlen:ns.length<=n:=by
  unfold OpenLaw.pre at hc;have h4:(WTm.not (.lt (.lit (.int (n:Int))) (.len (.arg 0)))).holds [] {args:=[.list (ns.map .int)]}=true:=by
   have h4:=(holds_andW hc).1;rw [hn] at h4;exact h4
  have h5:=condW_of h4 (w_not (w_lt w_lit (w_len_list (w_arg rfl))));rw [lM1] at h5;refine Nat.le_of_not_lt fun q=>?_;have q':(n:Int)<((ns.length:Nat):Int):=by omega
  first
   | (rw [decide_eq_true q'] at h5;exact absurd h5 (by decide))
   | (simp at h5;omega)
 cases hwl with
 | cons w1 w2=>
  cases w2;cases w1 with
  | list ho hall=>exact ⟨_,_,ns,rfl,rfl,ho,qd1 ns _ hall,hlen⟩
theorem qiO (l:OpenLaw)(args:List WData):l.row.toRowW.claim.post args (.bool true) args=true:=
 postW_of (r:=l.row.toRowW) (X:=(true == true))
  (show WShape.has [] (.bool true) .bool=true by first | rfl | decide | simp [WShape.has,WShape.arms,WShape.armsAll])
  (show (WTm.eq .res (.lit (.bool true))).value [] {args:=args,res:=some (.bool true),after:=args}=some (.bool (true == true)) from w_eq_bool (w_res rfl) w_lit) rfl
theorem attach_call {l:OpenLaw}{n:Nat}{q:Program}{loose:List Str}{XP:(Str->Option Value)->Heap->Prop}{YP:World->Heap->Prop}{d:DefRec}
  (hn:l.most=some n) (hdf:d.params.defaults=[])
  (call:∀ (w:World) (s₀ s₁:Shared) (mg mb:Str->Option Value) (fa:Addr) (o:Obj) (pm cd doc:Value) (a:Addr) (vs:List Value) (ns:List Int),
   Ground q loose [] XP w s₀ mg mb s₁.heap->YP w s₁.heap ->
   s₁.heap.get? fa=some o->o.data = .func (docDef d.name d.params d.body d.scope pm cd doc)->s₁.heap.CodeRec cd d.name->mg d.name=some (.ref fa) ->
   s₁.heap.get? a=some {cls:=.type "list",data:=.seq vs.toArray}->IntsAre vs ns->ns.length<=n->s₁.gens = #[] ->
   codeAny (model l.prog w) callerA (.call (.ref fa) ⟨[.ref a],[]⟩) (fun r s'=>r = .ok (.ret (.bool true))/\OldK s₁.heap s'.heap/\s'.os=s₁.os/\AllBare s'.gens) s₁):
  WalkO q loose XP YP l.row.toRowW d [] (fun f vs=>PySem.call f vs):=by
 intro w s₀ s₁ mg mb G Y fa o pm cd doc dV kV ho hd hcd hD hmg hg args vals as hpre hlay hrd hwl hlo;obtain rfl:dV = .none:=Dflts.none hD hdf;obtain rfl:kV = .none:=Dflts.noKw hD;obtain ⟨a,vs,ns,rfl,rfl,hobj,hints,hlen⟩:=qiC hn hpre hwl;refine enter_call (codeAny_mono (call w s₀ s₁ mg mb fa o pm cd doc a vs ns G Y ho (fd_plain hd) hcd hmg hobj hints hlen hg) fun r s' hq=>?_);obtain ⟨rfl,h2,h3,h4⟩:=hq;exact ⟨.inl ⟨.bool true,.bool true,[],rfl,fun _=>rfl,.bool true,qiO l _,fun _=>⟨List.Pairwise.nil,fun _ hm=>(nomatch hm)⟩⟩,h2,h3,h4⟩
section
variable {prog:Program} {w:World} {A:Around} {E:Value->Shared->Prop} {s:Shared} {K:Frag}
end
end Att
namespace L2
open PySem PySem.Spec PyProof.Rows
theorem qil:∀ {vs:List Value} {ns:List Int},IntsAre vs ns->Vals (ns.map V.int) vs:=by
 intro vs ns h
 induction h with
 | nil=>exact .nil
 | cons n t h ih=>exact .cons ⟨t,rfl⟩ ih
noncomputable def Only (H:Hp):Prop:=∀ b,H b=none \/ ∃ o xs,H b=some (.frz o (.lst xs))
theorem qk8 {P:Program}{w:World}{K:Fg1}{mg mb:Str->Option Value}{CX:CXT}{k:Nat}{fa a:Addr}{fd:FuncData}{x:Str}{sp:Sp}{s₁:Shared}{vs:List Value}{ns:List Int}
  (KX:K.In s₁.heap) (hns:s₁.heap.Ns mainGlobals mg) (hb:s₁.heap.Ns builtinsNs mb) (hbb:∀ x:Str,x≠"__name__"->mb x=bootBuiltins x) (hlim:s₁.heap.NoLimit) (hg:s₁.gens = #[])
  (ha:s₁.heap.get? a=some {cls:=.type "list",data:=.seq vs.toArray}) (hi:IntsAre vs ns) (hl:ns.length<=sizeLine) (hr:Room k callerA)
  (F:∀ base:Heap,K.In base->base.Ns mainGlobals mg->FnOk P w K mg base CX k fa fd [x] sp) (hbind:∀ (s:Shared) (u:Value),BindsTo s fd ⟨[u],[]⟩ [(x,u)])
  (hsp:∀ H:Hp,Only H->SqL K H a (ns.map V.int)->sp [.ref a] H (fun v _=>v = .bl true) fun _ _ _=>False)
  (hCX:∀ H e s',CX [] H s₁ (fun _ _ _=>False) e s'->False):
  codeAny (model P w) callerA (.call (.ref fa) ⟨[.ref a],[]⟩) (fun r s'=>r = .ok (.ret (.bool true))/\OldK s₁.heap s'.heap/\s'.os=s₁.os/\AllBare s'.gens) s₁:=by
 have rv:=qil hi;have lenV:=hi.length
 -- from an abstract heap in which nothing but the script may be tracked
 have core:∀ H:Hp,Only H->SqL K H a (ns.map V.int)->HOk P w H s₁.heap->(∀ b,H b≠none->b=a)->(H a≠none->K.lookup a=none) ->
   codeAny (model P w) callerA (.call (.ref fa) ⟨[.ref a],[]⟩) (fun r s'=>r = .ok (.ret (.bool true))/\OldK s₁.heap s'.heap/\s'.os=s₁.os/\AllBare s'.gens) s₁:=by
  intro H hO hS hok hA hK;have base_of:∀ {b:Addr} {o:Obj},s₁.heap.get? b=some o->H b=none->(hidT s₁.heap H).get? b=some o:=fun e n=>qla e n;have noA:∀ {b:Addr} {o:Obj} {es:Array DictEntry} {ep:Nat},s₁.heap.get? b=some o->o.data = .dict es ep->H b=none:=fun {b o es ep} e d=>by
   cases q:H b with
   | none=>rfl
   | some u=>
    have e':b=a:=hA b (by rw [q];simp);subst e';rw [ha] at e;cases e;have d':Data.seq vs.toArray _=Data.dict es ep:=d;cases d'
  have nsK:∀ {b:Addr} {m:Str->Option Value},s₁.heap.Ns b m->(hidT s₁.heap H).Ns b m:=fun {b m} ⟨o,es,ep,e,d,r⟩=>⟨o,es,ep,base_of e (noA e d),d,r⟩;have hKb:K.In (hidT s₁.heap H):=fun b o e=>base_of (KX b o e) (by
   cases q:H b with
   | none=>rfl
   | some u=>
    have e':b=a:=hA b (by rw [q];simp);subst e';rw [hK (by rw [q];simp)] at e;cases e)
  have hM:Mod K mg (hidT s₁.heap H):=⟨hKb,nsK hns,⟨mb,nsK hb,hbb⟩,let ⟨mc,h1,h2⟩:=hlim;⟨mc,nsK h1,h2⟩⟩;have e0:Env0 P w K mg (hidT s₁.heap H) callerA [] s₁ H:=⟨rfl,hM,fun b o e=>qm2 e,Nat.le_of_eq (qjt _ _),trivial,fun b hb=>absurd (show b∈([]:List Addr) from hb) (by simp),hok,.of_eq hg⟩;refine codeAny_mono ((F _ hKb (nsK hns)).run callerA [] s₁ H ⟨[.ref a],[]⟩ [.ref a] [.ref a] _ _ hr e0 (hbind s₁ (.ref a)) (.cons rfl .nil) (hsp H hO hS)) fun r s' h=>?_;cases r with
  | error e=>exact (hCX H e s' h).elim
  | ok fl=>
   cases fl with
   | next=>exact False.elim h
   | brk=>exact False.elim h
   | cont=>exact False.elim h
   | ret u=>
    obtain ⟨v,H',os,bare,un,hok',r',q⟩:=h;have q':v = .bl true:=q;subst q';obtain rfl:u=Value.bool true:=r';refine ⟨rfl,OldK.of_keep fun b o e=>?_,os,bare⟩;cases q:H b with
    | none=>exact un.keep b o e q (by intro z;exact absurd (show b∈([]:List Addr) from z) (by simp)) (by simp)
    | some u=>
     rcases hO b with z | ⟨ob,xs,z⟩
     ·rw [q] at z;cases z
     ·have z2:=un.frzs b ob _ z;obtain ⟨e1,_⟩:=hok b _ z;obtain ⟨e2,_⟩:=hok' b _ z2;rw [e] at e1;cases e1;exact e2
 cases hk:K.lookup a with
 | some o=>
  -- the script is one of the module's own objects
  have e:=KX a o hk;rw [ha] at e;cases e;refine core (fun _=>none) (fun _=>.inl rfl) (.inr ⟨_,vs.toArray,_,hk,rfl,rfl,rfl,by rw [sT1,lenV];exact hl,by simpa using rv⟩) (fun b u z=>by have z':(none:Option HO)=some u:=z;cases z') (fun b z=>absurd rfl z) fun z=>absurd rfl z
 | none=>
  refine core (fun b=>if b=a then some (.frz {cls:=.type "list",data:=.seq vs.toArray} (.lst (ns.map V.int))) else none) (fun b=>?_) (.inl (.inr ⟨{cls:=.type "list",data:=.seq vs.toArray},if_pos rfl⟩)) (fun b u z=>?_) (fun b z=>?_) fun _=>hk
  ·by_cases hb:b=a
   ·exact .inr ⟨_,_,if_pos hb⟩
   ·exact .inl (if_neg hb)
  ·by_cases hb:b=a
   ·have z':=(if_pos hb).symm.trans z;cases z';subst hb;exact ⟨ha,by rw [lM1];exact hl,vs,_,rv,ha⟩
   ·have z':=(if_neg hb).symm.trans z;cases z'
  ·by_cases hb:b=a
   ·exact hb
   ·exact absurd (if_neg hb) z
end L2
namespace L2
open PySem PySem.Spec PyProof.Rows
theorem qmp {l:PySem.W.OpenLaw}{n k:Nat}{q:Program}{loose:List Str}{XP:(Str->Option Value)->Heap->Prop}{YP:World->Heap->Prop}{d:DefRec}{K:Params->Fg1}{CX:World->CXT}{sp:World->Sp}{x:Str}
  (hn:l.most=some n) (hn2:n<=sizeLine) (hdf:d.params.defaults=[]) (hr:Room k callerA)
  (hY:∀ (w:World) (h:Heap),YP w h->(K w.params).In h)
  (F:∀ (w:World) (mg:Str->Option Value) (fa:Addr) (h:Heap),(K w.params).In h->h.Ns mainGlobals mg->mg d.name=some (.ref fa) ->
   ∃ fd:FuncData,(∀ (s:Shared) (u:Value),BindsTo s fd ⟨[u],[]⟩ [(x,u)]) /\
    ∀ base:Heap,(K w.params).In base->base.Ns mainGlobals mg->FnOk l.prog w (K w.params) mg base (CX w) k fa fd [x] (sp w))
  (hsp:∀ (w:World) (H:Hp) (a:Addr) (ns:List Int),ns.length<=n->Only H->SqL (K w.params) H a (ns.map V.int)->sp w [.ref a] H (fun v _=>v = .bl true) fun _ _ _=>False)
  (hCX:∀ (w:World) (H:Hp) (s:Shared) (e:Value) (s':Shared),CX w [] H s (fun _ _ _=>False) e s'->False):
  PySem.W.WalkO q loose XP YP l.row.toRowW d [] (fun f vs=>PySem.call f vs):=by
 refine Att.attach_call hn hdf fun w s₀ s₁ mg mb fa o pm cd doc a vs ns G Y ho hd hcd hmg hobj hints hlen hg=>?_;have KX:=hY w _ Y;obtain ⟨fd,hb,hF⟩:=F w mg fa _ KX G.T.g hmg;exact qk8 KX G.T.g G.T.b G.T.builtins G.T.nolimit hg hobj hints (Nat.le_trans hlen hn2) hr hF hb (fun H hO hS=>hsp w H a ns hlen hO hS) fun H e s'=>hCX w H s₁ e s'
end L2
namespace L2
open PySem PySem.Spec PyProof.Rows
noncomputable def qcK (s:Stmt):Arguments:=match s with
 | .FunctionDef _ a _ _ _ _ _ _ _ _=>a
 | _=>{posonlyargs:=[],args:=[],vararg:=none,kwonlyargs:=[],kw_defaults:=[],kwarg:=none,defaults:=[]}
noncomputable def qbc (s:Stmt):List Stmt:=match s with
 | .FunctionDef _ _ b _ _ _ _ _ _ _=>b
 | _=>[]
noncomputable def qae (s:Stmt):Scope:=match s with
 | .FunctionDef _ _ _ _ _ _ sc _ _ _=>sc
 | _=>{kind:=.function,names:=[],isGenerator:=false,isCoroutine:=false}
noncomputable abbrev CX0:CXT:=fun _ _ _ _ _ _=>False
noncomputable abbrev E0:XK:=fun _ _ _=>False
theorem qrp {X:Cx}:qkd CX0 X E0:=fun _ _ _ _ _ _ _ h=>h.elim
structure Fun (K:Fg1)(x qual:Str)(st:Stmt)(f:Addr)(fd:FuncData):Prop where
 ex:∃ (oc:Value) (od:Option Addr) (kV doc pm:Value) (an:Option Addr) (cdv ct:Value) (osl:Array (Option Value)),
  fd=wF1 x qual (qcK st) (qbc st) (qae st) .none kV doc pm an cdv ct/\K.lookup f=some ⟨oc,od,.func fd,osl⟩/\wC1 K cdv qual=true
 kp:wK1 K (.ref f)=true
section
variable {P:Program} {w:World} {K:Fg1} {mg:Str->Option Value} {base:Heap}
theorem Fun.ok {x qual:Str}{st:Stmt}{f:Addr}{fd:FuncData}{N ps:List Str}{k:Nat}{sp:Sp}(F:Fun K x qual st f fd)(S:qas N ps (qae st))(len:∀ vs H Q E,sp vs H Q E->vs.length=ps.length)
  (hbody:∀ (cdv:Value) (A:Around) (outer:List Env) (s:Shared) (H:Hp) (vs:List V) (Q:VK) (E:XK),Room k (A.deeper (envOfC qual (qae st) s.heap.objs.size f cdv))->sp vs H Q E ->
   ∃ t,PSs (cxOf CX0 P w K mg base N qual (qae st) f cdv A outer s H E).nox (qbc st) t/\t {nx:=fun _ H'=>Q .non H',rt:=Q} (start N vs) H):FnOk P w K mg base CX0 (k+1) f fd ps sp:=by
 obtain ⟨oc,od,kV,doc,pm,an,cdv,ct,osl,rfl,lk,hcd⟩:=F.ex;refine qrV lk hcd S len fun A outer s H vs Q E hr hsp=>?_;obtain ⟨t,h,q⟩:=hbody cdv A outer s H vs Q E hr hsp;exact ⟨t,h.nox,q⟩
theorem Fun.binds {x qual:Str}{st:Stmt}{f:Addr}{fd:FuncData}{ps:List Str}(F:Fun K x qual st f fd)
  (h:∀ (kV doc pm:Value) (an:Option Addr) (cdv ct:Value) (us:List Value),us.length=ps.length->bindArgs (wF1 x qual (qcK st) (qbc st) (qae st) .none kV doc pm an cdv ct) ⟨us,[]⟩=pure (ps.zip us)):qfs K fd ps []:=by
 obtain ⟨oc,od,kV,doc,pm,an,cdv,ct,osl,rfl,lk,hcd⟩:=F.ex;exact .all (h kV doc pm an cdv ct)
theorem qlZ {x qual:Str}{st:Stmt}{f:Addr}{oc:Value}{od an:Option Addr}{osl:Array (Option Value)}{kV doc pm cdv ct:Value}(l:K.lookup f=some ⟨oc,od,.func (wF1 x qual (qcK st) (qbc st) (qae st) .none kV doc pm an cdv ct),osl⟩)
  (c:wC1 K cdv qual=true) (k:wK1 K (.ref f)=true):Fun K x qual st f (wF1 x qual (qcK st) (qbc st) (qae st) .none kV doc pm an cdv ct):=⟨⟨oc,od,kV,doc,pm,an,cdv,ct,osl,rfl,l,c⟩,k⟩
end
section
variable {X:Cx}
end
end L2
namespace L2
open PySem PySem.Spec PyProof.Rows
section
variable {κ:Type} [DecidableEq κ]
noncomputable def valV (kvs:List (κ×V))(k:κ):Option V:=(kvs.find? fun kv=>decide (kv.1=k)).map (·.2)
noncomputable def putK (kvs:List (κ×V))(k:κ)(v:V):List (κ×V):=
 if (kvs.any fun kv=>decide (kv.1=k))=true then kvs.map (fun kv=>if kv.1=k then (kv.1,v) else kv) else kvs++[(k,v)]
theorem qeH {p:κ×V}{r:List (κ×V)}{k:κ}(e:p.1=k):valV (p::r) k=some p.2:=by simp [valV,List.find?_cons,e]
theorem qeI {p:κ×V}{r:List (κ×V)}{k:κ}(e:¬ p.1=k):valV (p::r) k=valV r k:=by simp [valV,List.find?_cons,e]
theorem qgR (k:κ):∀ kvs:List (κ×V),(kvs.any fun kv=>decide (kv.1=k))=(valV kvs k).isSome
 | []=>rfl
 | p::r=>by
  rw [List.any_cons];by_cases e:p.1=k
  ·simp only [qeH e,decide_eq_true e,Bool.true_or,Option.isSome_some]
  ·rw [qeI e,decide_eq_false e,Bool.false_or];exact qgR k r
theorem qdZ (kvs:List (κ×V))(k:κ)(v:V):(putK kvs k v).length<=kvs.length+1:=by
 unfold putK;split
 ·rw [lM1];lia
 ·rw [lA1,lC1,List.length_nil];lia
theorem RelO.isSome_eq {o:Option V}{u:Option Value}(r:RelO o u):o.isSome=u.isSome:=by
 cases o with
 | none=>cases u with
  | none=>rfl
  | some _=>exact (show False from r).elim
 | some _=>cases u with
  | none=>exact (show False from r).elim
  | some _=>rfl
theorem KV.val {kvs:List (κ×V)}{vs:List (κ×Value)}(r:KV kvs vs)(k:κ):RelO (valV kvs k) (valueAt vs k):=by
 unfold KV at r
 induction r with
 | nil=>exact True.intro
 | @cons p q ps qs h t ih=>
  obtain ⟨h1,h2⟩:=h;by_cases e:p.1=k
  ·have e':q.1=k:=h1.symm.trans e;have b:valueAt (q::qs) k=some q.2:=by simp [valueAt,List.find?_cons,e']
   rw [qeH e,b];exact h2
  ·have e':¬ q.1=k:=fun z=>e (h1.trans z);have b:valueAt (q::qs) k=valueAt qs k:=by simp [valueAt,List.find?_cons,e']
   rw [qeI e,b];exact ih
theorem KV.any {kvs:List (κ×V)}{vs:List (κ×Value)}(r:KV kvs vs)(k:κ):(kvs.any fun kv=>decide (kv.1=k))=vs.any fun kv=>decide (kv.1=k):=by
 unfold KV at r
 induction r with
 | nil=>rfl
 | cons h t ih=>rw [List.any_cons,List.any_cons,ih,h.1]
theorem KV.repl {kvs:List (κ×V)}{vs:List (κ×Value)}(r:KV kvs vs)(k:κ){y:V}{u:Value}(ry:RelV y u):
  KV (kvs.map fun kv=>if kv.1=k then (kv.1,y) else kv) (vs.map fun kv=>if kv.1=k then (kv.1,u) else kv):=by
 unfold KV at r ⊢
 induction r with
 | nil=>exact .nil
 | @cons p q ps qs h t ih=>
  rw [mP1,mP1];refine .cons ?_ ih;obtain ⟨h1,h2⟩:=h;by_cases e:p.1=k
  ·rw [if_pos e,if_pos (h1.symm.trans e)];exact ⟨h1,ry⟩
  ·rw [if_neg e,if_neg (fun z=>e (h1.trans z))];exact ⟨h1,h2⟩
theorem KV.put {kvs:List (κ×V)}{vs:List (κ×Value)}(r:KV kvs vs)(k:κ){y:V}{u:Value}(ry:RelV y u):KV (putK kvs k y) (stored vs k u):=by
 unfold putK stored;rw [r.any k];by_cases e:(vs.any fun kv=>decide (kv.1=k))=true
 ·rw [if_pos e,if_pos e];exact r.repl k ry
 ·rw [if_neg e,if_neg e];exact Paired.snoc r ⟨rfl,ry⟩
theorem KV.keys {kvs:List (κ×V)}{vs:List (κ×Value)}(r:KV kvs vs):kvs.map (·.1)=vs.map (·.1):=by
 unfold KV at r
 induction r with
 | nil=>rfl
 | cons h t ih=>rw [mP1,mP1,ih,h.1]
theorem KV.length {kvs:List (κ×V)}{vs:List (κ×Value)}(r:KV kvs vs):kvs.length=vs.length:=Paired.length r
end
theorem qjl {P:Program}{w:World}{k:Key}{u:Value}(r:RelV (kV k) u):(qaZ P w).is k u=true:=by
 cases k with
 | inl i=>obtain ⟨t,e⟩:=(show ∃ t,u=Value.int i t from r);subst e;exact qgw P w i t
 | inr x=>obtain ⟨t,e⟩:=(show ∃ t,u=Value.str x t from r);subst e;exact qgv P w x t
theorem qfN {P:Program}{w:World}:∀ {ks:List Key} {us:List Value},Vals (ks.map kV) us->ItemsAre (qaZ P w) ks us
 | [],_,r=>by rw [List.map_nil] at r;cases r;exact .nil
 | k::ks,_,r=>by
  rw [mP1] at r;cases r with
  | cons h t=>exact .cons (qjl h) (qfN t)
noncomputable abbrev KT (H:Hp):List (List Key×V)->List (List Key×Addr×Value)->Prop:=Paired fun p q=>p.1=q.1/\H q.2.1=some (.tup (p.1.map kV))/\RelV p.2 q.2.2
theorem KT.val {H:Hp}{kvs:List (List Key×V)}{xs:List (List Key×Addr×Value)}(r:KT H kvs xs)(k:List Key):RelO (valV kvs k) ((atKey xs k).map (·.2)):=by
 induction r with
 | nil=>exact True.intro
 | @cons p q ps qs h t ih=>
  obtain ⟨h1,_,h2⟩:=h;by_cases e:p.1=k
  ·have e':q.1=k:=h1.symm.trans e;have b:atKey (q::qs) k=some q.2:=by simp [atKey,List.find?_cons,e']
   rw [qeH e,b];exact h2
  ·have e':¬ q.1=k:=fun z=>e (h1.trans z);have b:atKey (q::qs) k=atKey qs k:=by simp [atKey,List.find?_cons,e']
   rw [qeI e,b];exact ih
theorem KT.repl {H:Hp}{kvs:List (List Key×V)}{xs:List (List Key×Addr×Value)}(r:KT H kvs xs)(k:List Key){y:V}{u:Value}(ry:RelV y u):
  KT H (kvs.map fun kv=>if kv.1=k then (kv.1,y) else kv) (xs.map (putAt k u)):=by
 induction r with
 | nil=>exact .nil
 | @cons p q ps qs h t ih=>
  rw [mP1,mP1];refine .cons ?_ ih;obtain ⟨h1,h2,h3⟩:=h;unfold putAt;by_cases e:p.1=k
  ·rw [if_pos e,if_pos (h1.symm.trans e)];exact ⟨h1,h2,ry⟩
  ·rw [if_neg e,if_neg (fun z=>e (h1.trans z))];exact ⟨h1,h2,h3⟩
theorem KT.put {H:Hp}{kvs:List (List Key×V)}{xs:List (List Key×Addr×Value)}(r:KT H kvs xs)(k:List Key){b:Addr}{y:V}{u:Value}(hb:H b=some (.tup (k.map kV)))(ry:RelV y u):
  KT H (putK kvs k y) (storedH xs k b u):=by
 have e:(kvs.any fun kv=>decide (kv.1=k))=(atKey xs k).isSome:=by
  rw [qgR,(r.val k).isSome_eq,Option.isSome_map]
 unfold putK storedH;rw [e];by_cases q:(atKey xs k).isSome=true
 ·rw [if_pos q,if_pos q];exact r.repl k ry
 ·rw [if_neg q,if_neg q];exact Paired.snoc r ⟨rfl,hb,ry⟩
theorem KT.keeps {H H':Hp}{kvs:List (List Key×V)}{xs:List (List Key×Addr×Value)}(r:KT H kvs xs)(ht:∀ b ys,H b=some (.tup ys)->H' b=some (.tup ys)):KT H' kvs xs:=
 Paired.mapP r fun _ _ z=>⟨z.1,ht _ _ z.2.1,z.2.2⟩
section
variable {P:Program} {w:World} {H:Hp} {h:Heap} {a:Addr}
theorem qoH {u:HO}(ok:HOk P w H h)(e:Rd H a u):qaV P w H h a u:=e.ok ok
theorem qh3 {kvs:List (Key×V)}(ok:HOk P w H h)(e:Rd H a (.dK kvs)):kvs.length<=sizeLine/\(a == sysModules)=false /\ ∃ vs,KV kvs vs/\h.DictOf (qaZ P w) a vs:=
 show qaV P w H h a (.dK kvs) from qoH ok e
theorem qli {kvs:List (Key×V)}(ok:HOk P w H h)(e:H a=some (.dK kvs)):kvs.length<=sizeLine/\(a == sysModules)=false /\ ∃ vs,KV kvs vs/\h.DictOf (qaZ P w) a vs:=qh3 ok (.inl e)
theorem qfM {ks:List Key}(ok:HOk P w H h)(e:H a=some (.tup (ks.map kV))):(tupleKind (qaZ P w)).is h ks a:=by
 obtain ⟨_,its,r,o,h1,h2,n,h3⟩:=(show qaV P w H h a (.tup (ks.map kV)) from ok a _ e);exact ⟨o,its.toArray,n,h1,h2,h3,by simpa using qfN r⟩
theorem qjK {kvs:List (List Key×V)}(ok:HOk P w H h)(e:Rd H a (.dT kvs)):kvs.length<=sizeLine/\(a == sysModules)=false /\
  ∃ xs,KT H kvs xs/\h.DictOfH (tupleKind (qaZ P w)) a xs:=by
 obtain ⟨z,y,xs,r,o,es,ep,h1,h2,h3,h4,h5⟩:=(show qaV P w H h a (.dT kvs) from qoH ok e);refine ⟨z,y,xs,r,o,es,ep,h1,h2,h3,h4,fun x hx=>?_,h5⟩;have all:∀ {l:List (List Key×V)} {m:List (List Key×Addr×Value)},KT H l m -> ∀ x∈m,(tupleKind (qaZ P w)).is h x.1 x.2.1:=by
  intro l m q
  induction q with
  | nil=>intro x hx;exact nomatch hx
  | @cons p q ps qs hq t ih=>
   intro x hx;rcases List.mem_cons.mp hx with e | hx
   ·subst e;exact qfM ok (by rw [<- hq.1];exact hq.2.1)
   ·exact ih x hx
 exact all r x hx
theorem qrX {kvs:List (List Key×V)}(ok:HOk P w H h)(e:H a=some (.dT kvs)):kvs.length<=sizeLine/\(a == sysModules)=false /\
  ∃ xs,KT H kvs xs/\h.DictOfH (tupleKind (qaZ P w)) a xs:=qjK ok (.inl e)
end
noncomputable def DGet (H:Hp)(a:Addr)(y:V)(r:Option V):Prop:=
 (∃ kvs k,Rd H a (.dK kvs)/\y=kV k/\r=valV kvs k) \/ ∃ kvs k b,Rd H a (.dT kvs)/\y = .ref b/\H b=some (.tup (k.map kV))/\r=valV kvs k
noncomputable def DPut (H:Hp)(a:Addr)(y v:V)(H':Hp):Prop:=
 (∃ kvs k,H a=some (.dK kvs)/\y=kV k/\kvs.length<sizeLine/\H'=upd H a (.dK (putK kvs k v))) \/
 ∃ kvs k b,H a=some (.dT kvs)/\y = .ref b/\H b=some (.tup (k.map kV))/\kvs.length<sizeLine/\H'=upd H a (.dT (putK kvs k v))
theorem DGet.k {H:Hp}{a:Addr}{kvs:List (Key×V)}{k:Key}(e:H a=some (.dK kvs)):DGet H a (kV k) (valV kvs k):=.inl ⟨kvs,k,.inl e,rfl,rfl⟩
theorem DGet.t {H:Hp}{a b:Addr}{kvs:List (List Key×V)}{k:List Key}(e:H a=some (.dT kvs))(eb:H b=some (.tup (k.map kV))):DGet H a (.ref b) (valV kvs k):=.inr ⟨kvs,k,b,.inl e,rfl,eb,rfl⟩
theorem DPut.k {H:Hp}{a:Addr}{kvs:List (Key×V)}{k:Key}{v:V}(e:H a=some (.dK kvs))(hl:kvs.length<sizeLine):DPut H a (kV k) v (upd H a (.dK (putK kvs k v))):=.inl ⟨kvs,k,e,rfl,hl,rfl⟩
theorem DPut.t {H:Hp}{a b:Addr}{kvs:List (List Key×V)}{k:List Key}{v:V}(e:H a=some (.dT kvs))(eb:H b=some (.tup (k.map kV)))(hl:kvs.length<sizeLine):
  DPut H a (.ref b) v (upd H a (.dT (putK kvs k v))):=.inr ⟨kvs,k,b,e,rfl,eb,hl,rfl⟩
section
variable {X:Cx} {pins:List (Addr×Obj)} {σ:St} {H:Hp} {s:Shared} {a:Addr} {y v:V} {u r:Value} {o:Option V} {A:Around} {E:Value->Shared->Prop}
theorem Inv.big (I:Inv X pins σ H s):sysModules<s.heap.objs.size:=by
 have h:mainGlobals<s.heap.objs.size:=(I.mod.glob.keeps I.bk).lt;exact Nat.lt_trans (by decide) h
theorem qjO {Q:Value->Shared->Prop}(hu:A.units+1<cLine)(I:Inv X pins σ H s)(g:DGet H a y (some v))(ry:RelV y u)(h:∀ w' s',Inv X pins σ H s'->RelV v w'->Q w' s'):
  wpAny (model X.prog X.w) A (getItem (.ref a) u) Q E s:=by
 rcases g with ⟨kvs,k,e,ey,l⟩ | ⟨kvs,k,b,e,ey,eb,l⟩
 ·subst ey;obtain ⟨z,hd,vs,rel,dd⟩:=qh3 I.hok e;obtain ⟨w',hw,rw'⟩:=RelO.some_of (v:=v) (o:=valueAt vs k) (by rw [l];exact rel.val k);exact wpAny_getItem_of (qjl ry) dd.mapOf hw (h w' _ (I.tok _) rw')
 ·subst ey;cases (show u=Value.ref b from ry);obtain ⟨z,hd,xs,rel,dd⟩:=qjK I.hok e;obtain ⟨w',hw,rw'⟩:=RelO.some_of (v:=v) (o:=(atKey xs k).map (·.2)) (by rw [l];exact rel.val k);obtain ⟨p,hp,hp2⟩:=oM1.mp hw;refine wpAny_getItem_heap (tupleKind_room_in1 hu) (qfM I.hok eb) dd hp ?_;rw [hp2];exact h w' _ (I.tok _) rw'
theorem d_in {Q:Value->Shared->Prop}(hu:A.units+1<cLine)(I:Inv X pins σ H s)(g:DGet H a y o)(ry:RelV y u)(h:∀ s',Inv X pins σ H s'->Q (.bool o.isSome) s'):
  wpAny (model X.prog X.w) A (compareOp .In u (.ref a)) Q E s:=by
 rcases g with ⟨kvs,k,e,ey,l⟩ | ⟨kvs,k,b,e,ey,eb,l⟩
 ·subst ey;obtain ⟨z,hd,vs,rel,dd⟩:=qh3 I.hok e;refine wpAny_in_of (qjl ry) hd dd.mapOf ?_;rw [<- (rel.val k).isSome_eq,<- l];exact h _ (I.tok _)
 ·subst ey;cases (show u=Value.ref b from ry);obtain ⟨z,hd,xs,rel,dd⟩:=qjK I.hok e;refine wpAny_in_heap (tupleKind_room_in1 hu) (qfM I.hok eb) hd dd ?_;have q:=(rel.val k).isSome_eq;rw [Option.isSome_map] at q;rw [<- q,<- l];exact h _ (I.tok _)
theorem qnT {Q:Value->Shared->Prop}(hu:A.units+1<cLine)(I:Inv X pins σ H s)(g:DGet H a y o)(ry:RelV y u)(h:∀ s',Inv X pins σ H s'->Q (.bool (!o.isSome)) s'):
  wpAny (model X.prog X.w) A (compareOp .NotIn u (.ref a)) Q E s:=by
 rcases g with ⟨kvs,k,e,ey,l⟩ | ⟨kvs,k,b,e,ey,eb,l⟩
 ·subst ey;obtain ⟨z,hd,vs,rel,dd⟩:=qh3 I.hok e;refine wpAny_notIn_of (qjl ry) hd dd.mapOf ?_;rw [<- (rel.val k).isSome_eq,<- l];exact h _ (I.tok _)
 ·subst ey;cases (show u=Value.ref b from ry);obtain ⟨z,hd,xs,rel,dd⟩:=qjK I.hok e;refine wpAny_notIn_heap (tupleKind_room_in1 hu) (qfM I.hok eb) hd dd ?_;have q:=(rel.val k).isSome_eq;rw [Option.isSome_map] at q;rw [<- q,<- l];exact h _ (I.tok _)
theorem qfh {h':Heap}{t':Nat}{ob:HO}(I:Inv X pins σ H s)(mu:Mut (H a))(hs:Heap.SameBut a s.heap h')(he:∃ q,h'.get? a=some q)(new:qaV X.prog X.w (upd H a ob) h' a ob):
  Inv X pins σ (upd H a ob) {s with heap:=h',toks:=t'}:=
 I.write (x:=a) (e:=a) mu (.inl rfl) (fun b q hb z=>(hs.2 b hb).trans z) he new
theorem qqj {P:Program}{w:World}{H':Hp}{h':Heap}{kvs:List (Key×V)}{vs:List (Key×Value)}(z:kvs.length<=sizeLine)(hd:(a == sysModules)=false)(rel:KV kvs vs)(dd:h'.DictOf (qaZ P w) a vs):
  qaV P w H' h' a (.dK kvs):=⟨z,hd,vs,rel,dd⟩
theorem qjN {H':Hp}{Q:Unit->Shared->Prop}(hu:A.units+1<cLine)(I:Inv X pins σ H s)(g:DPut H a y v H')(ry:RelV y u)(rv:RelV v r)(h:∀ s',Inv X pins σ H' s'->Q () s'):
  wpAny (model X.prog X.w) A (setItem (.ref a) u r) Q E s:=by
 rcases g with ⟨kvs,k,e,ey,l,eH⟩ | ⟨kvs,k,b,e,ey,eb,l,eH⟩
 ·subst ey eH;obtain ⟨z,hd,vs,rel,dd⟩:=qli I.hok e;have hz:vs.length<=sizeLine:=by rw [<- rel.length];exact z
  have hl:(putK kvs k v).length<=sizeLine:=by have:=qdZ kvs k v;lia
  refine wpAny_setItem_pairs (hsz:=hz) (qjl ry) dd fun h' dd' hs=>h _ ?_;have he:∃ q,h'.get? a=some q:=let ⟨q,_,_,hq,_⟩:=dd';⟨q,hq⟩
  exact qfh I (by rw [e];exact True.intro) hs he (qqj hl hd (rel.put k rv) dd')
 ·subst ey eH;cases (show u=Value.ref b from ry);obtain ⟨z,hd,xs,rel,dd⟩:=qrX I.hok e;have hz:xs.length<=sizeLine:=by rw [<- Paired.length rel];exact z
  have hl:(putK kvs k v).length<=sizeLine:=by have:=qdZ kvs k v;lia
  refine wpAny_setItem_heap (hsz:=hz) (tupleKind_room_in1 hu) (qfM I.hok eb) dd fun h' dd' hs=>h _ ?_;obtain ⟨q,es,ep,hq,h2,h3,h4,_,h5⟩:=dd';refine qfh I (by rw [e];exact True.intro) hs ⟨q,hq⟩ ⟨hl,hd,_,(rel.put k eb rv).keeps fun c ys ec=>?_,q,es,ep,hq,h2,h3,h4,h5⟩;rw [qar (qrx ec e (fun z=>nomatch z))];exact ec
end
section
variable {X:Cx} {pins:List (Addr×Obj)} {σ:St} {H:Hp} {s:Shared} {a:Addr} {kvs:List (Key×V)} {k:Key} {u:Value} {A:Around} {E:Value->Shared->Prop}
theorem qrZ {Q:Value->Shared->Prop}(I:Inv X pins σ H s)(e:Rd H a (.dK kvs))(h:∀ t s',Inv X pins σ H s'->Q (.int kvs.length t) s'):wpAny (model X.prog X.w) A (call (.builtin "len") [.ref a]) Q E s:=by
 obtain ⟨z,hd,vs,rel,dd⟩:=qh3 I.hok e;refine call_len_dict hd dd (by rw [<- rel.length];rw [sizeLine_eq] at z;lia) ?_;rw [<- rel.length];exact h _ _ (I.tok _)
end
theorem qgJ {X:Cx}{pins:List (Addr×Obj)}{σ:St}{H:Hp}{s:Shared}{a:Addr}{y:V}{o:Option V}(I:Inv X pins σ H s)(g:DGet H a y o):s.TypeIs (.ref a) "dict":=by
 rcases g with ⟨kvs,k,e,_,_⟩ | ⟨kvs,k,b,e,_,_,_⟩
 ·obtain ⟨_,_,vs,_,dd⟩:=qh3 I.hok e;exact dd.typeIs
 ·obtain ⟨_,_,xs,_,dd⟩:=qjK I.hok e;exact dd.typeIs
section
variable {X:Cx} {o i e value:Expr} {pos pos' tpos:Pos} {td ty tv:TE}
end
theorem qlj {P:Program}{w:World}{H:Hp}(h:Heap)(hb:sysModules<h.objs.size):qaV P w H (h.push {cls:=.type "dict",data:=.dict #[]}) h.objs.size (.dK []):=
 ⟨Nat.zero_le _,beq_eq_false_iff_ne.mpr (Ne.symm (nN1 hb)),[],.nil,Heap.DictOf.new h⟩
noncomputable def qov:TE:=fun _ H Q=>∀ p,H p=none->Q (.ref p) (upd H p (.dK []))
section
variable {X:Cx} {pos:Pos}
theorem qkN:PE X (.Dict [] [] pos) qov:=fun pins s σ H Q I h=>
 wpAny_Dict_empty ⟨.ref s.heap.objs.size,_,I.laid (a:=s.heap.objs.size) (o:=.dK []) (t':=s.toks) (fun _ _ q=>hP1 _ q) (nR1 _) (qlj s.heap I.big),rfl,h _ (I.hok.fresh (nR1 _))⟩
end
noncomputable def qlH:List (TE×TE)->St->Hp->(List (V×V)->Hp->Prop)->Prop
 | [],_,H,Q=>Q [] H
 | (tk,tv)::r,σ,H,Q=>tk σ H fun x H1=>tv σ H1 fun y H2=>qlH r σ H2 fun ps H3=>Q ((x,y)::ps) H3
noncomputable abbrev VV:List (V×V)->List (Value×Value)->Prop:=Paired fun p q=>RelV p.1 q.1/\RelV p.2 q.2
noncomputable def PPs (X:Cx)(pos:Pos)(keys:List (Option Expr))(values:List Expr)(trs:List (TE×TE)):Prop:=
 ∀ (pins:List (Addr×Obj)) (s:Shared) (σ:St) (H:Hp) (Q:List (V×V)->Hp->Prop),Inv X pins σ H s->qlH trs σ H Q ->
  wpAny (model X.prog X.w) X.A (evalPairs (pairTrees keys values X.env pos)) (fun vs s'=>∃ ps H',Inv X pins σ H' s'/\VV ps vs/\Q ps H') X.xe s
structure M1 (X:Cx)(o:Expr)(m:Str)(apos:Pos)(e:Expr)(cpos:Pos):Prop where
 base:attributeBase o m X.env (eval o X.env)=eval o X.env
 few:((backTo cpos (starEach [e] X.env)).all (fun x=> !x.1)&&(backToKw cpos (keywordEach [] X.env)).all (fun x=>x.1.isSome)
  && decide (([e]:List Expr).length+([]:List Keyword).length+(if ([]:List Keyword).isEmpty then 0 else 1)<30))=true
 line:(apos.endLine == cpos.line)=true
 trees:backTo cpos (starEach [e] X.env)=[(false,eval e X.env)]
structure M2 (X:Cx)(o:Expr)(m:Str)(apos:Pos)(e f:Expr)(cpos:Pos):Prop where
 base:attributeBase o m X.env (eval o X.env)=eval o X.env
 few:((backTo cpos (starEach [e,f] X.env)).all (fun x=> !x.1)&&(backToKw cpos (keywordEach [] X.env)).all (fun x=>x.1.isSome)
  && decide (([e,f]:List Expr).length+([]:List Keyword).length+(if ([]:List Keyword).isEmpty then 0 else 1)<30))=true
 line:(apos.endLine == cpos.line)=true
 trees:backTo cpos (starEach [e,f] X.env)=[(false,eval e X.env),(false,eval f X.env)]
section
variable {X:Cx} {pins:List (Addr×Obj)} {σ:St} {H:Hp} {s:Shared} {a:Addr} {y d:V} {u r:Value} {o:Option V} {A:Around} {E:Value->Shared->Prop}
end
section
variable {X:Cx} {o e f:Expr} {apos cpos:Pos} {td ty tx:TE}
end
section
variable {X:Cx} {pins:List (Addr×Obj)} {σ:St} {H:Hp} {s:Shared} {a:Addr} {kvs:List (Key×V)} {A:Around} {E:Value->Shared->Prop}
end
section
variable {X:Cx} {pins:List (Addr×Obj)} {σ:St} {H:Hp} {s:Shared} {a:Addr} {y:V} {u:Value} {A:Around} {E:Value->Shared->Prop}
end
end L2
namespace Mi
open PySem PySem.Spec PyProof.Rows L2
inductive TK where
 | non | int (i:Int) | tup (xs:List TK)
noncomputable instance:DecidableEq TK:=fun _ _=>Classical.propDecidable _
mutual
noncomputable def TK.hash:TK->Int
 | .non=>0xFCA86420
 | .int i=>hashInt i
 | .tup xs=>reduceHash (Builtin.Tuple.tupleHashOf (TK.hashes xs))
noncomputable def TK.hashes:List TK->List Int
 | []=>[]
 | x::xs=>TK.hash x::TK.hashes xs
end
mutual
noncomputable def TK.draws:TK->Nat
 | .non=>1
 | .int _=>1
 | .tup xs=>TK.drawsAll xs+1
noncomputable def TK.drawsAll:List TK->Nat
 | []=>0
 | x::xs=>TK.draws x+TK.drawsAll xs
end
mutual
noncomputable def TK.dep:TK->Nat
 | .non=>0
 | .int _=>0
 | .tup xs=>TK.depAll xs+1
noncomputable def TK.depAll:List TK->Nat
 | []=>0
 | x::xs=>max (TK.dep x) (TK.depAll xs)
end
theorem TK.dep_mem:∀ {xs:List TK} {x:TK},x∈xs->x.dep<=TK.depAll xs
 | y::ys,x,h=>by
  rw [TK.depAll];rcases List.mem_cons.mp h with e | e
  ·rw [e];exact Nat.le_max_left _ _
  ·exact Nat.le_trans (TK.dep_mem e) (Nat.le_max_right _ _)
theorem TK.hashes_app:∀ a b:List TK,TK.hashes (a++b)=TK.hashes a++TK.hashes b
 | [],_=>rfl
 | x::xs,b=>by rw [List.cons_append,TK.hashes,TK.hashes,TK.hashes_app xs b];rfl
theorem TK.draws_app:∀ a b:List TK,TK.drawsAll (a++b)=TK.drawsAll a+TK.drawsAll b
 | [],_=>by simp [TK.drawsAll]
 | x::xs,b=>by rw [List.cons_append,TK.drawsAll,TK.drawsAll,TK.draws_app xs b,Nat.add_assoc]
inductive D where
 | non | bl (b:Bool) | int (i:Int) | str (x:Str) | tup (xs:List D) | rol (xs:List D) | ref (n:Nat) | fn (x:Str)
inductive Ob where
 | lst (xs:List D) | dct (kvs:List (Key×D)) | dcT (kvs:List (TK×D)) | iset (xs:List Int) | dcF (kvs:List (TK×D))
noncomputable abbrev Sto:=List Ob
noncomputable abbrev Ev:=List (Option D)
noncomputable abbrev FE:=Ev->Sto->Option (D×Sto)
noncomputable abbrev FT:=Ev->Sto->Option (Bool×Sto)
noncomputable abbrev FA:=Ev->Sto->Option (List D×Sto)
noncomputable abbrev FN:=List D->Sto->Option (D×Sto)
inductive Fl where
 | nx | rt (d:D) | bk | ct
noncomputable abbrev FS:=Ev->Sto->Option (Fl×Ev×Sto)
noncomputable def RoL (K:Fg1)(H:Hp)(a:Addr)(xs:List V):Prop:=(∃ o,H a=some (.frz o (.lst xs))) \/
 ∃ (o:Obj) (its:Array Value) (n:Nat),K.lookup a=some o/\o.cls = .type "list"/\o.dict=none/\o.data = .seq its n/\its.size<=sizeLine/\Vals xs its.toList
theorem RoL.sq {K:Fg1}{H:Hp}{a:Addr}{xs:List V}(h:RoL K H a xs):SqL K H a xs:=h.elim (fun ⟨o,q⟩=>.inl (.inr ⟨o,q⟩)) .inr
mutual
inductive Rep (K:Fg1)(H:Hp)(mu:List Addr):D->V->Prop
 | non:Rep K H mu .non .non
 | bl (b:Bool):Rep K H mu (.bl b) (.bl b)
 | int (i:Int):Rep K H mu (.int i) (.int i)
 | str (x:Str):Rep K H mu (.str x) (.str x)
 | tup {ds:List D} {vs:List V} {a:Addr} (h:SqT K H a vs) (r:Reps K H mu ds vs):Rep K H mu (.tup ds) (.ref a)
 | rol {ds:List D} {vs:List V} {a:Addr} (h:RoL K H a vs) (r:Reps K H mu ds vs):Rep K H mu (.rol ds) (.ref a)
 | ref {n:Nat} {a:Addr} (h:mu[n]? = some a):Rep K H mu (.ref n) (.ref a)
 | fn {x:Str} {a:Addr} (h:wN1 K mainGlobals x=some (some (.ref a))):Rep K H mu (.fn x) (.ref a)
inductive Reps (K:Fg1)(H:Hp)(mu:List Addr):List D->List V->Prop
 | nil:Reps K H mu [] []
 | cons {d:D} {v:V} {ds:List D} {vs:List V} (r:Rep K H mu d v) (t:Reps K H mu ds vs):Reps K H mu (d::ds) (v::vs)
end
structure Ext (mu mu':List Addr)(H H':Hp):Prop where
 pre:mu <+: mu'
 old:∀ a o,H a=some o->a∉mu->H' a=some o
 tup:∀ a xs,Rd H a (.tup xs)->Rd H' a (.tup xs)
 frz:∀ a o u,H a=some (.frz o u)->H' a=some (.frz o u)
 new:∀ a∈mu',a∈mu\/H a=none
theorem Ext.refl (mu:List Addr)(H:Hp):Ext mu mu H H:=⟨List.prefix_rfl,fun _ _ h _=>h,fun _ _ h=>h,fun _ _ _ h=>h,fun _ h=>.inl h⟩
theorem Ext.trans {mu m1 m2:List Addr}{H H1 H2:Hp}(a:Ext mu m1 H H1)(b:Ext m1 m2 H1 H2):Ext mu m2 H H2 where
 pre:=a.pre.trans b.pre
 old:=fun c o h n=>b.old c o (a.old c o h n) fun z=>by
  rcases a.new c z with q | q
  ·exact n q
  ·rw [h] at q;cases q
 tup:=fun c xs h=>b.tup c xs (a.tup c xs h)
 frz:=fun c o u h=>b.frz c o u (a.frz c o u h)
 new:=fun c h=>by
  rcases b.new c h with q | q
  ·exact a.new c q
  ·by_cases z:c∈mu
   ·exact .inl z
   ·right;cases e:H c with
    | none=>rfl
    | some o=>rw [a.old c o e z] at q;cases q
theorem Ext.at {mu mu':List Addr}{H H':Hp}(e:Ext mu mu' H H'){n:Nat}{a:Addr}(h:mu[n]? = some a):mu'[n]? = some a:=by
 obtain ⟨t,rfl⟩:=e.pre;have hl:n<mu.length:=(gE1.mp h).1;rw [gL1 hl];exact h
theorem Ext.back {mu mu':List Addr}{H H':Hp}(e:Ext mu mu' H H'):Ext mu mu H H':=⟨List.prefix_rfl,e.old,e.tup,e.frz,fun _ h=>.inl h⟩
structure Exw (mu mu':List Addr)(H H':Hp):Prop where
 pre:mu <+: mu'
 tup:∀ a xs,Rd H a (.tup xs)->Rd H' a (.tup xs)
 frz:∀ a o u,H a=some (.frz o u)->H' a=some (.frz o u)
theorem Ext.w {mu mu':List Addr}{H H':Hp}(e:Ext mu mu' H H'):Exw mu mu' H H':=⟨e.pre,e.tup,e.frz⟩
theorem Exw.trans {mu m1 m2:List Addr}{H H1 H2:Hp}(a:Exw mu m1 H H1)(b:Exw m1 m2 H1 H2):Exw mu m2 H H2:=⟨a.pre.trans b.pre,fun c xs h=>b.tup c xs (a.tup c xs h),fun c o u h=>b.frz c o u (a.frz c o u h)⟩
theorem Exw.at {mu mu':List Addr}{H H':Hp}(e:Exw mu mu' H H'){n:Nat}{a:Addr}(h:mu[n]? = some a):mu'[n]? = some a:=by
 obtain ⟨t,rfl⟩:=e.pre;have hl:n<mu.length:=(gE1.mp h).1;rw [gL1 hl];exact h
structure Exv (mu mu':List Addr)(H H':Hp):Prop where
 pre:mu <+: mu'
 tup:∀ a xs,Rd H a (.tup xs)->Rd H' a (.tup xs)
 frl:∀ a o xs,H a=some (.frz o (.lst xs))->H' a=some (.frz o (.lst xs))
theorem Exw.v {mu mu':List Addr}{H H':Hp}(e:Exw mu mu' H H'):Exv mu mu' H H':=⟨e.pre,e.tup,fun a o xs h=>e.frz a o _ h⟩
theorem Ext.v {mu mu':List Addr}{H H':Hp}(e:Ext mu mu' H H'):Exv mu mu' H H':=e.w.v
theorem Exv.at {mu mu':List Addr}{H H':Hp}(e:Exv mu mu' H H'){n:Nat}{a:Addr}(h:mu[n]? = some a):mu'[n]? = some a:=by
 obtain ⟨t,rfl⟩:=e.pre;have hl:n<mu.length:=(gE1.mp h).1;rw [gL1 hl];exact h
theorem SqT.exv {K:Fg1}{mu mu':List Addr}{H H':Hp}{a:Addr}{vs:List V}(e:Exv mu mu' H H')(h:SqT K H a vs):SqT K H' a vs:=by
 rcases h with h | h
 ·exact .inl (e.tup a vs h)
 ·exact .inr h
theorem RoL.exv {K:Fg1}{mu mu':List Addr}{H H':Hp}{a:Addr}{vs:List V}(e:Exv mu mu' H H')(h:RoL K H a vs):RoL K H' a vs:=by
 rcases h with ⟨o,h⟩ | h
 ·exact .inl ⟨o,e.frl a o _ h⟩
 ·exact .inr h
theorem Rep.exv {K:Fg1}{mu mu':List Addr}{H H':Hp}(e:Exv mu mu' H H'):∀ {d:D} {v:V},Rep K H mu d v->Rep K H' mu' d v:=fun h=>h.rec (motive_1:=fun d v _=>Rep K H' mu' d v) (motive_2:=fun ds vs _=>Reps K H' mu' ds vs)
  .non .bl .int .str (fun h _ ih=>.tup (SqT.exv e h) ih) (fun h _ ih=>.rol (RoL.exv e h) ih) (fun h=>.ref (e.at h)) (fun h=>.fn h) .nil (fun _ _ a b=>.cons a b)
theorem Reps.ind {K:Fg1}{mu:List Addr}{H:Hp}{P:(ds:List D)->(vs:List V)->Reps K H mu ds vs->Prop}(hn:P [] [] .nil)(hc:∀ {d v ds vs} (r:Rep K H mu d v) (t:Reps K H mu ds vs),P ds vs t->P (d::ds) (v::vs) (.cons r t)){ds:List D}{vs:List V}(h:Reps K H mu ds vs):P ds vs h:=
 h.rec (motive_1:=fun _ _ _=>True) (motive_2:=P) trivial (fun _=>trivial) (fun _=>trivial) (fun _=>trivial) (fun _ _ _=>trivial) (fun _ _ _=>trivial) (fun _=>trivial) (fun _=>trivial) hn (fun r t _ ih=>hc r t ih)
theorem Reps.exv {K:Fg1}{mu mu':List Addr}{H H':Hp}(e:Exv mu mu' H H'):∀ {ds:List D} {vs:List V},Reps K H mu ds vs->Reps K H' mu' ds vs:=fun h=>h.ind (P:=fun ds vs _=>Reps K H' mu' ds vs) .nil fun r _ ih=>.cons (Rep.exv e r) ih
section
variable {K:Fg1} {mu mu':List Addr} {H H':Hp} {a:Addr} {vs:List V}
theorem Rep.exw (e:Exw mu mu' H H'){d:D}{v:V}(h:Rep K H mu d v):Rep K H' mu' d v:=h.exv e.v
theorem Reps.exw (e:Exw mu mu' H H'){ds:List D}(h:Reps K H mu ds vs):Reps K H' mu' ds vs:=h.exv e.v
theorem Rep.ext (e:Ext mu mu' H H'){d:D}{v:V}(h:Rep K H mu d v):Rep K H' mu' d v:=h.exv e.v
theorem Reps.ext (e:Ext mu mu' H H'){ds:List D}(h:Reps K H mu ds vs):Reps K H' mu' ds vs:=h.exv e.v
end
section
variable {K:Fg1} {H:Hp} {mu:List Addr}
theorem Reps.length:∀ {ds:List D} {vs:List V},Reps K H mu ds vs->ds.length=vs.length:=fun h=>h.ind (P:=fun ds vs _=>ds.length=vs.length) rfl fun _ _ ih=>congrArg (· + 1) ih
theorem Reps.get:∀ {ds:List D} {vs:List V} {i:Nat} {d:D},Reps K H mu ds vs->ds[i]? = some d -> ∃ v,vs[i]? = some v/\Rep K H mu d v:=by
 intro ds vs i d h e
 induction h using Reps.ind generalizing i with
 | hn=>cases e
 | hc r t ih=>cases i with
  | zero=>cases e;exact ⟨_,rfl,r⟩
  | succ i=>exact ih (i:=i) e
theorem Reps.getV:∀ {ds:List D} {vs:List V} {i:Nat} {v:V},Reps K H mu ds vs->vs[i]? = some v -> ∃ d,ds[i]? = some d/\Rep K H mu d v:=by
 intro ds vs i d h e
 induction h using Reps.ind generalizing i with
 | hn=>cases e
 | hc r t ih=>cases i with
  | zero=>cases e;exact ⟨_,rfl,r⟩
  | succ i=>exact ih (i:=i) e
theorem Reps.append:∀ {ds es:List D} {vs ws:List V},Reps K H mu ds vs->Reps K H mu es ws->Reps K H mu (ds++es) (vs++ws):=fun h s=>h.ind (P:=fun ds vs _=>Reps K H mu (ds++_) (vs++_)) s fun r _ ih=>.cons r ih
theorem Reps.take:∀ {ds:List D} {vs:List V} (n:Nat),Reps K H mu ds vs->Reps K H mu (ds.take n) (vs.take n):=by
 intro ds vs n h
 induction h using Reps.ind generalizing n with
 | hn=>rw [List.take_nil,List.take_nil];exact .nil
 | hc r t ih=>cases n with
  | zero=>exact .nil
  | succ n=>exact .cons r (ih n)
theorem Reps.drop:∀ {ds:List D} {vs:List V} (n:Nat),Reps K H mu ds vs->Reps K H mu (ds.drop n) (vs.drop n):=by
 intro ds vs n h
 induction h using Reps.ind generalizing n with
 | hn=>rw [List.drop_nil,List.drop_nil];exact .nil
 | hc r t ih=>cases n with
  | zero=>exact .cons r t
  | succ n=>exact ih n
theorem Reps.set {d:D}{v:V}(r:Rep K H mu d v):∀ {ds:List D} {vs:List V} (i:Nat),Reps K H mu ds vs->Reps K H mu (ds.set i d) (vs.set i v):=by
 intro ds vs i h
 induction h using Reps.ind generalizing i with
 | hn=>exact .nil
 | hc q t ih=>cases i with
  | zero=>exact .cons r t
  | succ i=>exact .cons q (ih i)
theorem Reps.eraseIdx:∀ {ds:List D} {vs:List V} (i:Nat),Reps K H mu ds vs->Reps K H mu (ds.eraseIdx i) (vs.eraseIdx i):=by
 intro ds vs i h
 induction h using Reps.ind generalizing i with
 | hn=>exact .nil
 | hc q t ih=>cases i with
  | zero=>exact t
  | succ i=>exact .cons q (ih i)
end
noncomputable def KR {κ:Type}(K:Fg1)(H:Hp)(mu:List Addr):List (κ×D)->List (κ×V)->Prop:=Paired fun p q=>p.1=q.1/\Rep K H mu p.2 q.2
mutual
noncomputable def tkD:TK->D
 | .non=>.non
 | .int i=>.int i
 | .tup xs=>.tup (tkDs xs)
noncomputable def tkDs:List TK->List D
 | []=>[]
 | x::xs=>tkD x::tkDs xs
end
noncomputable def qdv (a:Addr)(xs:List (TK×Addr×Value))(h:Heap):Prop:=(a == sysModules)=false/\(xs.map (·.1)).Nodup /\ ∃ o es ep,h.get? a=some o/\o.ExactDict/\o.data = .dict es ep/\es.toList=xs.map fun x=>(⟨x.1.hash,.ref x.2.1,x.2.2⟩:DictEntry)
noncomputable def qqR (a:Addr)(xs:List (TK×Addr×Value))(o:Obj):Prop:=(a == sysModules)=false/\(xs.map (·.1)).Nodup/\o.ExactDict /\ ∃ es ep,o.data = .dict es ep/\es.toList=xs.map fun x=>(⟨x.1.hash,.ref x.2.1,x.2.2⟩:DictEntry)
noncomputable def KT (K:Fg1)(H:Hp)(mu:List Addr):List (TK×D)->List (TK×Addr×Value)->Prop:=Paired fun p q=>p.1=q.1/\p.1.dep<=8/\Rep K H mu (tkD p.1) (.ref q.2.1) /\ ∃ v,RelV v q.2.2/\Rep K H mu p.2 v
noncomputable def ObR (K:Fg1)(H:Hp)(mu:List Addr)(a:Addr):Ob->Prop
 | .lst ds=>∃ vs,H a=some (.lst vs)/\Reps K H mu ds vs
 | .dct kvs=>∃ ws,H a=some (.dK ws)/\KR K H mu kvs ws
 | .dcT kvs=>∃ xs,H a=some (.ext (qdv a xs))/\KT K H mu kvs xs/\xs.length<=sizeLine
 | .iset xs=>H a=some (.set (fun k=>xs.contains k) xs.length)/\xs.Nodup
 | .dcF kvs=>∃ xs,(∃ o u,H a=some (.frz o u)/\qqR a xs o)/\KT K H mu kvs xs/\xs.length<=sizeLine
structure Sim (K:Fg1)(H:Hp)(mu:List Addr)(S:Sto):Prop where
 len:mu.length=S.length
 nd:mu.Nodup
 ob:∀ (n:Nat) (o:Ob) (a:Addr),S[n]? = some o->mu[n]? = some a->ObR K H mu a o
structure EnvR (K:Fg1)(H:Hp)(mu:List Addr)(r:Ev)(σ:L2.St):Prop where
 len:r.length=σ.length
 val:∀ (i:Nat) (d:D),r[i]? = some (some d) -> ∃ v,σ[i]? = some (some v)/\Rep K H mu d v
theorem EnvR.ext {K:Fg1}{mu mu':List Addr}{H H':Hp}{r:Ev}{σ:L2.St}(e:Ext mu mu' H H')(h:EnvR K H mu r σ):EnvR K H' mu' r σ:=⟨h.len,fun i d q=>by
 obtain ⟨v,e1,r1⟩:=h.val i d q;exact ⟨v,e1,r1.ext e⟩⟩
theorem KR.ext {κ:Type}{K:Fg1}{mu mu':List Addr}{H H':Hp}{ks:List (κ×D)}{ws:List (κ×V)}(e:Ext mu mu' H H')(h:KR K H mu ks ws):KR K H' mu' ks ws:=
 Paired.mapP h fun _ _ z=>⟨z.1,z.2.ext e⟩
theorem KT.ext {K:Fg1}{mu mu':List Addr}{H H':Hp}{ks:List (TK×D)}{ws:List (TK×Addr×Value)}(e:Ext mu mu' H H')(h:KT K H mu ks ws):KT K H' mu' ks ws:=
 Paired.mapP h fun _ _ ⟨z,d,k,v,rv,r⟩=>⟨z,d,k.ext e,v,rv,r.ext e⟩
theorem Sim.nil {K:Fg1}{H:Hp}:Sim K H [] []:=⟨rfl,List.nodup_nil,fun n o a h=>by simp at h⟩
theorem Sim.here {K:Fg1}{H:Hp}{mu:List Addr}{S:Sto}(s:Sim K H mu S){a:Addr}(h:a∈mu):∃ o,H a=some o:=by
 obtain ⟨n,hn⟩:=List.getElem?_of_mem h;have hl:n<S.length:=by rw [<- s.len];exact (gE1.mp hn).1
 have q:=s.ob n _ a (gG1 hl) hn;cases e:S[n] with
 | lst ds=>rw [e] at q;obtain ⟨vs,z,_⟩:=q;exact ⟨_,z⟩
 | dct ks=>rw [e] at q;obtain ⟨vs,z,_⟩:=q;exact ⟨_,z⟩
 | dcT ks=>rw [e] at q;obtain ⟨vs,z,_⟩:=q;exact ⟨_,z⟩
 | iset xs=>rw [e] at q;exact ⟨_,q.1⟩
 | dcF ks=>rw [e] at q;obtain ⟨vs,⟨_,_,z,_⟩,_⟩:=q;exact ⟨_,z⟩
noncomputable def Cont (K:Fg1)(mu:List Addr)(H:Hp)(d:D)(S':Sto)(Q:VK):Prop:=∀ v H' mu',Ext mu mu' H H'->Rep K H' mu' d v->Sim K H' mu' S'->Q v H'
inductive tM (K:Fg1)(m:FE)(σ:L2.St)(H:Hp)(Q:VK):Prop
 | mk (r:Ev) (mu:List Addr) (S:Sto) (d:D) (S':Sto) (he:EnvR K H mu r σ) (hs:Sim K H mu S) (hm:m r S=some (d,S')) (hc:Cont K mu H d S' Q)
inductive tMT (K:Fg1)(m:FT)(σ:L2.St)(H:Hp)(Q:Bool->Hp->Prop):Prop
 | mk (r:Ev) (mu:List Addr) (S:Sto) (b:Bool) (S':Sto) (he:EnvR K H mu r σ) (hs:Sim K H mu S) (hm:m r S=some (b,S')) (hc:∀ H' mu',Ext mu mu' H H'->Sim K H' mu' S'->Q b H')
inductive tMA (K:Fg1)(m:FA)(σ:L2.St)(H:Hp)(Q:List V->Hp->Prop):Prop
 | mk (r:Ev) (mu:List Addr) (S:Sto) (ds:List D) (S':Sto) (he:EnvR K H mu r σ) (hs:Sim K H mu S) (hm:m r S=some (ds,S')) (hc:∀ vs H' mu',Ext mu mu' H H'->Reps K H' mu' ds vs->Sim K H' mu' S'->Q vs H')
noncomputable def tMSC (K:Fg1)(mu:List Addr)(H:Hp)(r':Ev)(S':Sto)(E:Ends)(f:Fl):Prop:=match f with
 | .nx=>∀ σ' H' mu',Ext mu mu' H H'->EnvR K H' mu' r' σ'->Sim K H' mu' S'->E.nx σ' H'
 | .bk=>∀ σ' H' mu',Ext mu mu' H H'->EnvR K H' mu' r' σ'->Sim K H' mu' S'->E.bk σ' H'
 | .ct=>∀ σ' H' mu',Ext mu mu' H H'->EnvR K H' mu' r' σ'->Sim K H' mu' S'->E.ct σ' H'
 | .rt d=>Cont K mu H d S' E.rt
inductive tMS (K:Fg1)(m:FS)(E:Ends)(σ:L2.St)(H:Hp):Prop
 | mk (r:Ev) (mu:List Addr) (S:Sto) (f:Fl) (r':Ev) (S':Sto) (he:EnvR K H mu r σ) (hs:Sim K H mu S) (hm:m r S=some (f,r',S')) (hc:tMSC K mu H r' S' E f)
inductive rN (K:Fg1)(f:FN)(vs:List V)(H:Hp)(Q:VK):Prop
 | mk (mu:List Addr) (S:Sto) (ds:List D) (d:D) (S':Sto) (hr:Reps K H mu ds vs) (hs:Sim K H mu S) (hm:f ds S=some (d,S')) (hc:Cont K mu H d S' Q)
noncomputable abbrev ME (X:Cx)(e:Expr)(m:FE):Prop:=PE X e (tM X.K m)
noncomputable abbrev MT (X:Cx)(e:Expr)(m:FT):Prop:=PT X e (tMT X.K m)
noncomputable abbrev MW (X:Cx)(e:Expr)(m:FT):Prop:=PW X e (tMT X.K m)
noncomputable abbrev MA (X:Cx)(es:List Expr)(m:FA):Prop:=PA X es (tMA X.K m)
noncomputable abbrev MS (X:Cx)(st:Stmt)(m:FS):Prop:=PS X st (tMS X.K m)
noncomputable abbrev MSs (X:Cx)(st:List Stmt)(m:FS):Prop:=PSs X st (tMS X.K m)
section
variable {X:Cx} {e:Expr} {es:List Expr} {st:Stmt} {sts:List Stmt}
theorem qaW {t t':TE}(h:PE X e t)(i:∀ σ H Q,t' σ H Q->t σ H Q):PE X e t':=fun pins s σ H Q I q=>h pins s σ H Q I (i σ H Q q)
theorem qiM {t t':TT}(h:PT X e t)(i:∀ σ H Q,t' σ H Q->t σ H Q):PT X e t':=fun pins s σ H Q I q=>h pins s σ H Q I (i σ H Q q)
theorem qlM {t t':TT}(h:PW X e t)(i:∀ σ H Q,t' σ H Q->t σ H Q):PW X e t':=fun wh pins s σ H Q I q=>h wh pins s σ H Q I (i σ H Q q)
theorem qlN {t t':TA}(h:PA X es t)(i:∀ σ H Q,t' σ H Q->t σ H Q):PA X es t':=fun pos pins s σ H Q I q=>h pos pins s σ H Q I (i σ H Q q)
theorem qct {t t':TS}(h:PS X st t)(i:∀ E σ H,t' E σ H->t E σ H):PS X st t':=fun pins s σ H E I q=>h pins s σ H E I (i E σ H q)
theorem qiN {t t':TS}(h:PSs X sts t)(i:∀ E σ H,t' E σ H->t E σ H):PSs X sts t':=fun pins s σ H E I q=>h pins s σ H E I (i E σ H q)
end
noncomputable def mV (i:Nat):FE:=fun r S=>match r[i]? with
 | some (some d)=>some (d,S)
 | _=>none
noncomputable def mC (d:D):FE:=fun _ S=>some (d,S)
section
variable {X:Cx} {pos:Pos}
theorem qpG (i:Nat){x:Str}(hN:X.N[i]? = some x)(hv:Vis X.env.scope x)(hd:(x == ("__debug__":Str))=false:=by decide)(hcd:(x == ("__classdict__":Str))=false:=by decide):ME X (.Name x pos) (mV i):=
 qaW (qo2 hN hv hd hcd) <| by
  rintro σ H Q ⟨r,mu,S,d,S',he,hs,hm,hc⟩;unfold mV at hm;split at hm
  ·rename_i d' e;cases hm;obtain ⟨v,e1,r1⟩:=he.val i _ e;exact ⟨v,e1,hc v H mu (.refl _ _) r1 hs⟩
  ·cases hm
theorem me_c {e:Expr}{v:V}(d:D)(h:PE X e (tC v))(hr:∀ H mu,Rep X.K H mu d v):ME X e (mC d):=
 qaW h <| by
  rintro σ H Q ⟨r,mu,S,d',S',he,hs,hm,hc⟩;cases hm;exact hc v H mu (.refl _ _) (hr H mu) hs
theorem qpO {i:Int}{j}:ME X (.Constant (.int i) j pos) (mC (.int i)):=me_c _ qo9 fun _ _=>.int i
theorem qrE {b:Bool}{j}:ME X (.Constant (.bool b) j pos) (mC (.bl b)):=me_c _ qro fun _ _=>.bl b
theorem qpM {j}:ME X (.Constant .none j pos) (mC .non):=me_c _ qo7 fun _ _=>.non
theorem qpI {x:Str}{j}:ME X (.Constant (.str x) j pos) (mC (.str x)):=me_c _ qo4 fun _ _=>.str x
end
noncomputable def mNil:FA:=fun _ S=>some ([],S)
noncomputable def qaa (m:FE)(n:FA):FA:=fun r S=>(m r S).bind fun p=>(n r p.2).bind fun q=>some (p.1::q.1,q.2)
section
variable {X:Cx} {pos:Pos} {e:Expr} {es:List Expr} {m:FE} {n:FA}
theorem qpS:MA X [] mNil:=qlN qdT <| by
 rintro σ H Q ⟨r,mu,S,ds,S',he,hs,hm,hc⟩;cases hm;exact hc [] H mu (.refl _ _) .nil hs
theorem qno (h:ME X e m)(ht:MA X es n)(hs:starEach (e::es) X.env=(false,eval e X.env)::starEach es X.env:=by rfl):MA X (e::es) (qaa m n):=
 qlN (qcf h ht hs) <| by
  rintro σ H Q ⟨r,mu,S,ds,S',he,hs,hm,hc⟩;unfold qaa at hm;obtain ⟨⟨d,S1⟩,e1,hm⟩:=oB1.mp hm;obtain ⟨⟨ds1,S2⟩,e2,hm⟩:=oB1.mp hm;cases hm;refine ⟨r,mu,S,d,S1,he,hs,e1,fun v H1 mu1 x1 r1 s1=>?_⟩;refine ⟨r,mu1,S1,ds1,_,he.ext x1,s1,e2,fun vs H2 mu2 x2 r2 s2=>?_⟩;exact hc _ H2 mu2 (x1.trans x2) (.cons (r1.ext x2) r2) s2
end
noncomputable def m2 (f:FN)(a b:FE):FE:=fun r S=>(a r S).bind fun p=>(b r p.2).bind fun q=>f [p.1,q.1] q.2
noncomputable def m1 (f:FN)(a:FE):FE:=fun r S=>(a r S).bind fun p=>f [p.1] p.2
noncomputable def mN (f:FN)(a:FA):FE:=fun r S=>(a r S).bind fun p=>f p.1 p.2
noncomputable abbrev r2 (K:Fg1)(f:FN):R2:=fun x y H Q=>rN K f [x,y] H Q
section
variable {X:Cx} {K:Fg1} {f:FN} {a b:FE} {σ:L2.St} {H:Hp} {Q:VK}
theorem qk4 (h:tM K (m2 f a b) σ H Q):tOp (r2 K f) (tM K a) (tM K b) σ H Q:=by
 obtain ⟨r,mu,S,d,S',he,hs,hm,hc⟩:=h;obtain ⟨⟨d1,S1⟩,e1,hm⟩:=oB1.mp hm;obtain ⟨⟨d2,S2⟩,e2,hm⟩:=oB1.mp hm;refine ⟨r,mu,S,d1,S1,he,hs,e1,fun v H1 mu1 x1 r1 s1=>?_⟩;refine ⟨r,mu1,S1,d2,S2,he.ext x1,s1,e2,fun u H2 mu2 x2 r2 s2=>?_⟩;exact ⟨mu2,S2,[d1,d2],d,S',.cons (r1.ext x2) (.cons r2 .nil),s2,hm,fun v H3 mu3 x3 r3 s3=>hc v H3 mu3 ((x1.trans x2).trans x3) r3 s3⟩
theorem qrG (h:tM K (m1 f a) σ H Q):tUn (fun x H Q=>rN K f [x] H Q) (tM K a) σ H Q:=by
 obtain ⟨r,mu,S,d,S',he,hs,hm,hc⟩:=h;obtain ⟨⟨d1,S1⟩,e1,hm⟩:=oB1.mp hm;refine ⟨r,mu,S,d1,S1,he,hs,e1,fun v H1 mu1 x1 r1 s1=>?_⟩;exact ⟨mu1,S1,[d1],d,S',.cons r1 .nil,s1,hm,fun v H3 mu3 x3 r3 s3=>hc v H3 mu3 (x1.trans x3) r3 s3⟩
theorem qnp {a:FA}(h:tM K (mN f a) σ H Q):tMA K a σ H fun vs H1=>rN K f vs H1 Q:=by
 obtain ⟨r,mu,S,d,S',he,hs,hm,hc⟩:=h;obtain ⟨⟨d1,S1⟩,e1,hm⟩:=oB1.mp hm;refine ⟨r,mu,S,d1,S1,he,hs,e1,fun v H1 mu1 x1 r1 s1=>?_⟩;exact ⟨mu1,S1,d1,d,S',r1,s1,hm,fun v H3 mu3 x3 r3 s3=>hc v H3 mu3 (x1.trans x3) r3 s3⟩
theorem qrB {op:Operator}{x y:Expr}{pos:Pos}(ho:OpR X (binaryOp op) (r2 X.K f))(hx:ME X x a)(hy:ME X y b):ME X (.BinOp x op y pos) (m2 f a b):=qaW (qrl ho hx hy) fun _ _ _=>qk4
theorem qrA {op:UnaryOp}{x:Expr}{pos:Pos}(ho:UnR X (unaryOp op) (fun x H Q=>rN X.K f [x] H Q))(hx:ME X x a):ME X (.UnaryOp op x pos) (m1 f a):=qaW (qrk ho hx) fun _ _ _=>qrG
theorem qpP {op:CmpOp}{x y:Expr}{pos:Pos}(ho:OpR X (compareOp op) (r2 X.K f))(hx:ME X x a)(hy:ME X y b)(hm:behindInMarks op y=false):ME X (.Compare x [op] [y] pos) (m2 f a b):=qaW (qmW ho hx hy hm) fun _ _ _=>qk4
theorem qrC {x y:Expr}{pos:Pos}(ho:IxR X (r2 X.K f))(hx:ME X x a)(hy:ME X y b)(hs:qfr y):ME X (.Subscript x y pos) (m2 f a b):=qaW (qrm ho hx hy hs) fun _ _ _=>qk4
theorem qk2 {x:Str}{p pos:Pos}{e:Expr}{es:List Expr}{id:String}{a:FA}(hc:qaN X (.builtin id) (rN X.K f))(hg:Gl X x)(hm:X.mg x=none)(hv:bootBuiltins x=some (.builtin id))(ha:MA X (e::es) a)(hn:x≠"__name__":=by decide)(hdb:(x == ("__debug__":Str))=false:=by decide)
  (he:starEach (e::es) X.env=(false,eval e X.env)::starEach es X.env:=by rfl) (hpl:(backTo pos (starEach es X.env)).any (·.1)=false:=by rfl):ME X (.Call (.Name x p) (e::es) [] pos) (mN f a):=
 qaW (qdF hc hg hm hv ha hn hdb he hpl) fun _ _ _=>qnp
theorem qi9 {x:Str}{p pos:Pos}{e:Expr}{es:List Expr}{T:String}{a:FA}(hc:qaN X (.type T) (rN X.K f))(hg:Gl X x)(hm:X.mg x=none)(hv:bootBuiltins x=some (.type T))(ha:MA X (e::es) a)(hn:x≠"__name__":=by decide)(hdb:(x == ("__debug__":Str))=false:=by decide)
  (he:starEach (e::es) X.env=(false,eval e X.env)::starEach es X.env:=by rfl) (hpl:(backTo pos (starEach es X.env)).any (·.1)=false:=by rfl):ME X (.Call (.Name x p) (e::es) [] pos) (mN f a):=
 qaW (qcW hc hg hm hv ha hn hdb he hpl) fun _ _ _=>qnp
end
noncomputable def mB (m:FE):FT:=fun r S=>(m r S).bind fun p=>match p.1 with
 | .bl b=>some (b,p.2)
 | _=>none
theorem qrF {K:Fg1}{m:FE}{σ:L2.St}{H:Hp}{Q:Bool->Hp->Prop}(h:tMT K (mB m) σ H Q):tB (tM K m) σ H Q:=by
 obtain ⟨r,mu,S,b,S',he,hs,hm,hc⟩:=h;obtain ⟨⟨d1,S1⟩,e1,hm⟩:=oB1.mp hm;cases d1 with
 | bl k=>
  cases hm;refine ⟨r,mu,S,_,_,he,hs,e1,fun v H1 mu1 x1 r1 s1=>?_⟩;cases r1;exact ⟨_,rfl,hc H1 mu1 x1 s1⟩
 | _=>cases hm
noncomputable def mAnd (a b:FT):FT:=fun r S=>(a r S).bind fun p=>if p.1=true then b r p.2 else some (false,p.2)
noncomputable def mOr (a b:FT):FT:=fun r S=>(a r S).bind fun p=>if p.1=true then some (true,p.2) else b r p.2
noncomputable def mNot (a:FT):FT:=fun r S=>(a r S).bind fun p=>some (!p.1,p.2)
noncomputable def qjb (a b:FE):FE:=fun r S=>(a r S).bind fun p=>match p.1 with
 | .bl c=>if c=true then b r p.2 else some (.bl false,p.2)
 | _=>none
noncomputable def mOrV (a b:FE):FE:=fun r S=>(a r S).bind fun p=>match p.1 with
 | .bl c=>if c=true then some (.bl true,p.2) else b r p.2
 | _=>none
noncomputable def qk3 (a:FE):FE:=fun r S=>(a r S).bind fun p=>match p.1 with
 | .bl c=>some (.bl (!c),p.2)
 | _=>none
noncomputable def mIf (c:FT)(a b:FE):FE:=fun r S=>(c r S).bind fun p=>if p.1=true then a r p.2 else b r p.2
section
variable {X:Cx} {x y c:Expr} {rest:List Expr} {pos:Pos} {a b:FT} {f g:FE}
theorem qpw {op:CmpOp}{f:FN}{a b:FE}(ho:OpR X (compareOp op) (r2 X.K f))(hx:ME X x a)(hy:ME X y b)(hm:behindInMarks op y=false):MT X (.Compare x [op] [y] pos) (mB (m2 f a b)):=
 qiM (qmJ ho hx hy hm) fun σ H Q h=>by
  obtain ⟨r,mu,S,d,S',he,hs,hm,hc⟩:=qrF h;exact qk4 ⟨r,mu,S,d,S',he,hs,hm,fun v H' mu' x1 r1 s1=>hc v H' mu' x1 r1 s1⟩
theorem qm9 (ha:MT X x a):MW X (.BoolOp .And [x] pos) a:=qmI ha
theorem qpt (ha:MT X x a):MW X (.BoolOp .Or [x] pos) a:=qoK ha
theorem qpu (ha:MT X x a)(hb:MW X (.BoolOp .And (y::rest) pos) b):MW X (.BoolOp .And (x::y::rest) pos) (mAnd a b):=
 qlM (qoL ha hb) <| by
  rintro σ H Q ⟨r,mu,S,k,S',he,hs,hm,hc⟩;obtain ⟨⟨b1,S1⟩,e1,hm⟩:=oB1.mp hm;refine ⟨r,mu,S,b1,S1,he,hs,e1,fun H1 mu1 x1 s1=>?_⟩;cases b1 with
  | true=>exact ⟨r,mu1,S1,k,S',he.ext x1,s1,hm,fun H2 mu2 x2 s2=>hc H2 mu2 (x1.trans x2) s2⟩
  | false=>cases hm;exact hc H1 mu1 x1 s1
theorem qry (ha:MT X x a)(hb:MW X (.BoolOp .Or (y::rest) pos) b):MW X (.BoolOp .Or (x::y::rest) pos) (mOr a b):=
 qlM (qrh ha hb) <| by
  rintro σ H Q ⟨r,mu,S,k,S',he,hs,hm,hc⟩;obtain ⟨⟨b1,S1⟩,e1,hm⟩:=oB1.mp hm;refine ⟨r,mu,S,b1,S1,he,hs,e1,fun H1 mu1 x1 s1=>?_⟩;cases b1 with
  | false=>exact ⟨r,mu1,S1,k,S',he.ext x1,s1,hm,fun H2 mu2 x2 s2=>hc H2 mu2 (x1.trans x2) s2⟩
  | true=>cases hm;exact hc H1 mu1 x1 s1
theorem mt_w (h:MW X x a):MT X x a:=PW.pt h
theorem qpv (ha:MT X x a):MT X (.UnaryOp .Not x pos) (mNot a):=
 qiM (qoN ha) <| by
  rintro σ H Q ⟨r,mu,S,k,S',he,hs,hm,hc⟩;obtain ⟨⟨b1,S1⟩,e1,hm⟩:=oB1.mp hm;cases hm;exact ⟨r,mu,S,b1,S1,he,hs,e1,fun H1 mu1 x1 s1=>hc H1 mu1 x1 s1⟩
theorem qpK {op}(h:ME X x f):ME X (.BoolOp op [x] pos) f:=qo5 h
theorem qpQ (ha:ME X x f)(hb:ME X (.BoolOp .And (y::rest) pos) g):ME X (.BoolOp .And (x::y::rest) pos) (qjb f g):=
 qaW (qpa ha hb) <| by
  rintro σ H Q ⟨r,mu,S,k,S',he,hs,hm,hc⟩;obtain ⟨⟨d1,S1⟩,e1,hm⟩:=oB1.mp hm;refine ⟨r,mu,S,d1,S1,he,hs,e1,fun v H1 mu1 x1 r1 s1=>?_⟩;cases d1 with
  | bl b1=>
   cases r1;refine ⟨b1,rfl,?_⟩;cases b1 with
   | true=>exact ⟨r,mu1,S1,k,S',he.ext x1,s1,hm,fun v2 H2 mu2 x2 r2 s2=>hc v2 H2 mu2 (x1.trans x2) r2 s2⟩
   | false=>cases hm;exact hc _ H1 mu1 x1 (.bl false) s1
  | _=>cases hm
theorem qpL (ha:ME X x f):ME X (.UnaryOp .Not x pos) (qk3 f):=
 qaW (qo6 ha) <| by
  rintro σ H Q ⟨r,mu,S,k,S',he,hs,hm,hc⟩;obtain ⟨⟨d1,S1⟩,e1,hm⟩:=oB1.mp hm;refine ⟨r,mu,S,d1,S1,he,hs,e1,fun v H1 mu1 x1 r1 s1=>?_⟩;cases d1 with
  | bl b1=>
   cases r1;cases hm;exact ⟨b1,rfl,hc _ H1 mu1 x1 (.bl _) s1⟩
  | _=>cases hm
theorem qrD (hc:MT X c a)(hx:ME X x f)(hy:ME X y g):ME X (.IfExp c x y pos) (mIf a f g):=
 qaW (qkM hc hx hy) <| by
  rintro σ H Q ⟨r,mu,S,k,S',he,hs,hm,hc⟩;obtain ⟨⟨b1,S1⟩,e1,hm⟩:=oB1.mp hm;refine ⟨r,mu,S,b1,S1,he,hs,e1,fun H1 mu1 x1 s1=>?_⟩;cases b1 with
  | true=>exact ⟨r,mu1,S1,k,S',he.ext x1,s1,hm,fun v2 H2 mu2 x2 r2 s2=>hc v2 H2 mu2 (x1.trans x2) r2 s2⟩
  | false=>exact ⟨r,mu1,S1,k,S',he.ext x1,s1,hm,fun v2 H2 mu2 x2 r2 s2=>hc v2 H2 mu2 (x1.trans x2) r2 s2⟩
end
section
variable {X:Cx} {x y z:Expr} {pos:Pos} {f g:FN} {a b c:FE} {op op':CmpOp}
end
mutual
noncomputable def D.und (n:Nat):D->Bool
 | .tup xs=>D.unds n xs
 | .rol xs=>D.unds n xs
 | .ref k=>decide (k<n)
 | .non=>true
 | .bl _=>true
 | .int _=>true
 | .str _=>true
 | .fn _=>true
noncomputable def D.unds (n:Nat):List D->Bool
 | []=>true
 | d::ds=>D.und n d&&D.unds n ds
end
noncomputable def D.sames (a b:List D):Bool:=@decide (a=b) (Classical.propDecidable _)
theorem D.sames_eq {a b:List D}(h:D.sames a b=true):a=b:=@of_decide_eq_true _ (Classical.propDecidable _) h
theorem D.sames_refl (a:List D):D.sames a a=true:=@decide_eq_true _ (Classical.propDecidable _) rfl
section
variable {K:Fg1} {H:Hp} {mu mu':List Addr}
theorem Rep.cut {n:Nat}(h:∀ k,k<n->mu[k]? = mu'[k]?):∀ {d:D} {v:V},Rep K H mu d v->d.und n=true->Rep K H mu' d v:=fun h0=>h0.rec (motive_1:=fun d v _=>d.und n=true->Rep K H mu' d v) (motive_2:=fun ds vs _=>D.unds n ds=true->Reps K H mu' ds vs)
  (fun _=>.non) (fun b _=>.bl b) (fun i _=>.int i) (fun x _=>.str x) (fun q _ ih e=>.tup q (ih (by rw [D.und] at e;exact e))) (fun q _ ih e=>.rol q (ih (by rw [D.und] at e;exact e)))
  (fun q e=>.ref (by rw [D.und] at e;rw [<- h _ (of_decide_eq_true e)];exact q)) (fun q _=>.fn q) (fun _=>.nil) (fun _ _ a b e=>by rw [D.unds,bA1] at e;exact .cons (a e.1) (b e.2))
theorem Reps.cut {n:Nat}(h:∀ k,k<n->mu[k]? = mu'[k]?):∀ {ds:List D} {vs:List V},Reps K H mu ds vs->D.unds n ds=true->Reps K H mu' ds vs:=fun h0=>h0.ind (P:=fun ds vs _=>D.unds n ds=true->Reps K H mu' ds vs) (fun _=>.nil) fun r _ b e=>by rw [D.unds,bA1] at e;exact .cons (Rep.cut h r e.1) (b e.2)
end
noncomputable def Ob.und (n:Nat):Ob->Bool
 | .lst xs=>D.unds n xs
 | .dct kvs=>D.unds n (kvs.map (·.2))
 | .dcT kvs=>D.unds n (kvs.map (·.2))
 | .iset _=>true
 | .dcF kvs=>D.unds n (kvs.map (·.2))
theorem KR.cut {κ:Type}{K:Fg1}{H:Hp}{mu mu':List Addr}{n:Nat}(h:∀ k,k<n->mu[k]? = mu'[k]?):∀ {ks:List (κ×D)} {ws:List (κ×V)},KR K H mu ks ws->D.unds n (ks.map (·.2))=true->KR K H mu' ks ws:=by
 intro ks ws h0 e
 induction h0 with
 | nil=>exact .nil
 | cons r t ih=>
  rw [mP1,D.unds,bA1] at e;exact .cons ⟨r.1,r.2.cut h e.1⟩ (ih e.2)
mutual
theorem qlF (n:Nat):∀ k:TK,(tkD k).und n=true
 | .non=>rfl
 | .int _=>rfl
 | .tup xs=>by rw [tkD,D.und];exact qiq n xs
theorem qiq (n:Nat):∀ ks:List TK,D.unds n (tkDs ks)=true
 | []=>rfl
 | x::xs=>by rw [tkDs,D.unds,qlF n x,qiq n xs];rfl
end
theorem KT.cut {K:Fg1}{H:Hp}{mu mu':List Addr}{n:Nat}(h:∀ k,k<n->mu[k]? = mu'[k]?):∀ {ks:List (TK×D)} {ws:List (TK×Addr×Value)},KT K H mu ks ws->D.unds n (ks.map (·.2))=true->KT K H mu' ks ws:=by
 intro ks ws h0 e
 induction h0 with
 | nil=>exact .nil
 | cons r t ih=>
  rw [mP1,D.unds,bA1] at e;obtain ⟨z,d,k,v,rv,r⟩:=r;exact .cons ⟨z,d,k.cut h (qlF n _),v,rv,r.cut h e.1⟩ (ih e.2)
theorem ObR.cut {K:Fg1}{H:Hp}{mu mu':List Addr}{n:Nat}{a:Addr}(h:∀ k,k<n->mu[k]? = mu'[k]?):∀ {o:Ob},ObR K H mu a o->o.und n=true->ObR K H mu' a o
 | .lst _,⟨vs,e,r⟩,b=>⟨vs,e,r.cut h b⟩
 | .dct _,⟨ws,e,r⟩,b=>⟨ws,e,KR.cut h r b⟩
 | .dcT _,⟨ws,e,r,l⟩,b=>⟨ws,e,KT.cut h r b,l⟩
 | .iset _,q,_=>q
 | .dcF _,⟨ws,e,r,l⟩,b=>⟨ws,e,KT.cut h r b,l⟩
noncomputable def gc (n:Nat)(p:D×Sto):D×Sto:=if p.1.und n&&(p.2.take n).all (Ob.und n) then (p.1,p.2.take n) else p
mutual
noncomputable def D.sh (n:Nat):D->D
 | .tup xs=>.tup (D.shs n xs)
 | .rol xs=>.rol (D.shs n xs)
 | .ref k=>.ref (n+k)
 | .fn x=>.fn x
 | .non=>.non
 | .bl b=>.bl b
 | .int i=>.int i
 | .str x=>.str x
noncomputable def D.shs (n:Nat):List D->List D
 | []=>[]
 | d::ds=>D.sh n d::D.shs n ds
end
noncomputable def Ob.sh (n:Nat):Ob->Ob
 | .lst xs=>.lst (D.shs n xs)
 | .dct kvs=>.dct (kvs.map fun p=>(p.1,p.2.sh n))
 | .dcT kvs=>.dcT (kvs.map fun p=>(p.1,p.2.sh n))
 | .iset xs=>.iset xs
 | .dcF kvs=>.dcF (kvs.map fun p=>(p.1,p.2.sh n))
theorem Rep.sh {K:Fg1}{H:Hp}{mu mu':List Addr}:∀ {d:D} {v:V},Rep K H mu' d v->Rep K H (mu++mu') (d.sh mu.length) v:=fun h0=>h0.rec (motive_1:=fun d v _=>Rep K H (mu++mu') (d.sh mu.length) v) (motive_2:=fun ds vs _=>Reps K H (mu++mu') (D.shs mu.length ds) vs)
  .non .bl .int .str (fun h _ ih=>.tup h ih) (fun h _ ih=>.rol h ih) (fun h=>.ref (by rw [gR1 (Nat.le_add_right _ _),Nat.add_sub_cancel_left];exact h)) (fun h=>.fn h) .nil (fun _ _ a b=>.cons a b)
theorem Reps.sh {K:Fg1}{H:Hp}{mu mu':List Addr}:∀ {ds:List D} {vs:List V},Reps K H mu' ds vs->Reps K H (mu++mu') (D.shs mu.length ds) vs:=fun h=>h.ind (P:=fun ds vs _=>Reps K H (mu++mu') (D.shs mu.length ds) vs) .nil fun r _ ih=>.cons (Rep.sh r) ih
theorem KR.sh {κ:Type}{K:Fg1}{H:Hp}{mu mu':List Addr}:∀ {ks:List (κ×D)} {ws:List (κ×V)},KR K H mu' ks ws->KR K H (mu++mu') (ks.map fun p=>(p.1,p.2.sh mu.length)) ws:=by
 intro ks ws h
 induction h with
 | nil=>exact .nil
 | cons r t ih=>exact .cons ⟨r.1,r.2.sh⟩ ih
mutual
theorem qos (n:Nat):∀ k:TK,(tkD k).sh n=tkD k
 | .non=>rfl
 | .int _=>rfl
 | .tup xs=>by rw [tkD,D.sh,qlE n xs]
theorem qlE (n:Nat):∀ ks:List TK,D.shs n (tkDs ks)=tkDs ks
 | []=>rfl
 | x::xs=>by rw [tkDs,D.shs,qos n x,qlE n xs]
end
theorem KT.sh {K:Fg1}{H:Hp}{mu mu':List Addr}:∀ {ks:List (TK×D)} {ws:List (TK×Addr×Value)},KT K H mu' ks ws->KT K H (mu++mu') (ks.map fun p=>(p.1,p.2.sh mu.length)) ws:=by
 intro ks ws h
 induction h with
 | nil=>exact .nil
 | cons r t ih=>
  obtain ⟨z,d,k,v,rv,r⟩:=r;exact .cons ⟨z,d,by have:=k.sh (mu:=mu);rw [qos] at this;exact this,v,rv,r.sh⟩ ih
theorem ObR.sh {K:Fg1}{H:Hp}{mu mu':List Addr}{a:Addr}:∀ {o:Ob},ObR K H mu' a o->ObR K H (mu++mu') a (o.sh mu.length)
 | .lst _,⟨vs,e,r⟩=>⟨vs,e,r.sh⟩
 | .dct _,⟨ws,e,r⟩=>⟨ws,e,KR.sh r⟩
 | .dcT _,⟨ws,e,r,l⟩=>⟨ws,e,KT.sh r,l⟩
 | .iset _,q=>q
 | .dcF _,⟨ws,e,r,l⟩=>⟨ws,e,KT.sh r,l⟩
theorem Rep.mor {K:Fg1}{H:Hp}{mu:List Addr}(mu':List Addr):∀ {d:D} {v:V},Rep K H mu d v->Rep K H (mu++mu') d v:=fun h=>h.exv ⟨List.prefix_append _ _,fun _ _ h=>h,fun _ _ _ h=>h⟩
theorem Reps.mor {K:Fg1}{H:Hp}{mu:List Addr}(mu':List Addr):∀ {ds:List D} {vs:List V},Reps K H mu ds vs->Reps K H (mu++mu') ds vs:=fun h=>h.exv ⟨List.prefix_append _ _,fun _ _ h=>h,fun _ _ _ h=>h⟩
theorem KR.mor {κ:Type}{K:Fg1}{H:Hp}{mu:List Addr}(mu':List Addr){ks:List (κ×D)}{ws:List (κ×V)}(h:KR K H mu ks ws):KR K H (mu++mu') ks ws:=Paired.mapP h fun _ _ z=>⟨z.1,z.2.mor mu'⟩
theorem ObR.mor {K:Fg1}{H:Hp}{mu:List Addr}{a:Addr}(mu':List Addr):∀ {o:Ob},ObR K H mu a o->ObR K H (mu++mu') a o
 | .lst _,⟨vs,e,r⟩=>⟨vs,e,r.mor mu'⟩
 | .dct _,⟨ws,e,r⟩=>⟨ws,e,KR.mor mu' r⟩
 | .dcT _,⟨ws,e,r,l⟩=>⟨ws,e,Paired.mapP r fun _ _ ⟨z,d,k,v,rv,r⟩=>⟨z,d,k.mor mu',v,rv,r.mor mu'⟩,l⟩
 | .iset _,q=>q
 | .dcF _,⟨ws,e,r,l⟩=>⟨ws,e,Paired.mapP r fun _ _ ⟨z,d,k,v,rv,r⟩=>⟨z,d,k.mor mu',v,rv,r.mor mu'⟩,l⟩
noncomputable def qh5 (f:FN):FN:=fun ds S=>if D.unds 0 ds=true then (f ds []).map fun p=>if p.1.und 0=true then (p.1,S) else (p.1.sh S.length,S++p.2.map (Ob.sh S.length)) else (f ds S).map (gc S.length)
theorem ObR.keep {K:Fg1}{H H':Hp}{mu:List Addr}{a:Addr}(e:Ext mu mu H H')(h:∀ o,H a=some o->H' a=some o):∀ {o:Ob},ObR K H mu a o->ObR K H' mu a o
 | .lst _,⟨vs,q,r⟩=>⟨vs,h _ q,r.ext e⟩
 | .dct _,⟨ws,q,r⟩=>⟨ws,h _ q,KR.ext e r⟩
 | .dcT _,⟨ws,q,r,l⟩=>⟨ws,h _ q,KT.ext e r,l⟩
 | .iset _,q=>⟨h _ q.1,q.2⟩
 | .dcF _,⟨ws,⟨o,u,e1,e2⟩,r,l⟩=>⟨ws,⟨o,u,h _ e1,e2⟩,KT.ext e r,l⟩
theorem qls {K:Fg1}{f:FN}{vs:List V}{H:Hp}{Q:VK}(h:rN K (qh5 f) vs H Q):rN K f vs H Q:=by
 obtain ⟨mu,S,ds,d,S',hr,hs,hm,hc⟩:=h;unfold qh5 at hm;split at hm
 ·rename_i hb;obtain ⟨⟨d1,S1⟩,e1,hm⟩:=oM1.mp hm;refine ⟨[],[],ds,d1,S1,hr.cut (n:=0) (fun k hk=>absurd hk (Nat.not_lt_zero _)) hb,.nil,e1,fun v H' mu' x r s=>?_⟩;have x':Ext mu mu H H':=⟨List.prefix_rfl,fun a o e _=>x.old a o e (by simp),x.tup,x.frz,fun _ z=>.inl z⟩;dsimp only at hm;split at hm
  ·rename_i hd;cases hm;refine hc v H' mu x' (r.cut (n:=0) (fun k hk=>absurd hk (Nat.not_lt_zero _)) hd) ⟨hs.len,hs.nd,fun n o a h1 h2=>?_⟩;exact (hs.ob n o a h1 h2).keep x' fun o e=>x.old a o e (by simp)
  ·cases hm;have fr:∀ a∈mu',H a=none:=fun a ha=>(x.new a ha).resolve_left (by simp);have x2:Ext mu (mu++mu') H H':=⟨List.prefix_append _ _,fun a o e _=>x.old a o e (by simp),x.tup,x.frz,fun a z=>by
    rcases List.mem_append.mp z with z | z
    ·exact .inl z
    ·exact .inr (fr a z)⟩
   refine hc v H' (mu++mu') x2 (by rw [<- hs.len];exact r.sh) ⟨by rw [lA1,lA1,lM1,hs.len,s.len],?_,fun n o a h1 h2=>?_⟩
   ·refine List.nodup_append.mpr ⟨hs.nd,s.nd,fun a ha b hb z=>?_⟩;subst z;obtain ⟨o,e⟩:=hs.here ha;rw [fr a hb] at e;cases e
   ·by_cases hn:n<S.length
    ·rw [gL1 hn] at h1;rw [gL1 (by rw [hs.len];exact hn)] at h2;exact ((hs.ob n o a h1 h2).keep x' fun o e=>x.old a o e (by simp)).mor mu'
    ·have hn':=Nat.le_of_not_lt hn;rw [gR1 hn'] at h1;rw [gR1 (by rw [hs.len];exact hn')] at h2;rw [gP1] at h1;obtain ⟨o1,g1,g2⟩:=oM1.mp h1;subst g2;have q:=s.ob (n-S.length) o1 a g1 (by rw [hs.len] at h2;exact h2);rw [<- hs.len];exact q.sh
 ·obtain ⟨⟨d1,S1⟩,e1,hm⟩:=oM1.mp hm;refine ⟨mu,S,ds,d1,S1,hr,hs,e1,fun v H' mu' x r s=>?_⟩;unfold gc at hm;split at hm
  ·rename_i hb;cases hm;rw [bA1] at hb;have hk:∀ k,k<S.length->mu'[k]? = mu[k]?:=fun k hk=>by
    obtain ⟨t,rfl⟩:=x.pre;rw [gL1 (by rw [hs.len];exact hk)]
   refine hc v H' mu x.back (r.cut hk hb.1) ⟨?_,hs.nd,fun n o a h1 h2=>?_⟩
   ·have:=s.len;have h3:=x.pre.length_le;rw [List.length_take,<- s.len];rw [hs.len] at h3 ⊢;exact (Nat.min_eq_left h3).symm
   ·have hn:n<S.length:=by rw [<- hs.len];exact (gE1.mp h2).1
    have h1':S1[n]? = some o:=by rw [List.getElem?_take_of_lt hn] at h1;exact h1
    refine (s.ob n o a h1' ((hk n hn).trans h2)).cut hk ?_;exact List.all_eq_true.mp hb.2 o (gM1 h1)
  ·cases hm;exact hc v H' mu' x r s
noncomputable def spM (K:Fg1)(n:Nat)(f:FN):Sp:=fun vs H Q _=>vs.length=n/\rN K f vs H Q
section
variable {X:Cx} {k n:Nat} {f:Addr} {fd:FuncData} {ps:List Str} {x:Str} {p pos:Pos} {e:Expr} {es:List Expr} {m:FN} {a:FA}
noncomputable def qaf (n:Nat)(f:FN):FN:=fun ds S=>if ds.length=n then qh5 f ds S else none
theorem qnm (F:FnOk X.prog X.w X.K X.mg X.base CX0 k f fd ps (spM X.K n m))(hr:Room k X.A)(hg:Gl X x)(hm:X.mg x=some (.ref f))(hk:wK1 X.K (.ref f)=true)(hb:qfs X.K fd ps [])
  (ha:MA X (e::es) a) (hdb:(x == ("__debug__":Str))=false:=by decide) (he:starEach (e::es) X.env=(false,eval e X.env)::starEach es X.env:=by rfl) (hpl:(backTo pos (starEach es X.env)).any (·.1)=false:=by rfl):
  ME X (.Call (.Name x p) (e::es) [] pos) (mN (qaf n m) a):=
 qaW (qmX (E:=E0) F hr hg hm hk hb .nil qrp ha hdb he hpl) fun σ H Q h=>by
  obtain ⟨r,mu,S,ds,S',he,hs,hm,hc⟩:=qnp h;refine ⟨r,mu,S,ds,S',he,hs,hm,fun vs H' mu' x1 r1 s1=>?_⟩;have q:=hc vs H' mu' x1 r1 s1;show spM X.K n m (vs++[]) H' Q E0;rw [List.append_nil];obtain ⟨mu2,S2,ds2,d2,S3,h1,h2,h3,h4⟩:=q;unfold qaf at h3;split at h3
  ·rename_i hl;exact ⟨by rw [<- h1.length];exact hl,qls ⟨mu2,S2,ds2,d2,S3,h1,h2,h3,h4⟩⟩
  ·cases h3
end
noncomputable def mNx:FS:=fun r S=>some (.nx,r,S)
noncomputable def mSeq (a b:FS):FS:=fun r S=>(a r S).bind fun p=>match p.1 with
 | .nx=>b p.2.1 p.2.2
 | f=>some (f,p.2.1,p.2.2)
noncomputable def mRet (m:FE):FS:=fun r S=>(m r S).bind fun p=>some (.rt p.1,r,p.2)
noncomputable def mRetN:FS:=fun r S=>some (.rt .non,r,S)
noncomputable def qdc (m:FE):FS:=fun r S=>(m r S).bind fun p=>some (.nx,r,p.2)
noncomputable def mIfS (c:FT)(a b:FS):FS:=fun r S=>(c r S).bind fun p=>if p.1=true then a r p.2 else b r p.2
section
variable {X:Cx} {pos:Pos} {e c:Expr} {st:Stmt} {rest as bs:List Stmt} {a b:FS} {m:FE} {t:FT}
theorem qnc:MSs X [] mNx:=qiN qmL <| by
 rintro E σ H ⟨r,mu,S,f,r',S',he,hs,hm,hc⟩;cases hm;exact hc σ H mu (.refl _ _) he hs
theorem qkY (h1:MS X st a)(h2:MSs X rest b):MSs X (st::rest) (mSeq a b):=qiN (qkD h1 h2) <| by
 rintro E σ H ⟨r,mu,S,f,r',S',he,hs,hm,hc⟩;obtain ⟨⟨f1,r1,S1⟩,e1,hm⟩:=oB1.mp hm;refine ⟨r,mu,S,f1,r1,S1,he,hs,e1,?_⟩;cases f1 with
 | nx=>
  intro σ1 H1 mu1 x1 he1 hs1;refine ⟨r1,mu1,S1,f,r',S',he1,hs1,hm,?_⟩;cases f with
  | nx=>exact fun σ2 H2 mu2 x2=>hc σ2 H2 mu2 (x1.trans x2)
  | bk=>exact fun σ2 H2 mu2 x2=>hc σ2 H2 mu2 (x1.trans x2)
  | ct=>exact fun σ2 H2 mu2 x2=>hc σ2 H2 mu2 (x1.trans x2)
  | rt d=>exact fun v H2 mu2 x2=>hc v H2 mu2 (x1.trans x2)
 | bk=>cases hm;exact hc
 | ct=>cases hm;exact hc
 | rt d=>cases hm;exact hc
theorem qnb (h1:MS X st a):MSs X [st] a:=qmK h1
theorem qnd (h:ME X e m)(hs:swapsWith e none pos.line X.env=pure false:=by rfl):MS X (.Expr e pos) (qdc m):=qct (qmN h hs) <| by
 rintro E σ H ⟨r,mu,S,f,r',S',he,hs,hm,hc⟩;obtain ⟨⟨d,S1⟩,e1,hm⟩:=oB1.mp hm;cases hm;exact ⟨r,mu,S,d,_,he,hs,e1,fun v H' mu' x r1 s1=>hc σ H' mu' x (he.ext x) s1⟩
theorem qpy (h:ME X e m):MS X (.Return (some e) pos) (mRet m):=qct (qoP h) <| by
 rintro E σ H ⟨r,mu,S,f,r',S',he,hs,hm,hc⟩;obtain ⟨⟨d,S1⟩,e1,hm⟩:=oB1.mp hm;cases hm;exact ⟨r,mu,S,d,_,he,hs,e1,hc⟩
theorem qrz (hc:MT X c t)(ha:MSs X as a)(hb:MSs X bs b):MS X (.If c as bs pos) (mIfS t a b):=qct (qri hc ha hb) <| by
 rintro E σ H ⟨r,mu,S,f,r',S',he,hs,hm,hc⟩;obtain ⟨⟨k,S1⟩,e1,hm⟩:=oB1.mp hm;refine ⟨r,mu,S,k,S1,he,hs,e1,fun H1 mu1 x1 s1=>?_⟩;have go:∀ c:FS,c r S1=some (f,r',S')->tMS X.K c E σ H1:=fun c hm=>by
  refine ⟨r,mu1,S1,f,r',S',he.ext x1,s1,hm,?_⟩;cases f with
  | nx=>exact fun σ2 H2 mu2 x2=>hc σ2 H2 mu2 (x1.trans x2)
  | bk=>exact fun σ2 H2 mu2 x2=>hc σ2 H2 mu2 (x1.trans x2)
  | ct=>exact fun σ2 H2 mu2 x2=>hc σ2 H2 mu2 (x1.trans x2)
  | rt d=>exact fun v H2 mu2 x2=>hc v H2 mu2 (x1.trans x2)
 cases k with
 | true=>exact go a hm
 | false=>exact go b hm
end
noncomputable abbrev FG:=D->Ev->Sto->Option (Ev×Sto)
noncomputable abbrev FGs:=List D->Ev->Sto->Option (Ev×Sto)
inductive tMG (K:Fg1)(g:FG)(v:V)(σ:L2.St)(H:Hp)(Q:L2.St->Hp->Prop):Prop
 | mk (r:Ev) (mu:List Addr) (S:Sto) (d:D) (r':Ev) (S':Sto) (he:EnvR K H mu r σ) (hs:Sim K H mu S) (hr:Rep K H mu d v) (hm:g d r S=some (r',S')) (hc:∀ σ' H' mu',Ext mu mu' H H'->EnvR K H' mu' r' σ'->Sim K H' mu' S'->Q σ' H')
inductive tMGs (K:Fg1)(g:FGs)(vs:List V)(σ:L2.St)(H:Hp)(Q:L2.St->Hp->Prop):Prop
 | mk (r:Ev) (mu:List Addr) (S:Sto) (ds:List D) (r':Ev) (S':Sto) (he:EnvR K H mu r σ) (hs:Sim K H mu S) (hr:Reps K H mu ds vs) (hm:g ds r S=some (r',S')) (hc:∀ σ' H' mu',Ext mu mu' H H'->EnvR K H' mu' r' σ'->Sim K H' mu' S'->Q σ' H')
noncomputable abbrev MG (X:Cx)(e:Expr)(g:FG):Prop:=PG X e (tMG X.K g)
noncomputable abbrev MGs (X:Cx)(es:List Expr)(g:FGs):Prop:=PGs X es (tMGs X.K g)
noncomputable def gN (i:Nat):FG:=fun d r S=>some (r.set i (some d),S)
noncomputable def gNl:FGs:=fun ds r S=>match ds with
 | []=>some (r,S)
 | _=>none
noncomputable def gCs (g:FG)(gs:FGs):FGs:=fun ds r S=>match ds with
 | d::ds=>(g d r S).bind fun p=>gs ds p.1 p.2
 | []=>none
noncomputable def gT (n:Nat)(gs:FGs):FG:=fun d r S=>match d with
 | .tup ds=>if ds.length=n then gs ds r S else none
 | _=>none
theorem EnvR.set {K:Fg1}{H:Hp}{mu:List Addr}{r:Ev}{σ:L2.St}{i:Nat}{d:D}{v:V}(h:EnvR K H mu r σ)(q:Rep K H mu d v):EnvR K H mu (r.set i (some d)) (σ.set i (some v)):=by
 refine ⟨by rw [List.length_set,List.length_set];exact h.len,fun j d' e=>?_⟩;by_cases hj:i=j
 ·subst hj;have hl:i<r.length:=by
   have:=(gE1.mp e).1
   rwa [List.length_set] at this
  rw [List.getElem?_set_self hl] at e;cases e;exact ⟨v,List.getElem?_set_self (by rw [<- h.len];exact hl),q⟩
 ·rw [gS1 hj] at e;obtain ⟨v',e1,r1⟩:=h.val j d' e;exact ⟨v',by rw [gS1 hj];exact e1,r1⟩
section
variable {X:Cx} {pos:Pos}
theorem qiT {e:Expr}{t t':TG}(h:PG X e t)(i:∀ v σ H Q,t' v σ H Q->t v σ H Q):PG X e t':=fun pins s σ H v u Q I r q=>h pins s σ H v u Q I r (i v σ H Q q)
theorem qiR {e:List Expr}{t t':TGs}(h:PGs X e t)(i:∀ v σ H Q,t' v σ H Q->t v σ H Q):PGs X e t':=fun pins s σ H v u Q I r q=>h pins s σ H v u Q I r (i v σ H Q q)
theorem qnk (i:Nat){x:Str}(hN:X.N.Nodup)(hi:X.N[i]? = some x)(hx:Loc X.env.scope x)(hf:X.fn x=true\/X.env.scope.names.lookup x=some .local:=by first | exact .inl rfl | exact .inr rfl | assumption):MG X (.Name x pos) (gN i):=
 qiT (qiS hN hi hx hf) <| by
  rintro v σ H Q ⟨r,mu,S,d,r',S',he,hs,hr,hm,hc⟩;cases hm;exact hc _ H mu (.refl _ _) (he.set hr) hs
theorem qnj:MGs X [] gNl:=qiR qmT <| by
 rintro vs σ H Q ⟨r,mu,S,ds,r',S',he,hs,hr,hm,hc⟩;unfold gNl at hm;split at hm
 ·cases hm;cases hr;exact ⟨rfl,hc σ H mu (.refl _ _) he hs⟩
 ·cases hm
theorem qk0 {e:Expr}{es:List Expr}{g:FG}{gs:FGs}(h1:MG X e g)(h2:MGs X es gs)(hs:(assignEach (e::es) X.env).map (·.2)=assign e X.env::(assignEach es X.env).map (·.2):=by rfl):MGs X (e::es) (gCs g gs):=
 qiR (qkJ h1 h2 hs) <| by
  rintro vs σ H Q ⟨r,mu,S,ds,r',S',he,hs,hr,hm,hc⟩;unfold gCs at hm;split at hm
  ·obtain ⟨⟨r1,S1⟩,e1,hm⟩:=oB1.mp hm;cases hr with
   | cons q t=>
    exact ⟨_,_,rfl,r,mu,S,_,r1,S1,he,hs,q,e1,fun σ1 H1 mu1 x1 he1 s1=>⟨r1,mu1,S1,_,r',S',he1,s1,t.ext x1,hm,fun σ2 H2 mu2 x2=>hc σ2 H2 mu2 (x1.trans x2)⟩⟩
  ·cases hm
theorem qpE {es:List Expr}{k:Nat}{gs:FGs}{n:Nat}(hc:X.calm=true)(h:MGs X es gs)(hn:(assignEach es X.env).length=n:=by rfl)(hst:(assignEach es X.env).findIdx? (·.1)=none:=by rfl):MG X (.Tuple es k pos) (gT n gs):=
 qiT (qo0 hc h hn hst) <| by
  rintro v σ H Q ⟨r,mu,S,d,r',S',he,hs,hr,hm,hc⟩;cases d with
  | tup ds=>
   rw [gT] at hm;split at hm
   ·rename_i hl;cases hr with
    | tup q t=>exact ⟨_,_,rfl,q,by rw [<- t.length];exact hl,r,mu,S,ds,r',S',he,hs,t,hm,hc⟩
   ·cases hm
  | _=>cases hm
inductive rU (K:Fg1)(f:FN)(o i v:V)(H:Hp)(Q:Hp->Prop):Prop
 | mk (mu:List Addr) (S:Sto) (ds:List D) (d:D) (S':Sto) (hr:Reps K H mu ds [o,i,v]) (hs:Sim K H mu S) (hm:f ds S=some (d,S')) (hc:∀ H' mu',Ext mu mu' H H'->Sim K H' mu' S'->Q H')
noncomputable def gS (f:FN)(a b:FE):FG:=fun d r S=>(a r S).bind fun p=>(b r p.2).bind fun q=>(f [p.1,q.1,d] q.2).bind fun t=>some (r,t.2)
theorem qpF {o i:Expr}{a b:FE}{f:FN}(ho:ME X o a)(hi:ME X i b)(hs:PSet X (rU X.K f))
  (ha:∀ v,assign (.Subscript o i pos) X.env v=(do
   let ov<-holding [v] (eval o X.env)
   let iv<-holding [v,ov] (eval i X.env)
   standAt pos
   holding [v,ov,iv] (setItem ov iv v)
   release [v,ov,iv] []):=by intro _;rfl):MG X (.Subscript o i pos) (gS f a b):=
 qiT (qo1 ho hi hs ha) <| by
  rintro v σ H Q ⟨r,mu,S,d,r',S',he,hs,hr,hm,hc⟩;obtain ⟨⟨d1,S1⟩,e1,hm⟩:=oB1.mp hm;obtain ⟨⟨d2,S2⟩,e2,hm⟩:=oB1.mp hm;obtain ⟨⟨d3,S3⟩,e3,hm⟩:=oB1.mp hm;cases hm;refine ⟨r,mu,S,d1,S1,he,hs,e1,fun v1 H1 mu1 x1 r1 s1=>?_⟩;refine ⟨r,mu1,S1,d2,S2,he.ext x1,s1,e2,fun v2 H2 mu2 x2 r2 s2=>?_⟩;exact ⟨mu2,S2,[d1,d2,d],d3,_,.cons (r1.ext x2) (.cons r2 (.cons ((hr.ext x1).ext x2) .nil)),s2,e3,fun H3 mu3 x3 s3=>hc σ H3 mu3 ((x1.trans x2).trans x3) (((he.ext x1).ext x2).ext x3) s3⟩
noncomputable def mAsg (m:FE)(g:FG):FS:=fun r S=>(m r S).bind fun p=>(g p.1 r p.2).bind fun q=>some (.nx,q.1,q.2)
theorem qgy {K:Fg1}{m:FE}{g:FG}{E:Ends}{σ:L2.St}{H:Hp}(h:tMS K (mAsg m g) E σ H):tAsg (tM K m) (tMG K g) E σ H:=by
 obtain ⟨r,mu,S,f,r',S',he,hs,hm,hc⟩:=h;obtain ⟨⟨d1,S1⟩,e1,hm⟩:=oB1.mp hm;obtain ⟨⟨r2,S2⟩,e2,hm⟩:=oB1.mp hm;cases hm;refine ⟨r,mu,S,d1,S1,he,hs,e1,fun v1 H1 mu1 x1 r1 s1=>?_⟩;exact ⟨r,mu1,S1,d1,_,_,he.ext x1,s1,r1,e2,fun σ2 H2 mu2 x2=>hc σ2 H2 mu2 (x1.trans x2)⟩
theorem qpA {tg e:Expr}{m:FE}{g:FG}(he:ME X e m)(hg:MG X tg g)(hs:swapsWithSole [tg] e pos.line X.env=pure false:=by rfl)(hw:swappedStores [tg] e X.env=pure none:=by rfl)
  (h1:(assignEach [tg] X.env).map (·.2)=[assign tg X.env]:=by rfl):MS X (.Assign [tg] e pos) (mAsg m g):=qct (qoS he hg hs hw h1) fun _ _ _=>qgy
theorem qpx (i:Nat){x:Str}{e:Expr}{m:FE}{pos':Pos}(hN:X.N.Nodup)(hi:X.N[i]? = some x)(hx:Loc X.env.scope x)(he:ME X e m)(hs:swapsWith e (some (.Name x pos')) pos.line X.env=pure false:=by rfl)(hf:X.fn x=true\/X.env.scope.names.lookup x=some .local:=by first | exact .inl rfl | exact .inr rfl | assumption):
  MS X (.Assign [.Name x pos'] e pos) (mAsg m (gN i)):=qct (qoO hN hi hx he hs hf) fun E σ H h=>by
 obtain ⟨r,mu,S,d,S',h1,h2,h3,h4⟩:=qgy h;refine ⟨r,mu,S,d,S',h1,h2,h3,fun v H' mu' x1 r1 s1=>?_⟩;obtain ⟨r2,mu2,S2,d2,r3,S3,q1,q2,q3,q4,q5⟩:=h4 v H' mu' x1 r1 s1;cases q4;exact q5 _ H' mu2 (.refl _ _) (q1.set q3) q2
noncomputable def mAug (i:Nat)(f:FN)(m:FE):FS:=fun r S=>match r[i]? with
 | some (some d)=>(m r S).bind fun p=>(f [d,p.1] p.2).bind fun q=>some (.nx,r.set i (some q.1),q.2)
 | _=>none
end
noncomputable def whl (c:FT)(b:FS):Nat->FS
 | 0=>fun _ _=>none
 | n+1=>fun r S=>(c r S).bind fun p=>if p.1=true then (b r p.2).bind fun q=>match q.1 with
   | .nx=>whl c b n q.2.1 q.2.2
   | .ct=>whl c b n q.2.1 q.2.2
   | .bk=>some (.nx,q.2.1,q.2.2)
   | .rt d=>some (.rt d,q.2.1,q.2.2)
  else some (.nx,r,p.2)
theorem qof {K:Fg1}{c:FT}{b:FS}{n:Nat}{E:Ends}{σ:L2.St}{H:Hp}(h:tMS K (whl c b n) E σ H):qlG (tMT K c) (tMS K b) E σ H:=by
 refine ⟨fun m σ' H'=>tMS K (whl c b m) E σ' H',⟨n,h⟩,fun m σ1 H1 q=>?_⟩;obtain ⟨r,mu,S,f,r',S',he,hs,hm,hc⟩:=q;cases m with
 | zero=>cases hm
 | succ m=>
  obtain ⟨⟨k,S1⟩,e1,hm⟩:=oB1.mp hm;refine ⟨r,mu,S,k,S1,he,hs,e1,fun H2 mu2 x2 s2=>?_⟩;cases k with
  | false=>
   cases hm;exact hc σ1 H2 mu2 x2 (he.ext x2) s2
  | true=>
   obtain ⟨⟨f3,r3,S3⟩,e3,hm⟩:=oB1.mp hm;have go:∀ {σ' H' mu'},Ext mu2 mu' H2 H'->EnvR K H' mu' r3 σ'->Sim K H' mu' S3->whl c b m r3 S3=some (f,r',S')->tMS K (whl c b m) E σ' H':=fun {σ' H' mu'} x he3 s3 hm=>by
    refine ⟨r3,mu',S3,f,r',S',he3,s3,hm,?_⟩;cases f with
    | nx=>exact fun σ2 H2 mu2 y=>hc σ2 H2 mu2 ((x2.trans x).trans y)
    | bk=>exact fun σ2 H2 mu2 y=>hc σ2 H2 mu2 ((x2.trans x).trans y)
    | ct=>exact fun σ2 H2 mu2 y=>hc σ2 H2 mu2 ((x2.trans x).trans y)
    | rt d=>exact fun v H2 mu2 y=>hc v H2 mu2 ((x2.trans x).trans y)
   refine ⟨fun σ' H'=>tMS K (whl c b m) E σ' H',fun σ' H' q=>⟨m,Nat.lt_succ_self _,q⟩,r,mu2,S1,f3,r3,S3,he.ext x2,s2,e3,?_⟩;cases f3 with
   | nx=>exact fun σ' H' mu' x he3 s3=>go x he3 s3 hm
   | ct=>exact fun σ' H' mu' x he3 s3=>go x he3 s3 hm
   | bk=>cases hm;exact fun σ' H' mu' x he3 s3=>hc σ' H' mu' (x2.trans x) he3 s3
   | rt d=>cases hm;exact fun v H' mu' x r3 s3=>hc v H' mu' (x2.trans x) r3 s3
theorem qkZ {X:Cx}{pos:Pos}(n:Nat){c:Expr}{body:List Stmt}{t:FT}{b:FS}(hp:PassesOwn (model X.prog X.w) X.A X.env X.xe)(hc:MT X c t)(hb:MSs X body b):MS X (.While c body [] pos) (whl t b n):=
 qct (qkE hp hc hb) fun _ _ _=>qof
structure Itm where
 items:List D
 chk:List (Nat×List D)
noncomputable def okC (S:Sto):List (Nat×List D)->Bool
 | []=>true
 | (n,xs)::c=>(match S[n]? with
   | some (.lst ys)=>D.sames ys xs
   | _=>false)&&okC S c
noncomputable def ItR (K:Fg1)(j:It)(J:Itm)(mu:List Addr)(H:Hp):Prop:=∀ i H1 mu1 S1,Exw mu mu1 H H1->Sim K H1 mu1 S1->okC S1 J.chk=true ->
 (∀ d,J.items[i]? = some d->j.go i H1 /\ ∀ x H2,j.yld i H1 x H2->Ext mu1 mu1 H1 H2/\Sim K H2 mu1 S1/\Rep K H2 mu1 d x)/\(J.items.length<=i->j.stop i H1)
noncomputable abbrev FI:=Ev->Sto->Option (Itm×Sto)
inductive tMI (K:Fg1)(m:FI)(σ:L2.St)(H:Hp)(R:It->Hp->Prop):Prop
 | mk (r:Ev) (mu:List Addr) (S:Sto) (J:Itm) (S':Sto) (he:EnvR K H mu r σ) (hs:Sim K H mu S) (hm:m r S=some (J,S')) (hc:∀ j H' mu',Ext mu mu' H H'->ItR K j J mu' H'->Sim K H' mu' S'->R j H')
noncomputable abbrev MI (X:Cx)(tg iter:Expr)(m:FI):Prop:=PI X tg iter (tMI X.K m)
theorem qfB {X:Cx}{tg e:Expr}{t t':TI}(h:PI X tg e t)(i:∀ σ H R,t' σ H R->t σ H R):PI X tg e t':=fun pins s σ H R I q=>h pins s σ H R I (i σ H R q)
theorem qrj {X:Cx}{tg e:Expr}{t t':TI}(h:PI X tg e t)(h':PI X tg e t'):PI X tg e (fun σ H R=>t σ H R\/t' σ H R):=fun pins s σ H R I q=>q.elim (h pins s σ H R I) (h' pins s σ H R I)
noncomputable def qdw (c:List (Nat×List D))(g:FG)(b:FS):List D->FS
 | []=>fun r S=>if okC S c=true then some (.nx,r,S) else none
 | d::ds=>fun r S=>if okC S c=true then (g d r S).bind fun p=>(b p.1 p.2).bind fun q=>match q.1 with
   | .nx=>qdw c g b ds q.2.1 q.2.2
   | .ct=>qdw c g b ds q.2.1 q.2.2
   | .bk=>some (.nx,q.2.1,q.2.2)
   | .rt v=>some (.rt v,q.2.1,q.2.2)
  else none
noncomputable def mFor (m:FI)(g:FG)(b:FS):FS:=fun r S=>(m r S).bind fun p=>qdw p.1.chk g b p.1.items r p.2
theorem qd8 {α:Type}{l:List α}{i:Nat}{d:α}{ds:List α}(h:l.drop i=d::ds):l[i]? = some d/\l.drop (i+1)=ds:=by
 have h1:l[i]? = some d:=by
  have:=congrArg (·[0]?) h;simpa using this
 refine ⟨h1,?_⟩;rw [<- List.drop_drop,h];rfl
inductive MFI (K:Fg1)(mu1:List Addr)(H1:Hp)(c:List (Nat×List D))(g:FG)(b:FS)(f:Fl)(r':Ev)(S':Sto)(L:List D)(σ':L2.St)(H':Hp):Prop
 | mk (r2:Ev) (mu2:List Addr) (S2:Sto):Ext mu1 mu2 H1 H'->EnvR K H' mu2 r2 σ'->Sim K H' mu2 S2->qdw c g b L r2 S2=some (f,r',S')->MFI K mu1 H1 c g b f r' S' L σ' H'
theorem qnq {K:Fg1}{m:FI}{g:FG}{b:FS}{E:Ends}{σ:L2.St}{H:Hp}(h:tMS K (mFor m g b) E σ H):tFor (tMI K m) (tMG K g) (tMS K b) E σ H:=by
 obtain ⟨r,mu,S,f,r',S',he,hs,hm,hc⟩:=h;obtain ⟨⟨J,S1⟩,e1,hm⟩:=oB1.mp hm;refine ⟨r,mu,S,J,S1,he,hs,e1,fun j H1 mu1 x1 J1 s1=>?_⟩;refine ⟨fun i k σ' H'=>k=(J.items.drop i).length/\MFI K mu1 H1 J.chk g b f r' S' (J.items.drop i) σ' H',⟨_,rfl,r,mu1,S1,.refl _ _,he.ext x1,s1,hm⟩,?_⟩;rintro i k σ2 H2 ⟨rfl,r2,mu2,S2,x2,he2,s2,hm2⟩;cases hl:J.items.drop i with
 | nil=>
  left;rw [hl] at hm2;rw [qdw] at hm2;dsimp only at hm2;split at hm2
  ·rename_i ok;cases hm2;refine ⟨(J1 i H2 mu2 _ x2.w s2 ok).2 (List.drop_eq_nil_iff.mp hl),?_⟩;exact hc σ2 H2 mu2 (x1.trans x2) he2 s2
  ·cases hm2
 | cons d ds=>
  right;rw [hl] at hm2;obtain ⟨hi,hd⟩:=qd8 hl;rw [qdw] at hm2;dsimp only at hm2;split at hm2
  ·rename_i ok;obtain ⟨⟨r3,S3⟩,e3,hm2⟩:=oB1.mp hm2;obtain ⟨⟨f4,r4,S4⟩,e4,hm2⟩:=oB1.mp hm2;obtain ⟨go,yl⟩:=(J1 i H2 mu2 _ x2.w s2 ok).1 d hi;refine ⟨go,MFI K mu1 H1 J.chk g b f r' S' ds,?_,fun x H3 y=>?_⟩
   ·intro σ' H' h5;exact ⟨ds.length,Nat.lt_succ_self _,(congrArg List.length hd).symm,hd.symm ▸ h5⟩
   ·obtain ⟨x3,s3,q3⟩:=yl x H3 y;refine ⟨r2,mu2,S2,d,r3,S3,he2.ext x3,s3,q3,e3,fun σ4 H4 mu4 x4 he4 s4=>?_⟩;refine ⟨r3,mu4,S3,f4,r4,S4,he4,s4,e4,?_⟩;cases f4 with
    | nx=>exact fun σ5 H5 mu5 x5 he5 s5=>⟨r4,mu5,S4,(x2.trans x3).trans (x4.trans x5),he5,s5,hm2⟩
    | ct=>exact fun σ5 H5 mu5 x5 he5 s5=>⟨r4,mu5,S4,(x2.trans x3).trans (x4.trans x5),he5,s5,hm2⟩
    | bk=>cases hm2;exact fun σ5 H5 mu5 x5 he5 s5=>hc σ5 H5 mu5 ((x1.trans x2).trans (x3.trans (x4.trans x5))) he5 s5
    | rt v=>cases hm2;exact fun v5 H5 mu5 x5 r5 s5=>hc v5 H5 mu5 ((x1.trans x2).trans (x3.trans (x4.trans x5))) r5 s5
  ·cases hm2
theorem qpz {X:Cx}{pos:Pos}{tg iter:Expr}{body:List Stmt}{m:FI}{g:FG}{b:FS}(hp:PassesOwn (model X.prog X.w) X.A X.env X.xe)(hc:X.calm=true)(hi:MI X tg iter m)(hg:MG X tg g)(hb:MSs X body b)
  (hs:∀ x,foldedSetIterable iter X.env x=pure x:=by intro _;rfl):MS X (.For tg iter body [] pos) (mFor m g b):=qct (qoR hp hc hi hg hb hs) fun _ _ _=>qnq
noncomputable def qdN (n:Nat)(ds:List D):Ev:=ds.map some++List.replicate (n-ds.length) none
noncomputable def fnB (n:Nat)(b:FS):FN:=fun ds S=>(b (qdN n ds) S).bind fun p=>match p.1 with
 | .rt d=>some (d,p.2.2)
 | .nx=>some (.non,p.2.2)
 | _=>none
theorem qiw {K:Fg1}{H:Hp}{mu:List Addr}{ds:List D}{vs:List V}(N:List Str)(h:Reps K H mu ds vs):EnvR K H mu (qdN N.length ds) (L2.start N vs):=by
 refine ⟨?_,fun i d e=>?_⟩
 ·unfold qdN L2.start;rw [lA1,lA1,lM1,lM1,lR1,lR1,h.length]
 ·unfold qdN at e;unfold L2.start;by_cases hi:i<ds.length
  ·rw [gL1 (by rw [lM1];exact hi),gP1] at e;obtain ⟨d',e1,e2⟩:=oM1.mp e;cases e2;obtain ⟨v,e3,r⟩:=h.get e1;refine ⟨v,?_,r⟩;rw [gL1 (by rw [lM1,<- h.length];exact hi),gP1,e3];rfl
  ·rw [gR1 (by rw [lM1];lia)] at e;have:=gM1 e;rw [List.mem_replicate] at this;cases this.2
theorem fn_m {P:Program}{w:World}{K:Fg1}{mg:Str->Option Value}{base:Heap}{x qual:Str}{st:Stmt}{f:Addr}{fd:FuncData}{N ps:List Str}{k:Nat}{b:FS}(F:Fun K x qual st f fd)(S:qas N ps (qae st))
  (hbody:∀ (cdv:Value) (A:Around) (outer:List Env) (s:Shared) (H:Hp) (E:XK),Room k (A.deeper (envOfC qual (qae st) s.heap.objs.size f cdv)) ->
   MSs (cxOf CX0 P w K mg base N qual (qae st) f cdv A outer s H E).nox (qbc st) b):FnOk P w K mg base CX0 (k+1) f fd ps (spM K ps.length (fnB N.length b)):=by
 refine Fun.ok F S (fun vs H Q E h=>h.1) fun cdv A outer s H vs Q E hr hsp=>⟨_,hbody cdv A outer s H E hr,?_⟩;obtain ⟨_,mu,St,ds,d,S',h1,h2,h3,h4⟩:=hsp;unfold fnB at h3;obtain ⟨⟨fl,r',S1⟩,e1,h3⟩:=oB1.mp h3;refine ⟨_,mu,St,fl,r',S1,qiw N h1,h2,e1,?_⟩;cases fl with
 | nx=>cases h3;exact fun σ' H' mu' x he s=>h4 .non H' mu' x .non s
 | rt d=>cases h3;exact h4
 | bk=>cases h3
 | ct=>cases h3
noncomputable def cloF (cells:List (Str×Addr)):List (Str×NameKind)->List (Str×Addr)->Option (List (Str×Addr))
 | [],acc=>some acc
 | (n,k)::r,acc=>if k == .free then (cells.lookup n).bind fun c=>cloF cells r ((n,c)::acc) else cloF cells r acc
theorem qjU {env:Env}(f:Str×NameKind->List (Str×Addr)->Sem (ForInStep (List (Str×Addr))))
  (hf:∀ n k cs,f (n,k) cs=if k == .free then (do let c<-cellOf env n;pure (.yield ((n,c)::cs))) else pure (.yield cs)):
  ∀ (names:List (Str×NameKind)) (acc cl:List (Str×Addr)),cloF env.cells names acc=some cl->forIn names acc f=(pure cl:Sem (List (Str×Addr)))
 | [],acc,cl,h=>by cases h;rfl
 | (n,k)::r,acc,cl,h=>by
  rw [List.forIn_cons,hf];unfold cloF at h;split at h
  ·rename_i hk;rw [if_pos hk];obtain ⟨c,e,h⟩:=oB1.mp h;have:cellOf env n=pure c:=by unfold cellOf;rw [e]
   rw [this,pure_bind,pure_bind];exact qjU f hf r _ cl h
  ·rename_i hk;rw [if_neg hk,pure_bind];exact qjU f hf r _ cl h
theorem ql3 {scope:Scope}{env:Env}{cl:List (Str×Addr)}(h:cloF env.cells scope.names []=some cl):closureFor scope env=pure cl:=by
 simp only [closureFor];rw [qjU (env:=env) _ (fun n k cs=>by cases hk:k == NameKind.free<;>simp [hk]) scope.names [] cl h];rfl
theorem qjT {cells:List (Str×Addr)}:∀ {names:List (Str×NameKind)} {acc cl:List (Str×Addr)},cloF cells names acc=some cl->(∀ x c,acc.lookup x=some c->cells.lookup x=some c) -> ∀ x c,cl.lookup x=some c->cells.lookup x=some c
 | [],acc,cl,h,ha=>by cases h;exact ha
 | (n,k)::r,acc,cl,h,ha=>by
  unfold cloF at h;split at h
  ·obtain ⟨c,e,h⟩:=oB1.mp h;refine qjT h fun x c' q=>?_;rw [List.lookup_cons] at q;split at q
   ·rename_i hx;cases q;rw [beq_iff_eq.mp hx];exact e
   ·exact ha x c' q
  ·exact qjT h ha
theorem qfj {cells:List (Str×Addr)}{x:Str}:∀ {names:List (Str×NameKind)} {acc cl:List (Str×Addr)},cloF cells names acc=some cl->(names.lookup x=some .free\/(acc.lookup x).isSome=true)->(cl.lookup x).isSome=true
 | [],acc,cl,h,ha=>by
  cases h;rcases ha with q | q
  ·cases q
  ·exact q
 | (n,k)::r,acc,cl,h,ha=>by
  unfold cloF at h;split at h
  ·obtain ⟨c,e,h⟩:=oB1.mp h;refine qfj h ?_;rcases ha with q | q
   ·rw [List.lookup_cons] at q;split at q
    ·rename_i hx;right;rw [List.lookup_cons,hx];rfl
    ·exact .inl q
   ·right;rw [List.lookup_cons];split
    ·rfl
    ·exact q
  ·rename_i hk;refine qfj h ?_;rcases ha with q | q
   ·rw [List.lookup_cons] at q;split at q
    ·cases q;exact absurd rfl hk
    ·exact .inl q
   ·exact .inr q
theorem qbm {x:Str}{c:Addr}:∀ {names:List (Str×NameKind)} {n:Nat} {acc:List (Str×Addr)},(cellsFrom n names acc).lookup x=some c->(n<=c/\(x,c)∈cellsFrom n names [])\/acc.lookup x=some c
 | [],_,_,h=>.inr h
 | (y,k)::r,n,acc,h=>by
  unfold cellsFrom at h ⊢;split at h
  ·rename_i hk;rw [if_pos hk];have app:∀ (names:List (Str×NameKind)) (m:Nat) (acc:List (Str×Addr)),cellsFrom m names acc=cellsFrom m names []++acc:=by
    intro names
    induction names with
    | nil=>intro m acc;rfl
    | cons p r ih=>
     obtain ⟨z,q⟩:=p;intro m acc;unfold cellsFrom;split
     ·rw [ih _ ((z,m)::acc),ih _ [(z,m)],List.append_assoc];rfl
     ·exact ih m acc
   rcases qbm h with ⟨h1,h2⟩ | h1
   ·refine .inl ⟨by lia,?_⟩;rw [app];exact List.mem_append_left _ h2
   ·rw [List.lookup_cons] at h1;split at h1
    ·rename_i hx;cases h1;refine .inl ⟨nR1 _,?_⟩;rw [app,beq_iff_eq.mp hx];exact mA1 _ mS1
    ·exact .inr h1
  ·rename_i hk;rw [if_neg hk];exact qbm h
theorem qfk {x:Str}{c:Addr}{n:Nat}{acc:List (Str×Addr)}{names:List (Str×NameKind)}(hx:names.lookup x=some .cell)(h:(cellsFrom n names acc).lookup x=some c):n<=c:=by
 have app:∀ (names:List (Str×NameKind)) (m:Nat) (acc:List (Str×Addr)),cellsFrom m names acc=cellsFrom m names []++acc:=by
  intro names
  induction names with
  | nil=>intro m acc;rfl
  | cons p r ih=>
   obtain ⟨z,q⟩:=p;intro m acc;unfold cellsFrom;split
   ·rw [ih _ ((z,m)::acc),ih _ [(z,m)],List.append_assoc];rfl
   ·exact ih m acc
 rw [app,List.lookup_append] at h;have q:=PySem.W.cellsFrom_some names n [] (.inl hx);obtain ⟨c',e⟩:=Option.isSome_iff_exists.mp q;rw [e] at h;cases h;rcases qbm e with ⟨h1,_⟩ | h1
 ·exact h1
 ·cases h1
theorem qcY {M:Model}{A:Around}{E:Value->Shared->Prop}{s:Shared}{scope:Scope}{globals:Addr}{cl:List (Str×Addr)}{qual:Str}{func:Option Addr}{code:Value}{env:Env}{b:Addr}{Q:Env->Shared->Prop}
  (hQ:Q {scope,locals:=s.heap.objs.size,globals,cells:=cellsFrom (s.heap.objs.size+1) scope.names cl,qual,func,code:=env.code,frame:=env.frame,builtins:=env.builtins}
   {s with heap:=pushCells (s.heap.push {cls:=.type "dict",data:=.dict #[]}) scope.names}):
  wpAny M A (newFunctionEnv scope globals cl [] qual func code (some env) b) Q E s:=by
 simp only [newFunctionEnv,Option.isSome_some,if_true];refine wB1 (wpAny_alloc ?_);refine wB1 (wpAny_layCells _ (fun name kind cells=>by cases hkc:kind == NameKind.cell<;>simp [hkc]) _ _ _ _ ?_);rw [show ({s with heap:=s.heap.push {cls:=.type "dict",data:=.dict #[]}}:Shared).heap.objs.size=s.heap.objs.size+1 from hZ1 ..];refine wB1 ?_;rw [List.forIn_nil];exact wP1 (wP1 hQ)
noncomputable def cxC (X:Cx)(scope:Scope)(cl:List (Str×Addr))(T:List Str)(keep:List Nat)(s:Shared)(H:Hp)(fp:List Addr):Cx where
 prog:=X.prog
 w:=X.w
 K:=X.K
 mg:=X.mg
 base:=X.base
 A:=X.A
 N:=T++keep.map fun i=>X.N.getD i (Str.ofString "")
 s₀:=s
 H₀:=H
 env:=compEnvC scope (cellsFrom (s.heap.objs.size+1) scope.names cl) s.heap.objs.size X.env
 outer:=X.stack
 stack:=X.stack
 ex:=fp
 fn:=fun x=>scope.names.lookup x == some .cell
 calm:=X.calm
 pn:=[]
 xe:=fun _ _=>False
noncomputable def inSt (k:Nat)(keep:List Nat)(σ:L2.St):L2.St:=List.replicate k none++keep.map fun i=>(σ[i]?).join
theorem qcz {env:Env}{x:Str}:∀ {names:List (Str×NameKind)},
  (names.map fun (n,k)=>if (k == NameKind.free&&env.scope.kind == .function&&env.kindOf n == some .cell) then (n,NameKind.cell) else (n,k)).lookup x =
   (names.lookup x).map fun k=>if (k == NameKind.free&&env.scope.kind == .function&&env.kindOf x == some .cell) then NameKind.cell else k
 | []=>rfl
 | (n,k)::r=>by
  show List.lookup x ((if (k == NameKind.free&&env.scope.kind == .function&&env.kindOf n == some .cell)=true then (n,NameKind.cell) else (n,k))::_)=_;cases hx:x == n with
  | true=>
   have e:=beq_iff_eq.mp hx;subst e;by_cases hc:(k == NameKind.free&&env.scope.kind == .function&&env.kindOf x == some .cell)=true
   ·rw [if_pos hc,List.lookup_cons,hx,List.lookup_cons,hx];simp only [oP1,if_pos hc]
   ·rw [if_neg hc,List.lookup_cons,hx,List.lookup_cons,hx];simp only [oP1,if_neg hc]
  | false=>
   have ih:=@qcz env x r;by_cases hc:(k == NameKind.free&&env.scope.kind == .function&&env.kindOf n == some .cell)=true
   ·rw [if_pos hc,List.lookup_cons,hx,List.lookup_cons,hx];exact ih
   ·rw [if_neg hc,List.lookup_cons,hx,List.lookup_cons,hx];exact ih
structure CSc (X:Cx)(scope:Scope)(T:List Str)(keep:List Nat):Prop where
 kind:scope.kind = .function
 names:∀ x∈scope.names,x.2 = .local->scope.names.lookup x.1=some .local
 free:∀ i∈keep,∃ x,X.N[i]? = some x/\scope.names.lookup x=some .free/\(X.env.kindOf x=some .cell\/X.env.kindOf x=some .free)/\(x,NameKind.cell)∉scope.names
theorem qhl {X:Cx} {pins:List (Addr×Obj)} {σ:L2.St} {H:Hp} {s:Shared} {scope:Scope} {cl:List (Str×Addr)} {T:List Str} {keep:List Nat} {fp:List Addr} (I:Inv X pins σ H s)
  (C:CSc X scope T keep) (hcl:cloF X.env.cells scope.names []=some cl) (hf:∀ b∈fp,FpOk X pins H b) (hfo:∀ b∈fp,∃ o,s.heap.get? b=some o):
  Inv (cxC X scope cl T keep s H fp) [] (inSt T.length keep σ) H {s with heap:=pushCells (s.heap.push {cls:=.type "dict",data:=.dict #[]}) scope.names}:=by
 have kept:∀ b o,s.heap.get? b=some o->(pushCells (s.heap.push {cls:=.type "dict",data:=.dict #[]}) scope.names).get? b=some o:=fun b o e=>pushCells_keeps _ _ b o (hP1 _ e);have cok:=cellsFrom_ok scope.names (s.heap.push {cls:=.type "dict",data:=.dict #[]}) (s.heap.objs.size+1) [] ⟨fun _ _ hm=>(nomatch hm),List.Pairwise.nil⟩ (by rw [hZ1];exact nR1 _);rw [hZ1] at cok;have clE:=qjT hcl (fun x c q=>by cases q)
 -- a cell of the block: its own or an elder one
 have cells:∀ x c,(cellsFrom (s.heap.objs.size+1) scope.names cl).lookup x=some c->(s.heap.objs.size+1<=c/\(x,c)∈cellsFrom (s.heap.objs.size+1) scope.names [])\/X.env.cells.lookup x=some c:=fun x c h=>by
  rcases qbm h with h1 | h1
  ·exact .inl h1
  ·exact .inr (clE x c h1)
 have oldLt:∀ x c,X.env.cells.lookup x=some c->c<s.heap.objs.size:=fun x c e=>by
  obtain ⟨v,z⟩:=I.cell x c e;exact z.lt
 have fpLt:∀ b∈fp,b<s.heap.objs.size:=fun b hb=>by
  obtain ⟨o,e⟩:=hfo b hb;exact hL1 e
 have fst:∀ b∈fp,b∉frs X.stack:=fun b hb z=>by
  rcases List.mem_cons.mp (I.stkSub b z) with q | q
  ·exact (hf b hb).2.1 q
  ·exact (hf b hb).2.2.1 q
 have kindOf:∀ x,(cxC X scope cl T keep s H fp).env.kindOf x=(scope.names.lookup x).map fun k=>if (k == NameKind.free&&X.env.scope.kind == .function&&X.env.kindOf x == some .cell) then NameKind.cell else k:=fun x=>qcz
 refine ⟨⟨I.ok.mod,C.kind,I.ok.glob,I.ok.blt,nR1 _,fun x y c h1 h2=>?_,fun x hx=>?_,fun x c h1 h2=>?_,I.ok.hd,I.ok.frames,.inl rfl,fun b hb=>⟨nN1 (fpLt b hb),fun x c h z=>?_⟩,fun b o e=>I.bs b o e,Nat.le_trans I.ok.bsz I.sz,fun b o e hb=>?_,fst,I.stack,I.stkFree⟩,
  rfl,I.bare,Un.kept kept,⟨fun _=>none,(Heap.Ns.new s.heap (.type "dict")).keeps (pushCells_keeps _ _),fun i x v h1 h2 h3=>?_⟩,fun x c h=>?_,I.hok.fresh (nR1 _),fun x c h=>?_,fun p hp=>absurd (show p∈([]:List (Addr×Obj)) from hp) (by simp),I.hok.kept kept,?_⟩
 ·rcases cells x c h1 with ⟨a1,a2⟩ | a1<;>rcases cells y c h2 with ⟨b1,b2⟩ | b1
  ·exact name_of_addr cok.apart a2 b2
  ·exact absurd (Nat.lt_of_le_of_lt (Nat.le_of_succ_le a1) (oldLt y c b1)) (Nat.lt_irrefl _)
  ·exact absurd (Nat.lt_of_le_of_lt (Nat.le_of_succ_le b1) (oldLt x c a1)) (Nat.lt_irrefl _)
  ·exact I.ok.inj x y c a1 b1
 ·have hx':scope.names.lookup x=some .cell\/scope.names.lookup x=some .free:=by
   rw [kindOf x] at hx;cases e:scope.names.lookup x with
   | none=>rw [e] at hx;rcases hx with z | z<;>cases z
   | some k=>
    rw [e] at hx;simp only [oP1] at hx;cases k<;>simp_all
  have:((cellsFrom (s.heap.objs.size+1) scope.names cl).lookup x).isSome=true:=by
   rcases hx' with z | z
   ·exact PySem.W.cellsFrom_some _ _ _ (.inl z)
   ·exact PySem.W.cellsFrom_some _ _ _ (.inr (qfj hcl (.inl z)))
  exact Option.isSome_iff_exists.mp this
 ·have h1':scope.names.lookup x=some .cell:=by simpa [cxC] using h1
  have:=qfk h1' h2;exact Nat.le_trans (Nat.le_succ _) this
 ·subst z;rcases cells x c h with ⟨a1,_⟩ | a1
  ·exact absurd (Nat.lt_of_le_of_lt (Nat.le_of_succ_le a1) (fpLt c hb)) (Nat.lt_irrefl _)
  ·exact (hf c hb).2.2.2.2.1 x c a1 rfl
 ·rcases (hf b hb).2.2.2.1 with z | z
  ·exact I.ok.noex b o e z
  ·exact absurd (nL1 (hL1 e) (Nat.le_trans I.ok.bsz z)) (Nat.lt_irrefl _)
 ·-- a name of the block that has a value:one of the outer text's
  have hi:T.length<=i:=by
   refine Nat.le_of_not_lt fun hi=>?_;unfold inSt at h2;rw [gL1 (by rw [lR1];exact hi),List.getElem?_replicate] at h2;split at h2<;>cases h2
  unfold inSt at h2;rw [gR1 (by rw [lR1];exact hi),lR1,gP1] at h2;obtain ⟨j,ej,h2⟩:=oM1.mp h2;have h1':X.N.getD j (Str.ofString "")=x:=by
   have h1':(T++keep.map fun i=>X.N.getD i (Str.ofString ""))[i]? = some x:=h1;rw [gR1 hi,gP1,ej] at h1';exact Option.some.inj h1'
  obtain ⟨y,ey,fy,ky,ny⟩:=C.free j (gM1 ej);have exy:y=x:=by rw [<- h1',List.getD_eq_getElem?_getD,ey];rfl
  subst exy;have h2':σ[j]? = some (some v):=by
   cases e:σ[j]? with
   | none=>rw [e] at h2;cases h2
   | some o=>rw [e] at h2;cases h2;rfl
  obtain ⟨m,hn,hl⟩:=I.loc;obtain ⟨u,ru,lu⟩:=hl j y v ey h2' (by
   rcases ky with z | z
   ·exact .inr (.inl z)
   ·exact .inr (.inr z))
  refine ⟨u,ru,?_⟩;rcases lu with ⟨z,_⟩ | ⟨_,c,ec,zc⟩
  ·rcases ky with q | q<;>(rw [z] at q;cases q)
  ·right;refine ⟨?_,c,?_,zc.keeps kept⟩
   ·rw [kindOf,fy];simp only [oP1];split
    ·exact .inl rfl
    ·exact .inr rfl
   ·obtain ⟨c',e'⟩:=Option.isSome_iff_exists.mp (PySem.W.cellsFrom_some scope.names (s.heap.objs.size+1) cl (.inr (qfj hcl (.inl fy))):((cellsFrom (s.heap.objs.size+1) scope.names cl).lookup y).isSome=true);have e2:(cellsFrom (s.heap.objs.size+1) scope.names cl).lookup y=some c':=e';rcases cells y c' e2 with ⟨a1,a2⟩ | a1
    ·-- an own cell of that name:its kind would be cell
     exfalso;have:∀ (names:List (Str×NameKind)) (n:Nat),(y,c')∈cellsFrom n names []->(y,NameKind.cell)∈names:=by
      have app:∀ (names:List (Str×NameKind)) (m:Nat) (acc:List (Str×Addr)),cellsFrom m names acc=cellsFrom m names []++acc:=by
       intro names
       induction names with
       | nil=>intro m acc;rfl
       | cons p r ih=>
        obtain ⟨z,q⟩:=p;intro m acc;unfold cellsFrom;split
        ·rw [ih _ ((z,m)::acc),ih _ [(z,m)],List.append_assoc];rfl
        ·exact ih m acc
      intro names
      induction names with
      | nil=>intro n h;cases h
      | cons p r ih=>
       obtain ⟨z,q⟩:=p;intro n h;unfold cellsFrom at h;split at h
       ·rename_i hq;rw [app] at h;rcases List.mem_append.mp h with h | h
        ·exact mC1 _ (ih _ h)
        ·have:(y,c')=(z,n):=by simpa using h
         cases this;have hq':q=NameKind.cell:=by simpa using hq
         subst hq';exact mS1
       ·exact mC1 _ (ih _ h)
     exact ny (this _ _ a2)
    ·rw [ec] at a1;cases a1;exact e2
 ·rcases cells x c h with ⟨a1,a2⟩ | a1
  ·exact ⟨_,(cok.empty x c a2).1⟩
  ·obtain ⟨v,z⟩:=I.cell x c a1;exact ⟨v,z.keeps kept⟩
 ·rcases cells x c h with ⟨a1,a2⟩ | a1
  ·exact I.hok.fresh (Nat.le_of_succ_le a1)
  ·exact I.freeC x c a1
 ·show (inSt T.length keep σ).length=(T++keep.map fun i=>X.N.getD i (Str.ofString "")).length;unfold inSt;rw [lA1,lA1,lR1,lM1,lM1]
noncomputable def qip (p:Pos)(tg:Expr)(ifs:List Expr)(it:Value)(env:Env)(emit:Sem Unit)(c:Code):Sem PySem.Fin:=do
 standAt p
 match<-pyNext it with
 | none=>pure (.done .next)
 | some v=>
  letOwnedTupleGo tg it v
  assign tg env v
  let mut ok:=true
  for c in ifs do
   if ok then ok<-isTrue c env (eval c env)
  if ok then emit
  again c
noncomputable def qjJ (elt:Expr)(acc:Value)(env:Env):Sem Unit:=do let _<-call (.builtin "list.append") [acc,<- eval elt env]
theorem qlC (elt tg iter:Expr)(ifs:List Expr)(scope:Scope)(pos:Pos)(it acc:Value)(env:Env):
  compTurn (.ListComp elt [⟨tg,iter,ifs,0⟩] scope pos) 0 it acc env=qip iter.pos tg ifs it env (qjJ elt acc env) (.compLoop (.ListComp elt [⟨tg,iter,ifs,0⟩] scope pos) 0 it acc env):=by rfl
noncomputable def PIfs (X:Cx)(ifs:List Expr)(t:TT):Prop:=
 ∀ (pins:List (Addr×Obj)) (s:Shared) (σ:L2.St) (H:Hp) (Q:Bool->Hp->Prop),Inv X pins σ H s->t σ H Q ->
  wpAny (model X.prog X.w) X.A (forIn ifs true fun c r=>if r=true then do let ok<-isTrue c X.env (eval c X.env);pure (ForInStep.yield ok) else pure (ForInStep.yield r)) (TP X pins σ Q) X.xe s
theorem qkG {X:Cx}:PIfs X [] (fun σ H Q=>Q true H):=fun pins s σ H Q I h=>wpAny_tests_nil ⟨H,I,h⟩
theorem qkF {X:Cx}{c:Expr}{t:TT}(h:PT X c t):PIfs X [c] t:=fun pins s σ H Q I q=>wpAny_tests_one (h pins s σ H Q I q)
noncomputable def PU (X:Cx)(m:Sem Unit)(t:TS):Prop:=
 ∀ (pins:List (Addr×Obj)) (s:Shared) (σ:L2.St) (H:Hp) (E:Ends),Inv X pins σ H s->t E σ H->wpAny (model X.prog X.w) X.A m (fun _ s'=>∃ σ' H',Inv X pins σ' H' s'/\E.nx σ' H') X.xe s
theorem qfX {X:Cx}(hx:X.xe=fun _ _=>False)(hc:X.calm=true){elt:Expr}{gens:List Comprehension}{scope:Scope}{pos p:Pos}{d:Nat}{tg:Expr}{ifs:List Expr}{acc:Value}{emit:Sem Unit}{J:It}{fp:List Addr}{it:Addr}{tn:Nat->Heap->Prop}{g:TG}{ti:TT}{tb:TS}
  (eq:compTurn (.ListComp elt gens scope pos) d (.ref it) acc X.env=qip p tg ifs (.ref it) X.env emit (.compLoop (.ListComp elt gens scope pos) d (.ref it) acc X.env))
  (T:Turn X.prog X.w X.K tg J fp it tn) (hg:PG X tg g) (hi:PIfs X ifs ti) (he:PU X emit tb)
  {pins:List (Addr×Obj)} {s:Shared} {σ:L2.St} {H:Hp} {D:Ends} (I:Inv X pins σ H s) (st:tn 0 s.heap) (f2:∀ b∈fp,FpOk X pins H b)
  (h:∃ W:Nat->Nat->L2.St->Hp->Prop,(∃ m,W 0 m σ H) /\ ∀ i m σ H,W i m σ H ->
   (J.stop i H/\D.nx σ H)\/(J.go i H /\ ∃ N:L2.St->Hp->Prop,(∀ σ' H',N σ' H' -> ∃ m',m'<m/\W (i+1) m' σ' H') /\ ∀ x H',J.yld i H x H'->g x σ H' fun σ2 H2=>ti σ2 H2 fun b H3=>if b=true then tb {D with nx:=N} σ2 H3 else N σ2 H3)):
  codeAny (model X.prog X.w) X.A (.compLoop (.ListComp elt gens scope pos) d (.ref it) acc X.env) (fun r s'=>match r with | .ok _=>∃ σ' H',Inv X pins σ' H' s'/\D.nx σ' H' | .error _=>False) s:=by
 obtain ⟨W,⟨m0,w0⟩,turn⟩:=h;have stat:∀ {H':Hp},(∀ b∈fp,H' b=none) -> ∀ b∈fp,FpOk X pins H' b:=fun hn b hb=>⟨hn b hb,(f2 b hb).2⟩;refine codeAny_loop rfl (fun n s'=>∃ i σ' H',Inv X pins σ' H' s'/\tn i s'.heap/\(∀ b∈fp,H' b=none)/\W i n σ' H') ?_ m0 ⟨0,σ,H,I,st,fun b hb=>(f2 b hb).1,w0⟩;rintro n s3 ⟨i,σ3,H3,I3,st3,fr3,w3⟩;show wpAny _ _ ((compTurn (.ListComp elt gens scope pos) d (.ref it) acc X.env).onRaise (fun x=>do noteFrame x X.env;theTreesLotGoes x)) _ _ s3;refine wpAny_noted ?_;rw [eq];have no:∀ {α:Type} {m:Sem α} {Q:α->Shared->Prop} {s:Shared} {E:Value->Shared->Prop},wpAny (model X.prog X.w) X.A m Q X.xe s->wpAny (model X.prog X.w) X.A m Q E s:=fun h=>by
  rw [hx] at h;exact wpAny_mono h (fun _ _ q=>q) fun _ _ q=>q.elim
 unfold qip;refine wB1 (wpAny_standAt (wB1 ?_));rcases turn i n σ3 H3 w3 with ⟨stop,qn⟩ | ⟨go,N,hN,step⟩
 ·refine no (thn (T.done X rfl rfl rfl hc i pins s3 σ3 H3 X.xe I3 (stat fr3) st3 stop) fun r s4 ⟨hr,I4⟩=>?_);subst hr;exact wP1 ⟨σ3,H3,I4,qn⟩
 ·refine no (thn (T.item X rfl rfl rfl hc i pins s3 σ3 H3 X.xe I3 (stat fr3) st3 go) fun r s4 ⟨u,hr,h4⟩=>?_);subst hr;refine wB1 (no (thn h4 fun _ s5 ⟨x,H5,I5,r5,y5,st5,fr5⟩=>?_));have I5':=I5.pinned (stat fr5) (T.obj _ _ st5);refine wB1 (no (thn (hg _ s5 σ3 H5 x u _ I5' r5 (step x H5 y5)) fun _ s6 ⟨σ6,H6,I6,q6⟩=>?_));refine wB1 (no (thn (hi _ s6 σ6 H6 _ I6 q6) fun ok s7 ⟨H7,I7,q7⟩=>?_));have again':∀ {σ7:L2.St} {H7:Hp} {s7:Shared},Inv X (pins++qfz fp s5.heap) σ7 H7 s7->N σ7 H7 -> ∃ m,m<n /\ ∃ i σ' H',Inv X pins σ' H' s7/\tn i s7.heap/\(∀ b∈fp,H' b=none)/\W i m σ' H':=fun {σ7 H7 s7} I7 n7=>by
   obtain ⟨m',hm,w7⟩:=hN σ7 H7 n7;refine ⟨m',hm,i+1,σ7,H7,I7.unpinned,T.keep _ _ _ st5 fun b hb o e=>(I7.pin (b,o) (mA1 _ (mA1 _ (qcq hb e)))).1,fun b hb=>?_,w7⟩;obtain ⟨o,e,d⟩:=T.obj _ _ st5 b hb;exact (I7.pin (b,o) (mA1 _ (mA1 _ (qcq hb e)))).2.1
  cases ok with
  | false=>exact wP1 ⟨rfl,again' I7 q7⟩
  | true=>exact wB1 (no (thn (he _ s7 σ6 H7 _ I7 q7) fun _ s8 ⟨σ8,H8,I8,q8⟩=>wP1 ⟨rfl,again' I8 q8⟩))
noncomputable def qkp (p:Addr)(te:TE):TS:=fun D σ H=>te σ H fun x H1=>∃ xs,H1 p=some (.lst xs)/\xs.length<sizeLine/\D.nx σ (upd H1 p (.lst (xs++[x])))
theorem qiL {X:Cx}{elt:Expr}{te:TE}(h:PE X elt te)(p:Addr):PU X (qjJ elt (.ref p) X.env) (qkp p te):=by
 intro pins s σ H E I q;unfold qjJ;refine wB1 (thn (h pins s σ H _ I q) fun u s1 ⟨x,H1,I1,r1,xs,e1,hl,q1⟩=>?_);refine wB1 (thn (qfJ pins s1 σ H1 (.ref p) [x] (.ref p) [u] (fun _ H'=>E.nx σ H') I1 rfl (.cons r1 .nil) ⟨p,xs,x,rfl,rfl,e1,hl,q1⟩) fun _ s2 ⟨_,H2,I2,_,q2⟩=>?_);exact wP1 ⟨σ,H2,I2,q2⟩
noncomputable def qou (J:It)(g:TG)(ti:TT)(tb:TS):TS:=fun D σ H=>∃ W:Nat->Nat->L2.St->Hp->Prop,(∃ m,W 0 m σ H) /\ ∀ i m σ H,W i m σ H ->
 (J.stop i H/\D.nx σ H)\/(J.go i H /\ ∃ N:L2.St->Hp->Prop,(∀ σ' H',N σ' H' -> ∃ m',m'<m/\W (i+1) m' σ' H') /\ ∀ x H',J.yld i H x H'->g x σ H' fun σ2 H2=>ti σ2 H2 fun b H3=>if b=true then tb {D with nx:=N} σ2 H3 else N σ2 H3)
theorem Un.sameBut {fs ex:List Addr}{H H':Hp}{h h1 h2:Heap}{c:Addr}(u:Un fs ex H H' h h1)(hs:Heap.SameBut c h1 h2)(hc:h.get? c=none):Un fs ex H H' h h2:=by
 have ne:∀ {b o},h.get? b=some o->b≠c:=fun e z=>by rw [z,hc] at e;cases e
 refine ⟨fun b o e n hb hx=>(hs.2 b (ne e)).trans (u.keep b o e n hb hx),fun b o e n hb hx=>?_,u.free,fun b o e hx=>?_,u.tups,u.frzs,u.tbls⟩
 ·obtain ⟨sl,q⟩:=u.slot b o e n hb hx;exact ⟨sl,(hs.2 b (ne e)).trans q⟩
 ·obtain ⟨o',q⟩:=u.there b o e hx;exact ⟨o',(hs.2 b (ne e)).trans q⟩
noncomputable def qmw (k:Nat)(keep:List Nat)(wi:TI)(g:TG)(ti:TT)(tb:Addr->TS):TE:=fun σ H Q=>wi σ H fun J H1=>∀ p,H1 p=none ->
 qou J g ti (tb p) {nx:=fun _ H'=>Q (.ref p) H',rt:=fun _ _=>False} (inSt k keep σ) (upd H1 p (.lst []))
theorem qmV {X:Cx}(hc:X.calm=true){elt tg iter:Expr}{ifs:List Expr}{rest:List Comprehension}{scope:Scope}{pos:Pos}{T:List Str}{keep:List Nat}{cl:List (Str×Addr)}{wi:TI}{g:TG}{ti:TT}{tb:Addr->TS}{emit:Value->Env->Sem Unit}
  (eq:∀ it acc env,compTurn (.ListComp elt (⟨tg,iter,ifs,0⟩::rest) scope pos) 0 it acc env=qip iter.pos tg ifs it env (emit acc env) (.compLoop (.ListComp elt (⟨tg,iter,ifs,0⟩::rest) scope pos) 0 it acc env))
  (C:CSc X scope T keep) (hcl:cloF X.env.cells scope.names []=some cl) (hi:PI X tg iter wi)
  (hb:∀ s H fp p,PG (cxC X scope cl T keep s H fp) tg g/\PIfs (cxC X scope cl T keep s H fp) ifs ti/\PU (cxC X scope cl T keep s H fp) (emit (.ref p) (cxC X scope cl T keep s H fp).env) (tb p))
  (hs:∀ x,foldedSetIterable iter X.env x=pure x:=by intro _;rfl):
  PE X (.ListComp elt (⟨tg,iter,ifs,0⟩::rest) scope pos) (qmw T.length keep wi g ti tb):=by
 intro pins s σ H Q I h;rw [eval_ListComp];refine wpAny_comprehension_free (use:=none) rfl hs (ql3 hcl) C.kind C.names ?_;refine thn (hi pins s σ H _ I h) fun v s1 h1=>thn h1 fun itv s2 h2=>?_;obtain ⟨it,fp,tn,J,H2,rfl,I2,TT,st2,f2,q2⟩:=h2;refine wO1 ?_;have I3:Inv X pins σ (upd H2 s2.heap.objs.size (.lst [])) {s2 with heap:=s2.heap.push {cls:=.type "list",data:=.seq ([]:List Value).toArray}}:=I2.lnew (t':=s2.toks) .nil (Nat.zero_le _);have old:∀ b∈fp,∃ o,s2.heap.get? b=some o:=fun b hb=>by
  obtain ⟨o,e,_⟩:=TT.obj 0 s2.heap st2 b hb;exact ⟨o,e⟩
 have fne:∀ b∈fp,b≠s2.heap.objs.size:=fun b hb z=>by
  obtain ⟨o,e⟩:=old b hb;have:=hL1 e;rw [z] at this;exact Nat.lt_irrefl _ this
 have f3:∀ b∈fp,FpOk X pins (upd H2 s2.heap.objs.size (.lst [])) b:=fun b hb=>⟨by rw [qar (fne b hb)];exact (f2 b hb).1,(f2 b hb).2⟩;have o3:∀ b∈fp,∃ o,({s2 with heap:=s2.heap.push {cls:=.type "list",data:=.seq ([]:List Value).toArray}}:Shared).heap.get? b=some o:=fun b hb=>by
  obtain ⟨o,e⟩:=old b hb;exact ⟨o,hP1 _ e⟩
 have I4:=qhl I3 C hcl f3 o3;obtain ⟨hg,hf,he⟩:=hb {s2 with heap:=s2.heap.push {cls:=.type "list",data:=.seq ([]:List Value).toArray}} (upd H2 s2.heap.objs.size (.lst [])) fp s2.heap.objs.size;refine qcY ?_;have f4:∀ b∈fp,FpOk (cxC X scope cl T keep {s2 with heap:=s2.heap.push {cls:=.type "list",data:=.seq ([]:List Value).toArray}} (upd H2 s2.heap.objs.size (.lst [])) fp) [] (upd H2 s2.heap.objs.size (.lst [])) b:=fun b hb=>
  ⟨(f3 b hb).1,(I4.ok.exf b hb).1,I4.ok.exfs b hb,.inl hb,(I4.ok.exf b hb).2,fun p hp=>absurd (show p∈([]:List (Addr×Obj)) from hp) (by simp)⟩
 have st4:tn 0 (pushCells ((s2.heap.push {cls:=.type "list",data:=.seq ([]:List Value).toArray}).push {cls:=.type "dict",data:=.dict #[]}) scope.names):=
  TT.keep 0 s2.heap _ st2 fun b hb o e=>pushCells_keeps scope.names _ b o (hP1 _ (hP1 _ e))
 have loop:=qfX (X:=cxC X scope cl T keep {s2 with heap:=s2.heap.push {cls:=.type "list",data:=.seq ([]:List Value).toArray}} (upd H2 s2.heap.objs.size (.lst [])) fp) rfl hc (eq (.ref it) (.ref s2.heap.objs.size) _) TT hg hf he I4 st4 f4
  (q2 s2.heap.objs.size (I2.hok.fresh (nR1 _)))
 refine codeAny_mono (codeAny_compStart_list loop (TT.self X.A 0 _ _ _ st4 loop)) fun r s' hr=>?_;cases r with
 | error e=>exact hr.elim
 | ok f=>
  obtain ⟨σ',H',I',q'⟩:=hr;obtain ⟨m,hn,_⟩:=id I'.loc;refine ⟨m,hn,fun h' hs'=>⟨.ref s2.heap.objs.size,H',?_,rfl,q'⟩⟩;refine I3.call' (s':={s' with heap:=h'}) (ch:=fp) I'.os (Un.sameBut I'.base hs' (Heap.get?_none_of_le (nR1 _))) (fun b ob e=>?_) I'.bare fun b hb=>(f3 b hb).2.2.2 |> fun z=>⟨z.1,(f3 b hb).2.1,z.2.1,z.2.2⟩
  refine (I'.hok b ob e).stay (fun c w' hc q=>(hs'.2 c ?_).trans q) (fun _ q=>q) fun _ _ q=>q;rintro rfl;have fr:=I'.free;rcases hc with rfl | hc
  ·exact nomatch fr.symm.trans e
  ·exact nomatch fr.symm.trans hc
section
variable {K:Fg1} {H:Hp} {mu:List Addr} {S:Sto} {p:Addr} {u:HO} {o:Ob} {n:Nat}
theorem Rd.ne {a:Addr}{x:HO}(h:H p=none)(q:Rd H a x):a≠p:=by
 rintro rfl;rcases q with q | ⟨_,q⟩<;>(rw [h] at q;cases q)
theorem Ext.fresh (hp:H p=none):Ext mu mu H (upd H p u) where
 pre:=List.prefix_rfl
 old:=fun a o h _=>by rw [qar (qav h hp)];exact h
 tup:=fun a xs h=>by
  have ne:=Rd.ne hp h;rcases h with h | ⟨ob,h⟩
  ·exact .inl (by rw [qar ne];exact h)
  ·exact .inr ⟨ob,by rw [qar ne];exact h⟩
 frz:=fun a o x h=>by rw [qar (qav h hp)];exact h
 new:=fun _ h=>.inl h
theorem Ext.new_ (hp:H p=none):Ext mu (mu++[p]) H (upd H p u) where
 pre:=List.prefix_append _ _
 old:=(Ext.fresh (mu:=mu) hp).old
 tup:=(Ext.fresh (mu:=mu) hp).tup
 frz:=(Ext.fresh (mu:=mu) hp).frz
 new:=fun a h=>by
  rcases List.mem_append.mp h with h | h
  ·exact .inl h
  ·have:a=p:=by simpa using h
   subst this;exact .inr hp
theorem Sim.fresh (s:Sim K H mu S)(hp:H p=none):Sim K (upd H p u) mu S:=
 ⟨s.len,s.nd,fun k o a h1 h2=>(s.ob k o a h1 h2).keep (Ext.fresh hp) fun ob e=>by rw [qar (qav e hp)];exact e⟩
theorem Sim.notin (s:Sim K H mu S)(hp:H p=none):p∉mu:=fun h=>by
 obtain ⟨o,e⟩:=s.here h;rw [hp] at e;cases e
theorem ObR.more {a:Addr}{mu':List Addr}{H':Hp}(e:Ext mu mu' H H')(h:∀ o,H a=some o->H' a=some o):∀ {o:Ob},ObR K H mu a o->ObR K H' mu' a o
 | .lst _,⟨vs,q,r⟩=>⟨vs,h _ q,r.ext e⟩
 | .dct _,⟨ws,q,r⟩=>⟨ws,h _ q,KR.ext e r⟩
 | .dcT _,⟨ws,q,r,l⟩=>⟨ws,h _ q,KT.ext e r,l⟩
 | .iset _,q=>⟨h _ q.1,q.2⟩
 | .dcF _,⟨ws,⟨o,u,e1,e2⟩,r,l⟩=>⟨ws,⟨o,u,h _ e1,e2⟩,KT.ext e r,l⟩
theorem Sim.new (s:Sim K H mu S)(hp:H p=none)(ho:ObR K (upd H p u) (mu++[p]) p o):Sim K (upd H p u) (mu++[p]) (S++[o]):=by
 refine ⟨by rw [lA1,lA1,s.len];rfl,?_,fun k o' a h1 h2=>?_⟩
 ·rw [List.nodup_append];refine ⟨s.nd,by simp,fun a ha b hb e=>?_⟩;have:b=p:=by simpa using hb
  subst this;subst e;exact s.notin hp ha
 ·by_cases hk:k<S.length
  ·rw [gL1 hk] at h1;rw [gL1 (by rw [s.len];exact hk)] at h2;exact (s.ob k o' a h1 h2).more (Ext.new_ hp) fun ob e=>by rw [qar (qav e hp)];exact e
  ·have hk':k=S.length:=by
    have:=(gE1.mp h1).1;rw [lA1] at this;simp at this;lia
   subst hk';rw [gR1 (nR1 _)] at h1;rw [<- s.len,gR1 (nR1 _)] at h2;simp at h1 h2;subst h1;subst h2;exact ho
theorem Ext.put {x:HO}(hp:H p=some x)(hm:Mut (some x))(hin:p∈mu):Ext mu mu H (upd H p u) where
 pre:=List.prefix_rfl
 old:=fun a o h n=>by rw [qar (fun e=>n (by rw [e];exact hin))];exact h
 tup:=fun a xs h=>by
  have ne:a≠p:=by
   rintro rfl;rcases h with h | ⟨_,h⟩<;>(rw [hp] at h;cases h;exact hm)
  rcases h with h | ⟨ob,h⟩
  ·exact .inl (by rw [qar ne];exact h)
  ·exact .inr ⟨ob,by rw [qar ne];exact h⟩
 frz:=fun a o y h=>by
  rw [qar (fun e=>?_)]
  ·exact h
  ·subst e;rw [hp] at h;cases h;exact hm
 new:=fun _ h=>.inl h
theorem Sim.put (s:Sim K H mu S){x:HO}(hn:mu[n]? = some p)(hp:H p=some x)(hm:Mut (some x))(ho:ObR K (upd H p u) mu p o):Sim K (upd H p u) mu (S.set n o):=by
 refine ⟨by rw [List.length_set];exact s.len,s.nd,fun k o' a h1 h2=>?_⟩;by_cases hk:n=k
 ·subst hk;have hl:n<S.length:=by
   have:=(gE1.mp h1).1
   rwa [List.length_set] at this
  rw [List.getElem?_set_self hl] at h1;cases h1;rw [hn] at h2;cases h2;exact ho
 ·rw [gS1 hk] at h1;have ne:a≠p:=fun e=>by
   subst e;obtain ⟨l1,e1⟩:=gE1.mp hn;obtain ⟨l2,e2⟩:=gE1.mp h2;exact hk ((List.getElem_inj s.nd).mp (e1.trans e2.symm))
  exact (s.ob k o' a h1 h2).keep (Ext.put hp hm (gM1 hn)) fun ob e=>by rw [qar ne];exact e
theorem Sim.lst (s:Sim K H mu S){ds:List D}{a:Addr}(h:S[n]? = some (.lst ds))(hn:mu[n]? = some a):∃ vs,H a=some (.lst vs)/\Reps K H mu ds vs:=s.ob n _ a h hn
theorem Sim.dcT (s:Sim K H mu S){ks:List (TK×D)}{a:Addr}(h:S[n]? = some (.dcT ks))(hn:mu[n]? = some a):∃ ws,H a=some (.ext (qdv a ws))/\KT K H mu ks ws/\ws.length<=sizeLine:=s.ob n _ a h hn
theorem Sim.iset (s:Sim K H mu S){xs:List Int}{a:Addr}(h:S[n]? = some (.iset xs))(hn:mu[n]? = some a):H a=some (.set (fun k=>xs.contains k) xs.length)/\xs.Nodup:=s.ob n _ a h hn
theorem Sim.dct (s:Sim K H mu S){ks:List (Key×D)}{a:Addr}(h:S[n]? = some (.dct ks))(hn:mu[n]? = some a):∃ ws,H a=some (.dK ws)/\KR K H mu ks ws:=s.ob n _ a h hn
theorem Sim.newL (s:Sim K H mu S){ds:List D}{vs:List V}(r:Reps K H mu ds vs)(hp:H p=none):Sim K (upd H p (.lst vs)) (mu++[p]) (S++[.lst ds]):=s.new hp ⟨vs,qau,r.ext (Ext.new_ hp)⟩
theorem Sim.putL (s:Sim K H mu S){ds:List D}{vs ws:List V}(r:Reps K H mu ds vs)(hn:mu[n]? = some p)(hp:H p=some (.lst ws)):Sim K (upd H p (.lst vs)) mu (S.set n (.lst ds)):=
 s.put hn hp trivial ⟨vs,qau,r.ext (Ext.put hp trivial (gM1 hn))⟩
end
theorem qcl {mu:List Addr}{S:Sto}(h:mu.length=S.length)(p:Addr):(mu++[p])[S.length]? = some p:=by
 rw [<- h,gR1 (nR1 _)];simp
noncomputable def mTup (a:FA):FE:=fun r S=>(a r S).bind fun p=>if p.1.length<=sizeLine then some (.tup p.1,p.2) else none
noncomputable def mLst (a:FA):FE:=fun r S=>(a r S).bind fun p=>if p.1.length<=sizeLine then some (.ref p.2.length,p.2++[.lst p.1]) else none
section
variable {X:Cx} {es:List Expr} {pos:Pos} {a:FA}
theorem qpH {x1}(h:MA X es a):ME X (.Tuple es x1 pos) (mTup a):=qaW (qo3 h) <| by
 rintro σ H Q ⟨r,mu,S,d,S',he,hs,hm,hc⟩;obtain ⟨⟨ds,S1⟩,e1,hm⟩:=oB1.mp hm;dsimp only at hm;split at hm
 ·rename_i hl;cases hm;refine ⟨r,mu,S,ds,_,he,hs,e1,fun vs H1 mu1 x1 r1 s1=>⟨by rw [<- r1.length];exact hl,fun p hp=>?_⟩⟩;exact hc _ _ mu1 (x1.trans (Ext.fresh hp)) (.tup (SqT.of qau) (r1.ext (Ext.fresh hp))) (s1.fresh hp)
 ·cases hm
theorem qpN (h:MA X es a):ME X (.List es pos) (mLst a):=qaW (qo8 h) <| by
 rintro σ H Q ⟨r,mu,S,d,S',he,hs,hm,hc⟩;obtain ⟨⟨ds,S1⟩,e1,hm⟩:=oB1.mp hm;dsimp only at hm;split at hm
 ·rename_i hl;cases hm;refine ⟨r,mu,S,ds,_,he,hs,e1,fun vs H1 mu1 x1 r1 s1=>⟨by rw [<- r1.length];exact hl,fun p hp=>?_⟩⟩;exact hc _ _ (mu1++[p]) (x1.trans (Ext.new_ hp)) (.ref (qcl s1.len p)) (s1.newL r1 hp)
 ·cases hm
end
noncomputable def inEv (k:Nat)(keep:List Nat)(r:Ev):Ev:=List.replicate k none++keep.map fun i=>(r[i]?).join
noncomputable def qbl:FT:=fun _ S=>some (true,S)
theorem qrL {K:Fg1}{H:Hp}{mu:List Addr}{r:Ev}{σ:L2.St}(k:Nat)(keep:List Nat)(h:EnvR K H mu r σ):EnvR K H mu (inEv k keep r) (inSt k keep σ):=by
 refine ⟨by unfold inEv inSt;rw [lA1,lA1,lM1,lM1,lR1,lR1],fun i d e=>?_⟩;unfold inEv at e;unfold inSt;by_cases hi:i<k
 ·rw [gL1 (by rw [lR1];exact hi),List.getElem?_replicate] at e;split at e<;>cases e
 ·rw [gR1 (by rw [lR1];lia),lR1,gP1] at e;rw [gR1 (by rw [lR1];lia),lR1,gP1];obtain ⟨j,ej,e⟩:=oM1.mp e;rw [ej];have e':r[j]? = some (some d):=by
   cases q:r[j]? with
   | none=>rw [q] at e;cases e
   | some o=>rw [q] at e;cases e;rfl
  obtain ⟨v,ev,rv⟩:=h.val j d e';exact ⟨v,by rw [oP1,ev];rfl,rv⟩
section
variable {X:Cx}
theorem qkH {ifs:List Expr}{t t':L2.TT}(h:PIfs X ifs t)(i:∀ σ H Q,t' σ H Q->t σ H Q):PIfs X ifs t':=fun pins s σ H Q I q=>h pins s σ H Q I (i σ H Q q)
theorem qnh:PIfs X [] (tMT X.K qbl):=qkH qkG fun σ H Q ⟨r,mu,S,b,S',he,hs,hm,hc⟩=>by cases hm;exact hc H mu (.refl _ _) hs
theorem qng {c:Expr}{t:FT}(h:MT X c t):PIfs X [c] (tMT X.K t):=qkF h
end
open PySem.AutoSeq1 (wpAny_loadPart')
noncomputable def SIt (b:Bool)(h:Heap)(it a:Addr)(i:Nat):Prop:=match b with
 | true=>h.IsListIter it a i
 | false=>h.IsTupleIter it a i
noncomputable def SCo (b:Bool)(h:Heap)(a:Addr)(xs:Array Value):Prop:=match b with
 | true=>h.IsList a xs
 | false=>h.IsTuple a xs
theorem SIt.to {b:Bool}{h h':Heap}{it a:Addr}{i:Nat}(x:SIt b h it a i)(k:∀ o,h.get? it=some o->h'.get? it=some o):SIt b h' it a i:=by
 cases b<;>(obtain ⟨o,e,r⟩:=x;exact ⟨o,k o e,r⟩)
theorem SIt.rec_ {b:Bool}{h:Heap}{it a:Addr}{i:Nat}(x:SIt b h it a i):∃ o,h.get? it=some o /\ ∀ v,o.data ≠ .cell v:=by
 cases b<;>(obtain ⟨o,e,c,d⟩:=x;exact ⟨o,e,fun v z=>by rw [d] at z;cases z⟩)
theorem SCo.to {b:Bool}{h h':Heap}{a:Addr}{xs:Array Value}(x:SCo b h a xs)(k:∀ o,h.get? a=some o->h'.get? a=some o):SCo b h' a xs:=by
 cases b<;>(obtain ⟨o,e,r⟩:=x;exact ⟨o,k o e,r⟩)
noncomputable def qbQ (b:Bool)(a:Addr):Obj:=match b with
 | true=>{cls:=.type "list_iterator",data:=.fields #[.ref a,.int 0 0]}
 | false=>{cls:=.type "tuple_iterator",data:=.fields #[.ref a,.int 0 0]}
section
variable {prog:Program} {w:World} {A:Around} {E:Value->Shared->Prop} {s:Shared}
theorem qgf {b:Bool}{h:Heap}{it a:Addr}(e:h.get? it=some (qbQ b a)):SIt b h it a 0:=by
 cases b<;>exact ⟨_,e,rfl,rfl⟩
theorem qcS {b:Bool}{a:Addr}{xs:Array Value}{Q:Value->Shared->Prop}(x:SCo b s.heap a xs)(h:Q (.ref s.heap.objs.size) {s with heap:=s.heap.push (qbQ b a)}):wpAny (model prog w) A (pyIter (.ref a)) Q E s:=by
 cases b
 ·exact wpAny_pyIter_tuple x h
 ·exact wpAny_pyIter_list x h
theorem qkW {it l:Addr}{i:Nat}{xs:Array Value}{x:Value}{Q:Value->Shared->Prop}(ti:s.heap.IsTupleIter it l i)(tl:s.heap.IsTuple l xs)(hx:xs[i]? = some x)
  (hQ:∀ h',h'.IsTupleIter it l (i+1)->Heap.SameBut it s.heap h'->Q x {s with heap:=h'}):wpAny (model prog w) A (Builtin.SmallTypes.nextOf (.ref it)) Q E s:=by
 obtain ⟨o,ho,hc,hd⟩:=id ti;obtain ⟨ob,hob,_,nb,hdb⟩:=tl;unfold Builtin.SmallTypes.nextOf;refine wB1 (wpAny_callSpecial?_slot (name:=Str.ofString "__next__") ti.typeIs F.slot_tuple_iterator_next (wE1 F.slot_tuple_iterator_next ti.typeIs F.entry_tuple_iterator_next ?_ (F.args_tuple_iterator_next_1 _)));show wpAny _ _ (field (.ref it) 0 >>= _) _ _ s;refine wB1 (wpAny_field ho hd (x:=.ref l) rfl ?_);show wpAny _ _ (if (Value.ref l == Value.none)=true then _ else _) _ _ s;rw [if_neg (show ¬ ((Value.ref l == Value.none)=true) from Bool.false_ne_true)];show wpAny _ _ (field (.ref it) 1 >>= _) _ _ s;refine wB1 (wpAny_field ho hd (x:=.int i 0) rfl ?_);show wpAny _ _ (seqItems? (.ref l) >>= _) _ _ s;refine wB1 (wpAny_seqItems hob hdb ?_);simp only [Int.toNat_natCast,hx];refine wB1 (wpAny_setField ho hd (by simp) (wP1 ⟨x,rfl,wP1 (hQ _ ⟨_,hW1 _ ho (Obj.isFreed_of_fields (Obj.data_mapFields hd _)),(Obj.cls_mapFields ..).trans hc,by rw [Obj.data_mapFields hd];simp [rawInt]⟩ (Heap.SameBut.update ..))⟩))
theorem qfI {it l:Addr}{i:Nat}{xs:Array Value}{Q:Value->Shared->Prop}(hh:A.handled=none)(ti:s.heap.IsTupleIter it l i)(tl:s.heap.IsTuple l xs)(hx:xs[i]? = none)
  (hE:∀ h' e,Heap.ExtBut it s.heap h'->(∃ o,h'.get? e=some o/\o.cls = .type "StopIteration")->E (.ref e) {s with heap:=h'}):wpAny (model prog w) A (Builtin.SmallTypes.nextOf (.ref it)) Q E s:=by
 obtain ⟨o,ho,hc,hd⟩:=id ti;obtain ⟨ob,hob,_,nb,hdb⟩:=tl;unfold Builtin.SmallTypes.nextOf;refine wB1 (wpAny_callSpecial?_slot (name:=Str.ofString "__next__") ti.typeIs F.slot_tuple_iterator_next (wE1 F.slot_tuple_iterator_next ti.typeIs F.entry_tuple_iterator_next ?_ (F.args_tuple_iterator_next_1 _)));show wpAny _ _ (field (.ref it) 0 >>= _) _ _ s;refine wB1 (wpAny_field ho hd (x:=.ref l) rfl ?_);show wpAny _ _ (if (Value.ref l == Value.none)=true then _ else _) _ _ s;rw [if_neg (show ¬ ((Value.ref l == Value.none)=true) from Bool.false_ne_true)];show wpAny _ _ (field (.ref it) 1 >>= _) _ _ s;refine wB1 (wpAny_field ho hd (x:=.int i 0) rfl ?_);show wpAny _ _ (seqItems? (.ref l) >>= _) _ _ s;refine wB1 (wpAny_seqItems hob hdb ?_);simp only [Int.toNat_natCast,hx];refine wB1 (wpAny_rule (wB1 (wpAny_setField ho hd (by simp) ?_)));show wpAny _ _ (newExc (.type "StopIteration") [] >>= _) _ _ _;refine wB1 ?_;simp only [newExc,newTuple];refine wB1 (wO1 ?_ (by size_fits));refine wB1 (m:=firstArgMember _ _) (wpAny_of_eq (a:=Value.none) (by first | rfl | (simp only [firstArgMember];rfl)) ?_);refine wO1 ?_ (by size_fits);simp only [raiseNew];refine wB1 (wpAny_handled ?_)
 first | rw [show A.in1.handled=none from hh] | rw [hh]
 refine wB1 (wP1 (wpAny_throw ?_));exact hE _ _ (((Heap.SameBut.update ..).extBut.push _).push _) ⟨_,hS1 _ rfl,rfl⟩
theorem qdH {b:Bool}{it l:Addr}{i:Nat}{xs:Array Value}{x:Value}{Q:Value->Shared->Prop}(ti:SIt b s.heap it l i)(tl:SCo b s.heap l xs)(hx:xs[i]? = some x)
  (hQ:∀ h',SIt b h' it l (i+1)->Heap.SameBut it s.heap h'->Q x {s with heap:=h'}):wpAny (model prog w) A (Builtin.SmallTypes.nextOf (.ref it)) Q E s:=by
 cases b
 ·exact qkW ti tl hx hQ
 ·exact wpAny_nextOf_list_item ti tl hx hQ
theorem qck {b:Bool}{it l:Addr}{i:Nat}{xs:Array Value}{Q:Value->Shared->Prop}(hh:A.handled=none)(ti:SIt b s.heap it l i)(tl:SCo b s.heap l xs)(hx:xs[i]? = none)
  (hE:∀ h' e,Heap.ExtBut it s.heap h'->(∃ o,h'.get? e=some o/\o.cls = .type "StopIteration")->E (.ref e) {s with heap:=h'}):wpAny (model prog w) A (Builtin.SmallTypes.nextOf (.ref it)) Q E s:=by
 cases b
 ·exact qfI hh ti tl hx hE
 ·exact wpAny_nextOf_list_end hh ti tl hx hE
theorem qlg {b:Bool}(l:Addr)(xs:Array Value):
  Meets (Builtin.«enumerate.__new__» ⟨[.type "enumerate",.ref l],[]⟩) (fun _ R s=>SCo b s.heap l xs /\
   R (.ok (.ret (.ref (s.heap.push (qbQ b l)).objs.size))) {s with heap:=(s.heap.push (qbQ b l)).push {cls:=.type "enumerate",data:=.fields #[.none,.bool false,.ref s.heap.objs.size,rawInt 0,.none,.none]}}):=
 .of_wp fun prog w A R s h=>by
  obtain ⟨hp,g,d,tk,os⟩:=s;obtain ⟨hl,h⟩:=h;have hsub:=sub_enumerate
  have hL:SCo b (Shared.heap ⟨hp,g,d,tk,os⟩) l xs:=hl;obtain ⟨ol,el⟩:∃ o,hp.get? l=some o:=by cases b<;>(obtain ⟨o,e,_⟩:=hl;exact ⟨o,e⟩)
  wp_walk using wpAny_loadPart' el
  refine wpAny_stack_any fun st=>wP1 ?_;split
  ·rename_i c _ _ _ _ _;cases (c == Value.type "enumerate")<;>(wp_walk using wpAny_loadPart' el,qcS hL;exact ⟨_,rfl,h⟩)
  ·wp_walk using wpAny_loadPart' el,qcS hL
   exact ⟨_,rfl,h⟩
theorem qjI {b:Bool}{l:Addr}{xs:Array Value}{Q:Value->Shared->Prop}(hL:SCo b s.heap l xs)
  (h:∀ h',IsEnum h' (s.heap.objs.size+1) s.heap.objs.size 0 .none->SIt b h' s.heap.objs.size l 0->h'.objs.size=s.heap.objs.size+2->(∀ b o,s.heap.get? b=some o->h'.get? b=some o)->Q (.ref (s.heap.objs.size+1)) {s with heap:=h'}):
  wpAny (model prog w) A (call (.type "enumerate") [.ref l]) Q E s:=by
 refine callType_new F.called_enumerate (by decide) (F.typeCall_enumerate_1 _) (F.newCall_enumerate_1 _) (fun obj=>F.args_object_init_2 obj _) F.entry_enumerate_new (qlg (b:=b) l xs) ⟨hL,?_⟩;have hz:(s.heap.push (qbQ b l)).objs.size=s.heap.objs.size+1:=hZ1 ..
 show _/\_;rw [hz];have he:IsEnum ((s.heap.push (qbQ b l)).push {cls:=.type "enumerate",data:=.fields #[.none,.bool false,.ref s.heap.objs.size,rawInt 0,.none,.none]}) (s.heap.objs.size+1) s.heap.objs.size 0 .none:=by
  have q:=hS1 (s.heap.push (qbQ b l)) (o:={cls:=.type "enumerate",data:=.fields #[.none,.bool false,.ref s.heap.objs.size,rawInt 0,.none,.none]}) rfl;rw [hz] at q;exact q
 have hi:(s.heap.push (qbQ b l)).get? s.heap.objs.size=some (qbQ b l):=hS1 _ (by cases b<;>rfl);refine ⟨⟨_,he,rfl⟩,h _ he (qgf (hP1 _ hi)) (by rw [hZ1,hz]) fun c o x=>hP1 _ (hP1 _ x)⟩
theorem qjH {b:Bool}{e it l:Addr}{i:Nat}{xs:Array Value}{x old:Value}{Q:Option Value->Shared->Prop}(he:IsEnum s.heap e it i old)(ti:SIt b s.heap it l i)(tl:SCo b s.heap l xs)(hx:xs[i]? = some x)(hne:e≠it)
  (hQ:∀ h',IsEnumOut h' e it ((i:Int)+1) x s.heap.objs.size->SIt b h' it l (i+1)->h'.get? s.heap.objs.size=some {cls:=.type "tuple",data:=.seq #[.int i s.toks,x]}->h'.objs.size=s.heap.objs.size+1 ->
   (∀ b o,b≠e->b≠it->s.heap.get? b=some o->h'.get? b=some o)->Q (some (.ref s.heap.objs.size)) {s with heap:=h',toks:=s.toks+1}):wpAny (model prog w) A (pyNext (.ref e)) Q E s:=by
 have hT:s.TypeIs (.ref e) "enumerate":=⟨_,he,rfl⟩;unfold pyNext;refine wB1 (wpAny_attempt (wpAny_callSpecial?_slot (name:=Str.ofString "__next__") hT F.slot_enumerate_next (wE1 F.slot_enumerate_next hT F.entry_enumerate_next ?_ (F.args_enumerate_next_1 _))));obtain ⟨hp,g,d,tk,os⟩:=s;show wpAny _ _ (field (.ref e) 2 >>= _) _ _ _;refine wB1 (wpAny_field he rfl (x:=.ref it) rfl ?_);refine wB1 (qdH ti tl hx fun h1 ti1 s1=>?_);replace s1:Heap.SameBut it hp h1:=s1;have he1:IsEnum h1 e it i old:=(s1.2 e hne).trans he;show wpAny _ _ (field (.ref e) 3 >>= _) _ _ ⟨h1,g,d,tk,os⟩;refine wB1 (wpAny_field he1 rfl (x:=rawInt i) rfl ?_);show wpAny _ _ (field (.ref e) 4 >>= _) _ _ ⟨h1,g,d,tk,os⟩;refine wB1 (wpAny_field he1 rfl (x:=.none) rfl ?_);show wpAny _ _ (mkInt i >>= _) _ _ ⟨h1,g,d,tk,os⟩;refine wB1 (wpAny_mkInt ?_);show wpAny _ _ (setField (.ref e) 3 (rawInt ((i:Int)+1)) >>= _) _ _ ⟨h1,g,d,tk+1,os⟩;refine wB1 (wS1 he1 (by simp) fun h2 he2 s2=>?_);replace s2:Heap.SameBut e h1 h2:=s2;replace he2:IsEnum h2 e it ((i:Int)+1) old:=he2;show wpAny _ _ (setField (.ref e) 4 .none >>= _) _ _ ⟨h2,g,d,tk+1,os⟩;refine wB1 (wS1 he2 (by simp) fun h3 he3 s3=>?_);replace s3:Heap.SameBut e h2 h3:=s3;replace he3:IsEnum h3 e it ((i:Int)+1) old:=he3;show wpAny _ _ (newTuple [.int i tk,x] >>= _) _ _ ⟨h3,g,d,tk+1,os⟩;refine wB1 (wpAny_newTuple ?_);have he4:IsEnum (h3.push {cls:=.type "tuple",data:=.seq #[.int i tk,x]}) e it ((i:Int)+1) old:=hP1 _ he3;generalize hh4:h3.push {cls:=.type "tuple",data:=.seq #[.int i tk,x]}=h4 at he4;have hsz:h3.objs.size=hp.objs.size:=by rw [s3.1,s2.1,s1.1]
 have hel:e<hp.objs.size:=hL1 he;have ht4:h4.get? hp.objs.size=some {cls:=.type "tuple",data:=.seq #[.int i tk,x]}:=by rw [<- hh4,<- hsz];exact hS1 _ rfl
 have hz4:h4.objs.size=hp.objs.size+1:=by rw [<- hh4,hZ1,hsz]
 have hk4:∀ b o,b≠e->b≠it->hp.get? b=some o->h4.get? b=some o:=fun b o hbe hbi hb=>by
  rw [<- hh4];exact hP1 _ (s3.extBut b o hbe (s2.extBut b o hbe (s1.extBut b o hbi hb)))
 have ti4:SIt b h4 it l (i+1):=ti1.to fun o q=>by rw [<- hh4];exact hP1 _ (s3.extBut _ _ (Ne.symm hne) (s2.extBut _ _ (Ne.symm hne) q))
 show wpAny _ _ (Builtin.SmallTypes.ownedTupleIsFree (.ref e) >>= _) _ _ ⟨h4,g,d,tk+1,os⟩;rw [hsz];clear hh4 he3 s3 he2 s2 he1 s1 ti1 hsz h3 h2 h1;refine wB1 ?_;unfold Builtin.SmallTypes.ownedTupleIsFree;refine wB1 (wpAny_field he4 rfl (x:=.none) rfl (wP1 ?_));simp only [if_true];refine wB1 (wpAny_rule ?_);refine wB1 (wpAny_field he4 rfl (x:=old) rfl ?_);refine wB1 (wS1 he4 (by simp) fun h5 he5 s5=>?_);replace s5:Heap.SameBut e h4 h5:=s5;replace he5:IsEnum h5 e it ((i:Int)+1) x:=he5;show wpAny _ _ (Builtin.SmallTypes.ownedTupleHandOut (.ref e) (.ref hp.objs.size) >>= _) _ _ ⟨h5,g,d,tk+1,os⟩;refine wB1 ?_;unfold Builtin.SmallTypes.ownedTupleHandOut;refine wB1 (wS1 he5 (by simp) fun h6 he6 s6=>?_);replace s6:Heap.SameBut e h5 h6:=s6;replace he6:IsEnumOut h6 e it ((i:Int)+1) x hp.objs.size:=he6;refine wS1 he6 (by simp) fun h7 he7 s7=>?_;replace s7:Heap.SameBut e h6 h7:=s7;replace he7:IsEnumOut h7 e it ((i:Int)+1) x hp.objs.size:=he7;have up:∀ c o,c≠e->h4.get? c=some o->h7.get? c=some o:=fun c o z q=>s7.extBut _ _ z (s6.extBut _ _ z (s5.extBut _ _ z q));refine wB1 (wpAny_letGo (wP1 ⟨_,rfl,wP1 (hQ h7 he7 (ti4.to fun o q=>up _ o (Ne.symm hne) q) (up _ _ (nG1 hel) ht4) (by rw [s7.1,s6.1,s5.1,hz4]) fun c o hbe hbi hb=>up c o hbe (hk4 c o hbe hbi hb))⟩))
theorem qlh {b:Bool}{e it l:Addr}{i:Nat}{xs:Array Value}{old:Value}{Q:Option Value->Shared->Prop}(hh:A.handled=none)(he:IsEnum s.heap e it i old)(ti:SIt b s.heap it l i)(tl:SCo b s.heap l xs)(hx:xs[i]? = none)
  (hQ:∀ h',Heap.ExtBut it s.heap h'->Q none {s with heap:=h'}):wpAny (model prog w) A (pyNext (.ref e)) Q E s:=by
 have hT:s.TypeIs (.ref e) "enumerate":=⟨_,he,rfl⟩;unfold pyNext;refine wB1 (wpAny_attempt (wpAny_callSpecial?_slot (name:=Str.ofString "__next__") hT F.slot_enumerate_next (wE1 F.slot_enumerate_next hT F.entry_enumerate_next ?_ (F.args_enumerate_next_1 _))));show wpAny _ _ (field (.ref e) 2 >>= _) _ _ _;refine wB1 (wpAny_field he rfl (x:=.ref it) rfl ?_);refine wB1 (qck hh ti tl hx fun h' x he' hx'=>?_);obtain ⟨o,ho,hc⟩:=hx';refine wB1 (wpAny_isInstance (T:="StopIteration") (b:=true) ⟨o,ho,hc⟩ isSubtype_stop ?_);exact wP1 (hQ _ he')
theorem qfT {e it:Addr}{i:Int}{old:Value}{Q:Value->Shared->Prop}(he:IsEnum s.heap e it i old)(h:Q (.ref e) s):wpAny (model prog w) A (pyIter (.ref e)) Q E s:=by
 have hT:s.TypeIs (.ref e) "enumerate":=⟨_,he,rfl⟩;refine wpAny_pyIter_slot hT F.slot_enumerate_iter (wE1 F.slot_enumerate_iter hT F.entry_enumerate_iter ?_ (F.args_enumerate_iter_1 _));show wpAny _ _ (ret (.ref e)) _ _ s;exact wP1 ⟨_,rfl,"enumerate",_,hT,F.slot_enumerate_next.lookup,h⟩
end
open PySem.AutoSeq1 (wpAny_loadPart')
structure Zap (z ti to i1 i2:Addr):Prop where
 a1:ti≠z
 a2:to≠z
 a3:i1≠z
 a4:i2≠z
 a5:ti≠to
 a6:ti≠i1
 a7:ti≠i2
 a8:to≠i1
 a9:to≠i2
 a10:i1≠i2
section
variable {prog:Program} {w:World} {A:Around} {E:Value->Shared->Prop} {s:Shared} {b1 b2:Bool}
theorem SCo.ne {b:Bool}{h:Heap}{a c:Addr}{xs:Array Value}{o:Obj}(x:SCo b h a xs)(e:h.get? c=some o)(n:∀ ys k,o.data ≠ .seq ys k):a≠c:=by
 rintro rfl;cases b<;>(obtain ⟨o',e',c',k,d⟩:=x;rw [e] at e';cases e';exact n _ _ d)
theorem SCo.ne_it {b b':Bool}{h:Heap}{a it l:Addr}{xs:Array Value}{i:Nat}(x:SCo b h a xs)(y:SIt b' h it l i):a≠it:=by
 cases b'<;>(obtain ⟨o,e,c,d⟩:=y;exact x.ne e fun ys k z=>by rw [d] at z;cases z)
theorem qke {z ti to i1 i2 l1 l2:Addr}{k1 k2:Nat}{xs ys:Array Value}{x y a b:Value}{Q:Option Value->Shared->Prop}(D:Zap z ti to i1 i2)(hz:IsZip s.heap z ti to .none)(hti:IsPair s.heap ti (.ref i1) (.ref i2))(hto:IsPair s.heap to a b)
  (n1:l1≠to) (n2:l2≠to) (h1:SIt b1 s.heap i1 l1 k1) (h2:SIt b2 s.heap i2 l2 k2) (c1:SCo b1 s.heap l1 xs) (c2:SCo b2 s.heap l2 ys) (hx:xs[k1]? = some x) (hy:ys[k2]? = some y)
  (hQ:∀ h',IsZip h' z ti to (rawInt s.heap.objs.size)->IsPair h' to x y->SIt b1 h' i1 l1 (k1+1)->SIt b2 h' i2 l2 (k2+1)->IsPair h' s.heap.objs.size x y->h'.objs.size=s.heap.objs.size+1 ->
   (∀ c o,c≠z->c≠to->c≠i1->c≠i2->s.heap.get? c=some o->h'.get? c=some o)->Q (some (.ref s.heap.objs.size)) {s with heap:=h'}):wpAny (model prog w) A (pyNext (.ref z)) Q E s:=by
 have hT:s.TypeIs (.ref z) "zip":=⟨_,hz,rfl⟩;have l1z:l1≠z:=c1.ne hz fun _ _ q=>by cases q
 have l2z:l2≠z:=c2.ne hz fun _ _ q=>by cases q
 have l2i1:l2≠i1:=c2.ne_it h1;unfold pyNext;refine wB1 (wpAny_attempt (wpAny_callSpecial?_slot (name:=Str.ofString "__next__") hT F.slot_zip_next (wE1 F.slot_zip_next hT F.entry_zip_next ?_ (F.args_zip_next_1 _))));show wpAny _ _ (field (.ref z) 2 >>= _) _ _ _;refine wB1 (wpAny_field hz rfl (x:=.bool false) rfl ?_);show wpAny _ _ (field (.ref z) 3 >>= _) _ _ _;refine wB1 (wpAny_field hz rfl (x:=.ref ti) rfl ?_);refine wB1 (wpAny_seqItems hti rfl ?_);show wpAny _ _ (Builtin.SmallTypes.ownedTupleIsFree (.ref z) >>= _) _ _ _;refine wB1 ?_;unfold Builtin.SmallTypes.ownedTupleIsFree;refine wB1 (wpAny_field hz rfl (x:=.none) rfl (wP1 ?_));simp only [if_true];refine wB1 (wpAny_rule ?_);refine wB1 (wpAny_field hz rfl (x:=.ref to) rfl ?_);refine wB1 (wS1 hz (by simp) fun g1 hz1 s1=>?_);replace hz1:IsZip g1 z ti to .ellipsis:=hz1;refine wB1 ?_;simp only [List.zipIdx_cons,List.zipIdx_nil,List.forIn_cons,List.forIn_nil];refine wB1 (wB1 (wpAny_onRaise ?_));show wpAny _ _ (Builtin.SmallTypes.nextOf (.ref i1) >>= _) _ _ _
 refine wB1 (qdH (h1.to fun o q=>s1.extBut _ _ D.a3 q) (c1.to fun o q=>s1.extBut _ _ l1z q) hx fun g2 h12 s2=>wP1 ?_);have hto2:IsPair g2 to a b:=s2.extBut _ _ D.a8 (s1.extBut _ _ D.a2 hto);refine wB1 (wpAny_seqItems hto2 rfl ?_);refine wB1 (wpAny_updateSeq_pair hto2 fun g3 hto3 s3=>?_);replace hto3:IsPair g3 to x b:=hto3;refine wB1 (wpAny_letGo (wP1 ?_));refine wB1 (wB1 (wpAny_onRaise ?_));show wpAny _ _ (Builtin.SmallTypes.nextOf (.ref i2) >>= _) _ _ _
 refine wB1 (qdH (h2.to fun o q=>s3.extBut _ _ D.a9.symm (s2.extBut _ _ D.a10.symm (s1.extBut _ _ D.a4 q))) (c2.to fun o q=>s3.extBut _ _ n2 (s2.extBut _ _ l2i1 (s1.extBut _ _ l2z q))) hy fun g4 h24 s4=>wP1 ?_);have hto4:IsPair g4 to x b:=s4.extBut _ _ D.a9 hto3;refine wB1 (wpAny_seqItems hto4 rfl ?_);refine wB1 (wpAny_updateSeq_pair hto4 fun g5 hto5 s5=>?_);replace hto5:IsPair g5 to x y:=hto5;refine wB1 (wpAny_letGo (wP1 (wP1 ?_)));refine wB1 (wpAny_seqItems hto5 rfl ?_);refine wB1 (wpAny_newTuple ?_);have hsz:g5.objs.size=s.heap.objs.size:=by rw [s5.1,s4.1,s3.1,s2.1,s1.1]
 have hz5:IsZip g5 z ti to .ellipsis:=s5.extBut _ _ D.a2.symm (s4.extBut _ _ D.a4.symm (s3.extBut _ _ D.a2.symm (s2.extBut _ _ D.a3.symm hz1)));have hk5:∀ c o,c≠z->c≠to->c≠i1->c≠i2->s.heap.get? c=some o->g5.get? c=some o:=fun c o q1 q2 q3 q4 q=>s5.extBut _ _ q2 (s4.extBut _ _ q4 (s3.extBut _ _ q2 (s2.extBut _ _ q3 (s1.extBut _ _ q1 q))));have h15:SIt b1 g5 i1 l1 (k1+1):=h12.to fun o q=>s5.extBut _ _ D.a8.symm (s4.extBut _ _ D.a10 (s3.extBut _ _ D.a8.symm q));have h25:SIt b2 g5 i2 l2 (k2+1):=h24.to fun o q=>s5.extBut _ _ D.a9.symm q;have hzlt:z<g5.objs.size:=hL1 hz5;show wpAny _ _ (Builtin.SmallTypes.ownedTupleHandOut (.ref z) (.ref g5.objs.size) >>= _) _ _ _;refine wB1 ?_;unfold Builtin.SmallTypes.ownedTupleHandOut;have hz6:IsZip (g5.push {cls:=.type "tuple",data:=.seq #[x,y]}) z ti to .ellipsis:=hP1 _ hz5;refine wB1 (wS1 hz6 (by simp) fun g7 hz7 s7=>?_);replace hz7:IsZip g7 z ti to (rawInt g5.objs.size):=hz7;refine wS1 hz7 (by simp) fun g8 hz8 s8=>?_;replace hz8:IsZip g8 z ti to (rawInt g5.objs.size):=hz8;have up:∀ c o,c≠z->g5.get? c=some o->g8.get? c=some o:=fun c o q1 q=>s8.extBut _ _ q1 (s7.extBut _ _ q1 (hP1 _ q));have hT8:IsPair g8 g5.objs.size x y:=s8.extBut _ _ (nG1 hzlt) (s7.extBut _ _ (nG1 hzlt) (hS1 _ rfl));have hz9:g8.objs.size=g5.objs.size+1:=by rw [s8.1,s7.1,hZ1]
 rw [hsz] at hz8 hT8 hz9;refine wP1 ⟨_,rfl,wP1 ?_⟩;show Q (some (.ref g5.objs.size)) _;rw [hsz]
 exact hQ g8 hz8 (up _ _ D.a2 hto5) (h15.to fun o q=>up _ o D.a3 q) (h25.to fun o q=>up _ o D.a4 q) hT8 hz9 fun c o q1 q2 q3 q4 q=>up c o q1 (hk5 c o q1 q2 q3 q4 q)
theorem qmc {z ti to i1 i2 l1 l2:Addr}{k1 k2:Nat}{xs ys:Array Value}{a b:Value}{Q:Option Value->Shared->Prop}(hh:A.handled=none)(D:Zap z ti to i1 i2)(hz:IsZip s.heap z ti to .none)(hti:IsPair s.heap ti (.ref i1) (.ref i2))(hto:IsPair s.heap to a b)
  (n1:l1≠to) (n2:l2≠to) (h1:SIt b1 s.heap i1 l1 k1) (h2:SIt b2 s.heap i2 l2 k2) (c1:SCo b1 s.heap l1 xs) (c2:SCo b2 s.heap l2 ys) (hend:xs[k1]? = none\/ys[k2]? = none)
  (hQ:∀ h',(∀ c o,c≠z->c≠to->c≠i1->c≠i2->s.heap.get? c=some o->h'.get? c=some o)->Q none {s with heap:=h'}):wpAny (model prog w) A (pyNext (.ref z)) Q E s:=by
 have hT:s.TypeIs (.ref z) "zip":=⟨_,hz,rfl⟩;have l1z:l1≠z:=c1.ne hz fun _ _ q=>by cases q
 have l2z:l2≠z:=c2.ne hz fun _ _ q=>by cases q
 have l2i1:l2≠i1:=c2.ne_it h1;unfold pyNext;refine wB1 (wpAny_attempt (wpAny_callSpecial?_slot (name:=Str.ofString "__next__") hT F.slot_zip_next (wE1 F.slot_zip_next hT F.entry_zip_next ?_ (F.args_zip_next_1 _))));show wpAny _ _ (field (.ref z) 2 >>= _) _ _ _;refine wB1 (wpAny_field hz rfl (x:=.bool false) rfl ?_);show wpAny _ _ (field (.ref z) 3 >>= _) _ _ _;refine wB1 (wpAny_field hz rfl (x:=.ref ti) rfl ?_);refine wB1 (wpAny_seqItems hti rfl ?_);show wpAny _ _ (Builtin.SmallTypes.ownedTupleIsFree (.ref z) >>= _) _ _ _;refine wB1 ?_;unfold Builtin.SmallTypes.ownedTupleIsFree;refine wB1 (wpAny_field hz rfl (x:=.none) rfl (wP1 ?_));simp only [if_true];refine wB1 (wpAny_rule ?_);refine wB1 (wpAny_field hz rfl (x:=.ref to) rfl ?_);refine wB1 (wS1 hz (by simp) fun g1 hz1 s1=>?_);replace hz1:IsZip g1 z ti to .ellipsis:=hz1;refine wB1 ?_;simp only [List.zipIdx_cons,List.zipIdx_nil,List.forIn_cons,List.forIn_nil];refine wB1 (wB1 (wpAny_onRaise ?_));show wpAny _ _ (Builtin.SmallTypes.nextOf (.ref i1) >>= _) _ _ _
 cases hx:xs[k1]? with
 | none=>
  refine wB1 (qck hh (h1.to fun o q=>s1.extBut _ _ D.a3 q) (c1.to fun o q=>s1.extBut _ _ l1z q) hx fun g2 e s2 he=>?_);obtain ⟨oe,hoe,hce⟩:=he;have hz2:IsZip g2 z ti to .ellipsis:=s2 _ _ D.a3.symm hz1;have hez:e≠z:=fun q=>by subst q;rw [hz2] at hoe;cases hoe;simp at hce
  refine wS1 hz2 (by simp) fun g3 _ s3=>?_;refine wB1 (wpAny_isInstance (T:="StopIteration") (b:=true) ⟨oe,s3.extBut _ _ hez hoe,hce⟩ isSubtype_stop ?_);exact wP1 (hQ g3 fun c o q1 _ q3 _ q=>s3.extBut _ _ q1 (s2 _ _ q3 (s1.extBut _ _ q1 q)))
 | some x=>
  have hy:ys[k2]? = none:=by rcases hend with h | h;rw [hx] at h;cases h;exact h
  refine wB1 (qdH (h1.to fun o q=>s1.extBut _ _ D.a3 q) (c1.to fun o q=>s1.extBut _ _ l1z q) hx fun g2 h12 s2=>wP1 ?_);have hto2:IsPair g2 to a b:=s2.extBut _ _ D.a8 (s1.extBut _ _ D.a2 hto);refine wB1 (wpAny_seqItems hto2 rfl ?_);refine wB1 (wpAny_updateSeq_pair hto2 fun g3 hto3 s3=>?_);refine wB1 (wpAny_letGo (wP1 ?_));refine wB1 (wB1 (wpAny_onRaise ?_));show wpAny _ _ (Builtin.SmallTypes.nextOf (.ref i2) >>= _) _ _ _
  refine wB1 (qck hh (h2.to fun o q=>s3.extBut _ _ D.a9.symm (s2.extBut _ _ D.a10.symm (s1.extBut _ _ D.a4 q))) (c2.to fun o q=>s3.extBut _ _ n2 (s2.extBut _ _ l2i1 (s1.extBut _ _ l2z q))) hy fun g4 e s4 he=>?_);obtain ⟨oe,hoe,hce⟩:=he;have hz4:IsZip g4 z ti to .ellipsis:=s4 _ _ D.a4.symm (s3.extBut _ _ D.a2.symm (s2.extBut _ _ D.a3.symm hz1));have hez:e≠z:=fun q=>by subst q;rw [hz4] at hoe;cases hoe;simp at hce
  refine wS1 hz4 (by simp) fun g5 _ s5=>?_;refine wB1 (wpAny_isInstance (T:="StopIteration") (b:=true) ⟨oe,s5.extBut _ _ hez hoe,hce⟩ isSubtype_stop ?_);exact wP1 (hQ g5 fun c o q1 q2 q3 q4 q=>s5.extBut _ _ q1 (s4 _ _ q4 (s3.extBut _ _ q2 (s2.extBut _ _ q3 (s1.extBut _ _ q1 q)))))
noncomputable def zH (b1 b2:Bool)(h:Heap)(l1 l2:Addr):Heap:=((((h.push (qbQ b1 l1)).push (qbQ b2 l2)).push {cls:=.type "tuple",data:=.seq #[.ref h.objs.size,.ref (h.objs.size+1)]}).push {cls:=.type "tuple",data:=.seq #[.none,.none]}).push
 {cls:=.type "zip",data:=.fields #[.none,.bool false,.bool false,.ref (h.objs.size+2),.ref (h.objs.size+3)]}
theorem qma (l1 l2:Addr)(xs ys:Array Value):Meets (Builtin.«zip.__new__» ⟨[.type "zip",.ref l1,.ref l2],[]⟩) (fun _ R s=>SCo b1 s.heap l1 xs/\SCo b2 s.heap l2 ys/\R (.ok (.ret (.ref (s.heap.objs.size+4)))) {s with heap:=zH b1 b2 s.heap l1 l2}):=
 .of_wp fun prog w A R s h=>by
  obtain ⟨hp,g,d,tk,os⟩:=s;obtain ⟨c1,c2,h⟩:=h;have hsub:=sub_zip
  have L1:SCo b1 (Shared.heap ⟨hp,g,d,tk,os⟩) l1 xs:=c1;have L2:SCo b2 (Shared.heap ⟨hp.push (qbQ b1 l1),g,d,tk,os⟩) l2 ys:=c2.to fun o q=>hP1 _ q
  wp_walk using qcS L1,qcS L2
  refine ⟨_,rfl,?_⟩;have z1:(hp.push (qbQ b1 l1)).objs.size=hp.objs.size+1:=hZ1 ..
  simp only [hZ1,zH] at h ⊢;exact h
theorem qkf {l1 l2:Addr}{xs ys:Array Value}{Q:Value->Shared->Prop}(c1:SCo b1 s.heap l1 xs)(c2:SCo b2 s.heap l2 ys)
  (h:∀ h',IsZip h' (s.heap.objs.size+4) (s.heap.objs.size+2) (s.heap.objs.size+3) .none->IsPair h' (s.heap.objs.size+2) (.ref s.heap.objs.size) (.ref (s.heap.objs.size+1))->IsPair h' (s.heap.objs.size+3) .none .none ->
   SIt b1 h' s.heap.objs.size l1 0->SIt b2 h' (s.heap.objs.size+1) l2 0->h'.objs.size=s.heap.objs.size+5->(∀ c o,s.heap.get? c=some o->h'.get? c=some o)->Q (.ref (s.heap.objs.size+4)) {s with heap:=h'}):
  wpAny (model prog w) A (call (.type "zip") [.ref l1,.ref l2]) Q E s:=by
 refine callType_new F.called_zip (by decide) (F.typeCall_zip_2 _ _) (F.newCall_zip_2 _ _) (fun obj=>F.args_object_init_3 obj _ _) F.entry_zip_new (qma (b1:=b1) (b2:=b2) l1 l2 xs ys) ⟨c1,c2,?_⟩;have up:∀ {h:Heap} {o:Obj} {c:Addr} {u:Obj},h.get? c=some u->(h.push o).get? c=some u:=fun q=>hP1 _ q;have at_:∀ {h:Heap} {o:Obj} {n:Nat},h.objs.size=n->o.isFreed=false->(h.push o).get? n=some o:=fun e f=>by rw [<- e];exact hS1 _ f
 have f1:(qbQ b1 l1).isFreed=false:=by cases b1<;>rfl
 have f2:(qbQ b2 l2).isFreed=false:=by cases b2<;>rfl
 have g1:(zH b1 b2 s.heap l1 l2).get? s.heap.objs.size=some (qbQ b1 l1):=up (up (up (up (at_ rfl f1))));have g2:(zH b1 b2 s.heap l1 l2).get? (s.heap.objs.size+1)=some (qbQ b2 l2):=up (up (up (at_ (by simp only [hZ1]) f2)));have g3:IsPair (zH b1 b2 s.heap l1 l2) (s.heap.objs.size+2) (.ref s.heap.objs.size) (.ref (s.heap.objs.size+1)):=up (up (at_ (by simp only [hZ1]) rfl));have g4:IsPair (zH b1 b2 s.heap l1 l2) (s.heap.objs.size+3) .none .none:=up (at_ (by simp only [hZ1]) rfl);have g5:IsZip (zH b1 b2 s.heap l1 l2) (s.heap.objs.size+4) (s.heap.objs.size+2) (s.heap.objs.size+3) .none:=at_ (by simp only [hZ1]) rfl;exact ⟨⟨_,g5,rfl⟩,h _ g5 g3 g4 (qgf g1) (qgf g2) (by simp only [zH,hZ1]) fun c o q=>up (up (up (up (up q))))⟩
end
noncomputable def SqB (K:Fg1)(b:Bool)(H:Hp)(a:Addr)(xs:List V):Prop:=match b with
 | true=>SqL K H a xs
 | false=>SqT K H a xs
section
variable {X:Cx} {pins:List (Addr×Obj)} {σ:L2.St} {H:Hp} {s:Shared}
theorem qaO {b:Bool}{a:Addr}{xs:List V}(I:Inv X pins σ H s)(h:SqB X.K b H a xs):∃ its:List Value,Vals xs its/\SCo b s.heap a its.toArray/\xs.length<=sizeLine:=by
 cases b
 ·obtain ⟨its,r,p,z⟩:=I.tuple h;exact ⟨its,r,p,z⟩
 ·obtain ⟨its,r,p,z⟩:=I.list h;exact ⟨its,r,p.isList,z⟩
theorem qeJ {b:Bool}{a:Addr}{xs ys:List V}(I:Inv X pins σ H s)(h:SqB X.K b H a xs)(h':SqB X.K b H a ys):xs=ys:=by
 cases b
 ·exact I.tuple_inj h h'
 ·exact I.list_inj h h'
theorem qgW {b:Bool}{a c:Addr}{xs:List V}(I:Inv X pins σ H s)(h:SqB X.K b H a xs)(f:FpOk X pins H c):a≠c:=by
 rintro rfl;have ink:∀ {o},X.K.lookup a=some o->False:=fun {o} e=>by
  have e1:=I.ok.mod.kin _ _ e;rcases f.2.2.2.1 with z | z
  ·exact I.ok.noex _ _ e1 z
  ·exact absurd (nL1 (hL1 e1) (Nat.le_trans I.ok.bsz z)) (Nat.lt_irrefl _)
 cases b
 ·rcases h with (h | ⟨_,h⟩) | ⟨_,_,_,h,_⟩
  ·rw [f.1] at h;cases h
  ·rw [f.1] at h;cases h
  ·exact ink h
 ·rcases h with (h | ⟨_,h⟩) | ⟨_,_,_,h,_⟩
  ·rw [f.1] at h;cases h
  ·rw [f.1] at h;cases h
  ·exact ink h
theorem qhk (I:Inv X pins σ H s){fp:List Addr}(hf:∀ b∈fp,FpOk X pins H b){h':Heap}{p:Addr}{xs:List V}{its:List Value}{t':Nat}(hp:s.heap.objs.size<=p)(kk:∀ b o,b∉fp->s.heap.get? b=some o->h'.get? b=some o)
  (tp:IsTup h' p its.toArray) (rv:Vals xs its) (hz:xs.length<=sizeLine):Inv X pins σ (upd H p (.tup xs)) {s with heap:=h',toks:=t'}:=by
 have hn:H p=none:=I.hok.fresh hp;have neP:∀ {b o},s.heap.get? b=some o->b≠p:=fun e=>nN1 (nL1 (hL1 e) hp);have nf:∀ {b u},H b=some u->b∉fp:=fun e z=>by rw [(hf _ z).1] at e;cases e
 refine I.step (g':=s.gens) (d':=s.drawn) (ch:=fp) (fun b hb=>⟨(hf b hb).2.2.2.1,(hf b hb).2.1,(hf b hb).2.2.2.2.1,(hf b hb).2.2.2.2.2⟩) (fun b o _ _ hc e _=>kk b o hc e) (fun b o _ _ hc e _=>⟨o.slots,kk b o hc e⟩) (fun b o _ e n=>?_)
  (fun b o hc e=>⟨o,kk b o hc e⟩) (fun b ys e=>?_) (fun b o u e=>?_) (fun b ps e=>⟨#[],?_⟩) (fun m hm=>?_) (fun b u e=>?_) I.bare
 ·rw [qar (neP e)];exact n
 ·rw [qar (qav e hn)];exact e
 ·rw [qar (qav e hn)];exact e
 ·rw [qar (qav e hn),e];simp
 ·obtain ⟨o,es,ep,ho,r⟩:=hm;exact ⟨o,es,ep,kk _ o (fun z=>(hf _ z).2.1 rfl) ho,r⟩
 ·by_cases hb:b=p
  ·subst hb;rw [qau] at e;cases e;exact ⟨hz,its,rv,tp⟩
  ·rw [qar hb] at e;refine (I.hok b u e).stay (fun c v hc q=>kk c v ?_ q) (fun c q=>by rw [qar (qav q hn)];exact q) fun c ys q=>by rw [qar (qav q hn)];exact q
   rcases hc with z | z
   ·rw [z];exact nf e
   ·exact nf z
theorem qey (I:Inv X pins σ H s){fp:List Addr}(hf:∀ b∈fp,FpOk X pins H b){h':Heap}{t':Nat}(kk:∀ b o,b∉fp->s.heap.get? b=some o->h'.get? b=some o):Inv X pins σ H {s with heap:=h',toks:=t'}:=by
 have nf:∀ {b u},H b=some u->b∉fp:=fun e z=>by rw [(hf _ z).1] at e;cases e
 refine I.step (g':=s.gens) (d':=s.drawn) (ch:=fp) (fun b hb=>⟨(hf b hb).2.2.2.1,(hf b hb).2.1,(hf b hb).2.2.2.2.1,(hf b hb).2.2.2.2.2⟩) (fun b o _ _ hc e _=>kk b o hc e) (fun b o _ _ hc e _=>⟨o.slots,kk b o hc e⟩) (fun b o _ e n=>n)
  (fun b o hc e=>⟨o,kk b o hc e⟩) (fun b ys e=>e) (fun b o u e=>e) (fun b ps e=>⟨#[],by rw [e];simp⟩) (fun m hm=>?_) (fun b u e=>?_) I.bare
 ·obtain ⟨o,es,ep,ho,r⟩:=hm;exact ⟨o,es,ep,kk _ o (fun z=>(hf _ z).2.1 rfl) ho,r⟩
 ·refine (I.hok b u e).stay (fun c v hc q=>kk c v ?_ q) (fun c q=>q) fun c ys q=>q;rcases hc with z | z
  ·rw [z];exact nf e
  ·exact nf z
end
theorem qgU:(2:Nat)<=sizeLine:=by decide
noncomputable def Ite (K:Fg1)(b:Bool)(a:Addr):It:=
 ⟨fun i H=>∃ xs x,SqB K b H a xs/\xs[i]? = some x,fun i H x H'=>∃ p v,H p=none/\x = .ref p/\H'=upd H p (.tup [.int i,v]) /\ ∀ xs,SqB K b H a xs->xs[i]? = some v,fun i H=>∃ xs,SqB K b H a xs/\xs.length<=i⟩
theorem qio {P:Program}{w:World}{K:Fg1}{elts:List Expr}{k:Nat}{pos:Pos}(b:Bool)(a e it:Addr)(ne:e≠it):Turn P w K (.Tuple elts k pos) (Ite K b a) [e,it] e (fun i h=>(∃ old,IsEnum h e it (i:Nat) old)/\SIt b h it a i) where
 mem:=by simp
 obj:=by
  rintro i h ⟨⟨old,st⟩,si⟩ c hc;rcases List.mem_cons.mp hc with z | z
  ·subst z;exact ⟨_,st,fun v q=>by cases q⟩
  ·have z':c=it:=by simpa using z
   subst z';exact si.rec_
 keep:=fun i h h' ⟨⟨old,st⟩,si⟩ kk=>⟨⟨old,kk e (by simp) _ st⟩,si.to fun o q=>kk it (by simp) o q⟩
 item:=by
  intro X hP hw hK hc i pins s σ H E I hf st hg;subst hP hw hK;obtain ⟨⟨old,he⟩,ti⟩:=st;obtain ⟨xs,x,hq,hx⟩:=hg;obtain ⟨its,rv,co,hz⟩:=qaO I hq;obtain ⟨u,hu,ru⟩:=rv.get hx;refine qjH he ti co (x:=u) (by simpa using hu) ne fun h1 heo ti1 ht1 hz1 hk1=>?_;refine ⟨.ref s.heap.objs.size,rfl,?_⟩;refine wpAny_letOwnedTupleGo_enum heo fun h2 he2 hs2=>?_;have pe:s.heap.objs.size≠e:=nG1 (hL1 he);have hk2:∀ c o,c∉[e,it]->s.heap.get? c=some o->h2.get? c=some o:=fun c o hc q=>by
   have c1:c≠e:=fun z=>hc (by simp [z]);have c2:c≠it:=fun z=>hc (by simp [z]);exact hs2.extBut _ _ c1 (hk1 c o c1 c2 q)
  have tp:IsTup h2 s.heap.objs.size [.int (i:Nat) s.toks,u].toArray:=⟨_,hs2.extBut _ _ pe ht1,rfl,_,rfl⟩;have I2:=qhk I hf (t':=s.toks+1) (nR1 _) hk2 tp (xs:=[.int i,x]) (.cons ⟨_,rfl⟩ (.cons ru .nil)) qgU;have hn:H s.heap.objs.size=none:=I.hok.fresh (nR1 _);refine ⟨.ref s.heap.objs.size,_,I2,rfl,⟨_,x,hn,rfl,rfl,fun ys hy=>by rw [qeJ I hy hq];exact hx⟩,⟨⟨u,?_⟩,ti1.to fun o q=>hs2.extBut _ _ (Ne.symm ne) q⟩,fun c hc=>?_⟩
  ·have:((i+1:Nat):Int)=(i:Int)+1:=by push_cast;rfl
   rw [this];exact he2
  ·have c1:c≠s.heap.objs.size:=fun z=>by
    rcases List.mem_cons.mp hc with q | q
    ·exact pe (z.symm.trans q)
    ·have q':c=it:=by simpa using q
     obtain ⟨o,eo,_⟩:=ti.rec_;rw [<- q',z] at eo;exact Nat.lt_irrefl _ (hL1 eo)
   rw [qar c1];exact (hf c hc).1
 done:=by
  intro X hP hw hK hc i pins s σ H E I hf st hg;subst hP hw hK;obtain ⟨⟨old,he⟩,ti⟩:=st;obtain ⟨xs,hq,hx⟩:=hg;obtain ⟨its,rv,co,hz⟩:=qaO I hq;have hl:=rv.length;refine qlh (I.ok.hd hc) he ti co (by simp;lia) fun h' eb=>⟨rfl,qey I (t':=s.toks) hf fun c o hc q=>eb c o (fun z=>hc (by simp [z])) q⟩
 self:=fun _ _ _ _ _ ⟨⟨_,st⟩,_⟩ h=>qfT st h
noncomputable def Itz (K:Fg1)(b1 b2:Bool)(a1 a2:Addr):It:=
 ⟨fun i H=>∃ xs ys x y,SqB K b1 H a1 xs/\SqB K b2 H a2 ys/\xs[i]? = some x/\ys[i]? = some y,fun i H x H'=>∃ p v u,H p=none/\x = .ref p/\H'=upd H p (.tup [v,u])/\(∀ xs,SqB K b1 H a1 xs->xs[i]? = some v) /\ ∀ ys,SqB K b2 H a2 ys->ys[i]? = some u,
  fun i H=>∃ xs ys,SqB K b1 H a1 xs/\SqB K b2 H a2 ys/\(xs.length<=i\/ys.length<=i)⟩
theorem qkk {P:Program}{w:World}{K:Fg1}{elts:List Expr}{k:Nat}{pos:Pos}(b1 b2:Bool)(a1 a2 z ti to i1 i2:Addr)(D:Zap z ti to i1 i2):Turn P w K (.Tuple elts k pos) (Itz K b1 b2 a1 a2) [z,ti,to,i1,i2] z
  (fun i h=>IsZip h z ti to .none/\IsPair h ti (.ref i1) (.ref i2)/\(∃ u v,IsPair h to u v)/\SIt b1 h i1 a1 i/\SIt b2 h i2 a2 i) where
 mem:=by simp
 obj:=by
  rintro i h ⟨q1,q2,⟨u,v,q3⟩,q4,q5⟩ c hc;simp only [List.mem_cons,List.not_mem_nil,or_false] at hc;rcases hc with rfl | rfl | rfl | rfl | rfl
  ·exact ⟨_,q1,fun v q=>by cases q⟩
  ·exact ⟨_,q2,fun v q=>by cases q⟩
  ·exact ⟨_,q3,fun v q=>by cases q⟩
  ·exact q4.rec_
  ·exact q5.rec_
 keep:=fun i h h' ⟨q1,q2,⟨u,v,q3⟩,q4,q5⟩ kk=>⟨kk z (by simp) _ q1,kk ti (by simp) _ q2,⟨u,v,kk to (by simp) _ q3⟩,q4.to fun o q=>kk i1 (by simp) o q,q5.to fun o q=>kk i2 (by simp) o q⟩
 item:=by
  intro X hP hw hK hc i pins s σ H E I hf st hg;subst hP hw hK;obtain ⟨q1,q2,⟨u0,v0,q3⟩,q4,q5⟩:=st;obtain ⟨xs,ys,x,y,hx,hy,ex,ey⟩:=hg;obtain ⟨its,rv,co,hz⟩:=qaO I hx;obtain ⟨its2,rv2,co2,hz2⟩:=qaO I hy;obtain ⟨u,hu,ru⟩:=rv.get ex;obtain ⟨u2,hu2,ru2⟩:=rv2.get ey;refine qke D q1 q2 q3 (qgW I hx (hf to (by simp))) (qgW I hy (hf to (by simp))) q4 q5 co co2 (x:=u) (y:=u2) (by simpa using hu) (by simpa using hu2) fun h1 p1 p2 p3 p4 p5 p6 hk1=>?_;refine ⟨.ref s.heap.objs.size,rfl,?_⟩;refine wpAny_letOwnedTupleGo_zip p1 fun h2 z2 hs2=>?_;have lt:∀ c∈[z,ti,to,i1,i2],c≠s.heap.objs.size:=fun c hc e=>by
   obtain ⟨o,eo⟩:∃ o,s.heap.get? c=some o:=by
    simp only [List.mem_cons,List.not_mem_nil,or_false] at hc;rcases hc with rfl | rfl | rfl | rfl | rfl
    ·exact ⟨_,q1⟩
    ·exact ⟨_,q2⟩
    ·exact ⟨_,q3⟩
    ·obtain ⟨o,e,_⟩:=q4.rec_;exact ⟨o,e⟩
    ·obtain ⟨o,e,_⟩:=q5.rec_;exact ⟨o,e⟩
   rw [e] at eo;exact Nat.lt_irrefl _ (hL1 eo)
  have hk2:∀ c o,c∉[z,ti,to,i1,i2]->s.heap.get? c=some o->h2.get? c=some o:=fun c o hc q=>by
   simp only [List.mem_cons,List.not_mem_nil,or_false,not_or] at hc;exact hs2.extBut _ _ hc.1 (hk1 c o hc.1 hc.2.2.1 hc.2.2.2.1 hc.2.2.2.2 q)
  have tp:IsTup h2 s.heap.objs.size [u,u2].toArray:=⟨_,hs2.extBut _ _ (Ne.symm (lt z (by simp))) p5,rfl,_,rfl⟩;have I2:=qhk I hf (t':=s.toks) (nR1 _) hk2 tp (xs:=[x,y]) (.cons ru (.cons ru2 .nil)) qgU;have hn:H s.heap.objs.size=none:=I.hok.fresh (nR1 _);refine ⟨.ref s.heap.objs.size,_,I2,rfl,⟨_,x,y,hn,rfl,rfl,fun ys' hy'=>by rw [qeJ I hy' hx];exact ex,fun ys' hy'=>by rw [qeJ I hy' hy];exact ey⟩,
   ⟨z2,hs2.extBut _ _ D.a1 (hk1 _ _ D.a1 D.a5 D.a6 D.a7 q2),⟨u,u2,hs2.extBut _ _ D.a2 p2⟩,p3.to fun o q=>hs2.extBut _ _ D.a3 q,p4.to fun o q=>hs2.extBut _ _ D.a4 q⟩,fun c hc=>?_⟩
  rw [qar (lt c hc)];exact (hf c hc).1
 done:=by
  intro X hP hw hK hc i pins s σ H E I hf st hg;subst hP hw hK;obtain ⟨q1,q2,⟨u0,v0,q3⟩,q4,q5⟩:=st;obtain ⟨xs,ys,hx,hy,hl⟩:=hg;obtain ⟨its,rv,co,hz⟩:=qaO I hx;obtain ⟨its2,rv2,co2,hz2⟩:=qaO I hy;have l1:=rv.length;have l2:=rv2.length;refine qmc (I.ok.hd hc) D q1 q2 q3 (qgW I hx (hf to (by simp))) (qgW I hy (hf to (by simp))) q4 q5 co co2 (by simp;lia) fun h' eb=>⟨rfl,qey I (t':=s.toks) hf fun c o hc q=>?_⟩;simp only [List.mem_cons,List.not_mem_nil,or_false,not_or] at hc;exact eb c o hc.1 hc.2.2.1 hc.2.2.2.1 hc.2.2.2.2 q
 self:=fun _ _ _ _ _ ⟨st,_⟩ h=>wpAny_pyIter_zip st h
section
variable {X:Cx} {elts:List Expr} {k:Nat} {tpos:Pos}
noncomputable def qrP (K:Fg1)(ta:TA):TI:=fun σ H R=>ta σ H fun vs H1=>∃ a b,vs=[.ref a]/\(∃ xs,SqB K b H1 a xs)/\R (Ite K b a) H1
theorem qmS {a:Expr}{ta:TA}{p pos:Pos}(hg:Gl X "enumerate")(hm:X.mg "enumerate"=none)(ha:PA X [a] ta)(hs:starEach [a] X.env=[(false,eval a X.env)]:=by rfl):PI X (.Tuple elts k tpos) (.Call (.Name "enumerate" p) [a] [] pos) (qrP X.K ta):=by
 intro pins s σ H R I h;refine Call_ (qdk I hg hm boot_enumerate (PyProof.Rows.callWith_type1 (thn (ha pos pins s σ H _ I h) fun us s1 ⟨vs,H1,I1,r1,q1⟩=>?_) hs rfl));obtain ⟨c,b,e,⟨xs,hq⟩,q⟩:=q1;subst e;cases r1 with
 | cons r rr=>
  cases rr;cases r;obtain ⟨its,rv,co,hz⟩:=qaO I1 hq;refine qjI co fun h' he ti hz' hk=>qfT he ?_;have I2:Inv X pins σ H1 {s1 with heap:=h'}:=I1.kept (t':=s1.toks) hk;refine ⟨s1.heap.objs.size+1,[s1.heap.objs.size+1,s1.heap.objs.size],_,_,H1,rfl,I2,qio b c _ _ (Nat.succ_ne_self _),⟨⟨.none,he⟩,ti⟩,fun d hd=>?_,q⟩;rcases List.mem_cons.mp hd with z | z
  ·subst z;exact I1.fpOk (Nat.le_succ _) (I1.hok.fresh (Nat.le_succ _))
  ·have z':d=s1.heap.objs.size:=by simpa using z
   subst z';exact I1.fpOk (nR1 _) (I1.hok.fresh (nR1 _))
noncomputable def iZip (K:Fg1)(ta:TA):TI:=fun σ H R=>ta σ H fun vs H1=>∃ a1 b1 a2 b2,vs=[.ref a1,.ref a2]/\(∃ xs,SqB K b1 H1 a1 xs)/\(∃ xs,SqB K b2 H1 a2 xs)/\R (Itz K b1 b2 a1 a2) H1
theorem qoY {a b:Expr}{ta:TA}{p pos:Pos}(hg:Gl X "zip")(hm:X.mg "zip"=none)(ha:PA X [a,b] ta)(hs:starEach [a,b] X.env=[(false,eval a X.env),(false,eval b X.env)]:=by rfl)(hs2:starEach [b] X.env=[(false,eval b X.env)]:=by rfl):
  PI X (.Tuple elts k tpos) (.Call (.Name "zip" p) [a,b] [] pos) (iZip X.K ta):=by
 intro pins s σ H R I h;refine Call_ (qdk I hg hm boot_zip (PyProof.Rows.callWith_type1 (thn (ha pos pins s σ H _ I h) fun us s1 ⟨vs,H1,I1,r1,q1⟩=>?_) (by rw [hs,hs2]) (by rw [hs2];rfl)));obtain ⟨c1,b1,c2,b2,e,⟨xs,hx⟩,⟨ys,hy⟩,q⟩:=q1;subst e;cases r1 with
 | cons r rr=>
  cases rr with
  | cons r' rr=>
   cases rr;cases r;cases r';obtain ⟨its,rv,co,hz⟩:=qaO I1 hx;obtain ⟨its2,rv2,co2,hz2⟩:=qaO I1 hy;refine qkf co co2 fun h' g5 g3 g4 g1 g2 gz hk=>wpAny_pyIter_zip g5 ?_;have I2:Inv X pins σ H1 {s1 with heap:=h'}:=I1.kept (t':=s1.toks) hk;refine ⟨s1.heap.objs.size+4,[s1.heap.objs.size+4,s1.heap.objs.size+2,s1.heap.objs.size+3,s1.heap.objs.size,s1.heap.objs.size+1],_,_,H1,rfl,I2,qkk b1 b2 c1 c2 _ _ _ _ _ ?_,⟨g5,g3,⟨_,_,g4⟩,g1,g2⟩,fun d hd=>?_,q⟩
   ·constructor<;>(intro z;have z':((_:Nat)=_):=z;lia)
   ·have hd':s1.heap.objs.size<=d:=by
     simp only [List.mem_cons,List.not_mem_nil,or_false] at hd;rcases hd with rfl | rfl | rfl | rfl | rfl
     ·exact Nat.le_add_right _ _
     ·exact Nat.le_add_right _ _
     ·exact Nat.le_add_right _ _
     ·exact nR1 _
     ·exact Nat.le_add_right _ _
    exact I1.fpOk hd' (I1.hok.fresh hd')
end
noncomputable def qao (S:Sto):D->Option (Bool×List D)
 | .tup xs=>some (false,xs)
 | .rol xs=>some (true,xs)
 | .ref n=>match S[n]? with
  | some (.lst xs)=>some (true,xs)
  | _=>none
 | _=>none
noncomputable def qea (S:Sto):D->List (Nat×List D)
 | .ref n=>match S[n]? with
  | some (.lst xs)=>[(n,xs)]
  | _=>[]
 | _=>[]
section
variable {K:Fg1} {H:Hp} {mu:List Addr} {S:Sto}
theorem qag {d:D}{v:V}{b:Bool}{xs:List D}(r:Rep K H mu d v)(s:Sim K H mu S)(h:qao S d=some (b,xs)):∃ a vs,v = .ref a/\SqB K b H a vs/\Reps K H mu xs vs:=by
 cases d with
 | tup ys=>cases h;cases r with | tup q t=>exact ⟨_,_,rfl,q,t⟩
 | rol ys=>cases h;cases r with | rol q t=>exact ⟨_,_,rfl,q.sq,t⟩
 | ref n=>
  rw [qao] at h;split at h
  ·rename_i ys e;cases h;cases r with
   | ref q=>
    obtain ⟨vs,e1,r1⟩:=s.lst e q;exact ⟨_,vs,rfl,SqL.of e1,r1⟩
  ·cases h
 | _=>cases h
theorem qb6 {d:D}{a:Addr}{b:Bool}{xs:List D}(r:Rep K H mu d (.ref a))(s:Sim K H mu S)(h:qao S d=some (b,xs)){H1:Hp}{mu1:List Addr}{S1:Sto}(x:Exw mu mu1 H H1)(s1:Sim K H1 mu1 S1)(ok:okC S1 (qea S d)=true):
  ∃ vs,SqB K b H1 a vs/\Reps K H1 mu1 xs vs:=by
 have r1:=r.exw x;have h1:qao S1 d=some (b,xs):=by
  cases d with
  | ref n=>
   rw [qao] at h;split at h
   ·rename_i ys e;cases h;rw [qea,e] at ok;dsimp only [okC] at ok;rw [Bool.and_true] at ok;rw [qao];split at ok
    ·rename_i zs ez
     first | rw [ez,D.sames_eq ok] | rw [D.sames_eq ok]
    ·cases ok
   ·cases h
  | _=>exact h
 obtain ⟨a',vs,e,q,t⟩:=qag r1 s1 h1;cases e;exact ⟨vs,q,t⟩
end
noncomputable def iSeq (m:FE):FI:=fun r S=>(m r S).bind fun p=>(qao p.2 p.1).bind fun q=>some (⟨q.2,qea p.2 p.1⟩,p.2)
noncomputable def enD:Nat->List D->List D
 | _,[]=>[]
 | n,d::ds=>.tup [.int n,d]::enD (n+1) ds
noncomputable def iEn (m:FA):FI:=fun r S=>(m r S).bind fun p=>match p.1 with
 | [d]=>(qao p.2 d).bind fun q=>some (⟨enD 0 q.2,qea p.2 d⟩,p.2)
 | _=>none
noncomputable def zpD:List D->List D->List D
 | x::xs,y::ys=>.tup [x,y]::zpD xs ys
 | _,_=>[]
noncomputable def iZp (m:FA):FI:=fun r S=>(m r S).bind fun p=>match p.1 with
 | [d,e]=>(qao p.2 d).bind fun q=>(qao p.2 e).bind fun t=>some (⟨zpD q.2 t.2,qea p.2 d++qea p.2 e⟩,p.2)
 | _=>none
noncomputable def nums (lo:Int):Nat->List D
 | 0=>[]
 | n+1=>.int lo::nums (lo+1) n
noncomputable def iR1 (m:FA):FI:=fun r S=>(m r S).bind fun p=>match p.1 with
 | [.int j]=>if-(2^62)<=j/\j<2^62 then some (⟨nums 0 j.toNat,[]⟩,p.2) else none
 | _=>none
noncomputable def iR2 (m:FA):FI:=fun r S=>(m r S).bind fun p=>match p.1 with
 | [.int i,.int j]=>if-(2^62)<=i/\i<2^62 /\ -(2^62)<=j/\j<2^62 then some (⟨nums i (j-i).toNat,[]⟩,p.2) else none
 | _=>none
theorem qbJ:∀ (ds:List D) (n i:Nat),(enD n ds)[i]? = (ds[i]?).map fun d=>.tup [.int ((n+i:Nat):Int),d]
 | [],n,i=>by simp [enD]
 | d::ds,n,0=>by simp [enD]
 | d::ds,n,i+1=>by
  rw [enD,gC1,qbJ ds (n+1) i,gC1];rw [show n+1+i=n+(i+1) by lia]
theorem qbI:∀ (ds:List D) (n:Nat),(enD n ds).length=ds.length
 | [],_=>rfl
 | d::ds,n=>by rw [enD,lC1,qbI ds,lC1]
theorem qeG:∀ (xs ys:List D) (i:Nat) (d:D),(zpD xs ys)[i]? = some d -> ∃ x y,xs[i]? = some x/\ys[i]? = some y/\d = .tup [x,y]
 | [],_,i,d,h=>by simp [zpD] at h
 | _::_,[],i,d,h=>by simp [zpD] at h
 | x::xs,y::ys,0,d,h=>by simp [zpD] at h;exact ⟨x,y,rfl,rfl,h.symm⟩
 | x::xs,y::ys,i+1,d,h=>by
  rw [zpD,gC1] at h;obtain ⟨x',y',e1,e2,e3⟩:=qeG xs ys i d h;exact ⟨x',y',by simpa using e1,by simpa using e2,e3⟩
theorem qeF:∀ (xs ys:List D) (i:Nat),(zpD xs ys).length<=i->xs.length<=i\/ys.length<=i
 | [],_,i,_=>.inl (Nat.zero_le _)
 | _::_,[],i,_=>.inr (Nat.zero_le _)
 | x::xs,y::ys,0,h=>by simp [zpD] at h
 | x::xs,y::ys,i+1,h=>by
  rcases qeF xs ys i (by simpa [zpD] using h) with q | q
  ·exact .inl (by simpa using q)
  ·exact .inr (by simpa using q)
theorem qg9:∀ (n:Nat) (lo:Int) (i:Nat) (d:D),(nums lo n)[i]? = some d->i<n/\d = .int (lo+i)
 | 0,lo,i,d,h=>by simp [nums] at h
 | n+1,lo,0,d,h=>by simp [nums] at h;exact ⟨Nat.succ_pos _,by rw [<- h];simp⟩
 | n+1,lo,i+1,d,h=>by
  rw [nums,gC1] at h;obtain ⟨h1,h2⟩:=qg9 n (lo+1) i d h;refine ⟨Nat.succ_lt_succ h1,?_⟩;rw [h2,show lo+1+(i:Int)=lo+((i+1:Nat):Int) by push_cast;lia]
theorem qaz:∀ (n:Nat) (lo:Int),(nums lo n).length=n
 | 0,_=>rfl
 | n+1,lo=>by rw [nums,lC1,qaz n]
theorem qiX {S:Sto}:∀ {c c':List (Nat×List D)},okC S (c++c')=true->okC S c=true/\okC S c'=true
 | [],_,h=>⟨rfl,h⟩
 | (n,xs)::c,c',h=>by
  rw [List.cons_append,okC,bA1] at h;obtain ⟨h1,h2⟩:=qiX h.2;exact ⟨by rw [okC,bA1];exact ⟨h.1,h1⟩,h2⟩
section
variable {X:Cx} {tg:Expr}
theorem qhj (K:Fg1)(lo:Int)(n:Nat)(mu:List Addr)(H:Hp):ItR K (Itr lo n) ⟨nums lo n,[]⟩ mu H:=by
 intro i H1 mu1 S1 x s ok;refine ⟨fun d hd=>?_,fun h=>by rw [qaz] at h;exact h⟩;obtain ⟨h1,h2⟩:=qg9 n lo i d hd;refine ⟨h1,fun y H2 ⟨e1,e2⟩=>?_⟩;subst e1;subst e2;subst h2;exact ⟨.refl _ _,s,.int _⟩
theorem qpD {e:Expr}{m:FE}(h:ME X e m):MI X tg e (iSeq m):=qfB (qrj (qmR h) (qoZ h)) <| by
 rintro σ H R ⟨r,mu,S,J,S',he,hs,hm,hc⟩;obtain ⟨⟨d,S1⟩,e1,hm⟩:=oB1.mp hm;obtain ⟨⟨b,xs⟩,e2,hm⟩:=oB1.mp hm;cases hm;cases b with
 | true=>
  left;refine ⟨r,mu,S,d,_,he,hs,e1,fun v H1 mu1 x1 r1 s1=>?_⟩;obtain ⟨a,vs,rfl,q,t⟩:=qag r1 s1 e2;refine ⟨a,rfl,⟨vs,q⟩,hc _ H1 mu1 x1 (fun i H2 mu2 S2 x2 s2 ok=>?_) s1⟩;obtain ⟨ws,q2,t2⟩:=qb6 r1 s1 e2 x2 s2 ok;refine ⟨fun d hd=>?_,fun hl=>⟨ws,q2,by rw [<- t2.length];exact hl⟩⟩;obtain ⟨v,ev,rv⟩:=t2.get hd;refine ⟨⟨ws,v,q2,ev⟩,fun y H3 ⟨z1,z2⟩=>?_⟩;subst z1;have:=z2 ws q2;rw [ev] at this;cases this;exact ⟨.refl _ _,s2,rv⟩
 | false=>
  right;refine ⟨r,mu,S,d,_,he,hs,e1,fun v H1 mu1 x1 r1 s1=>?_⟩;obtain ⟨a,vs,rfl,q,t⟩:=qag r1 s1 e2;refine ⟨a,rfl,⟨vs,q⟩,hc _ H1 mu1 x1 (fun i H2 mu2 S2 x2 s2 ok=>?_) s1⟩;obtain ⟨ws,q2,t2⟩:=qb6 r1 s1 e2 x2 s2 ok;refine ⟨fun d hd=>?_,fun hl=>⟨ws,q2,by rw [<- t2.length];exact hl⟩⟩;obtain ⟨v,ev,rv⟩:=t2.get hd;refine ⟨⟨ws,v,q2,ev⟩,fun y H3 ⟨z1,z2⟩=>?_⟩;subst z1;have:=z2 ws q2;rw [ev] at this;cases this;exact ⟨.refl _ _,s2,rv⟩
theorem qeO {K:Fg1}{H:Hp}{mu:List Addr}{d:D}{vs:List V}(r:Reps K H mu [d] vs):∃ v,vs=[v]/\Rep K H mu d v:=by
 cases r with | cons r t=>cases t;exact ⟨_,rfl,r⟩
theorem qg2 {K:Fg1}{H:Hp}{mu:List Addr}{d e:D}{vs:List V}(r:Reps K H mu [d,e] vs):∃ v u,vs=[v,u]/\Rep K H mu d v/\Rep K H mu e u:=by
 cases r with | cons r t=>cases t with | cons q t=>cases t;exact ⟨_,_,rfl,r,q⟩
theorem qi6 {a:Expr}{m:FA}{p pos:Pos}(hg:Gl X "range")(hm:X.mg "range"=none)(ha:MA X [a] m)(hs:starEach [a] X.env=[(false,eval a X.env)]:=by rfl):MI X tg (.Call (.Name "range" p) [a] [] pos) (iR1 m):=
 qfB (qiQ hg hm ha hs) <| by
  rintro σ H R ⟨r,mu,S,J,S',he,hs,hm,hc⟩;obtain ⟨⟨ds,S1⟩,e1,hm⟩:=oB1.mp hm;dsimp only at hm;split at hm
  ·rename_i j;split at hm
   ·rename_i hb;cases hm;refine ⟨r,mu,S,_,_,he,hs,e1,fun vs H1 mu1 x1 r1 s1=>?_⟩;obtain ⟨v,rfl,rv⟩:=qeO r1;cases rv;exact ⟨j,rfl,hb.1,hb.2,hc _ H1 mu1 x1 (qhj _ _ _ _ _) s1⟩
   ·cases hm
  ·cases hm
theorem qi5 {a b:Expr}{m:FA}{p pos:Pos}(hg:Gl X "range")(hm:X.mg "range"=none)(ha:MA X [a,b] m)(hs:starEach [a,b] X.env=[(false,eval a X.env),(false,eval b X.env)]:=by rfl)(hs2:starEach [b] X.env=[(false,eval b X.env)]:=by rfl):MI X tg (.Call (.Name "range" p) [a,b] [] pos) (iR2 m):=
 qfB (qiP hg hm ha hs hs2) <| by
  rintro σ H R ⟨r,mu,S,J,S',he,hs,hm,hc⟩;obtain ⟨⟨ds,S1⟩,e1,hm⟩:=oB1.mp hm;dsimp only at hm;split at hm
  ·rename_i i j;split at hm
   ·rename_i hb;cases hm;refine ⟨r,mu,S,_,_,he,hs,e1,fun vs H1 mu1 x1 r1 s1=>?_⟩;obtain ⟨v,u,rfl,rv,ru⟩:=qg2 r1;cases rv;cases ru;exact ⟨i,j,rfl,hb,hc _ H1 mu1 x1 (qhj _ _ _ _ _) s1⟩
   ·cases hm
  ·cases hm
variable {elts:List Expr} {k:Nat} {tpos:Pos}
theorem qni {a:Expr}{m:FA}{p pos:Pos}(hg:Gl X "enumerate")(hm:X.mg "enumerate"=none)(ha:MA X [a] m)(hs:starEach [a] X.env=[(false,eval a X.env)]:=by rfl):MI X (.Tuple elts k tpos) (.Call (.Name "enumerate" p) [a] [] pos) (iEn m):=
 qfB (qmS hg hm ha hs) <| by
  rintro σ H R ⟨r,mu,S,J,S',he,hs,hm,hc⟩;obtain ⟨⟨ds,S1⟩,e1,hm⟩:=oB1.mp hm;dsimp only at hm;split at hm
  ·rename_i d;obtain ⟨⟨b,xs⟩,e2,hm⟩:=oB1.mp hm;cases hm;refine ⟨r,mu,S,_,_,he,hs,e1,fun vs H1 mu1 x1 r1 s1=>?_⟩;obtain ⟨v,rfl,rv⟩:=qeO r1;obtain ⟨a,vs,rfl,q,t⟩:=qag rv s1 e2;refine ⟨a,b,rfl,⟨vs,q⟩,hc _ H1 mu1 x1 (fun i H2 mu2 S2 x2 s2 ok=>?_) s1⟩;obtain ⟨ws,q2,t2⟩:=qb6 rv s1 e2 x2 s2 ok;refine ⟨fun d hd=>?_,fun hl=>⟨ws,q2,by rw [qbI] at hl;rw [<- t2.length];exact hl⟩⟩;rw [qbJ] at hd;obtain ⟨d',ed,hd⟩:=oM1.mp hd;obtain ⟨v,ev,rv'⟩:=t2.get ed;refine ⟨⟨ws,v,q2,ev⟩,fun y H3 ⟨p,v',hp,z1,z2,z3⟩=>?_⟩;have:=z3 ws q2;rw [ev] at this;cases this;subst z1;subst z2;subst hd;rw [Nat.zero_add];exact ⟨Ext.fresh hp,s2.fresh hp,.tup (SqT.of qau) (.cons (.int _) (.cons (rv'.ext (Ext.fresh hp)) .nil))⟩
  ·cases hm
theorem qpC {a b:Expr}{m:FA}{p pos:Pos}(hg:Gl X "zip")(hm:X.mg "zip"=none)(ha:MA X [a,b] m)(hs:starEach [a,b] X.env=[(false,eval a X.env),(false,eval b X.env)]:=by rfl)(hs2:starEach [b] X.env=[(false,eval b X.env)]:=by rfl):MI X (.Tuple elts k tpos) (.Call (.Name "zip" p) [a,b] [] pos) (iZp m):=
 qfB (qoY hg hm ha hs hs2) <| by
  rintro σ H R ⟨r,mu,S,J,S',he,hs,hm,hc⟩;obtain ⟨⟨ds,S1⟩,e1,hm⟩:=oB1.mp hm;dsimp only at hm;split at hm
  ·rename_i d e;obtain ⟨⟨b1,xs⟩,e2,hm⟩:=oB1.mp hm;obtain ⟨⟨b2,ys⟩,e3,hm⟩:=oB1.mp hm;cases hm;refine ⟨r,mu,S,_,_,he,hs,e1,fun vs H1 mu1 x1 r1 s1=>?_⟩;obtain ⟨v,u,rfl,rv,ru⟩:=qg2 r1;obtain ⟨a1,vs1,rfl,q1,t1⟩:=qag rv s1 e2;obtain ⟨a2,vs2,rfl,q2,t2⟩:=qag ru s1 e3;refine ⟨a1,b1,a2,b2,rfl,⟨vs1,q1⟩,⟨vs2,q2⟩,hc _ H1 mu1 x1 (fun i H2 mu2 S2 x2 s2 ok=>?_) s1⟩;obtain ⟨ok1,ok2⟩:=qiX ok;obtain ⟨ws,q3,t3⟩:=qb6 rv s1 e2 x2 s2 ok1;obtain ⟨ws2,q4,t4⟩:=qb6 ru s1 e3 x2 s2 ok2;refine ⟨fun d hd=>?_,fun hl=>⟨ws,ws2,q3,q4,?_⟩⟩
   ·obtain ⟨x',y',ex,ey,rfl⟩:=qeG xs ys i d hd;obtain ⟨v,ev,rv'⟩:=t3.get ex;obtain ⟨u,eu,ru'⟩:=t4.get ey;refine ⟨⟨ws,ws2,v,u,q3,q4,ev,eu⟩,fun y H3 ⟨p,v',u',hp,z1,z2,z3,z4⟩=>?_⟩;have w3:=z3 ws q3;have w4:=z4 ws2 q4;rw [ev] at w3;cases w3;rw [eu] at w4;cases w4;subst z1;subst z2;exact ⟨Ext.fresh hp,s2.fresh hp,.tup (SqT.of qau) (.cons (rv'.ext (Ext.fresh hp)) (.cons (ru'.ext (Ext.fresh hp)) .nil))⟩
   ·rcases qeF xs ys i hl with z | z
    ·exact .inl (by rw [<- t3.length];exact z)
    ·exact .inr (by rw [<- t4.length];exact z)
  ·cases hm
end
noncomputable abbrev G1:=D->Sto->Option (D×Sto)
noncomputable abbrev G2:=D->D->Sto->Option (D×Sto)
noncomputable abbrev G3:=D->D->D->Sto->Option (D×Sto)
noncomputable def b1 (f:G1):FN:=fun ds S=>match ds with
 | [a]=>f a S
 | _=>none
noncomputable def b2 (f:G2):FN:=fun ds S=>match ds with
 | [a,b]=>f a b S
 | _=>none
noncomputable def b3 (f:G3):FN:=fun ds S=>match ds with
 | [a,b,c]=>f a b c S
 | _=>none
section
variable {X:Cx} {K:Fg1} {H:Hp} {Q:VK}
theorem rn2 {f:G2}{x y:V}(h:rN K (b2 f) [x,y] H Q):∃ mu S d e r S',Rep K H mu d x/\Rep K H mu e y/\Sim K H mu S/\f d e S=some (r,S')/\Cont K mu H r S' Q:=by
 obtain ⟨mu,S,ds,r,S',hr,hs,hm,hc⟩:=h;cases hr with
 | cons q t=>cases t with
  | cons q2 t=>cases t;exact ⟨mu,S,_,_,r,S',q,q2,hs,hm,hc⟩
theorem rn1 {f:G1}{xs:List V}(h:rN K (b1 f) xs H Q):∃ x mu S d r S',xs=[x]/\Rep K H mu d x/\Sim K H mu S/\f d S=some (r,S')/\Cont K mu H r S' Q:=by
 obtain ⟨mu,S,ds,r,S',hr,hs,hm,hc⟩:=h;cases hr with
 | nil=>cases hm
 | cons q t=>cases t with
  | nil=>exact ⟨_,mu,S,_,r,S',rfl,q,hs,hm,hc⟩
  | cons q2 t=>cases hm
theorem rn2l {f:G2}{xs:List V}(h:rN K (b2 f) xs H Q):∃ x y mu S d e r S',xs=[x,y]/\Rep K H mu d x/\Rep K H mu e y/\Sim K H mu S/\f d e S=some (r,S')/\Cont K mu H r S' Q:=by
 obtain ⟨mu,S,ds,r,S',hr,hs,hm,hc⟩:=h;cases hr with
 | nil=>cases hm
 | cons q t=>cases t with
  | nil=>cases hm
  | cons q2 t=>cases t with
   | nil=>exact ⟨_,_,mu,S,_,_,r,S',rfl,q,q2,hs,hm,hc⟩
   | cons q3 t=>cases hm
theorem Cont.now {mu:List Addr}{S:Sto}{d:D}{v:V}(c:Cont K mu H d S Q)(r:Rep K H mu d v)(s:Sim K H mu S):Q v H:=c v H mu (.refl _ _) r s
end
noncomputable def qaY (i j:Int):Bool:=(decide (-(2^64)<i)&&decide (i<2^64))||(decide (-(2^64)<j)&&decide (j<2^64))||(decide (i.natAbs<2^1000)&&decide (j.natAbs<2^1000))
noncomputable def gAdd:G2:=fun d e S=>match d,e with
 | .int i,.int j=>some (.int (i+j),S)
 | .tup xs,.tup ys=>if xs.length+ys.length<=sizeLine then some (.tup (xs++ys),S) else none
 | .str x,.str y=>if x.length+y.length<=sizeLine then some (.str (x++y),S) else none
 | .ref a,.ref b=>match S[a]?,S[b]? with
  | some (.lst xs),some (.lst ys)=>if xs.length+ys.length<=sizeLine then some (.ref S.length,S++[.lst (xs++ys)]) else none
  | _,_=>none
 | _,_=>none
noncomputable def gSub:G2:=fun d e S=>match d,e with
 | .int i,.int j=>some (.int (i-j),S)
 | _,_=>none
noncomputable def gMul:G2:=fun d e S=>match d,e with
 | .int i,.int j=>if qaY i j=true then some (.int (i*j),S) else none
 | _,_=>none
noncomputable def gMod:G2:=fun d e S=>match d,e with
 | .int i,.int j=>if 0<j then some (.int (i%j),S) else none
 | _,_=>none
noncomputable def gDiv:G2:=fun d e S=>match d,e with
 | .int i,.int j=>if 0<j/\j<1073741824 then some (.int (i/j),S) else none
 | _,_=>none
noncomputable def gPow:G2:=fun d e S=>match d,e with
 | .int i,.int j=>if 0<=j/\j<=1000000/\i.natAbs<2^64 then some (.int (i^j.toNat),S) else none
 | _,_=>none
noncomputable def gNeg:G1:=fun d S=>match d with
 | .int i=>some (.int (-i),S)
 | _=>none
section
variable {X:Cx}
theorem qhS {i j:Int}(h:qaY i j=true):IntMulOk i j:=by
 unfold qaY at h;simp only [Bool.or_eq_true,bA1,decide_eq_true_eq] at h;rcases h with (⟨h1,h2⟩ | ⟨h1,h2⟩) | ⟨h1,h2⟩
 ·exact .of_left (intBits_le_64 h1 h2)
 ·exact .of_right (intBits_le_64 h1 h2)
 ·exact .of_bits (Nat.le_trans (intBits_le h1) (by decide)) (Nat.le_trans (intBits_le h2) (by decide))
theorem qeR {f:Value->Value->Sem Value}{g:G2}{c:Int->Int->Prop}{v:Int->Int->D}(hg:∀ d e S r S',g d e S=some (r,S') -> ∃ i j,d = .int i/\e = .int j/\c i j/\r=v i j/\S'=S){vv:Int->Int->V}
  (hv:∀ i j K H mu,Rep K H mu (v i j) (vv i j)) (ho:OpR X f (rI c vv)):OpR X f (r2 X.K (b2 g)):=by
 intro pins s σ H x y u w Q I rx ry h;obtain ⟨mu,S,d,e,r,S',r1,r2,hs,hm,hc⟩:=rn2 h;obtain ⟨i,j,rfl,rfl,cc,rfl,rfl⟩:=hg d e S r S' hm;cases r1;cases r2;exact ho pins s σ H _ _ u w Q I rx ry ⟨i,j,rfl,rfl,cc,hc.now (hv i j _ _ _) hs⟩
theorem qeQ {f:Value->Value->Sem Value}{g:G2}{v:Int->Int->D}(hg:∀ d e S r S',g d e S=some (r,S') -> ∃ i j,d = .int i/\e = .int j/\r=v i j/\S'=S){vv:Int->Int->V}
  (hv:∀ i j K H mu,Rep K H mu (v i j) (vv i j)) (ho:OpR X f (rI0 vv)):OpR X f (r2 X.K (b2 g)):=by
 intro pins s σ H x y u w Q I rx ry h;obtain ⟨mu,S,d,e,r,S',r1,r2,hs,hm,hc⟩:=rn2 h;obtain ⟨i,j,rfl,rfl,rfl,rfl⟩:=hg d e S r S' hm;cases r1;cases r2;exact ho pins s σ H _ _ u w Q I rx ry ⟨i,j,rfl,rfl,hc.now (hv i j _ _ _) hs⟩
theorem qm4:OpR X (binaryOp .Sub) (r2 X.K (b2 gSub)):=qeQ (v:=fun i j=>.int (i-j)) (fun d e S r S' h=>by
 unfold gSub at h;split at h
 ·cases h;exact ⟨_,_,rfl,rfl,rfl,rfl⟩
 ·cases h) (fun _ _ _ _ _=>.int _) qpe
theorem qe2:OpR X (binaryOp .Mult) (r2 X.K (b2 gMul)):=qeR (c:=fun i j=>IntMulOk i j) (v:=fun i j=>.int (i*j)) (fun d e S r S' h=>by
 unfold gMul at h;split at h
 ·split at h
  ·rename_i q;cases h;exact ⟨_,_,rfl,rfl,qhS q,rfl,rfl⟩
  ·cases h
 ·cases h) (fun _ _ _ _ _=>.int _) (opI fun _ _ _ _ _ _ _ hc q=>mul_int q hc)
theorem qeo:OpR X (binaryOp .Mod) (r2 X.K (b2 gMod)):=qeR (c:=fun _ j=>0<j) (v:=fun i j=>.int (i%j)) (fun d e S r S' h=>by
 unfold gMod at h;split at h
 ·split at h
  ·rename_i q;cases h;exact ⟨_,_,rfl,rfl,q,rfl,rfl⟩
  ·cases h
 ·cases h) (fun _ _ _ _ _=>.int _) qph
theorem qi0:OpR X (binaryOp .FloorDiv) (r2 X.K (b2 gDiv)):=qeR (c:=CDiv) (v:=fun i j=>.int (i/j)) (fun d e S r S' h=>by
 unfold gDiv at h;split at h
 ·split at h
  ·rename_i q;cases h;exact ⟨_,_,rfl,rfl,q,rfl,rfl⟩
  ·cases h
 ·cases h) (fun _ _ _ _ _=>.int _) qm0
theorem qe0:OpR X (binaryOp .Pow) (r2 X.K (b2 gPow)):=qeR (c:=CPow) (v:=fun i j=>.int (i^j.toNat)) (fun d e S r S' h=>by
 unfold gPow at h;split at h
 ·split at h
  ·rename_i q;cases h;exact ⟨_,_,rfl,rfl,q,rfl,rfl⟩
  ·cases h
 ·cases h) (fun _ _ _ _ _=>.int _) qpg
theorem qe1:UnR X (unaryOp .USub) (fun x H Q=>rN X.K (b1 gNeg) [x] H Q):=by
 intro pins s σ H x v Q I rx h;obtain ⟨x',mu,S,d,r,S',e,r1,hs,hm,hc⟩:=rn1 h;cases e;cases d with
 | int i=>cases hm;cases r1;exact qoj pins s σ H _ v Q I rx ⟨i,rfl,hc.now (.int _) hs⟩
 | _=>cases hm
theorem qjW {s:Shared}{prog:Program}{w:World}{A:Around}{E:Value->Shared->Prop}{t b:Addr}{ws:List Value}{Q:Value->Shared->Prop}(ht:IsTup s.heap t ([]:List Value).toArray)(hb:IsTup s.heap b ws.toArray)(h:Q (.ref b) s):
  wpAny (model prog w) A (binaryOp .Add (.ref t) (.ref b)) Q E s:=by
 obtain ⟨⟨cls,dd,data,sl⟩,ho,hc,n,hd⟩:=id ht;obtain ⟨⟨cls2,dd2,data2,sl2⟩,ho2,hc2,n2,hd2⟩:=id hb;simp only at hc hd hc2 hd2;subst hc hd hc2 hd2;exact concat_meets ⟨_,ho,rfl⟩ ⟨_,ho2,rfl⟩ noFill_tuple_add seq_tuple_add PySem.F.slot_tuple_add PySem.F.entry_tuple_add (PySem.F.args_tuple_add_2 _ _) (tuple_addW0 t b ([]:List Value).toArray ws.toArray n n2 dd dd2 sl sl2 (by simp)) ⟨ho,ho2,h⟩
theorem qbr:OpR X (binaryOp .Add) (r2 X.K (b2 gAdd)):=by
 intro pins s σ H x y u w Q I rx ry h;obtain ⟨mu,S,d,e,r,S',r1,r2,hs,hm,hc⟩:=rn2 h;unfold gAdd at hm;split at hm
 ·cases hm;cases r1;cases r2;exact qpj pins s σ H _ _ u w Q I rx ry ⟨_,_,rfl,rfl,hc.now (.int _) hs⟩
 ·rename_i xs ys;split at hm
  ·rename_i hl;cases hm;cases r1 with
   | tup q1 t1=>
    cases r2 with
    | tup q2 t2=>
     rename_i vs1 a1 vs2 a2;by_cases hx:vs1=[]
     ·subst hx;have:xs=[]:=by cases t1;rfl
      subst this;cases rx;cases ry;obtain ⟨its,rv,p1,_⟩:=I.tuple q1;obtain ⟨its2,rv2,p2,_⟩:=I.tuple q2;have:its=[]:=rv.nil_iff.mpr rfl;subst this;exact qjW p1 p2 ⟨.ref a2,H,I,rfl,hc.now (.tup q2 t2) hs⟩
     ·refine qm1 pins s σ H _ _ u w Q I rx ry ⟨a1,a2,vs1,vs2,rfl,rfl,q1,q2,hx,by rw [<- t1.length,<- t2.length];exact hl,fun z=>?_,fun z p hp=>?_⟩
      ·subst z;have:ys=[]:=by cases t2;rfl
       subst this;rw [List.append_nil] at hc;exact hc.now (.tup q1 t1) hs
      ·exact hc _ _ mu (Ext.fresh hp) (.tup (SqT.of qau) ((t1.append t2).ext (Ext.fresh hp))) (hs.fresh hp)
  ·cases hm
 ·rename_i i j;split at hm
  ·rename_i hl;cases hm;cases r1;cases r2;exact qhQ pins s σ H _ _ u w Q I rx ry ⟨i,j,rfl,rfl,hl,hc.now (.str _) hs⟩
  ·cases hm
 ·rename_i a b;split at hm
  ·rename_i xs ys ea eb;split at hm
   ·rename_i hl;cases hm;cases r1 with
    | ref qa=>
     cases r2 with
     | ref qb=>
      obtain ⟨vs1,e1,t1⟩:=hs.lst ea qa;obtain ⟨vs2,e2,t2⟩:=hs.lst eb qb;refine qpi pins s σ H _ _ u w Q I rx ry ⟨_,_,vs1,vs2,rfl,rfl,e1,e2,by rw [<- t1.length,<- t2.length];exact hl,fun p hp=>?_⟩;exact hc _ _ (mu++[p]) (Ext.new_ hp) (.ref (qcl hs.len p)) (hs.newL (t1.append t2) hp)
   ·cases hm
  ·cases hm
 ·cases hm
end
noncomputable def gCmp (p:Int->Int->Bool):G2:=fun d e S=>match d,e with
 | .int i,.int j=>some (.bl (p i j),S)
 | _,_=>none
section
variable {X:Cx}
theorem qjz {p:Int->Int->Bool}(d e:D)(S:Sto)(r:D)(S':Sto)(h:gCmp p d e S=some (r,S')):∃ i j,d = .int i/\e = .int j/\r = .bl (p i j)/\S'=S:=by
 unfold gCmp at h;split at h
 ·cases h;exact ⟨_,_,rfl,rfl,rfl,rfl⟩
 ·cases h
theorem o_gt:OpR X (compareOp .Gt) (r2 X.K (b2 (gCmp fun i j=>decide (j<i)))):=qeQ qjz (fun _ _ _ _ _=>.bl _) qrr
theorem o_ge:OpR X (compareOp .GtE) (r2 X.K (b2 (gCmp fun i j=>decide (j<=i)))):=qeQ qjz (fun _ _ _ _ _=>.bl _) qrs
end
noncomputable def qfd:D->Bool
 | .non=>true
 | .bl _=>true
 | .int _=>true
 | .str _=>true
 | _=>false
noncomputable def eqF:D->D->Option Bool
 | .non,.non=>some true
 | .bl a,.bl b=>some (a == b)
 | .bl a,.int b=>some ((if a then 1 else 0) == b)
 | .int a,.bl b=>some (a == (if b then 1 else 0))
 | .int a,.int b=>some (a == b)
 | .str a,.str b=>some (a == b)
 | d,e=>if qfd d&&qfd e then some false else none
noncomputable def eqL (f:D->D->Option Bool):List D->List D->Option Bool
 | x::xs,y::ys=>(f x y).bind fun b=>(eqL f xs ys).map fun c=>b&&c
 | [],[]=>some true
 | _,_=>some false
noncomputable def eqN (S:Sto):Nat->D->D->Option Bool
 | 0,_,_=>none
 | n+1,d,e=>match qao S d,qao S e with
  | some p,some q=>if p.1=q.1 then (if p.1=true/\p.2.length≠q.2.length then some false else eqL (eqN S n) p.2 q.2) else some false
  | some _,none=>if qfd e=true then some false else none
  | none,some _=>if qfd d=true then some false else none
  | none,none=>eqF d e
section
variable {X:Cx} {pins:List (Addr×Obj)} {σ:L2.St} {H:Hp} {s:Shared} {mu:List Addr} {S:Sto}
theorem qa7 {K:Fg1}{d:D}{v:V}(r:Rep K H mu d v)(h:qfd d=true):qep v=true /\ ∀ e w,Rep K H mu e w->qfd e=true->eqF d e=some (eqV v w):=by
 cases d with
 | non=>cases r;refine ⟨rfl,fun e w q f=>?_⟩;cases e with
  | non=>cases q;rfl
  | bl _=>cases q;rfl
  | int _=>cases q;rfl
  | str _=>cases q;rfl
  | _=>cases f
 | bl b=>cases r;refine ⟨rfl,fun e w q f=>?_⟩;cases e with
  | non=>cases q;rfl
  | bl _=>cases q;rfl
  | int _=>cases q;rfl
  | str _=>cases q;rfl
  | _=>cases f
 | int i=>cases r;refine ⟨rfl,fun e w q f=>?_⟩;cases e with
  | non=>cases q;rfl
  | bl _=>cases q;rfl
  | int _=>cases q;rfl
  | str _=>cases q;rfl
  | _=>cases f
 | str x=>cases r;refine ⟨rfl,fun e w q f=>?_⟩;cases e with
  | non=>cases q;rfl
  | bl _=>cases q;rfl
  | int _=>cases q;rfl
  | str _=>cases q;rfl
  | _=>cases f
 | _=>cases h
theorem qfe {d e:D}{b:Bool}(h:eqF d e=some b):qfd d=true/\qfd e=true:=by
 cases d<;>cases e<;>first | exact ⟨rfl,rfl⟩ | (cases h;done) | exact nomatch h | (simp [eqF,qfd] at h)
theorem qlf {v:V}(h:qep v=true):eqV v v=true:=by
 cases v<;>first | rfl | (cases h;done) | exact beq_self_eq_true _ | (simp [eqV];done)
theorem qhu (I:Inv X pins σ H s)(hs:Sim X.K H mu S):∀ (n:Nat) {d e:D} {v:V} {b:Bool},Rep X.K H mu d v->Rep X.K H mu e v->eqN S n d e=some b->b=true
 | 0,_,_,_,_,_,_,h=>by cases h
 | n + 1,d,e,v,b,rd,re,h=>by
  rw [eqN] at h;have lists:∀ {xs ys:List D} {vs:List V} {b:Bool},Reps X.K H mu xs vs->Reps X.K H mu ys vs->eqL (eqN S n) xs ys=some b->b=true:=by
   intro xs
   induction xs with
   | nil=>intro ys vs b hx hy h;cases hx;cases hy;cases h;rfl
   | cons x xs ih=>
    intro ys vs b hx hy h;cases hx with
    | cons r t=>
     cases hy with
     | cons r' t'=>
      rw [eqL] at h;obtain ⟨b1,e1,h⟩:=oB1.mp h;obtain ⟨b2,e2,h⟩:=oM1.mp h;subst h;rw [qhu I hs n r r' e1,ih t t' e2];rfl
  cases hd:qao S d with
  | some p=>
   obtain ⟨pb,xs⟩:=p;obtain ⟨a,vs,rfl,q,t⟩:=qag rd hs hd;cases he:qao S e with
   | some p2=>
    obtain ⟨qb,ys⟩:=p2;obtain ⟨a2,vs2,e2,q2,t2⟩:=qag re hs he;cases e2;rw [hd,he] at h;dsimp only at h;obtain ⟨its,rv,co,_⟩:=qaO I q;obtain ⟨its2,rv2,co2,_⟩:=qaO I q2;have hb:pb=qb:=by
     cases pb<;>cases qb
     ·rfl
     ·obtain ⟨o,e1,c1,_⟩:=co;obtain ⟨o2,e2,c2,_⟩:=co2;rw [e1] at e2;cases e2;rw [c1] at c2;exact absurd c2 (by decide)
     ·obtain ⟨o,e1,c1,_⟩:=co;obtain ⟨o2,e2,c2,_⟩:=co2;rw [e1] at e2;cases e2;rw [c1] at c2;exact absurd c2 (by decide)
     ·rfl
    subst hb;have hv:=qeJ I q q2;subst hv;rw [if_pos rfl,if_neg (by rw [t.length,t2.length];simp)] at h;exact lists t t2 h
   | none=>
    rw [hd,he] at h;dsimp only at h;split at h
    ·rename_i f;have:=(qa7 re f).1;cases this
    ·cases h
  | none=>
   cases he:qao S e with
   | some p2=>
    obtain ⟨qb,ys⟩:=p2;obtain ⟨a2,vs2,e2,q2,t2⟩:=qag re hs he;subst e2;rw [hd,he] at h;dsimp only at h;split at h
    ·rename_i f;have:=(qa7 rd f).1;cases this
    ·cases h
   | none=>
    rw [hd,he] at h;dsimp only at h;obtain ⟨f1,f2⟩:=qfe h;obtain ⟨g1,g2⟩:=qa7 rd f1;rw [g2 e v re f2] at h;cases h;exact qlf g1
theorem qaP {A:Around}{b:Bool}{a:Addr}{its:Array Value}{v:V}{u:Value}(c:SCo b s.heap a its)(r:RelV v u)(f:qep v=true)(hu:A.units<cLine):
   SeqAt.EqAt A s (.ref a) u false/\SeqAt.EqAt A s u (.ref a) false/\SeqAt.RcAt A s (.ref a) u false/\SeqAt.RcAt A s u (.ref a) false:=by
 cases v with
 | non => cases r;cases b
          · exact ⟨.tuple_none c hu,.none_tuple c hu,.tuple_none c hu,.none_tuple c hu⟩
          · exact ⟨.list_none c hu,.none_list c hu,.list_none c hu,.none_list c hu⟩
 | bl k => cases r;cases b
           · exact ⟨.tuple_bool k c hu,.bool_tuple k c hu,.tuple_bool k c hu,.bool_tuple k c hu⟩
           · exact ⟨.list_bool k c hu,.bool_list k c hu,.list_bool k c hu,.bool_list k c hu⟩
 | int i => obtain ⟨t,rfl⟩:=r;cases b
            · exact ⟨.tuple_int i t c hu,.int_tuple i t c hu,.tuple_int i t c hu,.int_tuple i t c hu⟩
            · exact ⟨.list_int i t c hu,.int_list i t c hu,.list_int i t c hu,.int_list i t c hu⟩
 | str x => obtain ⟨t,rfl⟩:=r;cases b
            · exact ⟨.tuple_str x t c hu,.str_tuple x t c hu,.tuple_str x t c hu,.str_tuple x t c hu⟩
            · exact ⟨.list_str x t c hu,.str_list x t c hu,.list_str x t c hu,.str_list x t c hu⟩
 | _=>cases f
theorem qmG {A:Around}{x y:V}{u w:Value}(rx:RelV x u)(ry:RelV y w)(fx:qep x=true)(fy:qep y=true):SeqAt.RcAt A s u w (eqV x y):=by
 cases x with
 | non=>cases rx;cases y with
  | non=>cases ry;exact .none_none
  | bl k=>cases ry;exact .none_bool k
  | int i=>obtain ⟨t,rfl⟩:=ry;exact .none_int i t
  | str z=>obtain ⟨t,rfl⟩:=ry;exact .none_str z t
  | _=>cases fy
 | bl k'=>cases rx;cases y with
  | non=>cases ry;exact .bool_none k'
  | bl k=>cases ry;exact .bool_bool k' k
  | int i=>obtain ⟨t,rfl⟩:=ry;exact .bool_int k' i t
  | str z=>obtain ⟨t,rfl⟩:=ry;exact .bool_str k' z t
  | _=>cases fy
 | int i'=>obtain ⟨t',rfl⟩:=rx;cases y with
  | non=>cases ry;exact .int_none i' t'
  | bl k=>cases ry;exact .int_bool i' t' k
  | int i=>obtain ⟨t,rfl⟩:=ry;exact .int_int i' t' i t
  | str z=>obtain ⟨t,rfl⟩:=ry;exact .int_str i' t' z t
  | _=>cases fy
 | str z'=>obtain ⟨t',rfl⟩:=rx;cases y with
  | non=>cases ry;exact .str_none z' t'
  | bl k=>cases ry;exact .str_bool z' t' k
  | int i=>obtain ⟨t,rfl⟩:=ry;exact .str_int z' t' i t
  | str z=>obtain ⟨t,rfl⟩:=ry;exact .str_str z' t' z t
  | _=>cases fy
 | _=>cases fx
theorem qjG (f:D->D->Option Bool):∀ {xs ys:List D} {b:Bool},eqL f xs ys=some b -> ∃ e:Nat->Bool,(∀ j x y,xs[j]? = some x->ys[j]? = some y->f x y=some (e j))/\b=((List.range (min xs.length ys.length)).all e&&xs.length == ys.length)
 | [],[],b,h=>by cases h;exact ⟨fun _=>true,fun j x y h=>by simp at h,rfl⟩
 | [],y::ys,b,h=>by cases h;exact ⟨fun _=>true,fun j x y h=>by simp at h,by simp⟩
 | x::xs,[],b,h=>by cases h;exact ⟨fun _=>true,fun j x y h h'=>by simp at h',by simp⟩
 | x::xs,y::ys,b,h=>by
  rw [eqL] at h;obtain ⟨b1,e1,h⟩:=oB1.mp h;obtain ⟨b2,e2,h⟩:=oM1.mp h;obtain ⟨e,he,hb⟩:=qjG f e2;refine ⟨fun j=>match j with | 0=>b1 | j+1=>e j,fun j x' y' hx hy=>?_,?_⟩
  ·cases j with
   | zero=>simp at hx hy;subst hx;subst hy;exact e1
   | succ j=>exact he j x' y' (by simpa using hx) (by simpa using hy)
  ·rw [<- h,hb,lC1,lC1,Nat.succ_min_succ,List.range_succ_eq_map,List.all_cons,List.all_map];have:((xs.length+1 == ys.length+1):Bool)=(xs.length == ys.length):=by simp
   rw [this,Bool.and_assoc];rfl
theorem qeA (I:Inv X pins σ H s) (hs:Sim X.K H mu S):∀ (n:Nat) {A:Around} {d e:D} {v w:V} {u z:Value} {b:Bool},A.units+n<cLine->Rep X.K H mu d v->Rep X.K H mu e w->RelV v u->RelV w z->eqN S n d e=some b->SeqAt.EqAt A s u z b/\SeqAt.RcAt A s u z b
 | 0,_,_,_,_,_,_,_,_,_,_,_,_,_,h=>by cases h
 | n + 1,A,d,e,v,w,u,z,b,hu,rd,re,ru,rz,h=>by
  have hu0:A.units<cLine:=by lia
  have h0:=h;rw [eqN] at h;cases hd:qao S d with
  | some p=>
   obtain ⟨pb,xs⟩:=p;obtain ⟨a,vs,rfl,q,t⟩:=qag rd hs hd;obtain ⟨its,rv,co,_⟩:=qaO I q;cases ru;cases he:qao S e with
   | some p2=>
    obtain ⟨qb,ys⟩:=p2;obtain ⟨a2,vs2,rfl,q2,t2⟩:=qag re hs he;obtain ⟨its2,rv2,co2,_⟩:=qaO I q2;cases rz;rw [hd,he] at h;dsimp only at h;have both:SeqAt.RcAt A s (.ref a) (.ref a2) b->SeqAt.EqAt A s (.ref a) (.ref a2) b/\SeqAt.RcAt A s (.ref a) (.ref a2) b:=fun rc=>by
     refine ⟨?_,rc⟩;by_cases ha:a=a2
     ·subst ha;rw [qhu I hs (n+1) rd re h0];exact .same _
     ·exact .of_refs ha rc
    split at h
    ·rename_i hb;have hb':pb=qb:=hb;subst hb';split at h
     ·rename_i hl;cases h;obtain ⟨h1,h2⟩:=hl;subst h1;refine both (.lists_lengths co co2 ?_ hu0);have l1:=t.length;have l2:=t2.length;have l3:=rv.length;have l4:=rv2.length
      simp only [sT1,bne_iff_ne,ne_eq];lia
     ·rename_i hl;obtain ⟨f,hf,hbb⟩:=qjG _ h;have elts:∀ j (h1:j<its.toArray.size) (h2:j<its2.toArray.size),SeqAt.EqAt A.in1 s its.toArray[j] its2.toArray[j] (f j):=fun j h1 h2=>by
       have h1':j<its.length:=by simpa using h1
       have h2':j<its2.length:=by simpa using h2
       have k1:j<vs.length:=by rw [rv.length];exact h1'
       have k2:j<vs2.length:=by rw [rv2.length];exact h2'
       obtain ⟨x,ex,rx⟩:=t.getV (gG1 k1);obtain ⟨y,ey,ry⟩:=t2.getV (gG1 k2);obtain ⟨u1,eu1,ru1⟩:=rv.get (gG1 k1);obtain ⟨u2,eu2,ru2⟩:=rv2.get (gG1 k2);have e1:its.toArray[j]=u1:=by
        rw [gG1 h1'] at eu1;simpa using eu1
       have e2:its2.toArray[j]=u2:=by
        rw [gG1 h2'] at eu2;simpa using eu2
       rw [e1,e2];exact (qeA I hs n (A:=A.in1) (by show A.units+1+n<cLine;lia) rx ry ru1 ru2 (hf j x y ex ey)).1
      have l1:=t.length;have l2:=t2.length;have l3:=rv.length;have l4:=rv2.length
      cases pb with
      | false=>
       refine both ?_;have:=SeqAt.RcAt.tuples co co2 hu0 elts;rw [hbb];have e1:its.toArray.size=xs.length:=by simp;lia
       have e2:its2.toArray.size=ys.length:=by simp;lia
       rw [e1,e2] at this;exact this
      | true=>
       refine both ?_;have hl':xs.length=ys.length:=by
        by_cases z:xs.length=ys.length
        ·exact z
        ·exact absurd ⟨rfl,z⟩ hl
       have:=SeqAt.RcAt.lists co co2 (by simp;lia) hu0 elts;rw [hbb];have e1:its.toArray.size=xs.length:=by simp;lia
       rw [e1] at this;rw [hl',Nat.min_self,beq_self_eq_true,Bool.and_true,<- hl'];exact this
    ·rename_i hb;cases h;cases pb with
     | true=>
      cases qb with
      | true=>exact absurd rfl hb
      | false=>exact ⟨.list_tuple co co2 hu0,.list_tuple co co2 hu0⟩
     | false=>
      cases qb with
      | false=>exact absurd rfl hb
      | true=>exact ⟨.tuple_list co co2 hu0,.tuple_list co co2 hu0⟩
   | none=>
    rw [hd,he] at h;dsimp only at h;split at h
    ·rename_i f;cases h;obtain ⟨r1,r2,r3,r4⟩:=qaP co rz (qa7 re f).1 hu0;exact ⟨r1,r3⟩
    ·cases h
  | none=>
   cases he:qao S e with
   | some p2=>
    obtain ⟨qb,ys⟩:=p2;obtain ⟨a2,vs2,rfl,q2,t2⟩:=qag re hs he;obtain ⟨its2,rv2,co2,_⟩:=qaO I q2;cases rz;rw [hd,he] at h;dsimp only at h;split at h
    ·rename_i f;cases h;obtain ⟨r1,r2,r3,r4⟩:=qaP co2 ru (qa7 rd f).1 hu0;exact ⟨r2,r4⟩
    ·cases h
   | none=>
    rw [hd,he] at h;dsimp only at h;obtain ⟨f1,f2⟩:=qfe h;obtain ⟨g1,g2⟩:=qa7 rd f1;have g3:=(qa7 re f2).1;rw [g2 e w re f2] at h;cases h;exact ⟨qd7 ru rz g1 g3,qmG ru rz g1 g3⟩
end
noncomputable def qaC:Nat:=60
noncomputable def gEq:G2:=fun d e S=>(eqN S qaC d e).map fun b=>(.bl b,S)
section
variable {X:Cx}
theorem o_eq (hu:X.A.units+64<cLine):OpR X (compareOp .Eq) (r2 X.K (b2 gEq)):=by
 intro pins s σ H x y u w Q I rx ry h;obtain ⟨mu,S,d,e,r,S',r1,r2,hs,hm,hc⟩:=rn2 h;obtain ⟨b,e1,hm⟩:=oM1.mp hm;cases hm;exact (qeA I hs qaC (by show _+60<cLine;lia) r1 r2 rx ry e1).2 X.prog X.w X.xe _ ⟨.bl b,H,I,rfl,hc.now (.bl b) hs⟩
end
section
variable {X:Cx} {pins:List (Addr×Obj)} {σ:L2.St} {H:Hp} {s:Shared} {mu:List Addr} {S:Sto}
theorem qm8 {A:Around}{x y:V}{u w:Value}(rx:RelV x u)(ry:RelV y w)(fx:qep x=true)(fy:qep y=true):SeqAt.RcNeAt A s u w (!eqV x y):=by
 cases x with
 | non=>cases rx;cases y with
  | non=>cases ry;exact .none_none
  | bl k=>cases ry;exact .none_bool k
  | int i=>obtain ⟨t,rfl⟩:=ry;exact .none_int i t
  | str z=>obtain ⟨t,rfl⟩:=ry;exact .none_str z t
  | _=>cases fy
 | bl k'=>cases rx;cases y with
  | non=>cases ry;exact .bool_none k'
  | bl k=>cases ry;exact .bool_bool k' k
  | int i=>obtain ⟨t,rfl⟩:=ry;exact .bool_int k' i t
  | str z=>obtain ⟨t,rfl⟩:=ry;exact .bool_str k' z t
  | _=>cases fy
 | int i'=>obtain ⟨t',rfl⟩:=rx;cases y with
  | non=>cases ry;exact .int_none i' t'
  | bl k=>cases ry;exact .int_bool i' t' k
  | int i=>obtain ⟨t,rfl⟩:=ry;exact .int_int i' t' i t
  | str z=>obtain ⟨t,rfl⟩:=ry;exact .int_str i' t' z t
  | _=>cases fy
 | str z'=>obtain ⟨t',rfl⟩:=rx;cases y with
  | non=>cases ry;exact .str_none z' t'
  | bl k=>cases ry;exact .str_bool z' t' k
  | int i=>obtain ⟨t,rfl⟩:=ry;exact .str_int z' t' i t
  | str z=>obtain ⟨t,rfl⟩:=ry;exact .str_str z' t' z t
  | _=>cases fy
 | _=>cases fx
theorem qdV {A:Around}{b:Bool}{a:Addr}{its:Array Value}{v:V}{u:Value}(c:SCo b s.heap a its)(r:RelV v u)(f:qep v=true)(hu:A.units<cLine):SeqAt.RcNeAt A s (.ref a) u true/\SeqAt.RcNeAt A s u (.ref a) true:=by
 cases v with
 | non => cases r;cases b
          · exact ⟨.tuple_none c hu,.none_tuple c hu⟩
          · exact ⟨.list_none c hu,.none_list c hu⟩
 | bl k => cases r;cases b
           · exact ⟨.tuple_bool k c hu,.bool_tuple k c hu⟩
           · exact ⟨.list_bool k c hu,.bool_list k c hu⟩
 | int i => obtain ⟨t,rfl⟩:=r;cases b
            · exact ⟨.tuple_int i t c hu,.int_tuple i t c hu⟩
            · exact ⟨.list_int i t c hu,.int_list i t c hu⟩
 | str x => obtain ⟨t,rfl⟩:=r;cases b
            · exact ⟨.tuple_str x t c hu,.str_tuple x t c hu⟩
            · exact ⟨.list_str x t c hu,.str_list x t c hu⟩
 | _=>cases f
theorem qps (I:Inv X pins σ H s) (hs:Sim X.K H mu S) (n:Nat) {A:Around} {d e:D} {v w:V} {u z:Value} {b:Bool} (hu:A.units+n<cLine) (rd:Rep X.K H mu d v) (re:Rep X.K H mu e w) (ru:RelV v u) (rz:RelV w z) (h:eqN S n d e=some b):SeqAt.RcNeAt A s u z (!b):=by
 cases n with
 | zero=>cases h
 | succ n=>
  have hu0:A.units<cLine:=by lia
  rw [eqN] at h;cases hd:qao S d with
  | some p=>
   obtain ⟨pb,xs⟩:=p;obtain ⟨a,vs,rfl,q,t⟩:=qag rd hs hd;obtain ⟨its,rv,co,_⟩:=qaO I q;cases ru;cases he:qao S e with
   | some p2=>
    obtain ⟨qb,ys⟩:=p2;obtain ⟨a2,vs2,rfl,q2,t2⟩:=qag re hs he;obtain ⟨its2,rv2,co2,_⟩:=qaO I q2;cases rz;rw [hd,he] at h;dsimp only at h;have l1:=t.length;have l2:=t2.length;have l3:=rv.length;have l4:=rv2.length
    split at h
    ·rename_i hb;have hb':pb=qb:=hb;subst hb';split at h
     ·rename_i hl;cases h;obtain ⟨h1,h2⟩:=hl;subst h1;refine .lists_lengths co co2 ?_ hu0;simp only [sT1,bne_iff_ne,ne_eq];lia
     ·rename_i hl;obtain ⟨f,hf,hbb⟩:=qjG _ h;have elts:∀ j (h1:j<its.toArray.size) (h2:j<its2.toArray.size),SeqAt.EqAt A.in1 s its.toArray[j] its2.toArray[j] (f j):=fun j h1 h2=>by
       have h1':j<its.length:=by simpa using h1
       have h2':j<its2.length:=by simpa using h2
       have k1:j<vs.length:=by rw [rv.length];exact h1'
       have k2:j<vs2.length:=by rw [rv2.length];exact h2'
       obtain ⟨x,ex,rx⟩:=t.getV (gG1 k1);obtain ⟨y,ey,ry⟩:=t2.getV (gG1 k2);obtain ⟨u1,eu1,ru1⟩:=rv.get (gG1 k1);obtain ⟨u2,eu2,ru2⟩:=rv2.get (gG1 k2);have e1:its.toArray[j]=u1:=by
        rw [gG1 h1'] at eu1;simpa using eu1
       have e2:its2.toArray[j]=u2:=by
        rw [gG1 h2'] at eu2;simpa using eu2
       rw [e1,e2];exact (qeA I hs n (A:=A.in1) (by show A.units+1+n<cLine;lia) rx ry ru1 ru2 (hf j x y ex ey)).1
      cases pb with
      | false=>
       have:=SeqAt.RcNeAt.tuples co co2 hu0 elts;rw [hbb];have e1:its.toArray.size=xs.length:=by simp;lia
       have e2:its2.toArray.size=ys.length:=by simp;lia
       rw [e1,e2] at this;exact this
      | true=>
       have hl':xs.length=ys.length:=by
        by_cases z:xs.length=ys.length
        ·exact z
        ·exact absurd ⟨rfl,z⟩ hl
       have:=SeqAt.RcNeAt.lists co co2 (by simp;lia) hu0 elts;rw [hbb];have e1:its.toArray.size=xs.length:=by simp;lia
       rw [e1] at this;rw [hl',Nat.min_self,beq_self_eq_true,Bool.and_true,<- hl'];exact this
    ·rename_i hb;cases h;cases pb with
     | true=>
      cases qb with
      | true=>exact absurd rfl hb
      | false=>exact .list_tuple co co2 hu0
     | false=>
      cases qb with
      | false=>exact absurd rfl hb
      | true=>exact .tuple_list co co2 hu0
   | none=>
    rw [hd,he] at h;dsimp only at h;split at h
    ·rename_i f;cases h;exact (qdV co rz (qa7 re f).1 hu0).1
    ·cases h
  | none=>
   cases he:qao S e with
   | some p2=>
    obtain ⟨qb,ys⟩:=p2;obtain ⟨a2,vs2,rfl,q2,t2⟩:=qag re hs he;obtain ⟨its2,rv2,co2,_⟩:=qaO I q2;cases rz;rw [hd,he] at h;dsimp only at h;split at h
    ·rename_i f;cases h;exact (qdV co2 ru (qa7 rd f).1 hu0).2
    ·cases h
   | none=>
    rw [hd,he] at h;dsimp only at h;obtain ⟨f1,f2⟩:=qfe h;obtain ⟨g1,g2⟩:=qa7 rd f1;have g3:=(qa7 re f2).1;rw [g2 e w re f2] at h;cases h;exact qm8 ru rz g1 g3
end
noncomputable def gNe:G2:=fun d e S=>(eqN S qaC d e).map fun b=>(.bl (!b),S)
noncomputable def inL (f:D->D->Option Bool)(x:D):List D->Option Bool
 | []=>some false
 | y::ys=>(f y x).bind fun b=>(inL f x ys).map fun c=>b||c
noncomputable def gIn:G2:=fun d e S=>(qao S e).bind fun p=>(inL (eqN S qaC) d p.2).map fun b=>(.bl b,S)
noncomputable def qfO:G2:=fun d e S=>(qao S e).bind fun p=>(inL (eqN S qaC) d p.2).map fun b=>(.bl (!b),S)
noncomputable def isNon:D->Bool
 | .non=>true
 | _=>false
noncomputable def qnK:G2:=fun d e S=>match e with
 | .non=>some (.bl (!isNon d),S)
 | _=>none
section
variable {X:Cx}
theorem o_ne (hu:X.A.units+64<cLine):OpR X (compareOp .NotEq) (r2 X.K (b2 gNe)):=by
 intro pins s σ H x y u w Q I rx ry h;obtain ⟨mu,S,d,e,r,S',r1,r2,hs,hm,hc⟩:=rn2 h;obtain ⟨b,e1,hm⟩:=oM1.mp hm;cases hm;exact qps I hs qaC (by show _+60<cLine;lia) r1 r2 rx ry e1 X.prog X.w X.xe _ ⟨.bl (!b),H,I,rfl,hc.now (.bl _) hs⟩
theorem qlX (f:D->D->Option Bool)(x:D):∀ {ys:List D} {b:Bool},inL f x ys=some b -> ∃ bs:List Bool,bs.length=ys.length/\(∀ (j:Nat) (y:D) (k:Bool),ys[j]? = some y->bs[j]? = some k->f y x=some k)/\b=bs.any id
 | [],b,h=>by cases h;exact ⟨[],rfl,fun j y k h=>by simp at h,rfl⟩
 | y::ys,b,h=>by
  rw [inL] at h;obtain ⟨b1,e1,h⟩:=oB1.mp h;obtain ⟨b2,e2,h⟩:=oM1.mp h;obtain ⟨bs,hl,hb,hany⟩:=qlX f x e2;refine ⟨b1::bs,by simp [hl],fun j y' k hy hk=>?_,?_⟩
  ·cases j with
   | zero=>simp at hy hk;subst hy;subst hk;exact e1
   | succ j=>exact hb j y' k (by simpa using hy) (by simpa using hk)
  ·rw [<- h,hany];simp
open Classical in
theorem qp8 {pins:List (Addr×Obj)}{σ:L2.St}{H:Hp}{s:Shared}{mu:List Addr}{S:Sto}(I:Inv X pins σ H s)(hs:Sim X.K H mu S){A:Around}(hu:A.units+61<cLine){x:D}{v:V}{u:Value}(rx:Rep X.K H mu x v)(ru:RelV v u)
  {ys:List D} {vs:List V} {us:List Value} {b:Bool} (ry:Reps X.K H mu ys vs) (rv:Vals vs us) (h:inL (eqN S qaC) x ys=some b):∃ e:Value->Bool,(∀ w∈us,SeqAt.EqAt A.in1 s w u (e w))/\us.any e=b:=by
 obtain ⟨bs,hl,hb,rfl⟩:=qlX _ x h;have l1:=ry.length;have l2:=rv.length;have at_:∀ (j:Nat) w k,us[j]? = some w->bs[j]? = some k->SeqAt.EqAt A.in1 s w u k:=fun j w k hw hk=>by
  have j1:j<us.length:=(gE1.mp hw).1;obtain ⟨y,ey,r1⟩:=ry.getV (i:=j) (v:=vs[j]'(by lia)) (gG1 (by lia));obtain ⟨w',ew,r2⟩:=rv.get (i:=j) (x:=vs[j]'(by lia)) (gG1 (by lia));rw [hw] at ew;cases ew;exact (qeA I hs qaC (A:=A.in1) (by show A.units+1+60<cLine;lia) r1 rx r2 ru (hb j y k ey hk)).1
 refine ⟨fun w=>decide (∃ j:Nat,us[j]? = some w/\bs[j]? = some true),fun w hw=>?_,?_⟩
 ·by_cases z:∃ j:Nat,us[j]? = some w/\bs[j]? = some true
  ·dsimp only;rw [decide_eq_true z];obtain ⟨j,e1,e2⟩:=z;exact at_ j w true e1 e2
  ·dsimp only;rw [decide_eq_false z];obtain ⟨j,hj⟩:=List.getElem?_of_mem hw;have j1:j<us.length:=(gE1.mp hj).1;have j2:j<bs.length:=by lia
   have e2:=gG1 j2;cases hk:bs[j] with
   | true=>rw [hk] at e2;exact absurd ⟨j,hj,e2⟩ z
   | false=>rw [hk] at e2;exact at_ j w false hj e2
 ·rw [Bool.eq_iff_iff,List.any_eq_true,List.any_eq_true];constructor
  ·rintro ⟨w,hw,z⟩;obtain ⟨j,e1,e2⟩:=of_decide_eq_true z;exact ⟨true,gM1 e2,rfl⟩
  ·rintro ⟨k,hk,z⟩;obtain ⟨j,hj⟩:=List.getElem?_of_mem hk;have j1:j<bs.length:=(gE1.mp hj).1;have j2:j<us.length:=by lia
   have z':k=true:=z;subst z';exact ⟨us[j],List.getElem_mem j2,decide_eq_true ⟨j,gG1 j2,hj⟩⟩
theorem o_in (hu:X.A.units+64<cLine):OpR X (compareOp .In) (r2 X.K (b2 gIn)):=by
 intro pins s σ H x y u w Q I rx ry h;obtain ⟨mu,S,d,e,r,S',r1,r2,hs,hm,hc⟩:=rn2 h;obtain ⟨⟨pb,ys⟩,e1,hm⟩:=oB1.mp hm;obtain ⟨b,e2,hm⟩:=oM1.mp hm;cases hm;obtain ⟨a,vs,rfl,q,t⟩:=qag r2 hs e1;cases ry;obtain ⟨its,rv,co,_⟩:=qaO I q;obtain ⟨f,hf,hb⟩:=qp8 I hs (A:=X.A) (by lia) r1 rx t rv e2;have fin:EP X pins σ Q (.bool (its.toArray.any f)) s:=⟨.bl b,H,I,by rw [show its.toArray.any f=its.any f by simp,hb];rfl,hc.now (.bl b) hs⟩;cases pb
 ·exact SeqAt.in_tupleAt f co (fun y hy=>hf y (by simpa using hy)) fin
 ·exact SeqAt.in_listAt f co (fun y hy=>hf y (by simpa using hy)) fin
theorem qm5 (hu:X.A.units+64<cLine):OpR X (compareOp .NotIn) (r2 X.K (b2 qfO)):=by
 intro pins s σ H x y u w Q I rx ry h;obtain ⟨mu,S,d,e,r,S',r1,r2,hs,hm,hc⟩:=rn2 h;obtain ⟨⟨pb,ys⟩,e1,hm⟩:=oB1.mp hm;obtain ⟨b,e2,hm⟩:=oM1.mp hm;cases hm;obtain ⟨a,vs,rfl,q,t⟩:=qag r2 hs e1;cases ry;obtain ⟨its,rv,co,_⟩:=qaO I q;obtain ⟨f,hf,hb⟩:=qp8 I hs (A:=X.A) (by lia) r1 rx t rv e2;have fin:EP X pins σ Q (.bool (!its.toArray.any f)) s:=⟨.bl (!b),H,I,by rw [show its.toArray.any f=its.any f by simp,hb];rfl,hc.now (.bl _) hs⟩;cases pb
 ·exact SeqAt.notIn_tupleAt f co (fun y hy=>hf y (by simpa using hy)) fin
 ·exact SeqAt.notIn_listAt f co (fun y hy=>hf y (by simpa using hy)) fin
theorem qm7 {K:Fg1}{H:Hp}{mu:List Addr}{d:D}{v:V}(r:Rep K H mu d v):isNon d=decide (v = .non):=by
 cases r<;>simp [isNon]
theorem qpp:OpR X (compareOp .IsNot) (r2 X.K (b2 qnK)):=by
 intro pins s σ H x y u w Q I rx ry h;obtain ⟨mu,S,d,e,r,S',r1,r2,hs,hm,hc⟩:=rn2 h;cases e with
 | non=>
  cases hm;cases r2;refine qmZ pins s σ H _ _ u w Q I rx ry ⟨rfl,?_⟩;rw [<- qm7 r1];exact hc.now (.bl _) hs
 | _=>cases hm
end
noncomputable def gLen:G1:=fun d S=>match d with
 | .str x=>if x.length<=sizeLine then some (.int x.length,S) else none
 | _=>(qao S d).map fun p=>(.int p.2.length,S)
noncomputable def gIx:G2:=fun d e S=>match e with
 | .int i=>(qao S d).bind fun p=>(atI p.2 i).map fun x=>(x,S)
 | _=>none
noncomputable def gTup:G1:=fun d S=>(qao S d).map fun p=>(.tup p.2,S)
noncomputable def gLst:G1:=fun d S=>(qao S d).map fun p=>(.ref S.length,S++[.lst p.2])
noncomputable def qdl:G3:=fun o i v S=>match o,i with
 | .ref n,.int k=>match S[n]? with
  | some (.lst xs)=>(ixN xs.length k).map fun j=>(.non,S.set n (.lst (xs.set j v)))
  | _=>none
 | _,_=>none
noncomputable def allB:List D->Option Bool
 | []=>some true
 | .bl b::r=>(allB r).map fun c=>b&&c
 | _=>none
noncomputable def gAll:G1:=fun d S=>(qao S d).bind fun p=>(allB p.2).map fun b=>(.bl b,S)
noncomputable def gInt:G1:=fun d S=>match d with
 | .int i=>some (.int i,S)
 | .bl b=>some (.int (if b then 1 else 0),S)
 | _=>none
noncomputable def gAbs:G1:=fun d S=>match d with
 | .int i=>some (.int (if i<0 then-i else i),S)
 | _=>none
noncomputable def gMax:G2:=fun d e S=>match d,e with
 | .int i,.int j=>some (.int (if j>i then j else i),S)
 | _,_=>none
noncomputable def gMin:G2:=fun d e S=>match d,e with
 | .int i,.int j=>some (.int (if j<i then j else i),S)
 | _,_=>none
section
variable {X:Cx}
theorem qa8:qaN X (.builtin "len") (rN X.K (b1 gLen)):=by
 intro pins s σ H xs us Q I r h;obtain ⟨x,mu,S,d,r',S',rfl,r1,hs,hm,hc⟩:=rn1 h;unfold gLen at hm;split at hm
 ·split at hm
  ·rename_i z hl;cases hm;cases r1;exact qf0 pins s σ H _ us Q I r ⟨_,rfl,hl,hc.now (.int _) hs⟩
  ·cases hm
 ·obtain ⟨⟨b,ys⟩,e1,hm⟩:=oM1.mp hm;cases hm;obtain ⟨a,vs,rfl,q,t⟩:=qag r1 hs e1;refine qf1 pins s σ H _ us Q I r ⟨a,vs,rfl,?_,?_⟩
  ·cases b
   ·exact .inr q
   ·exact .inl q
  ·rw [<- t.length];exact hc.now (.int _) hs
theorem qn5 {K:Fg1}{H:Hp}{mu:List Addr}{ds:List D}{vs:List V}{i:Int}{d:D}(t:Reps K H mu ds vs)(h:atI ds i=some d):∃ v,atI vs i=some v/\Rep K H mu d v:=by
 unfold atI at h ⊢;rw [<- t.length];obtain ⟨j,e1,h⟩:=oB1.mp h;obtain ⟨v,ev,rv⟩:=t.get h;exact ⟨v,by rw [e1];exact ev,rv⟩
theorem x_ix:IxR X (r2 X.K (b2 gIx)):=by
 intro value slice pins s σ H x y v u Q I rx ry h hs2;obtain ⟨mu,S,d,e,r,S',r1,r2,hs,hm,hc⟩:=rn2 h;cases e with
 | int i=>
  obtain ⟨⟨b,ys⟩,e1,hm⟩:=oB1.mp hm;obtain ⟨z,e2,hm⟩:=oM1.mp hm;cases hm;cases r2;obtain ⟨a,vs,rfl,q,t⟩:=qag r1 hs e1;obtain ⟨v',ev,rv⟩:=qn5 t e2;cases b
  ·exact ix_tup value slice pins s σ H _ _ v u Q I rx ry ⟨a,vs,i,v',rfl,rfl,q,ev,hc.now rv hs⟩ hs2
  ·exact qnD value slice pins s σ H _ _ v u Q I rx ry ⟨a,vs,i,v',rfl,rfl,q,ev,hc.now rv hs⟩ hs2
 | _=>cases hm
theorem qb1:qaN X (.type "tuple") (rN X.K (b1 gTup)):=by
 intro pins s σ H xs us Q I r h;obtain ⟨x,mu,S,d,r',S',rfl,r1,hs,hm,hc⟩:=rn1 h;obtain ⟨⟨b,ys⟩,e1,hm⟩:=oM1.mp hm;cases hm;obtain ⟨a,vs,rfl,q,t⟩:=qag r1 hs e1;refine qfl pins s σ H _ us Q I r ⟨a,vs,rfl,?_⟩;cases b
 ·exact .inr ⟨q,hc.now (.tup q t) hs⟩
 ·exact .inl ⟨q,fun l hl=>hc _ _ mu (Ext.fresh hl) (.tup (SqT.of qau) (t.ext (Ext.fresh hl))) (hs.fresh hl)⟩
theorem ql4:qaN X (.type "list") (rN X.K (b1 gLst)):=by
 intro pins s σ H xs us Q I r h;obtain ⟨x,mu,S,d,r',S',rfl,r1,hs,hm,hc⟩:=rn1 h;obtain ⟨⟨b,ys⟩,e1,hm⟩:=oM1.mp hm;cases hm;obtain ⟨a,vs,rfl,q,t⟩:=qag r1 hs e1;refine qfZ pins s σ H _ us Q I r ⟨a,vs,rfl,?_,fun l hl=>hc _ _ (mu++[l]) (Ext.new_ hl) (.ref (qcl hs.len l)) (hs.newL t hl)⟩;cases b
 ·exact .inr q
 ·exact .inl q
theorem qra:PSet X (rU X.K (b3 qdl)):=by
 intro pins s σ H o i v ov iv u Q I ro ri rv h;obtain ⟨mu,S,ds,d,S',hr,hs,hm,hc⟩:=h;cases hr with
 | cons q1 t1=>cases t1 with
  | cons q2 t2=>cases t2 with
   | cons q3 t3=>
    cases t3;rename_i d1 d2 d3;dsimp only [b3] at hm;unfold qdl at hm;split at hm
    ·rename_i n k;split at hm
     ·rename_i xs e;obtain ⟨j,ej,hm⟩:=oM1.mp hm;cases hm;cases q1 with
      | ref qn=>
       cases q2;obtain ⟨vs,ev,t⟩:=hs.lst e qn;refine qkv pins s σ H _ _ v ov iv u Q I ro ri rv ⟨_,vs,k,j,rfl,rfl,ev,by rw [<- t.length];exact ej,?_⟩;exact hc _ mu (Ext.put ev trivial (gM1 qn)) (hs.putL (t.set q3 j) qn ev)
     ·cases hm
    ·cases hm
theorem qn8 {K:Fg1}{H:Hp}{mu:List Addr}:∀ {ds:List D} {vs:List V} {us:List Value} {b:Bool},Reps K H mu ds vs->Vals vs us->allB ds=some b -> ∃ bs:List Bool,us=bs.map Value.bool/\b=bs.all id:=by
 intro ds
 induction ds with
 | nil=>intro vs us b r v h;cases r;cases v;cases h;exact ⟨[],rfl,rfl⟩
 | cons d ds ih=>
  intro vs us b r v h;cases r with
  | cons r1 t=>
   cases v with
   | cons r tt=>
    cases r1
    case bl k=>
     obtain ⟨c,e,h⟩:=oM1.mp h;obtain ⟨bs,e1,e2⟩:=ih t tt e;cases r;exact ⟨k::bs,by rw [e1];rfl,by rw [<- h,e2];rfl⟩
    all_goals cases h
theorem qfy (bs:List Bool):(List.range bs.length).all (fun i=>bs.getD i true)=bs.all id:=by
 rw [Bool.eq_iff_iff,List.all_eq_true,List.all_eq_true];constructor
 ·intro h b hb;obtain ⟨i,hi,rfl⟩:=List.mem_iff_getElem.mp hb;have:=h i (List.mem_range.mpr hi);simpa [List.getD_eq_getElem?_getD,hi] using this
 ·intro h i hi;have hi':=List.mem_range.mp hi;have:=h _ (List.getElem_mem hi');simpa [List.getD_eq_getElem?_getD,hi'] using this
theorem qhI {s:Shared}{b:Bool}{a:Addr}{bs:List Bool}(hc:X.A.handled=none)(co:SCo b s.heap a (bs.map Value.bool).toArray){Q:Value->Shared->Prop}
  (all:∀ h' tk,(∀ c o,s.heap.get? c=some o->h'.get? c=some o)->Q (.bool (bs.all id)) {s with heap:=h',toks:=tk}):wpAny (model X.prog X.w) X.A (call (.builtin "all") [.ref a]) Q X.xe s:=by
 refine call_all_walk (qcS co ?_);have hlt:a<s.heap.objs.size:=by cases b<;>(obtain ⟨o,e,_⟩:=co;exact hL1 e)
 have ne:a≠s.heap.objs.size:=nN1 hlt;have tr:TruthOf X.prog X.w X.A.in1 (fun i v=>(bs.map Value.bool).toArray[i]? = some v) (fun i=>bs.getD i true):=fun i v s' Q' E' hv hq=>by
  have hv':(bs.map Value.bool)[i]? = some v:=by simpa using hv
  rw [gP1] at hv';obtain ⟨k,ek,rfl⟩:=oM1.mp hv';dsimp only at hq;rw [List.getD_eq_getElem?_getD,ek] at hq;exact wpAny_truthy_bool hq
 have keep:∀ (h':Heap),(∀ c o,c∉[s.heap.objs.size]->(s.heap.push (qbQ b a)).get? c=some o->h'.get? c=some o) -> ∀ c o,s.heap.get? c=some o->h'.get? c=some o:=fun h' hk c o e=>
  hk c o (by simpa using nN1 (hL1 e)) (hP1 _ e)
 have hi:(s.heap.push (qbQ b a)).get? s.heap.objs.size=some (qbQ b a):=hS1 _ (by cases b<;>rfl);cases b with
 | true=>
  refine ⟨s.heap.objs.size,_,_,_,_,_,_,rfl,Walks.list (A:=X.A.in1) hc s.heap.objs.size a ne (bs.map Value.bool).toArray,⟨⟨_,hi,rfl,rfl⟩,SCo.to (b:=true) co fun o e=>hP1 _ e⟩,tr,fun h' tk hk=>?_⟩;have e:(bs.map Value.bool).toArray.size=bs.length:=by simp
  rw [e,qfy];exact all h' tk (keep h' hk)
 | false=>
  refine ⟨s.heap.objs.size,_,_,_,_,_,_,rfl,Walks.tuple (A:=X.A.in1) hc s.heap.objs.size a ne (bs.map Value.bool).toArray,⟨⟨_,hi,rfl,rfl⟩,SCo.to (b:=false) co fun o e=>hP1 _ e⟩,tr,fun h' tk hk=>?_⟩;have e:(bs.map Value.bool).toArray.size=bs.length:=by simp
  rw [e,qfy];exact all h' tk (keep h' hk)
theorem qr7 (hc:X.calm=true):qaN X (.builtin "all") (rN X.K (b1 gAll)):=by
 intro pins s σ H xs us Q I r h;obtain ⟨x,mu,S,d,r',S',rfl,r1,hs,hm,hcc⟩:=rn1 h;obtain ⟨⟨b,ys⟩,e1,hm⟩:=oB1.mp hm;obtain ⟨k,e2,hm⟩:=oM1.mp hm;cases hm;obtain ⟨a,vs,rfl,q,t⟩:=qag r1 hs e1;obtain ⟨u,rfl,ru⟩:=qcB r;cases ru;obtain ⟨its,rv,co,_⟩:=qaO I q;obtain ⟨bs,rfl,rfl⟩:=qn8 t rv e2;exact qhI (I.ok.hd hc) co fun h' tk hk=>⟨.bl _,H,I.kept hk,rfl,hcc.now (.bl _) hs⟩
theorem qr6:qaN X (.type "int") (rN X.K (b1 gInt)):=by
 intro pins s σ H xs us Q I r h;obtain ⟨x,mu,S,d,r',S',rfl,r1,hs,hm,hc⟩:=rn1 h;cases d with
 | int i=>cases hm;cases r1;exact qf2 pins s σ H _ us Q I r (.inl ⟨i,rfl,hc.now (.int _) hs⟩)
 | bl b=>cases hm;cases r1;exact qf2 pins s σ H _ us Q I r (.inr ⟨b,rfl,hc.now (.int _) hs⟩)
 | _=>cases hm
theorem qqw:qaN X (.builtin "abs") (rN X.K (b1 gAbs)):=by
 intro pins s σ H xs us Q I r h;obtain ⟨x,mu,S,d,r',S',rfl,r1,hs,hm,hc⟩:=rn1 h;cases d with
 | int i=>cases hm;cases r1;exact qlq pins s σ H _ us Q I r ⟨i,rfl,hc.now (.int _) hs⟩
 | _=>cases hm
theorem qr5 (hc:X.calm=true):qaN X (.builtin "min") (rN X.K (b2 gMin)):=by
 intro pins s σ H xs us Q I r h;obtain ⟨x,y,mu,S,d,e,r',S',rfl,r1,r2,hs,hm,hcc⟩:=rn2l h;unfold gMin at hm;split at hm
 ·cases hm;cases r1;cases r2;exact qj3 hc pins s σ H _ us Q I r ⟨_,_,rfl,hcc.now (.int _) hs⟩
 ·cases hm
end
open PySem.SeqAt
open PySem.AutoSeq1 (wpAny_loadPart')
open PySem.MeetsSeq PySem.MeetsSeq2 PySem.MeetsSeq3
noncomputable def RcLt (A:Around)(s:Shared)(y x:Value)(b:Bool):Prop:=∀ (prog:Program) (w:World) (E:Value->Shared->Prop) (Q:Value->Shared->Prop),Q (.bool b) s->wpAny (model prog w) A (richCompare .Lt y x) Q E s
inductive LtS (A:Around)(s:Shared):List Value->List Value->Bool->Prop
 | nn:LtS A s [] [] false
 | nc (y:Value) (ys:List Value):LtS A s [] (y::ys) true
 | cn (x:Value) (xs:List Value):LtS A s (x::xs) [] false
 | eq {x y:Value} {xs ys:List Value} {k:Bool} (e:EqAt A.in1 s x y true) (t:LtS A s xs ys k):LtS A s (x::xs) (y::ys) k
 | lt {x y:Value} {xs ys:List Value} {k:Bool} (e:EqAt A.in1 s x y false) (t:RcLt A.in1 s x y k):LtS A s (x::xs) (y::ys) k
theorem qom (l b:Addr)(items items2:Array Value)(n n2:Nat)(dd dd2:Option Addr)(sl sl2:Array (Option Value))(c:Bool):
  Meets (Builtin.«tuple.__lt__» ⟨[.ref l,.ref b],[]⟩) (fun A R s=>s.heap.get? l=some {cls:=.type "tuple",dict:=dd,data:=.seq items n,slots:=sl}/\s.heap.get? b=some {cls:=.type "tuple",dict:=dd2,data:=.seq items2 n2,slots:=sl2} /\
    LtS A s items.toList items2.toList c/\R (.ok (.ret (.bool c))) s):=
 .of_wp fun prog w A R s h=>by
  obtain ⟨hp,g,d,tk,os⟩:=s;obtain ⟨hl,hb,hs,h⟩:=h;have f2:=AutoSeq1.sub_tuple_tuple
  wp_walk using wpAny_loadPart' hl,wpAny_loadPart' hb,wpAny_forIn_list _ (fun rest b s'=>b.1=none/\s'=⟨hp,g,d,tk,os⟩ /\ ∃ vs ws:List Value,rest=vs.zip ws/\LtS A ⟨hp,g,d,tk,os⟩ vs ws c/\vs.length+items2.size=ws.length+items.size) _
  case turn=>
   rintro ⟨y,x⟩ rest b s' ⟨hb',rfl,vs,ws,hz,hL,hlen⟩;cases hL with
   | nn=>cases hz
   | nc _ _=>cases hz
   | cn _ _=>cases hz
   | eq e t=>
    rw [List.zip_cons_cons] at hz;injection hz with hyx hrest;injection hyx with hy hx;subst hy hx
    simp only [lC1] at hlen;refine wB1 (e prog w _ _ ?_)
    wp_walk
    exact ⟨rfl,rfl,_,_,hrest,t,by lia⟩
   | lt e t=>
    rw [List.zip_cons_cons] at hz;injection hz with hyx hrest;injection hyx with hy hx;subst hy hx
    refine wB1 (e prog w _ _ ?_);have t':=t prog w
    wp_walk using t'
    exact ⟨_,rfl,by simpa using h⟩
  case fin=>
   rintro ⟨b1,b2⟩ s' ⟨hb',rfl,vs,ws,hz,hL,hlen⟩;simp only at hb';subst hb';have hv:c=decide (items.size<items2.size):=by
    cases hL with
    | nn=>simp only [List.length_nil] at hlen;exact (decide_eq_false (by lia)).symm
    | nc _ _=>simp only [List.length_nil,lC1] at hlen;exact (decide_eq_true (by lia)).symm
    | cn _ _=>simp only [List.length_nil,lC1] at hlen;exact (decide_eq_false (by lia)).symm
    | eq _ _=>rw [List.zip_cons_cons] at hz;cases hz
    | lt _ _=>rw [List.zip_cons_cons] at hz;cases hz
   rw [hv] at h
   wp_walk
   exact ⟨_,rfl,by simpa [Builtin.Tuple.tupleCompareSizes] using h⟩
  case h=>exact ⟨rfl,rfl,items.toList,items2.toList,rfl,hs,by simp;lia⟩
theorem qk5 (l b:Addr)(items items2:Array Value)(n n2:Nat)(dd dd2:Option Addr)(sl sl2:Array (Option Value))(c:Bool)(k:Nat):
  ∀ i:Nat,items.size-i=k->i<=items.size->i<=items2.size->Meets (Builtin.«list.__eq__.loop» ⟨[.ref l,.ref b,rawInt i,rawInt 0],[]⟩)
   (fun A R s=>s.heap.get? l=some {cls:=.type "list",dict:=dd,data:=.seq items n,slots:=sl}/\s.heap.get? b=some {cls:=.type "list",dict:=dd2,data:=.seq items2 n2,slots:=sl2} /\
    LtS A s (items.toList.drop i) (items2.toList.drop i) c/\R (.ok (.ret (.bool c))) s):=by
 induction k with
 | zero=>
  intro i hk hi1 hi2 prog w A R s h;obtain ⟨hp,g,d,tk,os⟩:=s;obtain ⟨hl,hb,hL,h⟩:=h
  wp_walk using wpAny_loadPart' hl,wpAny_loadPart' hb
  have e1:items[((i:Nat):Int).toNat]? = none:=by simp;lia
  have d1:items.toList.drop i=[]:=by simp;lia
  rw [d1] at hL;rw [e1]
  wp_walk using wpAny_loadPart' hl,wpAny_loadPart' hb
  have hv:c=decide (items.size<items2.size):=by
   cases h2:items2.toList.drop i with
   | nil=>
    rw [h2] at hL;cases hL;have:=congrArg List.length h2;simp at this;exact (decide_eq_false (by lia)).symm
   | cons y ys=>
    rw [h2] at hL;cases hL;have:=congrArg List.length h2;simp at this;exact (decide_eq_true (by lia)).symm
  show R (.ok (.ret (.bool (decide (items.size<items2.size))))) _;rw [<- hv];exact h
 | succ k ih=>
  intro i hk hi1 hi2 prog w A R s h;obtain ⟨hp,g,d,tk,os⟩:=s;obtain ⟨hl,hb,hL,h⟩:=h;have hlt:i<items.size:=by lia
  have d1:items.toList.drop i=items[i]::items.toList.drop (i+1):=by simp [List.drop_eq_getElem_cons,hlt]
  have e1:items[((i:Nat):Int).toNat]? = some items[i]:=by simp [hlt]
  have hc:((i:Int)+1)=((i+1:Nat):Int):=by push_cast;rfl
  rw [d1] at hL;rcases Nat.lt_or_ge i items2.size with hlt2 | hge
  ·have d2:items2.toList.drop i=items2[i]::items2.toList.drop (i+1):=by simp [List.drop_eq_getElem_cons,hlt2]
   have e2:items2[((i:Nat):Int).toNat]? = some items2[i]:=by simp [hlt2]
   rw [d2] at hL
   wp_walk using wpAny_loadPart' hl,wpAny_loadPart' hb
   rw [e1,e2];cases hL with
   | eq e t=>
    refine wB1 (e prog w _ _ ?_)
    wp_walk
    rw [hc];exact ⟨plainId_quiet plain_eq_loop _,wD1 entry_eq_loop (by rw [Around.under_plainId plain_eq_loop _];exact ih (i+1) (by lia) (by lia) (by lia) prog w A R _ ⟨hl,hb,t,h⟩)⟩
   | lt e t=>
    refine wB1 (e prog w _ _ ?_);have t':=t prog w
    wp_walk using wpAny_loadPart' hl,wpAny_loadPart' hb
    rw [e1,e2]
    wp_walk using t'
    simpa using h
  ·have e2:items2[((i:Nat):Int).toNat]? = none:=by simp;lia
   have d2:items2.toList.drop i=[]:=by simp;lia
   rw [d2] at hL;cases hL
   wp_walk using wpAny_loadPart' hl,wpAny_loadPart' hb
   rw [e1,e2]
   wp_walk using wpAny_loadPart' hl,wpAny_loadPart' hb
   show R (.ok (.ret (.bool (decide (items.size<items2.size))))) _;rw [decide_eq_false (by lia)];exact h
theorem qpV (l b:Addr)(items items2:Array Value)(n n2:Nat)(dd dd2:Option Addr)(sl sl2:Array (Option Value))(c:Bool):
  Meets (Builtin.«list.__lt__» ⟨[.ref l,.ref b],[]⟩) (fun A R s=>s.heap.get? l=some {cls:=.type "list",dict:=dd,data:=.seq items n,slots:=sl}/\s.heap.get? b=some {cls:=.type "list",dict:=dd2,data:=.seq items2 n2,slots:=sl2} /\
    LtS A s items.toList items2.toList c/\R (.ok (.ret (.bool c))) s):=by
 intro prog w A R s h;obtain ⟨hp,g,d,tk,os⟩:=s;obtain ⟨hl,hb,hL,h⟩:=h;have f3:=AutoSeq1.sub_list_list
 wp_walk using wpAny_loadPart' hl,wpAny_loadPart' hb
 exact ⟨plainId_quiet plain_eq_loop _,wD1 entry_eq_loop (by rw [Around.under_plainId plain_eq_loop _];exact qk5 l b items items2 n n2 dd dd2 sl sl2 c _ 0 rfl (Nat.zero_le _) (Nat.zero_le _) prog w A R _ ⟨hl,hb,by simpa using hL,h⟩)⟩
theorem qoz {A:Around}{s:Shared}{k:Bool}{l b:Addr}{xs ys:Array Value}{c:Bool}(c1:SCo k s.heap l xs)(c2:SCo k s.heap b ys)(hu:A.units<cLine)(h:LtS A s xs.toList ys.toList c):RcLt A s (.ref l) (.ref b) c:=fun prog w E Q q=>by
 cases k
 ·obtain ⟨⟨cls,dd,data,sl⟩,ho,hc,n,hd⟩:=id c1;obtain ⟨⟨cls2,dd2,data2,sl2⟩,ho2,hc2,n2,hd2⟩:=id c2;simp only at hc hd hc2 hd2;subst hc hd hc2 hd2;exact richCompare_meets_room (op:=.Lt) ⟨_,ho,rfl⟩ ⟨_,ho2,rfl⟩ PySem.F.slot_tuple_lt PySem.F.entry_tuple_lt (PySem.F.args_tuple_lt_2 _ _) (qom l b xs ys n n2 dd dd2 sl sl2 c) ⟨ho,ho2,h,show Value.bool c≠Value.notImplemented/\Q (.bool c) s from ⟨(fun x=>nomatch x),q⟩⟩ hu
 ·obtain ⟨⟨cls,dd,data,sl⟩,ho,hc,n,hd⟩:=id c1;obtain ⟨⟨cls2,dd2,data2,sl2⟩,ho2,hc2,n2,hd2⟩:=id c2;simp only at hc hd hc2 hd2;subst hc hd hc2 hd2;exact richCompare_meets_room (op:=.Lt) ⟨_,ho,rfl⟩ ⟨_,ho2,rfl⟩ PySem.F.slot_list_lt PySem.F.entry_list_lt (PySem.F.args_list_lt_2 _ _) (qpV l b xs ys n n2 dd dd2 sl sl2 c) ⟨ho,ho2,h,show Value.bool c≠Value.notImplemented/\Q (.bool c) s from ⟨(fun x=>nomatch x),q⟩⟩ hu
noncomputable def ltL (f g:D->D->Option Bool):List D->List D->Option Bool
 | [],[]=>some false
 | [],_::_=>some true
 | _::_,[]=>some false
 | x::xs,y::ys=>(f x y).bind fun b=>if b=true then ltL f g xs ys else g x y
noncomputable def ltF:D->D->Option Bool
 | .int i,.int j=>some (decide (i<j))
 | .str x,.str y=>some (decide (x.cps.toList<y.cps.toList))
 | _,_=>none
noncomputable def ltN (S:Sto):Nat->D->D->Option Bool
 | 0,_,_=>none
 | n+1,d,e=>match ltF d e with
  | some b=>some b
  | none=>match qao S d,qao S e with
   | some p,some q=>if p.1=q.1 then ltL (eqN S n) (ltN S n) p.2 q.2 else none
   | _,_=>none
noncomputable def gLt:G2:=fun d e S=>(ltN S qaC d e).map fun b=>(.bl b,S)
section
variable {X:Cx} {pins:List (Addr×Obj)} {σ:L2.St} {H:Hp} {s:Shared} {mu:List Addr} {S:Sto}
theorem qpU (I:Inv X pins σ H s)(hs:Sim X.K H mu S){n:Nat}{A:Around}(hu:A.units+1+n<cLine)(ih:∀ {d e:D} {v w:V} {u z:Value} {b:Bool},Rep X.K H mu d v->Rep X.K H mu e w->RelV v u->RelV w z->ltN S n d e=some b->RcLt A.in1 s u z b):
  ∀ {xs ys:List D} {vs ws:List V} {us zs:List Value} {b:Bool},Reps X.K H mu xs vs->Reps X.K H mu ys ws->Vals vs us->Vals ws zs->ltL (eqN S n) (ltN S n) xs ys=some b->LtS A s us zs b
 :=by
 intro xs
 induction xs with
 | nil=>
  intro ys vs ws us zs b r1 r2 v1 v2 h;cases r1;cases v1;cases r2 with
  | nil=>cases v2;cases h;exact .nn
  | cons _ _=>cases v2;cases h;exact .nc _ _
 | cons x xs jh=>
  intro ys vs ws us zs b r1 r2 v1 v2 h;cases r1 with
  | cons r1 t1=>
   cases v1 with
   | cons q1 p1=>
    cases r2 with
    | nil=>cases v2;cases h;exact .cn _ _
    | cons r2 t2=>
     cases v2 with
     | cons q2 p2=>
      rw [ltL] at h;obtain ⟨k,e1,h⟩:=oB1.mp h;have eq:=(qeA I hs n (A:=A.in1) hu r1 r2 q1 q2 e1).1;cases k with
      | true=>exact .eq eq (jh t1 t2 p1 p2 h)
      | false=>exact .lt eq (ih r1 r2 q1 q2 h)
theorem qlS (I:Inv X pins σ H s)(hs:Sim X.K H mu S):∀ (n:Nat) {A:Around} {d e:D} {v w:V} {u z:Value} {b:Bool},A.units+n<cLine->Rep X.K H mu d v->Rep X.K H mu e w->RelV v u->RelV w z->ltN S n d e=some b->RcLt A s u z b
 | 0,_,_,_,_,_,_,_,_,_,_,_,_,_,h=>by cases h
 | n + 1,A,d,e,v,w,u,z,b,hu,rd,re,ru,rz,h=>by
  rw [ltN] at h;split at h
  ·rename_i k hk;cases h;unfold ltF at hk;split at hk
   ·cases hk;cases rd;cases re;obtain ⟨t,rfl⟩:=ru;obtain ⟨t',rfl⟩:=rz;exact fun prog w E Q q=>(PyProof.Rows.lt_int q:wpAny (model prog w) A (compareOp .Lt (.int _ t) (.int _ t')) Q E s)
   ·cases hk;cases rd;cases re;obtain ⟨t,rfl⟩:=ru;obtain ⟨t',rfl⟩:=rz;exact fun prog w E Q q=>(PyProof.Rows.lt_str q:wpAny (model prog w) A (compareOp .Lt (.str _ t) (.str _ t')) Q E s)
   ·cases hk
  ·split at h
   ·rename_i p q hd he;split at h
    ·rename_i hb;obtain ⟨pb,xs⟩:=p;obtain ⟨qb,ys⟩:=q;have hb':pb=qb:=hb;subst hb';obtain ⟨a,vs,rfl,q1,t1⟩:=qag rd hs hd;obtain ⟨a2,vs2,rfl,q2,t2⟩:=qag re hs he;cases ru;cases rz;obtain ⟨its,rv,co,_⟩:=qaO I q1;obtain ⟨its2,rv2,co2,_⟩:=qaO I q2;refine qoz co co2 (by lia) ?_;have:=qpU I hs (A:=A) (n:=n) (by lia) (fun r1 r2 r3 r4 h=>qlS I hs n (A:=A.in1) (by show A.units+1+n<cLine;lia) r1 r2 r3 r4 h) t1 t2 rv rv2 h;simpa using this
    ·cases h
   ·cases h
theorem qiZ (hu:X.A.units+64<cLine):OpR X (compareOp .Lt) (r2 X.K (b2 gLt)):=by
 intro pins s σ H x y u w Q I rx ry h;obtain ⟨mu,S,d,e,r,S',r1,r2,hs,hm,hc⟩:=rn2 h;obtain ⟨b,e1,hm⟩:=oM1.mp hm;cases hm;exact qlS I hs qaC (by show _+60<cLine;lia) r1 r2 rx ry e1 X.prog X.w X.xe _ ⟨.bl b,H,I,rfl,hc.now (.bl b) hs⟩
end
inductive Ty where
 | int | bool | str | tuple | list | dict
 deriving DecidableEq
noncomputable def Ty.nm:Ty->String
 | .int=>"int" | .bool=>"bool" | .str=>"str" | .tuple=>"tuple" | .list=>"list" | .dict=>"dict"
noncomputable def isTy (S:Sto)(T:Ty):D->Option Bool
 | .non=>some false
 | .bl _=>some (decide (T = .bool)||decide (T = .int))
 | .int _=>some (decide (T = .int))
 | .str _=>some (decide (T = .str))
 | .tup _=>some (decide (T = .tuple))
 | .rol _=>some (decide (T = .list))
 | .ref n=>match S[n]? with
  | some (.lst _)=>some (decide (T = .list))
  | some (.dct _)=>some (decide (T = .dict))
  | some (.dcT _)=>some (decide (T = .dict))
  | _=>none
 | .fn _=>none
noncomputable def mIsT (T:Ty)(m:FE):FE:=fun r S=>(m r S).bind fun p=>(isTy p.2 T p.1).map fun b=>(.bl b,p.2)
section
variable {X:Cx} {pins:List (Addr×Obj)} {σ:L2.St} {H:Hp} {s:Shared} {mu:List Addr} {S:Sto} {K:Fg1}
theorem qnz (T:Ty):PySem.W.kitOne K (.type "NoneType") (.type T.nm)=some false:=by cases T<;>rfl
theorem qp0 (T:Ty):PySem.W.kitOne K (.type "bool") (.type T.nm)=some (decide (T = .bool)||decide (T = .int)):=by cases T<;>rfl
theorem qnB (T:Ty):PySem.W.kitOne K (.type "int") (.type T.nm)=some (decide (T = .int)):=by cases T<;>rfl
theorem qny (T:Ty):PySem.W.kitOne K (.type "str") (.type T.nm)=some (decide (T = .str)):=by cases T<;>rfl
theorem qnx (T:Ty):PySem.W.kitOne K (.type "tuple") (.type T.nm)=some (decide (T = .tuple)):=by cases T<;>rfl
theorem qnA (T:Ty):PySem.W.kitOne K (.type "list") (.type T.nm)=some (decide (T = .list)):=by cases T<;>rfl
theorem qjg (T:Ty):PySem.W.kitOne K (.type "dict") (.type T.nm)=some (decide (T = .dict)):=by cases T<;>rfl
theorem qnE {T:Ty}{d:D}{v:V}{u:Value}{b:Bool}{Q:Value->Shared->Prop}{E:Value->Shared->Prop}(I:Inv X pins σ H s)(hs:Sim X.K H mu S)(r:Rep X.K H mu d v)(ru:RelV v u)(h:isTy S T d=some b)(q:∀ tk,Q (.bool b) {s with toks:=tk}):
  wpAny (model X.prog X.w) X.A (call (.builtin "isinstance") [u,.type T.nm]) Q E s:=by
 have seq:∀ {k:Bool} {a:Addr} {vs:List V},SqB X.K k H a vs->b=(match k with | true=>decide (T = .list) | false=>decide (T = .tuple))->wpAny (model X.prog X.w) X.A (call (.builtin "isinstance") [.ref a,.type T.nm]) Q E s:=fun {k a vs} hq hb=>by
  obtain ⟨its,rv,co,_⟩:=qaO I hq;cases k
  ·obtain ⟨o,e,c,_⟩:=co;subst hb;exact PySem.W.kia_one PySem.W.kitx_tuple I.kIn ⟨o,e,c⟩ (qnx T) (fun z=>nomatch z) q
  ·obtain ⟨o,e,c,_⟩:=co;subst hb;exact PySem.W.kia_one PySem.W.kitx_list I.kIn ⟨o,e,c⟩ (qnA T) (fun z=>nomatch z) q
 cases d with
 | non=>cases h;cases r;exact qcm I ru .non (qnz T) q
 | bl k=>cases h;cases r;exact qcm I ru (.bl k) (qp0 T) q
 | int i=>cases h;cases r;exact qcm I ru (.int i) (qnB T) q
 | str x=>cases h;cases r;exact qcm I ru (.str x) (qny T) q
 | tup xs=>
  cases h;obtain ⟨a,vs,rfl,hq,t⟩:=qag (S:=S) r hs rfl;cases ru;exact seq hq rfl
 | fn x=>cases h
 | rol xs=>
  cases h;obtain ⟨a,vs,rfl,hq,t⟩:=qag (S:=S) r hs rfl;cases ru;exact seq hq rfl
 | ref n=>
  rw [isTy] at h;split at h
  ·rename_i xs e;cases h;obtain ⟨a,vs,rfl,hq,t⟩:=qag (S:=S) r hs (by rw [qao,e]);cases ru;exact seq hq rfl
  ·rename_i ks e;cases h;cases r with
   | ref qn=>
    obtain ⟨ws,e1,_⟩:=hs.dct e qn;exact qcm I ru (.dK e1) (qjg T) q
  ·rename_i ks e;cases h;cases r with
   | @ref _ a qn=>
    cases (show u=Value.ref a from ru);obtain ⟨ws,e1,_⟩:=hs.dcT e qn;obtain ⟨⟨_,_,o,_,_,h3,h4,_⟩,_⟩:=(show qaV X.prog X.w H s.heap a (.ext (qdv a ws)) from I.hok a _ e1);exact PySem.W.kia_one PySem.W.kitx_dict I.kIn ⟨o,h3,h4.1⟩ (qjg T) (fun z=>nomatch z) q
  ·cases h
theorem qlt (T:Ty):qaN X (.builtin "isinstance") (fun xs H Q=>∃ x mu S d b,xs=[x,.ty T.nm]/\Rep X.K H mu d x/\Sim X.K H mu S/\isTy S T d=some b/\Q (.bl b) H):=by
 intro pins s σ H xs us Q I r h;obtain ⟨x,mu,S,d,b,rfl,r1,hs,hm,hc⟩:=h;obtain ⟨u,w',rfl,ru,rt⟩:=qog r;cases rt;exact qnE I hs r1 ru hm fun tk=>⟨.bl b,H,I.tok tk,rfl,hc⟩
theorem qi8 (T:Ty){e:Expr}{m:FE}{nm:Str}{p p2 pos:Pos}(hg:Gl X "isinstance")(hm:X.mg "isinstance"=none)(hg2:Gl X nm)(hm2:X.mg nm=none)(hv2:bootBuiltins nm=some (.type T.nm))(h:ME X e m)
  (hn:nm≠"__name__":=by decide) (hd:(nm == ("__debug__":Str))=false:=by decide)
  (hs1:starEach [e,.Name nm p2] X.env=(false,eval e X.env)::starEach [.Name nm p2] X.env:=by rfl) (hs2:starEach [.Name nm p2] X.env=(false,eval (.Name nm p2) X.env)::starEach [] X.env:=by rfl)
  (hpl:(backTo pos (starEach [.Name nm p2] X.env)).any (·.1)=false:=by rfl):ME X (.Call (.Name "isinstance" p) [e,.Name nm p2] [] pos) (mIsT T m):=
 qaW (qdF (qlt T) hg hm (by decide+kernel) (qcf h (qcf (qmY (v:=.ty T.nm) hg2 hm2 hv2 rfl hn hd) qdT hs2) hs1) (by decide) (by decide) hs1 hpl) <| by
  rintro σ H Q ⟨r,mu,S,d,S',he,hs,hm,hc⟩;obtain ⟨⟨d1,S1⟩,e1,hm⟩:=oB1.mp hm;obtain ⟨b,e2,hm⟩:=oM1.mp hm;cases hm;refine ⟨r,mu,S,d1,_,he,hs,e1,fun v H1 mu1 x1 r1 s1=>?_⟩;exact ⟨v,mu1,_,d1,b,rfl,r1,s1,e2,hc _ H1 mu1 x1 (.bl b) s1⟩
end
noncomputable abbrev FO:=Ev->Sto->Option (Option Int×Sto)
noncomputable def tMO (K:Fg1)(m:FO):TO:=fun σ H Q=>∃ r mu S o S',EnvR K H mu r σ/\Sim K H mu S/\m r S=some (o,S') /\ ∀ H' mu',Ext mu mu' H H'->Sim K H' mu' S'->Q o H'
noncomputable abbrev MO (X:Cx)(e:Option Expr)(m:FO):Prop:=PO X e (tMO X.K m)
noncomputable def qe4:FO:=fun _ S=>some (none,S)
noncomputable def qe3 (m:FE):FO:=fun r S=>(m r S).bind fun p=>match p.1 with
 | .int i=>some (some i,p.2)
 | _=>none
noncomputable def cutD (xs:List D)(lo hi:Option Int):List D:=(xs.drop (HT.sIx xs.length 0 lo)).take (HT.sIx xs.length xs.length hi-HT.sIx xs.length 0 lo)
section
variable {X:Cx}
theorem qnf:MO X none qe4:=by
 rintro pins s σ H Q I ⟨r,mu,S,o,S',he,hs,hm,hc⟩;cases hm;exact qmQ pins s σ H Q I (hc H mu (.refl _ _) hs)
theorem qne {e:Expr}{m:FE}(h:ME X e m):MO X (some e) (qe3 m):=by
 rintro pins s σ H Q I ⟨r,mu,S,o,S',he,hs,hm,hc⟩;obtain ⟨⟨d,S1⟩,e1,hm⟩:=oB1.mp hm;cases d with
 | int i=>
  cases hm;refine qmP h pins s σ H Q I ⟨r,mu,S,_,_,he,hs,e1,fun v H1 mu1 x1 r1 s1=>?_⟩;cases r1;exact ⟨i,rfl,hc H1 mu1 x1 s1⟩
 | _=>cases hm
theorem qjQ {K:Fg1}{H:Hp}{mu:List Addr}{ds:List D}{vs:List V}(t:Reps K H mu ds vs)(lo hi:Option Int):Reps K H mu (cutD ds lo hi) (cutV vs lo hi):=by
 unfold cutD cutV;rw [<- t.length];exact (t.drop _).take _
noncomputable def qqZ (ta:TA):TE:=fun σ H Q=>ta σ H fun vs H1=>∃ j:Int,vs=[.int j] /\ ∀ p,H1 p=none->Q (.ref p) (upd H1 p (.rng 0 j))
theorem qiU {a:Expr}{ta:TA}{p pos:Pos}(hg:Gl X "range")(hm:X.mg "range"=none)(ha:PA X [a] ta)(hs:starEach [a] X.env=[(false,eval a X.env)]:=by rfl):PE X (.Call (.Name "range" p) [a] [] pos) (qqZ ta):=by
 intro pins s σ H Q I h;refine Call_ (qdk I hg hm boot_range (PyProof.Rows.callWith_type1 (thn (ha pos pins s σ H _ I h) fun us s1 ⟨vs,H1,I1,r1,q1⟩=>?_) hs rfl));obtain ⟨j,e,q⟩:=q1;subst e;cases r1 with
 | cons r rr=>
  cases rr;obtain ⟨t,rfl⟩:=r;refine call_range_1 ⟨.ref s1.heap.objs.size,_,I1.laid (fun b o e=>hP1 _ e) (nR1 _) (o:=.rng 0 j) ?_,rfl,q _ (I1.hok.fresh (nR1 _))⟩;exact ⟨_,_,_,hS1 _ rfl⟩
noncomputable def rngV (i:Int):Nat->List V
 | 0=>[]
 | n+1=>.int i::rngV (i+1) n
theorem qeN:∀ (n:Nat) (i:Int),(rngV i n).length=n
 | 0,_=>rfl
 | n+1,i=>by rw [rngV,lC1,qeN n]
theorem qg0:∀ (n:Nat) (i:Int) (k:Nat) (v:V),(rngV i n)[k]? = some v->v = .int (i+k)
 | 0,i,k,v,h=>by simp [rngV] at h
 | n+1,i,0,v,h=>by simp [rngV] at h;rw [<- h];simp
 | n+1,i,k+1,v,h=>by
  rw [rngV,gC1] at h;rw [qg0 n (i+1) k v h,show i+1+(k:Int)=i+((k+1:Nat):Int) by push_cast;lia]
theorem qgZ {K:Fg1}{H:Hp}{mu:List Addr}:∀ (n:Nat) (i:Int),Reps K H mu (nums i n) (rngV i n)
 | 0,_=>.nil
 | n+1,i=>.cons (.int i) (qgZ n (i+1))
theorem qik:∀ {xs:List V} {us:List Value},xs.length=us.length->(∀ (i:Nat) x u,xs[i]? = some x->us[i]? = some u->RelV x u)->Vals xs us
 | [],[],_,_=>.nil
 | x::xs,u::us,h,f=>.cons (f 0 x u rfl rfl) (qik (by simpa using h) fun i y w h1 h2=>f (i+1) y w (by simpa using h1) (by simpa using h2))
 | [],_::_,h,_=>by simp at h
 | _::_,[],h,_=>by simp at h
theorem qnZ (hc:X.calm=true):qaN X (.type "list") (fun xs H Q=>∃ p i j,xs=[.ref p]/\H p=some (.rng i j)/\(-(2^62)<=i/\i<2^62 /\ -(2^62)<=j/\j<2^62)/\(j-i).toNat<=2^20 /\ ∀ l,H l=none->Q (.ref l) (upd H l (.lst (rngV i (j-i).toNat)))):=by
 intro pins s σ H xs us Q I r h;obtain ⟨p,i,j,rfl,hp,⟨h1,h2,h3,h4⟩,hl,q⟩:=h;obtain ⟨u,rfl,ru⟩:=qcB r;cases ru;obtain ⟨t,u,v,e⟩:=I.hok p _ hp;have hz:(((j-i).toNat:Nat):Int)=Builtin.Range.rangeSize i j 1:=by rw [rangeSize_one];split<;>lia
 refine call_list_range (n:=(j-i).toNat) (I.ok.hd hc) e (small_one h1 h2 h3 h4) hz.symm (Nat.le_trans hl (by decide)) fun h' tk acc c' hk hS hi=>?_;obtain ⟨hsz,hval⟩:=hi;have vals:Vals (rngV i (j-i).toNat) acc.toList:=qik (by rw [qeN];simpa using hsz.symm) fun k x u hx hu=>by
  rw [qg0 _ _ _ _ hx];obtain ⟨t',rfl⟩:=hval k u (by simpa using hu);exact ⟨t',by rw [Int.mul_one]⟩
 refine ⟨.ref s.heap.objs.size,_,I.laid (t':=tk) hk (nR1 _) (show qaV X.prog X.w _ h' _ (.lst (rngV i (j-i).toNat)) from ⟨?_,acc.toList,c',vals,by simpa using hS⟩),rfl,q _ (I.hok.fresh (nR1 _))⟩;rw [qeN];exact Nat.le_trans hl (by decide)
noncomputable def qiF (i j:Int):Bool:=decide (-(2^62)<=i)&&decide (i<2^62)&&decide (-(2^62)<=j)&&decide (j<2^62)&&decide ((j-i).toNat<=2^20)
noncomputable def mLR1 (m:FA):FE:=fun r S=>(m r S).bind fun p=>match p.1 with
 | [.int j]=>if qiF 0 j=true then some (.ref p.2.length,p.2++[.lst (nums 0 j.toNat)]) else none
 | _=>none
theorem qg1 {i j:Int}(h:qiF i j=true):(-(2^62)<=i/\i<2^62 /\ -(2^62)<=j/\j<2^62)/\(j-i).toNat<=2^20:=by
 unfold qiF at h;simp only [bA1,decide_eq_true_eq] at h;obtain ⟨⟨⟨⟨h1,h2⟩,h3⟩,h4⟩,h5⟩:=h;exact ⟨⟨h1,h2,h3,h4⟩,h5⟩
theorem qpW {K:Fg1}{mu:List Addr}{H H1:Hp}{S1:Sto}{i j:Int}{Q:VK}{mu1:List Addr}(x1:Ext mu mu1 H H1)(s1:Sim K H1 mu1 S1)(hc:Cont K mu H (.ref S1.length) (S1++[.lst (nums i (j-i).toNat)]) Q){p l:Addr}(hp:H1 p=none)(hl:upd H1 p (.rng i j) l=none):
  Q (.ref l) (upd (upd H1 p (.rng i j)) l (.lst (rngV i (j-i).toNat))):=
 hc _ _ (mu1++[l]) ((x1.trans (Ext.fresh hp)).trans (Ext.new_ hl)) (.ref (qcl s1.len l)) ((s1.fresh hp).newL (qgZ _ _) hl)
theorem qi7 {a:Expr}{m:FA}{p1 p2 pos1 pos2:Pos}(hc:X.calm=true)(hg:Gl X "range")(hm:X.mg "range"=none)(hg2:Gl X "list")(hm2:X.mg "list"=none)(ha:MA X [a] m)(hs:starEach [a] X.env=[(false,eval a X.env)]:=by rfl)
  (hs2:starEach [.Call (.Name "range" p1) [a] [] pos1] X.env=[(false,eval (.Call (.Name "range" p1) [a] [] pos1) X.env)]:=by rfl):ME X (.Call (.Name "list" p2) [.Call (.Name "range" p1) [a] [] pos1] [] pos2) (mLR1 m):=
 qaW (qcW (qnZ hc) hg2 hm2 (by decide+kernel) (qcf (qiU hg hm ha hs) qdT hs2) (by decide) (by decide) hs2) <| by
  rintro σ H Q ⟨r,mu,S,d,S',he,hs,hm,hcc⟩;obtain ⟨⟨ds,S1⟩,e1,hm⟩:=oB1.mp hm;dsimp only at hm;split at hm
  ·rename_i j;split at hm
   ·rename_i hb;cases hm;refine ⟨r,mu,S,_,_,he,hs,e1,fun vs H1 mu1 x1 r1 s1=>?_⟩;obtain ⟨v,rfl,rv⟩:=qeO r1;cases rv;refine ⟨j,rfl,fun p hp=>⟨p,0,j,rfl,qau,(qg1 hb).1,(qg1 hb).2,fun l hl=>qpW x1 s1 (by rw [Int.sub_zero];exact hcc) hp hl⟩⟩
   ·cases hm
  ·cases hm
end
noncomputable def gApp:G2:=fun o v S=>match o with
 | .ref n=>match S[n]? with
  | some (.lst xs)=>if xs.length<sizeLine then some (.non,S.set n (.lst (xs++[v]))) else none
  | _=>none
 | _=>none
noncomputable def gPop:G2:=fun o i S=>match o,i with
 | .ref n,.int k=>match S[n]? with
  | some (.lst xs)=>if-(2^63)<=k/\k<2^63 then (ixN xs.length k).bind fun j=>(xs[j]?).map fun y=>(y,S.set n (.lst (xs.eraseIdx j))) else none
  | _=>none
 | _,_=>none
noncomputable def mMt (f:FN)(o:FE)(a:FA):FE:=fun r S=>(o r S).bind fun p=>match p.1 with
 | .ref n=>match p.2[n]? with
  | some (.lst _)=>(a r p.2).bind fun q=>f (p.1::q.1) q.2
  | _=>none
 | _=>none
section
variable {X:Cx}
theorem qgd:MtR X "list.append" (fun x xs H Q=>rN X.K (b2 gApp) (x::xs) H Q):=by
 intro pins s σ H x xs v us Q I rx rv h;obtain ⟨x',y,mu,S,d,e,r',S',e0,r1,r2,hs,hm,hc⟩:=rn2l h;cases e0;cases d with
 | ref n=>
  rw [gApp] at hm;split at hm
  ·rename_i ys en;split at hm
   ·rename_i hl;cases hm;cases r1 with
    | ref qn=>
     obtain ⟨vs,ev,t⟩:=hs.lst en qn;refine qfJ pins s σ H _ [y] v us Q I rx rv ⟨_,vs,y,rfl,rfl,ev,by rw [<- t.length];exact hl,?_⟩;exact hc _ _ mu (Ext.put ev trivial (gM1 qn)) .non (hs.putL (t.append (.cons r2 .nil)) qn ev)
   ·cases hm
  ·cases hm
 | _=>cases hm
theorem qot:MtR X "list.pop" (fun x xs H Q=>rN X.K (b2 gPop) (x::xs) H Q):=by
 intro pins s σ H x xs v us Q I rx rv h;obtain ⟨x',y,mu,S,d,e,r',S',e0,r1,r2,hs,hm,hc⟩:=rn2l h;cases e0;unfold gPop at hm;split at hm
 ·rename_i n k;split at hm
  ·rename_i ys en;split at hm
   ·rename_i hb;obtain ⟨j,ej,hm⟩:=oB1.mp hm;obtain ⟨z,ez,hm⟩:=oM1.mp hm;cases hm;cases r1 with
    | ref qn=>
     cases r2;obtain ⟨vs,ev,t⟩:=hs.lst en qn;obtain ⟨w,ew,rw'⟩:=t.get ez;refine qkX pins s σ H _ [.int k] v us Q I rx rv ⟨_,vs,k,j,w,rfl,rfl,ev,hb.1,hb.2,?_,ew,?_⟩
     ·rw [<- t.length];exact (qgA ej).1
     ·have x:=Ext.put (u:=.lst (vs.eraseIdx j)) ev trivial (gM1 qn);exact hc _ _ mu x (rw'.ext x) (hs.putL (t.eraseIdx j) qn ev)
   ·cases hm
  ·cases hm
 ·cases hm
theorem qk1 {o e:Expr}{es:List Expr}{m:FE}{a:FA}{f:FN}{name:Str}{apos cpos:Pos}{id:String}(slot:Slot "list" name id)(hty:typeOf (.builtin id)=pure (.type "method_descriptor"))(hm:MtR X id (fun x xs H Q=>rN X.K f (x::xs) H Q))(ho:ME X o m)(ha:MA X (e::es) a)
  (hbase:attributeBase o name X.env (eval o X.env)=eval o X.env:=by rfl)
  (hfew:((backTo cpos (starEach (e::es) X.env)).all (fun x=> !x.1)&&(backToKw cpos (keywordEach [] X.env)).all (fun x=>x.1.isSome)&&decide ((e::es).length+([]:List Keyword).length+(if ([]:List Keyword).isEmpty then 0 else 1)<30))=true:=by rfl)
  (hline:(apos.endLine == cpos.line)=true:=by rfl) (hs:starEach (e::es) X.env=(false,eval e X.env)::starEach es X.env:=by rfl) (hplain:(backTo cpos (starEach es X.env)).any (·.1)=false:=by rfl):
  ME X (.Call (.Attribute o name apos) (e::es) [] cpos) (mMt f m a):=
 qaW (qrn PySem.F.plainAttrs_list slot hty hm ho ha hbase hfew hline hs hplain) <| by
  rintro σ H Q ⟨r,mu,S,d,S',he,hs,hm,hc⟩;obtain ⟨⟨d1,S1⟩,e1,hm⟩:=oB1.mp hm;refine ⟨r,mu,S,d1,S1,he,hs,e1,fun v H1 mu1 x1 r1 s1=>?_⟩;cases d1 with
  | ref n=>
   dsimp only at hm;split at hm
   ·rename_i xs en;obtain ⟨⟨ds,S2⟩,e2,hm⟩:=oB1.mp hm;refine ⟨?_,r,mu1,S1,ds,S2,he.ext x1,s1,e2,fun vs H2 mu2 x2 r2 s2=>?_⟩
    ·cases r1 with
     | ref qn=>
      obtain ⟨vs,ev,t⟩:=s1.lst en qn;exact .inl ⟨rfl,vs,SqL.of ev⟩
    ·exact ⟨mu2,S2,.ref n::ds,d,S',.cons (r1.ext x2) r2,s2,hm,fun v3 H3 mu3 x3=>hc v3 H3 mu3 ((x1.trans x2).trans x3)⟩
   ·cases hm
  | _=>cases hm
end
theorem qmO {X:Cx}(hc:X.calm=true){elt tg iter:Expr}{ifs:List Expr}{rest:List Comprehension}{scope:Scope}{pos spos py:Pos}{y:Str}{i:Nat}{T:List Str}{keep:List Nat}{cl:List (Str×Addr)}{wi:TI}{g:TG}{ti:TT}{tb:Addr->TS}{emit:Value->Env->Sem Unit}
  (hsw:swapsWith (.ListComp elt (⟨tg,iter,ifs,0⟩::rest) scope pos) (some (.Name y py)) spos.line X.env=pure true)
  (eq:∀ it acc env,compTurn (.ListComp elt (⟨tg,iter,ifs,0⟩::rest) scope pos) 0 it acc env=qip iter.pos tg ifs it env (emit acc env) (.compLoop (.ListComp elt (⟨tg,iter,ifs,0⟩::rest) scope pos) 0 it acc env))
  (C:CSc X scope T keep) (hcl:cloF X.env.cells scope.names []=some cl) (hi:PI X tg iter wi)
  (hb:∀ s H fp p,PG (cxC X scope cl T keep s H fp) tg g/\PIfs (cxC X scope cl T keep s H fp) ifs ti/\PU (cxC X scope cl T keep s H fp) (emit (.ref p) (cxC X scope cl T keep s H fp).env) (tb p))
  (hN:X.N.Nodup) (hy:X.N[i]? = some y) (hx:Loc X.env.scope y) (hf:X.fn y=true\/X.env.scope.names.lookup y=some .local)
  (hs:∀ x,foldedSetIterable iter X.env x=pure x:=by intro _;rfl):
  PS X (.Assign [.Name y py] (.ListComp elt (⟨tg,iter,ifs,0⟩::rest) scope pos) spos) (tAsg (qmw T.length keep wi g ti tb) (qlc i)):=by
 intro pins s σ H D I h;rw [exec_Assign_Name_used _ _ _ _ hsw];refine wB1 (wpAny_standAt (wB1 ?_));show wpAny _ X.A (do let _<-comprehension (.ListComp elt (⟨tg,iter,ifs,0⟩::rest) scope pos) scope X.env _ (newList []) false (eval iter X.env) (some (assign (.Name y py) X.env))) _ _ s;refine wB1 (wpAny_mono (wpAny_comprehension_free (use:=some (assign (.Name y py) X.env)) (Q:=fun _ s'=>SP X pins D .next s') rfl hs (ql3 hcl) C.kind C.names ?_) (fun _ s' hq=>wP1 (wP1 hq)) fun _ _ e=>e);refine thn (hi pins s σ H _ I h) fun v s1 h1=>thn h1 fun itv s2 h2=>?_;obtain ⟨it,fp,tn,J,H2,rfl,I2,TT,st2,f2,q2⟩:=h2;refine wO1 ?_;have I3:Inv X pins σ (upd H2 s2.heap.objs.size (.lst [])) {s2 with heap:=s2.heap.push {cls:=.type "list",data:=.seq ([]:List Value).toArray}}:=I2.lnew (t':=s2.toks) .nil (Nat.zero_le _);have old:∀ b∈fp,∃ o,s2.heap.get? b=some o:=fun b hb=>by
  obtain ⟨o,e,_⟩:=TT.obj 0 s2.heap st2 b hb;exact ⟨o,e⟩
 have fne:∀ b∈fp,b≠s2.heap.objs.size:=fun b hb z=>by
  obtain ⟨o,e⟩:=old b hb;have:=hL1 e;rw [z] at this;exact Nat.lt_irrefl _ this
 have f3:∀ b∈fp,FpOk X pins (upd H2 s2.heap.objs.size (.lst [])) b:=fun b hb=>⟨by rw [qar (fne b hb)];exact (f2 b hb).1,(f2 b hb).2⟩;have o3:∀ b∈fp,∃ o,({s2 with heap:=s2.heap.push {cls:=.type "list",data:=.seq ([]:List Value).toArray}}:Shared).heap.get? b=some o:=fun b hb=>by
  obtain ⟨o,e⟩:=old b hb;exact ⟨o,hP1 _ e⟩
 have I4:=qhl I3 C hcl f3 o3;obtain ⟨hg,hf2,he⟩:=hb {s2 with heap:=s2.heap.push {cls:=.type "list",data:=.seq ([]:List Value).toArray}} (upd H2 s2.heap.objs.size (.lst [])) fp s2.heap.objs.size;refine qcY ?_;have f4:∀ b∈fp,FpOk (cxC X scope cl T keep {s2 with heap:=s2.heap.push {cls:=.type "list",data:=.seq ([]:List Value).toArray}} (upd H2 s2.heap.objs.size (.lst [])) fp) [] (upd H2 s2.heap.objs.size (.lst [])) b:=fun b hb=>
  ⟨(f3 b hb).1,(I4.ok.exf b hb).1,I4.ok.exfs b hb,.inl hb,(I4.ok.exf b hb).2,fun p hp=>absurd (show p∈([]:List (Addr×Obj)) from hp) (by simp)⟩
 have st4:tn 0 (pushCells ((s2.heap.push {cls:=.type "list",data:=.seq ([]:List Value).toArray}).push {cls:=.type "dict",data:=.dict #[]}) scope.names):=
  TT.keep 0 s2.heap _ st2 fun b hb o e=>pushCells_keeps scope.names _ b o (hP1 _ (hP1 _ e))
 have loop:=qfX (X:=cxC X scope cl T keep {s2 with heap:=s2.heap.push {cls:=.type "list",data:=.seq ([]:List Value).toArray}} (upd H2 s2.heap.objs.size (.lst [])) fp) rfl hc (eq (.ref it) (.ref s2.heap.objs.size) _) TT hg hf2 he I4 st4 f4
  (q2 s2.heap.objs.size (I2.hok.fresh (nR1 _)))
 refine codeAny_mono (codeAny_compStart_list loop (TT.self X.A 0 _ _ _ st4 loop)) fun r s' hr=>?_;cases r with
 | error e=>exact hr.elim
 | ok f=>
  obtain ⟨σ',H',I',q'⟩:=hr;have J1:Inv X pins σ H' s':=I3.call' (s':=s') (ch:=fp) I'.os I'.base I'.hok I'.bare fun b hb=>(f3 b hb).2.2.2 |> fun z=>⟨z.1,(f3 b hb).2.1,z.2.1,z.2.2⟩
  -- the block's own dict is kept aside
  obtain ⟨m,hn,_⟩:=id I'.loc;obtain ⟨oC,es,ep,eC,dC,rC⟩:=id hn;have hCz:(s2.heap.push {cls:=.type "list",data:=.seq ([]:List Value).toArray}).get? (s2.heap.push {cls:=.type "list",data:=.seq ([]:List Value).toArray}).objs.size=none:=Heap.get?_none_of_le (nR1 _);have neL:(s2.heap.push {cls:=.type "list",data:=.seq ([]:List Value).toArray}).objs.size≠X.env.locals:=fun z=>by
   have:=I3.lt;rw [<- z] at this;exact Nat.lt_irrefl _ this
  have frC:H' (s2.heap.push {cls:=.type "list",data:=.seq ([]:List Value).toArray}).objs.size=none:=I'.free;have J2:Inv X (pins++[((s2.heap.push {cls:=.type "list",data:=.seq ([]:List Value).toArray}).objs.size,oC)]) σ H' s':=J1.pins_of fun p hp=>by
   rcases List.mem_append.mp hp with z | z
   ·exact J1.pin p (mA1 _ z)
   ·have z':p=((s2.heap.push {cls:=.type "list",data:=.seq ([]:List Value).toArray}).objs.size,oC):=by simpa using z
    subst z';exact ⟨eC,frC,neL,I3.nofs (nR1 _),fun v q=>by rw [dC] at q;cases q⟩
  refine thn (qiS hN hy hx hf _ s' σ H' (.ref s2.heap.objs.size) (.ref s2.heap.objs.size) D.nx J2 rfl q') fun _ s5 ⟨σ5,H5,J5,q5⟩=>?_;obtain ⟨e5,n5,_⟩:=J5.pin ((s2.heap.push {cls:=.type "list",data:=.seq ([]:List Value).toArray}).objs.size,oC) (mA1 _ (mA1 _ mS1));refine ⟨m,⟨oC,es,ep,e5,dC,rC⟩,fun h' hs'=>?_⟩;have J6:Inv X pins σ5 H5 s5:=J5.unpinned;refine ⟨σ5,H5,J6.turned (t':=s5.toks) (fun b o hb e=>(hs'.2 b hb).trans e) n5 neL (.inr ?_) (fun x c hcell z=>?_) (fun p hp z=>?_),q5⟩
  ·exact I3.sz
  ·obtain ⟨w',zc⟩:=I3.cell x c hcell;have hlt:=zc.lt;rw [z] at hlt;exact Nat.lt_irrefl _ hlt
  ·obtain ⟨ep',_⟩:=I3.pin p hp;have hlt:=hL1 ep';rw [z] at hlt;exact Nat.lt_irrefl _ hlt
section
variable {X:Cx}
theorem qqz {K:Fg1}{te:TE}{m:FE}{i:Nat}(hm:∀ σ H Q,tM K m σ H Q->te σ H Q){E:Ends}{σ:L2.St}{H:Hp}(h:tMS K (mAsg m (gN i)) E σ H):tAsg te (qlc i) E σ H:=by
 obtain ⟨r,mu,S,d,S',h1,h2,h3,h4⟩:=qgy h;refine hm _ _ _ ⟨r,mu,S,d,S',h1,h2,h3,fun v H' mu' x1 r1 s1=>?_⟩;obtain ⟨r2,mu2,S2,d2,r3,S3,q1,q2,q3,q4,q5⟩:=h4 v H' mu' x1 r1 s1;cases q4;exact q5 _ H' mu2 (.refl _ _) (q1.set q3) q2
theorem mv (i:Nat){x:Str}{pos:Pos}(hN:X.N[i]? = some x:=by rfl)(hv:Vis X.env.scope x:=by first | exact Or.inl rfl | exact Or.inr (Or.inl rfl) | exact Or.inr (Or.inr rfl))(hd:(x == ("__debug__":Str))=false:=by decide)(hcd:(x == ("__classdict__":Str))=false:=by decide):
  ME X (.Name x pos) (mV i):=qpG i hN hv hd hcd
end
noncomputable def Own (P:Program)(w:World)(K:Fg1)(mg:Str->Option Value)(base:Heap)(k:Nat)(x:Str)(n:Nat)(m:FN):Prop:=
 ∃ (f:Addr) (fd:FuncData) (ps:List Str),FnOk P w K mg base CX0 k f fd ps (spM K n m)/\qfs K fd ps []/\wK1 K (.ref f)=true/\mg x=some (.ref f)
theorem qpJ {X:Cx}{k k' n:Nat}{x:Str}{m:FN}{p pos:Pos}{e:Expr}{es:List Expr}{a:FA}(h:Own X.prog X.w X.K X.mg X.base k x n m)(hr:Room k' X.A)(hk:k<=k')(hg:Gl X x)(ha:MA X (e::es) a)(hdb:(x == ("__debug__":Str))=false:=by decide)
  (he:starEach (e::es) X.env=(false,eval e X.env)::starEach es X.env:=by rfl) (hpl:(backTo pos (starEach es X.env)).any (·.1)=false:=by rfl):ME X (.Call (.Name x p) (e::es) [] pos) (mN (qaf n m) a):=by
 obtain ⟨f,fd,ps,F,b,kp,hm⟩:=h;exact qnm F (hr.mono hk) hg hm kp b ha hdb he hpl
theorem qpc {P:Program}{w:World}{K:Fg1}{mg:Str->Option Value}{base:Heap}{x qual:Str}{st:Stmt}{f:Addr}{fd:FuncData}{N ps:List Str}{k n:Nat}{b:FS}(F:Fun K x qual st f fd)(hb:qfs K fd ps [])(hm:mg x=some (.ref f))(S:qas N ps (qae st))(hn:ps.length=n)
  (hbody:∀ (cdv:Value) (A:Around) (outer:List Env) (s:Shared) (H:Hp) (E:XK),Room k (A.deeper (envOfC qual (qae st) s.heap.objs.size f cdv)) ->
   MSs (cxOf CX0 P w K mg base N qual (qae st) f cdv A outer s H E).nox (qbc st) b):Own P w K mg base (k+1) x n (fnB N.length b):=by
 subst hn;exact ⟨f,fd,ps,fn_m F S hbody,hb,F.kp,hm⟩
section
variable {K:Fg1}
end
theorem qdS {K:Fg1}{H:Hp}{mu:List Addr}:∀ ns:List Int,Reps K H mu (ns.map D.int) (ns.map V.int)
 | []=>.nil
 | n::ns=>.cons (.int n) (qdS ns)
theorem qpY {K:Fg1}{m:FN}(hm:∀ ns:List Int,ns.length<=63 -> ∃ S,m [.rol (ns.map D.int)] []=some (.bl true,S))(H:Hp)(a:Addr)(ns:List Int)(hl:ns.length<=63)(hO:Only H)(hS:SqL K H a (ns.map V.int)):
  spM K 1 m [.ref a] H (fun v _=>v = .bl true) fun _ _ _=>False:=by
 refine ⟨rfl,?_⟩;obtain ⟨S,e⟩:=hm ns hl;have hR:RoL K H a (ns.map V.int):=by
  rcases hS with h | h
  ·rcases h with h | h
   ·rcases hO a with z | ⟨o,xs,z⟩
    ·rw [h] at z;cases z
    ·rw [h] at z;cases z
   ·exact .inl h
  ·exact .inr h
 refine ⟨[],[],[.rol (ns.map D.int)],.bl true,S,.cons (.rol hR (qdS ns)) .nil,.nil,e,fun v H' mu' x r s=>?_⟩;cases r;rfl
theorem walk_m {l:PySem.W.OpenLaw}{q:Program}{loose:List Str}{XP:(Str->Option Value)->Heap->Prop}{YP:World->Heap->Prop}{d:DefRec}{K:Params->Fg1}{m:FN}{k:Nat}{x:Str}(hn:l.most=some 63)(hdf:d.params.defaults=[])(hr:Room k callerA)
  (hY:∀ (w:World) (h:Heap),YP w h->(K w.params).In h) (hm:∀ ns:List Int,ns.length<=63 -> ∃ S,m [.rol (ns.map D.int)] []=some (.bl true,S))
  (F:∀ (w:World) (mg:Str->Option Value) (fa:Addr) (h:Heap),(K w.params).In h->h.Ns mainGlobals mg->mg d.name=some (.ref fa) ->
   ∃ fd:FuncData,(∀ (s:Shared) (u:Value),BindsTo s fd ⟨[u],[]⟩ [(x,u)]) /\ ∀ base:Heap,(K w.params).In base->base.Ns mainGlobals mg->FnOk l.prog w (K w.params) mg base CX0 k fa fd [x] (spM (K w.params) 1 m)):
  PySem.W.WalkO q loose XP YP l.row.toRowW d [] (fun f vs=>PySem.call f vs):=
 L2.qmp (n:=63) (k:=k) (x:=x) (CX:=fun _=>CX0) (sp:=fun w=>spM (K w.params) 1 m) hn (by decide) hdf hr hY F (fun _ H a ns hl hO hS=>qpY hm H a ns hl hO hS) fun _ _ _ _ _ z=>z
structure XE (X:Cx)(e:Expr)(m:FE):Prop where
 h:ME X e m
structure XT (X:Cx)(e:Expr)(m:FT):Prop where
 h:MT X e m
structure XW (X:Cx)(e:Expr)(m:FT):Prop where
 h:MW X e m
structure XA (X:Cx)(e:List Expr)(m:FA):Prop where
 h:MA X e m
structure XS (X:Cx)(e:Stmt)(m:FS):Prop where
 h:MS X e m
structure XSs (X:Cx)(e:List Stmt)(m:FS):Prop where
 h:MSs X e m
structure XI (X:Cx)(tg e:Expr)(m:FI):Prop where
 h:MI X tg e m
structure XG (X:Cx)(e:Expr)(m:FG):Prop where
 h:MG X e m
structure XGs (X:Cx)(e:List Expr)(m:FGs):Prop where
 h:MGs X e m
structure XO (X:Cx)(e:Option Expr)(m:FO):Prop where
 h:MO X e m
structure XF (X:Cx)(K:Fg1)(ifs:List Expr)(t:FT):Prop where
 h:PIfs X ifs (tMT K t)
theorem qaI {X:Cx}:XF X X.K [] qbl:=⟨qnh⟩
theorem qdx {X:Cx}{c:Expr}{t:FT}(h:XT X c t):XF X X.K [c] t:=⟨qng h.h⟩
section
variable {X:Cx} {pos:Pos}
theorem qK {i:Int}{j}:XE X (.Constant (.int i) j pos) (mC (.int i)):=⟨qpO⟩
theorem qbL {b:Bool}{j}:XE X (.Constant (.bool b) j pos) (mC (.bl b)):=⟨qrE⟩
theorem qig {j}:XE X (.Constant .none j pos) (mC .non):=⟨qpM⟩
theorem qmf {x:Str}{j}:XE X (.Constant (.str x) j pos) (mC (.str x)):=⟨qpI⟩
end
section
variable {X:Cx} {pos:Pos} {e:Expr} {es:List Expr} {m:FE} {n:FA}
theorem qN:XA X [] mNil:=⟨qpS⟩
theorem qA (h:XE X e m)(ht:XA X es n)(hs:starEach (e::es) X.env=(false,eval e X.env)::starEach es X.env:=by rfl):XA X (e::es) (qaa m n):=⟨qno (h:=h.h) (ht:=ht.h) (hs:=hs)⟩
end
section
variable {X:Cx} {K:Fg1} {f:FN} {a b:FE} {σ:L2.St} {H:Hp} {Q:VK}
theorem qI {op:Operator}{x y:Expr}{pos:Pos}(ho:OpR X (binaryOp op) (r2 X.K f))(hx:XE X x a)(hy:XE X y b):XE X (.BinOp x op y pos) (m2 f a b):=⟨qrB (ho:=ho) (hx:=hx.h) (hy:=hy.h)⟩
theorem qcO {op:UnaryOp}{x:Expr}{pos:Pos}(ho:UnR X (unaryOp op) (fun x H Q=>rN X.K f [x] H Q))(hx:XE X x a):XE X (.UnaryOp op x pos) (m1 f a):=⟨qrA (ho:=ho) (hx:=hx.h)⟩
theorem qmh {op:CmpOp}{x y:Expr}{pos:Pos}(ho:OpR X (compareOp op) (r2 X.K f))(hx:XE X x a)(hy:XE X y b)(hm:behindInMarks op y=false):XE X (.Compare x [op] [y] pos) (m2 f a b):=⟨qpP (ho:=ho) (hx:=hx.h) (hy:=hy.h) (hm:=hm)⟩
theorem qJ {x y:Expr}{pos:Pos}(ho:IxR X (r2 X.K f))(hx:XE X x a)(hy:XE X y b)(hs:qfr y):XE X (.Subscript x y pos) (m2 f a b):=⟨qrC (ho:=ho) (hx:=hx.h) (hy:=hy.h) (hs:=hs)⟩
theorem qD {x:Str}{p pos:Pos}{e:Expr}{es:List Expr}{id:String}{a:FA}(hc:qaN X (.builtin id) (rN X.K f))(hg:Gl X x)(hm:X.mg x=none)(hv:bootBuiltins x=some (.builtin id))(ha:XA X (e::es) a)(hn:x≠"__name__":=by decide)(hdb:(x == ("__debug__":Str))=false:=by decide)(he:starEach (e::es) X.env=(false,eval e X.env)::starEach es X.env:=by rfl)(hpl:(backTo pos (starEach es X.env)).any (·.1)=false:=by rfl):XE X (.Call (.Name x p) (e::es) [] pos) (mN f a):=⟨qk2 (hc:=hc) (hg:=hg) (hm:=hm) (hv:=hv) (ha:=ha.h) (hn:=hn) (hdb:=hdb) (he:=he) (hpl:=hpl)⟩
theorem qE {x:Str}{p pos:Pos}{e:Expr}{es:List Expr}{T:String}{a:FA}(hc:qaN X (.type T) (rN X.K f))(hg:Gl X x)(hm:X.mg x=none)(hv:bootBuiltins x=some (.type T))(ha:XA X (e::es) a)(hn:x≠"__name__":=by decide)(hdb:(x == ("__debug__":Str))=false:=by decide)(he:starEach (e::es) X.env=(false,eval e X.env)::starEach es X.env:=by rfl)(hpl:(backTo pos (starEach es X.env)).any (·.1)=false:=by rfl):XE X (.Call (.Name x p) (e::es) [] pos) (mN f a):=⟨qi9 (hc:=hc) (hg:=hg) (hm:=hm) (hv:=hv) (ha:=ha.h) (hn:=hn) (hdb:=hdb) (he:=he) (hpl:=hpl)⟩
end
section
variable {X:Cx} {x y c:Expr} {rest:List Expr} {pos:Pos} {a b:FT} {f g:FE}
theorem qX {op:CmpOp}{f:FN}{a b:FE}(ho:OpR X (compareOp op) (r2 X.K f))(hx:XE X x a)(hy:XE X y b)(hm:behindInMarks op y=false):XT X (.Compare x [op] [y] pos) (mB (m2 f a b)):=⟨qpw (ho:=ho) (hx:=hx.h) (hy:=hy.h) (hm:=hm)⟩
theorem qkg (ha:XT X x a):XW X (.BoolOp .And [x] pos) a:=⟨qm9 (ha:=ha.h)⟩
theorem qcA (ha:XT X x a):XW X (.BoolOp .Or [x] pos) a:=⟨qpt (ha:=ha.h)⟩
theorem qme (ha:XT X x a)(hb:XW X (.BoolOp .And (y::rest) pos) b):XW X (.BoolOp .And (x::y::rest) pos) (mAnd a b):=⟨qpu (ha:=ha.h) (hb:=hb.h)⟩
theorem qdL (ha:XT X x a)(hb:XW X (.BoolOp .Or (y::rest) pos) b):XW X (.BoolOp .Or (x::y::rest) pos) (mOr a b):=⟨qry (ha:=ha.h) (hb:=hb.h)⟩
theorem qft (h:XW X x a):XT X x a:=⟨mt_w (h:=h.h)⟩
theorem qga (ha:XT X x a):XT X (.UnaryOp .Not x pos) (mNot a):=⟨qpv (ha:=ha.h)⟩
theorem qif {op}(h:XE X x f):XE X (.BoolOp op [x] pos) f:=⟨qpK (h:=h.h)⟩
theorem qih (ha:XE X x f)(hb:XE X (.BoolOp .And (y::rest) pos) g):XE X (.BoolOp .And (x::y::rest) pos) (qjb f g):=⟨qpQ (ha:=ha.h) (hb:=hb.h)⟩
theorem qmg (ha:XE X x f):XE X (.UnaryOp .Not x pos) (qk3 f):=⟨qpL (ha:=ha.h)⟩
theorem qoc (hc:XT X c a)(hx:XE X x f)(hy:XE X y g):XE X (.IfExp c x y pos) (mIf a f g):=⟨qrD (hc:=hc.h) (hx:=hx.h) (hy:=hy.h)⟩
end
section
variable {X:Cx} {x y z:Expr} {pos:Pos} {f g:FN} {a b c:FE} {op op':CmpOp}
end
section
variable {X:Cx} {pos:Pos} {e c:Expr} {st:Stmt} {rest as bs:List Stmt} {a b:FS} {m:FE} {t:FT}
theorem qQ:XSs X [] mNx:=⟨qnc⟩
theorem qF (h1:XS X st a)(h2:XSs X rest b):XSs X (st::rest) (mSeq a b):=⟨qkY (h1:=h1.h) (h2:=h2.h)⟩
theorem qG (h1:XS X st a):XSs X [st] a:=⟨qnb (h1:=h1.h)⟩
theorem qbu (h:XE X e m)(hs:swapsWith e none pos.line X.env=pure false:=by rfl):XS X (.Expr e pos) (qdc m):=⟨qnd (h:=h.h) (hs:=hs)⟩
theorem qU (h:XE X e m):XS X (.Return (some e) pos) (mRet m):=⟨qpy (h:=h.h)⟩
theorem qV (hc:XT X c t)(ha:XSs X as a)(hb:XSs X bs b):XS X (.If c as bs pos) (mIfS t a b):=⟨qrz (hc:=hc.h) (ha:=ha.h) (hb:=hb.h)⟩
end
section
variable {X:Cx} {pos:Pos}
theorem qO (i:Nat){x:Str}(hN:X.N.Nodup)(hi:X.N[i]? = some x)(hx:Loc X.env.scope x)(hf:X.fn x=true\/X.env.scope.names.lookup x=some .local:=by first | exact .inl rfl | exact .inr rfl | assumption):XG X (.Name x pos) (gN i):=⟨qnk (i:=i) (hN:=hN) (hi:=hi) (hx:=hx) (hf:=hf)⟩
theorem qax:XGs X [] gNl:=⟨qnj⟩
theorem qac {e:Expr}{es:List Expr}{g:FG}{gs:FGs}(h1:XG X e g)(h2:XGs X es gs)(hs:(assignEach (e::es) X.env).map (·.2)=assign e X.env::(assignEach es X.env).map (·.2):=by rfl):XGs X (e::es) (gCs g gs):=⟨qk0 (h1:=h1.h) (h2:=h2.h) (hs:=hs)⟩
theorem qaH {es:List Expr}{k:Nat}{gs:FGs}{n:Nat}(hc:X.calm=true)(h:XGs X es gs)(hn:(assignEach es X.env).length=n:=by rfl)(hst:(assignEach es X.env).findIdx? (·.1)=none:=by rfl):XG X (.Tuple es k pos) (gT n gs):=⟨qpE (hc:=hc) (h:=h.h) (hn:=hn) (hst:=hst)⟩
theorem qb5 {o i:Expr}{a b:FE}{f:FN}(ho:XE X o a)(hi:XE X i b)(hs:PSet X (rU X.K f))(ha:∀ v,assign (.Subscript o i pos) X.env v=(do
   let ov<-holding [v] (eval o X.env)
   let iv<-holding [v,ov] (eval i X.env)
   standAt pos
   holding [v,ov,iv] (setItem ov iv v)
   release [v,ov,iv] []):=by intro _;rfl):XG X (.Subscript o i pos) (gS f a b):=⟨qpF (ho:=ho.h) (hi:=hi.h) (hs:=hs) (ha:=ha)⟩
theorem qR {tg e:Expr}{m:FE}{g:FG}(he:XE X e m)(hg:XG X tg g)(hs:swapsWithSole [tg] e pos.line X.env=pure false:=by rfl)(hw:swappedStores [tg] e X.env=pure none:=by rfl)(h1:(assignEach [tg] X.env).map (·.2)=[assign tg X.env]:=by rfl):XS X (.Assign [tg] e pos) (mAsg m g):=⟨qpA (he:=he.h) (hg:=hg.h) (hs:=hs) (hw:=hw) (h1:=h1)⟩
theorem qY (i:Nat){x:Str}{e:Expr}{m:FE}{pos':Pos}(hN:X.N.Nodup)(hi:X.N[i]? = some x)(hx:Loc X.env.scope x)(he:XE X e m)(hs:swapsWith e (some (.Name x pos')) pos.line X.env=pure false:=by rfl)(hf:X.fn x=true\/X.env.scope.names.lookup x=some .local:=by first | exact .inl rfl | exact .inr rfl | assumption):XS X (.Assign [.Name x pos'] e pos) (mAsg m (gN i)):=⟨qpx (i:=i) (hN:=hN) (hi:=hi) (hx:=hx) (he:=he.h) (hs:=hs) (hf:=hf)⟩
end
section
theorem qdM {X:Cx}{pos:Pos}(n:Nat){c:Expr}{body:List Stmt}{t:FT}{b:FS}(hp:PassesOwn (model X.prog X.w) X.A X.env X.xe)(hc:XT X c t)(hb:XSs X body b):XS X (.While c body [] pos) (whl t b n):=⟨qkZ (n:=n) (hp:=hp) (hc:=hc.h) (hb:=hb.h)⟩
theorem qW {X:Cx}{pos:Pos}{tg iter:Expr}{body:List Stmt}{m:FI}{g:FG}{b:FS}(hp:PassesOwn (model X.prog X.w) X.A X.env X.xe)(hc:X.calm=true)(hi:XI X tg iter m)(hg:XG X tg g)(hb:XSs X body b)(hs:∀ x,foldedSetIterable iter X.env x=pure x:=by intro _;rfl):XS X (.For tg iter body [] pos) (mFor m g b):=⟨qpz (hp:=hp) (hc:=hc) (hi:=hi.h) (hg:=hg.h) (hb:=hb.h) (hs:=hs)⟩
end
section
variable {X:Cx} {es:List Expr} {pos:Pos} {a:FA}
theorem qaq {x1}(h:XA X es a):XE X (.Tuple es x1 pos) (mTup a):=⟨qpH (h:=h.h)⟩
theorem qaK (h:XA X es a):XE X (.List es pos) (mLst a):=⟨qpN (h:=h.h)⟩
end
section
variable {X:Cx} {tg:Expr}
theorem qd {e:Expr}{m:FE}(h:XE X e m):XI X tg e (iSeq m):=⟨qpD (h:=h.h)⟩
theorem qaD {a:Expr}{m:FA}{p pos:Pos}(hg:Gl X "range")(hm:X.mg "range"=none)(ha:XA X [a] m)(hs:starEach [a] X.env=[(false,eval a X.env)]:=by rfl):XI X tg (.Call (.Name "range" p) [a] [] pos) (iR1 m):=⟨qi6 (hg:=hg) (hm:=hm) (ha:=ha.h) (hs:=hs)⟩
theorem qhG {a b:Expr}{m:FA}{p pos:Pos}(hg:Gl X "range")(hm:X.mg "range"=none)(ha:XA X [a,b] m)(hs:starEach [a,b] X.env=[(false,eval a X.env),(false,eval b X.env)]:=by rfl)(hs2:starEach [b] X.env=[(false,eval b X.env)]:=by rfl):XI X tg (.Call (.Name "range" p) [a,b] [] pos) (iR2 m):=⟨qi5 (hg:=hg) (hm:=hm) (ha:=ha.h) (hs:=hs) (hs2:=hs2)⟩
end
section
variable {X:Cx} {tg:Expr}
variable {elts:List Expr} {k:Nat} {tpos:Pos}
theorem qbv {a:Expr}{m:FA}{p pos:Pos}(hg:Gl X "enumerate")(hm:X.mg "enumerate"=none)(ha:XA X [a] m)(hs:starEach [a] X.env=[(false,eval a X.env)]:=by rfl):XI X (.Tuple elts k tpos) (.Call (.Name "enumerate" p) [a] [] pos) (iEn m):=⟨qni (hg:=hg) (hm:=hm) (ha:=ha.h) (hs:=hs)⟩
theorem qid {a b:Expr}{m:FA}{p pos:Pos}(hg:Gl X "zip")(hm:X.mg "zip"=none)(ha:XA X [a,b] m)(hs:starEach [a,b] X.env=[(false,eval a X.env),(false,eval b X.env)]:=by rfl)(hs2:starEach [b] X.env=[(false,eval b X.env)]:=by rfl):XI X (.Tuple elts k tpos) (.Call (.Name "zip" p) [a,b] [] pos) (iZp m):=⟨qpC (hg:=hg) (hm:=hm) (ha:=ha.h) (hs:=hs) (hs2:=hs2)⟩
end
section
variable {X:Cx} {pins:List (Addr×Obj)} {σ:L2.St} {H:Hp} {s:Shared} {mu:List Addr} {S:Sto} {K:Fg1}
theorem qcn (T:Ty){e:Expr}{m:FE}{nm:Str}{p p2 pos:Pos}(hg:Gl X "isinstance")(hm:X.mg "isinstance"=none)(hg2:Gl X nm)(hm2:X.mg nm=none)(hv2:bootBuiltins nm=some (.type T.nm))(h:XE X e m)(hn:nm≠"__name__":=by decide)(hd:(nm == ("__debug__":Str))=false:=by decide)(hs1:starEach [e,.Name nm p2] X.env=(false,eval e X.env)::starEach [.Name nm p2] X.env:=by rfl)(hs2:starEach [.Name nm p2] X.env=(false,eval (.Name nm p2) X.env)::starEach [] X.env:=by rfl)(hpl:(backTo pos (starEach [.Name nm p2] X.env)).any (·.1)=false:=by rfl):XE X (.Call (.Name "isinstance" p) [e,.Name nm p2] [] pos) (mIsT T m):=⟨qi8 (T:=T) (hg:=hg) (hm:=hm) (hg2:=hg2) (hm2:=hm2) (hv2:=hv2) (h:=h.h) (hn:=hn) (hd:=hd) (hs1:=hs1) (hs2:=hs2) (hpl:=hpl)⟩
end
section
variable {X:Cx}
theorem qcN:XO X none qe4:=⟨qnf⟩
theorem qcM {e:Expr}{m:FE}(h:XE X e m):XO X (some e) (qe3 m):=⟨qne (h:=h.h)⟩
theorem qc5 {a:Expr}{m:FA}{p1 p2 pos1 pos2:Pos}(hc:X.calm=true)(hg:Gl X "range")(hm:X.mg "range"=none)(hg2:Gl X "list")(hm2:X.mg "list"=none)(ha:XA X [a] m)(hs:starEach [a] X.env=[(false,eval a X.env)]:=by rfl)(hs2:starEach [.Call (.Name "range" p1) [a] [] pos1] X.env=[(false,eval (.Call (.Name "range" p1) [a] [] pos1) X.env)]:=by rfl):XE X (.Call (.Name "list" p2) [.Call (.Name "range" p1) [a] [] pos1] [] pos2) (mLR1 m):=⟨qi7 (hc:=hc) (hg:=hg) (hm:=hm) (hg2:=hg2) (hm2:=hm2) (ha:=ha.h) (hs:=hs) (hs2:=hs2)⟩
theorem qe {o e:Expr}{es:List Expr}{m:FE}{a:FA}{f:FN}{name:Str}{apos cpos:Pos}{id:String}(slot:Slot "list" name id)(hty:typeOf (.builtin id)=pure (.type "method_descriptor"))(hm:MtR X id (fun x xs H Q=>rN X.K f (x::xs) H Q))(ho:XE X o m)(ha:XA X (e::es) a)(hbase:attributeBase o name X.env (eval o X.env)=eval o X.env:=by rfl)(hfew:((backTo cpos (starEach (e::es) X.env)).all (fun x=> !x.1)&&(backToKw cpos (keywordEach [] X.env)).all (fun x=>x.1.isSome)&&decide ((e::es).length+([]:List Keyword).length+(if ([]:List Keyword).isEmpty then 0 else 1)<30))=true:=by rfl)(hline:(apos.endLine == cpos.line)=true:=by rfl)(hs:starEach (e::es) X.env=(false,eval e X.env)::starEach es X.env:=by rfl)(hplain:(backTo cpos (starEach es X.env)).any (·.1)=false:=by rfl):XE X (.Call (.Attribute o name apos) (e::es) [] cpos) (mMt f m a):=⟨qk1 (slot:=slot) (hty:=hty) (hm:=hm) (ho:=ho.h) (ha:=ha.h) (hbase:=hbase) (hfew:=hfew) (hline:=hline) (hs:=hs) (hplain:=hplain)⟩
theorem xmv (i:Nat){x:Str}{pos:Pos}(hN:X.N[i]? = some x:=by rfl)(hv:Vis X.env.scope x:=by first | exact Or.inl rfl | exact Or.inr (Or.inl rfl) | exact Or.inr (Or.inr rfl))(hd:(x == ("__debug__":Str))=false:=by decide)(hcd:(x == ("__classdict__":Str))=false:=by decide):XE X (.Name x pos) (mV i):=⟨mv (i:=i) (hN:=hN) (hv:=hv) (hd:=hd) (hcd:=hcd)⟩
end
section
theorem qH {X:Cx}{k k' n:Nat}{x:Str}{m:FN}{p pos:Pos}{e:Expr}{es:List Expr}{a:FA}(h:Own X.prog X.w X.K X.mg X.base k x n m)(hr:Room k' X.A)(hk:k<=k')(hg:Gl X x)(ha:XA X (e::es) a)(hdb:(x == ("__debug__":Str))=false:=by decide)(he:starEach (e::es) X.env=(false,eval e X.env)::starEach es X.env:=by rfl)(hpl:(backTo pos (starEach es X.env)).any (·.1)=false:=by rfl):XE X (.Call (.Name x p) (e::es) [] pos) (mN (qaf n m) a):=⟨qpJ (h:=h) (hr:=hr) (hk:=hk) (hg:=hg) (ha:=ha.h) (hdb:=hdb) (he:=he) (hpl:=hpl)⟩
end
section
variable {X:Cx}
structure XB1 (X:Cx)(K:Fg1)(tg:Expr)(ifs:List Expr)(elt:Expr)(g:FG)(t:FT)(e:FE):Prop where
 g:XG X tg g
 t:XF X K ifs t
 e:XE X elt e
end
theorem qmd {P:Program}{w:World}{K:Fg1}{mg:Str->Option Value}{base:Heap}{x qual:Str}{st:Stmt}{f:Addr}{fd:FuncData}{N ps:List Str}{k n:Nat}{b:FS}(F:Fun K x qual st f fd)(hb:qfs K fd ps [])(hm:mg x=some (.ref f))(S:qas N ps (qae st))(hn:ps.length=n)
  (hbody:∀ (cdv:Value) (A:Around) (outer:List Env) (s:Shared) (H:Hp) (E:XK),Room k (A.deeper (envOfC qual (qae st) s.heap.objs.size f cdv)) ->
   XSs (cxOf CX0 P w K mg base N qual (qae st) f cdv A outer s H E).nox (qbc st) b):Own P w K mg base (k+1) x n (fnB N.length b):=
 qpc F hb hm S hn fun cdv A outer s H E hr=>(hbody cdv A outer s H E hr).h
theorem qod {P:Program}{w:World}{K:Fg1}{mg:Str->Option Value}{base:Heap}{x qual:Str}{st:Stmt}{f:Addr}{fd:FuncData}{N ps:List Str}{k n:Nat}{b:FS}(F:Fun K x qual st f fd)(S:qas N ps (qae st))(hn:ps.length=n)
  (hbody:∀ (cdv:Value) (A:Around) (outer:List Env) (s:Shared) (H:Hp) (E:XK),Room k (A.deeper (envOfC qual (qae st) s.heap.objs.size f cdv)) ->
   XSs (cxOf CX0 P w K mg base N qual (qae st) f cdv A outer s H E).nox (qbc st) b):FnOk P w K mg base CX0 (k+1) f fd ps (spM K n (fnB N.length b)):=by
 subst hn;exact fn_m F S fun cdv A outer s H E hr=>(hbody cdv A outer s H E hr).h
noncomputable abbrev FV:=Ev->Sto->Option (List D×Ev×Sto)
noncomputable def qbP (c:List (Nat×List D))(g:FG)(t:FT)(b:FV):List D->FV
 | []=>fun r S=>if okC S c=true then some ([],r,S) else none
 | d::ds=>fun r S=>if okC S c=true then (g d r S).bind fun p=>(t p.1 p.2).bind fun k=>if k.1=true then (b p.1 k.2).bind fun q=>(qbP c g t b ds q.2.1 q.2.2).map fun z=>(q.1++z.1,z.2) else qbP c g t b ds p.1 k.2 else none
noncomputable def qaT (m:FE):FV:=fun r S=>(m r S).map fun q=>([q.1],r,q.2)
noncomputable def qa9 (k:Nat)(keep:List Nat)(m:FI)(g:FG)(t:FT)(b:FV):FE:=fun r S=>(m r S).bind fun p=>
 (qbP p.1.chk g t b p.1.items (inEv k keep r) p.2).bind fun q=>if q.1.length<=sizeLine then some (.ref q.2.2.length,q.2.2++[.lst q.1]) else none
section
variable {K:Fg1} {H H' H1:Hp} {mu mu' mu1:List Addr} {S:Sto} {a:Addr}
theorem Ext.aside (x:Ext mu mu' H H'):Ext (a::mu) (a::mu') H H' where
 pre:=List.cons_prefix_cons.mpr ⟨rfl,x.pre⟩
 old:=fun b o h n=>x.old b o h fun z=>n (mC1 _ z)
 tup:=x.tup
 frz:=x.frz
 new:=fun b h=>by
  rcases List.mem_cons.mp h with h | h
  ·exact .inl (by rw [h];exact mS1)
  ·rcases x.new b h with q | q
   ·exact .inl (mC1 _ q)
   ·exact .inr q
theorem Ext.inner (x:Ext (a::mu) (a::mu') H H'):Exw mu mu' H H':=⟨(List.cons_prefix_cons.mp x.pre).2,x.tup,x.frz⟩
theorem Ext.held {o:HO}(x:Ext mu mu' H H')(ha:H a=some o)(hn:a∉mu):H' a=some o/\a∉mu':=by
 refine ⟨x.old a o ha hn,fun z=>?_⟩;rcases x.new a z with q | q
 ·exact hn q
 ·rw [ha] at q;cases q
theorem EnvR.exw {r:Ev}{σ:L2.St}(e:Exw mu mu' H H')(h:EnvR K H mu r σ):EnvR K H' mu' r σ:=⟨h.len,fun i d q=>by
 obtain ⟨v,e1,r1⟩:=h.val i d q;exact ⟨v,e1,r1.exw e⟩⟩
theorem ObR.exw {b:Addr}(e:Exw mu mu' H H')(h:∀ o,H b=some o->H' b=some o):∀ {o:Ob},ObR K H mu b o->ObR K H' mu' b o
 | .lst _,⟨vs,q,r⟩=>⟨vs,h _ q,r.exw e⟩
 | .dct _,⟨ws,q,r⟩=>⟨ws,h _ q,Paired.mapP r fun _ _ z=>⟨z.1,z.2.exw e⟩⟩
 | .dcT _,⟨ws,q,r,l⟩=>⟨ws,h _ q,Paired.mapP r fun _ _ ⟨z,d,k,v,rv,r⟩=>⟨z,d,k.exw e,v,rv,r.exw e⟩,l⟩
 | .iset _,q=>⟨h _ q.1,q.2⟩
 | .dcF _,⟨ws,⟨o,u,e1,e2⟩,r,l⟩=>⟨ws,⟨o,u,h _ e1,e2⟩,Paired.mapP r fun _ _ ⟨z,d,k,v,rv,r⟩=>⟨z,d,k.exw e,v,rv,r.exw e⟩,l⟩
theorem Sim.aside {u:HO}(s:Sim K H mu S)(e:Exw mu mu H (upd H a u))(hn:a∉mu):Sim K (upd H a u) mu S:=
 ⟨s.len,s.nd,fun k o b h1 h2=>(s.ob k o b h1 h2).exw e fun o' q=>by rw [qar (fun z=>hn (by rw [<- z];exact gM1 h2))];exact q⟩
end
inductive tMV (K:Fg1)(a:Addr)(m:FV)(E:Ends)(σ:L2.St)(H:Hp):Prop
 | mk (r:Ev) (mu:List Addr) (S:Sto) (acc:List D) (vs:List V) (xs:List D) (r':Ev) (S':Sto):H a=some (.lst vs)->a∉mu->Reps K H mu acc vs->EnvR K H mu r σ->Sim K H mu S->m r S=some (xs,r',S')->vs.length+xs.length<=sizeLine ->
 (∀ σ' H' mu' vs',Ext (a::mu) (a::mu') H H'->H' a=some (.lst vs')->a∉mu'->Reps K H' mu' (acc++xs) vs'->EnvR K H' mu' r' σ'->Sim K H' mu' S'->E.nx σ' H')->tMV K a m E σ H
theorem qhv {K:Fg1}{a:Addr}{m:FE}{E:Ends}{σ:L2.St}{H:Hp}(h:tMV K a (qaT m) E σ H):qkp a (tM K m) E σ H:=by
 obtain ⟨r,mu,S,acc,vs,xs,r',S',ha,hna,hr,he,hs,hm,hl,hc⟩:=h;obtain ⟨⟨d,S1⟩,e1,hm⟩:=oM1.mp hm;cases hm;refine ⟨r,mu,S,d,S1,he,hs,e1,fun v H1 mu1 x1 r1 s1=>?_⟩;obtain ⟨ha1,hn1⟩:=x1.held ha hna;have put:Ext (a::mu1) (a::mu1) H1 (upd H1 a (.lst (vs++[v]))):=Ext.put ha1 trivial mS1;refine ⟨vs,ha1,hl,?_⟩;exact hc σ _ mu1 (vs++[v]) (x1.aside.trans put) qau hn1 (((hr.ext x1).append (.cons r1 .nil)).exw put.inner) ((he.ext x1).exw put.inner) (s1.aside put.inner hn1)
inductive LFI (K:Fg1)(a:Addr)(mu2:List Addr)(H:Hp)(c:List (Nat×List D))(g:FG)(t:FT)(b:FV)(r':Ev)(S':Sto)(tot:List D)(L:List D)(σ':L2.St)(H':Hp):Prop
 | mk (r3:Ev) (mu3:List Addr) (S3:Sto) (acc3:List D) (vs3:List V) (xs3:List D):Ext (a::mu2) (a::mu3) H H'->H' a=some (.lst vs3)->a∉mu3->Reps K H' mu3 acc3 vs3->EnvR K H' mu3 r3 σ'->Sim K H' mu3 S3->qbP c g t b L r3 S3=some (xs3,r',S')->acc3++xs3=tot->vs3.length+xs3.length<=sizeLine->LFI K a mu2 H c g t b r' S' tot L σ' H'
theorem qk6 {K:Fg1}{a:Addr}{j:It}{J:Itm}{g:FG}{t:FT}{b:FV}{tb:TS}{D:Ends}(hb:∀ E σ H,tMV K a b E σ H->tb E σ H)
  {mu1 mu2:List Addr} {H1 H:Hp} {r r':Ev} {S S':Sto} {σ:L2.St} {acc xs:List Mi.D} {vs:List V} (hJ:ItR K j J mu1 H1) (x:Exw mu1 mu2 H1 H) (ha:H a=some (.lst vs)) (hna:a∉mu2) (hr:Reps K H mu2 acc vs) (he:EnvR K H mu2 r σ) (hs:Sim K H mu2 S)
  (hm:qbP J.chk g t b J.items r S=some (xs,r',S')) (hl:vs.length+xs.length<=sizeLine)
  (hc:∀ σ' H' mu' vs',Ext (a::mu2) (a::mu') H H'->H' a=some (.lst vs')->a∉mu'->Reps K H' mu' (acc++xs) vs'->EnvR K H' mu' r' σ'->Sim K H' mu' S'->D.nx σ' H'):qou j (tMG K g) (tMT K t) tb D σ H:=by
 refine ⟨fun i k σ' H'=>k=(J.items.drop i).length/\LFI K a mu2 H J.chk g t b r' S' (acc++xs) (J.items.drop i) σ' H',
  ⟨_,rfl,r,mu2,S,acc,vs,xs,.refl _ _,ha,hna,hr,he,hs,hm,rfl,hl⟩,?_⟩
 rintro i k σ3 H3 ⟨rfl,r3,mu3,S3,acc3,vs3,xs3,x3,ha3,hn3,hr3,he3,s3,hm3,hx3,hl3⟩;cases hd0:J.items.drop i with
 | nil=>
  left;rw [hd0,qbP] at hm3;dsimp only at hm3;split at hm3
  ·rename_i ok;cases hm3;refine ⟨(hJ i H3 mu3 _ (x.trans x3.inner) s3 ok).2 (List.drop_eq_nil_iff.mp hd0),hc σ3 H3 mu3 vs3 x3 ha3 hn3 ?_ he3 s3⟩;rw [<- hx3,List.append_nil];exact hr3
  ·cases hm3
 | cons d ds=>
  right;rw [hd0] at hm3;obtain ⟨hi,hd⟩:=qd8 hd0;rw [qbP] at hm3;dsimp only at hm3;split at hm3
  ·rename_i ok;obtain ⟨⟨r4,S4⟩,e4,hm3⟩:=oB1.mp hm3;obtain ⟨⟨k5,S5⟩,e5,hm3⟩:=oB1.mp hm3;obtain ⟨go,yl⟩:=(hJ i H3 mu3 _ (x.trans x3.inner) s3 ok).1 d hi;refine ⟨go,LFI K a mu2 H J.chk g t b r' S' (acc++xs) ds,?_,fun y H4 yy=>?_⟩
   ·intro σ' H' h6;exact ⟨ds.length,Nat.lt_succ_self _,(congrArg List.length hd).symm,hd.symm ▸ h6⟩
   ·obtain ⟨x4,s4,q4⟩:=yl y H4 yy;obtain ⟨ha4,hn4⟩:=x4.held ha3 hn3;refine ⟨r3,mu3,S3,d,r4,S4,he3.ext x4,s4,q4,e4,fun σ5 H5 mu5 x5 he5 s5=>?_⟩;obtain ⟨ha5,hn5⟩:=x5.held ha4 hn4;refine ⟨r4,mu5,S4,k5,S5,he5,s5,e5,fun H6 mu6 x6 s6=>?_⟩;obtain ⟨ha6,hn6⟩:=x6.held ha5 hn5;have xx:=((x3.trans x4.aside).trans x5.aside).trans x6.aside;have hr6:Reps K H6 mu6 acc3 vs3:=((hr3.ext x4).ext x5).ext x6;cases k5 with
    | true=>
     obtain ⟨⟨q1,r7,S7⟩,e7,hm3⟩:=oB1.mp hm3;obtain ⟨⟨z1,r8,S8⟩,e8,hm3⟩:=oM1.mp hm3;cases hm3;refine hb _ _ _ ⟨r4,mu6,S5,acc3,vs3,q1,r7,S7,ha6,hn6,hr6,he5.ext x6,s6,e7,?_,fun σ8 H8 mu8 vs8 x8 ha8 hn8 hr8 he8 s8=>⟨r7,mu8,S7,acc3++q1,vs8,z1,xx.trans x8,ha8,hn8,hr8,he8,s8,e8,?_,?_⟩⟩
     ·rw [lA1] at hl3;dsimp only at hl3;lia
     ·rw [<- hx3,List.append_assoc]
     ·have:=hr8.length;have h3:=hr6.length;rw [lA1] at this hl3;dsimp only at hl3;lia
    | false=>exact ⟨r4,mu6,S5,acc3,vs3,xs3,xx,ha6,hn6,hr6,he5.ext x6,s6,hm3,hx3,hl3⟩
  ·cases hm3
theorem qhx {K:Fg1}{k:Nat}{keep:List Nat}{m:FI}{g:FG}{t:FT}{b:FV}{tb:Addr->TS}(hb:∀ a E σ H,tMV K a b E σ H->tb a E σ H){σ:L2.St}{H:Hp}{Q:VK}(h:tM K (qa9 k keep m g t b) σ H Q):
  qmw k keep (tMI K m) (tMG K g) (tMT K t) tb σ H Q:=by
 obtain ⟨r,mu,S,d,S',he,hs,hm,hc⟩:=h;obtain ⟨⟨J,S1⟩,e1,hm⟩:=oB1.mp hm;obtain ⟨⟨xs,r2,S2⟩,e2,hm⟩:=oB1.mp hm;dsimp only at hm;split at hm
 ·rename_i hl;cases hm;refine ⟨r,mu,S,J,S1,he,hs,e1,fun j H1 mu1 x1 J1 s1 p hp=>?_⟩;have fr:Ext mu1 mu1 H1 (upd H1 p (.lst [])):=Ext.fresh hp;refine qk6 (hb p) J1 fr.w qau (s1.notin hp) .nil ((qrL k keep (he.ext x1)).ext fr) (s1.fresh hp) e2 (by simpa using hl) fun σ' H' mu' vs' x' ha' hn' hr' he' s'=>?_;have y:Ext mu1 (mu'++[p]) H1 H':=by
   refine ⟨((List.cons_prefix_cons.mp x'.pre).2).trans (List.prefix_append _ _),fun b o e n=>?_,fun b ys e=>x'.tup b ys (fr.tup b ys e),fun b o u e=>x'.frz b o u (fr.frz b o u e),fun b hb'=>?_⟩
   ·have nb:b≠p:=qav e hp;exact x'.old b o (by rw [qar nb];exact e) fun z=>by
     rcases List.mem_cons.mp z with z | z
     ·exact nb z
     ·exact n z
   ·rcases List.mem_append.mp hb' with z | z
    ·rcases x'.new b (mC1 _ z) with q | q
     ·rcases List.mem_cons.mp q with q | q
      ·exact .inr (by rw [q];exact hp)
      ·exact .inl q
     ·by_cases hbp:b=p
      ·exact .inr (by rw [hbp];exact hp)
      ·rw [qar hbp] at q;exact .inr q
    ·have:b=p:=by simpa using z
     exact .inr (by rw [this];exact hp)
  refine hc _ H' (mu'++[p]) (x1.trans y) (.ref (qcl s'.len p)) ⟨by rw [lA1,lA1,s'.len];rfl,?_,fun n o b h1 h2=>?_⟩
  ·rw [List.nodup_append];refine ⟨s'.nd,by simp,fun b hb c hc e=>?_⟩;have:c=p:=by simpa using hc
   subst this;subst e;exact hn' hb
  ·by_cases hk:n<S2.length
   ·rw [gL1 hk] at h1;rw [gL1 (by rw [s'.len];exact hk)] at h2;exact (s'.ob n o b h1 h2).mor [p]
   ·have hk':n=S2.length:=by
     have:=(gE1.mp h1).1;rw [lA1] at this;simp at this;lia
    subst hk';rw [gR1 (nR1 _)] at h1;rw [<- s'.len,gR1 (nR1 _)] at h2;simp at h1 h2;subst h1;subst h2;exact ⟨vs',ha',(by simpa using hr':Reps K H' mu' xs vs').mor [p]⟩
 ·cases hm
section
variable {X:Cx}
theorem qZ {elt tg iter:Expr}{ifs:List Expr}{scope:Scope}{pos:Pos}{T:List Str}{keep:List Nat}{cl:List (Str×Addr)}{m:FI}{g:FG}{t:FT}{e:FE}(hc:X.calm=true)
  (C:CSc X scope T keep) (hcl:cloF X.env.cells scope.names []=some cl) (hi:XI X tg iter m) (hb:∀ s H fp,XB1 (cxC X scope cl T keep s H fp) X.K tg ifs elt g t e)
  (hs:∀ x,foldedSetIterable iter X.env x=pure x:=by intro _;rfl):XE X (.ListComp elt [⟨tg,iter,ifs,0⟩] scope pos) (qa9 T.length keep m g t (qaT e)):=
 ⟨qaW (qmV (emit:=qjJ elt) (tb:=fun p=>qkp p (tM X.K e)) hc (fun it acc env=>qlC elt tg iter ifs scope pos it acc env) C hcl hi.h (fun s H fp p=>⟨(hb s H fp).g.h,(hb s H fp).t.h,qiL (hb s H fp).e.h p⟩) hs)
  fun σ H Q h=>qhx (fun a E σ H q=>qhv q) h⟩
theorem qcP {elt tg iter:Expr}{ifs:List Expr}{scope:Scope}{pos spos py:Pos}{y:Str}(i:Nat){T:List Str}{keep:List Nat}{cl:List (Str×Addr)}{m:FI}{g:FG}{t:FT}{e:FE}(hc:X.calm=true)
  (C:CSc X scope T keep) (hcl:cloF X.env.cells scope.names []=some cl) (hi:XI X tg iter m) (hb:∀ s H fp,XB1 (cxC X scope cl T keep s H fp) X.K tg ifs elt g t e)
  (hN:X.N.Nodup) (hy:X.N[i]? = some y) (hx:Loc X.env.scope y) (hsw:swapsWith (.ListComp elt [⟨tg,iter,ifs,0⟩] scope pos) (some (.Name y py)) spos.line X.env=pure true:=by rfl)
  (hf:X.fn y=true\/X.env.scope.names.lookup y=some .local:=by first | exact .inl rfl | exact .inr rfl | assumption)
  (hs:∀ x,foldedSetIterable iter X.env x=pure x:=by intro _;rfl):XS X (.Assign [.Name y py] (.ListComp elt [⟨tg,iter,ifs,0⟩] scope pos) spos) (mAsg (qa9 T.length keep m g t (qaT e)) (gN i)):=
 ⟨qct (qmO (emit:=qjJ elt) (tb:=fun p=>qkp p (tM X.K e)) hc hsw (fun it acc env=>qlC elt tg iter ifs scope pos it acc env) C hcl hi.h (fun s H fp p=>⟨(hb s H fp).g.h,(hb s H fp).t.h,qiL (hb s H fp).e.h p⟩) hN hy hx hf hs)
  fun E σ H h=>qqz (fun σ H Q q=>qhx (fun a E σ H q=>qhv q) q) h⟩
end
noncomputable def keyD:D->Option Key
 | .int i=>some (.inl i)
 | .str x=>some (.inr x)
 | _=>none
noncomputable def qap {κ:Type}[DecidableEq κ](kvs:List (κ×D))(k:κ):Option D:=(kvs.find? fun p=>decide (p.1=k)).map (·.2)
noncomputable def putD {κ:Type}[DecidableEq κ](kvs:List (κ×D))(k:κ)(d:D):List (κ×D):=
 if (kvs.any fun p=>decide (p.1=k))=true then kvs.map (fun p=>if p.1=k then (p.1,d) else p) else kvs++[(k,d)]
section
variable {K:Fg1} {H:Hp} {mu:List Addr}
theorem qe9 {d:D}{v:V}{k:Key}(r:Rep K H mu d v)(h:keyD d=some k):v=kV k:=by
 cases r with
 | int i=>cases h;rfl
 | str x=>cases h;rfl
 | _=>cases h
end
section
variable {κ:Type} [DecidableEq κ] {K:Fg1} {H:Hp} {mu:List Addr}
theorem KR.length:∀ {ks:List (κ×D)} {ws:List (κ×V)},KR K H mu ks ws->ks.length=ws.length:=fun h=>Paired.length h
theorem KR.look {k:κ}:∀ {ks:List (κ×D)} {ws:List (κ×V)},KR K H mu ks ws ->
  (∀ d,qap ks k=some d -> ∃ v,valV ws k=some v/\Rep K H mu d v)/\(qap ks k=none->valV ws k=none):=by
 intro ks ws h
 induction h with
 | nil=>exact ⟨fun d h=>by simp [qap] at h,fun _=>rfl⟩
 | @cons p q ks ws r t ih=>
  obtain ⟨k1,d1⟩:=p;obtain ⟨k2,v2⟩:=q;obtain ⟨e,r⟩:=r;dsimp only at e r;subst e;obtain ⟨h1,h2⟩:=ih;by_cases hk:k1=k
  ·subst hk;refine ⟨fun d h=>?_,fun h=>?_⟩
   ·have:d1=d:=by simpa [qap] using h
    subst this;exact ⟨v2,by simp [valV],r⟩
   ·simp [qap] at h
  ·have e1:qap ((k1,d1)::ks) k=qap ks k:=by simp [qap,List.find?_cons,hk]
   have e2:valV ((k1,v2)::ws) k=valV ws k:=by simp [valV,List.find?_cons,hk]
   rw [e1,e2];exact ⟨h1,h2⟩
theorem KR.any {k:κ}:∀ {ks:List (κ×D)} {ws:List (κ×V)},KR K H mu ks ws->(ks.any fun p=>decide (p.1=k))=ws.any fun p=>decide (p.1=k):=by
 intro ks ws h
 induction h with
 | nil=>rfl
 | cons r t ih=>rw [List.any_cons,List.any_cons,ih,r.1]
theorem KR.repl {k:κ}{d:D}{v:V}(q:Rep K H mu d v):∀ {ks:List (κ×D)} {ws:List (κ×V)},KR K H mu ks ws ->
  KR K H mu (ks.map fun p=>if p.1=k then (p.1,d) else p) (ws.map fun p=>if p.1=k then (p.1,v) else p):=by
 intro ks ws h
 induction h with
 | nil=>exact .nil
 | @cons a b ks ws r t ih=>
  refine .cons ?_ ih;obtain ⟨e,r⟩:=r;dsimp only;by_cases h:a.1=k
  ·rw [if_pos h,if_pos (e ▸ h)];exact ⟨e,q⟩
  ·rw [if_neg h,if_neg (e ▸ h)];exact ⟨e,r⟩
theorem KR.snoc {k:κ}{d:D}{v:V}(q:Rep K H mu d v):∀ {ks:List (κ×D)} {ws:List (κ×V)},KR K H mu ks ws->KR K H mu (ks++[(k,d)]) (ws++[(k,v)]):=by
 intro ks ws h
 induction h with
 | nil=>exact .cons ⟨rfl,q⟩ .nil
 | cons r t ih=>exact .cons r ih
theorem KR.put {k:κ}{d:D}{v:V}(q:Rep K H mu d v){ks:List (κ×D)}{ws:List (κ×V)}(h:KR K H mu ks ws):KR K H mu (putD ks k d) (putK ws k v):=by
 unfold putD putK;rw [h.any];split
 ·exact h.repl q
 ·exact h.snoc q
end
noncomputable def gInX:G2:=fun d e S=>match e with
 | .ref n=>match S[n]? with
  | some (.dct kvs)=>(keyD d).map fun k=>(.bl (qap kvs k).isSome,S)
  | _=>gIn d e S
 | _=>gIn d e S
noncomputable def qde:G2:=fun d e S=>match e with
 | .ref n=>match S[n]? with
  | some (.dct kvs)=>(keyD d).map fun k=>(.bl (!(qap kvs k).isSome),S)
  | _=>qfO d e S
 | _=>qfO d e S
noncomputable def gIxX:G2:=fun d e S=>match d with
 | .ref n=>match S[n]? with
  | some (.dct kvs)=>(keyD e).bind fun k=>(qap kvs k).map fun x=>(x,S)
  | _=>gIx d e S
 | _=>gIx d e S
noncomputable def qfa:G3:=fun o i v S=>match o with
 | .ref n=>match S[n]? with
  | some (.dct kvs)=>(keyD i).bind fun k=>if kvs.length<sizeLine then some (.non,S.set n (.dct (putD kvs k v))) else none
  | _=>qdl o i v S
 | _=>qdl o i v S
section
variable {X:Cx}
theorem qe7 {K:Fg1}{H:Hp}{mu:List Addr}{S:Sto}(hs:Sim K H mu S){n:Nat}{a:Addr}{kvs:List (Key×D)}{k:Key}{y:V}(hn:mu[n]? = some a)(he:S[n]? = some (.dct kvs))(hy:y=kV k):
  ∃ o:Option V,DGet H a y o/\(∀ d,qap kvs k=some d -> ∃ v,o=some v/\Rep K H mu d v)/\(qap kvs k=none->o=none)/\o.isSome=(qap kvs k).isSome:=by
 obtain ⟨ws,hw,hk⟩:=hs.dct he hn;subst hy;obtain ⟨h1,h2⟩:=hk.look (k:=k);refine ⟨valV ws k,DGet.k hw,h1,h2,?_⟩;cases e:qap kvs k with
 | none=>rw [h2 e];rfl
 | some d=>obtain ⟨v,e2,_⟩:=h1 d e;rw [e2];rfl
theorem qrw (hu:X.A.units+64<cLine):OpR X (compareOp .In) (r2 X.K (b2 gInX)):=by
 intro pins s σ H x y u w Q I rx ry h;obtain ⟨mu,S,d,e,r,S',r1,r2',hs,hm,hc⟩:=rn2 h;have back:gIn d e S=some (r,S')->wpAny (model X.prog X.w) X.A (compareOp .In u w) (EP X pins σ Q) X.xe s:=fun hm=>o_in hu pins s σ H x y u w Q I rx ry ⟨mu,S,[d,e],r,S',.cons r1 (.cons r2' .nil),hs,hm,hc⟩;unfold gInX at hm;split at hm
 ·rename_i n;split at hm
  ·rename_i kvs en;obtain ⟨k,ek,hm⟩:=oM1.mp hm;cases hm;cases r2' with
   | ref hn=>
    cases ry;obtain ⟨o,g,_,_,hi⟩:=qe7 hs hn en (qe9 r1 ek);exact d_in (by lia) I g rx fun s' I'=>⟨.bl o.isSome,H,I',rfl,by rw [hi];exact hc.now (.bl _) hs⟩
  ·exact back hm
 ·exact back hm
theorem qkS (hu:X.A.units+64<cLine):OpR X (compareOp .NotIn) (r2 X.K (b2 qde)):=by
 intro pins s σ H x y u w Q I rx ry h;obtain ⟨mu,S,d,e,r,S',r1,r2',hs,hm,hc⟩:=rn2 h;have back:qfO d e S=some (r,S')->wpAny (model X.prog X.w) X.A (compareOp .NotIn u w) (EP X pins σ Q) X.xe s:=fun hm=>qm5 hu pins s σ H x y u w Q I rx ry ⟨mu,S,[d,e],r,S',.cons r1 (.cons r2' .nil),hs,hm,hc⟩;unfold qde at hm;split at hm
 ·rename_i n;split at hm
  ·rename_i kvs en;obtain ⟨k,ek,hm⟩:=oM1.mp hm;cases hm;cases r2' with
   | ref hn=>
    cases ry;obtain ⟨o,g,_,_,hi⟩:=qe7 hs hn en (qe9 r1 ek);exact qnT (by lia) I g rx fun s' I'=>⟨.bl (!o.isSome),H,I',rfl,by rw [hi];exact hc.now (.bl _) hs⟩
  ·exact back hm
 ·exact back hm
theorem qqT (hu:X.A.units+64<cLine):IxR X (r2 X.K (b2 gIxX)):=by
 intro value slice pins s σ H x y v u Q I rx ry h hs2;obtain ⟨mu,S,d,e,r,S',r1,r2',hs,hm,hc⟩:=rn2 h;have back:gIx d e S=some (r,S')->wpAny (model X.prog X.w) X.A (subscriptTail value slice v u) (EP X pins σ Q) X.xe s:=fun hm=>x_ix value slice pins s σ H x y v u Q I rx ry ⟨mu,S,[d,e],r,S',.cons r1 (.cons r2' .nil),hs,hm,hc⟩ hs2;unfold gIxX at hm;split at hm
 ·rename_i n;split at hm
  ·rename_i kvs en;obtain ⟨k,ek,hm⟩:=oB1.mp hm;obtain ⟨z,ez,hm⟩:=oM1.mp hm;cases hm;cases r1 with
   | @ref _ a hn=>
    cases rx;obtain ⟨o,g,h1,_,_⟩:=qe7 hs hn en (qe9 r2' ek);obtain ⟨v',ev,rv⟩:=h1 _ ez;subst ev;have hT:=qgJ I g;unfold subscriptTail;refine wB1 ?_;rw [getitemInPython_of_ne hT.not_modules];refine wB1 (wpAny_specialOf hT PySem.F.slot_dict_getitem.lookup ?_);have fin:wpAny (model X.prog X.w) X.A (subscripted slice false (.ref a) u) (fun r s₃=>wpAny (model X.prog X.w) X.A (letTemporaryGo value (.ref a) r >>= fun _=>pure r) (EP X pins σ Q) X.xe s₃) X.xe s:=by
     rw [hs2];exact wpAny_operating (wpAny_mono (qjO (by lia) I g ry fun w' s3 I3 rw'=>(⟨v',H,I3,rw',hc.now rv hs⟩:EP X pins σ Q w' s3)) (fun r s₃ h₃=>wB1 (wpAny_letTemporaryGo (wP1 h₃))) fun _ _ x=>x)
    first
     | exact wP1 (wB1 fin)
     | exact wB1 fin
     | exact fin
  ·exact back hm
 ·exact back hm
theorem qoB (hu:X.A.units+64<cLine):PSet X (rU X.K (b3 qfa)):=by
 intro pins s σ H o i v ov iv u Q I ro ri rv h;obtain ⟨mu,S,ds,d,S',hr,hs,hm,hc⟩:=id h;cases hr with
 | cons q1 t1=>cases t1 with
  | cons q2 t2=>cases t2 with
   | cons q3 t3=>
    cases t3;rename_i d1 d2 d3;dsimp only [b3] at hm;have back:qdl d1 d2 d3 S=some (d,S')->wpAny (model X.prog X.w) X.A (setItem ov iv u) (fun _ s'=>∃ H',Inv X pins σ H' s'/\Q H') X.xe s:=fun hm=>qra pins s σ H o i v ov iv u Q I ro ri rv ⟨mu,S,[d1,d2,d3],d,S',.cons q1 (.cons q2 (.cons q3 .nil)),hs,hm,hc⟩;unfold qfa at hm;split at hm
    ·rename_i n;split at hm
     ·rename_i kvs en;obtain ⟨k,ek,hm⟩:=oB1.mp hm;split at hm
      ·rename_i hl;cases hm;cases q1 with
       | ref hn=>
        cases ro;obtain ⟨ws,hw,hk⟩:=hs.dct en hn;have ey:=qe9 q2 ek;subst ey;refine qjN (by lia) I (DPut.k hw (by rw [<- hk.length];exact hl)) ri rv fun s' I'=>⟨_,I',?_⟩;have put:Ext mu mu H (upd H _ (.dK (putK ws k v))):=Ext.put hw trivial (gM1 hn);exact hc _ mu put (hs.put hn hw trivial ⟨_,qau,(hk.put q3).ext put⟩)
      ·cases hm
     ·exact back hm
    ·exact back hm
noncomputable def gIsX:G2:=fun d e S=>match e with
 | .non=>some (.bl (isNon d),S)
 | .bl b=>match d with
  | .bl c=>some (.bl (c == b),S)
  | _=>none
 | _=>none
noncomputable def qjy:G2:=fun d e S=>match e with
 | .non=>some (.bl (!isNon d),S)
 | .bl b=>match d with
  | .bl c=>some (.bl (!(c == b)),S)
  | _=>none
 | _=>none
theorem qkT:OpR X (compareOp .IsNot) (r2 X.K (b2 qjy)):=by
 intro pins s σ H x y u w Q I rx ry h;obtain ⟨mu,S,d,e,r,S',r1,r2',hs,hm,hc⟩:=rn2 h;cases e with
 | non=>exact qpp pins s σ H x y u w Q I rx ry ⟨mu,S,[d,.non],r,S',.cons r1 (.cons r2' .nil),hs,hm,hc⟩
 | bl b=>
  cases d with
  | bl c=>
   cases hm;cases r1;cases r2';cases rx;cases ry;exact isnot_bool ⟨.bl (!(c == b)),H,I,rfl,hc.now (.bl _) hs⟩
  | _=>cases hm
 | _=>cases hm
noncomputable def qe5:FE:=fun _ S=>some (.ref S.length,S++[.dct []])
theorem qdy {pos:Pos}:XE X (.Dict [] [] pos) qe5:=⟨qaW qkN <| by
 rintro σ H Q ⟨r,mu,S,d,S',he,hs,hm,hc⟩ p hp;cases hm;exact hc _ _ (mu++[p]) (Ext.new_ hp) (.ref (qcl hs.len p)) (hs.new hp ⟨[],qau,.nil⟩)⟩
structure XP (X:Cx)(pos:Pos)(ks:List (Option Expr))(vs:List Expr)(l:List (FE×FE)):Prop where
 h:PPs X pos ks vs (l.map fun p=>(tM X.K p.1,tM X.K p.2))
end
section
variable {K:Fg1} {H H':Hp} {mu mu':List Addr} {S:Sto}
end
theorem qic {X:Cx}(i j:Nat){x y:Str}{a b:Expr}{m:FA}{px py pt pos:Pos}{kt k2 pt2}(hc:X.calm=true)(hN:X.N.Nodup)(hi:X.N[i]? = some x)(hj:X.N[j]? = some y)(hij:i≠j)
  (hx:X.env.scope.names.lookup x=some .local) (hy:X.env.scope.names.lookup y=some .local) (ha:XA X [a,b] m)
  (hw:swappedStores [.Tuple [.Name x px,.Name y py] kt pt] (.Tuple [a,b] k2 pt2) X.env=pure (some [x,y]):=by rfl)
  (hs:swapsWithSole [.Tuple [.Name x px,.Name y py] kt pt] (.Tuple [a,b] k2 pt2) pos.line X.env=pure false:=by rfl):
  XS X (.Assign [.Tuple [.Name x px,.Name y py] kt pt] (.Tuple [a,b] k2 pt2) pos) (mAsg (mTup m) (gT 2 (gCs (gN i) (gCs (gN j) gNl)))):=
 ⟨qct (qoQ hc hN hi hj hij hx hy ha.h hw hs) <| by
  rintro E σ H ⟨r,mu,S,f,r',S',he,hs,hm,hc⟩;obtain ⟨⟨d,S1⟩,e1,hm⟩:=oB1.mp hm;obtain ⟨⟨r2,S2⟩,e2,hm⟩:=oB1.mp hm;cases hm;obtain ⟨⟨ds,S3⟩,e3,e1⟩:=oB1.mp e1;dsimp only at e1;split at e1
  ·cases e1;refine ⟨r,mu,S,ds,_,he,hs,e3,fun vs H1 mu1 x1 r1 s1=>?_⟩;dsimp only at e2;rw [gT] at e2;split at e2
   ·cases r1 with
    | nil=>cases e2
    | cons q1 r1=>cases r1 with
     | nil=>cases e2
     | cons q2 r1=>cases r1 with
      | nil=>
       cases e2;exact ⟨_,_,rfl,hc _ H1 mu1 x1 (((he.ext x1).set q1).set q2) s1⟩
      | cons _ _=>cases e2
   ·cases e2
  ·cases e1⟩
end Mi
namespace HT
open PySem PySem.Spec PyProof.Rows
variable {prog:Program} {w:World} {A:Around} {E:Value->Shared->Prop} {s:Shared}
theorem qcJ {t sl:Addr}{items:Array Value}{vl vu:Value}{lo hi:Option Int}{Q:Value->Shared->Prop}(ht:IsTup s.heap t items)(hs:s.heap.IsSliceOf sl vl vu .none)(pl:IsPart vl lo)(pu:IsPart vu hi)
  (hw:sIx items.size 0 lo=0/\sIx items.size items.size hi=items.size) (h:Q (.ref t) s):wpAny (model prog w) A (getItem (.ref t) (.ref sl)) Q E s:=by
 obtain ⟨os,hos,hcs,hds⟩:=id hs;have hTs:s.TypeIs (.ref sl) "slice":=⟨os,hos,hcs⟩;unfold getItem
 try with_reducible refine wpAny_holding ?_
 first | refine wB1 (wP1 ?_) | skip
 refine wB1 (wpAny_sequenceKey ht.typeIs (by decide) ?_);refine wB1 (wpAny_callSpecial?_slot (name:=Str.ofString "__getitem__") ht.typeIs PyProof.Rows.slot_tuple_getitem
  (wE1 PyProof.Rows.slot_tuple_getitem ht.typeIs entry_tuple_getitem ?_ (args_tuple_getitem _ _)))
 show wpAny _ _ (Builtin.Tuple.tupleItemsOf (.ref t) >>= _) _ _ s;refine wB1 (tupleItemsOf_ ht ?_);refine wB1 (wpAny_typeOf hTs ?_);rw [if_pos (by decide)];refine wB1 (qb3 hs pl pu ?_);have hyes:((((sIx items.size 0 lo:Nat):Int) == 0&&(1:Int) == 1&&(sIx items.size items.size hi-sIx items.size 0 lo) == items.size)=true):=by
  rw [hw.1,hw.2];simp
 show wpAny _ _ (if (((sIx items.size 0 lo:Nat):Int) == 0&&(1:Int) == 1&&(sIx items.size items.size hi-sIx items.size 0 lo) == items.size)=true then _ else _) _ _ s;rw [if_pos hyes];refine wB1 ?_;unfold Builtin.Tuple.tupleIsExact;refine wB1 (wpAny_typeOf ht.typeIs (wP1 ?_));rw [if_pos (by decide)]
 first
  | exact wB1 (wpAny_rule (wP1 ⟨_,rfl,wP1 h⟩))
  | exact wB1 (wpAny_rule (wB1 (wP1 ⟨_,rfl,wP1 h⟩)))
end HT
namespace Mi
open PySem PySem.Spec PyProof.Rows L2
noncomputable def rSlW (K:Fg1):V->Option Int->Option Int->Hp->VK->Prop:=fun x lo hi H Q=>∃ a xs,x = .ref a/\SqT K H a xs/\(HT.sIx xs.length 0 lo=0/\HT.sIx xs.length xs.length hi=xs.length)/\Q (.ref a) H
section
variable {X:Cx}
theorem qmy:SlR X (rSlW X.K):=by
 intro pins s σ H x v vl vu lo hi sl Q I rx hs pl pu h;obtain ⟨a,xs,rfl,hx,hw,q⟩:=h;cases rx;obtain ⟨its,r,ht,hz⟩:=I.tuple hx;have hlen:its.toArray.size=xs.length:=by rw [sT1];exact r.length.symm
 refine ⟨"tuple",_,PyProof.Rows.slot_tuple_getitem.lookup,ht.typeIs,?_⟩;exact HT.qcJ ht hs pl pu (by rw [hlen];exact hw) ⟨.ref a,H,I,rfl,q⟩
noncomputable def qiy (S:Sto)(d:D)(lo hi:Option Int):Option (D×Sto):=(qao S d).map fun p=>if p.1=true then (.ref S.length,S++[.lst (Mi.cutD p.2 lo hi)]) else (.tup (Mi.cutD p.2 lo hi),S)
noncomputable def mSlX (m:FE)(lo hi:FO):FE:=fun r S=>(m r S).bind fun p=>(lo r p.2).bind fun a=>(hi r a.2).bind fun b=>qiy b.2 p.1 a.1 b.1
theorem qfV {xs:List D}{lo hi:Option Int}(h:HT.sIx xs.length 0 lo=0/\HT.sIx xs.length xs.length hi=xs.length):Mi.cutD xs lo hi=xs:=by
 unfold Mi.cutD;rw [h.1,h.2,List.drop_zero,Nat.sub_zero,List.take_length]
theorem qbK {e:Expr}{lo hi:Option Expr}{m:FE}{a b:FO}{pos p2:Pos}(h:XE X e m)(hl:XO X lo a)(hh:XO X hi b):XE X (.Subscript e (.Slice lo hi none p2) pos) (mSlX m a b):=
 ⟨qaW (qkL (SlR.or qmy (SlR.or qoy qmz)) h.h hl.h hh.h) <| by
  rintro σ H Q ⟨r,mu,S,d,S',he,hs,hm,hc⟩;obtain ⟨⟨d1,S1⟩,e1,hm⟩:=oB1.mp hm;obtain ⟨⟨o1,S2⟩,e2,hm⟩:=oB1.mp hm;obtain ⟨⟨o2,S3⟩,e3,hm⟩:=oB1.mp hm;refine ⟨r,mu,S,d1,S1,he,hs,e1,fun v H1 mu1 x1 r1 s1=>?_⟩;refine ⟨r,mu1,S1,o1,S2,he.ext x1,s1,e2,fun H2 mu2 x2 s2=>?_⟩;refine ⟨r,mu2,S2,o2,S3,(he.ext x1).ext x2,s2,e3,fun H3 mu3 x3 s3=>?_⟩;obtain ⟨⟨k,xs⟩,e4,hm⟩:=oM1.mp hm;have xx:=(x1.trans x2).trans x3;obtain ⟨c,vs,rfl,q,t⟩:=qag ((r1.ext x2).ext x3) s3 e4;cases k with
  | true=>
   cases hm;right;right;exact ⟨c,vs,rfl,q,fun p hp=>hc _ _ (mu3++[p]) (xx.trans (Ext.new_ hp)) (.ref (qcl s3.len p)) (s3.newL (qjQ t o1 o2) hp)⟩
  | false=>
   simp only [bF1,if_false] at hm;cases hm;by_cases hw:HT.sIx xs.length 0 o1=0/\HT.sIx xs.length xs.length o2=xs.length
   ·left;rw [qfV hw] at hc;exact ⟨c,vs,rfl,q,by rw [<- t.length];exact hw,hc _ _ mu3 xx (.tup q t) s3⟩
   ·right;left;exact ⟨c,vs,rfl,q,by rw [<- t.length];exact hw,fun p hp=>hc _ _ mu3 (xx.trans (Ext.fresh hp)) (.tup (SqT.of qau) ((qjQ t o1 o2).ext (Ext.fresh hp))) (s3.fresh hp)⟩⟩
end
mutual
inductive IsTK (h:Heap):TK->Value->Prop
 | non:IsTK h .non .none
 | int (i t):IsTK h (.int i) (.int i t)
 | tup {a o items n xs}:h.get? a=some o->o.cls = .type "tuple"->o.data = .seq items n->qba h xs items.toList->IsTK h (.tup xs) (.ref a)
inductive qba (h:Heap):List TK->List Value->Prop
 | nil:qba h [] []
 | cons {k v ks vs}:IsTK h k v->qba h ks vs->qba h (k::ks) (v::vs)
end
section
variable {prog:Program} {w:World} {A:Around} {E:Value->Shared->Prop} {s:Shared}
theorem qgl {Q:Int->Shared->Prop}(h:Q 0xFCA86420 {s with toks:=s.toks+1}):wpAny (model prog w) A (pyHash .none) Q E s:=by
 have hT:s.TypeIs .none "NoneType":=rfl;unfold pyHash
 first | unfold pyHashByItsType | skip
 have hv:[Value.none].any Value.onHeap=false:=rfl;refine wB1 ?_;rw [cRoomFor,if_neg (by rw [hv];exact Bool.false_ne_true)];refine wP1 ?_;refine wB1 (wpAny_specialOf hT F.slot_NoneType_hash.lookup ?_);show wpAny _ _ (if (some (Value.builtin "NoneType.__hash__") == some Value.none)=true then _ else _) Q E s;rw [if_neg (by rw [beq_builtin_none];exact Bool.false_ne_true)];refine wB1 (wpAny_specialOf hT F.slot_NoneType_hash.lookup ?_);show wpAny _ _ (callSpecialIfBoundUnlessNone? .none "__hash__" _ >>= _) Q E s;refine wB1 (wpAny_callSpecialIfBoundUnlessNone?_slot hT F.slot_NoneType_hash (wE1 F.slot_NoneType_hash hT F.entry_NoneType_hash (show wpAny _ _ (retInt 0xFCA86420) _ _ s from wpAny_ret_mkInt ?_) (F.args_NoneType_hash_1 _)));exact wP1 h
noncomputable def qhF (prog:Program)(w:World)(k:TK):Prop:=∀ {A:Around} {E:Value->Shared->Prop} {s:Shared} {v:Value} {Q:Int->Shared->Prop},A.units+k.dep<cLine->IsTK s.heap k v->Q k.hash {s with toks:=s.toks+k.draws}->wpAny (model prog w) A (pyHash v) Q E s
theorem qba.split {h:Heap}:∀ {ks:List TK} {vs:List Value},qba h ks vs->ks.length=vs.length:=fun h0=>h0.rec (motive_1:=fun _ _ _=>True) (motive_2:=fun ks vs _=>ks.length=vs.length) trivial (fun _ _=>trivial) (fun _ _ _ _ _=>trivial) rfl (fun _ _ _ ih=>congrArg (· + 1) ih)
theorem qlb {xs:List TK}(all:∀ k∈xs,qhF prog w k):qhF prog w (.tup xs):=by
 intro A E s v Q hu hk h;cases hk with
 | @tup a o items n _ ho hc hd hi=>
  have hT:s.TypeIs (.ref a) "tuple":=⟨o,ho,hc⟩;rw [TK.dep] at hu;unfold pyHash
  first | unfold pyHashByItsType | skip
  first | refine wB1 (wpAny_cRoomFor_or (.inr (by lia)) ?_) | skip
  refine wB1 (wpAny_specialOf hT F.slot_tuple_hash.lookup ?_);show wpAny _ _ (if (some (Value.builtin "tuple.__hash__") == some Value.none)=true then _ else _) Q E s;rw [if_neg (by rw [beq_builtin_none];exact Bool.false_ne_true)];refine wB1 (wpAny_specialOf hT F.slot_tuple_hash.lookup ?_);show wpAny _ _ (callSpecialIfBoundUnlessNone? (.ref a) "__hash__" _ >>= _) Q E s;refine wB1 (wpAny_callSpecialIfBoundUnlessNone?_slot hT F.slot_tuple_hash (wE1 F.slot_tuple_hash hT F.entry_tuple_hash ?_ (F.args_tuple_hash_1 _)));show wpAny _ _ (Builtin.Tuple.tupleItemsOf (.ref a) >>= _) _ _ s;refine wB1 (wpAny_tupleItemsOf ho hd ?_);refine wB1 ?_;rw [<- Array.forIn_toList];refine wpAny_forIn_list _
   (fun rest (b:Array Int) s'=>∃ done left,xs=done++left/\qba s.heap left rest/\b.toList=TK.hashes done/\s'={s with toks:=s.toks+TK.drawsAll done})
   _ ?_ ?_ _ _ ⟨[],xs,rfl,hi,rfl,rfl⟩
  ·rintro x rest b s' ⟨done,left,e,hl,hb,rfl⟩;cases hl with
   | @cons k _ ks' _ h1 hl'=>
    have hm:k∈xs:=by rw [e];simp
    refine wB1 (all k hm (show A.in1.units+k.dep<cLine by have:=TK.dep_mem hm;rw [show A.in1.units=A.units+1 from rfl];lia) h1 ?_)
    first
     | exact wP1 ⟨done++[k],ks',by simp [e],hl',by rw [TK.hashes_app];simp [hb,TK.hashes],by rw [TK.draws_app];simp [TK.drawsAll,Nat.add_assoc]⟩
     | exact wB1 (wP1 (wP1 ⟨done++[k],ks',by simp [e],hl',by rw [TK.hashes_app];simp [hb,TK.hashes],by rw [TK.draws_app];simp [TK.drawsAll,Nat.add_assoc]⟩))
  ·rintro b s' ⟨done,left,e,hl,hb,rfl⟩;cases hl;rw [List.append_nil] at e;subst e;show wpAny _ _ (retInt (Builtin.Tuple.tupleHashOf b.toList)) _ _ _;rw [hb];refine wpAny_ret_mkInt ?_;show wpAny _ _ (if (decide (-(2:Int)^63<=Builtin.Tuple.tupleHashOf (TK.hashes xs))&&decide (Builtin.Tuple.tupleHashOf (TK.hashes xs)<2^63))=true then _ else _) Q E _;rw [TK.hash,TK.draws] at h;unfold reduceHash at h;by_cases hr:(decide (-(2:Int)^63<=Builtin.Tuple.tupleHashOf (TK.hashes xs))&&decide (Builtin.Tuple.tupleHashOf (TK.hashes xs)<2^63))=true
   ·rw [if_pos hr];rw [if_pos hr] at h;exact wP1 (by simpa [Nat.add_assoc] using h)
   ·rw [if_neg hr];rw [if_neg hr] at h;exact wB1 (wpAny_rule (wP1 (by simpa [Nat.add_assoc] using h)))
mutual
theorem qgD:∀ k:TK,qhF prog w k
 | .non=>fun hu hk h=>by cases hk;exact qgl h
 | .int i=>fun hu hk h=>by cases hk;exact wpAny_pyHash_int h
 | .tup xs=>qlb (qho xs)
theorem qho:∀ ks:List TK,∀ k∈ks,qhF prog w k
 | [],k,h=>by simp at h
 | x::xs,k,h=>by
  by_cases e:k=x
  ·rw [e];exact qgD x
  ·exact qho xs k ((List.mem_cons.mp h).resolve_left e)
end
end
theorem IsTK.inj {h:Heap}:∀ {k k':TK} {v:Value},IsTK h k v->IsTK h k' v->k=k':=fun h0=>h0.rec (motive_1:=fun k v _=>∀ k',IsTK h k' v->k=k') (motive_2:=fun k v _=>∀ k',qba h k' v->k=k')
  (fun k' g=>by cases g;rfl) (fun _ _ k' g=>by cases g;rfl)
  (fun e1 c1 d1 t1 ih k' g=>by
   cases g with
   | tup e2 c2 d2 t2=>
    rw [e1] at e2;cases e2;rw [d1] at d2;cases d2;rw [ih _ t2])
  (fun k' g=>by cases g;rfl) (fun _ _ a b k' g=>by cases g with | cons r' t'=>rw [a _ r',b _ t']) _
theorem IsTK.keeps {h h':Heap}{d:Addr}{o:Obj}{es ep}(ho:h.get? d=some o)(hd:o.data = .dict es ep)(hs:Heap.SameBut d h h'):∀ {k:TK} {v:Value},IsTK h k v->IsTK h' k v:=fun h0=>h0.rec (motive_1:=fun k v _=>IsTK h' k v) (motive_2:=fun k v _=>qba h' k v) .non .int
  (fun {a} _ _ _ _ e1 c1 d1 _ ih=>.tup ((hs.2 a (fun z=>by subst z;rw [e1] at ho;cases ho;rw [d1] at hd;cases hd)).trans e1) c1 d1 ih) .nil (fun _ _ a b=>.cons a b)
theorem qba.at {h:Heap}:∀ {ks:List TK} {vs:List Value} (j:Nat) (h1:j<ks.length) (h2:j<vs.length),qba h ks vs->IsTK h ks[j] vs[j]
 | _::_,_::_,0,_,_,.cons r _=>r
 | _::ks,_::vs,j+1,h1,h2,.cons _ t=>qba.at j (by simpa using h1) (by simpa using h2) t
theorem qlx {xs ys:List TK}(hl:xs.length=ys.length):((List.range (min xs.length ys.length)).all fun j=>decide (xs[j]? = ys[j]?))=decide (xs=ys):=by
 by_cases h:xs=ys
 ·subst h;simp
 ·rw [decide_eq_false h,List.all_eq_false];have:∃ j,xs[j]? ≠ ys[j]?:=Classical.byContradiction fun z=>h (List.ext_getElem? fun j=>Classical.byContradiction fun q=>z ⟨j,q⟩);obtain ⟨j,hj⟩:=this;refine ⟨j,?_,by simpa using hj⟩;rw [List.mem_range,hl,Nat.min_self];apply Classical.byContradiction;intro hn;exact hj (by rw [List.getElem?_eq_none (by lia),List.getElem?_eq_none (by lia)])
theorem qqg:∀ (n:Nat) {k k':TK} {A:Around} {s:Shared} {u v:Value},k.dep<=n->A.units+n<cLine->IsTK s.heap k u->IsTK s.heap k' v->SeqAt.EqAt A s u v (decide (k=k')):=by
 intro n
 induction n with
 | zero=>
  intro k k' A s u v hd hu r r';cases r with
  | tup _ _ _ _=>simp [TK.dep] at hd
  | non=>
   cases r' with
   | non=>simpa using SeqAt.EqAt.same (A:=A) (s:=s) Value.none
   | int i t=>simpa [eqV] using qd7 (A:=A) (s:=s) (y:=.non) (x:=.int i) rfl ⟨t,rfl⟩ rfl rfl
   | tup e c d t=>simpa using (qaP (A:=A) (s:=s) (b:=false) (v:=.non) (u:=.none) ⟨_,e,c,_,d⟩ rfl rfl (by lia)).2.1
  | int i t=>
   cases r' with
   | non=>simpa [eqV] using qd7 (A:=A) (s:=s) (y:=.int i) (x:=.non) ⟨t,rfl⟩ rfl rfl rfl
   | int j t'=>
    have:=qd7 (A:=A) (s:=s) (y:=.int i) (x:=.int j) ⟨t,rfl⟩ ⟨t',rfl⟩ rfl rfl;have e:eqV (.int i) (.int j)=decide (TK.int i=TK.int j):=by
     by_cases h:i=j
     ·subst h;simp [eqV]
     ·rw [decide_eq_false (fun z=>h (by injection z))];simp [eqV,h]
    rw [e] at this;exact this
   | tup e c d q=>simpa using (qaP (A:=A) (s:=s) (b:=false) (v:=.int i) (u:=.int i t) ⟨_,e,c,_,d⟩ ⟨t,rfl⟩ rfl (by lia)).2.1
 | succ n ih=>
  intro k k' A s u v hd hu r r';cases r with
  | non=>
   cases r' with
   | non=>simpa using SeqAt.EqAt.same (A:=A) (s:=s) Value.none
   | int i t=>simpa [eqV] using qd7 (A:=A) (s:=s) (y:=.non) (x:=.int i) rfl ⟨t,rfl⟩ rfl rfl
   | tup e c d t=>simpa using (qaP (A:=A) (s:=s) (b:=false) (v:=.non) (u:=.none) ⟨_,e,c,_,d⟩ rfl rfl (by lia)).2.1
  | int i t=>
   cases r' with
   | non=>simpa [eqV] using qd7 (A:=A) (s:=s) (y:=.int i) (x:=.non) ⟨t,rfl⟩ rfl rfl rfl
   | int j t'=>
    have:=qd7 (A:=A) (s:=s) (y:=.int i) (x:=.int j) ⟨t,rfl⟩ ⟨t',rfl⟩ rfl rfl;have e:eqV (.int i) (.int j)=decide (TK.int i=TK.int j):=by
     by_cases h:i=j
     ·subst h;simp [eqV]
     ·rw [decide_eq_false (fun z=>h (by injection z))];simp [eqV,h]
    rw [e] at this;exact this
   | tup e c d q=>simpa using (qaP (A:=A) (s:=s) (b:=false) (v:=.int i) (u:=.int i t) ⟨_,e,c,_,d⟩ ⟨t,rfl⟩ rfl (by lia)).2.1
  | @tup a o items m xs e1 c1 d1 t1=>
   cases r' with
   | non=>simpa using (qaP (A:=A) (s:=s) (b:=false) (v:=.non) (u:=.none) ⟨_,e1,c1,_,d1⟩ rfl rfl (by lia)).1
   | int i t=>simpa using (qaP (A:=A) (s:=s) (b:=false) (v:=.int i) (u:=.int i t) ⟨_,e1,c1,_,d1⟩ ⟨t,rfl⟩ rfl (by lia)).1
   | @tup a2 o2 items2 m2 ys e2 c2 d2 t2=>
    by_cases ha:a=a2
    ·subst ha;have:TK.tup xs=TK.tup ys:=IsTK.inj (.tup e1 c1 d1 t1) (.tup e2 c2 d2 t2);rw [decide_eq_true this];exact .same _
    ·refine .of_refs ha ?_;have l1:=t1.split;have l2:=t2.split;have rc:=SeqAt.RcAt.tuples (A:=A) (s:=s) (e:=fun j=>decide (xs[j]? = ys[j]?)) ⟨o,e1,c1,m,d1⟩ ⟨o2,e2,c2,m2,d2⟩ (by lia) (fun j h1 h2=>by
      have g1:j<xs.length:=by rw [l1];simpa using h1
      have g2:j<ys.length:=by rw [l2];simpa using h2
      rw [TK.dep] at hd;have hm:=TK.dep_mem (List.getElem_mem g1);have q:=ih (k:=xs[j]) (k':=ys[j]) (A:=A.in1) (s:=s) (by lia) (by show A.units+1+n<cLine;lia) (t1.at j g1 (by simpa using h1)) (t2.at j g2 (by simpa using h2));have e:decide (xs[j]? = ys[j]?)=decide (xs[j]=ys[j]):=by
       rw [gG1 g1,gG1 g2];simp
      rw [e];simpa using q)
     have z1:items.size=xs.length:=by rw [l1];simp
     have z2:items2.size=ys.length:=by rw [l2];simp
     rw [z1,z2] at rc;have fin:((List.range (min xs.length ys.length)).all (fun j=>decide (xs[j]? = ys[j]?))&&xs.length == ys.length)=decide (TK.tup xs=TK.tup ys):=by
      by_cases hl:xs.length=ys.length
      ·rw [qlx hl,hl,beq_self_eq_true,Bool.and_true];by_cases h:xs=ys
       ·subst h;simp
       ·rw [decide_eq_false h,decide_eq_false (fun z=>h (by injection z))]
      ·have hb:(xs.length == ys.length)=false:=by simpa using hl
       rw [hb,Bool.and_false,decide_eq_false (fun z=>hl (by injection z with z;rw [z]))]
     rw [fin] at rc;exact rc
theorem qeP {prog:Program}{w:World}:∀ (n:Nat) {k:TK} {A:Around} {E:Value->Shared->Prop} {s:Shared} {v:Value} {Q:Bool->Shared->Prop},k.dep<=n->IsTK s.heap k v->Q true s->wpAny (model prog w) A (eqIsQuiet n v) Q E s:=by
 intro n
 induction n with
 | zero=>
  intro k A E s v Q hd r h;cases r with
  | non=>rw [eqIsQuiet_byValue 0 rfl];exact wP1 h
  | int i t=>rw [eqIsQuiet_byValue 0 rfl];exact wP1 h
  | tup _ _ _ _=>simp [TK.dep] at hd
 | succ n ih=>
  intro k A E s v Q hd r h;cases r with
  | non=>rw [eqIsQuiet_byValue _ rfl];exact wP1 h
  | int i t=>rw [eqIsQuiet_byValue _ rfl];exact wP1 h
  | @tup a o items m xs e1 c1 d1 t1=>
   have hT:s.TypeIs (.ref a) "tuple":=⟨o,e1,c1⟩;rw [TK.dep] at hd;unfold eqIsQuiet;refine wB1 (wpAny_specialOf hT F.slot_tuple_eq.lookup ?_);show wpAny _ _ (isInstance (.ref a) (.type "tuple") >>= _) _ _ s;refine wB1 (wpAny_isInstance hT isSubtype_tuple_tuple ?_);simp only [Bool.not_true,bF1,if_false];refine wB1 (wpAny_seqItems e1 d1 ?_);refine wB1 ?_;show wpAny _ _ (forIn items _ _) _ _ s;rw [<- Array.forIn_toList];refine wpAny_forIn_list _ (fun rest r s'=>r.1=none/\s'=s /\ ∃ ks,qba s.heap ks rest/\TK.depAll ks<=n) _ ?_ ?_ _ _ ⟨rfl,rfl,xs,t1,by lia⟩
   ·rintro v rest r s' ⟨hr,rfl,ks,hk,hn⟩;cases hk with
    | @cons k1 _ ks1 _ q1 q2=>
     rw [TK.depAll] at hn;refine wB1 (ih (k:=k1) (by lia) q1 ?_);simp only [Bool.not_true,bF1,if_false];exact wP1 ⟨rfl,rfl,ks1,q2,by lia⟩
   ·rintro ⟨r1,r2⟩ s' ⟨hr,rfl,_⟩;simp only at hr;subst hr;exact wP1 h
noncomputable def qcr (prog:Program)(w:World):HeapKind prog w TK where
 is:=fun h k a=>IsTK h k (.ref a)/\k.dep<=8
 hash:=TK.hash
 draws:=TK.draws
 room:=fun A=>A.units+8<cLine
 inj:=fun hx hy=>hx.1.inj hy.1
 keeps:=fun x ho hd hs=>⟨x.1.keeps ho hd hs,x.2⟩
 pyHash:=fun hu hk h=>qgD _ (by have:=hk.2;omega) hk.1 h
 eqBool:=fun hu hx hy h=>qqg 8 hx.2 hu hx.1 hy.1 _ _ _ _ h
 quiet:=fun hk h=>qeP 8 hk.2 hk.1 h
noncomputable def gExt:G2:=fun o v S=>match o,v with
 | .ref n,.ref b=>match S[n]?,S[b]? with
  | some (.lst xs),some (.lst ys)=>if xs.length+ys.length<=sizeLine then some (.non,S.set n (.lst (xs++ys))) else none
  | _,_=>none
 | _,_=>none
noncomputable def insN (n:Nat)(k:Int):Nat:=if k<0 then (k+(n:Int)).toNat else min k.toNat n
noncomputable def gIns:G3:=fun o i v S=>match o,i with
 | .ref n,.int k=>match S[n]? with
  | some (.lst xs)=>if-(2^63)<=k/\k<2^63/\xs.length<sizeLine then some (.non,S.set n (.lst (xs.take (insN xs.length k)++v::xs.drop (insN xs.length k)))) else none
  | _=>none
 | _,_=>none
noncomputable def eqsL (f:D->D->Option Bool)(x:D):List D->Option (List Bool)
 | []=>some []
 | y::ys=>(f y x).bind fun b=>(eqsL f x ys).map (b :: ·)
noncomputable def gIdx:G2:=fun o x S=>match o with
 | .ref n=>match S[n]? with
  | some (.lst ys)=>(eqsL (eqN S qaC) x ys).bind fun bs=>if bs.length<2^62 then (bs.findIdx? id).map fun j=>(.int (j:Nat),S) else none
  | _=>none
 | _=>none
theorem qjF (f:D->D->Option Bool)(x:D):∀ {ys:List D} {bs:List Bool},eqsL f x ys=some bs->bs.length=ys.length /\ ∀ (j:Nat) (y:D) (k:Bool),ys[j]? = some y->bs[j]? = some k->f y x=some k
 | [],bs,h=>by cases h;exact ⟨rfl,fun j y k h=>by simp at h⟩
 | y::ys,bs,h=>by
  rw [eqsL] at h;obtain ⟨b,eb,h⟩:=oB1.mp h;obtain ⟨bt,et,h⟩:=oM1.mp h;obtain ⟨l1,a1⟩:=qjF f x et;subst h;refine ⟨by simp [l1],fun j=>?_⟩;cases j with
  | zero=>intro y' k h1 h2;simp at h1 h2;subst h1;subst h2;exact eb
  | succ j=>intro y' k h1 h2;exact a1 j y' k (by simpa using h1) (by simpa using h2)
section
open PySem.MeetsSeq PySem.MeetsSeq2 PySem.MeetsSeq3 PySem.SeqRoads2
theorem qhn {l:Addr}{its:Array Value}{n:Nat}{x:Value}{e:Nat->Bool}{top:Int}{j:Nat}(hj:j<its.size)(ht:(j:Int)<top)(hit:e j=true):∀ (k i:Nat),i+k=j->(∀ m,i<=m->m<j->e m=false) ->
  Meets (Builtin.«list.index.loop» ⟨[.ref l,x,rawInt i,rawInt top],[]⟩)
   (fun A R s=>s.heap.get? l=some {cls:=.type "list",data:=.seq its n}/\(∀ m (h:m<its.size),SeqAt.EqAt A.in1 s its[m] x (e m))/\R (.ok (.ret (.int j s.toks))) {s with toks:=s.toks+1})
 | 0,i,hk,hno,prog,w,A,R,⟨hp,g,d,tk,os⟩,⟨hl,he,h⟩=>by
  have ei:i=j:=by lia
  subst ei
  wp_walk using AutoSeq1.wpAny_loadPart' hl
  rw [show (if (i:Int)<top then its[((i:Nat):Int).toNat]? else none)=some its[i] by simp [ht,hj]];refine wB1 (he i hj prog w _ _ ?_);rw [hit]
  wp_walk
  exact h
 | k+1,i,hk,hno,prog,w,A,R,⟨hp,g,d,tk,os⟩,⟨hl,he,h⟩=>by
  have h1:i<its.size:=by lia
  have h2:(i:Int)<top:=by lia
  wp_walk using AutoSeq1.wpAny_loadPart' hl
  rw [show (if (i:Int)<top then its[((i:Nat):Int).toNat]? else none)=some its[i] by simp [h1,h2]];refine wB1 (he i h1 prog w _ _ ?_);rw [hno i (nR1 i) (by lia)]
  wp_walk
  rw [show ((i:Int)+1)=((i+1:Nat):Int) by push_cast;rfl];have z:=qhn (l:=l) (n:=n) (x:=x) hj ht hit k (i+1) (by lia) (fun m a b=>hno m (by lia) b) prog w A R _ ⟨hl,he,h⟩;exact ⟨plainId_quiet plain_index_loop _,wD1 entry_index_loop (by rw [Around.under_plainId plain_index_loop _];exact z)⟩
theorem qk9 {l:Addr}{its:Array Value}{n:Nat}{x:Value}{e:Nat->Bool}{j:Nat}(hj:j<its.size)(ht:(j:Int)<2^63-1)(hit:e j=true)(hno:∀ m,m<j->e m=false):
  Meets (Builtin.«list.index» ⟨[.ref l,x],[]⟩)
   (fun A R s=>s.heap.get? l=some {cls:=.type "list",data:=.seq its n}/\(∀ m (h:m<its.size),SeqAt.EqAt A.in1 s its[m] x (e m))/\R (.ok (.ret (.int j s.toks))) {s with toks:=s.toks+1}):=by
 intro prog w A R ⟨hp,g,d,tk,os⟩ ⟨hl,he,h⟩
 wp_walk using AutoSeq1.wpAny_loadPart' hl
 rw [show ((fun i:Int=>if i<0 then max 0 (i+(its.size:Int)) else i) ((none:Option Int).getD 0))=((0:Nat):Int) by simp,show ((fun i:Int=>if i<0 then max 0 (i+(its.size:Int)) else i) ((none:Option Int).getD (2^63-1)))=2^63-1 by simp];have z:=qhn (l:=l) (n:=n) (x:=x) hj ht hit j 0 (by lia) (fun m _ b=>hno m b) prog w A R _ ⟨hl,he,h⟩;exact ⟨plainId_quiet plain_index_loop _,wD1 entry_index_loop (by rw [Around.under_plainId plain_index_loop _];exact z)⟩
end
section
variable {X:Cx}
theorem qmu (hu:X.A.units+64<cLine):MtR X "list.index" (fun x xs H Q=>rN X.K (b2 gIdx) (x::xs) H Q):=by
 intro pins s σ H x xs v us Q I rx rv h;obtain ⟨x',y,mu,S,d,e,r',S',e0,r1,r2,hs,hm,hc⟩:=rn2l h;cases e0;unfold gIdx at hm;split at hm
 ·rename_i n;split at hm
  ·rename_i ys en;obtain ⟨bs,eb,hm⟩:=oB1.mp hm;split at hm
   ·rename_i hlen;obtain ⟨j,ej,hm⟩:=oM1.mp hm;cases hm;cases r1 with
    | ref qn=>
     obtain ⟨vs,ev,t⟩:=hs.lst en qn;cases rx;obtain ⟨u,rfl,ru⟩:=rv.one;obtain ⟨z,its,n',rvs,hl,e⟩:=I.lstM ev;obtain ⟨l1,at1⟩:=qjF _ _ eb;have l2:=t.length;have l3:=rvs.length;rw [List.findIdx?_eq_some_iff_getElem] at ej;obtain ⟨hj,hit,hno⟩:=ej;have ats:∀ m (hm:m<its.toArray.size),SeqAt.EqAt X.A.in1 s its.toArray[m] u (bs[m]?.getD false):=fun m hm=>by
      have m1:m<its.length:=by simpa using hm
      obtain ⟨y',ey,q1⟩:=t.getV (i:=m) (v:=vs[m]'(by lia)) (gG1 (by lia));obtain ⟨w',ew,q2⟩:=rvs.get (i:=m) (x:=vs[m]'(by lia)) (gG1 (by lia));have m2:m<bs.length:=by lia
      have e3:its.toArray[m]=w':=by
       have:=gG1 m1;rw [this] at ew;simpa using ew
      rw [e3,gG1 m2];exact (qeA I hs qaC (A:=X.A.in1) (by show X.A.units+1+60<cLine;lia) q1 r2 q2 ru (at1 m y' bs[m] ey (gG1 m2))).1
     refine call_meets F.slot_list_index ⟨_,e,rfl⟩ F.entry_list_index (F.args_list_index_2 _ _)
      (qk9 (n:=n') (e:=fun m=>bs[m]?.getD false) (j:=j) (by simp;lia) (by lia) ?_ ?_) ⟨e,ats,?_⟩
     ·simp only [gG1 hj,Option.getD_some];simpa using hit
     ·intro m hm;have m2:m<bs.length:=by lia
      have:=hno m hm;simp only [gG1 m2,Option.getD_some];simpa using this
     ·exact ⟨.int j,H,I.tok _,⟨_,rfl⟩,hc.now (.int _) hs⟩
   ·cases hm
  ·cases hm
 ·cases hm
end
mutual
noncomputable def kD:D->Option TK
 | .non=>some .non
 | .int i=>some (.int i)
 | .tup xs=>(kDs xs).map .tup
 | _=>none
noncomputable def kDs:List D->Option (List TK)
 | []=>some []
 | x::xs=>(kD x).bind fun k=>(kDs xs).map (k :: ·)
end
noncomputable def keyT:D->Option TK
 | .tup xs=>(kDs xs).bind fun ks=>if (TK.tup ks).dep<=8 then some (.tup ks) else none
 | _=>none
mutual
theorem qrJ:∀ {d:D} {k:TK},kD d=some k->tkD k=d
 | .non,k,h=>by cases h;rfl
 | .int i,k,h=>by cases h;rfl
 | .tup xs,k,h=>by
  rw [kD] at h;obtain ⟨ks,e,h⟩:=oM1.mp h;subst h;rw [tkD,qjm e]
 | .bl _,k,h=>by simp [kD] at h
 | .str _,k,h=>by simp [kD] at h
 | .rol _,k,h=>by simp [kD] at h
 | .fn _,k,h=>by simp [kD] at h
 | .ref _,k,h=>by simp [kD] at h
theorem qjm:∀ {ds:List D} {ks:List TK},kDs ds=some ks->tkDs ks=ds
 | [],ks,h=>by cases h;rfl
 | x::xs,ks,h=>by
  rw [kDs] at h;obtain ⟨k,e1,h⟩:=oB1.mp h;obtain ⟨t,e2,h⟩:=oM1.mp h;subst h;rw [tkDs,qrJ e1,qjm e2]
end
theorem qji {d:D}{k:TK}(h:keyT d=some k):tkD k=d/\k.dep<=8 /\ ∃ xs,k = .tup xs:=by
 cases d with
 | tup xs=>
  rw [keyT] at h;obtain ⟨ks,e,h⟩:=oB1.mp h;split at h
  ·rename_i hd;cases h;exact ⟨by rw [tkD,qjm e],hd,ks,rfl⟩
  ·cases h
 | _=>cases h
section
variable {X:Cx} {pins:List (Addr×Obj)} {σ:L2.St} {H:Hp} {s:Shared} {mu:List Addr}
mutual
theorem qko (I:Inv X pins σ H s):∀ (k:TK) {v:V} {u:Value},Rep X.K H mu (tkD k) v->RelV v u->IsTK s.heap k u
 | .non,v,u,r,q=>by
  rw [tkD] at r;cases r;cases q;exact .non
 | .int i,v,u,r,q=>by
  rw [tkD] at r;cases r;obtain ⟨t,rfl⟩:=q;exact .int i t
 | .tup xs,v,u,r,q=>by
  rw [tkD] at r;cases r with
  | tup h t=>
   cases q;obtain ⟨its,rv,⟨o,e1,e2,n,e3⟩,_⟩:=I.tuple h;exact .tup e1 e2 e3 (by simpa using qir I xs t rv)
theorem qir (I:Inv X pins σ H s):∀ (ks:List TK) {vs:List V} {us:List Value},Reps X.K H mu (tkDs ks) vs->Vals vs us->qba s.heap ks us
 | [],vs,us,r,q=>by rw [tkDs] at r;cases r;cases q;exact .nil
 | k::ks,vs,us,r,q=>by
  rw [tkDs] at r;cases r with
  | cons r t=>cases q with
   | cons q p=>exact .cons (qko I k r q) (qir I ks t p)
end
theorem qhO {α β γ δ:Type}{F:α->β->Prop}{G:γ->δ->Prop}{f:α->γ}{g:β->δ}:∀ {l₁:List α} {l₂:List β},Paired F l₁ l₂->(∀ a b,F a b->G (f a) (g b))->Paired G (l₁.map f) (l₂.map g):=by
 intro a b h g
 induction h with
 | nil=>exact .nil
 | cons r t ih=>exact .cons (g _ _ r) ih
theorem qhP {α β:Type}{F:α->β->Prop}:∀ {l₁ m₁:List α} {l₂ m₂:List β},Paired F l₁ l₂->Paired F m₁ m₂->Paired F (l₁++m₁) (l₂++m₂):=by
 intro a b c d h g
 induction h with
 | nil=>exact g
 | cons r t ih=>exact .cons r ih
theorem KT.length {K:Fg1}:∀ {ks:List (TK×D)} {ws:List (TK×Addr×Value)},KT K H mu ks ws->ks.length=ws.length:=fun h=>Paired.length h
theorem KT.mem {K:Fg1}:∀ {ks:List (TK×D)} {ws:List (TK×Addr×Value)},KT K H mu ks ws -> ∀ x∈ws,x.1.dep<=8/\Rep K H mu (tkD x.1) (.ref x.2.1):=by
 intro ks ws h0 x h
 induction h0 with
 | nil=>cases h
 | cons r t ih=>
  rcases List.mem_cons.mp h with e | e
  ·subst e;rw [<- r.1];exact ⟨r.2.1,r.2.2.1⟩
  ·exact ih e
theorem KT.look {K:Fg1}{k:TK}:∀ {ks:List (TK×D)} {ws:List (TK×Addr×Value)},KT K H mu ks ws ->
  (∀ d,qap ks k=some d -> ∃ p v,atKey ws k=some p/\RelV v p.2/\Rep K H mu d v)/\(atKey ws k).isSome=(qap ks k).isSome:=by
 intro ks ws h
 induction h with
 | nil=>exact ⟨fun d h=>by simp [qap] at h,rfl⟩
 | @cons p q0 ks ws r t ih=>
  obtain ⟨k1,d1⟩:=p;obtain ⟨k2,a2,v2⟩:=q0;obtain ⟨z,d,q,v,rv,r⟩:=r;dsimp only at z q rv r;subst z;obtain ⟨h1,h2⟩:=ih;by_cases hk:k1=k
  ·subst hk;refine ⟨fun d h=>?_,by simp [atKey,qap]⟩;have:d1=d:=by simpa [qap] using h
   subst this;exact ⟨(a2,v2),v,by simp [atKey],rv,r⟩
  ·have e1:qap ((k1,d1)::ks) k=qap ks k:=by simp [qap,List.find?_cons,hk]
   have e2:atKey ((k1,a2,v2)::ws) k=atKey ws k:=by simp [atKey,List.find?_cons,hk]
   rw [e1,e2];exact ⟨h1,h2⟩
theorem KT.put {K:Fg1}{k:TK}{d:D}{v:V}{a:Addr}{u:Value}(hk:k.dep<=8)(qk:Rep K H mu (tkD k) (.ref a))(rv:RelV v u)(q:Rep K H mu d v){ks:List (TK×D)}{ws:List (TK×Addr×Value)}(h:KT K H mu ks ws):KT K H mu (putD ks k d) (storedH ws k a u):=by
 unfold putD storedH;have e:(ks.any fun p=>decide (p.1=k))=(atKey ws k).isSome:=by
  rw [h.look.2];unfold qap;rw [Option.isSome_map,Bool.eq_iff_iff,List.find?_isSome,List.any_eq_true]
 rw [e];split
 ·clear e;refine qhO h fun p w ⟨z,d',k',v',rv',r'⟩=>?_;unfold putAt;by_cases hp:p.1=k
  ·rw [if_pos hp,if_pos (by rw [<- z];exact hp)];exact ⟨z,d',k',v,rv,q⟩
  ·rw [if_neg hp,if_neg (by rw [<- z];exact hp)];exact ⟨z,d',k',v',rv',r'⟩
 ·exact qhP h (.cons ⟨rfl,hk,qk,v,rv,q⟩ .nil)
theorem qjL (I:Inv X pins σ H s){a:Addr}{xs:List (TK×Addr×Value)}{kvs:List (TK×D)}(e:H a=some (.ext (qdv a xs)))(h:KT X.K H mu kvs xs):(a == sysModules)=false/\s.heap.DictOfH (qcr X.prog X.w) a xs:=by
 obtain ⟨⟨h1,h2,o,es,ep,h3,h4,h5,h6⟩,_⟩:=(show qaV X.prog X.w H s.heap a (.ext (qdv a xs)) from I.hok a _ e);exact ⟨h1,o,es,ep,h3,h4,h5,h6,fun x hx=>⟨qko I _ (h.mem x hx).2 rfl,(h.mem x hx).1⟩,h2⟩
theorem qjC {h:Heap}{a:Addr}{xs:List (TK×Addr×Value)}(hd:(a == sysModules)=false)(hm:h.DictOfH (qcr X.prog X.w) a xs):qaV X.prog X.w H h a (.ext (qdv a xs)):=by
 obtain ⟨o,es,ep,h3,h4,h5,h6,h7,h8⟩:=hm;refine ⟨⟨hd,h8,o,es,ep,h3,h4,h5,h6⟩,⟨o,h3⟩,fun g1 g2 ⟨a1,a2,o',es',ep',b3,b4,b5,b6⟩ st=>⟨a1,a2,o',es',ep',st _ b3,b4,b5,b6⟩⟩
end
noncomputable def gInY:G2:=fun d e S=>match e with
 | .ref n=>match S[n]? with
  | some (.dcT kvs)=>(keyT d).map fun k=>(.bl (qap kvs k).isSome,S)
  | _=>gInX d e S
 | _=>gInX d e S
noncomputable def qbH:G2:=fun d e S=>match e with
 | .ref n=>match S[n]? with
  | some (.dcT kvs)=>(keyT d).map fun k=>(.bl (!(qap kvs k).isSome),S)
  | _=>qde d e S
 | _=>qde d e S
noncomputable def gIxY:G2:=fun d e S=>match d with
 | .ref n=>match S[n]? with
  | some (.dcT kvs)=>(keyT e).bind fun k=>(qap kvs k).map fun x=>(x,S)
  | some (.dcF kvs)=>(keyT e).bind fun k=>(qap kvs k).map fun x=>(x,S)
  | _=>gIxX d e S
 | _=>gIxX d e S
noncomputable def qbR:G3:=fun o i v S=>match o with
 | .ref n=>match S[n]? with
  | some (.dcT kvs)=>(keyT i).bind fun k=>if kvs.length<sizeLine then some (.non,S.set n (.dcT (putD kvs k v))) else none
  | some (.dct [])=>match keyT i with
   | some k=>some (.non,S.set n (.dcT [(k,v)]))
   | none=>qfa o i v S
  | _=>qfa o i v S
 | _=>qfa o i v S
section
variable {X:Cx}
theorem qgz {κ:Type}[DecidableEq κ](kvs:List (κ×D))(k:κ)(d:D):(putD kvs k d).length<=kvs.length+1:=by
 unfold putD;split
 ·rw [lM1];lia
 ·simp
theorem qff {h:Heap}{a:Addr}(dd:h.DictOf (qaZ X.prog X.w) a []):h.DictOfH (qcr X.prog X.w) a []:=by
 obtain ⟨o,es,ep,h1,h2,h3,_,h4,_⟩:=dd;have e:es.toList=[]:=by
  generalize es.toList=l at h4;cases h4;rfl
 exact ⟨o,es,ep,h1,h2,h3,e,(fun x hx=>by simp at hx),List.nodup_nil⟩
theorem qcH {A:Around}(hu:A.units+64<cLine):(qcr X.prog X.w).room A.in1:=by
 show A.units+1+8<cLine;lia
theorem qd0 {pins:List (Addr×Obj)}{σ:L2.St}{H:Hp}{s:Shared}{mu:List Addr}(I:Inv X pins σ H s){d:D}{v:V}{u:Value}{k:TK}(r:Rep X.K H mu d v)(q:RelV v u)(h:keyT d=some k):
  ∃ a,u = .ref a/\v = .ref a/\Rep X.K H mu (tkD k) (.ref a)/\k.dep<=8/\(qcr X.prog X.w).is s.heap k a:=by
 obtain ⟨e,hd,xs,ex⟩:=qji h;subst e;have is:=qko I k r q;subst ex;cases id is with
 | @tup a _ _ _ _ _ _ _ _=>
  rw [tkD] at r;cases r with
  | tup h1 h2=>
   cases q;exact ⟨a,rfl,rfl,by rw [tkD];exact .tup h1 h2,hd,is,hd⟩
theorem qrv (hu:X.A.units+64<cLine):OpR X (compareOp .In) (r2 X.K (b2 gInY)):=by
 intro pins s σ H x y u w Q I rx ry h;obtain ⟨mu,S,d,e,r,S',r1,r2',hs,hm,hc⟩:=rn2 h;have back:gInX d e S=some (r,S')->wpAny (model X.prog X.w) X.A (compareOp .In u w) (EP X pins σ Q) X.xe s:=fun hm=>qrw hu pins s σ H x y u w Q I rx ry ⟨mu,S,[d,e],r,S',.cons r1 (.cons r2' .nil),hs,hm,hc⟩;unfold gInY at hm;split at hm
 ·rename_i n;split at hm
  ·rename_i kvs en;obtain ⟨k,ek,hm⟩:=oM1.mp hm;cases hm;cases r2' with
   | ref hn=>
    cases ry;obtain ⟨xs,hx,hk,_⟩:=hs.dcT en hn;obtain ⟨hd,dd⟩:=qjL I hx hk;obtain ⟨a,rfl,rfl,_,_,hi⟩:=qd0 I r1 rx ek;refine wpAny_in_heap (qcH hu) hi hd dd ?_;exact ⟨.bl (atKey xs k).isSome,H,I.tok _,rfl,by rw [hk.look.2];exact hc.now (.bl _) hs⟩
  ·exact back hm
 ·exact back hm
theorem qg8 (hu:X.A.units+64<cLine):OpR X (compareOp .NotIn) (r2 X.K (b2 qbH)):=by
 intro pins s σ H x y u w Q I rx ry h;obtain ⟨mu,S,d,e,r,S',r1,r2',hs,hm,hc⟩:=rn2 h;have back:qde d e S=some (r,S')->wpAny (model X.prog X.w) X.A (compareOp .NotIn u w) (EP X pins σ Q) X.xe s:=fun hm=>qkS hu pins s σ H x y u w Q I rx ry ⟨mu,S,[d,e],r,S',.cons r1 (.cons r2' .nil),hs,hm,hc⟩;unfold qbH at hm;split at hm
 ·rename_i n;split at hm
  ·rename_i kvs en;obtain ⟨k,ek,hm⟩:=oM1.mp hm;cases hm;cases r2' with
   | ref hn=>
    cases ry;obtain ⟨xs,hx,hk,_⟩:=hs.dcT en hn;obtain ⟨hd,dd⟩:=qjL I hx hk;obtain ⟨a,rfl,rfl,_,_,hi⟩:=qd0 I r1 rx ek;refine wpAny_notIn_heap (qcH hu) hi hd dd ?_;exact ⟨.bl (!(atKey xs k).isSome),H,I.tok _,rfl,by rw [hk.look.2];exact hc.now (.bl _) hs⟩
  ·exact back hm
 ·exact back hm
theorem qqk {pins:List (Addr×Obj)}{σ:L2.St}{H:Hp}{s:Shared}{mu:List Addr}(I:Inv X pins σ H s){a:Addr}{xs:List (TK×Addr×Value)}{kvs:List (TK×D)}(e:∃ o u,H a=some (.frz o u)/\qqR a xs o)(h:KT X.K H mu kvs xs):(a == sysModules)=false/\s.heap.DictOfH (qcr X.prog X.w) a xs:=by
 obtain ⟨o,u,e,h1,h2,h4,es,ep,h5,h6⟩:=e;obtain ⟨h3,_⟩:=(show qaV X.prog X.w H s.heap a (.frz o u) from I.hok a _ e);exact ⟨h1,o,es,ep,h3,h4,h5,h6,fun x hx=>⟨qko I _ (h.mem x hx).2 rfl,(h.mem x hx).1⟩,h2⟩
theorem qP (hu:X.A.units+64<cLine):IxR X (r2 X.K (b2 gIxY)):=by
 intro value slice pins s σ H x y v u Q I rx ry h hs2;obtain ⟨mu,S,d,e,r,S',r1,r2',hs,hm,hc⟩:=rn2 h;have back:gIxX d e S=some (r,S')->wpAny (model X.prog X.w) X.A (subscriptTail value slice v u) (EP X pins σ Q) X.xe s:=fun hm=>qqT hu value slice pins s σ H x y v u Q I rx ry ⟨mu,S,[d,e],r,S',.cons r1 (.cons r2' .nil),hs,hm,hc⟩ hs2;have main:∀ kvs a xs,v = .ref a->KT X.K H mu kvs xs->s.heap.DictOfH (qcr X.prog X.w) a xs->((keyT e).bind fun k=>(qap kvs k).map fun x=>(x,S))=some (r,S')->wpAny (model X.prog X.w) X.A (subscriptTail value slice v u) (EP X pins σ Q) X.xe s:=fun kvs a xs ev hk dd hm=>by
  obtain ⟨k,ek,hm⟩:=oB1.mp hm;obtain ⟨z,ez,hm⟩:=oM1.mp hm;cases hm;subst ev;obtain ⟨b,rfl,rfl,_,_,hi⟩:=qd0 I r2' ry ek;obtain ⟨p,v',ep,rv,rd⟩:=hk.look.1 _ ez;have hT:=dd.typeIs;unfold subscriptTail;refine wB1 ?_;rw [getitemInPython_of_ne hT.not_modules];refine wB1 (wpAny_specialOf hT PySem.F.slot_dict_getitem.lookup ?_);have fin:wpAny (model X.prog X.w) X.A (subscripted slice false (.ref a) (.ref b)) (fun r s₃=>wpAny (model X.prog X.w) X.A (letTemporaryGo value (.ref a) r >>= fun _=>pure r) (EP X pins σ Q) X.xe s₃) X.xe s:=by
   rw [hs2];exact wpAny_operating (wpAny_mono (wpAny_getItem_heap (qcH hu) hi dd ep (show EP X pins σ Q p.2 _ from ⟨v',H,I.tok _,rv,hc.now rd hs⟩)) (fun r s₃ h₃=>wB1 (wpAny_letTemporaryGo (wP1 h₃))) fun _ _ x=>x)
  first
   | exact wP1 (wB1 fin)
   | exact wB1 fin
   | exact fin
 unfold gIxY at hm;split at hm
 ·rename_i n;split at hm
  ·rename_i kvs en;cases r1 with
   | @ref _ a hn=>
    cases rx;obtain ⟨xs,hx,hk,_⟩:=hs.dcT en hn;exact main kvs a xs rfl hk (qjL I hx hk).2 hm
  ·rename_i kvs en;cases r1 with
   | @ref _ a hn=>
    cases rx;obtain ⟨xs,hx,hk,_⟩:=(show ObR X.K H mu a (.dcF kvs) from hs.ob n _ a en hn);exact main kvs a xs rfl hk (qqk I hx hk).2 hm
  ·exact back hm
 ·exact back hm
theorem qdi (hu:X.A.units+64<cLine):PSet X (rU X.K (b3 qbR)):=by
 intro pins s σ H o i v ov iv u Q I ro ri rv h;obtain ⟨mu,S,ds,d,S',hr,hs,hm,hc⟩:=id h;cases hr with
 | cons q1 t1=>cases t1 with
  | cons q2 t2=>cases t2 with
   | cons q3 t3=>
    cases t3;rename_i d1 d2 d3;dsimp only [b3] at hm;have back:qfa d1 d2 d3 S=some (d,S')->wpAny (model X.prog X.w) X.A (setItem ov iv u) (fun _ s'=>∃ H',Inv X pins σ H' s'/\Q H') X.xe s:=fun hm=>qoB hu pins s σ H o i v ov iv u Q I ro ri rv ⟨mu,S,[d1,d2,d3],d,S',.cons q1 (.cons q2 (.cons q3 .nil)),hs,hm,hc⟩;unfold qbR at hm;split at hm
    ·rename_i n;split at hm
     ·rename_i kvs en;obtain ⟨k,ek,hm⟩:=oB1.mp hm;split at hm
      ·rename_i hl;cases hm;cases q1 with
       | @ref _ ad hn=>
        cases ro;obtain ⟨xs,hx,hk,hz⟩:=hs.dcT en hn;obtain ⟨hd,dd⟩:=qjL I hx hk;obtain ⟨b,rfl,rfl,rk,dk,hi⟩:=qd0 I q2 ri ek;refine wpAny_setItem_heap (hsz:=hz) (qcH hu) hi dd fun h' dd' hsame=>?_;have hq:∃ q,h'.get? _=some q:=let ⟨q,_,_,hq,_⟩:=dd';⟨q,hq⟩
        have put:Ext mu mu H (upd H ad (.ext (qdv ad (storedH xs k b u)))):=Ext.put hx trivial (gM1 hn);refine ⟨_,qfh I (by rw [hx];exact True.intro) hsame hq (qjC hd dd'),hc _ mu put (hs.put hn hx trivial ⟨_,qau,((hk.put dk rk rv q3).ext put),?_⟩)⟩;rw [<- (hk.put dk rk rv q3).length];have:=qgz kvs k d3;lia
      ·cases hm
     ·rename_i en;split at hm
      ·rename_i k ek;cases hm;cases q1 with
       | @ref _ ad hn=>
        cases ro;obtain ⟨ws,hw,hk⟩:=hs.dct en hn;cases hk;obtain ⟨z,hd,vs,rel,dd⟩:=qli I.hok hw;cases rel;obtain ⟨b,rfl,rfl,rk,dk,hi⟩:=qd0 I q2 ri ek;have dd2:s.heap.DictOfH (qcr X.prog X.w) _ []:=qff dd;refine wpAny_setItem_heap (hsz:=Nat.zero_le _) (qcH hu) hi dd2 fun h' dd' hsame=>?_;have hq:∃ q,h'.get? _=some q:=let ⟨q,_,_,hq,_⟩:=dd';⟨q,hq⟩
        have put:Ext mu mu H (upd H ad (.ext (qdv ad (storedH [] k b u)))):=Ext.put hw trivial (gM1 hn);exact ⟨_,qfh I (by rw [hw];exact True.intro) hsame hq (qjC hd dd'),hc _ mu put (hs.put hn hw trivial ⟨_,qau,KT.ext put (.cons ⟨rfl,dk,rk,v,rv,q3⟩ .nil),(show 1<=sizeLine by decide)⟩)⟩
      ·exact back hm
     ·exact back hm
    ·exact back hm
end
noncomputable def qq1 (i j k:Nat)(ta:TA):TS:=fun D σ H=>ta σ H fun vs H1=>∃ u v w,vs=[u,v,w]/\D.nx (((σ.set i (some u)).set j (some v)).set k (some w)) H1
theorem qmM {X:Cx}{i j k:Nat}{x y z:Str}{es:List Expr}{ta:TA}{px py pz pt pos:Pos}{kt k2 pt2}(hc:X.calm=true)(hN:X.N.Nodup)(hi:X.N[i]? = some x)(hj:X.N[j]? = some y)(hk:X.N[k]? = some z)(hij:i≠j)(hik:i≠k)(hjk:j≠k)
  (hx:X.env.scope.names.lookup x=some .local) (hy:X.env.scope.names.lookup y=some .local) (hz:X.env.scope.names.lookup z=some .local) (ha:PA X es ta)
  (hw:swappedStores [.Tuple [.Name x px,.Name y py,.Name z pz] kt pt] (.Tuple es k2 pt2) X.env=pure (some [x,y,z]))
  (hs:swapsWithSole [.Tuple [.Name x px,.Name y py,.Name z pz] kt pt] (.Tuple es k2 pt2) pos.line X.env=pure false):
  PS X (.Assign [.Tuple [.Name x px,.Name y py,.Name z pz] kt pt] (.Tuple es k2 pt2) pos) (qq1 i j k ta):=by
 intro pins s σ H D I h;rw [exec_Assign_arm];refine wB1 (wpAny_standAt ?_);rw [hs];refine wB1 (wP1 ?_);rw [if_neg (by decide)];refine wB1 (Tuple_ (thn (ha _ pins s σ H _ I h) fun us s1 ⟨vs,H1,I1,r1,a,b,c,ev,fin⟩=>?_));subst ev;obtain ⟨u1,u2,u3,rfl,ra,rb,rc⟩:∃ u1 u2 u3,us=[u1,u2,u3]/\RelV a u1/\RelV b u2/\RelV c u3:=by
  cases r1 with
  | cons p t=>cases t with
   | cons p' t=>cases t with
    | cons p'' t=>cases t;exact ⟨_,_,_,rfl,p,p',p''⟩
 refine wO1 ?_ (by show 3<=sizeLine;decide);have J:Inv X pins σ H1 {s1 with heap:=s1.heap.push {cls:=.type "tuple",data:=.seq [u1,u2,u3].toArray}}:=I1.kept (t':=s1.toks) fun b o e=>hP1 _ e;rw [hw];refine wB1 (wP1 ?_);show wpAny (model X.prog X.w) X.A (do rule "assign.swapped-stores";let items<-unpackItems (.ref s1.heap.objs.size) 3 none;assignInOrder [fun v=>bindName X.env z v,fun v=>bindName X.env y v,fun v=>bindName X.env x v] items.reverse;pure Flow.next) _ _ _;refine wB1 (wpAny_rule (wB1 (unpackItems_tuple (items:= #[u1,u2,u3]) (I.ok.hd hc) (IsTup.new s1.heap _) fun h' grow=>?_)));have J3:=J.kept (h':=h') (t':=s1.toks) fun b o e=>grow b o (nN1 (hL1 e)) e;show wpAny _ _ (assignInOrder [fun v=>bindName X.env z v,fun v=>bindName X.env y v,fun v=>bindName X.env x v] [u3,u2,u1] >>= fun _=>pure Flow.next) _ _ _;refine wB1 (assignInOrder_cons (wpAny_bindName (qbS J3 hN hk (.inl hz) rc (fun s2 J4=>?_) (.inr hz))));refine assignInOrder_cons (wpAny_bindName (qbS J4 hN hj (.inl hy) rb (fun s3 J5=>?_) (.inr hy)));refine assignInOrder_cons (wpAny_bindName (qbS J5 hN hi (.inl hx) ra (fun s4 J6=>assignInOrder_nil (wP1 ?_)) (.inr hx)));rw [List.set_comm _ _ (Ne.symm hij),List.set_comm _ _ (Ne.symm hik),List.set_comm _ _ (Ne.symm hjk)] at J6;exact ⟨_,H1,J6,fin⟩
theorem qkh {X:Cx} (i j k:Nat) {x y z:Str} {es:List Expr} {m:FA} {px py pz pt pos:Pos} {kt k2 pt2} (hc:X.calm=true) (hN:X.N.Nodup) (hi:X.N[i]? = some x) (hj:X.N[j]? = some y) (hk:X.N[k]? = some z) (hij:i≠j) (hik:i≠k) (hjk:j≠k)
  (hx:X.env.scope.names.lookup x=some .local) (hy:X.env.scope.names.lookup y=some .local) (hz:X.env.scope.names.lookup z=some .local) (ha:XA X es m)
  (hw:swappedStores [.Tuple [.Name x px,.Name y py,.Name z pz] kt pt] (.Tuple es k2 pt2) X.env=pure (some [x,y,z]):=by rfl)
  (hs:swapsWithSole [.Tuple [.Name x px,.Name y py,.Name z pz] kt pt] (.Tuple es k2 pt2) pos.line X.env=pure false:=by rfl):
  XS X (.Assign [.Tuple [.Name x px,.Name y py,.Name z pz] kt pt] (.Tuple es k2 pt2) pos) (mAsg (mTup m) (gT 3 (gCs (gN i) (gCs (gN j) (gCs (gN k) gNl))))):=
 ⟨qct (qmM hc hN hi hj hk hij hik hjk hx hy hz ha.h hw hs) <| by
  rintro E σ H ⟨r,mu,S,f,r',S',he,hs,hm,hc⟩;obtain ⟨⟨d,S1⟩,e1,hm⟩:=oB1.mp hm;obtain ⟨⟨r2,S2⟩,e2,hm⟩:=oB1.mp hm;cases hm;obtain ⟨⟨ds,S3⟩,e3,e1⟩:=oB1.mp e1;dsimp only at e1;split at e1
  ·cases e1;refine ⟨r,mu,S,ds,_,he,hs,e3,fun vs H1 mu1 x1 r1 s1=>?_⟩;dsimp only at e2;rw [gT] at e2;split at e2
   ·cases r1 with
    | nil=>cases e2
    | cons q1 r1=>cases r1 with
     | nil=>cases e2
     | cons q2 r1=>cases r1 with
      | nil=>cases e2
      | cons q3 r1=>cases r1 with
       | nil=>
        cases e2;exact ⟨_,_,_,rfl,hc _ H1 mu1 x1 ((((he.ext x1).set q1).set q2).set q3) s1⟩
       | cons _ _=>cases e2
   ·cases e2
  ·cases e1⟩
noncomputable def truD (S:Sto)(d:D):Option Bool:=match d with
 | .non=>some false
 | .bl b=>some b
 | .int i=>some (i != 0)
 | .str y=>if y.length<=sizeLine then some ((y.length:Int) != 0) else none
 | .ref n=>match S[n]? with
  | some (.dct kvs)=>some (!kvs.isEmpty)
  | _=>(qao S d).map fun p=> !p.2.isEmpty
 | _=>(qao S d).map fun p=> !p.2.isEmpty
noncomputable def mTr (m:FE):FT:=fun r S=>(m r S).bind fun p=>(truD p.2 p.1).map fun b=>(b,p.2)
section
variable {K:Fg1} {H:Hp} {mu:List Addr} {S:Sto}
theorem qgg {d:D}{v:V}{b:Bool}(r:Rep K H mu d v)(s:Sim K H mu S)(h:((qao S d).map fun p=> !p.2.isEmpty)=some b):TruV K v H b:=by
 obtain ⟨⟨k,xs⟩,e,h⟩:=oM1.mp h;obtain ⟨a,vs,rfl,q,t⟩:=qag r s e;have z:(!xs.isEmpty) = !vs.isEmpty:=by cases t<;>rfl
 dsimp only at h;rw [z] at h;cases k
 ·exact .inr (.inl ⟨vs,q,h.symm⟩)
 ·exact .inl ⟨vs,q,h.symm⟩
theorem qoq {d:D}{v:V}{b:Bool}(r:Rep K H mu d v)(s:Sim K H mu S)(h:truD S d=some b):TruV K v H b:=by
 cases d with
 | non=>cases r;cases h;rfl
 | bl k=>cases r;cases h;rfl
 | int i=>cases r;cases h;rfl
 | str y=>
  rw [truD] at h;split at h
  ·rename_i hl;cases r;cases h;exact ⟨hl,rfl⟩
  ·cases h
 | tup xs=>exact qgg r s h
 | rol xs=>exact qgg r s h
 | fn x=>cases h
 | ref n=>
  rw [truD] at h;split at h
  ·rename_i kvs en;cases h;cases r with
   | ref hn=>
    obtain ⟨ws,hw,hk⟩:=s.dct en hn;refine .inr (.inr ⟨ws,hw,?_⟩);cases hk<;>rfl
  ·exact qgg r s h
end
theorem qf9 {X:Cx}{x:Expr}{f:FE}(h:XE X x f)(he:∀ whole,isTrue x X.env whole=(do let v<-whole;standAt x.pos;holding [v] (truthy v)):=by intro _;rfl):XT X x (mTr f):=
 ⟨qiM (qkC h.h he) <| by
  rintro σ H Q ⟨r,mu,S,b,S',he,hs,hm,hc⟩;obtain ⟨⟨d1,S1⟩,e1,hm⟩:=oB1.mp hm;obtain ⟨b1,e2,hm⟩:=oM1.mp hm;cases hm;exact ⟨r,mu,S,_,_,he,hs,e1,fun v H1 mu1 x1 r1 s1=>⟨_,qoq r1 s1 e2,hc H1 mu1 x1 s1⟩⟩⟩
section
variable {X:Cx} {pins:List (Addr×Obj)} {σ:L2.St} {H:Hp} {s:Shared} {mu:List Addr}
end
section
variable {X:Cx}
noncomputable def qd3:List D->Option (List Int)
 | []=>some []
 | .int i::ds=>(qd3 ds).map fun is=>i::is
 | _=>none
noncomputable def ddI (ns:List Int):List Int:=ns.foldl step_dedup []
theorem qfg:∀ (ns acc:List Int),acc.Nodup->(ns.foldl step_dedup acc).Nodup
 | [],acc,h=>h
 | n::ns,acc,h=>by
  rw [List.foldl_cons];refine qfg ns _ ?_;unfold step_dedup;split
  ·exact h
  ·rename_i hn;rw [List.nodup_append];refine ⟨h,by simp,fun a ha b hb e=>?_⟩;simp at hb;apply hn;rw [List.any_eq_true];exact ⟨a,ha,by simp [e,hb]⟩
theorem qhw (ns:List Int):firstMet (fun i=>ns.getD i 0) ns.length=ddI ns:=by
 unfold firstMet ddI
 congr 1
 apply List.ext_getElem
 ·simp
 ·intro i h1 h2;simp at h1 ⊢;rw [gG1 (by omega)];rfl
theorem qd2 {K:Fg1}{H:Hp}{mu:List Addr}:∀ {ds:List D} {vs:List V} {us:List Value} {ns:List Int},Reps K H mu ds vs->Vals vs us->qd3 ds=some ns->IntsAre us ns/\ns.length=ds.length:=by
 intro ds vs us ns h0 tt h
 induction h0 using Reps.ind generalizing us ns with
 | hn=>cases h;cases tt;exact ⟨.nil,rfl⟩
 | @hc d v ds vs r t ih=>
  cases d with
  | int i=>
   obtain ⟨c,e,h⟩:=oM1.mp h;cases h;cases r;cases tt with
   | cons r tt=>
    obtain ⟨e1,e2⟩:=ih tt e;obtain ⟨tk,rfl⟩:=r;exact ⟨.cons _ _ e1,by rw [lC1,lC1,e2]⟩
  | _=>cases h
theorem qdt (l:List Int):(fun k'=>l.any (· == k'))=fun k'=>l.contains k':=by
 funext k
 induction l with
 | nil=>rfl
 | cons x xs ih=>rw [List.any_cons,List.contains_cons,ih,show (x == k)=(k == x) from Bool.beq_comm]
noncomputable def qhp:G1:=fun d S=>match qao S d with
 | some (true,xs)=>(qd3 xs).bind fun ns=>if ns.length+1<scanBound then some (.ref S.length,S++[.iset (ddI ns)]) else none
 | _=>none
theorem qr4 {k:Nat}(hr:Room k X.A):qaN X (.type "set") (rN X.K (b1 qhp)):=by
 intro pins s σ H xs us Q I r h;obtain ⟨x,mu,S,d,r',S',rfl,r1,hs,hm,hc⟩:=rn1 h;unfold qhp at hm;split at hm
 ·rename_i ys e1;obtain ⟨ns,e,hm⟩:=oB1.mp hm;split at hm
  ·rename_i hl;cases hm;obtain ⟨a,vs,rfl,q,t⟩:=qag r1 hs e1;cases r with
   | cons rv rt=>
    cases rt;cases rv;obtain ⟨its,vv,⟨o,n,ho,hcl,hdn,hd⟩,_⟩:=I.list q;obtain ⟨hi,hlen⟩:=qd2 t vv e;have hsz:its.toArray.size=ns.length:=by rw [sT1,hi.length]
    refine PySem.call_set_list (items:=its.toArray) (ns:=ns) hr.hd ⟨o,ho,hcl,⟨n,hd⟩⟩ (by simpa using hi) (by rw [hsz];exact hl) fun h' tk hS hk=>?_;rw [hsz,qhw] at hS;have nd:(ddI ns).Nodup:=qfg ns [] List.nodup_nil;have fe:=qdt (ddI ns);rw [fe] at hS;refine ⟨.ref s.heap.objs.size,upd H s.heap.objs.size (.set (fun k=>(ddI ns).contains k) (ddI ns).length),I.laid (fun b u z=>hk b u (hL1 z) z) (nR1 _) hS,rfl,?_⟩;exact hc _ _ (mu++[s.heap.objs.size]) (Ext.new_ I.fresh) (.ref (qcl hs.len _)) (hs.new I.fresh ⟨qau,nd⟩)
  ·cases hm
 ·cases hm
noncomputable def qjx:G1:=fun d S=>match d with
 | .ref n=>match S[n]? with
  | some (.iset xs)=>some (.int xs.length,S)
  | _=>gLen d S
 | _=>gLen d S
theorem qqt:qaN X (.builtin "len") (rN X.K (b1 qjx)):=by
 intro pins s σ H xs us Q I r h;obtain ⟨x,mu,S,d,r',S',hx,r1,hs,hm,hc⟩:=rn1 h;have hm0:=hm;unfold qjx at hm;split at hm
 ·rename_i n;split at hm
  ·rename_i ys e;cases hm;subst hx;cases r1 with
   | ref hn=>
    obtain ⟨ha,nd⟩:=hs.iset e hn;cases r with
    | cons rv rt=>
     cases rt;cases rv;have so:=I.hok _ _ ha;obtain ⟨o,es,ep,t,ho,hex,hd,_,_,hlt,hf,hn⟩:=so;refine PySem.call_len_set ho hex hd hf (by unfold scanBound at hlt;lia) ?_;refine ⟨.int es.size,H,I.tok _,⟨_,rfl⟩,?_⟩;rw [hn];exact hc.now (.int _) hs
  ·exact qa8 pins s σ H xs us Q I r (by subst hx;exact ⟨mu,S,[_],r',S',.cons r1 .nil,hs,(show b1 gLen [_] S=_ from hm),hc⟩)
 ·exact qa8 pins s σ H xs us Q I r (by subst hx;exact ⟨mu,S,[_],r',S',.cons r1 .nil,hs,(show b1 gLen [_] S=_ from hm),hc⟩)
noncomputable def qh0:G2:=fun d e S=>match d,e with
 | .ref n,.int k=>match S[n]? with
  | some (.lst xs)=>if-(2^63)<=k/\k<2^63/\xs.length*k.toNat<=sizeLine then some (.ref S.length,S++[.lst (List.replicate k.toNat xs).flatten]) else none
  | _=>none
 | _,_=>none
theorem Reps.rep {K:Fg1}{H:Hp}{mu:List Addr}{ds:List D}{vs:List V}(r:Reps K H mu ds vs):∀ k:Nat,Reps K H mu (List.replicate k ds).flatten (List.replicate k vs).flatten
 | 0=>.nil
 | k+1=>by rw [List.replicate_succ,List.replicate_succ,List.flatten_cons,List.flatten_cons];exact Reps.append r (Reps.rep r k)
theorem qlO:OpR X (binaryOp .Mult) (r2 X.K (b2 qh0)):=by
 intro pins s σ H x y u w Q I rx ry h;obtain ⟨mu,S,d,e,r,S',r1,r2,hs,hm,hc⟩:=rn2 h;unfold qh0 at hm;split at hm
 ·rename_i n k;split at hm
  ·rename_i xs en;split at hm
   ·rename_i hl;cases hm;cases r1 with
    | ref qn=>
     cases r2;obtain ⟨vs,ev,t⟩:=hs.lst en qn;refine qpf pins s σ H _ _ u w Q I rx ry ⟨_,k,vs,rfl,rfl,ev,hl.1,hl.2.1,by rw [<- t.length];exact hl.2.2,fun p hp=>?_⟩;exact hc _ _ (mu++[p]) (Ext.new_ hp) (.ref (qcl hs.len p)) (hs.newL (Reps.rep t k.toNat) hp)
   ·cases hm
  ·cases hm
 ·cases hm
end
@[elab_as_elim] theorem ln0 {P:List Value->Prop}{us:List Value}(l:us.length=0)(f:P []):P us:=by
 cases us with
 | nil=>exact f
 | cons _ _=>cases l
@[elab_as_elim] theorem ln1 {P:List Value->Prop}{us:List Value}(l:us.length=1)(f:∀ a,P [a]):P us:=by
 cases us with
 | nil=>cases l
 | cons a us=>exact ln0 (P:=fun us=>P (a::us)) (Nat.succ.inj l) (f a)
@[elab_as_elim] theorem ln2 {P:List Value->Prop}{us:List Value}(l:us.length=2)(f:∀ a b,P [a,b]):P us:=by
 cases us with
 | nil=>cases l
 | cons a us=>exact ln1 (P:=fun us=>P (a::us)) (Nat.succ.inj l) (f a)
@[elab_as_elim] theorem ln3 {P:List Value->Prop}{us:List Value}(l:us.length=3)(f:∀ a b c,P [a,b,c]):P us:=by
 cases us with
 | nil=>cases l
 | cons a us=>exact ln2 (P:=fun us=>P (a::us)) (Nat.succ.inj l) (f a)
@[elab_as_elim] theorem ln4 {P:List Value->Prop}{us:List Value}(l:us.length=4)(f:∀ a b c d,P [a,b,c,d]):P us:=by
 cases us with
 | nil=>cases l
 | cons a us=>exact ln3 (P:=fun us=>P (a::us)) (Nat.succ.inj l) (f a)
end Mi
namespace HT
open PySem PySem.Spec PyProof.Rows
variable {prog:Program} {w:World} {A:Around} {E:Value->Shared->Prop} {s:Shared}
end HT
namespace Mi
open PySem PySem.Spec PyProof.Rows L2
section
variable {X:Cx}
end
end Mi
namespace HT
open PySem PySem.Spec PyProof.Rows
section
variable {prog:Program} {w:World} {A:Around} {R:Result->Shared->Prop} {I ax L:Addr} {xs:Array Value}
end
section
variable {prog:Program} {w:World} {A:Around} {E:Value->Shared->Prop} {s:Shared}
end
end HT
namespace Mi
open PySem PySem.Spec PyProof.Rows L2
section
variable {X:Cx}
noncomputable def gStr:G1:=fun d S=>match d with
 | .int i=>if i.natAbs.log2<1920 then some (.str (toString i),S) else none
 | _=>none
theorem qr3:qaN X (.type "str") (rN X.K (b1 gStr)):=by
 intro pins s σ H xs us Q I r h;obtain ⟨x,mu,S,d,r',S',rfl,r1,hs,hm,hc⟩:=rn1 h;cases d with
 | int i=>
  dsimp only [gStr] at hm;split at hm
  ·rename_i hl;cases hm;cases r1;exact qfY pins s σ H _ us Q I r ⟨_,rfl,hl,hc.now (.str _) hs⟩
  ·cases hm
 | _=>cases hm
end
section
variable {elt tg iter tg2 iter2 tg3 iter3:Expr} {ifs ifs2 ifs3:List Expr} {scope:Scope} {pos:Pos}
end
section
variable {X:Cx}
end
noncomputable def insI (a:Int):List Int->List Int
 | []=>[a]
 | b::l=>if a<=b then a::b::l else b::insI a l
noncomputable def qb4:List Int->List Int
 | []=>[]
 | a::l=>insI a (qb4 l)
theorem qd4 (a:Int):∀ l:List Int,(insI a l).Perm (a::l)
 | []=>.refl _
 | b::l=>by
  rw [insI];split
  ·exact .refl _
  ·exact ((qd4 a l).cons b).trans (.swap _ _ _)
theorem qbM:∀ l:List Int,(qb4 l).Perm l
 | []=>.refl _
 | a::l=>(qd4 a _).trans ((qbM l).cons a)
theorem qjs {a:Int}:∀ {l:List Int},l.Pairwise (· <= ·)->(insI a l).Pairwise (· <= ·)
 | [],_=>List.pairwise_singleton _ _
 | b::l,h=>by
  rw [List.pairwise_cons] at h;rw [insI];split
  ·rename_i hab;rw [List.pairwise_cons,List.pairwise_cons];exact ⟨fun x hx=>by
    rcases List.mem_cons.mp hx with z | z
    ·lia
    ·have:=h.1 x z;lia,h.1,h.2⟩
  ·rename_i hab;rw [List.pairwise_cons];refine ⟨fun x hx=>?_,qjs h.2⟩;rcases List.mem_cons.mp ((qd4 a l).mem_iff.mp hx) with z | z
   ·lia
   ·exact h.1 x z
theorem qgX:∀ l:List Int,(qb4 l).Pairwise (· <= ·)
 | []=>.nil
 | a::l=>qjs (qgX l)
theorem qiJ:∀ {a b:List Int},a.Perm b->a.Pairwise (· <= ·)->b.Pairwise (· <= ·)->a=b
 | [],b,p,_,_=>(List.nil_perm.mp p).symm
 | x::a,[],p,_,_=>absurd p.length_eq (by simp)
 | x::a,y::b,p,h1,h2=>by
  rw [List.pairwise_cons] at h1 h2;have e:x=y:=by
   have hx:=p.mem_iff.mp (mS1 (a:=x) (l:=a));have hy:=p.mem_iff.mpr (mS1 (a:=y) (l:=b));rcases List.mem_cons.mp hx with z | z
   ·exact z
   ·rcases List.mem_cons.mp hy with z' | z'
    ·exact z'.symm
    ·have:=h2.1 x z;have:=h1.1 y z';lia
  subst e;rw [qiJ (List.perm_cons x |>.mp p) h1.2 h2.2]
noncomputable def qgC:List D->Option (List Int)
 | []=>some []
 | .int i::l=>(qgC l).map fun t=>i::t
 | _=>none
section
variable {X:Cx}
theorem qjq {K:Fg1}{H:Hp}{mu:List Addr}:∀ {ds:List D} {vs:List V} {us:List Value} {ns:List Int},Reps K H mu ds vs->Vals vs us->qgC ds=some ns->IntsAre us ns:=by
 intro ds
 induction ds with
 | nil=>intro vs us ns r v h;cases r;cases v;cases h;exact .nil
 | cons d ds ih=>
  intro vs us ns r v h;cases r with
  | cons r1 t=>
   cases v with
   | cons q1 tt=>
    cases r1
    case int i=>
     obtain ⟨m,e,h⟩:=oM1.mp h;subst h;obtain ⟨tk,rfl⟩:=q1;exact .cons i tk (ih t tt e)
    all_goals cases h
theorem qjr:∀ {us:List Value} {ns:List Int},IntsAre us ns->Vals (ns.map V.int) us:=by
 intro us ns h
 induction h with
 | nil=>exact .nil
 | cons i t _ ih=>exact .cons ⟨t,rfl⟩ ih
end
end Mi
namespace Mi
open PySem PySem.Spec PyProof.Rows L2
section
variable {X:Cx}
end
theorem qay (n:Nat):∀ ns:List Int,D.unds n (ns.map D.int)=true
 | []=>rfl
 | _::ns=>by rw [mP1,D.unds,qay n ns];rfl
theorem qjw {n:Nat}{d:D}{S:Sto}(h:S.length=n):gc n (d,S)=(d,S):=by
 unfold gc;split
 ·rw [show (d,S).2=S from rfl,<- h,List.take_length]
 ·rfl
theorem qjX {n:Nat}{f:FN}{ds:List D}{S S1:Sto}{d:D}(h:f ds []=some (d,S1))(hn:ds.length=n)(hu:D.unds 0 ds=true)(hd:d.und 0=true):qaf n f ds S=some (d,S):=by
 unfold qaf qh5;rw [if_pos hn,if_pos hu,h,oP1,if_pos hd]
theorem qfm {n:Nat}{f:FN}{ds:List D}{S S1:Sto}{d:D}(h:f ds []=some (d,S1))(hn:ds.length=n)(hu:D.unds 0 ds=true)(hd:d.und 0=false):qaf n f ds S=some (d.sh S.length,S++S1.map (Ob.sh S.length)):=by
 unfold qaf qh5;rw [if_pos hn,if_pos hu,h,oP1,if_neg (by dsimp only;rw [hd];decide)]
theorem qeb {n:Nat}{f:FN}{ds:List D}{S S1:Sto}{d:D}(h:f ds S=some (d,S1))(hn:ds.length=n)(hu:D.unds 0 ds=false):qaf n f ds S=some (gc S.length (d,S1)):=by
 unfold qaf qh5;rw [if_pos hn,if_neg (by rw [hu];decide),h,oP1]
theorem qj2 {n:Nat}{f:FN}{ds:List D}{S S1:Sto}{d:D}(h:f ds S=some (d,S1))(hn:ds.length=n)(hu:D.unds 0 ds=false)(hl:S1.length=S.length):qaf n f ds S=some (d,S1):=by
 rw [qeb h hn hu,qjw hl]
theorem qi3 {i j:Int}(h1: -(2^64)<i)(h2:i<2^64):qaY i j=true:=by
 unfold qaY;simp only [Bool.or_eq_true,bA1,decide_eq_true_eq];exact .inl (.inl ⟨h1,h2⟩)
theorem qna {i j:Int}(h1: -(2^64)<j)(h2:j<2^64):qaY i j=true:=by
 unfold qaY;simp only [Bool.or_eq_true,bA1,decide_eq_true_eq];exact .inl (.inr ⟨h1,h2⟩)
theorem qaQ {S:Sto}{n:Nat}{xs:List D}(h:S[n]? = some (.lst xs)):okC S [(n,xs)]=true:=by
 rw [okC,h];simp [D.sames_refl,okC]
noncomputable def refs (n:Nat):Nat->List D
 | 0=>[]
 | k+1=>.ref n::refs (n+1) k
theorem qdA {n:Nat}:∀ {xs:List D} {x:D},D.unds n xs=true->x∈xs->x.und n=true
 | y::ys,x,h,hx=>by
  rw [D.unds,bA1] at h;rcases List.mem_cons.mp hx with e | e
  ·rw [e];exact h.1
  ·exact qdA h.2 e
open Classical in
section
variable {prog:Program} {w:World} {A:Around} {E:Value->Shared->Prop} {s:Shared} {κ:SortKind} {ws:List Value} {a₀:Array Keyed}
end
section
variable {prog:Program} {w:World} {A:Around} {E:Value->Shared->Prop} {s:Shared}
end
section
variable {prog:Program} {w:World} {A:Around} {E:Value->Shared->Prop} {R:Result->Shared->Prop}
end
section
variable {prog:Program} {w:World} {A:Around} {E:Value->Shared->Prop} {s:Shared}
end
section
variable {X:Cx}
end
section
variable {prog:Program} {w:World} {A:Around} {E:Value->Shared->Prop} {s:Shared}
end
section
variable {prog:Program} {w:World} {A:Around} {E:Value->Shared->Prop} {R:Result->Shared->Prop}
end
section
variable {X:Cx}
theorem KT.keys {K:Fg1}{H:Hp}{mu:List Addr}:∀ {ks:List (TK×D)} {ws:List (TK×Addr×Value)},KT K H mu ks ws->Reps K H mu (ks.map fun p=>tkD p.1) (ws.map fun x=>V.ref x.2.1)
 | _,_,.nil=>.nil
 | _,_,.cons ⟨z,d,k,_⟩ t=>.cons k (KT.keys t)
end
section
variable {X:Cx} {pins:List (Addr×Obj)} {σ:L2.St} {H:Hp} {s:Shared} {a:Addr} {u v:HO}
end
section
variable {K:Fg1} {H H':Hp} {mu mu':List Addr} {S:Sto} {n:Nat} {a:Addr} {o:Obj} {u:HO}
end
noncomputable def Ris (xs:Array Nat):Prop:=xs.toList.Pairwise (· < ·)
theorem Ris.lt {xs:Array Nat}(h:Ris xs){a b u v:Nat}(hab:a<b)(ea:xs[a]? = some u)(eb:xs[b]? = some v):u<v:=by
 rw [<- aT1] at ea eb;obtain ⟨la,ea⟩:=gE1.mp ea;obtain ⟨lb,eb⟩:=gE1.mp eb;have:=List.pairwise_iff_getElem.mp h a b la lb hab;rw [ea,eb] at this;exact this
structure Bs (xs:Array Nat)(j i:Nat):Prop where
 le:i<=xs.size
 lo:∀ k v,xs[k]? = some v->k<i->v<j
 hi:∀ k v,xs[k]? = some v->i<=k->j<=v
theorem Bs.uniq {xs:Array Nat}{j i i':Nat}(h:Bs xs j i)(h':Bs xs j i'):i=i':=by
 rcases Nat.lt_trichotomy i i' with z | z | z
 ·have hs:i<xs.size:=nL1 z h'.le;have e:=aG1 hs;have:=h.hi _ _ e (nR1 _);have:=h'.lo _ _ e z;lia
 ·exact z
 ·have hs:i'<xs.size:=nL1 z h.le;have e:=aG1 hs;have:=h'.hi _ _ e (nR1 _);have:=h.lo _ _ e z;lia
theorem qn2 {xs:Array Nat}{j:Nat}(hr:Ris xs):∀ n lo hi:Nat,lo<=hi->hi<=xs.size->hi-lo<=n->(∀ k v,xs[k]? = some v->k<lo->v<j)->(∀ k v,xs[k]? = some v->hi<=k->j<=v)->Bs xs j (SetTable.below.go xs j n lo hi)
 | 0,lo,hi,h1,h2,h3,h4,h5=>by
  have:lo=hi:=by lia
  subst this;exact ⟨h2,h4,h5⟩
 | n + 1,lo,hi,h1,h2,h3,h4,h5=>by
  rw [SetTable.below.go];by_cases hl:lo<hi
  ·rw [if_pos hl];have hm:(lo+hi)/2<xs.size:=by lia
   have em:=aG1 hm;have eg:xs.getD ((lo+hi)/2) j=xs[(lo+hi)/2]:=by simp [Array.getD,hm]
   dsimp only;rw [eg];by_cases hc:xs[(lo+hi)/2]<j
   ·rw [if_pos hc];refine qn2 hr n _ _ (by lia) h2 (by lia) (fun k v e hk=>?_) h5;rcases Nat.lt_or_ge k ((lo+hi)/2) with z | z
    ·have:=hr.lt z e em;lia
    ·have:k=(lo+hi)/2:=by lia
     subst this;rw [em] at e;cases e;exact hc
   ·rw [if_neg hc];refine qn2 hr n _ _ (by lia) (by lia) (by lia) h4 fun k v e hk=>?_;rcases Nat.lt_or_ge ((lo+hi)/2) k with z | z
    ·have:=hr.lt z em e;lia
    ·have:k=(lo+hi)/2:=by lia
     subst this;rw [em] at e;cases e;lia
  ·rw [if_neg hl];have:lo=hi:=by lia
   subst this;exact ⟨h2,h4,h5⟩
theorem qdK {xs:Array Nat}(hr:Ris xs)(j:Nat):Bs xs j (SetTable.below xs j):=
 qn2 hr _ 0 _ (Nat.zero_le _) (nR1 _) (by lia) (fun _ _ _ h=>absurd h (Nat.not_lt_zero _)) fun k v e h=>by
  have:=(Array.getElem?_eq_some_iff.mp e).1;lia
theorem qcZ {α:Type}(xs:Array α)(p:Nat)(x:α):(SetTable.insertAt xs p x).toList=xs.toList.take p++x::xs.toList.drop p:=by
 unfold SetTable.insertAt;rw [Array.toList_append,Array.toList_push,Array.toList_extract,Array.toList_extract];simp [List.extract_eq_drop_take];rw [List.take_of_length_le (by simp)]
theorem qiI {xs:Array Nat}(hr:Ris xs){j:Nat}(hn:xs[SetTable.below xs j]? ≠ some j):Ris (SetTable.insertAt xs (SetTable.below xs j) j):=by
 have b:=qdK hr j;unfold Ris;rw [qcZ,List.pairwise_append,List.pairwise_cons];have lo:∀ v∈xs.toList.take (SetTable.below xs j),v<j:=fun v hv=>by
  obtain ⟨k,hk⟩:=List.getElem?_of_mem hv;rw [List.getElem?_take] at hk;split at hk
  ·rename_i hlt;exact b.lo k v (by rw [<- aT1];exact hk) hlt
  ·cases hk
 have hi:∀ v∈xs.toList.drop (SetTable.below xs j),j<v:=fun v hv=>by
  obtain ⟨k,hk⟩:=List.getElem?_of_mem hv;rw [List.getElem?_drop,aT1] at hk;have h1:=b.hi _ v hk (Nat.le_add_right _ _);rcases Nat.lt_or_ge j v with z | z
  ·exact z
  ·exfalso;have hjv:v=j:=by lia
   subst hjv;cases k with
   | zero=>exact hn hk
   | succ k=>
    have hs:SetTable.below xs v<xs.size:=by have:=(Array.getElem?_eq_some_iff.mp hk).1;lia
    have e:=aG1 hs;have:=b.hi _ _ e (nR1 _);have:=hr.lt (by lia) e hk;lia
 refine ⟨hr.sublist (List.take_sublist _ _),⟨hi,hr.sublist (List.drop_sublist _ _)⟩,fun a ha c hc=>?_⟩;rcases List.mem_cons.mp hc with z | z
 ·rw [z];exact lo a ha
 ·exact Nat.lt_trans (lo a ha) (hi c z)
structure TS (l:Bool)(t:SetTable):Prop where
 up:Ris t.place
 du:t.dummies = #[]
 ld:t.led=l
theorem qdG {t:SetTable}(hd:t.dummies = #[])(j:Nat):SetTable.has t.dummies j=false:=by rw [hd];rfl
theorem qfu {t:SetTable}(hd:t.dummies = #[]){f:Nat->Int}{h:Int}:∀ (n:Nat) (p:SetTable.Probe) (j:Nat) (d:Option Nat),p.dummy=none->SetTable.probe.go t f h n p=some (.empty j d)->d=none/\t.place[SetTable.below t.place j]? ≠ some j
 | 0,p,j,d,_,e=>by rw [SetTable.probe.go] at e;cases e
 | n+1,p,j,d,hp,e=>by
  have adv:(t.advance p).dummy=none:=by
   unfold SetTable.advance;split
   ·exact hp
   ·dsimp only;exact hp
  rw [SetTable.probe.go] at e;unfold SetTable.slot at e;dsimp only at e;rw [qdG hd] at e;by_cases hc:(t.place[SetTable.below t.place p.j]? == some p.j)=true
  ·rw [if_pos hc] at e;dsimp only at e;split at e
   ·cases e
   ·exact qfu hd n _ j d adv e
  ·rw [if_neg hc,if_neg (by decide)] at e;dsimp only at e;cases e;refine ⟨hp,fun z=>hc ?_⟩;rw [z];simp
theorem qnM {t:SetTable}(hd:t.dummies = #[]){h:Int}{j:Nat}{b:Bool}(e:t.freeSlot h=some (j,b)):t.place[SetTable.below t.place j]? ≠ some j:=by
 unfold SetTable.freeSlot at e;split at e
 ·rename_i j' d ep;obtain ⟨rfl,hn⟩:=qfu hd _ _ _ _ rfl ep;cases e;exact hn
 ·cases e
theorem qdB {l:Bool}{t:SetTable}(h:TS l t)(n:Nat):TS l (t.standIn n):=by
 refine ⟨?_,rfl,h.ld⟩;show (Array.range n).toList.Pairwise (· < ·);rw [Array.toList_range];exact List.pairwise_lt_range
theorem qqV {l:Bool}{t:SetTable}(h:TS l t)(n:Nat):TS l (t.orStandIn n):=by
 unfold SetTable.orStandIn;split
 ·exact h
 ·exact qdB h n
theorem qon {l:Bool}{t:SetTable}(ht:TS l t)(es:Array (Int×Value))(h:Int)(x:Value):TS l (layNew t es h x).2.1:=by
 unfold layNew;split
 ·rename_i j b e;show TS l ((t.put j).1.orStandIn _);refine qqV (t:=(t.put j).1) ⟨?_,?_,ht.ld⟩ _
  ·exact qiI ht.up (qnM ht.du e)
  ·show (if SetTable.has t.dummies j=true then _ else t.dummies) = #[];rw [qdG ht.du,if_neg (by decide)];exact ht.du
 ·exact qdB ht _
theorem qfb {α:Type}(f:Nat->Option α):∀ l:List Nat,((l.filterMap fun j=>(f j).map (j,·)).map (·.1)).Sublist l
 | []=>.slnil
 | a::l=>by
  rw [List.filterMap_cons];cases f a with
  | none=>exact (qfb f l).cons a
  | some x=>exact (qfb f l).cons₂ a
theorem qmr {l p:Bool}{m fi mo:Nat}{hs:Array Int}{t:SetTable}{ord:Array Nat}(e:SetTable.laid m fi mo l p hs=some (t,ord)):TS l t:=by
 unfold SetTable.laid at e;obtain ⟨ow,_,e⟩:=oB1.mp e;cases e;refine ⟨?_,rfl,rfl⟩;unfold Ris;dsimp only;exact List.pairwise_lt_range.sublist (by simpa using qfb (fun j=>ow.getD j none) (List.range (m+1)))
theorem qkm {l:Bool}{t:SetTable}(ht:TS l t)(es:Array (Int×Value))(n:Nat):TS l (relayAll t es n).2.1:=by
 unfold relayAll;split
 ·rename_i t' ord e;dsimp only;split
  ·have:=qmr e;rw [ht.ld] at this;exact this
  ·exact qdB ht _
 ·exact qdB ht _
theorem qkn (l:Bool):TS l (SetTable.fresh 0 0 l):=⟨List.Pairwise.nil,rfl,rfl⟩
theorem qn0 {xs:Array Nat}(hr:Ris xs){i:Nat}(hi:i<xs.size):SetTable.below xs (xs[i]+1)=i+1:=by
 refine (qdK hr _).uniq ⟨hi,fun k v e hk=>?_,fun k v e hk=>?_⟩
 ·rcases Nat.lt_or_ge k i with z | z
  ·have:=hr.lt z e (aG1 hi);lia
  ·have:k=i:=by lia
   subst this;rw [aG1 hi] at e;cases e;lia
 ·have:=hr.lt (show i<k by lia) (aG1 hi) e;lia
theorem qlu {xs:Array Nat}(hr:Ris xs):SetTable.below xs 0=0:=
 (qdK hr _).uniq ⟨Nat.zero_le _,fun k v e hk=>absurd hk (Nat.not_lt_zero _),fun k v e hk=>Nat.zero_le _⟩
noncomputable def kOf (e:Int×Value):Int:=match e.2 with
 | .int k _=>k
 | _=>0
structure Els (es:Array (Int×Value))(ns:List Int):Prop where
 el:∀ e∈es.toList,∃ k t,e=(hashInt k,Value.int k t)
 pm:(es.toList.map kOf).Perm ns
theorem Els.of {P:Program}{w:World}{es:Array (Int×Value)}{ns:List Int}(h:Els es ns):ElemsOf (intKind P w) es.toList:=fun e he=>by
 obtain ⟨k,t,rfl⟩:=h.el e he;exact ⟨⟨k,intKind_is _ _ _ _,rfl⟩,rfl⟩
theorem Els.size {es:Array (Int×Value)}{ns:List Int}(h:Els es ns):es.size=ns.length:=by
 have:=h.pm.length_eq;rw [lM1,Array.length_toList] at this;exact this
theorem Els.perm {es fs:Array (Int×Value)}{ns:List Int}(h:Els es ns)(p:fs.toList.Perm es.toList):Els fs ns:=
 ⟨fun e he=>h.el e (p.mem_iff.mp he),(p.map _).trans h.pm⟩
theorem Els.add {es fs:Array (Int×Value)}{ns:List Int}(h:Els es ns){k:Int}{t:Tok}(p:fs.toList.Perm (es.push (hashInt k,.int k t)).toList):Els fs (ns++[k]):=by
 rw [Array.toList_push] at p;refine ⟨fun e he=>?_,?_⟩
 ·rcases List.mem_append.mp (p.mem_iff.mp he) with z | z
  ·exact h.el e z
  ·simp at z;exact ⟨k,t,z⟩
 ·refine (p.map _).trans ?_;rw [List.map_append];exact h.pm.append (.refl _)
noncomputable def stO (es:Array (Int×Value))(ep:Nat)(t:SetTable):Obj:={cls:=.type "set",dict:=none,data:=.set es ep t,slots:= #[]}
noncomputable def SetX (b:Bool)(p:Addr)(ns:List Int)(h:Heap):Prop:=∃ es ep t l,h.get? p=some (stO es ep t)/\Els es ns/\es.size<scanBound/\t.fits es.size=true/\TS l t/\(b=false->l=true)
section
variable {P:Program} {w:World} {A:Around} {E:Value->Shared->Prop} {s:Shared} {b:Bool} {p:Addr} {ns:List Int}
theorem qg4 {es fs:Array (Int×Value)}{ep:Nat}{t u:SetTable}{h:Heap}(e:h.get? p=some (stO es ep t)):(h.update p (Obj.putSet fs u)).get? p=some (stO fs (ep+1) u):=by
 have:=hW1 (Obj.putSet fs u) e (by rw [putSet_of fs u rfl];rfl);rw [putSet_of fs u rfl] at this;exact this
theorem gw {c:Bool}{Q:Unit->Shared->Prop}(q:Q () s):wpAny (model P w) A (match c with
  | true=>rule "set.scan.the-table-gave-way"
  | false=>pure ()) Q E s:=by cases c<;>first | exact wP1 q | exact wpAny_rule q
theorem addX {k:Int}{tk:Tok}{Q:Bool->Shared->Prop}(hS:SetX b p ns s.heap)(hr:ns.length+1<scanBound)
  (q:∀ c h',Heap.SameBut p s.heap h'->SetX b p (step_dedup ns k) h'->Q c {s with heap:=h'}):wpAny (model P w) A (setAddHashed p (.int k tk) (hashInt k)) Q E s:=by
 obtain ⟨es,ep,t,l,ho,hE,hb,hf,ts,hl⟩:=hS;have hz:=hE.size;have el:ElemsOf (intKind P w) es.toList:=hE.of;unfold setAddHashed setAddHashedIn;refine wpAny_holding (wB1 (wpAny_setState_of ho rfl hf ?_));dsimp only;rw [byScan_of (knd:=intKind P w) rfl hb el,if_pos rfl];unfold setAddByScan;refine wB1 (wB1 (wpAny_rule (wB1 (wpAny_setScan_of (knd:=intKind P w) (k:=k) (intKind_is _ _ _ _) ho rfl hf el ?_))));cases hx:List.findIdx? (fun e=>(intKind P w).is k e.2) es.toList with
 | some j=>
  obtain ⟨hj,hpj,_⟩:=List.findIdx?_eq_some_iff_getElem.mp hx;have hk:k∈ns:=by
   refine hE.pm.mem_iff.mp (List.mem_map.mpr ⟨_,List.getElem_mem hj,?_⟩);obtain ⟨k',t',e⟩:=hE.el _ (List.getElem_mem hj);rw [e] at hpj ⊢;exact ((intKind P w).inj _ _ _ hpj (intKind_is P w k' t')).symm
  have hd:step_dedup ns k=ns:=by unfold step_dedup;rw [if_pos (List.any_eq_true.mpr ⟨k,hk,by simp⟩)]
  rw [hd] at q;exact wP1 (wP1 (q _ s.heap (Heap.SameBut.refl p s.heap) ⟨es,ep,t,l,ho,hE,hb,hf,ts,hl⟩))
 | none=>
  have hd:step_dedup ns k=ns++[k]:=by
   unfold step_dedup;rw [if_neg fun z=>?_];obtain ⟨k',hk,e⟩:=List.any_eq_true.mp z;have e:=beq_iff_eq.mp e;subst e;obtain ⟨x,hx1,hx2⟩:=List.mem_map.mp (hE.pm.mem_iff.mpr hk);obtain ⟨k2,t2,rfl⟩:=hE.el x hx1;have hx2:k2=k':=hx2;subst hx2;have:=List.findIdx?_eq_none_iff.mp hx _ hx1;rw [show (intKind P w).is k2 (hashInt k2,Value.int k2 t2).2=true from intKind_is _ _ _ _] at this;cases this
  rw [hd] at q;have p1:=layNew_perm t es (hashInt k) (.int k tk);have f1:=layNew_fits t es (hashInt k) (.int k tk);have t1:=qon ts es (hashInt k) (.int k tk);dsimp only;generalize layNew t es (hashInt k) (.int k tk)=L at p1 f1 t1 ⊢;obtain ⟨fs,u,wd,gv⟩:=L;dsimp only at p1 f1 t1 ⊢;have e1:Els fs (ns++[k]):=hE.add p1;have z1:fs.size<scanBound:=by rw [e1.size,lA1];exact hr
  refine wB1 (gw ?_);have tail:∀ (c:Bool),wpAny (model P w) A (do
    storeSet p fs u
    if (!wd&&u.tooFull)=true then do
      (match (relayAll u fs (SetTable.grown fs.size)).2.2 with
       | true=>rule "set.scan.the-table-gave-way"
       | false=>pure ())
      storeSet p (relayAll u fs (SetTable.grown fs.size)).1 (relayAll u fs (SetTable.grown fs.size)).2.1
      pure (some true)
     else pure (some true)) (fun r s'=>wpAny (model P w) A (match r with
      | some added=>pure added
      | none=>setAddHashedIn p (.int k tk) (hashInt k) 99999) Q E s') E s:=fun _=>by
   refine wB1 (wpAny_storeSet_of ho rfl ?_ (fits_of_scanBound z1));have o1:=qg4 (fs:=fs) (u:=u) ho;have sb:=Heap.SameBut.update s.heap p (Obj.putSet fs u);split
   ·have p2:=relayAll_perm u fs (SetTable.grown fs.size);have f2:=relayAll_fits u fs (SetTable.grown fs.size);have t2:=qkm t1 fs (SetTable.grown fs.size);generalize relayAll u fs (SetTable.grown fs.size)=L2 at p2 f2 t2 ⊢;obtain ⟨gs,v,gv2⟩:=L2;dsimp only at p2 f2 t2 ⊢;have e2:=e1.perm p2;have z2:gs.size<scanBound:=by rw [e2.size,<- e1.size];exact z1
    refine wB1 (gw (wB1 (wpAny_storeSet_of o1 rfl ?_ (fits_of_scanBound z2))));exact wP1 (wP1 (q _ _ (sb.trans (Heap.SameBut.update _ p _)) ⟨gs,_,v,l,qg4 o1,e2,z2,f2,t2,hl⟩))
   ·exact wP1 (wP1 (q _ _ sb ⟨fs,_,u,l,o1,e1,z1,f1,t1,hl⟩))
  split
  ·refine wB1 (wP1 ?_);exact tail true
  ·refine wB1 (wP1 ?_);exact tail true
end
section
variable {P:Program} {w:World} {A:Around} {E:Value->Shared->Prop} {s:Shared}
noncomputable def byT (w:World):Bool:=w.params.followText "set-order"
theorem qi2 (x:Value){G:Value->Shared->Prop}(q:G (.ref s.heap.objs.size) {s with heap:=s.heap.push (stO #[] 0 (.fresh 0 0 (!byT w)))}):
  codeAny (model P w) A (.call (.builtin "set.__new__") ⟨[.type "set",x],[]⟩) (wants G E) s:=by
 refine codeAny_of_tree (?_:wpAny _ A.in1 (do checkBuiltinCall "set.__new__" ⟨[.type "set",x],[]⟩;again (.builtin "set.__new__" ⟨[.type "set",x],[]⟩)) _ _ s);refine wB1 (wpAny_of_eq (PySem.F.newCall_set_1 x) (wP1 ⟨plainId_quiet PySem.F.plain_set_new _,wD1 PySem.F.entry_set_new (?_:_)⟩));rw [Around.under_plainId PySem.F.plain_set_new _];unfold Builtin.«set.__new__» Builtin.Frozenset.newClass;have hsub:=sub_set_self;obtain ⟨hp,g,d,tk,os⟩:=s;dsimp only
 wp_walk
 refine wpAny_askSetting (wP1 (?_:_));dsimp only;simp only [newObj];exact wB1 (wpAny_alloc (wP1 (wP1 q)))
set_option maxHeartbeats 3200000 in
theorem qeB {l:Addr}{its:Array Value}{Q:Value->Shared->Prop}(hl:s.heap.IsList l its)
  (run:∀ A':Around,A'.handled=A.handled->A'.units<=A.units+2 -> ∀ R:Result->Shared->Prop,(∀ s',Q (.ref s.heap.objs.size) s'->R (.ok (.ret .none)) s') ->
   codeAny (model P w) A' (.builtin "set.update.loop" ⟨[.ref s.heap.objs.size,.ref (s.heap.objs.size+1)],[]⟩) R {s with heap:=(s.heap.push (stO #[] 0 (.fresh 0 0 (!byT w)))).push {cls:=.type "list_iterator",data:=.fields #[.ref l,.int 0 0]}}):
  wpAny (model P w) A (call (.type "set") [.ref l]) Q E s:=by
 obtain ⟨cc,tt,hmro⟩:=PySem.F.called_set.mro;have hmade:=PySem.F.called_set.made;have hsub:=PySem.F.called_set.sub
 refine wpAny_call (codeAny_of_tree (?_:wpAny _ _ (callAny (.type "set") _) _ _ _));refine wP1 ⟨Code.quiet_builtin _ (by decide+kernel),wD1 PySem.F.entry_type_call (?_:_)⟩;rw [Around.under_plain (weight_type_call_type "set" [.ref l] []) rfl];have n1:=PySem.F.called_set.notType;have n2:=PySem.F.called_set.canCreate;have n3:=PySem.F.typeCall_set_1 (.ref l)
 repeat (any_goals (first | wp_step | assumption))
 refine codeAny_mono (qi2 (.ref l) (E:=E) (G:=fun x s1=>x = .ref s.heap.objs.size/\s1={s with heap:=s.heap.push (stO #[] 0 (.fresh 0 0 (!byT w)))}) ⟨rfl,rfl⟩) fun r s1 hr=>?_;cases r with
 | error e=>exact hr
 | ok fl=>
  cases fl with
  | ret x=>
   obtain ⟨rfl,rfl⟩:=hr;have hS:(s.heap.push (stO #[] 0 (.fresh 0 0 (!byT w)))).get? s.heap.objs.size=some (stO #[] 0 (.fresh 0 0 (!byT w))):=hS1 _ rfl;have hT:Shared.TypeIs {s with heap:=s.heap.push (stO #[] 0 (.fresh 0 0 (!byT w)))} (.ref s.heap.objs.size) "set":=⟨_,hS,rfl⟩;have n4:=PySem.F.called_set.init.lookup;have n5:=PySem.F.called_set.init.bind (.ref s.heap.objs.size)
   repeat (any_goals (first | wp_step | assumption))
   refine codeAny_mono (codeAny_call_builtin (R:=wants (fun r s2=>r = .none/\Q (.ref s.heap.objs.size) s2) E) PySem.F.called_set.init.plain PySem.F.entry_set_init (check_set_init_1 hT (?_:_))) fun r2 s2 hr2=>?_
   ·obtain ⟨ol,hol,hcl,nl,hdl⟩:=hl;obtain ⟨oc,od,oa,os⟩:=ol;simp only at hcl hdl;subst hcl;subst hdl;have k1:(s.heap.push (stO #[] 0 (.fresh 0 0 (!byT w)))).get? l=some {cls:=.type "list",dict:=od,data:=.seq its nl,slots:=os}:=hP1 _ hol;have k2:=PySem.F.sub_list_set;have k3:=PySem.F.sub_list_frozenset;have k4:(Value.type "list" == Value.type "dict")=false:=by decide
    have k5:(s.heap.push (stO #[] 0 (.fresh 0 0 (!byT w)))).IsList l its:=⟨_,k1,rfl,nl,rfl⟩;have hS':(s.heap.push (stO #[] 0 (.fresh 0 0 (!byT w)))).get? s.heap.objs.size=some {cls:=.type "set",dict:=none,data:=.set #[] 0 (.fresh 0 0 (!byT w)),slots:= #[]}:=hS;unfold Builtin.«set.__init__» noKeywords Builtin.Frozenset.updateFrom;generalize hPI:pyIter=PI
    wp_walk
    subst hPI;refine wpAny_pyIter_list k5 (wB1 (wpAny_runValue (?_:_)));dsimp only;rw [show (s.heap.push (stO #[] 0 (.fresh 0 0 (!byT w)))).objs.size=s.heap.objs.size+1 from by rw [hZ1]];refine run A.in1.in1 (by simp) (nR1 _) _ fun s' q=>?_;exact wP1 (wP1 ⟨rfl,q⟩)
   ·cases r2 with
    | error e=>exact hr2
    | ok f2=>
     cases f2 with
     | ret r=>
      obtain ⟨rfl,q⟩:=hr2
      repeat (any_goals (first | wp_step | assumption))
     | _=>exact hr2.elim
  | _=>exact hr.elim
theorem qjZ {l:Addr}{its:Array Value}{Q:Value->Shared->Prop}(hl:s.heap.IsList l its)
  (run:∀ A':Around,A'.handled=A.handled -> ∀ R:Result->Shared->Prop,(∀ s',Q (.ref s.heap.objs.size) s'->R (.ok (.ret .none)) s') ->
   codeAny (model P w) A' (.builtin "set.update.loop" ⟨[.ref s.heap.objs.size,.ref (s.heap.objs.size+1)],[]⟩) R {s with heap:=(s.heap.push (stO #[] 0 (.fresh 0 0 (!byT w)))).push {cls:=.type "list_iterator",data:=.fields #[.ref l,.int 0 0]}}):
  wpAny (model P w) A (call (.type "set") [.ref l]) Q E s:=qeB hl fun A' h _=>run A' h
end
section
variable {P:Program} {w:World} {A:Around} {E:Value->Shared->Prop} {b:Bool}
theorem SetX.old {p:Addr}{ns:List Int}{h h':Heap}(x:SetX b p ns h)(k:∀ o,h.get? p=some o->h'.get? p=some o):SetX b p ns h':=by
 obtain ⟨es,ep,t,l,e,r⟩:=x;exact ⟨es,ep,t,l,k _ e,r⟩
theorem qdJ:∀ (ns acc:List Int),(ns.foldl step_dedup acc).length<=acc.length+ns.length
 | [],acc=>by simp
 | n::ns,acc=>by
  rw [List.foldl_cons];have h1:=qdJ ns (step_dedup acc n);have h2:(step_dedup acc n).length<=acc.length+1:=by unfold step_dedup;split<;>simp
  rw [lC1];lia
theorem qku {p l it:Addr}{its:Array Value}{ns:List Int}{R:Result->Shared->Prop}(hh:A.handled=none)(hI:IntsAre its.toList ns)(hb:ns.length+1<scanBound)(n1:p≠l)(n2:p≠it)(n3:it≠l):
  ∀ (k i:Nat) (s:Shared),its.size-i=k->i<=its.size->s.heap.IsListIter it l i->s.heap.IsList l its->SetX b p ((ns.take i).foldl step_dedup []) s.heap ->
  (∀ h' tk,(∀ c o,c≠p->c≠it->s.heap.get? c=some o->h'.get? c=some o)->SetX b p (ddI ns) h'->R (.ok (.ret .none)) {s with heap:=h',toks:=tk})->codeAny (model P w) A (.builtin "set.update.loop" ⟨[.ref p,.ref it],[]⟩) R s:=by
 have hlen:its.size=ns.length:=by rw [<- Array.length_toList];exact hI.length
 intro k
 induction k with
 | zero=>
  intro i s hk hi st hl hS q;have e:i=its.size:=by lia
  subst e;refine wD1 PyProof.Rows.F.entry_set_update_loop (?_:_);rw [Around.under_plainId PyProof.Rows.F.plain_set_update_loop _];show wpAny _ A.in1 (pyNext (.ref it) >>= _) _ _ s;refine wB1 (wpAny_pyNext_list_end (by simpa using hh) st hl (by simp) fun h' eb=>wP1 ?_);refine q h' s.toks (fun c o _ hc e=>eb c o hc e) ?_;have:=hS.old (h':=h') fun o e=>eb p o n2 e;rw [hlen,List.take_length] at this;exact this
 | succ k ih=>
  intro i s hk hi st hl hS q;have hlt:i<its.size:=by lia
  have hx:=aG1 hlt;obtain ⟨t,et⟩:=PyProof.Rows.IntsAre.int_at hI i its[i] (by rw [aT1];exact hx);refine wD1 PyProof.Rows.F.entry_set_update_loop (?_:_);rw [Around.under_plainId PyProof.Rows.F.plain_set_update_loop _];show wpAny _ A.in1 (pyNext (.ref it) >>= _) _ _ s;refine wB1 (wpAny_pyNext_list_item st hl hx fun h' st' sb=>?_);rw [et];show wpAny _ A.in1 (holding [Value.int (ns.getD i 0) t] (setAdd p (.int (ns.getD i 0) t)) >>= _) _ _ _;refine wB1 (wpAny_holding ?_);unfold setAdd;refine wpAny_holding (wB1 (wpAny_pyHash_int ?_));have hS':SetX b p ((ns.take i).foldl step_dedup []) h':=hS.old fun o e=>by rw [sb.2 p n2];exact e
  have hfl:=qdJ (ns.take i) [];refine addX (s:={s with heap:=h',toks:=s.toks+1}) (k:=ns.getD i 0) hS' (by rw [List.length_take,List.length_nil] at hfl;lia) fun c h2 sb2 hS2=>?_;have hn:ns[i]? = some (ns.getD i 0):=by rw [gG1 (by lia)];simp [List.getD,show i<ns.length by lia]
  have ef:step_dedup ((ns.take i).foldl step_dedup []) (ns.getD i 0)=(ns.take (i+1)).foldl step_dedup []:=by
   rw [List.take_succ,hn,List.foldl_append];rfl
  rw [ef] at hS2;have kk:∀ c o,c≠p->c≠it->s.heap.get? c=some o->h2.get? c=some o:=fun c o h1 h3 e=>by rw [sb2.2 c h1];show h'.get? c=_;rw [sb.2 c h3];exact e
  have keepIt:∀ o,h'.get? it=some o->h2.get? it=some o:=fun o e=>by rw [sb2.2 it (Ne.symm n2)];exact e
  refine wP1 ⟨plainId_quiet PyProof.Rows.F.plain_set_update_loop _,ih (i+1) {s with heap:=h2,toks:=s.toks+1} (by lia) hlt (st'.at keepIt) ?_ hS2 fun h3 tk k3 x3=>?_⟩
  ·obtain ⟨o,e,r⟩:=hl;exact ⟨o,kk l o (Ne.symm n1) (Ne.symm n3) e,r⟩
  ·exact q h3 tk (fun c o h1 h4 e=>k3 c o h1 h4 (kk c o h1 h4 e)) x3
theorem qj1 {s:Shared}{l:Addr}{its:Array Value}{ns:List Int}{Q:Value->Shared->Prop}(hh:A.handled=none)(hl:s.heap.IsList l its)(hI:IntsAre its.toList ns)(hb:ns.length+1<scanBound)
  (q:∀ h' tk,(∀ c o,s.heap.get? c=some o->h'.get? c=some o)->SetX (byT w) s.heap.objs.size (ddI ns) h'->Q (.ref s.heap.objs.size) {s with heap:=h',toks:=tk}):wpAny (model P w) A (call (.type "set") [.ref l]) Q E s:=by
 have hlt:l<s.heap.objs.size:=by obtain ⟨o,e,_⟩:=hl;exact hL1 e
 refine qjZ hl fun A' hA R hR=>?_;have z1:(s.heap.push (stO #[] 0 (.fresh 0 0 (!byT w)))).objs.size=s.heap.objs.size+1:=by rw [hZ1]
 have g1:(s.heap.push (stO #[] 0 (.fresh 0 0 (!byT w)))).get? s.heap.objs.size=some (stO #[] 0 (.fresh 0 0 (!byT w))):=hS1 _ rfl;refine qku (its:=its) (ns:=ns) (b:=byT w) (hA.trans hh) hI hb (nG1 hlt) (nN1 (Nat.lt_succ_self _)) (nG1 (Nat.lt_succ_of_lt hlt)) _ 0 _ rfl (Nat.zero_le _) ?_ ?_ ?_ fun h' tk k x=>hR _ (q h' tk (fun c o e=>k c o (nN1 (hL1 e)) (nN1 (Nat.lt_succ_of_lt (hL1 e))) (hP1 _ (hP1 _ e))) x)
 ·refine ⟨{cls:=.type "list_iterator",data:=.fields #[.ref l,.int 0 0]},?_,rfl,rfl⟩;have this:((s.heap.push (stO #[] 0 (.fresh 0 0 (!byT w)))).push {cls:=.type "list_iterator",data:=.fields #[.ref l,.int 0 0]}).get? (s.heap.push (stO #[] 0 (.fresh 0 0 (!byT w)))).objs.size=some {cls:=.type "list_iterator",data:=.fields #[.ref l,.int 0 0]}:=hS1 _ rfl;rw [z1] at this;exact this
 ·obtain ⟨o,e,r⟩:=hl;exact ⟨o,hP1 _ (hP1 _ e),r⟩
 ·refine ⟨#[],0,_,!byT w,hP1 _ g1,⟨fun e he=>by simp at he,.refl _⟩,by decide,rfl,qkn _,fun h=>by rw [h];rfl⟩
end
theorem qcR:Slot "set_iterator" "__next__" "set_iterator.__next__":=
 .of (owner:="set_iterator") (n:="__next__") (by rw [typeLookup_type,builtinLookup_eq_fast];kernel_rfl) (by decide+kernel) (by decide+kernel) (by decide+kernel) (by first | exact .inl (by decide+kernel) | exact .inr (by decide+kernel)) (by rw [isSubtype_type];kernel_rfl)
theorem qfU:entryFor table "set_iterator.__next__"=some Builtin.«set_iterator.__next__» :=entryFor_of_tree (by kernel_rfl)
theorem qhA (x:Value):argsOk "set_iterator.__next__" ⟨[x],[]⟩:=by unfold argsOk;kernel_rfl
theorem qgH:entryFor table "set.__iter__"=some Builtin.«frozenset.__iter__» :=entryFor_alias (id':="frozenset.__iter__") (by kernel_rfl) rfl (by decide+kernel) (by kernel_rfl)
noncomputable abbrev SIs (h:Heap)(it a:Addr)(f:Value)(i n ep:Nat):Prop:=h.get? it=some {cls:=.type "set_iterator",dict:=none,data:=.fields #[f,.int i 0,.ref a,.int n 0,.int ep 0],slots:= #[]}
noncomputable def qet (t:SetTable)(i:Nat):Nat:=match i with
 | 0=>0
 | i+1=>t.place.getD i 0+1
inductive Way (w:World)(h:Heap)(a:Addr)(es:Array (Int×Value))(ep:Nat)(t:SetTable):Value->Nat->List Value->Prop
 | txt (b:byT w=true) (i:Nat) (sl:Nat):Way w h a es ep t (.int sl 0) i ((pickOrder (w.params.setOrder a ep) es).toList.map (·.2))
 | drw (b:byT w=false) (d:(!t.plain&&decide (es.size>1))=true) (i:Nat) (tp:Addr) (ps:List Nat) (e:h.get? tp=some {cls:=.type "tuple",data:=.seq (ps.map fun j=>Value.int (j:Nat) 0).toArray}) (pm:ps.Perm (List.range es.size)):Way w h a es ep t (.ref tp) i (ps.map fun j=>(es[j]?.map (·.2)).getD .none)
 | plc (b:byT w=false) (d:(!t.plain&&decide (es.size>1))=false) (ld:t.led=true) (up:Ris t.place) (i:Nat):Way w h a es ep t (.int (qet t i) 0) i (es.toList.map (·.2))
theorem qfA {α:Type}(f:Nat->Nat):∀ (n k:Nat) (l:List α) (out:Array α),l.length=n->(pickOrder.go f n k l out).toList.Perm (out.toList++l)
 | 0,k,l,out,h=>by
  rw [pickOrder.go,List.length_eq_zero_iff.mp h,List.append_nil]
 | n+1,k,l,out,h=>by
  have hlt:f k%l.length<l.length:=Nat.mod_lt _ (by lia);rw [pickOrder.go,gG1 hlt];refine (qfA f n (k+1) _ _ (by rw [List.length_eraseIdx_of_lt hlt];lia)).trans ?_;rw [Array.toList_push,List.append_assoc];refine List.Perm.append_left _ ?_;have e1:l=l.take (f k%l.length)++l[f k%l.length]::l.drop (f k%l.length+1):=by rw [List.getElem_cons_drop,List.take_append_drop]
  rw [List.eraseIdx_eq_take_drop_succ];refine List.Perm.trans ?_ (List.Perm.of_eq e1.symm);exact (List.perm_middle (l₁:=l.take (f k%l.length)) (l₂:=l.drop (f k%l.length+1)) (a:=l[f k%l.length])).symm
theorem Way.perm {w:World}{h:Heap}{a:Addr}{es:Array (Int×Value)}{ep:Nat}{t:SetTable}{f:Value}{i:Nat}{pl:List Value}(y:Way w h a es ep t f i pl):pl.Perm (es.toList.map (·.2)):=by
 cases y with
 | txt=>exact (qfA _ _ _ _ _ rfl).map _
 | drw _ _ _ tp ps e pm=>
  refine (pm.map _).trans ?_;have:(List.range es.size).map (fun j=>(es[j]?.map (·.2)).getD .none)=es.toList.map (·.2):=by
   apply List.ext_getElem?;intro j;rw [gP1,gP1,aT1 (xs:=es)];by_cases hj:j<es.size
   ·rw [List.getElem?_range hj,oP1,aG1 hj];rfl
   ·rw [List.getElem?_eq_none (by simpa using hj),Array.getElem?_eq_none (by lia)];rfl
  rw [this]
 | plc=>exact .refl _
theorem Way.len {w:World}{h:Heap}{a:Addr}{es:Array (Int×Value)}{ep:Nat}{t:SetTable}{f:Value}{i:Nat}{pl:List Value}(y:Way w h a es ep t f i pl):pl.length=es.size:=by
 rw [y.perm.length_eq,lM1,Array.length_toList]
section
variable {P:Program} {w:World} {A:Around} {E:Value->Shared->Prop} {s:Shared} {it a:Addr} {f:Value} {i ep:Nat} {es:Array (Int×Value)} {t:SetTable} {pl:List Value}
theorem qgP {Q:Bool->Shared->Prop}(q:Q (byT w) s):wpAny (model P w) A setsByText Q E s:=by unfold setsByText;exact wB1 (wpAny_askSetting (wP1 q))
theorem qlI {sl:Nat}{Q:Option (Value×Nat)->Shared->Prop}(b:byT w=true)(ho:s.heap.get? a=some (stO es ep t))(hf:t.fits es.size=true)(q:Q (((pickOrder (w.params.setOrder a ep) es)[i]?).map fun e=>(e.2,sl)) s):wpAny (model P w) A (setNext a sl i ep) Q E s:=by
 unfold setNext;refine wB1 (wpAny_setState_of ho rfl hf (wB1 (qgP ?_)));rw [b,if_pos rfl,if_neg (by simp)];refine wB1 ?_;unfold setWalk;refine wB1 (wpAny_setState_of ho rfl hf (wB1 (qgP ?_)));rw [b,if_pos rfl];exact wB1 (wpAny_askSetting (wP1 (wP1 q)))
theorem qn1 (up:Ris t.place)(hi:i<=t.place.size):SetTable.below t.place (qet t i)=i:=by
 cases i with
 | zero=>exact qlu up
 | succ j=>
  have hj:j<t.place.size:=hi;show SetTable.below t.place (t.place.getD j 0+1)=j+1;rw [show t.place.getD j 0=t.place[j] from by simp [Array.getD,hj]];exact qn0 up hj
theorem qlJ {Q:Option (Value×Nat)->Shared->Prop}(b:byT w=false)(d:(!t.plain&&decide (es.size>1))=false)(ld:t.led=true)(up:Ris t.place)(ho:s.heap.get? a=some (stO es ep t))(hf:t.fits es.size=true)(hi:i<=es.size)
  (q:Q ((es[i]?).map fun e=>(e.2,qet t (i+1))) s):wpAny (model P w) A (setNext a (qet t i) i ep) Q E s:=by
 have hp:t.place.size=es.size:=by
  unfold SetTable.fits at hf;rw [bA1,beq_iff_eq] at hf;exact hf.1
 unfold setNext;refine wB1 (wpAny_setState_of ho rfl hf (wB1 (qgP ?_)));rw [b,if_neg (by decide)];rw [if_neg (fun z=>by have z':(!t.plain&&decide (es.size>1))=true:=z;rw [d] at z';cases z')];refine wB1 ?_;show wpAny _ _ (if (!t.led && !es.isEmpty)=true then _ else _) _ _ _;rw [if_neg (by rw [ld];simp)];refine wP1 ?_;dsimp only;rw [qn1 up (by omega)];by_cases hlt:i<es.size
 ·rw [aG1 hlt] at q ⊢;rw [aG1 (show i<t.place.size by omega)];have e1:qet t (i+1)=t.place[i]+1:=by
   show t.place.getD i 0+1=_;rw [show t.place.getD i 0=t.place[i] from by simp [Array.getD,show i<t.place.size by omega]]
  rw [e1] at q;exact wP1 q
 ·rw [Array.getElem?_eq_none (by omega)] at q ⊢;exact wP1 q
theorem qmi {Q:Option Value->Shared->Prop}(hit:SIs s.heap it a f i es.size ep)(ho:s.heap.get? a=some (stO es ep t))(hf:t.fits es.size=true)(y:Way w s.heap a es ep t f i pl){x:Value}(hx:pl[i]? = some x)(nt:∀ tp,f = .ref tp->tp≠it)
  (q:∀ h' f',SIs h' it a f' (i+1) es.size ep->(∀ c o,c≠it->s.heap.get? c=some o->h'.get? c=some o)->Way w h' a es ep t f' (i+1) pl->(∀ tp,f' = .ref tp->f = .ref tp)->Q (some x) {s with heap:=h'}):wpAny (model P w) A (pyNext (.ref it)) Q E s:=by
 have hT:s.TypeIs (.ref it) "set_iterator":=⟨_,hit,rfl⟩;unfold pyNext;refine wB1 (wpAny_attempt (wpAny_callSpecial?_slot (name:=Str.ofString "__next__") hT qcR (wE1 qcR hT qfU ?_ (qhA _))));refine wB1 (wP1 (wB1 (wpAny_fieldsOf hit rfl ?_)));dsimp only;refine wB1 (wpAny_setEntries_of ho rfl hf ?_);rw [if_neg (by simp)];have hlt:i<es.size:=by have:=(gE1.mp hx).1;rw [y.len] at this;exact this
 have two:∀ (f':Value),(∀ tp,f' = .ref tp->f = .ref tp)->(∀ h',(∀ c o,c≠it->s.heap.get? c=some o->h'.get? c=some o)->Way w h' a es ep t f' (i+1) pl) ->
   wpAny (model P w) A.in1 (setField (.ref it) 0 f' >>= fun _=>setField (.ref it) 1 (rawInt ((i:Int)+1)) >>= fun _=>ret x) (fun fin s'=>∃ v,fin=Fin.done (Flow.ret v)/\wpAny (model P w) A (pure (some v)) Q E s') (fun e s'=>wpAny (model P w) A (do
     let y<-isInstance e (.type "StopIteration")
     if y=true then pure none else throw e) Q E s') s:=fun f' nf wy=>by
  refine wB1 (wS1 hit (by simp) fun h1 g1 sb1=>wB1 (wS1 (s:={s with heap:=h1}) g1 (by simp) fun h2 g2 sb2=>wP1 ⟨_,rfl,wP1 ?_⟩));have kk:∀ c o,c≠it->s.heap.get? c=some o->h2.get? c=some o:=fun c o hc e=>sb2.extBut c o hc (sb1.extBut c o hc e);refine q h2 f' ?_ kk (wy h2 kk) nf;have e:((i+1:Nat):Int)=(i:Int)+1:=by lia
  unfold SIs;rw [e];simpa [rawInt] using g2
 cases y with
 | txt b _ sl=>
  refine wB1 (qlI (i:=i) (sl:=sl) (ep:=ep) b ho hf ?_);rw [gP1,aT1] at hx;obtain ⟨e,he,rfl⟩:=oM1.mp hx;rw [he];exact two (.int sl 0) (fun tp z=>by cases z) fun h' _=>.txt b _ sl
 | plc b d ld up _=>
  refine wB1 (qlJ (i:=i) b d ld up ho hf (by lia) ?_);rw [gP1,aT1] at hx;obtain ⟨e,he,rfl⟩:=oM1.mp hx;rw [he];exact two (.int (qet t (i+1)) 0) (fun tp z=>by cases z) fun h' _=>.plc b d ld up _
 | drw b d _ tp ps e pm=>
  rw [gP1] at hx;obtain ⟨j,hj,rfl⟩:=oM1.mp hx;have hjs:j<es.size:=by have:=pm.mem_iff.mp (gM1 hj);simpa using this
  refine wB1 (wpAny_seqItems e rfl ?_);have hpl:((ps.map fun j=>Value.int (j:Nat) 0).toArray)[((i:Int)).toNat]? = some (.int (j:Nat) 0):=by
   rw [Int.toNat_natCast,List.getElem?_toArray,gP1,hj];rfl
  dsimp only;rw [hpl];dsimp only;refine wB1 ?_;unfold setNextDrawn;refine wB1 (wpAny_setState_of ho rfl hf ?_);dsimp only;rw [if_neg (by simp),Int.toNat_natCast,aG1 hjs];refine wP1 (wB1 (wS1 hit (by simp) fun h2 g2 sb2=>wP1 ⟨_,rfl,wP1 ?_⟩));have kk:∀ c o,c≠it->s.heap.get? c=some o->h2.get? c=some o:=fun c o hc e=>sb2.extBut c o hc e;have q':=q h2 (.ref tp) ?_ kk (.drw b d _ tp ps (kk tp _ (nt tp rfl) e) pm) fun _ z=>z
  ·rw [aG1 hjs] at q';exact q'
  ·have e:((i+1:Nat):Int)=(i:Int)+1:=by lia
   unfold SIs;rw [e];simpa [rawInt] using g2
theorem qiu {Q:Option Value->Shared->Prop}{G:Fin->Shared->Prop}(hh:A.handled=none)(q:∀ h',(∀ c o,s.heap.get? c=some o->h'.get? c=some o)->Q none {s with heap:=h'}):
  wpAny (model P w) A.in1 (newExc (.type "StopIteration") [] >>= fun e=>raiseNew e) G (fun e s'=>wpAny (model P w) A (do
     let y<-isInstance e (.type "StopIteration")
     if y=true then pure none else throw e) Q E s') s:=by
 refine wB1 ?_;simp only [newExc,newTuple];refine wB1 (wO1 ?_ (by size_fits));refine wB1 (m:=firstArgMember _ _) (wpAny_of_eq (a:=Value.none) (by first | rfl | (simp only [firstArgMember];rfl)) ?_);refine wO1 ?_ (by size_fits);simp only [raiseNew];refine wB1 (wpAny_handled ?_);rw [show A.in1.handled=none from hh];refine wB1 (wP1 (wpAny_throw (?_:_)));refine wB1 (wpAny_isInstance (b:=true) (T:="StopIteration") ⟨_,hS1 _ rfl,rfl⟩ isSubtype_stop (?_:_));exact wP1 (q _ fun b o e=>hP1 _ (hP1 _ e))
theorem qoe {Q:Option Value->Shared->Prop}(hh:A.handled=none)(hit:SIs s.heap it a f es.size es.size ep)(ho:s.heap.get? a=some (stO es ep t))(hf:t.fits es.size=true)(y:Way w s.heap a es ep t f es.size pl)
  (q:∀ h',(∀ c o,c≠it->s.heap.get? c=some o->h'.get? c=some o)->Q none {s with heap:=h'}):wpAny (model P w) A (pyNext (.ref it)) Q E s:=by
 have hT:s.TypeIs (.ref it) "set_iterator":=⟨_,hit,rfl⟩;unfold pyNext;refine wB1 (wpAny_attempt (wpAny_callSpecial?_slot (name:=Str.ofString "__next__") hT qcR (wE1 qcR hT qfU ?_ (qhA _))));refine wB1 (wP1 (wB1 (wpAny_fieldsOf hit rfl ?_)));dsimp only;refine wB1 (wpAny_setEntries_of ho rfl hf ?_);rw [if_neg (by simp)];have hlen:=y.len;cases y with
 | txt b _ sl=>
  refine wB1 (qlI (i:=es.size) (sl:=sl) (ep:=ep) b ho hf ?_);rw [Array.getElem?_eq_none (by rw [lM1,Array.length_toList] at hlen;lia)];refine wB1 (wS1 hit (by simp) fun h1 g1 sb1=>?_);exact qiu (s:={s with heap:=h1}) hh fun h' k=>q h' fun c o hc e=>k c o (sb1.extBut c o hc e)
 | plc b d ld up _=>
  refine wB1 (qlJ (i:=es.size) (ep:=ep) b d ld up ho hf (nR1 _) ?_);rw [Array.getElem?_eq_none (nR1 _)];refine wB1 (wS1 hit (by simp) fun h1 g1 sb1=>?_);exact qiu (s:={s with heap:=h1}) hh fun h' k=>q h' fun c o hc e=>k c o (sb1.extBut c o hc e)
 | drw b d _ tp ps e pm=>
  refine wB1 (wpAny_seqItems e rfl ?_);have hpl:((ps.map fun j=>Value.int (j:Nat) 0).toArray)[((es.size:Int)).toNat]? = none:=by
   rw [Int.toNat_natCast,List.getElem?_toArray,List.getElem?_eq_none (by rw [lM1] at hlen ⊢;lia)]
  dsimp only;rw [hpl];dsimp only;refine wB1 (wS1 hit (by simp) fun h1 g1 sb1=>?_);refine wB1 (wS1 (s:={s with heap:=h1}) g1 (by simp) fun h2 g2 sb2=>?_);exact qiu (s:={s with heap:=h2}) hh fun h' k=>q h' fun c o hc e=>k c o (sb2.extBut c o hc (sb1.extBut c o hc e))
theorem qlo {src:Source}{n:Nat}{Q:Nat->Shared->Prop}(hn:n≠0)(q:∀ i dr,i<n->Q i {s with drawn:=dr}):wpAny (model P w) A (choose src n) Q E s:=fun Γ p hΓ=>by
 unfold choose;rw [Sem.wp_choose];refine ⟨hn,?_⟩;exact wP1 (A:=A) (E:=E) (q _ _ (Nat.mod_lt _ (Nat.pos_of_ne_zero hn))) Γ p hΓ
theorem ql1 {α:Type}:∀ (n:Nat) (xs:List α) (s:Shared) (Q:List α->Shared->Prop),xs.length=n->(∀ ys dr,ys.Perm xs->Q ys {s with drawn:=dr})->wpAny (model P w) A (drawOrder n xs) Q E s
 | 0,xs,s,Q,h,q=>by
  have:=List.length_eq_zero_iff.mp h;subst this;exact wP1 (q [] s.drawn (.refl _))
 | n+1,[],s,Q,h,q=>by simp at h
 | n+1,x::xs,s,Q,h,q=>by
  rw [drawOrder];refine wB1 (qlo (by simp) fun i dr hi=>?_);rw [gG1 hi];dsimp only;refine wB1 (ql1 n _ _ _ (by rw [List.length_eraseIdx_of_lt hi];lia) fun ys dr' pm=>wP1 (q _ dr' ?_));refine (pm.cons _).trans ?_;have e1:x::xs=(x::xs).take i++(x::xs)[i]::(x::xs).drop (i+1):=by rw [List.getElem_cons_drop,List.take_append_drop]
  rw [List.eraseIdx_eq_take_drop_succ];refine List.Perm.trans ?_ (List.Perm.of_eq e1.symm);exact List.perm_middle.symm
  all_goals simp
theorem qmk {l:Bool}{Q:Value->Shared->Prop}(ho:s.heap.get? a=some (stO es ep t))(hf:t.fits es.size=true)(hz:es.size<scanBound)(ts:TS l t)(hl:byT w=false->l=true)
  (q:∀ it h' dr f pl,(∀ c o,s.heap.get? c=some o->h'.get? c=some o)->s.heap.objs.size<=it->SIs h' it a f 0 es.size ep->Way w h' a es ep t f 0 pl->(∀ tp,f = .ref tp->tp≠it/\s.heap.objs.size<=tp)->Q (.ref it) {s with heap:=h',drawn:=dr}):
  wpAny (model P w) A (pyIter (.ref a)) Q E s:=by
 have hT:s.TypeIs (.ref a) "set":=⟨_,ho,rfl⟩;refine wpAny_pyIter_slot hT PySem.F.slot_set_iter (wE1 PySem.F.slot_set_iter hT qgH ?_ (PySem.F.args_set_iter_1 _));unfold Builtin.«frozenset.__iter__»;refine wB1 (m:=Builtin.Frozenset.slot0 _ _) (wP1 ?_);unfold Builtin.Frozenset.sizeOf;refine wB1 (wB1 (wpAny_setEntries_of ho rfl hf (wP1 ?_)));unfold setDrawn;refine wB1 (wB1 (wpAny_setState_of ho rfl hf (wB1 (qgP (wP1 ?_)))));show wpAny _ _ (if (!byT w&&(!t.plain&&decide (es.size>1)))=true then _ else _) _ _ _;have fin:∀ (h1:Heap) (dr:Drawn) (f:Value) (pl:List Value),(∀ c o,s.heap.get? c=some o->h1.get? c=some o)->s.heap.objs.size<=h1.objs.size->(∀ tp,f = .ref tp->tp<h1.objs.size/\s.heap.objs.size<=tp)->(∀ h',(∀ c o,h1.get? c=some o->h'.get? c=some o)->Way w h' a es ep t f 0 pl) ->
   wpAny (model P w) A.in1 (setEpoch a >>= fun e=>newFields "set_iterator" [f,rawInt 0,.ref a,rawInt es.size,rawInt e] >>= fun r=>ret r) (fun fin s'=>∃ r,fin=Fin.done (Flow.ret r) /\ ∃ T g,s'.TypeIs r T/\typeLookup (.type T) "__next__"=pure (some g)/\Q r s') E {s with heap:=h1,drawn:=dr}:=by
  intro h1 dr f pl k1 hz1 hf1 wy;refine wB1 (wpAny_setEpoch_of (k1 a _ ho) rfl hf (wB1 (wO1 (wP1 ⟨_,rfl,"set_iterator",_,⟨_,hS1 _ rfl,rfl⟩,qcR.lookup,?_⟩) (by size_fits))));refine q h1.objs.size _ dr f pl (fun c o e=>hP1 _ (k1 c o e)) hz1 ?_ (wy _ fun c o e=>hP1 _ e) fun tp e=>⟨nN1 (hf1 tp e).1,(hf1 tp e).2⟩;have:=hS1 h1 (o:={cls:=.type "set_iterator",data:=.fields #[f,.int 0 0,.ref a,.int es.size 0,.int ep 0]}) rfl;exact this
 by_cases hb:byT w=true
 ·rw [if_neg (by rw [hb];simp)];refine wB1 (wP1 ?_);exact fin s.heap s.drawn _ _ (fun _ _ e=>e) (nR1 _) (fun tp z=>by cases z) fun h' _=>.txt hb 0 0
 ·have hb:byT w=false:=by simpa using hb
  by_cases hd:(!t.plain&&decide (es.size>1))=true
  ·rw [if_pos (by rw [hb,hd];rfl)];refine wB1 (ql1 es.size (List.range es.size) s _ (by simp) fun ys dr pm=>?_);refine wB1 (m:=newTuple _) (wO1 (s:={s with drawn:=dr}) ?_ ?_)
   ·refine fin (s.heap.push {cls:=.type "tuple",data:=.seq (ys.map fun (i:Nat)=>rawInt i).toArray}) dr (.ref s.heap.objs.size) (ys.map fun j=>(es[j]?.map (·.2)).getD .none) (fun c o e=>hP1 _ e) (by rw [hZ1];exact Nat.le_succ _) (fun tp z=>by cases z;exact ⟨by rw [hZ1];exact Nat.lt_succ_self _,nR1 _⟩) fun h' k=>?_;exact .drw hb hd 0 _ ys (k _ _ (hS1 _ rfl)) pm
   ·have:=pm.length_eq;have hz2:=fits_of_scanBound hz;simp [sizeOk,this,hz2]
  ·have hd:(!t.plain&&decide (es.size>1))=false:=by simpa using hd
   rw [if_neg (by rw [hd];simp)];refine wB1 (wP1 ?_);exact fin s.heap s.drawn _ _ (fun _ _ e=>e) (nR1 _) (fun tp z=>by cases z) fun h' _=>.plc hb hd (by rw [ts.ld];exact hl hb) ts.up 0
end
theorem Way.keep {w:World}{h h':Heap}{a:Addr}{es:Array (Int×Value)}{ep:Nat}{t:SetTable}{f:Value}{i:Nat}{pl:List Value}(y:Way w h a es ep t f i pl)(k:∀ tp o,f = .ref tp->h.get? tp=some o->h'.get? tp=some o):Way w h' a es ep t f i pl:=by
 cases y with
 | txt b _ sl=>exact .txt b _ sl
 | drw b d _ tp ps e pm=>exact .drw b d _ tp ps (k tp _ rfl e) pm
 | plc b d ld up _=>exact .plc b d ld up _
section
variable {P:Program} {w:World} {A:Around} {E:Value->Shared->Prop}
theorem qmj {it a S:Addr}{ep:Nat}{es:Array (Int×Value)}{t:SetTable}{pl:List Value}{res:Value}{R:Result->Shared->Prop}(hh:A.handled=none)(hf:t.fits es.size=true)(h1:it≠a)(h2:S≠a)(h3:S≠it)(hn:es.size<=sizeLine):
  ∀ (k i:Nat) (s:Shared) (f:Value) (acc:Array Value) (c:Nat),es.size-i=k->i<=es.size->SIs s.heap it a f i es.size ep->s.heap.get? a=some (stO es ep t)->Way w s.heap a es ep t f i pl->(∀ tp,f = .ref tp->tp≠it/\tp≠S) ->
  s.heap.get? S=some {cls:=.type "list",dict:=none,data:=.seq acc c,slots:= #[]}->acc.toList=pl.take i ->
  (∀ h' acc' c',(∀ b u,b≠it->b≠S->s.heap.get? b=some u->h'.get? b=some u)->h'.get? S=some {cls:=.type "list",dict:=none,data:=.seq acc' c',slots:= #[]}->acc'.toList=pl->R (.ok (.ret res)) {s with heap:=h'}) ->
  codeAny (model P w) A (.builtin "list.extend.loop" ⟨[.ref S,.ref it,res],[]⟩) R s:=by
 intro k
 induction k with
 | zero=>
  intro i s f acc c hk hi hit ha y nt hS hp hR;have e:i=es.size:=by lia
  subst e;have hlen:=y.len;refine wD1 PySem.F.entry_extend_loop (?_:_);rw [Around.under_plainId PySem.F.plain_extend_loop _];show wpAny _ A.in1 (pyNext (.ref it) >>= _) _ _ s;refine wB1 (qoe hh hit ha hf y fun h' keep=>wP1 ?_);exact hR h' acc c (fun b u hb _ e=>keep b u hb e) (keep S _ h3 hS) (by rw [hp,<- hlen,List.take_length])
 | succ k ih=>
  intro i s f acc c hk hi hit ha y nt hS hp hR;have hlt:i<es.size:=by lia
  have hlen:=y.len;obtain ⟨x,hx⟩:∃ x,pl[i]? = some x:=⟨_,gG1 (by lia)⟩;have hal:acc.size=i:=by rw [<- Array.length_toList,hp,List.length_take];lia
  refine wD1 PySem.F.entry_extend_loop (?_:_);rw [Around.under_plainId PySem.F.plain_extend_loop _];show wpAny _ A.in1 (pyNext (.ref it) >>= _) _ _ s;refine wB1 (qmi hit ha hf y hx (fun tp e=>(nt tp e).1) fun h' f' hit' keep y' nf=>?_);have hS':=keep S _ h3 hS;show wpAny _ A.in1 (updateSeq S (·.push x) >>= _) _ _ _;refine wB1 (wpAny_updateSeq (s:={s with heap:=h'}) hS' rfl ?_ (by rw [hal];lia) (by show (acc.push _).size<=sizeLine+1;rw [Array.size_push,hal];lia));have oth:∀ b u,b≠S->h'.get? b=some u->(h'.update S (Obj.mapSeq (·.push x))).get? b=some u:=fun b u hb e=>by rw [hU1 _ _ _ _ hb];exact e
  refine wP1 ⟨plainId_quiet PySem.F.plain_extend_loop _,ih (i+1) {s with heap:=h'.update S (Obj.mapSeq (·.push x))} f' (acc.push x) _ (by lia) hlt (oth it _ (Ne.symm h3) hit') (oth a _ (Ne.symm h2) (keep a _ (Ne.symm h1) ha)) (y'.keep fun tp o e q=>oth tp o (nt tp (nf tp e)).2 q) (fun tp e=>nt tp (nf tp e)) (hW1 _ hS' rfl) ?_ ?_⟩
  ·rw [Array.toList_push,hp,List.take_succ,hx];rfl
  ·intro h'' acc' c' keep2 hS2 hp2;exact hR h'' acc' c' (fun b u hb hb2 e=>keep2 b u hb hb2 (oth b u hb2 (keep b u hb e))) hS2 hp2
theorem qkw:typeLookup (.type "set") "__len__"=pure (some (.builtin "set.__len__")):=by rw [typeLookup_type,builtinLookup_eq_fast];kernel_rfl
theorem qml {s:Shared}{v:Addr}{Q:Bool->Shared->Prop}(hT:s.TypeIs (.ref v) "set")(q:Q false s):wpAny (model P w) A (Builtin.List.listLengthHint (.ref v)) Q E s:=by
 unfold Builtin.List.listLengthHint;refine wB1 (wpAny_specialOf hT qkw (?_:_));generalize hid:("set.__len__":String)=id0
 wp_delta
 rw [show splitId id0=some ("set","__len__") from by subst hid;decide+kernel];subst hid;refine wB1 (wpAny_isInstance (b:=true) hT (by rw [isSubtype_type];kernel_rfl) (?_:_));rw [if_neg (by decide)];dsimp only;rw [if_pos (by decide+kernel)];exact wB1 (wpAny_typeOf hT (wP1 q))
theorem qhH {s:Shared}{a:Addr}{ns:List Int}{Q:List Value->Shared->Prop}(hh:A.handled=none)(hx:SetX (byT w) a ns s.heap)
  (q:∀ h' dr vs ms,(∀ b u,s.heap.get? b=some u->h'.get? b=some u)->s.heap.objs.size<=h'.objs.size->IntsAre vs ms->ms.Perm ns->Q vs {s with heap:=h',drawn:=dr}):wpAny (model P w) A (collect (.ref a)) Q E s:=by
 obtain ⟨es,ep,t,l,ha,hE,hz,hf,ts,hl⟩:=hx;have hal:a<s.heap.objs.size:=hL1 ha;unfold collect;refine wB1 (wpAny_runValue (wD1 PySem.F.entry_proto_collect (?_:_)));rw [Around.under_plainId PySem.F.plain_proto_collect _];show wpAny _ A.in1 (newList [] >>= fun l=>again (.builtin "list.__iadd__" ⟨[l,.ref a],[]⟩)) _ _ s;refine wB1 (wO1 (?_:_));refine wP1 ⟨plainId_quiet PySem.F.plain_list_iadd _,wD1 PySem.F.entry_list_iadd (?_:_)⟩;rw [Around.under_plainId PySem.F.plain_list_iadd _];have hS₁:(s.heap.push {cls:=.type "list",data:=.seq ([]:List Value).toArray}).get? s.heap.objs.size=some {cls:=.type "list",data:=.seq ([]:List Value).toArray}:=hS1 _ rfl;have k₁:∀ b u,s.heap.get? b=some u->(s.heap.push {cls:=.type "list",data:=.seq ([]:List Value).toArray}).get? b=some u:=fun b u e=>hP1 _ e;have hz₁:(s.heap.push {cls:=.type "list",data:=.seq ([]:List Value).toArray}).objs.size=s.heap.objs.size+1:=by rw [hZ1]
 have hne:s.heap.objs.size≠a:=nG1 hal;have h1:Builtin.List.listSameRef (.ref s.heap.objs.size) (.ref a)=false:=by simp [Builtin.List.listSameRef,hne]
 show wpAny _ A.in1 (Builtin.List.listExtendWith (.ref s.heap.objs.size) (.ref a) (.ref s.heap.objs.size)) _ _ {s with heap:=s.heap.push {cls:=.type "list",data:=.seq ([]:List Value).toArray}};generalize s.heap.push {cls:=.type "list",data:=.seq ([]:List Value).toArray}=h₁ at *
 unfold Builtin.List.listExtendWith;refine wB1 (wpAny_typeOf (T:="set") ⟨_,k₁ a _ ha,rfl⟩ ?_);rw [if_neg (by rw [h1];decide)];refine wB1 (qmk (s:={s with heap:=h₁}) (k₁ a _ ha) hf hz ts hl fun it h₂ dr f pl k₂ hit0 hit y nt=>?_);dsimp only at k₂ hit0 nt;have hS₂:=k₂ _ _ hS₁;have hT₂:Shared.TypeIs {s with heap:=h₂,drawn:=dr} (.ref a) "set":=⟨_,k₂ _ _ (k₁ a _ ha),rfl⟩;refine wB1 (wpAny_holding (qml hT₂ ?_));rw [if_pos (by decide+kernel)];refine wB1 (wpAny_rule (wB1 ?_));show wpAny _ A.in1 (updateSeq s.heap.objs.size (·.push .none) >>= fun _=>updateSeq s.heap.objs.size (·.pop)) _ _ _;refine wB1 (wpAny_updateSeq (s:={s with heap:=h₂,drawn:=dr}) hS₂ rfl ?_);have hS₃:=hW1 (Obj.mapSeq (·.push Value.none)) hS₂ rfl;refine wpAny_updateSeq (s:={s with heap:=h₂.update s.heap.objs.size (Obj.mapSeq (·.push Value.none)),drawn:=dr}) hS₃ rfl ?_;have hS₄:=hW1 (Obj.mapSeq (·.pop)) hS₃ rfl;have oth:∀ b u,b≠s.heap.objs.size->h₂.get? b=some u->((h₂.update s.heap.objs.size (Obj.mapSeq (·.push Value.none))).update s.heap.objs.size (Obj.mapSeq (·.pop))).get? b=some u:=fun b u hb e=>by
  rw [hU1 _ _ _ _ hb,hU1 _ _ _ _ hb];exact e
 rw [hz₁] at hit0 nt;have pm:=y.perm;refine wP1 ⟨plainId_quiet PySem.F.plain_extend_loop _,qmj (it:=it) (pl:=pl) hh hf (nG1 (Nat.lt_trans hal hit0)) (nG1 hal) (nN1 hit0) (fits_of_scanBound hz) es.size 0
  {s with heap:=(h₂.update s.heap.objs.size (Obj.mapSeq (·.push Value.none))).update s.heap.objs.size (Obj.mapSeq (·.pop)),drawn:=dr} f _ _ rfl (Nat.zero_le _) (oth _ _ (nG1 hit0) hit) (oth a _ (nN1 hal) (k₂ _ _ (k₁ a _ ha))) (y.keep fun tp o e q=>oth tp o (nG1 (nt tp e).2) q) (fun tp e=>⟨(nt tp e).1,nG1 (nt tp e).2⟩) hS₄ rfl fun h' acc' c' keep hS' hp=>?_⟩
 show wpAny _ A (load s.heap.objs.size >>= _) _ _ {s with heap:=h',drawn:=dr};refine wB1 (wpAny_load hS' ?_);have hI:∀ v∈pl,∃ k t,v=Value.int k t:=fun v hv=>by
  obtain ⟨e,he,rfl⟩:=List.mem_map.mp (pm.mem_iff.mp hv);obtain ⟨k,t,rfl⟩:=hE.el e he;exact ⟨k,t,rfl⟩
 have all:∀ vs:List Value,(∀ v∈vs,∃ k t,v=Value.int k t)->IntsAre vs (vs.map fun v=>kOf (0,v)):=by
  intro vs
  induction vs with
  | nil=>intro _;exact .nil
  | cons v vs ih=>
   intro hv;obtain ⟨k,t,rfl⟩:=hv v mS1;exact .cons k t (ih fun u hu=>hv u (mC1 _ hu))
 refine wP1 (q h' dr acc'.toList (pl.map fun v=>kOf (0,v)) (fun b u e=>?_) (Nat.le_of_lt (hL1 hS')) (by rw [hp];exact all pl hI) ?_)
 ·have hb:=hL1 e;exact keep b u (nN1 (Nat.lt_trans hb hit0)) (nN1 hb) (oth b u (nN1 hb) (k₂ _ _ (k₁ b u e)))
 ·refine (pm.map _).trans ?_;rw [List.map_map];exact hE.pm
theorem qge {s:Shared}{a:Addr}{ns:List Int}{Q:Value->Shared->Prop}(hh:A.handled=none)(hx:SetX (byT w) a ns s.heap)(h64:ns.length<64)
  (q:∀ h' dr L n out,(∀ b u,s.heap.get? b=some u->h'.get? b=some u)->s.heap.objs.size<=L->h'.get? L=some (seqObj "list" out n)->IntsAre out.toList (qb4 ns)->Q (.ref L) {s with heap:=h',drawn:=dr}):
  wpAny (model P w) A (call (.builtin "sorted") [.ref a]) Q E s:=by
 refine Calls.call_function_entry kind_sorted plain_sorted entry_sorted (args_sorted1 _) (?_:_);unfold Builtin.«sorted»;refine wB1 (m:=checkCount "sorted" 1 1 _) (wP1 (wB1 (qhH hh hx fun h' dr vs ms keep hz hI pm=>?_)));have hlen:vs.length<64:=by rw [hI.length,pm.length_eq];exact h64
 refine wB1 (wpAny_newList (hsz:=by rw [sizeLine_eq];lia) ?_);have hoL:(h'.push (seqObj "list" vs.toArray 0)).get? h'.objs.size=some (seqObj "list" vs.toArray 0):=hS1 _ rfl;show wpAny _ _ _ _ _ {s with heap:=h'.push (seqObj "list" vs.toArray 0),drawn:=dr};refine wB1 (wpAny_holding (wE1 slot_list_sort ⟨_,hoL,rfl⟩ entry_list_sort (list_sort_tree (s:={s with heap:=h'.push (seqObj "list" vs.toArray 0),drawn:=dr}) hoL hI hlen fun out ns' a1 a2 a3=>⟨_,rfl,?_⟩) (args_list_sort _)));have en:ns'=qb4 ns:=qiJ (a2.trans (pm.trans (qbM ns).symm)) a3 (qgX ns);subst en;obtain ⟨n,hat⟩:=sortedHeap_at (out:=out) hoL;refine wP1 ⟨_,rfl,q _ dr h'.objs.size n out (fun b u e=>?_) hz hat a1⟩;have e':=keep b u e;show (sortedHeap (h'.push (seqObj "list" vs.toArray 0)) h'.objs.size vs out).get? b=some u;rw [sortedHeap_old (nN1 (hL1 e')) (by rw [hZ1];exact Nat.lt_succ_of_lt (hL1 e'))];exact hP1 _ e'
end
noncomputable def qc0:G1:=fun d S=>match qao S d with
 | some (true,xs)=>(qd3 xs).bind fun ns=>if ns.length<64 then some (.ref S.length,S++[.lst ((qb4 (ddI ns)).map D.int)]) else none
 | _=>none
section
variable {X:Cx}
noncomputable def qrc (X:Cx)(vs:List V)(H:Hp)(Q:VK):Prop:=∃ a xs ns,vs=[.ref a]/\SqL X.K H a xs/\(∀ us,Vals xs us->IntsAre us ns)/\ns.length+1<scanBound /\ ∀ p,H p=none->Q (.ref p) (upd H p (.ext (SetX (byT X.w) p (ddI ns))))
noncomputable def qoI (X:Cx)(vs:List V)(H:Hp)(Q:VK):Prop:=∃ a ns,vs=[.ref a]/\H a=some (.ext (SetX (byT X.w) a ns))/\ns.length<64 /\ ∀ p,H p=none->Q (.ref p) (upd H p (.lst ((qb4 ns).map V.int)))
theorem qjp {pins:List (Addr×Obj)}{σ:L2.St}{H:Hp}{s:Shared}(I:Inv X pins σ H s)(d:Drawn):Inv X pins σ H {s with drawn:=d}:=⟨I.ok,I.os,I.bare,I.base,I.loc,I.cell,I.free,I.freeC,I.pin,I.hok,I.len⟩
theorem qqp (hc:X.calm=true):qaN X (.type "set") (qrc X):=by
 intro pins s σ H xs us Q I r h;obtain ⟨a,vs,ns,rfl,hq,hi,hb,q⟩:=h;obtain ⟨u,rfl,r2⟩:=qcB r;cases r2;obtain ⟨its,rv,p,hz⟩:=I.list hq;have hI:=hi its rv;refine qj1 (I.ok.hd hc) p.isList (by simpa using hI) hb fun h' tk keep hx=>?_;have hfr:=I.hok.fresh (nR1 s.heap.objs.size);refine ⟨.ref s.heap.objs.size,_,I.laid (t':=tk) (o:=.ext (SetX (byT X.w) s.heap.objs.size (ddI ns))) keep (nR1 _) ⟨hx,?_,fun h1 h2 x k=>x.old k⟩,rfl,q _ hfr⟩;obtain ⟨es,ep,t,l,e,_⟩:=hx;exact ⟨_,e⟩
theorem qnY (hc:X.calm=true):qaN X (.builtin "sorted") (qoI X):=by
 intro pins s σ H xs us Q I r h;obtain ⟨a,ns,rfl,ha,hl,q⟩:=h;obtain ⟨u,rfl,r2⟩:=qcB r;cases r2;obtain ⟨hx,_⟩:=(show qaV X.prog X.w H s.heap a (.ext (SetX (byT X.w) a ns)) from I.hok a _ ha);refine qge (I.ok.hd hc) hx hl fun h' dr L n out keep hL hat hI=>?_;have hfr:=I.hok.fresh hL;refine ⟨.ref L,_,qjp (I.laid (t':=s.toks) (o:=.lst ((qb4 ns).map V.int)) keep hL ⟨?_,out.toList,n,qjr hI,by rw [Array.toArray_toList];exact hat⟩) dr,rfl,q _ hfr⟩;rw [lM1,(qbM ns).length_eq,sizeLine_eq];lia
theorem qrY (ns:List Int):(ddI ns).length<=ns.length:=by
 have:=qdJ ns [];unfold ddI;simpa using this
theorem qie (hc:X.calm=true){o:Expr}{m:FE}{p p2 pos pos2:Pos}(hg:Gl X "sorted")(hm:X.mg "sorted"=none)(hg2:Gl X "set")(hm2:X.mg "set"=none)(ho:XE X o m)
  (he:starEach [.Call (.Name "set" p2) [o] [] pos2] X.env=[(false,eval (.Call (.Name "set" p2) [o] [] pos2) X.env)]:=by rfl) (he2:starEach [o] X.env=[(false,eval o X.env)]:=by rfl):XE X (.Call (.Name "sorted" p) [.Call (.Name "set" p2) [o] [] pos2] [] pos) (mN (b1 qc0) (qaa m mNil)):=
 ⟨qaW (qdF (qnY hc) hg hm (by decide+kernel) (qcf (qcW (qqp hc) hg2 hm2 (by decide+kernel) (qcf ho.h qdT he2) (he:=he2)) qdT he) (he:=he)) <| by
  rintro σ H Q ⟨r,mu,S,d,S',he,hs,hm,hcc⟩;obtain ⟨⟨ds,S1⟩,e1,hm⟩:=oB1.mp hm;obtain ⟨⟨d1,S2⟩,e2,e1⟩:=oB1.mp e1;cases e1;dsimp only [b1,qc0] at hm;split at hm
  ·rename_i xs en;obtain ⟨ns,ei,hm⟩:=oB1.mp hm;split at hm
   ·rename_i hl;cases hm;refine ⟨r,mu,S,d1,_,he,hs,e2,fun v H1 mu1 x1 r1 s1=>?_⟩;obtain ⟨a,vs,rfl,q,t⟩:=qag r1 s1 en;refine ⟨a,vs,ns,rfl,q,fun us hv=>(qd2 t hv ei).1,Nat.lt_trans (Nat.succ_lt_succ hl) (by decide),fun p hp=>?_⟩;refine ⟨p,ddI ns,rfl,qau,Nat.lt_of_le_of_lt (qrY ns) hl,fun p2 hp2=>?_⟩;have f1:Ext mu1 mu1 H1 (upd H1 p (.ext (SetX (byT X.w) p (ddI ns)))):=Ext.fresh hp;have s2:=s1.fresh (u:=.ext (SetX (byT X.w) p (ddI ns))) hp;exact hcc _ _ (mu1++[p2]) (x1.trans (f1.trans (Ext.new_ hp2))) (.ref (qcl s2.len _)) (s2.newL (qdS _) hp2)
   ·cases hm
  ·cases hm⟩
end
section
variable {X:Cx} {pins:List (Addr×Obj)} {σ:L2.St} {H:Hp} {s:Shared} {a:Addr} {kvs:List (Key×V)} {k:Key} {v:V} {u r:Value} {A:Around} {E:Value->Shared->Prop}
end
section
variable {X:Cx}
end
open AutoSeq1 (wpAny_loadPart')
section
variable {prog:Program} {w:World} {A:Around} {E:Value->Shared->Prop} {s:Shared}
end
section
variable {X:Cx}
end
section
variable {P:Program} {w:World} {A:Around} {E:Value->Shared->Prop} {s:Shared}
set_option maxHeartbeats 3200000 in
theorem qjY {l:Addr}{its:Array Value}{Q:Value->Shared->Prop}(hl:s.heap.IsTuple l its)
  (run:∀ A':Around,A'.handled=A.handled -> ∀ R:Result->Shared->Prop,(∀ s',Q (.ref s.heap.objs.size) s'->R (.ok (.ret .none)) s') ->
   codeAny (model P w) A' (.builtin "set.update.loop" ⟨[.ref s.heap.objs.size,.ref (s.heap.objs.size+1)],[]⟩) R {s with heap:=(s.heap.push (stO #[] 0 (.fresh 0 0 (!byT w)))).push {cls:=.type "tuple_iterator",data:=.fields #[.ref l,.int 0 0]}}):
  wpAny (model P w) A (call (.type "set") [.ref l]) Q E s:=by
 obtain ⟨cc,tt,hmro⟩:=PySem.F.called_set.mro;have hmade:=PySem.F.called_set.made;have hsub:=PySem.F.called_set.sub
 refine wpAny_call (codeAny_of_tree (?_:wpAny _ _ (callAny (.type "set") _) _ _ _));refine wP1 ⟨Code.quiet_builtin _ (by decide+kernel),wD1 PySem.F.entry_type_call (?_:_)⟩;rw [Around.under_plain (weight_type_call_type "set" [.ref l] []) rfl];have n1:=PySem.F.called_set.notType;have n2:=PySem.F.called_set.canCreate;have n3:=PySem.F.typeCall_set_1 (.ref l)
 repeat (any_goals (first | wp_step | assumption))
 refine codeAny_mono (qi2 (.ref l) (E:=E) (G:=fun x s1=>x = .ref s.heap.objs.size/\s1={s with heap:=s.heap.push (stO #[] 0 (.fresh 0 0 (!byT w)))}) ⟨rfl,rfl⟩) fun r s1 hr=>?_;cases r with
 | error e=>exact hr
 | ok fl=>
  cases fl with
  | ret x=>
   obtain ⟨rfl,rfl⟩:=hr;have hS:(s.heap.push (stO #[] 0 (.fresh 0 0 (!byT w)))).get? s.heap.objs.size=some (stO #[] 0 (.fresh 0 0 (!byT w))):=hS1 _ rfl;have hT:Shared.TypeIs {s with heap:=s.heap.push (stO #[] 0 (.fresh 0 0 (!byT w)))} (.ref s.heap.objs.size) "set":=⟨_,hS,rfl⟩;have n4:=PySem.F.called_set.init.lookup;have n5:=PySem.F.called_set.init.bind (.ref s.heap.objs.size)
   repeat (any_goals (first | wp_step | assumption))
   refine codeAny_mono (codeAny_call_builtin (R:=wants (fun r s2=>r = .none/\Q (.ref s.heap.objs.size) s2) E) PySem.F.called_set.init.plain PySem.F.entry_set_init (check_set_init_1 hT (?_:_))) fun r2 s2 hr2=>?_
   ·obtain ⟨ol,hol,hcl,nl,hdl⟩:=hl;obtain ⟨oc,od,oa,os⟩:=ol;simp only at hcl hdl;subst hcl;subst hdl;have k1:(s.heap.push (stO #[] 0 (.fresh 0 0 (!byT w)))).get? l=some {cls:=.type "tuple",dict:=od,data:=.seq its nl,slots:=os}:=hP1 _ hol;have k2:=PySem.F.sub_tuple_set;have k3:=PySem.F.sub_tuple_frozenset;have k4:(Value.type "tuple" == Value.type "dict")=false:=by decide
    have k5:(s.heap.push (stO #[] 0 (.fresh 0 0 (!byT w)))).IsTuple l its:=⟨_,k1,rfl,nl,rfl⟩;have hS':(s.heap.push (stO #[] 0 (.fresh 0 0 (!byT w)))).get? s.heap.objs.size=some {cls:=.type "set",dict:=none,data:=.set #[] 0 (.fresh 0 0 (!byT w)),slots:= #[]}:=hS;unfold Builtin.«set.__init__» noKeywords Builtin.Frozenset.updateFrom;generalize hPI:pyIter=PI
    wp_walk
    subst hPI;refine wpAny_pyIter_tuple k5 (wB1 (wpAny_runValue (?_:_)));dsimp only;rw [show (s.heap.push (stO #[] 0 (.fresh 0 0 (!byT w)))).objs.size=s.heap.objs.size+1 from by rw [hZ1]];refine run A.in1.in1 (by simp) _ fun s' q=>?_;exact wP1 (wP1 ⟨rfl,q⟩)
   ·cases r2 with
    | error e=>exact hr2
    | ok f2=>
     cases f2 with
     | ret r=>
      obtain ⟨rfl,q⟩:=hr2
      repeat (any_goals (first | wp_step | assumption))
     | _=>exact hr2.elim
  | _=>exact hr.elim
theorem qh4 {l:Addr}{its:Array Value}{ns:List Int}{Q:Value->Shared->Prop}(hh:A.handled=none)(hl:s.heap.IsTuple l its)(hI:IntsAre its.toList ns)(hb:its.size+1<scanBound)
  (q:∀ h' tk,(∀ c o,s.heap.get? c=some o->h'.get? c=some o)->h'.SetOf (intKind P w) s.heap.objs.size (fun k'=>(firstMet (fun i=>ns.getD i 0) its.size).any (· == k')) (firstMet (fun i=>ns.getD i 0) its.size).length->Q (.ref s.heap.objs.size) {s with heap:=h',toks:=tk}):wpAny (model P w) A (call (.type "set") [.ref l]) Q E s:=by
 have hlt:l<s.heap.objs.size:=by obtain ⟨o,e,_⟩:=hl;exact hL1 e
 refine qjY hl fun A' hA R hR=>?_;have z1:(s.heap.push (stO #[] 0 (.fresh 0 0 (!byT w)))).objs.size=s.heap.objs.size+1:=by rw [hZ1]
 have g1:(s.heap.push (stO #[] 0 (.fresh 0 0 (!byT w)))).get? s.heap.objs.size=some (stO #[] 0 (.fresh 0 0 (!byT w))):=hS1 _ rfl;have hval:∀ (i:Nat) (v:Value),its[i]? = some v -> ∃ t,v = .int ((fun i=>ns.getD i 0) i) t:=fun i v hv=>PyProof.Rows.IntsAre.int_at hI i v (by rw [aT1];exact hv);have hSf:s.heap.objs.size∉[s.heap.objs.size+1,l]:=by
  simp only [List.mem_cons,List.mem_singleton,List.not_mem_nil,or_false,not_or];exact ⟨nN1 (Nat.lt_succ_self _),nG1 hlt⟩
 have hh3:A'.in1.handled=none:=by simpa using hA.trans hh
 refine PyProof.Rows.codeAny_set_update_loopS ((Walks.tuple hh3 _ l (nN1 (Nat.lt_succ_of_lt hlt)) its).toS) s.heap.objs.size hSf (fun i=>ns.getD i 0) hval hb (its.size-0) 0 _ (by lia) (Nat.zero_le _) ⟨?_,?_⟩ ?_ fun s' hm hS'=>?_
 ·refine ⟨{cls:=.type "tuple_iterator",data:=.fields #[.ref l,.int 0 0]},?_,rfl,rfl⟩;have this:((s.heap.push (stO #[] 0 (.fresh 0 0 (!byT w)))).push {cls:=.type "tuple_iterator",data:=.fields #[.ref l,.int 0 0]}).get? (s.heap.push (stO #[] 0 (.fresh 0 0 (!byT w)))).objs.size=some {cls:=.type "tuple_iterator",data:=.fields #[.ref l,.int 0 0]}:=hS1 _ rfl;rw [z1] at this;exact this
 ·obtain ⟨o,e,r⟩:=hl;exact ⟨o,hP1 _ (hP1 _ e),r⟩
 ·exact PyProof.Rows.SetOf_congr ((PyProof.Rows.setObjOf_fresh (knd:=intKind P w) (!byT w)).setOf (hP1 _ g1) (by unfold scanBound;lia)) (fun _=>rfl) rfl
 ·obtain ⟨h',g',d',tk',os'⟩:=s';have eg:g'=s.gens:=hm.gens;have ed:d'=s.drawn:=hm.drawn;have eo:os'=s.os:=hm.os;subst eg;subst ed;subst eo;refine hR _ (q h' tk' (fun c o e=>hm.heap c o ?_ (hP1 _ (hP1 _ e))) hS');have:=hL1 e;simp only [List.mem_cons,List.mem_singleton,List.not_mem_nil,or_false,not_or];exact ⟨nN1 this,nN1 (Nat.lt_succ_of_lt this)⟩
end
section
variable {X:Cx}
noncomputable def qd5:G1:=fun d S=>match qao S d with
 | some (_,xs)=>(qd3 xs).bind fun ns=>if ns.length+1<scanBound then some (.ref S.length,S++[.iset (ddI ns)]) else none
 | _=>none
theorem qqq {k:Nat}(hr:Room k X.A):qaN X (.type "set") (rN X.K (b1 qd5)):=by
 intro pins s σ H xs us Q I r h;have h0:=h;obtain ⟨x,mu,S,d,r',S',rfl,r1,hs,hm,hc⟩:=rn1 h;unfold qd5 at hm;split at hm
 ·rename_i b ys e1;cases b with
  | true=>exact qr4 hr pins s σ H _ us Q I r ⟨mu,S,[d],r',S',.cons r1 .nil,hs,(by show qhp d S=_;unfold qhp;rw [e1];exact hm),hc⟩
  | false=>
  obtain ⟨ns,e,hm⟩:=oB1.mp hm;split at hm
  ·rename_i hl;cases hm;obtain ⟨a,vs,rfl,q,t⟩:=qag r1 hs e1;cases r with
   | cons rv rt=>
    cases rt;cases rv;obtain ⟨its,vv,ht,_⟩:=I.tuple q;obtain ⟨hi,hlen⟩:=qd2 t vv e;have hsz:its.toArray.size=ns.length:=by rw [sT1,hi.length]
    refine qh4 (its:=its.toArray) (ns:=ns) hr.hd ht (by simpa using hi) (by rw [hsz];exact hl) fun h' tk hk hS=>?_;rw [hsz,qhw] at hS;have nd:(ddI ns).Nodup:=qfg ns [] List.nodup_nil;have fe:=qdt (ddI ns);rw [fe] at hS;refine ⟨.ref s.heap.objs.size,upd H s.heap.objs.size (.set (fun k=>(ddI ns).contains k) (ddI ns).length),I.laid (fun b u z=>hk b u z) (nR1 _) hS,rfl,?_⟩;exact hc _ _ (mu++[s.heap.objs.size]) (Ext.new_ I.fresh) (.ref (qcl hs.len _)) (hs.new I.fresh ⟨qau,nd⟩)
  ·cases hm
 ·cases hm
end
section
variable {X:Cx} {a b:Expr} {rest:List Expr} {pos:Pos} {ta tb:TE} {f g:FE}
end
section
variable {X:Cx}
theorem KR.len {K:Fg1}{H:Hp}{mu:List Addr}{ks:List (Key×D)}{ws:List (Key×V)}(h:KR K H mu ks ws):ws.length=ks.length:=by
 induction h with
 | nil=>rfl
 | cons _ _ ih=>rw [lC1,lC1,ih]
noncomputable def qgF:G1:=fun d S=>match d with
 | .ref n=>match S[n]? with
  | some (.dct kvs)=>some (.int kvs.length,S)
  | _=>gLen d S
 | _=>gLen d S
theorem qqv:qaN X (.builtin "len") (rN X.K (b1 qgF)):=by
 intro pins s σ H xs us Q I r h;obtain ⟨x,mu,S,d,r',S',hx,r1,hs,hm,hc⟩:=rn1 h;have hm0:=hm;unfold qgF at hm;split at hm
 ·rename_i n;split at hm
  ·rename_i ys e;cases hm;subst hx;cases r1 with
   | ref hn=>
    obtain ⟨ws,ha,hk⟩:=hs.dct e hn;cases r with
    | cons rv rt=>
     cases rt;cases rv;refine qrZ I (Rd.of ha) fun t s' I'=>⟨.int ws.length,H,I',⟨_,rfl⟩,?_⟩;rw [hk.len];exact hc.now (.int _) hs
  ·exact qa8 pins s σ H xs us Q I r (by subst hx;exact ⟨mu,S,[_],r',S',.cons r1 .nil,hs,(show b1 gLen [_] S=_ from hm),hc⟩)
 ·exact qa8 pins s σ H xs us Q I r (by subst hx;exact ⟨mu,S,[_],r',S',.cons r1 .nil,hs,(show b1 gLen [_] S=_ from hm),hc⟩)
end
section
variable {P:Program} {w:World} {A:Around} {E:Value->Shared->Prop} {b:Bool}
end
section
variable {X:Cx}
end
theorem qhZ:∀ {us:List Value} {ns:List Int},IntsAre us ns -> ∃ xs:Array (Int×Tok),us.toArray=intItems xs/\xs.toList.map (·.1)=ns:=by
 intro us ns h
 induction h with
 | nil=>exact ⟨#[],by simp [intItems],rfl⟩
 | cons n t _ ih=>
  obtain ⟨xs,e1,e2⟩:=ih;refine ⟨((n,t)::xs.toList).toArray,?_,by rw [mP1,e2]⟩;have e3:=congrArg Array.toList e1;unfold intItems at e3 ⊢;rw [Array.toList_map] at e3;rw [List.map_toArray,mP1]
  congr 1
  rw [<- e3]
noncomputable def maxI:List Int->Int
 | []=>0
 | [x]=>x
 | x::y::l=>let m:=maxI (y::l);if x<m then m else x
noncomputable def minI:List Int->Int
 | []=>0
 | [x]=>x
 | x::y::l=>let m:=minI (y::l);if m<x then m else x
theorem qnn:∀ {l:List Int},l≠[]->maxI l∈l /\ ∀ a∈l,a<=maxI l
 | [],h=>(h rfl).elim
 | [x],_=>⟨by simp [maxI],fun a h=>by simp at h;subst h;simp [maxI]⟩
 | x::y::l,_=>by
  obtain ⟨h1,h2⟩:=qnn (l:=y::l) (by simp);rw [maxI];split
  ·refine ⟨mC1 _ h1,fun a ha=>?_⟩;rcases List.mem_cons.mp ha with rfl | ha
   ·lia
   ·exact h2 a ha
  ·refine ⟨mS1,fun a ha=>?_⟩;rcases List.mem_cons.mp ha with rfl | ha
   ·exact Int.le_refl _
   ·have:=h2 a ha;lia
theorem qi4:∀ {l:List Int},l≠[]->minI l∈l /\ ∀ a∈l,minI l<=a
 | [],h=>(h rfl).elim
 | [x],_=>⟨by simp [minI],fun a h=>by simp at h;subst h;simp [minI]⟩
 | x::y::l,_=>by
  obtain ⟨h1,h2⟩:=qi4 (l:=y::l) (by simp);rw [minI];split
  ·refine ⟨mC1 _ h1,fun a ha=>?_⟩;rcases List.mem_cons.mp ha with rfl | ha
   ·lia
   ·exact h2 a ha
  ·refine ⟨mS1,fun a ha=>?_⟩;rcases List.mem_cons.mp ha with rfl | ha
   ·exact Int.le_refl _
   ·have:=h2 a ha;lia
theorem qm6 {xs:Array (Int×Tok)}{ns:List Int}(e:xs.toList.map (·.1)=ns){j:Nat}(hj:j<ns.length):numAt xs j∈ns:=by
 rw [numAt_eq,e,List.getD_eq_getElem?_getD,gG1 hj];exact List.getElem_mem hj
theorem qnl {xs:Array (Int×Tok)}{ns:List Int}(e:xs.toList.map (·.1)=ns){a:Int}(h:a∈ns):∃ j,j<ns.length/\numAt xs j=a:=by
 obtain ⟨j,hj,rfl⟩:=List.getElem_of_mem h;exact ⟨j,hj,by rw [numAt_eq,e,List.getD_eq_getElem?_getD,gG1 hj];rfl⟩
noncomputable def gMaxL:G1:=fun d S=>match qao S d with
 | some (true,xs)=>(qgC xs).bind fun ns=>if ns=[] then none else some (.int (maxI ns),S)
 | _=>none
noncomputable def qh1:G1:=fun d S=>match qao S d with
 | some (true,xs)=>(qgC xs).bind fun ns=>if ns=[] then none else some (.int (minI ns),S)
 | _=>none
section
variable {X:Cx}
theorem qqs (hcl:X.calm=true):qaN X (.builtin "min") (rN X.K (b1 qh1)):=by
 intro pins s σ H xs us Q I r h;obtain ⟨x,mu,S,d,r',S',rfl,r1,hs,hm,hc⟩:=rn1 h;unfold qh1 at hm;split at hm
 ·rename_i ds en;obtain ⟨ns,e1,hm⟩:=oB1.mp hm;split at hm
  ·cases hm
  ·rename_i hne;cases hm;obtain ⟨a,vs,rfl,q,t⟩:=qag r1 hs en;obtain ⟨u,rfl,r2⟩:=qcB r;cases r2;obtain ⟨its,rv,ht,hz⟩:=I.list q;have hI:=qjq t rv e1;obtain ⟨xs,e2,e3⟩:=qhZ hI;have hlen:xs.size=ns.length:=by rw [<- Array.length_toList,<- e3,lM1]
   have hp:0<ns.length:=List.length_pos_iff.mpr hne;refine min_intList (I.ok.hd hcl) (by rw [<- e2];exact ht.isList) (by lia) fun v h' tk hv keep=>?_;obtain ⟨tk',rfl⟩:=intItems_at hv;obtain ⟨g1,g2⟩:=argBest_lt (numAt xs) (xs.size-1);have em:numAt xs (argBest (fun i j=>decide (numAt xs i<numAt xs j)) (xs.size-1))=minI ns:=by
    obtain ⟨m1,m2⟩:=qi4 hne;obtain ⟨j,hj,ej⟩:=qnl e3 m1;have h1:=g2 j (by lia);have h2:=m2 _ (qm6 e3 (j:=argBest (fun i j=>decide (numAt xs i<numAt xs j)) (xs.size-1)) (by lia));rw [ej] at h1;exact Int.le_antisymm h1 h2
   rw [em];exact ⟨.int (minI ns),H,I.kept keep,⟨_,rfl⟩,hc.now (.int _) hs⟩
 ·cases hm
end
section
variable {prog:Program} {w:World} {A:Around} {E:Value->Shared->Prop} {s:Shared}
end
section
variable {X:Cx} {pins:List (Addr×Obj)} {σ:L2.St} {H:Hp} {s:Shared} {mu:List Addr}
end
section
variable {X:Cx}
end
section
variable {X:Cx} {f:Addr} {fd:FuncData} {ps:List Str} {k n:Nat} {sp:Sp} {dvs:List V} {ds:List Value} {CX:CXT} {E:XK} {t:TA} {e:Expr} {es:List Expr} {p pos:Pos} {i:Nat} {v x:Str}
end
section
variable {prog:Program} {w:World} {K:Type} [DecidableEq K] {knd:HeapKind prog w K} {A:Around} {E:Value->Shared->Prop} {s:Shared}
theorem qhT {d:Addr}(hd:(d == sysModules)=false):
  MeetsIn prog w (Builtin.«dict.__len__» ⟨[.ref d],[]⟩) (fun _ R s=>∃ xs,s.heap.DictOfH knd d xs/\R (.ok (.ret (.int xs.length s.toks))) {s with toks:=s.toks+1}):=
 .of_wp fun A R s ⟨xs,hm,h⟩=>by
  obtain ⟨o,es,ep,ho,hc,hdat,hk,_⟩:=hm;show wpAny _ _ (dictSize d >>= _) _ _ s;unfold dictSize;refine wB1 (wB1 (wpAny_dictEntries ho hdat (wP1 ?_)));show wpAny _ _ (Builtin.Dict.pendingCount d >>= _) _ _ s;refine wB1 (wpAny_pendingCount_other hd ?_);refine wpAny_ret_mkInt ?_;rw [Nat.add_zero,size_of_entries hk];exact h
theorem qj4 {d:Addr}{xs:List (K×Addr×Value)}{Q:Value->Shared->Prop}(hd:(d == sysModules)=false)(hm:s.heap.DictOfH knd d xs)(hfit:(xs.length:Int)<2^63)
  (h:Q (.int xs.length (s.toks+1)) {s with toks:=s.toks+1+1}):wpAny (model prog w) A (call (.builtin "len") [.ref d]) Q E s:=by
 refine Calls.call_function_entry kind_len plain_len entry_len (args_len1 _) ?_;unfold Builtin.«len»;refine wB1 (m:=oneArg "len" _) (wP1 ?_);refine wB1 (m:=callSpecial? (.ref d) (Str.ofString "__len__")) (wpAny_callSpecial?_slot (name:=Str.ofString "__len__") hm.typeIs F.slot_dict_len
  (call_meetsIn F.slot_dict_len hm.typeIs F.entry_dict_len (F.args_dict_len_1 _) (qhT (knd:=knd) hd) ⟨xs,hm,?_⟩))
 show wpAny _ _ _ _ _ {s with toks:=s.toks+1};refine wB1 (wpAny_holding (wP1 ?_));refine wB1 (wpAny_letGo ?_);show wpAny _ _ (if ((xs.length:Nat):Int)<0 then _ else _) _ _ _;rw [if_neg (by omega)];show wpAny _ _ (if ((xs.length:Nat):Int)>=2^63 then _ else _) _ _ _;rw [if_neg (by omega)];exact wB1 (wpAny_mkInt (wP1 ⟨_,rfl,h⟩))
end
section
variable {X:Cx}
noncomputable def qgE:G1:=fun d S=>match d with
 | .ref n=>match S[n]? with
  | some (.dcT kvs)=>some (.int kvs.length,S)
  | _=>qgF d S
 | _=>qgF d S
theorem ql5:qaN X (.builtin "len") (rN X.K (b1 qgE)):=by
 intro pins s σ H xs us Q I r h;obtain ⟨x,mu,S,d,r',S',hx,r1,hs,hm,hc⟩:=rn1 h;have back:qgF d S=some (r',S')->wpAny (model X.prog X.w) X.A (call (.builtin "len") us) (EP X pins σ Q) X.xe s:=fun hm=>qqv pins s σ H xs us Q I r (by subst hx;exact ⟨mu,S,[d],r',S',.cons r1 .nil,hs,(show b1 qgF [d] S=_ from hm),hc⟩);unfold qgE at hm;split at hm
 ·rename_i n;split at hm
  ·rename_i ys e;cases hm;subst hx;cases r1 with
   | ref hn=>
    obtain ⟨ws,ha,hk,hl⟩:=hs.dcT e hn;obtain ⟨hd,dd⟩:=qjL I ha hk;cases r with
    | cons rv rt=>
     cases rt;cases rv;refine qj4 hd dd (by rw [sizeLine_eq] at hl;lia) ?_;refine ⟨.int ws.length,H,I.tok _,⟨_,rfl⟩,?_⟩;rw [<- hk.length];exact hc.now (.int _) hs
  ·exact back hm
 ·exact back hm
noncomputable def qb0:G2:=fun d e S=>match e with
 | .ref n=>match S[n]? with
  | some (.dct [])=>match keyT d with
   | some _=>some (.bl true,S)
   | none=>qbH d e S
  | _=>qbH d e S
 | _=>qbH d e S
theorem qg7 (hu:X.A.units+64<cLine):OpR X (compareOp .NotIn) (r2 X.K (b2 qb0)):=by
 intro pins s σ H x y u w Q I rx ry h;obtain ⟨mu,S,d,e,r,S',r1,r2',hs,hm,hc⟩:=rn2 h;have back:qbH d e S=some (r,S')->wpAny (model X.prog X.w) X.A (compareOp .NotIn u w) (EP X pins σ Q) X.xe s:=fun hm=>qg8 hu pins s σ H x y u w Q I rx ry ⟨mu,S,[d,e],r,S',.cons r1 (.cons r2' .nil),hs,hm,hc⟩;unfold qb0 at hm;split at hm
 ·rename_i n;split at hm
  ·rename_i en;split at hm
   ·rename_i k ek;cases hm;cases r2' with
    | ref hn=>
     cases ry;obtain ⟨ws,hw,hk⟩:=hs.dct en hn;cases hk;obtain ⟨z,hd,vs,rel,dd⟩:=qli I.hok hw;cases rel;obtain ⟨b,rfl,rfl,rk,dk,hi⟩:=qd0 I r1 rx ek;have dd2:s.heap.DictOfH (qcr X.prog X.w) _ []:=qff dd;refine wpAny_notIn_heap (qcH hu) hi hd dd2 ?_;exact ⟨.bl true,H,I.tok _,rfl,hc.now (.bl _) hs⟩
   ·exact back hm
  ·exact back hm
 ·exact back hm
noncomputable def gInZ:G2:=fun d e S=>match e with
 | .ref n=>match S[n]? with
  | some (.dct [])=>match keyT d with
   | some _=>some (.bl false,S)
   | none=>gInY d e S
  | _=>gInY d e S
 | _=>gInY d e S
theorem qru (hu:X.A.units+64<cLine):OpR X (compareOp .In) (r2 X.K (b2 gInZ)):=by
 intro pins s σ H x y u w Q I rx ry h;obtain ⟨mu,S,d,e,r,S',r1,r2',hs,hm,hc⟩:=rn2 h;have back:gInY d e S=some (r,S')->wpAny (model X.prog X.w) X.A (compareOp .In u w) (EP X pins σ Q) X.xe s:=fun hm=>qrv hu pins s σ H x y u w Q I rx ry ⟨mu,S,[d,e],r,S',.cons r1 (.cons r2' .nil),hs,hm,hc⟩;unfold gInZ at hm;split at hm
 ·rename_i n;split at hm
  ·rename_i en;split at hm
   ·rename_i k ek;cases hm;cases r2' with
    | ref hn=>
     cases ry;obtain ⟨ws,hw,hk⟩:=hs.dct en hn;cases hk;obtain ⟨z,hd,vs,rel,dd⟩:=qli I.hok hw;cases rel;obtain ⟨b,rfl,rfl,rk,dk,hi⟩:=qd0 I r1 rx ek;have dd2:s.heap.DictOfH (qcr X.prog X.w) _ []:=qff dd;refine wpAny_in_heap (qcH hu) hi hd dd2 ?_;exact ⟨.bl false,H,I.tok _,rfl,hc.now (.bl _) hs⟩
   ·exact back hm
  ·exact back hm
 ·exact back hm
end
noncomputable def qce (m:Nat):Nat->Nat->Nat->List Nat
 | 0,_,_=>[]
 | n+1,i,b=>List.range' i (SetTable.runEnd m i-i+1)++qce m n (SetTable.leap m i b).1 (SetTable.leap m i b).2
theorem qoD (m i:Nat):SetTable.runEnd m i-i<=9:=by unfold SetTable.runEnd;split<;>lia
theorem qlL (m i:Nat):i<=SetTable.runEnd m i:=by unfold SetTable.runEnd;split<;>lia
theorem qrb {m i:Nat}(h:i<=m):SetTable.runEnd m i<=m:=by unfold SetTable.runEnd;split<;>lia
theorem qjf (m i b:Nat):(SetTable.leap m i b).1<=m:=by
 unfold SetTable.leap;have:=Nat.mod_lt (i*5+1+b/32) (Nat.succ_pos m);dsimp only;lia
theorem qg6 (m:Nat):∀ n i b:Nat,(qce m n i b).length<=10*n
 | 0,_,_=>by simp [qce]
 | n+1,i,b=>by
  rw [qce,lA1,List.length_range'];have:=qg6 m n (SetTable.leap m i b).1 (SetTable.leap m i b).2;have:=qoD m i;lia
theorem qiV (m:Nat):∀ n i b:Nat,i<=m -> ∀ x∈qce m n i b,x<=m
 | 0,_,_,_,x,h=>by simp [qce] at h
 | n+1,i,b,hi,x,h=>by
  rw [qce,List.mem_append] at h;rcases h with h | h
  ·rw [List.mem_range'_1] at h;have:=qrb hi;have:=qlL m i
   lia
  ·exact qiV m n _ _ (qjf m i b) x h
noncomputable def sLp (m:Nat):Nat->Nat->Nat->Nat×Nat
 | 0,i,b=>(i,b)
 | n+1,i,b=>sLp m n (SetTable.leap m i b).1 (SetTable.leap m i b).2
theorem qlT (m:Nat):∀ n i b:Nat,(sLp m n i b).2=b/32^n
 | 0,i,b=>by simp [sLp]
 | n+1,i,b=>by
  rw [sLp,qlT m n];show b/32/32^n=_;rw [Nat.div_div_eq_div_mul,Nat.pow_succ,Nat.mul_comm]
theorem qlU (m:Nat):∀ n i b:Nat,i<=m->(sLp m n i b).1<=m
 | 0,i,b,h=>h
 | n+1,i,b,h=>by rw [sLp];exact qlU m n _ _ (qjf m i b)
theorem qfC (m:Nat):∀ n k i b x:Nat,x∈qce m k (sLp m n i b).1 (sLp m n i b).2->x∈qce m (n+k) i b
 | 0,k,i,b,x,h=>by rw [Nat.zero_add];exact h
 | n+1,k,i,b,x,h=>by
  rw [sLp] at h;rw [show n+1+k=(n+k)+1 by lia,qce];exact mA1 _ (qfC m n k _ _ x h)
noncomputable def qkx (m:Nat):Bool:=(List.range (m+1)).all fun i=>(List.range (m+1)).all fun j=>(qce m (m+2) i 0).contains j
theorem qrT:qkx 7=true:=by decide+kernel
theorem qqd:qkx 31=true:=by decide+kernel
noncomputable def sMk (m:Nat):Prop:=m=7\/m=31
theorem sMk.full {m:Nat}(h:sMk m):qkx m=true:=by
 rcases h with rfl | rfl
 ·exact qrT
 ·exact qqd
theorem qn3 (h:Int):SetTable.bits h<2^64:=by
 unfold SetTable.bits;have h1:=Int.emod_nonneg h (show (2^64:Int)≠0 by decide);have h2:=Int.emod_lt_of_pos h (show (0:Int)<2^64 by decide);have:((h%(2^64:Int)).toNat:Int)<2^64:=by rw [Int.toNat_of_nonneg h1];exact h2
 exact_mod_cast this
noncomputable def sWay (m:Nat)(h:Int):List Nat:=qce m (SetTable.turns m) (SetTable.bits h%(m+1)) (SetTable.bits h)
theorem qij {m:Nat}(hm:sMk m)(h:Int){j:Nat}(hj:j<=m):j∈sWay m h:=by
 unfold sWay SetTable.turns;rw [show m+15=13+(m+2) by lia];apply qfC;rw [qlT,Nat.div_eq_of_lt (Nat.lt_trans (qn3 h) (by decide))];have hi:=qlU m 13 (SetTable.bits h%(m+1)) (SetTable.bits h) (by have:=Nat.mod_lt (SetTable.bits h) (Nat.succ_pos m);lia);have f:=hm.full;unfold qkx at f;rw [List.all_eq_true] at f;have f:=f _ (List.mem_range.mpr (Nat.lt_succ_of_le hi));rw [List.all_eq_true] at f;have f:=f _ (List.mem_range.mpr (Nat.lt_succ_of_le hj));simpa using f
theorem qii (m:Nat)(h:Int):(sWay m h).length<=10*SetTable.turns m:=qg6 _ _ _ _
theorem qlA {m:Nat}(h:Int):∀ x∈sWay m h,x<=m:=qiV _ _ _ _ (by have:=Nat.mod_lt (SetTable.bits h) (Nat.succ_pos m);lia)
noncomputable def sAdv (m:Nat)(p:SetTable.Probe):SetTable.Probe:=SetTable.advance {SetTable.fresh 0 0 true with mask:=m} p
noncomputable def qdj (m:Nat):SetTable.Probe->List Nat->Prop
 | _,[]=>True
 | p,x::L=>p.j=x/\p.dummy=none/\qdj m (sAdv m p) L
theorem qes (m i b:Nat)(L:List Nat)(h:qdj m {j:=(SetTable.leap m i b).1,more:=SetTable.runEnd m (SetTable.leap m i b).1-(SetTable.leap m i b).1,i:=(SetTable.leap m i b).1,perturb:=(SetTable.leap m i b).2,dummy:=none} L):
  ∀ more j:Nat,qdj m {j,more,i,perturb:=b,dummy:=none} (List.range' j (more+1)++L)
 | 0,j=>by
  refine ⟨rfl,rfl,?_⟩;exact h
 | more+1,j=>by
  rw [List.range'_succ];refine ⟨rfl,rfl,?_⟩;exact qes m i b L h more (j+1)
theorem qer (m:Nat):∀ n i b:Nat,qdj m {j:=i,more:=SetTable.runEnd m i-i,i,perturb:=b,dummy:=none} (qce m n i b)
 | 0,_,_=>trivial
 | n+1,i,b=>by
  rw [qce];exact qes m i b _ (qer m n _ _) _ _
theorem qiv (t:SetTable)(h:Int):qdj t.mask (t.probeStart h) (sWay t.mask h):=qer _ _ _ _
theorem qfn {xs:Array Nat}(hr:Ris xs){j:Nat}(hj:j∈xs.toList):xs[SetTable.below xs j]? = some j:=by
 have b:=qdK hr j;obtain ⟨k,hk⟩:=List.getElem?_of_mem hj;rw [aT1] at hk;have hlt:¬ k<SetTable.below xs j:=fun z=>by have:=b.lo _ _ hk z;lia
 have hs:SetTable.below xs j<xs.size:=by have:=(Array.getElem?_eq_some_iff.mp hk).1;lia
 have e:=aG1 hs;have h1:=b.hi _ _ e (nR1 _);rcases Nat.lt_or_ge (SetTable.below xs j) k with z | z
 ·have:=hr.lt z e hk;lia
 ·have:k=SetTable.below xs j:=by lia
  rw [<- this];exact hk
theorem qix {t:SetTable}(hr:Ris t.place){j:Nat}(hj:j∈t.place.toList):t.slot j = .live (SetTable.below t.place j):=by
 unfold SetTable.slot;dsimp only;rw [qfn hr hj];simp
theorem qkq {t:SetTable}(hd:t.dummies = #[]){j:Nat}(hj:j∉t.place.toList):t.slot j = .empty:=by
 unfold SetTable.slot;have:(t.place[SetTable.below t.place j]? == some j)=false:=by
  rw [beq_eq_false_iff_ne];intro z;rw [<- aT1] at z;exact hj (gM1 z)
 dsimp only;rw [this,qdG hd];simp
theorem qju {t:SetTable}{f:Nat->Int}{h:Int}(hr:Ris t.place)(hd:t.dummies = #[]):∀ (L:List Nat) (p:SetTable.Probe) (n:Nat),qdj t.mask p L->L.length<=n->(∃ x∈L,x∉t.place.toList) ->
  ∃ pre x post,L=pre++x::post/\(∀ y∈pre,y∈t.place.toList/\f (SetTable.below t.place y)≠h) /\
   ((x∉t.place.toList/\SetTable.probe.go t f h n p=some (.empty x none))\/(∃ q,x∈t.place.toList/\f (SetTable.below t.place x)=h/\SetTable.probe.go t f h n p=some (.candidate x (SetTable.below t.place x) q)/\qdj t.mask q post))
 | [],p,n,_,_,hx=>by obtain ⟨x,hx,_⟩:=hx;cases hx
 | x::L,p,0,_,hl,_=>by simp at hl
 | x :: L,p,n+1,hs,hl,hx=>by
  obtain ⟨rfl,hp,hs⟩:=hs;rw [SetTable.probe.go];by_cases hj:p.j∈t.place.toList
  ·rw [qix hr hj];dsimp only;by_cases hf:f (SetTable.below t.place p.j)=h
   ·refine ⟨[],p.j,L,rfl,(fun y hy=>by cases hy),.inr ⟨t.advance p,hj,hf,?_,hs⟩⟩;rw [hf];simp
   ·have hb:(f (SetTable.below t.place p.j) == h)=false:=beq_eq_false_iff_ne.mpr hf;rw [hb];obtain ⟨y,hy,hn⟩:=hx;have hx':∃ x∈L,x∉t.place.toList:=by
     rcases List.mem_cons.mp hy with e | e
     ·subst e;exact absurd hj hn
     ·exact ⟨y,e,hn⟩
    obtain ⟨pre,x,post,e,h1,h2⟩:=qju hr hd L (t.advance p) n hs (by simpa using hl) hx';refine ⟨p.j::pre,x,post,by rw [e];rfl,fun z hz=>?_,?_⟩
    ·rcases List.mem_cons.mp hz with e | e
     ·subst e;exact ⟨hj,hf⟩
     ·exact h1 z e
    ·simpa using h2
  ·rw [qkq hd hj];refine ⟨[],p.j,L,rfl,(fun y hy=>by cases hy),.inl ⟨hj,?_⟩⟩;rw [hp]
theorem qje {α:Type}[DecidableEq α]:∀ (l l':List α),l.Nodup->(∀ x∈l,x∈l')->l.length<=l'.length
 | [],_,_,_=>Nat.zero_le _
 | x::l,l',hn,hs=>by
  obtain ⟨h1,h2⟩:=List.nodup_cons.mp hn;have hx:x∈l':=hs x (mS1);have:=qje l (l'.erase x) h2 fun y hy=>by
   have hne:y≠x:=fun z=>by subst z;exact h1 hy
   exact (List.mem_erase_of_ne hne).mpr (hs y (mC1 _ hy))
  rw [List.length_erase_of_mem hx] at this;have:=List.length_pos_of_mem hx;rw [lC1];lia
theorem qmF {m:Nat}(occ:List Nat)(hl:occ.length<=m):∃ j,j<=m/\j∉occ:=by
 apply Classical.byContradiction;intro z;have:=qje (List.range (m+1)) occ List.nodup_range fun x hx=>Classical.byContradiction fun q=>z ⟨x,by have:=List.mem_range.mp hx;lia,q⟩;rw [List.length_range] at this;lia
noncomputable def sRch (m:Nat)(occ:List Nat)(h:Int)(j:Nat):Prop:=∃ pre post,sWay m h=pre++j::post /\ ∀ y∈pre,y∈occ
theorem sRch.more {m:Nat}{occ occ':List Nat}{h:Int}{j:Nat}(r:sRch m occ h j)(k:∀ x∈occ,x∈occ'):sRch m occ' h j:=by
 obtain ⟨pre,post,e,f⟩:=r;exact ⟨pre,post,e,fun y hy=>k y (f y hy)⟩
structure sTT (es:Array (Int×Value))(t:SetTable):Prop where
 mks:sMk t.mask
 up:Ris t.place
 du:t.dummies = #[]
 sz:t.place.size=es.size
 le:∀ j∈t.place.toList,j<=t.mask
 fl:es.size<=t.mask
 rc:∀ z∈t.place.toList.zip es.toList,sRch t.mask t.place.toList z.2.1 z.1
theorem sTT.fits {es:Array (Int×Value)}{t:SetTable}(h:sTT es t):t.fits es.size=true:=by
 unfold SetTable.fits SetTable.fill;rw [h.du,h.sz];have:=h.fl;simp;exact this
theorem qmb {α β:Type}(a:Array α)(b:Array β)(p:Nat)(x:α)(y:β)(hl:a.size=b.size):(SetTable.insertAt a p x).toList.zip (SetTable.insertAt b p y).toList=(a.toList.zip b.toList).take p++(x,y)::(a.toList.zip b.toList).drop p:=by
 rw [qcZ,qcZ,List.zip_append (by rw [List.length_take,List.length_take];simp [hl]),List.zip_cons_cons];rw [show List.take p (a.toList.zip b.toList)=(a.toList.take p).zip (b.toList.take p) by simp only [List.zip_eq_zipWith,List.take_zipWith]];rw [show List.drop p (a.toList.zip b.toList)=(a.toList.drop p).zip (b.toList.drop p) by simp only [List.zip_eq_zipWith,List.drop_zipWith]]
theorem qdW {α:Type}(a:Array α)(p:Nat)(x y:α):y∈(SetTable.insertAt a p x).toList↔y=x\/y∈a.toList:=by
 rw [qcZ,List.mem_append,List.mem_cons];have:=List.take_append_drop p a.toList;constructor
 ·rintro (h | h | h)
  ·exact .inr (List.mem_of_mem_take h)
  ·exact .inl h
  ·exact .inr (List.mem_of_mem_drop h)
 ·rintro (h | h)
  ·exact .inr (.inl h)
  ·rw [<- this,List.mem_append] at h;rcases h with h | h
   ·exact .inl h
   ·exact .inr (.inr h)
theorem qcp {α:Type}(a:Array α)(p:Nat)(x:α):(SetTable.insertAt a p x).size=a.size+1:=by
 rw [<- Array.length_toList,qcZ,lA1,lC1,<- Nat.add_assoc,<- lA1,List.take_append_drop,Array.length_toList]
theorem sTT.put {es:Array (Int×Value)}{t:SetTable}(h:sTT es t){j:Nat}{e:Int×Value}(hj:j<=t.mask)(hn:j∉t.place.toList)(hr:sRch t.mask t.place.toList e.1 j)(hs:es.size+1<=t.mask):sTT (SetTable.insertAt es (t.put j).2 e) (t.put j).1:=by
 have hm:(t.put j).1.mask=t.mask:=rfl;have hp:(t.put j).1.place=SetTable.insertAt t.place (SetTable.below t.place j) j:=rfl;refine ⟨h.mks,?_,?_,?_,?_,?_,?_⟩
 ·rw [hp];exact qiI h.up fun z=>hn (by rw [<- aT1] at z;exact gM1 z)
 ·show (if SetTable.has t.dummies j=true then _ else t.dummies) = #[];rw [qdG h.du,if_neg (by decide)];exact h.du
 ·rw [hp,qcp,qcp,h.sz]
 ·intro x hx;rw [hp,qdW] at hx;rcases hx with rfl | hx
  ·exact hj
  ·exact h.le x hx
 ·rw [qcp,hm];exact hs
 ·rw [hp,hm];show ∀ z∈(SetTable.insertAt t.place (SetTable.below t.place j) j).toList.zip (SetTable.insertAt es (SetTable.below t.place j) e).toList,_;rw [qmb _ _ _ _ _ h.sz];have sub:∀ x∈t.place.toList,x∈(SetTable.insertAt t.place (SetTable.below t.place j) j).toList:=fun x hx=>(qdW _ _ _ _).mpr (.inr hx);intro z hz;rw [List.mem_append,List.mem_cons] at hz;rcases hz with hz | rfl | hz
  ·exact (h.rc z (List.mem_of_mem_take hz)).more sub
  ·exact hr.more sub
  ·exact (h.rc z (List.mem_of_mem_drop hz)).more sub
theorem sTT.fresh (l:Bool):sTT #[] (SetTable.fresh 0 0 l):=⟨.inl rfl,.nil,rfl,rfl,(fun j h=>by simp [SetTable.fresh] at h),Nat.zero_le _,fun z h=>by simp [SetTable.fresh] at h⟩
theorem qjA (m:Nat)(ow:Array (Option Nat)):∀ n i b:Nat,SetTable.layClean.free m ow n i b=(qce m n i b).find? fun j=>(ow.getD j (some 0)).isNone
 | 0,i,b=>by rw [SetTable.layClean.free,qce];rfl
 | n+1,i,b=>by
  rw [SetTable.layClean.free,qce,List.find?_append,List.range'_eq_map_range,List.find?_map];rw [show SetTable.runEnd m i+1-i=SetTable.runEnd m i-i+1 by have:=qlL m i;lia];show (match List.find? (fun k=>(ow.getD (i+k) (some 0)).isNone) (List.range (SetTable.runEnd m i-i+1)) with
   | some k=>some (i+k)
   | none=>_)=(Option.map (fun k=>i+k) (List.find? (fun k=>(ow.getD (i+k) (some 0)).isNone) (List.range (SetTable.runEnd m i-i+1)))).or _
  cases List.find? (fun k=>(ow.getD (i+k) (some 0)).isNone) (List.range (SetTable.runEnd m i-i+1)) with
  | some k=>rfl
  | none=>exact qjA m ow n _ _
structure sLO (m:Nat)(hs:List Int)(ow:Array (Option Nat)):Prop where
 sz:ow.size=m+1
 ct:ow.toList.countP (·.isSome)=hs.length
 all:∀ q:Nat,q<hs.length -> ∃ j:Nat,ow[j]? = some (some q)
 rc:∀ j q:Nat,ow[j]? = some (some q) -> ∃ h,hs[q]? = some h /\ ∃ pre post,sWay m h=pre++j::post /\ ∀ y∈pre,∃ q':Nat,ow[y]? = some (some q')
theorem qfW (k:Nat):∀ (l:List (Option Nat)) (j:Nat),l[j]? = some none->(l.set j (some k)).countP (·.isSome)=l.countP (·.isSome)+1
 | [],j,h=>by simp at h
 | x::l,0,h=>by
  have:x=none:=by simpa using h
  subst this;simp
 | x::l,j+1,h=>by
  rw [List.set_cons_succ,List.countP_cons,List.countP_cons,qfW k l j (by simpa using h)];lia
theorem qnr {m:Nat}{hs:List Int}{ow:Array (Option Nat)}(hm:sMk m)(h:sLO m hs ow)(hl:hs.length<=m)(x:Int):
  ∃ j,SetTable.layClean.free m ow (SetTable.turns m) (SetTable.bits x%(m+1)) (SetTable.bits x)=some j/\sLO m (hs++[x]) (ow.setIfInBounds j (some hs.length)):=by
 rw [qjA];show ∃ j,(sWay m x).find? _=some j/\_;have hr:∃ j:Nat,ow[j]? = some none:=by
  apply Classical.byContradiction;intro z;have:ow.toList.countP (·.isSome)=ow.toList.length:=List.countP_eq_length.mpr fun a ha=>by
   obtain ⟨j,hj⟩:=List.getElem?_of_mem ha;cases a with
   | some q=>rfl
   | none=>exact absurd ⟨j,by rw [<- aT1];exact hj⟩ z
  rw [h.ct,show ow.toList.length=ow.size from rfl,h.sz] at this;lia
 obtain ⟨j0,h0⟩:=hr;have hj0:j0<=m:=by have:=(Array.getElem?_eq_some_iff.mp h0).1;rw [h.sz] at this;lia
 cases hf:(sWay m x).find? fun j=>(ow.getD j (some 0)).isNone with
 | none=>
  exfalso;have:=List.find?_eq_none.mp hf j0 (qij hm x hj0);rw [Array.getD_eq_getD_getElem?,h0] at this;simp at this
 | some j=>
  obtain ⟨hp,pre,post,e,hn⟩:=List.find?_eq_some_iff_append.mp hf;have le:=qlA (m:=m) x;have hj:j<=m:=le j (by rw [e];simp);have hjs:j<ow.size:=by rw [h.sz];lia
  have at_:∀ y,y<=m->(ow.getD y (some 0)).isNone=false -> ∃ q,ow[y]? = some (some q):=fun y hy hq=>by
   have hys:y<ow.size:=by rw [h.sz];lia
   rw [Array.getD_eq_getD_getElem?,aG1 hys] at hq;rw [aG1 hys];cases hc:ow[y] with
   | none=>rw [hc] at hq;cases hq
   | some q=>exact ⟨q,rfl⟩
  have oj:ow[j]? = some none:=by
   rw [Array.getD_eq_getD_getElem?,aG1 hjs] at hp;rw [aG1 hjs];cases hc:ow[j] with
   | none=>rfl
   | some q=>rw [hc] at hp;cases hp
  have keep:∀ y q,ow[y]? = some (some q)->(ow.setIfInBounds j (some hs.length))[y]? = some (some q):=fun y q ey=>by
   have:j≠y:=fun z=>by subst z;rw [oj] at ey;cases ey
   rw [Array.getElem?_setIfInBounds_ne this];exact ey
  have new:(ow.setIfInBounds j (some hs.length))[j]? = some (some hs.length):=by
   rw [Array.getElem?_setIfInBounds_self_of_lt hjs]
  refine ⟨j,rfl,?_,?_,?_,?_⟩
  ·rw [Array.size_setIfInBounds];exact h.sz
  ·rw [Array.toList_setIfInBounds,qfW _ _ _ (by rw [aT1];exact oj),h.ct];simp
  ·intro q hq;rw [lA1,List.length_singleton] at hq;rcases Nat.lt_or_ge q hs.length with z | z
   ·obtain ⟨y,ey⟩:=h.all q z;exact ⟨y,keep y q ey⟩
   ·have:q=hs.length:=by lia
    subst this;exact ⟨j,new⟩
  ·intro y q ey;by_cases hy:j=y
   ·subst hy;rw [new] at ey;cases ey;refine ⟨x,by simp,pre,post,e,fun y hy=>?_⟩;obtain ⟨q,eq⟩:=at_ y (le y (by rw [e];simp [hy])) (by have:=hn y hy;simpa using this);exact ⟨q,keep y q eq⟩
   ·rw [Array.getElem?_setIfInBounds_ne hy] at ey;obtain ⟨h',eh,pre',post',e',f'⟩:=h.rc y q ey;refine ⟨h',?_,pre',post',e',fun z hz=>?_⟩
    ·rw [gL1 (gE1.mp eh).1];exact eh
    ·obtain ⟨q',eq'⟩:=f' z hz;exact ⟨q',keep z q' eq'⟩
noncomputable def qky (m:Nat)(acc:Option (Array (Option Nat)×Nat))(h:Int):Option (Array (Option Nat)×Nat):=do
 let (owner,k)<-acc
 let j<-SetTable.layClean.free m owner (SetTable.turns m) (SetTable.bits h%(m+1)) (SetTable.bits h)
 pure (owner.setIfInBounds j (some k),k+1)
theorem qjd {m:Nat}(hm:sMk m):∀ (rest hs:List Int) (ow:Array (Option Nat)),sLO m hs ow->hs.length+rest.length<=m+1 -> ∃ ow',rest.foldl (qky m) (some (ow,hs.length))=some (ow',hs.length+rest.length)/\sLO m (hs++rest) ow'
 | [],hs,ow,h,_=>⟨ow,rfl,by rw [List.append_nil];exact h⟩
 | x::rest,hs,ow,h,hl=>by
  rw [lC1] at hl;obtain ⟨j,e,h'⟩:=qnr hm h (by lia) x;obtain ⟨ow',e',h''⟩:=qjd hm rest (hs++[x]) _ h' (by rw [lA1,List.length_singleton];lia);refine ⟨ow',?_,by rw [List.append_assoc] at h'';exact h''⟩;rw [List.foldl_cons];have:qky m (some (ow,hs.length)) x=some (ow.setIfInBounds j (some hs.length),(hs++[x]).length):=by
   show (SetTable.layClean.free m ow (SetTable.turns m) (SetTable.bits x%(m+1)) (SetTable.bits x) >>= fun j=>_)=_;rw [e,lA1,List.length_singleton];rfl
  rw [this,e',lA1,List.length_singleton,lC1]
  congr 2;lia
theorem qpX {m:Nat}(hm:sMk m)(hs:Array Int)(hl:hs.size<=m+1):∃ ow,SetTable.layClean m hs=some ow/\sLO m hs.toList ow:=by
 have h0:sLO m [] (Array.replicate (m+1) none):=by
  refine ⟨Array.size_replicate,?_,(fun q h=>absurd h (Nat.not_lt_zero _)),fun j q h=>?_⟩
  ·rw [Array.toList_replicate,List.length_nil,List.countP_eq_zero];intro a ha;rw [(List.mem_replicate.mp ha).2];simp
  ·exfalso;rw [Array.getElem?_replicate] at h;split at h<;>simp at h
 obtain ⟨ow,e,h⟩:=qjd hm hs.toList [] _ h0 (by simpa using hl);refine ⟨ow,?_,by simpa using h⟩;unfold SetTable.layClean;rw [<- Array.foldl_toList];show Option.map _ (List.foldl (qky m) (some (Array.replicate (m+1) none,0)) hs.toList)=_;have e:List.foldl (qky m) (some (Array.replicate (m+1) none,0)) hs.toList=_:=e;rw [e];rfl
theorem qhr {α β:Type}(f:α->Option β)(g:α->β):∀ l:List α,(∀ a∈l,f a=some (g a))->l.filterMap f=l.map g
 | [],_=>rfl
 | a::l,h=>by
  rw [List.filterMap_cons,h a mS1];dsimp only;rw [mP1,qhr f g l fun b hb=>h b (mC1 _ hb)]
theorem qib {α β γ:Type}(f:α->β)(g:α->γ):∀ l:List α,(l.map f).zip (l.map g)=l.map fun a=>(f a,g a)
 | []=>rfl
 | a::l=>by rw [mP1,mP1,List.zip_cons_cons,qib f g l];rfl
theorem qdf {α β:Type}{f g:α->Option β}:∀ l:List α,(∀ a∈l,f a=g a)->l.filterMap f=l.filterMap g
 | [],_=>rfl
 | a::l,h=>by rw [List.filterMap_cons,List.filterMap_cons,h a mS1,qdf l fun b hb=>h b (mC1 _ hb)]
theorem qhf:∀ (l:List (Option Nat)) (s:Nat),((List.range' s l.length).filterMap fun j=>(l.getD (j-s) none).map (j,·)).length=l.countP (·.isSome)
 | [],s=>rfl
 | x::l,s=>by
  rw [lC1,List.range'_succ,List.filterMap_cons,List.countP_cons];have ih:=qhf l (s+1);have e:(List.filterMap (fun j=>Option.map (fun x=>(j,x)) ((x::l).getD (j-s) none)) (List.range' (s+1) l.length))=List.filterMap (fun j=>(l.getD (j-(s+1)) none).map (j,·)) (List.range' (s+1) l.length):=by
   refine qdf _ fun j hj=>?_;rw [List.mem_range'_1] at hj;rw [show j-s=(j-(s+1))+1 by lia];rfl
  rw [e,Nat.sub_self];cases x with
  | none=>simpa using ih
  | some q=>simpa using ih
theorem qnw {m fi mo:Nat}{l p:Bool}(hm:sMk m){es:Array (Int×Value)}(hl:es.size<=m):∃ t' order,SetTable.laid m fi mo l p (es.map (·.1))=some (t',order)/\(order.filterMap (es[·]?)).size=es.size/\sTT (order.filterMap (es[·]?)) t'/\(∀ e,e∈(order.filterMap (es[·]?)).toList↔e∈es.toList)/\t'.led=l/\t'.mask=m:=by
 obtain ⟨ow,e,h⟩:=qpX hm (es.map (·.1)) (by rw [Array.size_map];lia);have hlen:(es.map (·.1)).toList.length=es.size:=by simp
 generalize hL:(List.range (m+1)).filterMap (fun j=>(ow.getD j none).map (j,·))=live;refine ⟨{mask:=m,place:=(live.map (·.1)).toArray,dummies:= #[],finger:=fi,led:=l,moves:=mo,plain:=p},(live.map (·.2)).toArray,?_,?_⟩
 ·unfold SetTable.laid;rw [e,<- hL];rfl
 have mem:∀ j q,(j,q)∈live↔ow[j]? = some (some q):=fun j q=>by
  rw [<- hL,List.mem_filterMap];constructor
  ·rintro ⟨j',hj',e⟩;obtain ⟨q',eq,e⟩:=oM1.mp e;cases e;rw [List.mem_range] at hj';have hs:j<ow.size:=by rw [h.sz];exact hj'
   rw [Array.getD_eq_getD_getElem?,aG1 hs] at eq;rw [aG1 hs];have:ow[j]=some q:=by simpa using eq
   rw [this]
  ·intro e;have hs:=(Array.getElem?_eq_some_iff.mp e).1;refine ⟨j,List.mem_range.mpr (by rw [h.sz] at hs;exact hs),?_⟩;rw [Array.getD_eq_getD_getElem?,e];rfl
 have lt:∀ z∈live,z.2<es.size:=fun z hz=>by
  obtain ⟨h',eh,_⟩:=h.rc z.1 z.2 ((mem _ _).mp hz);have:=(gE1.mp eh).1;rw [hlen] at this;exact this
 have ll:live.length=es.size:=by
  have:=qhf ow.toList 0;rw [show ow.toList.length=ow.size from rfl,h.sz,h.ct,hlen] at this;rw [<- this,<- hL,List.range_eq_range']
  congr 1
  refine qdf _ fun j _=>?_;simp [Array.getD_eq_getD_getElem?]
 have ees:((live.map (·.2)).toArray.filterMap (es[·]?)).toList=live.map fun z=>(es[z.2]?).getD (0,.none):=by
  rw [Array.toList_filterMap];rw [List.filterMap_map];exact qhr _ _ _ fun z hz=>by
   show es[z.2]? = _;rw [aG1 (lt z hz)];rfl
 have sz:((live.map (·.2)).toArray.filterMap (es[·]?)).size=es.size:=by rw [<- Array.length_toList,ees,lM1,ll]
 refine ⟨sz,⟨hm,?_,rfl,?_,?_,?_,?_⟩,fun e=>?_,rfl,rfl⟩
 ·unfold Ris;rw [<- hL];exact List.pairwise_lt_range.sublist (by simpa using qfb (fun j=>ow.getD j none) (List.range (m+1)))
 ·rw [sz,sT1,lM1,ll]
 ·intro j hj;simp only [List.mem_map] at hj;obtain ⟨z,hz,rfl⟩:=hj;have:=(Array.getElem?_eq_some_iff.mp ((mem z.1 z.2).mp hz)).1;rw [h.sz] at this;show _<=m;lia
 ·rw [sz];exact hl
 ·rw [ees];show ∀ z∈(live.map (·.1)).zip _,sRch m (live.map (·.1)) _ _;rw [qib];intro z hz;obtain ⟨y,hy,rfl⟩:=List.mem_map.mp hz;obtain ⟨h',eh,pre,post,e1,e2⟩:=h.rc y.1 y.2 ((mem _ _).mp hy);have:((es[y.2]?).getD (0,.none)).1=h':=by
   have hlt:=lt y hy;rw [Array.toList_map,gP1,aT1,aG1 hlt] at eh;rw [aG1 hlt];simpa using eh
  rw [this];exact ⟨pre,post,e1,fun x hx=>by obtain ⟨q',e3⟩:=e2 x hx;exact List.mem_map.mpr ⟨(x,q'),(mem _ _).mpr e3,rfl⟩⟩
 ·rw [ees,List.mem_map];constructor
  ·rintro ⟨z,hz,rfl⟩;rw [aG1 (lt z hz)];simp
  ·intro he;obtain ⟨q,hq⟩:=List.getElem?_of_mem he;rw [aT1] at hq;have hlt:=(Array.getElem?_eq_some_iff.mp hq).1;obtain ⟨j,hj⟩:=h.all q (by rw [hlen];exact hlt);exact ⟨(j,q),(mem _ _).mpr hj,by rw [hq];rfl⟩
theorem qqa {prog:Program}{w:World}:∀ (n:Nat) {k:TK} {A:Around} {E:Value->Shared->Prop} {s:Shared} {v:Value} {Q:Bool->Shared->Prop},k.dep<=n->IsTK s.heap k v->Q true s->wpAny (model prog w) A (hashByValue n v) Q E s:=by
 intro n
 induction n with
 | zero=>
  intro k A E s v Q hd r h;cases r with
  | non=>exact wP1 h
  | int i t=>exact wP1 h
  | tup _ _ _ _=>simp [TK.dep] at hd
 | succ n ih=>
  intro k A E s v Q hd r h;cases r with
  | non=>exact wP1 h
  | int i t=>exact wP1 h
  | @tup a o items m xs e1 c1 d1 t1=>
   have hT:s.TypeIs (.ref a) "tuple":=⟨o,e1,c1⟩;rw [TK.dep] at hd;unfold hashByValue;refine wB1 (wpAny_specialOf hT F.slot_tuple_hash.lookup ?_);show wpAny _ _ (seqItems? (.ref a) >>= _) _ _ s;refine wB1 (wpAny_seqItems e1 d1 ?_);refine wB1 ?_;show wpAny _ _ (forIn items _ _) _ _ s;rw [<- Array.forIn_toList];refine wpAny_forIn_list _ (fun rest r s'=>r.1=none/\s'=s /\ ∃ ks,qba s.heap ks rest/\TK.depAll ks<=n) _ ?_ ?_ _ _ ⟨rfl,rfl,xs,t1,by lia⟩
   ·rintro v rest r s' ⟨hr,rfl,ks,hk,hn⟩;cases hk with
    | @cons k1 _ ks1 _ q1 q2=>
     rw [TK.depAll] at hn;refine wB1 (ih (k:=k1) (by lia) q1 ?_);simp only [Bool.not_true,bF1,if_false];exact wP1 ⟨rfl,rfl,ks1,q2,by lia⟩
   ·rintro ⟨r1,r2⟩ s' ⟨hr,rfl,_⟩;simp only at hr;subst hr;exact wP1 h
theorem ql2 {prog:Program}{w:World}:∀ (n:Nat) {k:TK} {A:Around} {E:Value->Shared->Prop} {s:Shared} {v:Value} {Q:Bool->Shared->Prop},k.dep<=n->IsTK s.heap k v->Q false s->wpAny (model prog w) A (ofAClassStatement n v) Q E s:=by
 intro n
 induction n with
 | zero=>
  intro k A E s v Q hd r h;cases r with
  | non=>exact wP1 h
  | int i t=>exact wP1 h
  | tup _ _ _ _=>simp [TK.dep] at hd
 | succ n ih=>
  intro k A E s v Q hd r h;cases r with
  | non=>exact wP1 h
  | int i t=>exact wP1 h
  | @tup a o items m xs e1 c1 d1 t1=>
   have hT:s.TypeIs (.ref a) "tuple":=⟨o,e1,c1⟩;rw [TK.dep] at hd;unfold ofAClassStatement;refine wB1 (wpAny_typeOf hT ?_);show wpAny _ _ (pure true >>= _) _ _ s;refine wB1 (wP1 ?_);simp only [Bool.not_true,bF1,if_false];refine wB1 (wpAny_seqItems e1 d1 ?_);refine wB1 ?_;show wpAny _ _ (forIn items _ _) _ _ s;rw [<- Array.forIn_toList];refine wpAny_forIn_list _ (fun rest r s'=>r.1=none/\s'=s /\ ∃ ks,qba s.heap ks rest/\TK.depAll ks<=n) _ ?_ ?_ _ _ ⟨rfl,rfl,xs,t1,by lia⟩
   ·rintro v rest r s' ⟨hr,rfl,ks,hk,hn⟩;cases hk with
    | @cons k1 _ ks1 _ q1 q2=>
     rw [TK.depAll] at hn;refine wB1 (ih (k:=k1) (by lia) q1 ?_);simp only [bF1,if_false];exact wP1 ⟨rfl,rfl,ks1,q2,by lia⟩
   ·rintro ⟨r1,r2⟩ s' ⟨hr,rfl,_⟩;simp only at hr;subst hr;exact wP1 h
noncomputable def sE1 (h:Heap)(k:TK)(e:Int×Value):Prop:=∃ a,e=(k.hash,.ref a)/\IsTK h k (.ref a)/\k.dep<=8
section
variable {prog:Program} {w:World} {A:Around} {E:Value->Shared->Prop} {s:Shared}
theorem qmC {k:TK}{x:Addr}{Q:Bool->Shared->Prop}(hk:IsTK s.heap k (.ref x))(hd:k.dep<=8)(l:List Value)(he:∀ v∈l,∃ k' a,v = .ref a/\IsTK s.heap k' (.ref a)/\k'.dep<=8)(h:Q false s):wpAny (model prog w) A (searchCouldBeSeen (.ref x) l) Q E s:=by
 unfold searchCouldBeSeen;refine wB1 ?_;refine wpAny_forIn_list _ (fun rest r s'=>r.1=none/\s'=s /\ ∀ v∈rest,∃ k' a,v = .ref a/\IsTK s.heap k' (.ref a)/\k'.dep<=8) _ ?_ ?_ _ _ ⟨rfl,rfl,he⟩
 ·rintro v rest r s' ⟨hr,rfl,hv⟩;obtain ⟨k',a,rfl,h1,h2⟩:=hv v mS1;have tl:∀ v∈rest,∃ k' a,v=Value.ref a/\IsTK s'.heap k' (.ref a)/\k'.dep<=8:=fun v h=>hv v (mC1 _ h);dsimp only;by_cases hx:(x == a)=true
  ·rw [hx];exact wP1 ⟨rfl,rfl,tl⟩
  ·rw [Bool.not_eq_true] at hx;rw [hx];show wpAny _ _ (eqIsQuiet 8 (.ref x) >>= _) _ _ _;refine wB1 (qeP 8 hd hk ?_);refine wB1 (qeP 8 h2 h1 ?_);refine wB1 (ql2 8 hd hk ?_);refine wB1 (ql2 8 h2 h1 ?_);exact wP1 ⟨rfl,rfl,tl⟩
 ·rintro ⟨r1,r2⟩ s' ⟨hr,rfl,_⟩;simp only at hr;subst hr;exact wP1 h
theorem qfR {α:Type}{occ:List α}{a c:α}(hc:c∉occ)(ha:a∈occ):∀ {Cs As B D:List α},(∀ y∈As,y∈occ)->As++a::B=Cs++c::D->a∈Cs
 | [],[],B,D,_,e=>by
  simp at e;obtain ⟨rfl,_⟩:=e;exact absurd ha hc
 | [],z::As,B,D,h,e=>by
  simp at e;obtain ⟨rfl,_⟩:=e;exact absurd (h z mS1) hc
 | z::Cs,[],B,D,_,e=>by
  simp at e;obtain ⟨rfl,_⟩:=e;exact mS1
 | z::Cs,z'::As,B,D,h,e=>by
  simp at e;exact mC1 _ (qfR hc ha (fun y hy=>h y (mC1 _ hy)) e.2)
theorem qlv {xs:Array Nat}(hr:Ris xs){i j:Nat}(h:xs[i]? = some j):SetTable.below xs j=i:=by
 have e:=qfn hr (gM1 (by rw [aT1];exact h));rcases Nat.lt_trichotomy (SetTable.below xs j) i with z | z | z
 ·have:=hr.lt z e h;lia
 ·exact z
 ·have:=hr.lt z h e;lia
theorem qpo {m:Nat}(h:sMk m):(m%2 == 0)=false:=by rcases h with rfl | rfl<;>rfl
theorem srch {a:Addr} {es:Array (Int×Value)} {ep:Nat} {t:SetTable} {k:TK} {x:Addr} (hu:A.units+8<cLine) (ho:s.heap.get? a=some (stO es ep t)) (ht:sTT es t) (he:∀ e∈es.toList,∃ k',sE1 s.heap k' e) (hk:IsTK s.heap k (.ref x)) (hd:k.dep<=8) {Q:SetFound->Shared->Prop}
  (q1:(∃ e∈es.toList,sE1 s.heap k e)->Q (.there none) s)
  (q2:∀ j pre post,sWay t.mask k.hash=pre++j::post->(∀ y∈pre,y∈t.place.toList)->j∉t.place.toList->(∀ e∈es.toList,¬ sE1 s.heap k e)->Q (.free j false) s):
  ∀ (n:Nat) (L pre0:List Nat) (stand:Option SetTable.Probe),sWay t.mask k.hash=pre0++L->qdj t.mask (stand.getD (t.probeStart k.hash)) L->L.length<n->(∀ y∈pre0,y∈t.place.toList /\ ∀ e,es[SetTable.below t.place y]? = some e -> ¬ sE1 s.heap k e)->wpAny (model prog w) A (setSearchFrom a (.ref x) k.hash true n stand) Q E s:=by
 have hf:=ht.fits;have hlen:t.place.toList.length<=t.mask:=by rw [Array.length_toList,ht.sz];exact ht.fl
 intro n
 induction n with
 | zero=>intro L _ _ _ _ h;exact absurd h (Nat.not_lt_zero _)
 | succ n ih=>
  intro L pre0 stand eL hs hl hp;have hx:∃ y∈L,y∉t.place.toList:=by
   obtain ⟨j,hj,hn⟩:=qmF t.place.toList hlen;have:=qij ht.mks k.hash hj;rw [eL,List.mem_append] at this;rcases this with z | z
   ·exact absurd (hp j z).1 hn
   ·exact ⟨j,z,hn⟩
  have hL:L.length<=10*SetTable.turns t.mask:=by
   have:=qii t.mask k.hash;rw [eL,lA1] at this;lia
  obtain ⟨pre,y,post,e,h1,h2⟩:=qju (f:=fun i=>(es[i]?.map (·.1)).getD 0) (h:=k.hash) ht.up ht.du L _ _ hs hL hx;unfold setSearchFrom;refine wB1 (wpAny_setState_of ho rfl hf ?_);dsimp only;rw [show t.gaveWay=false from qpo ht.mks];simp only [bF1,if_false];rcases h2 with ⟨hn,hg⟩ | ⟨q,hy,hh,hg,hq⟩
  ·generalize hP:SetTable.probe t _ k.hash (stand.getD (t.probeStart k.hash))=met;have hP:=hP.symm.trans hg;subst hP;refine wP1 (q2 y (pre0++pre) post (by rw [eL,e,List.append_assoc]) (fun z hz=>?_) hn fun e' he' hk'=>?_)
   ·rcases List.mem_append.mp hz with z1 | z1
    ·exact (hp z z1).1
    ·exact (h1 z z1).1
   ·obtain ⟨i,hi⟩:=List.getElem?_of_mem he';have hi':es[i]? = some e':=by rw [<- aT1];exact hi
    have his:=(Array.getElem?_eq_some_iff.mp hi').1;have hpi:i<t.place.size:=by rw [ht.sz];exact his
    have epl:=aG1 hpi;have hz:(t.place[i],e')∈t.place.toList.zip es.toList:=by
     refine gM1 (i:=i) ?_;rw [List.getElem?_zip_eq_some];exact ⟨by rw [aT1];exact epl,hi⟩
    obtain ⟨a',ea',_⟩:=id hk';obtain ⟨pre1,post1,e1,f1⟩:=ht.rc _ hz;dsimp only at e1;rw [show e'.1=k.hash from by rw [ea'],eL,e,<- List.append_assoc] at e1;have hm:=qfR (occ:=t.place.toList) hn (gM1 (by rw [aT1];exact epl)) f1 e1.symm;have hb:=qlv ht.up epl;rcases List.mem_append.mp hm with z1 | z1
    ·exact (hp _ z1).2 e' (by rw [hb];exact hi') hk'
    ·refine (h1 _ z1).2 ?_;rw [hb,hi',ea'];rfl
  ·generalize hP:SetTable.probe t _ k.hash (stand.getD (t.probeStart k.hash))=met;have hP:=hP.symm.trans hg;subst hP;have hb:=qfn ht.up hy;have his:SetTable.below t.place y<es.size:=by rw [<- ht.sz];exact (Array.getElem?_eq_some_iff.mp hb).1
   have eee:=aG1 his;generalize es[SetTable.below t.place y]=e0 at eee;have hm0:e0∈es.toList:=gM1 (by rw [aT1];exact eee);obtain ⟨k',a',rfl,hk',hd'⟩:=he e0 hm0;dsimp only;have cont:wpAny (model prog w) A (do
     let equal<-holding [Value.ref a'] (eqBool (Value.ref a') (.ref x))
     let (es',_,t')<-setState a
     if (true&&equal)=true then return SetFound.there none
     let some same:=t'.sameMemory t.moves t.mask | unsupported "set.changed-during-lookup:is-the-new-block-at-the-old-address"
     let still<-match (if same=true then t'.slot y else .empty) with
      | .live i'=>match es'[i']? with
       | some (_,y')=>do pure (if (<- isSame y' (.ref a'))=true then some i' else none)
       | none=>pure none
      | _=>pure none
     match still with
     | none=>do rule "set.search.anew";setSearchFrom a (.ref x) k.hash true n none
     | some i'=>if equal=true then return .there (some i') else setSearchFrom a (.ref x) k.hash true n (some q)) Q E s:=by
    refine wB1 (wpAny_holding (qqg 8 hd' hu hk' hk _ _ _ _ ?_));refine wB1 (wpAny_setState_of ho rfl hf ?_);dsimp only;by_cases hkk:k'=k
    ·subst hkk;rw [decide_eq_true rfl];exact wP1 (q1 ⟨_,hm0,a',rfl,hk',hd'⟩)
    ·rw [decide_eq_false hkk];simp only [Bool.and_false,bF1,if_false];rw [show t.sameMemory t.moves t.mask=some true from by unfold SetTable.sameMemory;simp];dsimp only;rw [if_pos rfl,qix ht.up hy];dsimp only;rw [eee];dsimp only;refine wB1 ?_;refine wpAny_of_eq (a:=true) (by unfold isSame;simp) ?_;rw [if_pos rfl];refine wB1 (wP1 ?_);dsimp only;refine ih post (pre0++pre++[y]) (some q) ?_ hq ?_ fun z hz=>?_
     ·rw [eL,e];simp
     ·rw [e] at hl;simp at hl;lia
     ·rcases List.mem_append.mp hz with z1 | z1
      ·rcases List.mem_append.mp z1 with z2 | z2
       ·exact hp z z2
       ·refine ⟨(h1 z z2).1,fun e1 he1 hk1=>(h1 z z2).2 ?_⟩;obtain ⟨a1,rfl,_⟩:=hk1;rw [he1];rfl
      ·have:z=y:=by simpa using z1
       subst this;refine ⟨hy,fun e1 he1 hk1=>hkk ?_⟩;rw [eee] at he1;obtain ⟨a1,ea1,hi1,_⟩:=hk1;cases he1;injection ea1 with _ ea1;injection ea1 with ea1;subst ea1;exact hk'.inj hi1
   by_cases hled:t.led=true
   ·rw [hled];simp only [Bool.not_true,bF1,if_false];rw [eee];exact cont
   ·rw [Bool.not_eq_true] at hled;rw [hled];simp only [Bool.not_false,if_true];refine wB1 (qmC hk hd _ (fun v hv=>?_) ?_)
    ·obtain ⟨e1,he1,rfl⟩:=List.mem_map.mp hv;rw [Array.toList_filter] at he1;obtain ⟨k1,a1,rfl,g1,g2⟩:=he e1 ((List.mem_filter.mp he1).1);exact ⟨k1,a1,rfl,g1,g2⟩
    ·simp only [bF1,if_false];rw [eee];exact cont
end
theorem IsTK.keepsS {h h':Heap}{p:Addr}{es:Array (Int×Value)}{ep:Nat}{t:SetTable}(ho:h.get? p=some (stO es ep t))(hs:∀ a o,a≠p->h.get? a=some o->h'.get? a=some o):∀ {k:TK} {v:Value},IsTK h k v->IsTK h' k v:=fun h0=>h0.rec (motive_1:=fun k v _=>IsTK h' k v) (motive_2:=fun k v _=>qba h' k v) .non .int
  (fun {a} _ _ _ _ e1 c1 d1 _ ih=>.tup (hs a _ (fun z=>by subst z;rw [e1] at ho;cases ho;cases d1) e1) c1 d1 ih) .nil (fun _ _ a b=>.cons a b)
theorem IsTK.grows {h h':Heap}(hs:∀ a o,h.get? a=some o->h'.get? a=some o):∀ {k:TK} {v:Value},IsTK h k v->IsTK h' k v:=fun h0=>h0.rec (motive_1:=fun k v _=>IsTK h' k v) (motive_2:=fun k v _=>qba h' k v) .non .int
  (fun {a} _ _ _ _ e1 c1 d1 _ ih=>.tup (hs a _ e1) c1 d1 ih) .nil (fun _ _ a b=>.cons a b)
noncomputable def ddS1 (ks:List TK)(k:TK):List TK:=if k∈ks then ks else ks++[k]
noncomputable def ddK (ks:List TK):List TK:=ks.foldl ddS1 []
theorem qlk (ks:List TK)(k:TK):(ddS1 ks k).length<=ks.length+1:=by unfold ddS1;split<;>simp
theorem qd6:∀ (ns acc:List TK),(ns.foldl ddS1 acc).length<=acc.length+ns.length
 | [],acc=>by simp
 | n::ns,acc=>by
  rw [List.foldl_cons];have h1:=qd6 ns (ddS1 acc n);have h2:=qlk acc n;rw [lC1];lia
structure SetK (p:Addr)(ks:List TK)(h:Heap)(es:Array (Int×Value))(ep:Nat)(t:SetTable):Prop where
 ob:h.get? p=some (stO es ep t)
 tt:sTT es t
 nf:t.tooFull=false
 el:∀ e∈es.toList,∃ k∈ks,sE1 h k e
 al:∀ k∈ks,∃ e∈es.toList,sE1 h k e
 sz:es.size=ks.length
theorem sE1.keep {h h':Heap}{p:Addr}{es:Array (Int×Value)}{ep:Nat}{t:SetTable}(ho:h.get? p=some (stO es ep t))(hs:∀ a o,a≠p->h.get? a=some o->h'.get? a=some o){k:TK}{e:Int×Value}(x:sE1 h k e):sE1 h' k e:=by
 obtain ⟨a,e1,e2,e3⟩:=x;exact ⟨a,e1,e2.keepsS ho hs,e3⟩
theorem SetK.old {p:Addr}{ks:List TK}{h h':Heap}{es:Array (Int×Value)}{ep:Nat}{t:SetTable}(x:SetK p ks h es ep t)(ob:h'.get? p=some (stO es ep t))(hs:∀ k e,sE1 h k e->sE1 h' k e):SetK p ks h' es ep t:=
 ⟨ob,x.tt,x.nf,fun e he=>by obtain ⟨k,h1,h2⟩:=x.el e he;exact ⟨k,h1,hs _ _ h2⟩,fun k hk=>by obtain ⟨e,h1,h2⟩:=x.al k hk;exact ⟨e,h1,hs _ _ h2⟩,x.sz⟩
theorem qgG {es:Array (Int×Value)}{t:SetTable}(h:sTT es t):t.tooFull=decide (es.size*5>=t.mask*3):=by
 unfold SetTable.tooFull SetTable.fill;rw [h.du,h.sz];rfl
section
variable {P:Program} {w:World} {A:Around} {E:Value->Shared->Prop} {s:Shared} {p:Addr} {ks:List TK}
theorem addK {k:TK}{x:Addr}{es:Array (Int×Value)}{ep:Nat}{t:SetTable}{Q:Bool->Shared->Prop}(hu:A.units+8<cLine)(hS:SetK p ks s.heap es ep t)(hb:ks.length<18)(hk:IsTK s.heap k (.ref x))(hd:k.dep<=8)
  (q:∀ c h' es' ep' t',Heap.SameBut p s.heap h'->SetK p (ddS1 ks k) h' es' ep' t'->Q c {s with heap:=h'}):wpAny (model P w) A (setAddHashed p (.ref x) k.hash) Q E s:=by
 have hf:=hS.tt.fits;unfold setAddHashed setAddHashedIn;refine wpAny_holding (wB1 (wpAny_setState_of hS.ob rfl hf ?_));dsimp only;rw [show byScan (Value.ref x) es=false from rfl];simp only [bF1,if_false];unfold setSearch;refine wB1 (srch hu hS.ob hS.tt (fun e he=>by obtain ⟨k',_,h⟩:=hS.el e he;exact ⟨k',h⟩) hk hd ?q1 ?q2 100000 (sWay t.mask k.hash) [] none rfl (qiv t k.hash) ?ln (fun y hy=>by cases hy))
 case q1=>
  rintro ⟨e,he,h⟩;obtain ⟨k',hk',h'⟩:=hS.el e he;have:k'=k:=by
   obtain ⟨a1,e1,i1,_⟩:=h;obtain ⟨a2,e2,i2,_⟩:=h';rw [e1] at e2;injection e2 with _ e2;injection e2 with e2;subst e2;exact i2.inj i1
  subst this;have hd:ddS1 ks k'=ks:=by unfold ddS1;rw [if_pos hk']
  rw [hd] at q;exact wP1 (q _ s.heap _ _ _ (Heap.SameBut.refl p s.heap) hS)
 case q2=>
  intro j pre post ew hp hj hno;dsimp only;have hn:k∉ks:=fun z=>by obtain ⟨e,he,h⟩:=hS.al k z;exact hno e he h
  have hd2:ddS1 ks k=ks++[k]:=by unfold ddS1;rw [if_neg hn]
  rw [hd2] at q;refine wB1 (wpAny_setState_of hS.ob rfl hf ?_);dsimp only;have hjm:j<=t.mask:=qlA k.hash j (by rw [ew];simp);have nf:=hS.nf;rw [qgG hS.tt] at nf;have nf:¬ es.size*5>=t.mask*3:=by simpa using nf
  have hsz:=hS.sz;have hroom:es.size+1<=t.mask:=by rcases hS.tt.mks with z | z<;>rw [z] at nf ⊢ <;> lia
  have tt1:sTT (SetTable.insertAt es (t.put j).2 (k.hash,.ref x)) (t.put j).1:=hS.tt.put hjm hj ⟨pre,post,ew,hp⟩ hroom;have z1:(SetTable.insertAt es (t.put j).2 (k.hash,Value.ref x)).size=(ks++[k]).length:=by rw [qcp,hsz,lA1];rfl
  have fitz:(SetTable.insertAt es (t.put j).2 (k.hash,Value.ref x)).size<=sizeLine:=by rw [z1,lA1,sizeLine_eq];simp;lia
  have sb:=Heap.SameBut.update s.heap p (Obj.putSet (SetTable.insertAt es (t.put j).2 (k.hash,.ref x)) (t.put j).1);have o1:=qg4 (fs:=SetTable.insertAt es (t.put j).2 (k.hash,.ref x)) (u:=(t.put j).1) hS.ob;have kp:∀ k1 e,sE1 s.heap k1 e->sE1 (s.heap.update p (Obj.putSet (SetTable.insertAt es (t.put j).2 (k.hash,.ref x)) (t.put j).1)) k1 e:=fun k1 e h=>h.keep hS.ob fun a o hne e=>by rw [hU1 _ _ _ _ hne];exact e
  have e1:∀ e∈(SetTable.insertAt es (t.put j).2 (k.hash,Value.ref x)).toList,∃ k'∈ks++[k],sE1 (s.heap.update p (Obj.putSet (SetTable.insertAt es (t.put j).2 (k.hash,.ref x)) (t.put j).1)) k' e:=fun e he=>by
   rw [qdW] at he;rcases he with rfl | he
   ·exact ⟨k,by simp,kp _ _ ⟨x,rfl,hk,hd⟩⟩
   ·obtain ⟨k',h1,h2⟩:=hS.el e he;exact ⟨k',List.mem_append_left _ h1,kp _ _ h2⟩
  have a1:∀ k'∈ks++[k],∃ e∈(SetTable.insertAt es (t.put j).2 (k.hash,Value.ref x)).toList,sE1 (s.heap.update p (Obj.putSet (SetTable.insertAt es (t.put j).2 (k.hash,.ref x)) (t.put j).1)) k' e:=fun k' hk'=>by
   rcases List.mem_append.mp hk' with z | z
   ·obtain ⟨e,h1,h2⟩:=hS.al k' z;exact ⟨e,(qdW _ _ _ _).mpr (.inr h1),kp _ _ h2⟩
   ·have:k'=k:=by simpa using z
    subst this;exact ⟨_,(qdW _ _ _ _).mpr (.inl rfl),kp _ _ ⟨x,rfl,hk,hd⟩⟩
  have tail:wpAny (model P w) A (do
    storeSet p (SetTable.insertAt es (t.put j).2 (k.hash,.ref x)) (t.put j).1
    if (!false&&(t.put j).1.tooFull)=true then do
      setRelay p (SetTable.grown (es.size+1))
      pure true
     else pure true) Q E s:=by
   refine wB1 (wpAny_storeSet_of hS.ob rfl ?_ fitz);by_cases hfu:(t.put j).1.tooFull=true
   ·rw [hfu];simp only [Bool.not_false,Bool.and_true,if_true];refine wB1 ?_;unfold setRelay;refine wB1 (wpAny_setState_of (s:={s with heap:=s.heap.update p _}) o1 rfl tt1.fits ?_);dsimp only;have f5:=hfu;rw [qgG tt1,qcp] at f5;have f5:(es.size+1)*5>=t.mask*3:=of_decide_eq_true f5;have e4:es.size=4/\t.mask=7:=by rcases hS.tt.mks with z | z<;>rw [z] at nf f5 ⊢ <;> (constructor<;>lia)
    rw [e4.1];rw [if_neg (by rw [sizeLine_eq];decide)];obtain ⟨t2,order,er,es2,tt2,mem2,_,mk2⟩:=qnw (m:=31) (fi:=(t.put j).1.finger) (mo:=(t.put j).1.movedTo 31) (l:=(t.put j).1.led) (p:=(t.put j).1.plain) (.inr rfl) (es:=SetTable.insertAt es (t.put j).2 (k.hash,.ref x)) (by rw [z1,lA1];simp;lia);refine wB1 ?_;rw [show (t.put j).1.relaid ((SetTable.insertAt es (t.put j).2 (k.hash,Value.ref x)).map (·.1)) (SetTable.grown (4+1))=some (t2,order) from er];have z2:(order.filterMap ((SetTable.insertAt es (t.put j).2 (k.hash,Value.ref x))[·]?)).size=(ks++[k]).length:=es2.trans z1;show wpAny _ _ (if ((order.filterMap ((SetTable.insertAt es (t.put j).2 (k.hash,Value.ref x))[·]?)).size != (SetTable.insertAt es (t.put j).2 (k.hash,Value.ref x)).size)=true then _ else _) _ _ _;rw [es2];simp only [bne_self_eq_false,bF1,if_false];refine wP1 ?_;dsimp only;refine wpAny_storeSet_of o1 rfl ?_ (by rw [es2];exact fitz);refine wP1 (q _ _ _ _ _ (sb.trans (Heap.SameBut.update _ p _)) ⟨qg4 o1,tt2,?_,fun e he=>?_,fun k' hk'=>?_,z2⟩)
    ·rw [qgG tt2,mk2,es2,qcp,e4.1];rfl
    ·obtain ⟨k',h1,h2⟩:=e1 e ((mem2 e).mp he);exact ⟨k',h1,h2.keep o1 fun a o hne e=>by rw [hU1 _ _ _ _ hne];exact e⟩
    ·obtain ⟨e,h1,h2⟩:=a1 k' hk';exact ⟨e,(mem2 e).mpr h1,h2.keep o1 fun a o hne e=>by rw [hU1 _ _ _ _ hne];exact e⟩
   ·rw [Bool.not_eq_true] at hfu;rw [hfu];simp only [Bool.and_false,bF1,if_false];exact wP1 (q _ _ _ _ _ sb ⟨o1,tt1,hfu,e1,a1,z1⟩)
  by_cases hpl:(t.put j).1.plain=true
  ·rw [hpl];simp only [if_true];refine wB1 (qqa 8 hd hk ?_);exact tail
  ·rw [Bool.not_eq_true] at hpl;rw [hpl];simp only [bF1,if_false];refine wB1 (wP1 ?_);exact tail
 case ln=>
  have:=qii t.mask k.hash;have:SetTable.turns t.mask<=46:=by unfold SetTable.turns;rcases hS.tt.mks with z | z<;>rw [z]<;>decide
  lia
end
noncomputable def SetN (p:Addr)(n:Nat)(h:Heap):Prop:=∃ es ep t,h.get? p=some (stO es ep t)/\t.fits es.size=true/\es.size=n/\n<=18
theorem qba.mem {h:Heap}:∀ {ks:List TK} {vs:List Value},qba h ks vs -> ∀ (i:Nat) (v:Value),vs[i]? = some v -> ∃ k,ks[i]? = some k/\IsTK h k v
 | _,_,.nil,i,v,e=>by simp at e
 | _,_,.cons r t,0,v,e=>by simp at e;subst e;exact ⟨_,rfl,r⟩
 | _,_,.cons r t,i+1,v,e=>qba.mem t i v (by simpa using e)
noncomputable def tupK (k:TK):Bool:=match k with
 | .tup _=>decide (k.dep<=8)
 | _=>false
theorem qkl {h:Heap}{k:TK}{v:Value}(hk:tupK k=true)(h1:IsTK h k v):k.dep<=8 /\ ∃ a,v = .ref a:=by
 cases h1 with
 | non=>cases hk
 | int=>cases hk
 | @tup a=>exact ⟨by simpa [tupK] using hk,a,rfl⟩
section
variable {P:Program} {w:World} {A:Around} {E:Value->Shared->Prop}
theorem qiB {p l it:Addr}{its:Array Value}{ns:List TK}{R:Result->Shared->Prop}(hh:A.handled=none)(hu:A.units+20<cLine)(hT:∀ k∈ns,tupK k=true)(hb:ns.length<=18)(n1:p≠l)(n2:p≠it)(n3:it≠l):
  ∀ (k i:Nat) (s:Shared) (es:Array (Int×Value)) (ep:Nat) (t:SetTable),its.size-i=k->i<=its.size->s.heap.IsListIter it l i->s.heap.IsList l its->qba s.heap ns its.toList->SetK p ((ns.take i).foldl ddS1 []) s.heap es ep t ->
  (∀ h' tk,(∀ c o,c≠p->c≠it->s.heap.get? c=some o->h'.get? c=some o)->SetN p (ddK ns).length h'->R (.ok (.ret .none)) {s with heap:=h',toks:=tk})->codeAny (model P w) A (.builtin "set.update.loop" ⟨[.ref p,.ref it],[]⟩) R s:=by
 intro k
 induction k with
 | zero=>
  intro i s es ep t hk hi st hl hI hS q;have e:i=its.size:=by lia
  subst e;refine wD1 PyProof.Rows.F.entry_set_update_loop (?_:_);rw [Around.under_plainId PyProof.Rows.F.plain_set_update_loop _];show wpAny _ A.in1 (pyNext (.ref it) >>= _) _ _ s;refine wB1 (wpAny_pyNext_list_end (by simpa using hh) st hl (by simp) fun h' eb=>wP1 ?_);refine q h' s.toks (fun c o _ hc e=>eb c o hc e) ?_;have hlen:its.size=ns.length:=by rw [<- Array.length_toList];exact hI.split.symm
  have hz:=hS.sz;rw [hlen,List.take_length] at hz;refine ⟨es,ep,t,eb p _ n2 hS.ob,hS.tt.fits,hz,?_⟩;have:=qd6 ns [];unfold ddK;simp at this;lia
 | succ k ih=>
  intro i s es ep t hk hi st hl hI hS q;have hlt:i<its.size:=by lia
  have hx:=aG1 hlt;obtain ⟨ki,ek,hki⟩:=hI.mem i _ (by rw [aT1];exact hx);have hkm:ki∈ns:=gM1 ek;obtain ⟨hd,xa,ex⟩:=qkl (hT ki hkm) hki;refine wD1 PyProof.Rows.F.entry_set_update_loop (?_:_);rw [Around.under_plainId PyProof.Rows.F.plain_set_update_loop _];show wpAny _ A.in1 (pyNext (.ref it) >>= _) _ _ s;refine wB1 (wpAny_pyNext_list_item st hl hx fun h' st' sb=>?_);rw [ex] at hki ⊢;have notIt:∀ {k:TK} {v:Value},IsTK s.heap k v->IsTK h' k v:=fun h0=>by
   refine h0.rec (motive_1:=fun k v _=>IsTK h' k v) (motive_2:=fun k v _=>qba h' k v) .non .int (fun {a} _ _ _ _ e1 c1 d1 _ ih=>.tup ((sb.2 a fun z=>?_).trans e1) c1 d1 ih) .nil (fun _ _ a b=>.cons a b);subst z;obtain ⟨o,e2,c2,_⟩:=st;rw [e1] at e2;cases e2;rw [c1] at c2;exact absurd c2 (by decide)
  show wpAny _ A.in1 (holding [Value.ref xa] (setAdd p (.ref xa)) >>= _) _ _ _;refine wB1 (wpAny_holding ?_);unfold setAdd;have hu1:A.in1.units=A.units+1:=rfl;refine wpAny_holding (wB1 (qgD ki (by rw [hu1];lia) (notIt hki) ?_));have obS:h'.get? p=some (stO es ep t):=by rw [sb.2 p n2];exact hS.ob
  have hS':SetK p ((ns.take i).foldl ddS1 []) h' es ep t:=hS.old obS fun k e ⟨a,e1,e2,e3⟩=>⟨a,e1,notIt e2,e3⟩;have hfl:=qd6 (ns.take i) [];refine addK (s:={s with heap:=h',toks:=s.toks+ki.draws}) (by rw [hu1];lia) hS' (by
   have hlen:its.size=ns.length:=by rw [<- Array.length_toList];exact hI.split.symm
   rw [List.length_take,List.length_nil] at hfl;lia) (notIt hki) hd fun c h2 es2 ep2 t2 sb2 hS2=>?_
  have ef:ddS1 ((ns.take i).foldl ddS1 []) ki=(ns.take (i+1)).foldl ddS1 []:=by
   rw [List.take_succ,ek,List.foldl_append];rfl
  rw [ef] at hS2;have kk:∀ c o,c≠p->c≠it->s.heap.get? c=some o->h2.get? c=some o:=fun c o h1 h3 e=>by rw [sb2.2 c h1];show h'.get? c=_;rw [sb.2 c h3];exact e
  have keepIt:∀ o,h'.get? it=some o->h2.get? it=some o:=fun o e=>by rw [sb2.2 it (Ne.symm n2)];exact e
  have tks:∀ {h h'':Heap} {a:List TK} {b:List Value},(∀ {k v},IsTK h k v->IsTK h'' k v)->qba h a b->qba h'' a b:=fun {h h'' a b} f h0=>by
   induction a generalizing b with
   | nil=>cases h0;exact .nil
   | cons k a ih=>cases h0 with | cons r t=>exact .cons (f r) (ih t)
  refine wP1 ⟨plainId_quiet PyProof.Rows.F.plain_set_update_loop _,ih (i+1) {s with heap:=h2,toks:=s.toks+ki.draws} es2 ep2 t2 (by lia) hlt (st'.at keepIt) ?_ ?_ hS2 fun h3 tk k3 x3=>?_⟩
  ·obtain ⟨o,e,r⟩:=hl;exact ⟨o,kk l o (Ne.symm n1) (Ne.symm n3) e,r⟩
  ·exact tks (fun x=>(notIt x).keepsS obS fun a o hne e=>by rw [sb2.2 a hne];exact e) hI
  ·exact q h3 tk (fun c o h1 h4 e=>k3 c o h1 h4 (kk c o h1 h4 e)) x3
theorem qj0 {s:Shared}{l:Addr}{its:Array Value}{ns:List TK}{Q:Value->Shared->Prop}(hh:A.handled=none)(hu:A.units+24<cLine)(hl:s.heap.IsList l its)(hI:qba s.heap ns its.toList)(hT:∀ k∈ns,tupK k=true)(hb:ns.length<=18)
  (q:∀ h' tk,(∀ c o,s.heap.get? c=some o->h'.get? c=some o)->SetN s.heap.objs.size (ddK ns).length h'->Q (.ref s.heap.objs.size) {s with heap:=h',toks:=tk}):wpAny (model P w) A (call (.type "set") [.ref l]) Q E s:=by
 have hlt:l<s.heap.objs.size:=by obtain ⟨o,e,_⟩:=hl;exact hL1 e
 refine qeB hl fun A' hA hAu R hR=>?_;have z1:(s.heap.push (stO #[] 0 (.fresh 0 0 (!byT w)))).objs.size=s.heap.objs.size+1:=by rw [hZ1]
 have g1:(s.heap.push (stO #[] 0 (.fresh 0 0 (!byT w)))).get? s.heap.objs.size=some (stO #[] 0 (.fresh 0 0 (!byT w))):=hS1 _ rfl;have tks:∀ {h h'':Heap} {a:List TK} {b:List Value},(∀ {k v},IsTK h k v->IsTK h'' k v)->qba h a b->qba h'' a b:=fun {h h'' a b} f h0=>by
  induction a generalizing b with
  | nil=>cases h0;exact .nil
  | cons k a ih=>cases h0 with | cons r t=>exact .cons (f r) (ih t)
 refine qiB (its:=its) (ns:=ns) (hA.trans hh) (by lia) hT hb (nG1 hlt) (nN1 (Nat.lt_succ_self _)) (nG1 (Nat.lt_succ_of_lt hlt)) _ 0 _ #[] 0 (.fresh 0 0 (!byT w)) rfl (Nat.zero_le _) ?_ ?_ ?_ ?_ fun h' tk k x=>hR _ (q h' tk (fun c o e=>k c o (nN1 (hL1 e)) (nN1 (Nat.lt_succ_of_lt (hL1 e))) (hP1 _ (hP1 _ e))) x)
 ·refine ⟨{cls:=.type "list_iterator",data:=.fields #[.ref l,.int 0 0]},?_,rfl,rfl⟩;have this:((s.heap.push (stO #[] 0 (.fresh 0 0 (!byT w)))).push {cls:=.type "list_iterator",data:=.fields #[.ref l,.int 0 0]}).get? (s.heap.push (stO #[] 0 (.fresh 0 0 (!byT w)))).objs.size=some {cls:=.type "list_iterator",data:=.fields #[.ref l,.int 0 0]}:=hS1 _ rfl;rw [z1] at this;exact this
 ·obtain ⟨o,e,r⟩:=hl;exact ⟨o,hP1 _ (hP1 _ e),r⟩
 ·exact tks (fun x=>x.grows fun a o e=>hP1 _ (hP1 _ e)) hI
 ·exact ⟨hP1 _ g1,sTT.fresh _,rfl,(fun e he=>by simp at he),(fun k hk=>by cases hk),rfl⟩
end
noncomputable def qhV:List D->Option (List TK)
 | []=>some []
 | d::ds=>(keyT d).bind fun k=>(qhV ds).map (k :: ·)
theorem qhh:∀ {ds:List D} {ks:List TK},qhV ds=some ks->tkDs ks=ds/\(∀ k∈ks,tupK k=true)/\ks.length=ds.length
 | [],ks,h=>by cases h;exact ⟨rfl,(fun k hk=>by cases hk),rfl⟩
 | d::ds,ks,h=>by
  rw [qhV] at h;obtain ⟨k,e1,h⟩:=oB1.mp h;obtain ⟨ks',e2,h⟩:=oM1.mp h;subst h;obtain ⟨h1,h2,xs,h3⟩:=qji e1;obtain ⟨g1,g2,g3⟩:=qhh e2;refine ⟨by rw [tkDs,h1,g1],fun k' hk'=>?_,by simp [g3]⟩;rcases List.mem_cons.mp hk' with z | z
  ·subst z;subst h3;simpa [tupK] using h2
  ·exact g2 k' z
noncomputable def qc1:G1:=fun d S=>match qao S d with
 | some (true,xs)=>(qhV xs).bind fun ks=>if ks.length<=18 then some (.int (ddK ks).length,S) else none
 | _=>none
section
variable {X:Cx}
noncomputable def qre (X:Cx)(vs:List V)(H:Hp)(Q:VK):Prop:=∃ a xs ks mu,vs=[.ref a]/\SqL X.K H a xs/\Reps X.K H mu (tkDs ks) xs/\(∀ k∈ks,tupK k=true)/\ks.length<=18 /\ ∀ p,H p=none->Q (.ref p) (upd H p (.ext (SetN p (ddK ks).length)))
noncomputable def qrf (X:Cx)(vs:List V)(H:Hp)(Q:VK):Prop:=∃ a n,vs=[.ref a]/\H a=some (.ext (SetN a n))/\Q (.int n) H
theorem qqr (hc:X.calm=true)(hu:X.A.units+64<cLine):qaN X (.type "set") (qre X):=by
 intro pins s σ H xs us Q I r h;obtain ⟨a,vs,ks,mu,rfl,hq,hk,hT,hb,q⟩:=h;obtain ⟨u,rfl,r2⟩:=qcB r;cases r2;obtain ⟨its,rv,p,hz⟩:=I.list hq;have hI:=qir I ks hk rv;refine qj0 (I.ok.hd hc) (by lia) p.isList (by simpa using hI) hT hb fun h' tk keep hx=>?_;have hfr:=I.hok.fresh (nR1 s.heap.objs.size);refine ⟨.ref s.heap.objs.size,_,I.laid (t':=tk) (o:=.ext (SetN s.heap.objs.size (ddK ks).length)) keep (nR1 _) ⟨hx,?_,fun h1 h2 ⟨es,ep,t,e,r⟩ k=>⟨es,ep,t,k _ e,r⟩⟩,rfl,q _ hfr⟩;obtain ⟨es,ep,t,e,_⟩:=hx;exact ⟨_,e⟩
theorem qqu:qaN X (.builtin "len") (qrf X):=by
 intro pins s σ H xs us Q I r h;obtain ⟨a,n,rfl,ha,q⟩:=h;obtain ⟨u,rfl,r2⟩:=qcB r;cases r2;obtain ⟨⟨es,ep,t,e,hf,hn,hb⟩,_⟩:=(show qaV X.prog X.w H s.heap a (.ext (SetN a n)) from I.hok a _ ha);refine PySem.call_len_set e (by first | exact rfl | exact ⟨rfl,rfl,rfl⟩ | exact ⟨rfl,rfl⟩) rfl hf (by lia) ?_;refine ⟨.int es.size,H,I.tok _,⟨_,rfl⟩,?_⟩;rw [hn];exact q
theorem qki (hc:X.calm=true)(hu:X.A.units+64<cLine){o:Expr}{m:FE}{p p2 pos pos2:Pos}(hg:Gl X "len")(hm:X.mg "len"=none)(hg2:Gl X "set")(hm2:X.mg "set"=none)(ho:XE X o m)
  (he:starEach [.Call (.Name "set" p2) [o] [] pos2] X.env=[(false,eval (.Call (.Name "set" p2) [o] [] pos2) X.env)]:=by rfl) (he2:starEach [o] X.env=[(false,eval o X.env)]:=by rfl):XE X (.Call (.Name "len" p) [.Call (.Name "set" p2) [o] [] pos2] [] pos) (mN (b1 qc1) (qaa m mNil)):=
 ⟨qaW (qdF qqu hg hm (by decide+kernel) (qcf (qcW (qqr hc hu) hg2 hm2 (by decide+kernel) (qcf ho.h qdT he2) (he:=he2)) qdT he) (he:=he)) <| by
  rintro σ H Q ⟨r,mu,S,d,S',he,hs,hm,hcc⟩;obtain ⟨⟨ds,S1⟩,e1,hm⟩:=oB1.mp hm;obtain ⟨⟨d1,S2⟩,e2,e1⟩:=oB1.mp e1;cases e1;dsimp only [b1,qc1] at hm;split at hm
  ·rename_i xs en;obtain ⟨ns,ei,hm⟩:=oB1.mp hm;split at hm
   ·rename_i hl;cases hm;refine ⟨r,mu,S,d1,_,he,hs,e2,fun v H1 mu1 x1 r1 s1=>?_⟩;obtain ⟨a,vs,rfl,q,t⟩:=qag r1 s1 en;obtain ⟨k1,k2,_⟩:=qhh ei;refine ⟨a,vs,ns,mu1,rfl,q,by rw [k1];exact t,k2,hl,fun p hp=>?_⟩;refine ⟨p,(ddK ns).length,rfl,qau,?_⟩;have f1:Ext mu1 mu1 H1 (upd H1 p (.ext (SetN p (ddK ns).length))):=Ext.fresh hp;have s2:=s1.fresh (u:=.ext (SetN p (ddK ns).length)) hp;exact hcc _ _ mu1 (x1.trans f1) (.int _) s2
   ·cases hm
  ·cases hm⟩
end
section
variable {X:Cx} {pos:Pos}
theorem gn (i:Nat){x:Str}(hN:X.N.Nodup)(hi:X.N[i]? = some x:=by rfl)(hx:Loc X.env.scope x:=by first | exact Or.inl rfl | exact Or.inr rfl)(hf:X.fn x=true\/X.env.scope.names.lookup x=some .local:=by first | exact .inl rfl | exact .inr rfl | assumption):XG X (.Name x pos) (gN i):=qO i hN hi hx hf
theorem sn (i:Nat){x:Str}{e:Expr}{m:FE}{pos':Pos}(hN:X.N.Nodup)(he:XE X e m)(hi:X.N[i]? = some x:=by rfl)(hx:Loc X.env.scope x:=by first | exact Or.inl rfl | exact Or.inr rfl)(hs:swapsWith e (some (.Name x pos')) pos.line X.env=pure false:=by rfl)(hf:X.fn x=true\/X.env.scope.names.lookup x=some .local:=by first | exact .inl rfl | exact .inr rfl | assumption):XS X (.Assign [.Name x pos'] e pos) (mAsg m (gN i)):=qY i hN hi hx he hs hf
theorem jx {k:Nat}{x y:Expr}{a b:FE}(hr:Room k X.A)(hx:XE X x a)(hy:XE X y b)(hs:qfr y:=by intro _ _;rfl):XE X (.Subscript x y pos) (m2 (b2 gIxY) a b):=qJ (qP hr.units) hx hy hs
theorem wo {k k' n:Nat}{x:Str}{m:FN}{p:Pos}{e:Expr}{es:List Expr}{a:FA}(h:Own X.prog X.w X.K X.mg X.base k x n m)(hr:Room k' X.A)(ha:XA X (e::es) a)(hk:k<=k':=by first | decide | omega)(hg:Gl X x:=by rfl)(hdb:(x == ("__debug__":Str))=false:=by decide)(he:starEach (e::es) X.env=(false,eval e X.env)::starEach es X.env:=by rfl)(hpl:(backTo pos (starEach es X.env)).any (·.1)=false:=by rfl):XE X (.Call (.Name x p) (e::es) [] pos) (mN (qaf n m) a):=qH h hr hk hg ha hdb he hpl
theorem ce {op:CmpOp}{x y:Expr}{f:FN}{a b:FE}(ho:OpR X (compareOp op) (r2 X.K f))(hx:XE X x a)(hy:XE X y b)(hm:behindInMarks op y=false:=by exact qlP _):XE X (.Compare x [op] [y] pos) (m2 f a b):=qmh ho hx hy hm
theorem ct {op:CmpOp}{x y:Expr}{f:FN}{a b:FE}(ho:OpR X (compareOp op) (r2 X.K f))(hx:XE X x a)(hy:XE X y b)(hm:behindInMarks op y=false:=by exact qlP _):XT X (.Compare x [op] [y] pos) (mB (m2 f a b)):=qX ho hx hy hm
theorem cb {x:Str}{p:Pos}{e:Expr}{es:List Expr}{id:String}{f:FN}{a:FA}(hc:qaN X (.builtin id) (rN X.K f))(hm:X.mg x=none)(ha:XA X (e::es) a)(hg:Gl X x:=by rfl)(hv:bootBuiltins x=some (.builtin id):=by decide+kernel)(hn:x≠"__name__":=by decide)(hdb:(x == ("__debug__":Str))=false:=by decide)(he:starEach (e::es) X.env=(false,eval e X.env)::starEach es X.env:=by rfl)(hpl:(backTo pos (starEach es X.env)).any (·.1)=false:=by rfl):XE X (.Call (.Name x p) (e::es) [] pos) (mN f a):=qD hc hg hm hv ha hn hdb he hpl
theorem cy {x:Str}{p:Pos}{e:Expr}{es:List Expr}{T:String}{f:FN}{a:FA}(hc:qaN X (.type T) (rN X.K f))(hm:X.mg x=none)(ha:XA X (e::es) a)(hg:Gl X x:=by rfl)(hv:bootBuiltins x=some (.type T):=by decide+kernel)(hn:x≠"__name__":=by decide)(hdb:(x == ("__debug__":Str))=false:=by decide)(he:starEach (e::es) X.env=(false,eval e X.env)::starEach es X.env:=by rfl)(hpl:(backTo pos (starEach es X.env)).any (·.1)=false:=by rfl):XE X (.Call (.Name x p) (e::es) [] pos) (mN f a):=qE hc hg hm hv ha hn hdb he hpl
theorem kc {sc:Scope}{i:Nat}{l:List Nat}(x:Str)(r:∀ i∈l,∃ x,X.N[i]? = some x/\sc.names.lookup x=some .free/\(X.env.kindOf x=some .cell\/X.env.kindOf x=some .free)/\(x,NameKind.cell)∉sc.names)(h1:X.N[i]? = some x:=by rfl)(h2:sc.names.lookup x=some .free:=by rfl)(h3:X.env.kindOf x=some .cell\/X.env.kindOf x=some .free:=by first | exact Or.inl rfl | exact Or.inr rfl)(h4:(x,NameKind.cell)∉sc.names:=by decide+kernel):∀ j∈i::l,∃ x,X.N[j]? = some x/\sc.names.lookup x=some .free/\(X.env.kindOf x=some .cell\/X.env.kindOf x=some .free)/\(x,NameKind.cell)∉sc.names:=List.forall_mem_cons.mpr ⟨⟨x,h1,h2,h3,h4⟩,r⟩
end
structure FnAt (K:Fg1)(x:Str)(st:Stmt)(f:Addr):Prop where
 ns:wN1 K mainGlobals x=some (some (.ref f))
 fn:∃ fd,Fun K x x st f fd
theorem qrW {K:Fg1}{x:Str}{st:Stmt}{f:Addr}{oc:Value}{od an:Option Addr}{osl:Array (Option Value)}{kV doc pm cdv ct:Value}(a:wN1 K mainGlobals x=some (some (.ref f)))(l:K.lookup f=some ⟨oc,od,.func (wF1 x x (qcK st) (qbc st) (qae st) .none kV doc pm an cdv ct),osl⟩)
  (c:wC1 K cdv x=true) (k:wK1 K (.ref f)=true):FnAt K x st f:=⟨a,_,qlZ l c k⟩
theorem xo {P:Program}{w:World}{K:Fg1}{mg:Str->Option Value}{base h:Heap}{x:Str}{st:Stmt}{f:Addr}{N ps:List Str}{k n:Nat}{b:FS}(X:K.In h)(G:h.Ns mainGlobals mg)(F:FnAt K x st f)(S:qas N ps (qae st))
  (hb:∀ (kV doc pm:Value) (an:Option Addr) (cdv ct:Value) (us:List Value),us.length=ps.length->bindArgs (wF1 x x (qcK st) (qbc st) (qae st) .none kV doc pm an cdv ct) ⟨us,[]⟩=pure (ps.zip us))
  (hbody:∀ (f:Addr) (cdv:Value) (A:Around) (outer:List Env) (s:Shared) (H:Hp) (E:XK),Room k (A.deeper (envOfC x (qae st) s.heap.objs.size f cdv)) ->
   XSs (cxOf CX0 P w K mg base N x (qae st) f cdv A outer s H E).nox (qbc st) b) (hn:ps.length=n:=by rfl):Own P w K mg base (k+1) x n (fnB N.length b):=by
 obtain ⟨fd,F'⟩:=F.fn;exact qmd F' (F'.binds hb) (wM1 X G F.ns) S hn (hbody f)
noncomputable def W {α:Type}(o:Option α)(Q:α->Prop):Prop:=∃ x,o=some x/\Q x
section
variable {α β:Type} {Q:α->Prop}
theorem qat {x:α}:W (some x) Q↔Q x:=⟨fun ⟨_,e,h⟩=>(by cases e;exact h),fun h=>⟨x,rfl,h⟩⟩
theorem qef:W (none:Option α) Q↔False:=⟨fun ⟨_,e,_⟩=>(by cases e),False.elim⟩
theorem qal {o:Option β}{f:β->Option α}:W (o.bind f) Q↔W o fun x=>W (f x) Q:=by
 cases o with
 | none=>exact ⟨fun ⟨_,e,_⟩=>(by cases e),fun ⟨_,e,_⟩=>(by cases e)⟩
 | some x=>exact ⟨fun h=>⟨x,rfl,h⟩,fun ⟨_,e,h⟩=>by cases e;exact h⟩
theorem qfp {o:Option β}{f:β->α}:W (o.map f) Q↔W o fun x=>Q (f x):=by
 cases o with
 | none=>exact ⟨fun ⟨_,e,_⟩=>(by cases e),fun ⟨_,e,_⟩=>(by cases e)⟩
 | some x=>exact ⟨fun ⟨_,e,h⟩=>(by cases e;exact ⟨x,rfl,h⟩),fun ⟨_,e,h⟩=>(by cases e;exact ⟨_,rfl,h⟩)⟩
theorem qh7 {c:Prop}[Decidable c]{a b:Option α}:W (if c then a else b) Q↔if c then W a Q else W b Q:=by split<;>exact Iff.rfl
theorem W.mono {o:Option α}{Q':α->Prop}(h:W o Q)(k:∀ x,Q x->Q' x):W o Q':=let ⟨x,e,q⟩:=h;⟨x,e,k x q⟩
theorem W.of {o:Option α}{x:α}(e:o=some x)(h:Q x):W o Q:=⟨x,e,h⟩
end
theorem seqW {a b:FS}{r:Ev}{S:Sto}{Q:Fl×Ev×Sto->Prop}(R:Ev->Sto->Prop)(h1:W (a r S) fun p=>p.1 = .nx/\R p.2.1 p.2.2)(h2:∀ r S,R r S->W (b r S) Q):W (mSeq a b r S) Q:=by
 obtain ⟨⟨f,r1,S1⟩,e,hf,hR⟩:=h1;dsimp only at hf hR;subst hf;unfold mSeq;rw [e];exact h2 r1 S1 hR
theorem fnW {n:Nat}{b:FS}{ds:List D}{S:Sto}{Q:D×Sto->Prop}(h:W (b (qdN n ds) S) fun p=>match p.1 with
  | .rt d=>Q (d,p.2.2)
  | .nx=>Q (.non,p.2.2)
  | _=>False):W (fnB n b ds S) Q:=by
 obtain ⟨⟨f,r1,S1⟩,e,q⟩:=h;unfold fnB;rw [e];cases f with
 | rt d=>exact ⟨_,rfl,q⟩
 | nx=>exact ⟨_,rfl,q⟩
 | bk=>exact q.elim
 | ct=>exact q.elim
theorem qf3 {n:Nat}{f:FN}{ds:List D}{S:Sto}{Q:D×Sto->Prop}(hn:ds.length=n)(hu:D.unds 0 ds=false)(h:W (f ds S) fun p=>Q (gc S.length p)):W (qaf n f ds S) Q:=by
 obtain ⟨⟨d,S1⟩,e,q⟩:=h;exact ⟨_,qeb e hn hu,q⟩
theorem qlr {n:Nat}{f:FN}{ds:List D}{S:Sto}{Q:D×Sto->Prop}(hn:ds.length=n)(hu:D.unds 0 ds=true)(h:W (f ds []) fun p=>p.1.und 0=true/\Q (p.1,S)):W (qaf n f ds S) Q:=by
 obtain ⟨⟨d,S1⟩,e,q1,q2⟩:=h;exact ⟨_,qjX e hn hu q1,q2⟩
mutual
theorem qcQ {n:Nat}:∀ {d:D},d.und 0=true->d.und n=true
 | .non,_=>rfl
 | .bl _,_=>rfl
 | .int _,_=>rfl
 | .str _,_=>rfl
 | .tup xs,h=>by rw [D.und] at h ⊢;exact qbf h
 | .rol xs,h=>by rw [D.und] at h ⊢;exact qbf h
 | .fn _,_=>rfl
 | .ref k,h=>by simp [D.und] at h
theorem qbf {n:Nat}:∀ {ds:List D},D.unds 0 ds=true->D.unds n ds=true
 | [],_=>rfl
 | d::ds,h=>by
  rw [D.unds,bA1] at h ⊢;exact ⟨qcQ h.1,qbf h.2⟩
end
theorem qaS {c:List (Nat×List D)}{g:FG}{b:FS}{Q:Fl×Ev×Sto->Prop}(I:Nat->Ev->Sto->Prop):∀ (items:List D) (k:Nat) (r:Ev) (S:Sto),I k r S ->
  (∀ i r S,I i r S->okC S c=true) ->
  (∀ i d,items[i]? = some d -> ∀ r S,I (k+i) r S->W (g d r S) fun p=>W (b p.1 p.2) fun q=>q.1 = .nx/\I (k+i+1) q.2.1 q.2.2) ->
  (∀ r S,I (k+items.length) r S->Q (.nx,r,S))->W (qdw c g b items r S) Q
 | [],k,r,S,hi,hok,_,hq=>by rw [qdw];dsimp only;rw [if_pos (hok _ _ _ hi),qat];exact hq r S (by simpa using hi)
 | d::ds,k,r,S,hi,hok,hs,hq=>by
  rw [qdw];dsimp only;rw [if_pos (hok _ _ _ hi),qal];obtain ⟨p,e1,h1⟩:=hs 0 d rfl r S (by simpa using hi);refine ⟨p,e1,?_⟩;dsimp only;rw [qal];obtain ⟨⟨f,r1,S1⟩,e2,h2,h3⟩:=h1;refine ⟨_,e2,?_⟩;dsimp only at h2 h3 ⊢;subst h2;refine qaS I ds (k+1) r1 S1 (by simpa using h3) hok (fun i d' hd r S hI=>?_) fun r S hI=>hq r S (by rw [lC1,show k+(ds.length+1)=k+1+ds.length by lia];exact hI);have:=hs (i+1) d' (by simpa using hd) r S (by rw [show k+(i+1)=k+1+i by lia];exact hI);rw [show k+(i+1)+1=k+1+i+1 by lia] at this;exact this
theorem qbt {c:List (Nat×List D)}{g:FG}{t:FT}{e:FE}{Q:List D×Ev×Sto->Prop}(I:Nat->List D->Ev->Sto->Prop):∀ (items:List D) (k:Nat) (acc:List D) (r:Ev) (S:Sto),I k acc r S ->
  (∀ i acc r S,I i acc r S->okC S c=true) ->
  (∀ i d,items[i]? = some d -> ∀ acc r S,I (k+i) acc r S->W (g d r S) fun p=>W (t p.1 p.2) fun b=>if b.1=true then W (e p.1 b.2) fun x=>I (k+i+1) (acc++[x.1]) p.1 x.2 else I (k+i+1) acc p.1 b.2) ->
  (∀ xs r S,I (k+items.length) (acc++xs) r S->Q (xs,r,S))->W (qbP c g t (qaT e) items r S) Q
 | [],k,acc,r,S,hi,hok,_,hq=>by rw [qbP];dsimp only;rw [if_pos (hok _ _ _ _ hi),qat];exact hq [] r S (by simpa using hi)
 | d::ds,k,acc,r,S,hi,hok,hs,hq=>by
  rw [qbP];dsimp only;rw [if_pos (hok _ _ _ _ hi),qal];obtain ⟨p,e1,h1⟩:=hs 0 d rfl acc r S (by simpa using hi);refine ⟨p,e1,?_⟩;dsimp only;rw [qal];obtain ⟨⟨b,S1⟩,e2,h2⟩:=h1;refine ⟨_,e2,?_⟩;have step:∀ i d',ds[i]? = some d' -> ∀ acc r S,I (k+1+i) acc r S->W (g d' r S) fun p=>W (t p.1 p.2) fun b=>if b.1=true then W (e p.1 b.2) fun x=>I (k+1+i+1) (acc++[x.1]) p.1 x.2 else I (k+1+i+1) acc p.1 b.2:=fun i d' hd acc r S hI=>by
   have:=hs (i+1) d' (by simpa using hd) acc r S (by rw [show k+(i+1)=k+1+i by lia];exact hI);rw [show k+(i+1)+1=k+1+i+1 by lia] at this;exact this
  dsimp only at h2 ⊢;cases b with
  | true=>
   rw [if_pos rfl] at h2 ⊢;rw [qal,qaT,qfp];obtain ⟨⟨x,S2⟩,e3,h3⟩:=h2;refine ⟨_,e3,?_⟩;dsimp only at h3 ⊢;rw [qfp];refine qbt I ds (k+1) (acc++[x]) p.1 S2 (by simpa using h3) hok step fun xs r S hI=>?_;refine hq _ r S ?_;rw [lC1,show k+(ds.length+1)=k+1+ds.length by lia];simpa using hI
  | false=>
   rw [if_neg (by decide)] at h2 ⊢;refine qbt I ds (k+1) acc p.1 S1 (by simpa using h2) hok step fun xs r S hI=>?_;refine hq _ r S ?_;rw [lC1,show k+(ds.length+1)=k+1+ds.length by lia];exact hI
theorem qop {S:Sto}{b:Bool}:truD S (.bl b)=some b:=rfl
theorem qqW {S:Sto}:truD S .non=some false:=rfl
theorem qqX {S:Sto}{i:Int}:truD S (.int i)=some (i != 0):=rfl
theorem qnL {x y:Int}{S:Sto}:gEq (.int x) (.int y) S=some (.bl (x == y),S):=rfl
theorem qnI {x y:Int}{S:Sto}:gNe (.int x) (.int y) S=some (.bl (!(x == y)),S):=rfl
theorem qnJ {x y:Int}{S:Sto}:gLt (.int x) (.int y) S=some (.bl (decide (x<y)),S):=rfl
theorem qrR {x y:Str}{S:Sto}:gEq (.str x) (.str y) S=some (.bl (x == y),S):=rfl
theorem qrQ {x y:Str}{S:Sto}:gNe (.str x) (.str y) S=some (.bl (!(x == y)),S):=rfl
theorem ite_and' {c p:Prop}[Decidable c]:(if c then p else False)↔c/\p:=by split<;>simp [*]
noncomputable def bnd (j:Int):Bool:=decide (-(2^62)<=j)&&decide (j<2^62)
theorem qbd {n:Nat}(h:n<2^60):bnd n=true:=by
 unfold bnd;rw [bA1,decide_eq_true_eq,decide_eq_true_eq];lia
theorem qqx {j:Int}(h: -(2^60)<=j)(h':j<2^60):bnd j=true:=by
 unfold bnd;rw [bA1,decide_eq_true_eq,decide_eq_true_eq];lia
noncomputable def rW1 (p:List D×Sto)(Q:Itm×Sto->Prop):Prop:=match p.1 with
 | [.int j]=>bnd j=true/\Q (⟨nums 0 j.toNat,[]⟩,p.2)
 | _=>False
noncomputable def rW2 (p:List D×Sto)(Q:Itm×Sto->Prop):Prop:=match p.1 with
 | [.int i,.int j]=>bnd i=true/\bnd j=true/\Q (⟨nums i (j-i).toNat,[]⟩,p.2)
 | _=>False
theorem qsd {m:FA}{r:Ev}{S:Sto}{Q:Itm×Sto->Prop}:W (iR1 m r S) Q↔W (m r S) fun p=>rW1 p Q:=by
 unfold iR1;rw [qal];constructor
 ·refine fun h=>h.mono fun p q=>?_;unfold rW1;split at q
  ·rename_i j e
   try rw [e]
   rw [qh7] at q;split at q
   ·rename_i hc;exact ⟨by unfold bnd;rw [bA1,decide_eq_true_eq,decide_eq_true_eq];exact hc,qat.mp q⟩
   ·exact (qef.mp q).elim
  ·exact (qef.mp q).elim
 ·refine fun h=>h.mono fun p q=>?_;unfold rW1 at q;split at q
  ·rename_i j e;obtain ⟨q1,q2⟩:=q;unfold bnd at q1;rw [bA1,decide_eq_true_eq,decide_eq_true_eq] at q1
   try rw [e]
   try dsimp only
   rw [if_pos q1];exact qat.mpr q2
  ·exact q.elim
theorem qsc {m:FA}{r:Ev}{S:Sto}{Q:Itm×Sto->Prop}:W (iR2 m r S) Q↔W (m r S) fun p=>rW2 p Q:=by
 unfold iR2;rw [qal];constructor
 ·refine fun h=>h.mono fun p q=>?_;unfold rW2;split at q
  ·rename_i i j e
   try rw [e]
   rw [qh7] at q;split at q
   ·rename_i hc;refine ⟨?_,?_,qat.mp q⟩
    ·unfold bnd;rw [bA1,decide_eq_true_eq,decide_eq_true_eq];exact ⟨hc.1,hc.2.1⟩
    ·unfold bnd;rw [bA1,decide_eq_true_eq,decide_eq_true_eq];exact hc.2.2
   ·exact (qef.mp q).elim
  ·exact (qef.mp q).elim
 ·refine fun h=>h.mono fun p q=>?_;unfold rW2 at q;split at q
  ·rename_i i j e;obtain ⟨q1,q3,q2⟩:=q;unfold bnd at q1 q3;rw [bA1,decide_eq_true_eq,decide_eq_true_eq] at q1 q3
   try rw [e]
   try dsimp only
   rw [if_pos ⟨q1.1,q1.2,q3⟩];exact qat.mpr q2
  ·exact q.elim
noncomputable def fits (n:Nat):Bool:=decide (n<=sizeLine)
theorem qah {n:Nat}(h:n<=100000):fits n=true:=by unfold fits;rw [decide_eq_true_eq];exact Nat.le_trans h (by decide)
theorem qhs {n:Nat}:fits n=true↔n<=sizeLine:=by unfold fits;rw [decide_eq_true_eq]
theorem ft0:fits 0=true:=qah (by decide)
theorem ft1:fits 1=true:=qah (by decide)
theorem ft2:fits 2=true:=qah (by decide)
theorem ft3:fits 3=true:=qah (by decide)
theorem ft4:fits 4=true:=qah (by decide)
theorem ft5:fits 5=true:=qah (by decide)
theorem ft6:fits 6=true:=qah (by decide)
theorem ft7:fits 7=true:=qah (by decide)
theorem ft8:fits 8=true:=qah (by decide)
theorem qdu {α:Type}{n:Nat}{o:Option α}{Q:α->Prop}:W (if n<=sizeLine then o else none) Q↔fits n=true/\W o Q:=by
 rw [qhs,qh7];split
 ·rename_i h;exact ⟨fun q=>⟨h,q⟩,fun q=>q.2⟩
 ·rename_i h;exact ⟨fun q=>(qef.mp q).elim,fun q=>absurd q.1 h⟩
theorem ql9 {a:FA}{r:Ev}{S:Sto}{Q:D×Sto->Prop}:W (mTup a r S) Q↔W (a r S) fun p=>fits p.1.length=true/\Q (.tup p.1,p.2):=by
 unfold mTup;rw [qal];exact ⟨fun h=>h.mono fun p q=>(qdu.mp q).imp_right qat.mp,fun h=>h.mono fun p q=>qdu.mpr (q.imp_right qat.mpr)⟩
theorem qqE {a:FA}{r:Ev}{S:Sto}{Q:D×Sto->Prop}:W (mLst a r S) Q↔W (a r S) fun p=>fits p.1.length=true/\Q (.ref p.2.length,p.2++[.lst p.1]):=by
 unfold mLst;rw [qal];exact ⟨fun h=>h.mono fun p q=>(qdu.mp q).imp_right qat.mp,fun h=>h.mono fun p q=>qdu.mpr (q.imp_right qat.mpr)⟩
theorem qoa {k:Nat}{keep:List Nat}{m:FI}{g:FG}{t:FT}{b:FV}{r:Ev}{S:Sto}{Q:D×Sto->Prop}:W (qa9 k keep m g t b r S) Q↔W (m r S) fun p=>W (qbP p.1.chk g t b p.1.items (inEv k keep r) p.2) fun q=>fits q.1.length=true/\Q (.ref q.2.2.length,q.2.2++[.lst q.1]):=by
 unfold qa9;rw [qal];refine ⟨fun h=>h.mono fun p q=>?_,fun h=>h.mono fun p q=>?_⟩
 ·rw [qal] at q;exact q.mono fun z w=>(qdu.mp w).imp_right qat.mp
 ·rw [qal];exact q.mono fun z w=>qdu.mpr (w.imp_right qat.mpr)
theorem qqP {xs ys:List D}{S:Sto}{Q:D×Sto->Prop}:W (gAdd (.tup xs) (.tup ys) S) Q↔fits (xs.length+ys.length)=true/\Q (.tup (xs++ys),S):=
 ⟨fun q=>(qdu.mp q).imp_right qat.mp,fun q=>qdu.mpr (q.imp_right qat.mpr)⟩
theorem qqQ {x y:Int}{S:Sto}{Q:D×Sto->Prop}:W (gAdd (.int x) (.int y) S) Q↔Q (.int (x+y),S):=qat
theorem qgO {n:Nat}{v:D}{xs:List D}{S:Sto}{Q:D×Sto->Prop}(h:S[n]? = some (.lst xs)):W (gApp (.ref n) v S) Q↔fits (xs.length+1)=true/\Q (.non,S.set n (.lst (xs++[v]))):=by
 rw [gApp];simp only [h];rw [qh7,qhs];split
 ·rename_i hl;exact ⟨fun q=>⟨hl,qat.mp q⟩,fun q=>qat.mpr q.2⟩
 ·rename_i hl;exact ⟨fun q=>(qef.mp q).elim,fun q=>absurd q.1 hl⟩
theorem ql8 {n:Nat}{k:Nat}{xs:List D}{S:Sto}{Q:D×Sto->Prop}(h:S[n]? = some (.lst xs))(hk:k<=1000)(hx:xs.length<=1000)(q:Q (.ref S.length,S++[.lst (List.replicate k xs).flatten])):W (qh0 (.ref n) (.int k) S) Q:=by
 rw [qh0];simp only [h];have hm:xs.length*k<=sizeLine:=Nat.le_trans (Nat.mul_le_mul hx hk) (by decide);rw [if_pos ⟨by lia,by lia,by rw [Int.toNat_natCast];exact hm⟩,qat,Int.toNat_natCast];exact q
theorem qfq {n:Nat}{i:Nat}{xs:List D}{x:D}{S:Sto}{Q:D×Sto->Prop}(h:S[n]? = some (.lst xs))(hx:xs[i]? = some x)(q:Q (x,S)):W (gIxY (.ref n) (.int i) S) Q:=by
 refine W.of (x:=(x,S)) ?_ q;have hl:=(gE1.mp hx).1;simp only [gIxY,gIxX,gIx,h,qao,atI,ixN,oS1,if_pos (show (0:Int)<=i by lia)];rw [if_pos (by lia)];simp [hx]
theorem qkb {i:Nat}{xs:List D}{x:D}{S:Sto}{Q:D×Sto->Prop}(hx:xs[i]? = some x)(q:Q (x,S)):W (gIxY (.tup xs) (.int i) S) Q:=by
 refine W.of (x:=(x,S)) ?_ q;have hl:=(gE1.mp hx).1;simp only [gIxY,gIxX,gIx,qao,atI,ixN,oS1,if_pos (show (0:Int)<=i by lia)];rw [if_pos (by lia)];simp [hx]
theorem ql7 {n:Nat}{i:Nat}{xs:List D}{v:D}{S:Sto}{Q:D×Sto->Prop}(h:S[n]? = some (.lst xs))(hx:i<xs.length)(q:Q (.non,S.set n (.lst (xs.set i v)))):W (qbR (.ref n) (.int i) v S) Q:=by
 refine W.of (x:=(.non,S.set n (.lst (xs.set i v)))) ?_ q;simp only [qbR,qfa,qdl,h,ixN,if_pos (show (0:Int)<=i by lia)];rw [if_pos (by lia)];simp
theorem rp0:List.replicate 0 (none:Option D)=[]:=rfl
theorem rp1:List.replicate 1 (none:Option D)=[none]:=rfl
theorem rp2:List.replicate 2 (none:Option D)=[none,none]:=rfl
theorem rp3:List.replicate 3 (none:Option D)=[none,none,none]:=rfl
theorem rp4:List.replicate 4 (none:Option D)=[none,none,none,none]:=rfl
theorem rp5:List.replicate 5 (none:Option D)=[none,none,none,none,none]:=rfl
theorem rp6:List.replicate 6 (none:Option D)=[none,none,none,none,none,none]:=rfl
theorem rp7:List.replicate 7 (none:Option D)=[none,none,none,none,none,none,none]:=rfl
theorem rp8:List.replicate 8 (none:Option D)=[none,none,none,none,none,none,none,none]:=rfl
theorem rp9:List.replicate 9 (none:Option D)=[none,none,none,none,none,none,none,none,none]:=rfl
theorem rp10:List.replicate 10 (none:Option D)=[none,none,none,none,none,none,none,none,none,none]:=rfl
theorem rp11:List.replicate 11 (none:Option D)=[none,none,none,none,none,none,none,none,none,none,none]:=rfl
theorem rp12:List.replicate 12 (none:Option D)=[none,none,none,none,none,none,none,none,none,none,none,none]:=rfl
theorem rp13:List.replicate 13 (none:Option D)=[none,none,none,none,none,none,none,none,none,none,none,none,none]:=rfl
theorem rp14:List.replicate 14 (none:Option D)=[none,none,none,none,none,none,none,none,none,none,none,none,none,none]:=rfl
theorem rp15:List.replicate 15 (none:Option D)=[none,none,none,none,none,none,none,none,none,none,none,none,none,none,none]:=rfl
theorem rp16:List.replicate 16 (none:Option D)=[none,none,none,none,none,none,none,none,none,none,none,none,none,none,none,none]:=rfl
theorem rp17:List.replicate 17 (none:Option D)=[none,none,none,none,none,none,none,none,none,none,none,none,none,none,none,none,none]:=rfl
theorem rp18:List.replicate 18 (none:Option D)=[none,none,none,none,none,none,none,none,none,none,none,none,none,none,none,none,none,none]:=rfl
theorem rp19:List.replicate 19 (none:Option D)=[none,none,none,none,none,none,none,none,none,none,none,none,none,none,none,none,none,none,none]:=rfl
theorem rp20:List.replicate 20 (none:Option D)=[none,none,none,none,none,none,none,none,none,none,none,none,none,none,none,none,none,none,none,none]:=rfl
theorem qbZ {α:Type}{T G:List α}{k:Nat}:(T++G)[T.length+k]? = G[k]?:=by rw [gR1 (by lia)];congr 1;lia
theorem qaj {α:Type}{T G:List α}:(T++G)[T.length]? = G[0]?:=by rw [gR1 (by lia)];congr 1;lia
theorem qcI:∀ (n:Nat) (lo:Int),nums lo n=(List.range n).map fun i:Nat=>D.int (lo+i)
 | 0,lo=>rfl
 | n+1,lo=>by
  rw [nums,qcI n (lo+1),List.range_succ_eq_map,mP1,List.map_map]
  congr 1
  ·simp
  ·apply List.map_congr_left;intro i _;simp only [Function.comp_apply,Nat.succ_eq_add_one]
   congr 1
   push_cast
   lia
theorem qgu (n:Nat):nums 0 n=(List.range n).map fun i:Nat=>D.int i:=by
 rw [qcI];apply List.map_congr_left;intro i _;simp
theorem mapW {α:Type}{c:List (Nat×List D)}{g:FG}{t:FT}{e:FE}{S:Sto}{f:α->D}{Q:List D×Ev×Sto->Prop}(F:α->D)(P:Ev->Prop)(hok:okC S c=true):∀ (xs:List α) (r:Ev),P r ->
  (∀ a∈xs,∀ r,P r->W (g (f a) r S) fun p=>W (t p.1 p.2) fun b=>b.1=true/\W (e p.1 b.2) fun x=>x.1=F a/\x.2=S/\P p.1) ->
  (∀ r',P r'->Q (xs.map F,r',S))->W (qbP c g t (qaT e) (xs.map f) r S) Q
 | [],r,hr,_,h=>by rw [List.map_nil,qbP];dsimp only;rw [if_pos hok,qat];exact h r hr
 | a::xs,r,hr,hs,h=>by
  rw [mP1,qbP];dsimp only;rw [if_pos hok,qal];obtain ⟨p,e1,⟨b,e2,hb,⟨x,e3,hx,hS,hp⟩⟩⟩:=hs a mS1 r hr;refine ⟨p,e1,?_⟩;dsimp only;rw [qal];refine ⟨b,e2,?_⟩;dsimp only;rw [if_pos hb,qal,qaT,qfp];refine ⟨x,e3,?_⟩;dsimp only;rw [hS,qfp];refine mapW F P hok xs p.1 hp (fun a ha=>hs a (mC1 _ ha)) fun r' hr'=>?_;have:=h r' hr';rw [mP1,<- hx] at this;exact this
theorem qdg {α:Type}{c:List (Nat×List D)}{g:FG}{t:FT}{e:FE}{S:Sto}{f:α->D}{Q:List D×Ev×Sto->Prop}(k:α->Bool)(F:α->D)(P:Ev->Prop)(hok:okC S c=true):∀ (xs:List α) (r:Ev),P r ->
  (∀ a∈xs,∀ r,P r->W (g (f a) r S) fun p=>W (t p.1 p.2) fun b=>b.1=k a/\b.2=S/\P p.1/\(k a=true->W (e p.1 S) fun x=>x.1=F a/\x.2=S)) ->
  (∀ r',P r'->Q ((xs.filter k).map F,r',S))->W (qbP c g t (qaT e) (xs.map f) r S) Q
 | [],r,hr,_,h=>by rw [List.map_nil,qbP];dsimp only;rw [if_pos hok,qat];exact h r hr
 | a::xs,r,hr,hs,h=>by
  rw [mP1,qbP];dsimp only;rw [if_pos hok,qal];obtain ⟨p,e1,⟨b,e2,hb,hS,hp,hx⟩⟩:=hs a mS1 r hr;refine ⟨p,e1,?_⟩;dsimp only;rw [qal];refine ⟨b,e2,?_⟩;dsimp only;cases hk:k a with
  | true=>
   rw [hb,hk,if_pos rfl,qal,qaT,qfp,hS];obtain ⟨x,e3,hx,hS2⟩:=hx hk;refine ⟨x,e3,?_⟩;dsimp only;rw [hS2,qfp];refine qdg k F P hok xs p.1 hp (fun a ha=>hs a (mC1 _ ha)) fun r' hr'=>?_;have:=h r' hr';rw [List.filter_cons,hk,if_pos rfl,mP1,<- hx] at this;exact this
  | false=>
   rw [hb,hk,if_neg (by decide),hS];refine qdg k F P hok xs p.1 hp (fun a ha=>hs a (mC1 _ ha)) fun r' hr'=>?_;have:=h r' hr';rw [List.filter_cons,hk,if_neg (by decide)] at this;exact this
theorem qhC {α:Type}{f:α->Bool}:∀ xs:List α,Mi.allB (xs.map fun x=>D.bl (f x))=some (xs.all f)
 | []=>rfl
 | x::xs=>by rw [mP1,Mi.allB,qhC xs];rfl
mutual
theorem qlB {n m:Nat}(h:n<=m):∀ {d:D},d.und n=true->d.und m=true
 | .non,_=>rfl
 | .bl _,_=>rfl
 | .int _,_=>rfl
 | .str _,_=>rfl
 | .tup xs,q=>by rw [D.und] at q ⊢;exact qcC h q
 | .rol xs,q=>by rw [D.und] at q ⊢;exact qcC h q
 | .fn _,_=>rfl
 | .ref k,q=>by simp [D.und] at q ⊢;lia
theorem qcC {n m:Nat}(h:n<=m):∀ {ds:List D},D.unds n ds=true->D.unds m ds=true
 | [],_=>rfl
 | d::ds,q=>by
  rw [D.unds,bA1] at q ⊢;exact ⟨qlB h q.1,qcC h q.2⟩
end
theorem qeZ {n m:Nat}(h:n<=m):∀ {o:Ob},o.und n=true->o.und m=true
 | .lst xs,q=>by rw [Ob.und] at q ⊢;exact qcC h q
 | .dct xs,q=>by rw [Ob.und] at q ⊢;exact qcC h q
 | .dcT xs,q=>by rw [Ob.und] at q ⊢;exact qcC h q
 | .dcF xs,q=>by rw [Ob.und] at q ⊢;exact qcC h q
 | .iset _,_=>rfl
theorem qqF {n:Nat}{xs:List Int}{S:Sto}{Q:D×Sto->Prop}(h:S[n]? = some (.iset xs))(q:Q (.int xs.length,S)):W (qjx (.ref n) S) Q:=by
 refine W.of ?_ q;unfold qjx;simp only [h]
theorem unds_map {α:Type}{n:Nat}{f:α->D}:∀ {xs:List α},(∀ x∈xs,(f x).und n=true)->D.unds n (xs.map f)=true
 | [],_=>rfl
 | x::xs,h=>by rw [mP1,D.unds,h x mS1,unds_map fun y hy=>h y (mC1 _ hy)];rfl
theorem al1 {x:Nat}:x+1+1=x+2:=rfl
theorem al2 {x:Nat}:x+2+1=x+3:=rfl
theorem al3 {x:Nat}:x+3+1=x+4:=rfl
theorem al4 {x:Nat}:x+4+1=x+5:=rfl
theorem al5 {x:Nat}:x+5+1=x+6:=rfl
theorem al6 {x:Nat}:x+6+1=x+7:=rfl
theorem al7 {x:Nat}:x+1+2=x+3:=rfl
theorem len_tup {xs:List D}{S:Sto}:gLen (.tup xs) S=some (.int xs.length,S):=rfl
theorem qrH {xs:List D}{S:Sto}:gLen (.rol xs) S=some (.int xs.length,S):=rfl
theorem qqS {S:Sto}:gLen (.str "") S=some (.int 0,S):=rfl
theorem qdO {xs:List D}{S:Sto}:qao S (.tup xs)=some (false,xs):=rfl
theorem qq9 {xs:List D}{S:Sto}:qao S (.rol xs)=some (true,xs):=rfl
theorem qnV {xs:List D}{S:Sto}:qea S (.tup xs)=[]:=rfl
theorem qr0 {xs:List D}{S:Sto}:qea S (.rol xs)=[]:=rfl
theorem qc6 {n:Nat}{xs:List D}{S:Sto}(h:S[n]? = some (.lst xs)):qao S (.ref n)=some (true,xs):=by simp only [qao,h]
theorem qnW {n:Nat}{xs:List D}{S:Sto}(h:S[n]? = some (.lst xs)):qea S (.ref n)=[(n,xs)]:=by simp only [qea,h]
noncomputable def sW (S:Sto)(d:D)(Q:List D×List (Nat×List D)->Prop):Prop:=W (qao S d) fun q=>Q (q.2,qea S d)
theorem qfw {xs:List D}{S:Sto}{Q:List D×List (Nat×List D)->Prop}:sW S (.tup xs) Q↔Q (xs,[]):=qat
theorem qaw {n:Nat}{xs:List D}{S:Sto}{Q:List D×List (Nat×List D)->Prop}(h:S[n]? = some (.lst xs))(q:Q (xs,[(n,xs)])):sW S (.ref n) Q:=by
 unfold sW;rw [qc6 h,qnW h,qat];exact q
theorem qqL {m:FE}{r:Ev}{S:Sto}{Q:Itm×Sto->Prop}:W (iSeq m r S) Q↔W (m r S) fun p=>sW p.2 p.1 fun q=>Q (⟨q.1,q.2⟩,p.2):=by
 unfold iSeq;rw [qal];refine ⟨fun h=>h.mono fun p q=>?_,fun h=>h.mono fun p q=>?_⟩
 ·rw [qal] at q;exact q.mono fun z w=>qat.mp w
 ·rw [qal];exact W.mono (show W (qao p.2 p.1) _ from q) fun z w=>qat.mpr w
theorem qqM {d:D}{S:Sto}{Q:D×Sto->Prop}:W (Mi.gTup d S) Q↔sW S d fun q=>Q (.tup q.1,S):=by
 unfold Mi.gTup;rw [qfp];exact Iff.rfl
theorem qsb {n:Nat}{S:Sto}{Q:D×Sto->Prop}:W (gLen (.ref n) S) Q↔sW S (.ref n) fun q=>Q (.int q.1.length,S):=by
 unfold gLen sW;rw [qfp]
noncomputable def pD (e:Nat×Nat):D:=.tup [.int e.1,.int e.2]
theorem ql0 {S:Sto}{n:Nat}{a b:Nat×Nat}:eqN S (n+2) (pD a) (pD b)=some (a == b):=by
 obtain ⟨a1,a2⟩:=a;obtain ⟨b1,b2⟩:=b;rw [eqN];have e1:∀ x y:Nat,eqN S (n+1) (.int x) (.int y)=some ((x:Int) == (y:Int)):=fun x y=>rfl;have e2:∀ x y:Nat,((x:Int) == (y:Int))=(x == y):=fun x y=>by
  rw [Bool.eq_iff_iff,beq_iff_eq,beq_iff_eq];lia
 simp [pD,qao,eqL,e1,e2];rfl
theorem qjD {S:Sto}{n:Nat}{e:Nat×Nat}:∀ row:List (Nat×Nat),eqsL (eqN S (n+2)) (pD e) (row.map pD)=some (row.map fun a=>a == e)
 | []=>rfl
 | a::row=>by rw [mP1,eqsL,ql0,qjD row];rfl
theorem qqH {S:Sto}{n j:Nat}{row:List (Nat×Nat)}{e:Nat×Nat}{Q:D×Sto->Prop}(h:S[n]? = some (.lst (row.map pD)))(hl:row.length<1000)(hj:row.findIdx? (· == e)=some j)(q:Q (.int j,S)):W (gIdx (.ref n) (pD e) S) Q:=by
 refine W.of ?_ q;unfold gIdx qaC;simp only [h,show (60:Nat)=58+2 from rfl,qjD,oS1,lM1];rw [if_pos (by lia),List.findIdx?_map];simp [Function.comp_def,hj]
theorem qeg {f:FN}{o:FE}{a:FA}{r:Ev}{S:Sto}{Q:D×Sto->Prop}(h:W (o r S) fun p=>∃ n xs,p.1 = .ref n/\p.2[n]? = some (.lst xs)/\W (a r p.2) fun q=>W (f (.ref n::q.1) q.2) Q):W (mMt f o a r S) Q:=by
 unfold mMt;rw [qal];refine h.mono ?_;rintro ⟨d,S1⟩ ⟨n,xs,rfl,e,q⟩;dsimp only at e q ⊢;rw [e];dsimp only;rw [qal];exact q
noncomputable def qda (row:List (Nat×Nat)):Ob:=.lst (row.map pD)
theorem qcV {n:Nat}{row:List (Nat×Nat)}:(qda row).und n=true:=by
 unfold qda;rw [Ob.und];exact unds_map fun _ _=>rfl
theorem qgk:∀ {k n i:Nat},i<k->(refs n k)[i]? = some (.ref (n+i))
 | k+1,n,0,_=>rfl
 | k+1,n,i+1,h=>by rw [refs,gC1,qgk (Nat.lt_of_succ_lt_succ h),show n+1+i=n+(i+1) by lia]
theorem qdE:∀ k n:Nat,(refs n k).length=k
 | 0,_=>rfl
 | k+1,n=>by rw [refs,lC1,qdE]
noncomputable def tot (E:List (List (Nat×Nat))):Nat:=(E.map List.length).sum
theorem qlD:∀ {E:List (List (Nat×Nat))} {k:Nat},k<=E.length->(∀ i row,i<k->E[i]? = some row->4<=row.length)->4*k<=tot E
 | E,0,_,_=>by lia
 | [],k+1,h,_=>by simp at h
 | a::E,k+1,h,q=>by
  have h1:=q 0 a (by lia) rfl;have h2:=qlD (E:=E) (k:=k) (by simpa using h) fun i row hi hr=>q (i+1) row (by lia) (by simpa using hr);simp [tot] at h2 ⊢;lia
noncomputable def nmD (rs:List Nat):List D:=rs.map fun i:Nat=>D.int i
theorem qi1 (rs:List Nat):D.unds 0 (nmD rs)=true:=unds_map fun _ _=>rfl
theorem qhc {κ:Type}[DecidableEq κ]{k:κ}:qap ([]:List (κ×D)) k=none:=rfl
theorem qa6 {κ:Type}[DecidableEq κ]{k a:κ}{d:D}{r:List (κ×D)}:qap ((a,d)::r) k=if a=k then some d else qap r k:=by
 unfold qap;rw [List.find?_cons];by_cases h:a=k
 ·simp [h]
 ·simp [h]
theorem qhd {κ:Type}[DecidableEq κ]{k:κ}{b:List (κ×D)}:∀ {a:List (κ×D)},qap (a++b) k=(qap a k).or (qap b k)
 | []=>rfl
 | (x,d)::a=>by
  rw [List.cons_append,qa6,qa6,qhd (a:=a)];split<;>rfl
theorem qfK {κ:Type}[DecidableEq κ]{k:κ}:∀ {a:List (κ×D)},(a.any fun p=>decide (p.1=k))=false->qap a k=none
 | [],_=>rfl
 | (x,d)::a,h=>by
  simp only [List.any_cons,Bool.or_eq_false_iff,decide_eq_false_iff_not] at h;rw [qa6,if_neg h.1];exact qfK h.2
theorem qdY {κ:Type}[DecidableEq κ]{k k':κ}{v:D}:∀ {a:List (κ×D)},(a.any fun p=>decide (p.1=k))=true->qap (a.map fun p=>if p.1=k then (p.1,v) else p) k'=if k'=k then some v else qap a k'
 | [],h=>by simp at h
 | (x,d)::a,h=>by
  rw [mP1];by_cases hx:x=k
  ·subst hx;rw [if_pos (show (x,d).1=x from rfl)];rw [qa6,qa6];by_cases hk:k'=x
   ·subst hk;simp
   ·rw [if_neg (Ne.symm hk),if_neg (Ne.symm hk),if_neg hk];by_cases ha:(a.any fun p=>decide (p.1=x))=true
    ·rw [qdY ha,if_neg hk]
    ·have:(a.map fun p=>if p.1=x then (p.1,v) else p)=a:=by
      have ha':(a.any fun p=>decide (p.1=x))=false:=Bool.eq_false_iff.mpr ha;rw [List.any_eq_false] at ha'
      conv=>rhs;rw [<- List.map_id a]
      apply List.map_congr_left;intro p hp;have:=ha' p hp;simp at this;simp [this]
     rw [this]
  ·simp only [List.any_cons,decide_eq_false hx,Bool.false_or] at h;rw [if_neg (show ¬ (x,d).1=k from hx)];rw [qa6,qa6,qdY h];by_cases hxk:x=k'
   ·subst hxk;simp [hx]
   ·simp [hxk]
theorem qdI {κ:Type}[DecidableEq κ]{k k':κ}{v:D}{a:List (κ×D)}:qap (putD a k v) k'=if k'=k then some v else qap a k':=by
 unfold putD;split
 ·rename_i h;exact qdY h
 ·rename_i h;have h':(a.any fun p=>decide (p.1=k))=false:=Bool.eq_false_iff.mpr h;rw [qhd,qa6,qhc];by_cases hk:k'=k
  ·subst hk;rw [qfK h',if_pos rfl];rfl
  ·rw [if_neg (Ne.symm hk),if_neg hk];cases qap a k'<;>rfl
theorem qiK {κ:Type}[DecidableEq κ]{k:κ}{v:D}{a:List (κ×D)}:(putD a k v).length<=a.length+1:=by
 unfold putD;split
 ·rw [lM1];lia
 ·rw [lA1];simp
theorem qoM {κ:Type}[DecidableEq κ]{k:κ}{v:D}{a:List (κ×D)}:putD a k v≠[]:=by
 unfold putD;split
 ·rename_i h;intro z;cases a with
  | nil=>simp at h
  | cons x xs=>simp at z
 ·simp
noncomputable def dO (F:List (TK×D)):Ob:=if F=[] then .dct [] else .dcT F
theorem qhE {U:Sto}{n:Nat}{F:List (TK×D)}{key v:D}{k:TK}{Q:D×Sto->Prop}(h:U[n]? = some (dO F))(hk:keyT key=some k)(hl:F.length<1000)(q:Q (.non,U.set n (dO (putD F k v)))):W (qbR (.ref n) key v U) Q:=by
 refine W.of ?_ q;unfold dO at h ⊢;rw [if_neg qoM];by_cases hF:F=[]
 ·subst hF;rw [if_pos rfl] at h;simp only [qbR,h,hk];rfl
 ·rw [if_neg hF] at h;simp only [qbR,h,hk,oS1];rw [if_pos (nL1 hl (by decide))]
theorem qkc {U:Sto}{n:Nat}{F:List (TK×D)}{key v:D}{k:TK}{Q:D×Sto->Prop}(h:U[n]? = some (dO F))(hk:keyT key=some k)(hv:qap F k=some v)(q:Q (v,U)):W (gIxY (.ref n) key U) Q:=by
 refine W.of ?_ q;unfold dO at h;by_cases hF:F=[]
 ·subst hF;cases hv
 ·rw [if_neg hF] at h;simp only [gIxY,h,hk,oS1,hv,oP1]
noncomputable def tkP (e:Nat×Nat):TK:=.tup [.int e.1,.int e.2]
theorem tkP_inj {a b:Nat×Nat}(h:tkP a=tkP b):a=b:=by
 obtain ⟨a1,a2⟩:=a;obtain ⟨b1,b2⟩:=b;simp [tkP] at h
 ext<;>simp<;>lia
theorem qbX {e:Nat×Nat}:keyT (pD e)=some (tkP e):=rfl
theorem qqC {U:Sto}{n i:Nat}{xs:List D}{x:D}{Q:D×Sto->Prop}(h:U[n]? = some (.lst xs))(hx:xs[i]? = some x)(hb:i<1000)(q:Q (x,U.set n (.lst (xs.eraseIdx i)))):W (gPop (.ref n) (.int i) U) Q:=by
 have hl:=(gE1.mp hx).1;refine W.of ?_ q;simp only [gPop,h];rw [if_pos ⟨by lia,by lia⟩];simp only [ixN,if_pos (show (0:Int)<=i by lia)];rw [if_pos (by lia)];simp [hx]
theorem qqc {d:D}{S G:Sto}(hd:d.und 0=true)(hS:S.all (Ob.und S.length)=true):gc S.length (d,S++G)=(d,S):=by
 unfold gc;dsimp only;rw [List.take_left,if_pos (by rw [qcQ hd,hS];rfl)]
theorem qqN {m:FA}{r:Ev}{S:Sto}{xs:List D}{Q:Itm×Sto->Prop}(hm:m r S=some ([.tup xs],S))(q:Q (⟨enD 0 xs,[]⟩,S)):W (iEn m r S) Q:=by
 refine W.of (x:=(⟨enD 0 xs,[]⟩,S)) ?_ q;simp only [iEn,hm,oS1,qdO,qnV]
mutual
theorem qlK {n:Nat}:∀ {d:D},d.und 0=true->d.sh n=d
 | .non,_=>rfl
 | .bl _,_=>rfl
 | .int _,_=>rfl
 | .str _,_=>rfl
 | .tup xs,h=>by rw [D.und] at h;rw [D.sh,qeL h]
 | .rol xs,h=>by rw [D.und] at h;rw [D.sh,qeL h]
 | .fn _,_=>rfl
 | .ref k,h=>by simp [D.und] at h
theorem qeL {n:Nat}:∀ {ds:List D},D.unds 0 ds=true->D.shs n ds=ds
 | [],_=>rfl
 | d::ds,h=>by
  rw [D.unds,bA1] at h;rw [D.shs,qlK h.1,qeL h.2]
end
end Mi
end
local macro_rules | `(tactic| walk_at "own wq") => `(tactic| simp only [Mi.qat, Mi.qef, Mi.ite_and', Mi.qal, Mi.qfp, Mi.qh7, Mi.mSeq, Mi.mAsg, Mi.mIfS, Mi.mRet, Mi.qdc, Mi.mNx, Mi.mN, Mi.qaa, Mi.mNil, Mi.m2, Mi.m1, Mi.mV, Mi.mC, Mi.ql9, Mi.qqE, Mi.mB, Mi.mAnd, Mi.mOr, Mi.mNot, Mi.qjb, Mi.qk3, Mi.mIf, Mi.qbl, Mi.mTr, Mi.qop, Mi.gN, Mi.gT, Mi.gCs, Mi.gNl, Mi.gS, Mi.b1, Mi.b2, Mi.b3, Mi.fnB, Mi.qdN, Mi.qoa, Mi.qsd, Mi.qsc, Mi.rW1, Mi.rW2, Mi.mFor, Mi.inEv, Mi.qqP, Mi.qqQ, Mi.gSub, Mi.gCmp, Mi.gInt, Mi.qnL, Mi.qnI, Mi.qnJ, Mi.ft0, Mi.ft1, Mi.ft2, Mi.ft3, Mi.ft5, Mi.ft6, Mi.ft7, true_and, Mi.qbZ, Mi.qaj, List.append_assoc, lA1, List.getElem?_cons_zero, gC1, List.getElem?_nil, List.set_cons_zero, List.set_cons_succ, lC1, List.length_nil, mP1, List.map_nil, Mi.rp0, Mi.rp1, Mi.rp2, Mi.rp4, Mi.rp6, Mi.rp7, Mi.rp10, Mi.rp12, List.nil_append, List.cons_append, List.append_nil, Nat.reduceAdd, Nat.reduceSub, Option.join_some, Option.join_none, oP1, Option.map_none, oS1, Option.bind_none, if_true, if_false, bF1, Bool.not_true, Bool.not_false, ite_true, ite_false, reduceIte, decide_true, decide_false, Mi.al1, Mi.al7, Mi.len_tup, Mi.qdO, Mi.qqL, Mi.qqM, Mi.qsb])
local macro_rules | `(tactic| walk_at "own wv") => `(tactic| simp -implicitDefEqProofs only [Mi.qat, true_and, Mi.mV, Mi.mNx, Mi.mNil, Mi.mN, Mi.mIfS, Mi.qaa, Mi.mB, Mi.mAsg, Mi.m2, Mi.gS, Mi.ft2, Mi.b3, Mi.b2, Mi.al1, Mi.ql9, Mi.qh7, Mi.qal, oS1, Nat.reduceAdd, List.length_nil, lC1, List.getElem?_cons_zero, gC1])
section
namespace Law
open PySem PySem.Spec PyProof.Rows L2 Mi
noncomputable def top (i:Nat):Stmt:=PySem.Challenge.pw_ringmeet_k11_what_is_a_colouring.main.body.getD i (.Pass ⟨0,0,0,0⟩)
structure Blt (mg:Str->Option Value):Prop where
 z_abs:mg "abs"=none
 z_all:mg "all"=none
 z_bool:mg "bool"=none
 z_enumerate:mg "enumerate"=none
 z_int:mg "int"=none
 z_isinstance:mg "isinstance"=none
 z_len:mg "len"=none
 z_list:mg "list"=none
 z_min:mg "min"=none
 z_range:mg "range"=none
 z_set:mg "set"=none
 z_sorted:mg "sorted"=none
 z_str:mg "str"=none
 z_tuple:mg "tuple"=none
 z_zip:mg "zip"=none
section
variable {P:Program} {w:World} {K:Fg1} {mg:Str->Option Value} {base h:Heap}
noncomputable abbrev qc7:Stmt:=top 1
noncomputable def qeC:FS:=(mRet (qjb (mIsT .int (mV 0)) (qk3 (mIsT .bool (mV 0)))))
noncomputable def qa0:FN:=fnB 1 qeC
theorem qgh:qas ["thing"] ["thing"] (qae qc7):=⟨rfl,rfl,rfl,by decide+kernel,rfl,by decide+kernel,by decide+kernel⟩
theorem qgr (X:K.In h)(G:h.Ns mainGlobals mg){f:Addr}(F:FnAt K "is_whole" qc7 f)(B:Blt mg):
  Own P w K mg base 1 "is_whole" 1 qa0:=xo X G F qgh (fun _ _ _ _ _ _ us hl=>ln1 hl fun _=>rfl) fun _ _ _ _ _ _ _ hr=>
 (qG (qU (qih (qcn .int rfl B.z_isinstance rfl B.z_int (by decide+kernel) (xmv 0)) (qif (qmg (qcn .bool rfl B.z_isinstance rfl B.z_bool (by decide+kernel) (xmv 0)))))))
noncomputable abbrev qbT:Stmt:=top 2
noncomputable def qb2:FS:=(mRet (qjb (mIsT .tuple (mV 0)) (m2 (b2 gEq) (mN (b1 gLen) (qaa (mV 0) mNil)) (mV 1))))
noncomputable def qaG:FN:=fnB 2 qb2
theorem qei:qas ["thing","many"] ["thing","many"] (qae qbT):=⟨rfl,rfl,rfl,by decide+kernel,rfl,by decide+kernel,by decide+kernel⟩
theorem qek (X:K.In h)(G:h.Ns mainGlobals mg){f:Addr}(F:FnAt K "is_tuple_of" qbT f)(B:Blt mg):
  Own P w K mg base 1 "is_tuple_of" 2 qaG:=xo X G F qei (fun _ _ _ _ _ _ us hl=>ln2 hl fun _ _=>rfl) fun _ _ _ _ _ _ _ hr=>
 (qG (qU (qih (qcn .tuple rfl B.z_isinstance rfl B.z_tuple (by decide+kernel) (xmv 0)) (qif (ce (o_eq hr.units) (cb qa8 B.z_len (qA (xmv 0) qN)) (xmv 1))))))
noncomputable abbrev qgi:Stmt:=top 5
noncomputable def qfD:FS:=(mSeq (mAsg (mN (b1 gTup) (qaa (qa9 2 [2] (iSeq (mV 5)) (gT 2 (gCs (gN 0) (gCs (gN 1) gNl))) qbl (qaT (mTup (qaa (m2 (b2 gIxY) (mV 2) (mV 0)) (qaa (mV 1) mNil))))) mNil)) (gN 6))
  (qdc (mMt (b2 gApp) (mV 3) (qaa (mTup (qaa (m2 (b2 gIxY) (mV 2) (mV 4)) (qaa (m2 (b2 gIxY) (mV 1) (mV 4)) (qaa (mV 6) mNil)))) mNil))))
noncomputable def qj6:FS:=(mSeq (mAsg (mLst mNil) (gN 3))
  (mSeq (mFor (iEn (qaa (mV 0) mNil)) (gT 2 (gCs (gN 4) (gCs (gN 5) gNl))) qfD)
  (mRet (mV 3))))
noncomputable def qdX:FN:=fnB 7 qj6
theorem qcT:qas ["web","signs","colours","found","room","doors","led_to"] ["web","signs","colours"] (qae qgi):=⟨rfl,rfl,rfl,by decide+kernel,rfl,by decide+kernel,by decide+kernel⟩
theorem qkQ (X:K.In h)(G:h.Ns mainGlobals mg){f:Addr}(F:FnAt K "looks" qgi f)(B:Blt mg):
  Own P w K mg base 1 "looks" 3 qdX:=xo X G F qcT (fun _ _ _ _ _ _ us hl=>ln3 hl fun _ _ _=>rfl) fun _ _ _ _ _ _ _ hr=>
 (qF (sn 3 qcT.nd (qaK qN))
  (qF (qW PassesOwn.never rfl (qbv rfl B.z_enumerate (qA (xmv 0) qN)) (qaH rfl (qac (gn 4 qcT.nd) (qac (gn 5 qcT.nd) qax))) (qF (sn 6 qcT.nd (cy qb1 B.z_tuple (qA (qZ rfl (T:=["there","back"]) (keep:=[2]) ⟨rfl,by decide+kernel,(kc "colours" (List.forall_mem_nil _))⟩ rfl (qd (xmv 5)) (fun _ _ _=>⟨(qaH rfl (qac (qO 0 (show List.Nodup (["there","back","colours"]:List Str) by decide+kernel) rfl (by first|exact Or.inl rfl|exact Or.inr rfl)) (qac (qO 1 (show List.Nodup (["there","back","colours"]:List Str) by decide+kernel) rfl (by first|exact Or.inl rfl|exact Or.inr rfl)) qax))),qaI,(qaq (qA (jx hr (xmv 2) (xmv 0)) (qA (xmv 1) qN)))⟩)) qN)))
  (qG (qbu (qe PySem.F.slot_list_append PySem.F.type_list_append qgd (xmv 3) (qA (qaq (qA (jx hr (xmv 2) (xmv 4)) (qA (jx hr (xmv 1) (xmv 4)) (qA (xmv 6) qN)))) qN))))))
  (qG (qU (xmv 3)))))
noncomputable abbrev qcG:Stmt:=top 7
noncomputable def qcX:FS:=(mSeq (mAsg (m2 (b2 gMod) (m2 (b2 gAdd) (m2 (b2 gAdd) (m2 (b2 gMul) (mV 1) (mC (D.int (1000003)))) (m2 (b2 gMod) (mV 4) (m2 (b2 gPow) (mC (D.int (10))) (mC (D.int (30)))))) (m2 (b2 gMul) (mC (D.int (31))) (mV 3))) (mC (D.int (2305843009213693951)))) (gN 1))
  (mIfS (mB (m2 (b2 (gCmp fun i j=>decide (j<=i))) (mN (b1 gAbs) (qaa (mV 4) mNil)) (m2 (b2 gPow) (mC (D.int (10))) (mC (D.int (18)))))) (qdc (mMt (b2 gApp) (mV 2) (qaa (m2 (b2 gMod) (mN (b1 gAbs) (qaa (mV 4) mNil)) (m2 (b2 gMul) (m2 (b2 gPow) (mC (D.int (10))) (mC (D.int (60)))) (m2 (b2 gPow) (mC (D.int (10))) (mC (D.int (30)))))) mNil))) mNx))
noncomputable def qee:FS:=(mSeq (mAsg (mTup (qaa (m2 (b2 gAdd) (mN (b1 gLen) (qaa (mV 0) mNil)) (mC (D.int (7)))) (qaa (mLst mNil) mNil))) (gT 2 (gCs (gN 1) (gCs (gN 2) gNl))))
  (mSeq (mFor (iEn (qaa (mSlX (mV 0) qe4 (qe3 (mC (D.int (63))))) mNil)) (gT 2 (gCs (gN 3) (gCs (gN 4) gNl))) qcX)
  (mRet (mLst (qaa (mV 2) (qaa (mV 1) (qaa (mC (D.int (0))) mNil)))))))
noncomputable def qbb:FN:=fnB 5 qee
theorem qbg:qas ["_law_script","_law_seed","_law_own","_law_k","_law_cell"] ["_law_script"] (qae qcG):=⟨rfl,rfl,rfl,by decide+kernel,rfl,by decide+kernel,by decide+kernel⟩
theorem qfG (X:K.In h)(G:h.Ns mainGlobals mg){f:Addr}(F:FnAt K "_law_hand" qcG f)(B:Blt mg):
  Own P w K mg base 1 "_law_hand" 1 qbb:=xo X G F qbg (fun _ _ _ _ _ _ us hl=>ln1 hl fun _=>rfl) fun _ _ _ _ _ _ _ hr=>
 (qF (qic 1 2 rfl qbg.nd rfl rfl (by decide) rfl rfl (qA (qI qbr (cb qa8 B.z_len (qA (xmv 0) qN)) qK) (qA (qaK qN) qN)))
  (qF (qW PassesOwn.never rfl (qbv rfl B.z_enumerate (qA (qbK (xmv 0) qcN (qcM qK)) qN)) (qaH rfl (qac (gn 3 qbg.nd) (qac (gn 4 qbg.nd) qax))) (qF (sn 1 qbg.nd (qI qeo (qI qbr (qI qbr (qI qe2 (xmv 1) qK) (qI qeo (xmv 4) (qI qe0 qK qK))) (qI qe2 qK (xmv 3))) qK))
  (qG (qV (ct o_ge (cb qqw B.z_abs (qA (xmv 4) qN)) (qI qe0 qK qK)) (qG (qbu (qe PySem.F.slot_list_append PySem.F.type_list_append qgd (xmv 2) (qA (qI qeo (cb qqw B.z_abs (qA (xmv 4) qN)) (qI qe2 (qI qe0 qK qK) (qI qe0 qK qK))) qN)))) qQ))))
  (qG (qU (qaK (qA (xmv 2) (qA (xmv 1) (qA qK qN))))))))
noncomputable abbrev qcE:Stmt:=top 8
noncomputable def qa3:FT:=(mAnd (mB (m2 (b2 gNe) (m2 (b2 gIxY) (mV 0) (mC (D.int (0)))) (mLst mNil))) (mB (m2 (b2 gEq) (m2 (b2 gIxY) (m2 (b2 gIxY) (mV 0) (mC (D.int (0)))) (mC (D.int (0)))) (mC (D.int (0))))))
noncomputable def qbk:FS:=(qdc (mMt (b2 gPop) (m2 (b2 gIxY) (mV 0) (mC (D.int (0)))) (qaa (mC (D.int (0))) mNil)))
noncomputable def qcL:FS:=(mSeq (whl qa3 qbk 100000)
  (mSeq (mIfS (mB (m2 (b2 gNe) (m2 (b2 gIxY) (mV 0) (mC (D.int (0)))) (mLst mNil))) (mSeq (mAsg (m2 (b2 gMod) (m2 (b2 gIxY) (m2 (b2 gIxY) (mV 0) (mC (D.int (0)))) (mC (D.int (0)))) (mV 1)) (gN 2))
  (mSeq (mAsg (m2 (b2 gDiv) (m2 (b2 gIxY) (m2 (b2 gIxY) (mV 0) (mC (D.int (0)))) (mC (D.int (0)))) (mV 1)) (gS (b3 qbR) (m2 (b2 gIxY) (mV 0) (mC (D.int (0)))) (mC (D.int (0)))))
  (mRet (mV 2)))) mNx)
  (mSeq (mAsg (m2 (b2 gAdd) (m2 (b2 gIxY) (mV 0) (mC (D.int (2)))) (mC (D.int (1)))) (gS (b3 qbR) (mV 0) (mC (D.int (2)))))
  (mSeq (mAsg (m2 (b2 gMod) (m2 (b2 gMul) (m2 (b2 gAdd) (m2 (b2 gAdd) (m2 (b2 gIxY) (mV 0) (mC (D.int (1)))) (m2 (b2 gMul) (m2 (b2 gMul) (mC (D.int (65537))) (m2 (b2 gIxY) (mV 0) (mC (D.int (2))))) (m2 (b2 gIxY) (mV 0) (mC (D.int (2)))))) (mC (D.int (11)))) (mC (D.int (48271)))) (mC (D.int (2305843009213693921)))) (gN 3))
  (mSeq (mAsg (m2 (b2 gMod) (m2 (b2 gMul) (mV 3) (m2 (b2 gAdd) (m2 (b2 gMod) (mV 3) (mC (D.int (1000003)))) (m2 (b2 gMul) (mC (D.int (99991))) (m2 (b2 gIxY) (mV 0) (mC (D.int (2))))))) (mC (D.int (2305843009213693907)))) (gN 3))
  (mRet (m2 (b2 gMod) (m2 (b2 gAdd) (m2 (b2 gDiv) (mV 3) (mC (D.int (97)))) (m2 (b2 gDiv) (mV 3) (mC (D.int (1000033))))) (mV 1))))))))
noncomputable def qab:FN:=fnB 4 qcL
theorem qbw:qas ["_law_hand_here","_law_many","_law_digit","_law_mixed"] ["_law_hand_here","_law_many"] (qae qcE):=⟨rfl,rfl,rfl,by decide+kernel,rfl,by decide+kernel,by decide+kernel⟩
theorem qfE (X:K.In h)(G:h.Ns mainGlobals mg){f:Addr}(F:FnAt K "_law_take" qcE f)(B:Blt mg):
  Own P w K mg base 1 "_law_take" 2 qab:=xo X G F qbw (fun _ _ _ _ _ _ us hl=>ln2 hl fun _ _=>rfl) fun _ _ _ _ _ _ _ hr=>
 (qF (qdM 100000 PassesOwn.never (qft (qme (ct (o_ne hr.units) (jx hr (xmv 0) qK) (qaK qN)) (qkg (ct (o_eq hr.units) (jx hr (jx hr (xmv 0) qK) qK) qK)))) (qG (qbu (qe PySem.F.slot_list_pop PySem.F.type_list_pop qot (jx hr (xmv 0) qK) (qA qK qN)))))
  (qF (qV (ct (o_ne hr.units) (jx hr (xmv 0) qK) (qaK qN)) (qF (sn 2 qbw.nd (qI qeo (jx hr (jx hr (xmv 0) qK) qK) (xmv 1)))
  (qF (qR (qI qi0 (jx hr (jx hr (xmv 0) qK) qK) (xmv 1)) (qb5 (jx hr (xmv 0) qK) qK (qdi hr.units)))
  (qG (qU (xmv 2))))) qQ)
  (qF (qR (qI qbr (jx hr (xmv 0) qK) qK) (qb5 (xmv 0) qK (qdi hr.units)))
  (qF (sn 3 qbw.nd (qI qeo (qI qe2 (qI qbr (qI qbr (jx hr (xmv 0) qK) (qI qe2 (qI qe2 qK (jx hr (xmv 0) qK)) (jx hr (xmv 0) qK))) qK) qK) qK))
  (qF (sn 3 qbw.nd (qI qeo (qI qe2 (xmv 3) (qI qbr (qI qeo (xmv 3) qK) (qI qe2 qK (jx hr (xmv 0) qK)))) qK))
  (qG (qU (qI qeo (qI qbr (qI qi0 (xmv 3) qK) (qI qi0 (xmv 3) qK)) (xmv 1)))))))))
noncomputable abbrev qbV:Stmt:=top 10
noncomputable def qc3:FS:=(mSeq (mIfS (mOr (mB (m2 (b2 (gCmp fun i j=>decide (j<i))) (mN (b1 gLen) (qaa (m2 (b2 gIxY) (mV 0) (mV 1)) mNil)) (m2 (b2 gSub) (mC (D.int (3))) (mN (b1 gInt) (qaa (m2 (b2 gEq) (mV 1) (mV 2)) mNil))))) (mB (m2 (b2 (gCmp fun i j=>decide (j<i))) (mN (b1 gLen) (qaa (m2 (b2 gIxY) (mV 0) (mV 2)) mNil)) (mC (D.int (3)))))) (mRet (mV 3)) mNx)
  (mSeq (qdc (mMt (b2 gApp) (m2 (b2 gIxY) (mV 0) (mV 1)) (qaa (mTup (qaa (mV 3) (qaa (mC (D.int (0))) mNil))) mNil)))
  (mSeq (qdc (mMt (b2 gApp) (m2 (b2 gIxY) (mV 0) (mV 2)) (qaa (mTup (qaa (mV 3) (qaa (mC (D.int (1))) mNil))) mNil)))
  (mRet (m2 (b2 gAdd) (mV 3) (mC (D.int (1))))))))
noncomputable def qaL:FN:=fnB 4 qc3
theorem qej:qas ["_law_ends","_law_one","_law_other","_law_edge"] ["_law_ends","_law_one","_law_other","_law_edge"] (qae qbV):=⟨rfl,rfl,rfl,by decide+kernel,rfl,by decide+kernel,by decide+kernel⟩
theorem qem (X:K.In h)(G:h.Ns mainGlobals mg){f:Addr}(F:FnAt K "_law_joined" qbV f)(B:Blt mg):
  Own P w K mg base 1 "_law_joined" 4 qaL:=xo X G F qej (fun _ _ _ _ _ _ us hl=>ln4 hl fun _ _ _ _=>rfl) fun _ _ _ _ _ _ _ hr=>
 (qF (qV (qft (qdL (ct o_gt (cb qa8 B.z_len (qA (jx hr (xmv 0) (xmv 1)) qN)) (qI qm4 qK (cy qr6 B.z_int (qA (ce (o_eq hr.units) (xmv 1) (xmv 2)) qN)))) (qcA (ct o_gt (cb qa8 B.z_len (qA (jx hr (xmv 0) (xmv 2)) qN)) qK)))) (qG (qU (xmv 3))) qQ)
  (qF (qbu (qe PySem.F.slot_list_append PySem.F.type_list_append qgd (jx hr (xmv 0) (xmv 1)) (qA (qaq (qA (xmv 3) (qA qK qN))) qN)))
  (qF (qbu (qe PySem.F.slot_list_append PySem.F.type_list_append qgd (jx hr (xmv 0) (xmv 2)) (qA (qaq (qA (xmv 3) (qA qK qN))) qN)))
  (qG (qU (qI qbr (xmv 3) qK))))))
noncomputable abbrev qb9:Stmt:=top 14
noncomputable def qdo:FS:=(mRet (mN (b1 gTup) (qaa (qa9 1 [0] (iR1 (qaa (mV 0) mNil)) (gN 0) qbl (qaT (mTup (qaa (mTup (qaa (m2 (b2 gMod) (m2 (b2 gAdd) (mV 0) (mC (D.int (1)))) (mV 1)) (qaa (mC (D.int (1))) mNil))) (qaa (mTup (qaa (m2 (b2 gMod) (m2 (b2 gSub) (m2 (b2 gAdd) (mV 0) (mV 1)) (mC (D.int (1)))) (mV 1)) (qaa (mC (D.int (0))) mNil))) mNil))))) mNil)))
noncomputable def qbi:FN:=fnB 1 qdo
theorem qeM:qas ["_law_many"] ["_law_many"] (qae qb9):=⟨rfl,rfl,rfl,by decide+kernel,rfl,by decide+kernel,by decide+kernel⟩
theorem qeU (X:K.In h)(G:h.Ns mainGlobals mg){f:Addr}(F:FnAt K "_law_round" qb9 f)(B:Blt mg):
  Own P w K mg base 1 "_law_round" 1 qbi:=xo X G F qeM (fun _ _ _ _ _ _ us hl=>ln1 hl fun _=>rfl) fun _ _ _ _ _ _ _ hr=>
 (qG (qU (cy qb1 B.z_tuple (qA (qZ rfl (T:=["_law_room"]) (keep:=[0]) ⟨rfl,by decide+kernel,(kc "_law_many" (List.forall_mem_nil _))⟩ rfl (qaD rfl B.z_range (qA (xmv 0) qN)) (fun _ _ _=>⟨(qO 0 (show List.Nodup (["_law_room","_law_many"]:List Str) by decide+kernel) rfl (by first|exact Or.inl rfl|exact Or.inr rfl)),qaI,(qaq (qA (qaq (qA (qI qeo (qI qbr (xmv 0) qK) (xmv 1)) (qA qK qN))) (qA (qaq (qA (qI qeo (qI qm4 (qI qbr (xmv 0) (xmv 1)) qK) (xmv 1)) (qA qK qN))) qN)))⟩)) qN))))
noncomputable abbrev qbU:Stmt:=top 17
noncomputable def qcj:FS:=(mIfS (mOr (mB (m2 (b2 gNe) (mN (b1 gLen) (qaa (m2 (b2 gIxY) (mV 0) (mV 4)) mNil)) (mN (b1 gLen) (qaa (m2 (b2 gIxY) (mV 0) (mV 5)) mNil)))) (mB (m2 (b2 gNe) (m2 (b2 gIxY) (mV 1) (mV 4)) (m2 (b2 gIxY) (mV 1) (mV 5))))) (mAsg (mC (D.bl true)) (gS (b3 qbR) (mV 3) (mTup (qaa (mV 4) (qaa (mV 5) mNil))))) mNx)
noncomputable def qbq:FS:=(mFor (iSeq (mV 2)) (gN 5) qcj)
noncomputable def qci:FS:=(mIfS (mOr (mB (m2 (b2 gNe) (mV 8) (mV 10))) (mB (m2 (b2 gInZ) (mTup (qaa (mV 7) (qaa (mV 9) mNil))) (mV 3)))) (mAsg (mC (D.bl true)) (gS (b3 qbR) (mV 3) (mTup (qaa (mV 4) (qaa (mV 5) mNil))))) mNx)
noncomputable def qbp:FS:=(mFor (iZp (qaa (m2 (b2 gIxY) (mV 0) (mV 4)) (qaa (m2 (b2 gIxY) (mV 0) (mV 5)) mNil))) (gT 2 (gCs (gT 2 (gCs (gN 7) (gCs (gN 8) gNl))) (gCs (gT 2 (gCs (gN 9) (gCs (gN 10) gNl))) gNl))) qci)
noncomputable def qbo:FS:=(mFor (iSeq (qa9 1 [4,3] (iSeq (mV 2)) (gN 0) (mB (m2 (b2 qb0) (mTup (qaa (mV 1) (qaa (mV 0) mNil))) (mV 2))) (qaT (mV 0)))) (gN 5) qbp)
noncomputable def qch:FT:=(mB (m2 (b2 gLt) (mV 6) (mN (b1 qgE) (qaa (mV 3) mNil))))
noncomputable def qcg:FS:=(mSeq (mAsg (mN (b1 qgE) (qaa (mV 3) mNil)) (gN 6))
  (mFor (iSeq (mV 2)) (gN 4) qbo))
noncomputable def qc2:FS:=(mSeq (mAsg (mLR1 (qaa (mN (b1 gLen) (qaa (mV 0) mNil)) mNil)) (gN 2))
  (mSeq (mAsg qe5 (gN 3))
  (mSeq (mFor (iSeq (mV 2)) (gN 4) qbq)
  (mSeq (mAsg (m1 (b1 gNeg) (mC (D.int (1)))) (gN 6))
  (mSeq (whl qch qcg 100000)
  (mRet (mV 3)))))))
noncomputable def qa4:FN:=fnB 11 qc2
theorem qak:qas ["_law_web_here","_law_signs_here","_law_rooms","_law_marked","_law_one","_law_other","_law_many","_law_there","_law_back","_law_beside","_law_also"] ["_law_web_here","_law_signs_here"] (qae qbU):=⟨rfl,rfl,rfl,by decide+kernel,rfl,by decide+kernel,by decide+kernel⟩
theorem qel (X:K.In h)(G:h.Ns mainGlobals mg){f:Addr}(F:FnAt K "_law_unlike" qbU f)(B:Blt mg):
  Own P w K mg base 1 "_law_unlike" 2 qa4:=xo X G F qak (fun _ _ _ _ _ _ us hl=>ln2 hl fun _ _=>rfl) fun _ _ _ _ _ _ _ hr=>
 (qF (sn 2 qak.nd (qc5 rfl rfl B.z_range rfl B.z_list (qA (cb qa8 B.z_len (qA (xmv 0) qN)) qN)))
  (qF (sn 3 qak.nd qdy)
  (qF (qW PassesOwn.never rfl (qd (xmv 2)) (gn 4 qak.nd) (qG (qW PassesOwn.never rfl (qd (xmv 2)) (gn 5 qak.nd) (qG (qV (qft (qdL (ct (o_ne hr.units) (cb qa8 B.z_len (qA (jx hr (xmv 0) (xmv 4)) qN)) (cb qa8 B.z_len (qA (jx hr (xmv 0) (xmv 5)) qN))) (qcA (ct (o_ne hr.units) (jx hr (xmv 1) (xmv 4)) (jx hr (xmv 1) (xmv 5)))))) (qG (qR qbL (qb5 (xmv 3) (qaq (qA (xmv 4) (qA (xmv 5) qN))) (qdi hr.units)))) qQ)))))
  (qF (sn 6 qak.nd (qcO qe1 qK))
  (qF (qdM 100000 PassesOwn.never (ct (qiZ hr.units) (xmv 6) (cb ql5 B.z_len (qA (xmv 3) qN))) (qF (sn 6 qak.nd (cb ql5 B.z_len (qA (xmv 3) qN)))
  (qG (qW PassesOwn.never rfl (qd (xmv 2)) (gn 4 qak.nd) (qG (qW PassesOwn.never rfl (qd (qZ rfl (T:=["_law_room"]) (keep:=[4,3]) ⟨rfl,by decide+kernel,(kc "_law_one" (kc "_law_marked" (List.forall_mem_nil _)))⟩ rfl (qd (xmv 2)) (fun _ _ _=>⟨(qO 0 (show List.Nodup (["_law_room","_law_one","_law_marked"]:List Str) by decide+kernel) rfl (by first|exact Or.inl rfl|exact Or.inr rfl)),(qdx (ct (qg7 hr.units) (qaq (qA (xmv 1) (qA (xmv 0) qN))) (xmv 2) (by with_unfolding_all rfl))),(xmv 0)⟩))) (gn 5 qak.nd) (qG (qW PassesOwn.never rfl (qid rfl B.z_zip (qA (jx hr (xmv 0) (xmv 4)) (qA (jx hr (xmv 0) (xmv 5)) qN))) (qaH rfl (qac (qaH rfl (qac (gn 7 qak.nd) (qac (gn 8 qak.nd) qax))) (qac (qaH rfl (qac (gn 9 qak.nd) (qac (gn 10 qak.nd) qax))) qax))) (qG (qV (qft (qdL (ct (o_ne hr.units) (xmv 8) (xmv 10)) (qcA (ct (qru hr.units) (qaq (qA (xmv 7) (qA (xmv 9) qN))) (xmv 3) (by with_unfolding_all rfl))))) (qG (qR qbL (qb5 (xmv 3) (qaq (qA (xmv 4) (qA (xmv 5) qN))) (qdi hr.units)))) qQ))))))))))
  (qG (qU (xmv 3))))))))
noncomputable abbrev qcb:Stmt:=top 19
noncomputable def qbA:FS:=(mIfS (mOr (mB (m2 (b2 gNe) (mV 7) (mV 9))) (mB (m2 (b2 gNe) (m2 (b2 gIxY) (mV 2) (mV 6)) (m2 (b2 gIxY) (mV 2) (mV 8))))) (mRet (mC (D.bl false))) mNx)
noncomputable def qcv:FS:=(mSeq (mIfS (mOr (mB (m2 (b2 gNe) (mN (b1 gLen) (qaa (mV 4) mNil)) (mN (b1 gLen) (qaa (m2 (b2 gIxY) (mV 0) (mV 5)) mNil)))) (mB (m2 (b2 gNe) (m2 (b2 gIxY) (mV 1) (mV 3)) (m2 (b2 gIxY) (mV 1) (mV 5))))) (mRet (mC (D.bl false))) mNx)
  (mFor (iZp (qaa (mV 4) (qaa (m2 (b2 gIxY) (mV 0) (mV 5)) mNil))) (gT 2 (gCs (gT 2 (gCs (gN 6) (gCs (gN 7) gNl))) (gCs (gT 2 (gCs (gN 8) (gCs (gN 9) gNl))) gNl))) qbA))
noncomputable def qcu:FS:=(mFor (iSeq (qa9 1 [2,3] (iR1 (qaa (mN (b1 gLen) (qaa (mV 0) mNil)) mNil)) (gN 0) (mB (m2 (b2 gEq) (m2 (b2 gIxY) (mV 1) (mV 0)) (m2 (b2 gIxY) (mV 1) (mV 2)))) (qaT (mV 0)))) (gN 5) qcv)
noncomputable def qdq:FS:=(mSeq (mFor (iEn (qaa (mV 0) mNil)) (gT 2 (gCs (gN 3) (gCs (gN 4) gNl))) qcu)
  (mRet (mC (D.bl true))))
noncomputable def qbj:FN:=fnB 10 qdq
theorem qaF:qas ["_law_web_here","_law_signs_here","_law_thing","_law_one","_law_doors","_law_other","_law_there","_law_back","_law_beside","_law_also"] ["_law_web_here","_law_signs_here","_law_thing"] (qae qcb):=⟨rfl,rfl,rfl,by decide+kernel,rfl,by decide+kernel,by decide+kernel⟩
theorem qeW (X:K.In h)(G:h.Ns mainGlobals mg){f:Addr}(F:FnAt K "_law_keeps" qcb f)(B:Blt mg):
  Own P w K mg base 1 "_law_keeps" 3 qbj:=xo X G F qaF (fun _ _ _ _ _ _ us hl=>ln3 hl fun _ _ _=>rfl) fun _ _ _ _ _ _ _ hr=>
 (qF (qW PassesOwn.never rfl (qbv rfl B.z_enumerate (qA (xmv 0) qN)) (qaH rfl (qac (gn 3 qaF.nd) (qac (gn 4 qaF.nd) qax))) (qG (qW PassesOwn.never rfl (qd (qZ rfl (T:=["_law_room"]) (keep:=[2,3]) ⟨rfl,by decide+kernel,(kc "_law_thing" (kc "_law_one" (List.forall_mem_nil _)))⟩ rfl (qaD rfl B.z_range (qA (cb qa8 B.z_len (qA (xmv 0) qN)) qN)) (fun _ _ _=>⟨(qO 0 (show List.Nodup (["_law_room","_law_thing","_law_one"]:List Str) by decide+kernel) rfl (by first|exact Or.inl rfl|exact Or.inr rfl)),(qdx (ct (o_eq hr.units) (jx hr (xmv 1) (xmv 0)) (jx hr (xmv 1) (xmv 2)))),(xmv 0)⟩))) (gn 5 qaF.nd) (qF (qV (qft (qdL (ct (o_ne hr.units) (cb qa8 B.z_len (qA (xmv 4) qN)) (cb qa8 B.z_len (qA (jx hr (xmv 0) (xmv 5)) qN))) (qcA (ct (o_ne hr.units) (jx hr (xmv 1) (xmv 3)) (jx hr (xmv 1) (xmv 5)))))) (qG (qU qbL)) qQ)
  (qG (qW PassesOwn.never rfl (qid rfl B.z_zip (qA (xmv 4) (qA (jx hr (xmv 0) (xmv 5)) qN))) (qaH rfl (qac (qaH rfl (qac (gn 6 qaF.nd) (qac (gn 7 qaF.nd) qax))) (qac (qaH rfl (qac (gn 8 qaF.nd) (qac (gn 9 qaF.nd) qax))) qax))) (qG (qV (qft (qdL (ct (o_ne hr.units) (xmv 7) (xmv 9)) (qcA (ct (o_ne hr.units) (jx hr (xmv 2) (xmv 6)) (jx hr (xmv 2) (xmv 8)))))) (qG (qU qbL)) qQ))))))))
  (qG (qU qbL)))
noncomputable abbrev qbz:Stmt:=top 4
noncomputable def qbe:FS:=(mSeq (mIfS (mOr (mNot (mTr (mN (qaf 2 qaG) (qaa (mV 2) (qaa (mN (b1 gLen) (qaa (mV 0) mNil)) mNil))))) (mNot (mTr (mN (b1 gAll) (qaa (qa9 1 [] (iSeq (mV 2)) (gN 0) qbl (qaT (mN (qaf 1 qa0) (qaa (mV 0) mNil)))) mNil))))) (mRet (mC (D.bl false))) mNx)
  (mRet (m2 (b2 gEq) (mN (b1 qc1) (qaa (mN (qaf 3 qdX) (qaa (mV 0) (qaa (mV 1) (qaa (mV 2) mNil)))) mNil)) (mN (b1 qjx) (qaa (mN (b1 qd5) (qaa (mV 2) mNil)) mNil)))))
noncomputable def qam:FN:=fnB 3 qbe
theorem qdP:qas ["web","signs","thing"] ["web","signs","thing"] (qae qbz):=⟨rfl,rfl,rfl,by decide+kernel,rfl,by decide+kernel,by decide+kernel⟩
theorem qdU (X:K.In h)(G:h.Ns mainGlobals mg){f:Addr}(F:FnAt K "is_colouring" qbz f)(B:Blt mg)(o0:Own P w K mg base 1 "is_tuple_of" 2 qaG)(o1:Own P w K mg base 1 "is_whole" 1 qa0)(o2:Own P w K mg base 1 "looks" 3 qdX):
  Own P w K mg base 2 "is_colouring" 3 qam:=xo X G F qdP (fun _ _ _ _ _ _ us hl=>ln3 hl fun _ _ _=>rfl) fun _ _ _ _ _ _ _ hr=>
 (qF (qV (qft (qdL (qga (qf9 (wo o0 hr (qA (xmv 2) (qA (cb qa8 B.z_len (qA (xmv 0) qN)) qN))))) (qcA (qga (qf9 (cb (qr7 rfl) B.z_all (qA (qZ rfl (T:=["number"]) (keep:=[]) ⟨rfl,by decide+kernel,(List.forall_mem_nil _)⟩ rfl (qd (xmv 2)) (fun _ _ _=>⟨(qO 0 (show List.Nodup (["number"]:List Str) by decide+kernel) rfl (by first|exact Or.inl rfl|exact Or.inr rfl)),qaI,(wo o1 hr (qA (xmv 0) qN))⟩)) qN))))))) (qG (qU qbL)) qQ)
  (qG (qU (ce (o_eq hr.units) (qki rfl hr.units rfl B.z_len rfl B.z_set (wo o2 hr (qA (xmv 0) (qA (xmv 1) (qA (xmv 2) qN))))) (cb qqt B.z_len (qA (cy (qqq hr) B.z_set (qA (xmv 2) qN)) qN))))))
noncomputable abbrev qdQ:Stmt:=top 9
noncomputable def qed:FS:=(mRet (m2 (b2 gIxY) (mV 1) (mN (qaf 2 qab) (qaa (mV 0) (qaa (mN (b1 gLen) (qaa (mV 1) mNil)) mNil)))))
noncomputable def qaA:FN:=fnB 2 qed
theorem qhL:qas ["_law_hand_here","_law_some_here"] ["_law_hand_here","_law_some_here"] (qae qdQ):=⟨rfl,rfl,rfl,by decide+kernel,rfl,by decide+kernel,by decide+kernel⟩
theorem qhR (X:K.In h)(G:h.Ns mainGlobals mg){f:Addr}(F:FnAt K "_law_of" qdQ f)(B:Blt mg)(o3:Own P w K mg base 1 "_law_take" 2 qab):
  Own P w K mg base 2 "_law_of" 2 qaA:=xo X G F qhL (fun _ _ _ _ _ _ us hl=>ln2 hl fun _ _=>rfl) fun _ _ _ _ _ _ _ hr=>
 (qG (qU (jx hr (xmv 1) (wo o3 hr (qA (xmv 0) (qA (cb qa8 B.z_len (qA (xmv 1) qN)) qN))))))
noncomputable abbrev qca:Stmt:=top 12
noncomputable def qdp:FS:=(mSeq (mAsg (mN (b1 gLst) (qaa (mV 1) mNil)) (gN 2))
  (mRet (qa9 1 [2,0] (iR1 (qaa (mN (b1 gLen) (qaa (mV 1) mNil)) mNil)) (gN 0) qbl (qaT (mMt (b2 gPop) (mV 1) (qaa (mN (qaf 2 qab) (qaa (mV 2) (qaa (mN (b1 gLen) (qaa (mV 1) mNil)) mNil))) mNil))))))
noncomputable def qaB:FN:=fnB 3 qdp
theorem qcU:qas ["_law_hand_here","_law_some_here","_law_left"] ["_law_hand_here","_law_some_here"] (qae qca):=⟨rfl,rfl,rfl,by decide+kernel,rfl,by decide+kernel,by decide+kernel⟩
theorem qeV (X:K.In h)(G:h.Ns mainGlobals mg){f:Addr}(F:FnAt K "_law_order" qca f)(B:Blt mg)(o3:Own P w K mg base 1 "_law_take" 2 qab):
  Own P w K mg base 2 "_law_order" 2 qaB:=xo X G F qcU (fun _ _ _ _ _ _ us hl=>ln2 hl fun _ _=>rfl) fun _ _ _ _ _ _ _ hr=>
 (qF (sn 2 qcU.nd (cy ql4 B.z_list (qA (xmv 1) qN)))
  (qG (qU (qZ rfl (T:=["_law_k"]) (keep:=[2,0]) ⟨rfl,by decide+kernel,(kc "_law_left" (kc "_law_hand_here" (List.forall_mem_nil _)))⟩ rfl (qaD rfl B.z_range (qA (cb qa8 B.z_len (qA (xmv 1) qN)) qN)) (fun _ _ _=>⟨(qO 0 (show List.Nodup (["_law_k","_law_left","_law_hand_here"]:List Str) by decide+kernel) rfl (by first|exact Or.inl rfl|exact Or.inr rfl)),qaI,(qe PySem.F.slot_list_pop PySem.F.type_list_pop qot (xmv 1) (qA (wo o3 hr (qA (xmv 2) (qA (cb qa8 B.z_len (qA (xmv 1) qN)) qN))) qN))⟩)))))
noncomputable abbrev qcc:Stmt:=top 11
noncomputable def qbD:FS:=(mSeq (mAsg (qa9 1 [4] (iR1 (qaa (mV 5) mNil)) (gN 0) (mB (m2 (b2 gLt) (mN (b1 gLen) (qaa (m2 (b2 gIxY) (mV 1) (mV 0)) mNil)) (mC (D.int (4))))) (qaT (mV 0))) (gN 6))
  (mAsg (mN (qaf 4 qaL) (qaa (mV 4) (qaa (mN (qaf 2 qaA) (qaa (mV 0) (qaa (mV 6) mNil))) (qaa (mV 5) (qaa (mV 3) mNil))))) (gN 3)))
noncomputable def qbC:FS:=(mSeq (mAsg (mN (qaf 2 qab) (qaa (mV 0) (qaa (mV 2) mNil))) (gN 8))
  (mAsg (mN (qaf 4 qaL) (qaa (mV 4) (qaa (mV 8) (qaa (mN (qaf 2 qab) (qaa (mV 0) (qaa (mV 2) mNil))) (qaa (mV 3) mNil))))) (gN 3)))
noncomputable def qcw:FS:=(mAsg (mTup (qaa (mV 5) (qaa (mV 12) mNil))) (gS (b3 qbR) (mV 10) (mV 13)))
noncomputable def qbB:FS:=(mFor (iEn (qaa (mV 11) mNil)) (gT 2 (gCs (gN 12) (gCs (gN 13) gNl))) qcw)
noncomputable def qdr:FS:=(mSeq (mAsg (mTup (qaa (m2 (b2 gAdd) (mC (D.int (1))) (mN (qaf 2 qab) (qaa (mV 0) (qaa (mV 1) mNil)))) (qaa (mC (D.int (0))) mNil))) (gT 2 (gCs (gN 2) (gCs (gN 3) gNl))))
  (mSeq (mAsg (qa9 1 [] (iR1 (qaa (mV 2) mNil)) (gN 0) qbl (qaT (mLst mNil))) (gN 4))
  (mSeq (mFor (iR2 (qaa (mC (D.int (1))) (qaa (mV 2) mNil))) (gN 5) qbD)
  (mSeq (mFor (iR1 (qaa (mN (qaf 2 qab) (qaa (mV 0) (qaa (mC (D.int (10))) mNil))) mNil)) (gN 7) qbC)
  (mSeq (mAsg (qa9 1 [0] (iSeq (mV 4)) (gN 0) qbl (qaT (mN (qaf 2 qaB) (qaa (mV 1) (qaa (mV 0) mNil))))) (gN 9))
  (mSeq (mAsg qe5 (gN 10))
  (mSeq (mFor (iEn (qaa (mV 9) mNil)) (gT 2 (gCs (gN 5) (gCs (gN 11) gNl))) qbB)
  (mRet (mN (b1 gTup) (qaa (qa9 1 [10] (iSeq (mV 9)) (gN 0) qbl (qaT (mN (b1 gTup) (qaa (qa9 2 [1] (iSeq (mV 0)) (gT 2 (gCs (gN 0) (gCs (gN 1) gNl))) qbl (qaT (m2 (b2 gIxY) (mV 2) (mTup (qaa (mV 0) (qaa (m2 (b2 gSub) (mC (D.int (1))) (mV 1)) mNil)))))) mNil)))) mNil))))))))))
noncomputable def qaJ:FN:=fnB 14 qdr
theorem qai:qas ["_law_hand_here","_law_most","_law_many","_law_edge","_law_ends","_law_room","_law_free","_law_k","_law_one","_law_doors","_law_places","_law_some_here","_law_door","_law_end"] ["_law_hand_here","_law_most"] (qae qcc):=⟨rfl,rfl,rfl,by decide+kernel,rfl,by decide+kernel,by decide+kernel⟩
theorem qeX (X:K.In h)(G:h.Ns mainGlobals mg){f:Addr}(F:FnAt K "_law_drawn" qcc f)(B:Blt mg)(o4:Own P w K mg base 1 "_law_joined" 4 qaL)(o5:Own P w K mg base 2 "_law_of" 2 qaA)(o6:Own P w K mg base 2 "_law_order" 2 qaB)(o3:Own P w K mg base 1 "_law_take" 2 qab):
  Own P w K mg base 3 "_law_drawn" 2 qaJ:=xo X G F qai (fun _ _ _ _ _ _ us hl=>ln2 hl fun _ _=>rfl) fun _ _ _ _ _ _ _ hr=>
 (qF (qic 2 3 rfl qai.nd rfl rfl (by decide) rfl rfl (qA (qI qbr qK (wo o3 hr (qA (xmv 0) (qA (xmv 1) qN)))) (qA qK qN)))
  (qF (sn 4 qai.nd (qZ rfl (T:=["_law_room"]) (keep:=[]) ⟨rfl,by decide+kernel,(List.forall_mem_nil _)⟩ rfl (qaD rfl B.z_range (qA (xmv 2) qN)) (fun _ _ _=>⟨(qO 0 (show List.Nodup (["_law_room"]:List Str) by decide+kernel) rfl (by first|exact Or.inl rfl|exact Or.inr rfl)),qaI,(qaK qN)⟩)))
  (qF (qW PassesOwn.never rfl (qhG rfl B.z_range (qA qK (qA (xmv 2) qN))) (gn 5 qai.nd) (qF (qcP 6 rfl (T:=["_law_one"]) (keep:=[4]) ⟨rfl,by decide+kernel,(kc "_law_ends" (List.forall_mem_nil _))⟩ rfl (qaD rfl B.z_range (qA (xmv 5) qN)) (fun _ _ _=>⟨(qO 0 (show List.Nodup (["_law_one","_law_ends"]:List Str) by decide+kernel) rfl (by first|exact Or.inl rfl|exact Or.inr rfl)),(qdx (ct (qiZ hr.units) (cb qa8 B.z_len (qA (jx hr (xmv 1) (xmv 0)) qN)) qK)),(xmv 0)⟩) qai.nd rfl (by first|exact Or.inl rfl|exact Or.inr rfl))
  (qG (sn 3 qai.nd (wo o4 hr (qA (xmv 4) (qA (wo o5 hr (qA (xmv 0) (qA (xmv 6) qN))) (qA (xmv 5) (qA (xmv 3) qN)))))))))
  (qF (qW PassesOwn.never rfl (qaD rfl B.z_range (qA (wo o3 hr (qA (xmv 0) (qA qK qN))) qN)) (gn 7 qai.nd) (qF (sn 8 qai.nd (wo o3 hr (qA (xmv 0) (qA (xmv 2) qN))))
  (qG (sn 3 qai.nd (wo o4 hr (qA (xmv 4) (qA (xmv 8) (qA (wo o3 hr (qA (xmv 0) (qA (xmv 2) qN))) (qA (xmv 3) qN)))))))))
  (qF (qcP 9 rfl (T:=["_law_some_here"]) (keep:=[0]) ⟨rfl,by decide+kernel,(kc "_law_hand_here" (List.forall_mem_nil _))⟩ rfl (qd (xmv 4)) (fun _ _ _=>⟨(qO 0 (show List.Nodup (["_law_some_here","_law_hand_here"]:List Str) by decide+kernel) rfl (by first|exact Or.inl rfl|exact Or.inr rfl)),qaI,(wo o6 hr (qA (xmv 1) (qA (xmv 0) qN)))⟩) qai.nd rfl (by first|exact Or.inl rfl|exact Or.inr rfl))
  (qF (sn 10 qai.nd qdy)
  (qF (qW PassesOwn.never rfl (qbv rfl B.z_enumerate (qA (xmv 9) qN)) (qaH rfl (qac (gn 5 qai.nd) (qac (gn 11 qai.nd) qax))) (qG (qW PassesOwn.never rfl (qbv rfl B.z_enumerate (qA (xmv 11) qN)) (qaH rfl (qac (gn 12 qai.nd) (qac (gn 13 qai.nd) qax))) (qG (qR (qaq (qA (xmv 5) (qA (xmv 12) qN))) (qb5 (xmv 10) (xmv 13) (qdi hr.units)))))))
  (qG (qU (cy qb1 B.z_tuple (qA (qZ rfl (T:=["_law_some_here"]) (keep:=[10]) ⟨rfl,by decide+kernel,(kc "_law_places" (List.forall_mem_nil _))⟩ rfl (qd (xmv 9)) (fun _ _ _=>⟨(qO 0 (show List.Nodup (["_law_some_here","_law_places"]:List Str) by decide+kernel) rfl (by first|exact Or.inl rfl|exact Or.inr rfl)),qaI,(cy qb1 B.z_tuple (qA (qZ rfl (T:=["_law_edge","_law_side"]) (keep:=[1]) ⟨rfl,by decide+kernel,(kc "_law_places" (List.forall_mem_nil _))⟩ rfl (qd (xmv 0)) (fun _ _ _=>⟨(qaH rfl (qac (qO 0 (show List.Nodup (["_law_edge","_law_side","_law_places"]:List Str) by decide+kernel) rfl (by first|exact Or.inl rfl|exact Or.inr rfl)) (qac (qO 1 (show List.Nodup (["_law_edge","_law_side","_law_places"]:List Str) by decide+kernel) rfl (by first|exact Or.inl rfl|exact Or.inr rfl)) qax))),qaI,(jx hr (xmv 2) (qaq (qA (xmv 0) (qA (qI qm4 qK (xmv 1)) qN))))⟩)) qN))⟩)) qN)))))))))))
noncomputable abbrev qcd:Stmt:=top 13
noncomputable def qbG:FS:=(mIfS (mB (m2 (b2 gLt) (mTup (qaa (mV 6) (qaa (mV 8) mNil))) (mV 9))) (mAsg (mN (qaf 2 qaB) (qaa (mV 0) (qaa (mLR1 (qaa (mV 2) mNil)) mNil))) (gS (b3 qbR) (mV 3) (mTup (qaa (mV 6) (qaa (mV 8) mNil))))) mNx)
noncomputable def qbF:FS:=(mFor (iEn (qaa (mV 7) mNil)) (gT 2 (gCs (gN 8) (gCs (gN 9) gNl))) qbG)
noncomputable def qbE:FS:=(mSeq (mIfS (mB (m2 (b2 gLt) (mTup (qaa (mV 6) (qaa (mV 8) mNil))) (mV 9))) (mAsg (mTup (qaa (m2 (b2 gIxY) (mV 9) (mC (D.int (0)))) (qaa (m2 (b2 gIxY) (m2 (b2 gIxY) (mV 3) (mTup (qaa (mV 6) (qaa (mV 8) mNil)))) (mV 10)) mNil))) (gN 12)) (mAsg (mTup (qaa (m2 (b2 gIxY) (mV 9) (mC (D.int (0)))) (qaa (mMt (b2 gIdx) (m2 (b2 gIxY) (mV 3) (mV 9)) (qaa (mV 10) mNil)) mNil))) (gN 12)))
  (mSeq (mIfS (mB (m2 (b2 qbH) (mV 12) (mV 4))) (qdc (mMt (b2 gApp) (mV 4) (qaa (mV 12) mNil))) mNx)
  (qdc (mMt (b2 gApp) (mV 11) (qaa (mTup (qaa (mMt (b2 gIdx) (mV 4) (qaa (mV 12) mNil)) (qaa (m2 (b2 gIxY) (mV 9) (mC (D.int (1)))) mNil))) mNil)))))
noncomputable def qcy:FT:=(mB (m2 (b2 gLt) (mN (b1 gLen) (qaa (mV 5) mNil)) (mN (b1 gLen) (qaa (mV 4) mNil))))
noncomputable def qcx:FS:=(mSeq (mAsg (m2 (b2 gIxY) (mV 4) (mN (b1 gLen) (qaa (mV 5) mNil))) (gT 2 (gCs (gN 6) (gCs (gN 10) gNl))))
  (mSeq (mAsg (mLst mNil) (gN 11))
  (mSeq (mFor (iEn (qaa (m2 (b2 gIxY) (mV 1) (mV 6)) mNil)) (gT 2 (gCs (gN 8) (gCs (gN 9) gNl))) qbE)
  (qdc (mMt (b2 gApp) (mV 5) (qaa (mN (b1 gTup) (qaa (mV 11) mNil)) mNil))))))
noncomputable def qds:FS:=(mSeq (mAsg (mTup (qaa qe5 (qaa (mLst (qaa (mTup (qaa (mC (D.int (0))) (qaa (mC (D.int (0))) mNil))) mNil)) (qaa (mLst mNil) mNil)))) (gT 3 (gCs (gN 3) (gCs (gN 4) (gCs (gN 5) gNl)))))
  (mSeq (mFor (iEn (qaa (mV 1) mNil)) (gT 2 (gCs (gN 6) (gCs (gN 7) gNl))) qbF)
  (mSeq (whl qcy qcx 100000)
  (mRet (mTup (qaa (mN (b1 gTup) (qaa (mV 5) mNil)) (qaa (qa9 2 [] (iSeq (mV 4)) (gT 2 (gCs (gN 0) (gCs (gN 1) gNl))) qbl (qaT (mV 0))) mNil)))))))
noncomputable def qaR:FN:=fnB 13 qds
theorem qan:qas ["_law_hand_here","_law_web_here","_law_copies","_law_orders","_law_met","_law_rooms","_law_room","_law_doors","_law_door","_law_goal","_law_copy","_law_some_here","_law_above"] ["_law_hand_here","_law_web_here","_law_copies"] (qae qcd):=⟨rfl,rfl,rfl,by decide+kernel,rfl,by decide+kernel,by decide+kernel⟩
theorem qeY (X:K.In h)(G:h.Ns mainGlobals mg){f:Addr}(F:FnAt K "_law_cover" qcd f)(B:Blt mg)(o6:Own P w K mg base 2 "_law_order" 2 qaB):
  Own P w K mg base 3 "_law_cover" 3 qaR:=xo X G F qan (fun _ _ _ _ _ _ us hl=>ln3 hl fun _ _ _=>rfl) fun _ _ _ _ _ _ _ hr=>
 (qF (qkh 3 4 5 rfl qan.nd rfl rfl rfl (by decide) (by decide) (by decide) rfl rfl rfl (qA qdy (qA (qaK (qA (qaq (qA qK (qA qK qN))) qN)) (qA (qaK qN) qN))))
  (qF (qW PassesOwn.never rfl (qbv rfl B.z_enumerate (qA (xmv 1) qN)) (qaH rfl (qac (gn 6 qan.nd) (qac (gn 7 qan.nd) qax))) (qG (qW PassesOwn.never rfl (qbv rfl B.z_enumerate (qA (xmv 7) qN)) (qaH rfl (qac (gn 8 qan.nd) (qac (gn 9 qan.nd) qax))) (qG (qV (ct (qiZ hr.units) (qaq (qA (xmv 6) (qA (xmv 8) qN))) (xmv 9)) (qG (qR (wo o6 hr (qA (xmv 0) (qA (qc5 rfl rfl B.z_range rfl B.z_list (qA (xmv 2) qN)) qN))) (qb5 (xmv 3) (qaq (qA (xmv 6) (qA (xmv 8) qN))) (qdi hr.units)))) qQ)))))
  (qF (qdM 100000 PassesOwn.never (ct (qiZ hr.units) (cb qa8 B.z_len (qA (xmv 5) qN)) (cb qa8 B.z_len (qA (xmv 4) qN))) (qF (qR (jx hr (xmv 4) (cb qa8 B.z_len (qA (xmv 5) qN))) (qaH rfl (qac (gn 6 qan.nd) (qac (gn 10 qan.nd) qax))))
  (qF (sn 11 qan.nd (qaK qN))
  (qF (qW PassesOwn.never rfl (qbv rfl B.z_enumerate (qA (jx hr (xmv 1) (xmv 6)) qN)) (qaH rfl (qac (gn 8 qan.nd) (qac (gn 9 qan.nd) qax))) (qF (qV (ct (qiZ hr.units) (qaq (qA (xmv 6) (qA (xmv 8) qN))) (xmv 9)) (qG (sn 12 qan.nd (qaq (qA (jx hr (xmv 9) qK) (qA (jx hr (jx hr (xmv 3) (qaq (qA (xmv 6) (qA (xmv 8) qN)))) (xmv 10)) qN))))) (qG (sn 12 qan.nd (qaq (qA (jx hr (xmv 9) qK) (qA (qe PySem.F.slot_list_index PySem.F.type_list_index (qmu hr.units) (jx hr (xmv 3) (xmv 9)) (qA (xmv 10) qN)) qN))))))
  (qF (qV (ct (qg8 hr.units) (xmv 12) (xmv 4) (by with_unfolding_all rfl)) (qG (qbu (qe PySem.F.slot_list_append PySem.F.type_list_append qgd (xmv 4) (qA (xmv 12) qN)))) qQ)
  (qG (qbu (qe PySem.F.slot_list_append PySem.F.type_list_append qgd (xmv 11) (qA (qaq (qA (qe PySem.F.slot_list_index PySem.F.type_list_index (qmu hr.units) (xmv 4) (qA (xmv 12) qN)) (qA (jx hr (xmv 9) qK) qN))) qN)))))))
  (qG (qbu (qe PySem.F.slot_list_append PySem.F.type_list_append qgd (xmv 5) (qA (cy qb1 B.z_tuple (qA (xmv 11) qN)) qN))))))))
  (qG (qU (qaq (qA (cy qb1 B.z_tuple (qA (xmv 5) qN)) (qA (qZ rfl (T:=["_law_room","_law_copy"]) (keep:=[]) ⟨rfl,by decide+kernel,(List.forall_mem_nil _)⟩ rfl (qd (xmv 4)) (fun _ _ _=>⟨(qaH rfl (qac (qO 0 (show List.Nodup (["_law_room","_law_copy"]:List Str) by decide+kernel) rfl (by first|exact Or.inl rfl|exact Or.inr rfl)) (qac (qO 1 (show List.Nodup (["_law_room","_law_copy"]:List Str) by decide+kernel) rfl (by first|exact Or.inl rfl|exact Or.inr rfl)) qax))),qaI,(xmv 0)⟩)) qN))))))))
noncomputable abbrev qb7:Stmt:=top 16
noncomputable def qdm:FS:=(mSeq (mAsg (mN (qaf 2 qab) (qaa (mV 0) (qaa (mC (D.int (4))) mNil))) (gN 2))
  (mSeq (mAsg (m2 (b2 qh0) (mLst (qaa (mC (D.int (0))) mNil)) (mV 1)) (gN 3))
  (mSeq (mIfS (mB (m2 (b2 gEq) (mV 2) (mC (D.int (1))))) (mAsg (qa9 1 [0] (iR1 (qaa (mV 1) mNil)) (gN 0) qbl (qaT (mN (qaf 2 qab) (qaa (mV 1) (qaa (mC (D.int (3))) mNil))))) (gN 3)) mNx)
  (mSeq (mIfS (mB (m2 (b2 gEq) (mV 2) (mC (D.int (2))))) (mAsg (mN (qaf 2 qaA) (qaa (mV 0) (qaa (mLst (qaa (mC (D.int (1))) (qaa (m1 (b1 gNeg) (mC (D.int (1)))) (qaa (m2 (b2 gPow) (mC (D.int (10))) (mC (D.int (30)))) mNil)))) mNil))) (gS (b3 qbR) (mV 3) (mN (qaf 2 qab) (qaa (mV 0) (qaa (mV 1) mNil))))) mNx)
  (mSeq (mIfS (mB (m2 (b2 gEq) (mV 2) (mC (D.int (3))))) (mAsg (qa9 1 [0] (iR1 (qaa (mV 1) mNil)) (gN 0) qbl (qaT (mN (qaf 2 qaA) (qaa (mV 1) (qaa (mLst (qaa (mC (D.int (0))) (qaa (mC (D.int (2))) (qaa (m1 (b1 gNeg) (mC (D.int (3)))) (qaa (m2 (b2 gPow) (mC (D.int (10))) (mC (D.int (40)))) (qaa (m2 (b2 gAdd) (m2 (b2 gPow) (mC (D.int (10))) (mC (D.int (40)))) (mC (D.int (1)))) mNil)))))) mNil))))) (gN 3)) mNx)
  (mRet (mN (b1 gTup) (qaa (mV 3) mNil))))))))
noncomputable def qa1:FN:=fnB 4 qdm
theorem qa2:qas ["_law_hand_here","_law_many","_law_way","_law_signs_here"] ["_law_hand_here","_law_many"] (qae qb7):=⟨rfl,rfl,rfl,by decide+kernel,rfl,by decide+kernel,by decide+kernel⟩
theorem qeS (X:K.In h)(G:h.Ns mainGlobals mg){f:Addr}(F:FnAt K "_law_signs" qb7 f)(B:Blt mg)(o5:Own P w K mg base 2 "_law_of" 2 qaA)(o3:Own P w K mg base 1 "_law_take" 2 qab):
  Own P w K mg base 3 "_law_signs" 2 qa1:=xo X G F qa2 (fun _ _ _ _ _ _ us hl=>ln2 hl fun _ _=>rfl) fun _ _ _ _ _ _ _ hr=>
 (qF (sn 2 qa2.nd (wo o3 hr (qA (xmv 0) (qA qK qN))))
  (qF (sn 3 qa2.nd (qI qlO (qaK (qA qK qN)) (xmv 1)))
  (qF (qV (ct (o_eq hr.units) (xmv 2) qK) (qG (qcP 3 rfl (T:=["_law_room"]) (keep:=[0]) ⟨rfl,by decide+kernel,(kc "_law_hand_here" (List.forall_mem_nil _))⟩ rfl (qaD rfl B.z_range (qA (xmv 1) qN)) (fun _ _ _=>⟨(qO 0 (show List.Nodup (["_law_room","_law_hand_here"]:List Str) by decide+kernel) rfl (by first|exact Or.inl rfl|exact Or.inr rfl)),qaI,(wo o3 hr (qA (xmv 1) (qA qK qN)))⟩) qa2.nd rfl (by first|exact Or.inl rfl|exact Or.inr rfl))) qQ)
  (qF (qV (ct (o_eq hr.units) (xmv 2) qK) (qG (qR (wo o5 hr (qA (xmv 0) (qA (qaK (qA qK (qA (qcO qe1 qK) (qA (qI qe0 qK qK) qN)))) qN))) (qb5 (xmv 3) (wo o3 hr (qA (xmv 0) (qA (xmv 1) qN))) (qdi hr.units)))) qQ)
  (qF (qV (ct (o_eq hr.units) (xmv 2) qK) (qG (qcP 3 rfl (T:=["_law_room"]) (keep:=[0]) ⟨rfl,by decide+kernel,(kc "_law_hand_here" (List.forall_mem_nil _))⟩ rfl (qaD rfl B.z_range (qA (xmv 1) qN)) (fun _ _ _=>⟨(qO 0 (show List.Nodup (["_law_room","_law_hand_here"]:List Str) by decide+kernel) rfl (by first|exact Or.inl rfl|exact Or.inr rfl)),qaI,(wo o5 hr (qA (xmv 1) (qA (qaK (qA qK (qA qK (qA (qcO qe1 qK) (qA (qI qe0 qK qK) (qA (qI qbr (qI qe0 qK qK) qK) qN)))))) qN)))⟩) qa2.nd rfl (by first|exact Or.inl rfl|exact Or.inr rfl))) qQ)
  (qG (qU (cy qb1 B.z_tuple (qA (xmv 3) qN)))))))))
noncomputable abbrev qcF:Stmt:=top 20
noncomputable def qec:FS:=(mSeq (mAsg (mN (b1 gLen) (qaa (mV 1) mNil)) (gN 3))
  (mSeq (mAsg (mN (qaf 2 qa4) (qaa (mV 1) (qaa (mV 2) mNil))) (gN 4))
  (mSeq (mAsg (qa9 1 [3,4] (iR1 (qaa (mV 3) mNil)) (gN 0) qbl (qaT (mN (b1 qh1) (qaa (qa9 1 [0,2] (iR1 (qaa (mV 1) mNil)) (gN 0) (mB (m2 (b2 qb0) (mTup (qaa (mV 0) (qaa (mV 1) mNil))) (mV 2))) (qaT (mV 0))) mNil)))) (gN 5))
  (mSeq (mAsg (mN (qaf 2 qab) (qaa (mV 0) (qaa (mC (D.int (6))) mNil))) (gN 6))
  (mSeq (mIfS (mB (m2 (b2 gEq) (mV 6) (mC (D.int (1))))) (mRet (mLR1 (qaa (mV 3) mNil))) mNx)
  (mSeq (mIfS (mB (m2 (b2 gEq) (mV 6) (mC (D.int (2))))) (mRet (m2 (b2 qh0) (mLst (qaa (mC (D.int (7))) mNil)) (mV 3))) mNx)
  (mSeq (mIfS (mB (m2 (b2 gEq) (mV 6) (mC (D.int (3))))) (mAsg (mN (qaf 2 qaA) (qaa (mV 0) (qaa (mLst (qaa (mV 3) (qaa (m2 (b2 gIxY) (mV 5) (mN (qaf 2 qab) (qaa (mV 0) (qaa (mV 3) mNil)))) (qaa (m1 (b1 gNeg) (mC (D.int (1)))) mNil)))) mNil))) (gS (b3 qbR) (mV 5) (mN (qaf 2 qab) (qaa (mV 0) (qaa (mV 3) mNil))))) mNx)
  (mSeq (mIfS (mB (m2 (b2 gEq) (mV 6) (mC (D.int (4))))) (mSeq (mAsg (mTup (qaa (mN (qaf 2 qab) (qaa (mV 0) (qaa (mV 3) mNil))) (qaa (mN (qaf 2 qab) (qaa (mV 0) (qaa (mV 3) mNil))) mNil))) (gT 2 (gCs (gN 7) (gCs (gN 8) gNl))))
  (mAsg (qa9 1 [5,7,8] (iSeq (mV 5)) (gN 0) qbl (qaT (mIf (mB (m2 (b2 gEq) (mV 0) (m2 (b2 gIxY) (mV 1) (mV 2)))) (m2 (b2 gIxY) (mV 1) (mV 3)) (mV 0)))) (gN 5))) mNx)
  (mSeq (mIfS (mB (m2 (b2 gEq) (mV 6) (mC (D.int (5))))) (mAsg (qa9 1 [3,0] (iSeq (mV 5)) (gN 0) qbl (qaT (m2 (b2 gAdd) (mV 0) (m2 (b2 gMul) (mV 1) (mN (qaf 2 qab) (qaa (mV 2) (qaa (mC (D.int (2))) mNil))))))) (gN 5)) mNx)
  (mRet (mV 5)))))))))))
noncomputable def qbs:FN:=fnB 9 qec
theorem qaE:qas ["_law_hand_here","_law_web_here","_law_signs_here","_law_many","_law_marked","_law_coarse","_law_way","_law_one","_law_other"] ["_law_hand_here","_law_web_here","_law_signs_here"] (qae qcF):=⟨rfl,rfl,rfl,by decide+kernel,rfl,by decide+kernel,by decide+kernel⟩
theorem qfF (X:K.In h)(G:h.Ns mainGlobals mg){f:Addr}(F:FnAt K "_law_some" qcF f)(B:Blt mg)(o5:Own P w K mg base 2 "_law_of" 2 qaA)(o3:Own P w K mg base 1 "_law_take" 2 qab)(o7:Own P w K mg base 1 "_law_unlike" 2 qa4):
  Own P w K mg base 3 "_law_some" 3 qbs:=xo X G F qaE (fun _ _ _ _ _ _ us hl=>ln3 hl fun _ _ _=>rfl) fun _ _ _ _ _ _ _ hr=>
 (qF (sn 3 qaE.nd (cb qa8 B.z_len (qA (xmv 1) qN)))
  (qF (sn 4 qaE.nd (wo o7 hr (qA (xmv 1) (qA (xmv 2) qN))))
  (qF (sn 5 qaE.nd (qZ rfl (T:=["_law_one"]) (keep:=[3,4]) ⟨rfl,by decide+kernel,(kc "_law_many" (kc "_law_marked" (List.forall_mem_nil _)))⟩ rfl (qaD rfl B.z_range (qA (xmv 3) qN)) (fun _ _ _=>⟨(qO 0 (show List.Nodup (["_law_one","_law_many","_law_marked"]:List Str) by decide+kernel) rfl (by first|exact Or.inl rfl|exact Or.inr rfl)),qaI,(cb (qqs rfl) B.z_min (qA (qZ rfl (T:=["_law_room"]) (keep:=[0,2]) ⟨rfl,by decide+kernel,(kc "_law_one" (kc "_law_marked" (List.forall_mem_nil _)))⟩ rfl (qaD rfl B.z_range (qA (xmv 1) qN)) (fun _ _ _=>⟨(qO 0 (show List.Nodup (["_law_room","_law_one","_law_marked"]:List Str) by decide+kernel) rfl (by first|exact Or.inl rfl|exact Or.inr rfl)),(qdx (ct (qg7 hr.units) (qaq (qA (xmv 0) (qA (xmv 1) qN))) (xmv 2) (by with_unfolding_all rfl))),(xmv 0)⟩)) qN))⟩)))
  (qF (sn 6 qaE.nd (wo o3 hr (qA (xmv 0) (qA qK qN))))
  (qF (qV (ct (o_eq hr.units) (xmv 6) qK) (qG (qU (qc5 rfl rfl B.z_range rfl B.z_list (qA (xmv 3) qN)))) qQ)
  (qF (qV (ct (o_eq hr.units) (xmv 6) qK) (qG (qU (qI qlO (qaK (qA qK qN)) (xmv 3)))) qQ)
  (qF (qV (ct (o_eq hr.units) (xmv 6) qK) (qG (qR (wo o5 hr (qA (xmv 0) (qA (qaK (qA (xmv 3) (qA (jx hr (xmv 5) (wo o3 hr (qA (xmv 0) (qA (xmv 3) qN)))) (qA (qcO qe1 qK) qN)))) qN))) (qb5 (xmv 5) (wo o3 hr (qA (xmv 0) (qA (xmv 3) qN))) (qdi hr.units)))) qQ)
  (qF (qV (ct (o_eq hr.units) (xmv 6) qK) (qF (qR (qaq (qA (wo o3 hr (qA (xmv 0) (qA (xmv 3) qN))) (qA (wo o3 hr (qA (xmv 0) (qA (xmv 3) qN))) qN))) (qaH rfl (qac (gn 7 qaE.nd) (qac (gn 8 qaE.nd) qax))))
  (qG (sn 5 qaE.nd (qZ rfl (T:=["_law_number"]) (keep:=[5,7,8]) ⟨rfl,by decide+kernel,(kc "_law_coarse" (kc "_law_one" (kc "_law_other" (List.forall_mem_nil _))))⟩ rfl (qd (xmv 5)) (fun _ _ _=>⟨(qO 0 (show List.Nodup (["_law_number","_law_coarse","_law_one","_law_other"]:List Str) by decide+kernel) rfl (by first|exact Or.inl rfl|exact Or.inr rfl)),qaI,(qoc (ct (o_eq hr.units) (xmv 0) (jx hr (xmv 1) (xmv 2))) (jx hr (xmv 1) (xmv 3)) (xmv 0))⟩))))) qQ)
  (qF (qV (ct (o_eq hr.units) (xmv 6) qK) (qG (sn 5 qaE.nd (qZ rfl (T:=["_law_number"]) (keep:=[3,0]) ⟨rfl,by decide+kernel,(kc "_law_many" (kc "_law_hand_here" (List.forall_mem_nil _)))⟩ rfl (qd (xmv 5)) (fun _ _ _=>⟨(qO 0 (show List.Nodup (["_law_number","_law_many","_law_hand_here"]:List Str) by decide+kernel) rfl (by first|exact Or.inl rfl|exact Or.inr rfl)),qaI,(qI qbr (xmv 0) (qI qe2 (xmv 1) (wo o3 hr (qA (xmv 2) (qA qK qN)))))⟩)))) qQ)
  (qG (qU (xmv 5))))))))))))
noncomputable abbrev qbW:Stmt:=top 21
noncomputable def qc4:FS:=(mSeq (mAsg (mN (qaf 2 qaB) (qaa (mV 0) (qaa (mLst (qaa (mC (D.int (0))) (qaa (mC (D.int (1))) (qaa (mC (D.int (2))) (qaa (mC (D.int (3))) (qaa (m1 (b1 gNeg) (mC (D.int (1)))) (qaa (m1 (b1 gNeg) (mC (D.int (7)))) (qaa (m2 (b2 gPow) (mC (D.int (10))) (mC (D.int (30)))) (qaa (m2 (b2 gAdd) (m2 (b2 gPow) (mC (D.int (10))) (mC (D.int (30)))) (mC (D.int (1)))) (qaa (mC (D.int (5))) (qaa (mC (D.int (99))) (qaa (mC (D.int (6))) (qaa (mC (D.int (7))) (qaa (m1 (b1 gNeg) (mC (D.int (2)))) (qaa (mC (D.int (40))) (qaa (mC (D.int (41))) (qaa (mC (D.int (42))) (qaa (mC (D.int (43))) (qaa (mC (D.int (44))) (qaa (mC (D.int (45))) (qaa (mC (D.int (46))) mNil))))))))))))))))))))) mNil))) (gN 2))
  (mSeq (mAsg (mN (b1 qc0) (qaa (mV 1) mNil)) (gN 3))
  (mRet (mN (b1 gTup) (qaa (qa9 1 [2,3] (iSeq (mV 1)) (gN 0) qbl (qaT (m2 (b2 gIxY) (mV 1) (mMt (b2 gIdx) (mV 2) (qaa (mV 0) mNil))))) mNil)))))
noncomputable def qa5:FN:=fnB 4 qc4
theorem qby:qas ["_law_hand_here","_law_some_here","_law_names","_law_known"] ["_law_hand_here","_law_some_here"] (qae qbW):=⟨rfl,rfl,rfl,by decide+kernel,rfl,by decide+kernel,by decide+kernel⟩
theorem qen (X:K.In h)(G:h.Ns mainGlobals mg){f:Addr}(F:FnAt K "_law_called" qbW f)(B:Blt mg)(o6:Own P w K mg base 2 "_law_order" 2 qaB):
  Own P w K mg base 3 "_law_called" 2 qa5:=xo X G F qby (fun _ _ _ _ _ _ us hl=>ln2 hl fun _ _=>rfl) fun _ _ _ _ _ _ _ hr=>
 (qF (sn 2 qby.nd (wo o6 hr (qA (xmv 0) (qA (qaK (qA qK (qA qK (qA qK (qA qK (qA (qcO qe1 qK) (qA (qcO qe1 qK) (qA (qI qe0 qK qK) (qA (qI qbr (qI qe0 qK qK) qK) (qA qK (qA qK (qA qK (qA qK (qA (qcO qe1 qK) (qA qK (qA qK (qA qK (qA qK (qA qK (qA qK (qA qK qN))))))))))))))))))))) qN))))
  (qF (sn 3 qby.nd (qie rfl rfl B.z_sorted rfl B.z_set (xmv 1)))
  (qG (qU (cy qb1 B.z_tuple (qA (qZ rfl (T:=["_law_number"]) (keep:=[2,3]) ⟨rfl,by decide+kernel,(kc "_law_names" (kc "_law_known" (List.forall_mem_nil _)))⟩ rfl (qd (xmv 1)) (fun _ _ _=>⟨(qO 0 (show List.Nodup (["_law_number","_law_names","_law_known"]:List Str) by decide+kernel) rfl (by first|exact Or.inl rfl|exact Or.inr rfl)),qaI,(jx hr (xmv 1) (qe PySem.F.slot_list_index PySem.F.type_list_index (qmu hr.units) (xmv 2) (qA (xmv 0) qN)))⟩)) qN))))))
noncomputable abbrev qc9:Stmt:=top 22
noncomputable def qeE:FS:=(mSeq (mAsg (mN (qaf 2 qab) (qaa (mV 0) (qaa (mN (b1 gLen) (qaa (mV 1) mNil)) mNil))) (gN 2))
  (mSeq (mAsg (mN (qaf 2 qaA) (qaa (mV 0) (qaa (mLst (qaa (mN (b1 gStr) (qaa (m2 (b2 gIxY) (mV 1) (mV 2)) mNil)) (qaa (mC D.non) (qaa (mTup (qaa (mC (D.int (0))) mNil)) (qaa (m2 (b2 gEq) (m2 (b2 gIxY) (mV 1) (mV 2)) (mC (D.int (1)))) (qaa (mC (D.bl true)) (qaa (mLst (qaa (mC (D.int (0))) mNil)) mNil))))))) mNil))) (gN 3))
  (mSeq (mAsg (m2 (b2 gAdd) (m2 (b2 gAdd) (mSlX (mV 1) qe4 (qe3 (mV 2))) (mTup (qaa (mV 3) mNil))) (mSlX (mV 1) (qe3 (m2 (b2 gAdd) (mV 2) (mC (D.int (1))))) qe4)) (gN 4))
  (mSeq (mAsg (mLst (qaa (mV 4) (qaa (mV 4) (qaa (mV 4) (qaa (mV 4) (qaa (mN (b1 gLst) (qaa (mV 1) mNil)) (qaa (mSlX (mV 1) qe4 (qe3 (m1 (b1 gNeg) (mC (D.int (1)))))) (qaa (m2 (b2 gAdd) (mV 1) (mSlX (mV 1) (qe3 (m1 (b1 gNeg) (mC (D.int (1))))) qe4)) mNil)))))))) (gN 5))
  (mRet (mN (qaf 2 qaA) (qaa (mV 0) (qaa (m2 (b2 gAdd) (mV 5) (mLst (qaa (mC D.non) (qaa (mC (D.int (0))) (qaa (mC (D.str "0")) (qaa qe5 (qaa (mTup (qaa (mV 1) mNil)) (qaa (mC (D.bl true)) (qaa (mTup mNil) mNil))))))))) mNil))))))))
noncomputable def qbO:FN:=fnB 6 qeE
theorem qbn:qas ["_law_hand_here","_law_thing","_law_at","_law_odd_here","_law_there","_law_some_here"] ["_law_hand_here","_law_thing"] (qae qc9):=⟨rfl,rfl,rfl,by decide+kernel,rfl,by decide+kernel,by decide+kernel⟩
theorem qgt (X:K.In h)(G:h.Ns mainGlobals mg){f:Addr}(F:FnAt K "_law_odd" qc9 f)(B:Blt mg)(o5:Own P w K mg base 2 "_law_of" 2 qaA)(o3:Own P w K mg base 1 "_law_take" 2 qab):
  Own P w K mg base 3 "_law_odd" 2 qbO:=xo X G F qbn (fun _ _ _ _ _ _ us hl=>ln2 hl fun _ _=>rfl) fun _ _ _ _ _ _ _ hr=>
 (qF (sn 2 qbn.nd (wo o3 hr (qA (xmv 0) (qA (cb qa8 B.z_len (qA (xmv 1) qN)) qN))))
  (qF (sn 3 qbn.nd (wo o5 hr (qA (xmv 0) (qA (qaK (qA (cy qr3 B.z_str (qA (jx hr (xmv 1) (xmv 2)) qN)) (qA qig (qA (qaq (qA qK qN)) (qA (ce (o_eq hr.units) (jx hr (xmv 1) (xmv 2)) qK) (qA qbL (qA (qaK (qA qK qN)) qN))))))) qN))))
  (qF (sn 4 qbn.nd (qI qbr (qI qbr (qbK (xmv 1) qcN (qcM (xmv 2))) (qaq (qA (xmv 3) qN))) (qbK (xmv 1) (qcM (qI qbr (xmv 2) qK)) qcN)))
  (qF (sn 5 qbn.nd (qaK (qA (xmv 4) (qA (xmv 4) (qA (xmv 4) (qA (xmv 4) (qA (cy ql4 B.z_list (qA (xmv 1) qN)) (qA (qbK (xmv 1) qcN (qcM (qcO qe1 qK))) (qA (qI qbr (xmv 1) (qbK (xmv 1) (qcM (qcO qe1 qK)) qcN)) qN)))))))))
  (qG (qU (wo o5 hr (qA (xmv 0) (qA (qI qbr (xmv 5) (qaK (qA qig (qA qK (qA qmf (qA qdy (qA (qaq (qA (xmv 1) qN)) (qA qbL (qA (qaq qN) qN))))))))) qN)))))))))
noncomputable abbrev qc8:Stmt:=top 15
noncomputable def qeD:FS:=(mSeq (mAsg (mN (qaf 2 qab) (qaa (mV 0) (qaa (mC (D.int (5))) mNil))) (gN 1))
  (mSeq (mIfS (mB (m2 (b2 gEq) (mV 1) (mC (D.int (0))))) (mRet (mN (qaf 1 qbi) (qaa (m2 (b2 gAdd) (mC (D.int (1))) (mN (qaf 2 qab) (qaa (mV 0) (qaa (mC (D.int (8))) mNil)))) mNil))) mNx)
  (mSeq (mIfS (mB (m2 (b2 gEq) (mV 1) (mC (D.int (1))))) (mSeq (mAsg (mN (qaf 2 qaJ) (qaa (mV 0) (qaa (mC (D.int (4))) mNil))) (gN 2))
  (mRet (m2 (b2 gIxY) (mN (qaf 3 qaR) (qaa (mV 0) (qaa (mV 2) (qaa (m2 (b2 gAdd) (mC (D.int (1))) (mN (qaf 2 qab) (qaa (mV 0) (qaa (m2 (b2 gDiv) (mC (D.int (8))) (mN (b1 gLen) (qaa (mV 2) mNil))) mNil)))) mNil)))) (mC (D.int (0)))))) mNx)
  (mRet (mN (qaf 2 qaJ) (qaa (mV 0) (qaa (mC (D.int (8))) mNil)))))))
noncomputable def qbN:FN:=fnB 3 qeD
theorem qcD:qas ["_law_hand_here","_law_way","_law_web_here"] ["_law_hand_here"] (qae qc8):=⟨rfl,rfl,rfl,by decide+kernel,rfl,by decide+kernel,by decide+kernel⟩
theorem qgs (X:K.In h)(G:h.Ns mainGlobals mg){f:Addr}(F:FnAt K "_law_web" qc8 f)(B:Blt mg)(o8:Own P w K mg base 3 "_law_cover" 3 qaR)(o9:Own P w K mg base 3 "_law_drawn" 2 qaJ)(o10:Own P w K mg base 1 "_law_round" 1 qbi)(o3:Own P w K mg base 1 "_law_take" 2 qab):
  Own P w K mg base 4 "_law_web" 1 qbN:=xo X G F qcD (fun _ _ _ _ _ _ us hl=>ln1 hl fun _=>rfl) fun _ _ _ _ _ _ _ hr=>
 (qF (sn 1 qcD.nd (wo o3 hr (qA (xmv 0) (qA qK qN))))
  (qF (qV (ct (o_eq hr.units) (xmv 1) qK) (qG (qU (wo o10 hr (qA (qI qbr qK (wo o3 hr (qA (xmv 0) (qA qK qN)))) qN)))) qQ)
  (qF (qV (ct (o_eq hr.units) (xmv 1) qK) (qF (sn 2 qcD.nd (wo o9 hr (qA (xmv 0) (qA qK qN))))
  (qG (qU (jx hr (wo o8 hr (qA (xmv 0) (qA (xmv 2) (qA (qI qbr qK (wo o3 hr (qA (xmv 0) (qA (qI qi0 qK (cb qa8 B.z_len (qA (xmv 2) qN))) qN)))) qN)))) qK)))) qQ)
  (qG (qU (wo o9 hr (qA (xmv 0) (qA qK qN))))))))
noncomputable abbrev qb8:Stmt:=top 18
noncomputable def qdn:FS:=(mSeq (mIfS (mB (m2 (b2 gEq) (mN (qaf 2 qab) (qaa (mV 0) (qaa (mC (D.int (2))) mNil))) (mC (D.int (0))))) (mSeq (mAsg (mN (qaf 1 qbN) (qaa (mV 0) mNil)) (gN 1))
  (mRet (mTup (qaa (mV 1) (qaa (mN (qaf 2 qa1) (qaa (mV 0) (qaa (mN (b1 gLen) (qaa (mV 1) mNil)) mNil))) mNil))))) mNx)
  (mSeq (mAsg (mN (qaf 2 qaJ) (qaa (mV 0) (qaa (mC (D.int (4))) mNil))) (gN 2))
  (mSeq (mAsg (mN (qaf 3 qaR) (qaa (mV 0) (qaa (mV 2) (qaa (m2 (b2 gDiv) (mC (D.int (8))) (mN (b1 gLen) (qaa (mV 2) mNil))) mNil)))) (gT 2 (gCs (gN 1) (gCs (gN 3) gNl))))
  (mSeq (mAsg (mN (qaf 2 qa1) (qaa (mV 0) (qaa (mN (b1 gLen) (qaa (mV 2) mNil)) mNil))) (gN 4))
  (mRet (mTup (qaa (mV 1) (qaa (mN (b1 gTup) (qaa (qa9 1 [4] (iSeq (mV 3)) (gN 0) qbl (qaT (m2 (b2 gIxY) (mV 1) (mV 0)))) mNil)) mNil))))))))
noncomputable def qbh:FN:=fnB 5 qdn
theorem qaU:qas ["_law_hand_here","_law_web_here","_law_base","_law_below","_law_some_here"] ["_law_hand_here"] (qae qb8):=⟨rfl,rfl,rfl,by decide+kernel,rfl,by decide+kernel,by decide+kernel⟩
theorem qeT (X:K.In h)(G:h.Ns mainGlobals mg){f:Addr}(F:FnAt K "_law_scene" qb8 f)(B:Blt mg)(o8:Own P w K mg base 3 "_law_cover" 3 qaR)(o9:Own P w K mg base 3 "_law_drawn" 2 qaJ)(o11:Own P w K mg base 3 "_law_signs" 2 qa1)(o3:Own P w K mg base 1 "_law_take" 2 qab)(o12:Own P w K mg base 4 "_law_web" 1 qbN):
  Own P w K mg base 5 "_law_scene" 1 qbh:=xo X G F qaU (fun _ _ _ _ _ _ us hl=>ln1 hl fun _=>rfl) fun _ _ _ _ _ _ _ hr=>
 (qF (qV (ct (o_eq hr.units) (wo o3 hr (qA (xmv 0) (qA qK qN))) qK) (qF (sn 1 qaU.nd (wo o12 hr (qA (xmv 0) qN)))
  (qG (qU (qaq (qA (xmv 1) (qA (wo o11 hr (qA (xmv 0) (qA (cb qa8 B.z_len (qA (xmv 1) qN)) qN))) qN)))))) qQ)
  (qF (sn 2 qaU.nd (wo o9 hr (qA (xmv 0) (qA qK qN))))
  (qF (qR (wo o8 hr (qA (xmv 0) (qA (xmv 2) (qA (qI qi0 qK (cb qa8 B.z_len (qA (xmv 2) qN))) qN)))) (qaH rfl (qac (gn 1 qaU.nd) (qac (gn 3 qaU.nd) qax))))
  (qF (sn 4 qaU.nd (wo o11 hr (qA (xmv 0) (qA (cb qa8 B.z_len (qA (xmv 2) qN)) qN))))
  (qG (qU (qaq (qA (xmv 1) (qA (cy qb1 B.z_tuple (qA (qZ rfl (T:=["_law_room"]) (keep:=[4]) ⟨rfl,by decide+kernel,(kc "_law_some_here" (List.forall_mem_nil _))⟩ rfl (qd (xmv 3)) (fun _ _ _=>⟨(qO 0 (show List.Nodup (["_law_room","_law_some_here"]:List Str) by decide+kernel) rfl (by first|exact Or.inl rfl|exact Or.inr rfl)),qaI,(jx hr (xmv 1) (xmv 0))⟩)) qN)) qN)))))))))
noncomputable abbrev qhM:Stmt:=top 23
noncomputable def qgp:FS:=(mSeq (mAsg (mN (qaf 2 qa5) (qaa (mV 1) (qaa (mN (qaf 3 qbs) (qaa (mV 1) (qaa (mV 3) (qaa (mV 4) mNil)))) mNil))) (gN 6))
  (mSeq (mAsg (mN (qaf 3 qam) (qaa (mV 3) (qaa (mV 4) (qaa (mV 6) mNil)))) (gN 7))
  (mSeq (mIfS (mOr (mNot (mTr (mIsT .bool (mV 7)))) (mB (m2 (b2 gNe) (mV 7) (mN (qaf 3 qbj) (qaa (mV 3) (qaa (mV 4) (qaa (mV 6) mNil))))))) (mRet (mC (D.bl false))) mNx)
  (mSeq (mIfS (mB (m2 (b2 qjy) (mN (qaf 3 qam) (qaa (mV 3) (qaa (mV 4) (qaa (mN (qaf 2 qbO) (qaa (mV 1) (qaa (mV 6) mNil))) mNil)))) (mC (D.bl false)))) (mRet (mC (D.bl false))) mNx)
  (mIfS (mB (m2 (b2 gNe) (mN (qaf 3 qam) (qaa (mV 3) (qaa (mV 4) (qaa (mV 6) mNil)))) (mV 7))) (mRet (mC (D.bl false))) mNx)))))
noncomputable def qgo:FS:=(mSeq (mAsg (mN (qaf 1 qbh) (qaa (mV 1) mNil)) (gT 2 (gCs (gN 3) (gCs (gN 4) gNl))))
  (mFor (iR1 (qaa (mC (D.int (3))) mNil)) (gN 5) qgp))
noncomputable def qn4:FS:=(mSeq (mAsg (mN (qaf 1 qbb) (qaa (mV 0) mNil)) (gN 1))
  (mSeq (mFor (iR1 (qaa (m2 (b2 gAdd) (mC (D.int (6))) (mN (b2 gMin) (qaa (mN (b1 gLen) (qaa (mV 0) mNil)) (qaa (mC (D.int (24))) mNil)))) mNil)) (gN 2) qgo)
  (mRet (mC (D.bl true)))))
noncomputable def m_law:FN:=fnB 8 qn4
theorem qdh:qas ["_law_script","_law_hand_here","_law_turn","_law_web_here","_law_signs_here","_law_again","_law_thing","_law_found"] ["_law_script"] (qae qhM):=⟨rfl,rfl,rfl,by decide+kernel,rfl,by decide+kernel,by decide+kernel⟩
theorem qpl {f:Addr}{fd:FuncData}(F:Fun K "law" "law" qhM f fd)(B:Blt mg)(o13:Own P w K mg base 3 "_law_called" 2 qa5)(o14:Own P w K mg base 1 "_law_hand" 1 qbb)(o15:Own P w K mg base 1 "_law_keeps" 3 qbj)(o16:Own P w K mg base 3 "_law_odd" 2 qbO)(o17:Own P w K mg base 5 "_law_scene" 1 qbh)(o18:Own P w K mg base 3 "_law_some" 3 qbs)(o19:Own P w K mg base 2 "is_colouring" 3 qam):
  FnOk P w K mg base CX0 6 f fd ["_law_script"] (spM K 1 m_law):=qod (k:=5) (n:=1) (N:=["_law_script","_law_hand_here","_law_turn","_law_web_here","_law_signs_here","_law_again","_law_thing","_law_found"]) (ps:=["_law_script"]) (b:=qn4) F qdh rfl fun cdv A outer s H E hr=>
 (qF (sn 1 qdh.nd (wo o14 hr (qA (xmv 0) qN)))
  (qF (qW PassesOwn.never rfl (qaD rfl B.z_range (qA (qI qbr qK (cb (qr5 rfl) B.z_min (qA (cb qa8 B.z_len (qA (xmv 0) qN)) (qA qK qN)))) qN)) (gn 2 qdh.nd) (qF (qR (wo o17 hr (qA (xmv 1) qN)) (qaH rfl (qac (gn 3 qdh.nd) (qac (gn 4 qdh.nd) qax))))
  (qG (qW PassesOwn.never rfl (qaD rfl B.z_range (qA qK qN)) (gn 5 qdh.nd) (qF (sn 6 qdh.nd (wo o13 hr (qA (xmv 1) (qA (wo o18 hr (qA (xmv 1) (qA (xmv 3) (qA (xmv 4) qN)))) qN))))
  (qF (sn 7 qdh.nd (wo o19 hr (qA (xmv 3) (qA (xmv 4) (qA (xmv 6) qN)))))
  (qF (qV (qft (qdL (qga (qf9 (qcn .bool rfl B.z_isinstance rfl B.z_bool (by decide+kernel) (xmv 7)))) (qcA (ct (o_ne hr.units) (xmv 7) (wo o15 hr (qA (xmv 3) (qA (xmv 4) (qA (xmv 6) qN)))))))) (qG (qU qbL)) qQ)
  (qF (qV (ct qkT (wo o19 hr (qA (xmv 3) (qA (xmv 4) (qA (wo o16 hr (qA (xmv 1) (qA (xmv 6) qN))) qN)))) qbL) (qG (qU qbL)) qQ)
  (qG (qV (ct (o_ne hr.units) (wo o19 hr (qA (xmv 3) (qA (xmv 4) (qA (xmv 6) qN)))) (xmv 7)) (qG (qU qbL)) qQ))))))))))
  (qG (qU qbL))))
end
theorem all_mk {l:PySem.W.OpenLaw}{w:World}{K:Fg1}{h:Heap}{mg:Str->Option Value}{fa f1 f2 f3 f4 f5 f6 f7 f8 f9 f10 f11 f12 f13 f14 f15 f16 f17 f18 f19 f20 f21:Addr}(X:K.In h)(G:h.Ns mainGlobals mg)(hfa:mg "law"=some (.ref fa))
  (a1:FnAt K "is_whole" qc7 f1)
  (a2:FnAt K "is_tuple_of" qbT f2)
  (a3:FnAt K "looks" qgi f3)
  (a4:FnAt K "_law_hand" qcG f4)
  (a5:FnAt K "_law_take" qcE f5)
  (a6:FnAt K "_law_joined" qbV f6)
  (a7:FnAt K "_law_round" qb9 f7)
  (a8:FnAt K "_law_unlike" qbU f8)
  (a9:FnAt K "_law_keeps" qcb f9)
  (a10:FnAt K "is_colouring" qbz f10)
  (a11:FnAt K "_law_of" qdQ f11)
  (a12:FnAt K "_law_order" qca f12)
  (a13:FnAt K "_law_drawn" qcc f13)
  (a14:FnAt K "_law_cover" qcd f14)
  (a15:FnAt K "_law_signs" qb7 f15)
  (a16:FnAt K "_law_some" qcF f16)
  (a17:FnAt K "_law_called" qbW f17)
  (a18:FnAt K "_law_odd" qc9 f18)
  (a19:FnAt K "_law_web" qc8 f19)
  (a20:FnAt K "_law_scene" qb8 f20)
  (a21:FnAt K "law" qhM f21)
  (z_abs:wN1 K mainGlobals "abs"=some none)
  (z_all:wN1 K mainGlobals "all"=some none)
  (z_bool:wN1 K mainGlobals "bool"=some none)
  (z_enumerate:wN1 K mainGlobals "enumerate"=some none)
  (z_int:wN1 K mainGlobals "int"=some none)
  (z_isinstance:wN1 K mainGlobals "isinstance"=some none)
  (z_len:wN1 K mainGlobals "len"=some none)
  (z_list:wN1 K mainGlobals "list"=some none)
  (z_min:wN1 K mainGlobals "min"=some none)
  (z_range:wN1 K mainGlobals "range"=some none)
  (z_set:wN1 K mainGlobals "set"=some none)
  (z_sorted:wN1 K mainGlobals "sorted"=some none)
  (z_str:wN1 K mainGlobals "str"=some none)
  (z_tuple:wN1 K mainGlobals "tuple"=some none)
  (z_zip:wN1 K mainGlobals "zip"=some none)
  :∃ fd:FuncData,(∀ (s:Shared) (v:Value),BindsTo s fd ⟨[v],[]⟩ [("_law_script",v)]) /\ ∀ base:Heap,K.In base->base.Ns mainGlobals mg->FnOk l.prog w K mg base CX0 6 fa fd ["_law_script"] (spM K 1 m_law):=by
 have e:=hfa.symm.trans (wM1 X G a21.ns);cases e;have B:Blt mg:=⟨PySem.W.mg_none_of X G z_abs,PySem.W.mg_none_of X G z_all,PySem.W.mg_none_of X G z_bool,PySem.W.mg_none_of X G z_enumerate,PySem.W.mg_none_of X G z_int,PySem.W.mg_none_of X G z_isinstance,PySem.W.mg_none_of X G z_len,PySem.W.mg_none_of X G z_list,PySem.W.mg_none_of X G z_min,PySem.W.mg_none_of X G z_range,PySem.W.mg_none_of X G z_set,PySem.W.mg_none_of X G z_sorted,PySem.W.mg_none_of X G z_str,PySem.W.mg_none_of X G z_tuple,PySem.W.mg_none_of X G z_zip⟩;obtain ⟨_,⟨⟨_,_,kV,dc,pm,an,cd,ct,_,rfl,lL,cL⟩,kL⟩⟩:=a21.fn;refine ⟨wF1 "law" "law" (qcK qhM) (qbc qhM) (qae qhM) .none kV dc pm an cd ct,fun s v=>.of_eq rfl,fun base _ _=>?_⟩;have o1:=qgr (P:=l.prog) (w:=w) (base:=base) X G a1 B;have o0:=qek (P:=l.prog) (w:=w) (base:=base) X G a2 B;have o2:=qkQ (P:=l.prog) (w:=w) (base:=base) X G a3 B;have o14:=qfG (P:=l.prog) (w:=w) (base:=base) X G a4 B;have o3:=qfE (P:=l.prog) (w:=w) (base:=base) X G a5 B;have o4:=qem (P:=l.prog) (w:=w) (base:=base) X G a6 B;have o10:=qeU (P:=l.prog) (w:=w) (base:=base) X G a7 B;have o7:=qel (P:=l.prog) (w:=w) (base:=base) X G a8 B;have o15:=qeW (P:=l.prog) (w:=w) (base:=base) X G a9 B;have o19:=qdU X G a10 B o0 o1 o2;have o5:=qhR X G a11 B o3;have o6:=qeV X G a12 B o3;have o9:=qeX X G a13 B o4 o5 o6 o3;have o8:=qeY X G a14 B o6;have o11:=qeS X G a15 B o5 o3;have o18:=qfF X G a16 B o5 o3 o7;have o13:=qen X G a17 B o6;have o16:=qgt X G a18 B o5 o3;have o12:=qgs X G a19 B o8 o9 o10 o3;have o17:=qeT X G a20 B o8 o9 o11 o3 o12;exact qpl (P:=l.prog) (w:=w) (base:=base) (qlZ lL cL kL) B o13 o14 o15 o16 o17 o18 o19
noncomputable abbrev Web:=List (List (Nat×Nat))
noncomputable def dP (p:Nat×Nat):D:=.tup [.int p.1,.int p.2]
noncomputable def dR (r:List (Nat×Nat)):D:=.tup (r.map dP)
noncomputable def dW (w:Web):D:=.tup (w.map dR)
theorem ix_tup {xs:List D}{i:Nat}{d:D}{S:Sto}(h:xs[i]? = some d):gIxY (.tup xs) (.int i) S=some (d,S):=by
 show gIx (.tup xs) (.int i) S=some (d,S);unfold gIx qao;simp [qn6 h]
theorem qp6 {w:Web}{r:Nat}{row:List (Nat×Nat)}{S:Sto}(h:w[r]? = some row):gIxY (dW w) (.int r) S=some (dR row,S):=ix_tup (by rw [gP1,h];rfl)
theorem qoi (n:Nat)(p:Nat×Nat):(dP p).und n=true:=rfl
theorem unds_map {α:Type}{f:α->D}{n:Nat}(h:∀ x,(f x).und n=true):∀ xs:List α,D.unds n (xs.map f)=true
 | []=>rfl
 | x::xs=>by rw [mP1,D.unds,h x,unds_map h xs];rfl
theorem qim (n:Nat)(r:List (Nat×Nat)):(dR r).und n=true:=by unfold dR;rw [D.und];exact unds_map (qoi n) r
theorem qgT (n:Nat)(w:Web):(dW w).und n=true:=by unfold dW;rw [D.und];exact unds_map (qim n) w
theorem len_tup {xs:List D}{S:Sto}:gLen (.tup xs) S=some (.int xs.length,S):=rfl
noncomputable def hd (g:Nat)(m c:Int):Ob:=.lst [.ref g,.int m,.int c]
theorem at0 {a b c:D}:atI [a,b,c] 0=some a:=by rfl
theorem at1 {a b c:D}:atI [a,b,c] 1=some b:=by rfl
theorem at2 {a b c:D}:atI [a,b,c] 2=some c:=by rfl
theorem qhb {S:Sto}{g:Nat}{own:List Int}(h:S[g]? = some (.lst (own.map D.int))):gNe (.ref g) (.ref S.length) (S++[.lst []])=some (.bl (!own.isEmpty),S++[.lst []]):=by
 have hg:g<S.length:=(gE1.mp h).1;have s1:qao (S++[.lst []]) (.ref g)=some (true,own.map D.int):=by rw [qao,gL1 hg,h]
 have s2:qao (S++[.lst []]) (.ref S.length)=some (true,[]):=by rw [qao,List.getElem?_concat_length]
 unfold gNe qaC;rw [show (60:Nat)=59+1 from rfl,eqN,s1,s2];cases own with
 | nil=>simp [eqL]
 | cons x xs=>simp
theorem qbY {S:Sto}{h g:Nat}{m c:Int}(e:S[h]? = some (hd g m c)):gIxY (.ref h) (.int 0) S=some (.ref g,S)/\gIxY (.ref h) (.int 1) S=some (.int m,S)/\gIxY (.ref h) (.int 2) S=some (.int c,S):=by
 unfold hd at e;refine ⟨?_,?_,?_⟩<;>simp [gIxY,gIxX,gIx,qao,e,at0,at1,at2]
theorem qlV {S:Sto}{g:Nat}{x:Int}{own:List Int}(e:S[g]? = some (.lst ((x::own).map D.int))):gIxY (.ref g) (.int 0) S=some (.int x,S):=by
 simp [gIxY,gIxX,gIx,qao,e,atI,ixN]
theorem qgc {S:Sto}{h g:Nat}{m c:Int}{own:List Int}{o1 o2 o3:Option D}(e:S[h]? = some (hd g m c))(e2:S[g]? = some (.lst (own.map D.int))):
  qa3 [some (.ref h),o1,o2,o3] S=some (match own with | []=>false | x::_=>x == 0,S++[.lst []]):=by
 have hh:h<S.length:=(gE1.mp e).1;have hg:g<S.length:=(gE1.mp e2).1;have e':(S++[.lst []])[h]? = some (hd g m c):=by rw [gL1 hh];exact e
 have e2':(S++[.lst []])[g]? = some (.lst (own.map D.int)):=by rw [gL1 hg];exact e2
 cases own with
 | nil=>simp [qa3,mAnd,mB,m2,b2,mV,mC,(qbY e).1,mLst,mNil,qhb e2]
 | cons x xs=>
  have eq0:∀ (x:Int) (S:Sto),gEq (.int x) (.int 0) S=some (.bl (x == 0),S):=fun x S=>by rfl
  simp [qa3,mAnd,mB,m2,b2,mV,mC,(qbY e).1,mLst,mNil,qhb e2,(qbY e').1,qlV e2',eq0]
theorem qoW {S:Sto}{h g:Nat}{m c x:Int}{own:List Int}{o1 o2 o3:Option D}(e:S[h]? = some (hd g m c))(e2:S[g]? = some (.lst ((x::own).map D.int))):
  qbk [some (.ref h),o1,o2,o3] S=some (.nx,[some (.ref h),o1,o2,o3],S.set g (.lst (own.map D.int))):=by
 have hi:ixN (own.length+1) 0=some 0:=by unfold ixN;rw [if_pos (by decide),if_pos (by lia)];rfl
 simp [qbk,qdc,mMt,m2,b2,mV,mC,(qbY e).1,e2,qaa,mNil,gPop,hi]
theorem qiz {h g:Nat}{m c:Int}{o1 o2 o3:Option D}(hgh:g≠h):∀ (own:List Int) (S:Sto) (f:Nat),own.length<f->S[h]? = some (hd g m c)->S[g]? = some (Ob.lst (own.map D.int))->(∀ x∈own,0<=x) ->
  ∃ (own':List Int) (n:Nat),whl qa3 qbk f [some (.ref h),o1,o2,o3] S=some (.nx,[some (.ref h),o1,o2,o3],S.set g (Ob.lst (own'.map D.int))++List.replicate n (Ob.lst []))/\(∀ x∈own',0<=x)/\(∀ x r,own'=x::r->0<x)/\own'.length<=own.length
 | [],S,f+1,hf,e,e2,hp=>by
  refine ⟨[],1,?_,by simp,by simp,nR1 _⟩;have hg:g<S.length:=(gE1.mp e2).1;have:S.set g (Ob.lst (([]:List Int).map D.int))=S:=by
   obtain ⟨hl,hx⟩:=gE1.mp e2;rw [<- hx];exact List.set_getElem_self hl
  rw [whl];dsimp only;rw [qgc e e2];simp only [oS1,this];rfl
 | x :: own,S,f+1,hf,e,e2,hp=>by
  have hg:g<S.length:=(gE1.mp e2).1;have hh:h<S.length:=(gE1.mp e).1;by_cases hx:x=0
  ·have e':(S++[Ob.lst []])[h]? = some (hd g m c):=by rw [gL1 hh];exact e
   have e2':(S++[Ob.lst []])[g]? = some (Ob.lst ((x::own).map D.int)):=by rw [gL1 hg];exact e2
   have e3:((S++[Ob.lst []]).set g (Ob.lst (own.map D.int)))[h]? = some (hd g m c):=by rw [gS1 hgh];exact e'
   have e4:((S++[Ob.lst []]).set g (Ob.lst (own.map D.int)))[g]? = some (Ob.lst (own.map D.int)):=List.getElem?_set_self (by simp;lia);obtain ⟨own',n,q,q1,q2,q3⟩:=qiz (o1:=o1) (o2:=o2) (o3:=o3) hgh own _ f (by simp at hf;lia) e3 e4 (fun y hy=>hp y (mC1 _ hy));refine ⟨own',n+1,?_,q1,q2,by simp;lia⟩;rw [whl];dsimp only;rw [qgc e e2];subst hx;simp only [oS1,beq_self_eq_true,if_true,qoW e' e2'];rw [q,List.set_set,List.set_append_left _ _ hg,List.append_assoc];rfl
  ·refine ⟨x::own,1,?_,hp,fun y r e=>?_,nR1 _⟩
   ·have:S.set g (Ob.lst ((x::own).map D.int))=S:=by
     obtain ⟨hl,hx⟩:=gE1.mp e2;rw [<- hx];exact List.set_getElem_self hl
    have hb:(x == 0)=false:=by simpa using hx
    rw [whl];dsimp only;rw [qgc e e2];simp only [oS1,this,hb];rfl
   ·cases e;have:=hp x mS1;lia
noncomputable def mix1 (m c:Int):Int:=(m+65537*c*c+11)*48271%2305843009213693921
noncomputable def mix2 (m c:Int):Int:=mix1 m c*(mix1 m c%1000003+99991*c)%2305843009213693907
theorem qmt {S:Sto}{h g:Nat}{m c k:Int}{own:List Int}(hgh:g≠h)(e:S[h]? = some (hd g m c))(e2:S[g]? = some (Ob.lst (own.map D.int)))(hp:∀ x∈own,0<=x)(hl:own.length<=1000)(hk:0<k)(hk2:k<1073741824)(hc:0<=c)(hc2:c<2^60):
  ∃ (d:Int) (own':List Int) (c':Int) (n:Nat),qab [.ref h,.int k] S=some (.int d,(S.set g (Ob.lst (own'.map D.int))).set h (hd g m c')++List.replicate n (Ob.lst []))/\0<=d/\d<k/\(∀ x∈own',0<=x)/\own'.length<=own.length/\0<=c'/\c'<=c+1:=by
 obtain ⟨own',n,q,q1,q2,q3⟩:=qiz (o1:=some (.int k)) (o2:=none) (o3:=none) hgh own S 100000 (by lia) e e2 hp;have hg:g<S.length:=(gE1.mp e2).1;have hh:h<S.length:=(gE1.mp e).1;generalize hT:S.set g (Ob.lst (own'.map D.int))=T at q;have tl:T.length=S.length:=by rw [<- hT,List.length_set]
 have t1:T[h]? = some (hd g m c):=by rw [<- hT,gS1 hgh];exact e
 have t2:T[g]? = some (Ob.lst (own'.map D.int)):=by rw [<- hT];exact List.getElem?_set_self hg
 generalize hU:T++List.replicate n (Ob.lst [])=U at q;have u1:U[h]? = some (hd g m c):=by rw [<- hU,gL1 (by lia)];exact t1
 have u2:U[g]? = some (Ob.lst (own'.map D.int)):=by rw [<- hU,gL1 (by lia)];exact t2
 have uh:h<U.length:=(gE1.mp u1).1;have ug:g<U.length:=(gE1.mp u2).1;have u3:(U++[Ob.lst []])[h]? = some (hd g m c):=by rw [gL1 uh];exact u1
 have u4:(U++[Ob.lst []])[g]? = some (Ob.lst (own'.map D.int)):=by rw [gL1 ug];exact u2
 have whole:∀ V:Sto,V.length=T.length->(V++List.replicate n (Ob.lst []))++[Ob.lst []]=V++List.replicate (n+1) (Ob.lst []):=fun V _=>by rw [List.append_assoc,<- List.replicate_succ']
 have st:qdN 4 [.ref h,.int k]=[some (.ref h),some (.int k),none,none]:=rfl;cases own' with
 | cons x r=>
  have hx:=q2 x r rfl;refine ⟨x%k,(x/k)::r,c,n+1,?_,Int.emod_nonneg _ (by lia),Int.emod_lt_of_pos _ hk,?_,q3,hc,by lia⟩
  ·have hi:ixN (r.length+1) 0=some 0:=by unfold ixN;rw [if_pos (by decide),if_pos (by lia)];rfl
   have fin:(U++[Ob.lst []]).set g (Ob.lst (((x/k)::r).map D.int))=((S.set g (Ob.lst (((x/k)::r).map D.int))).set h (hd g m c))++List.replicate (n+1) (Ob.lst []):=by
    rw [<- whole _ (by rw [List.length_set,List.length_set,tl]),<- hU,List.set_append_left _ _ (by simp;lia),List.set_append_left _ _ (by lia),<- hT,List.set_set]
    congr 2
    have:(S.set g (Ob.lst (((x/k)::r).map D.int)))[h]? = some (hd g m c):=by rw [gS1 hgh];exact e
    obtain ⟨hl,hx⟩:=gE1.mp this;rw [<- hx];exact (List.set_getElem_self hl).symm
   simp only [qab,fnB,st,qcL,mSeq,q,oS1];simp [mIfS,mB,m2,b2,mV,mC,(qbY u1).1,mLst,mNil,qhb u2,mSeq,mAsg,(qbY u3).1,qlV u4,gMod,hk,gN,gDiv,hk2,gS,b3,qbR,qfa,u4,qdl,hi,mRet];simpa using fin
  ·intro y hy;rcases List.mem_cons.mp hy with z | z
   ·rw [z];exact Int.ediv_nonneg (by lia) (by lia)
   ·exact q1 y (mC1 _ z)
 | nil=>
  refine ⟨(mix2 m (c+1)/97+mix2 m (c+1)/1000033)%k,[],c+1,n+1,?_,Int.emod_nonneg _ (by lia),Int.emod_lt_of_pos _ hk,by simp,q3,by lia,by lia⟩;have f1:qaY 65537 (c+1)=true:=qi3 (by decide) (by decide);have f2:qaY (65537*(c+1)) (c+1)=true:=qna (by lia) (by lia);have f3:qaY (m+65537*(c+1)*(c+1)+11) 48271=true:=qna (by decide) (by decide);have f4:qaY 99991 (c+1)=true:=qi3 (by decide) (by decide);have w:=Int.emod_lt_of_pos ((m+65537*(c+1)*(c+1)+11)*48271) (show (0:Int)<2305843009213693921 by decide);have w':=Int.emod_nonneg ((m+65537*(c+1)*(c+1)+11)*48271) (show (2305843009213693921:Int)≠0 by decide);have f5:qaY ((m+65537*(c+1)*(c+1)+11)*48271%2305843009213693921) ((m+65537*(c+1)*(c+1)+11)*48271%2305843009213693921%1000003+99991*(c+1))=true:=qi3 (by lia) (by lia);have fin:(U++[Ob.lst []]).set h (hd g m (c+1))=((S.set g (Ob.lst (([]:List Int).map D.int))).set h (hd g m (c+1)))++List.replicate (n+1) (Ob.lst []):=by
   rw [<- whole _ (by rw [List.length_set,List.length_set,tl]),<- hU,List.set_append_left _ _ (by simp;lia),List.set_append_left _ _ (by lia),<- hT]
  have u5:((U++[Ob.lst []]).set h (hd g m (c+1)))[h]? = some (hd g m (c+1)):=List.getElem?_set_self (by simp;lia);have i3:=qbY u5;have set2:qbR (.ref h) (.int 2) (.int (c+1)) (U++[Ob.lst []])=some (.non,(U++[Ob.lst []]).set h (hd g m (c+1))):=by
   unfold hd at u3 ⊢;simp [qbR,qfa,u3,qdl,ixN]
  simp only [qab,fnB,st,qcL,mSeq,q,oS1];simp [mIfS,mB,m2,b2,mV,mC,(qbY u1).1,mLst,mNil,qhb u2,mSeq,mAsg,(qbY u3).2.2,gMod,hk,gN,gDiv,gS,b3,set2,mRet,mNx,gAdd,gMul,i3.2.1,i3.2.2,f1,f2,f3,f4,f5,mix1,mix2];simpa using fin
structure Hand (h g:Nat)(n:Nat)(S:Sto):Prop where
 ne:g≠h
 at_:∃ (m c:Int) (own:List Int),S[h]? = some (hd g m c)/\S[g]? = some (Ob.lst (own.map D.int))/\(∀ x∈own,0<=x)/\own.length<=1000/\0<=c/\c<=n
noncomputable def Shut (S:Sto):Prop:=S.all (Ob.und S.length)=true
structure Chg (h g:Nat)(S S':Sto):Prop where
 len:S'.length=S.length
 same:∀ i,i≠h->i≠g->S'[i]? = S[i]?
theorem qnH {n:Nat}{d:D}{S G:Sto}(hl:S.length=n)(hd:d.und n=true)(ha:S.all (Ob.und n)=true):gc n (d,S++G)=(d,S):=by
 have e:(S++G).take n=S:=by rw [<- hl,List.take_left]
 unfold gc;dsimp only;rw [if_pos (by rw [e,hd,ha];rfl),e]
theorem qgN {p:Ob->Bool}{S:Sto}{i:Nat}{o:Ob}(h:S.all p=true)(ho:p o=true):(S.set i o).all p=true:=by
 rw [List.all_eq_true] at h ⊢;intro x hx;rcases List.mem_or_eq_of_mem_set hx with h1 | h1
 ·exact h x h1
 ·rw [h1];exact ho
theorem qis {S:Sto}{h g n:Nat}{k:Int}(H:Hand h g n S)(hS:Shut S)(hn:n<2^59)(hk:0<k)(hk2:k<1073741824):
  ∃ (d:Nat) (S':Sto),qaf 2 qab [.ref h,.int k] S=some (.int d,S')/\(d:Int)<k/\Hand h g (n+1) S'/\Shut S'/\Chg h g S S':=by
 obtain ⟨m,c,own,e1,e2,hp,hl,c0,cn⟩:=H.at_;obtain ⟨d,own',c',z,q,d0,d1,p',l',c0',c1'⟩:=qmt H.ne e1 e2 hp hl hk hk2 c0 (by lia);have hh:h<S.length:=(gE1.mp e1).1;have hg:g<S.length:=(gE1.mp e2).1;obtain ⟨k',rfl⟩:=Int.eq_ofNat_of_zero_le d0;have sh:((S.set g (Ob.lst (own'.map D.int))).set h (hd g m c')).all (Ob.und S.length)=true:=
  qgN (qgN hS (by rw [Ob.und];exact qay _ _)) (by unfold hd;rw [Ob.und,D.unds,D.unds,D.unds,D.unds,D.und,D.und,D.und];simp [hg])
 refine ⟨k',(S.set g (Ob.lst (own'.map D.int))).set h (hd g m c'),?_,d1,⟨H.ne,m,c',own',?_,?_,p',by lia,c0',by push_cast;lia⟩,?_,?_,?_⟩
 ·rw [qeb (n:=2) q rfl rfl,qnH (by simp) rfl sh]
 ·rw [List.getElem?_set_self (by simpa using hh)]
 ·rw [gS1 H.ne.symm,List.getElem?_set_self hg]
 ·unfold Shut;rw [List.length_set,List.length_set];exact sh
 ·simp
 ·intro i h1 h2;rw [gS1 (Ne.symm h1),gS1 (Ne.symm h2)]
structure HS (h g n:Nat)(B U:Sto):Prop where
 hl:h<B.length
 gl:g<B.length
 len:B.length<=U.length
 same:∀ i,i<B.length->i≠h->i≠g->U[i]? = B[i]?
 hand:Hand h g n U
 shut:Shut U
theorem HS.more {h g n n':Nat}{B U:Sto}(s:HS h g n B U)(hn:n<=n'):HS h g n' B U:=by
 obtain ⟨m,c,own,e1,e2,e3,e4,e5,e6⟩:=s.hand.at_;exact ⟨s.hl,s.gl,s.len,s.same,⟨s.hand.ne,m,c,own,e1,e2,e3,e4,e5,by lia⟩,s.shut⟩
theorem HS.self {h g n:Nat}{U:Sto}(H:Hand h g n U)(hS:Shut U):HS h g n U U:=by
 obtain ⟨m,c,own,e1,e2,_⟩:=H.at_;exact ⟨(gE1.mp e1).1,(gE1.mp e2).1,nR1 _,fun _ _ _ _=>rfl,H,hS⟩
theorem HS.trans {h g n n':Nat}{B U V:Sto}(a:HS h g n B U)(b:HS h g n' U V):HS h g n' B V:=
 ⟨a.hl,a.gl,Nat.le_trans a.len b.len,fun i hi h1 h2=>(b.same i (nL1 hi a.len) h1 h2).trans (a.same i hi h1 h2),b.hand,b.shut⟩
theorem HS.at {h g n:Nat}{B U:Sto}(s:HS h g n B U){i:Nat}{o:Ob}(e:B[i]? = some o)(h1:i≠h)(h2:i≠g):U[i]? = some o:=by
 rw [s.same i (gE1.mp e).1 h1 h2];exact e
theorem qks {U:Sto}{G:Sto}(s:Shut U)(hg:∀ o∈G,o.und (U++G).length=true):Shut (U++G):=by
 unfold Shut at *
 rw [List.all_append,bA1];rw [List.all_eq_true] at s;refine ⟨List.all_eq_true.mpr fun o ho=>qeZ (by rw [lA1];lia) (s o ho),List.all_eq_true.mpr hg⟩
theorem qkr {U:Sto}{i:Nat}{o:Ob}(s:Shut U)(ho:o.und U.length=true):Shut (U.set i o):=by
 unfold Shut at *
 rw [List.length_set];exact qgN s ho
theorem HS.app {h g n:Nat}{B U G:Sto}(s:HS h g n B U)(hg:∀ o∈G,o.und (U++G).length=true):HS h g n B (U++G):=by
 obtain ⟨m,c,own,e1,e2,e3,e4,e5,e6⟩:=s.hand.at_;refine ⟨s.hl,s.gl,by rw [lA1];have:=s.len;lia,fun i hi h1 h2=>?_,⟨s.hand.ne,m,c,own,?_,?_,e3,e4,e5,e6⟩,qks s.shut hg⟩
 ·rw [gL1 (by have:=s.len;lia)];exact s.same i hi h1 h2
 ·rw [gL1 (gE1.mp e1).1];exact e1
 ·rw [gL1 (gE1.mp e2).1];exact e2
theorem HS.set {h g n i:Nat}{B U:Sto}{o:Ob}(s:HS h g n B U)(hi:B.length<=i)(ho:o.und U.length=true):HS h g n B (U.set i o):=by
 obtain ⟨m,c,own,e1,e2,e3,e4,e5,e6⟩:=s.hand.at_;have h1:=s.hl;have h2:=s.gl;refine ⟨s.hl,s.gl,by rw [List.length_set];exact s.len,fun j hj a b=>?_,⟨s.hand.ne,m,c,own,?_,?_,e3,e4,e5,e6⟩,qkr s.shut ho⟩
 ·rw [gS1 (by lia)];exact s.same j hj a b
 ·rw [gS1 (by lia)];exact e1
 ·rw [gS1 (by lia)];exact e2
theorem qaX {h g n:Nat}{B U:Sto}{k:Int}{Q:D×Sto->Prop}(s:HS h g n B U)(hn:n<=2^50)(hk:0<k)(hk2:k<1073741824)
  (q:∀ (d:Nat) U',HS h g (n+1) B U'->HS h g (n+1) U U'->U'.length=U.length->(d:Int)<k->Q (.int d,U')):W (qaf 2 qab [.ref h,.int k] U) Q:=by
 obtain ⟨d,U',e,hd,H',S',C⟩:=qis s.hand s.shut (by lia) hk hk2;have h1:=s.hl;have h2:=s.gl;have h3:=s.len;have u:HS h g (n+1) U U':=⟨by lia,by lia,by rw [C.len];lia,fun i _ a b=>C.same i a b,H',S'⟩;exact ⟨_,e,q d U' (s.trans u) u C.len hd⟩
theorem qgL {n h g c c':Nat}{f:FN}{ds:List D}{B U:Sto}{Q:D×Sto->Prop}(hn:ds.length=n)(hu:D.unds 0 ds=false)(s:HS h g c B U)
  (q:W (f ds U) fun p=>HS h g c' U p.2/\p.1.und 0=true /\ ∀ U',HS h g c' B U'->HS h g c' U U'->U'.length=U.length->Q (p.1,U')):W (qaf n f ds U) Q:=by
 refine qf3 hn hu (q.mono ?_);rintro ⟨d,V⟩ ⟨v,hd,q⟩;dsimp only at v hd q;have hl:=v.len;have l1:=s.hl;have l2:=s.gl;have l3:=s.len;have tl:(V.take U.length).length=U.length:=by rw [List.length_take];lia
 obtain ⟨m,cc,own,e1,e2,e3,e4,e5,e6⟩:=v.hand.at_;have get:∀ i,i<U.length->(V.take U.length)[i]? = V[i]?:=fun i hi=>by rw [List.getElem?_take_of_lt hi]
 have sh:(V.take U.length).all (Ob.und U.length)=true:=by
  rw [List.all_eq_true];intro o ho;obtain ⟨i,hi⟩:=List.getElem?_of_mem ho;have hlt:i<U.length:=by rw [<- tl];exact (gE1.mp hi).1
  rw [get i hlt] at hi;by_cases a:i=h
  ·subst a;rw [e1] at hi;cases hi;simp [hd,Law.hd,Ob.und,D.unds,D.und];lia
  ·by_cases b:i=g
   ·subst b;rw [e2] at hi;cases hi;rw [Ob.und];exact qay _ _
   ·rw [v.same i hlt a b] at hi;have:=s.shut;unfold Shut at this;rw [List.all_eq_true] at this;exact this o (gM1 hi)
 have u:HS h g c' U (V.take U.length):=by
  refine ⟨v.hl,v.gl,by rw [tl];lia,fun i hi a b=>by rw [get i hi];exact v.same i hi a b,⟨v.hand.ne,m,cc,own,by rw [get h (by lia)];exact e1,by rw [get g (by lia)];exact e2,e3,e4,e5,e6⟩,?_⟩;unfold Shut;rw [tl];exact sh
 have e:gc U.length (d,V)=(d,V.take U.length):=by
  unfold gc;dsimp only;rw [if_pos (by rw [qcQ hd,sh];rfl)]
 rw [e];exact q _ (s.trans u) u tl
theorem qez:∀ {xs:List D} {i:Nat} (h:i<xs.length),(xs[i]::xs.eraseIdx i).Perm xs
 | x::xs,0,h=>List.Perm.refl _
 | x::xs,i+1,h=>by
  have:=qez (xs:=xs) (i:=i) (by simpa using h);rw [List.eraseIdx_cons_succ,List.getElem_cons_succ];exact (List.Perm.swap _ _ _).trans (this.cons x)
theorem qeq {n:Nat}{xs:List D}{i:Nat}(h:D.unds n xs=true):D.unds n (xs.eraseIdx i)=true:=by
 induction xs generalizing i with
 | nil=>simpa using h
 | cons x xs ih=>
  rw [D.unds,bA1] at h;cases i with
  | zero=>exact h.2
  | succ i=>rw [List.eraseIdx_cons_succ,D.unds,h.1,ih h.2];rfl
theorem qgq {h g c r:Nat}{B U:Sto}{xs:List D}{Q:D×Sto->Prop}(s:HS h g c B U)(hc:c<=2^45)(hr:U[r]? = some (.lst xs))(hrh:r≠h)(hrg:r≠g)(hl:xs.length<=100)(hx:D.unds 0 xs=true)
  (q:∀ k ys U',HS h g (c+xs.length) B U'->HS h g (c+xs.length) U U'->U.length<=k->U'[k]? = some (.lst ys)->ys.Perm xs->Q (.ref k,U')):W (qaf 2 qaB [.ref h,.ref r] U) Q:=by
 refine qf3 rfl rfl ?_;unfold qaB;refine fnW ?_;unfold qdp;have h1:=s.hl;have h2:=s.gl;have h3:=s.len;have s0:HS h g c U U:=HS.self s.hand s.shut;refine seqW (fun r' S=>S=U++[.lst xs]/\r'=[some (.ref h),some (.ref r),some (.ref U.length)]) ?_ ?_
 ·((try walk_at "own wq");repeat (simp only [gLst,qc6 hr];try walk_at "own wq"))
 rintro r' S ⟨rfl,rfl⟩;have hr2:(U++[Ob.lst xs])[r]? = some (.lst xs):=by rw [gL1 (gE1.mp hr).1];exact hr
 walk_at "own wq";refine qaw hr2 ?_;dsimp only;rw [Int.toNat_natCast];refine ⟨qbd (by lia),?_⟩;refine qbt (fun i acc r' S=>∃ x left,i<=xs.length/\r'=[x,some (.ref U.length),some (.ref h)]/\HS h g (c+i) U S/\S.length=U.length+1/\S[U.length]? = some (.lst left)/\(acc++left).Perm xs/\acc.length=i/\D.unds 0 left=true) (nums 0 xs.length) 0 [] _ _ ⟨none,xs,by lia,rfl,s0.app (fun o ho=>by simp at ho;subst ho;rw [Ob.und];exact qbf hx),by simp,by simp,by simp,rfl,hx⟩ (fun _ _ _ _ _=>rfl) ?_ ?_
 ·rintro i d hd acc r' S ⟨x,left,hi,rfl,hs,hsl,hleft,hp,ha,hu⟩;have hlt:=(gE1.mp hd).1;rw [qaz] at hlt;rw [Nat.zero_add] at *
  have hll:left.length=xs.length-i:=by
   have:=hp.length_eq;rw [lA1] at this;lia
  walk_at "own wq";refine qeg ?_;walk_at "own wq";refine ⟨U.length,left,rfl,hleft,?_⟩;refine qaw hleft ?_;dsimp only;refine qaX hs (by lia) (by lia) (by lia) fun j S' hs1 hs2 hl2 hj=>?_;have hj':j<left.length:=by lia
  have hleft':S'[U.length]? = some (.lst left):=hs2.at hleft (by lia) (by lia);walk_at "own wq";refine qqC hleft' (gG1 hj') (by lia) ?_;refine ⟨_,left.eraseIdx j,by lia,rfl,hs1.set (nR1 _) (by rw [Ob.und];exact qbf (qeq hu)),by rw [List.length_set];lia,by rw [List.getElem?_set_self (by lia)],?_,by lia,qeq hu⟩;have:=qez hj';exact (List.Perm.append_left acc this).trans hp
 ·rintro ys r' S ⟨x,left,hi,rfl,hs,hsl,hleft,hp,ha,hu⟩;rw [List.nil_append,Nat.zero_add,qaz] at *
  have hll:left=[]:=by
   have:=hp.length_eq;rw [lA1] at this;exact List.eq_nil_of_length_eq_zero (by lia)
  subst hll;rw [List.append_nil] at hp;walk_at "own wq";refine ⟨qah (by lia),?_⟩;have hu2:D.unds 0 ys=true:=unds_of' fun y hy=>qdA hx (hp.mem_iff.mp hy);have hv:HS h g (c+xs.length) U (S++[.lst ys]):=hs.app fun o ho=>by simp at ho;subst ho;rw [Ob.und];exact qbf hu2
  have hg:gc U.length (.ref S.length,S++[.lst ys])=(.ref S.length,S++[.lst ys]):=by
   unfold gc;rw [if_neg];simp [D.und];intro z;lia
  rw [hg];exact q S.length ys _ (s.trans hv) hv (by lia) (by rw [List.getElem?_concat_length]) hp
where
 unds_of' {xs:List D}:(∀ x∈xs,x.und 0=true)->D.unds 0 xs=true:=by
  induction xs with
  | nil=>intro _;rfl
  | cons x xs ih=>intro h;rw [D.unds,h x mS1,ih fun y hy=>h y (mC1 _ hy)];rfl
noncomputable abbrev qad:=List (List (Nat×Nat))
structure EW (b m:Nat)(E:qad)(U:Sto):Prop where
 el:E.length=m
 row:∀ (i:Nat) (row:List (Nat×Nat)),E[i]? = some row->U[b+i]? = some (qda row)
 ends:U[b+m]? = some (.lst (refs b m))
theorem EW.over {h g n b m:Nat}{E:qad}{U V:Sto}(e:EW b m E U)(s:HS h g n U V)(hh:h<b)(hg:g<b):EW b m E V:=
 ⟨e.el,fun i row hr=>s.at (e.row i row hr) (by lia) (by lia),s.at e.ends (by lia) (by lia)⟩
theorem EW.setRow {b m i:Nat}{E:qad}{U:Sto}{row:List (Nat×Nat)}(w:EW b m E U)(hi:i<m):EW b m (E.set i row) (U.set (b+i) (qda row)):=by
 have hl:b+m<U.length:=(gE1.mp w.ends).1;refine ⟨by rw [List.length_set];exact w.el,fun j row' h=>?_,by rw [gS1 (by lia)];exact w.ends⟩;by_cases e:i=j
 ·subst e;rw [List.getElem?_set_self (by rw [w.el];exact hi)] at h;cases h;rw [List.getElem?_set_self (by lia)]
 ·rw [gS1 e] at h;rw [gS1 (by lia)];exact w.row j row' h
theorem qeh {b m i:Nat}{E:qad}{U:Sto}{Q:D×Sto->Prop}(w:EW b m E U)(hi:i<m)(q:Q (.ref (b+i),U)):W (gIxY (.ref (b+m)) (.int i) U) Q:=
 qfq (xs:=refs b m) (x:=.ref (b+i)) w.ends (qgk hi) q
theorem qhi {b m a c e:Nat}{E:qad}{U:Sto}{Q:D×Sto->Prop}(w:EW b m E U)(ha:a<m)(hc:c<m){ra:List (Nat×Nat)}(hra:E[a]? = some ra)(la:ra.length<=4){rc:List (Nat×Nat)}(hrc:E[c]? = some rc)(lc:rc.length<=4)
  (q0:(ra.length+(if a=c then 1 else 0)>3\/rc.length>3)->Q (.int e,U))
  (q1:ra.length+(if a=c then 1 else 0)<=3->rc.length<=3 -> ∀ rb,(E.set a (ra++[(e,0)]))[c]? = some rb->Q (.int ((e+1:Nat):Int),(U.set (b+a) (qda (ra++[(e,0)]))).set (b+c) (qda (rb++[(e,1)])))):
  W (qaf 4 qaL [.ref (b+m),.int a,.int c,.int e] U) Q:=by
 have key:W (qaL [.ref (b+m),.int a,.int c,.int e] U) fun p=>p.2.length=U.length/\Q p:=by
  unfold qaL;refine fnW ?_;unfold qc3;have e1:((a:Int) == (c:Int))=decide (a=c):=by
   rw [Bool.eq_iff_iff,beq_iff_eq,decide_eq_true_eq];lia
  walk_at "own wq";refine qeh w ha ?_;walk_at "own wq";refine qaw (xs:=ra.map pD) (w.row a ra hra) ?_
  ((try walk_at "own wq");repeat (simp only [e1];try walk_at "own wq"))
  have go:ra.length+(if a=c then 1 else 0)<=3->rc.length<=3->W (mMt (b2 gApp) (m2 (b2 gIxY) (mV 0) (mV 1)) (qaa (mTup (qaa (mV 3) (qaa (mC (D.int 0)) mNil))) mNil) [some (.ref (b+m)),some (.int a),some (.int c),some (.int e)] U) fun x=>
    W (mMt (b2 gApp) (m2 (b2 gIxY) (mV 0) (mV 2)) (qaa (mTup (qaa (mV 3) (qaa (mC (D.int 1)) mNil))) mNil) [some (.ref (b+m)),some (.int a),some (.int c),some (.int e)] x.2) fun x=>
     x.2.length=U.length/\Q (.int ((e:Int)+1),x.2):=by
   intro c1 c2;refine qeg ?_;walk_at "own wq";refine qeh w ha ?_;refine ⟨b+a,ra.map pD,rfl,w.row a ra hra,?_⟩;walk_at "own wq";rw [qgO (xs:=ra.map pD) (w.row a ra hra)];refine ⟨qah (by rw [lM1];lia),?_⟩;have er:(ra.map pD++[D.tup [D.int ↑e,D.int 0]])=(ra++[(e,0)]).map pD:=by simp [pD]
   rw [er];have w1:=w.setRow (row:=ra++[(e,0)]) ha;obtain ⟨rb,hrb⟩:∃ rb,(E.set a (ra++[(e,0)]))[c]? = some rb:=⟨_,gG1 (by rw [w1.el];exact hc)⟩;have lb:rb.length<=8:=by
    by_cases z:a=c
    ·subst z;rw [List.getElem?_set_self (by rw [w.el];exact ha)] at hrb;cases hrb;simp;lia
    ·rw [gS1 z,hrc] at hrb;cases hrb;lia
   refine qeg ?_;walk_at "own wq";refine qeh w1 hc ?_;refine ⟨b+c,rb.map pD,rfl,w1.row c rb hrb,?_⟩;walk_at "own wq";refine (qgO (xs:=rb.map pD) (w1.row c rb hrb)).mpr ?_;refine ⟨qah (by rw [lM1];lia),?_⟩;have er2:(rb.map pD++[D.tup [D.int ↑e,D.int 1]])=(rb++[(e,1)]).map pD:=by simp [pD]
   rw [er2];have:=q1 c1 c2 rb hrb;refine ⟨by simp,?_⟩;simpa [qda] using this
  have ei:(if decide (a=c)=true then (1:Int) else 0)=((if a=c then 1 else 0:Nat):Int):=by
   by_cases z:a=c<;>simp [z]
  rw [ei,lM1];by_cases c1:ra.length+(if a=c then 1 else 0)<=3
  ·rw [if_neg (by rw [decide_eq_true_eq];lia)];refine qeh w hc ?_;walk_at "own wq";refine qaw (xs:=rc.map pD) (w.row c rc hrc) ?_;walk_at "own wq";rw [lM1];by_cases c2:rc.length<=3
   ·rw [if_neg (by rw [decide_eq_true_eq];lia)];exact go c1 c2
   ·rw [if_pos (by rw [decide_eq_true_eq];lia)];exact q0 (.inr (by lia))
  ·rw [if_pos (by rw [decide_eq_true_eq];lia)];exact q0 (.inl (by lia))
 obtain ⟨⟨d,S1⟩,ek,hl,q⟩:=key;exact ⟨_,qj2 ek rfl rfl hl,q⟩
noncomputable def allE:Nat->List (Nat×Nat)
 | 0=>[]
 | e+1=>(e,1)::(e,0)::allE e
theorem qhB:∀ e,(allE e).length=2*e
 | 0=>rfl
 | e+1=>by rw [allE,lC1,lC1,qhB e];lia
theorem qbx:∀ {e:Nat} {x:Nat×Nat},x∈allE e↔x.1<e/\x.2<=1
 | 0,x=>by simp [allE]
 | e+1,x=>by
  rw [allE,List.mem_cons,List.mem_cons,qbx (e:=e)];obtain ⟨a,b⟩:=x;simp only [Prod.mk.injEq];lia
theorem qdb:∀ e,(allE e).Nodup
 | 0=>List.nodup_nil
 | e+1=>by
  rw [allE,List.nodup_cons,List.nodup_cons];refine ⟨fun h=>?_,fun h=>?_,qdb e⟩
  ·rcases List.mem_cons.mp h with h | h
   ·simp at h
   ·have:=(qbx.mp h).1;simp at this
  ·have:=(qbx.mp h).1;simp at this
theorem qfc:∀ {E:qad} {i:Nat} {row:List (Nat×Nat)} {x:Nat×Nat},E[i]? = some row->(E.set i (row++[x])).flatten.Perm (x::E.flatten)
 | [],i,_,_,h=>by simp at h
 | a::E,0,row,x,h=>by
  simp at h;subst h;rw [List.set_cons_zero,List.flatten_cons,List.flatten_cons,List.append_assoc];exact List.perm_middle
 | a::E,i+1,row,x,h=>by
  have:=qfc (E:=E) (i:=i) (row:=row) (x:=x) (by simpa using h);rw [List.set_cons_succ,List.flatten_cons,List.flatten_cons];exact (List.Perm.append_left a this).trans List.perm_middle
structure DI (m:Nat)(E:qad)(e:Nat):Prop where
 len:E.length=m
 all:E.flatten.Perm (allE e)
 le:∀ (i:Nat) (row:List (Nat×Nat)),E[i]? = some row->row.length<=4
theorem DI.start (m:Nat):DI m (List.replicate m []) 0:=by
 refine ⟨by simp,by simp [allE],fun i row h=>?_⟩;rw [List.getElem?_replicate] at h;split at h
 ·cases h;simp
 ·cases h
theorem DI.tot {m:Nat}{E:qad}{e:Nat}(d:DI m E e):Mi.tot E=2*e:=by
 unfold Mi.tot;rw [<- List.length_flatten,d.all.length_eq,qhB]
theorem DI.join {m a c e:Nat}{E:qad}{ra rb:List (Nat×Nat)}(d:DI m E e)(ha:E[a]? = some ra)(la:ra.length<4)(hb:(E.set a (ra++[(e,0)]))[c]? = some rb)(lb:rb.length<4):
  DI m ((E.set a (ra++[(e,0)])).set c (rb++[(e,1)])) (e+1):=by
 refine ⟨by rw [List.length_set,List.length_set];exact d.len,?_,fun j row hj=>?_⟩
 ·exact (qfc hb).trans (((qfc ha).trans (d.all.cons _)).cons _)
 ·by_cases z:c=j
  ·subst z;rw [List.getElem?_set_self (gE1.mp hb).1] at hj;cases hj;simp;lia
  ·rw [gS1 z] at hj;by_cases z2:a=j
   ·subst z2;rw [List.getElem?_set_self (gE1.mp ha).1] at hj;cases hj;simp;lia
   ·rw [gS1 z2] at hj;exact d.le j row hj
theorem of_W {h g c r:Nat}{B U:Sto}{xs:List D}{Q:D×Sto->Prop}(s:HS h g c B U)(hc:c<=2^45)(hr:U[r]? = some (.lst xs))(hrh:r≠h)(hrg:r≠g)(hl:xs.length<=100)(hne:0<xs.length)(hx:∀ x∈xs,x.und 0=true)
  (q:∀ x U',x∈xs->HS h g (c+1) B U'->HS h g (c+1) U U'->U'.length=U.length->Q (x,U')):W (qaf 2 qaA [.ref h,.ref r] U) Q:=by
 refine qgL (c':=c+1) rfl rfl s ?_;unfold qaA;refine fnW ?_;unfold qed;walk_at "own wq";refine qaw hr ?_;dsimp only;have s0:HS h g c U U:=HS.self s.hand s.shut;refine qaX s0 (by lia) (by lia) (by lia) fun j U' h1 h2 h3 hj=>?_;have hj':j<xs.length:=by lia
 refine qfq (i:=j) (h2.at hr hrh hrg) (gG1 hj') ?_;exact ⟨h2,hx _ (List.getElem_mem hj'),fun U'' a b e=>q _ U'' (List.getElem_mem hj') a b e⟩
theorem qor {h g n b m i:Nat}{most:Int}{U0 U:Sto}{E:qad}{x6:Option D}{Q:Fl×Ev×Sto->Prop}(s:HS h g n U0 U)(hb:U0.length=b)(hn:n<=2^44)(w:EW b m E U)(d:DI m E i)(hi:i+1<m)(hm:m<=8)
  (he:∀ (j:Nat) (row:List (Nat×Nat)),i+1<=j->E[j]? = some row->row=[])
  (q:∀ E' U' x6',HS h g (n+1) U0 U'->EW b m E' U'->DI m E' (i+1)->(∀ (j:Nat) (row:List (Nat×Nat)),i+2<=j->E'[j]? = some row->row=[]) ->
   Q (.nx,[some (.ref h),some (.int most),some (.int m),some (.int ((i+1:Nat):Int)),some (.ref (b+m)),some (.int ((i+1:Nat):Int)),x6',none,none,none,none,none,none,none],U')):
  W (qbD [some (.ref h),some (.int most),some (.int m),some (.int (i:Int)),some (.ref (b+m)),some (.int ((i+1:Nat):Int)),x6,none,none,none,none,none,none,none] U) Q:=by
 have hh:=s.hl;have hg:=s.gl;have hbl:=s.len;have rowAt:∀ j,j<m -> ∃ row,E[j]? = some row:=fun j hj=>⟨_,gG1 (by rw [d.len];exact hj)⟩
 let k:Nat->Bool:=fun j=>decide ((E.getD j []).length<4)
 unfold qbD;walk_at "own wq";rw [qgu,Int.toNat_natCast];refine ⟨qbd (by lia),?_⟩;refine qdg k (fun j:Nat=>.int j) (fun r=>∃ x,r=[x,some (.ref (b+m))]) rfl (List.range (i+1)) _ ⟨_,rfl⟩ ?_ ?_
 ·rintro j hj r ⟨x,rfl⟩;have hj':j<m:=by have:=List.mem_range.mp hj;lia
  obtain ⟨row,hrow⟩:=rowAt j hj';walk_at "own wq";refine qeh w hj' ?_;walk_at "own wq";refine qaw (xs:=row.map pD) (w.row j row hrow) ?_;walk_at "own wq";refine ⟨?_,⟨_,rfl⟩,fun _=>trivial⟩;simp only [k,List.getD_eq_getElem?_getD,hrow,Option.getD_some,lM1];rw [Bool.eq_iff_iff,decide_eq_true_eq,decide_eq_true_eq];lia
 ·rintro r' _;walk_at "own wq";have hne:(List.range (i+1)).filter k≠[]:=by
   intro z;have all4:∀ (j:Nat) (row:List (Nat×Nat)),j<i+1->E[j]? = some row->4<=row.length:=fun j row hj hr=>by
    have:=List.filter_eq_nil_iff.mp z j (List.mem_range.mpr hj);simp only [k,List.getD_eq_getElem?_getD,hr,Option.getD_some,decide_eq_true_eq] at this;lia
   have:=qlD (E:=E) (k:=i+1) (by rw [d.len];lia) all4;have:=d.tot;lia
  generalize hL:(List.range (i+1)).filter k=L at hne;have hLm:∀ j∈L,j<i+1/\k j=true:=fun j hj=>by
   rw [<- hL,List.mem_filter] at hj;exact ⟨List.mem_range.mp hj.1,hj.2⟩
  have hLl:L.length<=8:=by
   rw [<- hL];have:=List.length_filter_le k (List.range (i+1));simp at this;lia
  refine ⟨qah (by rw [lM1];lia),?_⟩;have s1:HS h g n U0 (U++[.lst (L.map fun j:Nat=>D.int j)]):=s.app fun o ho=>by simp at ho;subst ho;rw [Ob.und];exact Mi.unds_map fun _ _=>rfl
  have s1':HS h g n U (U++[.lst (L.map fun j:Nat=>D.int j)]):=(HS.self s.hand s.shut).app fun o ho=>by simp at ho;subst ho;rw [Ob.und];exact Mi.unds_map fun _ _=>rfl
  refine of_W s1 (by lia) (xs:=L.map fun j:Nat=>D.int j) (by rw [qaj];rfl) (by lia) (by lia) (by rw [lM1];lia) (by rw [lM1];exact List.length_pos_iff.mpr hne) (fun x hx=>by obtain ⟨y,_,rfl⟩:=List.mem_map.mp hx;rfl) fun x U2 hx s2 s2' l2=>?_;obtain ⟨j,hj,rfl⟩:=List.mem_map.mp hx;obtain ⟨hj1,hj2⟩:=hLm j hj;obtain ⟨row,hrow⟩:=rowAt j (by lia);have hrl:row.length<4:=by
   simp only [k,List.getD_eq_getElem?_getD,hrow,Option.getD_some,decide_eq_true_eq] at hj2;exact hj2
  obtain ⟨rb,hrb⟩:=rowAt (i+1) hi;have hrb0:=he (i+1) rb (nR1 _) hrb;subst hrb0;have w2:EW b m E U2:=(w.over s1' (by lia) (by lia)).over s2' (by lia) (by lia);have hne2:j≠i+1:=by lia
  walk_at "own wq";refine qhi (a:=j) (c:=i+1) (e:=i) w2 (by lia) hi hrow (by lia) hrb (by simp) (fun z=>?_) fun _ _ rb' hrb'=>?_
  ·rw [if_neg hne2] at z;simp at z;lia
  ·have hrb3:rb'=[]:=by
    rw [gS1 hne2,hrb] at hrb';cases hrb';rfl
   subst hrb3;have w3:=(w2.setRow (row:=row++[(i,0)]) (show j<m by lia)).setRow (row:=[]++[(i,1)]) hi;have s3:=(s2.set (i:=b+j) (o:=qda (row++[(i,0)])) (by lia) qcV).set (i:=b+(i+1)) (o:=qda ([]++[(i,1)])) (by lia) qcV;refine q _ _ _ s3 w3 (d.join hrow hrl hrb' (by simp)) fun j' row' hj' hr'=>?_;rw [gS1 (by lia),gS1 (by lia)] at hr';exact he j' row' (by lia) hr'
theorem qpB {h g n b m e:Nat}{most:Int}{U0 U:Sto}{E:qad}{x5 x6 x7 x8:Option D}{Q:Fl×Ev×Sto->Prop}(s:HS h g n U0 U)(hb:U0.length=b)(hn:n<=2^44)(w:EW b m E U)(d:DI m E e)(hm0:0<m)(hm:m<=8)
  (q:∀ E' U' e' x8',HS h g (n+2) U0 U'->EW b m E' U'->DI m E' e'->e'<=e+1 ->
   Q (.nx,[some (.ref h),some (.int most),some (.int m),some (.int (e':Nat)),some (.ref (b+m)),x5,x6,x7,x8',none,none,none,none,none],U')):
  W (qbC [some (.ref h),some (.int most),some (.int m),some (.int (e:Nat)),some (.ref (b+m)),x5,x6,x7,x8,none,none,none,none,none] U) Q:=by
 have hh:=s.hl;have hg:=s.gl;have hbl:=s.len;have rowAt:∀ j,j<m -> ∃ row,E[j]? = some row:=fun j hj=>⟨_,gG1 (by rw [d.len];exact hj)⟩;unfold qbC;walk_at "own wq";refine qaX s (by lia) (by lia) (by lia) fun a U1 s1 s1' l1 ha=>?_;walk_at "own wq";refine qaX s1 (by lia) (by lia) (by lia) fun c U2 s2 s2' l2 hc=>?_;have w2:EW b m E U2:=(w.over s1' (by lia) (by lia)).over s2' (by lia) (by lia);obtain ⟨ra,hra⟩:=rowAt a (by lia);obtain ⟨rc,hrc⟩:=rowAt c (by lia);walk_at "own wq";refine qhi (a:=a) (c:=c) (e:=e) w2 (by lia) (by lia) hra (d.le a ra hra) hrc (d.le c rc hrc) (fun _=>?_) fun c1 c2 rb hrb=>?_
 ·exact q E U2 e _ s2 w2 d (by lia)
 ·have lb:rb.length<4:=by
   by_cases z:a=c
   ·subst z;rw [List.getElem?_set_self (by rw [d.len];lia)] at hrb;cases hrb;rw [if_pos rfl] at c1;simp;lia
   ·rw [gS1 z,hrc] at hrb;cases hrb;lia
  have la:ra.length<4:=by split at c1<;>lia
  have w3:=(w2.setRow (row:=ra++[(e,0)]) (show a<m by lia)).setRow (row:=rb++[(e,1)]) (show c<m by lia);have s3:=(s2.set (i:=b+a) (o:=qda (ra++[(e,0)])) (by lia) qcV).set (i:=b+c) (o:=qda (rb++[(e,1)])) (by lia) qcV;exact q _ _ (e+1) _ s3 w3 (d.join hra la hrb lb) (by lia)
noncomputable def At (R:qad)(r d:Nat)(x:Nat×Nat):Prop:=∃ row,R[r]? = some row/\row[d]? = some x
theorem At.mem {R:qad}{r d:Nat}{x:Nat×Nat}(h:At R r d x):x∈R.flatten:=by
 obtain ⟨row,h1,h2⟩:=h;exact List.mem_flatten.mpr ⟨row,gM1 h1,gM1 h2⟩
theorem qj7 {R:qad}{x:Nat×Nat}(h:x∈R.flatten):∃ p:Nat×Nat,At R p.1 p.2 x:=by
 obtain ⟨row,h1,h2⟩:=List.mem_flatten.mp h;obtain ⟨r,hr⟩:=List.getElem?_of_mem h1;obtain ⟨d,hd⟩:=List.getElem?_of_mem h2;exact ⟨(r,d),row,hr,hd⟩
theorem qfH {α:Type}:∀ {l:List α} {i j:Nat} {x:α},l.Nodup->l[i]? = some x->l[j]? = some x->i=j
 | [],i,j,x,_,h,_=>by simp at h
 | a::l,0,0,x,_,_,_=>rfl
 | a::l,0,j+1,x,n,h1,h2=>by
  simp at h1 h2;subst h1;exact absurd (gM1 h2) (List.nodup_cons.mp n).1
 | a::l,i+1,0,x,n,h1,h2=>by
  simp at h1 h2;subst h2;exact absurd (gM1 h1) (List.nodup_cons.mp n).1
 | a::l,i+1,j+1,x,n,h1,h2=>by
  exact congrArg (· + 1) (qfH (i:=i) (j:=j) (x:=x) (List.nodup_cons.mp n).2 (by simpa using h1) (by simpa using h2))
theorem qfo:∀ {R:qad} {r d r' d':Nat} {x:Nat×Nat},R.flatten.Nodup->At R r d x->At R r' d' x->r=r'/\d=d'
 | [],r,d,r',d',x,_,⟨_,h,_⟩,_=>by simp at h
 | a::R,r,d,r',d',x,n,⟨row,h1,h2⟩,⟨row',h1',h2'⟩=>by
  rw [List.flatten_cons,List.nodup_append] at n;cases r with
  | zero=>
   simp at h1;subst h1;cases r' with
   | zero=>
    simp at h1';subst h1';exact ⟨rfl,qfH n.1 h2 h2'⟩
   | succ r'=>
    have m1:x∈R.flatten:=List.mem_flatten.mpr ⟨row',gM1 (by simpa using h1'),gM1 h2'⟩;exact absurd rfl (n.2.2 x (gM1 h2) x m1)
  | succ r=>
   cases r' with
   | zero=>
    simp at h1';subst h1';have m1:x∈R.flatten:=List.mem_flatten.mpr ⟨row,gM1 (by simpa using h1),gM1 h2⟩;exact absurd rfl (n.2.2 x (gM1 h2') x m1)
   | succ r'=>
    obtain ⟨e1,e2⟩:=qfo (R:=R) n.2.1 ⟨row,by simpa using h1,h2⟩ ⟨row',by simpa using h1',h2'⟩;exact ⟨by rw [e1],e2⟩
open Classical in
noncomputable def plc (R:qad)(x:Nat×Nat):Nat×Nat:=if h:∃ p:Nat×Nat,At R p.1 p.2 x then Classical.choose h else (0,0)
theorem qg5 {R:qad}{x:Nat×Nat}(h:x∈R.flatten):At R (plc R x).1 (plc R x).2 x:=by
 have h':=qj7 h;unfold plc;rw [dif_pos h'];exact Classical.choose_spec h'
theorem qoX {R:qad}{r d:Nat}{x:Nat×Nat}(n:R.flatten.Nodup)(h:At R r d x):plc R x=(r,d):=by
 obtain ⟨e1,e2⟩:=qfo n (qg5 h.mem) h;exact Prod.ext e1 e2
noncomputable def opp (x:Nat×Nat):Nat×Nat:=(x.1,1-x.2)
noncomputable def webR (R:qad):qad:=R.map fun row=>row.map fun x=>plc R (opp x)
structure WebG (m:Nat)(w:qad):Prop where
 len:w.length=m
 le:∀ row∈w,row.length<=4
 back:∀ r d p,At w r d p->At w p.1 p.2 (r,d)
 ne:∀ r d p,At w r d p->p≠(r,d)
theorem qgb {R:qad}{r d:Nat}{p:Nat×Nat}:At (webR R) r d p ↔ ∃ x,At R r d x/\p=plc R (opp x):=by
 unfold At webR;constructor
 ·rintro ⟨row,h1,h2⟩;rw [gP1] at h1;obtain ⟨row',e1,rfl⟩:=oM1.mp h1;rw [gP1] at h2;obtain ⟨x,e2,rfl⟩:=oM1.mp h2;exact ⟨x,⟨row',e1,e2⟩,rfl⟩
 ·rintro ⟨x,⟨row,h1,h2⟩,rfl⟩;exact ⟨row.map fun x=>plc R (opp x),by rw [gP1,h1];rfl,by rw [gP1,h2];rfl⟩
theorem qmo {m e:Nat}{R:qad}(d:DI m R e):WebG m (webR R):=by
 have n:R.flatten.Nodup:=d.all.nodup_iff.mpr (qdb e);have opp_mem:∀ x,x∈R.flatten->opp x∈R.flatten/\opp (opp x)=x/\opp x≠x:=fun x hx=>by
  have:=qbx.mp (d.all.mem_iff.mp hx);obtain ⟨a,b⟩:=x;simp at this;refine ⟨d.all.mem_iff.mpr (qbx.mpr ⟨this.1,by simp [opp]⟩),?_,?_⟩
  ·simp [opp];lia
  ·simp [opp];lia
 refine ⟨by unfold webR;rw [lM1];exact d.len,?_,?_,?_⟩
 ·intro row hr;obtain ⟨r,hr',rfl⟩:=List.mem_map.mp hr;obtain ⟨i,hi⟩:=List.getElem?_of_mem hr';rw [lM1];exact d.le i r hi
 ·intro r dd p hp;obtain ⟨x,hx,rfl⟩:=qgb.mp hp;obtain ⟨h1,h2,_⟩:=opp_mem x hx.mem;exact qgb.mpr ⟨opp x,qg5 h1,by rw [h2,qoX n hx]⟩
 ·intro r dd p hp z;obtain ⟨x,hx,rfl⟩:=qgb.mp hp;obtain ⟨h1,_,h3⟩:=opp_mem x hx.mem;have h4:=qg5 h1;rw [z] at h4;obtain ⟨row,a1,a2⟩:=hx;obtain ⟨row',b1,b2⟩:=h4;rw [a1] at b1;cases b1;rw [a2] at b2;exact h3 (Option.some.inj b2).symm
theorem qkK {f:Nat×Nat->D}:∀ {a b:List D},a.Perm b -> ∀ l:List (Nat×Nat),b=l.map f -> ∃ l':List (Nat×Nat),a=l'.map f/\l'.Perm l:=by
 intro a b h
 induction h with
 | nil=>intro l e;exact ⟨[],rfl,by cases l with | nil=>exact .refl _ | cons _ _=>simp at e⟩
 | cons x _ ih=>
  intro l e;cases l with
  | nil=>simp at e
  | cons y l=>
   simp at e;obtain ⟨l',e1,p⟩:=ih l e.2;exact ⟨y::l',by rw [mP1,e.1,e1],p.cons y⟩
 | swap x y l0=>
  intro l e
  match l,e with
  | a::b::l,e=>
   simp at e;exact ⟨b::a::l,by rw [mP1,mP1,e.1,e.2.1,e.2.2],List.Perm.swap _ _ _⟩
 | trans _ _ ih1 ih2=>
  intro l e;obtain ⟨l1,e1,p1⟩:=ih2 l e;obtain ⟨l2,e2,p2⟩:=ih1 l1 e1;exact ⟨l2,e2,p2.trans p1⟩
theorem qfx:∀ (k n:Nat),refs n (k+1)=refs n k++[.ref (n+k)]
 | 0,n=>rfl
 | k+1,n=>by
  rw [refs,qfx k (n+1),refs,List.cons_append,show n+1+k=n+(k+1) by lia]
theorem qkB {n k m:Nat}(h:n+k<=m):D.unds m (refs n k)=true:=by
 induction k generalizing n with
 | zero=>rfl
 | succ k ih=>rw [refs,D.unds,ih (by lia),D.und];simp;lia
theorem qle {U:Sto}{m:Nat}:EW U.length m (List.replicate m []) (U++(List.replicate m (.lst [])++[.lst (refs U.length m)])):=by
 refine ⟨by simp,fun i row h=>?_,?_⟩
 ·have hi:i<m:=by have:=(gE1.mp h).1;simpa using this
  rw [List.getElem?_replicate,if_pos hi] at h;cases h;rw [qbZ,gL1 (by simpa using hi),List.getElem?_replicate,if_pos hi];rfl
 ·rw [qbZ,gR1 (by simp)];simp
structure qia (b:Nat)(ks:List Nat)(R:qad)(V:Sto):Prop where
 len:ks.length=R.length
 at_:∀ (i k:Nat) (row:List (Nat×Nat)),ks[i]? = some k->R[i]? = some row->V[k]? = some (qda row)
 low:∀ k∈ks,b<=k
theorem qia.over {h g n b:Nat}{ks:List Nat}{R:qad}{U V:Sto}(e:qia b ks R U)(s:HS h g n U V)(hh:h<b)(hg:g<b):qia b ks R V:=
 ⟨e.len,fun i k row h1 h2=>s.at (e.at_ i k row h1 h2) (by have:=e.low k (gM1 h1);lia) (by have:=e.low k (gM1 h1);lia),e.low⟩
noncomputable def refD (k:Nat):D:=.ref k
theorem qfQ:∀ {R E:qad},R.length=E.length->(∀ (i:Nat) (r e:List (Nat×Nat)),R[i]? = some r->E[i]? = some e->r.Perm e)->R.flatten.Perm E.flatten
 | [],[],_,_=>.refl _
 | [],_::_,h,_=>by simp at h
 | _::_,[],h,_=>by simp at h
 | r::R,e::E,h,q=>by
  rw [List.flatten_cons,List.flatten_cons];exact (q 0 r e rfl rfl).append (qfQ (by simpa using h) fun i r' e' h1 h2=>q (i+1) r' e' (by simpa using h1) (by simpa using h2))
theorem qnP {h g n b m e:Nat}{U0 U:Sto}{E:qad}{Q:List D×Ev×Sto->Prop}(s:HS h g n U0 U)(hb:U0.length=b)(hn:n<=2^44)(w:EW b m E U)(d:DI m E e)(hm:m<=8)
  (q:∀ ks R V x,HS h g (n+40) U0 V->qia b ks R V->DI m R e->(∀ k∈ks,k<V.length)->Q (ks.map refD,[x,some (.ref h)],V)):
  W (qbP [(b+m,refs b m)] (gN 0) qbl (qaT (mN (qaf 2 qaB) (qaa (mV 1) (qaa (mV 0) mNil)))) (refs b m) [none,some (.ref h)] U) Q:=by
 have hh:=s.hl;have hg:=s.gl;have hbl:=s.len;have rowAt:∀ j,j<m -> ∃ row,E[j]? = some row:=fun j hj=>⟨_,gG1 (by rw [d.len];exact hj)⟩;refine qbt (fun i acc r S=>∃ ks R x,i<=m/\HS h g (n+5*i) U0 S/\EW b m E S/\acc=ks.map refD/\r=[x,some (.ref h)]/\ks.length=i/\qia b ks R S/\(∀ (j:Nat) (r e:List (Nat×Nat)),R[j]? = some r->E[j]? = some e->r.Perm e)/\(∀ k∈ks,k<S.length)) (refs b m) 0 [] _ _ ⟨[],[],none,by lia,s,w,rfl,rfl,rfl,⟨rfl,fun i k row h1=>by simp at h1,fun k hk=>by simp at hk⟩,fun j r e h1=>by simp at h1,fun k hk=>by simp at hk⟩ ?_ ?_ ?_
 ·rintro i acc r S ⟨ks,R,x,_,_,hw,_⟩;exact qaQ hw.ends
 ·rintro i dd hd acc r S ⟨ks,R,x,hi,hs,hw,rfl,rfl,hk,hkr,hp,hks⟩;have hlt:=(gE1.mp hd).1;rw [qdE] at hlt;rw [qgk hlt] at hd;cases hd;rw [Nat.zero_add] at *
  obtain ⟨row,hrow⟩:=rowAt i hlt;have hrl:=d.le i row hrow;walk_at "own wq";refine qgq hs (by lia) (hw.row i row hrow) (by lia) (by lia) (by rw [lM1];lia) (Mi.unds_map fun _ _=>rfl) fun k ys V hv hv' hkl hky hpy=>?_;rw [lM1] at hv hv';obtain ⟨row',rfl,hp'⟩:=qkK hpy row rfl;have hSl:=hs.len;have hkr':=hkr.over hv' (by lia) (by lia);refine ⟨ks++[k],R++[row'],_,by lia,hv.more (by lia),hw.over hv' (by lia) (by lia),by simp [refD],rfl,by simp [hk],⟨by simp [hkr.len],fun j k' r' h1 h2=>?_,fun k' hk'=>?_⟩,fun j r' e' h1 h2=>?_,fun k' hk'=>?_⟩
  ·by_cases hj:j<ks.length
   ·rw [gL1 hj] at h1;rw [gL1 (by rw [<- hkr.len];exact hj)] at h2;exact hkr'.at_ j k' r' h1 h2
   ·have hj2:j=ks.length:=by have:=(gE1.mp h1).1;simp at this;lia
    subst hj2;rw [List.getElem?_concat_length] at h1;rw [hkr.len,List.getElem?_concat_length] at h2;cases h1;cases h2;exact hky
  ·rcases List.mem_append.mp hk' with z | z
   ·exact hkr.low k' z
   ·simp at z;lia
  ·by_cases hj:j<R.length
   ·rw [gL1 hj] at h1;exact hp j r' e' h1 h2
   ·have hj2:j=R.length:=by have:=(gE1.mp h1).1;simp at this;lia
    subst hj2;rw [List.getElem?_concat_length] at h1;cases h1;rw [<- hkr.len,hk,hrow] at h2;cases h2;exact hp'
  ·have hv2:=hv'.len;show k'<V.length;rcases List.mem_append.mp hk' with z | z
   ·have:=hks k' z;lia
   ·simp at z;subst z;exact (gE1.mp hky).1
 ·rintro xs r S ⟨ks,R,x,hi,hs,hw,e1,rfl,hk,hkr,hp,hks⟩;rw [List.nil_append] at e1;subst e1;rw [Nat.zero_add,qdE] at hs hk;have hRl:R.length=E.length:=by rw [<- hkr.len,hk,d.len]
  have dR:DI m R e:=⟨by rw [hRl];exact d.len,(qfQ hRl hp).trans d.all,fun j row hj=>by
   obtain ⟨row',hr'⟩:=rowAt j (by rw [<- d.len,<- hRl];exact (gE1.mp hj).1);rw [(hp j row row' hj hr').length_eq];exact d.le j row' hr'⟩
  exact q ks R S x (hs.more (by lia)) hkr dR hks
theorem qh8 {m:FA}{r:Ev}{S:Sto}{Q:Itm×Sto->Prop}{d:D}{S1:Sto}(h:m r S=some ([d],S1))(q:sW S1 d fun p=>Q (⟨enD 0 p.1,p.2⟩,S1)):W (iEn m r S) Q:=by
 unfold iEn;rw [h,oS1];dsimp only;rw [qal];exact W.mono (show W (qao S1 d) _ from q) fun z w=>qat.mpr w
theorem qgm {F:List (TK×D)}{k:TK}{v:D}{n:Nat}(h:∀ p∈F,p.2.und n=true)(hv:v.und n=true):∀ p∈putD F k v,p.2.und n=true:=by
 intro p hp;unfold putD at hp;split at hp
 ·obtain ⟨q,hq,rfl⟩:=List.mem_map.mp hp;split
  ·exact hv
  ·exact h q hq
 ·rcases List.mem_append.mp hp with z | z
  ·exact h p z
  ·simp at z;subst z;exact hv
theorem qoG {V:Sto}{pl k r:Nat}{F:List (TK×D)}{R:qad}{row:List (Nat×Nat)}{o0 o1 o2 o3 o4 o6 o7 o8 o9 o12 o13:Option D}{Q:Fl×Ev×Sto->Prop}(nd:R.flatten.Nodup)(hr:R[r]? = some row)(hpl:pl<V.length)(hk:V[k]? = some (qda row))(hkp:k≠pl)(hF:F.length+row.length<500)
  (hu:∀ p∈F,p.2.und 0=true) (hold:∀ r' d x,r'<r->At R r' d x->qap F (tkP x)=some (pD (r',d)))
  (q:∀ F' o12' o13',F'.length<=F.length+row.length->(∀ p∈F',p.2.und 0=true)->(∀ r' d x,r'<r+1->At R r' d x->qap F' (tkP x)=some (pD (r',d))) ->
   Q (.nx,[o0,o1,o2,o3,o4,some (.int (r:Nat)),o6,o7,o8,o9,some (.ref pl),some (.ref k),o12',o13'],V.set pl (dO F'))):
  W (qbB [o0,o1,o2,o3,o4,some (.int (r:Nat)),o6,o7,o8,o9,some (.ref pl),some (.ref k),o12,o13] (V.set pl (dO F))) Q:=by
 unfold qbB mFor;rw [qal];refine qh8 (d:=.ref k) (S1:=V.set pl (dO F)) rfl ?_;refine qaw (xs:=row.map pD) (by rw [gS1 hkp.symm];exact hk) ?_;refine qaS (fun i r' S=>∃ F' o12' o13',i<=row.length/\F'.length<=F.length+i/\(∀ p∈F',p.2.und 0=true)/\S=V.set pl (dO F')/\r'=[o0,o1,o2,o3,o4,some (.int (r:Nat)),o6,o7,o8,o9,some (.ref pl),some (.ref k),o12',o13']/\(∀ r' d x,r'<r->At R r' d x->qap F' (tkP x)=some (pD (r',d)))/\(∀ d x,d<i->row[d]? = some x->qap F' (tkP x)=some (pD (r,d)))) _ 0 _ _ ⟨F,_,_,by lia,by lia,hu,rfl,rfl,hold,fun d x hd=>by lia⟩ ?_ ?_ ?_
 ·rintro i r' S ⟨F',_,_,_,_,_,rfl,_⟩;exact qaQ (by rw [gS1 hkp.symm];exact hk)
 ·rintro i dd hd r' S ⟨F',p12,p13,hi,hl,hu',rfl,rfl,h1,h2⟩;dsimp only at hd;rw [qbJ,gP1] at hd;obtain ⟨z,hz,rfl⟩:=oM1.mp hd;obtain ⟨x,hx,rfl⟩:=oM1.mp hz;have hlt:=(gE1.mp hx).1;rw [Nat.zero_add] at *
  walk_at "own wq";unfold qcw;walk_at "own wq";refine qhE (F:=F') (by rw [List.getElem?_set_self hpl]) qbX (by lia) ?_;have hme:At R r i x:=⟨row,hr,hx⟩;refine ⟨putD F' (tkP x) (pD (r,i)),_,_,by lia,by have:=qiK (k:=tkP x) (v:=pD (r,i)) (a:=F');lia,qgm hu' rfl,by rw [List.set_set];rfl,rfl,fun r' d y hr' hy=>?_,fun d y hd' hy=>?_⟩
  ·rw [qdI];by_cases e:tkP y=tkP x
   ·have:=tkP_inj e;subst this;have:=(qfo nd hy hme).1;lia
   ·rw [if_neg e];exact h1 r' d y hr' hy
  ·rw [qdI];by_cases e:tkP y=tkP x
   ·have:=tkP_inj e;subst this;have:=(qfo nd ⟨row,hr,hy⟩ hme).2;subst this;rw [if_pos rfl]
   ·rw [if_neg e];by_cases z:d<i
    ·exact h2 d y z hy
    ·have:d=i:=by lia
     subst this;rw [hx] at hy;cases hy;exact absurd rfl e
 ·rintro r' S ⟨F',p12,p13,hi,hl,hu',rfl,rfl,h1,h2⟩;rw [qbI,lM1,Nat.zero_add] at hl h2;refine q F' _ _ hl hu' fun r' d x hr' hx=>?_;by_cases z:r'<r
  ·exact h1 r' d x z hx
  ·have:r'=r:=by lia
   subst this;obtain ⟨row',e1,e2⟩:=hx;rw [hr] at e1;cases e1;exact h2 d x (gE1.mp e2).1 e2
theorem qjP {F:List (TK×D)}{n:Nat}(h:∀ p∈F,p.2.und n=true):(dO F).und n=true:=by
 unfold dO;split
 ·rfl
 ·rw [Ob.und];exact Mi.unds_map fun p hp=>h p hp
theorem lpD {R:qad}{x:Nat×Nat}:dW (webR R) = .tup (R.map fun row=>.tup (row.map fun x=>pD (plc R (opp x)))):=by
 unfold dW webR;simp only [List.map_map]
 congr 1
 apply List.map_congr_left;intro row _;simp only [Function.comp_apply,dR,List.map_map];rfl
theorem qgI {h g c most:Nat}{B U:Sto}{Q:D×Sto->Prop}(s:HS h g c B U)(hc:c<=2^40)(hm0:0<most)(hm8:most<=8)
  (q:∀ m w U',0<m->m<=most->WebG m w->HS h g (c+200) B U'->HS h g (c+200) U U'->U'.length=U.length->Q (dW w,U')):W (qaf 2 qaJ [.ref h,.int most] U) Q:=by
 have hh:=s.hl;have hg:=s.gl;have hbl:=s.len;refine qgL (c':=c+200) rfl rfl s ?_;have s0:HS h g c U U:=HS.self s.hand s.shut;unfold qaJ;refine fnW ?_;unfold qdr;refine seqW (fun r S=>∃ m,0<m/\m<=most/\HS h g (c+1) U S/\S.length=U.length/\r=[some (.ref h),some (.int most),some (.int (m:Nat)),some (.int ((0:Nat):Int)),none,none,none,none,none,none,none,none,none,none]) ?_ ?_
 ·walk_at "own wq";refine qaX s0 (by lia) (by lia) (by lia) fun k U1 s1 _ l1 hk=>?_;walk_at "own wq";exact ⟨k+1,by lia,by lia,s1,l1,by simp [Int.add_comm]⟩
 rintro r S ⟨m,m0,mm,s1,l1,rfl⟩;refine seqW (fun r V=>HS h g (c+1) U V/\EW U.length m (List.replicate m []) V/\r=[some (.ref h),some (.int most),some (.int (m:Nat)),some (.int ((0:Nat):Int)),some (.ref (U.length+m)),none,none,none,none,none,none,none,none,none]) ?_ ?_
 ·walk_at "own wq";refine ⟨qbd (by lia),?_⟩;rw [Int.toNat_natCast];refine qbt (fun i acc r V=>acc=refs U.length i/\V=S++List.replicate i (.lst []) /\ ∃ x,r=[x]) (nums 0 m) 0 [] _ _ ⟨rfl,by simp,_,rfl⟩ (fun _ _ _ _ _=>rfl) ?_ ?_
  ·rintro i d hd acc r V ⟨rfl,rfl,x,rfl⟩;walk_at "own wq";rw [Nat.zero_add];refine ⟨?_,?_,_,rfl⟩
   ·rw [qfx,l1,lR1]
   ·rw [List.replicate_succ']
  ·rintro xs r V ⟨e,rfl,_⟩;rw [List.nil_append,Nat.zero_add,qaz] at e;subst e;rw [Nat.zero_add,qaz];walk_at "own wq";rw [qdE];refine ⟨qah (by lia),s1.app fun o ho=>?_,?_,?_⟩
   ·rcases List.mem_append.mp ho with z | z
    ·rw [List.eq_of_mem_replicate z];rfl
    ·simp at z;subst z;rw [Ob.und];exact qkB (by simp [l1])
   ·have:=qle (U:=S) (m:=m);rw [l1] at this;exact this
   ·simp [l1]
 rintro r V ⟨sV,w0,rfl⟩;refine seqW (fun r V=>∃ E x5 x6,HS h g (c+20) U V/\EW U.length m E V/\DI m E (m-1)/\r=[some (.ref h),some (.int most),some (.int (m:Nat)),some (.int ((m-1:Nat):Int)),some (.ref (U.length+m)),x5,x6,none,none,none,none,none,none,none]) ?_ ?_
 ·walk_at "own wq";refine ⟨qqx (by decide) (by decide),qbd (by lia),?_⟩;refine qaS (fun i r V=>i<=m-1 /\ ∃ E x5 x6,HS h g (c+1+i) U V/\EW U.length m E V/\DI m E i/\(∀ (j:Nat) (row:List (Nat×Nat)),i+1<=j->E[j]? = some row->row=[])/\r=[some (.ref h),some (.int most),some (.int (m:Nat)),some (.int (i:Nat)),some (.ref (U.length+m)),x5,x6,none,none,none,none,none,none,none]) _ 0 _ _ ?_ (fun _ _ _ _=>rfl) ?_ ?_
  ·refine ⟨by lia,_,none,none,sV,w0,DI.start m,fun j row _ hr=>?_,rfl⟩;rw [List.getElem?_replicate] at hr;split at hr
   ·cases hr;rfl
   ·cases hr
  ·rintro i d hd r V ⟨hi,E,x5,x6,sE,w,dE,he,rfl⟩;have hlen:=(gE1.mp hd).1;rw [qaz] at hlen;have hd':d = .int ((i+1:Nat):Int):=by
    rw [qcI,gP1,List.getElem?_range hlen] at hd;simp at hd;rw [<- hd]
    push_cast
    congr 1
    lia
   subst hd';rw [Nat.zero_add] at *
   walk_at "own wq";refine qor sE rfl (by lia) w dE (by lia) (by lia) he fun E' V' x6' s' w' d' he'=>?_;exact ⟨rfl,by lia,E',_,_,s',w',d',he',rfl⟩
  ·rintro r V ⟨hi,E,x5,x6,sE,w,dE,he,rfl⟩;rw [qaz] at *
   have e1:0+((m:Int)-1).toNat=m-1:=by lia
   rw [e1] at sE dE;rw [e1];exact ⟨rfl,E,_,_,sE.more (by lia),w,dE,rfl⟩
 rintro r V ⟨E,x5,x6,sE,w,dE,rfl⟩;refine seqW (fun r V=>∃ E e x5 x6 x7 x8,HS h g (c+60) U V/\EW U.length m E V/\DI m E e/\e<=20/\r=[some (.ref h),some (.int most),some (.int (m:Nat)),some (.int (e:Nat)),some (.ref (U.length+m)),x5,x6,x7,x8,none,none,none,none,none]) ?_ ?_
 ·walk_at "own wq";refine qaX sE (by lia) (by lia) (by lia) fun k V1 s1 s1' l1 hk=>?_;walk_at "own wq";have hVl:=sE.len;refine ⟨qbd (by lia),?_⟩;rw [Int.toNat_natCast];refine qaS (fun i r V=>i<=k /\ ∃ E e x5 x6 x7 x8,HS h g (c+21+2*i) U V/\EW U.length m E V/\DI m E e/\e<=8+i/\r=[some (.ref h),some (.int most),some (.int (m:Nat)),some (.int (e:Nat)),some (.ref (U.length+m)),x5,x6,x7,x8,none,none,none,none,none]) _ 0 _ _ ⟨by lia,E,m-1,_,_,_,_,s1,w.over s1' (by lia) (by lia),dE,by lia,rfl⟩ (fun _ _ _ _=>rfl) ?_ ?_
  ·rintro i d hd r V ⟨hi,E,e,x5,x6,x7,x8,sE,w,dE,he,rfl⟩;have hlen:=(gE1.mp hd).1;rw [qaz] at hlen;rw [Nat.zero_add] at *
   walk_at "own wq";refine qpB sE rfl (by lia) w dE m0 (by lia) fun E' V' e' x8' s' w' d' he'=>?_;exact ⟨rfl,by lia,E',e',_,_,_,_,s',w',d',by lia,rfl⟩
  ·rintro r V ⟨hi,E,e,x5,x6,x7,x8,sE,w,dE,he,rfl⟩;rw [qaz,Nat.zero_add] at *
   exact ⟨rfl,E,e,_,_,_,_,sE.more (by lia),w,dE,by lia,rfl⟩
 rintro r V ⟨E,e,x5,x6,x7,x8,sE,w,dE,he,rfl⟩;refine seqW (fun r V=>∃ ks R x5 x6 x7 x8 dp,HS h g (c+100) U V/\qia U.length ks R V/\DI m R e/\(∀ k∈ks,k<dp)/\U.length<=dp/\V.length=dp+1/\V[dp]? = some (.lst (ks.map refD))/\r=[some (.ref h),some (.int most),some (.int (m:Nat)),some (.int (e:Nat)),some (.ref (U.length+m)),x5,x6,x7,x8,some (.ref dp),none,none,none,none]) ?_ ?_
 ·walk_at "own wq";refine qaw w.ends ?_;refine qnP sE rfl (by lia) w dE (by lia) fun ks R V2 x s2 hk2 dR hks=>?_;walk_at "own wq";have hl2:=s2.len;refine ⟨qah (by rw [lM1,hk2.len,dR.len];lia),ks,R,_,_,_,_,V2.length,s2.app fun o ho=>?_,⟨hk2.len,fun i k row h1 h2=>?_,hk2.low⟩,dR,hks,hl2,by simp,by rw [List.getElem?_concat_length],rfl⟩
  ·simp at ho;subst ho;rw [Ob.und];refine Mi.unds_map fun k hk=>?_;have:=hks k hk;simp [refD,D.und];lia
  ·have:=hk2.at_ i k row h1 h2;rw [gL1 (gE1.mp this).1];exact this
 rintro r V ⟨ks,R,x5,x6,x7,x8,dp,sV,hk,dR,hks,hdp,hVl,hdV,rfl⟩;have nd:R.flatten.Nodup:=dR.all.nodup_iff.mpr (qdb e);refine seqW (fun r V1=>V1=V++[.dct []]/\r=[some (.ref h),some (.int most),some (.int (m:Nat)),some (.int (e:Nat)),some (.ref (U.length+m)),x5,x6,x7,x8,some (.ref dp),some (.ref V.length),none,none,none]) ?_ ?_
 ·((try walk_at "own wq");repeat (simp only [qe5];try walk_at "own wq"))
 rintro r V1 ⟨rfl,rfl⟩;generalize hV1:V++[Ob.dct []]=V1;have hpl:V.length<V1.length:=by rw [<- hV1];simp
 have sV1:HS h g (c+100) U V1:=by rw [<- hV1];exact sV.app fun o ho=>by simp at ho;subst ho;rfl
 have low1:∀ (i:Nat) (o:Ob),V[i]? = some o->V1[i]? = some o:=fun i o hi=>by rw [<- hV1,gL1 (gE1.mp hi).1];exact hi
 have hset0:V1=V1.set V.length (dO []):=by
  have:V1[V.length]? = some (dO []):=by rw [<- hV1,List.getElem?_concat_length];rfl
  obtain ⟨hl,hx⟩:=gE1.mp this;rw [<- hx,List.set_getElem_self]
 refine seqW (fun r V2=>∃ F x5 x11 x12 x13,V2=V1.set V.length (dO F)/\(∀ r' d x,At R r' d x->qap F (tkP x)=some (pD (r',d)))/\(∀ p∈F,p.2.und 0=true)/\r=[some (.ref h),some (.int most),some (.int (m:Nat)),some (.int (e:Nat)),some (.ref (U.length+m)),x5,x6,x7,x8,some (.ref dp),some (.ref V.length),x11,x12,x13]) ?_ ?_
 ·unfold mFor;rw [qal];refine qh8 (d:=.ref dp) (S1:=V1) rfl ?_;refine qaw (low1 dp _ hdV) ?_;refine qaS (fun i r V2=>∃ F x5 x11 x12 x13,i<=m/\F.length<=4*i/\V2=V1.set V.length (dO F)/\(∀ r' d x,r'<i->At R r' d x->qap F (tkP x)=some (pD (r',d)))/\(∀ p∈F,p.2.und 0=true)/\r=[some (.ref h),some (.int most),some (.int (m:Nat)),some (.int (e:Nat)),some (.ref (U.length+m)),x5,x6,x7,x8,some (.ref dp),some (.ref V.length),x11,x12,x13]) _ 0 _ _ ⟨[],_,_,_,_,by lia,by simp,hset0,fun r' d x hr=>by lia,fun p hp=>by simp at hp,rfl⟩ ?_ ?_ ?_
  ·rintro i r V2 ⟨F,_,_,_,_,_,_,rfl,_⟩;exact qaQ (by rw [gS1 (by lia)];exact low1 dp _ hdV)
  ·rintro i dd hd r V2 ⟨F,y5,y11,y12,y13,hi,hF,rfl,h1,hu,rfl⟩;dsimp only at hd;rw [qbJ,gP1] at hd;obtain ⟨z,hz,rfl⟩:=oM1.mp hd;obtain ⟨k,hkk,rfl⟩:=oM1.mp hz;have hlt:=(gE1.mp hkk).1;rw [Nat.zero_add] at *
   obtain ⟨row,hrow⟩:∃ row,R[i]? = some row:=⟨_,gG1 (by rw [<- hk.len];exact hlt)⟩;have him:i<m:=by rw [<- dR.len,<- hk.len];exact hlt
   have hkd:=hks k (gM1 hkk);have hrl:=dR.le i row hrow
   ((try walk_at "own wq");repeat (simp only [refD];try walk_at "own wq"))
   refine qoG (r:=i) nd hrow hpl (low1 k _ (hk.at_ i k row hkk hrow)) (by lia) (by lia) hu h1 fun F' o12 o13 hl hu' h1'=>?_;exact ⟨rfl,F',_,_,_,_,by lia,by lia,rfl,h1',hu',rfl⟩
  ·rintro r V2 ⟨F,y5,y11,y12,y13,hi,hF,rfl,h1,hu,rfl⟩;rw [qbI,lM1,Nat.zero_add] at h1;refine ⟨rfl,F,_,_,_,_,rfl,fun r' d x hx=>h1 r' d x ?_ hx,hu,rfl⟩;obtain ⟨row,e1,_⟩:=hx;rw [hk.len];exact (gE1.mp e1).1
 rintro r V2 ⟨F,y5,y11,y12,y13,rfl,hF,hu,rfl⟩;generalize hV2:V1.set V.length (dO F)=V2;have sV2:HS h g (c+100) U V2:=by rw [<- hV2];exact sV1.set (by lia) (qjP fun p hp=>qcQ (hu p hp))
 have low2:∀ (i:Nat) (o:Ob),V[i]? = some o->V2[i]? = some o:=fun i o hi=>by
  rw [<- hV2,gS1 (by have:=(gE1.mp hi).1;lia)];exact low1 i o hi
 have hplc:V2[V.length]? = some (dO F):=by rw [<- hV2,List.getElem?_set_self hpl]
 have hmem:∀ x∈R.flatten,opp x∈R.flatten:=fun x hx=>by
  have:=qbx.mp (dR.all.mem_iff.mp hx);exact dR.all.mem_iff.mpr (qbx.mpr ⟨this.1,by simp [opp]⟩)
 walk_at "own wq";refine qaw (S:=V2) (low2 dp _ hdV) ?_;refine qbt (fun i acc r S=>∃ G x,S=V2++G/\(∀ o∈G,o.und 0=true)/\r=[x,some (.ref V.length)]/\acc=(R.take i).map fun row=>D.tup (row.map fun x=>pD (plc R (opp x)))) (ks.map refD) 0 [] _ _ ⟨[],none,by simp,fun o ho=>by simp at ho,rfl,rfl⟩ ?_ ?_ ?_
 ·rintro i acc r S ⟨G,x,rfl,_⟩;exact qaQ (by rw [gL1 (gE1.mp (low2 dp _ hdV)).1];exact low2 dp _ hdV)
 ·rintro i d hd acc r S ⟨G,x,rfl,hG,rfl,rfl⟩;rw [gP1] at hd;obtain ⟨k,hkk,rfl⟩:=oM1.mp hd;have hlt:=(gE1.mp hkk).1;obtain ⟨row,hrow⟩:∃ row,R[i]? = some row:=⟨_,gG1 (by rw [<- hk.len];exact hlt)⟩;have hrl:=dR.le i row hrow;have hk2:=low2 k _ (hk.at_ i k row hkk hrow);have hk3:(V2++G)[k]? = some (.lst (row.map pD)):=by rw [gL1 (gE1.mp hk2).1];exact hk2
  ((try walk_at "own wq");repeat (simp only [refD];try walk_at "own wq"))
  refine qaw hk3 ?_;refine mapW (fun x=>pD (plc R (opp x))) (fun r=>∃ x y,r=[x,y,some (.ref V.length)]) (qaQ hk3) row _ ⟨_,_,rfl⟩ ?_ ?_
  ·rintro y hy r ⟨a,b,rfl⟩;rw [pD];walk_at "own wq";have hy2:=(qbx.mp (dR.all.mem_iff.mp (List.mem_flatten.mpr ⟨row,gM1 hrow,hy⟩)));rw [show ((1:Int)-(y.2:Int))=((1-y.2:Nat):Int) by lia];have hopp:=hmem y (List.mem_flatten.mpr ⟨row,gM1 hrow,hy⟩);have hlook:=hF _ _ _ (qg5 hopp);refine qkc (F:=F) (k:=tkP (opp y)) (by rw [gL1 (gE1.mp hplc).1];exact hplc) (qbX (e:=opp y)) hlook ?_;exact ⟨rfl,rfl,_,_,rfl⟩
  ·rintro r' _;walk_at "own wq";refine ⟨qah (by rw [lM1];lia),?_⟩;refine qaw (xs:=row.map fun x=>pD (plc R (opp x))) (by rw [<- List.append_assoc,<- lA1,qaj];rfl) ?_;refine ⟨G++[Ob.lst (row.map fun x=>pD (plc R (opp x)))],_,rfl,fun o ho=>?_,rfl,?_⟩
   ·rcases List.mem_append.mp ho with z | z
    ·exact hG o z
    ·simp at z;subst z;rw [Ob.und];exact Mi.unds_map fun _ _=>rfl
   ·rw [Nat.zero_add,List.take_succ,hrow];simp
 ·rintro xs r S ⟨G,x,rfl,hG,rfl,e1⟩;rw [List.nil_append,Nat.zero_add,lM1,hk.len,List.take_length] at e1;subst e1;walk_at "own wq";have hRl:=dR.len;refine ⟨qah (by rw [lM1];lia),?_⟩;refine qaw (xs:=R.map fun row=>D.tup (row.map fun x=>pD (plc R (opp x)))) (by rw [<- List.append_assoc,<- lA1,qaj];rfl) ?_;have e2:=lpD (R:=R) (x:=(0,0));have hund:D.unds 0 (R.map fun row=>D.tup (row.map fun x=>pD (plc R (opp x))))=true:=Mi.unds_map fun row _=>by rw [D.und];exact Mi.unds_map fun _ _=>rfl
  refine ⟨(sV2.app fun o ho=>?_).more (by lia),by rw [D.und];exact hund,fun U' a b l=>?_⟩
  ·rcases List.mem_append.mp ho with z | z
   ·exact qeZ (Nat.zero_le _) (hG o z)
   ·simp at z;subst z;rw [Ob.und];exact qbf hund
  ·rw [<- e2];exact q m _ U' m0 mm (qmo dR) a b l
theorem qmn {c:FT}{b:FS}{Q:Fl×Ev×Sto->Prop}(I:Nat->Ev->Sto->Prop)(N:Nat)
  (step:∀ k r S,I k r S->W (c r S) fun p=>if p.1=true then k<N/\W (b r p.2) fun q=>q.1 = .nx/\I (k+1) q.2.1 q.2.2 else Q (.nx,r,p.2)):
  ∀ (fuel k:Nat) (r:Ev) (S:Sto),N-k<fuel->I k r S->W (whl c b fuel r S) Q
 | 0,k,r,S,hf,_=>by lia
 | fuel+1,k,r,S,hf,hi=>by
  rw [whl];dsimp only;rw [qal];obtain ⟨⟨t,S1⟩,e,h⟩:=step k r S hi;refine ⟨_,e,?_⟩;dsimp only at h ⊢;cases t with
  | true=>
   rw [if_pos rfl] at h ⊢;obtain ⟨hk,⟨f,r1,S2⟩,e2,hf2,hi2⟩:=h;dsimp only at hf2 hi2;subst hf2;rw [e2,oS1];exact qmn I N step fuel (k+1) r1 S2 (by lia) hi2
  | false=>
   rw [if_neg (by decide)] at h ⊢;exact qat.mpr h
noncomputable def lex (a b:Nat×Nat):Bool:=decide (a.1<b.1)||(decide (a.1=b.1)&&decide (a.2<b.2))
theorem qlY {a b:Nat×Nat}{S:Sto}:gLt (pD a) (pD b) S=some (.bl (lex a b),S):=by
 have e1:∀ (n x y:Nat),eqN S (n+1) (.int x) (.int y)=some (decide (x=y)):=fun n x y=>by
  show some ((x:Int) == (y:Int))=_
  congr 1
  rw [Bool.eq_iff_iff,beq_iff_eq,decide_eq_true_eq];lia
 have e2:∀ (n x y:Nat),ltN S (n+1) (.int x) (.int y)=some (decide (x<y)):=fun n x y=>by
  show some (decide ((x:Int)<(y:Int)))=_
  congr 1
  rw [Bool.eq_iff_iff,decide_eq_true_eq,decide_eq_true_eq];lia
 unfold gLt qaC;rw [show (60:Nat)=58+1+1 from rfl,ltN];simp only [pD,ltF,qao,if_true,ltL,e1,e2,oS1];unfold lex;by_cases h1:a.1=b.1
 ·by_cases h2:a.2=b.2
  ·simp [h1,h2]
  ·simp [h1,h2]
 ·simp [h1]
theorem qnt {a b:Nat×Nat}(h:lex a b=false)(hne:b≠a):lex b a=true:=by
 unfold lex at *
 obtain ⟨a1,a2⟩:=a;obtain ⟨b1,b2⟩:=b;simp at *
 lia
theorem few:∀ {N:Nat} {l:List Nat},l.Nodup->(∀ x∈l,x<N)->l.length<=N
 | 0,l,_,h=>by
  cases l with
  | nil=>simp
  | cons a l=>have:=h a mS1;lia
 | N+1,l,n,h=>by
  by_cases hm:N∈l
  ·have h1:=few (N:=N) (l:=l.erase N) (n.erase N) fun x hx=>by
    have hx':=(List.Nodup.mem_erase_iff n).mp hx;have:=h x hx'.2;have:=hx'.1;lia
   have:=List.length_erase_of_mem hm;lia
  ·have:=few (N:=N) (l:=l) n fun x hx=>by
    have h1:=h x hx;have:x≠N:=fun z=>hm (z ▸ hx);lia
   lia
theorem few2 {A B:Nat}{l:List (Nat×Nat)}(n:l.Nodup)(h:∀ x∈l,x.1<A/\x.2<B):l.length<=A*B:=by
 have h1:=few (N:=A*B) (l:=l.map fun x=>x.1*B+x.2) ?_ ?_
 ·simpa using h1
 ·rw [List.nodup_iff_pairwise_ne,List.pairwise_map];refine List.Pairwise.imp_of_mem ?_ n;intro x y hx hy hne e;apply hne;have h1:=h x hx;have h2:=h y hy;have ex:x.1=(x.1*B+x.2)/B:=by rw [Nat.mul_comm,Nat.mul_add_div (by lia),Nat.div_eq_of_lt h1.2,Nat.add_zero]
  have ey:y.1=(y.1*B+y.2)/B:=by rw [Nat.mul_comm,Nat.mul_add_div (by lia),Nat.div_eq_of_lt h2.2,Nat.add_zero]
  have e1:x.1=y.1:=by rw [ex,ey,e]
  rw [e1] at e;exact Prod.ext e1 (by lia)
 ·intro z hz;obtain ⟨x,hx,rfl⟩:=List.mem_map.mp hz;have h1:=h x hx;have:(x.1+1)*B<=A*B:=Nat.mul_le_mul_right B h1.1;rw [Nat.add_mul] at this;lia
noncomputable def rndW (m:Nat):qad:=(List.range m).map fun r=>[((r+1)%m,1),((r+m-1)%m,0)]
noncomputable def okW (w:qad):Bool:=w.zipIdx.all fun p=>decide (p.1.length<=4)&&p.1.zipIdx.all fun q=>(match w[q.1.1]? with | some row=>decide (row[q.1.2]? = some (p.2,q.2)) | none=>false)&&decide (q.1≠(p.2,q.2))
theorem qpm {w:qad}(h:okW w=true):WebG w.length w:=by
 unfold okW at h;rw [List.all_eq_true] at h;have get:∀ (r:Nat) (row:List (Nat×Nat)),w[r]? = some row->row.length<=4 /\ ∀ (d:Nat) (p:Nat×Nat),row[d]? = some p->At w p.1 p.2 (r,d)/\p≠(r,d):=fun r row hr=>by
  have h1:=h (row,r) (by rw [List.mem_zipIdx_iff_getElem?];exact hr);simp only [bA1,decide_eq_true_eq,List.all_eq_true] at h1;refine ⟨h1.1,fun d p hp=>?_⟩;have h2:=h1.2 (p,d) (by rw [List.mem_zipIdx_iff_getElem?];exact hp);dsimp only at h2;refine ⟨?_,h2.2⟩;have h3:=h2.1;split at h3
  ·rename_i row' e;exact ⟨row',e,by simpa using h3⟩
  ·cases h3
 refine ⟨rfl,fun row hr=>?_,fun r d p ⟨row,h1,h2⟩=>((get r row h1).2 d p h2).1,fun r d p ⟨row,h1,h2⟩=>((get r row h1).2 d p h2).2⟩;obtain ⟨i,hi⟩:=List.getElem?_of_mem hr;exact (get i row hi).1
theorem qkz {m:Nat}(h0:0<m)(h8:m<=8):WebG m (rndW m):=by
 have q:∀ m:Fin 9,0<m.val->okW (rndW m.val)=true/\(rndW m.val).length=m.val:=by decide+kernel
 obtain ⟨q2,q3⟩:=q ⟨m,by lia⟩ h0;have:=qpm q2;rw [q3] at this;exact this
theorem qmE {m:Nat}{S:Sto}{Q:D×Sto->Prop}(h0:0<m)(h8:m<=8)(q:Q (dW (rndW m),S)):W (qaf 1 qbi [.int m] S) Q:=by
 refine qlr rfl rfl ?_;unfold qbi;refine fnW ?_;unfold qdo;walk_at "own wq";refine ⟨qbd (by lia),?_⟩;rw [qgu,Int.toNat_natCast];refine mapW (fun r:Nat=>dR [((r+1)%m,1),((r+m-1)%m,0)]) (fun r=>∃ x,r=[x,some (.int m)]) rfl (List.range m) _ ⟨_,rfl⟩ ?_ ?_
 ·rintro r hr r' ⟨x,rfl⟩
  ((try walk_at "own wq");repeat (simp only [gMod];try walk_at "own wq"))
  refine ⟨by lia,by lia,?_,_,rfl⟩;have e1:(((r+1)%m:Nat):Int)=((r:Int)+1)%(m:Int):=by push_cast;rfl
  have e2:(((r+m-1)%m:Nat):Int)=((r:Int)+(m:Int)-1)%(m:Int):=by
   rw [Int.natCast_emod]
   congr 1
   lia
  simp [dR,dP,e1,e2]
 ·rintro r' _;walk_at "own wq";refine ⟨qah (by simp;lia),?_⟩;refine qaw rfl ?_;refine ⟨by rw [D.und];exact Mi.unds_map fun _ _=>qim _ _,?_⟩;have e:dW (rndW m) = .tup ((List.range m).map fun r:Nat=>dR [((r+1)%m,1),((r+m-1)%m,0)]):=by
   unfold dW rndW;rw [List.map_map];rfl
  rw [<- e];exact q
theorem qiE {k:Nat}(h:k<=1000):qiF 0 (k:Int)=true:=by
 unfold qiF;simp only [bA1,decide_eq_true_eq];lia
theorem qob {m:FA}{r:Ev}{S S1:Sto}{k:Nat}{Q:D×Sto->Prop}(h:m r S=some ([.int k],S1))(hk:k<=1000)(q:Q (.ref S1.length,S1++[.lst (nums 0 k)])):W (mLR1 m r S) Q:=by
 refine W.of ?_ q;unfold mLR1;rw [h,oS1];dsimp only;rw [if_pos (qiE hk),Int.toNat_natCast]
theorem qmU:∀ {a b:List D},a.Perm b -> ∀ l:List Nat,b=nmD l -> ∃ l':List Nat,a=nmD l'/\l'.Perm l:=by
 intro a b h
 induction h with
 | nil=>intro l e;exact ⟨[],rfl,by cases l with | nil=>exact .refl _ | cons _ _=>simp [nmD] at e⟩
 | cons x _ ih=>
  intro l e;cases l with
  | nil=>simp [nmD] at e
  | cons y l=>
   simp [nmD] at e;obtain ⟨l',e1,p⟩:=ih l e.2;exact ⟨y::l',by rw [nmD,mP1,e.1,e1];rfl,p.cons y⟩
 | swap x y l0=>
  intro l e
  match l,e with
  | a::b::l,e=>
   simp [nmD] at e;exact ⟨b::a::l,by rw [nmD,mP1,mP1,e.1,e.2.1,e.2.2],List.Perm.swap _ _ _⟩
 | trans _ _ ih1 ih2=>
  intro l e;obtain ⟨l1,e1,p1⟩:=ih2 l e;obtain ⟨l2,e2,p2⟩:=ih1 l1 e1;exact ⟨l2,e2,p2.trans p1⟩
theorem qjE {S:Sto}{n x:Nat}:∀ ys:List Nat,eqsL (eqN S (n+1)) (.int x) (nmD ys)=some (ys.map fun y=>y == x)
 | []=>rfl
 | y::ys=>by
  have e1:eqN S (n+1) (.int y) (.int x)=some ((y:Int) == (x:Int)):=rfl;have e2:((y:Int) == (x:Int))=(y == x):=by rw [Bool.eq_iff_iff,beq_iff_eq,beq_iff_eq];lia
  have ih:=qjE (S:=S) (n:=n) (x:=x) ys;rw [nmD] at ih ⊢;rw [mP1,eqsL,e1,e2,ih];rfl
theorem qfS {α:Type}[BEq α][LawfulBEq α]{l:List α}{x:α}(h:x∈l):∃ j,l.findIdx? (· == x)=some j/\l[j]? = some x:=by
 cases e:l.findIdx? (· == x) with
 | none=>
  rw [List.findIdx?_eq_none_iff] at e;have:=e x h;simp at this
 | some j=>
  obtain ⟨hj,h1,_⟩:=List.findIdx?_eq_some_iff_getElem.mp e;exact ⟨j,rfl,by rw [gG1 hj];simp at h1;rw [h1]⟩
theorem qqI {S:Sto}{n x:Nat}{ys:List Nat}{Q:D×Sto->Prop}(h:S[n]? = some (.lst (nmD ys)))(hl:ys.length<1000)(hx:x∈ys)(q:∀ j:Nat,ys[j]? = some x->Q (.int j,S)):W (gIdx (.ref n) (.int x) S) Q:=by
 obtain ⟨j,hj,hj2⟩:=qfS hx;refine W.of ?_ (q j hj2);unfold gIdx qaC;simp only [h,show (60:Nat)=59+1 from rfl,qjE,oS1,lM1];rw [if_pos (by lia),List.findIdx?_map];simp [Function.comp_def,hj]
theorem qqJ {S:Sto}{n:Nat}{row:List (Nat×Nat)}{e:Nat×Nat}{Q:D×Sto->Prop}(h:S[n]? = some (.lst (row.map pD)))(hl:row.length<1000)(he:e∈row)(q:∀ j:Nat,row[j]? = some e->Q (.int j,S)):W (gIdx (.ref n) (pD e) S) Q:=by
 obtain ⟨j,hj,hj2⟩:=qfS he;exact qqH h hl hj (q j hj2)
theorem qlW {S:Sto}{n:Nat}{x:Nat×Nat}:∀ row:List (Nat×Nat),inL (eqN S (n+2)) (pD x) (row.map pD)=some (row.contains x)
 | []=>rfl
 | y::row=>by
  rw [mP1,inL,ql0,qlW row,List.contains_cons,show (y == x)=(x == y) from Bool.beq_comm];rfl
theorem qn9 {S:Sto}{n:Nat}{row:List (Nat×Nat)}{x:Nat×Nat}{Q:D×Sto->Prop}(h:S[n]? = some (.lst (row.map pD)))(q:Q (.bl (!row.contains x),S)):W (qbH (pD x) (.ref n) S) Q:=by
 refine W.of ?_ q;simp only [qbH,h,qde,qfO,qc6 h,oS1,qaC,show (60:Nat)=58+2 from rfl,qlW,oP1]
structure Ords (w:qad)(cp b:Nat)(done:Nat->Nat->Prop)(F:List (TK×D))(V:Sto):Prop where
 ord:∀ r d p,done r d->At w r d p->lex (r,d) p=true -> ∃ k ys,qap F (tkP (r,d))=some (.ref k)/\b<=k/\V[k]? = some (.lst (nmD ys))/\ys.Perm (List.range cp)
 und:∀ p∈F,p.2.und V.length=true
theorem Ords.over {h g n cp b:Nat}{w:qad}{done:Nat->Nat->Prop}{F:List (TK×D)}{U V:Sto}(o:Ords w cp b done F U)(s:HS h g n U V)(hh:h<b)(hg:g<b):Ords w cp b done F V:=
 ⟨fun r d p h1 h2 h3=>by
  obtain ⟨k,ys,a1,a2,a3,a4⟩:=o.ord r d p h1 h2 h3;exact ⟨k,ys,a1,a2,s.at a3 (by lia) (by lia),a4⟩,fun p hp=>qlB s.len (o.und p hp)⟩
theorem qrq {h g n b cp r d od:Nat}{w:qad}{p:Nat×Nat}{U0 V:Sto}{F:List (TK×D)}{x4 x5 x7 x10 x11 x12:Option D}{Q:Fl×Ev×Sto->Prop}(s:HS h g n U0 V)(hb:U0.length<=b)(hod:b<=od)(hn:n<=2^44)(hcp:cp<=8)(hF:F.length<500)(hd:V[od]? = some (dO F))(o:Ords w cp b (fun r' d'=>r'<r\/(r'=r/\d'<d)) F V)(hod2:od<b+3)
  (q:∀ F' V',HS h g (n+8) U0 V'->V'[od]? = some (dO F')->F'.length<=F.length+1->Ords w cp b (fun r' d'=>r'<r\/(r'=r/\d'<d+1)) F' V'->(∀ i,i≠od->i≠h->i≠g->i<V.length->V'[i]? = V[i]?)->V.length<=V'.length->(∀ (r' d' k:Nat),qap F' (tkP (r',d'))=some (.ref k)->qap F (tkP (r',d'))=some (.ref k)\/V.length<=k) ->
   Q (.nx,[some (.ref h),some (dW w),some (.int cp),some (.ref od),x4,x5,some (.int (r:Nat)),x7,some (.int (d:Nat)),some (pD p),x10,x11,x12],V')) (hp:At w r d p) (hkb:∀ (r' d' k:Nat),qap F (tkP (r',d'))=some (.ref k)->k≠od):
  W (qbG [some (.ref h),some (dW w),some (.int cp),some (.ref od),x4,x5,some (.int (r:Nat)),x7,some (.int (d:Nat)),some (pD p),x10,x11,x12] V) Q:=by
 have hh:=s.hl;have hg:=s.gl;have hVl:=s.len;have hodV:od<V.length:=(gE1.mp hd).1;unfold qbG;walk_at "own wv";have e:∀ S,gLt (D.tup [D.int ↑r,D.int ↑d]) (pD p) S=some (.bl (lex (r,d) p),S):=fun S=>qlY (a:=(r,d)) (b:=p)
 ((try walk_at "own wv");repeat (simp-implicitDefEqProofs only [e];try walk_at "own wv"))
 by_cases hl:lex (r,d) p=true
 ·rw [if_pos hl];refine qob (k:=cp) (S1:=V) rfl (by lia) ?_;walk_at "own wv";have s1:HS h g n U0 (V++[.lst (nums 0 cp)]):=s.app fun o ho=>by simp at ho;subst ho;rw [Ob.und,qgu];exact Mi.unds_map fun _ _=>rfl
  have s1':HS h g n V (V++[.lst (nums 0 cp)]):=(HS.self s.hand s.shut).app fun o ho=>by simp at ho;subst ho;rw [Ob.und,qgu];exact Mi.unds_map fun _ _=>rfl
  refine qgq (r:=V.length) (xs:=nums 0 cp) s1 (by lia) (by rw [qaj];rfl) (by lia) (by lia) (by rw [qaz];lia) (by rw [qgu];exact Mi.unds_map fun _ _=>rfl) fun k ys V2 s2 s2' hkl hky hp'=>?_;obtain ⟨zs,rfl,hz⟩:=qmU hp' (List.range cp) (by rw [qgu];rfl);rw [qaz] at s2 s2';have l12:=s1'.len;have l22:=s2'.len;have hd2:V2[od]? = some (dO F):=s2'.at (s1'.at hd (by lia) (by lia)) (by lia) (by lia);walk_at "own wv";refine qhE (F:=F) hd2 (qbX (e:=(r,d))) (by lia) ?_;have hkod:k≠od:=by rw [lA1] at hkl;simp at hkl;lia
  have o2:=(o.over s1' (by lia) (by lia)).over s2' (by lia) (by lia);have kl2:k<V2.length:=(gE1.mp hky).1;refine q (putD F (tkP (r,d)) (.ref k)) (V2.set od (dO (putD F (tkP (r,d)) (.ref k)))) ((s2.set (by lia) (qjP (qgm o2.und (by simp [D.und];lia)))).more (by lia)) (by rw [List.getElem?_set_self (by lia)]) qiK ⟨fun r' d' p' hd' hat hlx=>?_,fun p' hp'=>by rw [List.length_set];exact qgm o2.und (by simp [D.und];lia) p' hp'⟩ (fun i h1 h2 h3 h4=>?_) (by rw [List.length_set];rw [lA1] at l22;lia) (fun r' d' k' hk'=>?_)
  ·rw [qdI];by_cases ek:tkP (r',d')=tkP (r,d)
   ·have:=tkP_inj ek;cases this;rw [if_pos rfl];exact ⟨k,zs,rfl,by rw [lA1] at hkl;lia,by rw [gS1 hkod.symm];exact hky,hz⟩
   ·rw [if_neg ek];have hd'':r'<r\/(r'=r/\d'<d):=by
     rcases hd' with z | ⟨z1,z2⟩
     ·exact .inl z
     ·refine .inr ⟨z1,?_⟩;by_cases z3:d'=d
      ·subst z1;subst z3;exact absurd rfl ek
      ·lia
    obtain ⟨k',ys',a1,a2,a3,a4⟩:=o2.ord r' d' p' hd'' hat hlx;exact ⟨k',ys',a1,a2,by rw [gS1 (hkb r' d' k' a1).symm];exact a3,a4⟩
  ·rw [gS1 (Ne.symm h1),s2'.same i (by rw [lA1];lia) h2 h3,s1'.same i h4 h2 h3]
  ·rw [qdI] at hk';split at hk'
   ·cases hk';rw [lA1] at hkl;exact .inr (by lia)
   ·exact .inl hk'
 ·rw [if_neg hl];have hlf:lex (r,d) p=false:=Bool.eq_false_iff.mpr hl;refine q F V (s.more (by lia)) hd (by lia) ⟨fun r' d' p' hd' hat hlx=>?_,o.und⟩ (fun i _ _ _ _=>rfl) (nR1 _) (fun _ _ _ hk'=>.inl hk');refine o.ord r' d' p' ?_ hat hlx;rcases hd' with z | ⟨z1,z2⟩
  ·exact .inl z
  ·refine .inr ⟨z1,?_⟩;by_cases z3:d'=d
   ·subst z1;subst z3;obtain ⟨row,b1,b2⟩:=hat
    obtain ⟨row',c1,c2⟩:=hp;rw [b1] at c1;cases c1;rw [b2] at c2;cases c2;rw [hlf] at hlx;cases hlx
   ·lia
theorem qqm {p:Nat×Nat}:dP p=pD p:=rfl
theorem qpd {h g n b cp:Nat}{w:qad}{U0 V:Sto}{x10 x11 x12:Option D}{Q:Fl×Ev×Sto->Prop}(s:HS h g n U0 V)(hb:U0.length=b)(hn:n<=2^43)(hcp:cp<=8)(hw:w.length<=8)(hw4:∀ row∈w,row.length<=4)(hV:V.length=b+3)(hd:V[b]? = some (dO []))
  (q:∀ F V' x6 x7 x8 x9,HS h g (n+300) U0 V'->V'[b]? = some (dO F)->Ords w cp b (fun _ _=>True) F V'->(∀ (r' d' k:Nat),qap F (tkP (r',d'))=some (.ref k)->b+3<=k)->(∀ i,i≠b->i≠h->i≠g->i<V.length->V'[i]? = V[i]?)->V.length<=V'.length ->
   Q (.nx,[some (.ref h),some (dW w),some (.int cp),some (.ref b),some (.ref (b+1)),some (.ref (b+2)),x6,x7,x8,x9,x10,x11,x12],V')):
  W (mFor (iEn (qaa (mV 1) mNil)) (gT 2 (gCs (gN 6) (gCs (gN 7) gNl))) qbF [some (.ref h),some (dW w),some (.int cp),some (.ref b),some (.ref (b+1)),some (.ref (b+2)),none,none,none,none,x10,x11,x12] V) Q:=by
 unfold mFor;rw [qal];refine qh8 (d:=dW w) (S1:=V) rfl ?_;refine qfw.mpr ?_;refine qaS (fun i r V'=>∃ F x6 x7 x8 x9,i<=w.length/\F.length<=4*i/\HS h g (n+32*i) U0 V'/\V'[b]? = some (dO F)/\Ords w cp b (fun r' _=>r'<i) F V'/\(∀ (r' d' k:Nat),qap F (tkP (r',d'))=some (.ref k)->b+3<=k)/\(∀ i,i≠b->i≠h->i≠g->i<V.length->V'[i]? = V[i]?)/\V.length<=V'.length/\r=[some (.ref h),some (dW w),some (.int cp),some (.ref b),some (.ref (b+1)),some (.ref (b+2)),x6,x7,x8,x9,x10,x11,x12]) _ 0 _ _ ⟨[],none,none,none,none,by lia,by simp,s,hd,⟨fun r d p hr=>by lia,fun p hp=>by simp at hp⟩,(fun r' d' k hk=>by rw [qhc] at hk;cases hk),fun _ _ _ _ _=>rfl,nR1 _,rfl⟩ (fun _ _ _ _=>rfl) ?_ ?_
 ·rintro i dd hdd r V1 ⟨F,x6,x7,x8,x9,hi,hF,s1,hd1,o1,hk1,hs1,hl1,rfl⟩;dsimp only at hdd;rw [qbJ,gP1] at hdd;obtain ⟨z,hz,rfl⟩:=oM1.mp hdd;obtain ⟨row,hrow,rfl⟩:=oM1.mp hz;have hlt:=(gE1.mp hrow).1;have hr4:=hw4 row (gM1 hrow);rw [Nat.zero_add] at *
  walk_at "own wq";unfold qbF mFor;rw [qal];refine qh8 (d:=dR row) (S1:=V1) rfl ?_;refine qfw.mpr ?_;refine qaS (fun j r V'=>∃ F' x8 x9,j<=row.length/\F'.length<=F.length+j/\HS h g (n+32*i+8*j) U0 V'/\V'[b]? = some (dO F')/\Ords w cp b (fun r' d'=>r'<i\/(r'=i/\d'<j)) F' V'/\(∀ (r' d' k:Nat),qap F' (tkP (r',d'))=some (.ref k)->b+3<=k)/\(∀ i,i≠b->i≠h->i≠g->i<V.length->V'[i]? = V[i]?)/\V.length<=V'.length/\r=[some (.ref h),some (dW w),some (.int cp),some (.ref b),some (.ref (b+1)),some (.ref (b+2)),some (.int (i:Nat)),some (dR row),x8,x9,x10,x11,x12]) _ 0 _ _ ⟨F,x8,x9,by lia,by lia,s1,hd1,⟨fun r d p hr=>o1.ord r d p (by lia),o1.und⟩,hk1,hs1,hl1,rfl⟩ (fun _ _ _ _=>rfl) ?_ ?_
  ·rintro j dd hdd r V2 ⟨F2,y8,y9,hj,hF2,s2,hd2,o2,hk2,hs2,hl2,rfl⟩;dsimp only at hdd;rw [qbJ,gP1] at hdd;obtain ⟨z,hz,rfl⟩:=oM1.mp hdd;obtain ⟨p,hp,rfl⟩:=oM1.mp hz;have hjlt:=(gE1.mp hp).1;rw [Nat.zero_add] at *
   ((try walk_at "own wq");repeat (simp only [qqm];try walk_at "own wq"))
   refine qrq (b:=b) (od:=b) s2 (by lia) (nR1 _) (by lia) hcp (by lia) hd2 o2 (by lia) (fun F' V' a1 a2 a3 a4 a5 a6 a7=>?_) ⟨row,hrow,hp⟩ fun r' d' k hk=>by have:=hk2 r' d' k hk;lia
   refine ⟨rfl,F',_,_,by lia,by lia,a1.more (by lia),a2,a4,fun r' d' k hk=>?_,fun i' b1 b2 b3 b4=>?_,Nat.le_trans hl2 a6,rfl⟩
   ·rcases a7 r' d' k hk with z | z
    ·exact hk2 r' d' k z
    ·lia
   ·rw [a5 i' b1 b2 b3 (by lia),hs2 i' b1 b2 b3 b4]
  ·rintro r V2 ⟨F2,y8,y9,hj,hF2,s2,hd2,o2,hk2,hs2,hl2,rfl⟩;rw [qbI,lM1,Nat.zero_add] at *
   refine ⟨rfl,F2,_,_,_,_,by lia,by lia,s2.more (by lia),hd2,⟨fun r d p hr hat=>o2.ord r d p ?_ hat,o2.und⟩,hk2,hs2,hl2,rfl⟩;by_cases z:r<i
   ·exact .inl z
   ·have:r=i:=by lia
    subst this;obtain ⟨row',e1,e2⟩:=hat
    rw [hrow] at e1;cases e1;exact .inr ⟨rfl,(gE1.mp e2).1⟩
 ·rintro r V1 ⟨F,x6,x7,x8,x9,hi,hF,s1,hd1,o1,hk1,hs1,hl1,rfl⟩;rw [qbI,lM1,Nat.zero_add] at *
  refine q F V1 _ _ _ _ (s1.more (by lia)) hd1 ⟨fun r d p _ hat=>o1.ord r d p ?_ hat,o1.und⟩ hk1 hs1 hl1;obtain ⟨row',e1,e2⟩:=hat
  exact (gE1.mp e1).1
structure BS (h g n b:Nat)(U0 V0:Sto)(F:List (TK×D))(met:List (Nat×Nat))(rooms:qad)(V:Sto):Prop where
 hs:HS h g n U0 V
 dic:V[b]? = some (dO F)
 same:∀ i,b+3<=i->i<V0.length->V[i]? = V0[i]?
 len:V0.length<=V.length
 mt:V[b+1]? = some (.lst (met.map pD))
 rm:V[b+2]? = some (.lst (rooms.map dR))
structure MI (w:qad)(cp:Nat)(met:List (Nat×Nat)):Prop where
 nd:met.Nodup
 inn:∀ x∈met,x.1<w.length/\x.2<cp
theorem MI.few {w:qad}{cp:Nat}{met:List (Nat×Nat)}(m:MI w cp met)(h:w.length*cp<=8):met.length<=8:=Nat.le_trans (few2 m.nd m.inn) h
theorem BS.set {h g n b i:Nat}{U0 V0 V:Sto}{F:List (TK×D)}{met met':List (Nat×Nat)}{rooms rooms':qad}{o:Ob}(s:BS h g n b U0 V0 F met rooms V)(hb:U0.length=b)(hi:V0.length<=i\/i=b+1\/i=b+2)(h0:b+3<=V0.length)(hil:i<V.length)(ho:o.und V.length=true)
  (hm:(V.set i o)[b+1]? = some (.lst (met'.map pD))) (hr:(V.set i o)[b+2]? = some (.lst (rooms'.map dR))):BS h g n b U0 V0 F met' rooms' (V.set i o):=
 ⟨s.hs.set (by lia) ho,by rw [gS1 (by lia)];exact s.dic,fun j h1 h2=>by rw [gS1 (by lia)];exact s.same j h1 h2,by rw [List.length_set];exact s.len,hm,hr⟩
theorem qiW {n:Nat}(l:List (Nat×Nat)):D.unds n (l.map pD)=true:=Mi.unds_map fun _ _=>rfl
theorem qqi {h g n b cp r c d sp:Nat}{w:qad}{m:Nat}{goal:Nat×Nat}{U0 V0 V:Sto}{F:List (TK×D)}{met some_:List (Nat×Nat)}{rooms:qad}{x7 x12:Option D}{Q:Fl×Ev×Sto->Prop}(hw:WebG m w)(h8:w.length*cp<=8)(hb:U0.length=b)(h0:b+3<=V0.length)
  (o:Ords w cp b (fun _ _=>True) F V0) (hkb:∀ (r' d' k:Nat),qap F (tkP (r',d'))=some (.ref k)->b+3<=k) (s:BS h g n b U0 V0 F met rooms V) (mi:MI w cp met) (hsp:V0.length<=sp) (hs:V[sp]? = some (.lst (some_.map pD))) (hsl:some_.length<100) (hc:c<cp) (hat:At w r d goal)
  (q:∀ met' e V' x12',met <+: met'->MI w cp met'->BS h g n b U0 V0 F met' rooms V'->V'[sp]? = some (.lst ((some_++[e]).map pD))->e.2=goal.2->(∃ y,met'[e.1]? = some y/\y.1=goal.1)->V'.length=V.length ->
   Q (.nx,[some (.ref h),some (dW w),some (.int cp),some (.ref b),some (.ref (b+1)),some (.ref (b+2)),some (.int (r:Nat)),x7,some (.int (d:Nat)),some (pD goal),some (.int (c:Nat)),some (.ref sp),x12'],V')):
  W (qbE [some (.ref h),some (dW w),some (.int cp),some (.ref b),some (.ref (b+1)),some (.ref (b+2)),some (.int (r:Nat)),x7,some (.int (d:Nat)),some (pD goal),some (.int (c:Nat)),some (.ref sp),x12] V) Q:=by
 have hspl:sp<V.length:=(gE1.mp hs).1;have look:∀ r d p,At w r d p->lex (r,d) p=true -> ∃ k ys,qap F (tkP (r,d))=some (.ref k)/\V[k]? = some (.lst (nmD ys))/\ys.Perm (List.range cp):=fun r d p h1 h2=>by
  obtain ⟨k,ys,a1,a2,a3,a4⟩:=o.ord r d p trivial h1 h2;exact ⟨k,ys,a1,by rw [s.same k (hkb r d k a1) (gE1.mp a3).1];exact a3,a4⟩
 have i0:∀ (S:Sto) (Q:D×Sto->Prop),Q (.int goal.1,S)->W (gIxY (pD goal) (.int 0) S) Q:=fun S Q q=>qkb (i:=0) rfl q;have i1:∀ (S:Sto) (Q:D×Sto->Prop),Q (.int goal.2,S)->W (gIxY (pD goal) (.int 1) S) Q:=fun S Q q=>qkb (i:=1) rfl q;have hg1:goal.1<w.length:=by obtain ⟨row,a1,_⟩:=hw.back r d goal hat;exact (gE1.mp a1).1
 unfold qbE;refine seqW (fun r' S=>S=V /\ ∃ c',c'<cp/\r'=[some (.ref h),some (dW w),some (.int cp),some (.ref b),some (.ref (b+1)),some (.ref (b+2)),some (.int (r:Nat)),x7,some (.int (d:Nat)),some (pD goal),some (.int (c:Nat)),some (.ref sp),some (pD (goal.1,c'))]) ?_ ?_
 ·walk_at "own wq";have e:∀ S,gLt (D.tup [D.int ↑r,D.int ↑d]) (pD goal) S=some (.bl (lex (r,d) goal),S):=fun S=>qlY (a:=(r,d)) (b:=goal)
  ((try walk_at "own wq");repeat (simp only [e];try walk_at "own wq"))
  by_cases hl:lex (r,d) goal=true
  ·rw [if_pos hl];obtain ⟨k,ys,a1,a2,a3⟩:=look r d goal hat hl;have hyl:ys.length=cp:=by rw [a3.length_eq];simp
   refine i0 _ _ ?_;refine qkc (F:=F) s.dic (qbX (e:=(r,d))) a1 ?_;refine qfq (i:=c) (xs:=nmD ys) (x:=.int (ys[c]'(by lia):Nat)) a2 (by rw [nmD,gP1,gG1 (by lia)];rfl) ?_;walk_at "own wq";refine ⟨ys[c]'(by lia),?_,rfl⟩;exact List.mem_range.mp (a3.mem_iff.mp (List.getElem_mem _))
  ·rw [if_neg hl];have hl':=qnt (Bool.eq_false_iff.mpr hl) (hw.ne r d goal hat);obtain ⟨k,ys,a1,a2,a3⟩:=look goal.1 goal.2 (r,d) (hw.back r d goal hat) hl';have hyl:ys.length=cp:=by rw [a3.length_eq];simp
   have hcp8:cp<=8:=by
    have:0<w.length:=by lia
    exact Nat.le_trans (Nat.le_mul_of_pos_left cp this) h8
   refine i0 _ _ ?_;refine qeg ?_;walk_at "own wq";refine qkc (F:=F) s.dic (qbX (e:=goal)) a1 ?_;refine ⟨k,nmD ys,rfl,a2,?_⟩;refine qqI a2 (by lia) (a3.mem_iff.mpr (List.mem_range.mpr hc)) fun j hj=>?_;walk_at "own wq";exact ⟨j,by rw [<- hyl];exact (gE1.mp hj).1,rfl⟩
 rintro r' S ⟨hSV,c',hc',rfl⟩;have hVS:=hSV.symm;clear hSV;subst hVS;refine seqW (fun r' S=>∃ met',met <+: met'/\MI w cp met'/\(goal.1,c')∈met'/\BS h g n b U0 V0 F met' rooms S/\S[sp]? = some (.lst (some_.map pD))/\S.length=V.length/\r'=[some (.ref h),some (dW w),some (.int cp),some (.ref b),some (.ref (b+1)),some (.ref (b+2)),some (.int (r:Nat)),x7,some (.int (d:Nat)),some (pD goal),some (.int (c:Nat)),some (.ref sp),some (pD (goal.1,c'))]) ?_ ?_
 ·walk_at "own wq";refine qn9 s.mt ?_;walk_at "own wq";have hfew:=mi.few h8;by_cases hin:(goal.1,c')∈met
  ·rw [if_neg (by simpa using hin)];exact ⟨met,List.prefix_rfl,mi,hin,s,hs,trivial⟩
  ·rw [if_pos (by simpa using hin)];refine qeg ?_;walk_at "own wq";refine ⟨b+1,met.map pD,rfl,s.mt,?_⟩;refine (qgO s.mt).mpr ⟨qah (by rw [lM1];lia),?_⟩;have e:met.map pD++[pD (goal.1,c')]=(met++[(goal.1,c')]).map pD:=by simp
   rw [e];have hb1:b+1<V.length:=(gE1.mp s.mt).1;refine ⟨met++[(goal.1,c')],List.prefix_append _ _,⟨?_,fun x hx=>?_⟩,by simp,s.set hb (.inr (.inl rfl)) h0 hb1 (by rw [Ob.und];exact qiW _) (by rw [List.getElem?_set_self hb1]) (by rw [gS1 (by lia)];exact s.rm),by rw [gS1 (by lia)];exact hs,by rw [List.length_set],trivial⟩
   ·rw [List.nodup_append];refine ⟨mi.nd,by simp,fun x hx y hy z=>?_⟩;simp at hy;rw [z,hy] at hx;exact hin hx
   ·rcases List.mem_append.mp hx with z | z
    ·exact mi.inn x z
    ·simp at z;subst z;exact ⟨hg1,hc'⟩
 rintro r' S ⟨met',hpre,mi',hin,s',hs',hl',rfl⟩;have hfew':=mi'.few h8;walk_at "own wq";refine qeg ?_;walk_at "own wq";refine ⟨sp,some_.map pD,rfl,hs',?_⟩;refine qeg ?_;walk_at "own wq";refine ⟨b+1,met'.map pD,rfl,s'.mt,?_⟩;refine qqJ s'.mt (by lia) hin fun j hj=>?_;refine i1 _ _ ?_;walk_at "own wq";refine (qgO hs').mpr ⟨qah (by rw [lM1];lia),?_⟩;have e:some_.map pD++[D.tup [D.int ↑j,D.int ↑goal.2]]=(some_++[(j,goal.2)]).map pD:=by simp [pD]
 rw [e];exact q met' (j,goal.2) _ _ hpre mi' (s'.set hb (.inl hsp) h0 (by lia) (by rw [Ob.und];exact qiW _) (by rw [gS1 (by lia)];exact s'.mt) (by rw [gS1 (by lia)];exact s'.rm)) (by rw [List.getElem?_set_self (by lia)]) rfl ⟨(goal.1,c'),hj,rfl⟩ (by rw [List.length_set];exact hl')
structure WebO (w:qad):Prop where
 pos:0<w.length
 few:w.length<=8
 le:∀ row∈w,row.length<=4
 to:∀ row∈w,∀ e∈row,∃ r,w[e.1]? = some r/\e.2<r.length
theorem WebG.o {m:Nat}{w:qad}(h:WebG m w)(h0:0<m)(h8:m<=8):WebO w:=by
 refine ⟨by rw [h.len];exact h0,by rw [h.len];exact h8,h.le,fun row hr e he=>?_⟩;obtain ⟨r,hr'⟩:=List.getElem?_of_mem hr;obtain ⟨d,hd⟩:=List.getElem?_of_mem he;obtain ⟨row',h1,h2⟩:=h.back r d e ⟨row,hr',hd⟩;exact ⟨row',h1,(gE1.mp h2).1⟩
noncomputable def qh9 (met:List (Nat×Nat))(crow row:List (Nat×Nat)):Prop:=∀ (d:Nat) (e goal:Nat×Nat),crow[d]? = some e->row[d]? = some goal->e.2=goal.2 /\ ∃ y:Nat×Nat,met[e.1]? = some y/\y.1=goal.1
noncomputable def RF (w:qad)(met:List (Nat×Nat))(rooms:qad):Prop:=∀ (i:Nat) (crow:List (Nat×Nat)),rooms[i]? = some crow -> ∃ x row,met[i]? = some x/\w[x.1]? = some row/\crow.length=row.length/\qh9 met crow row
theorem qgn {α:Type}{a b:List α}{i:Nat}{x:α}(h:a <+: b)(e:a[i]? = some x):b[i]? = some x:=by
 obtain ⟨t,rfl⟩:=h;rw [gL1 (gE1.mp e).1];exact e
theorem qh9.mono {met met' crow row:List (Nat×Nat)}(h:qh9 met crow row)(p:met <+: met'):qh9 met' crow row:=fun d e goal h1 h2=>by
 obtain ⟨a,y,b1,b2⟩:=h d e goal h1 h2;exact ⟨a,y,qgn p b1,b2⟩
theorem RF.mono {w:qad}{met met':List (Nat×Nat)}{rooms:qad}(h:RF w met rooms)(p:met <+: met'):RF w met' rooms:=fun i crow hi=>by
 obtain ⟨x,row,a1,a2,a3,a4⟩:=h i crow hi;exact ⟨x,row,qgn p a1,a2,a3,a4.mono p⟩
theorem qnU {n:Nat}(l:qad):D.unds n (l.map dR)=true:=Mi.unds_map fun _ _=>qim _ _
theorem qjR {h g c m cp:Nat}{w:qad}{B U:Sto}{Q:D×Sto->Prop}(s:HS h g c B U)(hc:c<=2^42)(hw:WebG m w)(hm0:0<m)(hcp0:0<cp)(h8':m*cp<=8)
  (q:∀ cw k V (bl:List Nat),WebO cw->U.length<=k->V[k]? = some (.lst (bl.map fun i:Nat=>D.int i))->bl.length=cw.length->(∀ x∈bl,x<m)->HS h g (c+400) B V->HS h g (c+400) U V->Q (.tup [dW cw,.ref k],V)):W (qaf 3 qaR [.ref h,dW w,.int cp] U) Q:=by
 have hh:=s.hl;have hg:=s.gl;have hbl:=s.len;have h8:w.length*cp<=8:=by rw [hw.len];exact h8'
 have hcp8:cp<=8:=Nat.le_trans (Nat.le_mul_of_pos_left cp hm0) h8';have hw8:w.length<=8:=Nat.le_trans (Nat.le_mul_of_pos_right w.length hcp0) h8;refine qf3 rfl (by simp [D.unds,D.und]) ?_;have s0:HS h g c U U:=HS.self s.hand s.shut;unfold qaR;refine fnW ?_;unfold qds;generalize hbU:U.length=b;refine seqW (fun r S=>S=U++[.dct [],.lst [pD (0,0)],.lst []]/\r=[some (.ref h),some (dW w),some (.int cp),some (.ref b),some (.ref (b+1)),some (.ref (b+2)),none,none,none,none,none,none,none]) ?_ ?_
 ·((try walk_at "own wq");repeat (simp only [qe5];try walk_at "own wq"))
  simp [hbU,pD]
 rintro r S ⟨rfl,rfl⟩;generalize hVi:U++[Ob.dct [],.lst [pD (0,0)],.lst []]=Vi;have sVi:HS h g c U Vi:=by
  rw [<- hVi];refine s0.app fun o ho=>?_;simp at ho;rcases ho with rfl | rfl | rfl<;>rfl
 have vl:Vi.length=b+3:=by rw [<- hVi];simp [hbU]
 have v0:Vi[b]? = some (dO []):=by rw [<- hVi,<- hbU,qaj];rfl
 have v1:Vi[b+1]? = some (.lst [pD (0,0)]):=by rw [<- hVi,<- hbU,qbZ];rfl
 have v2:Vi[b+2]? = some (.lst []):=by rw [<- hVi,<- hbU,qbZ];rfl
 refine seqW (fun r V0=>∃ F x6 x7 x8 x9,HS h g (c+300) U V0/\V0[b]? = some (dO F)/\Ords w cp b (fun _ _=>True) F V0/\(∀ (r' d' k:Nat),qap F (tkP (r',d'))=some (.ref k)->b+3<=k)/\V0[b+1]? = some (.lst [pD (0,0)])/\V0[b+2]? = some (.lst [])/\b+3<=V0.length/\r=[some (.ref h),some (dW w),some (.int cp),some (.ref b),some (.ref (b+1)),some (.ref (b+2)),x6,x7,x8,x9,none,none,none]) ?_ ?_
 ·refine qpd sVi hbU (by lia) hcp8 hw8 hw.le vl v0 fun F V' x6 x7 x8 x9 a1 a2 a3 a4 a5 a6=>?_;refine ⟨rfl,F,_,_,_,_,a1,a2,a3,a4,?_,?_,by rw [vl] at a6;exact a6,rfl⟩
  ·rw [a5 (b+1) (by lia) (by lia) (by lia) (by lia)];exact v1
  ·rw [a5 (b+2) (by lia) (by lia) (by lia) (by lia)];exact v2
 rintro r V0 ⟨F,x6,x7,x8,x9,sV0,hd0,o0,hkb,m0,r0,hl0,rfl⟩;have bs0:BS h g (c+300) b U V0 F [(0,0)] [] V0:=⟨sV0,hd0,fun _ _ _=>rfl,nR1 _,m0,r0⟩;have mi0:MI w cp [(0,0)]:=⟨by simp,fun x hx=>by simp at hx;subst hx;exact ⟨by rw [hw.len];exact hm0,hcp0⟩⟩;refine seqW (fun r V=>∃ met rooms x6 x7 x8 x9 x10 x11 x12,BS h g (c+300) b U V0 F met rooms V/\MI w cp met/\RF w met rooms/\rooms.length=met.length/\0<met.length/\r=[some (.ref h),some (dW w),some (.int cp),some (.ref b),some (.ref (b+1)),some (.ref (b+2)),x6,x7,x8,x9,x10,x11,x12]) ?_ ?_
 ·refine qmn (fun k r V=>∃ met rooms x6 x7 x8 x9 x10 x11 x12,BS h g (c+300) b U V0 F met rooms V/\MI w cp met/\RF w met rooms/\rooms.length=k/\k<=met.length/\0<met.length/\r=[some (.ref h),some (dW w),some (.int cp),some (.ref b),some (.ref (b+1)),some (.ref (b+2)),x6,x7,x8,x9,x10,x11,x12]) 8 ?_ 100000 0 _ _ (by lia) ⟨[(0,0)],[],_,_,_,_,_,_,_,bs0,mi0,fun i crow hi=>by simp at hi,rfl,by lia,by simp,rfl⟩;rintro k r V ⟨met,rooms,y6,y7,y8,y9,y10,y11,y12,bs,mi,rf,hk,hkm,hmp,rfl⟩;have hfew:=mi.few h8;unfold qcy;walk_at "own wq";refine qaw bs.rm ?_;refine qaw bs.mt ?_;walk_at "own wq";rw [lM1,lM1,hk];by_cases hlt:k<met.length
  ·rw [if_pos (by rw [decide_eq_true_eq];lia)];refine ⟨by lia,?_⟩;obtain ⟨x,hx⟩:∃ x,met[k]? = some x:=⟨_,gG1 hlt⟩;have hxi:=mi.inn x (gM1 hx);obtain ⟨row,hrow⟩:∃ row,w[x.1]? = some row:=⟨_,gG1 hxi.1⟩;have hr4:=hw.le row (gM1 hrow);unfold qcx;refine seqW (fun r S=>S=V/\r=[some (.ref h),some (dW w),some (.int cp),some (.ref b),some (.ref (b+1)),some (.ref (b+2)),some (.int (x.1:Nat)),y7,y8,y9,some (.int (x.2:Nat)),y11,y12]) ?_ ?_
   ·walk_at "own wq";refine qaw bs.rm ?_;walk_at "own wq";rw [lM1,hk];refine qfq (i:=k) (xs:=met.map pD) (x:=pD x) bs.mt (by rw [gP1,hx];rfl) ?_;rw [pD];walk_at "own wq"
   rintro r S ⟨hS,rfl⟩;have hS':=hS.symm;clear hS;subst hS';refine seqW (fun r S=>S=V++[.lst []]/\r=[some (.ref h),some (dW w),some (.int cp),some (.ref b),some (.ref (b+1)),some (.ref (b+2)),some (.int (x.1:Nat)),y7,y8,y9,some (.int (x.2:Nat)),some (.ref V.length),y12]) ?_ ?_
   ·walk_at "own wq"
   rintro r S ⟨rfl,rfl⟩;have bl:=bs.len;have bs1:BS h g (c+300) b U V0 F met rooms (V++[.lst []]):=by
    refine ⟨bs.hs.app fun o ho=>by simp at ho;subst ho;rfl,?_,fun i h1 h2=>?_,by rw [lA1];lia,?_,?_⟩
    ·rw [gL1 (gE1.mp bs.dic).1];exact bs.dic
    ·rw [gL1 (by lia)];exact bs.same i h1 h2
    ·rw [gL1 (gE1.mp bs.mt).1];exact bs.mt
    ·rw [gL1 (gE1.mp bs.rm).1];exact bs.rm
   refine seqW (fun r S=>∃ met' some_ z8 z9 z12,met <+: met'/\MI w cp met'/\BS h g (c+300) b U V0 F met' rooms S/\S[V.length]? = some (.lst (some_.map pD))/\some_.length=row.length/\qh9 met' some_ row/\r=[some (.ref h),some (dW w),some (.int cp),some (.ref b),some (.ref (b+1)),some (.ref (b+2)),some (.int (x.1:Nat)),y7,z8,z9,some (.int (x.2:Nat)),some (.ref V.length),z12]) ?_ ?_
   ·unfold mFor;rw [qal];refine qh8 (d:=dR row) (S1:=V++[.lst []]) ?_ ?_
    ·simp only [qaa,mNil,m2,b2,mV,gC1,List.getElem?_cons_zero,oS1,qp6 hrow]
    refine qfw.mpr ?_;refine qaS (fun j r S=>∃ met' some_ z8 z9 z12,j<=row.length/\met <+: met'/\MI w cp met'/\BS h g (c+300) b U V0 F met' rooms S/\S[V.length]? = some (.lst (some_.map pD))/\some_.length=j/\qh9 met' some_ row/\r=[some (.ref h),some (dW w),some (.int cp),some (.ref b),some (.ref (b+1)),some (.ref (b+2)),some (.int (x.1:Nat)),y7,z8,z9,some (.int (x.2:Nat)),some (.ref V.length),z12]) _ 0 _ _ ⟨met,[],_,_,_,by lia,List.prefix_rfl,mi,bs1,by rw [qaj];rfl,rfl,fun d e goal h1=>by simp at h1,rfl⟩ (fun _ _ _ _=>rfl) ?_ ?_
    ·rintro j dd hdd r S ⟨met',some_,z8,z9,z12,hj,hpre,mi',bs',hs',hsl,ro,rfl⟩;dsimp only at hdd;rw [qbJ,gP1] at hdd;obtain ⟨z,hz,rfl⟩:=oM1.mp hdd;obtain ⟨goal,hgoal,rfl⟩:=oM1.mp hz;have hjlt:=(gE1.mp hgoal).1;rw [Nat.zero_add] at *
     ((try walk_at "own wq");repeat (simp only [qqm];try walk_at "own wq"))
     refine qqi hw h8 hbU hl0 o0 hkb bs' mi' (by lia) hs' (by lia) hxi.2 ⟨row,hrow,hgoal⟩ fun met2 e V2 x12' c1 c2 c3 c4 c5 c6 c7=>?_;refine ⟨rfl,met2,some_++[e],_,_,_,by lia,hpre.trans c1,c2,c3,c4,by simp [hsl],fun d e' goal' h1 h2=>?_,rfl⟩;by_cases hd:d<some_.length
     ·rw [gL1 hd] at h1;exact (ro.mono c1) d e' goal' h1 h2
     ·have hd2:d=some_.length:=by have:=(gE1.mp h1).1;simp at this;lia
      subst hd2;rw [List.getElem?_concat_length] at h1;cases h1;rw [hsl,hgoal] at h2;cases h2;exact ⟨c5,c6⟩
    ·rintro r S ⟨met',some_,z8,z9,z12,hj,hpre,mi',bs',hs',hsl,ro,rfl⟩;rw [qbI,lM1,Nat.zero_add] at hsl;exact ⟨rfl,met',some_,_,_,_,hpre,mi',bs',hs',hsl,ro,rfl⟩
   rintro r S ⟨met',some_,z8,z9,z12,hpre,mi',bs',hs',hsl,ro,rfl⟩;have hfew':=mi'.few h8;walk_at "own wq";refine qeg ?_;walk_at "own wq";refine ⟨b+2,rooms.map dR,rfl,bs'.rm,?_⟩;refine qaw hs' ?_;refine (qgO bs'.rm).mpr ⟨qah (by rw [lM1];lia),?_⟩;have e:rooms.map dR++[D.tup (some_.map pD)]=(rooms++[some_]).map dR:=by rw [List.map_append];rfl
   rw [e];have hb2:b+2<S.length:=(gE1.mp bs'.rm).1;refine ⟨met',rooms++[some_],_,_,_,_,_,_,_,bs'.set hbU (.inr (.inr rfl)) hl0 hb2 (by rw [Ob.und];exact qnU _) (by rw [gS1 (by lia)];exact bs'.mt) (by rw [List.getElem?_set_self hb2]),mi',fun i crow hi=>?_,by simp [hk],?_,?_,rfl⟩
   ·by_cases hik:i<rooms.length
    ·rw [gL1 hik] at hi;exact (rf.mono hpre) i crow hi
    ·have hi2:i=rooms.length:=by have:=(gE1.mp hi).1;simp at this;lia
     subst hi2;rw [List.getElem?_concat_length] at hi;cases hi;exact ⟨x,row,by rw [hk];exact qgn hpre hx,hrow,hsl,ro⟩
   ·have:=hpre.length_le;lia
   ·have:=hpre.length_le;lia
  ·rw [if_neg (by rw [decide_eq_true_eq];lia)];exact ⟨met,rooms,_,_,_,_,_,_,_,bs,mi,rf,by lia,hmp,rfl⟩
 rintro r V ⟨met,rooms,y6,y7,y8,y9,y10,y11,y12,bs,mi,rf,hrl,hmp,rfl⟩;have hfew:=mi.few h8;have wo:WebO rooms:=by
  refine ⟨by lia,by lia,fun row hr=>?_,fun crow hr e he=>?_⟩
  ·obtain ⟨i,hi⟩:=List.getElem?_of_mem hr;obtain ⟨x,row',a1,a2,a3,a4⟩:=rf i row hi;rw [a3];exact hw.le row' (gM1 a2)
  ·obtain ⟨i,hi⟩:=List.getElem?_of_mem hr;obtain ⟨d,hd⟩:=List.getElem?_of_mem he;obtain ⟨x,row',a1,a2,a3,a4⟩:=rf i crow hi;obtain ⟨goal,hgoal⟩:∃ goal,row'[d]? = some goal:=⟨_,gG1 (by rw [<- a3];exact (gE1.mp hd).1)⟩;obtain ⟨b1,y,b2,b3⟩:=a4 d e goal hd hgoal;obtain ⟨crow2,hc2⟩:∃ cr,rooms[e.1]? = some cr:=⟨_,gG1 (by rw [hrl];exact (gE1.mp b2).1)⟩;obtain ⟨x2,row2,d1,d2,d3,d4⟩:=rf e.1 crow2 hc2;rw [b2] at d1;cases d1;obtain ⟨row3,e1,e2⟩:=hw.back x.1 d goal ⟨row',a2,hgoal⟩;rw [b3,e1] at d2;cases d2;exact ⟨crow2,hc2,by rw [b1,d3];exact (gE1.mp e2).1⟩
 walk_at "own wq";refine qaw bs.rm ?_;refine qaw bs.mt ?_;refine mapW (fun x:Nat×Nat=>.int x.1) (fun r=>∃ x y,r=[x,y]) (qaQ bs.mt) met _ ⟨_,_,rfl⟩ ?_ ?_
 ·rintro x hx r ⟨a,b',rfl⟩;rw [pD];walk_at "own wq";exact ⟨_,_,rfl⟩
 ·rintro r' _;walk_at "own wq";refine ⟨qah (by rw [lM1];lia),?_⟩;have sf:HS h g (c+400) U (V++[.lst (met.map fun x:Nat×Nat=>D.int x.1)]):=(bs.hs.app fun o ho=>by simp at ho;subst ho;rw [Ob.und];exact Mi.unds_map fun _ _=>rfl).more (by lia);have hVl:=bs.hs.len;have hgc:∀ d S,d=D.tup [dW rooms,D.ref V.length]->gc b (d,S)=(d,S):=fun d S e=>by
   unfold gc;rw [if_neg];subst e;simp [D.und,D.unds];intro _ z;lia
  have:=q rooms V.length _ (met.map (·.1)) wo hVl (by rw [List.map_map,qaj];rfl) (by rw [lM1,hrl]) (fun x hx=>by obtain ⟨y,hy,rfl⟩:=List.mem_map.mp hx;rw [<- hw.len];exact (mi.inn y hy).1) (s.trans sf) sf;rw [hgc]
  ·exact this
  ·rfl
theorem qhg {w:qad}{S:Sto}:gLen (dW w) S=some (.int w.length,S):=by simp [dW,gLen,qao]
theorem qqU {h g c:Nat}{B U:Sto}{Q:D×Sto->Prop}(s:HS h g c B U)(hc:c<=2^39)
  (q:∀ w U',WebO w->HS h g (c+1000) B U'->HS h g (c+1000) U U'->U'.length=U.length->Q (dW w,U')):W (qaf 1 qbN [.ref h] U) Q:=by
 refine qgL (c':=c+1000) rfl rfl s ?_;have s0:HS h g c U U:=HS.self s.hand s.shut;unfold qbN;refine fnW ?_;unfold qeD;walk_at "own wq";refine qaX s0 (by lia) (by lia) (by lia) fun k U1 s1 _ l1 hk=>?_;walk_at "own wq";split
 ·refine qaX s1 (by lia) (by lia) (by lia) fun m U2 s2 _ l2 hm=>?_;walk_at "own wq";rw [show ((1:Int)+(m:Int))=((m+1:Nat):Int) by lia];refine qmE (by lia) (by lia) ?_;exact ⟨s2.more (by lia),qgT 0 _,fun U' a b l=>q _ U' ((qkz (by lia) (by lia)).o (by lia) (by lia)) a b l⟩
 ·split
  ·refine qgI (most:=4) s1 (by lia) (by lia) (by lia) fun m w U2 hm0 hm hw s2 s2' l2=>?_
   ((try walk_at "own wq");repeat (simp only [qhg];try walk_at "own wq"))
   have hdiv:gDiv (D.int 8) (D.int w.length) U2=some (.int ((8/w.length:Nat):Int),U2):=by
    have hl:=hw.len;simp only [gDiv];rw [if_pos ⟨by lia,by lia⟩];simp
   ((try walk_at "own wq");repeat (simp only [hdiv];try walk_at "own wq"))
   have hd:0<8/w.length:=by rw [hw.len];exact Nat.div_pos (by lia) hm0
   have hd8:8/w.length<=8:=Nat.div_le_self _ _;refine qaX s2 (by lia) (by lia) (by lia) fun cp U3 s3 s3' l3 hcp=>?_;walk_at "own wq";rw [show ((1:Int)+(cp:Int))=((cp+1:Nat):Int) by lia];have hmul:m*(cp+1)<=8:=by
    have h1:cp+1<=8/m:=by rw [hw.len] at hcp;lia
    exact Nat.le_trans (Nat.mul_le_mul_left m h1) (Nat.mul_div_le 8 m)
   refine qjR s3 (by lia) hw hm0 (by lia) hmul fun cw k' V _ wo _ _ _ _ a b=>?_;refine qkb (i:=0) rfl ?_;exact ⟨a.more (by lia),qgT 0 _,fun U' a b l=>q _ U' wo a b l⟩
  ·refine qgI (most:=8) s1 (by lia) (by lia) (by lia) fun m w U2 hm0 hm hw s2 s2' l2=>?_;exact ⟨s2.more (by lia),qgT 0 _,fun U' a b l=>q _ U' (hw.o hm0 hm) a b l⟩
theorem modW {x y:Int}{S:Sto}{Q:D×Sto->Prop}(h:0<y)(q:Q (.int (x%y),S)):W (gMod (.int x) (.int y) S) Q:=by
 refine W.of ?_ q;simp only [gMod,if_pos h]
theorem mulW {x y:Int}{S:Sto}{Q:D×Sto->Prop}(h:qaY x y=true)(q:Q (.int (x*y),S)):W (gMul (.int x) (.int y) S) Q:=by
 refine W.of ?_ q;simp only [gMul,if_pos h]
theorem powW {x y:Nat}{S:Sto}{Q:D×Sto->Prop}(h:y<=1000)(hx:x<=100)(q:Q (.int ((x:Int)^y),S)):W (gPow (.int x) (.int y) S) Q:=by
 refine W.of ?_ q;simp only [gPow];rw [if_pos ⟨by lia,by lia,by lia⟩,Int.toNat_natCast]
theorem absW {x:Int}{S:Sto}{Q:D×Sto->Prop}(q:∀ y:Int,0<=y->Q (.int y,S)):W (gAbs (.int x) S) Q:=by
 refine W.of (x:=(.int (if x<0 then-x else x),S)) rfl (q _ ?_);split<;>lia
theorem qqb (ns:List Int)(hl:ns.length<=63):W (qbb [.rol (ns.map D.int)] []) fun p=>p.1 = .ref 2 /\ ∃ (own:List Int) (seed:Int),p.2=[.lst (own.map D.int),.lst (ns.map D.int),hd 0 seed 0]/\(∀ x∈own,0<=x)/\own.length<=63:=by
 unfold qbb;refine fnW ?_;unfold qee;generalize hN:D.rol (ns.map D.int)=N;have hlen:gLen N []=some (.int ns.length,[]):=by rw [<- hN];simp [gLen,qao]
 refine seqW (fun r S=>∃ seed,S=[.lst (([]:List Int).map D.int)]/\r=[some N,some (.int seed),some (.ref 0),none,none]) ?_ ?_
 ·((try walk_at "own wq");repeat (simp only [hlen];try walk_at "own wq"))
  exact ⟨_,rfl⟩
 rintro r S ⟨seed,rfl,rfl⟩;refine seqW (fun r S=>∃ (own:List Int) (seed:Int) (x3 x4:Option D),S=[.lst (own.map D.int),.lst (ns.map D.int)]/\r=[some N,some (.int seed),some (.ref 0),x3,x4]/\(∀ x∈own,0<=x)/\own.length<=63) ?_ ?_
 ·unfold mFor;rw [qal];have hsl:qaa (mSlX (mV 0) qe4 (qe3 (mC (D.int 63)))) mNil [some N,some (.int seed),some (.ref 0),none,none] [Ob.lst (([]:List Int).map D.int)]=some ([.ref 1],[.lst (([]:List Int).map D.int),.lst (ns.map D.int)]):=by
   have hc:Mi.cutD (ns.map D.int) none (some 63)=ns.map D.int:=qfV ⟨rfl,by
    have:=HT.qgj (ns.map D.int).length (ns.map D.int).length 63;rw [show (some (63:Int))=some ((63:Nat):Int) from rfl,this,lM1];lia⟩
   rw [<- hN];simp [qaa,mSlX,mV,qe4,qe3,mC,qiy,qao,hc,mNil]
  refine qh8 hsl ?_;refine qaw (xs:=ns.map D.int) rfl ?_;refine qaS (fun i r S=>∃ (own:List Int) (seed:Int) (x3 x4:Option D),i<=ns.length/\S=[.lst (own.map D.int),.lst (ns.map D.int)]/\r=[some N,some (.int seed),some (.ref 0),x3,x4]/\(∀ x∈own,0<=x)/\own.length<=i) _ 0 _ _ ⟨[],seed,none,none,by lia,rfl,rfl,by simp,by simp⟩ ?_ ?_ ?_
  ·rintro i r S ⟨own,_,_,_,_,rfl,_⟩;exact qaQ rfl
  ·rintro i dd hdd r S ⟨own,seed,x3,x4,hi,rfl,rfl,hown,hol⟩;dsimp only at hdd;rw [qbJ,gP1] at hdd;obtain ⟨z,hz,rfl⟩:=oM1.mp hdd;obtain ⟨cell,hcell,rfl⟩:=oM1.mp hz;have hlt:=(gE1.mp hcell).1;rw [Nat.zero_add] at *
   walk_at "own wq";unfold qcX;refine seqW (fun r S=>∃ seed,S=[.lst (own.map D.int),.lst (ns.map D.int)]/\r=[some N,some (.int seed),some (.ref 0),some (.int (i:Nat)),some (.int cell)]) ?_ ?_
   ·walk_at "own wq";refine mulW (qna (by decide) (by decide)) ?_;refine powW (x:=10) (y:=30) (by decide) (by decide) ?_;refine modW (by exact Int.pow_pos (by decide)) ?_;walk_at "own wq";refine mulW (qi3 (by decide) (by decide)) ?_;walk_at "own wq";refine modW (by decide) ?_;exact ⟨_,rfl,rfl⟩
   rintro r S ⟨seed,rfl,rfl⟩;walk_at "own wq";refine absW fun ab hab=>?_;refine powW (x:=10) (y:=18) (by decide) (by decide) ?_;walk_at "own wq";split
   ·refine qeg ?_;walk_at "own wq";refine ⟨0,own.map D.int,rfl,rfl,?_⟩;refine absW fun ab2 hab2=>?_;refine powW (x:=10) (y:=60) (by decide) (by decide) ?_;refine powW (x:=10) (y:=30) (by decide) (by decide) ?_;refine mulW (show qaY (10^60) (10^30)=true by decide+kernel) ?_;refine modW (by exact Int.mul_pos (Int.pow_pos (by decide)) (Int.pow_pos (by decide))) ?_;walk_at "own wq";refine (qgO (xs:=own.map D.int) rfl).mpr ⟨qah (by rw [lM1];lia),?_⟩;refine ⟨own++[_],_,_,_,by lia,by rw [List.map_append];rfl,rfl,fun x hx=>?_,by simp;lia⟩;rcases List.mem_append.mp hx with z | z
    ·exact hown x z
    ·simp only [List.mem_singleton] at z;rw [z];exact Int.emod_nonneg _ (Int.ne_of_gt (Int.mul_pos (Int.pow_pos (by decide)) (Int.pow_pos (by decide))))
   ·exact ⟨own,_,_,_,by lia,rfl,rfl,hown,by lia⟩
  ·rintro r S ⟨own,seed,x3,x4,hi,rfl,rfl,hown,hol⟩;rw [qbI,lM1,Nat.zero_add] at hol;exact ⟨rfl,own,_,_,_,rfl,rfl,hown,by lia⟩
 rintro r S ⟨own,seed,x3,x4,rfl,rfl,hown,hol⟩;walk_at "own wq";exact ⟨own,seed,rfl,hown,hol⟩
mutual
theorem qmA:∀ d:D,d.sh 0=d
 | .non=>rfl
 | .bl _=>rfl
 | .int _=>rfl
 | .str _=>rfl
 | .fn _=>rfl
 | .tup xs=>by rw [D.sh,qdC xs]
 | .rol xs=>by rw [D.sh,qdC xs]
 | .ref k=>by rw [D.sh,Nat.zero_add]
theorem qdC:∀ ds:List D,D.shs 0 ds=ds
 | []=>rfl
 | d::ds=>by rw [D.shs,qmA d,qdC ds]
end
theorem qmx (ns:List Int)(hl:ns.length<=63):W (qaf 1 qbb [.rol (ns.map D.int)] []) fun p=>p.1 = .ref 2/\HS 2 0 0 p.2 p.2:=by
 obtain ⟨⟨d,S⟩,e,hd,own,seed,hS,hown,hol⟩:=qqb ns hl;dsimp only at hd hS;subst hd;subst hS;refine ⟨_,qfm (n:=1) e rfl (by rw [D.unds,D.und,qay];rfl) (by simp [D.und]),?_⟩;refine ⟨rfl,?_⟩;have e2:([Ob.lst (own.map D.int),.lst (ns.map D.int),hd 0 seed 0].map (Ob.sh ([]:Sto).length))=[Ob.lst (own.map D.int),.lst (ns.map D.int),hd 0 seed 0]:=by
  simp [Ob.sh,hd,qdC]
 dsimp only;rw [e2,List.nil_append];refine HS.self ⟨by decide,seed,0,own,rfl,rfl,hown,by lia,Int.le_refl _,Int.le_refl _⟩ ?_;unfold Shut;simp [Ob.und,qay,hd,D.unds,D.und]
theorem HS.pushI {h g n:Nat}{B U:Sto}(s:HS h g n B U)(zs:List Int):HS h g n B (U++[.lst (zs.map D.int)]):=s.app fun o ho=>by simp at ho;subst ho;rw [Ob.und];exact qay _ _
theorem qm3 {h g c:Nat}{B U:Sto}(zs:List Int){Q:D×Sto->Prop}(s:HS h g c B U)(hc:c<=2^44)(hl:zs.length<=100)(hne:0<zs.length)
  (q:∀ z∈zs,∀ U',HS h g (c+1) B U'->HS h g (c+1) U U'->U'.length=U.length+1->Q (.int z,U')):W (qaf 2 qaA [.ref h,.ref U.length] (U++[.lst (zs.map D.int)])) Q:=by
 have h1:=s.hl;have h2:=s.gl;have h3:=s.len;have s0:HS h g c U U:=HS.self s.hand s.shut;refine of_W (r:=U.length) (xs:=zs.map D.int) (s.pushI zs) (by lia) (by rw [qaj];rfl) (by lia) (by lia) (by rw [lM1];exact hl) (by rw [lM1];exact hne) (fun x hx=>by obtain ⟨y,_,rfl⟩:=List.mem_map.mp hx;rfl) fun x U2 hx a b l=>?_;obtain ⟨z,hz,rfl⟩:=List.mem_map.mp hx;exact q z hz U2 a ((s0.pushI zs).trans b) (by rw [l];simp)
theorem qoV {S:Sto}:gPow (.int 10) (.int 30) S=some (.int (10^30),S):=by
 simp only [gPow];rw [if_pos ⟨by decide,by decide,by decide⟩];rfl
theorem qoU {S:Sto}:gPow (.int 10) (.int 40) S=some (.int (10^40),S):=by
 simp only [gPow];rw [if_pos ⟨by decide,by decide,by decide⟩];rfl
theorem neg_int {x:Int}{S:Sto}:gNeg (.int x) S=some (.int (-x),S):=rfl
theorem qiA {h g c m:Nat}{B U:Sto}{Q:D×Sto->Prop}(s:HS h g c B U)(hc:c<=2^40)(hm0:0<m)(hm:m<=8)
  (q:∀ (sg:List Int) U',sg.length=m->HS h g (c+20) B U'->HS h g (c+20) U U'->U'.length=U.length->Q (.tup (sg.map D.int),U')):W (qaf 2 qa1 [.ref h,.int m] U) Q:=by
 have hh:=s.hl;have hg:=s.gl;have hbl:=s.len;refine qgL (c':=c+20) rfl rfl s ?_;have s0:HS h g c U U:=HS.self s.hand s.shut;unfold qa1;refine fnW ?_;unfold qdm;refine seqW (fun r V=>∃ way:Nat,HS h g (c+1) U V/\r=[some (.ref h),some (.int m),some (.int way),none]) ?_ ?_
 ·walk_at "own wq";refine qaX s0 (by lia) (by lia) (by lia) fun k U1 s1 _ l1 hk=>?_;exact ⟨k,s1,rfl⟩
 rintro r V ⟨way,s1,rfl⟩;have hV1:=s1.len;refine seqW (fun r V=>∃ (k:Nat) (sg:List Int),sg.length=m/\U.length<=k/\V[k]? = some (.lst (sg.map D.int))/\HS h g (c+1) U V/\r=[some (.ref h),some (.int m),some (.int way),some (.ref k)]) ?_ ?_
 ·walk_at "own wq";refine ql8 (k:=m) (xs:=[.int 0]) (by rw [qaj];rfl) (by lia) (by simp) ?_;have e:(List.replicate m [D.int 0]).flatten=(List.replicate m (0:Int)).map D.int:=by
   clear q s s0 s1 hc hm hm0
   induction m with
   | zero=>rfl
   | succ m ih=>rw [List.replicate_succ,List.replicate_succ,List.flatten_cons,ih];rfl
  rw [e];refine ⟨V.length+1,List.replicate m 0,by simp,by lia,by rw [List.append_assoc,qbZ];rfl,?_,?_⟩
  ·have:=(s1.pushI [0]).pushI (List.replicate m 0);simpa using this
  ·simp
 rintro r V ⟨k,sg,hsg,hk,hkV,s2,rfl⟩;refine seqW (fun r V=>∃ (k:Nat) (sg:List Int),sg.length=m/\U.length<=k/\V[k]? = some (.lst (sg.map D.int))/\HS h g (c+9) U V/\r=[some (.ref h),some (.int m),some (.int way),some (.ref k)]) ?_ ?_
 ·walk_at "own wq";split
  ·refine ⟨qbd (by lia),?_⟩;rw [Int.toNat_natCast];refine qbt (fun i acc r W'=>i<=m/\(∃ zs:List Int,acc=zs.map D.int/\zs.length=i)/\HS h g (c+1+i) U W' /\ ∃ x0,r=[x0,some (.ref h)]) _ 0 [] _ _ ⟨by lia,⟨[],rfl,rfl⟩,s2,_,rfl⟩ (fun _ _ _ _ _=>rfl) ?_ ?_
   ·rintro i d hd acc r W' ⟨hi,⟨zs,rfl,hz⟩,hs,x0,rfl⟩;have hlt:=(gE1.mp hd).1;rw [qaz] at hlt;rw [Nat.zero_add] at *
    walk_at "own wq";refine qaX hs (by lia) (by lia) (by lia) fun e U1 a _ _ he=>?_;exact ⟨by lia,⟨zs++[(e:Int)],by simp,by simp;lia⟩,a.more (by lia),_,rfl⟩
   ·rintro xs r W' ⟨hi,⟨zs,hz,hzl⟩,hs,x0,rfl⟩;rw [qaz,Nat.zero_add] at hzl hs;rw [List.nil_append] at hz;subst hz;refine ⟨qah (by rw [lM1];lia),W'.length,zs,hzl,hs.len,by rw [qaj];rfl,(hs.more (by lia)).pushI zs,rfl⟩
  ·exact ⟨k,sg,hsg,hk,hkV,s2.more (by lia),rfl⟩
 clear hsg hk hkV s2;rintro r V ⟨k,sg,hsg,hk,hkV,s2,rfl⟩;refine seqW (fun r V=>∃ (k:Nat) (sg:List Int),sg.length=m/\U.length<=k/\V[k]? = some (.lst (sg.map D.int))/\HS h g (c+11) U V/\r=[some (.ref h),some (.int m),some (.int way),some (.ref k)]) ?_ ?_
 ·((try walk_at "own wq");repeat (simp only [neg_int,qoV];try walk_at "own wq"))
  split
  ·refine qm3 [1,-1,10^30] s2 (by lia) (by simp) (by simp) fun z hz U1 a b l=>?_;walk_at "own wq";refine qaX a (by lia) (by lia) (by lia) fun e U2 a2 b2 l2 he=>?_;have hk2:U2[k]? = some (.lst (sg.map D.int)):=b2.at (b.at hkV (by lia) (by lia)) (by lia) (by lia);refine ql7 (i:=e) hk2 (by rw [lM1];lia) ?_;have hkl:=(gE1.mp hk2).1;refine ⟨k,sg.set e z,by simpa using hsg,hk,?_,?_,rfl⟩
   ·rw [List.getElem?_set_self hkl,List.map_set]
   ·exact a2.set hk (by rw [Ob.und,<- List.map_set];exact qay _ _)
  ·exact ⟨k,sg,hsg,hk,hkV,s2.more (by lia),rfl⟩
 clear hsg hk hkV s2;rintro r V ⟨k,sg,hsg,hk,hkV,s2,rfl⟩;refine seqW (fun r V=>∃ (k:Nat) (sg:List Int),sg.length=m/\V[k]? = some (.lst (sg.map D.int))/\HS h g (c+19) U V/\r=[some (.ref h),some (.int m),some (.int way),some (.ref k)]) ?_ ?_
 ·((try walk_at "own wq");repeat (simp only [neg_int,qoU];try walk_at "own wq"))
  split
  ·refine ⟨qbd (by lia),?_⟩;rw [Int.toNat_natCast];refine qbt (fun i acc r W'=>i<=m/\(∃ zs:List Int,acc=zs.map D.int/\zs.length=i)/\HS h g (c+11+i) U W' /\ ∃ x0,r=[x0,some (.ref h)]) _ 0 [] _ _ ⟨by lia,⟨[],rfl,rfl⟩,s2,_,rfl⟩ (fun _ _ _ _ _=>rfl) ?_ ?_
   ·rintro i d hd acc r W' ⟨hi,⟨zs,rfl,hz⟩,hs,x0,rfl⟩;have hlt:=(gE1.mp hd).1;rw [qaz] at hlt;rw [Nat.zero_add] at *
    ((try walk_at "own wq");repeat (simp only [neg_int,qoU];try walk_at "own wq"))
    refine qm3 [0,2,-3,10^40,10^40+1] hs (by lia) (by simp) (by simp) fun z hz2 U1 a _ _=>?_;exact ⟨by lia,⟨zs++[z],by simp,by simp;lia⟩,a.more (by lia),_,rfl⟩
   ·rintro xs r W' ⟨hi,⟨zs,hz,hzl⟩,hs,x0,rfl⟩;rw [qaz,Nat.zero_add] at hzl hs;rw [List.nil_append] at hz;subst hz;refine ⟨qah (by rw [lM1];lia),W'.length,zs,hzl,by rw [qaj];rfl,(hs.more (by lia)).pushI zs,rfl⟩
  ·exact ⟨k,sg,hsg,hkV,s2.more (by lia),rfl⟩
 clear hsg hk hkV s2;rintro r V ⟨k,sg,hsg,hkV,s2,rfl⟩;walk_at "own wq";refine qaw hkV ?_;exact ⟨s2.more (by lia),by rw [D.und];exact qay _ _,fun U' a b l=>q sg U' hsg a b l⟩
theorem qly {m:FE}{lo hi:FO}{r:Ev}{S:Sto}{xs:List D}{a b:Option Int}{Q:D×Sto->Prop}(hm:m r S=some (.tup xs,S))(hl:lo r S=some (a,S))(hh:hi r S=some (b,S))(q:Q (.tup (Mi.cutD xs a b),S)):W (mSlX m lo hi r S) Q:=by
 refine W.of ?_ q;unfold mSlX;rw [hm,oS1];dsimp only;rw [hl,oS1];dsimp only;rw [hh,oS1];simp only [qiy,qdO,oP1,bF1,if_false]
theorem cutT (xs:List D)(k:Nat):Mi.cutD xs none (some (k:Int))=xs.take k:=by
 unfold Mi.cutD;rw [HT.qdD,HT.qgj,List.drop_zero,Nat.sub_zero];by_cases h:k<=xs.length
 ·rw [Nat.min_eq_left h]
 ·rw [Nat.min_eq_right (by lia),List.take_length,List.take_of_length_le (by lia)]
theorem cutU (xs:List D)(k:Nat):Mi.cutD xs (some (k:Int)) none=xs.drop k:=by
 unfold Mi.cutD;rw [HT.qdD,HT.qgj];by_cases h:k<=xs.length
 ·rw [Nat.min_eq_left h,List.take_of_length_le (by simp)]
 ·rw [Nat.min_eq_right (by lia),List.drop_length,List.drop_of_length_le (by lia)];simp
theorem qp7 {S:Sto}{T:Ty}{xs:List D}:isTy S T (.tup xs)=some (decide (T = .tuple)):=rfl
theorem qqK {m:FA}{r:Ev}{S:Sto}{xs ys:List D}{Q:Itm×Sto->Prop}(hm:m r S=some ([.tup xs,.tup ys],S))(q:Q (⟨zpD xs ys,[]⟩,S)):W (iZp m r S) Q:=by
 refine W.of ?_ q;unfold iZp;rw [hm];rfl
noncomputable def webD (w:qad):D:=.tup (w.map fun row=>.tup (row.map pD))
structure WebJ (m:Nat)(w:qad):Prop where
 len:w.length=m
 le:∀ (i:Nat) (row:List (Nat×Nat)),w[i]? = some row->row.length<=4
 to:∀ (r d:Nat) (e:Nat×Nat),At w r d e->e.1<m
theorem WebO.j {w:qad}(h:WebO w):WebJ w.length w:=⟨rfl,fun i row hr=>h.le row (gM1 hr),fun r d e ⟨row,h1,h2⟩=>by
 obtain ⟨r',g,_⟩:=h.to row (gM1 h1) e (gM1 h2);exact (gE1.mp g).1⟩
theorem qdz (w:qad):(webD w).und 0=true:=by
 unfold webD;rw [D.und];exact Mi.unds_map fun row _=>by rw [D.und];exact Mi.unds_map fun _ _=>rfl
open Classical in
noncomputable def tf (P:Prop):Bool:=decide P
theorem tf_e {P:Prop}:tf P=true↔P:=by unfold tf;exact @decide_eq_true_iff P (Classical.propDecidable P)
theorem tf_t {P:Prop}(h:P):tf P=true:=tf_e.mpr h
theorem tf_b {P:Prop}{b:Bool}(h:b=true↔P):b=tf P:=by rw [Bool.eq_iff_iff,tf_e];exact h
theorem tf_f {P:Prop}(h:¬ P):tf P=false:=(tf_b ⟨fun z=>(by cases z),fun z=>(h z).elim⟩).symm
theorem tf_i {P Q:Prop}(h:P↔Q):tf P=tf Q:=tf_b (tf_e.trans h)
section
variable {α β:Type}
noncomputable def isF (k:Nat->α)(r:Nat):Prop:=∀ s,s<r->k s≠k r
theorem qld (k:Nat->α)(r:Nat):∃ s,s<=r/\k s=k r/\isF k s:=by
 induction r using Nat.strongRecOn with
 | ind r ih=>
  by_cases h:isF k r
  ·exact ⟨r,nR1 _,rfl,h⟩
  ·obtain ⟨s,h1,h2⟩:∃ s,s<r/\k s=k r:=Classical.byContradiction fun z=>h fun s hs e=>z ⟨s,hs,e⟩;obtain ⟨u,g1,g2,g3⟩:=ih s h1;exact ⟨u,by lia,g2.trans h2,g3⟩
noncomputable def fs (k:Nat->α)(r:Nat):Nat:=Classical.choose (qld k r)
theorem qrU (k:Nat->α)(r:Nat):fs k r<=r:=(Classical.choose_spec (qld k r)).1
theorem fs_k (k:Nat->α)(r:Nat):k (fs k r)=k r:=(Classical.choose_spec (qld k r)).2.1
theorem fs_F (k:Nat->α)(r:Nat):isF k (fs k r):=(Classical.choose_spec (qld k r)).2.2
theorem qqe {k:Nat->α}{r s:Nat}(h:k s=k r)(hf:isF k s):s=fs k r:=by
 rcases Nat.lt_trichotomy s (fs k r) with z | z | z
 ·exact (fs_F k r s z (h.trans (fs_k k r).symm)).elim
 ·exact z
 ·exact (hf _ z ((fs_k k r).trans h.symm)).elim
theorem qhq {k:Nat->α}{r s:Nat}:fs k r=fs k s↔k r=k s:=by
 constructor
 ·intro h;rw [<- fs_k k r,h];exact fs_k k s
 ·intro h;exact qqe ((fs_k k r).trans h) (fs_F k r)
noncomputable def cnt (k:Nat->α)(n:Nat):Nat:=((List.range n).filter fun s=>tf (isF k s)).length
noncomputable def cn (k:Nat->α)(r:Nat):Nat:=cnt k (fs k r)
theorem qhy {k:Nat->α}{n:Nat}:cnt k (n+1)=cnt k n+if tf (isF k n)=true then 1 else 0:=by
 unfold cnt;rw [List.range_succ,List.filter_append,lA1]
 congr 1
 cases h:tf (isF k n) with
 | true=>rw [List.filter_cons_of_pos (by exact h)];rfl
 | false=>rw [List.filter_cons_of_neg (by rw [h];decide)];rfl
theorem qln {k:Nat->α}{a b:Nat}(h:a<=b):cnt k a<=cnt k b:=by
 induction b with
 | zero=>rw [show a=0 by lia];exact nR1 _
 | succ b ih=>
  rcases Nat.lt_succ_iff_lt_or_eq.mp (Nat.lt_succ_of_le h) with z | z
  ·rw [qhy];have:=ih (by lia);lia
  ·rw [z];exact nR1 _
theorem qjS {k:Nat->α}{a b:Nat}(h:a<b)(hf:isF k a):cnt k a<cnt k b:=by
 have h1:=qln (k:=k) (show a+1<=b from h);rw [qhy,tf_t hf,if_pos rfl] at h1;lia
theorem qqo {k:Nat->α}{r s:Nat}:cn k r=cn k s↔k r=k s:=by
 constructor
 ·intro h;rw [<- qhq];rcases Nat.lt_trichotomy (fs k r) (fs k s) with z | z | z
  ·have:=qjS z (fs_F k r);unfold cn at h;lia
  ·exact z
  ·have:=qjS z (fs_F k s);unfold cn at h;lia
 ·intro h;unfold cn;rw [qhq.mpr h]
end
noncomputable def rowN (w:qad)(r:Nat):List (Nat×Nat):=w[r]?.getD []
theorem qdR {w:qad}{r:Nat}{row:List (Nat×Nat)}(h:w[r]? = some row):rowN w r=row:=by unfold rowN;rw [h];rfl
noncomputable def sgN (sg:List Int)(r:Nat):Int:=sg.getD r 0
noncomputable def mvC (c:Nat->Nat)(e:Nat×Nat):Nat×Nat:=(c e.1,e.2)
noncomputable def lk (w:qad)(sg:List Int)(c:Nat->Nat)(r:Nat):Nat×Int×List (Nat×Nat):=(c r,sgN sg r,(rowN w r).map (mvC c))
noncomputable def col (w:qad)(sg:List Int):Nat->Nat->Nat
 | 0=>fun _=>0
 | n+1=>cn (lk w sg (col w sg n))
noncomputable def Dr (w:qad)(R:Nat->Nat->Prop)(r s:Nat):Prop:=(rowN w r).length=(rowN w s).length /\ ∀ (d:Nat) (e e':Nat×Nat),(rowN w r)[d]? = some e->(rowN w s)[d]? = some e'->R e.1 e'.1/\e.2=e'.2
theorem Dr.imp {w:qad}{R R':Nat->Nat->Prop}{r s:Nat}(h:Dr w R r s)(i:∀ a b,R a b->R' a b):Dr w R' r s:=⟨h.1,fun d e e' h1 h2=>⟨i _ _ (h.2 d e e' h1 h2).1,(h.2 d e e' h1 h2).2⟩⟩
theorem qpR {γ:Type}{w:qad}{c:Nat->γ}{r s:Nat}:(rowN w r).map (fun e=>(c e.1,e.2))=(rowN w s).map (fun e=>(c e.1,e.2))↔Dr w (fun a b=>c a=c b) r s:=by
 constructor
 ·intro h;refine ⟨by have:=congrArg List.length h;rwa [lM1,lM1] at this,fun d e e' h1 h2=>?_⟩;have:=congrArg (fun l:List (γ×Nat)=>l[d]?) h;simp only [gP1,h1,h2,oP1,Option.some.injEq,Prod.mk.injEq] at this;exact this
 ·rintro ⟨h1,h2⟩;refine List.ext_getElem? fun d=>?_;rw [gP1,gP1];cases he:(rowN w r)[d]? with
  | none=>
   rw [List.getElem?_eq_none_iff] at he;rw [List.getElem?_eq_none (by lia)]
  | some e=>
   have hl:=(gE1.mp he).1;obtain ⟨e',he'⟩:∃ e',(rowN w s)[d]? = some e':=⟨_,gG1 (by lia)⟩;rw [he'];obtain ⟨g1,g2⟩:=h2 d e e' he he';simp only [oP1,g1,g2]
noncomputable def RA (w:qad)(sg:List Int):Nat->Nat->Nat->Prop
 | 0=>fun _ _=>True
 | n+1=>fun r s=>RA w sg n r s/\sgN sg r=sgN sg s/\Dr w (RA w sg n) r s
theorem qfi {w:qad}{sg:List Int}:∀ {n r s:Nat},col w sg n r=col w sg n s↔RA w sg n r s
 | 0,r,s=>⟨fun _=>trivial,fun _=>rfl⟩
 | n+1,r,s=>by
  have ih:=@qfi w sg n;rw [col,qqo,lk,lk,Prod.mk.injEq,Prod.mk.injEq,RA,ih];refine and_congr_right fun _=>and_congr_right fun _=>?_;exact qpR.trans ⟨fun h=>h.imp fun a b=>ih.mp,fun h=>h.imp fun a b=>ih.mpr⟩
noncomputable def EB (w:qad)(sg:List Int):Nat->Nat->Nat->Prop
 | 0=>fun r s=>(rowN w r).length=(rowN w s).length/\sgN sg r=sgN sg s
 | n+1=>fun r s=>EB w sg n r s/\Dr w (EB w sg n) r s
theorem RA.eb {w:qad}{sg:List Int}:∀ {n r s:Nat},RA w sg (n+1) r s->EB w sg n r s
 | 0,r,s,h=>⟨h.2.2.1,h.2.1⟩
 | n+1,r,s,h=>⟨RA.eb h.1,h.2.2.imp fun a b=>RA.eb⟩
noncomputable def Stl (m:Nat)(w:qad)(sg:List Int)(n:Nat):Prop:=∀ r s,r<m->s<m->RA w sg n r s->RA w sg (n+1) r s
theorem Dr.lt {m:Nat}{w:qad}{R R':Nat->Nat->Prop}{r s:Nat}(hw:WebJ m w)(h:Dr w R r s)(i:∀ a b,a<m->b<m->R a b->R' a b):Dr w R' r s:=by
 have at_:∀ {r d:Nat} {e:Nat×Nat},(rowN w r)[d]? = some e->e.1<m:=fun {r d e} he=>by
  unfold rowN at he;cases hr:w[r]? with
  | none=>rw [hr] at he;simp at he
  | some row=>rw [hr] at he;exact hw.to r d e ⟨row,hr,he⟩
 exact ⟨h.1,fun d e e' h1 h2=>⟨i _ _ (at_ h1) (at_ h2) (h.2 d e e' h1 h2).1,(h.2 d e e' h1 h2).2⟩⟩
theorem Stl.next {m n:Nat}{w:qad}{sg:List Int}(hw:WebJ m w)(h:Stl m w sg n):Stl m w sg (n+1):=fun r s hr hs q=>
 ⟨q,q.2.1,q.2.2.lt hw h⟩
theorem Stl.on {m n:Nat}{w:qad}{sg:List Int}(hw:WebJ m w)(h:Stl m w sg n):∀ k,Stl m w sg (n+k)
 | 0=>h
 | k+1=>(h.on hw k).next hw
theorem qjB {p q:Nat->Bool}(h:∀ x,p x=true->q x=true):∀ l:List Nat,(l.filter p).length<=(l.filter q).length/\((l.filter p).length=(l.filter q).length -> ∀ x∈l,q x=true->p x=true)
 | []=>⟨nR1 _,fun _ x hx=>by cases hx⟩
 | a::l=>by
  obtain ⟨h1,h2⟩:=qjB h l;cases hp:p a with
  | true=>
   rw [List.filter_cons_of_pos hp,List.filter_cons_of_pos (h a hp),lC1,lC1];refine ⟨by lia,fun e x hx hq=>?_⟩;rcases List.mem_cons.mp hx with rfl | hx
   ·exact hp
   ·exact h2 (by lia) x hx hq
  | false=>
   rw [List.filter_cons_of_neg (by rw [hp];decide)];cases hq:q a with
   | true=>
    rw [List.filter_cons_of_pos hq,lC1];exact ⟨by lia,fun e=>by lia⟩
   | false=>
    rw [List.filter_cons_of_neg (by rw [hq];decide)];refine ⟨h1,fun e x hx hq'=>?_⟩;rcases List.mem_cons.mp hx with rfl | hx
    ·rw [hq] at hq';cases hq'
    ·exact h2 e x hx hq'
theorem more {m n:Nat}{w:qad}{sg:List Int}(h:¬ Stl m w sg n):cnt (col w sg n) m<cnt (col w sg (n+1)) m:=by
 have sub:∀ r,isF (col w sg n) r->isF (col w sg (n+1)) r:=fun r hf s hs e=>hf s hs (by rw [qfi] at e ⊢;exact e.1);obtain ⟨h1,h2⟩:=qjB (p:=fun s=>tf (isF (col w sg n) s)) (q:=fun s=>tf (isF (col w sg (n+1)) s)) (fun x hx=>tf_t (sub x (tf_e.mp hx))) (List.range m);refine Nat.lt_of_le_of_ne h1 fun e=>h fun r s hr hs q=>?_;have back:∀ x,x<m->isF (col w sg (n+1)) x->isF (col w sg n) x:=fun x hx hf=>tf_e.mp (h2 e x (List.mem_range.mpr hx) (tf_t hf))
 -- both have one first place
 have one:∀ x,x<m->fs (col w sg (n+1)) x=fs (col w sg n) x:=fun x hx=>by
  have l1:=qrU (col w sg (n+1)) x;refine qqe ?_ (back _ (by lia) (fs_F _ x));have:=fs_k (col w sg (n+1)) x;rw [qfi] at this ⊢;exact this.1
 rw [<- qfi] at q ⊢;rw [<- qhq,one r hr,one s hs,qhq];exact q
theorem qqn (k:Nat->Nat)(m:Nat):cnt k m<=m:=by
 unfold cnt;exact Nat.le_trans (List.length_filter_le ..) (by rw [List.length_range];exact nR1 _)
theorem qoF {m n:Nat}{w:qad}{sg:List Int}(hm:0<m)(h:∀ k,k<n -> ¬ Stl m w sg k):n<m:=by
 have:∀ k,k<=n->k+1<=cnt (col w sg k) m:=fun k=>by
  induction k with
  | zero=>
   intro _;have:=qjS (k:=col w sg 0) hm (fun s hs=>by lia);lia
  | succ k ih=>
   intro hk;have h1:=ih (by lia);have h2:=more (h k (by lia));lia
 have h1:=this n (nR1 _);have h2:=qqn (col w sg n) m;lia
theorem qow {m:Nat}{w:qad}{sg:List Int}(hm:0<m):∃ n,n<m/\Stl m w sg n:=by
 refine Classical.byContradiction fun z=>?_;have:=qoF (w:=w) (sg:=sg) (n:=m) hm fun k hk hs=>z ⟨k,hk,hs⟩;lia
theorem qiD {m:Nat}{w:qad}(hw:WebJ m w){r:Nat}(hr:r<m):∃ row,w[r]? = some row:=⟨_,gG1 (by rw [hw.len];exact hr)⟩
theorem qkR {n:Nat}{o:Ob}(h:o.und 0=true):o.sh n=o:=by
 have kv:∀ {κ:Type} (l:List (κ×D)),D.unds 0 (l.map (·.2))=true->(l.map fun p=>(p.1,p.2.sh n))=l:=fun l=>by
  induction l with
  | nil=>intro _;rfl
  | cons x l ih=>
   intro h;rw [mP1,D.unds,bA1] at h;rw [mP1,ih h.2,qlK h.1]
 cases o with
 | lst xs=>rw [Ob.und] at h;rw [Ob.sh,qeL h]
 | dct l=>rw [Ob.und] at h;rw [Ob.sh,kv l h]
 | dcT l=>rw [Ob.und] at h;rw [Ob.sh,kv l h]
 | dcF l=>rw [Ob.und] at h;rw [Ob.sh,kv l h]
 | iset l=>rfl
theorem qgV {n:Nat}{S:Sto}(h:S.all (Ob.und 0)=true):S.map (Ob.sh n)=S:=by
 have:S.map (Ob.sh n)=S.map id:=List.map_congr_left fun o ho=>qkR (List.all_eq_true.mp h o ho);rw [this,List.map_id]
theorem qr2 {n:Nat}{f:FN}{ds:List D}{S:Sto}{Q:D×Sto->Prop}(hn:ds.length=n)(hu:D.unds 0 ds=true)(h:W (f ds []) fun p=>∃ k xs,p.1 = .ref k/\p.2[k]? = some (.lst xs)/\p.2.all (Ob.und 0)=true /\ ∀ G j,(S++G)[j]? = some (.lst xs)->G.all (Ob.und 0)=true->S.length<=j->Q (.ref j,S++G)):W (qaf n f ds S) Q:=by
 obtain ⟨⟨d,G⟩,e,k,xs,rfl,hk,hG,q⟩:=h;refine ⟨_,qfm e hn hu rfl,?_⟩;dsimp only at hk hG;rw [qgV hG];exact q G _ (by rw [qbZ];exact hk) hG (Nat.le_add_right _ _)
noncomputable abbrev sgD (sg:List Int):D:=.tup (sg.map D.int)
theorem qcs (sg:List Int):(sgD sg).und 0=true:=by rw [D.und];exact Mi.unds_map fun _ _=>rfl
theorem W_sg {m r:Nat}{sg:List Int}{S:Sto}{Q:D×Sto->Prop}(hl:sg.length=m)(hr:r<m)(q:Q (.int (sgN sg r),S)):W (gIxY (sgD sg) (.int r) S) Q:=
 qkb (i:=r) (x:=.int (sgN sg r)) (by rw [gP1,gG1 (by lia)];unfold sgN;rw [List.getD_eq_getElem?_getD,gG1 (by lia)];rfl) q
theorem qpq {S:Sto}{n:Nat}{F:List (TK×D)}{d:D}{k:TK}(h:S[n]? = some (dO F))(hk:keyT d=some k):qb0 d (.ref n) S=some (.bl (!(qap F k).isSome),S):=by
 unfold dO at h;by_cases hF:F=[]
 ·subst hF;rw [if_pos rfl] at h;simp only [qb0,h,hk];rfl
 ·rw [if_neg hF] at h;simp only [qb0,qbH,h,hk,oP1]
theorem lenE {S:Sto}{n:Nat}{F:List (TK×D)}(h:S[n]? = some (dO F)):qgE (.ref n) S=some (.int (F.length:Nat),S):=by
 unfold dO at h;by_cases hF:F=[]
 ·subst hF;rw [if_pos rfl] at h;simp only [qgE,qgF,h];rfl
 ·rw [if_neg hF] at h;simp only [qgE,h]
noncomputable abbrev Mks:=List (Nat×Nat)
noncomputable def mF (M:Mks):List (TK×D):=M.map fun p=>(tkP p,.bl true)
theorem tkP_inj {a b:Nat×Nat}(h:tkP a=tkP b):a=b:=by
 unfold tkP at h;injection h with h;injection h with h1 h;injection h with h2 h;injection h1 with h1;injection h2 with h2;exact Prod.ext (by lia) (by lia)
theorem qgx {p:Nat×Nat}:∀ {M:Mks},(qap (mF M) (tkP p)).isSome=tf (p∈M)
 | []=>by rw [tf_f (by simp)];rfl
 | x::M=>by
  rw [mF,mP1,qa6];by_cases h:x=p
  ·subst h;rw [if_pos rfl,tf_t mS1];rfl
  ·rw [if_neg (fun z=>h (tkP_inj z))];refine (qgx (M:=M)).trans (tf_i ?_);rw [List.mem_cons];exact ⟨Or.inr,fun z=>z.resolve_left fun e=>h e.symm⟩
open Classical in
noncomputable def ad (M:Mks)(p:Nat×Nat):Mks:=if p∈M then M else M++[p]
theorem qpT {p:Nat×Nat}{M:Mks}:((mF M).any fun q=>decide (q.1=tkP p))=tf (p∈M):=by
 refine tf_b ?_;rw [List.any_eq_true];constructor
 ·rintro ⟨q,hq,e⟩;obtain ⟨x,hx,rfl⟩:=List.mem_map.mp hq;rw [<- tkP_inj (of_decide_eq_true e)];exact hx
 ·intro h;exact ⟨_,List.mem_map.mpr ⟨p,h,rfl⟩,decide_eq_true rfl⟩
theorem qlR {p:Nat×Nat}{M:Mks}:putD (mF M) (tkP p) (.bl true)=mF (ad M p):=by
 unfold putD ad;rw [qpT];by_cases h:p∈M
 ·rw [tf_t h,if_pos rfl,if_pos h];unfold mF;rw [List.map_map];refine List.map_congr_left fun x hx=>?_;show (if tkP x=tkP p then (tkP x,D.bl true) else (tkP x,D.bl true))=_;exact ite_self _
 ·rw [tf_f h,if_neg (by decide),if_neg h];unfold mF;rw [List.map_append];rfl
theorem qka (M:Mks)(p:Nat×Nat):M <+: ad M p:=by
 unfold ad;split
 ·exact List.prefix_refl _
 ·exact List.prefix_append _ _
theorem qhD {M:Mks}{p q:Nat×Nat}:q∈ad M p↔q∈M\/q=p:=by
 unfold ad;split
 ·rename_i h;exact ⟨Or.inl,fun z=>z.elim id fun e=>e ▸ h⟩
 ·rw [List.mem_append,List.mem_singleton]
theorem qr9 {M:Mks}{p:Nat×Nat}(h:M.Nodup):(ad M p).Nodup:=by
 unfold ad;split
 ·exact h
 ·rename_i hp;rw [List.nodup_append];exact ⟨h,List.nodup_cons.mpr ⟨by simp,List.nodup_nil⟩,fun a ha b hb e=>by
   rw [List.mem_singleton.mp hb] at e;exact hp (e ▸ ha)⟩
structure Snd (m:Nat)(w:qad)(sg:List Int)(M:Mks):Prop where
 nd:M.Nodup
 inn:∀ p∈M,p.1<m/\p.2<m
 not:∀ p∈M,¬ RA w sg m p.1 p.2
theorem Snd.nil {m:Nat}{w:qad}{sg:List Int}:Snd m w sg []:=⟨List.nodup_nil,fun p h=>absurd h List.not_mem_nil,fun p h=>absurd h List.not_mem_nil⟩
theorem Snd.ad {m:Nat}{w:qad}{sg:List Int}{M:Mks}(h:Snd m w sg M){a b:Nat}(ha:a<m)(hb:b<m)(hn:¬ RA w sg m a b):Snd m w sg (ad M (a,b)):=by
 refine ⟨qr9 h.nd,fun p hp=>?_,fun p hp=>?_⟩
 ·rcases qhD.mp hp with z | rfl
  ·exact h.inn p z
  ·exact ⟨ha,hb⟩
 ·rcases qhD.mp hp with z | rfl
  ·exact h.not p z
  ·exact hn
theorem Snd.few {m:Nat}{w:qad}{sg:List Int}{M:Mks}(h:Snd m w sg M)(hm:m<=8):M.length<=64:=by
 have:=few2 h.nd h.inn;exact Nat.le_trans this (Nat.mul_le_mul hm hm)
theorem qq8 {m:Nat}{w:qad}{sg:List Int}(hw:WebJ m w)(hm:0<m):Stl m w sg m:=by
 obtain ⟨n,hn,hs⟩:=qow (w:=w) (sg:=sg) hm;have:=hs.on hw (m-n)
 rwa [show n+(m-n)=m by lia] at this
theorem RA.ends {m:Nat}{w:qad}{sg:List Int}(hw:WebJ m w)(hm:0<m){a b:Nat}(ha:a<m)(hb:b<m)(h:RA w sg m a b):sgN sg a=sgN sg b/\Dr w (RA w sg m) a b:=(qq8 hw hm a b ha hb h).2
theorem RA.all {m:Nat}{w:qad}{sg:List Int}{R:Nat->Nat->Prop}(hw:WebJ m w)(h:∀ a b,a<m->b<m->R a b->sgN sg a=sgN sg b/\Dr w R a b):∀ n a b,a<m->b<m->R a b->RA w sg n a b
 | 0,_,_,_,_,_=>trivial
 | n+1,a,b,ha,hb,q=>⟨RA.all hw h n a b ha hb q,(h a b ha hb q).1,(h a b ha hb q).2.lt hw (RA.all hw h n)⟩
theorem inZ {S:Sto}{n:Nat}{F:List (TK×D)}{d:D}{k:TK}(h:S[n]? = some (dO F))(hk:keyT d=some k):gInZ d (.ref n) S=some (.bl ((qap F k).isSome),S):=by
 unfold dO at h;by_cases hF:F=[]
 ·subst hF;rw [if_pos rfl] at h;simp only [gInZ,h,hk];rfl
 ·rw [if_neg hF] at h;simp only [gInZ,gInY,h,hk,oP1]
theorem inM {S:Sto}{n a b:Nat}{M:Mks}(h:S[n]? = some (dO (mF M))):gInZ (.tup [.int a,.int b]) (.ref n) S=some (.bl (tf ((a,b)∈M)),S):=by
 rw [show D.tup [.int a,.int b]=pD (a,b) from rfl,inZ h qbX,qgx]
theorem notM {S:Sto}{n a b:Nat}{M:Mks}(h:S[n]? = some (dO (mF M))):qb0 (.tup [.int a,.int b]) (.ref n) S=some (.bl (!tf ((a,b)∈M)),S):=by
 rw [show D.tup [.int a,.int b]=pD (a,b) from rfl,qpq h qbX,qgx]
theorem qja {M:Mks}:(mF M).length=M.length:=lM1 ..
noncomputable def B0 (w:qad)(sg:List Int)(a b:Nat):Prop:=(rowN w a).length=(rowN w b).length/\sgN sg a=sgN sg b
noncomputable abbrev rmL (m:Nat):Ob:=.lst (nmD (List.range m))
theorem qqB {m:Nat}{w:qad}(hw:WebJ m w){r:Nat}(hr:r<m){S:Sto}{Q:D×Sto->Prop}(q:Q (.tup ((rowN w r).map pD),S)):W (gIxY (webD w) (.int r) S) Q:=by
 obtain ⟨row,h⟩:=qiD hw hr;rw [qdR h] at q;exact qkb (i:=r) (by rw [gP1,h];rfl) q
inductive U1 (m:Nat)(w:qad)(sg:List Int):Nat->Ev->Sto->Prop
 | mk (i:Nat) (M:Mks) (x4 x5:Option D) (hi:i<=m) (hs:Snd m w sg M) (hb:∀ a b,a<i->b<m -> ¬ B0 w sg a b->(a,b)∈M):U1 m w sg i [some (webD w),some (sgD sg),some (.ref 0),some (.ref 1),x4,x5,none,none,none,none,none] [rmL m,dO (mF M)]
inductive U2 (m:Nat)(w:qad)(sg:List Int)(i:Nat):Nat->Ev->Sto->Prop
 | mk (j:Nat) (M:Mks) (x5:Option D) (hj:j<=m) (hs:Snd m w sg M) (hb:∀ a b,a<i->b<m -> ¬ B0 w sg a b->(a,b)∈M) (hc:∀ b,b<j -> ¬ B0 w sg i b->(i,b)∈M):U2 m w sg i j [some (webD w),some (sgD sg),some (.ref 0),some (.ref 1),some (.int (i:Nat)),x5,none,none,none,none,none] [rmL m,dO (mF M)]
theorem qiH {m i:Nat}{d:D}(h:(nmD (List.range m))[i]? = some d):i<m/\d = .int (i:Nat):=by
 have hl:=(gE1.mp h).1;rw [nmD,lM1,List.length_range] at hl;rw [nmD,gP1,List.getElem?_range hl] at h;cases h;exact ⟨hl,rfl⟩
theorem qiG {m:Nat}:(nmD (List.range m)).length=m:=by rw [nmD,lM1,List.length_range]
theorem qnO {m:Nat}{w:qad}{sg:List Int}(hw:WebJ m w)(hm0:0<m)(hm:m<=8)(hl:sg.length=m){x4 x5:Option D}{Q:Fl×Ev×Sto->Prop}
  (q:∀ r S,U1 m w sg m r S->Q (.nx,r,S)):W (mFor (iSeq (mV 2)) (gN 4) qbq [some (webD w),some (sgD sg),some (.ref 0),some (.ref 1),x4,x5,none,none,none,none,none] [rmL m,dO (mF [])]) Q:=by
 walk_at "own wq";refine qaw (xs:=nmD (List.range m)) rfl ?_;refine qaS (U1 m w sg) _ 0 _ _ (.mk 0 [] _ _ (Nat.zero_le _) .nil (fun a b h=>absurd h (Nat.not_lt_zero _))) ?_ ?_ ?_
 ·rintro i r S ⟨M,_,_,_,_,_⟩;exact qaQ rfl
 ·rintro i d hd r S hU;rw [Nat.zero_add] at hU ⊢;obtain ⟨him,rfl⟩:=qiH hd;obtain ⟨M,x4,x5,hi,hs,hb⟩:=hU;walk_at "own wq";unfold qbq;walk_at "own wq";refine qaw (xs:=nmD (List.range m)) rfl ?_;refine qaS (U2 m w sg i) _ 0 _ _ (.mk 0 M _ (Nat.zero_le _) hs hb (fun b h=>absurd h (Nat.not_lt_zero _))) ?_ ?_ ?_
  ·rintro j r S ⟨M,_,_,_,_,_⟩;exact qaQ rfl
  ·rintro j d hd r S hU;rw [Nat.zero_add] at hU ⊢;obtain ⟨hjm,rfl⟩:=qiH hd;obtain ⟨M,x5,hj,hs,hb,hc⟩:=hU;walk_at "own wq";unfold qcj;walk_at "own wq";refine qqB hw him ?_;walk_at "own wq";refine qqB hw hjm ?_;walk_at "own wq";have put:¬ B0 w sg i j->W (qbR (.ref 1) (.tup [.int (i:Nat),.int (j:Nat)]) (.bl true) [rmL m,dO (mF M)]) fun x=>U2 m w sg i (j+1) [some (webD w),some (sgD sg),some (.ref 0),some (.ref 1),some (.int (i:Nat)),some (.int (j:Nat)),none,none,none,none,none] x.2:=fun hn=>by
    refine qhE (F:=mF M) (k:=tkP (i,j)) rfl (qbX (e:=(i,j))) (by rw [qja];have:=hs.few hm;lia) ?_;rw [qlR];refine .mk _ (ad M (i,j)) _ hjm (hs.ad him hjm fun z=>hn ?_) (fun a b ha hbm hn=>(qka M _).subset (hb a b ha hbm hn)) fun b hbj hn'=>?_
    ·have:=z.ends hw hm0 him hjm;exact ⟨this.2.1,this.1⟩
    ·rcases Nat.lt_succ_iff_lt_or_eq.mp hbj with z | rfl
     ·exact (qka M _).subset (hc b z hn')
     ·exact qhD.mpr (Or.inr rfl)
   rw [lM1,lM1];by_cases h1:(rowN w i).length=(rowN w j).length
   ·rw [if_neg (by rw [h1];simp)];refine W_sg hl him ?_;dsimp only;refine W_sg hl hjm ?_;walk_at "own wq";by_cases h2:sgN sg i=sgN sg j
    ·rw [h2,if_neg (by simp)];exact .mk _ M _ hjm hs hb fun b hbj hn=>(Nat.lt_succ_iff_lt_or_eq.mp hbj).elim (fun z=>hc b z hn) (fun z=>by subst z;exact absurd ⟨h1,h2⟩ hn)
    ·rw [if_pos (by simp [h2])];exact put fun z=>h2 z.2
   ·rw [if_pos (by simp;lia)];exact put fun z=>h1 z.1
  ·rintro r S hU;rw [qiG,Nat.zero_add] at hU;obtain ⟨M,x5,hj,hs,hb,hc⟩:=hU;exact ⟨rfl,.mk _ M _ _ him hs fun a b ha hbm hn=>(Nat.lt_succ_iff_lt_or_eq.mp ha).elim (fun z=>hb a b z hbm hn) (fun z=>by subst z;exact hc b hbm hn)⟩
 ·rintro r S hU;rw [qiG,Nat.zero_add] at hU;exact q r S hU
noncomputable abbrev evU (w:qad)(sg:List Int)(x4 x5 x6 x7 x8 x9 x10:Option D):Ev:=[some (webD w),some (sgD sg),some (.ref 0),some (.ref 1),x4,x5,x6,x7,x8,x9,x10]
noncomputable abbrev stU (m:Nat)(M:Mks)(G:Sto):Sto:=rmL m::dO (mF M)::G
inductive V3 (m:Nat)(w:qad)(sg:List Int)(M0 M:Mks)(i b:Nat)(x6:Option D)(G:Sto):Nat->Ev->Sto->Prop
 | mk (d:Nat) (M':Mks) (x7 x8 x9 x10:Option D) (hs:Snd m w sg M') (hp:M <+: M') (hd:∀ t,t<d -> ∀ e e':Nat×Nat,(rowN w i)[t]? = some e->(rowN w b)[t]? = some e'->(i,b)∉M'->(e.1,e'.1)∉M0/\e.2=e'.2):V3 m w sg M0 M i b x6 G d (evU w sg (some (.int (i:Nat))) (some (.int (b:Nat))) x6 x7 x8 x9 x10) (stU m M' G)
theorem ql6 {m:Nat}{w:qad}(hw:WebJ m w){r d:Nat}{e:Nat×Nat}(he:(rowN w r)[d]? = some e):e.1<m:=by
 unfold rowN at he;cases hr:w[r]? with
 | none=>rw [hr] at he;simp at he
 | some row=>rw [hr] at he;exact hw.to r d e ⟨row,hr,he⟩
theorem qqh {m:Nat}{w:qad}{sg:List Int}{M0 M:Mks}{i b:Nat}{x6 x7 x8 x9 x10:Option D}{G:Sto}{Q:Fl×Ev×Sto->Prop}(hw:WebJ m w)(hm0:0<m)(hm:m<=8)(hi:i<m)(hb:b<m)(hs:Snd m w sg M)(hp0:M0 <+: M)(hB:B0 w sg i b)
  (q:∀ M' x7 x8 x9 x10,Snd m w sg M'->M <+: M'->((i,b)∉M'->Dr w (fun a b=>(a,b)∉M0) i b)->Q (.nx,evU w sg (some (.int (i:Nat))) (some (.int (b:Nat))) x6 x7 x8 x9 x10,stU m M' G)):
  W (qbp (evU w sg (some (.int (i:Nat))) (some (.int (b:Nat))) x6 x7 x8 x9 x10) (stU m M G)) Q:=by
 unfold qbp mFor;rw [qal];refine qqK (xs:=(rowN w i).map pD) (ys:=(rowN w b).map pD) ?_ ?_
 ·have r1:∀ {r:Nat} {S:Sto},r<m->gIxY (webD w) (.int r) S=some (.tup ((rowN w r).map pD),S):=fun {r S} hr=>by
   obtain ⟨row,h⟩:=qiD hw hr;rw [qdR h];exact ix_tup (by rw [gP1,h];rfl)
  have e1:=r1 (S:=stU m M G) hi;have e2:=r1 (S:=stU m M G) hb;simp only [qaa,m2,b2,mV,mNil,evU,List.getElem?_cons_zero,gC1,oS1,e1,e2]
 refine qaS (V3 m w sg M0 M i b x6 G) _ 0 _ _ (.mk 0 M _ _ _ _ hs (List.prefix_refl _) (fun t h=>absurd h (Nat.not_lt_zero _))) (fun _ _ _ _=>rfl) ?_ ?_
 ·rintro d dd hdd r S hV;rw [Nat.zero_add] at hV ⊢;obtain ⟨x,y,hx,hy,rfl⟩:=qeG _ _ _ _ hdd;rw [gP1] at hx hy;obtain ⟨e,he,rfl⟩:=oM1.mp hx;obtain ⟨e',he',rfl⟩:=oM1.mp hy;obtain ⟨M',x7,x8,x9,x10,hs',hp,hd⟩:=hV;unfold pD;walk_at "own wq";unfold qci;have put:¬ RA w sg m i b->W (qbR (.ref 1) (.tup [.int (i:Nat),.int (b:Nat)]) (.bl true) (stU m M' G)) fun x=>V3 m w sg M0 M i b x6 G (d+1) (evU w sg (some (.int (i:Nat))) (some (.int (b:Nat))) x6 (some (.int e.1)) (some (.int e.2)) (some (.int e'.1)) (some (.int e'.2))) x.2:=fun hn=>by
   refine qhE (F:=mF M') (k:=tkP (i,b)) rfl (qbX (e:=(i,b))) (by rw [qja];have:=hs'.few hm;lia) ?_;rw [qlR];exact .mk _ (ad M' (i,b)) _ _ _ _ (hs'.ad hi hb hn) (hp.trans (qka M' _)) fun t _ _ _ _ _ hn=>absurd (qhD.mpr (Or.inr rfl)) hn
  have ends:RA w sg m i b->RA w sg m e.1 e'.1/\e.2=e'.2:=fun z=>(z.ends hw hm0 hi hb).2.2 d e e' he he';walk_at "own wq";by_cases h1:e.2=e'.2
  ·rw [if_neg (by rw [h1];simp)];have e3:=inM (S:=stU m M' G) (n:=1) (a:=e.1) (b:=e'.1) (M:=M') rfl
   ((try walk_at "own wq");repeat (simp only [e3];try walk_at "own wq"))
   by_cases h2:(e.1,e'.1)∈M'
   ·rw [tf_t h2,if_pos rfl];exact put fun z=>hs'.not _ h2 (ends z).1
   ·rw [tf_f h2,if_neg (by decide)];refine .mk _ M' _ _ _ _ hs' hp fun t ht f f' hf hf' hn=>?_;rcases Nat.lt_succ_iff_lt_or_eq.mp ht with z | rfl
    ·exact hd t z f f' hf hf' hn
    ·rw [he] at hf;rw [he'] at hf';cases hf;cases hf';exact ⟨fun z=>h2 ((hp0.trans hp).subset z),h1⟩
  ·rw [if_pos (by simp;lia)];exact put fun z=>h1 (ends z).2
 ·rintro r S hV;obtain ⟨M',x7,x8,x9,x10,hs',hp,hd⟩:=hV;refine q M' _ _ _ _ hs' hp fun hn=>⟨hB.1,fun t e e' he he'=>hd t ?_ e e' he he' hn⟩;have hl:=(gE1.mp he).1;rw [Nat.zero_add];refine Classical.byContradiction fun z=>?_;have:=qeF _ _ t (Nat.le_of_not_lt z);rw [lM1,lM1,<- hB.1] at this;lia
noncomputable abbrev DrM (w:qad)(M0:Mks)(a b:Nat):Prop:=Dr w (fun a b=>(a,b)∉M0) a b
inductive V1 (m:Nat)(w:qad)(sg:List Int)(M0:Mks)(x6:Option D):Nat->Ev->Sto->Prop
 | mk (i:Nat) (M:Mks) (G:Sto) (x4 x5 x7 x8 x9 x10:Option D) (hi:i<=m) (hs:Snd m w sg M) (hp:M0 <+: M) (hd:∀ a b,a<i->b<m->(a,b)∉M->DrM w M0 a b) (hG:G.all (Ob.und 0)=true):V1 m w sg M0 x6 i (evU w sg x4 x5 x6 x7 x8 x9 x10) (stU m M G)
inductive V2 (m:Nat)(w:qad)(sg:List Int)(M0 M1:Mks)(x6:Option D)(i:Nat)(os:List Nat)(G:Sto):Nat->Ev->Sto->Prop
 | mk (j:Nat) (M:Mks) (x5 x7 x8 x9 x10:Option D) (hs:Snd m w sg M) (hp:M1 <+: M) (hd:∀ t b,t<j->os[t]? = some b->(i,b)∉M->DrM w M0 i b):V2 m w sg M0 M1 x6 i os G j (evU w sg (some (.int (i:Nat))) x5 x6 x7 x8 x9 x10) (stU m M (G++[.lst (nmD os)]))
theorem qlQ {os:List Nat}{j:Nat}{d:D}(h:(nmD os)[j]? = some d):∃ b,os[j]? = some b/\d = .int (b:Nat):=by
 rw [nmD,gP1] at h;obtain ⟨b,h1,h2⟩:=oM1.mp h;exact ⟨b,h1,h2.symm⟩
theorem qpb {m:Nat}{w:qad}{sg:List Int}{M0:Mks}{G:Sto}{x4 x5 x6 x7 x8 x9 x10:Option D}{Q:Fl×Ev×Sto->Prop}(hw:WebJ m w)(hm0:0<m)(hm:m<=8)(hs0:Snd m w sg M0)(hB:∀ a b,a<m->b<m -> ¬ B0 w sg a b->(a,b)∈M0)(hG:G.all (Ob.und 0)=true)
  (q:∀ r S,V1 m w sg M0 x6 m r S->Q (.nx,r,S)):
  W (mFor (iSeq (mV 2)) (gN 4) qbo (evU w sg x4 x5 x6 x7 x8 x9 x10) (stU m M0 G)) Q:=by
 unfold mFor;rw [qal];walk_at "own wq";refine qaw (xs:=nmD (List.range m)) rfl ?_;refine qaS (V1 m w sg M0 x6) _ 0 _ _ (.mk 0 M0 G _ _ _ _ _ _ (Nat.zero_le _) hs0 (List.prefix_refl _) (fun a b h=>absurd h (Nat.not_lt_zero _)) hG) ?_ ?_ ?_
 ·rintro i r S ⟨M,G,_,_,_,_,_,_,_,_,_,_⟩;exact qaQ rfl
 ·rintro i d hd r S hU;rw [Nat.zero_add] at hU ⊢;obtain ⟨him,rfl⟩:=qiH hd;obtain ⟨M,G,x4,x5,x7,x8,x9,x10,hi,hs,hp,hd1,hG⟩:=hU;walk_at "own wq";unfold qbo mFor;rw [qal];walk_at "own wq";refine qaw (xs:=nmD (List.range m)) rfl ?_;refine qdg (f:=fun b:Nat=>D.int (b:Nat)) (fun b=> !tf ((i,b)∈M)) (fun b:Nat=>D.int (b:Nat)) (fun r=>∃ x,r=[x,some (.int (i:Nat)),some (.ref 1)]) (qaQ rfl) (List.range m) _ ⟨_,rfl⟩ ?_ ?_
  ·rintro b hb r ⟨x,rfl⟩;have e1:=notM (S:=stU m M G) (n:=1) (a:=i) (b:=b) (M:=M) rfl
   ((try walk_at "own wq");repeat (simp only [e1];try walk_at "own wq"))
   exact ⟨⟨_,rfl⟩,fun _=>trivial⟩
  ·rintro r' _;refine ⟨qah (by rw [lM1];exact Nat.le_trans (List.length_filter_le ..) (by rw [List.length_range];lia)),?_⟩;dsimp only;generalize hos:(List.range m).filter (fun b=> !tf ((i,b)∈M))=os;have gl:∀ M':Mks,(stU m M' (G++[.lst (nmD os)]))[(stU m M G).length]? = some (.lst (nmD os)):=fun M'=>by
    show (rmL m::dO (mF M')::(G++[.lst (nmD os)]))[G.length+2]? = _;rw [gC1,gC1,qaj];rfl
   refine qaw (xs:=nmD os) (gl M) ?_;refine qaS (V2 m w sg M0 M x6 i os G) _ 0 _ _ (.mk 0 M _ _ _ _ _ hs (List.prefix_refl _) (fun t b h=>absurd h (Nat.not_lt_zero _))) ?_ ?_ ?_
   ·rintro j r S ⟨M',_,_,_,_,_,_,_,_⟩;exact qaQ (gl M')
   ·rintro j d hdj r S hV;rw [Nat.zero_add] at hV ⊢;obtain ⟨b,hb,rfl⟩:=qlQ hdj;obtain ⟨M',x5,x7,x8,x9,x10,hs',hp',hd'⟩:=hV;have hbo:b∈os:=gM1 hb;rw [<- hos,List.mem_filter] at hbo;have hbm:=List.mem_range.mp hbo.1;have hnM:(i,b)∉M:=fun z=>by
     have:=hbo.2;rw [tf_t z] at this;cases this
    have hBb:B0 w sg i b:=Classical.byContradiction fun z=>hnM (hp.subset (hB i b him hbm z));walk_at "own wq";refine qqh (M0:=M0) hw hm0 hm him hbm hs' (hp.trans hp') hBb fun M2 x7 x8 x9 x10 hs2 hp2 hD=>?_;refine ⟨rfl,.mk _ M2 _ _ _ _ _ hs2 (hp'.trans hp2) fun t b' ht hb' hn=>?_⟩;rcases Nat.lt_succ_iff_lt_or_eq.mp ht with z | rfl
    ·exact hd' t b' z hb' fun y=>hn (hp2.subset y)
    ·rw [hb] at hb';cases hb';exact hD hn
   ·rintro r S hV;rw [Nat.zero_add] at hV;have hlo:(nmD os).length=os.length:=by rw [nmD,lM1]
    dsimp only at hV;rw [hlo] at hV;obtain ⟨M',x5,x7,x8,x9,x10,hs',hp',hd'⟩:=hV;refine ⟨rfl,.mk _ M' _ _ _ _ _ _ _ him hs' (hp.trans hp') (fun a b ha hb hn=>?_) ?_⟩
    ·rcases Nat.lt_succ_iff_lt_or_eq.mp ha with z | rfl
     ·exact hd1 a b z hb fun y=>hn (hp'.subset y)
     ·have hbo:b∈os:=by
       rw [<- hos,List.mem_filter];exact ⟨List.mem_range.mpr hb,by rw [tf_f fun y=>hn (hp'.subset y)];rfl⟩
      obtain ⟨t,ht⟩:=List.getElem?_of_mem hbo;exact hd' t b (gE1.mp ht).1 ht hn
    ·rw [List.all_append,hG,List.all_cons,Ob.und,qi1];rfl
 ·rintro r S hU;dsimp only at hU;rw [qiG,Nat.zero_add] at hU;exact q r S hU
inductive WI (m:Nat)(w:qad)(sg:List Int):Nat->Ev->Sto->Prop
 | mk (k:Nat) (M:Mks) (N:Int) (G:Sto) (x4 x5 x7 x8 x9 x10:Option D) (hs:Snd m w sg M) (hB:∀ a b,a<m->b<m -> ¬ B0 w sg a b->(a,b)∈M) (hk:(k:Int)<=N+1) (hN:N<=M.length) (hx:N=M.length -> ∀ a b,a<m->b<m->(a,b)∉M->DrM w M a b) (hG:G.all (Ob.und 0)=true):WI m w sg k (evU w sg x4 x5 (some (.int N)) x7 x8 x9 x10) (stU m M G)
noncomputable def Told (m:Nat)(w:qad)(sg:List Int)(M:Mks):Prop:=∀ a b,a<m->b<m->((a,b)∉M↔RA w sg m a b)
theorem qms {m:Nat}{w:qad}{sg:List Int}{M:Mks}(hw:WebJ m w)(hs:Snd m w sg M)(hB:∀ a b,a<m->b<m -> ¬ B0 w sg a b->(a,b)∈M)(hx:∀ a b,a<m->b<m->(a,b)∉M->DrM w M a b):Told m w sg M:=fun a b ha hb=>by
 constructor
 ·refine RA.all (R:=fun a b=>(a,b)∉M) hw (fun a b ha hb hn=>⟨?_,hx a b ha hb hn⟩) m a b ha hb;exact (Classical.byContradiction fun z=>hn (hB a b ha hb z):B0 w sg a b).2
 ·exact fun h z=>hs.not _ z h
theorem qoT {α:Type}{a b:List α}(h:a <+: b)(e:b.length<=a.length):a=b:=h.eq_of_length_le e
theorem qkj {m:Nat}{w:qad}{sg:List Int}(hw:WebJ m w)(hm0:0<m)(hm:m<=8)(hl:sg.length=m):W (qa4 [webD w,sgD sg] []) fun p=>∃ M,p.1 = .ref 1/\p.2[1]? = some (dO (mF M))/\p.2.all (Ob.und 0)=true/\Told m w sg M:=by
 unfold qa4;refine fnW ?_;unfold qc2;refine seqW (fun r V=>V=[rmL m]/\r=[some (webD w),some (sgD sg),some (.ref 0),none,none,none,none,none,none,none,none]) ?_ ?_
 ·unfold mAsg;rw [qal];refine qob (k:=m) (S1:=[]) ?_ (by lia) ?_
  ·have:gLen (webD w) ([]:Sto)=some (.int (m:Nat),[]):=by
    show gLen (.tup (w.map fun row=>.tup (row.map pD))) []=_;rw [len_tup,lM1,hw.len]
   show (gLen (webD w) []).bind (fun p=>some ([p.1],p.2))=_;rw [this];rfl
  ·rw [qgu];exact W.of rfl ⟨rfl,rfl,rfl⟩
 rintro r V ⟨rfl,rfl⟩;refine seqW (fun r V=>V=[rmL m,dO (mF [])]/\r=[some (webD w),some (sgD sg),some (.ref 0),some (.ref 1),none,none,none,none,none,none,none]) ?_ ?_
 ·have d0:dO (mF []) = .dct []:=if_pos rfl;rw [d0]
  ((try walk_at "own wq");repeat (simp only [qe5];try walk_at "own wq"))
 rintro r V ⟨rfl,rfl⟩;refine seqW (U1 m w sg m) ?_ ?_
 ·exact qnO hw hm0 hm hl fun r S h=>⟨rfl,h⟩
 rintro r V ⟨M,x4,x5,hi,hs,hb⟩;refine seqW (fun r V=>V=[rmL m,dO (mF M)]/\r=evU w sg x4 x5 (some (.int (-1))) none none none none) ?_ ?_
 ·walk_at "own wq";exact W.of rfl ⟨rfl,rfl⟩
 rintro r V ⟨rfl,rfl⟩;refine seqW (fun r V=>∃ M,r[3]? = some (some (.ref 1))/\V[1]? = some (dO (mF M))/\V.all (Ob.und 0)=true/\Told m w sg M) ?_ ?_
 ·refine qmn (WI m w sg) 65 ?_ 100000 0 _ _ (by lia) (.mk 0 M (-1) [] _ _ _ _ _ _ hs (fun a b ha hbm hn=>hb a b ha hbm hn) (by lia) (by lia) (fun z=>by lia) rfl);rintro k r V ⟨M,N,G,x4,x5,x7,x8,x9,x10,hs,hB,hk,hN,hx,hG⟩;unfold qch;have e1:=lenE (S:=stU m M G) (n:=1) (F:=mF M) rfl;rw [qja] at e1
  ((try walk_at "own wq");repeat (simp only [e1];try walk_at "own wq"))
  have h64:=hs.few hm;by_cases hlt:N<(M.length:Int)
  ·rw [if_pos (by simpa using hlt)];refine ⟨by lia,?_⟩;unfold qcg;refine seqW (fun r V=>V=stU m M G/\r=evU w sg x4 x5 (some (.int (M.length:Nat))) x7 x8 x9 x10) ?_ ?_
   ·((try walk_at "own wq");repeat (simp only [e1];try walk_at "own wq"))
   rintro r V ⟨rfl,rfl⟩;refine qpb hw hm0 hm hs hB hG fun r S hV=>?_;obtain ⟨M',G',x4,x5,x7,x8,x9,x10,_,hs',hp,hd,hG'⟩:=hV;refine ⟨rfl,.mk _ M' _ G' _ _ _ _ _ _ hs' (fun a b ha hb hn=>hp.subset (hB a b ha hb hn)) (by lia) (by have:=hp.length_le;lia) (fun z=>?_) hG'⟩;have:=qoT hp (by lia);rw [<- this] at hd ⊢;exact hd
  ·rw [if_neg (by simpa using hlt)];refine ⟨M,rfl,?_,qms hw hs hB (hx (by lia))⟩;rw [List.all_cons,List.all_cons,hG,Ob.und,qi1,qjP (fun p hp=>?_)]
   ·rfl
   ·obtain ⟨x,_,rfl⟩:=List.mem_map.mp hp;rfl
 rintro r V ⟨M,h3,h1,hV,hT⟩;unfold mRet;rw [qal];unfold mV;rw [h3,qat];exact qat.mpr ⟨M,rfl,h1,hV,hT⟩
theorem qll (xs:List Int)(x:Int):ddI (xs++[x])=step_dedup (ddI xs) x:=by unfold ddI;rw [List.foldl_append];rfl
theorem qgK {y:Int}:∀ (xs acc:List Int),y∈xs.foldl step_dedup acc↔y∈acc\/y∈xs
 | [],acc=>by simp
 | x::xs,acc=>by
  rw [List.foldl_cons,qgK xs];unfold step_dedup;split
  ·rename_i h;obtain ⟨z,hz,e⟩:=List.any_eq_true.mp h;have e:=beq_iff_eq.mp e;subst e;rw [List.mem_cons];exact ⟨fun h=>h.elim .inl fun h=>.inr (.inr h),fun h=>h.elim .inl fun h=>h.elim (fun e=>.inl (e ▸ hz)) .inr⟩
  ·rw [List.mem_append,List.mem_singleton,List.mem_cons,or_assoc]
theorem qjM {y:TK}:∀ (xs acc:List TK),y∈xs.foldl ddS1 acc↔y∈acc\/y∈xs
 | [],acc=>by simp
 | x::xs,acc=>by
  rw [List.foldl_cons,qjM xs];unfold ddS1;split
  ·rename_i h;rw [List.mem_cons];exact ⟨fun h=>h.elim .inl fun h=>.inr (.inr h),fun q=>q.elim .inl fun q=>q.elim (fun e=>.inl (e ▸ h)) .inr⟩
  ·rw [List.mem_append,List.mem_singleton,List.mem_cons,or_assoc]
theorem qnS (xs:List Int)(x:Int):(ddI (xs++[x])).length=(ddI xs).length+if x∈xs then 0 else 1:=by
 rw [qll];unfold step_dedup;have hm:x∈ddI xs↔x∈xs:=by unfold ddI;rw [qgK];simp
 by_cases h:x∈xs
 ·rw [if_pos h,if_pos (List.any_eq_true.mpr ⟨x,hm.mpr h,by simp⟩)];rfl
 ·rw [if_neg h,if_neg fun z=>?_,lA1];rfl;obtain ⟨y,hy,e⟩:=List.any_eq_true.mp z;have e:=beq_iff_eq.mp e;subst e;exact h (hm.mp hy)
theorem qnQ (xs:List TK)(x:TK):(ddK (xs++[x])).length=(ddK xs).length+if x∈xs then 0 else 1:=by
 have e:ddK (xs++[x])=ddS1 (ddK xs) x:=by unfold ddK;rw [List.foldl_append];rfl
 rw [e];unfold ddS1;have hm:x∈ddK xs↔x∈xs:=by unfold ddK;rw [qjM];simp
 by_cases h:x∈xs
 ·rw [if_pos h,if_pos (hm.mpr h)];rfl
 ·rw [if_neg h,if_neg fun z=>h (hm.mp z),lA1];rfl
theorem qev {α:Type}{f:Nat->α}{x:α}{i:Nat}:x∈(List.range i).map f ↔ ∃ j,j<i/\f j=x:=by
 rw [List.mem_map];exact ⟨fun ⟨j,h,e⟩=>⟨j,List.mem_range.mp h,e⟩,fun ⟨j,h,e⟩=>⟨j,List.mem_range.mpr h,e⟩⟩
theorem qj9 {f:Nat->TK}{g:Nat->Int}(h:∀ i j,f i=f j->g i=g j):∀ m:Nat,(ddI ((List.range m).map g)).length<=(ddK ((List.range m).map f)).length /\
  ((ddK ((List.range m).map f)).length=(ddI ((List.range m).map g)).length ↔ ∀ i,i<m->(∃ j,j<i/\g j=g i) -> ∃ j,j<i/\f j=f i)
 | 0=>⟨nR1 _,fun _ i hi=>absurd hi (Nat.not_lt_zero _),fun _=>rfl⟩
 | m + 1=>by
  obtain ⟨h1,h2⟩:=qj9 h m;rw [List.range_succ,List.map_append,List.map_append,List.map_singleton,List.map_singleton,qnS,qnQ];by_cases hf:f m∈(List.range m).map f
  ·have hg:g m∈(List.range m).map g:=by
    obtain ⟨j,hj,e⟩:=qev.mp hf;exact qev.mpr ⟨j,hj,h _ _ e⟩
   rw [if_pos hf,if_pos hg];refine ⟨h1,h2.trans ⟨fun q i hi hx=>?_,fun q i hi=>q i (by lia)⟩⟩;rcases Nat.lt_or_ge i m with z | z
   ·exact q i z hx
   ·have:i=m:=by lia
    subst this;exact qev.mp hf
  ·rw [if_neg hf];by_cases hg:g m∈(List.range m).map g
   ·rw [if_pos hg];refine ⟨by lia,fun q=>absurd q (by lia),fun q=>?_⟩;exact absurd (qev.mpr (q m (Nat.lt_succ_self m) (qev.mp hg))) hf
   ·rw [if_neg hg];refine ⟨by lia,⟨fun q i hi hx=>?_,fun q=>?_⟩⟩
    ·rcases Nat.lt_or_ge i m with z | z
     ·exact h2.mp (by lia) i z hx
     ·have:i=m:=by lia
      subst this;exact absurd (qev.mpr hx) hg
    ·rw [h2.mpr fun i hi=>q i (by lia)]
theorem qh2 {α β:Type}{f:Nat->α}{g:Nat->β}{m:Nat}(h:∀ i j,f i=f j->g i=g j):(∀ i,i<m->(∃ j,j<i/\g j=g i) -> ∃ j,j<i/\f j=f i) ↔ ∀ i j,i<m->j<m->g i=g j->f i=f j:=by
 constructor
 ·intro q;have key:∀ n i,i<n->i<m -> ∀ j,j<i->g j=g i->f j=f i:=by
   intro n
   induction n with
   | zero=>intro i hi;exact absurd hi (Nat.not_lt_zero _)
   | succ n ih=>
    intro i hi him j hj e;obtain ⟨k,hk,ek⟩:=q i him ⟨j,hj,e⟩;rcases Nat.lt_trichotomy k j with z | z | z
    ·exact (ih j (by lia) (by lia) k z ((h _ _ ek).trans e.symm)).symm.trans ek
    ·rw [<- z];exact ek
    ·exact (ih k (by lia) (by lia) j z (e.trans (h _ _ ek).symm)).trans ek
  intro i j hi hj e;rcases Nat.lt_trichotomy i j with z | z | z
  ·exact key (j+1) j (by lia) hj i z e
  ·rw [z]
  ·exact (key (i+1) i (by lia) hi j z e.symm).symm
 ·rintro q i hi ⟨j,hj,e⟩;exact ⟨j,hj,q j i (by lia) hi e⟩
noncomputable abbrev LkZ:=Int×Int×List (Int×Nat)
noncomputable def zD (e:Int×Nat):D:=.tup [.int e.1,.int (e.2:Nat)]
noncomputable def zT (e:Int×Nat):TK:=.tup [.int e.1,.int (e.2:Nat)]
noncomputable def mvZ (ts:List Int)(e:Nat×Nat):Int×Nat:=(sgN ts e.1,e.2)
noncomputable def lkz (w:qad)(sg ts:List Int)(r:Nat):LkZ:=(sgN ts r,sgN sg r,(rowN w r).map (mvZ ts))
noncomputable def lkzD (x:LkZ):D:=.tup [.int x.1,.int x.2.1,.tup (x.2.2.map zD)]
noncomputable def lkzT (x:LkZ):TK:=.tup [.int x.1,.int x.2.1,.tup (x.2.2.map zT)]
theorem qns (x:LkZ):(lkzD x).und 0=true:=by
 unfold lkzD;rw [D.und,D.unds,D.unds,D.unds,D.und,Mi.unds_map (fun _ _=>rfl)];rfl
theorem qp5:∀ l:List (Int×Nat),kDs (l.map zD)=some (l.map zT)
 | []=>rfl
 | e::l=>by rw [mP1,kDs,qp5 l];rfl
theorem qql:∀ l:List (Int×Nat),TK.depAll (l.map zT)<=2
 | []=>by decide
 | e::l=>by
  have:=qql l;rw [mP1,TK.depAll];have:(zT e).dep=1:=rfl;lia
theorem qrI (x:LkZ):keyT (lkzD x)=some (lkzT x):=by
 have e:kDs [.int x.1,.int x.2.1,.tup (x.2.2.map zD)]=some [.int x.1,.int x.2.1,.tup (x.2.2.map zT)]:=by
  simp only [kDs,kD,qp5,oP1,oS1]
 unfold lkzD;rw [keyT,e,oS1,if_pos]
 ·rfl
 ·have:=qql x.2.2;simp [TK.dep,TK.depAll];lia
theorem qlz:∀ {a b:List (Int×Nat)},a.map zT=b.map zT->a=b
 | [],[],_=>rfl
 | [],_::_,h=>by cases h
 | _::_,[],h=>by cases h
 | x::a,y::b,h=>by
  rw [mP1,mP1] at h;injection h with h1 h2;unfold zT at h1;injection h1 with h1;injection h1 with e1 h1;injection h1 with e2 h1;injection e1 with e1;injection e2 with e2;rw [qlz h2,show x=y from Prod.ext e1 (by lia)]
theorem qhe {x y:LkZ}(h:lkzT x=lkzT y):x=y:=by
 unfold lkzT at h;injection h with h;injection h with e1 h;injection h with e2 h;injection h with e3 h;injection e1 with e1;injection e2 with e2;injection e3 with e3;exact Prod.ext e1 (Prod.ext e2 (qlz e3))
noncomputable def Fit (m:Nat)(w:qad)(sg ts:List Int):Prop:=∀ i j,i<m->j<m->sgN ts i=sgN ts j->lkz w sg ts i=lkz w sg ts j
theorem qnN (m:Nat)(w:qad)(sg ts:List Int):(ddK ((List.range m).map fun r=>lkzT (lkz w sg ts r))).length=(ddI ((List.range m).map (sgN ts))).length↔Fit m w sg ts:=by
 have h:∀ i j,lkzT (lkz w sg ts i)=lkzT (lkz w sg ts j)->sgN ts i=sgN ts j:=fun i j e=>by
  have:=qhe e;exact congrArg (·.1) this
 rw [(qj9 (f:=fun r=>lkzT (lkz w sg ts r)) h m).2,qh2 h];exact ⟨fun q i j hi hj e=>qhe (q i j hi hj e),fun q i j hi hj e=>congrArg lkzT (q i j hi hj e)⟩
theorem qjh (f:Nat->LkZ):∀ l:List Nat,qhV (l.map fun r=>lkzD (f r))=some (l.map fun r=>lkzT (f r))
 | []=>rfl
 | r::l=>by rw [mP1,qhV,qrI,oS1,qjh f l];rfl
theorem qmB {ts:List Int}{m:Nat}(h:ts.length=m):(List.range m).map (sgN ts)=ts:=by
 subst h;apply List.ext_getElem?;intro i;rw [gP1];by_cases hi:i<ts.length
 ·rw [List.getElem?_range hi,gG1 hi];unfold sgN;rw [oP1,List.getD_eq_getElem?_getD,gG1 hi];rfl
 ·rw [List.getElem?_eq_none (by simpa using hi),List.getElem?_eq_none (by lia)];rfl
theorem qk7 {m:Nat}{w:qad}{sg ts:List Int}(hw:WebJ m w)(hm:m<=8)(hs:sg.length=m)(ht:ts.length=m):W (qdX [webD w,sgD sg,sgD ts] []) fun p=>∃ k,p.1 = .ref k/\p.2[k]? = some (.lst ((List.range m).map fun r=>lkzD (lkz w sg ts r)))/\p.2.all (Ob.und 0)=true:=by
 unfold qdX;refine fnW ?_;unfold qj6;refine seqW (fun r V=>V=[.lst []]/\r=[some (webD w),some (sgD sg),some (sgD ts),some (.ref 0),none,none,none]) ?_ ?_
 ·walk_at "own wq"
  try exact ⟨rfl,trivial⟩
 rintro r V ⟨rfl,rfl⟩;refine seqW (fun r V=>∃ G x4 x5 x6,G.all (Ob.und 0)=true/\V = .lst ((List.range m).map fun r=>lkzD (lkz w sg ts r))::G/\r=[some (webD w),some (sgD sg),some (sgD ts),some (.ref 0),x4,x5,x6]) ?_ ?_
 ·unfold mFor;rw [qal];refine qqN (xs:=w.map fun row=>.tup (row.map pD)) rfl ?_;refine qaS (fun i r V=>∃ G x4 x5 x6,i<=m/\G.all (Ob.und 0)=true/\V = .lst ((List.range i).map fun r=>lkzD (lkz w sg ts r))::G/\r=[some (webD w),some (sgD sg),some (sgD ts),some (.ref 0),x4,x5,x6]) _ 0 _ _ ⟨[],_,_,_,by lia,rfl,rfl,rfl⟩ (fun _ _ _ _=>rfl) ?_ ?_
  ·rintro i dd hdd r V ⟨G,x4,x5,x6,hi,hG,rfl,rfl⟩;rw [qbJ,gP1] at hdd;obtain ⟨z,hz,rfl⟩:=oM1.mp hdd;obtain ⟨row,hrow,rfl⟩:=oM1.mp hz;have hil:i<m:=by rw [<- hw.len];exact (gE1.mp hrow).1
   have hr4:=hw.le i row hrow;rw [Nat.zero_add] at *
   walk_at "own wq";unfold qfD;refine seqW (fun r V=>V = .lst ((List.range i).map fun r=>lkzD (lkz w sg ts r))::(G++[.lst (row.map fun e=>zD (mvZ ts e))])/\r=[some (webD w),some (sgD sg),some (sgD ts),some (.ref 0),some (.int (i:Nat)),some (.tup (row.map pD)),some (.tup (row.map fun e=>zD (mvZ ts e)))]) ?_ ?_
   ·walk_at "own wq";rw [qfw];refine mapW (f:=pD) (fun e=>zD (mvZ ts e)) (fun r'=>∃ x0 x1,r'=[x0,x1,some (sgD ts)]) rfl row _ ⟨_,_,rfl⟩ ?_ ?_
    ·rintro e he r' ⟨x0,x1,rfl⟩;obtain ⟨d,hd⟩:=List.getElem?_of_mem he;have:=hw.to i d e ⟨row,hrow,hd⟩;rw [pD];walk_at "own wq";refine W_sg ht this ?_;walk_at "own wq";exact ⟨rfl,_,_,rfl⟩
    ·rintro r' _;refine ⟨qah (by rw [lM1];lia),?_⟩;walk_at "own wq";refine qaw (xs:=row.map fun e=>zD (mvZ ts e)) (by rw [gC1,qaj];rfl) ?_
     first | exact ⟨rfl,rfl⟩ | exact ⟨rfl,trivial⟩ | rfl
   rintro r V ⟨rfl,rfl⟩;unfold qdc;rw [qal];refine qeg ?_;walk_at "own wq";refine ⟨0,(List.range i).map fun r=>lkzD (lkz w sg ts r),rfl,rfl,?_⟩;refine W_sg ht hil ?_;walk_at "own wq";refine W_sg hs hil ?_;walk_at "own wq";refine (qgO (n:=0) (xs:=(List.range i).map fun r=>lkzD (lkz w sg ts r)) rfl).mpr ⟨qah (by rw [lM1,List.length_range];lia),?_⟩;refine ⟨G++[.lst (row.map fun e=>zD (mvZ ts e))],_,_,_,by lia,?_,?_,rfl⟩
   ·rw [List.all_append,hG,List.all_cons,Ob.und,Mi.unds_map (fun _ _=>rfl)];rfl
   ·have e:lkzD (lkz w sg ts i)=D.tup [D.int (sgN ts i),D.int (sgN sg i),D.tup (row.map fun e=>zD (mvZ ts e))]:=by
     unfold lkz;rw [qdR hrow,lkzD,List.map_map];rfl
    rw [List.range_succ,List.map_append,mP1,e];rfl
  ·rintro r V ⟨G,x4,x5,x6,hi,hG,rfl,rfl⟩;rw [qbI,lM1,Nat.zero_add,hw.len];exact ⟨rfl,G,_,_,_,hG,rfl,rfl⟩
 rintro r V ⟨G,x4,x5,x6,hG,rfl,rfl⟩;walk_at "own wq";refine ⟨0,rfl,rfl,?_⟩;rw [List.all_cons,hG,Ob.und,Mi.unds_map (fun _ _=>qns _)];rfl
theorem qj5 {n:Nat}{f:FN}{ds:List D}{S:Sto}{Q:D×Sto->Prop}{b:Bool}(hn:ds.length=n)(h:∀ T,(T=S\/(D.unds 0 ds=true/\T=[]))->W (f ds T) fun p=>∃ G,p=(.bl b,T++G))(hS:Shut S)(q:Q (.bl b,S)):W (qaf n f ds S) Q:=by
 cases hu:D.unds 0 ds with
 | true=>exact qlr hn hu ((h [] (.inr ⟨hu,rfl⟩)).mono fun p ⟨G,e⟩=>by rw [e];exact ⟨rfl,q⟩)
 | false=>exact qf3 hn hu ((h S (.inl rfl)).mono fun p ⟨G,e⟩=>by rw [e,qqc rfl hS];exact q)
theorem qmq {xs:List D}{m:Nat}{S:Sto}{Q:D×Sto->Prop}(hS:Shut S)(q:Q (.bl (decide (xs.length=m)),S)):W (qaf 2 qaG [.tup xs,.int m] S) Q:=by
 refine qj5 rfl (fun T _=>?_) hS q;unfold qaG;refine fnW ?_;unfold qb2
 ((try walk_at "own wq");repeat (simp only [mIsT,qp7,len_tup];try walk_at "own wq"))
 refine ⟨[],?_⟩;rw [List.append_nil]
 congr 2
 by_cases h:xs.length=m
 ·rw [decide_eq_true h,h];simp
 ·rw [decide_eq_false h];simp;lia
theorem qkU {d:D}{m:Nat}{S:Sto}{Q:D×Sto->Prop}(hS:Shut S)(hd:isTy S .tuple d=some false)(hu:d.und 0=false \/ ∀ T,isTy T .tuple d=some false)(q:Q (.bl false,S)):W (qaf 2 qaG [d,.int m] S) Q:=by
 refine qj5 rfl (fun T hT=>?_) hS q;have h:isTy T .tuple d=some false:=by
  rcases hu with z | z
  ·rcases hT with e | ⟨e,_⟩
   ·rw [e];exact hd
   ·rw [D.unds,z] at e;cases e
  ·exact z T
 unfold qaG;refine fnW ?_;unfold qb2
 ((try walk_at "own wq");repeat (simp only [mIsT,h];try walk_at "own wq"))
 exact ⟨[],by rw [List.append_nil]⟩
noncomputable def whD:D->Bool
 | .int _=>true
 | _=>false
inductive Part (S:Sto):D->Prop
 | int (i:Int):Part S (.int i)
 | non:Part S .non
 | bl (b:Bool):Part S (.bl b)
 | str (s:Str):Part S (.str s)
 | one:Part S (.tup [.int 0])
 | many (zs:List Int):Part S (.tup (zs.map .int))
 | ref (n:Nat) (xs:List D) (h:S[n]? = some (.lst xs)):Part S (.ref n)
noncomputable def isB:D->Bool
 | .bl _=>true
 | _=>false
theorem qmm {d:D}{S:Sto}{Q:D×Sto->Prop}(hS:Shut S)(hd:Part S d)(q:Q (.bl (whD d),S)):W (qaf 1 qa0 [d] S) Q:=by
 refine qj5 rfl (fun T hT=>?_) hS q;have h1:isTy T .int d=some (whD d||isB d):=by
  cases hd with
  | ref n xs h=>
   rcases hT with e | ⟨e,_⟩
   ·rw [isTy,e,h];rfl
   ·cases e
  | _=>rfl
 have h2:isTy T .bool d=some (isB d):=by
  cases hd with
  | ref n xs h=>
   rcases hT with e | ⟨e,_⟩
   ·rw [isTy,e,h];rfl
   ·cases e
  | _=>rfl
 unfold qa0;refine fnW ?_;unfold qeC
 ((try walk_at "own wq");repeat (simp only [mIsT,h1,h2];try walk_at "own wq"))
 cases hd<;>exact ⟨[],by rw [List.append_nil];rfl⟩
theorem qqO {n:Nat}{xs:List D}{f:D->Bool}{S:Sto}{Q:D×Sto->Prop}(h:S[n]? = some (.lst (xs.map fun x=>D.bl (f x))))(q:Q (.bl (xs.all f),S)):W (gAll (.ref n) S) Q:=by
 refine W.of ?_ q;unfold gAll;rw [qc6 h,oS1];dsimp only;rw [qhC (f:=f)];simp
theorem qgB:∀ ns:List Int,qd3 (ns.map D.int)=some ns
 | []=>rfl
 | n::ns=>by
  have:=qgB ns;rw [mP1];simp only [qd3,this];rfl
theorem qkt {ns:List Int}{S:Sto}(hl:ns.length<=100):qd5 (sgD ns) S=some (.ref S.length,S++[.iset (ddI ns)]):=by
 unfold qd5;rw [qdO];dsimp only;rw [qgB,oS1,if_pos (by unfold scanBound;lia)]
theorem lenZ {m n:Nat}{w:qad}{sg ts:List Int}{S:Sto}(hm:m<=8)(h:S[n]? = some (.lst ((List.range m).map fun r=>lkzD (lkz w sg ts r)))):qc1 (.ref n) S=some (.int ((ddK ((List.range m).map fun r=>lkzT (lkz w sg ts r))).length:Nat),S):=by
 unfold qc1;rw [qc6 h];dsimp only;rw [qjh,oS1,if_pos (by rw [lM1,List.length_range];lia)]
theorem qgQ {m:Nat}{w:qad}{sg:List Int}{xs:List D}{T:Sto}(hw:w.length=m)(hT:Shut T)(hx:∀ x∈xs,Part T x)(hl:xs.length<=100){Q:Fl×Ev×Sto->Prop}(b:FS)
  (q0:(decide (xs.length=m)&&xs.all whD)=false -> ∀ G,Q (.rt (.bl false),[some (webD w),some (sgD sg),some (.tup xs)],T++G))
  (q1:(decide (xs.length=m)&&xs.all whD)=true -> ∀ G,W (b [some (webD w),some (sgD sg),some (.tup xs)] (T++G)) Q):
  W (mSeq (mIfS (mOr (mNot (mTr (mN (qaf 2 qaG) (qaa (mV 2) (qaa (mN (b1 gLen) (qaa (mV 0) mNil)) mNil))))) (mNot (mTr (mN (b1 gAll) (qaa (qa9 1 [] (iSeq (mV 2)) (gN 0) qbl (qaT (mN (qaf 1 qa0) (qaa (mV 0) mNil)))) mNil))))) (mRet (mC (D.bl false))) mNx) b [some (webD w),some (sgD sg),some (.tup xs)] T) Q:=by
 have e0:gLen (webD w) T=some (.int (m:Nat),T):=by rw [webD,len_tup,lM1,hw]
 ((try walk_at "own wq");repeat (simp only [e0];try walk_at "own wq"))
 refine qmq hT ?_;walk_at "own wq";by_cases h:xs.length=m
 ·rw [decide_eq_true h,if_neg (by decide),qfw];have ex:xs=xs.map id:=(List.map_id xs).symm;rw [show qbP ([]:List (Nat×List D)) (gN 0) qbl (qaT (mN (qaf 1 qa0) (qaa (mV 0) mNil))) xs [none] T=qbP [] (gN 0) qbl (qaT (mN (qaf 1 qa0) (qaa (mV 0) mNil))) (xs.map id) [none] T by rw [List.map_id]];refine mapW (f:=id) (fun x=>D.bl (whD x)) (fun r=>∃ x,r=[x]) rfl xs _ ⟨_,rfl⟩ ?_ ?_
  ·rintro x hx' r ⟨y,rfl⟩;walk_at "own wq";refine qmm hT (hx x hx') ?_;exact ⟨rfl,rfl,_,rfl⟩
  ·rintro r' _;refine ⟨qah (by rw [lM1];lia),?_⟩;refine qqO (xs:=xs) (by rw [qaj];rfl) ?_;walk_at "own wq";cases hb:xs.all whD with
   | true=>exact q1 (by rw [decide_eq_true h,hb];rfl) _
   | false=>exact q0 (by rw [hb,Bool.and_false]) _
 ·rw [decide_eq_false h,if_pos (by decide)];have:=q0 (by rw [decide_eq_false h];rfl) [];rw [List.append_nil] at this;exact this
theorem qqA (ts:List Int):(ts.map D.int).all whD=true:=by rw [List.all_map,List.all_eq_true];intro _ _;rfl
theorem qjn {m:Nat}{w:qad}{sg ts:List Int}{S:Sto}{Q:D×Sto->Prop}(hw:WebJ m w)(hm:m<=8)(hs:sg.length=m)(ht:ts.length=m)(q:Q (.bl (tf (Fit m w sg ts)),S)):W (qaf 3 qam [webD w,sgD sg,sgD ts] S) Q:=by
 refine qlr rfl (by rw [D.unds,D.unds,D.unds,qdz,qcs,qcs];rfl) ?_;unfold qam;refine fnW ?_;unfold qbe;refine qgQ (T:=[]) hw.len rfl (fun x hx=>?_) (by rw [lM1];lia) _ (fun h=>?_) fun _ G0=>?_
 ·obtain ⟨i,_,rfl⟩:=List.mem_map.mp hx;exact .int i
 ·rw [qqA,lM1,decide_eq_true ht] at h;cases h
 ·have hl:=qk7 hw hm hs ht;walk_at "own wq";refine qr2 rfl (by rw [D.unds,D.unds,D.unds,qdz,qcs,qcs];rfl) ?_;refine hl.mono ?_;rintro ⟨d,V⟩ ⟨k,h1,h2,h3⟩;refine ⟨k,_,h1,h2,h3,fun G j hj hG hSj=>?_⟩;have e1:=lenZ hm hj
  ((try walk_at "own wq");repeat (simp only [e1];try walk_at "own wq"))
  rw [qkt (by lia),qat];dsimp only;refine qqF (by rw [qaj];rfl) ?_;walk_at "own wq";refine ⟨rfl,?_⟩;have e3:((((ddK ((List.range m).map fun r=>lkzT (lkz w sg ts r))).length:Nat):Int) == (((ddI ts).length:Nat):Int))=tf (Fit m w sg ts):=tf_b (by
   rw [beq_iff_eq,<- qnN,qmB ht];exact ⟨fun h=>by exact_mod_cast h,fun h=>by rw [h]⟩)
  rw [e3];exact q
theorem qlw {m:Nat}{w:qad}{sg:List Int}{xs:List D}{S:Sto}{Q:D×Sto->Prop}(hw:WebJ m w)(hS:Shut S)(hx:∀ x∈xs,Part S x)(hl:xs.length<=100)(hb:(decide (xs.length=m)&&xs.all whD)=false)(q:Q (.bl false,S)):W (qaf 3 qam [webD w,sgD sg,.tup xs] S) Q:=by
 refine qj5 rfl (fun T hT=>?_) hS q;unfold qam;refine fnW ?_;unfold qbe;have hp:Shut T /\ ∀ x∈xs,Part T x:=by
  rcases hT with e | ⟨e,rfl⟩
  ·rw [e];exact ⟨hS,hx⟩
  ·refine ⟨rfl,fun x hx'=>?_⟩;rw [D.unds,D.unds,D.unds,D.und,bA1,bA1,bA1] at e;have h1:=qdA e.2.2.1 hx';cases hx x hx' with
   | ref n xs h=>cases h1
   | int i=>exact .int i
   | non=>exact .non
   | bl b=>exact .bl b
   | str s=>exact .str s
   | one=>exact .one
   | many zs=>exact .many zs
 refine qgQ hw.len hp.1 hp.2 hl _ (fun _ G=>⟨G,rfl⟩) fun h=>?_;rw [hb] at h;cases h
theorem qf8 {m:Nat}{w:qad}{sg:List Int}{d:D}{S:Sto}{Q:D×Sto->Prop}(hw:WebJ m w)(hS:Shut S)(hd:isTy S .tuple d=some false)(hu:d.und 0=false \/ ∀ T,isTy T .tuple d=some false)(q:Q (.bl false,S)):W (qaf 3 qam [webD w,sgD sg,d] S) Q:=by
 refine qj5 rfl (fun T hT=>?_) hS q;unfold qam;refine fnW ?_;unfold qbe;have e0:gLen (webD w) T=some (.int (m:Nat),T):=by rw [webD,len_tup,lM1,hw.len]
 ((try walk_at "own wq");repeat (simp only [e0];try walk_at "own wq"))
 have hsT:Shut T:=by
  rcases hT with e | ⟨e,rfl⟩
  ·rw [e];exact hS
  ·rfl
 refine qkU hsT ?_ ?_ ?_
 ·rcases hu with z | z
  ·rcases hT with e | ⟨e,_⟩
   ·rw [e];exact hd
   ·rw [D.unds,D.unds,D.unds,z,Bool.false_and,Bool.and_false,Bool.and_false] at e;cases e
  ·exact z T
 ·exact hu
 ·walk_at "own wq";exact ⟨[],by rw [List.append_nil]⟩
theorem qe6 {c:List (Nat×List D)}{g:FG}{b:FS}{Q:Fl×Ev×Sto->Prop}(I:Nat->Ev->Sto->Prop):∀ (items:List D) (k:Nat) (r:Ev) (S:Sto),I k r S ->
  (∀ i r S,I i r S->okC S c=true) ->
  (∀ i d,items[i]? = some d -> ∀ r S,I (k+i) r S->W (g d r S) fun p=>W (b p.1 p.2) fun q=>(q.1 = .nx/\I (k+i+1) q.2.1 q.2.2) \/ ∃ v,q.1 = .rt v/\Q (.rt v,q.2)) ->
  (∀ r S,I (k+items.length) r S->Q (.nx,r,S))->W (qdw c g b items r S) Q:=by
 intro items
 induction items with
 | nil=>intro k r S hi hok _ hq;rw [qdw];dsimp only;rw [if_pos (hok _ _ _ hi),qat];exact hq r S (by simpa using hi)
 | cons d ds ih=>
  intro k r S hi hok hs hq;rw [qdw];dsimp only;rw [if_pos (hok _ _ _ hi),qal];obtain ⟨p,e1,⟨f,r1,S1⟩,e2,h⟩:=hs 0 d rfl r S (by simpa using hi);refine ⟨p,e1,?_⟩;dsimp only;rw [qal];refine ⟨_,e2,?_⟩;dsimp only at h ⊢;rcases h with ⟨rfl,hI⟩ | ⟨v,rfl,hQ⟩
  ·exact ih (k+1) r1 S1 hI hok (fun i d hd r S hI=>by
    have:=hs (i+1) d hd r S (by rw [show k+(i+1)=k+1+i by lia];exact hI);rw [show k+(i+1)+1=k+1+i+1 by lia] at this;exact this) fun r S hI=>hq r S (by rw [lC1,show k+(ds.length+1)=k+1+ds.length by lia];exact hI)
  ·exact qat.mpr hQ
theorem qoA {a b:FS}{r:Ev}{S:Sto}{Q:Fl×Ev×Sto->Prop}(h:W (a r S) fun p=>(p.1 = .nx/\W (b p.2.1 p.2.2) Q) \/ ∃ v,p.1 = .rt v/\Q (.rt v,p.2)):W (mSeq a b r S) Q:=by
 obtain ⟨⟨f,r1,S1⟩,e,h⟩:=h;unfold mSeq;rw [e];dsimp only at h;rcases h with ⟨rfl,h⟩ | ⟨v,rfl,h⟩
 ·exact h
 ·exact qat.mpr h
theorem qp9 {c:FT}{m:FE}{b:FS}{r:Ev}{S:Sto}{Q:Fl×Ev×Sto->Prop}(C:Bool×Sto->Prop)(h1:W (c r S) C)(h2:∀ V,C (true,V)->W (m r V) fun p=>Q (.rt p.1,r,p.2))(h3:∀ V,C (false,V)->W (b r V) Q):W (mSeq (mIfS c (mRet m) mNx) b r S) Q:=by
 obtain ⟨⟨t,V⟩,e,hC⟩:=h1;unfold mSeq mIfS;simp only [e,oS1];cases t with
 | true=>
  rw [if_pos rfl];unfold mRet;rw [qal,qal];exact (h2 V hC).mono fun p hp=>qat.mpr (qat.mpr hp)
 | false=>
  rw [if_neg (by decide)];exact h3 V hC
noncomputable def El (w:qad)(ts:List Int)(i b n:Nat):Prop:=∀ t,t<n -> ∀ e e',(rowN w i)[t]? = some e->(rowN w b)[t]? = some e'->e.2=e'.2/\sgN ts e.1=sgN ts e'.1
theorem qe8 {w:qad}{sg ts:List Int}{i b:Nat}:lkz w sg ts i=lkz w sg ts b↔sgN ts i=sgN ts b/\sgN sg i=sgN sg b/\(rowN w i).length=(rowN w b).length /\ ∀ n,El w ts i b n:=by
 unfold lkz;rw [Prod.mk.injEq,Prod.mk.injEq];refine and_congr_right fun _=>and_congr_right fun _=>?_;constructor
 ·intro h;have hl:(rowN w i).length=(rowN w b).length:=by have:=congrArg List.length h;simpa using this
  refine ⟨hl,fun n t _ e e' he he'=>?_⟩;have:=congrArg (·[t]?) h;simp only [gP1,he,he',oP1,Option.some.injEq] at this;unfold mvZ at this;rw [Prod.mk.injEq] at this;exact ⟨this.2,this.1⟩
 ·rintro ⟨hl,h⟩;apply List.ext_getElem?;intro t;rw [gP1,gP1];by_cases ht:t<(rowN w i).length
  ·have h1:=gG1 ht;have h2:=gG1 (show t<(rowN w b).length by lia);have:=h (t+1) t (Nat.lt_succ_self t) _ _ h1 h2;rw [h1,h2];show some (mvZ ts _)=some (mvZ ts _);unfold mvZ;rw [this.1,this.2]
  ·rw [List.getElem?_eq_none (by lia),List.getElem?_eq_none (by lia)]
noncomputable abbrev evK (w:qad)(sg ts:List Int)(x3 x4 x5 x6 x7 x8 x9:Option D):Ev:=[some (webD w),some (sgD sg),some (sgD ts),x3,x4,x5,x6,x7,x8,x9]
theorem ixr {m:Nat}{w:qad}(hw:WebJ m w){r:Nat}{S:Sto}(hr:r<m):gIxY (webD w) (.int r) S=some (.tup ((rowN w r).map pD),S):=by
 obtain ⟨row,h⟩:=qiD hw hr;rw [qdR h];exact ix_tup (by rw [gP1,h];rfl)
theorem qhX {m r:Nat}{sg:List Int}{S:Sto}(hl:sg.length=m)(hr:r<m):gIxY (sgD sg) (.int r) S=some (.int (sgN sg r),S):=
 ix_tup (by rw [gP1,gG1 (by lia)];unfold sgN;rw [List.getD_eq_getElem?_getD,gG1 (by lia)];rfl)
theorem qpZ {m:Nat}{w:qad}{sg ts:List Int}{i b:Nat}{x6 x7 x8 x9:Option D}{S:Sto}{Q:Fl×Ev×Sto->Prop}(hw:WebJ m w)(ht:ts.length=m)(hi:i<m)(hb:b<m)(hl:(rowN w i).length=(rowN w b).length)
  (q0:(¬ ∀ n,El w ts i b n) -> ∀ r,Q (.rt (.bl false),r,S))
  (q1:(∀ n,El w ts i b n) -> ∀ x6 x7 x8 x9,Q (.nx,evK w sg ts (some (.int (i:Nat))) (some (.tup ((rowN w i).map pD))) (some (.int (b:Nat))) x6 x7 x8 x9,S)):
  W (mFor (iZp (qaa (mV 4) (qaa (m2 (b2 gIxY) (mV 0) (mV 5)) mNil))) (gT 2 (gCs (gT 2 (gCs (gN 6) (gCs (gN 7) gNl))) (gCs (gT 2 (gCs (gN 8) (gCs (gN 9) gNl))) gNl))) qbA (evK w sg ts (some (.int (i:Nat))) (some (.tup ((rowN w i).map pD))) (some (.int (b:Nat))) x6 x7 x8 x9) S) Q:=by
 unfold mFor;rw [qal];refine qqK (xs:=(rowN w i).map pD) (ys:=(rowN w b).map pD) ?_ ?_
 ·have e2:=ixr hw (S:=S) hb;simp only [qaa,m2,b2,mV,mNil,evK,List.getElem?_cons_zero,gC1,oS1,e2]
 refine qe6 (fun d r S'=>S'=S/\El w ts i b d /\ ∃ x6 x7 x8 x9,r=evK w sg ts (some (.int (i:Nat))) (some (.tup ((rowN w i).map pD))) (some (.int (b:Nat))) x6 x7 x8 x9) _ 0 _ _ ⟨rfl,(fun t h=>absurd h (Nat.not_lt_zero _)),_,_,_,_,rfl⟩ (fun _ _ _ _=>rfl) ?_ ?_
 ·rintro d dd hdd r S' ⟨rfl,hE,x6,x7,x8,x9,rfl⟩;rw [Nat.zero_add] at hE ⊢;obtain ⟨x,y,hx,hy,rfl⟩:=qeG _ _ _ _ hdd;rw [gP1] at hx hy;obtain ⟨e,he,rfl⟩:=oM1.mp hx;obtain ⟨e',he',rfl⟩:=oM1.mp hy;have l1:=ql6 hw he;have l2:=ql6 hw he';unfold pD;walk_at "own wq";unfold qbA;have s1:=qhX (S:=S') ht l1;have s2:=qhX (S:=S') ht l2;walk_at "own wq";by_cases h1:e.2=e'.2
  ·rw [if_neg (by rw [h1];simp)]
   ((try walk_at "own wq");repeat (simp only [s1,s2];try walk_at "own wq"))
   by_cases h2:sgN ts e.1=sgN ts e'.1
   ·rw [if_neg (by rw [h2];simp)];refine .inl ⟨fun t ht f f' hf hf'=>?_,_,_,_,_,rfl⟩;rcases Nat.lt_succ_iff_lt_or_eq.mp ht with z | rfl
    ·exact hE t z f f' hf hf'
    ·rw [he] at hf;rw [he'] at hf';cases hf;cases hf';exact ⟨h1,h2⟩
   ·rw [if_pos (by simpa using h2)];exact .inr ⟨_,rfl,q0 (fun z=>h2 (z (d+1) d (Nat.lt_succ_self d) e e' he he').2) _⟩
  ·rw [if_pos (by simp;lia)];exact .inr ⟨_,rfl,q0 (fun z=>h1 (z (d+1) d (Nat.lt_succ_self d) e e' he he').1) _⟩
 ·rintro r S' ⟨rfl,hE,x6,x7,x8,x9,rfl⟩;refine q1 (fun n t _ e e' he he'=>hE t ?_ e e' he he') _ _ _ _;have hl1:=(gE1.mp he).1;rw [Nat.zero_add];refine Classical.byContradiction fun z=>?_;have:=qeF _ _ t (Nat.le_of_not_lt z);rw [lM1,lM1,<- hl] at this;lia
theorem qnC {m:Nat}{w:qad}{sg ts:List Int}{S:Sto}{Q:D×Sto->Prop}(hw:WebJ m w)(hm:m<=8)(hs:sg.length=m)(ht:ts.length=m)(q:Q (.bl (tf (Fit m w sg ts)),S)):W (qaf 3 qbj [webD w,sgD sg,sgD ts] S) Q:=by
 refine qlr rfl (by rw [D.unds,D.unds,D.unds,qdz,qcs,qcs];rfl) ?_;unfold qbj;refine fnW ?_;unfold qdq;refine qoA ?_;have no:∀ i b,i<m->b<m->sgN ts i=sgN ts b->lkz w sg ts i≠lkz w sg ts b->tf (Fit m w sg ts)=false:=fun i b hi hb e1 e2=>tf_f fun z=>e2 (z i b hi hb e1);unfold mFor;rw [qal];refine qqN (xs:=w.map fun row=>.tup (row.map pD)) rfl ?_;refine qe6 (fun i r S'=>i<=m/\(∀ a b,a<i->b<m->sgN ts a=sgN ts b->lkz w sg ts a=lkz w sg ts b) /\ ∃ x3 x4 x5 x6 x7 x8 x9,r=evK w sg ts x3 x4 x5 x6 x7 x8 x9) _ 0 _ _ ⟨Nat.zero_le _,(fun a b h=>absurd h (Nat.not_lt_zero _)),_,_,_,_,_,_,_,rfl⟩ (fun _ _ _ _=>rfl) ?_ ?_
 ·rintro i dd hdd r S' ⟨hi,hA,x3,x4,x5,x6,x7,x8,x9,rfl⟩;rw [Nat.zero_add] at *
  rw [qbJ,gP1] at hdd;obtain ⟨z,hz,rfl⟩:=oM1.mp hdd;obtain ⟨row,hrow,rfl⟩:=oM1.mp hz;have him:i<m:=by rw [<- hw.len];exact (gE1.mp hrow).1
  rw [Nat.zero_add] at *
  walk_at "own wq";unfold qcu mFor;rw [qal];have e0:gLen (webD w) S'=some (.int (m:Nat),S'):=by rw [webD,len_tup,lM1,hw.len]
  ((try walk_at "own wq");repeat (simp only [e0];try walk_at "own wq"))
  refine ⟨qbd (by lia),?_⟩;rw [Int.toNat_natCast,qcI];simp only [Int.zero_add];refine qdg (f:=fun b:Nat=>D.int (b:Nat)) (fun b=>decide (sgN ts b=sgN ts i)) (fun b:Nat=>D.int (b:Nat)) (fun r=>∃ x,r=[x,some (sgD ts),some (.int (i:Nat))]) rfl (List.range m) _ ⟨_,rfl⟩ ?_ ?_
  ·rintro b hb r ⟨x,rfl⟩;have s1:=qhX (S:=S') ht (List.mem_range.mp hb);have s2:=qhX (S:=S') ht him
   ((try walk_at "own wq");repeat (simp only [s1,s2];try walk_at "own wq"))
   refine ⟨?_,⟨_,rfl⟩,fun _=>trivial⟩;by_cases h:sgN ts b=sgN ts i
   ·rw [decide_eq_true h,h];simp
   ·rw [decide_eq_false h];simpa using h
  ·rintro r' _;refine ⟨qah (by rw [lM1];exact Nat.le_trans (List.length_filter_le ..) (by rw [List.length_range];lia)),?_⟩;dsimp only;generalize hos:(List.range m).filter (fun b=>decide (sgN ts b=sgN ts i))=os;have hrn:=qdR hrow;refine qaw (xs:=nmD os) (by rw [qaj];rfl) ?_;refine qe6 (fun j r V=>V=S'++[.lst (nmD os)]/\(∀ t b,t<j->os[t]? = some b->lkz w sg ts i=lkz w sg ts b) /\ ∃ x5 x6 x7 x8 x9,r=evK w sg ts (some (.int (i:Nat))) (some (.tup ((rowN w i).map pD))) x5 x6 x7 x8 x9) _ 0 _ _ ⟨rfl,(fun t b h=>absurd h (Nat.not_lt_zero _)),_,_,_,_,_,by rw [hrn]⟩ ?_ ?_ ?_
   ·rintro j r V ⟨rfl,_⟩;exact qaQ (by rw [qaj];rfl)
   ·rintro j d hdj r V ⟨rfl,hD,x5,x6,x7,x8,x9,rfl⟩;rw [Nat.zero_add] at hD ⊢;obtain ⟨b,hb,rfl⟩:=qlQ hdj;have hbo:b∈os:=gM1 hb;rw [<- hos,List.mem_filter] at hbo;have hbm:=List.mem_range.mp hbo.1;have hbe:sgN ts i=sgN ts b:=(of_decide_eq_true hbo.2).symm;have bad:lkz w sg ts i≠lkz w sg ts b->(∃ v,(Fl.rt (.bl false):Fl) = .rt v/\(Fl.rt v=Fl.nx/\D.und 0 (D.bl true)=true/\Q (D.bl true,S) \/ ∃ v_1,Fl.rt v=Fl.rt v_1/\D.und 0 v_1=true/\Q (v_1,S))):=fun hn=>by
     rw [no i b him hbm hbe hn] at q;exact ⟨_,rfl,.inr ⟨_,rfl,rfl,q⟩⟩
    have er:=ixr hw (S:=S'++[.lst (nmD os)]) hbm;have s1:=qhX (S:=S'++[.lst (nmD os)]) hs him;have s2:=qhX (S:=S'++[.lst (nmD os)]) hs hbm;walk_at "own wq";unfold qcv;refine qp9 (fun c=>c.2=S'++[.lst (nmD os)]/\(c.1=false->(rowN w i).length=(rowN w b).length/\sgN sg i=sgN sg b)/\(c.1=true->lkz w sg ts i≠lkz w sg ts b)) ?_ ?_ ?_
    ·have g1:∀ (r:Nat) (S:Sto),gLen (.tup ((rowN w r).map pD)) S=some (.int ((rowN w r).length:Nat),S):=fun r S=>by rw [len_tup,lM1]
     ((try walk_at "own wq");repeat (simp only [g1,er];try walk_at "own wq"))
     try simp only [lM1]
     by_cases h1:(rowN w i).length=(rowN w b).length
     ·rw [if_neg (by rw [h1];simp)]
      ((try walk_at "own wq");repeat (simp only [s1,s2];try walk_at "own wq"))
      refine ⟨fun h=>⟨h1,by simpa using h⟩,fun h z=>?_⟩;have:=(qe8.mp z).2.1;rw [this] at h;simp at h
     ·rw [if_pos (by simp;lia)];exact ⟨fun h=>(by cases h),fun _ z=>h1 (qe8.mp z).2.2.1⟩
    ·rintro V ⟨rfl,_,h⟩;walk_at "own wq";exact .inr ⟨_,rfl,.inr (bad (h rfl))⟩
    ·rintro V ⟨rfl,h,_⟩;obtain ⟨h1,h2⟩:=h rfl;refine qpZ hw ht him hbm h1 (fun hn r=>.inr ⟨_,rfl,.inr (bad (fun z=>hn (qe8.mp z).2.2.2))⟩) fun hE x6 x7 x8 x9=>.inl ⟨rfl,rfl,fun t b' ht' hb'=>?_,_,_,_,_,_,rfl⟩;rcases Nat.lt_succ_iff_lt_or_eq.mp ht' with z | rfl
     ·exact hD t b' z hb'
     ·rw [hb] at hb';cases hb';exact qe8.mpr ⟨hbe,h2,h1,hE⟩
   ·rintro r V ⟨rfl,hD,x5,x6,x7,x8,x9,rfl⟩;rw [Nat.zero_add] at hD;have hlo:(nmD os).length=os.length:=by rw [nmD,lM1]
    dsimp only at hD;rw [hlo] at hD;refine .inl ⟨rfl,him,fun a b ha hb e=>?_,_,_,_,_,_,_,_,rfl⟩;rcases Nat.lt_succ_iff_lt_or_eq.mp ha with z | rfl
    ·exact hA a b z hb e
    ·have hbo:b∈os:=by
      rw [<- hos,List.mem_filter];exact ⟨List.mem_range.mpr hb,decide_eq_true e.symm⟩
     obtain ⟨t,ht'⟩:=List.getElem?_of_mem hbo;exact hD t b (gE1.mp ht').1 ht'
 ·rintro r S' ⟨hi,hA,x3,x4,x5,x6,x7,x8,x9,rfl⟩;rw [qbI,lM1,Nat.zero_add,hw.len] at hA;refine .inl ⟨rfl,?_⟩;walk_at "own wq";rw [tf_t (show Fit m w sg ts from hA)] at q;exact ⟨rfl,q⟩
theorem qmD {h g c:Nat}{B U:Sto}{Q:D×Sto->Prop}(s:HS h g c B U)(hc:c<=2^38)
  (q:∀ w (sg:List Int) U',WebO w->sg.length=w.length->HS h g (c+2000) B U'->HS h g (c+2000) U U'->U'.length=U.length->Q (.tup [dW w,sgD sg],U')):W (qaf 1 qbh [.ref h] U) Q:=by
 have hh:=s.hl;have hg:=s.gl;have hbl:=s.len;refine qgL (c':=c+2000) rfl rfl s ?_;have s0:HS h g c U U:=HS.self s.hand s.shut;have und2:∀ (w:qad) (sg:List Int),(D.tup [dW w,sgD sg]).und 0=true:=fun w sg=>by rw [D.und,D.unds,D.unds,D.unds,qgT,qcs];rfl
 unfold qbh;refine fnW ?_;unfold qdn;walk_at "own wq";refine qaX s0 (by lia) (by lia) (by lia) fun k U1 s1 _ l1 hk=>?_;walk_at "own wq";split
 ·refine qqU s1 (by lia) fun w U2 wo a b l=>?_
  ((try walk_at "own wq");repeat (simp only [qhg];try walk_at "own wq"))
  refine qiA a (by lia) wo.pos wo.few fun sg U3 hsg a3 b3 l3=>?_;walk_at "own wq";exact ⟨a3.more (by lia),und2 _ _,fun U' a b l=>q w sg U' wo hsg a b l⟩
 ·refine qgI (most:=4) s1 (by lia) (by lia) (by lia) fun m w U2 hm0 hm hw s2 s2' l2=>?_
  ((try walk_at "own wq");repeat (simp only [qhg];try walk_at "own wq"))
  have hwl:=hw.len;have hdiv:gDiv (D.int 8) (D.int w.length) U2=some (.int ((8/w.length:Nat):Int),U2):=by
   simp only [gDiv];rw [if_pos ⟨by lia,by lia⟩];simp
  ((try walk_at "own wq");repeat (simp only [hdiv];try walk_at "own wq"))
  have hd:0<8/w.length:=by rw [hw.len];exact Nat.div_pos (by lia) hm0
  refine qjR s2 (by lia) hw hm0 hd (by rw [hwl];exact Nat.mul_div_le 8 m) fun cw k' V bl wo hk' hbV hbll hbm a b=>?_
  ((try walk_at "own wq");repeat (simp only [qhg];try walk_at "own wq"))
  rw [hwl];refine qiA a (by lia) hm0 (by lia) fun sg U3 hsg a3 b3 l3=>?_;walk_at "own wq";have hlen2:=s2.len;have hb3:U3[k']? = some (.lst (bl.map fun i:Nat=>D.int i)):=b3.at hbV (by lia) (by lia);refine qaw hb3 ?_;have hpos:=wo.pos;have hfew:=wo.few;refine mapW (f:=fun i:Nat=>D.int i) (fun i:Nat=>D.int (sgN sg i)) (fun r=>∃ x,r=[x,some (sgD sg)]) (qaQ hb3) bl _ ⟨_,rfl⟩ ?_ ?_
  ·rintro i hi r ⟨x,rfl⟩;walk_at "own wq";refine W_sg hsg (hbm i hi) ?_;exact ⟨rfl,rfl,_,rfl⟩
  ·rintro r' _;refine ⟨qah (by rw [lM1];lia),?_⟩;have a4:=a3.pushI (bl.map (sgN sg));have e4:(bl.map (sgN sg)).map D.int=bl.map fun i:Nat=>D.int (sgN sg i):=by rw [List.map_map];rfl
   rw [e4] at a4;walk_at "own wq";refine qaw (xs:=bl.map fun i:Nat=>D.int (sgN sg i)) (by rw [qaj];rfl) ?_;rw [<- e4];walk_at "own wq";exact ⟨(by rw [e4];exact a4.more (by lia)),und2 _ _,fun U' a b l=>q cw _ U' wo (by rw [lM1,hbll]) a b l⟩
theorem qr1 {n:Nat}{f:FN}{ds:List D}{S:Sto}{Q:D×Sto->Prop}(hn:ds.length=n)(hu:D.unds 0 ds=true)(h:W (f ds []) fun p=>∃ k X,p.1 = .ref k/\p.2[k]? = some X/\p.2.all (Ob.und 0)=true /\ ∀ G j,(S++G)[j]? = some X->G.all (Ob.und 0)=true->S.length<=j->Q (.ref j,S++G)):W (qaf n f ds S) Q:=by
 obtain ⟨⟨d,G⟩,e,k,X,rfl,hk,hG,q⟩:=h;refine ⟨_,qfm e hn hu rfl,?_⟩;dsimp only at hk hG;rw [qgV hG];exact q G _ (by rw [qbZ];exact hk) hG (Nat.le_add_right _ _)
theorem qhm:∀ rs:List Nat,qgC (nmD rs)=some (rs.map fun (r:Nat)=>(r:Int))
 | []=>rfl
 | r::rs=>by
  have:=qhm rs;show (qgC (.int r::nmD rs))=_;rw [qgC,this];rfl
theorem qqD {os:List Nat}{S:Sto}{n:Nat}{Q:D×Sto->Prop}(h:S[n]? = some (.lst (nmD os)))(hw:os≠[])(q:∀ k:Int,Q (.int k,S)):W (qh1 (.ref n) S) Q:=by
 refine W.of (x:=(.int (minI (os.map fun (r:Nat)=>(r:Int))),S)) ?_ (q _);simp only [qh1,qao,h];rw [qhm,oS1,if_neg (by simpa using hw)]
theorem RA.refl {w:qad}{sg:List Int}:∀ (n a:Nat),RA w sg n a a
 | 0,_=>trivial
 | n+1,a=>⟨RA.refl n a,rfl,rfl,fun t e e' he he'=>by rw [he] at he';cases he';exact ⟨RA.refl n _,rfl⟩⟩
theorem qoh {k n:Nat}(h:n<=k)(S:Sto):gc n (.ref k,S)=(.ref k,S):=by
 unfold gc;rw [show (D.ref k).und n=false by rw [D.und];simpa using h];rfl
noncomputable abbrev evS (h m:Nat)(w:qad)(sg:List Int)(x4 x5 x6 x7 x8:Option D):Ev:=[some (.ref h),some (webD w),some (sgD sg),some (.int (m:Nat)),x4,x5,x6,x7,x8]
inductive Num (h g c m:Nat)(w:qad)(sg:List Int)(way:Nat)(U:Sto):Ev->Sto->Prop
 | mk (k:Nat) (zs:List Int) (x4 x7 x8:Option D) (V:Sto):zs.length=m->U.length<=k->V[k]? = some (.lst (zs.map D.int))->HS h g c U V->Num h g c m w sg way U (evS h m w sg x4 (some (.ref k)) (some (.int (way:Nat))) x7 x8) V
theorem qlm {h g c m km:Nat}{w:qad}{sg:List Int}{M:Mks}{U V:Sto}{Q:D×Sto->Prop}(hw:WebJ m w)(hm:m<=8)(s:HS h g c U V)(hk:U.length<=km)(hkm:V[km]? = some (dO (mF M)))(hT:Told m w sg M)
  (q:∀ (zs:List Int) V',zs.length=m->HS h g c U V'->Q (.ref V'.length,V'++[.lst (zs.map D.int)])):
  W (qa9 1 [3,4] (iR1 (qaa (mV 3) mNil)) (gN 0) qbl (qaT (mN (b1 qh1) (qaa (qa9 1 [0,2] (iR1 (qaa (mV 1) mNil)) (gN 0) (mB (m2 (b2 qb0) (mTup (qaa (mV 0) (qaa (mV 1) mNil))) (mV 2))) (qaT (mV 0))) mNil))) (evS h m w sg (some (.ref km)) none none none none) V) Q:=by
 have h1:=s.hl;have h2:=s.gl;have h3:=s.len;walk_at "own wq";refine ⟨qbd (by lia),?_⟩;rw [Int.toNat_natCast];refine qbt (fun i acc r W'=>i<=m/\(∃ zs:List Int,acc=zs.map D.int/\zs.length=i)/\HS h g c U W'/\W'[km]? = some (dO (mF M)) /\ ∃ x0,r=[x0,some (.int (m:Nat)),some (.ref km)]) _ 0 [] _ _ ⟨by lia,⟨[],rfl,rfl⟩,s,hkm,_,rfl⟩ (fun _ _ _ _ _=>rfl) ?_ ?_
 ·rintro i d hd acc r W' ⟨hi,⟨zs,rfl,hz⟩,hs,hkW,x0,rfl⟩;have hlt:=(gE1.mp hd).1;rw [qaz] at hlt;rw [qcI,gP1,List.getElem?_range hlt] at hd;have hd:d = .int (i:Nat):=by simpa using hd.symm
  subst hd;rw [Nat.zero_add] at *
  walk_at "own wq";refine ⟨qbd (by lia),?_⟩;rw [Int.toNat_natCast,qcI];simp only [Int.zero_add];refine qdg (f:=fun b:Nat=>D.int (b:Nat)) (fun b=> !tf ((b,i)∈M)) (fun b:Nat=>D.int (b:Nat)) (fun r=>∃ x,r=[x,some (.int (i:Nat)),some (.ref km)]) rfl (List.range m) _ ⟨_,rfl⟩ ?_ ?_
  ·rintro b hb r ⟨x,rfl⟩;have e1:=notM (S:=W') (n:=km) (a:=b) (b:=i) (M:=M) hkW
   ((try walk_at "own wq");repeat (simp only [e1];try walk_at "own wq"))
   exact ⟨⟨_,rfl⟩,fun _=>trivial⟩
  ·rintro r' _;refine ⟨qah (by rw [lM1];exact Nat.le_trans (List.length_filter_le ..) (by rw [List.length_range];lia)),?_⟩;dsimp only;generalize hos:(List.range m).filter (fun b=> !tf ((b,i)∈M))=os;have hne:os≠[]:=fun z=>by
    have:i∈os:=by
     rw [<- hos,List.mem_filter];exact ⟨List.mem_range.mpr hlt,by rw [tf_f ((hT i i hlt hlt).mpr (RA.refl m i))];rfl⟩
    rw [z] at this;cases this
   refine qqD (os:=os) (by rw [qaj];rfl) hne fun z=>?_;have hl:=hs.len;refine ⟨by lia,⟨zs++[z],by simp,by simp;lia⟩,?_,?_,_,rfl⟩
   ·exact hs.app fun o ho=>by simp at ho;subst ho;rw [Ob.und];exact qbf (qi1 os)
   ·rw [gL1 (gE1.mp hkW).1];exact hkW
 ·rintro xs r W' ⟨hi,⟨zs,hz,hzl⟩,hs,_,x0,rfl⟩;rw [qaz,Nat.zero_add] at hzl;rw [List.nil_append] at hz;subst hz;exact ⟨qah (by rw [lM1];lia),q zs W' hzl hs⟩
theorem qkA (z:Int)(m:Nat):(List.replicate m [D.int z]).flatten=(List.replicate m z).map D.int:=by
 induction m with
 | zero=>rfl
 | succ m ih=>rw [List.replicate_succ,List.replicate_succ,List.flatten_cons,ih];rfl
theorem qsa {i j:Int}{S:Sto}{Q:D×Sto->Prop}(h:qaY i j=true)(q:Q (.int (i*j),S)):W (gMul (.int i) (.int j) S) Q:=by
 refine W.of ?_ q;simp only [gMul];rw [if_pos h]
theorem seqI {a b:FS}{r:Ev}{S:Sto}{Q:Fl×Ev×Sto->Prop}(I:Ev->Sto->Prop)(h:W (a r S) fun p=>(p.1 = .nx/\I p.2.1 p.2.2) \/ ∃ v,p.1 = .rt v/\Q (.rt v,p.2))(k:∀ r V,I r V->W (b r V) Q):W (mSeq a b r S) Q:=
 qoA (h.mono fun p hp=>hp.elim (fun z=>.inl ⟨z.1,k _ _ z.2⟩) .inr)
theorem qox {h g c m:Nat}{w:qad}{sg:List Int}{B U:Sto}{Q:D×Sto->Prop}(hw:WebJ m w)(hm0:0<m)(hm:m<=8)(hl:sg.length=m)(s:HS h g c B U)(hc:c<=2^40)
  (q:∀ (k:Nat) (zs:List Int) U',zs.length=m->U.length<=k->U'[k]? = some (.lst (zs.map D.int))->HS h g (c+20) B U'->HS h g (c+20) U U'->Q (.ref k,U')):W (qaf 3 qbs [.ref h,webD w,sgD sg] U) Q:=by
 have h1:=s.hl;have h2:=s.gl;have h3:=s.len;have s0:HS h g c U U:=HS.self s.hand s.shut;refine qf3 rfl rfl ?_;have fin:∀ (k:Nat) (zs:List Int) V,zs.length=m->U.length<=k->V[k]? = some (.lst (zs.map D.int))->HS h g (c+20) U V->Q (gc U.length (.ref k,V)):=fun k zs V a b e v=>by
  rw [qoh b];exact q k zs V a b e (s.trans v) v
 unfold qbs;refine fnW ?_;unfold qec;refine seqW (fun r V=>V=U/\r=evS h m w sg none none none none none) ?_ ?_
 ·have e0:gLen (webD w) U=some (.int (m:Nat),U):=by rw [webD,len_tup,lM1,hw.len]
  ((try walk_at "own wq");repeat (simp only [e0];try walk_at "own wq"))
 rintro r V ⟨rfl,rfl⟩;refine seqW (fun r V'=>∃ M km,Told m w sg M/\V.length<=km/\V'[km]? = some (dO (mF M))/\HS h g c V V'/\r=evS h m w sg (some (.ref km)) none none none none) ?_ ?_
 ·walk_at "own wq";refine qr1 rfl (by rw [D.unds,D.unds,qdz,qcs];rfl) ((qkj hw hm0 hm hl).mono ?_);rintro ⟨d,G⟩ ⟨M,e1,e2,e3,hT⟩;refine ⟨1,_,e1,e2,e3,fun G' j hj hG' hlj=>?_⟩;exact ⟨M,j,hT,hlj,hj,s0.app fun o ho=>qeZ (Nat.zero_le _) (List.all_eq_true.mp hG' o ho),rfl⟩
 rintro r V' ⟨M,km,hT,hkm,hV',s1,rfl⟩;refine seqW (fun r V'=>∃ (k:Nat) (zs:List Int) (x4:Option D),zs.length=m/\V.length<=k/\V'[k]? = some (.lst (zs.map D.int))/\HS h g c V V'/\r=evS h m w sg x4 (some (.ref k)) none none none) ?_ ?_
 ·unfold mAsg;rw [qal];refine qlm hw hm s1 hkm hV' hT fun zs V2 hz hs2=>?_;walk_at "own wq";exact ⟨_,zs,_,hz,hs2.len,by rw [qaj];rfl,hs2.pushI zs,rfl⟩
 rintro r V2 ⟨k,zs,x4,hz,hk,hkV,s2,rfl⟩;refine seqW (fun r V'=>∃ way:Nat,Num h g (c+1) m w sg way V r V') ?_ ?_
 ·walk_at "own wq";refine qaX s2 (by lia) (by lia) (by lia) fun d U1 a b l hd=>?_;exact ⟨d,.mk k zs _ _ _ _ hz hk (b.at hkV (by lia) (by lia)) a⟩
 clear hz hk hkV s2;rintro r V3 ⟨way,hN⟩;refine seqI (Num h g (c+1) m w sg way V) ?_ ?_
 ·obtain ⟨k,zs,x4,x7,x8,V3,hz,hk,hkV,s3⟩:=hN;walk_at "own wq";split
  ·refine qob (k:=m) rfl (by lia) ?_;walk_at "own wq";have e:nums 0 m=((List.range m).map fun (r:Nat)=>(r:Int)).map D.int:=by rw [qcI,List.map_map];simp only [Int.zero_add];rfl
   rw [e];refine .inr ⟨_,rfl,?_⟩;exact fin _ ((List.range m).map fun (r:Nat)=>(r:Int)) _ (by simp) s3.len (by rw [qaj];rfl) ((s3.more (by lia)).pushI _)
  ·exact .inl (.mk k zs _ _ _ _ hz hk hkV s3)
 clear hN;rintro r V3 hN;refine seqI (Num h g (c+1) m w sg way V) ?_ ?_
 ·obtain ⟨k,zs,x4,x7,x8,V3,hz,hk,hkV,s3⟩:=hN;walk_at "own wq";split
  ·refine ql8 (k:=m) (xs:=[.int 7]) (by rw [qaj];rfl) (by lia) (by simp) ?_;rw [qkA];refine .inr ⟨_,rfl,?_⟩;have hlen:=s3.len;have a:=((s3.more (n':=c+20) (by lia)).pushI [7]).pushI (List.replicate m 7);exact fin _ (List.replicate m 7) _ (by simp) (by rw [lA1];lia) (by rw [qaj];rfl) a
  ·exact .inl (.mk k zs _ _ _ _ hz hk hkV s3)
 clear hN;rintro r V3 hN;refine seqW (Num h g (c+4) m w sg way V) ?_ ?_
 ·obtain ⟨k,zs,x4,x7,x8,V3,hz,hk,hkV,s3⟩:=hN;have hlen:=s3.len
  ((try walk_at "own wq");repeat (simp only [neg_int];try walk_at "own wq"))
  split
  ·refine qaX s3 (by lia) (by lia) (by lia) fun d U1 a b l hd=>?_;have hk1:=b.at hkV (by lia) (by lia);obtain ⟨z0,hz0⟩:∃ z0,zs[d]? = some z0:=⟨_,gG1 (by lia)⟩;refine qfq hk1 (x:=.int z0) (by rw [gP1,hz0];rfl) ?_;walk_at "own wq";refine qm3 [(m:Int),z0,-1] a (by lia) (by simp) (by simp) fun z _ U2 a2 b2 l2=>?_;walk_at "own wq";refine qaX a2 (by lia) (by lia) (by lia) fun e U3 a3 b3 l3 he=>?_;have hk3:U3[k]? = some (.lst (zs.map D.int)):=b3.at (b2.at hk1 (by lia) (by lia)) (by lia) (by lia);refine ql7 (i:=e) hk3 (by rw [lM1];lia) ?_;have hkl:=(gE1.mp hk3).1;walk_at "own wq";refine .mk k (zs.set e z) _ _ _ _ (by simpa using hz) hk ?_ ?_
   ·rw [List.getElem?_set_self hkl,List.map_set]
   ·exact (a3.set hk (by rw [Ob.und,<- List.map_set];exact qay _ _)).more (by lia)
  ·exact .mk k zs _ _ _ _ hz hk hkV (s3.more (by lia))
 clear hN;rintro r V3 hN;refine seqW (Num h g (c+6) m w sg way V) ?_ ?_
 ·obtain ⟨k,zs,x4,x7,x8,V3,hz,hk,hkV,s3⟩:=hN;have hlen:=s3.len;walk_at "own wq";split
  ·refine qaX s3 (by lia) (by lia) (by lia) fun d1 U1 a b l hd1=>?_;have hk1:=b.at hkV (by lia) (by lia);walk_at "own wq";refine qaX a (by lia) (by lia) (by lia) fun d2 U2 a2 b2 l2 hd2=>?_;have hk2:=b2.at hk1 (by lia) (by lia);obtain ⟨z1,hz1⟩:∃ z1,zs[d1]? = some z1:=⟨_,gG1 (by lia)⟩;obtain ⟨z2,hz2⟩:∃ z2,zs[d2]? = some z2:=⟨_,gG1 (by lia)⟩;walk_at "own wq";refine qaw hk2 ?_;refine mapW (f:=D.int) (fun z=>D.int (if z=z1 then z2 else z)) (fun r=>∃ x,r=[x,some (.ref k),some (.int (d1:Nat)),some (.int (d2:Nat))]) (qaQ hk2) zs _ ⟨_,rfl⟩ ?_ ?_
   ·rintro z _ r ⟨x,rfl⟩;walk_at "own wq";refine qfq hk2 (x:=.int z1) (by rw [gP1,hz1];rfl) ?_;walk_at "own wq";by_cases he:z=z1
    ·rw [if_pos (by simpa using he),if_pos he];refine qfq hk2 (x:=.int z2) (by rw [gP1,hz2];rfl) ?_;exact ⟨rfl,rfl,_,rfl⟩
    ·rw [if_neg (by simpa using he),if_neg he]
     first | exact ⟨rfl,rfl,_,rfl⟩ | exact ⟨rfl,_,rfl⟩ | exact ⟨_,rfl⟩
   ·rintro r' _;refine ⟨qah (by rw [lM1];lia),?_⟩;have e4:(zs.map fun z=>if z=z1 then z2 else z).map D.int=zs.map fun z=>D.int (if z=z1 then z2 else z):=by rw [List.map_map];rfl
    have a4:=a2.pushI (zs.map fun z=>if z=z1 then z2 else z);rw [e4] at a4;exact .mk _ (zs.map fun z=>if z=z1 then z2 else z) _ _ _ _ (by rw [lM1];exact hz) a2.len (by rw [qaj,e4];rfl) (a4.more (by lia))
  ·exact .mk k zs _ _ _ _ hz hk hkV (s3.more (by lia))
 clear hN;rintro r V3 hN;refine seqW (Num h g (c+16) m w sg way V) ?_ ?_
 ·obtain ⟨k,zs,x4,x7,x8,V3,hz,hk,hkV,s3⟩:=hN;have hlen:=s3.len;walk_at "own wq";split
  ·refine qaw hkV ?_;refine qbt (fun i acc r W'=>i<=m/\(∃ ys:List Int,acc=ys.map D.int/\ys.length=i)/\HS h g (c+6+i) V W'/\W'[k]? = some (.lst (zs.map D.int)) /\ ∃ x0,r=[x0,some (.int (m:Nat)),some (.ref h)]) _ 0 [] _ _ ⟨by lia,⟨[],rfl,rfl⟩,s3,hkV,_,rfl⟩ (fun _ _ _ _ h=>qaQ h.2.2.2.1) ?_ ?_
   ·rintro i d hd acc r W' ⟨hi,⟨ys,rfl,hy⟩,hs,hkW,x0,rfl⟩;have hlt:=(gE1.mp hd).1;rw [lM1] at hlt;rw [gP1,gG1 hlt] at hd;have hd:d = .int zs[i]:=by simpa using hd.symm
    subst hd;have hl1:=hs.len;rw [Nat.zero_add] at *
    walk_at "own wq";refine qaX hs (by lia) (by lia) (by lia) fun e U1 a b _ he=>?_;walk_at "own wq";refine qsa (qi3 (by lia) (by lia)) ?_;generalize (m:Int)*(e:Int)=me;refine W.of (x:=(.int (zs[i]+me),U1)) rfl ?_;exact ⟨by lia,⟨ys++[zs[i]+me],by simp,by simp;lia⟩,a.more (by lia),b.at hkW (by lia) (by lia),_,rfl⟩
   ·rintro xs r W' ⟨hi,⟨ys,hy,hyl⟩,hs,_,x0,rfl⟩;rw [lM1,Nat.zero_add] at hyl;rw [List.nil_append] at hy;subst hy;exact ⟨qah (by rw [lM1];lia),.mk _ ys _ _ _ _ (by lia) hs.len (by rw [qaj];rfl) ((hs.pushI ys).more (by rw [lM1];lia))⟩
  ·exact .mk k zs _ _ _ _ hz hk hkV (s3.more (by lia))
 clear hN;rintro r V3 ⟨k,zs,x4,x7,x8,V3,hz,hk,hkV,s3⟩;walk_at "own wq";exact fin k zs _ hz hk hkV (s3.more (by lia))
theorem qht {S:Sto}{n:Nat}{x:Int}:∀ ys:List Int,eqsL (eqN S (n+1)) (.int x) (ys.map D.int)=some (ys.map fun y=>y == x)
 | []=>rfl
 | y::ys=>by rw [mP1,eqsL,qht ys];rfl
theorem qqG {S:Sto}{n:Nat}{x:Int}{ys:List Int}{Q:D×Sto->Prop}(h:S[n]? = some (.lst (ys.map D.int)))(hl:ys.length<1000)(hx:x∈ys)(q:∀ j:Nat,j<ys.length->Q (.int j,S)):W (gIdx (.ref n) (.int x) S) Q:=by
 obtain ⟨j,hj⟩:∃ j,ys.findIdx? (· == x)=some j:=by
  cases e:ys.findIdx? (· == x) with
  | some j=>exact ⟨j,rfl⟩
  | none=>
   have:=List.findIdx?_eq_none_iff.mp e x hx;simp at this
 have hj2:=(List.findIdx?_eq_some_iff_getElem.mp hj).1;refine W.of ?_ (q j hj2);unfold gIdx qaC;simp only [h,show (60:Nat)=59+1 from rfl,qht,oS1,lM1];rw [if_pos (by lia),List.findIdx?_map];simp [Function.comp_def,hj]
theorem qnR (xs:List Int):(ddI xs).length<=xs.length:=by
 have:=qdJ xs [];unfold ddI;simpa using this
theorem qlp {h g c m k:Nat}{zs:List Int}{B U:Sto}{Q:D×Sto->Prop}(hm:m<=8)(hz:zs.length=m)(s:HS h g c B U)(hc:c<=2^40)(hk:U[k]? = some (.lst (zs.map D.int)))(hkh:k≠h)(hkg:k≠g)
  (q:∀ (ts:List Int) U',ts.length=m->(∀ t∈ts,t.natAbs.log2<1920)->HS h g (c+20) B U'->HS h g (c+20) U U'->U'.length=U.length->Q (sgD ts,U')):W (qaf 2 qa5 [.ref h,.ref k] U) Q:=by
 have h1:=s.hl;have h2:=s.gl;have h3:=s.len;have hkl:=(gE1.mp hk).1;have s0:HS h g c U U:=HS.self s.hand s.shut;refine qgL (c':=c+20) rfl rfl s ?_;unfold qa5;refine fnW ?_;unfold qc4;refine seqW (fun r V=>∃ (j:Nat) (ns:List Int),ns.length=20/\(∀ t∈ns,t.natAbs.log2<1920)/\U.length<=j/\V[j]? = some (.lst (ns.map D.int))/\HS h g (c+20) U V/\r=[some (.ref h),some (.ref k),some (.ref j),none]) ?_ ?_
 ·((try walk_at "own wq");repeat (simp only [neg_int,qoV];try walk_at "own wq"))
  have e:[D.int 0,D.int 1,D.int 2,D.int 3,D.int (-1),D.int (-7),D.int (10^30),D.int (10^30+1),D.int 5,D.int 99,D.int 6,D.int 7,D.int (-2),D.int 40,D.int 41,D.int 42,D.int 43,D.int 44,D.int 45,D.int 46]=([0,1,2,3,-1,-7,10^30,10^30+1,5,99,6,7,-2,40,41,42,43,44,45,46]:List Int).map D.int:=rfl;rw [e];generalize hN:([0,1,2,3,-1,-7,10^30,10^30+1,5,99,6,7,-2,40,41,42,43,44,45,46]:List Int)=N;have hNl:N.length=20:=by rw [<- hN];rfl
  have a:=s0.pushI N;refine ⟨qah (by lia),?_⟩;refine qgq (xs:=N.map D.int) a (by lia) (by rw [qaj];rfl) (by lia) (by lia) (by rw [lM1];lia) (qay _ _) fun j ys U' a1 b1 hj hy hp=>?_;have hP:∀ i∈N,i.natAbs.log2<1920:=by rw [<- hN];decide+kernel
  obtain ⟨ns,rfl,hns,hnp⟩:∃ ns:List Int,ys=ns.map D.int/\ns.length=20 /\ ∀ t∈ns,t.natAbs.log2<1920:=by
   have hall:∀ y∈ys,∃ i,y=D.int i/\i.natAbs.log2<1920:=fun y hy=>by
    obtain ⟨i,hi,e⟩:=List.mem_map.mp (hp.mem_iff.mp hy);exact ⟨i,e.symm,hP i hi⟩
   have hyl:ys.length=20:=by rw [hp.length_eq,lM1,hNl]
   clear hp hy;obtain ⟨ns,e,h'⟩:∃ ns:List Int,ys=ns.map D.int /\ ∀ t∈ns,t.natAbs.log2<1920:=by
    clear hyl
    induction ys with
    | nil=>exact ⟨[],rfl,fun t h=>by cases h⟩
    | cons y ys ih=>
     obtain ⟨i,rfl,hi⟩:=hall y mS1;obtain ⟨ns,rfl,hn⟩:=ih fun z hz=>hall z (mC1 _ hz);refine ⟨i::ns,rfl,fun t ht=>?_⟩;rcases List.mem_cons.mp ht with z | z
     ·rw [z];exact hi
     ·exact hn t z
   subst e;exact ⟨ns,rfl,by simpa using hyl,h'⟩
  rw [lA1] at hj;rw [lM1,hNl] at a1;exact ⟨j,ns,hns,hnp,by simp at hj;lia,hy,a1,rfl⟩
 rintro r V ⟨j,ns,hns,hnp,hj,hjV,s1,rfl⟩;have hV:=s1.len;have hkV:V[k]? = some (.lst (zs.map D.int)):=s1.at hk hkh hkg;refine seqW (fun r V'=>V'=V++[.lst ((qb4 (ddI zs)).map D.int)]/\r=[some (.ref h),some (.ref k),some (.ref j),some (.ref V.length)]) ?_ ?_
 ·have e:qc0 (.ref k) V=some (.ref V.length,V++[.lst ((qb4 (ddI zs)).map D.int)]):=by
   simp only [qc0,qc6 hkV,qgB,oS1];rw [if_pos (by lia)]
  ((try walk_at "own wq");repeat (simp only [e];try walk_at "own wq"))
  try exact ⟨rfl,trivial⟩
 rintro r V' ⟨rfl,rfl⟩;have a2:=s1.pushI (qb4 (ddI zs));have hk2:=a2.at hk hkh hkg;have hj2:(V++[Ob.lst ((qb4 (ddI zs)).map D.int)])[j]? = some (.lst (ns.map D.int)):=by rw [gL1 (gE1.mp hjV).1];exact hjV
 have hv2:(V++[Ob.lst ((qb4 (ddI zs)).map D.int)])[V.length]? = some (.lst ((qb4 (ddI zs)).map D.int)):=by rw [qaj];rfl
 have hsl:(qb4 (ddI zs)).length<=8:=by
  rw [(qbM (ddI zs)).length_eq];have:=qnR zs;lia
 walk_at "own wq";refine qaw hk2 ?_;generalize hV2:V++[Ob.lst ((qb4 (ddI zs)).map D.int)]=V2 at *
 refine qbt (fun i acc r S=>S=V2 /\ ∃ ys:List Int,acc=ys.map D.int/\ys.length=i/\(∀ t∈ys,t.natAbs.log2<1920) /\ ∃ x0,r=[x0,some (.ref j),some (.ref V.length)]) _ 0 [] _ _ ⟨rfl,[],rfl,rfl,(fun t h=>by cases h),_,rfl⟩ (fun i acc r S h=>by rw [h.1];exact qaQ hk2) ?_ ?_
 ·rintro i d hd acc r S ⟨rfl,ys,rfl,hy,hyp,x0,rfl⟩;rw [gP1] at hd;obtain ⟨z,hz',rfl⟩:=oM1.mp hd;have hmem:z∈qb4 (ddI zs):=(qbM (ddI zs)).mem_iff.mpr (by unfold ddI;rw [qgK];exact .inr (gM1 hz'));walk_at "own wq";refine qeg ?_;walk_at "own wq";refine ⟨V.length,(qb4 (ddI zs)).map D.int,rfl,hv2,?_⟩;refine qqG hv2 (by lia) hmem fun t ht=>?_;obtain ⟨nt,hnt⟩:∃ nt,ns[t]? = some nt:=⟨_,gG1 (by lia)⟩;refine qfq hj2 (x:=.int nt) (by rw [gP1,hnt];rfl) ?_;refine ⟨rfl,ys++[nt],by simp,by simp;lia,fun t ht=>?_,_,rfl⟩;rcases List.mem_append.mp ht with z | z
  ·exact hyp t z
  ·rw [List.mem_singleton.mp z];exact hnp nt (gM1 hnt)
 ·rintro xs r S ⟨rfl,ys,hy,hyl,hyp,x0,rfl⟩;rw [lM1,Nat.zero_add] at hyl;rw [List.nil_append] at hy;subst hy;refine ⟨qah (by rw [lM1];lia),?_⟩;walk_at "own wq";refine qaw (xs:=ys.map D.int) (by rw [qaj];rfl) ?_;exact ⟨a2.pushI ys,qcs ys,fun U' x y l=>q ys U' (by lia) hyp x y l⟩
theorem qjv {n:Nat}{d:D}{V:Sto}(hd:d.und 0=true):gc n (d,V)=(d,(gc n (.non,V)).2):=by
 unfold gc;dsimp only;rw [qcQ hd,show (D.non).und n=true from rfl];split<;>rfl
theorem HS.cut {h g c c':Nat}{B U V:Sto}(s:HS h g c B U)(v:HS h g c' U V):HS h g c' U (gc U.length (.non,V)).2:=by
 obtain ⟨p,e,hp⟩:=qgL (n:=1) (f:=fun _ _=>some (.non,V)) (ds:=[.ref 0]) (Q:=fun p=>HS h g c' U p.2) rfl rfl s ⟨_,rfl,v,rfl,fun U' _ u _=>u⟩;obtain ⟨p2,e2,h2⟩:=qf3 (n:=1) (f:=fun _ _=>some (.non,V)) (ds:=[.ref 0]) (S:=U) (Q:=fun p=>p=gc U.length (.non,V)) rfl rfl ⟨_,rfl,rfl⟩;rw [e] at e2;cases e2;rw [<- h2];exact hp
theorem qpn {h g c r:Nat}{B U:Sto}{xs:List D}{Q:D×Sto->Prop}(s:HS h g c B U)(hc:c<=2^45)(hr:U[r]? = some (.lst xs))(hrh:r≠h)(hrg:r≠g)(hl:xs.length<=100)(hne:0<xs.length)
  (q:∀ x U',x∈xs->HS h g (c+1) B U'->HS h g (c+1) U U'->U'.length=U.length->Q (x,U')):W (qaf 2 qaA [.ref h,.ref r] U) Q:=by
 refine qf3 rfl rfl ?_;unfold qaA;refine fnW ?_;unfold qed;walk_at "own wq";refine qaw hr ?_;walk_at "own wq";refine qaX s (by lia) (by lia) (by lia) fun d U1 a b l hd=>?_;have hr1:U1[r]? = some (.lst xs):=b.at hr hrh hrg;have hd':d<xs.length:=by lia
 refine qfq hr1 (gG1 hd') ?_;rw [qjw l];exact q _ _ (List.getElem_mem hd') a b l
theorem qco {n:Nat}:∀ {a b:List D},D.unds n (a++b)=(D.unds n a&&D.unds n b)
 | [],b=>by rw [List.nil_append,D.unds,Bool.true_and]
 | x::a,b=>by rw [List.cons_append,D.unds,D.unds,qco,Bool.and_assoc]
inductive Bad (m n:Nat)(S:Sto):D->Prop
 | row (xs:List D):(∀ x∈xs,Part S x)->xs.length<=100->(decide (xs.length=m)&&xs.all whD)=false->(D.unds 0 xs=true\/D.unds n xs=false)->Bad m n S (.tup xs)
 | one (d:D):d.und 0=true->(∀ T,isTy T .tuple d=some false)->Bad m n S d
 | ref (k:Nat):n<=k->isTy S .tuple (.ref k)=some false->Bad m n S (.ref k)
theorem Part.shut {S T:Sto}{x:D}(h:Part S x)(hx:x.und 0=true):Part T x:=by
 cases h with
 | ref n xs h=>cases hx
 | int i=>exact .int i
 | non=>exact .non
 | bl b=>exact .bl b
 | str s=>exact .str s
 | one=>exact .one
 | many zs=>exact .many zs
theorem qqy {h g c c' m:Nat}{B U V:Sto}{d:D}(s:HS h g c B U)(v:HS h g c' U V)(hb:Bad m U.length V d):∃ U',gc U.length (d,V)=(d,U')/\HS h g c' U U'/\Bad m U.length U' d:=by
 have same:∀ {d:D},d.und U.length=false->gc U.length (d,V)=(d,V):=fun {d} hd=>by
  unfold gc;dsimp only;rw [hd];rfl
 cases hb with
 | row xs h1 h2 h3 h4=>
  rcases h4 with z | z
  ·exact ⟨_,qjv (by rw [D.und];exact z),s.cut v,.row xs (fun x hx=>(h1 x hx).shut (qdA z hx)) h2 h3 (.inl z)⟩
  ·exact ⟨V,same (by rw [D.und];exact z),v,.row xs h1 h2 h3 (.inr z)⟩
 | one d h1 h2=>exact ⟨_,qjv h1,s.cut v,.one d h1 h2⟩
 | ref k h1 h2=>exact ⟨V,same (by rw [D.und];simpa using h1),v,.ref k h1 h2⟩
theorem qr8 {m n:Nat}{w:qad}{sg:List Int}{d:D}{S:Sto}{Q:D×Sto->Prop}(hw:WebJ m w)(hS:Shut S)(hb:Bad m n S d)(q:Q (.bl false,S)):W (qaf 3 qam [webD w,sgD sg,d] S) Q:=by
 cases hb with
 | row xs h1 h2 h3 h4=>exact qlw hw hS h1 h2 h3 q
 | one d h1 h2=>exact qf8 hw hS (h2 S) (.inr h2) q
 | ref k h1 h2=>exact qf8 hw hS h2 (.inl rfl) q
theorem qkO {S:Sto}{x:D}{n:Nat}(h:Part S x)(hn:S.length<=n):x.und n=true:=by
 cases h with
 | ref k xs h=>
  have:=(gE1.mp h).1;rw [D.und];simp;lia
 | int i=>rfl
 | non=>rfl
 | bl b=>rfl
 | str s=>rfl
 | one=>rfl
 | many zs=>rw [D.und];exact qay _ _
theorem qgS {n:Nat}:∀ {xs:List D},(∀ x∈xs,x.und n=true)->D.unds n xs=true
 | [],_=>by rw [D.unds]
 | x::xs,h=>by rw [D.unds,h x mS1,qgS fun y hy=>h y (mC1 _ hy)];rfl
theorem qgY (n d:Nat):HT.sIx n d (some (-1))=n-1:=by
 unfold HT.sIx;simp;lia
theorem cutM (xs:List D):Mi.cutD xs none (some (-1))=xs.take (xs.length-1):=by
 unfold Mi.cutD;rw [HT.qdD,qgY,List.drop_zero,Nat.sub_zero]
theorem cutL (xs:List D):Mi.cutD xs (some (-1)) none=xs.drop (xs.length-1):=by
 unfold Mi.cutD;rw [HT.qdD,qgY,List.take_of_length_le (by simp)]
theorem qkP {S:Sto}{zs:List Int}:∀ x∈zs.map D.int,Part S x:=fun x hx=>by
 obtain ⟨i,_,rfl⟩:=List.mem_map.mp hx;exact .int i
theorem qgM {m n:Nat}{S:Sto}(zs:List Int)(hl:zs.length<=100)(hz:zs.length≠m):Bad m n S (.tup (zs.map D.int)):=by
 refine .row _ qkP (by simpa using hl) ?_ (.inl (qay _ _));rw [lM1,decide_eq_false hz];rfl
theorem qrt {h g c m:Nat}{ts:List Int}{B U:Sto}{Q:D×Sto->Prop}(hm0:0<m)(hm:m<=8)(ht:ts.length=m)(hb:∀ t∈ts,t.natAbs.log2<1920)(s:HS h g c B U)(hc:c<=2^40)
  (q:∀ d U',Bad m U.length U' d->HS h g (c+3) B U'->HS h g (c+3) U U'->Q (d,U')):W (qaf 2 qbO [.ref h,sgD ts] U) Q:=by
 have h1:=s.hl;have h2:=s.gl;have h3:=s.len;have s0:HS h g c U U:=HS.self s.hand s.shut;refine qf3 rfl rfl ?_;refine W.mono (Q:=fun p=>HS h g (c+3) U p.2/\Bad m U.length p.2 p.1) ?_ (by
  rintro ⟨d,V⟩ ⟨v,bd⟩;obtain ⟨U',e,u,bd'⟩:=qqy s v bd;rw [e];exact q d U' bd' (s.trans u) u)
 unfold qbO;refine fnW ?_;unfold qeE;refine seqW (fun r V=>∃ at_:Nat,at_<m/\HS h g (c+1) U V/\r=[some (.ref h),some (sgD ts),some (.int (at_:Nat)),none,none,none]) ?_ ?_
 ·((try walk_at "own wq");repeat (simp only [len_tup];try walk_at "own wq"))
  rw [lM1,ht];refine qaX s0 (by lia) (by lia) (by lia) fun d U1 a b l hd=>?_;exact ⟨d,by lia,a,rfl⟩
 rintro r V ⟨at_,hat,s1,rfl⟩;have l1:=s1.len;obtain ⟨t,htat⟩:∃ t,ts[at_]? = some t:=⟨_,gG1 (by lia)⟩;refine seqW (fun r V=>∃ x,(Part V x/\whD x=false/\(x.und 0=true\/x.und U.length=false))/\HS h g (c+2) U V/\r=[some (.ref h),some (sgD ts),some (.int (at_:Nat)),some x,none,none]) ?_ ?_
 ·have e1:∀ S,gIxY (sgD ts) (.int (at_:Nat)) S=some (.int t,S):=fun S=>ix_tup (by rw [gP1,htat];rfl);have e2:∀ S,gStr (.int t) S=some (.str (toString t),S):=fun S=>by show (if _ then _ else _)=_;rw [if_pos (hb t (gM1 htat))]
  ((try walk_at "own wq");repeat (simp only [e1,e2];try walk_at "own wq"))
  generalize hxs:[D.str (Str.ofString (toString t)),D.non,D.tup [D.int 0],D.bl (t == 1),D.bl true,D.ref (List.length V)]=xs;have a:HS h g (c+1) U (V++[Ob.lst [D.int 0],Ob.lst xs]):=s1.app fun o ho=>by
   rcases List.mem_cons.mp ho with z | z
   ·rw [z];rfl
   ·rw [List.mem_singleton.mp z,<- hxs];simp [Ob.und,D.unds,D.und]
  have hV0:(V++[Ob.lst [D.int 0],Ob.lst xs])[V.length]? = some (.lst [.int 0]):=by rw [qaj];rfl
  have hV1:(V++[Ob.lst [D.int 0],Ob.lst xs])[V.length+1]? = some (.lst xs):=by rw [qbZ];rfl
  refine qpn a (by lia) hV1 (by lia) (by lia) (by rw [<- hxs];simp) (by rw [<- hxs];simp) fun x U1 hx a1 b1 l1=>?_;refine ⟨x,?_,a1,rfl⟩;rw [<- hxs] at hx;simp only [List.mem_cons,List.not_mem_nil,or_false] at hx;rcases hx with rfl | rfl | rfl | rfl | rfl | rfl
  ·exact ⟨.str _,rfl,.inl rfl⟩
  ·exact ⟨.non,rfl,.inl rfl⟩
  ·exact ⟨.one,rfl,.inl rfl⟩
  ·exact ⟨.bl _,rfl,.inl rfl⟩
  ·exact ⟨.bl _,rfl,.inl rfl⟩
  ·exact ⟨.ref _ _ (b1.at hV0 (by lia) (by lia)),rfl,.inr (by rw [D.und];simp;lia)⟩
 rintro r V2 ⟨x,⟨hxp,hxw,hxu⟩,s2,rfl⟩;have l2:=s2.len;obtain ⟨ys,hys,hyl,hyp,hyw,hyu⟩:∃ ys:List D,ys=(ts.take at_).map D.int++[x]++(ts.drop (at_+1)).map D.int/\ys.length=m/\(∀ y∈ys,y=x \/ ∃ i,y=D.int i)/\x∈ys/\(D.unds 0 ys=true\/D.unds U.length ys=false):=by
  refine ⟨_,rfl,?_,?_,?_,?_⟩
  ·simp;lia
  ·intro y hy;rcases List.mem_append.mp hy with hy | hy
   ·rcases List.mem_append.mp hy with hy | hy
    ·obtain ⟨i,_,e⟩:=List.mem_map.mp hy;exact .inr ⟨i,e.symm⟩
    ·exact .inl (List.mem_singleton.mp hy)
   ·obtain ⟨i,_,e⟩:=List.mem_map.mp hy;exact .inr ⟨i,e.symm⟩
  ·simp
  ·rcases hxu with z | z
   ·exact .inl (by rw [qco,qco,qay,qay,D.unds,z];rfl)
   ·exact .inr (by rw [qco,qco,D.unds,z];simp)
 refine seqW (fun r V=>V=V2/\r=[some (.ref h),some (sgD ts),some (.int (at_:Nat)),some x,some (.tup ys),none]) ?_ ?_
 ·walk_at "own wq";refine qly (a:=none) (b:=some (at_:Int)) rfl rfl rfl ?_;rw [cutT];walk_at "own wq";refine ⟨qah (by simp;lia),?_⟩;refine qly (a:=some (((at_+1:Nat):Int))) (b:=none) rfl rfl rfl ?_;rw [cutU];walk_at "own wq";refine ⟨qah (by simp;lia),?_⟩;rw [hys,List.map_take,List.map_drop,List.append_assoc];rfl
 rintro r V ⟨rfl,rfl⟩;walk_at "own wq";have eL:gLst (sgD ts) V=some (.ref V.length,V++[.lst (ts.map D.int)]):=by unfold gLst;rw [qdO];rfl
 ((try walk_at "own wq");repeat (simp only [eL];try walk_at "own wq"))
 refine qly (a:=none) (b:=some (-1)) rfl rfl rfl ?_;rw [cutM];walk_at "own wq";refine qly (a:=some (-1)) (b:=none) rfl rfl rfl ?_;rw [cutL];walk_at "own wq";rw [<- List.map_take,<- List.map_drop,<- List.map_append,lM1];refine ⟨qah (by simp;lia),?_⟩;generalize hz1:ts.take (ts.length-1)=z1;generalize hz2:ts++ts.drop (ts.length-1)=z2;have hl1:z1.length=m-1:=by rw [<- hz1,List.length_take];lia
 have hl2:z2.length=m+1:=by rw [<- hz2,lA1,List.length_drop];lia
 refine W.of (x:=(.ref (V.length+2),V++[Ob.lst (ts.map D.int),Ob.lst [D.tup ys,D.tup ys,D.tup ys,D.tup ys,D.ref V.length,D.tup (z1.map D.int),D.tup (z2.map D.int)]]++[.dct []])) (by unfold qe5;simp) ?_;generalize hA:[D.tup ys,D.tup ys,D.tup ys,D.tup ys,D.ref V.length,D.tup (z1.map D.int),D.tup (z2.map D.int)]=LA;generalize hB:[D.non,D.int 0,D.str (Str.ofString "0"),D.ref (V.length+2),D.tup [sgD ts],D.bl true,D.tup []]=LB;dsimp only;have hLA:LA.length=7:=by rw [<- hA];rfl
 have hLB:LB.length=7:=by rw [<- hB];rfl
 generalize hV4:V++[Ob.lst (ts.map D.int),Ob.lst LA]++[Ob.dct []]=V3;have e3:V3.length=V.length+3:=by rw [<- hV4];simp
 have g0:(V3++[Ob.lst LB])[V.length]? = some (.lst (ts.map D.int)):=by rw [<- hV4];simp
 have g1:(V3++[Ob.lst LB])[V.length+1]? = some (.lst LA):=by rw [<- hV4];simp
 have g2:(V3++[Ob.lst LB])[V.length+2]? = some (.dct []):=by rw [<- hV4];simp
 have g3:(V3++[Ob.lst LB])[V3.length]? = some (.lst LB):=by simp
 refine W.of (x:=(.ref (V3++[Ob.lst LB]).length,V3++[Ob.lst LB]++[.lst (LA++LB)])) ?_ ?_
 ·simp only [gAdd,g1,g3];rw [if_pos (by rw [hLA,hLB,sizeLine_eq];decide)]
 dsimp only;have hyund:∀ n,V.length<=n->D.unds n ys=true:=fun n hn=>qgS fun y hy=>by
  rcases hyp y hy with z | ⟨i,z⟩
  ·rw [z];exact qkO hxp hn
  ·rw [z];rfl
 have a:HS h g (c+2) U (V3++[Ob.lst LB]++[.lst (LA++LB)]):=by
  have:=s2.app (G:=[Ob.lst (ts.map D.int),Ob.lst LA,Ob.dct [],Ob.lst LB,.lst (LA++LB)]) ?_
  ·rw [<- hV4];simpa using this
  ·intro o ho;have hn:V.length+5=(V++[Ob.lst (ts.map D.int),Ob.lst LA,Ob.dct [],Ob.lst LB,Ob.lst (LA++LB)]).length:=by simp
   rw [<- hn];have uA:D.unds (V.length+5) LA=true:=by
    rw [<- hA];simp only [D.unds,D.und,hyund (V.length+5) (by lia),qay,Bool.and_true,Bool.true_and,decide_eq_true_eq];lia
   have uB:D.unds (V.length+5) LB=true:=by
    rw [<- hB];simp only [D.unds,D.und,qay,Bool.and_true,Bool.true_and,decide_eq_true_eq];lia
   simp only [List.mem_cons,List.not_mem_nil,or_false] at ho;rcases ho with rfl | rfl | rfl | rfl | rfl
   ·rw [Ob.und];exact qay _ _
   ·rw [Ob.und];exact uA
   ·rfl
   ·rw [Ob.und];exact uB
   ·rw [Ob.und,qco,uA,uB];rfl
 refine qpn a (by lia) (xs:=LA++LB) (by simp) (by rw [lA1,e3];simp;lia) (by rw [lA1,e3];simp;lia) (by simp [hLA,hLB]) (by simp [hLA];lia) fun x' U1 hx' a1 b1 l1'=>?_;refine ⟨a1,?_⟩;have k0:=b1.at (show (V3++[Ob.lst LB]++[Ob.lst (LA++LB)])[V.length]? = some (.lst (ts.map D.int)) by rw [gL1 (by rw [lA1,e3];lia)];exact g0) (by lia) (by lia);have k2:=b1.at (show (V3++[Ob.lst LB]++[Ob.lst (LA++LB)])[V.length+2]? = some (.dct []) by rw [gL1 (by rw [lA1,e3];simp)];exact g2) (by lia) (by lia);have hxp':Part U1 x:=by
  cases hxp with
  | ref n zs hn=>
   have hnl:=(gE1.mp hn).1;have hnU:U.length<=n:=by
    rcases hxu with z | z
    ·cases z
    ·rw [D.und] at z;simpa using z
   refine .ref n zs (b1.at ?_ (by lia) (by lia));rw [gL1 (by rw [lA1,e3];lia),gL1 (by rw [e3];lia),<- hV4,gL1 (by rw [lA1];lia),gL1 hnl];exact hn
  | int i=>exact .int i
  | non=>exact .non
  | bl b=>exact .bl b
  | str s=>exact .str s
  | one=>exact .one
  | many zs=>exact .many zs
 have row:Bad m U.length U1 (.tup ys):=.row ys (fun y hy=>by
  rcases hyp y hy with z | ⟨i,z⟩
  ·rw [z];exact hxp'
  ·rw [z];exact .int i) (by lia) (by
   have:ys.all whD=false:=by
    rw [List.all_eq_false];exact ⟨x,hyw,by rw [hxw];decide⟩
   rw [this,Bool.and_false]) hyu
 rw [<- hA,<- hB] at hx';simp only [List.cons_append,List.nil_append,List.mem_cons,List.not_mem_nil,or_false] at hx';rcases hx' with rfl | rfl | rfl | rfl | rfl | rfl | rfl | rfl | rfl | rfl | rfl | rfl | rfl | rfl
 ·exact row
 ·exact row
 ·exact row
 ·exact row
 ·exact .ref _ (by lia) (by rw [isTy,k0];rfl)
 ·exact qgM z1 (by lia) (by lia)
 ·exact qgM z2 (by lia) (by lia)
 ·exact .one _ rfl fun _=>rfl
 ·exact .one _ rfl fun _=>rfl
 ·exact .one _ rfl fun _=>rfl
 ·exact .ref _ (by lia) (by rw [isTy,k2];rfl)
 ·refine .row _ (fun y hy=>?_) (by simp) ?_ (.inl (by rw [D.unds,qcs];rfl))
  ·rw [List.mem_singleton.mp hy];exact .many ts
  ·rw [Bool.and_eq_false_iff];exact .inr rfl
 ·exact .one _ rfl fun _=>rfl
 ·exact qgM [] (by simp) (by simp;lia)
theorem qpr {b:Bool}{S:Sto}:gNe (.bl b) (.bl b) S=some (.bl false,S):=by cases b<;>rfl
theorem qrK {b:Bool}{S:Sto}:isTy S .bool (.bl b)=some true:=rfl
noncomputable abbrev evL (N:D)(x2 x3 x4 x5 x6 x7:Option D):Ev:=[some N,some (.ref 2),x2,x3,x4,x5,x6,x7]
theorem qpk {c:Nat}{w:qad}{sg:List Int}{B S:Sto}{N:D}{x2 x5 x6 x7:Option D}(wo:WebO w)(hsg:sg.length=w.length)(s:HS 2 0 c B S)(hc:c<=2^37):
  W (qgp (evL N x2 (some (webD w)) (some (sgD sg)) x5 x6 x7) S) fun p=>p.1 = .nx/\HS 2 0 (c+50) B p.2.2 /\ ∃ z6 z7,p.2.1=evL N x2 (some (webD w)) (some (sgD sg)) x5 z6 z7:=by
 have hpos:=wo.pos;have hfew:=wo.few;have hwj:=wo.j;have h1:=s.hl;have h2:=s.gl;have h3:=s.len;unfold qgp;refine seqW (fun r V=>∃ ts:List Int,ts.length=w.length/\(∀ t∈ts,t.natAbs.log2<1920)/\HS 2 0 (c+40) B V/\r=evL N x2 (some (webD w)) (some (sgD sg)) x5 (some (sgD ts)) x7) ?_ ?_
 ·walk_at "own wq";refine qox hwj hpos hfew hsg s (by lia) fun k zs U' hz hk hkU a b=>?_;walk_at "own wq";refine qlp hfew hz a (by lia) hkU (by lia) (by lia) fun ts U2 ht hb a2 b2 l2=>?_;exact ⟨ts,ht,hb,a2,rfl⟩
 rintro r V ⟨ts,ht,hb,s1,rfl⟩;refine seqW (fun r V'=>V'=V/\r=evL N x2 (some (webD w)) (some (sgD sg)) x5 (some (sgD ts)) (some (.bl (tf (Fit w.length w sg ts))))) ?_ ?_
 ·walk_at "own wq";refine qjn hwj hfew hsg ht ?_;walk_at "own wq"
  try exact ⟨rfl,trivial⟩
 rintro r V' ⟨rfl,rfl⟩;refine seqW (fun r V=>V=V'/\r=evL N x2 (some (webD w)) (some (sgD sg)) x5 (some (sgD ts)) (some (.bl (tf (Fit w.length w sg ts))))) ?_ ?_
 ·((try walk_at "own wq");repeat (simp only [mIsT,qrK];try walk_at "own wq"))
  refine qnC hwj hfew hsg ht ?_;rw [qpr,qat];walk_at "own wq"
  try exact ⟨rfl,trivial⟩
 rintro r V ⟨rfl,rfl⟩;have l1:=s1.len;refine seqW (fun r V=>HS 2 0 (c+43) B V/\r=evL N x2 (some (webD w)) (some (sgD sg)) x5 (some (sgD ts)) (some (.bl (tf (Fit w.length w sg ts))))) ?_ ?_
 ·walk_at "own wq";refine qrt hpos hfew ht hb s1 (by lia) fun d U' bd a b=>?_;walk_at "own wq";refine qr8 hwj a.shut bd ?_;refine W.of (x:=(.bl false,U')) rfl ?_;walk_at "own wq"
  first | exact ⟨a,rfl⟩ | exact ⟨a,trivial⟩
 rintro r V2 ⟨s2,rfl⟩;walk_at "own wq";refine qjn hwj hfew hsg ht ?_;rw [qpr,qat];walk_at "own wq";exact ⟨s2.more (by lia),_,_,rfl⟩
theorem qol {c:Nat}{B S:Sto}{N:D}{x2 x3 x4 x5 x6 x7:Option D}(s:HS 2 0 c B S)(hc:c<=2^36):
  W (qgo (evL N x2 x3 x4 x5 x6 x7) S) fun p=>p.1 = .nx/\HS 2 0 (c+2200) B p.2.2 /\ ∃ z3 z4 z5 z6 z7,p.2.1=evL N x2 z3 z4 z5 z6 z7:=by
 unfold qgo;refine seqW (fun r V=>∃ w sg,WebO w/\sg.length=w.length/\HS 2 0 (c+2000) B V/\r=evL N x2 (some (webD w)) (some (sgD sg)) x5 x6 x7) ?_ ?_
 ·walk_at "own wq";refine qmD s (by lia) fun w sg U' wo hsg a b l=>?_;walk_at "own wq";exact ⟨w,sg,wo,hsg,a,rfl⟩
 rintro r V ⟨w,sg,wo,hsg,a,rfl⟩;walk_at "own wq";refine ⟨qbd (n:=3) (by lia),?_⟩;refine qaS (fun i r V=>i<=3/\HS 2 0 (c+2000+50*i) B V /\ ∃ x5 x6 x7,r=evL N x2 (some (webD w)) (some (sgD sg)) x5 x6 x7) _ 0 _ _ ⟨by lia,a,_,_,_,rfl⟩ (fun _ _ _ _=>rfl) ?_ ?_
 ·rintro i d hd r V ⟨hi,hs,x5,x6,x7,rfl⟩;have hlt:=(gE1.mp hd).1;rw [qaz] at hlt;have hlt:i<3:=hlt;rw [Nat.zero_add] at *
  walk_at "own wq";refine (qpk wo hsg hs (by lia)).mono fun p hp=>?_;obtain ⟨h1,h2,z6,z7,h3⟩:=hp;exact ⟨h1,by lia,h2.more (by lia),_,_,_,h3⟩
 ·rintro r V ⟨hi,hs,x5,x6,x7,rfl⟩;exact ⟨rfl,hs.more (by rw [Nat.zero_add] at *;lia),_,_,_,_,_,rfl⟩
theorem truth (ns:List Int)(hl:ns.length<=63):∃ S,m_law [.rol (ns.map D.int)] []=some (.bl true,S):=by
 have key:W (m_law [.rol (ns.map D.int)] []) fun p=>p.1 = .bl true:=by
  unfold m_law;refine fnW ?_;unfold qn4;have hst:=qmx ns hl;generalize hN:D.rol (ns.map D.int)=N at *
  have hlen:∀ S,gLen N S=some (.int ns.length,S):=fun S=>by rw [<- hN];simp [gLen,qao]
  refine seqW (fun r S=>HS 2 0 0 S S/\r=evL N none none none none none none) ?_ ?_
  ·walk_at "own wq";refine hst.mono fun p hp=>?_;rw [hp.1];exact ⟨hp.2,rfl⟩
  rintro r B ⟨sB,rfl⟩;refine seqW (fun r S=>∃ y2 y3 y4 y5 y6 y7,r=evL N y2 y3 y4 y5 y6 y7) ?_ ?_
  ·((try walk_at "own wq");repeat (simp only [hlen,gMin];try walk_at "own wq"))
   have hb:∃ t:Nat,t<=30/\((6:Int)+(if (24:Int)<(ns.length:Int) then 24 else (ns.length:Int)))=(t:Int):=by
    by_cases h1:(24:Int)<(ns.length:Int)
    ·rw [if_pos h1];exact ⟨30,by lia,by decide⟩
    ·rw [if_neg h1];exact ⟨6+ns.length,by lia,by push_cast;rfl⟩
   obtain ⟨t,t1,te⟩:=hb;rw [te,Int.toNat_natCast];refine ⟨qbd (by lia),?_⟩;refine qaS (fun i r S=>i<=t/\HS 2 0 (2200*i) B S /\ ∃ y2 y3 y4 y5 y6 y7,r=evL N y2 y3 y4 y5 y6 y7) _ 0 _ _ ⟨by lia,sB,_,_,_,_,_,_,rfl⟩ (fun _ _ _ _=>rfl) ?_ ?_
   ·rintro i d hd r S ⟨hi,hs,y2,y3,y4,y5,y6,y7,rfl⟩;have hlt:=(gE1.mp hd).1;rw [qaz] at hlt;rw [Nat.zero_add] at *
    walk_at "own wq";refine (qol hs (by lia)).mono fun p hp=>?_;obtain ⟨h1,h2,z3,z4,z5,z6,z7,h3⟩:=hp;exact ⟨h1,by lia,h2.more (by lia),_,_,_,_,_,_,h3⟩
   ·rintro r S ⟨_,_,y2,y3,y4,y5,y6,y7,rfl⟩;exact ⟨rfl,_,_,_,_,_,_,rfl⟩
  ·rintro r S ⟨y2,y3,y4,y5,y6,y7,rfl⟩;walk_at "own wq"
 obtain ⟨⟨d,S⟩,e,h⟩:=key;dsimp only at h;exact ⟨S,by rw [e,h]⟩
end Law
end
open PySem PySem.W PyProof.Rows
noncomputable def PySem.W.Fast.tw12815931513658247562:=()
noncomputable def PySem.W.Fast.tw10611582497333966497:=()
noncomputable def PySem.W.Fast.tw13110118623663221141:=()
noncomputable def PySem.W.Fast.tw995204450143831462:=()
noncomputable def PySem.W.Fast.tw7315399481078357761:=()
noncomputable def PySem.W.Fast.tw15007230820335065382:=()
noncomputable def PySem.W.Fast.tw1541436836887566366:=()
noncomputable def PySem.W.Fast.tw1391294499470949671:=()
noncomputable def PySem.W.Fast.tw342806654012062660:=()
noncomputable def PySem.W.Fast.tw6832293191185848257:=()
noncomputable def PySem.W.Fast.tw15257726297098041674:=()
noncomputable def PySem.W.Fast.tw1200106988395171813:=()
noncomputable def PySem.W.Fast.tw2402233469331161795:=()
noncomputable def PySem.W.Fast.tw17880600265559588998:=()
noncomputable def PySem.W.Fast.tw10702220804385735697:=()
noncomputable def PySem.W.Fast.tw14246344508774744604:=()
noncomputable def PySem.W.Fast.tw11942845689427500160:=()
noncomputable def PySem.W.Fast.tw9860433401710297985:=()
noncomputable def PySem.W.Fast.tw9537521583340388428:=()
noncomputable def PySem.W.Fast.tw4452565705772231676:=()
noncomputable def PySem.W.Fast.tw16193121204540004212:=()
noncomputable def PySem.W.Fast.tw8042299826885513895:=()
noncomputable def PySem.W.Fast.tw8660148856691456128:=()
noncomputable def PySem.W.Fast.tw15183010185900680940:=()
noncomputable def PySem.W.Fast.tw15244440090901996528:=()
noncomputable def PySem.W.Fast.tw15344168726518459239:=()
noncomputable def PySem.W.Fast.tw17625301243231873935:=()
noncomputable def PySem.W.Fast.tw12566919553272516114:=()
noncomputable def PySem.W.Fast.tw6231069568847863810:=()
noncomputable def PySem.W.Fast.tw16820346805794470882:=()
noncomputable def PySem.W.Fast.tw5919498426590362551:=()
noncomputable def PySem.W.Fast.tw17033327246182668080:=()
noncomputable def PySem.W.Fast.tw711278049114838566:=()
noncomputable def PySem.W.Fast.tw9020578867553817660:=()
noncomputable def PySem.W.Fast.tw6438537714393956249:=()
noncomputable def PySem.W.Fast.tw3388507781454602092:=()
noncomputable def PySem.W.Fast.tw11592761386731756537:=()
noncomputable def PySem.W.Fast.tw17536830652488974186:=()
noncomputable def PySem.W.Fast.tw17396546140493044979:=()
noncomputable def PySem.W.Fast.tw12683719961661741440:=()
noncomputable def PySem.W.Fast.tw3731196536160666954:=()
noncomputable def PySem.W.Fast.tw451447921127181560:=()
noncomputable def PySem.W.Fast.tw11487984938594379903:=()
noncomputable def PySem.W.Fast.tw167371956735940741:=()
set_option maxRecDepth 100000 in
set_option maxHeartbeats 0 in
theorem PySem.Challenge.cw_ringmeet_k11_what_is_a_colouring_holds : PySem.Challenge.rw_ringmeet_k11_what_is_a_colouring.Holds := by
 w_on;refine PySem.W.holds_law (by decide+kernel) fun said=>?_;k_head;(case hw=>w_witness2)
 k_fill
 refine Mi.walk_m (l:=PySem.Challenge.rw_ringmeet_k11_what_is_a_colouring) (m:=Law.m_law) (k:=6) (x:="_law_script") rfl rfl ⟨rfl,by decide,by decide,rfl⟩ (fun w h Y=>PySem.W.kIn_of Y) Law.truth ?F
 case F=>
  intro w mg fa h KX G hmg;refine' Law.all_mk KX G hmg ?a1 ?a2 ?a3 ?a4 ?a5 ?a6 ?a7 ?a8 ?a9 ?a10 ?a11 ?a12 ?a13 ?a14 ?a15 ?a16 ?a17 ?a18 ?a19 ?a20 ?a21 ?z_abs ?z_all ?z_bool ?z_enumerate ?z_int ?z_isinstance ?z_len ?z_list ?z_min ?z_range ?z_set ?z_sorted ?z_str ?z_tuple ?z_zip
  all_goals try (refine' Mi.qrW ?a ?l ?c ?k;(case a=>k_is);(case l=>k_is);(case c=>k_is);(case k=>k_is))
  all_goals k_is

