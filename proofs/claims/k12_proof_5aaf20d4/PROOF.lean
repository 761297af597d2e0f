import PyProof.Rows.All
import Wide.All
import OpenK.AllK
import Wide.FinOn
import Lean
import PyProof.EqAt
import PyProof.EqKinds
import PyProof.TupleCall
import PySem.Challenge.RW_ringmeet_k12_whole_parted_or_alike
set_option Elab.async false
set_option compiler.extract_closed false
set_option linter.all false
set_option maxRecDepth 100000
set_option maxHeartbeats 4000000
open List renaming getElem?_eq_some_iff → gE1, getElem?_append_left → gL1, getElem?_eq_getElem → gG1, mem_of_getElem? → gM1, getElem?_set_ne → gS1, length_append → lA1, length_map → lM1, getElem?_cons_succ → gC1, mem_cons_of_mem → mC1, mem_cons_self → mS1, getElem?_map → gP1, getElem?_append_right → gR1, size_toArray → sT1, map_cons → mP1, length_cons → lC1, length_replicate → lR1, mem_append_right → mA1
open Option renaming bind_eq_some_iff → oB1, map_eq_some_iff → oM1, bind_some → oS1, map_some → oP1
open Nat renaming le_refl → nR1, lt_of_lt_of_le → nL1, ne_of_lt → nN1, ne_of_gt → nG1
open Bool renaming and_eq_true → bA1, false_eq_true → bF1
open Array renaming getElem?_eq_getElem → aG1, getElem?_toList → aT1
open PySem.W renaming Frag → Fg1, nsIn → wN1, keepIn → wK1, codeIn → wC1, fnOf → wF1, mg_of → wM1
open PySem.Heap renaming get?_push_of_some → hP1, lt_size → hL1, size_push → hZ1, get?_update_ne → hU1, get?_update_self → hW1
open PySem renaming wpAny_bind → wB1, wpAny_pure → wP1, wpAny_setField_rec → wS1, wpAny_newObj_type → wO1, codeAny_builtin → wD1, wpAny_call_entry → wE1
section
namespace L2
open PySem PySem.Spec PyProof.Rows
noncomputable abbrev Key:=Sum Int Str
noncomputable def qiD:Key->Value->Bool
 | .inl k,v=>Value.isInt k v
 | .inr x,v=>Value.isStrOf x v
noncomputable def keyH (w:World):Key->Int
 | .inl k=>hashInt k
 | .inr x=>hashStr w x
theorem qaJ:∀ {k:Key} {v:Value},qiD k v=true->(∃ i t,k=Sum.inl i/\v=Value.int i t)\/(∃ x t,k=Sum.inr x/\v=Value.str x t)
 | .inl i,v,h=>by
  obtain ⟨t,e⟩:=Value.isInt_shape (k:=i) (v:=v) h;exact .inl ⟨i,t,rfl,e⟩
 | .inr x,v,h=>by
  obtain ⟨t,e⟩:=Value.isStrOf_shape (x:=x) (v:=v) h;exact .inr ⟨x,t,rfl,e⟩
theorem qka (i:Int)(t:Tok):qiD (.inl i) (.int i t)=true:=by simp [qiD,Value.isInt]
theorem qj9 (x:Str)(t:Tok):qiD (.inr x) (.str x t)=true:=by simp [qiD,Value.isStrOf]
theorem qrA (a b:Int):decide ((Sum.inl a:Key)=Sum.inl b)=(a == b):=by
 by_cases e:a=b
 ·subst e;simp
 ·have h:¬ (Sum.inl a:Key)=Sum.inl b:=fun q=>e (Sum.inl.inj q);rw [decide_eq_false h];exact (beq_eq_false_iff_ne.mpr e).symm
theorem qrx (a b:Str):decide ((Sum.inr a:Key)=Sum.inr b)=decide (a=b):=by
 by_cases e:a=b
 ·subst e;simp
 ·have h:¬ (Sum.inr a:Key)=Sum.inr b:=fun q=>e (Sum.inr.inj q);rw [decide_eq_false h,decide_eq_false e]
theorem qrz (a:Int)(b:Str):decide ((Sum.inl a:Key)=Sum.inr b)=false:=decide_eq_false (fun q=>nomatch q)
theorem qry (a:Str)(b:Int):decide ((Sum.inr a:Key)=Sum.inl b)=false:=decide_eq_false (fun q=>nomatch q)
noncomputable def qa3 (prog:Program)(w:World):PySem.KeyKind prog w Key where
 is:=qiD
 hash:=keyH w
 inj:=fun v a b ha hb=>by
  rcases qaJ ha with ⟨i,t,rfl,rfl⟩ | ⟨x,t,rfl,rfl⟩
  ·rcases qaJ hb with ⟨j,u,rfl,e⟩ | ⟨y,u,rfl,e⟩
   ·injection e with e1 _;rw [e1]
   ·exact nomatch e
  ·rcases qaJ hb with ⟨j,u,rfl,e⟩ | ⟨y,u,rfl,e⟩
   ·exact nomatch e
   ·injection e with e1 _;rw [e1]
 byValue:=fun k v h=>by
  rcases qaJ h with ⟨i,t,rfl,rfl⟩ | ⟨x,t,rfl,rfl⟩<;>rfl
 pyHash:=fun hv h=>by
  rcases qaJ hv with ⟨i,t,rfl,rfl⟩ | ⟨x,t,rfl,rfl⟩
  ·exact wpAny_pyHash_int h
  ·exact wpAny_pyHash_str h
 eqBool:=fun hu hv h=>by
  rcases qaJ hu with ⟨i,t,rfl,rfl⟩ | ⟨x,t,rfl,rfl⟩
  ·rcases qaJ hv with ⟨j,u,rfl,rfl⟩ | ⟨y,u,rfl,rfl⟩
   ·rw [qrA] at h;exact wpAny_eqBool_int h
   ·rw [qrz] at h;exact SeqAt.EqAt.int_str i t y u _ _ _ _ h
  ·rcases qaJ hv with ⟨j,u,rfl,rfl⟩ | ⟨y,u,rfl,rfl⟩
   ·rw [qry] at h;exact SeqAt.EqAt.str_int x t j u _ _ _ _ h
   ·rw [qrx] at h;exact wpAny_eqBool_str h
 «strs» :=fun k x t v h=>by
  rcases qaJ h with ⟨i,u,rfl,e⟩ | ⟨y,u,rfl,e⟩
  ·exact nomatch e
  ·injection e with e1 _;subst e1;cases v<;>rfl
theorem qg0 (prog:Program)(w:World)(i:Int)(t:Tok):(qa3 prog w).is (.inl i) (.int i t)=true:=qka i t
theorem qgZ (prog:Program)(w:World)(x:Str)(t:Tok):(qa3 prog w).is (.inr x) (.str x t)=true:=qj9 x t
end L2
namespace L2
open PySem PySem.Spec PyProof.Rows
inductive V where
 | non | bl (b:Bool) | int (i:Int) | str (x:Str) | byt (b:Array UInt8) | flt (b:UInt64) | ref (a:Addr) | ty (n:String)
 deriving DecidableEq
noncomputable def RelV:V->Value->Prop
 | .non,u=>u=Value.none
 | .bl b,u=>u=Value.bool b
 | .int i,u=>∃ t,u=Value.int i t
 | .str x,u=>∃ t,u=Value.str x t
 | .byt b,u=>∃ t,u=Value.bytes b t
 | .flt b,u=>∃ t,u=Value.float b t
 | .ref a,u=>u=Value.ref a
 | .ty n,u=>u=Value.type n
noncomputable abbrev Vals:List V->List Value->Prop:=Paired RelV
theorem Vals.length {xs:List V}{a:List Value}(r:Vals xs a):xs.length=a.length:=Paired.length r
theorem Vals.get:∀ {xs:List V} {a:List Value} {i:Nat} {x:V},Vals xs a->xs[i]? = some x -> ∃ u,a[i]? = some u/\RelV x u:=by
 intro xs a i x h e
 induction h generalizing i with
 | nil=>cases e
 | cons r t ih=>cases i with
  | zero=>cases e;exact ⟨_,rfl,r⟩
  | succ i=>exact ih (i:=i) e
theorem Vals.set {x:V}{u:Value}(r:RelV x u):∀ {xs:List V} {a:List Value} (i:Nat),Vals xs a->Vals (xs.set i x) (a.set i u):=by
 intro xs a i h
 induction h generalizing i with
 | nil=>exact .nil
 | cons q t ih=>cases i with
  | zero=>exact .cons r t
  | succ i=>exact .cons q (ih i)
theorem Vals.append:∀ {xs ys:List V} {a ws:List Value},Vals xs a->Vals ys ws->Vals (xs++ys) (a++ws):=by
 intro xs ys a ws h s
 induction h with
 | nil=>exact s
 | cons r t ih=>exact .cons r ih
theorem Vals.take:∀ {xs:List V} {a:List Value} (n:Nat),Vals xs a->Vals (xs.take n) (a.take n):=by
 intro xs a n h
 induction h generalizing n with
 | nil=>rw [List.take_nil,List.take_nil];exact .nil
 | cons r t ih=>cases n with
  | zero=>exact .nil
  | succ n=>exact .cons r (ih n)
theorem Vals.drop:∀ {xs:List V} {a:List Value} (n:Nat),Vals xs a->Vals (xs.drop n) (a.drop n):=by
 intro xs a n h
 induction h generalizing n with
 | nil=>rw [List.drop_nil,List.drop_nil];exact .nil
 | cons r t ih=>cases n with
  | zero=>exact .cons r t
  | succ n=>exact ih n
noncomputable def RelO:Option V->Option Value->Prop
 | some v,some u=>RelV v u
 | none,none=>True
 | _,_=>False
noncomputable def KV {κ:Type}:List (κ×V)->List (κ×Value)->Prop:=Paired fun (p:κ×V) (q:κ×Value)=>p.1=q.1/\RelV p.2 q.2
noncomputable def kV:Key->V
 | .inl i=>.int i
 | .inr x=>.str x
inductive HO where
 /-- a list -/
 | lst (xs:List V)
 /-- a tuple (never changes) -/
 | tup (xs:List V)
 /-- a dict whose keys are ints and texts; one whose keys are tuples of ints and texts (the empty one is both) -/
 | dK (kvs:List (Key×V)) | dT (kvs:List (List Key×V))
 /-- a set of ints: its members, its size -/
 | set (S:Int->Bool) (n:Nat)
 /-- an instance of the class at C, its dict at dx, its attributes -/
 | ins (C dx:Addr) (fs:List (Str×V))
 /-- the dict of the instance at x -/
 | own (x:Addr)
 /-- the dict of an exception -/
 | xd (fs:List (Str×V))
 /-- a bound method, f of x -/
 | met (f x:Addr)
 /-- a range object lo, lo + 1, .. below hi -/
 | rng (lo hi:Int)
 /-- a thing that is known to the object (the script; a dict while a loop walks it): read, never written while it is so -/
 | frz (o:Obj) (u:HO)
 /-- a code object's table -/
 | tbl (ps:Array Value)
 /-- any other thing, by what is true of its one object (a def of one's own: SetO a S n := HO.ext fun h => ..) -/
 | ext (φ:Heap->Prop)
noncomputable abbrev Hp:=Addr->Option HO
noncomputable def upd (H:Hp)(a:Addr)(o:HO):Hp:=fun b=>if b=a then some o else H b
theorem qas {H:Hp}{a:Addr}{o:HO}:upd H a o a=some o:=by unfold upd;rw [if_pos rfl]
theorem qaq {H:Hp}{a b:Addr}{o:HO}(h:b≠a):upd H a o b=H b:=by unfold upd;rw [if_neg h]
theorem qsV {H:Hp}{a b:Addr}{o u:HO}(h:H a=some o)(h':H b=some u)(d:o≠u):a≠b:=by
 intro e;subst e;rw [h] at h';exact d (Option.some.inj h')
theorem qat {H:Hp}{a b:Addr}{o:HO}(h:H a=some o)(h':H b=none):a≠b:=by
 intro e;subst e;rw [h] at h';cases h'
section
variable (P:Program) (w:World)
noncomputable def qaL (H:Hp)(h:Heap)(a:Addr):HO->Prop
 | .lst xs=>xs.length<=sizeLine /\ ∃ (its:List Value) (n:Nat),Vals xs its/\h.get? a=some {cls:=.type "list",data:=.seq its.toArray n}
 | .tup xs=>xs.length<=sizeLine /\ ∃ its:List Value,Vals xs its/\IsTup h a its.toArray
 | .dK kvs=>kvs.length<=sizeLine/\(a == sysModules)=false /\ ∃ vs,KV kvs vs/\h.DictOf (qa3 P w) a vs
 | .dT kvs=>kvs.length<=sizeLine/\(a == sysModules)=false /\ ∃ xs:List (List Key×Addr×Value),
   Paired (fun (p:List Key×V) (q:List Key×Addr×Value)=>p.1=q.1/\H q.2.1=some (.tup (p.1.map kV))/\RelV p.2 q.2.2) kvs xs /\
   ∃ o es ep,h.get? a=some o/\o.ExactDict/\o.data = .dict es ep/\es.toList=xs.map (entryOfKey (tupleKind (qa3 P w)))/\(xs.map (·.1)).Nodup
 | .set S n=>h.SetOf (intKind P w) a S n
 | .ins C dx fs=>H dx=some (.own a)/\fs.length<=1000/\dx≠a/\h.get? a=some (PySem.W.instObj C dx) /\
   ∃ mA,h.Ns1 dx mA/\(∀ f,RelO (fs.lookup f) (mA f))/\PySem.Within mA (fs.map (·.1))
 | .own _=>∃ o,h.get? a=some o
 | .xd fs=>∃ mA,h.Ns1 a mA /\ ∀ f,RelO (fs.lookup f) (mA f)
 | .rng lo hi=>∃ t u v,h.get? a=some {cls:=.type "range",data:=.fields #[.int lo t,.int hi u,.int 1 v]}
 | .frz o u=>h.get? a=some o/\qaL H h a u
 | .tbl ps=>h.get? a=some {cls:=.none,data:=.fields ps}
 | .met f x=>h.get? a=some (PySem.W.methodObj (.ref f) (.ref x))
 | .ext φ=>φ h/\(∃ o,h.get? a=some o) /\ ∀ h1 h2:Heap,φ h1->(∀ o,h1.get? a=some o->h2.get? a=some o)->φ h2
noncomputable def HOk (H:Hp)(h:Heap):Prop:=∀ a o,H a=some o->qaL P w H h a o
end
section
variable {P:Program} {w:World} {H H':Hp} {h h':Heap} {a:Addr} {o:HO}
theorem qaL.lt (x:qaL P w H h a o):a<h.objs.size:=by
 cases o with
 | lst xs=>obtain ⟨_,_,_,_,e⟩:=x;exact hL1 e
 | tup xs=>obtain ⟨_,_,_,p⟩:=x;exact p.lt
 | dK kvs=>obtain ⟨_,_,_,_,o,_,_,e,_⟩:=x;exact hL1 e
 | dT kvs=>obtain ⟨_,_,_,_,o,_,_,e,_⟩:=x;exact hL1 e
 | set S n=>obtain ⟨o,_,_,_,e,_⟩:=x;exact hL1 e
 | ins C dx fs=>obtain ⟨_,_,_,e,_⟩:=x;exact hL1 e
 | own y=>obtain ⟨_,e⟩:=x;exact hL1 e
 | xd fs=>obtain ⟨_,⟨_,_,_,e,_⟩,_⟩:=x;exact hL1 e
 | rng lo hi=>obtain ⟨_,_,_,e⟩:=x;exact hL1 e
 | frz b u=>obtain ⟨e,_⟩:=x;exact hL1 e
 | tbl ps=>exact hL1 (show h.get? a=some _ from x)
 | met f y=>exact hL1 (show h.get? a=some _ from x)
 | ext φ=>obtain ⟨_,⟨_,e⟩,_⟩:=x;exact hL1 e
theorem Paired.mapP {α β:Type}{F G:α->β->Prop}:∀ {c:List α} {l₂:List β},Paired F c l₂->(∀ a b,F a b->G a b)->Paired G c l₂:=by
 intro a b h f
 induction h with
 | nil=>exact .nil
 | cons r t ih=>exact .cons (f _ _ r) ih
theorem qaL.stay (x:qaL P w H h a o)(k:∀ b u,(b=a\/H b=some (.own a))->h.get? b=some u->h'.get? b=some u)
  (ho:∀ b,H b=some (.own a)->H' b=some (.own a)) (ht:∀ b xs,H b=some (.tup xs)->H' b=some (.tup xs)):qaL P w H' h' a o:=by
 induction o with
 | lst xs=>obtain ⟨z,i,n,r,e⟩:=x;exact ⟨z,i,n,r,k _ _ (.inl rfl) e⟩
 | tup xs=>obtain ⟨z,i,r,g,e,c⟩:=x;exact ⟨z,i,r,g,k _ _ (.inl rfl) e,c⟩
 | dK kvs=>obtain ⟨z,y,vs,r,g,es,ep,e,c⟩:=x;exact ⟨z,y,vs,r,g,es,ep,k _ _ (.inl rfl) e,c⟩
 | dT kvs=>
  obtain ⟨z,y,xs,r,g,es,ep,e,c⟩:=x;exact ⟨z,y,xs,Paired.mapP r fun p q z=>⟨z.1,ht _ _ z.2.1,z.2.2⟩,g,es,ep,k _ _ (.inl rfl) e,c⟩
 | set S n=>obtain ⟨g,es,ep,t,e,c⟩:=x;exact ⟨g,es,ep,t,k _ _ (.inl rfl) e,c⟩
 | ins C dx fs=>
  obtain ⟨d,z,ne,e,mA,⟨j,es,ep,l,c⟩,r⟩:=x;exact ⟨ho _ d,z,ne,k _ _ (.inl rfl) e,mA,⟨j,es,ep,k _ _ (.inr d) l,c⟩,r⟩
 | own y=>obtain ⟨g,e⟩:=x;exact ⟨g,k _ _ (.inl rfl) e⟩
 | xd fs=>obtain ⟨mA,⟨j,es,ep,e,c⟩,r⟩:=x;exact ⟨mA,⟨j,es,ep,k _ _ (.inl rfl) e,c⟩,r⟩
 | rng lo hi=>obtain ⟨t,u,v,e⟩:=x;exact ⟨t,u,v,k _ _ (.inl rfl) e⟩
 | frz g u ih=>obtain ⟨e,q⟩:=x;exact ⟨k _ _ (.inl rfl) e,ih q⟩
 | tbl ps=>
  have e:h.get? a=some {cls:=.none,data:=.fields ps}:=x;show h'.get? a=some {cls:=.none,data:=.fields ps};exact k a _ (.inl rfl) e
 | met f y=>
  have e:h.get? a=some (PySem.W.methodObj (.ref f) (.ref y)):=x;show h'.get? a=some (PySem.W.methodObj (.ref f) (.ref y));exact k a _ (.inl rfl) e
 | ext φ=>obtain ⟨p,⟨o,e⟩,st⟩:=x;exact ⟨st _ _ p fun o q=>k _ _ (.inl rfl) q,⟨o,k _ _ (.inl rfl) e⟩,st⟩
theorem HOk.lt (x:HOk P w H h)(e:H a=some o):a<h.objs.size:=(x a o e).lt
theorem HOk.fresh (x:HOk P w H h)(e:h.objs.size<=a):H a=none:=by
 cases q:H a with
 | none=>rfl
 | some u=>exact absurd (nL1 (x.lt q) e) (Nat.lt_irrefl _)
theorem HOk.kept (x:HOk P w H h)(k:∀ b u,h.get? b=some u->h'.get? b=some u):HOk P w H h':=fun a o e=>
 (x a o e).stay (fun b u _ q=>k b u q) (fun _ q=>q) fun _ _ q=>q
theorem HOk.laid (x:HOk P w H h)(k:∀ b u,h.get? b=some u->h'.get? b=some u)(hp:h.objs.size<=a)(new:qaL P w (upd H a o) h' a o):HOk P w (upd H a o) h':=fun b u e=>by
 have d:=x.fresh hp;by_cases f:b=a
 ·subst f;rw [qas] at e;cases e;exact new
 ·rw [qaq f] at e;exact (x b u e).stay (fun c v _ q=>k c v q) (fun c q=>by rw [qaq (qat q d)];exact q) fun c xs q=>by rw [qaq (qat q d)];exact q
end
noncomputable def Rd (H:Hp)(a:Addr)(u:HO):Prop:=H a=some u \/ ∃ o,H a=some (.frz o u)
theorem Rd.of {H:Hp}{a:Addr}{u:HO}(h:H a=some u):Rd H a u:=.inl h
theorem Rd.ok {P:Program}{w:World}{H:Hp}{h:Heap}{a:Addr}{u:HO}(r:Rd H a u)(x:HOk P w H h):qaL P w H h a u:=by
 rcases r with r | ⟨o,r⟩
 ·exact x a u r
 ·obtain ⟨_,q⟩:=x a _ r;exact q
noncomputable def Mut:Option HO->Prop
 | some (.lst _)=>True
 | some (.dK _)=>True
 | some (.dT _)=>True
 | some (.set _ _)=>True
 | some (.ins _ _ _)=>True
 | some (.ext _)=>True
 | _=>False
section
variable {P:Program} {w:World} {H:Hp} {h h':Heap} {x e:Addr} {o':HO}
theorem HOk.write (ok:HOk P w H h)(mu:Mut (H x))(he:e=x\/H e=some (.own x))(k:∀ b u,b≠e->h.get? b=some u->h'.get? b=some u)(i:∃ u,h'.get? e=some u)
  (new:qaL P w (upd H x o') h' x o'):HOk P w (upd H x o') h':=fun b u q=>by
 have d:∀ c y,H c=some (.own y)->c≠x:=fun c y r z=>by subst z;rw [r] at mu;exact mu
 have f:∀ c xs,H c=some (.tup xs)->c≠x:=fun c xs r z=>by subst z;rw [r] at mu;exact mu
 by_cases g:b=x
 ·subst g;rw [qas] at q;cases q;exact new
 ·rw [qaq g] at q;by_cases a:b=e
  ·have j:H b=some (.own x):=by
    rcases he with z | z
    ·exact absurd (a.trans z) g
    ·rw [a];exact z
   rw [q] at j;cases j;obtain ⟨v,l⟩:=i;exact ⟨v,by rw [a];exact l⟩
  ·refine (ok b u q).stay (fun c v hc r=>k c v ?_ r) (fun c r=>by rw [qaq (d c b r)];exact r) fun c xs r=>by rw [qaq (f c xs r)];exact r
   rcases hc with rfl | hc
   ·exact a
   ·rintro rfl;rcases he with z | z
    ·exact d c b hc z
    ·rw [hc] at z;cases z;exact g rfl
end
structure Un (fs ex:List Addr)(H H':Hp)(h h':Heap):Prop where
 keep:∀ b o,h.get? b=some o->H b=none->b∉fs->b∉ex->h'.get? b=some o
 slot:∀ b o,h.get? b=some o->H b=none->b∈fs->b∉ex -> ∃ sl,h'.get? b=some {o with slots:=sl}
 free:∀ b o,h.get? b=some o->H b=none->b∉ex->H' b=none
 there:∀ b o,h.get? b=some o->b∉ex -> ∃ o',h'.get? b=some o'
 tups:∀ b xs,H b=some (.tup xs)->H' b=some (.tup xs)
 frzs:∀ b o u,H b=some (.frz o u)->H' b=some (.frz o u)
 tbls:∀ b ps,H b=some (.tbl ps) -> ∃ more,H' b=some (.tbl (ps++more))
section
variable {fs fs' ex ex':List Addr} {H H1 H2:Hp} {h h1 h2 h':Heap} {a x e:Addr} {o:HO}
theorem Un.any (u:Un fs ex H H1 h h1){b:Addr}{ob:Obj}(q:h.get? b=some ob)(n:H b=none)(hx:b∉ex):∃ c,h1.get? b=some {ob with slots:=c}:=by
 by_cases a:b∈fs
 ·exact u.slot b ob q n a hx
 ·exact ⟨ob.slots,u.keep b ob q n a hx⟩
theorem Un.kept (k:∀ b u,h.get? b=some u->h'.get? b=some u):Un fs ex H H h h':=
 ⟨fun b a q _ _ _=>k b a q,fun b a q _ _ _=>⟨a.slots,k b a q⟩,fun _ _ _ n _=>n,fun b a q _=>⟨a,k b a q⟩,fun _ _ q=>q,fun _ _ _ q=>q,fun _ ps q=>⟨#[],by rw [q];simp⟩⟩
theorem Un.refl:Un fs ex H H h h:=Un.kept fun _ _ q=>q
theorem Un.laid (k:∀ b u,h.get? b=some u->h'.get? b=some u)(hp:h.objs.size<=a)(hn:H a=none):Un fs ex H (upd H a o) h h' where
 keep:=fun b u q _ _ _=>k b u q
 slot:=fun b u q _ _ _=>⟨u.slots,k b u q⟩
 free:=fun b u q n _=>by rw [qaq (nN1 (nL1 (hL1 q) hp))];exact n
 there:=fun b u q _=>⟨u,k b u q⟩
 tups:=fun b xs q=>by rw [qaq (qat q hn)];exact q
 frzs:=fun b u xs q=>by rw [qaq (qat q hn)];exact q
 tbls:=fun b ps q=>⟨#[],by rw [qaq (qat q hn),q];simp⟩
theorem Un.write (mu:Mut (H x))(he:e=x\/H e=some (.own x))(k:∀ b u,b≠e->h.get? b=some u->h'.get? b=some u)(c:∃ u,h'.get? e=some u):Un fs ex H (upd H x o) h h':=by
 have g:∀ b,H b=none->b≠x:=fun b n z=>by subst z;rw [n] at mu;exact mu
 have f:∀ b,H b=none->b≠e:=fun b n z=>by
  subst z;rcases he with r | r
  ·exact g b n r
  ·rw [n] at r;cases r
 have d:∀ b u,H b=some u -> ¬ Mut (some u)->b≠x:=fun b u q nm z=>by subst z;rw [q] at mu;exact nm mu
 refine ⟨fun b u q n _ _=>k b u (f b n) q,fun b u q n _ _=>⟨u.slots,k b u (f b n) q⟩,fun b u q n _=>by rw [qaq (g b n)];exact n,fun b u q _=>?_,
  fun b xs q=>by rw [qaq (d b _ q fun z=>z)];exact q,fun b u xs q=>by rw [qaq (d b _ q fun z=>z)];exact q,fun b ps q=>⟨#[],by rw [qaq (d b _ q fun z=>z),q];simp⟩⟩
 by_cases a:b=e
 ·subst a;exact c
 ·exact ⟨u,k b u a q⟩
end
noncomputable def trk (h:Heap)(H:Hp):List Addr:=(List.range h.objs.size).filter fun a=>(H a).isSome
noncomputable def hidT (h:Heap)(H:Hp):Heap:=PySem.W.hideAll h (trk h H)
theorem qkf (h:Heap)(H:Hp):(hidT h H).objs.size=h.objs.size:=PySem.W.hideAll_size _ _
theorem ql1 {h:Heap}{H:Hp}{b:Addr}{o:Obj}(e:h.get? b=some o)(n:H b=none):(hidT h H).get? b=some o:=
 PySem.W.hideAll_get _ e fun a=>by
  have q:(H b).isSome=true:=(List.mem_filter.mp a).2;rw [n] at q;simp at q
theorem qn8 {h:Heap}{H:Hp}{b:Addr}{o:Obj}(e:(hidT h H).get? b=some o):h.get? b=some o/\H b=none:=by
 have a:h.get? b=some o:=PySem.W.of_hideAll (trk h H) e;refine ⟨a,?_⟩;cases q:H b with
 | none=>rfl
 | some x=>
  have c:b∈trk h H:=List.mem_filter.mpr ⟨List.mem_range.mpr (hL1 a),by simp [q]⟩;have z:(hidT h H).get? b=none:=PySem.W.hideAll_none (trk h H) c;rw [z] at e;cases e
noncomputable def qpm (g h:Heap)(L:Addr):List (Addr×Obj):=(List.range h.objs.size).filterMap fun a=>if a=L\/(g.get? a).isSome=true then none else (h.get? a).map fun o=>(a,o)
noncomputable def rest (g h:Heap)(L d:Addr):List (Addr×Obj):=(qpm g h L).filter fun p=>decide (p.1≠d)
end L2
namespace L2
open PySem PySem.Spec PyProof.Rows
structure Mod (K:Fg1)(mg:Str->Option Value)(base:Heap):Prop where
 kin:K.In base
 glob:base.Ns mainGlobals mg
 blt:∃ mb,base.Ns builtinsNs mb /\ ∀ x:Str,x≠"__name__"->mb x=bootBuiltins x
 nolimit:base.NoLimit
structure Cx where
 prog:Program
 w:World
 K:Fg1
 mg:Str->Option Value
 base:Heap
 A:Around
 N:List Str
 s₀:Shared
 H₀:Hp
 env:Env
 outer:List Env
 stack:List Env
 ex:List Addr
 fn:Str->Bool
 calm:Bool
 pn:List (Addr×Obj)
 xe:Value->Shared->Prop
noncomputable def frs (l:List Env):List Addr:=l.filterMap (·.frame)
noncomputable abbrev Cx.fs (X:Cx):List Addr:=frs X.outer
noncomputable def Vis (sc:Scope)(x:Str):Prop:=sc.names.lookup x=some .local\/sc.names.lookup x=some .cell\/sc.names.lookup x=some .free
noncomputable def Loc (sc:Scope)(x:Str):Prop:=sc.names.lookup x=some .local\/sc.names.lookup x=some .cell
noncomputable def Look (env:Env)(h:Heap)(m:Str->Option Value)(x:Str)(u:Value):Prop:=
 (env.kindOf x=some .local/\m x=some u)\/((env.kindOf x=some .cell\/env.kindOf x=some .free) /\ ∃ c,env.cells.lookup x=some c/\h.IsCell c (some u))
structure Cx.Ok (X:Cx):Prop where
 mod:Mod X.K X.mg X.base
 kind:X.env.scope.kind = .function
 glob:X.env.globals=mainGlobals
 blt:X.env.builtins=builtinsNs
 above:X.s₀.heap.objs.size<=X.env.locals
 inj:∀ x y c,X.env.cells.lookup x=some c->X.env.cells.lookup y=some c->x=y
 has:∀ x,(X.env.kindOf x=some .cell\/X.env.kindOf x=some .free) -> ∃ c,X.env.cells.lookup x=some c
 cab:∀ x c,X.fn x=true->X.env.cells.lookup x=some c->X.s₀.heap.objs.size<=c
 hd:X.calm=true->X.A.handled=none
 frames:X.A.frames=some X.stack
 stk:X.stack=X.outer\/(X.stack=X.env::X.outer/\X.env.frame=some X.env.locals)
 exf:∀ b∈X.ex,b≠X.env.locals /\ ∀ x c,X.env.cells.lookup x=some c->c≠b
 bs:∀ b o,X.base.get? b=some o->X.s₀.heap.get? b=some o/\X.H₀ b=none
 bsz:X.base.objs.size<=X.s₀.heap.objs.size
 noex:∀ b o,X.base.get? b=some o->b∉X.ex
 exfs:∀ b∈X.ex,b∉X.fs
 funs:X.s₀.heap.FunFrames X.base X.outer
 frf:∀ b∈X.fs,X.H₀ b=none
structure Inv (X:Cx)(pins:List (Addr×Obj))(σ:List (Option V))(H:Hp)(s:Shared):Prop where
 ok:X.Ok
 os:s.os=X.s₀.os
 bare:AllBare s.gens
 base:Un X.fs X.ex X.H₀ H X.s₀.heap s.heap
 loc:∃ m,s.heap.Ns X.env.locals m /\ ∀ (i:Nat) (x:Str) (v:V),X.N[i]? = some x->σ[i]? = some (some v)->Vis X.env.scope x -> ∃ u,RelV v u/\Look X.env s.heap m x u
 cell:∀ x c,X.env.cells.lookup x=some c -> ∃ v,s.heap.IsCell c v
 free:H X.env.locals=none
 freeC:∀ x c,X.env.cells.lookup x=some c->H c=none
 pin:∀ p∈X.pn++pins,s.heap.get? p.1=some p.2/\H p.1=none/\p.1≠X.env.locals/\p.1∉X.fs /\ ∀ v,p.2.data ≠ .cell v
 hok:HOk X.prog X.w H s.heap
 len:σ.length=X.N.length
section
variable {X:Cx} {pins:List (Addr×Obj)} {σ:List (Option V)} {H H':Hp} {s:Shared} {h':Heap}
theorem Cx.Ok.nofr (ok:X.Ok){b:Addr}{o:Obj}(e:X.base.get? b=some o):b∉X.fs:=fun a=>by
 have:=(ok.funs.mem a).1;rw [e] at this;cases this
theorem Inv.bs (I:Inv X pins σ H s):∀ b o,X.base.get? b=some o->s.heap.get? b=some o/\H b=none:=fun b o e=>
 ⟨I.base.keep b o (I.ok.bs b o e).1 (I.ok.bs b o e).2 (I.ok.nofr e) (I.ok.noex b o e),I.base.free b o (I.ok.bs b o e).1 (I.ok.bs b o e).2 (I.ok.noex b o e)⟩
theorem Inv.bk (I:Inv X pins σ H s):∀ b o,X.base.get? b=some o->s.heap.get? b=some o:=fun b o e=>(I.bs b o e).1
theorem Inv.mod (I:Inv X pins σ H s):Mod X.K X.mg X.base:=I.ok.mod
theorem Inv.kIn (I:Inv X pins σ H s):X.K.In s.heap:=I.ok.mod.kin.keeps I.bk
theorem Inv.lt (I:Inv X pins σ H s):X.env.locals<s.heap.objs.size:=let ⟨_,hn,_⟩:=I.loc;hn.lt
theorem Inv.sz (I:Inv X pins σ H s):X.s₀.heap.objs.size<=s.heap.objs.size:=Nat.le_trans I.ok.above (Nat.le_of_lt I.lt)
theorem Inv.nofs (I:Inv X pins σ H s){a:Addr}(h:s.heap.objs.size<=a):a∉X.fs:=fun c=>by
 obtain ⟨_,o,b,_⟩:=I.ok.funs.mem c;exact absurd (nL1 (hL1 b) (Nat.le_trans I.sz h)) (Nat.lt_irrefl _)
theorem Inv.cne (I:Inv X pins σ H s):∀ x c,X.env.cells.lookup x=some c->c≠X.env.locals:=fun x c e z=>by
 obtain ⟨v,o,d,hd⟩:=I.cell x c e;obtain ⟨m,⟨o',es,ep,b,a,_⟩,_⟩:=I.loc;rw [z,b] at d;cases d;rw [a] at hd;cases hd
theorem Inv.funs (I:Inv X pins σ H s):s.heap.FunFrames X.base X.outer:=by
 have all:∀ (l:List Env),(∀ b∈frs l,b∈X.fs)->X.s₀.heap.FunFrames X.base l->s.heap.FunFrames X.base l:=by
  intro l
  induction l with
  | nil=>intro _ _;trivial
  | cons h r ih=>
   intro f k;obtain ⟨j,⟨L,o,d,m,i,hd⟩,g⟩:=k;have c:L∈X.fs:=f L (by unfold frs;rw [List.filterMap_cons,d];exact mS1);obtain ⟨n,e⟩:=I.base.slot L o i (I.ok.frf L c) c fun z=>I.ok.exfs L z c;exact ⟨j,⟨L,_,d,m,e,hd⟩,ih (fun b a=>f b (by unfold frs;rw [List.filterMap_cons,d];exact mC1 _ a)) g⟩
 exact all X.outer (fun _ a=>a) I.ok.funs
theorem Inv.stack (I:Inv X pins σ H s):s.heap.FunFrames X.base X.stack:=by
 rcases I.ok.stk with e | ⟨e,b⟩
 ·rw [e];exact I.funs
 ·rw [e];obtain ⟨m,a,_⟩:=I.loc;refine .cons (by rw [I.ok.kind];decide) b a ?_ I.funs;exact Heap.get?_none_of_le (Nat.le_trans I.ok.bsz I.ok.above)
theorem Inv.stkSub (I:Inv X pins σ H s):∀ b∈frs X.stack,b∈X.env.locals::X.fs:=fun b a=>by
 rcases I.ok.stk with e | ⟨e,c⟩
 ·rw [e] at a;exact mC1 _ a
 ·rw [e] at a;unfold frs at a;rw [List.filterMap_cons,c] at a;exact a
theorem Inv.stkFree (I:Inv X pins σ H s):∀ b∈frs X.stack,H b=none:=fun b a=>by
 rcases List.mem_cons.mp (I.stkSub b a) with e | a
 ·rw [e];exact I.free
 ·obtain ⟨_,o,c,_⟩:=I.ok.funs.mem a;exact I.base.free b o c (I.ok.frf b a) fun z=>I.ok.exfs b z a
theorem Inv.step {g':Array GenState}{t':Nat}{d':Drawn}{ch:List Addr}(I:Inv X pins σ H s)
  (j:∀ b∈ch,(b∈X.ex\/X.s₀.heap.objs.size<=b)/\b≠X.env.locals/\(∀ x c,X.env.cells.lookup x=some c->c≠b) /\ ∀ p∈X.pn++pins,p.1≠b)
  (keep:∀ b o,b≠X.env.locals->b∉X.fs->b∉ch->s.heap.get? b=some o->H b=none->h'.get? b=some o)
  (slot:∀ b o,b≠X.env.locals->b∈X.fs->b∉ch->s.heap.get? b=some o->H b=none -> ∃ J,h'.get? b=some {o with slots:=J}) (f:∀ b o,b∉ch->s.heap.get? b=some o->H b=none->H' b=none)
  (y:∀ b o,b∉ch->s.heap.get? b=some o -> ∃ o',h'.get? b=some o')
  (C:∀ b xs,H b=some (.tup xs)->H' b=some (.tup xs)) (F:∀ b o u,H b=some (.frz o u)->H' b=some (.frz o u)) (D:∀ b ps,H b=some (.tbl ps) -> ∃ more,H' b=some (.tbl (ps++more)))
  (ns:∀ m,s.heap.Ns X.env.locals m->h'.Ns X.env.locals m) (L:HOk X.prog X.w H' h') (hg:AllBare g'):
  Inv X pins σ H' {s with heap:=h',gens:=g',drawn:=d',toks:=t'}:=by
 have E:∀ b o,X.s₀.heap.get? b=some o->b≠X.env.locals:=fun b o e=>nN1 (nL1 (hL1 e) I.ok.above);have w:∀ b o,X.s₀.heap.get? b=some o->b∉X.ex->b∉ch:=fun b o e a A=>by
  rcases (j b A).1 with z | z
  ·exact a z
  ·exact absurd (nL1 (hL1 e) z) (Nat.lt_irrefl _)
 have g:∀ x c,X.env.cells.lookup x=some c -> ∀ v,s.heap.IsCell c v->h'.IsCell c v:=fun x c e v ⟨o,B,hd⟩=>by
  have h:c∉ch:=fun z=>(j c z).2.2.1 x c e rfl;by_cases hc:c∈X.fs
  ·obtain ⟨J,q⟩:=slot c o (I.cne x c e) hc h B (I.freeC x c e);exact ⟨_,q,hd⟩
  ·exact ⟨o,keep c o (I.cne x c e) hc h B (I.freeC x c e),hd⟩
 refine ⟨I.ok,I.os,hg,⟨fun b o e n A a=>?_,fun b o e n A a=>?_,fun b o e n a=>?_,fun b o e a=>?_,fun b xs e=>C b xs (I.base.tups b xs e),fun b o xs e=>F b o xs (I.base.frzs b o xs e),fun b ps e=>?_⟩,?_,fun x c e=>?_,?_,fun x c e=>?_,fun p N=>?_,L,I.len⟩
 ·exact keep b o (E b o e) A (w b o e a) (I.base.keep b o e n A a) (I.base.free b o e n a)
 ·obtain ⟨J,t⟩:=I.base.slot b o e n A a;obtain ⟨K,G⟩:=slot b _ (E b o e) A (w b o e a) t (I.base.free b o e n a);exact ⟨K,G⟩
 ·obtain ⟨o',t⟩:=I.base.there b o e a;exact f b o' (w b o e a) t (I.base.free b o e n a)
 ·obtain ⟨o',t⟩:=I.base.there b o e a;exact y b o' (w b o e a) t
 ·obtain ⟨m1,t⟩:=I.base.tbls b ps e;obtain ⟨m2,G⟩:=D b _ t;exact ⟨m1++m2,by rw [G,Array.append_assoc]⟩
 ·obtain ⟨m,P,Q⟩:=I.loc;refine ⟨m,ns m P,fun i x v t G O=>?_⟩;obtain ⟨u,r,l⟩:=Q i x v t G O;refine ⟨u,r,?_⟩;rcases l with l | ⟨k,c,e,z⟩
  ·exact .inl l
  ·exact .inr ⟨k,c,e,g x c e _ z⟩
 ·obtain ⟨v,z⟩:=I.cell x c e;exact ⟨v,g x c e v z⟩
 ·obtain ⟨m,⟨o,_,_,B,_⟩,_⟩:=I.loc;exact f _ o (fun z=>(j _ z).2.1 rfl) B I.free
 ·obtain ⟨v,o,B,hd⟩:=I.cell x c e;exact f c o (fun z=>(j c z).2.2.1 x c e rfl) B (I.freeC x c e)
 ·obtain ⟨e,n,ne,M,d⟩:=I.pin p N;have h:p.1∉ch:=fun z=>(j p.1 z).2.2.2 p N rfl;exact ⟨keep p.1 p.2 ne M h e n,f p.1 p.2 h e n,ne,M,d⟩
theorem Inv.un {t':Nat}(I:Inv X pins σ H s)(u:Un X.fs [] H H' s.heap h')(c:HOk X.prog X.w H' h'):Inv X pins σ H' {s with heap:=h',toks:=t'}:=by
 obtain ⟨m,⟨o,es,ep,h,r⟩,_⟩:=id I.loc;obtain ⟨p,k⟩:=u.any h I.free (by simp);exact I.step (g':=s.gens) (d':=s.drawn) (ch:=[]) (fun _ z=>nomatch z) (fun b o _ g _ e n=>u.keep b o e n g (by simp)) (fun b o _ g _ e n=>u.slot b o e n g (by simp)) (fun b o _ e n=>u.free b o e n (by simp)) (fun b o _ e=>u.there b o e (by simp)) u.tups u.frzs u.tbls (fun l i=>by
  obtain ⟨o',d,f,a,j⟩:=i;rw [h] at a;cases a;exact ⟨_,d,f,k,j⟩) c I.bare
theorem Inv.call {g':Array GenState}{t':Nat}{d':Drawn}{ch:List Addr}(I:Inv X pins σ H s)(u:Un (frs X.stack) ch H H' s.heap h')(f:HOk X.prog X.w H' h')(hg:AllBare g')
  (a:∀ b∈ch,(b∈X.ex\/X.s₀.heap.objs.size<=b)/\b≠X.env.locals/\(∀ x c,X.env.cells.lookup x=some c->c≠b) /\ ∀ p∈X.pn++pins,p.1≠b):
  Inv X pins σ H' {s with heap:=h',gens:=g',drawn:=d',toks:=t'}:=by
 obtain ⟨m,⟨o,es,ep,j,r⟩,_⟩:=id I.loc;obtain ⟨v,h⟩:=u.any j I.free fun z=>(a _ z).2.1 rfl;exact I.step (ch:=ch) a (fun b o h q hc e n=>u.keep b o e n (fun z=>(List.mem_cons.mp (I.stkSub b z)).elim h q) hc) (fun b o _ _ hc e n=>u.any e n hc) (fun b o hc e n=>u.free b o e n hc) (fun b o hc e=>u.there b o e hc) u.tups u.frzs u.tbls (fun t k=>by
  obtain ⟨o',g,i,d,l⟩:=k;rw [j] at d;cases d;exact ⟨_,g,i,h,l⟩) f hg
theorem Inv.turned {t':Nat}{it:Addr}(I:Inv X pins σ H s)(k:∀ b o,b≠it->s.heap.get? b=some o->h'.get? b=some o)(hn:H it=none)(d:it≠X.env.locals)
  (h1:it∈X.ex\/X.s₀.heap.objs.size<=it) (h2:∀ x c,X.env.cells.lookup x=some c->c≠it) (g:∀ p∈X.pn++pins,p.1≠it):Inv X pins σ H {s with heap:=h',toks:=t'}:=by
 have a:∀ b u,H b=some u->b≠it:=fun b u e z=>by rw [z,hn] at e;cases e
 refine I.step (g':=s.gens) (d':=s.drawn) (ch:=[it]) (fun b i=>?_) (fun b o _ _ hc e _=>k b o (fun z=>hc (by simp [z])) e) (fun b o _ _ hc e _=>⟨o.slots,k b o (fun z=>hc (by simp [z])) e⟩) (fun _ _ _ _ n=>n)
  (fun b o hc e=>⟨o,k b o (fun z=>hc (by simp [z])) e⟩) (fun _ _ e=>e) (fun _ _ _ e=>e) (fun b ps e=>⟨#[],by rw [e];simp⟩) (fun m f=>?_) (fun b u e=>?_) I.bare
 ·have e:b=it:=by simpa using i
  subst e;exact ⟨h1,d,h2,g⟩
 ·obtain ⟨o,es,ep,h,r⟩:=f;exact ⟨o,es,ep,k _ o (Ne.symm d) h,r⟩
 ·refine (I.hok b u e).stay (fun c v hc q=>k c v ?_ q) (fun _ q=>q) fun _ _ q=>q;rcases hc with z | z
  ·rw [z];exact a b u e
  ·exact a c _ z
theorem Inv.tok (I:Inv X pins σ H s)(t:Nat):Inv X pins σ H {s with toks:=t}:=I.un (h':=s.heap) (t':=t) Un.refl I.hok
theorem Inv.kept {t':Nat}(I:Inv X pins σ H s)(k:∀ b u,s.heap.get? b=some u->h'.get? b=some u):Inv X pins σ H {s with heap:=h',toks:=t'}:=I.un (Un.kept k) (I.hok.kept k)
theorem Inv.laid {a:Addr}{o:HO}{t':Nat}(I:Inv X pins σ H s)(k:∀ b u,s.heap.get? b=some u->h'.get? b=some u)(hp:s.heap.objs.size<=a)(new:qaL X.prog X.w (upd H a o) h' a o):
  Inv X pins σ (upd H a o) {s with heap:=h',toks:=t'}:=I.un (Un.laid k hp (I.hok.fresh hp)) (I.hok.laid k hp new)
theorem Inv.write {x e:Addr}{o:HO}{t':Nat}(I:Inv X pins σ H s)(mu:Mut (H x))(he:e=x\/H e=some (.own x))(k:∀ b u,b≠e->s.heap.get? b=some u->h'.get? b=some u)(a:∃ u,h'.get? e=some u)
  (new:qaL X.prog X.w (upd H x o) h' x o):Inv X pins σ (upd H x o) {s with heap:=h',toks:=t'}:=I.un (Un.write mu he k a) (I.hok.write mu he k a new)
theorem Inv.pins_of {a:List (Addr×Obj)}(I:Inv X pins σ H s)(h:∀ p∈a,s.heap.get? p.1=some p.2/\H p.1=none/\p.1≠X.env.locals/\p.1∉X.fs /\ ∀ v,p.2.data ≠ .cell v):Inv X a σ H s:=
 ⟨I.ok,I.os,I.bare,I.base,I.loc,I.cell,I.free,I.freeC,fun p b=>(List.mem_append.mp b).elim (fun z=>I.pin p (List.mem_append_left _ z)) (h p),I.hok,I.len⟩
theorem qhH {N:List Str}(hN:N.Nodup){i j:Nat}{x:Str}(a:N[i]? = some x)(b:N[j]? = some x):i=j:=by
 obtain ⟨h1,d⟩:=gE1.mp a;obtain ⟨h2,c⟩:=gE1.mp b;exact (List.getElem_inj hN).mp (d.trans c.symm)
theorem qjg {M:Model}{A:Around}{E:Value->Shared->Prop}{i:Nat}{x:Str}{v:V}{u:Value}{Q:Unit->Shared->Prop}(I:Inv X pins σ H s)(hN:X.N.Nodup)(hi:X.N[i]? = some x)(hx:Loc X.env.scope x)(r:RelV v u)
  (h:∀ s',Inv X pins (σ.set i (some v)) H s'->(∃ a,Heap.SameBut a s.heap s'.heap/\(a=X.env.locals\/X.env.cells.lookup x=some a))->Q () s') (hf:X.fn x=true\/X.env.scope.names.lookup x=some .local:=by first | exact .inl rfl | exact .inr rfl | assumption):wpAny M A (storeName X.env x u) Q E s:=by
 obtain ⟨m,Z,hl⟩:=id I.loc;have N:(X.env.scope.kind == .class||(X.env.scope.kind == .module&&X.env.locals != X.env.globals))=false:=by rw [I.ok.kind];rfl
 have w:i<σ.length:=by rw [I.len];exact (gE1.mp hi).1
 have cne:=I.cne;have tracked:∀ {a:Addr} {h':Heap},(∃ o,s.heap.get? a=some o/\H a=none)->Heap.SameBut a s.heap h'->HOk X.prog X.w H h':=fun {a h'} ha f b ob e=>by
  obtain ⟨_,_,l⟩:=ha;refine (I.hok b ob e).stay (fun c P hc q=>(f.2 c ?_).trans q) (fun _ q=>q) fun _ _ q=>q;rintro rfl;rcases hc with rfl | hc
  ·rw [l] at e;cases e
  ·rw [l] at hc;cases hc
 rcases hx with B | B
 ·refine wpAny_storeName_local B Z (fun h' W f=>?_) N;obtain ⟨oL,_,_,hoL,_⟩:=id Z;refine h _ ⟨I.ok,I.os,I.bare,⟨fun b o e n F hx=>?_,fun b o e n F hx=>?_,I.base.free,fun b o e hx=>?_,I.base.tups,I.base.frzs,I.base.tbls⟩,⟨_,W,fun j y S g t U=>?_⟩,fun y c e=>?_,I.free,I.freeC,fun p T=>?_,tracked ⟨oL,hoL,I.free⟩ f,by simpa using I.len⟩ ⟨_,f,.inl rfl⟩
  ·exact (f.2 b (nN1 (nL1 (hL1 e) I.ok.above))).trans (I.base.keep b o e n F hx)
  ·obtain ⟨sl,g⟩:=I.base.slot b o e n F hx;exact ⟨sl,(f.2 b (nN1 (nL1 (hL1 e) I.ok.above))).trans g⟩
  ·obtain ⟨o',g⟩:=I.base.there b o e hx;exact ⟨o',(f.2 b (nN1 (nL1 (hL1 e) I.ok.above))).trans g⟩
  ·by_cases D:j=i
   ·subst D;rw [hi] at g;cases g;rw [List.getElem?_set_self w] at t;cases t;exact ⟨u,r,.inl ⟨B,by simp⟩⟩
   ·rw [gS1 (Ne.symm D)] at t;obtain ⟨u',Y,q⟩:=hl j y S g t U;refine ⟨u',Y,?_⟩;rcases q with ⟨k,e⟩ | ⟨k,c,e,z⟩
    ·refine .inl ⟨k,?_⟩;have:y≠x:=fun e=>D (qhH hN g (e ▸ hi));simp [this,e]
    ·exact .inr ⟨k,c,e,z.sameBut f (cne y c e)⟩
  ·obtain ⟨P,z⟩:=I.cell y c e;exact ⟨P,z.sameBut f (cne y c e)⟩
  ·obtain ⟨e,n,ne,R,d⟩:=I.pin p T;exact ⟨(f.2 p.1 ne).trans e,n,ne,R,d⟩
 ·have C:X.fn x=true:=by
   rcases hf with z | z
   ·exact z
   ·rw [z] at B;cases B
  obtain ⟨c,hc⟩:=I.ok.has x (.inl B);obtain ⟨P,z⟩:=I.cell x c hc;refine wpAny_storeName_cell I.ok.kind B hc z (fun h' G f=>?_);obtain ⟨oc,J,K⟩:=id z;refine h {s with heap:=h'} ⟨I.ok,I.os,I.bare,⟨fun b o e n F hx=>?_,fun b o e n F hx=>?_,I.base.free,fun b o e hx=>?_,I.base.tups,I.base.frzs,I.base.tbls⟩,⟨m,Z.sameBut f (Ne.symm (cne x c hc)),fun j y S g t U=>?_⟩,fun y O e=>?_,I.free,I.freeC,fun p T=>?_,tracked ⟨oc,J,I.freeC x c hc⟩ f,by simpa using I.len⟩ ⟨c,f,.inr hc⟩
  ·exact (f.2 b (nN1 (nL1 (hL1 e) (I.ok.cab x c C hc)))).trans (I.base.keep b o e n F hx)
  ·obtain ⟨sl,g⟩:=I.base.slot b o e n F hx;exact ⟨sl,(f.2 b (nN1 (nL1 (hL1 e) (I.ok.cab x c C hc)))).trans g⟩
  ·obtain ⟨o',g⟩:=I.base.there b o e hx;exact ⟨o',(f.2 b (nN1 (nL1 (hL1 e) (I.ok.cab x c C hc)))).trans g⟩
  ·by_cases D:j=i
   ·subst D;rw [hi] at g;cases g;rw [List.getElem?_set_self w] at t;cases t;exact ⟨u,r,.inr ⟨.inl B,c,hc,G⟩⟩
   ·rw [gS1 (Ne.symm D)] at t;obtain ⟨u',Y,q⟩:=hl j y S g t U;refine ⟨u',Y,?_⟩;rcases q with q | ⟨k,O,e,z'⟩
    ·exact .inl q
    ·refine .inr ⟨k,O,e,z'.sameBut f ?_⟩;rintro rfl;exact D (qhH hN g (I.ok.inj _ _ _ e hc ▸ hi))
  ·by_cases L:O=c
   ·subst L;exact ⟨_,G⟩
   ·obtain ⟨w2,z2⟩:=I.cell y O e;exact ⟨w2,z2.sameBut f L⟩
  ·obtain ⟨e,n,ne,R,d⟩:=I.pin p T;refine ⟨(f.2 p.1 ?_).trans e,n,ne,R,d⟩;intro q;rw [q,J] at e;have q':oc=p.2:=Option.some.inj e;exact d P (by rw [<- q'];exact K)
theorem qbE {M:Model}{A:Around}{E:Value->Shared->Prop}{i:Nat}{x:Str}{v:V}{u:Value}{Q:Unit->Shared->Prop}(I:Inv X pins σ H s)(hN:X.N.Nodup)(hi:X.N[i]? = some x)(hx:Loc X.env.scope x)(r:RelV v u)
  (h:∀ s',Inv X pins (σ.set i (some v)) H s'->Q () s') (hf:X.fn x=true\/X.env.scope.names.lookup x=some .local:=by first | exact .inl rfl | exact .inr rfl | assumption):wpAny M A (storeName X.env x u) Q E s:=
 qjg I hN hi hx r (fun s' a _=>h s' a) hf
theorem Inv.call' {s':Shared}{ch:List Addr}(I:Inv X pins σ H s)(ho:s'.os=s.os)(u:Un (frs X.stack) ch H H' s.heap s'.heap)(a:HOk X.prog X.w H' s'.heap)(hg:AllBare s'.gens)
  (d:∀ b∈ch,(b∈X.ex\/X.s₀.heap.objs.size<=b)/\b≠X.env.locals/\(∀ x c,X.env.cells.lookup x=some c->c≠b) /\ ∀ p∈X.pn++pins,p.1≠b):Inv X pins σ H' s':=by
 obtain ⟨h',f,h,g,o'⟩:=s';have e:o'=s.os:=ho;subst e;exact I.call (g':=f) (t':=g) (d':=h) u a hg d
end
noncomputable abbrev XK:=Value->Option Addr->Hp->Prop
noncomputable abbrev St:=List (Option V)
noncomputable abbrev VK:=V->Hp->Prop
noncomputable abbrev TE:=St->Hp->VK->Prop
noncomputable abbrev TT:=St->Hp->(Bool->Hp->Prop)->Prop
noncomputable abbrev TA:=St->Hp->(List V->Hp->Prop)->Prop
structure Ends where
 nx:St->Hp->Prop
 rt:VK
 bk:St->Hp->Prop:=fun _ _=>False
 ct:St->Hp->Prop:=fun _ _=>False
noncomputable abbrev TS:=Ends->St->Hp->Prop
noncomputable def EP (X:Cx)(pins:List (Addr×Obj))(σ:St)(Q:VK)(u:Value)(s':Shared):Prop:=∃ v H',Inv X pins σ H' s'/\RelV v u/\Q v H'
noncomputable def TP (X:Cx)(pins:List (Addr×Obj))(σ:St)(Q:Bool->Hp->Prop)(b:Bool)(s':Shared):Prop:=∃ H',Inv X pins σ H' s'/\Q b H'
noncomputable def AP (X:Cx)(pins:List (Addr×Obj))(σ:St)(Q:List V->Hp->Prop)(us:List Value)(s':Shared):Prop:=∃ vs H',Inv X pins σ H' s'/\Vals vs us/\Q vs H'
noncomputable def SP (X:Cx)(pins:List (Addr×Obj))(D:Ends)(f:Flow)(s':Shared):Prop:=
 match f with
 | .next=>∃ σ' H',Inv X pins σ' H' s'/\D.nx σ' H'
 | .brk=>∃ σ' H',Inv X pins σ' H' s'/\D.bk σ' H'
 | .cont=>∃ σ' H',Inv X pins σ' H' s'/\D.ct σ' H'
 | .ret u=>∃ v σ' H',Inv X pins σ' H' s'/\RelV v u/\D.rt v H'
noncomputable def PE (X:Cx)(e:Expr)(t:TE):Prop:=
 ∀ (pins:List (Addr×Obj)) (s:Shared) (σ:St) (H:Hp) (Q:VK),Inv X pins σ H s->t σ H Q->wpAny (model X.prog X.w) X.A (eval e X.env) (EP X pins σ Q) X.xe s
noncomputable def PT (X:Cx)(e:Expr)(t:TT):Prop:=
 ∀ (pins:List (Addr×Obj)) (s:Shared) (σ:St) (H:Hp) (Q:Bool->Hp->Prop),Inv X pins σ H s->t σ H Q->wpAny (model X.prog X.w) X.A (isTrue e X.env (eval e X.env)) (TP X pins σ Q) X.xe s
noncomputable def PW (X:Cx)(e:Expr)(t:TT):Prop:=
 ∀ (whole:Sem Value) (pins:List (Addr×Obj)) (s:Shared) (σ:St) (H:Hp) (Q:Bool->Hp->Prop),Inv X pins σ H s->t σ H Q->wpAny (model X.prog X.w) X.A (isTrue e X.env whole) (TP X pins σ Q) X.xe s
theorem PW.pt {X:Cx}{e:Expr}{t:TT}(h:PW X e t):PT X e t:=h _
noncomputable def PA (X:Cx)(es:List Expr)(t:TA):Prop:=
 ∀ (pos:Pos) (pins:List (Addr×Obj)) (s:Shared) (σ:St) (H:Hp) (Q:List V->Hp->Prop),Inv X pins σ H s->t σ H Q->wpAny (model X.prog X.w) X.A (spliced (backTo pos (starEach es X.env))) (AP X pins σ Q) X.xe s
noncomputable def PS (X:Cx)(st:Stmt)(t:TS):Prop:=
 ∀ (pins:List (Addr×Obj)) (s:Shared) (σ:St) (H:Hp) (D:Ends),Inv X pins σ H s->t D σ H->wpAny (model X.prog X.w) X.A (exec st X.env) (SP X pins D) X.xe s
noncomputable def PSs (X:Cx)(st:List Stmt)(t:TS):Prop:=
 ∀ (pins:List (Addr×Obj)) (s:Shared) (σ:St) (H:Hp) (D:Ends),Inv X pins σ H s->t D σ H->wpAny (model X.prog X.w) X.A (execs st X.env) (SP X pins D) X.xe s
theorem thn {α:Type}{t:Sem α}{Q b:α->Shared->Prop}{M:Model}{A:Around}{E:Value->Shared->Prop}{s:Shared}(h:wpAny M A t Q E s)(c:∀ a s,Q a s->b a s):wpAny M A t b E s:=wpAny_mono h c fun _ _ x=>x
end L2
namespace L2
open PySem PySem.Spec PyProof.Rows
section
variable {X:Cx}
theorem bin {a b:Expr}{ta tb:TE}(ha:PE X a ta)(hb:PE X b tb){pins:List (Addr×Obj)}{s:Shared}{σ:St}{H:Hp}{R:V->V->Hp->Prop}(I:Inv X pins σ H s)(h:ta σ H fun x H1=>tb σ H1 fun y H2=>R x y H2)
  {α:Type} {Q:α->Shared->Prop} {f:Value->Value->Sem α}
  (hf:∀ v u e x y H2,Inv X pins σ H2 e->RelV x v->RelV y u->R x y H2->wpAny (model X.prog X.w) X.A (f v u) Q X.xe e):
  wpAny (model X.prog X.w) X.A (eval a X.env) (fun v c=>wpAny (model X.prog X.w) X.A (eval b X.env) (fun u d=>wpAny (model X.prog X.w) X.A (f v u) Q X.xe d) X.xe c) X.xe s:=by
 refine thn (ha pins s σ H _ I h) fun v l ⟨x,H1,i,k,m⟩=>?_;refine thn (hb pins l σ H1 _ i m) fun u e ⟨y,H2,j,r2,g⟩=>?_;exact hf v u e x y H2 j k r2 g
noncomputable def tVar (i:Nat):TE:=fun σ H Q=>∃ v,σ[i]? = some (some v)/\Q v H
noncomputable def tC (v:V):TE:=fun _ H Q=>Q v H
theorem qqn {i:Nat}{x:Str}{pos:Pos}(hN:X.N[i]? = some x)(hv:Vis X.env.scope x)(hd:(x == ("__debug__":Str))=false:=by decide)(hcd:(x == ("__classdict__":Str))=false:=by decide):PE X (.Name x pos) (tVar i):=by
 intro pins s σ H Q I h;obtain ⟨v,e,h⟩:=h;obtain ⟨m,j,g⟩:=I.loc;obtain ⟨u,r,l⟩:=g i x v hN e hv;have b:EP X pins σ Q u s:=⟨v,H,I,r,h⟩;rcases l with ⟨d,f⟩ | ⟨d,c,hc,a⟩
 ·exact wpAny_Name (wpAny_loadName_local I.ok.kind d j f b) hd
 ·rcases d with d | d
  ·exact wpAny_Name (wpAny_loadName_cell I.ok.kind d hc a b) hd
  ·exact wpAny_Name (wpAny_loadName_free I.ok.kind d hc a b hcd) hd
theorem qqt {i j pos}:PE X (.Constant (.int i) j pos) (tC (.int i)):=fun _ _ _ H _ I h=>wpAny_Constant_int ⟨.int i,H,I.tok _,⟨_,rfl⟩,h⟩
theorem qsP {b j pos}:PE X (.Constant (.bool b) j pos) (tC (.bl b)):=fun _ _ _ H _ I h=>Constant_bool ⟨.bl b,H,I,rfl,h⟩
theorem qqr {j pos}:PE X (.Constant .none j pos) (tC .non):=fun _ _ _ H _ I h=>Constant_none ⟨.non,H,I,rfl,h⟩
noncomputable def Gl (X:Cx)(x:Str):Prop:=X.env.kindOf x=some .globalImplicit
theorem qj6 {E:Value->Shared->Prop}{pins:List (Addr×Obj)}{s:Shared}{σ:St}{H:Hp}{x:Str}{u:Value}{pos:Pos}{Q:Value->Shared->Prop}(I:Inv X pins σ H s)(hg:Gl X x)(hm:X.mg x=some u)(h:Q u s)
  (hd:(x == ("__debug__":Str))=false:=by decide):wpAny (model X.prog X.w) X.A (eval (.Name x pos) X.env) Q E s:=
 Calls.Name_function_global I.ok.kind hg (Calls.loadGlobal_global (by rw [I.ok.glob];exact I.mod.glob.keeps I.bk) hm h) hd
theorem qdF {E:Value->Shared->Prop}{pins:List (Addr×Obj)}{s:Shared}{σ:St}{H:Hp}{x:Str}{u:Value}{pos:Pos}{Q:Value->Shared->Prop}(I:Inv X pins σ H s)(hg:Gl X x)(hm:X.mg x=none)(hv:bootBuiltins x=some u)(h:Q u s)
  (hn:x≠"__name__":=by decide) (hd:(x == ("__debug__":Str))=false:=by decide):wpAny (model X.prog X.w) X.A (eval (.Name x pos) X.env) Q E s:=by
 obtain ⟨a,h1,h2⟩:=I.mod.blt;exact Calls.Name_function_global I.ok.kind hg (Calls.loadGlobal_builtin (by rw [I.ok.glob];exact I.mod.glob.keeps I.bk) hm (by rw [I.ok.blt];exact h1.keeps I.bk) ((h2 x hn).trans hv) h) hd
theorem qnZ {x:Str}{v:V}{u:Value}{pos:Pos}(hg:Gl X x)(hm:X.mg x=some u)(r:RelV v u)(hd:(x == ("__debug__":Str))=false:=by decide):PE X (.Name x pos) (tC v):=
 fun _ _ _ H _ I h=>qj6 I hg hm ⟨v,H,I,r,h⟩ hd
theorem qn3 {x:Str}{v:V}{u:Value}{pos:Pos}(hg:Gl X x)(hm:X.mg x=none)(hv:bootBuiltins x=some u)(r:RelV v u)(hn:x≠"__name__":=by decide)(hd:(x == ("__debug__":Str))=false:=by decide):PE X (.Name x pos) (tC v):=
 fun _ _ _ H _ I h=>qdF I hg hm hv ⟨v,H,I,r,h⟩ hn hd
variable {a b:Expr} {ta tb:TE} {pos:Pos}
noncomputable def tB (t:TE):TT:=fun σ H Q=>t σ H fun x H1=>∃ c,x = .bl c/\Q c H1
variable {tA tB':TT} {rest:List Expr}
noncomputable def tAnd (t u:TT):TT:=fun σ H Q=>t σ H fun c H1=>if c=true then u σ H1 Q else Q false H1
noncomputable def tOr (t u:TT):TT:=fun σ H Q=>t σ H fun c H1=>if c=true then Q true H1 else u σ H1 Q
noncomputable def tNot (t:TT):TT:=fun σ H Q=>t σ H fun c H1=>Q (!c) H1
theorem qnJ (ha:PT X a tA):PW X (.BoolOp .And [a] pos) tA:=by
 intro b pins s σ H Q I h;refine isTrue_and (thn (ha pins s σ H Q I h) fun c d e=>?_);cases c with
 | true=>exact isTrue_and_nil e
 | false=>exact e
theorem qp3 (ha:PT X a tA):PW X (.BoolOp .Or [a] pos) tA:=by
 intro b pins s σ H Q I h;refine isTrue_or (thn (ha pins s σ H Q I h) fun c d e=>?_);cases c with
 | false=>exact isTrue_or_nil e
 | true=>exact e
theorem qp4 (ha:PT X a tA)(hb:PW X (.BoolOp .And (b::rest) pos) tB'):PW X (.BoolOp .And (a::b::rest) pos) (tAnd tA tB'):=by
 intro f pins s σ H Q I h;refine isTrue_and (thn (ha pins s σ H _ I h) fun c g ⟨H1,d,e⟩=>?_);cases c with
 | true=>exact hb f pins g σ H1 Q d e
 | false=>exact ⟨H1,d,e⟩
theorem qsF (ha:PT X a tA)(hb:PW X (.BoolOp .Or (b::rest) pos) tB'):PW X (.BoolOp .Or (a::b::rest) pos) (tOr tA tB'):=by
 intro f pins s σ H Q I h;refine isTrue_or (thn (ha pins s σ H _ I h) fun c g ⟨H1,d,e⟩=>?_);cases c with
 | true=>exact ⟨H1,d,e⟩
 | false=>exact hb f pins g σ H1 Q d e
theorem qp6 (ha:PT X a tA):PT X (.UnaryOp .Not a pos) (tNot tA):=by
 intro pins s σ H Q I h;exact isTrue_not (ha pins s σ H (fun c H1=>Q (!c) H1) I h)
noncomputable def qsx (ta tb:TE):TE:=fun σ H Q=>ta σ H fun x H1=>∃ c,x = .bl c/\if c=true then tb σ H1 Q else Q (.bl false) H1
noncomputable def qst (ta:TE):TE:=fun σ H Q=>ta σ H fun x H1=>∃ c,x = .bl c/\Q (.bl (!c)) H1
theorem qqp {op}{t:TE}(h:PE X a t):PE X (.BoolOp op [a] pos) t:=fun pins s σ H Q I b=>BoolOp_one (h pins s σ H Q I b)
theorem qqv (ha:PE X a ta)(hb:PE X (.BoolOp .And (b::rest) pos) tb):PE X (.BoolOp .And (a::b::rest) pos) (qsx ta tb):=by
 intro pins s σ H Q I h;refine BoolOp_and (thn (ha pins s σ H _ I h) fun v g ⟨x,H1,e,f,d⟩=>?_);obtain ⟨c,rfl,d⟩:=d;cases f;refine wpAny_truthy_bool ?_;cases c with
 | true=>exact hb pins g σ H1 Q e d
 | false=>exact ⟨.bl false,H1,e,rfl,d⟩
theorem qqq (ha:PE X a ta):PE X (.UnaryOp .Not a pos) (qst ta):=by
 intro pins s σ H Q I h;refine UnaryOp_ (thn (ha pins s σ H _ I h) fun v f ⟨x,H1,d,e,b⟩=>?_);obtain ⟨c,rfl,b⟩:=b;cases e;exact not_of (wpAny_truthy_bool ⟨.bl (!c),H1,d,rfl,b⟩)
noncomputable def tIf (t:TT)(ta tb:TE):TE:=fun σ H Q=>t σ H fun c H1=>if c=true then ta σ H1 Q else tb σ H1 Q
theorem qlu {c:Expr}(hc:PT X c tA)(ha:PE X a ta)(hb:PE X b tb):PE X (.IfExp c a b pos) (tIf tA ta tb):=by
 intro pins s σ H Q I h;refine wpAny_IfExp (thn (hc pins s σ H _ I h) fun d f ⟨H1,e,g⟩=>?_);cases d with
 | true=>exact ha pins f σ H1 Q e g
 | false=>exact hb pins f σ H1 Q e g
end
end L2
namespace L2
open PySem PySem.Spec PyProof.Rows
noncomputable def SqL (K:Fg1)(H:Hp)(a:Addr)(xs:List V):Prop:=
 Rd H a (.lst xs) \/
  ∃ (o:Obj) (its:Array Value) (n:Nat),K.lookup a=some o/\o.cls = .type "list"/\o.dict=none/\o.data = .seq its n/\its.size<=sizeLine/\Vals xs its.toList
noncomputable def SqT (K:Fg1)(H:Hp)(a:Addr)(xs:List V):Prop:=
 Rd H a (.tup xs) \/
  ∃ (o:Obj) (its:Array Value) (n:Nat),K.lookup a=some o/\o.cls = .type "tuple"/\o.data = .seq its n/\its.size<=sizeLine/\Vals xs its.toList
noncomputable def absV:Value->Option V
 | .none=>some .non
 | .bool b=>some (.bl b)
 | .int i _=>some (.int i)
 | .str x _=>some (.str x)
 | .bytes b _=>some (.byt b)
 | .float b _=>some (.flt b)
 | .ref a=>some (.ref a)
 | .type n=>some (.ty n)
 | _=>none
theorem RelV.abs {x:V}{u:Value}(r:RelV x u):absV u=some x:=by
 cases x with
 | non=>cases r;rfl
 | bl _=>cases r;rfl
 | int _=>obtain ⟨t,rfl⟩:=r;rfl
 | str _=>obtain ⟨t,rfl⟩:=r;rfl
 | byt _=>obtain ⟨t,rfl⟩:=r;rfl
 | flt _=>obtain ⟨t,rfl⟩:=r;rfl
 | ref _=>cases r;rfl
 | ty _=>cases r;rfl
theorem RelV.inj {x y:V}{u:Value}(r:RelV x u)(q:RelV y u):x=y:=Option.some.inj (r.abs.symm.trans q.abs)
theorem Vals.inj:∀ {xs ys:List V} {a:List Value},Vals xs a->Vals ys a->xs=ys:=by
 intro xs ys a h g
 induction h generalizing ys with
 | nil=>cases g;rfl
 | cons r t ih=>cases g with
  | cons b c=>rw [r.inj b,ih c]
section
variable {X:Cx} {pins:List (Addr×Obj)} {σ:St} {H:Hp} {s:Shared} {a:Addr} {xs ys:List V}
theorem SqL.of {K:Fg1}(h:H a=some (.lst xs)):SqL K H a xs:=.inl (.inl h)
theorem SqT.of {K:Fg1}(h:H a=some (.tup xs)):SqT K H a xs:=.inl (.inl h)
theorem Inv.list (I:Inv X pins σ H s)(h:SqL X.K H a xs):∃ b:List Value,Vals xs b/\PlainL s.heap a b.toArray/\xs.length<=sizeLine:=by
 rcases h with h | ⟨o,b,n,d,hc,hd,c,f,r⟩
 ·obtain ⟨z,b,n,r,e⟩:=h.ok I.hok;exact ⟨b,r,⟨_,n,e,rfl,rfl,rfl⟩,z⟩
 ·refine ⟨b.toList,r,⟨o,n,I.kIn a o d,hc,hd,by simpa using c⟩,?_⟩;have e:=r.length;simp only [Array.length_toList] at e;lia
theorem Inv.tuple (I:Inv X pins σ H s)(h:SqT X.K H a xs):∃ b:List Value,Vals xs b/\IsTup s.heap a b.toArray/\xs.length<=sizeLine:=by
 rcases h with h | ⟨o,b,n,d,hc,c,f,r⟩
 ·obtain ⟨z,b,r,p⟩:=h.ok I.hok;exact ⟨b,r,p,z⟩
 ·refine ⟨b.toList,r,⟨o,I.kIn a o d,hc,n,by simpa using c⟩,?_⟩;have e:=r.length;simp only [Array.length_toList] at e;lia
theorem Inv.list_inj (I:Inv X pins σ H s)(h:SqL X.K H a xs)(h':SqL X.K H a ys):xs=ys:=by
 obtain ⟨b,r,⟨o,n,e,_,_,d⟩,_⟩:=I.list h;obtain ⟨its',i,⟨o',j,c,_,_,f⟩,_⟩:=I.list h';rw [e] at c;cases c;rw [d] at f;injection f with g _;have:b=its':=by simpa using congrArg Array.toList g
 subst this;exact r.inj i
theorem Inv.tuple_inj (I:Inv X pins σ H s)(h:SqT X.K H a xs)(h':SqT X.K H a ys):xs=ys:=by
 obtain ⟨b,r,⟨o,e,_,n,d⟩,_⟩:=I.tuple h;obtain ⟨its',i,⟨o',c,_,j,f⟩,_⟩:=I.tuple h';rw [e] at c;cases c;rw [d] at f;injection f with g _;have:b=its':=by simpa using congrArg Array.toList g
 subst this;exact r.inj i
end
noncomputable abbrev Cx.wish (X:Cx)(E:Value->Shared->Prop):Cx:={X with xe:=E}
noncomputable abbrev Cx.nox (X:Cx):Cx:=X.wish fun _ _=>False
theorem Cx.Ok.wish {X:Cx}(ok:X.Ok)(E:Value->Shared->Prop):(X.wish E).Ok:=
 ⟨ok.mod,ok.kind,ok.glob,ok.blt,ok.above,ok.inj,ok.has,ok.cab,ok.hd,ok.frames,ok.stk,ok.exf,ok.bs,ok.bsz,ok.noex,ok.exfs,ok.funs,ok.frf⟩
theorem Cx.Ok.unwish {X:Cx}{E:Value->Shared->Prop}(ok:(X.wish E).Ok):X.Ok:=
 ⟨ok.mod,ok.kind,ok.glob,ok.blt,ok.above,ok.inj,ok.has,ok.cab,ok.hd,ok.frames,ok.stk,ok.exf,ok.bs,ok.bsz,ok.noex,ok.exfs,ok.funs,ok.frf⟩
section
variable {X:Cx} {pins:List (Addr×Obj)} {σ:St} {H:Hp} {s:Shared} {E:Value->Shared->Prop}
theorem Inv.wish (I:Inv X pins σ H s)(E:Value->Shared->Prop):Inv (X.wish E) pins σ H s:=⟨I.ok.wish E,I.os,I.bare,I.base,I.loc,I.cell,I.free,I.freeC,I.pin,I.hok,I.len⟩
theorem Inv.unwish (I:Inv (X.wish E) pins σ H s):Inv X pins σ H s:=⟨I.ok.unwish,I.os,I.bare,I.base,I.loc,I.cell,I.free,I.freeC,I.pin,I.hok,I.len⟩
theorem SP.unwish {D:Ends}{f:Flow}{s':Shared}(h:SP (X.wish E) pins D f s'):SP X pins D f s':=by
 cases f with
 | next=>obtain ⟨a,H',I,q⟩:=h;exact ⟨a,H',I.unwish,q⟩
 | brk=>obtain ⟨a,H',I,q⟩:=h;exact ⟨a,H',I.unwish,q⟩
 | cont=>obtain ⟨a,H',I,q⟩:=h;exact ⟨a,H',I.unwish,q⟩
 | ret u=>obtain ⟨v,a,H',I,r,q⟩:=h;exact ⟨v,a,H',I.unwish,r,q⟩
theorem PSs.nox {st:List Stmt}{t:TS}(h:PSs X.nox st t):PSs X st t:=fun pins s σ H D I a=>
 wpAny_mono (h pins s σ H D (I.wish _) a) (fun _ _ q=>q.unwish) fun _ _ z=>False.elim z
end
section
variable {X:Cx} {st:Stmt} {rest:List Stmt} {t u:TS} {e:Expr} {te:TE} {pos:Pos}
noncomputable def qsu:TS:=fun D σ H=>D.nx σ H
noncomputable def tSeq (t u:TS):TS:=fun D σ H=>t {D with nx:=u D} σ H
theorem qnM:PSs X [] qsu:=fun _ _ σ H _ I h=>wpAny_execs_nil ⟨σ,H,I,h⟩
theorem qll (h1:PS X st t)(h2:PSs X rest u):PSs X (st::rest) (tSeq t u):=by
 intro pins s σ H D I h;refine wpAny_execs_cons (thn (h1 pins s σ H {D with nx:=u D} I h) fun f c q=>?_);cases f with
 | next=>
  obtain ⟨a,H',b,q⟩:=q;exact h2 pins c a H' D b q
 | ret v=>exact q
 | brk=>exact q
 | cont=>exact q
theorem qnL (h1:PS X st t):PSs X [st] t:=by
 intro pins s σ H D I h;refine wpAny_execs_cons (thn (h1 pins s σ H D I h) fun f a q=>?_);cases f with
 | next=>exact wpAny_execs_nil q
 | ret v=>exact q
 | brk=>exact q
 | cont=>exact q
theorem Inv.quiet {pins:List (Addr×Obj)}{σ:St}{H:Hp}{s:Shared}(I:Inv X pins σ H s):interactive X.env=false:=by simp [interactive,I.ok.kind]
noncomputable def qsv (te:TE):TS:=fun D σ H=>te σ H fun _ H1=>D.nx σ H1
theorem qnO (he:PE X e te)(hs:swapsWith e none pos.line X.env=pure false:=by rfl):PS X (.Expr e pos) (qsv te):=by
 intro pins s σ H D I h;exact wpAny_Expr_any (thn (he pins s σ H _ I h) fun v d ⟨x,H1,a,c,b⟩=>⟨σ,H1,a,b⟩) I.quiet hs
noncomputable def tRet (te:TE):TS:=fun D σ H=>te σ H D.rt
theorem qp8 (he:PE X e te):PS X (.Return (some e) pos) (tRet te):=by
 intro pins s σ H D I h;exact wpAny_Return_some (thn (he pins s σ H _ I h) fun v d ⟨x,H1,a,b,c⟩=>⟨x,σ,H1,a,b,c⟩)
noncomputable def tIfS (c:TT)(t u:TS):TS:=fun D σ H=>c σ H fun b H1=>if b=true then t D σ H1 else u D σ H1
theorem qsG {c:Expr}{a b:List Stmt}{tc:TT}(hc:PT X c tc)(ha:PSs X a t)(hb:PSs X b u):PS X (.If c a b pos) (tIfS tc t u):=by
 intro pins s σ H D I h;refine wpAny_If (thn (hc pins s σ H _ I h) fun d f ⟨H1,e,g⟩=>?_);cases d with
 | true=>exact ha pins f σ H1 D e g
 | false=>exact hb pins f σ H1 D e g
end
noncomputable abbrev TG:=V->St->Hp->(St->Hp->Prop)->Prop
noncomputable abbrev TGs:=List V->St->Hp->(St->Hp->Prop)->Prop
noncomputable def PG (X:Cx)(target:Expr)(t:TG):Prop:=
 ∀ (pins:List (Addr×Obj)) (s:Shared) (σ:St) (H:Hp) (v:V) (u:Value) (Q:St->Hp->Prop),Inv X pins σ H s->RelV v u->t v σ H Q ->
  wpAny (model X.prog X.w) X.A (assign target X.env u) (fun _ s'=>∃ σ' H',Inv X pins σ' H' s'/\Q σ' H') X.xe s
noncomputable def PGs (X:Cx)(ts:List Expr)(t:TGs):Prop:=
 ∀ (pins:List (Addr×Obj)) (s:Shared) (σ:St) (H:Hp) (vs:List V) (us:List Value) (Q:St->Hp->Prop),Inv X pins σ H s->Vals vs us->t vs σ H Q ->
  wpAny (model X.prog X.w) X.A (assignInOrder ((assignEach ts X.env).map (·.2)) us) (fun _ s'=>∃ σ' H',Inv X pins σ' H' s'/\Q σ' H') X.xe s
noncomputable abbrev TSet:=V->V->V->Hp->(Hp->Prop)->Prop
noncomputable def PSet (X:Cx)(t:TSet):Prop:=
 ∀ (pins:List (Addr×Obj)) (s:Shared) (σ:St) (H:Hp) (o i v:V) (ov iv u:Value) (Q:Hp->Prop),Inv X pins σ H s->RelV o ov->RelV i iv->RelV v u->t o i v H Q ->
  wpAny (model X.prog X.w) X.A (setItem ov iv u) (fun _ s'=>∃ H',Inv X pins σ H' s'/\Q H') X.xe s
noncomputable abbrev TIp:=V->V->Hp->VK->Prop
noncomputable def PIp (X:Cx)(op:Operator)(t:TIp):Prop:=
 ∀ (pins:List (Addr×Obj)) (s:Shared) (σ:St) (H:Hp) (x y:V) (v u:Value) (Q:VK),Inv X pins σ H s->RelV x v->RelV y u->t x y H Q ->
  wpAny (model X.prog X.w) X.A (inplaceOp op v u) (EP X pins σ Q) X.xe s
section
variable {X:Cx} {pos:Pos}
noncomputable def ql3 (i:Nat):TG:=fun v σ H Q=>Q (σ.set i (some v)) H
theorem qjE {i:Nat}{x:Str}(hN:X.N.Nodup)(hi:X.N[i]? = some x)(hx:Loc X.env.scope x)(hf:X.fn x=true\/X.env.scope.names.lookup x=some .local:=by first | exact .inl rfl | exact .inr rfl | assumption):PG X (.Name x pos) (ql3 i):=by
 intro pins s σ H v u Q I r h;exact wpAny_assign_Name (qbE I hN hi hx r (fun s' a=>⟨_,H,a,h⟩) hf)
noncomputable def gNil:TGs:=fun vs σ H Q=>vs=[]/\Q σ H
noncomputable def qtg (t:TG)(u:TGs):TGs:=fun vs σ H Q=>∃ v r,vs=v::r/\t v σ H fun σ' H'=>u r σ' H' Q
theorem qnX:PGs X [] gNil:=by
 intro pins s σ H vs a Q I r h;obtain ⟨e,h⟩:=h;subst e;cases r;exact assignInOrder_nil ⟨σ,H,I,h⟩
theorem qlr {e:Expr}{es:List Expr}{t:TG}{u:TGs}(h1:PG X e t)(h2:PGs X es u)
  (hs:(assignEach (e::es) X.env).map (·.2)=assign e X.env::(assignEach es X.env).map (·.2):=by rfl):PGs X (e::es) (qtg t u):=by
 intro pins s σ H vs j Q I r h;obtain ⟨v,i,b,h⟩:=h;subst b;cases r with
 | cons r c=>
  rw [hs];refine assignInOrder_cons (thn (h1 pins s σ H _ _ _ I r h) fun _ f ⟨a,H1,d,g⟩=>?_);exact h2 pins f a H1 _ _ Q d c g
noncomputable def gTup (K:Fg1)(n:Nat)(t:TGs):TG:=fun v σ H Q=>∃ a xs,v = .ref a/\SqT K H a xs/\xs.length=n/\t xs σ H Q
theorem qqk {es:List Expr}{k:Nat}{t:TGs}{n:Nat}(hc:X.calm=true)(h:PGs X es t)
  (hn:(assignEach es X.env).length=n:=by rfl) (hst:(assignEach es X.env).findIdx? (·.1)=none:=by rfl):PG X (.Tuple es k pos) (gTup X.K n t):=by
 intro pins s σ H v u Q I r c;obtain ⟨a,xs,f,g,j,c⟩:=c;subst f;cases r;obtain ⟨l,d,m,q⟩:=I.tuple g;refine assign_Tuple_tuple (I.ok.hd hc) m (by simp [hn,<- j,d.length]) hst fun h' p=>?_;have i:Inv X pins σ H {s with heap:=h'}:=I.kept (t':=s.toks) fun b o e=>p b o (nN1 (hL1 e)) e;exact h pins _ σ H xs _ Q i (by simpa using d) c
noncomputable def gSub (to ti:TE)(t:TSet):TG:=fun v σ H Q=>to σ H fun o H1=>ti σ H1 fun i H2=>t o i v H2 fun H3=>Q σ H3
theorem qql {o i:Expr}{to c:TE}{t:TSet}(ho:PE X o to)(hi:PE X i c)(hs:PSet X t)
  (ha:∀ v,assign (.Subscript o i pos) X.env v=(do
   let a<-holding [v] (eval o X.env)
   let b<-holding [v,a] (eval i X.env)
   standAt pos
   holding [v,a,b] (setItem a b v)
   release [v,a,b] []):=by intro _;rfl):PG X (.Subscript o i pos) (gSub to c t):=by
 intro pins s σ H v u Q I r h;rw [ha];refine wB1 (wpAny_holding (thn (ho pins s σ H _ I h) fun a n ⟨x,H1,f,j,p⟩=>?_));refine wB1 (wpAny_holding (thn (hi pins n σ H1 _ f p) fun b m ⟨y,H2,g,r2,e⟩=>?_));refine wB1 (wpAny_standAt (wB1 (wpAny_holding (thn (hs pins m σ H2 x y v a b u _ g j r2 r e) fun _ q ⟨l,d,k⟩=>?_))));exact wpAny_release ⟨σ,l,d,k⟩
noncomputable def tAsg (te:TE)(g:TG):TS:=fun D σ H=>te σ H fun x H1=>g x σ H1 D.nx
theorem qqc {tg e:Expr}{te:TE}{g:TG}(he:PE X e te)(hg:PG X tg g)(hs:swapsWithSole [tg] e pos.line X.env=pure false:=by rfl)(hw:swappedStores [tg] e X.env=pure none:=by rfl)
  (h1:(assignEach [tg] X.env).map (·.2)=[assign tg X.env]:=by rfl):PS X (.Assign [tg] e pos) (tAsg te g):=by
 intro pins s σ H D I h;refine wpAny_Assign_stores (thn (he pins s σ H _ I h) fun v c ⟨x,H1,a,b,d⟩=>?_) hs hw;rw [h1];exact thn (hg pins c σ H1 x v _ a b d) fun _ f q=>q
theorem qp7 {i:Nat}{x:Str}{e:Expr}{te:TE}{pos':Pos}(hN:X.N.Nodup)(hi:X.N[i]? = some x)(hx:Loc X.env.scope x)(he:PE X e te)(hs:swapsWith e (some (.Name x pos')) pos.line X.env=pure false:=by rfl)(hf:X.fn x=true\/X.env.scope.names.lookup x=some .local:=by first | exact .inl rfl | exact .inr rfl | assumption):
  PS X (.Assign [.Name x pos'] e pos) (tAsg te (ql3 i)):=by
 intro pins s σ H D I h;refine wpAny_Assign_Name (thn (he pins s σ H _ I h) fun v g ⟨y,H1,a,b,d⟩=>?_) hs;exact qbE a hN hi hx b (fun f c=>⟨_,H1,c,d⟩) hf
noncomputable def tPar (i j:Nat)(ta:TA):TS:=fun D σ H=>ta σ H fun vs H1=>∃ v w,vs=[v,w]/\D.nx ((σ.set i (some v)).set j (some w)) H1
theorem qp9 {i j:Nat}{x y:Str}{a b:Expr}{ta:TA}{g m pt:Pos}{kt k2 pt2}(hc:X.calm=true)(hN:X.N.Nodup)(hi:X.N[i]? = some x)(G:X.N[j]? = some y)(f:i≠j)
  (hx:X.env.scope.names.lookup x=some .local) (hy:X.env.scope.names.lookup y=some .local) (ha:PA X [a,b] ta)
  (hw:swappedStores [.Tuple [.Name x g,.Name y m] kt pt] (.Tuple [a,b] k2 pt2) X.env=pure (some [x,y]))
  (hs:swapsWithSole [.Tuple [.Name x g,.Name y m] kt pt] (.Tuple [a,b] k2 pt2) pos.line X.env=pure false:=by rfl):
  PS X (.Assign [.Tuple [.Name x g,.Name y m] kt pt] (.Tuple [a,b] k2 pt2) pos) (tPar i j ta):=by
 intro pins s σ H D I h;rw [exec_Assign_arm];refine wB1 (wpAny_standAt ?_);rw [hs];refine wB1 (wP1 ?_);rw [if_neg (by decide)];refine wB1 (Tuple_ (thn (ha _ pins s σ H _ I h) fun B d ⟨vs,H1,A,J,k⟩=>?_));obtain ⟨v,w,u,k⟩:=k;subst u;obtain ⟨c,u2,rfl,C,l⟩:∃ c u2,B=[c,u2]/\RelV v c/\RelV w u2:=by
  cases J with
  | cons p q=>
   cases q with
   | cons K t=>
    cases t;exact ⟨_,_,rfl,p,K⟩
 refine wO1 ?_ (by show 2<=sizeLine;decide);have E:Inv X pins σ H1 {d with heap:=d.heap.push {cls:=.type "tuple",data:=.seq [c,u2].toArray}}:=A.kept (t':=d.toks) fun b o e=>hP1 _ e;rw [hw];refine wB1 (wP1 ?_);show wpAny (model X.prog X.w) X.A (do rule "assign.swapped-stores";let items<-unpackItems (.ref d.heap.objs.size) 2 none;assignInOrder [fun v=>bindName X.env y v,fun v=>bindName X.env x v] items.reverse;pure Flow.next) _ _ _;refine wB1 (wpAny_rule (wB1 (unpackItems_tuple (items:= #[c,u2]) (I.ok.hd hc) (IsTup.new d.heap _) fun h' n=>?_)));have z:=E.kept (h':=h') (t':=d.toks) fun b o e=>n b o (nN1 (hL1 e)) e;show wpAny _ _ (assignInOrder [fun v=>bindName X.env y v,fun v=>bindName X.env x v] [u2,c] >>= fun _=>pure Flow.next) _ _ _;refine wB1 (assignInOrder_cons (wpAny_bindName (qbE z hN G (.inl hy) l (fun M F=>?_) (.inr hy))));refine assignInOrder_cons (wpAny_bindName (qbE F hN hi (.inl hx) C (fun L r=>assignInOrder_nil (wP1 ?_)) (.inr hx)));rw [List.set_comm _ _ (Ne.symm f)] at r;exact ⟨_,H1,r,k⟩
noncomputable def tAug (i:Nat)(te:TE)(ti:TIp):TS:=fun D σ H=>∃ x,σ[i]? = some (some x)/\te σ H fun y H1=>ti x y H1 fun z H2=>D.nx (σ.set i (some z)) H2
theorem qqb {i:Nat}{x:Str}{e:Expr}{te:TE}{op:Operator}{n:TIp}{pos':Pos}(hN:X.N.Nodup)(hi:X.N[i]? = some x)(hx:Loc X.env.scope x)(he:PE X e te)(ho:PIp X op n)(hf:X.fn x=true\/X.env.scope.names.lookup x=some .local:=by first | exact .inl rfl | exact .inr rfl | assumption):
  PS X (.AugAssign (.Name x pos') op e pos) (tAug i te n):=by
 intro pins s σ H D I h;obtain ⟨v,o,h⟩:=h;obtain ⟨m,A,G⟩:=I.loc;have g:Vis X.env.scope x:=by rcases hx with k | k;exact .inl k;exact .inr (.inl k)
 obtain ⟨u,r,l⟩:=G i x v hi o g;refine wpAny_AugAssign_Name ?_;have j:wpAny (model X.prog X.w) X.A (eval e X.env) (fun w d=>wpAny (model X.prog X.w) X.A (inplaceOp op u w) (fun r f=>wpAny (model X.prog X.w) X.A (storeName X.env x r) (fun _=>SP X pins D .next) X.xe f) X.xe d) X.xe s:=by
  refine thn (he pins s σ H _ I h) fun w C ⟨y,H1,t,F,E⟩=>?_;refine thn (ho pins C σ H1 v y u w _ t r F E) fun z M ⟨K,H2,B,r2,q⟩=>?_;exact qbE B hN hi hx r2 (fun L p=>⟨_,H2,p,q⟩) hf
 rcases l with ⟨a,J⟩ | ⟨a,c,hc,b⟩
 ·exact wpAny_loadName_local I.ok.kind a A J j
 ·rcases a with a | a
  ·exact wpAny_loadName_cell I.ok.kind a hc b j
  ·rcases hx with k | k
   ·have:X.env.scope.names.lookup x=some .free:=a;rw [k] at this;cases this
   ·have:X.env.scope.names.lookup x=some .free:=a;rw [k] at this;cases this
noncomputable def qmu (c:TT)(tb:TS):TS:=fun D σ H=>∃ W:Nat->St->Hp->Prop,(∃ m,W m σ H) /\ ∀ m σ H,W m σ H ->
 c σ H fun b H1=>if b=true then ∃ N:St->Hp->Prop,(∀ σ' H',N σ' H' -> ∃ m',m'<m/\W m' σ' H')/\tb {D with nx:=N,ct:=N,bk:=D.nx} σ H1 else D.nx σ H1
theorem qlm {c:Expr}{e:List Stmt}{tc:TT}{tb:TS}(hp:PassesOwn (model X.prog X.w) X.A X.env X.xe)(hc:PT X c tc)(hb:PSs X e tb):PS X (.While c e [] pos) (qmu tc tb):=by
 intro pins s σ H D I h;obtain ⟨W,⟨x,z⟩,g⟩:=h;refine wpAny_While (codeAny_whileLoop (fun n s'=>∃ i H',Inv X pins i H' s'/\W n i H') ?_ x ⟨σ,H,I,z⟩);rintro n y ⟨d,H1,w,A⟩;refine wpAny_passesOwn hp (thn (hc pins y d H1 _ w (g n d H1 A)) fun b B ⟨H2,u,k⟩=>?_);cases b with
 | true=>
  obtain ⟨N,t,k⟩:=k;rw [if_pos rfl];refine wpAny_passesOwn hp (thn (hb pins B d H2 _ u k) fun f C l=>?_);cases f with
  | next=>
   obtain ⟨a,j,m,o⟩:=l;obtain ⟨q,r,p⟩:=t a j o;exact ⟨q,r,a,j,m,p⟩
  | cont=>
   obtain ⟨a,j,m,o⟩:=l;obtain ⟨q,r,p⟩:=t a j o;exact ⟨q,r,a,j,m,p⟩
  | brk=>exact l
  | ret v=>exact l
 | false=>
  rw [if_neg Bool.false_ne_true];exact wpAny_execs_nil ⟨d,H2,u,k⟩
end
structure It where
 go:Nat->Hp->Prop
 yld:Nat->Hp->V->Hp->Prop
 stop:Nat->Hp->Prop
noncomputable def FpOk (X:Cx)(pins:List (Addr×Obj))(H:Hp)(b:Addr):Prop:=
 H b=none/\b≠X.env.locals/\b∉X.fs/\(b∈X.ex\/X.s₀.heap.objs.size<=b)/\(∀ x c,X.env.cells.lookup x=some c->c≠b) /\ ∀ p∈X.pn++pins,p.1≠b
theorem Inv.fpOk {X:Cx}{pins:List (Addr×Obj)}{σ:St}{H H':Hp}{s:Shared}{b:Addr}(I:Inv X pins σ H s)(hb:s.heap.objs.size<=b)(hn:H' b=none):FpOk X pins H' b:=by
 refine ⟨hn,nG1 (nL1 I.lt hb),I.nofs hb,.inr (Nat.le_trans I.sz hb),fun x c e z=>?_,fun p a z=>?_⟩
 ·obtain ⟨v,q⟩:=I.cell x c e;exact absurd (nL1 q.lt (by rw [z];exact hb)) (Nat.lt_irrefl _)
 ·exact absurd (nL1 (hL1 (I.pin p a).1) (by rw [z];exact hb)) (Nat.lt_irrefl _)
structure Turn (P:Program)(w:World)(K:Fg1)(tg:Expr)(J:It)(fp:List Addr)(it:Addr)(tn:Nat->Heap->Prop):Prop where
 mem:it∈fp
 obj:∀ i h,tn i h -> ∀ b∈fp,∃ o,h.get? b=some o /\ ∀ v,o.data ≠ .cell v
 keep:∀ i h h',tn i h->(∀ b∈fp,∀ o,h.get? b=some o->h'.get? b=some o)->tn i h'
 item:∀ (X:Cx),X.prog=P->X.w=w->X.K=K->X.calm=true -> ∀ (i:Nat) (pins:List (Addr×Obj)) (s:Shared) (σ:St) (H:Hp) (E:Value->Shared->Prop),Inv X pins σ H s->(∀ b∈fp,FpOk X pins H b)->tn i s.heap->J.go i H ->
  wpAny (model P w) X.A (pyNext (.ref it)) (fun r s1=>∃ u,r=some u /\
   wpAny (model P w) X.A (letOwnedTupleGo tg (.ref it) u) (fun _ s2=>∃ x H',Inv X pins σ H' s2/\RelV x u/\J.yld i H x H'/\tn (i+1) s2.heap /\ ∀ b∈fp,H' b=none) E s1) E s
 done:∀ (X:Cx),X.prog=P->X.w=w->X.K=K->X.calm=true -> ∀ (i:Nat) (pins:List (Addr×Obj)) (s:Shared) (σ:St) (H:Hp) (E:Value->Shared->Prop),Inv X pins σ H s->(∀ b∈fp,FpOk X pins H b)->tn i s.heap->J.stop i H ->
  wpAny (model P w) X.A (pyNext (.ref it)) (fun r s1=>r=none/\Inv X pins σ H s1) E s
 self:∀ (A:Around) (i:Nat) (s:Shared) (Q:Value->Shared->Prop) (E:Value->Shared->Prop),tn i s.heap->Q (.ref it) s->wpAny (model P w) A (pyIter (.ref it)) Q E s
noncomputable abbrev TI:=St->Hp->(It->Hp->Prop)->Prop
noncomputable def PIE (X:Cx)(pins:List (Addr×Obj))(σ:St)(tg:Expr)(R:It->Hp->Prop)(itv:Value)(s2:Shared):Prop:=
 ∃ (it:Addr) (fp:List Addr) (tn:Nat->Heap->Prop) (J:It) (H':Hp),itv = .ref it/\Inv X pins σ H' s2/\Turn X.prog X.w X.K tg J fp it tn/\tn 0 s2.heap/\(∀ b∈fp,FpOk X pins H' b)/\R J H'
noncomputable def PI (X:Cx)(tg iter:Expr)(wi:TI):Prop:=
 ∀ (pins:List (Addr×Obj)) (s:Shared) (σ:St) (H:Hp) (R:It->Hp->Prop),Inv X pins σ H s->wi σ H R ->
  wpAny (model X.prog X.w) X.A (eval iter X.env) (fun v s1=>wpAny (model X.prog X.w) X.A (pyIter v) (PIE X pins σ tg R) X.xe s1) X.xe s
theorem qoW {M:Model}{A:Around}{E:Value->Shared->Prop}{s:Shared}{tg:Expr}{it:Addr}{u:Value}{o:Obj}{n:String}{vs:Array Value}{Q:Unit->Shared->Prop}(ho:s.heap.get? it=some o)(hc:o.cls = .type n)(hd:o.data = .fields vs)
   (hn:["enumerate","zip","dict_itemiterator","dict_reverseitemiterator","odict_iterator","itertools.zip_longest","itertools.pairwise"].contains n=false) (a:Q () s):wpAny M A (letOwnedTupleGo tg (.ref it) u) Q E s:=by
 unfold letOwnedTupleGo;cases tg <;> first
   | exact wP1 a
   | (cases u<;>first
       | exact wP1 a
       | (refine wB1 (wpAny_load ho ?_)
          rw [hc,hd];show wpAny M A (if (["enumerate","zip","dict_itemiterator","dict_reverseitemiterator","odict_iterator","itertools.zip_longest","itertools.pairwise"].contains n&&vs[0]? == some (rawInt _))=true then _ else _) Q E s;rw [if_neg (by intro h;rw [hn,Bool.false_and] at h;cases h)];exact wP1 a))
noncomputable def Itl (K:Fg1)(a:Addr):It:=
 ⟨fun i H=>∃ xs x,SqL K H a xs/\xs[i]? = some x,fun i H x H'=>H'=H /\ ∀ xs,SqL K H a xs->xs[i]? = some x,fun i H=>∃ xs,SqL K H a xs/\xs.length<=i⟩
noncomputable def Itt (K:Fg1)(a:Addr):It:=
 ⟨fun i H=>∃ xs x,SqT K H a xs/\xs[i]? = some x,fun i H x H'=>H'=H /\ ∀ xs,SqT K H a xs->xs[i]? = some x,fun i H=>∃ xs,SqT K H a xs/\xs.length<=i⟩
noncomputable def Itr (lo:Int)(n:Nat):It:=⟨fun i _=>i<n,fun i H x H'=>H'=H/\x = .int (lo+i),fun i _=>n<=i⟩
theorem qi8 {P:Program}{w:World}{K:Fg1}{tg:Expr}(a it:Addr):Turn P w K tg (Itl K a) [it] it (fun i h=>h.IsListIter it a i) where
 mem:=by simp
 obj:=fun i h st b f=>by
  have e:b=it:=by simpa using f
  subst e;obtain ⟨o,e,c,d⟩:=st;exact ⟨o,e,fun v z=>by rw [d] at z;cases z⟩
 keep:=fun i h h' st k=>st.at fun o e=>k it (by simp) o e
 item:=by
  intro X r m t hc i pins s σ H E I l st A;subst r m t;obtain ⟨xs,x,j,B⟩:=A;obtain ⟨q,y,p,N⟩:=I.list j;obtain ⟨u,L,Q⟩:=y.get B;obtain ⟨n,G,O,D,C,F⟩:=l it (by simp);refine wpAny_pyNext_list_item st p.isList (x:=u) (by simpa using L) fun h' g R=>?_;have J:Inv X pins σ H {s with heap:=h'}:=I.turned (t':=s.toks) (fun b o f e=>(R.2 b f).trans e) n G D C F;obtain ⟨o,e,c,d⟩:=id g;exact ⟨u,rfl,qoW (s:={s with heap:=h'}) e c d (by decide) ⟨x,H,J,Q,⟨rfl,fun ys M=>by rw [I.list_inj M j];exact B⟩,g,fun b f=>(l b f).1⟩⟩
 done:=by
  intro X r m t hc i pins s σ H E I l st A;subst r m t;obtain ⟨xs,j,B⟩:=A;obtain ⟨q,y,p,N⟩:=I.list j;obtain ⟨n,G,O,D,C,F⟩:=l it (by simp);have S:=y.length;exact wpAny_pyNext_list_end (I.ok.hd hc) st p.isList (by simp;lia) fun h' eb=>⟨rfl,I.turned (t':=s.toks) (fun b o f e=>eb b o f e) n G D C F⟩
 self:=fun _ _ _ _ _ st h=>wpAny_pyIter_listiter st h
theorem qil {P:Program}{w:World}{K:Fg1}{tg:Expr}(a it:Addr):Turn P w K tg (Itt K a) [it] it (fun i h=>h.IsTupleIter it a i) where
 mem:=by simp
 obj:=fun i h st b g=>by
  have e:b=it:=by simpa using g
  subst e;obtain ⟨o,e,c,d⟩:=st;exact ⟨o,e,fun v z=>by rw [d] at z;cases z⟩
 keep:=fun i h h' st k=>st.at fun o e=>k it (by simp) o e
 item:=by
  intro X r n t hc i pins s σ H E I m st A;subst r n t;obtain ⟨xs,x,l,B⟩:=A;obtain ⟨f,y,p,N⟩:=I.tuple l;obtain ⟨u,L,Q⟩:=y.get B;obtain ⟨q,G,O,D,C,F⟩:=m it (by simp);refine wpAny_pyNext_tuple_item st (show s.heap.IsTuple a f.toArray from p) (x:=u) (by simpa using L) fun h' j R=>?_;have J:Inv X pins σ H {s with heap:=h'}:=I.turned (t':=s.toks) (fun b o g e=>(R.2 b g).trans e) q G D C F;obtain ⟨o,e,c,d⟩:=id j;exact ⟨u,rfl,qoW (s:={s with heap:=h'}) e c d (by decide) ⟨x,H,J,Q,⟨rfl,fun ys M=>by rw [I.tuple_inj M l];exact B⟩,j,fun b g=>(m b g).1⟩⟩
 done:=by
  intro X r n t hc i pins s σ H E I m st A;subst r n t;obtain ⟨xs,l,B⟩:=A;obtain ⟨f,y,p,N⟩:=I.tuple l;obtain ⟨q,G,O,D,C,F⟩:=m it (by simp);have S:=y.length;exact wpAny_pyNext_tuple_end (I.ok.hd hc) st (show s.heap.IsTuple a f.toArray from p) (by simp;lia) fun h' eb=>⟨rfl,I.turned (t':=s.toks) (fun b o g e=>eb b o g e) q G D C F⟩
 self:=fun _ _ _ _ _ st h=>wpAny_pyIter_tupleiter st h
theorem qim {P:Program}{w:World}{K:Fg1}{tg:Expr}(it:Addr)(lo:Int)(n:Nat):Turn P w K tg (Itr lo n) [it] it (fun i h=>IsRangeIter h it (lo+(i:Nat)*1) ((n:Int)-(i:Nat)) 1) where
 mem:=by simp
 obj:=fun i h st b a=>by
  have e:b=it:=by simpa using a
  subst e;exact ⟨_,st,fun v z=>by
   have y:Data.fields _=Data.cell v:=z;cases y⟩
 keep:=fun i h h' st k=>k it (by simp) _ st
 item:=by
  intro X l p u hc i pins s σ H E I d st g;subst l p u;obtain ⟨r,q,B,j,f,m⟩:=d it (by simp);have W:=Walks.range (prog:=X.prog) (w:=X.w) (I.ok.hd hc) it lo 1 n;refine W.item i s _ _ g st fun v h' tk x c C=>?_;obtain ⟨t,rfl⟩:=x;have A:Inv X pins σ H {s with heap:=h',toks:=tk}:=I.turned (fun b o a e=>C b o (by simpa using a) e) r q j f m;refine ⟨_,rfl,qoW (s:={s with heap:=h',toks:=tk}) (n:="range_iterator") c rfl rfl (by decide) ⟨.int (lo+i),H,A,⟨t,?_⟩,⟨rfl,rfl⟩,c,fun b a=>(d b a).1⟩⟩;rw [Int.mul_one]
 done:=by
  intro X l p u hc i pins s σ H E I d st g;subst l p u;obtain ⟨r,q,B,j,f,m⟩:=d it (by simp);exact wpAny_pyNext_range_end (I.ok.hd hc) st (by have:n<=i:=g;lia) fun h' eb=>⟨rfl,I.turned (t':=s.toks) (fun b o a e=>eb b o a e) r q j f m⟩
 self:=fun _ _ _ _ _ st h=>wpAny_pyIter_rangeiter st h
end L2
namespace L2
open PySem PySem.Spec PyProof.Rows
section
variable {X:Cx} {tg:Expr}
noncomputable def qtc (K:Fg1)(tl:TE):TI:=fun σ H R=>tl σ H fun x H1=>∃ a,x = .ref a/\(∃ xs,SqL K H1 a xs)/\R (Itl K a) H1
noncomputable def iTup (K:Fg1)(tl:TE):TI:=fun σ H R=>tl σ H fun x H1=>∃ a,x = .ref a/\(∃ xs,SqT K H1 a xs)/\R (Itt K a) H1
theorem qnU {l:Expr}{tl:TE}(j:PE X l tl):PI X tg l (qtc X.K tl):=by
 intro pins s σ H R I h;refine thn (j pins s σ H _ I h) fun v d ⟨x,H1,c,i,m⟩=>?_;obtain ⟨a,e,⟨xs,f⟩,q⟩:=m;subst e;cases i;obtain ⟨k,r,p,n⟩:=c.list f;refine wpAny_pyIter_list p.isList ?_;refine ⟨d.heap.objs.size,[d.heap.objs.size],_,_,H1,rfl,c.kept (t':=d.toks) fun b o e=>hP1 _ e,qi8 a _,⟨_,Heap.get?_push_size _ rfl,rfl,rfl⟩,fun b g=>?_,q⟩;have e:b=d.heap.objs.size:=by simpa using g
 subst e;exact c.fpOk (nR1 _) (c.hok.fresh (nR1 _))
theorem qqi {l:Expr}{tl:TE}(k:PE X l tl):PI X tg l (iTup X.K tl):=by
 intro pins s σ H R I h;refine thn (k pins s σ H _ I h) fun v c ⟨x,H1,d,j,m⟩=>?_;obtain ⟨a,e,⟨xs,g⟩,q⟩:=m;subst e;cases j;obtain ⟨f,r,p,n⟩:=d.tuple g;refine wpAny_pyIter_tuple (show c.heap.IsTuple a f.toArray from p) ?_;refine ⟨c.heap.objs.size,[c.heap.objs.size],_,_,H1,rfl,d.kept (t':=c.toks) fun b o e=>hP1 _ e,qil a _,⟨_,Heap.get?_push_size _ rfl,rfl,rfl⟩,fun b i=>?_,q⟩;have e:b=c.heap.objs.size:=by simpa using i
 subst e;exact d.fpOk (nR1 _) (d.hok.fresh (nR1 _))
theorem qhz {pins:List (Addr×Obj)}{σ:St}{H:Hp}{s:Shared}{R:It->Hp->Prop}{E:Value->Shared->Prop}{lo hi:Int}{t u v:Tok}{tk:Nat}(I:Inv X pins σ H s)(h1: -(2^62)<=lo)(h2:lo<2^62)(d: -(2^62)<=hi)(g:hi<2^62)
  (q:R (Itr lo (hi-lo).toNat) H):wpAny (model X.prog X.w) X.A (pyIter (.ref s.heap.objs.size)) (PIE X pins σ tg R) E {s with heap:=s.heap.push {cls:=.type "range",data:=.fields #[.int lo t,.int hi u,.int 1 v]},toks:=tk}:=by
 refine wpAny_pyIter_range (IsRange.new ..) (small_one h1 h2 d g) ?_;have a:Inv X pins σ H {s with heap:=s.heap.push {cls:=.type "range",data:=.fields #[.int lo t,.int hi u,.int 1 v]},toks:=tk}:=I.kept fun b o e=>hP1 _ e;refine ⟨(s.heap.push {cls:=.type "range",data:=.fields #[.int lo t,.int hi u,.int 1 v]}).objs.size,[(s.heap.push {cls:=.type "range",data:=.fields #[.int lo t,.int hi u,.int 1 v]}).objs.size],_,_,H,rfl,
  a.kept (t':=tk) fun b o e=>hP1 _ e,qim _ lo (hi-lo).toNat,?_,fun b h=>?_,q⟩
 ·have c:lo+((0:Nat):Int)*1=lo:=by simp
  have f:(((hi-lo).toNat:Nat):Int)-((0:Nat):Int)=Builtin.Range.rangeSize lo hi 1:=by rw [rangeSize_one];split<;>lia
  show IsRangeIter _ _ (lo+((0:Nat):Int)*1) ((((hi-lo).toNat:Nat):Int)-((0:Nat):Int)) 1;rw [c,f];exact Heap.get?_push_size _ rfl
 ·have e:b=(s.heap.push {cls:=.type "range",data:=.fields #[.int lo t,.int hi u,.int 1 v]}).objs.size:=by simpa using h
  subst e;exact a.fpOk (nR1 _) (a.hok.fresh (nR1 _))
noncomputable def qtb (ta:TA):TI:=fun σ H R=>ta σ H fun vs H1=>∃ j:Int,vs=[.int j] /\ -(2^62)<=j/\j<2^62/\R (Itr 0 j.toNat) H1
noncomputable def qta (ta:TA):TI:=fun σ H R=>ta σ H fun vs H1=>∃ i j:Int,vs=[.int i,.int j]/\(-(2^62)<=i/\i<2^62 /\ -(2^62)<=j/\j<2^62)/\R (Itr i (j-i).toNat) H1
theorem qjC {a:Expr}{ta:TA}{p pos:Pos}(hg:Gl X "range")(hm:X.mg "range"=none)(ha:PA X [a] ta)(hs:starEach [a] X.env=[(false,eval a X.env)]:=by rfl):PI X tg (.Call (.Name "range" p) [a] [] pos) (qtb ta):=by
 intro pins s σ H R I h;refine Call_ (qdF I hg hm boot_range (PyProof.Rows.callWith_type1 (thn (ha pos pins s σ H _ I h) fun i k ⟨vs,H1,f,g,b⟩=>?_) hs rfl));obtain ⟨j,e,b,d,q⟩:=b;subst e;cases g with
 | cons r c=>
  cases c;obtain ⟨t,rfl⟩:=r;exact call_range_1 (qhz f (by lia) (by lia) b d (by simpa using q))
theorem qjB {a b:Expr}{ta:TA}{p pos:Pos}(hg:Gl X "range")(hm:X.mg "range"=none)(ha:PA X [a,b] ta)(hs:starEach [a,b] X.env=[(false,eval a X.env),(false,eval b X.env)]:=by rfl)(hs2:starEach [b] X.env=[(false,eval b X.env)]:=by rfl):
  PI X tg (.Call (.Name "range" p) [a,b] [] pos) (qta ta):=by
 intro pins s σ H R I h;refine Call_ (qdF I hg hm boot_range (PyProof.Rows.callWith_type1 (thn (ha pos pins s σ H _ I h) fun o v ⟨vs,H1,k,l,d⟩=>?_) (by rw [hs,hs2]) (by rw [hs2];rfl)));obtain ⟨i,j,e,⟨d,g,m,f⟩,q⟩:=d;subst e;cases l with
 | cons r c=>
  cases c with
  | cons n c=>
   cases c;obtain ⟨t,rfl⟩:=r;obtain ⟨u,rfl⟩:=n;exact call_range_2 (qhz k d g m f q)
noncomputable def tFor (wi:TI)(g:TG)(tb:TS):TS:=fun D σ H=>wi σ H fun J H1=>∃ W:Nat->Nat->St->Hp->Prop,(∃ m,W 0 m σ H1) /\ ∀ i m σ H,W i m σ H ->
 (J.stop i H/\D.nx σ H)\/(J.go i H /\ ∃ N:St->Hp->Prop,(∀ σ' H',N σ' H' -> ∃ m',m'<m/\W (i+1) m' σ' H') /\ ∀ x H',J.yld i H x H'->g x σ H' fun σ2 H2=>tb {D with nx:=N,ct:=N,bk:=D.nx} σ2 H2)
noncomputable def qfR (fp:List Addr)(h:Heap):List (Addr×Obj):=fp.filterMap fun b=>(h.get? b).map fun o=>(b,o)
theorem qcC {a:List Addr}{h:Heap}{b:Addr}{o:Obj}(hb:b∈a)(e:h.get? b=some o):(b,o)∈qfR a h:=List.mem_filterMap.mpr ⟨b,hb,by rw [e];rfl⟩
theorem qjP {a:List Addr}{h:Heap}{p:Addr×Obj}(hp:p∈qfR a h):p.1∈a/\h.get? p.1=some p.2:=by
 obtain ⟨b,d,e⟩:=List.mem_filterMap.mp hp;cases q:h.get? b with
 | none=>rw [q] at e;cases e
 | some o=>
  rw [q] at e;have c:(b,o)=p:=Option.some.inj e;subst c;exact ⟨d,q⟩
theorem Inv.pinned {pins:List (Addr×Obj)}{σ:St}{H:Hp}{s:Shared}{a:List Addr}(I:Inv X pins σ H s)(hf:∀ b∈a,FpOk X pins H b)(ho:∀ b∈a,∃ o,s.heap.get? b=some o /\ ∀ v,o.data ≠ .cell v):Inv X (pins++qfR a s.heap) σ H s:=
 I.pins_of fun p h=>(List.mem_append.mp h).elim (fun z=>I.pin p (mA1 _ z)) fun z=>by
  obtain ⟨f,e⟩:=qjP z;obtain ⟨g,i,j,_⟩:=hf p.1 f;obtain ⟨o,c,d⟩:=ho p.1 f;rw [e] at c;cases c;exact ⟨e,g,i,j,d⟩
theorem Inv.unpinned {pins pl:List (Addr×Obj)}{σ:St}{H:Hp}{s:Shared}(I:Inv X (pins++pl) σ H s):Inv X pins σ H s:=I.pins_of fun p a=>I.pin p (mA1 _ (List.mem_append_left _ a))
theorem qqa {iter:Expr}{w:List Stmt}{R:TI}{g:TG}{tb:TS}{pos:Pos}(hp:PassesOwn (model X.prog X.w) X.A X.env X.xe)(hc:X.calm=true)(hi:PI X tg iter R)(hg:PG X tg g)(hb:PSs X w tb)
  (hs:∀ x,foldedSetIterable iter X.env x=pure x:=by intro _;rfl):PS X (.For tg iter w [] pos) (tFor R g tb):=by
 intro pins s σ H D I h;refine wpAny_For (thn (hi pins s σ H _ I h) fun v s1 h1=>thn h1 fun itv s2 h2=>?_) hs;obtain ⟨it,E,Y,J,H2,e,I2,T,Q,Z,W,⟨m0,w0⟩,A⟩:=h2;subst e
 -- what stays true of the iterator's objects through the loop
 have q:∀ {H':Hp},(∀ b∈E,H' b=none) -> ∀ b∈E,FpOk X pins H' b:=fun hn b hb=>⟨hn b hb,(Z b hb).2⟩;refine codeAny_forLoop_any (fun n s'=>∃ i j H',Inv X pins j H' s'/\Y i s'.heap/\(∀ b∈E,H' b=none)/\W i n j H') ?_ m0 ⟨0,σ,H2,I2,Q,fun b hb=>(Z b hb).1,w0⟩;rintro n V ⟨i,p,G,S,C,z,w3⟩;rcases A i n p G w3 with ⟨B,qn⟩ | ⟨go,N,hN,step⟩
 ·refine wpAny_passesOwn hp (thn (T.done X rfl rfl rfl hc i pins V p G X.xe S (q z) C B) fun r s4 ⟨O,I4⟩=>?_);subst O;exact wpAny_execs_nil ⟨p,G,I4,qn⟩
 ·refine wpAny_passesOwn hp (thn (T.item X rfl rfl rfl hc i pins V p G X.xe S (q z) C go) fun r s4 ⟨u,O,h4⟩=>?_);subst O;refine wpAny_passesOwn hp (thn h4 fun _ U ⟨x,H5,I5,r5,y5,y,M⟩=>?_);have K:=I5.pinned (q M) (T.obj _ _ y);refine wpAny_passesOwn hp (thn (hg _ U p H5 x u _ K r5 (step x H5 y5)) fun _ s6 ⟨L,H6,I6,q6⟩=>?_);refine wpAny_passesOwn hp (thn (hb _ s6 L H6 _ I6 q6) fun f P t=>?_);have k:∀ {a:St} {c:Hp},Inv X (pins++qfR E U.heap) a c P->N a c -> ∃ m,m<n /\ ∃ i j H',Inv X pins j H' P/\Y i P.heap/\(∀ b∈E,H' b=none)/\W i m j H':=fun {a c} l F=>by
   obtain ⟨m',hm,w7⟩:=hN a c F;refine ⟨m',hm,i+1,a,c,l.unpinned,T.keep _ _ _ y fun b hb o e=>(l.pin (b,o) (mA1 _ (mA1 _ (qcC hb e)))).1,fun b hb=>?_,w7⟩;obtain ⟨o,e,d⟩:=T.obj _ _ y b hb;exact (l.pin (b,o) (mA1 _ (mA1 _ (qcC hb e)))).2.1
  cases f with
  | next=>obtain ⟨a,c,l,F⟩:=t;exact k l F
  | cont=>obtain ⟨a,c,l,F⟩:=t;exact k l F
  | brk=>obtain ⟨a,c,l,t⟩:=t;exact ⟨a,c,l.unpinned,t⟩
  | ret v=>obtain ⟨x7,a,c,l,r7,t⟩:=t;exact ⟨x7,a,c,l.unpinned,r7,t⟩
end
end L2
namespace L2
open PySem PySem.Spec PyProof.Rows
noncomputable abbrev R2:=V->V->Hp->VK->Prop
noncomputable def OpR (X:Cx)(f:Value->Value->Sem Value)(r:R2):Prop:=
 ∀ (pins:List (Addr×Obj)) (s:Shared) (σ:St) (H:Hp) (x y:V) (v u:Value) (Q:VK),Inv X pins σ H s->RelV x v->RelV y u->r x y H Q ->
  wpAny (model X.prog X.w) X.A (f v u) (EP X pins σ Q) X.xe s
noncomputable def UnR (X:Cx)(f:Value->Sem Value)(r:V->Hp->VK->Prop):Prop:=
 ∀ (pins:List (Addr×Obj)) (s:Shared) (σ:St) (H:Hp) (x:V) (v:Value) (Q:VK),Inv X pins σ H s->RelV x v->r x H Q ->
  wpAny (model X.prog X.w) X.A (f v) (EP X pins σ Q) X.xe s
noncomputable def qbd (X:Cx)(f:Value)(r:List V->Hp->VK->Prop):Prop:=
 ∀ (pins:List (Addr×Obj)) (s:Shared) (σ:St) (H:Hp) (xs:List V) (us:List Value) (Q:VK),Inv X pins σ H s->Vals xs us->r xs H Q ->
  wpAny (model X.prog X.w) X.A (call f us) (EP X pins σ Q) X.xe s
noncomputable def TruR (X:Cx)(r:V->Hp->(Bool->Hp->Prop)->Prop):Prop:=
 ∀ (pins:List (Addr×Obj)) (s:Shared) (σ:St) (H:Hp) (x:V) (v:Value) (Q:Bool->Hp->Prop),Inv X pins σ H s->RelV x v->r x H Q ->
  wpAny (model X.prog X.w) X.A (truthy v) (TP X pins σ Q) X.xe s
noncomputable def tOp (r:R2)(ta tb:TE):TE:=fun σ H Q=>ta σ H fun x H1=>tb σ H1 fun y H2=>r x y H2 Q
noncomputable def tUn (r:V->Hp->VK->Prop)(ta:TE):TE:=fun σ H Q=>ta σ H fun x H1=>r x H1 Q
noncomputable def rI (C:Int->Int->Prop)(g:Int->Int->V):R2:=fun x y H Q=>∃ i j,x = .int i/\y = .int j/\C i j/\Q (g i j) H
noncomputable def rI0 (g:Int->Int->V):R2:=fun x y H Q=>∃ i j,x = .int i/\y = .int j/\Q (g i j) H
noncomputable def rU (g:Int->V):V->Hp->VK->Prop:=fun x H Q=>∃ i,x = .int i/\Q (g i) H
section
variable {X:Cx} {a b c:Expr} {ta tb tc:TE} {pos:Pos}
theorem binT (ha:PE X a ta)(hb:PE X b tb){pins:List (Addr×Obj)}{s:Shared}{σ:St}{H:Hp}{R:V->V->Hp->Prop}(I:Inv X pins σ H s)
  (h:ta σ H fun x H1=>tb σ H1 fun y H2=>R x y H2) {Q:Value->Shared->Prop} {f:Value->Value->Sem Value}
  (hf:∀ v u e x y H2,Inv X pins σ H2 e->RelV x v->RelV y u->R x y H2->wpAny (model X.prog X.w) X.A (f v u) Q X.xe e):
  wpAny (model X.prog X.w) X.A (eval a X.env) (fun v c=>wpAny (model X.prog X.w) X.A (eval b X.env) (fun u d=>wpAny (model X.prog X.w) X.A (f v u) Q X.xe d) X.xe c) X.xe s:=by
 refine thn (ha pins s σ H _ I h) fun v k ⟨x,H1,i,j,m⟩=>?_;refine thn (hb pins k σ H1 _ i m) fun u e ⟨y,H2,l,r2,g⟩=>?_;exact hf v u e x y H2 l j r2 g
theorem qsM {op:Operator}{r:R2}(ho:OpR X (binaryOp op) r)(ha:PE X a ta)(hb:PE X b tb):PE X (.BinOp a op b pos) (tOp r ta tb):=by
 intro pins s σ H Q I h;exact wpAny_BinOp (binT ha hb I h fun v u c x y H2 e d f q=>ho pins c σ H2 x y v u Q e d f q)
theorem qsL {op:UnaryOp}{r:V->Hp->VK->Prop}(ho:UnR X (unaryOp op) r)(ha:PE X a ta):PE X (.UnaryOp op a pos) (tUn r ta):=by
 intro pins s σ H Q I h;exact UnaryOp_ (thn (ha pins s σ H _ I h) fun v d ⟨x,H1,b,c,e⟩=>ho pins d σ H1 x v Q b c e)
theorem opI {f:Value->Value->Sem Value}{C:Int->Int->Prop}{g:Int->Int->Int}
  (a:∀ (i j:Int) (t u:Tok) (s:Shared) (Q:Value->Shared->Prop) (E:Value->Shared->Prop),C i j->Q (.int (g i j) s.toks) {s with toks:=s.toks+1}->wpAny (model X.prog X.w) X.A (f (.int i t) (.int j u)) Q E s):
  OpR X f (rI C fun i j=>.int (g i j)):=by
 intro pins s σ H x y v u Q I b d h;obtain ⟨i,j,rfl,rfl,hc,q⟩:=h;obtain ⟨t,rfl⟩:=b;obtain ⟨c,rfl⟩:=d;exact a i j t c s _ _ hc ⟨.int (g i j),H,I.tok _,⟨_,rfl⟩,q⟩
theorem opI0 {f:Value->Value->Sem Value}{g:Int->Int->Int}
  (a:∀ (i j:Int) (t u:Tok) (s:Shared) (Q:Value->Shared->Prop) (E:Value->Shared->Prop),Q (.int (g i j) s.toks) {s with toks:=s.toks+1}->wpAny (model X.prog X.w) X.A (f (.int i t) (.int j u)) Q E s):
  OpR X f (rI0 fun i j=>.int (g i j)):=by
 intro pins s σ H x y v u Q I b d h;obtain ⟨i,j,rfl,rfl,q⟩:=h;obtain ⟨t,rfl⟩:=b;obtain ⟨c,rfl⟩:=d;exact a i j t c s _ _ ⟨.int (g i j),H,I.tok _,⟨_,rfl⟩,q⟩
theorem opB0 {f:Value->Value->Sem Value}{g:Int->Int->Bool}
  (a:∀ (i j:Int) (t u:Tok) (s:Shared) (Q:Value->Shared->Prop) (E:Value->Shared->Prop),Q (.bool (g i j)) s->wpAny (model X.prog X.w) X.A (f (.int i t) (.int j u)) Q E s):
  OpR X f (rI0 fun i j=>.bl (g i j)):=by
 intro pins s σ H x y v u Q I b d h;obtain ⟨i,j,rfl,rfl,q⟩:=h;obtain ⟨t,rfl⟩:=b;obtain ⟨c,rfl⟩:=d;exact a i j t c s _ _ ⟨.bl (g i j),H,I,rfl,q⟩
noncomputable def CDiv (i j:Int):Prop:=0<j/\j<1073741824
noncomputable def CPow (i j:Int):Prop:=0<=j/\j<=1000000/\i.natAbs<2^64
theorem qqL:OpR X (binaryOp .Add) (rI0 fun i j=>.int (i+j)):=opI0 fun _ _ _ _ _ _ _ q=>add_int q
theorem qqF:OpR X (binaryOp .Sub) (rI0 fun i j=>.int (i-j)):=opI0 fun _ _ _ _ _ _ _ q=>sub_int q
theorem qn5:OpR X (binaryOp .FloorDiv) (rI CDiv fun i j=>.int (i/j)):=opI fun i j _ _ _ _ _ hc q=>by
 have h1:(0:Int)<j:=hc.1;have h2:j<1073741824:=hc.2;exact floordiv_int (by lia) (by rw [Int.fdiv_eq_ediv_of_nonneg i (by lia)];exact q) (.inl (PyProof.noPylong_small (by lia)))
theorem qqI:OpR X (binaryOp .Mod) (rI (fun _ j=>0<j) fun i j=>.int (i%j)):=opI fun i j _ _ _ _ _ hc q=>by
 have h1:(0:Int)<j:=hc;exact mod_int' (by lia) (by rw [Int.fmod_eq_emod_of_nonneg i (by lia)];exact q)
theorem qqH:OpR X (binaryOp .Pow) (rI CPow fun i j=>.int (i^j.toNat)):=opI fun _ _ _ _ _ _ _ hc q=>pow_int_small hc.1 hc.2.1 hc.2.2 q
theorem qoU:OpR X (inplaceOp .Add) (rI0 fun i j=>.int (i+j)):=opI0 fun _ _ _ _ _ _ _ q=>iadd_int q
theorem unI {f:Value->Sem Value}{g:Int->Int}
  (a:∀ (i:Int) (t:Tok) (s:Shared) (Q:Value->Shared->Prop) (E:Value->Shared->Prop),Q (.int (g i) s.toks) {s with toks:=s.toks+1}->wpAny (model X.prog X.w) X.A (f (.int i t)) Q E s):
  UnR X f (rU fun i=>.int (g i)):=by
 intro pins s σ H x v Q I b h;obtain ⟨i,rfl,q⟩:=h;obtain ⟨t,rfl⟩:=b;exact a i t s _ _ ⟨.int (g i),H,I.tok _,⟨_,rfl⟩,q⟩
theorem qpA:UnR X (unaryOp .USub) (rU fun i=>.int (-i)):=unI fun _ _ _ _ _ q=>neg_int q
theorem qmX {pins:List (Addr×Obj)}{σ:St}{H:Hp}{s:Shared}{Q:VK}{k k':Bool}(I:Inv X pins σ H s)(q:Q (.bl k) H)(e:k=k'):EP X pins σ Q (.bool k') s:=by
 subst e;exact ⟨.bl k,H,I,rfl,q⟩
theorem qsR:OpR X (compareOp .LtE) (rI0 fun i j=>.bl (decide (i<=j))):=opB0 fun _ _ _ _ _ _ _ q=>le_int q
theorem qsS:OpR X (compareOp .Gt) (rI0 fun i j=>.bl (decide (j<i))):=opB0 fun _ _ _ _ _ _ _ q=>gt_int q
theorem qsT:OpR X (compareOp .GtE) (rI0 fun i j=>.bl (decide (j<=i))):=opB0 fun _ _ _ _ _ _ _ q=>ge_int q
theorem qqJ:OpR X (compareOp .Is) (fun x y H Q=>y = .non/\Q (.bl (decide (x = .non))) H):=by
 intro pins s σ H x y v u Q I a b h;obtain ⟨rfl,q⟩:=h;cases b;refine is_none_gen (qmX I q ?_);cases x<;>first
  | (cases a;rfl)
  | (obtain ⟨t,rfl⟩:=a;rfl)
theorem qn4:OpR X (compareOp .IsNot) (fun x y H Q=>y = .non/\Q (.bl (!decide (x = .non))) H):=by
 intro pins s σ H x y v u Q I a b h;obtain ⟨rfl,q⟩:=h;cases b;refine isnot_none_gen (qmX I q ?_);cases x<;>first
  | (cases a;rfl)
  | (obtain ⟨t,rfl⟩:=a;rfl)
theorem qmH (b:Expr){op:CmpOp}(h:op ≠ .In:=by decide)(h2:op ≠ .NotIn:=by decide):behindInMarks op b=false:=by
 have c:(op == CmpOp.In)=false:=by cases op<;>first | rfl | exact absurd rfl h
 have a:(op == CmpOp.NotIn)=false:=by cases op<;>first | rfl | exact absurd rfl h2
 cases b<;>simp [behindInMarks,c,a]
theorem qn1 {op:CmpOp}{r:R2}(ho:OpR X (compareOp op) r)(ha:PE X a ta)(hb:PE X b tb)(hm:behindInMarks op b=false):PE X (.Compare a [op] [b] pos) (tOp r ta tb):=by
 intro pins s σ H Q I h;exact wpAny_Compare1 (binT ha hb I h fun v u c x y H2 e d f q=>ho pins c σ H2 x y v u Q e d f q) hm
noncomputable def qpL (t:TE):TT:=fun σ H Q=>t σ H fun x H'=>∃ k,x = .bl k/\Q k H'
theorem qnK {op:CmpOp}{r:R2}(ho:OpR X (compareOp op) r)(ha:PE X a ta)(hb:PE X b tb)(hm:behindInMarks op b=false):PT X (.Compare a [op] [b] pos) (qpL (tOp r ta tb)):=by
 intro pins s σ H Q I h;refine wpAny_isTrue_Compare1 (thn (ha pins s σ H _ I h) fun v d ⟨x,H1,i,j,q⟩=>thn (hb pins d σ H1 _ i q) fun u m ⟨y,H2,p,r2,g⟩=>
  thn (ho pins m σ H2 x y v u _ p j r2 g) fun c t ⟨z,n,f,o,k,e,l⟩=>?_) hm
 subst e;cases o;exact wpAny_truthy_bool ⟨n,f,l⟩
noncomputable def qmx (r r':R2)(ta tb tc:TE):TE:=fun σ H Q=>ta σ H fun x H1=>tb σ H1 fun y H2=>r x y H2 fun z H3=>∃ k,z = .bl k /\
 (if k=true then tc σ H3 fun w' H4=>r' y w' H4 Q else Q (.bl false) H3)
theorem qlk {op op':CmpOp}{r i:R2}(ho:OpR X (compareOp op) r)(ho':OpR X (compareOp op') i)(ha:PE X a ta)(hb:PE X b tb)(hc:PE X c tc)
  (hm:lastMarks [op,op'] [b,c]=false:=by with_unfolding_all rfl):PT X (.Compare a [op,op'] [b,c] pos) (qpL (qmx r i ta tb tc)):=by
 intro pins s σ H Q I h;refine isTrue_chain (thn (ha pins s σ H _ I h) fun v t ⟨x,H1,n,F,A⟩=>test_link (thn (hb pins t σ H1 _ n A) fun u N ⟨y,H2,w,r2,m⟩=>
  thn (ho pins N σ H2 x y v u _ w F r2 m) fun d p ⟨z,g,f,J,k,e,j⟩=>?_)) hm
 subst e;cases J;refine wpAny_truthy_bool ?_;cases k with
 | false=>
  obtain ⟨U,R,l⟩:=j;cases R;exact ite_ff ⟨g,f,l⟩
 | true=>
  refine ite_tt (test_last (thn (hc pins p σ g _ f j) fun L P ⟨O,C,B,G,K⟩=>thn (ho' pins P σ C y O u L _ B r2 G K) fun V S ⟨W,M,D,q,T,E,o⟩=>?_));subst E;cases q;exact wpAny_truthy_bool ⟨M,D,o⟩
noncomputable def TruV (K:Fg1)(x:V)(H:Hp)(k:Bool):Prop:=
 match x with
 | .non=>k=false
 | .bl b=>k=b
 | .int i=>k=(i != 0)
 | .str y=>y.length<=sizeLine/\k=((y.length:Int) != 0)
 | .byt y=>y.size<=sizeLine/\k=((y.size:Int) != 0)
 | .ref p=>(∃ xs,SqL K H p xs/\k = !xs.isEmpty)\/(∃ xs,SqT K H p xs/\k = !xs.isEmpty) \/ ∃ kvs,H p=some (.dK kvs)/\k = !kvs.isEmpty
 | _=>False
theorem qiG {κ:Type}{kvs:List (κ×V)}{vs:List (κ×Value)}(r:KV kvs vs):(!vs.isEmpty) = !kvs.isEmpty:=by
 cases r<;>rfl
theorem qeN {xs:List V}{a:List Value}(r:Vals xs a):(!a.toArray.isEmpty) = !xs.isEmpty:=by
 cases r<;>simp
theorem qeM:(sizeLine:Nat)<2^63:=by rw [sizeLine_eq];decide
theorem qpE:TruR X (fun x H Q=>∃ k,TruV X.K x H k/\Q k H):=by
 intro pins s σ H x v Q I d h;obtain ⟨k,e,q⟩:=h;have u:=qeM;have o:sizeLine=16777216:=sizeLine_eq;cases x with
 | non=>
  cases d;have a:k=false:=e;subst a;exact truthy_none ⟨H,I,q⟩
 | bl b=>
  cases d;have a:k=b:=e;subst a;exact wpAny_truthy_bool ⟨H,I,q⟩
 | int i=>
  obtain ⟨t,rfl⟩:=d;have a:k=(i != 0):=e;subst a;exact PySem.P.truthy_int ⟨H,I,q⟩
 | str y=>
  obtain ⟨t,rfl⟩:=d;obtain ⟨n,a⟩:y.length<=sizeLine/\k=((y.length:Int) != 0):=e;subst a;exact PySem.P.truthy_str (by lia) ⟨H,I.tok _,q⟩
 | byt y=>
  obtain ⟨t,rfl⟩:=d;obtain ⟨n,a⟩:y.size<=sizeLine/\k=((y.size:Int) != 0):=e;subst a;exact PySem.W.truthy_bytes (by lia) ⟨H,I.tok _,q⟩
 | ref p=>
  cases d;have a:(∃ xs,SqL X.K H p xs/\k = !xs.isEmpty)\/(∃ xs,SqT X.K H p xs/\k = !xs.isEmpty) \/ ∃ kvs,H p=some (.dK kvs)/\k = !kvs.isEmpty:=e;rcases a with ⟨xs,f,a⟩ | ⟨xs,f,a⟩ | ⟨kvs,f,a⟩
  ·subst a;obtain ⟨g,r,pl,j⟩:=I.list f;have c:=r.length;exact wpAny_truthy_list pl.isList (by simp only [sT1];lia) ⟨H,I.tok _,by rw [qeN r];exact q⟩
  ·subst a;obtain ⟨g,r,pl,j⟩:=I.tuple f;have c:=r.length;exact truthy_tuple pl (by simp only [sT1];lia) ⟨H,I.tok _,by rw [qeN r];exact q⟩
  ·subst a;obtain ⟨j,l,vs,r,m⟩:kvs.length<=sizeLine/\(p == sysModules)=false /\ ∃ vs,KV kvs vs/\s.heap.DictOf (qa3 X.prog X.w) p vs:=I.hok p _ f;have c:kvs.length=vs.length:=Paired.length r;exact wpAny_truthy_dict l m (by lia) ⟨H,I.tok _,by rw [qiG r];exact q⟩
 | _=>exact (show False from e).elim
theorem qlj (ha:PE X a ta)(he:∀ b,isTrue a X.env b=(do let v<-b;standAt a.pos;holding [v] (truthy v))):
  PT X a (fun σ H Q=>ta σ H fun x H'=>∃ k,TruV X.K x H' k/\Q k H'):=by
 intro pins s σ H Q I h;exact isTrue_plain (thn (ha pins s σ H _ I h) fun v e ⟨x,H1,c,d,f⟩=>qpE pins e σ H1 x v Q c d f) (he _)
theorem qit:OpR X (binaryOp .Add) (fun x y H Q=>∃ i j,x = .str i/\y = .str j/\i.length+j.length<=sizeLine/\Q (.str (i++j)) H):=by
 intro pins s σ H x y v u Q I b d h;obtain ⟨i,j,rfl,rfl,a,q⟩:=h;obtain ⟨t,rfl⟩:=b;obtain ⟨c,rfl⟩:=d;exact add_str (fun c tk=>⟨.str (i++j),H,I.tok _,⟨_,rfl⟩,q⟩) a
theorem qdm {x:V}{a:List Value}(r:Vals [x] a):∃ u,a=[u]/\RelV x u:=by
 cases r with
 | cons b r2=>cases r2;exact ⟨_,rfl,b⟩
theorem qpx {x y:V}{a:List Value}(r:Vals [x,y] a):∃ u w',a=[u,w']/\RelV x u/\RelV y w':=by
 cases r with
 | cons c r2=>
  cases r2 with
  | cons b d=>cases d;exact ⟨_,_,rfl,c,b⟩
theorem qmg:qbd X (.builtin "abs") (fun xs H Q=>∃ i,xs=[.int i]/\Q (.int (if i<0 then-i else i)) H):=by
 intro pins s σ H xs a Q I r h;obtain ⟨i,rfl,q⟩:=h;obtain ⟨u,rfl,t,rfl⟩:=qdm r;exact call_abs_int fun u tk=>⟨.int (if i<0 then-i else i),H,I.tok _,⟨_,rfl⟩,q⟩
theorem qkI (hc:X.calm=true):qbd X (.builtin "min") (fun xs H Q=>∃ i j,xs=[.int i,.int j]/\Q (.int (if j<i then j else i)) H):=by
 intro pins s σ H xs d Q I r h;obtain ⟨i,j,rfl,q⟩:=h;obtain ⟨u,b,rfl,⟨t,rfl⟩,⟨c,rfl⟩⟩:=qpx r;refine min_two_ints (I.ok.hd hc) fun h' tk k=>⟨_,H,I.kept k,?_,q⟩;by_cases a:j<i
 ·rw [if_pos a,if_pos a];exact ⟨_,rfl⟩
 ·rw [if_neg a,if_neg a];exact ⟨_,rfl⟩
theorem qgp:qbd X (.type "int") (fun xs H Q=>(∃ i,xs=[.int i]/\Q (.int i) H) \/ ∃ k,xs=[.bl k]/\Q (.int (if k then 1 else 0)) H):=by
 intro pins s σ H xs b Q I r h;rcases h with ⟨i,rfl,q⟩ | ⟨k,rfl,q⟩
 ·obtain ⟨u,rfl,t,rfl⟩:=qdm r;exact call_int_int ⟨.int i,H,I,⟨_,rfl⟩,q⟩
 ·obtain ⟨u,rfl,a⟩:=qdm r;cases a;exact call_int_bool ⟨.int (if k then 1 else 0),H,I.tok _,⟨_,rfl⟩,q⟩
end
end L2
namespace L2
open PySem PySem.Spec PyProof.Rows
structure ObjM (h:Heap)(x dx C:Addr)(mA:Str->Option Value):Prop where
 obj:h.get? x=some (PySem.W.instObj C dx)
 ns:h.Ns1 dx mA
 ne:dx≠x
theorem qj0 {h:Heap}{dx:Addr}{mA:Str->Option Value}(n:h.Ns1 dx mA):∃ c,h.get? dx=some c /\ ∀ name,PySem.W.lookIn name c=some (mA name):=by
 obtain ⟨o,es,ep,i,hd,j,_,d⟩:=n;refine ⟨o,i,fun name=>?_⟩;have e:=d name;unfold nsFind findBy at e;rw [<- Array.find?_toList] at e;unfold PySem.W.lookIn;rw [hd];dsimp only;split
 ·rename_i y q;rw [q] at e;exact congrArg some e
 ·rename_i q;rw [q] at e;have a:es.toList.any (·.refKey)=false:=by
   rw [List.any_eq_false];intro y g;obtain ⟨z,t,b⟩:=j y (Array.mem_toList_iff.mp g);simp [DictEntry.refKey,b]
  have f:¬ es.toList.any (·.refKey)=true:=by rw [a];exact Bool.false_ne_true
  rw [if_neg f];exact congrArg some e
theorem ObjM.look {h:Heap}{x dx C:Addr}{mA:Str->Option Value}(I:ObjM h x dx C mA):∃ a,PySem.W.InstAt h x (PySem.W.instObj C dx) C (some a) /\ ∀ name,PySem.W.lookIn name a=some (mA name):=
 let ⟨a,ho,hl⟩:=qj0 I.ns
 ⟨a,⟨I.obj,rfl,rfl,ho⟩,hl⟩
section
variable {prog:Program} {w:World} {A:Around} {E:Value->Shared->Prop} {s:Shared} {K:Fg1} {x dx C f:Addr} {mA:Str->Option Value} {name:Str} {v:Value}
end
theorem RelO.some_of {v:V}{o:Option Value}(r:RelO (some v) o):∃ u,o=some u/\RelV v u:=by
 cases o with
 | none=>exact (show False from r).elim
 | some u=>exact ⟨u,rfl,r⟩
section
variable {P:Program} {w:World} {H H':Hp} {h h':Heap} {a C dx:Addr} {fs fs':List (Str×V)}
theorem qoV (b:HOk P w H h)(e:H a=some (.ins C dx fs)):∃ mA,ObjM h a dx C mA/\(∀ f,RelO (fs.lookup f) (mA f))/\PySem.Within mA (fs.map (·.1))/\fs.length<=1000/\H dx=some (.own a):=by
 obtain ⟨d,z,ne,c,mA,n,r,q⟩:=(show qaL P w H h a (.ins C dx fs) from b a _ e);exact ⟨mA,⟨c,n,ne⟩,r,q,z,d⟩
end
structure Cls (K:Fg1)(C:Addr):Prop where
 pg:PySem.W.plainGet K C Str.empty=true
 hd:PySem.W.hasDictIn K C=true
 po:PySem.W.plainOver K C=true
 sa:PySem.W.findIn K (.ref C) "__setattr__"=some (some (.builtin "object.__setattr__"))
theorem Cls.get {K:Fg1}{C:Addr}(c:Cls K C)(f:Str):PySem.W.plainGet K C f=true:=c.pg
section
variable {X:Cx} {pins:List (Addr×Obj)} {σ:St} {H:Hp} {s:Shared} {a C dx:Addr} {fs:List (Str×V)} {f:Str} {v:V} {A:Around} {E:Value->Shared->Prop}
end
section
variable {X:Cx} {o e value:Expr} {f:Str} {pos pos' tpos:Pos} {ta tv:TE}
end
section
variable {X:Cx} {pins:List (Addr×Obj)} {σ:St} {H:Hp} {s:Shared} {A:Around} {E:Value->Shared->Prop} {Q:Value->Shared->Prop} {c:Value} {b:Bool}
inductive TyOf (K:Fg1)(H:Hp):V->Value->Prop where
 | non:TyOf K H .non (.type "NoneType")
 | bl (x:Bool):TyOf K H (.bl x) (.type "bool")
 | int (i:Int):TyOf K H (.int i) (.type "int")
 | str (x:Str):TyOf K H (.str x) (.type "str")
 | flt (x:UInt64):TyOf K H (.flt x) (.type "float")
 | lst {a:Addr} {xs:List V} (e:H a=some (.lst xs)):TyOf K H (.ref a) (.type "list")
 | frz {a:Addr} {o:Obj} {xs:List V} (e:H a=some (.frz o (.lst xs))):TyOf K H (.ref a) (.type "list")
 | tup {a:Addr} {xs:List V} (e:H a=some (.tup xs)):TyOf K H (.ref a) (.type "tuple")
 | dK {a:Addr} {kvs:List (Key×V)} (e:H a=some (.dK kvs)):TyOf K H (.ref a) (.type "dict")
 | dT {a:Addr} {kvs:List (List Key×V)} (e:H a=some (.dT kvs)):TyOf K H (.ref a) (.type "dict")
 | ins {a C dx:Addr} {fs:List (Str×V)} (e:H a=some (.ins C dx fs)) (cl:Cls K C) (ha:PySem.W.findIn K (.ref C) "__class__"=some (some (.builtin "object.__class__")))
   (hn:PySem.W.specialIn K (.builtin "object.__class__") "__get__"=some (some (.builtin "getset_descriptor.__get__"))) (htk:PySem.W.takesIn K (.builtin "object.__class__")=some true)
   (hm:PySem.W.mroIn K C (.type "object")=some true):TyOf K H (.ref a) (.ref C)
theorem qcy {x:V}{u t:Value}(I:Inv X pins σ H s)(d:RelV x u)(ty:TyOf X.K H x t)(e:PySem.W.kitOne X.K t c=some b)(h:∀ tk,Q (.bool b) {s with toks:=tk}):
  wpAny (model X.prog X.w) A (call (.builtin "isinstance") [u,c]) Q E s:=by
 cases ty with
 | non=>cases (show u=Value.none from d);exact PySem.W.kia_one PySem.W.kitx_none I.kIn True.intro e (fun z=>nomatch z) h
 | bl y=>cases (show u=Value.bool y from d);exact PySem.W.kia_one PySem.W.kitx_bool I.kIn True.intro e (fun z=>nomatch z) h
 | int i=>obtain ⟨t,q⟩:=(show ∃ t,u=Value.int i t from d);cases q;exact PySem.W.kia_one PySem.W.kitx_int I.kIn True.intro e (fun z=>nomatch z) h
 | str y=>obtain ⟨t,q⟩:=(show ∃ t,u=Value.str y t from d);cases q;exact PySem.W.kia_one PySem.W.kitx_str I.kIn True.intro e (fun z=>nomatch z) h
 | flt y=>obtain ⟨t,q⟩:=(show ∃ t,u=Value.float y t from d);cases q;exact PySem.W.kia_one PySem.W.kitx_float I.kIn True.intro e (fun z=>nomatch z) h
 | @lst a xs f=>
  cases (show u=Value.ref a from d);obtain ⟨_,_,n,_,h1⟩:=(show qaL X.prog X.w H s.heap a (.lst xs) from I.hok a _ f);exact PySem.W.kia_one PySem.W.kitx_list I.kIn ⟨_,h1,rfl⟩ e (fun z=>nomatch z) h
 | @frz a l xs f=>
  cases (show u=Value.ref a from d);obtain ⟨_,_,_,n,_,h1⟩:=(show qaL X.prog X.w H s.heap a (.frz l (.lst xs)) from I.hok a _ f);exact PySem.W.kia_one PySem.W.kitx_list I.kIn ⟨_,h1,rfl⟩ e (fun z=>nomatch z) h
 | @tup a xs f=>
  cases (show u=Value.ref a from d);obtain ⟨_,_,_,p⟩:=(show qaL X.prog X.w H s.heap a (.tup xs) from I.hok a _ f);obtain ⟨o,h1,h2,_⟩:=p;exact PySem.W.kia_one PySem.W.kitx_tuple I.kIn ⟨o,h1,h2⟩ e (fun z=>nomatch z) h
 | @dK a kvs f=>
  cases (show u=Value.ref a from d);obtain ⟨_,_,vs,_,p⟩:=(show qaL X.prog X.w H s.heap a (.dK kvs) from I.hok a _ f);obtain ⟨o,es,ep,h1,h2,_⟩:=p;exact PySem.W.kia_one PySem.W.kitx_dict I.kIn ⟨o,h1,h2.1⟩ e (fun z=>nomatch z) h
 | @dT a kvs f=>
  cases (show u=Value.ref a from d);obtain ⟨_,_,xs,_,o,es,ep,h1,h2,_⟩:=(show qaL X.prog X.w H s.heap a (.dT kvs) from I.hok a _ f);exact PySem.W.kia_one PySem.W.kitx_dict I.kIn ⟨o,h1,h2.1⟩ e (fun z=>nomatch z) h
 | @ins a C dx fs f j k r g m=>
  cases (show u=Value.ref a from d);obtain ⟨mA,O,_⟩:=qoV I.hok f;obtain ⟨v,J,_⟩:=O.look;exact PySem.W.kia_one (PySem.W.kitx_own (j.get _) j.hd k r g m) I.kIn J e (fun z=>nomatch z) h
end
end L2
namespace L2
open PySem PySem.Spec PyProof.Rows
structure Room (k:Nat)(A:Around):Prop where
 hd:A.handled=none
 dp:A.depth+3*k+5<recursionLimit
 un:A.units+16*k+200<cLine
 gd:A.guards=some []
theorem Room.mono {j k:Nat}{A:Around}(r:Room k A)(h:j<=k):Room j A:=⟨r.hd,by have:=r.dp;lia,by have:=r.un;lia,r.gd⟩
theorem Room.deeper {k:Nat}{A:Around}(r:Room (k+1) A)(env:Env):Room k (A.deeper env):=
 ⟨r.hd,by have:=r.dp;show A.depth+1+3*k+5<_;lia,by have:=r.un;show A.units+3+16*k+200<_;lia,r.gd⟩
theorem Room.depth {k:Nat}{A:Around}(r:Room k A):A.depth<recursionLimit:=by have:=r.dp;lia
theorem Room.units {k:Nat}{A:Around}(r:Room k A):A.units+64<cLine:=by have:=r.un;lia
noncomputable def tNil:TA:=fun _ H Q=>Q [] H
noncomputable def qsw (ta:TE)(tr:TA):TA:=fun σ H Q=>ta σ H fun x H1=>tr σ H1 fun xs H2=>Q (x::xs) H2
section
variable {X:Cx} {e:Expr} {es:List Expr} {te:TE} {t:TA} {pos:Pos}
theorem qjJ:PA X [] tNil:=fun _ _ _ _ H Q I h=>Calls.spliced_nil ⟨[],H,I,.nil,h⟩
theorem qfd (ha:PE X e te)(hr:PA X es t)(hs:starEach (e::es) X.env=(false,eval e X.env)::starEach es X.env:=by rfl):PA X (e::es) (qsw te t):=by
 intro pos pins s σ H Q I h;rw [hs];show wpAny _ _ (spliced ((false,eval e X.env)::backTo pos (starEach es X.env))) _ _ s;refine Calls.spliced_cons (thn (ha pins s σ H _ I h) fun u f ⟨x,H1,b,d,g⟩=>?_);exact thn (hr pos pins f σ H1 _ b g) fun i j ⟨xs,H2,c,r2,a⟩=>⟨x::xs,H2,c,.cons d r2,a⟩
noncomputable def tTup (t:TA):TE:=fun σ H Q=>t σ H fun xs H1=>xs.length<=sizeLine /\ ∀ p,H1 p=none->Q (.ref p) (upd H1 p (.tup xs))
noncomputable def tLst (t:TA):TE:=fun σ H Q=>t σ H fun xs H1=>xs.length<=sizeLine /\ ∀ p,H1 p=none->Q (.ref p) (upd H1 p (.lst xs))
theorem qqo {x1}(h:PA X es t):PE X (.Tuple es x1 pos) (tTup t):=by
 intro pins s σ H Q I f;refine wpAny_Tuple_spliced (thn (h pos pins s σ H _ I f) fun d a ⟨xs,H1,c,r,z,q⟩=>⟨by rw [<- r.length];exact z,?_⟩);have g:H1 a.heap.objs.size=none:=c.hok.fresh (nR1 _);refine ⟨.ref a.heap.objs.size,upd H1 a.heap.objs.size (.tup xs),c.laid (t':=a.toks) (fun b u e=>hP1 _ e) (nR1 _) ?_,rfl,q _ g⟩;exact ⟨z,d,r,⟨_,Heap.get?_push_size _ rfl,rfl,_,rfl⟩⟩
theorem qqs (h:PA X es t):PE X (.List es pos) (tLst t):=by
 intro pins s σ H Q I f;refine wpAny_List_spliced (thn (h pos pins s σ H _ I f) fun d a ⟨xs,H1,c,r,z,q⟩=>⟨by rw [<- r.length];exact z,?_⟩);have g:H1 a.heap.objs.size=none:=c.hok.fresh (nR1 _);refine ⟨.ref a.heap.objs.size,upd H1 a.heap.objs.size (.lst xs),c.laid (t':=a.toks) (fun b u e=>hP1 _ e) (nR1 _) ?_,rfl,q _ g⟩;exact ⟨z,d,0,r,Heap.get?_push_size _ rfl⟩
end
noncomputable abbrev Sp:=List V->Hp->VK->XK->Prop
noncomputable abbrev CXT:=List Env->Hp->Shared->XK->Value->Shared->Prop
structure Env0 (P:Program)(w:World)(K:Fg1)(mg:Str->Option Value)(base:Heap)(A:Around)(outer:List Env)(s:Shared)(H:Hp):Prop where
 frames:A.frames=some outer
 mod:Mod K mg base
 bs:∀ b o,base.get? b=some o->s.heap.get? b=some o/\H b=none
 bsz:base.objs.size<=s.heap.objs.size
 funs:s.heap.FunFrames base outer
 frf:∀ b∈frs outer,H b=none
 hok:HOk P w H s.heap
 bare:AllBare s.gens
noncomputable def CE (outer:List Env)(P:Program)(w:World)(H:Hp)(s:Shared)(Q:VK)(u:Value)(s':Shared):Prop:=
 ∃ v H',s'.os=s.os/\AllBare s'.gens/\Un (frs outer) [] H H' s.heap s'.heap/\HOk P w H' s'.heap/\RelV v u/\Q v H'
noncomputable def CR (CX:CXT)(outer:List Env)(P:Program)(w:World)(H:Hp)(s:Shared)(Q:VK)(E:XK)(r:Result)(s':Shared):Prop:=
 match r with
 | .ok (.ret u)=>CE outer P w H s Q u s'
 | .ok _=>False
 | .error e=>CX outer H s E e s'
structure FnOk (P:Program)(w:World)(K:Fg1)(mg:Str->Option Value)(base:Heap)(CX:CXT)(k:Nat)(f:Addr)(fd:FuncData)(ps:List Str)(sp:Sp):Prop where
 len:∀ vs H Q E,sp vs H Q E->vs.length=ps.length
 run:∀ (A:Around) (outer:List Env) (s:Shared) (H:Hp) (args:Args) (us:List Value) (vs:List V) (Q:VK) (E:XK),Room k A->Env0 P w K mg base A outer s H->BindsTo s fd args (ps.zip us)->Vals vs us->sp vs H Q E ->
  codeAny (model P w) A (.call (.ref f) args) (CR CX outer P w H s Q E) s
section
variable {X:Cx} {pins:List (Addr×Obj)} {σ:St} {H:Hp} {s s':Shared}
theorem Inv.env0 (I:Inv X pins σ H s):Env0 X.prog X.w X.K X.mg X.base X.A X.stack s H:=
 ⟨I.ok.frames,I.ok.mod,I.bs,Nat.le_trans I.ok.bsz I.sz,I.stack,I.stkFree,I.hok,I.bare⟩
theorem Inv.after {Q:VK}{u:Value}(I:Inv X pins σ H s)(h:CE X.stack X.prog X.w H s Q u s'):EP X pins σ Q u s':=by
 obtain ⟨v,H',f,a,un,c,r,q⟩:=h;obtain ⟨i,g,d,t,e⟩:=s';obtain rfl:e=s.os:=f;exact ⟨v,H',I.call (h':=i) (g':=g) (d':=d) (t':=t) (ch:=[]) un c a (fun b z=>absurd z (by simp)),r,q⟩
end
noncomputable def qpP (sp:Sp)(dvs:List V)(E:XK)(t:TA):TE:=fun σ H Q=>t σ H fun vs H1=>sp (vs++dvs) H1 Q E
noncomputable def qdR (K:Fg1)(fd:FuncData)(ps:List Str)(ds:List Value):Prop:=
 ∀ (s:Shared) (us:List Value),K.In s.heap->(us++ds).length=ps.length->BindsTo s fd ⟨us,[]⟩ (ps.zip (us++ds))
theorem qdR.all {K:Fg1}{fd:FuncData}{ps:List Str}(h:∀ a:List Value,a.length=ps.length->bindArgs fd ⟨a,[]⟩=pure (ps.zip a)):qdR K fd ps []:=fun s a _ b=>by
 rw [List.append_nil] at b ⊢;exact .of_eq (h a b)
noncomputable def qif (CX:CXT)(X:Cx)(E:XK):Prop:=∀ (pins:List (Addr×Obj)) (σ:St) (H:Hp) (s:Shared) (e:Value) (s':Shared),Inv X pins σ H s->CX X.stack H s E e s'->X.xe e s'
section
variable {X:Cx} {CX:CXT} {k:Nat} {f C:Addr} {fd:FuncData} {ps:List Str} {sp:Sp} {dvs:List V} {ds:List Value} {E:XK} {x m:Str} {p pos apos:Pos} {e o:Expr} {es:List Expr} {ta:TE} {t:TA}
theorem qmC {pins:List (Addr×Obj)}{σ:St}{H:Hp}{s:Shared}{Q:VK}{a:List Value}{vs:List V}(F:FnOk X.prog X.w X.K X.mg X.base CX k f fd ps sp)(hr:Room k X.A)(hb:qdR X.K fd ps ds)(hd:Vals dvs ds)(hx:qif CX X E)
  (I:Inv X pins σ H s) (r:Vals vs a) (h:sp (vs++dvs) H Q E):wpAny (model X.prog X.w) X.A (call (.ref f) a) (EP X pins σ Q) X.xe s:=by
 have r2:Vals (vs++dvs) (a++ds):=r.append hd;have c:(a++ds).length=ps.length:=by rw [<- r2.length];exact F.len _ _ _ _ h
 refine wpAny_call (codeAny_mono (F.run X.A X.stack s H ⟨a,[]⟩ (a++ds) (vs++dvs) Q E hr I.env0 (hb s a I.kIn c) r2 h) fun r s' b=>?_);cases r with
 | error e=>exact hx pins σ H s e s' I b
 | ok fl=>
  cases fl with
  | ret u=>exact I.after b
  | next=>exact False.elim b
  | brk=>exact False.elim b
  | cont=>exact False.elim b
theorem qn2 (F:FnOk X.prog X.w X.K X.mg X.base CX k f fd ps sp)(hr:Room k X.A)(hg:Gl X x)(hm:X.mg x=some (.ref f))(hk:wK1 X.K (.ref f)=true)(hb:qdR X.K fd ps ds)(hd:Vals dvs ds)(hx:qif CX X E)
  (ha:PA X (e::es) t) (hdb:(x == ("__debug__":Str))=false:=by decide) (he:starEach (e::es) X.env=(false,eval e X.env)::starEach es X.env:=by rfl) (hpl:(backTo pos (starEach es X.env)).any (·.1)=false:=by rfl):
  PE X (.Call (.Name x p) (e::es) [] pos) (qpP sp dvs E t):=by
 intro pins s σ H Q I h;refine wpAny_Call_Name_kw (qj6 I hg hm ?_ hdb);refine PySem.W.callWith_K (h₀:=X.base) I.ok.mod.kin hk (thn (ha pos pins s σ H _ I h) fun b c ⟨vs,H1,a,r,q⟩=>⟨a.kIn,?_⟩) he hpl;exact qmC F hr hb hd hx a r q
end
section
variable {X:Cx} {CX:CXT} {k:Nat} {f C:Addr} {fd:FuncData} {ps ks:List Str} {sp:Sp} {E:XK} {x m:Str} {p pos apos kpos:Pos} {e o:Expr} {es:List Expr} {kws:List Keyword} {te ta:TE} {t tk:TA} {nm:Option Str}
variable {g:List Value->List Value->List Value} {gV:List V->List V->List V}
end
structure qam (N P:List Str)(sc:Scope):Prop where
 kind:sc.kind = .function
 co:sc.isCoroutine=false
 gen:sc.isGenerator=false
 nd:N.Nodup
 pre:N.take P.length=P
 par:∀ x∈P,sc.names.lookup x=some .local\/sc.names.lookup x=some .cell
 nofree:∀ y∈sc.names,y.2 ≠ .free
theorem qgq {kindOf:Str->Option NameKind}{x:Str}:∀ {binds:List (Str×Value)} {m:Str->Option Value},(∀ v,(x,v)∉binds)->bindL kindOf binds m x=m x
 | [],_,_=>rfl
 | (n,v)::r,m,h=>by
  unfold bindL;rw [qgq fun w a=>h w (mC1 _ a)];split
  ·have:x≠n:=by rintro rfl;exact h v mS1
   simp [this]
  ·rfl
theorem qgs {kindOf:Str->Option NameKind}{x:Str}:∀ {binds:List (Str×Value)} {m:Str->Option Value},(∀ v,(x,v)∉binds)->bindC kindOf binds m x=m x
 | [],_,_=>rfl
 | (n,v)::r,m,h=>by
  unfold bindC;rw [qgs fun w a=>h w (mC1 _ a)];split
  ·rfl
  ·have:x≠n:=by rintro rfl;exact h v mS1
   simp [this]
theorem qgr {kindOf:Str->Option NameKind}{x:Str}{v:Value}:∀ {P:List Str} {vs:List Value} {i:Nat} {m:Str->Option Value},P.Nodup->P[i]? = some x->vs[i]? = some v->kindOf x=some .local ->
  bindL kindOf (P.zip vs) m x=some v
 | [],_,_,_,_,h,_,_=>by simp at h
 | _::_,[],_,_,_,_,h,_=>by simp at h
 | p::P,w::vs,0,m,nd,h1,h2,hk=>by
  simp at h1 h2;subst h1;subst h2;show bindL kindOf ((p,w)::P.zip vs) m p=_;unfold bindL;rw [qgq fun v a=>(List.nodup_cons.mp nd).1 (List.of_mem_zip a).1,if_pos hk];simp
 | p::P,w::vs,i+1,m,nd,h1,h2,hk=>by
  show bindL kindOf ((p,w)::P.zip vs) m x=_;unfold bindL;exact qgr (i:=i) (List.nodup_cons.mp nd).2 (by simpa using h1) (by simpa using h2) hk
theorem qgt {kindOf:Str->Option NameKind}{x:Str}{v:Value}:∀ {P:List Str} {vs:List Value} {i:Nat} {m:Str->Option Value},P.Nodup->P[i]? = some x->vs[i]? = some v->kindOf x≠some .local ->
  bindC kindOf (P.zip vs) m x=some v
 | [],_,_,_,_,h,_,_=>by simp at h
 | _::_,[],_,_,_,_,h,_=>by simp at h
 | p::P,w::vs,0,m,nd,h1,h2,hk=>by
  simp at h1 h2;subst h1;subst h2;show bindC kindOf ((p,w)::P.zip vs) m p=_;unfold bindC;rw [qgs fun v a=>(List.nodup_cons.mp nd).1 (List.of_mem_zip a).1,if_neg hk];simp
 | p::P,w::vs,i+1,m,nd,h1,h2,hk=>by
  show bindC kindOf ((p,w)::P.zip vs) m x=_;unfold bindC;exact qgt (i:=i) (List.nodup_cons.mp nd).2 (by simpa using h1) (by simpa using h2) hk
noncomputable def start (N:List Str)(vs:List V):St:=vs.map some++List.replicate (N.length-vs.length) none
noncomputable def cxOf (CX:CXT)(P:Program)(w:World)(K:Fg1)(mg:Str->Option Value)(base:Heap)(N:List Str)(qual:Str)(scope:Scope)(f:Addr)(cd:Value)(A:Around)(outer:List Env)(s:Shared)(H:Hp)(E:XK):Cx where
 prog:=P
 w:=w
 K:=K
 mg:=mg
 base:=base
 A:=A.deeper (envOfC qual scope s.heap.objs.size f cd)
 N:=N
 s₀:=s
 H₀:=H
 env:=envOfC qual scope s.heap.objs.size f cd
 outer:=outer
 stack:=envOfC qual scope s.heap.objs.size f cd::outer
 ex:=[]
 calm:=true
 fn:=fun _=>true
 pn:=[]
 xe:=fun e s'=>wpAny (model P w) (A.deeper (envOfC qual scope s.heap.objs.size f cd)) (leaving (envOfC qual scope s.heap.objs.size f cd) e) (fun _ s''=>CX outer H s E e s'') (fun e' s''=>CX outer H s E e' s'') s'
theorem qh9 {a:Scope}{n:Nat}{x:Str}(h:a.names.lookup x=some .cell):∃ c,(cellsFrom n a.names []).lookup x=some c:=by
 have q:=PySem.W.cellsFrom_some a.names n [] (.inl h);exact Option.isSome_iff_exists.mp q
theorem qkd {CX:CXT}{P:Program}{w:World}{K:Fg1}{mg:Str->Option Value}{base:Heap}{N ps:List Str}{g:Str}{scope:Scope}{f:Addr}{B:Value}{A:Around}{d:List Env}{s s1:Shared}{H:Hp}{E:XK}{C:List Value}{vs:List V}
  (S:qam N ps scope) (hd:A.handled=none) (j:Env0 P w K mg base A d s H) (L:vs.length=ps.length) (r:Vals vs C)
  (x:InCallC s s.heap.objs.size (bindL (envOfC g scope s.heap.objs.size f B).kindOf (ps.zip C) fun _=>none) (cellsFrom (s.heap.objs.size+1) scope.names []) (bindC (envOfC g scope s.heap.objs.size f B).kindOf (ps.zip C) fun _=>none) s1):
  Inv (cxOf CX P w K mg base N g scope f B A d s H E) [] (start N vs) H s1:=by
 have I:ps.length<=N.length:=by have:=congrArg List.length S.pre;rw [List.length_take] at this;lia
 obtain ⟨h1,tk,rfl,F⟩:=x.done;have m:∀ b:Addr,b∉(cxOf CX P w K mg base N g scope f B A d s H E).ex:=fun b z=>absurd (show b∈([]:List Addr) from z) (by simp);refine ⟨⟨j.mod,S.kind,rfl,rfl,nR1 _,fun y z c h1 h2=>?_,fun y l=>?_,fun y c _ h=>?_,fun _=>hd,Around.frames_deeper j.frames,.inr ⟨rfl,rfl⟩,fun b z=>absurd z (m b),j.bs,j.bsz,fun b _ _=>m b,fun b z=>absurd z (m b),j.funs,j.frf⟩,
  rfl,j.bare,Un.kept F,⟨_,x.toInCall.ns,fun i y v h1 h2 M=>?_⟩,fun y c h=>⟨_,x.cell y c h⟩,j.hok.fresh (nR1 _),fun y c h=>?_,fun p o=>absurd (show p∈([]:List (Addr×Obj)) from o) (by simp),j.hok.kept F,?_⟩
 ·exact name_of_addr x.apart (PySem.mem_of_lookup h1) (PySem.mem_of_lookup h2)
 ·have l:scope.names.lookup y=some .cell\/scope.names.lookup y=some .free:=l;rcases l with l | l
  ·exact qh9 l
  ·exact absurd rfl (S.nofree _ (PySem.mem_of_lookup l))
 ·exact Nat.le_of_lt (x.above y c (PySem.mem_of_lookup h))
 ·have hi:i<vs.length:=by
   unfold start at h2;by_cases hi:i<vs.length
   ·exact hi
   ·rw [gR1 (by simpa using hi)] at h2;rw [List.getElem?_replicate] at h2;split at h2<;>cases h2
  have G:vs[i]? = some v:=by
   unfold start at h2;rw [gL1 (by simpa using hi),gP1] at h2;cases e:vs[i]? with
   | none=>rw [e] at h2;cases h2
   | some a=>rw [e] at h2;cases h2;rfl
  obtain ⟨u,D,J⟩:=r.get G;have o:ps[i]? = some y:=by
   rw [<- S.pre,List.getElem?_take_of_lt (by lia)];exact h1
  have t:ps.Nodup:=by rw [<- S.pre];exact S.nd.sublist (List.take_sublist _ _)
  refine ⟨u,J,?_⟩;rcases S.par y (gM1 o) with k | k
  ·exact .inl ⟨k,qgr t o D k⟩
  ·obtain ⟨c,e⟩:=qh9 (n:=s.heap.objs.size+1) k;refine .inr ⟨.inl k,c,e,?_⟩;have q:=x.cell y c e;rw [qgt t o D (by show scope.names.lookup y≠_;rw [k];decide)] at q;exact q
 ·exact j.hok.fresh (Nat.le_of_lt (x.above y c (PySem.mem_of_lookup h)))
 ·unfold start;show _=N.length;rw [lA1,lM1,lR1];lia
theorem qrI {CX:CXT}{P:Program}{w:World}{K:Fg1}{mg:Str->Option Value}{base:Heap}{k:Nat}{f:Addr}{name c:Str}{params:Arguments}{g:List Stmt}{scope:Scope}{R kV p T d ct W:Value}{L od:Option Addr}
  {D:Array (Option Value)} {N ps:List Str} {sp:Sp} (lk:K.lookup f=some ⟨W,od,.func (wF1 name c params g scope R kV p T L d ct),D⟩) (hcd:wC1 K d c=true) (S:qam N ps scope)
  (len:∀ vs H Q E,sp vs H Q E->vs.length=ps.length)
  (j:∀ (A:Around) (a:List Env) (s:Shared) (H:Hp) (vs:List V) (Q:VK) (E:XK),Room k (A.deeper (envOfC c scope s.heap.objs.size f d))->sp vs H Q E ->
   ∃ t,PSs (cxOf CX P w K mg base N c scope f d A a s H E) g t/\t {nx:=fun _ H'=>Q .non H',rt:=Q} (start N vs) H):
  FnOk P w K mg base CX (k+1) f (wF1 name c params g scope R kV p T L d ct) ps sp:=by
 refine ⟨len,fun A a s H O X vs Q E G z hb r B=>?_⟩;have hl:=len _ _ _ _ B;have M:K.In s.heap:=z.mod.kin.keeps fun b o e=>(z.bs b o e).1;have C:s.heap.NoLimit:=z.mod.nolimit.keeps fun b o e=>(z.bs b o e).1;have i:∀ y∈ps.zip X,scope.names.lookup y.1=some .local\/(scope.names.lookup y.1=some .cell/\((cellsFrom (s.heap.objs.size+1) scope.names []).lookup y.1).isSome=true):=fun ⟨n,v⟩ Y=>by
  rcases S.par n (List.of_mem_zip Y).1 with q | q
  ·exact .inl q
  ·exact .inr ⟨q,PySem.W.cellsFrom_some _ _ _ (.inl q)⟩
 refine codeAny_call_function G.depth (M _ _ lk) rfl S.co S.gen rfl (PySem.W.codeRec_of M hcd) (hb _ _ _ _ ?_);refine wpAny_newFunctionEnv_cells S.kind i fun env U s1 x=>?_;subst U;refine ⟨C.keeps x.toInCall.keep,codeAny_func ?_⟩;obtain ⟨t,ht,Z⟩:=j A a s H vs Q E (G.deeper _) B;have I:Inv (cxOf CX P w K mg base N c scope f d A a s H E) [] (start N vs) H s1:=qkd S G.hd z hl r x;refine wpAny_mono (ht [] s1 (start N vs) H _ I Z) (fun fl s' l=>?_) fun e s' l=>l;have m:∀ {h:St} {H':Hp} {v:V} {u:Value},Inv (cxOf CX P w K mg base N c scope f d A a s H E) [] h H' s'->RelV v u->Q v H'->CE a P w H s Q u s':=
  fun {h H' v u} J F q=>⟨v,H',J.os,J.bare,J.base,J.hok,F,q⟩
 cases fl with
 | ret u=>
  obtain ⟨v,h,H',J,F,q⟩:=l;exact m J F q
 | next=>
  obtain ⟨h,H',J,q⟩:=l;exact m (v:=V.non) (u:=Value.none) J rfl q
 | brk=>
  obtain ⟨_,_,_,q⟩:=l;exact False.elim q
 | cont=>
  obtain ⟨_,_,_,q⟩:=l;exact False.elim q
end L2
namespace L2
open PySem PySem.Spec PyProof.Rows
section
variable {X:Cx} {x:Str} {p pos:Pos} {e:Expr} {es:List Expr} {t:TA} {id T:String} {r:List V->Hp->VK->Prop}
noncomputable def tCB (r:List V->Hp->VK->Prop)(t:TA):TE:=fun σ H Q=>t σ H fun vs H1=>r vs H1 Q
theorem qhC (hc:qbd X (.builtin id) r)(hg:Gl X x)(hm:X.mg x=none)(hv:bootBuiltins x=some (.builtin id))(ha:PA X (e::es) t)(hn:x≠"__name__":=by decide)(hdb:(x == ("__debug__":Str))=false:=by decide)
  (he:starEach (e::es) X.env=(false,eval e X.env)::starEach es X.env:=by rfl) (hpl:(backTo pos (starEach es X.env)).any (·.1)=false:=by rfl):PE X (.Call (.Name x p) (e::es) [] pos) (tCB r t):=by
 intro pins s σ H Q I h;refine wpAny_Call_Name_kw (qdF I hg hm hv ?_ hn hdb);exact PyProof.Rows.callWith_builtin1 (thn (ha pos pins s σ H _ I h) fun a d ⟨vs,H1,b,c,f⟩=>hc pins d σ H1 vs a Q b c f) he hpl
theorem qfT (hc:qbd X (.type T) r)(hg:Gl X x)(hm:X.mg x=none)(hv:bootBuiltins x=some (.type T))(ha:PA X (e::es) t)(hn:x≠"__name__":=by decide)(hdb:(x == ("__debug__":Str))=false:=by decide)
  (he:starEach (e::es) X.env=(false,eval e X.env)::starEach es X.env:=by rfl) (hpl:(backTo pos (starEach es X.env)).any (·.1)=false:=by rfl):PE X (.Call (.Name x p) (e::es) [] pos) (tCB r t):=by
 intro pins s σ H Q I h;refine wpAny_Call_Name_kw (qdF I hg hm hv ?_ hn hdb);exact PyProof.Rows.callWith_type1 (thn (ha pos pins s σ H _ I h) fun a d ⟨vs,H1,b,c,f⟩=>hc pins d σ H1 vs a Q b c f) he hpl
end
end L2
namespace HT
open PySem PyProof.Rows
section
open PySem.SeqAt
open PySem.AutoSeq1 (wpAny_loadPart')
open PySem.MeetsSeq PySem.MeetsSeq2 PySem.MeetsSeq3
end
section
variable {prog:Program} {w:World} {A:Around} {E:Value->Shared->Prop} {s:Shared}
theorem qpe {t b:Addr}{vs ws:List Value}{Q:Value->Shared->Prop}(ht:IsTup s.heap t vs.toArray)(hb:IsTup s.heap b ws.toArray)(hv:vs≠[])
  (h1:ws=[]->Q (.ref t) s) (h2:ws≠[]->Q (.ref s.heap.objs.size) {s with heap:=s.heap.push {cls:=.type "tuple",data:=.seq (vs++ws).toArray}})
  (hsz:vs.length+ws.length<=sizeLine):wpAny (model prog w) A (binaryOp .Add (.ref t) (.ref b)) Q E s:=by
 obtain ⟨⟨cls,m,data,l⟩,h,hc,n,hd⟩:=id ht;obtain ⟨⟨k,g,j,d⟩,a,c,o,f⟩:=id hb;simp only at hc hd c f;subst hc hd c f;have e:vs.toArray++ws.toArray=(vs++ws).toArray:=by simp
 by_cases i:ws=[]
 ·exact concat_meets ⟨_,h,rfl⟩ ⟨_,a,rfl⟩ noFill_tuple_add seq_tuple_add PySem.F.slot_tuple_add PySem.F.entry_tuple_add (PySem.F.args_tuple_add_2 _ _)
   (tuple_addW1 t b vs.toArray ws.toArray n o m g l d (by simpa using hv) (by simp [i])) ⟨h,a,h1 i⟩
 ·refine concat_meets ⟨_,h,rfl⟩ ⟨_,a,rfl⟩ noFill_tuple_add seq_tuple_add PySem.F.slot_tuple_add PySem.F.entry_tuple_add (PySem.F.args_tuple_add_2 _ _)
   (tuple_addW2 t b vs.toArray ws.toArray n o m g l d (by simpa using hv) (by simpa using i) (by rw [sT1,sT1];exact hsz)) ⟨h,a,?_⟩
  rw [e];exact h2 i
noncomputable def sIx (n d:Nat):Option Int->Nat
 | none=>d
 | some v=>if v<0 then (v+(n:Int)).toNat else min v.toNat n
theorem qlb (n d:Nat):sIx n d none=d:=rfl
theorem qjp (n d k:Nat):sIx n d (some (k:Int))=min k n:=by
 show (if (k:Int)<0 then ((k:Int)+(n:Int)).toNat else min (k:Int).toNat n)=min k n;rw [if_neg (by lia),Int.toNat_natCast]
theorem qpX (n d:Nat)(hd:d<=n)(o:Option Int):sIx n d o<=n:=by
 cases o with
 | none=>exact hd
 | some v=>
  show (if v<0 then (v+(n:Int)).toNat else min v.toNat n)<=n;by_cases a:v<0
  ·rw [if_pos a];lia
  ·rw [if_neg a];exact Nat.min_le_right _ _
theorem qkF (v:Int)(n d:Nat):(if v<0 then max (v+(n:Int)) 0 else min v (n:Int))=((sIx n d (some v):Nat):Int):=by
 show (if v<0 then max (v+(n:Int)) 0 else min v (n:Int))=(((if v<0 then (v+(n:Int)).toNat else min v.toNat n):Nat):Int);by_cases a:v<0
 ·simp only [if_pos a];lia
 ·simp only [if_neg a];lia
theorem qiL (lo hi:Option Int)(n:Nat):Builtin.Slice.sliceAdjust lo hi 1 (n:Int)=(((sIx n 0 lo:Nat):Int),((sIx n n hi:Nat):Int)):=by
 have h1:¬ ((1:Int)<0):=by lia
 unfold Builtin.Slice.sliceAdjust;simp only [h1,if_false];refine Prod.ext ?_ ?_
 ·cases lo with
  | none=>rfl
  | some v=>exact qkF v n 0
 ·cases hi with
  | none=>rfl
  | some v=>exact qkF v n n
theorem qir (i j:Nat):Builtin.Slice.slicePlaces (i:Int) (j:Int) 1=j-i:=by
 unfold Builtin.Slice.slicePlaces;have h1:(1:Int)>0:=by lia
 simp only [h1,if_true,Int.ediv_one];split<;>lia
theorem qeI {v:Value}{o:Option Int}{Q:Option Int->Shared->Prop}(p:IsPart v o)(h:Q o s):wpAny (model prog w) A (Builtin.Slice.slicePartIndex v) Q E s:=by
 cases p with
 | none=>exact slicePart_none h
 | int i t=>exact slicePart_int h
theorem qcf {e:Addr}{c d:Value}{lo hi:Option Int}{n:Nat}{Q:Int×Int×Nat->Shared->Prop}(hs:s.heap.IsSliceOf e c d .none)(pl:IsPart c lo)(g:IsPart d hi)
  (h:Q (((sIx n 0 lo:Nat):Int),1,sIx n n hi-sIx n 0 lo) s):wpAny (model prog w) A (Builtin.Slice.sliceApplied (.ref e) (pure (n:Int))) Q E s:=by
 obtain ⟨i,a,f,b⟩:=id hs;unfold Builtin.Slice.sliceApplied Builtin.Slice.sliceFields;refine wB1 (wB1 (wpAny_field a b (x:=c) rfl (wB1 (wpAny_field a b (x:=d) rfl (wB1 (wpAny_field a b (x:=.none) rfl (wP1 ?_)))))));refine wB1 (slicePart_none ?_);show wpAny _ _ (if ((1:Int) == 0)=true then _ else _) _ _ s;rw [if_neg (by decide)];refine wB1 (qeI pl (wB1 (qeI g (wB1 (wP1 ?_)))));show wpAny _ _ (match Builtin.Slice.sliceAdjust lo hi 1 (n:Int) with | (lo,hi)=>pure (lo,(1:Int),Builtin.Slice.slicePlaces lo hi 1)) _ _ s;rw [qiL lo hi n];show wpAny _ _ (pure (((sIx n 0 lo:Nat):Int),(1:Int),Builtin.Slice.slicePlaces ((sIx n 0 lo:Nat):Int) ((sIx n n hi:Nat):Int) 1)) _ _ s;rw [qir];exact wP1 h
theorem qlq (xs:Array Value)(i k:Nat):((List.range k).filterMap fun (m:Nat)=>xs[((i:Int)+(m:Int)*1).toNat]?).toArray=((xs.toList.drop i).take k).toArray:=by
 have e:(fun (m:Nat)=>xs[((i:Int)+(m:Int)*1).toNat]?)=fun m=>xs[i+m]?:=by
  funext m
  have:((i:Int)+(m:Int)*1).toNat=i+m:=by lia
  rw [this]
 rw [e];have:=pick_run xs i k;rw [List.filterMap_map] at this;have a:((fun x=>xs[x]?)∘fun x=>i+x)=fun m=>xs[i+m]?:=rfl;rw [a] at this;rw [this]
theorem qdv {t d:Addr}{items:Array Value}{g i:Value}{lo hi:Option Int}{Q:Value->Shared->Prop}(ht:IsTup s.heap t items)(hs:s.heap.IsSliceOf d g i .none)(pl:IsPart g lo)(k:IsPart i hi)
  (hw:¬ (sIx items.size 0 lo=0/\sIx items.size items.size hi=items.size))
  (h:Q (.ref s.heap.objs.size) {s with heap:=s.heap.push {cls:=.type "tuple",data:=.seq ((items.toList.drop (sIx items.size 0 lo)).take (sIx items.size items.size hi-sIx items.size 0 lo)).toArray}})
  (hsz:items.size<=sizeLine):wpAny (model prog w) A (getItem (.ref t) (.ref d)) Q E s:=by
 have a:sizeOk (.seq ((items.toList.drop (sIx items.size 0 lo)).take (sIx items.size items.size hi-sIx items.size 0 lo)).toArray):=by
  show ((items.toList.drop (sIx items.size 0 lo)).take (sIx items.size items.size hi-sIx items.size 0 lo)).toArray.size<=sizeLine;rw [sT1,List.length_take,List.length_drop,Array.length_toList];omega
 have n:sIx items.size items.size hi<=items.size:=qpX _ _ (nR1 _) hi;obtain ⟨j,c,b,l⟩:=id hs;have f:s.TypeIs (.ref d) "slice":=⟨j,c,b⟩;unfold getItem
 try with_reducible refine wpAny_holding ?_
 first | refine wB1 (wP1 ?_) | skip
 refine wB1 (wpAny_sequenceKey ht.typeIs (by decide) ?_);refine wB1 (wpAny_callSpecial?_slot (name:=Str.ofString "__getitem__") ht.typeIs PyProof.Rows.slot_tuple_getitem
  (wE1 PyProof.Rows.slot_tuple_getitem ht.typeIs entry_tuple_getitem ?_ (args_tuple_getitem _ _)))
 show wpAny _ _ (Builtin.Tuple.tupleItemsOf (.ref t) >>= _) _ _ s;refine wB1 (tupleItemsOf_ ht ?_);refine wB1 (wpAny_typeOf f ?_);rw [if_pos (by decide)];refine wB1 (qcf hs pl k ?_);have e:¬ ((((sIx items.size 0 lo:Nat):Int) == 0&&(1:Int) == 1&&(sIx items.size items.size hi-sIx items.size 0 lo) == items.size)=true):=by
  intro q;rw [bA1,bA1] at q;have p:((sIx items.size 0 lo:Nat):Int)=0:=eq_of_beq q.1.1;have o:sIx items.size items.size hi-sIx items.size 0 lo=items.size:=eq_of_beq q.2;exact hw ⟨by omega,by omega⟩
 show wpAny _ _ (if (((sIx items.size 0 lo:Nat):Int) == 0&&(1:Int) == 1&&(sIx items.size items.size hi-sIx items.size 0 lo) == items.size)=true then _ else _) _ _ s;rw [if_neg e,qlq]
 first
  | exact wB1 (m:=Builtin.Tuple.tupleExact _) (wO1 (wP1 ⟨_,rfl,wP1 h⟩) a)
  | exact wB1 (m:=Builtin.Tuple.tupleExact _) (wO1 (wB1 (wP1 (wP1 ⟨_,rfl,wP1 h⟩))) a)
  | exact wB1 (wB1 (m:=Builtin.Tuple.tupleExact _) (wO1 (wP1 (wP1 ⟨_,rfl,wP1 h⟩)) a))
  | exact wB1 (wB1 (m:=Builtin.Tuple.tupleExact _) (wO1 (wP1 ⟨_,rfl,wP1 h⟩) a))
end
end HT
namespace L2
open PySem PySem.Spec PyProof.Rows
noncomputable abbrev TO:=St->Hp->(Option Int->Hp->Prop)->Prop
noncomputable def PO (X:Cx)(e:Option Expr)(t:TO):Prop:=
 ∀ (pins:List (Addr×Obj)) (s:Shared) (σ:St) (H:Hp) (Q:Option Int->Hp->Prop),Inv X pins σ H s->t σ H Q ->
  wpAny (model X.prog X.w) X.A (evalPart e X.env) (fun u s'=>∃ o H',Inv X pins σ H' s'/\IsPart u o/\Q o H') X.xe s
noncomputable def qno:TO:=fun _ H Q=>Q none H
noncomputable def qsr (t:TE):TO:=fun σ H Q=>t σ H fun x H1=>∃ i,x = .int i/\Q (some i) H1
section
variable {X:Cx} {e:Expr} {te:TE} {lo hi:Option Expr} {tl th:TO} {pos p2:Pos}
theorem qnT:PO X none qno:=by
 intro pins s σ H Q I h;rw [evalPart_none];exact wP1 ⟨none,H,I,.none,h⟩
theorem qnS (h:PE X e te):PO X (some e) (qsr te):=by
 intro pins s σ H Q I c;rw [evalPart_some];refine thn (h pins s σ H _ I c) fun u f ⟨x,H1,a,b,d⟩=>?_;obtain ⟨i,rfl,q⟩:=d;obtain ⟨t,rfl⟩:=b;exact ⟨some i,H1,a,.int i t,q⟩
noncomputable def SlR (X:Cx)(r:V->Option Int->Option Int->Hp->VK->Prop):Prop:=
 ∀ (pins:List (Addr×Obj)) (s:Shared) (σ:St) (H:Hp) (x:V) (v vl vu:Value) (lo hi:Option Int) (sl:Addr) (Q:VK),Inv X pins σ H s->RelV x v->s.heap.IsSliceOf sl vl vu .none->IsPart vl lo->IsPart vu hi->r x lo hi H Q ->
  ∃ T id,typeLookup (.type T) "__getitem__"=pure (some (.builtin id))/\s.TypeIs v T/\wpAny (model X.prog X.w) X.A (getItem v (.ref sl)) (EP X pins σ Q) X.xe s
theorem SlR.or {r g:V->Option Int->Option Int->Hp->VK->Prop}(h:SlR X r)(h':SlR X g):SlR X (fun x lo hi H Q=>r x lo hi H Q\/g x lo hi H Q):=by
 intro pins s σ H x v a f lo hi c Q I e b pl d q;rcases q with q | q
 ·exact h pins s σ H x v a f lo hi c Q I e b pl d q
 ·exact h' pins s σ H x v a f lo hi c Q I e b pl d q
noncomputable def tSl (r:V->Option Int->Option Int->Hp->VK->Prop)(te:TE)(tl th:TO):TE:=fun σ H Q=>te σ H fun x H1=>tl σ H1 fun l H2=>th σ H2 fun u H3=>r x l u H3 Q
theorem qlt {r:V->Option Int->Option Int->Hp->VK->Prop}(hr:SlR X r)(he:PE X e te)(A:PO X lo tl)(k:PO X hi th):PE X (.Subscript e (.Slice lo hi none p2) pos) (tSl r te tl th):=by
 intro pins s σ H Q I h;refine Subscript_ (thn (he pins s σ H _ I h) fun v n ⟨x,H1,j,y,o⟩=>?_);refine wpAny_Slice (thn (A pins n σ H1 _ j o) fun c C ⟨l,H2,m,pl,i⟩=>thn (k pins C σ H2 _ m i) fun d a ⟨u,f,g,t,z⟩=>?_);rw [evalPart_none];refine wP1 ?_;have p:Inv X pins σ f {a with heap:=a.heap.push {cls:=.type "slice",data:=.fields #[c,d,.none]}}:=g.kept (t':=a.toks) fun b E q=>hP1 _ q;obtain ⟨T,id,D,B,w⟩:=hr pins {a with heap:=a.heap.push {cls:=.type "slice",data:=.fields #[c,d,.none]}} σ f x v c d l u a.heap.objs.size Q p y (Heap.IsSliceOf.new ..) pl t z;show wpAny (model X.prog X.w) X.A (subscriptTail e (.Slice lo hi none p2) v (.ref a.heap.objs.size)) (EP X pins σ Q) X.xe {a with heap:=a.heap.push {cls:=.type "slice",data:=.fields #[c,d,.none]}};exact tail_any (ops:=[.ref a.heap.objs.size,v]) B D w (by with_unfolding_all rfl)
noncomputable def cutV (xs:List V)(lo hi:Option Int):List V:=(xs.drop (HT.sIx xs.length 0 lo)).take (HT.sIx xs.length xs.length hi-HT.sIx xs.length 0 lo)
theorem qeo (xs:List V)(lo hi:Option Int):(cutV xs lo hi).length<=xs.length:=by
 unfold cutV;rw [List.length_take,List.length_drop];lia
noncomputable def rSlT (K:Fg1):V->Option Int->Option Int->Hp->VK->Prop:=fun x lo hi H Q=>∃ a xs,x = .ref a/\SqT K H a xs /\
 ¬ (HT.sIx xs.length 0 lo=0/\HT.sIx xs.length xs.length hi=xs.length) /\ ∀ p,H p=none->Q (.ref p) (upd H p (.tup (cutV xs lo hi)))
theorem qpT:SlR X (rSlT X.K):=by
 intro pins s σ H x v m t lo hi p Q I j g pl i h;obtain ⟨a,xs,rfl,l,k,q⟩:=h;cases j;obtain ⟨d,r,f,e⟩:=I.tuple l;have c:d.toArray.size=xs.length:=by rw [sT1];exact r.length.symm
 refine ⟨"tuple",_,PyProof.Rows.slot_tuple_getitem.lookup,f.typeIs,?_⟩;refine HT.qdv f g pl i (by rw [c];exact k) ?_ (by rw [c];exact e);rw [c];refine ⟨.ref s.heap.objs.size,_,I.laid (t':=s.toks) (o:=.tup (cutV xs lo hi)) (fun b n q=>hP1 _ q) (nR1 _) ?_,rfl,q _ (I.hok.fresh (nR1 _))⟩;exact ⟨Nat.le_trans (qeo xs lo hi) e,_,(r.drop (HT.sIx xs.length 0 lo)).take (HT.sIx xs.length xs.length hi-HT.sIx xs.length 0 lo),IsTup.new _ _⟩
noncomputable def qsE (K:Fg1):R2:=fun x y H Q=>∃ a b xs ys,x = .ref a/\y = .ref b/\SqT K H a xs/\SqT K H b ys/\xs≠[]/\xs.length+ys.length<=sizeLine /\
 (ys=[]->Q (.ref a) H)/\(ys≠[] -> ∀ p,H p=none->Q (.ref p) (upd H p (.tup (xs++ys))))
theorem Vals.nil_iff {xs:List V}{a:List Value}(r:Vals xs a):a=[]↔xs=[]:=by
 cases r with
 | nil=>simp
 | cons _ _=>simp
theorem qn6:OpR X (binaryOp .Add) (qsE X.K):=by
 intro pins s σ H x y v u Q I j m h;obtain ⟨a,b,xs,ys,rfl,rfl,f,l,g,e,p,k⟩:=h;cases j;cases m;obtain ⟨n,c,i,_⟩:=I.tuple f;obtain ⟨d,r2,p2,_⟩:=I.tuple l;refine HT.qpe i p2 (fun z=>g (c.nil_iff.mp z)) (fun z=>⟨.ref a,H,I,rfl,p (r2.nil_iff.mp z)⟩) (fun z=>?_) (by rw [<- c.length,<- r2.length];exact e);refine ⟨.ref s.heap.objs.size,_,I.laid (t':=s.toks) (o:=.tup (xs++ys)) (fun b r q=>hP1 _ q) (nR1 _) ?_,rfl,k (fun w=>z (r2.nil_iff.mpr w)) _ (I.hok.fresh (nR1 _))⟩;exact ⟨by rw [lA1];exact e,_,c.append r2,IsTup.new _ _⟩
end
end L2
namespace L2
open PySem PySem.Spec PyProof.Rows
noncomputable def ixN (n:Nat)(i:Int):Option Nat:=if 0<=i then (if i<n then some i.toNat else none) else if-(n:Int)<=i then some (i+n).toNat else none
noncomputable def atI {α:Type}(xs:List α)(i:Int):Option α:=(ixN xs.length i).bind fun j=>xs[j]?
theorem qg6 {n:Nat}{i:Int}{j:Nat}(h:ixN n i=some j):seqIndex? i n=some j/\j<n /\ -(n:Int)<=i/\i<n:=by
 unfold ixN at h;by_cases a:0<=i
 ·rw [if_pos a] at h;by_cases h1:i<n
  ·rw [if_pos h1] at h;have e:i.toNat=j:=Option.some.inj h;exact ⟨by rw [seqIndex_of a h1,e],by lia,by lia,h1⟩
  ·rw [if_neg h1] at h;cases h
 ·rw [if_neg a] at h;by_cases h1: -(n:Int)<=i
  ·rw [if_pos h1] at h;have e:(i+n).toNat=j:=Option.some.inj h;exact ⟨by rw [seqIndex_neg (by lia) h1,e],by lia,h1,by lia⟩
  ·rw [if_neg h1] at h;cases h
theorem qkP {α:Type}{xs:List α}{i:Int}{v:α}(h:atI xs i=some v):∃ j,seqIndex? i xs.length=some j/\xs[j]? = some v/\j<xs.length /\ -(xs.length:Int)<=i/\i<xs.length:=by
 unfold atI at h;cases e:ixN xs.length i with
 | none=>rw [e] at h;cases h
 | some j=>
  rw [e] at h;obtain ⟨h1,h2,b,a⟩:=qg6 e;exact ⟨j,h1,h,h2,b,a⟩
theorem qpl {α:Type}{xs:List α}{j:Nat}{v:α}(h:xs[j]? = some v):atI xs (j:Int)=some v:=by
 have a:j<xs.length:=(gE1.mp h).1;have e:ixN xs.length (j:Int)=some j:=by
  unfold ixN;rw [if_pos (by lia),if_pos (by lia)];simp
 unfold atI;rw [e];exact h
noncomputable def qfD (b:Expr):Prop:=∀ o i,subscripted b false o i=operate [o,i] (getItem o i)
noncomputable def IxR (X:Cx)(r:R2):Prop:=
 ∀ (value slice:Expr) (pins:List (Addr×Obj)) (s:Shared) (σ:St) (H:Hp) (x y:V) (v u:Value) (Q:VK),Inv X pins σ H s->RelV x v->RelV y u->r x y H Q ->
  subscripted slice false v u=operate [v,u] (getItem v u)->wpAny (model X.prog X.w) X.A (subscriptTail value slice v u) (EP X pins σ Q) X.xe s
noncomputable def MtR (X:Cx)(id:String)(r:V->List V->Hp->VK->Prop):Prop:=
 ∀ (pins:List (Addr×Obj)) (s:Shared) (σ:St) (H:Hp) (x:V) (xs:List V) (v:Value) (us:List Value) (Q:VK),Inv X pins σ H s->RelV x v->Vals xs us->r x xs H Q ->
  wpAny (model X.prog X.w) X.A (call (.builtin id) (v::us)) (EP X pins σ Q) X.xe s
section
variable {X:Cx} {a b:Expr} {ta tb:TE} {pos:Pos}
theorem qsN {r:R2}(hr:IxR X r)(ha:PE X a ta)(hb:PE X b tb)(hs:qfD b):PE X (.Subscript a b pos) (tOp r ta tb):=by
 intro pins s σ H Q I h;exact Subscript_ (binT ha hb I h fun v u c x y H2 e d f q=>hr a b pins c σ H2 x y v u Q e d f q (hs _ _))
noncomputable def rIxL (K:Fg1):R2:=fun x y H Q=>∃ p xs i v,x = .ref p/\y = .int i/\SqL K H p xs/\atI xs i=some v/\Q v H
noncomputable def rIxT (K:Fg1):R2:=fun x y H Q=>∃ p xs i v,x = .ref p/\y = .int i/\SqT K H p xs/\atI xs i=some v/\Q v H
theorem qoQ:IxR X (rIxL X.K):=by
 intro value e pins s σ H x y v u Q I n A h f;obtain ⟨p,xs,i,z,rfl,rfl,o,m,q⟩:=h;cases n;obtain ⟨t,rfl⟩:=A;obtain ⟨d,r,pl,E⟩:=I.list o;obtain ⟨j,h1,h2,D,l,B⟩:=qkP m;obtain ⟨w,g,b⟩:=r.get h2;have C:=r.length;have F:=qeM;have a:EP X pins σ Q w s:=⟨z,H,I,b,q⟩;by_cases k:0<=i
 ·have c:i.toNat=j:=by
   rw [seqIndex_of k B] at h1;exact Option.some.inj h1
  exact item_listR pl.isList k (by lia) (by rw [c];simpa using g) a f
 ·have c:(i+(d.toArray.size:Int)).toNat=j:=by
   rw [seqIndex_neg (by lia) l] at h1;rw [sT1,<- C];exact Option.some.inj h1
  exact subscriptTail_builtinR (x:=w) pl.isList.typeIs slot_list_getitem.lookup
   (wpAny_getItem_list_neg (Q:=fun r s'=>r=w/\EP X pins σ Q r s') pl.isList (by lia) (by rw [sT1]<;>lia) (by lia) (by rw [c];simpa using g) ⟨rfl,a⟩) f
theorem ix_tup:IxR X (rIxT X.K):=by
 intro value c pins s σ H x y v u Q I f k h e;obtain ⟨p,xs,i,z,rfl,rfl,g,d,q⟩:=h;cases f;obtain ⟨t,rfl⟩:=k;obtain ⟨n,r,pl,B⟩:=I.tuple g;obtain ⟨j,h1,h2,A,o,C⟩:=qkP d;obtain ⟨w,l,a⟩:=r.get h2;have m:=r.length;have D:=qeM;have b:EP X pins σ Q w s:=⟨z,H,I,a,q⟩;exact subscriptTail_builtinR (x:=w) pl.typeIs slot_tuple_getitem.lookup
  (getItem_tuple (j:=j) (Q:=fun r s'=>r=w/\EP X pins σ Q r s') pl (by lia) (by lia) (by rw [sT1,<- m];exact h1) (by simpa using l) ⟨rfl,b⟩) e
theorem qiC (a:List Value)(n j:Nat)(u:Value):Obj.mapSeq (·.setIfInBounds j u) {cls:=.type "list",data:=.seq a.toArray n}={cls:=.type "list",data:=.seq (a.set j u).toArray n}:=by
 simp [Obj.mapSeq]
theorem Inv.lst {pins:List (Addr×Obj)}{σ:St}{H:Hp}{s:Shared}{p:Addr}{xs:List V}(I:Inv X pins σ H s)(h:H p=some (.lst xs)):
  ∃ (a:List Value) (n:Nat),Vals xs a/\s.heap.get? p=some {cls:=.type "list",data:=.seq a.toArray n}/\xs.length<=sizeLine:=by
 obtain ⟨z,a,n,r,e⟩:=I.hok p _ h;exact ⟨a,n,r,e,z⟩
theorem Inv.lstUpd {pins:List (Addr×Obj)}{σ:St}{H:Hp}{s:Shared}{p:Addr}{xs ys:List V}{a its':List Value}{n c:Nat}{f:Obj->Obj}(I:Inv X pins σ H s)(h:H p=some (.lst xs))
  (ho:s.heap.get? p=some {cls:=.type "list",data:=.seq a.toArray n}) (hf:f {cls:=.type "list",data:=.seq a.toArray n}={cls:=.type "list",data:=.seq its'.toArray c}) (r:Vals ys its') (hz:ys.length<=sizeLine) (t:Nat):
  Inv X pins σ (upd H p (.lst ys)) {s with heap:=s.heap.update p f,toks:=t}:=by
 have e:(s.heap.update p f).get? p=some {cls:=.type "list",data:=.seq its'.toArray c}:=by
  rw [hW1 f ho (by rw [hf]<;>rfl),hf]
 refine I.write (x:=p) (e:=p) (by rw [h];trivial) (.inl rfl) (fun b u d q=>(Heap.get?_update_other _ _ (Ne.symm d)).trans q) ⟨_,e⟩ ?_;exact ⟨hz,its',c,r,e⟩
noncomputable def qsD:V->V->V->Hp->(Hp->Prop)->Prop:=fun o i v H Q=>∃ p xs k j,o = .ref p/\i = .int k/\H p=some (.lst xs)/\ixN xs.length k=some j/\Q (upd H p (.lst (xs.set j v)))
theorem qk6:PSet X qsD:=by
 intro pins s σ H o i v B D u Q I w z A h;obtain ⟨p,xs,k,j,rfl,rfl,l,x,q⟩:=h;cases w;obtain ⟨t,rfl⟩:=z;obtain ⟨a,n,r,b,y⟩:=I.lst l;obtain ⟨h1,h2,f,e⟩:=qg6 x;have d:=r.length;have C:=qeM;have g:Inv X pins σ (upd H p (.lst (xs.set j v))) {s with heap:=s.heap.update p (Obj.mapSeq (·.setIfInBounds j u))}:=
  I.lstUpd l b (qiC a n j u) (r.set A j) (by rw [List.length_set];exact y) s.toks
 by_cases m:0<=k
 ·have c:k.toNat=j:=by
   rw [seqIndex_of m e] at h1;exact Option.some.inj h1
  exact PySem.W.ki_setAt b m (by lia) (by rw [sT1,<- d];exact e) (by rw [c];exact ⟨_,g,q⟩)
 ·have c:(k+(a.toArray.size:Int)).toNat=j:=by
   rw [seqIndex_neg (by lia) f] at h1;rw [sT1,<- d];exact Option.some.inj h1
  exact PySem.W.ki_setBack b (by lia) (by rw [sT1,<- d];exact f) (by lia) (by rw [c];exact ⟨_,g,q⟩)
theorem qfK (lo hi:Option Int)(n:Nat):(sliceBounds lo hi none n).1=((HT.sIx n 0 lo:Nat):Int)/\(sliceBounds lo hi none n).2.1=((HT.sIx n n hi:Nat):Int)/\(sliceBounds lo hi none n).2.2=1:=by
 refine ⟨?_,?_,rfl⟩
 ·cases lo with
  | none=>simp [sliceBounds,HT.sIx]
  | some i=>
   simp only [sliceBounds,HT.sIx,Option.getD_none,show (1:Int)>0 by decide,if_true];by_cases h:i<0
   ·simp only [h,if_true]<;>lia
   ·simp only [h,if_false]<;>lia
 ·cases hi with
  | none=>simp [sliceBounds,HT.sIx]
  | some i=>
   simp only [sliceBounds,HT.sIx,Option.getD_none,show (1:Int)>0 by decide,if_true];by_cases h:i<0
   ·simp only [h,if_true]<;>lia
   ·simp only [h,if_false]<;>lia
theorem qe2 (a:List Value)(lo hi:Option Int):slicePick a.toArray lo hi none=((a.drop (HT.sIx a.length 0 lo)).take (HT.sIx a.length a.length hi-HT.sIx a.length 0 lo)).toArray:=by
 obtain ⟨h1,h2,b⟩:=qfK lo hi a.toArray.size;unfold slicePick;rw [h1,h2,b];simp only [sliceRange_one,pick_run,sT1]<;>rfl
noncomputable def rSlL (K:Fg1):V->Option Int->Option Int->Hp->VK->Prop:=fun x lo hi H Q=>∃ a xs,x = .ref a/\SqL K H a xs /\ ∀ p,H p=none->Q (.ref p) (upd H p (.lst (cutV xs lo hi)))
theorem qnu:SlR X (rSlL X.K):=by
 intro pins s σ H x v l p lo hi n Q I g e pl f h;obtain ⟨a,xs,rfl,k,q⟩:=h;cases g;obtain ⟨j,r,d,i⟩:=I.list k;have c:=r.length;refine ⟨"list",_,slot_list_getitem.lookup,d.isList.typeIs,?_⟩;refine wpAny_getItem_list_slice d.isList e pl f .none (by simp) ?_ (by rw [sT1]<;>lia);rw [qe2,<- c];refine ⟨.ref s.heap.objs.size,_,I.laid (t':=s.toks) (o:=.lst (cutV xs lo hi)) (fun b m q=>hP1 _ q) (nR1 _) ?_,rfl,q _ (I.hok.fresh (nR1 _))⟩;exact ⟨Nat.le_trans (qeo xs lo hi) i,_,0,(r.drop (HT.sIx xs.length 0 lo)).take (HT.sIx xs.length xs.length hi-HT.sIx xs.length 0 lo),Heap.get?_push_size _ rfl⟩
noncomputable def qeB:V->Bool
 | .non=>true
 | .bl _=>true
 | .int _=>true
 | .str _=>true
 | _=>false
noncomputable def eqV:V->V->Bool
 | .non,.non=>true
 | .bl a,.bl b=>a == b
 | .bl a,.int b=>(if a then 1 else 0) == b
 | .int a,.bl b=>a == (if b then 1 else 0)
 | .int a,.int b=>a == b
 | .str a,.str b=>a == b
 | _,_=>false
theorem qem {A:Around}{s:Shared}{y x:V}{u v:Value}(e:RelV y u)(c:RelV x v)(g:qeB y=true)(f:qeB x=true):SeqAt.EqAt A s u v (eqV y x):=by
 cases y with
 | non=>
  cases e;cases x with
  | non=>cases c;exact SeqAt.EqAt.same _
  | bl b=>cases c;exact SeqAt.EqAt.none_bool b
  | int b=>obtain ⟨t,rfl⟩:=c;exact SeqAt.EqAt.none_int b t
  | str b=>obtain ⟨t,rfl⟩:=c;exact SeqAt.EqAt.none_str b t
  | _=>exact absurd (show false=true from f) Bool.false_ne_true
 | bl a=>
  cases e;cases x with
  | non=>cases c;exact SeqAt.EqAt.bool_none a
  | bl b=>cases c;exact SeqAt.EqAt.bool_bool a b
  | int b=>obtain ⟨t,rfl⟩:=c;exact SeqAt.EqAt.bool_int a b t
  | str b=>obtain ⟨t,rfl⟩:=c;exact SeqAt.EqAt.bool_str a b t
  | _=>exact absurd (show false=true from f) Bool.false_ne_true
 | int a=>
  obtain ⟨d,rfl⟩:=e;cases x with
  | non=>cases c;exact SeqAt.EqAt.int_none a d
  | bl b=>cases c;exact SeqAt.EqAt.int_bool a d b
  | int b=>obtain ⟨t,rfl⟩:=c;exact SeqAt.EqAt.int_int a d b t
  | str b=>obtain ⟨t,rfl⟩:=c;exact SeqAt.EqAt.int_str a d b t
  | _=>exact absurd (show false=true from f) Bool.false_ne_true
 | str a=>
  obtain ⟨d,rfl⟩:=e;cases x with
  | non=>cases c;exact SeqAt.EqAt.str_none a d
  | bl b=>cases c;exact SeqAt.EqAt.str_bool a d b
  | int b=>obtain ⟨t,rfl⟩:=c;exact SeqAt.EqAt.str_int a d b t
  | str b=>obtain ⟨t,rfl⟩:=c;exact SeqAt.EqAt.str_str a d b t
  | _=>exact absurd (show false=true from f) Bool.false_ne_true
 | _=>exact absurd (show false=true from g) Bool.false_ne_true
theorem qgo:qbd X (.builtin "len") (fun xs H Q=>∃ p ys,xs=[.ref p]/\(SqL X.K H p ys\/SqT X.K H p ys)/\Q (.int ys.length) H):=by
 intro pins s σ H xs g Q I r h;obtain ⟨p,ys,rfl,b,q⟩:=h;obtain ⟨u,rfl,e⟩:=qdm r;cases e;have i:=qeM;rcases b with b | b
 ·obtain ⟨d,c,pl,f⟩:=I.list b;have a:=c.length;exact Calls.call_len_list pl.isList (by simp only [sT1]<;>lia) ⟨.int ys.length,H,I.tok _,⟨s.toks+1,by rw [sT1,a]⟩,q⟩
 ·obtain ⟨d,c,pl,f⟩:=I.tuple b;have a:=c.length;exact len_tuple pl (by simp only [sT1]<;>lia) ⟨.int ys.length,H,I.tok _,⟨s.toks+1,by rw [sT1,a]⟩,q⟩
theorem qgn:qbd X (.builtin "len") (fun xs H Q=>∃ z,xs=[.str z]/\z.length<=sizeLine/\Q (.int z.length) H):=by
 intro pins s σ H xs c Q I r h;obtain ⟨z,rfl,a,q⟩:=h;obtain ⟨u,rfl,t,rfl⟩:=qdm r;have b:=qeM;exact len_str (by lia) ⟨.int z.length,H,I.tok _,⟨_,rfl⟩,q⟩
theorem qgm:qbd X (.type "list") (fun xs H Q=>∃ p ys,xs=[.ref p]/\(SqL X.K H p ys\/SqT X.K H p ys) /\ ∀ l,H l=none->Q (.ref l) (upd H l (.lst ys))):=by
 intro pins s σ H xs v Q I r h;obtain ⟨p,ys,rfl,g,q⟩:=h;obtain ⟨u,rfl,t⟩:=qdm r;cases t;have j:∀ (a:List Value),Vals ys a->ys.length<=sizeLine -> ∀ (h':Heap) (d:Nat),(∀ b o',s.heap.get? b=some o'->h'.get? b=some o') ->
   h'.get? s.heap.objs.size=some {cls:=.type "list",dict:=none,data:=.seq a.toArray d,slots:= #[]}->EP X pins σ Q (.ref s.heap.objs.size) {s with heap:=h'}:=fun a c i h' d k e=>
  ⟨.ref s.heap.objs.size,_,I.laid (t':=s.toks) k (nR1 _) (show qaL X.prog X.w _ h' _ (.lst ys) from ⟨i,a,d,c,e⟩),rfl,q _ (I.hok.fresh (nR1 _))⟩
 rcases g with g | g
 ·obtain ⟨a,c,pl,i⟩:=I.list g;have f:=c.length;obtain ⟨o,m,hc,n,hd⟩:=pl.isList;exact call_list_seq p (.inl rfl) m hc hd (fun h' d k e=>j a c i h' d k e) (by simp only [sT1]<;>lia)
 ·obtain ⟨a,c,pl,i⟩:=I.tuple g;have f:=c.length;obtain ⟨o,m,hc,n,hd⟩:=pl;exact call_list_seq p (.inr rfl) m hc hd (fun h' d k e=>j a c i h' d k e) (by simp only [sT1]<;>lia)
theorem qfx:qbd X (.type "tuple") (fun xs H Q=>∃ p ys,xs=[.ref p]/\((SqL X.K H p ys /\ ∀ l,H l=none->Q (.ref l) (upd H l (.tup ys)))\/(SqT X.K H p ys/\Q (.ref p) H))):=by
 intro pins s σ H xs n Q I r h;obtain ⟨p,ys,rfl,h⟩:=h;obtain ⟨u,rfl,j⟩:=qdm r;cases j;rcases h with ⟨c,q⟩ | ⟨c,q⟩
 ·obtain ⟨a,d,pl,i⟩:=I.list c;have f:=d.length;refine call_tuple_list pl.isList (fun h' k=>?_) (by simp only [sT1]<;>lia);have g:Inv X pins σ H {s with heap:=h'}:=I.kept (t':=s.toks) k;have m:Inv X pins σ (upd H h'.objs.size (.tup ys)) {s with heap:=h'.push {cls:=.type "tuple",data:=.seq a.toArray}}:=
   g.laid (t':=s.toks) (fun b o e=>hP1 _ e) (nR1 _) (show qaL X.prog X.w _ _ _ (.tup ys) from ⟨i,a,d,IsTup.new _ _⟩)
  exact ⟨.ref h'.objs.size,_,m,rfl,q _ (g.hok.fresh (nR1 _))⟩
 ·obtain ⟨a,d,pl,i⟩:=I.tuple c;exact call_tuple_same pl ⟨.ref p,H,I,rfl,q⟩
noncomputable def tyV (K:Fg1)(T:String)(x:V)(H:Hp):Prop:=match x with
 | .str _=>T="str"
 | .int _=>T="int"
 | .ref p=>(T="list" /\ ∃ xs,SqL K H p xs)\/(T="tuple" /\ ∃ o,K.lookup p=some o/\o.cls = .type "tuple"/\o.dict=none) \/
   (T="dict"/\((∃ kvs,H p=some (.dK kvs)) \/ ∃ kvs,H p=some (.dT kvs)))\/(T="set" /\ ∃ S n,H p=some (.set S n))
 | _=>False
theorem qpB {pins:List (Addr×Obj)}{σ:St}{H:Hp}{s:Shared}{T:String}{x:V}{v:Value}(I:Inv X pins σ H s)(r:RelV x v)(ty:tyV X.K T x H):
  s.TypeIs v T /\ ∀ a,v = .ref a -> ∃ f,s.heap.get? a=some f/\f.dict=none:=by
 cases x with
 | str z=>
  obtain ⟨t,rfl⟩:=r;cases (show T="str" from ty);exact ⟨typeIs_str s z t,fun _ e=>nomatch e⟩
 | int i=>
  obtain ⟨t,rfl⟩:=r;cases (show T="int" from ty);exact ⟨typeIs_int s i t,fun _ e=>nomatch e⟩
 | ref p=>
  cases r;rcases ty with ⟨rfl,xs,g⟩ | ⟨rfl,o,b,hc,hd⟩ | ⟨rfl,b⟩ | ⟨rfl,S,n,b⟩
  ·obtain ⟨h,_,pl,_⟩:=I.list g;refine ⟨pl.isList.typeIs,fun a e=>?_⟩;cases e;obtain ⟨o,n,e,c,hd,_⟩:=pl;exact ⟨o,e,hd⟩
  ·refine ⟨⟨o,I.kIn p o b,hc⟩,fun a e=>?_⟩;cases e;exact ⟨o,I.kIn _ o b,hd⟩
  ·have z:∃ o,s.heap.get? p=some o/\o.ExactDict:=by
    rcases b with ⟨kvs,b⟩ | ⟨kvs,b⟩
    ·obtain ⟨_,_,_,_,o,_,_,e,ex,_⟩:=I.hok p _ b;exact ⟨o,e,ex⟩
    ·obtain ⟨_,_,_,_,o,_,_,e,ex,_⟩:=I.hok p _ b;exact ⟨o,e,ex⟩
   obtain ⟨o,e,ex⟩:=z;refine ⟨⟨o,e,ex.1⟩,fun a d=>?_⟩;cases d;exact ⟨o,e,ex.2.1⟩
  ·obtain ⟨o,_,_,_,e,ex,_⟩:=I.hok p _ b;refine ⟨⟨o,e,ex.1⟩,fun a d=>?_⟩;cases d;exact ⟨o,e,ex.2.1⟩
 | _=>exact False.elim ty
noncomputable def tBM (K:Fg1)(T:String)(r:V->List V->Hp->VK->Prop)(to:TE)(t:TA):TE:=fun σ H Q=>to σ H fun x H1=>tyV K T x H1/\t σ H1 fun xs H2=>r x xs H2 Q
variable {o e:Expr} {es:List Expr} {to:TE} {t:TA} {name:Str} {apos cpos:Pos} {T id:String} {r:V->List V->Hp->VK->Prop}
theorem qsO (g:PlainAttrs T)(slot:Slot T name id)(hty:typeOf (.builtin id)=pure (.type "method_descriptor"))(hm:MtR X id r)(ho:PE X o to)(ha:PA X (e::es) t)
  (hbase:attributeBase o name X.env (eval o X.env)=eval o X.env:=by rfl)
  (hfew:((backTo cpos (starEach (e::es) X.env)).all (fun x=> !x.1)&&(backToKw cpos (keywordEach [] X.env)).all (fun x=>x.1.isSome)
   && decide ((e::es).length+([]:List Keyword).length+(if ([]:List Keyword).isEmpty then 0 else 1)<30))=true:=by rfl)
  (hline:(apos.endLine == cpos.line)=true:=by rfl) (hs:starEach (e::es) X.env=(false,eval e X.env)::starEach es X.env:=by rfl) (hplain:(backTo cpos (starEach es X.env)).any (·.1)=false:=by rfl):
  PE X (.Call (.Attribute o name apos) (e::es) [] cpos) (tBM X.K T r to t):=by
 intro pins s σ H Q I h;refine wpAny_Call_method_late hbase hfew hline rfl (thn (ho pins s σ H _ I h) fun v k ⟨x,H1,b,c,ty,l⟩=>?_);obtain ⟨h1,h2⟩:=qpB b c ty;refine ⟨T,id,g,slot,hty,h1,h2,?_⟩;have a:=ha cpos pins k σ H1 _ b l;rw [hs] at a ⊢;refine Calls.callWith_builtin (by show (false||(backTo cpos (starEach es X.env)).any (·.1))=false;rw [hplain]<;>rfl) (Calls.evalArgs_plain ?_);exact thn a fun d j ⟨vs,H2,i,r2,f⟩=>hm pins j σ H2 x vs v d Q i c r2 f
end
end L2
namespace L2
open PySem PySem.Spec PyProof.Rows
noncomputable def MtM (X:Cx)(id:String)(r:V->List V->Hp->VK->Prop):Prop:=
 ∀ (pins:List (Addr×Obj)) (s:Shared) (σ:St) (H:Hp) (x:V) (xs:List V) (v:Value) (us:List Value) (Q:VK),Inv X pins σ H s->RelV x v->Vals xs us->r x xs H Q ->
  wpAny (model X.prog X.w) X.A (call (.builtin id) (v::us)) (EP X pins σ Q) X.xe s
theorem Vals.one:∀ {x:V} {a:List Value},Vals [x] a -> ∃ u,a=[u]/\RelV x u:=by
 intro x a h;cases h with
 | cons r t=>cases t;exact ⟨_,rfl,r⟩
theorem Vals.eraseIdx:∀ {xs:List V} {a:List Value} (i:Nat),Vals xs a->Vals (xs.eraseIdx i) (a.eraseIdx i)
 | _,_,_,.nil=>.nil
 | _,_,0,.cons _ t=>t
 | _,_,i+1,.cons r t=>.cons r (Vals.eraseIdx i t)
theorem Vals.rep {xs:List V}{a:List Value}(h:Vals xs a):∀ k:Nat,Vals (List.replicate k xs).flatten (List.replicate k a).flatten
 | 0=>.nil
 | k+1=>by
  rw [List.replicate_succ,List.replicate_succ,List.flatten_cons,List.flatten_cons];exact Vals.append h (Vals.rep h k)
theorem qf6 {α:Type}:∀ (l:List α) (i:Nat),(l.eraseIdx i).length<=l.length
 | [],_=>nR1 _
 | _::_,0=>Nat.le_succ _
 | _::r,i+1=>Nat.succ_le_succ (qf6 r i)
theorem qgd (a:List Value):∀ (k:Nat) (acc:List Value),
  List.foldl (fun c d=>c++d) acc.toArray (List.replicate k a.toArray)=(acc++(List.replicate k a).flatten).toArray
 | 0,acc=>by simp
 | k+1,acc=>by
  have e:acc.toArray++a.toArray=(acc++a).toArray:=by simp
  have b:(acc++a)++(List.replicate k a).flatten=acc++(List.replicate (k+1) a).flatten:=by
   rw [List.replicate_succ,List.flatten_cons,List.append_assoc]
  rw [<- b,<- qgd a k (acc++a),<- e,List.replicate_succ,List.foldl_cons]
section
variable {X:Cx} {pins:List (Addr×Obj)} {σ:St} {H:Hp} {s:Shared} {l b:Addr} {xs ys zs:List V}
theorem Inv.lset {a its':List Value}{n:Nat}{f:Array Value->Array Value}{t':Nat}(I:Inv X pins σ H s)(c:H l=some (.lst xs))
  (e:s.heap.get? l=some {cls:=.type "list",data:=.seq a.toArray n}) (hf:f a.toArray=its'.toArray) (hv:Vals ys its') (hz:ys.length<=sizeLine):
  Inv X pins σ (upd H l (.lst ys)) {s with heap:=s.heap.update l (Obj.mapSeq f),toks:=t'}:=by
 have q:=PySem.IsL.update e f;rw [hf] at q;refine I.write (x:=l) (e:=l) (by rw [c];exact trivial) (.inl rfl) (fun g u d b=>(Heap.get?_update_other s.heap (Obj.mapSeq f) (Ne.symm d)).trans b) ⟨_,q⟩ ?_;exact ⟨hz,its',_,hv,q⟩
theorem Inv.lnew {a:List Value}{t':Nat}(I:Inv X pins σ H s)(hv:Vals ys a)(hz:ys.length<=sizeLine):
  Inv X pins σ (upd H s.heap.objs.size (.lst ys)) {s with heap:=s.heap.push {cls:=.type "list",data:=.seq a.toArray},toks:=t'}:=
 I.laid (fun _ _ q=>hP1 _ q) (nR1 _) ⟨hz,a,0,hv,Heap.get?_push_size _ rfl⟩
theorem Inv.fresh (I:Inv X pins σ H s):H s.heap.objs.size=none:=I.hok.fresh (nR1 _)
theorem Inv.lstM (I:Inv X pins σ H s)(b:H l=some (.lst xs)):xs.length<=sizeLine /\ ∃ (a:List Value) (n:Nat),Vals xs a/\xs.length=a.length/\s.heap.get? l=some {cls:=.type "list",data:=.seq a.toArray n}:=by
 obtain ⟨z,a,n,r,e⟩:=I.hok l _ b;exact ⟨z,a,n,r,r.length,e⟩
theorem qlH {n:Nat}(h:n<=sizeLine):Builtin.List.listTooLong n=false:=by
 unfold Builtin.List.listTooLong;exact decide_eq_false (by lia)
end
section
variable {X:Cx}
noncomputable def qnI:V->List V->Hp->VK->Prop:=fun x vs H Q=>∃ l xs y,x = .ref l/\vs=[y]/\H l=some (.lst xs)/\xs.length<sizeLine/\Q .non (upd H l (.lst (xs++[y])))
theorem qf4:MtM X "list.append" qnI:=by
 intro pins s σ H x vs v g Q I c d h;obtain ⟨l,xs,y,rfl,rfl,b,i,q⟩:=h;cases c;obtain ⟨u,rfl,f⟩:=d.one;obtain ⟨z,a,n,r,j,e⟩:=I.lstM b;refine call_meets F.slot_list_append ⟨_,e,rfl⟩ F.entry_list_append (F.args_list_append_2 _ _) (PySem.list_append l a.toArray n u (by rw [sT1];lia)) ⟨e,?_⟩;refine ⟨.non,_,I.lset (its':=a++[u]) b e (by simp) (r.append (.cons f .nil)) ?_,rfl,q⟩;rw [lA1,List.length_singleton];lia
noncomputable def qp2:V->List V->Hp->VK->Prop:=fun x vs H Q=>∃ l xs i k y,x = .ref l/\vs=[.int i]/\H l=some (.lst xs) /\ -(2^63)<=i/\i<2^63/\seqIndex? i xs.length=some k/\xs[k]? = some y/\Q y (upd H l (.lst (xs.eraseIdx k)))
theorem qlK:MtM X "list.pop" qp2:=by
 intro pins s σ H x vs v A Q I d o h;obtain ⟨l,xs,i,k,y,rfl,rfl,c,h1,h2,j,f,q⟩:=h;cases d;obtain ⟨u,rfl,p⟩:=o.one;obtain ⟨t,rfl⟩:=p;obtain ⟨z,a,n,r,m,e⟩:=I.lstM c;obtain ⟨w,g,b⟩:=r.get f;refine call_meets F.slot_list_pop ⟨_,e,rfl⟩ F.entry_list_pop (F.args_list_pop_2 _ _)
  (MeetsSeq.list_pop_at l a.toArray n i t k w (fitsIndex_both h1 h2) (by rw [sT1,<- m];exact j) (by rw [<- aT1];exact g) (by rw [sT1];lia)) ⟨e,?_⟩
 refine ⟨y,_,I.lset (its':=a.eraseIdx k) c e ?_ (r.eraseIdx k) ?_,b,q⟩
 ·show a.toArray.eraseIdxIfInBounds k=(a.eraseIdx k).toArray;rw [List.eraseIdxIfInBounds_toArray]
 ·have:=qf6 xs k;lia
noncomputable def rCat:R2:=fun x y H Q=>∃ l b xs zs,x = .ref l/\y = .ref b/\H l=some (.lst xs)/\H b=some (.lst zs)/\xs.length+zs.length<=sizeLine /\ ∀ p,H p=none->Q (.ref p) (upd H p (.lst (xs++zs)))
theorem qqK:OpR X (binaryOp .Add) rCat:=by
 intro pins s σ H x y v u Q I f m h;obtain ⟨l,b,xs,zs,rfl,rfl,g,j,p,q⟩:=h;cases f;cases m;obtain ⟨z,c,n,r,t,e⟩:=I.lstM g;obtain ⟨o,a,w,r2,d,k⟩:=I.lstM j;refine PySem.P.add_list e k ?_ (by rw [sT1,sT1];lia);have i:c.toArray++a.toArray=(c++a).toArray:=by simp
 rw [i];exact ⟨.ref _,_,I.lnew (t':=s.toks) (r.append r2) (by rw [lA1];lia),rfl,q _ I.fresh⟩
noncomputable def rRep:R2:=fun x y H Q=>∃ l k xs,x = .ref l/\y = .int k/\H l=some (.lst xs) /\ -(2^63)<=k/\k<2^63/\xs.length*k.toNat<=sizeLine /\
 ∀ p,H p=none->Q (.ref p) (upd H p (.lst (List.replicate k.toNat xs).flatten))
theorem qoF {α:Type}(xs:List α)(k:Nat):(List.replicate k xs).flatten.length=k*xs.length:=by
 induction k with
 | zero=>simp
 | succ k ih=>rw [List.replicate_succ,List.flatten_cons,lA1,ih,Nat.succ_mul,Nat.add_comm]
theorem qqG:OpR X (binaryOp .Mult) rRep:=by
 intro pins s σ H x y v u Q I A C h;obtain ⟨l,k,xs,rfl,rfl,B,h1,h2,p,q⟩:=h;cases A;obtain ⟨t,rfl⟩:=C;obtain ⟨z,b,n,r,w,e⟩:=I.lstM B;have d:b.toArray.size*k.toNat<=sizeLine:=by rw [sT1,<- w];exact p
 have i:¬ b.toArray.size*k.toNat>(2^63-1)/8:=by
  have:(sizeLine:Nat)<=(2^63-1)/8:=by decide
  lia
 have f:¬ (!Builtin.List.listFitsIndex k)=true:=by
  rw [fitsIndex_both h1 h2];exact Bool.false_ne_true
 have c:¬ Builtin.List.listTooLong (b.toArray.size*k.toNat)=true:=by
  rw [qlH d];exact Bool.false_ne_true
 have g:List.foldl (fun j o=>j++o) #[] (List.replicate (if b.toArray.isEmpty=true then 0 else k.toNat) b.toArray)=(List.replicate k.toNat b).flatten.toArray:=by
  have D:∀ m:Nat,List.foldl (fun j o=>j++o) #[] (List.replicate m b.toArray)=(List.replicate m b).flatten.toArray:=fun m=>by
   have:=qgd b m [];rw [List.nil_append] at this;exact this
  rw [D];cases b with
  | nil=>simp
  | cons a E=>rw [if_neg (by simp)]
 refine wpAny_binaryOp_repeat_ref (T:="list") (U:="int") (by decide) ⟨_,e,rfl⟩ (fun s'=>typeIs_int s' k t) noFill_list_mul F.fills_int_mul F.slot_int_rmul repeat_list F.slot_int_index.lookup
  (call_meets F.slot_int_rmul (typeIs_int s k t) F.entry_int_rmul (F.args_int_rmul_2 _ _) (int___rmul___int_list k t l b.toArray n)
   ⟨e,rfl,⟨_,e,rfl⟩,call_meets F.slot_list_mul ⟨_,e,rfl⟩ F.entry_list_mul (F.args_list_mul_2 _ _) (AutoListH.list___mul___list_int_3 l b.toArray n k t f i c) ⟨e,?_⟩⟩)
 rw [g];exact ⟨.ref _,_,I.lnew (t':=s.toks) (r.rep k.toNat) (by rw [qoF,Nat.mul_comm];exact p),rfl,q _ I.fresh⟩
end
section
variable {prog:Program} {w:World} {A:Around} {E:Value->Shared->Prop} {s:Shared}
end
section
variable {X:Cx}
end
end L2
namespace Att
open PySem PySem.W PySem.Calls PyProof.Rows
theorem qej {P:Params}{h:Heap}:∀ (ns:List Int) (vs:List Value),WellAll P h vs (ns.map WData.int)->IntsAre vs ns:=by
 intro ns
 induction ns with
 | nil=>
  intro vs w;rw [List.map_nil] at w;cases w;exact .nil
 | cons n ns ih=>
  intro vs w;rw [mP1] at w;cases w with
  | cons a b=>
   cases a;exact .cons _ _ (ih _ b)
theorem qjn {l:OpenLaw}{n:Nat}(hn:l.most=some n){P:Params}{h:Heap}{args:List WData}{b:List Value}
  (c:l.row.toRowW.claim.pre args=true) (j:WellAll P h b args):
  ∃ a vs ns,b=[Value.ref a]/\args=[WData.list (ns.map WData.int)]/\h.get? a=some {cls:=.type "list",data:=.seq vs.toArray}/\IntsAre vs ns/\ns.length<=n:=by
 have k:WShape.hasAll [] args [.list .int]=true:=(pre_splitW c).1;have hc:l.pre.holds [] {args:=args}=true:=(pre_splitW c).2;obtain ⟨d,r,rfl,h1,h2⟩:=hasAllW_cons k;obtain rfl:=hasAllW_nil h2;obtain ⟨xs,rfl,o⟩:=hasW_list h1;obtain ⟨ns,rfl⟩:=items_int o;have f:ns.length<=n:=by
  unfold OpenLaw.pre at hc;have i:(WTm.not (.lt (.lit (.int (n:Int))) (.len (.arg 0)))).holds [] {args:=[.list (ns.map .int)]}=true:=by
   have i:=(holds_andW hc).1;rw [hn] at i;exact i
  have g:=condW_of i (w_not (w_lt w_lit (w_len_list (w_arg rfl))));rw [lM1] at g;refine Nat.le_of_not_lt fun q=>?_;have m:(n:Int)<((ns.length:Nat):Int):=by omega
  first
   | (rw [decide_eq_true m] at g;exact absurd g (by decide))
   | (simp at g;omega)
 cases j with
 | cons t p=>
  cases p;cases t with
  | list s e=>exact ⟨_,_,ns,rfl,rfl,s,qej ns _ e,f⟩
theorem qjA (l:OpenLaw)(args:List WData):l.row.toRowW.claim.post args (.bool true) args=true:=
 postW_of (r:=l.row.toRowW) (X:=(true == true))
  (show WShape.has [] (.bool true) .bool=true by first | rfl | decide | simp [WShape.has,WShape.arms,WShape.armsAll])
  (show (WTm.eq .res (.lit (.bool true))).value [] {args:=args,res:=some (.bool true),after:=args}=some (.bool (true == true)) from w_eq_bool (w_res rfl) w_lit) rfl
theorem attach_call {l:OpenLaw}{n:Nat}{q:Program}{e:List Str}{XP:(Str->Option Value)->Heap->Prop}{z:World->Heap->Prop}{d:DefRec}
  (hn:l.most=some n) (x:d.params.defaults=[])
  (call:∀ (w:World) (c b:Shared) (mg s:Str->Option Value) (j:Addr) (o:Obj) (u p g:Value) (a:Addr) (vs:List Value) (ns:List Int),
   Ground q e [] XP w c mg s b.heap->z w b.heap ->
   b.heap.get? j=some o->o.data = .func (docDef d.name d.params d.body d.scope u p g)->b.heap.CodeRec p d.name->mg d.name=some (.ref j) ->
   b.heap.get? a=some {cls:=.type "list",data:=.seq vs.toArray}->IntsAre vs ns->ns.length<=n->b.gens = #[] ->
   codeAny (model l.prog w) callerA (.call (.ref j) ⟨[.ref a],[]⟩) (fun r s'=>r = .ok (.ret (.bool true))/\OldK b.heap s'.heap/\s'.os=b.os/\AllBare s'.gens) b):
  WalkO q e XP z l.row.toRowW d [] (fun f vs=>PySem.call f vs):=by
 intro w c b mg s G Y j o u p g I kV F hd v C y J A D as m B E t M;obtain rfl:I = .none:=Dflts.none C x;obtain rfl:kV = .none:=Dflts.noKw C;obtain ⟨a,vs,ns,rfl,rfl,i,h,k⟩:=qjn hn m t;refine enter_call (codeAny_mono (call w c b mg s j o u p g a vs ns G Y F (fd_plain hd) v y i h k J) fun r s' H=>?_);obtain ⟨rfl,h2,L,N⟩:=H;exact ⟨.inl ⟨.bool true,.bool true,[],rfl,fun _=>rfl,.bool true,qjA l _,fun _=>⟨List.Pairwise.nil,fun _ K=>(nomatch K)⟩⟩,h2,L,N⟩
section
variable {prog:Program} {w:World} {A:Around} {E:Value->Shared->Prop} {s:Shared} {K:Frag}
end
end Att
namespace L2
open PySem PySem.Spec PyProof.Rows
theorem qi6:∀ {vs:List Value} {ns:List Int},IntsAre vs ns->Vals (ns.map V.int) vs:=by
 intro vs ns h
 induction h with
 | nil=>exact .nil
 | cons n t h ih=>exact .cons ⟨t,rfl⟩ ih
noncomputable def Only (H:Hp):Prop:=∀ b,H b=none \/ ∃ o xs,H b=some (.frz o (.lst xs))
theorem qlY {P:Program}{w:World}{K:Fg1}{mg C:Str->Option Value}{CX:CXT}{k:Nat}{D a:Addr}{fd:FuncData}{x:Str}{sp:Sp}{s₁:Shared}{vs:List Value}{ns:List Int}
  (N:K.In s₁.heap) (i:s₁.heap.Ns mainGlobals mg) (hb:s₁.heap.Ns builtinsNs C) (E:∀ x:Str,x≠"__name__"->C x=bootBuiltins x) (l:s₁.heap.NoLimit) (hg:s₁.gens = #[])
  (ha:s₁.heap.get? a=some {cls:=.type "list",data:=.seq vs.toArray}) (hi:IntsAre vs ns) (R:ns.length<=sizeLine) (hr:Room k callerA)
  (F:∀ base:Heap,K.In base->base.Ns mainGlobals mg->FnOk P w K mg base CX k D fd [x] sp) (g:∀ (s:Shared) (u:Value),BindsTo s fd ⟨[u],[]⟩ [(x,u)])
  (I:∀ H:Hp,Only H->SqL K H a (ns.map V.int)->sp [.ref a] H (fun v _=>v = .bl true) fun _ _ _=>False)
  (G:∀ H e s',CX [] H s₁ (fun _ _ _=>False) e s'->False):
  codeAny (model P w) callerA (.call (.ref D) ⟨[.ref a],[]⟩) (fun r s'=>r = .ok (.ret (.bool true))/\OldK s₁.heap s'.heap/\s'.os=s₁.os/\AllBare s'.gens) s₁:=by
 have O:=qi6 hi;have p:=hi.length
 -- from an abstract heap in which nothing but the script may be tracked
 have f:∀ H:Hp,Only H->SqL K H a (ns.map V.int)->HOk P w H s₁.heap->(∀ b,H b≠none->b=a)->(H a≠none->K.lookup a=none) ->
   codeAny (model P w) callerA (.call (.ref D) ⟨[.ref a],[]⟩) (fun r s'=>r = .ok (.ret (.bool true))/\OldK s₁.heap s'.heap/\s'.os=s₁.os/\AllBare s'.gens) s₁:=by
  intro H S hS A Q Z;have base_of:∀ {b:Addr} {o:Obj},s₁.heap.get? b=some o->H b=none->(hidT s₁.heap H).get? b=some o:=fun e n=>ql1 e n;have J:∀ {b:Addr} {o:Obj} {es:Array DictEntry} {ep:Nat},s₁.heap.get? b=some o->o.data = .dict es ep->H b=none:=fun {b o es ep} e d=>by
   cases q:H b with
   | none=>rfl
   | some u=>
    have L:b=a:=Q b (by rw [q];simp);subst L;rw [ha] at e;cases e;have d':Data.seq vs.toArray _=Data.dict es ep:=d;cases d'
  have c:∀ {b:Addr} {m:Str->Option Value},s₁.heap.Ns b m->(hidT s₁.heap H).Ns b m:=fun {b m} ⟨o,es,ep,e,d,r⟩=>⟨o,es,ep,base_of e (J e d),d,r⟩;have t:K.In (hidT s₁.heap H):=fun b o e=>base_of (N b o e) (by
   cases q:H b with
   | none=>rfl
   | some u=>
    have L:b=a:=Q b (by rw [q];simp);subst L;rw [Z (by rw [q];simp)] at e;cases e)
  have W:Mod K mg (hidT s₁.heap H):=⟨t,c i,⟨C,c hb,E⟩,let ⟨mc,h1,h2⟩:=l;⟨mc,c h1,h2⟩⟩;have e0:Env0 P w K mg (hidT s₁.heap H) callerA [] s₁ H:=⟨rfl,W,fun b o e=>qn8 e,Nat.le_of_eq (qkf _ _),trivial,fun b hb=>absurd (show b∈([]:List Addr) from hb) (by simp),A,.of_eq hg⟩;refine codeAny_mono ((F _ t (c i)).run callerA [] s₁ H ⟨[.ref a],[]⟩ [.ref a] [.ref a] _ _ hr e0 (g s₁ (.ref a)) (.cons rfl .nil) (I H S hS)) fun r s' h=>?_;cases r with
  | error e=>exact (G H e s' h).elim
  | ok fl=>
   cases fl with
   | next=>exact False.elim h
   | brk=>exact False.elim h
   | cont=>exact False.elim h
   | ret u=>
    obtain ⟨v,H',T,y,un,j,Y,q⟩:=h;have U:v = .bl true:=q;subst U;obtain rfl:u=Value.bool true:=Y;refine ⟨rfl,OldK.of_keep fun b o e=>?_,T,y⟩;cases q:H b with
    | none=>exact un.keep b o e q (by intro z;exact absurd (show b∈([]:List Addr) from z) (by simp)) (by simp)
    | some u=>
     rcases S b with z | ⟨X,xs,z⟩
     ·rw [q] at z;cases z
     ·have z2:=un.frzs b X _ z;obtain ⟨M,_⟩:=A b _ z;obtain ⟨e2,_⟩:=j b _ z2;rw [e] at M;cases M;exact e2
 cases hk:K.lookup a with
 | some o=>
  -- the script is one of the module's own objects
  have e:=N a o hk;rw [ha] at e;cases e;refine f (fun _=>none) (fun _=>.inl rfl) (.inr ⟨_,vs.toArray,_,hk,rfl,rfl,rfl,by rw [sT1,p];exact R,by simpa using O⟩) (fun b u z=>by have B:(none:Option HO)=some u:=z;cases B) (fun b z=>absurd rfl z) fun z=>absurd rfl z
 | none=>
  refine f (fun b=>if b=a then some (.frz {cls:=.type "list",data:=.seq vs.toArray} (.lst (ns.map V.int))) else none) (fun b=>?_) (.inl (.inr ⟨{cls:=.type "list",data:=.seq vs.toArray},if_pos rfl⟩)) (fun b u z=>?_) (fun b z=>?_) fun _=>hk
  ·by_cases hb:b=a
   ·exact .inr ⟨_,_,if_pos hb⟩
   ·exact .inl (if_neg hb)
  ·by_cases hb:b=a
   ·have B:=(if_pos hb).symm.trans z;cases B;subst hb;exact ⟨ha,by rw [lM1];exact R,vs,_,O,ha⟩
   ·have B:=(if_neg hb).symm.trans z;cases B
  ·by_cases hb:b=a
   ·exact hb
   ·exact absurd (if_neg hb) z
end L2
namespace L2
open PySem PySem.Spec PyProof.Rows
theorem qnl {l:PySem.W.OpenLaw}{n k:Nat}{q:Program}{g:List Str}{XP:(Str->Option Value)->Heap->Prop}{A:World->Heap->Prop}{d:DefRec}{K:Params->Fg1}{CX:World->CXT}{sp:World->Sp}{x:Str}
  (hn:l.most=some n) (p:n<=sizeLine) (t:d.params.defaults=[]) (hr:Room k callerA)
  (O:∀ (w:World) (h:Heap),A w h->(K w.params).In h)
  (F:∀ (w:World) (mg:Str->Option Value) (m:Addr) (h:Heap),(K w.params).In h->h.Ns mainGlobals mg->mg d.name=some (.ref m) ->
   ∃ fd:FuncData,(∀ (s:Shared) (u:Value),BindsTo s fd ⟨[u],[]⟩ [(x,u)]) /\
    ∀ base:Heap,(K w.params).In base->base.Ns mainGlobals mg->FnOk l.prog w (K w.params) mg base (CX w) k m fd [x] (sp w))
  (z:∀ (w:World) (H:Hp) (a:Addr) (ns:List Int),ns.length<=n->Only H->SqL (K w.params) H a (ns.map V.int)->sp w [.ref a] H (fun v _=>v = .bl true) fun _ _ _=>False)
  (r:∀ (w:World) (H:Hp) (s:Shared) (e:Value) (s':Shared),CX w [] H s (fun _ _ _=>False) e s'->False):
  PySem.W.WalkO q g XP A l.row.toRowW d [] (fun f vs=>PySem.call f vs):=by
 refine Att.attach_call hn t fun w C j mg P m o S R I a vs ns G Y Q hd M y i c b E=>?_;have B:=O w _ Y;obtain ⟨fd,L,D⟩:=F w mg m _ B G.T.g y;exact qlY B G.T.g G.T.b G.T.builtins G.T.nolimit E i c (Nat.le_trans b p) hr D L (fun H N J=>z w H a ns b N J) fun H e s'=>r w H j e s'
end L2
namespace L2
open PySem PySem.Spec PyProof.Rows
noncomputable def qcz (s:Stmt):Arguments:=match s with
 | .FunctionDef _ a _ _ _ _ _ _ _ _=>a
 | _=>{posonlyargs:=[],args:=[],vararg:=none,kwonlyargs:=[],kw_defaults:=[],kwarg:=none,defaults:=[]}
noncomputable def qa5 (s:Stmt):List Stmt:=match s with
 | .FunctionDef _ _ b _ _ _ _ _ _ _=>b
 | _=>[]
noncomputable def qac (s:Stmt):Scope:=match s with
 | .FunctionDef _ _ _ _ _ _ sc _ _ _=>sc
 | _=>{kind:=.function,names:=[],isGenerator:=false,isCoroutine:=false}
noncomputable abbrev CX0:CXT:=fun _ _ _ _ _ _=>False
noncomputable abbrev E0:XK:=fun _ _ _=>False
theorem qqB {X:Cx}:qif CX0 X E0:=fun _ _ _ _ _ _ _ h=>h.elim
structure Fun (K:Fg1)(x qual:Str)(st:Stmt)(f:Addr)(fd:FuncData):Prop where
 ex:∃ (oc:Value) (od:Option Addr) (kV doc pm:Value) (an:Option Addr) (cdv ct:Value) (osl:Array (Option Value)),
  fd=wF1 x qual (qcz st) (qa5 st) (qac st) .none kV doc pm an cdv ct/\K.lookup f=some ⟨oc,od,.func fd,osl⟩/\wC1 K cdv qual=true
 kp:wK1 K (.ref f)=true
section
variable {P:Program} {w:World} {K:Fg1} {mg:Str->Option Value} {base:Heap}
theorem Fun.ok {x b:Str}{st:Stmt}{f:Addr}{fd:FuncData}{N ps:List Str}{k:Nat}{sp:Sp}(F:Fun K x b st f fd)(S:qam N ps (qac st))(len:∀ vs H Q E,sp vs H Q E->vs.length=ps.length)
  (d:∀ (c:Value) (A:Around) (a:List Env) (s:Shared) (H:Hp) (vs:List V) (Q:VK) (E:XK),Room k (A.deeper (envOfC b (qac st) s.heap.objs.size f c))->sp vs H Q E ->
   ∃ t,PSs (cxOf CX0 P w K mg base N b (qac st) f c A a s H E).nox (qa5 st) t/\t {nx:=fun _ H'=>Q .non H',rt:=Q} (start N vs) H):FnOk P w K mg base CX0 (k+1) f fd ps sp:=by
 obtain ⟨n,p,kV,j,o,m,c,ct,l,rfl,lk,e⟩:=F.ex;refine qrI lk e S len fun A a s H vs Q E i g=>?_;obtain ⟨t,h,q⟩:=d c A a s H vs Q E i g;exact ⟨t,h.nox,q⟩
theorem Fun.binds {x a:Str}{st:Stmt}{f:Addr}{fd:FuncData}{ps:List Str}(F:Fun K x a st f fd)
  (h:∀ (kV b g:Value) (d:Option Addr) (c ct:Value) (e:List Value),e.length=ps.length->bindArgs (wF1 x a (qcz st) (qa5 st) (qac st) .none kV b g d c ct) ⟨e,[]⟩=pure (ps.zip e)):qdR K fd ps []:=by
 obtain ⟨k,l,kV,b,g,d,c,ct,j,rfl,lk,i⟩:=F.ex;exact .all (h kV b g d c ct)
theorem qmW {x a:Str}{st:Stmt}{f:Addr}{i:Value}{od g:Option Addr}{e:Array (Option Value)}{kV d h b ct:Value}(l:K.lookup f=some ⟨i,od,.func (wF1 x a (qcz st) (qa5 st) (qac st) .none kV d h g b ct),e⟩)
  (c:wC1 K b a=true) (k:wK1 K (.ref f)=true):Fun K x a st f (wF1 x a (qcz st) (qa5 st) (qac st) .none kV d h g b ct):=⟨⟨i,od,kV,d,h,g,b,ct,e,rfl,l,c⟩,k⟩
end
section
variable {X:Cx}
end
end L2
namespace L2
open PySem PySem.Spec PyProof.Rows
section
variable {κ:Type} [DecidableEq κ]
noncomputable def valV (kvs:List (κ×V))(k:κ):Option V:=(kvs.find? fun kv=>decide (kv.1=k)).map (·.2)
noncomputable def putK (kvs:List (κ×V))(k:κ)(v:V):List (κ×V):=
 if (kvs.any fun kv=>decide (kv.1=k))=true then kvs.map (fun kv=>if kv.1=k then (kv.1,v) else kv) else kvs++[(k,v)]
theorem qeX {p:κ×V}{r:List (κ×V)}{k:κ}(e:p.1=k):valV (p::r) k=some p.2:=by simp [valV,List.find?_cons,e]
theorem qeY {p:κ×V}{r:List (κ×V)}{k:κ}(e:¬ p.1=k):valV (p::r) k=valV r k:=by simp [valV,List.find?_cons,e]
theorem qhn (k:κ):∀ kvs:List (κ×V),(kvs.any fun a=>decide (a.1=k))=(valV kvs k).isSome
 | []=>rfl
 | p::r=>by
  rw [List.any_cons];by_cases e:p.1=k
  ·simp only [qeX e,decide_eq_true e,Bool.true_or,Option.isSome_some]
  ·rw [qeY e,decide_eq_false e,Bool.false_or];exact qhn k r
theorem qei (kvs:List (κ×V))(k:κ)(v:V):(putK kvs k v).length<=kvs.length+1:=by
 unfold putK;split
 ·rw [lM1];lia
 ·rw [lA1,lC1,List.length_nil];lia
theorem RelO.isSome_eq {o:Option V}{u:Option Value}(r:RelO o u):o.isSome=u.isSome:=by
 cases o with
 | none=>cases u with
  | none=>rfl
  | some _=>exact (show False from r).elim
 | some _=>cases u with
  | none=>exact (show False from r).elim
  | some _=>rfl
theorem KV.val {kvs:List (κ×V)}{vs:List (κ×Value)}(r:KV kvs vs)(k:κ):RelO (valV kvs k) (valueAt vs k):=by
 unfold KV at r
 induction r with
 | nil=>exact True.intro
 | @cons p q ps a h t ih=>
  obtain ⟨h1,h2⟩:=h;by_cases e:p.1=k
  ·have c:q.1=k:=h1.symm.trans e;have b:valueAt (q::a) k=some q.2:=by simp [valueAt,List.find?_cons,c]
   rw [qeX e,b];exact h2
  ·have c:¬ q.1=k:=fun z=>e (h1.trans z);have b:valueAt (q::a) k=valueAt a k:=by simp [valueAt,List.find?_cons,c]
   rw [qeY e,b];exact ih
theorem KV.any {kvs:List (κ×V)}{vs:List (κ×Value)}(r:KV kvs vs)(k:κ):(kvs.any fun a=>decide (a.1=k))=vs.any fun a=>decide (a.1=k):=by
 unfold KV at r
 induction r with
 | nil=>rfl
 | cons h t ih=>rw [List.any_cons,List.any_cons,ih,h.1]
theorem KV.repl {kvs:List (κ×V)}{vs:List (κ×Value)}(r:KV kvs vs)(k:κ){y:V}{u:Value}(b:RelV y u):
  KV (kvs.map fun a=>if a.1=k then (a.1,y) else a) (vs.map fun a=>if a.1=k then (a.1,u) else a):=by
 unfold KV at r ⊢
 induction r with
 | nil=>exact .nil
 | @cons p q ps c h t ih=>
  rw [mP1,mP1];refine .cons ?_ ih;obtain ⟨h1,h2⟩:=h;by_cases e:p.1=k
  ·rw [if_pos e,if_pos (h1.symm.trans e)];exact ⟨h1,b⟩
  ·rw [if_neg e,if_neg (fun z=>e (h1.trans z))];exact ⟨h1,h2⟩
theorem KV.put {kvs:List (κ×V)}{vs:List (κ×Value)}(r:KV kvs vs)(k:κ){y:V}{u:Value}(a:RelV y u):KV (putK kvs k y) (stored vs k u):=by
 unfold putK stored;rw [r.any k];by_cases e:(vs.any fun b=>decide (b.1=k))=true
 ·rw [if_pos e,if_pos e];exact r.repl k a
 ·rw [if_neg e,if_neg e];exact Paired.snoc r ⟨rfl,a⟩
theorem KV.keys {kvs:List (κ×V)}{vs:List (κ×Value)}(r:KV kvs vs):kvs.map (·.1)=vs.map (·.1):=by
 unfold KV at r
 induction r with
 | nil=>rfl
 | cons h t ih=>rw [mP1,mP1,ih,h.1]
theorem KV.length {kvs:List (κ×V)}{vs:List (κ×Value)}(r:KV kvs vs):kvs.length=vs.length:=Paired.length r
end
theorem qlZ {P:Program}{w:World}{k:Key}{u:Value}(r:RelV (kV k) u):(qa3 P w).is k u=true:=by
 cases k with
 | inl i=>obtain ⟨t,e⟩:=(show ∃ t,u=Value.int i t from r);subst e;exact qg0 P w i t
 | inr x=>obtain ⟨t,e⟩:=(show ∃ t,u=Value.str x t from r);subst e;exact qgZ P w x t
theorem qf9 {P:Program}{w:World}:∀ {ks:List Key} {a:List Value},Vals (ks.map kV) a->ItemsAre (qa3 P w) ks a
 | [],_,r=>by rw [List.map_nil] at r;cases r;exact .nil
 | k::ks,_,r=>by
  rw [mP1] at r;cases r with
  | cons h t=>exact .cons (qlZ h) (qf9 t)
noncomputable abbrev KT (H:Hp):List (List Key×V)->List (List Key×Addr×Value)->Prop:=Paired fun p q=>p.1=q.1/\H q.2.1=some (.tup (p.1.map kV))/\RelV p.2 q.2.2
theorem KT.val {H:Hp}{kvs:List (List Key×V)}{xs:List (List Key×Addr×Value)}(r:KT H kvs xs)(k:List Key):RelO (valV kvs k) ((atKey xs k).map (·.2)):=by
 induction r with
 | nil=>exact True.intro
 | @cons p q ps a h t ih=>
  obtain ⟨h1,_,h2⟩:=h;by_cases e:p.1=k
  ·have c:q.1=k:=h1.symm.trans e;have b:atKey (q::a) k=some q.2:=by simp [atKey,List.find?_cons,c]
   rw [qeX e,b];exact h2
  ·have c:¬ q.1=k:=fun z=>e (h1.trans z);have b:atKey (q::a) k=atKey a k:=by simp [atKey,List.find?_cons,c]
   rw [qeY e,b];exact ih
theorem KT.repl {H:Hp}{kvs:List (List Key×V)}{xs:List (List Key×Addr×Value)}(r:KT H kvs xs)(k:List Key){y:V}{u:Value}(c:RelV y u):
  KT H (kvs.map fun a=>if a.1=k then (a.1,y) else a) (xs.map (putAt k u)):=by
 induction r with
 | nil=>exact .nil
 | @cons p q ps d h t ih=>
  rw [mP1,mP1];refine .cons ?_ ih;obtain ⟨h1,h2,b⟩:=h;unfold putAt;by_cases e:p.1=k
  ·rw [if_pos e,if_pos (h1.symm.trans e)];exact ⟨h1,h2,c⟩
  ·rw [if_neg e,if_neg (fun z=>e (h1.trans z))];exact ⟨h1,h2,b⟩
theorem KT.put {H:Hp}{kvs:List (List Key×V)}{xs:List (List Key×Addr×Value)}(r:KT H kvs xs)(k:List Key){b:Addr}{y:V}{u:Value}(hb:H b=some (.tup (k.map kV)))(a:RelV y u):
  KT H (putK kvs k y) (storedH xs k b u):=by
 have e:(kvs.any fun c=>decide (c.1=k))=(atKey xs k).isSome:=by
  rw [qhn,(r.val k).isSome_eq,Option.isSome_map]
 unfold putK storedH;rw [e];by_cases q:(atKey xs k).isSome=true
 ·rw [if_pos q,if_pos q];exact r.repl k a
 ·rw [if_neg q,if_neg q];exact Paired.snoc r ⟨rfl,hb,a⟩
theorem KT.keeps {H H':Hp}{kvs:List (List Key×V)}{xs:List (List Key×Addr×Value)}(r:KT H kvs xs)(ht:∀ b ys,H b=some (.tup ys)->H' b=some (.tup ys)):KT H' kvs xs:=
 Paired.mapP r fun _ _ z=>⟨z.1,ht _ _ z.2.1,z.2.2⟩
section
variable {P:Program} {w:World} {H:Hp} {h:Heap} {a:Addr}
theorem qp1 {u:HO}(ok:HOk P w H h)(e:Rd H a u):qaL P w H h a u:=e.ok ok
theorem qkw {kvs:List (Key×V)}(ok:HOk P w H h)(e:Rd H a (.dK kvs)):kvs.length<=sizeLine/\(a == sysModules)=false /\ ∃ vs,KV kvs vs/\h.DictOf (qa3 P w) a vs:=
 show qaL P w H h a (.dK kvs) from qp1 ok e
theorem qo9 {kvs:List (Key×V)}(ok:HOk P w H h)(e:H a=some (.dK kvs)):kvs.length<=sizeLine/\(a == sysModules)=false /\ ∃ vs,KV kvs vs/\h.DictOf (qa3 P w) a vs:=qkw ok (.inl e)
theorem qhO {ks:List Key}(ok:HOk P w H h)(e:H a=some (.tup (ks.map kV))):(tupleKind (qa3 P w)).is h ks a:=by
 obtain ⟨_,b,r,o,h1,h2,n,c⟩:=(show qaL P w H h a (.tup (ks.map kV)) from ok a _ e);exact ⟨o,b.toArray,n,h1,h2,c,by simpa using qf9 r⟩
theorem qmb {kvs:List (List Key×V)}(ok:HOk P w H h)(e:Rd H a (.dT kvs)):kvs.length<=sizeLine/\(a == sysModules)=false /\
  ∃ xs,KT H kvs xs/\h.DictOfH (tupleKind (qa3 P w)) a xs:=by
 obtain ⟨z,y,xs,r,o,es,ep,h1,h2,d,g,f⟩:=(show qaL P w H h a (.dT kvs) from qp1 ok e);refine ⟨z,y,xs,r,o,es,ep,h1,h2,d,g,fun x b=>?_,f⟩;have all:∀ {l:List (List Key×V)} {m:List (List Key×Addr×Value)},KT H l m -> ∀ x∈m,(tupleKind (qa3 P w)).is h x.1 x.2.1:=by
  intro l m q
  induction q with
  | nil=>intro x b;exact nomatch b
  | @cons p q ps i c t ih=>
   intro x b;rcases List.mem_cons.mp b with e | b
   ·subst e;exact qhO ok (by rw [<- c.1];exact c.2.1)
   ·exact ih x b
 exact all r x b
theorem qtj {kvs:List (List Key×V)}(ok:HOk P w H h)(e:H a=some (.dT kvs)):kvs.length<=sizeLine/\(a == sysModules)=false /\
  ∃ xs,KT H kvs xs/\h.DictOfH (tupleKind (qa3 P w)) a xs:=qmb ok (.inl e)
end
noncomputable def DGet (H:Hp)(a:Addr)(y:V)(r:Option V):Prop:=
 (∃ kvs k,Rd H a (.dK kvs)/\y=kV k/\r=valV kvs k) \/ ∃ kvs k b,Rd H a (.dT kvs)/\y = .ref b/\H b=some (.tup (k.map kV))/\r=valV kvs k
noncomputable def DPut (H:Hp)(a:Addr)(y v:V)(H':Hp):Prop:=
 (∃ kvs k,H a=some (.dK kvs)/\y=kV k/\kvs.length<sizeLine/\H'=upd H a (.dK (putK kvs k v))) \/
 ∃ kvs k b,H a=some (.dT kvs)/\y = .ref b/\H b=some (.tup (k.map kV))/\kvs.length<sizeLine/\H'=upd H a (.dT (putK kvs k v))
theorem DGet.k {H:Hp}{a:Addr}{kvs:List (Key×V)}{k:Key}(e:H a=some (.dK kvs)):DGet H a (kV k) (valV kvs k):=.inl ⟨kvs,k,.inl e,rfl,rfl⟩
theorem DGet.t {H:Hp}{a b:Addr}{kvs:List (List Key×V)}{k:List Key}(e:H a=some (.dT kvs))(eb:H b=some (.tup (k.map kV))):DGet H a (.ref b) (valV kvs k):=.inr ⟨kvs,k,b,.inl e,rfl,eb,rfl⟩
theorem DPut.k {H:Hp}{a:Addr}{kvs:List (Key×V)}{k:Key}{v:V}(e:H a=some (.dK kvs))(b:kvs.length<sizeLine):DPut H a (kV k) v (upd H a (.dK (putK kvs k v))):=.inl ⟨kvs,k,e,rfl,b,rfl⟩
theorem DPut.t {H:Hp}{a b:Addr}{kvs:List (List Key×V)}{k:List Key}{v:V}(e:H a=some (.dT kvs))(eb:H b=some (.tup (k.map kV)))(c:kvs.length<sizeLine):
  DPut H a (.ref b) v (upd H a (.dT (putK kvs k v))):=.inr ⟨kvs,k,b,e,rfl,eb,c,rfl⟩
section
variable {X:Cx} {pins:List (Addr×Obj)} {σ:St} {H:Hp} {s:Shared} {a:Addr} {y v:V} {u r:Value} {o:Option V} {A:Around} {E:Value->Shared->Prop}
theorem Inv.big (I:Inv X pins σ H s):sysModules<s.heap.objs.size:=by
 have h:mainGlobals<s.heap.objs.size:=(I.mod.glob.keeps I.bk).lt;exact Nat.lt_trans (by decide) h
theorem qky {Q:Value->Shared->Prop}(r:A.units+1<cLine)(I:Inv X pins σ H s)(g:DGet H a y (some v))(q:RelV y u)(h:∀ f s',Inv X pins σ H s'->RelV v f->Q f s'):
  wpAny (model X.prog X.w) A (getItem (.ref a) u) Q E s:=by
 rcases g with ⟨kvs,k,e,m,l⟩ | ⟨kvs,k,b,e,m,eb,l⟩
 ·subst m;obtain ⟨z,hd,vs,c,n⟩:=qkw I.hok e;obtain ⟨f,j,d⟩:=RelO.some_of (v:=v) (o:=valueAt vs k) (by rw [l];exact c.val k);exact wpAny_getItem_of (qlZ q) n.mapOf j (h f _ (I.tok _) d)
 ·subst m;cases (show u=Value.ref b from q);obtain ⟨z,hd,xs,c,n⟩:=qmb I.hok e;obtain ⟨f,j,d⟩:=RelO.some_of (v:=v) (o:=(atKey xs k).map (·.2)) (by rw [l];exact c.val k);obtain ⟨p,t,i⟩:=oM1.mp j;refine wpAny_getItem_heap (tupleKind_room_in1 r) (qhO I.hok eb) n t ?_;rw [i];exact h f _ (I.tok _) d
theorem qpa {Q:Value->Shared->Prop}(j:A.units+1<cLine)(I:Inv X pins σ H s)(g:DGet H a y o)(i:RelV y u)(h:∀ s',Inv X pins σ H s'->Q (.bool (!o.isSome)) s'):
  wpAny (model X.prog X.w) A (compareOp .NotIn u (.ref a)) Q E s:=by
 rcases g with ⟨kvs,k,e,d,l⟩ | ⟨kvs,k,b,e,d,eb,l⟩
 ·subst d;obtain ⟨z,hd,vs,c,f⟩:=qkw I.hok e;refine wpAny_notIn_of (qlZ i) hd f.mapOf ?_;rw [<- (c.val k).isSome_eq,<- l];exact h _ (I.tok _)
 ·subst d;cases (show u=Value.ref b from i);obtain ⟨z,hd,xs,c,f⟩:=qmb I.hok e;refine wpAny_notIn_heap (tupleKind_room_in1 j) (qhO I.hok eb) hd f ?_;have q:=(c.val k).isSome_eq;rw [Option.isSome_map] at q;rw [<- q,<- l];exact h _ (I.tok _)
theorem qdy {h':Heap}{t':Nat}{ob:HO}(I:Inv X pins σ H s)(mu:Mut (H a))(hs:Heap.SameBut a s.heap h')(he:∃ q,h'.get? a=some q)(new:qaL X.prog X.w (upd H a ob) h' a ob):
  Inv X pins σ (upd H a ob) {s with heap:=h',toks:=t'}:=
 I.write (x:=a) (e:=a) mu (.inl rfl) (fun b q c z=>(hs.2 b c).trans z) he new
theorem qrQ {P:Program}{w:World}{H':Hp}{h':Heap}{kvs:List (Key×V)}{vs:List (Key×Value)}(z:kvs.length<=sizeLine)(hd:(a == sysModules)=false)(b:KV kvs vs)(c:h'.DictOf (qa3 P w) a vs):
  qaL P w H' h' a (.dK kvs):=⟨z,hd,vs,b,c⟩
theorem qkx {H':Hp}{Q:Unit->Shared->Prop}(C:A.units+1<cLine)(I:Inv X pins σ H s)(g:DPut H a y v H')(x:RelV y u)(B:RelV v r)(h:∀ s',Inv X pins σ H' s'->Q () s'):
  wpAny (model X.prog X.w) A (setItem (.ref a) u r) Q E s:=by
 rcases g with ⟨kvs,k,e,o,l,m⟩ | ⟨kvs,k,b,e,o,eb,l,m⟩
 ·subst o m;obtain ⟨z,hd,vs,d,t⟩:=qo9 I.hok e;have n:vs.length<=sizeLine:=by rw [<- d.length];exact z
  have p:(putK kvs k v).length<=sizeLine:=by have:=qei kvs k v;lia
  refine wpAny_setItem_pairs (hsz:=n) (qlZ x) t fun h' f j=>h _ ?_;have D:∃ q,h'.get? a=some q:=let ⟨q,_,_,i,_⟩:=f;⟨q,i⟩
  exact qdy I (by rw [e];exact True.intro) j D (qrQ p hd (d.put k B) f)
 ·subst o m;cases (show u=Value.ref b from x);obtain ⟨z,hd,xs,d,t⟩:=qtj I.hok e;have n:xs.length<=sizeLine:=by rw [<- Paired.length d];exact z
  have p:(putK kvs k v).length<=sizeLine:=by have:=qei kvs k v;lia
  refine wpAny_setItem_heap (hsz:=n) (tupleKind_room_in1 C) (qhO I.hok eb) t fun h' f j=>h _ ?_;obtain ⟨q,es,ep,i,h2,F,J,_,G⟩:=f;refine qdy I (by rw [e];exact True.intro) j ⟨q,i⟩ ⟨p,hd,_,(d.put k eb B).keeps fun c ys w=>?_,q,es,ep,i,h2,F,J,G⟩;rw [qaq (qsV w e (fun z=>nomatch z))];exact w
end
section
variable {X:Cx} {pins:List (Addr×Obj)} {σ:St} {H:Hp} {s:Shared} {a:Addr} {kvs:List (Key×V)} {k:Key} {u:Value} {A:Around} {E:Value->Shared->Prop}
theorem qtk {Q:Value->Shared->Prop}(I:Inv X pins σ H s)(e:Rd H a (.dK kvs))(h:∀ t s',Inv X pins σ H s'->Q (.int kvs.length t) s'):wpAny (model X.prog X.w) A (call (.builtin "len") [.ref a]) Q E s:=by
 obtain ⟨z,hd,vs,b,c⟩:=qkw I.hok e;refine call_len_dict hd c (by rw [<- b.length];rw [sizeLine_eq] at z;lia) ?_;rw [<- b.length];exact h _ _ (I.tok _)
end
theorem qhj {X:Cx}{pins:List (Addr×Obj)}{σ:St}{H:Hp}{s:Shared}{a:Addr}{y:V}{o:Option V}(I:Inv X pins σ H s)(g:DGet H a y o):s.TypeIs (.ref a) "dict":=by
 rcases g with ⟨kvs,k,e,_,_⟩ | ⟨kvs,k,b,e,_,_,_⟩
 ·obtain ⟨_,_,vs,_,c⟩:=qkw I.hok e;exact c.typeIs
 ·obtain ⟨_,_,xs,_,c⟩:=qmb I.hok e;exact c.typeIs
section
variable {X:Cx} {o i e value:Expr} {pos pos' tpos:Pos} {td ty tv:TE}
end
theorem qmc {P:Program}{w:World}{H:Hp}(h:Heap)(hb:sysModules<h.objs.size):qaL P w H (h.push {cls:=.type "dict",data:=.dict #[]}) h.objs.size (.dK []):=
 ⟨Nat.zero_le _,beq_eq_false_iff_ne.mpr (Ne.symm (nN1 hb)),[],.nil,Heap.DictOf.new h⟩
noncomputable def qpO:TE:=fun _ H Q=>∀ p,H p=none->Q (.ref p) (upd H p (.dK []))
section
variable {X:Cx} {pos:Pos}
theorem qlv:PE X (.Dict [] [] pos) qpO:=fun pins s σ H Q I h=>
 wpAny_Dict_empty ⟨.ref s.heap.objs.size,_,I.laid (a:=s.heap.objs.size) (o:=.dK []) (t':=s.toks) (fun _ _ q=>hP1 _ q) (nR1 _) (qmc s.heap I.big),rfl,h _ (I.hok.fresh (nR1 _))⟩
end
noncomputable def qmv:List (TE×TE)->St->Hp->(List (V×V)->Hp->Prop)->Prop
 | [],_,H,Q=>Q [] H
 | (tk,tv)::r,σ,H,Q=>tk σ H fun x H1=>tv σ H1 fun y H2=>qmv r σ H2 fun ps H3=>Q ((x,y)::ps) H3
noncomputable abbrev VV:List (V×V)->List (Value×Value)->Prop:=Paired fun p q=>RelV p.1 q.1/\RelV p.2 q.2
noncomputable def PPs (X:Cx)(pos:Pos)(keys:List (Option Expr))(values:List Expr)(trs:List (TE×TE)):Prop:=
 ∀ (pins:List (Addr×Obj)) (s:Shared) (σ:St) (H:Hp) (Q:List (V×V)->Hp->Prop),Inv X pins σ H s->qmv trs σ H Q ->
  wpAny (model X.prog X.w) X.A (evalPairs (pairTrees keys values X.env pos)) (fun vs s'=>∃ ps H',Inv X pins σ H' s'/\VV ps vs/\Q ps H') X.xe s
section
variable {X:Cx} {pins:List (Addr×Obj)} {σ:St} {H:Hp} {s:Shared} {a:Addr} {y d:V} {u r:Value} {o:Option V} {A:Around} {E:Value->Shared->Prop}
end
section
variable {X:Cx} {o e f:Expr} {apos cpos:Pos} {td ty tx:TE}
end
section
variable {X:Cx} {pins:List (Addr×Obj)} {σ:St} {H:Hp} {s:Shared} {a:Addr} {kvs:List (Key×V)} {A:Around} {E:Value->Shared->Prop}
end
section
variable {X:Cx} {pins:List (Addr×Obj)} {σ:St} {H:Hp} {s:Shared} {a:Addr} {y:V} {u:Value} {A:Around} {E:Value->Shared->Prop}
end
end L2
namespace Mi
open PySem PySem.Spec PyProof.Rows L2
inductive TK where
 | non | int (i:Int) | tup (xs:List TK)
noncomputable instance:DecidableEq TK:=fun _ _=>Classical.propDecidable _
mutual
noncomputable def TK.hash:TK->Int
 | .non=>0xFCA86420
 | .int i=>hashInt i
 | .tup xs=>reduceHash (Builtin.Tuple.tupleHashOf (TK.hashes xs))
noncomputable def TK.hashes:List TK->List Int
 | []=>[]
 | x::xs=>TK.hash x::TK.hashes xs
end
mutual
noncomputable def TK.draws:TK->Nat
 | .non=>1
 | .int _=>1
 | .tup xs=>TK.drawsAll xs+1
noncomputable def TK.drawsAll:List TK->Nat
 | []=>0
 | x::xs=>TK.draws x+TK.drawsAll xs
end
mutual
noncomputable def TK.dep:TK->Nat
 | .non=>0
 | .int _=>0
 | .tup xs=>TK.depAll xs+1
noncomputable def TK.depAll:List TK->Nat
 | []=>0
 | x::xs=>max (TK.dep x) (TK.depAll xs)
end
theorem TK.dep_mem:∀ {xs:List TK} {x:TK},x∈xs->x.dep<=TK.depAll xs
 | y::ys,x,h=>by
  rw [TK.depAll];rcases List.mem_cons.mp h with e | e
  ·rw [e];exact Nat.le_max_left _ _
  ·exact Nat.le_trans (TK.dep_mem e) (Nat.le_max_right _ _)
theorem TK.hashes_app:∀ a b:List TK,TK.hashes (a++b)=TK.hashes a++TK.hashes b
 | [],_=>rfl
 | x::xs,b=>by rw [List.cons_append,TK.hashes,TK.hashes,TK.hashes_app xs b];rfl
theorem TK.draws_app:∀ a b:List TK,TK.drawsAll (a++b)=TK.drawsAll a+TK.drawsAll b
 | [],_=>by simp [TK.drawsAll]
 | x::xs,b=>by rw [List.cons_append,TK.drawsAll,TK.drawsAll,TK.draws_app xs b,Nat.add_assoc]
noncomputable def Ris (xs:Array Nat):Prop:=xs.toList.Pairwise (· < ·)
noncomputable def qbX (m:Nat):Nat->Nat->Nat->List Nat
 | 0,_,_=>[]
 | n+1,i,b=>List.range' i (SetTable.runEnd m i-i+1)++qbX m n (SetTable.leap m i b).1 (SetTable.leap m i b).2
noncomputable def sMk (m:Nat):Prop:=m=7\/m=31\/m=127
noncomputable def sWay (m:Nat)(h:Int):List Nat:=qbX m (SetTable.turns m) (SetTable.bits h%(m+1)) (SetTable.bits h)
noncomputable def sRch (m:Nat)(occ:List Nat)(h:Int)(j:Nat):Prop:=∃ pre post,sWay m h=pre++j::post /\ ∀ y∈pre,y∈occ
structure sTT (es:Array (Int×Value))(t:SetTable):Prop where
 mks:sMk t.mask
 up:Ris t.place
 du:t.dummies = #[]
 sz:t.place.size=es.size
 le:∀ j∈t.place.toList,j<=t.mask
 fl:es.size<=t.mask
 rc:∀ z∈t.place.toList.zip es.toList,sRch t.mask t.place.toList z.2.1 z.1
noncomputable def stO (es:Array (Int×Value))(ep:Nat)(t:SetTable):Obj:={cls:=.type "set",dict:=none,data:=.set es ep t,slots:= #[]}
noncomputable def qbq (a:Addr)(xs:List (TK×Addr×Value))(h:Heap):Prop:=(xs.map (·.1)).Nodup /\ ∃ es ep t,h.get? a=some (stO es ep t)/\sTT es t/\t.tooFull=false/\(∀ e∈es.toList,∃ z∈xs,e=(z.1.hash,.ref z.2.1))/\(∀ z∈xs,(z.1.hash,Value.ref z.2.1)∈es.toList)/\es.size=xs.length
inductive D where
 | non | bl (b:Bool) | int (i:Int) | str (x:Str) | tup (xs:List D) | rol (xs:List D) | ref (n:Nat) | fn (x:Str)
inductive Ob where
 | lst (xs:List D) | dct (kvs:List (Key×D)) | dcT (kvs:List (TK×D)) | iset (xs:List Int) | dcF (kvs:List (TK×D)) | tst (ks:List TK)
noncomputable abbrev Sto:=List Ob
noncomputable abbrev Ev:=List (Option D)
noncomputable abbrev FE:=Ev->Sto->Option (D×Sto)
noncomputable abbrev FT:=Ev->Sto->Option (Bool×Sto)
noncomputable abbrev FA:=Ev->Sto->Option (List D×Sto)
noncomputable abbrev FN:=List D->Sto->Option (D×Sto)
inductive Fl where
 | nx | rt (d:D) | bk | ct
noncomputable abbrev FS:=Ev->Sto->Option (Fl×Ev×Sto)
noncomputable def RoL (K:Fg1)(H:Hp)(a:Addr)(xs:List V):Prop:=(∃ o,H a=some (.frz o (.lst xs))) \/
 ∃ (o:Obj) (its:Array Value) (n:Nat),K.lookup a=some o/\o.cls = .type "list"/\o.dict=none/\o.data = .seq its n/\its.size<=sizeLine/\Vals xs its.toList
theorem RoL.sq {K:Fg1}{H:Hp}{a:Addr}{xs:List V}(h:RoL K H a xs):SqL K H a xs:=h.elim (fun ⟨o,q⟩=>.inl (.inr ⟨o,q⟩)) .inr
mutual
inductive Rep (K:Fg1)(H:Hp)(mu:List Addr):D->V->Prop
 | non:Rep K H mu .non .non
 | bl (b:Bool):Rep K H mu (.bl b) (.bl b)
 | int (i:Int):Rep K H mu (.int i) (.int i)
 | str (x:Str):Rep K H mu (.str x) (.str x)
 | tup {ds:List D} {vs:List V} {a:Addr} (h:SqT K H a vs) (r:Reps K H mu ds vs):Rep K H mu (.tup ds) (.ref a)
 | rol {ds:List D} {vs:List V} {a:Addr} (h:RoL K H a vs) (r:Reps K H mu ds vs):Rep K H mu (.rol ds) (.ref a)
 | ref {n:Nat} {a:Addr} (h:mu[n]? = some a):Rep K H mu (.ref n) (.ref a)
 | fn {x:Str} {a:Addr} (h:wN1 K mainGlobals x=some (some (.ref a))):Rep K H mu (.fn x) (.ref a)
inductive Reps (K:Fg1)(H:Hp)(mu:List Addr):List D->List V->Prop
 | nil:Reps K H mu [] []
 | cons {d:D} {v:V} {ds:List D} {vs:List V} (r:Rep K H mu d v) (t:Reps K H mu ds vs):Reps K H mu (d::ds) (v::vs)
end
structure Ext (mu mu':List Addr)(H H':Hp):Prop where
 pre:mu <+: mu'
 old:∀ a o,H a=some o->a∉mu->H' a=some o
 tup:∀ a xs,Rd H a (.tup xs)->Rd H' a (.tup xs)
 frz:∀ a o u,H a=some (.frz o u)->H' a=some (.frz o u)
 new:∀ a∈mu',a∈mu\/H a=none
theorem Ext.refl (mu:List Addr)(H:Hp):Ext mu mu H H:=⟨List.prefix_rfl,fun _ _ h _=>h,fun _ _ h=>h,fun _ _ _ h=>h,fun _ h=>.inl h⟩
theorem Ext.trans {mu m1 m2:List Addr}{H H1 H2:Hp}(a:Ext mu m1 H H1)(b:Ext m1 m2 H1 H2):Ext mu m2 H H2 where
 pre:=a.pre.trans b.pre
 old:=fun c o h n=>b.old c o (a.old c o h n) fun z=>by
  rcases a.new c z with q | q
  ·exact n q
  ·rw [h] at q;cases q
 tup:=fun c xs h=>b.tup c xs (a.tup c xs h)
 frz:=fun c o u h=>b.frz c o u (a.frz c o u h)
 new:=fun c h=>by
  rcases b.new c h with q | q
  ·exact a.new c q
  ·by_cases z:c∈mu
   ·exact .inl z
   ·right;cases e:H c with
    | none=>rfl
    | some o=>rw [a.old c o e z] at q;cases q
theorem Ext.at {mu mu':List Addr}{H H':Hp}(e:Ext mu mu' H H'){n:Nat}{a:Addr}(h:mu[n]? = some a):mu'[n]? = some a:=by
 obtain ⟨t,rfl⟩:=e.pre;have b:n<mu.length:=(gE1.mp h).1;rw [gL1 b];exact h
theorem Ext.back {mu mu':List Addr}{H H':Hp}(e:Ext mu mu' H H'):Ext mu mu H H':=⟨List.prefix_rfl,e.old,e.tup,e.frz,fun _ h=>.inl h⟩
structure Exw (mu mu':List Addr)(H H':Hp):Prop where
 pre:mu <+: mu'
 tup:∀ a xs,Rd H a (.tup xs)->Rd H' a (.tup xs)
 frz:∀ a o u,H a=some (.frz o u)->H' a=some (.frz o u)
theorem Ext.w {mu mu':List Addr}{H H':Hp}(e:Ext mu mu' H H'):Exw mu mu' H H':=⟨e.pre,e.tup,e.frz⟩
theorem Exw.trans {mu m1 m2:List Addr}{H H1 H2:Hp}(a:Exw mu m1 H H1)(b:Exw m1 m2 H1 H2):Exw mu m2 H H2:=⟨a.pre.trans b.pre,fun c xs h=>b.tup c xs (a.tup c xs h),fun c o u h=>b.frz c o u (a.frz c o u h)⟩
theorem Exw.at {mu mu':List Addr}{H H':Hp}(e:Exw mu mu' H H'){n:Nat}{a:Addr}(h:mu[n]? = some a):mu'[n]? = some a:=by
 obtain ⟨t,rfl⟩:=e.pre;have b:n<mu.length:=(gE1.mp h).1;rw [gL1 b];exact h
structure Exv (mu mu':List Addr)(H H':Hp):Prop where
 pre:mu <+: mu'
 tup:∀ a xs,Rd H a (.tup xs)->Rd H' a (.tup xs)
 frl:∀ a o xs,H a=some (.frz o (.lst xs))->H' a=some (.frz o (.lst xs))
theorem Exw.v {mu mu':List Addr}{H H':Hp}(e:Exw mu mu' H H'):Exv mu mu' H H':=⟨e.pre,e.tup,fun a o xs h=>e.frz a o _ h⟩
theorem Ext.v {mu mu':List Addr}{H H':Hp}(e:Ext mu mu' H H'):Exv mu mu' H H':=e.w.v
theorem Exv.at {mu mu':List Addr}{H H':Hp}(e:Exv mu mu' H H'){n:Nat}{a:Addr}(h:mu[n]? = some a):mu'[n]? = some a:=by
 obtain ⟨t,rfl⟩:=e.pre;have b:n<mu.length:=(gE1.mp h).1;rw [gL1 b];exact h
theorem SqT.exv {K:Fg1}{mu mu':List Addr}{H H':Hp}{a:Addr}{vs:List V}(e:Exv mu mu' H H')(h:SqT K H a vs):SqT K H' a vs:=by
 rcases h with h | h
 ·exact .inl (e.tup a vs h)
 ·exact .inr h
theorem RoL.exv {K:Fg1}{mu mu':List Addr}{H H':Hp}{a:Addr}{vs:List V}(e:Exv mu mu' H H')(h:RoL K H a vs):RoL K H' a vs:=by
 rcases h with ⟨o,h⟩ | h
 ·exact .inl ⟨o,e.frl a o _ h⟩
 ·exact .inr h
theorem Rep.exv {K:Fg1}{mu mu':List Addr}{H H':Hp}(e:Exv mu mu' H H'):∀ {d:D} {v:V},Rep K H mu d v->Rep K H' mu' d v:=fun h=>h.rec (motive_1:=fun d v _=>Rep K H' mu' d v) (motive_2:=fun ds vs _=>Reps K H' mu' ds vs)
  .non .bl .int .str (fun h _ ih=>.tup (SqT.exv e h) ih) (fun h _ ih=>.rol (RoL.exv e h) ih) (fun h=>.ref (e.at h)) (fun h=>.fn h) .nil (fun _ _ a b=>.cons a b)
theorem Reps.ind {K:Fg1}{mu:List Addr}{H:Hp}{P:(ds:List D)->(vs:List V)->Reps K H mu ds vs->Prop}(hn:P [] [] .nil)(hc:∀ {d v ds vs} (r:Rep K H mu d v) (t:Reps K H mu ds vs),P ds vs t->P (d::ds) (v::vs) (.cons r t)){ds:List D}{vs:List V}(h:Reps K H mu ds vs):P ds vs h:=
 h.rec (motive_1:=fun _ _ _=>True) (motive_2:=P) trivial (fun _=>trivial) (fun _=>trivial) (fun _=>trivial) (fun _ _ _=>trivial) (fun _ _ _=>trivial) (fun _=>trivial) (fun _=>trivial) hn (fun r t _ ih=>hc r t ih)
theorem Reps.exv {K:Fg1}{mu mu':List Addr}{H H':Hp}(e:Exv mu mu' H H'):∀ {ds:List D} {vs:List V},Reps K H mu ds vs->Reps K H' mu' ds vs:=fun h=>h.ind (P:=fun ds vs _=>Reps K H' mu' ds vs) .nil fun r _ ih=>.cons (Rep.exv e r) ih
section
variable {K:Fg1} {mu mu':List Addr} {H H':Hp} {a:Addr} {vs:List V}
theorem Rep.exw (e:Exw mu mu' H H'){d:D}{v:V}(h:Rep K H mu d v):Rep K H' mu' d v:=h.exv e.v
theorem Reps.exw (e:Exw mu mu' H H'){ds:List D}(h:Reps K H mu ds vs):Reps K H' mu' ds vs:=h.exv e.v
theorem Rep.ext (e:Ext mu mu' H H'){d:D}{v:V}(h:Rep K H mu d v):Rep K H' mu' d v:=h.exv e.v
theorem Reps.ext (e:Ext mu mu' H H'){ds:List D}(h:Reps K H mu ds vs):Reps K H' mu' ds vs:=h.exv e.v
end
section
variable {K:Fg1} {H:Hp} {mu:List Addr}
theorem Reps.length:∀ {ds:List D} {vs:List V},Reps K H mu ds vs->ds.length=vs.length:=fun h=>h.ind (P:=fun ds vs _=>ds.length=vs.length) rfl fun _ _ ih=>congrArg (· + 1) ih
theorem Reps.get:∀ {ds:List D} {vs:List V} {i:Nat} {d:D},Reps K H mu ds vs->ds[i]? = some d -> ∃ v,vs[i]? = some v/\Rep K H mu d v:=by
 intro ds vs i d h e
 induction h using Reps.ind generalizing i with
 | hn=>cases e
 | hc r t ih=>cases i with
  | zero=>cases e;exact ⟨_,rfl,r⟩
  | succ i=>exact ih (i:=i) e
theorem Reps.getV:∀ {ds:List D} {vs:List V} {i:Nat} {v:V},Reps K H mu ds vs->vs[i]? = some v -> ∃ d,ds[i]? = some d/\Rep K H mu d v:=by
 intro ds vs i d h e
 induction h using Reps.ind generalizing i with
 | hn=>cases e
 | hc r t ih=>cases i with
  | zero=>cases e;exact ⟨_,rfl,r⟩
  | succ i=>exact ih (i:=i) e
theorem Reps.append:∀ {ds es:List D} {vs ws:List V},Reps K H mu ds vs->Reps K H mu es ws->Reps K H mu (ds++es) (vs++ws):=fun h s=>h.ind (P:=fun ds vs _=>Reps K H mu (ds++_) (vs++_)) s fun r _ ih=>.cons r ih
theorem Reps.take:∀ {ds:List D} {vs:List V} (n:Nat),Reps K H mu ds vs->Reps K H mu (ds.take n) (vs.take n):=by
 intro ds vs n h
 induction h using Reps.ind generalizing n with
 | hn=>rw [List.take_nil,List.take_nil];exact .nil
 | hc r t ih=>cases n with
  | zero=>exact .nil
  | succ n=>exact .cons r (ih n)
theorem Reps.drop:∀ {ds:List D} {vs:List V} (n:Nat),Reps K H mu ds vs->Reps K H mu (ds.drop n) (vs.drop n):=by
 intro ds vs n h
 induction h using Reps.ind generalizing n with
 | hn=>rw [List.drop_nil,List.drop_nil];exact .nil
 | hc r t ih=>cases n with
  | zero=>exact .cons r t
  | succ n=>exact ih n
theorem Reps.set {d:D}{v:V}(r:Rep K H mu d v):∀ {ds:List D} {vs:List V} (i:Nat),Reps K H mu ds vs->Reps K H mu (ds.set i d) (vs.set i v):=by
 intro ds vs i h
 induction h using Reps.ind generalizing i with
 | hn=>exact .nil
 | hc q t ih=>cases i with
  | zero=>exact .cons r t
  | succ i=>exact .cons q (ih i)
theorem Reps.eraseIdx:∀ {ds:List D} {vs:List V} (i:Nat),Reps K H mu ds vs->Reps K H mu (ds.eraseIdx i) (vs.eraseIdx i):=by
 intro ds vs i h
 induction h using Reps.ind generalizing i with
 | hn=>exact .nil
 | hc q t ih=>cases i with
  | zero=>exact t
  | succ i=>exact .cons q (ih i)
end
noncomputable def KR {κ:Type}(K:Fg1)(H:Hp)(mu:List Addr):List (κ×D)->List (κ×V)->Prop:=Paired fun p q=>p.1=q.1/\Rep K H mu p.2 q.2
mutual
noncomputable def tkD:TK->D
 | .non=>.non
 | .int i=>.int i
 | .tup xs=>.tup (tkDs xs)
noncomputable def tkDs:List TK->List D
 | []=>[]
 | x::xs=>tkD x::tkDs xs
end
noncomputable def qdk (a:Addr)(xs:List (TK×Addr×Value))(h:Heap):Prop:=(a == sysModules)=false/\(xs.map (·.1)).Nodup /\ ∃ o es ep,h.get? a=some o/\o.ExactDict/\o.data = .dict es ep/\es.toList=xs.map fun x=>(⟨x.1.hash,.ref x.2.1,x.2.2⟩:DictEntry)
noncomputable def qsk (a:Addr)(xs:List (TK×Addr×Value))(o:Obj):Prop:=(a == sysModules)=false/\(xs.map (·.1)).Nodup/\o.ExactDict /\ ∃ es ep,o.data = .dict es ep/\es.toList=xs.map fun x=>(⟨x.1.hash,.ref x.2.1,x.2.2⟩:DictEntry)
noncomputable def KT (K:Fg1)(H:Hp)(mu:List Addr):List (TK×D)->List (TK×Addr×Value)->Prop:=Paired fun p q=>p.1=q.1/\p.1.dep<=8/\Rep K H mu (tkD p.1) (.ref q.2.1) /\ ∃ v,RelV v q.2.2/\Rep K H mu p.2 v
noncomputable def ObR (K:Fg1)(H:Hp)(mu:List Addr)(a:Addr):Ob->Prop
 | .lst ds=>∃ vs,H a=some (.lst vs)/\Reps K H mu ds vs
 | .dct kvs=>∃ ws,H a=some (.dK ws)/\KR K H mu kvs ws
 | .dcT kvs=>∃ xs,H a=some (.ext (qdk a xs))/\KT K H mu kvs xs/\xs.length<=sizeLine
 | .iset xs=>H a=some (.set (fun k=>xs.contains k) xs.length)/\xs.Nodup
 | .dcF kvs=>∃ xs,(∃ o u,H a=some (.frz o u)/\qsk a xs o)/\KT K H mu kvs xs/\xs.length<=sizeLine
 | .tst ks=>∃ xs,H a=some (.ext (qbq a xs))/\KT K H mu (ks.map fun k=>(k,D.non)) xs
structure Sim (K:Fg1)(H:Hp)(mu:List Addr)(S:Sto):Prop where
 len:mu.length=S.length
 nd:mu.Nodup
 ob:∀ (n:Nat) (o:Ob) (a:Addr),S[n]? = some o->mu[n]? = some a->ObR K H mu a o
structure EnvR (K:Fg1)(H:Hp)(mu:List Addr)(r:Ev)(σ:L2.St):Prop where
 len:r.length=σ.length
 val:∀ (i:Nat) (d:D),r[i]? = some (some d) -> ∃ v,σ[i]? = some (some v)/\Rep K H mu d v
theorem EnvR.ext {K:Fg1}{mu mu':List Addr}{H H':Hp}{r:Ev}{σ:L2.St}(e:Ext mu mu' H H')(h:EnvR K H mu r σ):EnvR K H' mu' r σ:=⟨h.len,fun i d q=>by
 obtain ⟨v,b,a⟩:=h.val i d q;exact ⟨v,b,a.ext e⟩⟩
theorem KR.ext {κ:Type}{K:Fg1}{mu mu':List Addr}{H H':Hp}{ks:List (κ×D)}{ws:List (κ×V)}(e:Ext mu mu' H H')(h:KR K H mu ks ws):KR K H' mu' ks ws:=
 Paired.mapP h fun _ _ z=>⟨z.1,z.2.ext e⟩
theorem KT.ext {K:Fg1}{mu mu':List Addr}{H H':Hp}{ks:List (TK×D)}{ws:List (TK×Addr×Value)}(e:Ext mu mu' H H')(h:KT K H mu ks ws):KT K H' mu' ks ws:=
 Paired.mapP h fun _ _ ⟨z,d,k,v,a,r⟩=>⟨z,d,k.ext e,v,a,r.ext e⟩
theorem Sim.nil {K:Fg1}{H:Hp}:Sim K H [] []:=⟨rfl,List.nodup_nil,fun n o a h=>by simp at h⟩
theorem Sim.here {K:Fg1}{H:Hp}{mu:List Addr}{S:Sto}(s:Sim K H mu S){a:Addr}(h:a∈mu):∃ o,H a=some o:=by
 obtain ⟨n,b⟩:=List.getElem?_of_mem h;have c:n<S.length:=by rw [<- s.len];exact (gE1.mp b).1
 have q:=s.ob n _ a (gG1 c) b;cases e:S[n] with
 | lst ds=>rw [e] at q;obtain ⟨vs,z,_⟩:=q;exact ⟨_,z⟩
 | dct ks=>rw [e] at q;obtain ⟨vs,z,_⟩:=q;exact ⟨_,z⟩
 | dcT ks=>rw [e] at q;obtain ⟨vs,z,_⟩:=q;exact ⟨_,z⟩
 | iset xs=>rw [e] at q;exact ⟨_,q.1⟩
 | dcF ks=>rw [e] at q;obtain ⟨vs,⟨_,_,z,_⟩,_⟩:=q;exact ⟨_,z⟩
 | tst ks=>rw [e] at q;obtain ⟨vs,z,_⟩:=q;exact ⟨_,z⟩
noncomputable def Cont (K:Fg1)(mu:List Addr)(H:Hp)(d:D)(S':Sto)(Q:VK):Prop:=∀ v H' mu',Ext mu mu' H H'->Rep K H' mu' d v->Sim K H' mu' S'->Q v H'
inductive tM (K:Fg1)(m:FE)(σ:L2.St)(H:Hp)(Q:VK):Prop
 | mk (r:Ev) (mu:List Addr) (S:Sto) (d:D) (S':Sto) (he:EnvR K H mu r σ) (hs:Sim K H mu S) (hm:m r S=some (d,S')) (hc:Cont K mu H d S' Q)
inductive tMT (K:Fg1)(m:FT)(σ:L2.St)(H:Hp)(Q:Bool->Hp->Prop):Prop
 | mk (r:Ev) (mu:List Addr) (S:Sto) (b:Bool) (S':Sto) (he:EnvR K H mu r σ) (hs:Sim K H mu S) (hm:m r S=some (b,S')) (hc:∀ H' mu',Ext mu mu' H H'->Sim K H' mu' S'->Q b H')
inductive tMA (K:Fg1)(m:FA)(σ:L2.St)(H:Hp)(Q:List V->Hp->Prop):Prop
 | mk (r:Ev) (mu:List Addr) (S:Sto) (ds:List D) (S':Sto) (he:EnvR K H mu r σ) (hs:Sim K H mu S) (hm:m r S=some (ds,S')) (hc:∀ vs H' mu',Ext mu mu' H H'->Reps K H' mu' ds vs->Sim K H' mu' S'->Q vs H')
noncomputable def tMSC (K:Fg1)(mu:List Addr)(H:Hp)(r':Ev)(S':Sto)(E:Ends)(f:Fl):Prop:=match f with
 | .nx=>∀ σ' H' mu',Ext mu mu' H H'->EnvR K H' mu' r' σ'->Sim K H' mu' S'->E.nx σ' H'
 | .bk=>∀ σ' H' mu',Ext mu mu' H H'->EnvR K H' mu' r' σ'->Sim K H' mu' S'->E.bk σ' H'
 | .ct=>∀ σ' H' mu',Ext mu mu' H H'->EnvR K H' mu' r' σ'->Sim K H' mu' S'->E.ct σ' H'
 | .rt d=>Cont K mu H d S' E.rt
inductive tMS (K:Fg1)(m:FS)(E:Ends)(σ:L2.St)(H:Hp):Prop
 | mk (r:Ev) (mu:List Addr) (S:Sto) (f:Fl) (r':Ev) (S':Sto) (he:EnvR K H mu r σ) (hs:Sim K H mu S) (hm:m r S=some (f,r',S')) (hc:tMSC K mu H r' S' E f)
inductive rN (K:Fg1)(f:FN)(vs:List V)(H:Hp)(Q:VK):Prop
 | mk (mu:List Addr) (S:Sto) (ds:List D) (d:D) (S':Sto) (hr:Reps K H mu ds vs) (hs:Sim K H mu S) (hm:f ds S=some (d,S')) (hc:Cont K mu H d S' Q)
noncomputable abbrev ME (X:Cx)(e:Expr)(m:FE):Prop:=PE X e (tM X.K m)
noncomputable abbrev MT (X:Cx)(e:Expr)(m:FT):Prop:=PT X e (tMT X.K m)
noncomputable abbrev MW (X:Cx)(e:Expr)(m:FT):Prop:=PW X e (tMT X.K m)
noncomputable abbrev MA (X:Cx)(es:List Expr)(m:FA):Prop:=PA X es (tMA X.K m)
noncomputable abbrev MS (X:Cx)(st:Stmt)(m:FS):Prop:=PS X st (tMS X.K m)
noncomputable abbrev MSs (X:Cx)(st:List Stmt)(m:FS):Prop:=PSs X st (tMS X.K m)
section
variable {X:Cx} {e:Expr} {es:List Expr} {st:Stmt} {sts:List Stmt}
theorem qaS {t t':TE}(h:PE X e t)(i:∀ σ H Q,t' σ H Q->t σ H Q):PE X e t':=fun pins s σ H Q I q=>h pins s σ H Q I (i σ H Q q)
theorem qhA {t t':TT}(h:PT X e t)(i:∀ σ H Q,t' σ H Q->t σ H Q):PT X e t':=fun pins s σ H Q I q=>h pins s σ H Q I (i σ H Q q)
theorem qmD {t t':TT}(h:PW X e t)(i:∀ σ H Q,t' σ H Q->t σ H Q):PW X e t':=fun a pins s σ H Q I q=>h a pins s σ H Q I (i σ H Q q)
theorem qmG {t t':TA}(h:PA X es t)(i:∀ σ H Q,t' σ H Q->t σ H Q):PA X es t':=fun pos pins s σ H Q I q=>h pos pins s σ H Q I (i σ H Q q)
theorem qcs {t t':TS}(h:PS X st t)(i:∀ E σ H,t' E σ H->t E σ H):PS X st t':=fun pins s σ H E I q=>h pins s σ H E I (i E σ H q)
theorem qjz {t t':TS}(h:PSs X sts t)(i:∀ E σ H,t' E σ H->t E σ H):PSs X sts t':=fun pins s σ H E I q=>h pins s σ H E I (i E σ H q)
end
noncomputable def mV (i:Nat):FE:=fun r S=>match r[i]? with
 | some (some d)=>some (d,S)
 | _=>none
noncomputable def mC (d:D):FE:=fun _ S=>some (d,S)
section
variable {X:Cx} {pos:Pos}
theorem qrb (i:Nat){x:Str}(hN:X.N[i]? = some x)(hv:Vis X.env.scope x)(hd:(x == ("__debug__":Str))=false:=by decide)(hcd:(x == ("__classdict__":Str))=false:=by decide):ME X (.Name x pos) (mV i):=
 qaS (qqn hN hv hd hcd) <| by
  rintro σ H Q ⟨r,mu,S,d,h,b,c,a,hc⟩;unfold mV at a;split at a
  ·rename_i j e;cases a;obtain ⟨v,f,g⟩:=b.val i _ e;exact ⟨v,f,hc v H mu (.refl _ _) g c⟩
  ·cases a
theorem me_c {e:Expr}{v:V}(d:D)(h:PE X e (tC v))(hr:∀ H mu,Rep X.K H mu d v):ME X e (mC d):=
 qaS h <| by
  rintro σ H Q ⟨r,mu,S,g,f,c,a,b,hc⟩;cases b;exact hc v H mu (.refl _ _) (hr H mu) a
theorem qri {i:Int}{j}:ME X (.Constant (.int i) j pos) (mC (.int i)):=me_c _ qqt fun _ _=>.int i
theorem qs3 {b:Bool}{j}:ME X (.Constant (.bool b) j pos) (mC (.bl b)):=me_c _ qsP fun _ _=>.bl b
theorem qrg {j}:ME X (.Constant .none j pos) (mC .non):=me_c _ qqr fun _ _=>.non
end
noncomputable def mNil:FA:=fun _ S=>some ([],S)
noncomputable def qaa (m:FE)(n:FA):FA:=fun r S=>(m r S).bind fun p=>(n r p.2).bind fun q=>some (p.1::q.1,q.2)
section
variable {X:Cx} {pos:Pos} {e:Expr} {es:List Expr} {m:FE} {n:FA}
theorem qrm:MA X [] mNil:=qmG qjJ <| by
 rintro σ H Q ⟨r,mu,S,ds,d,c,a,b,hc⟩;cases b;exact hc [] H mu (.refl _ _) .nil a
theorem qow (h:ME X e m)(ht:MA X es n)(hs:starEach (e::es) X.env=(false,eval e X.env)::starEach es X.env:=by rfl):MA X (e::es) (qaa m n):=
 qmG (qfd h ht hs) <| by
  rintro σ H Q ⟨r,mu,S,ds,t,f,hs,a,hc⟩;unfold qaa at a;obtain ⟨⟨d,j⟩,k,a⟩:=oB1.mp a;obtain ⟨⟨b,s⟩,l,a⟩:=oB1.mp a;cases a;refine ⟨r,mu,S,d,j,f,hs,k,fun v H1 mu1 g o q=>?_⟩;refine ⟨r,mu1,j,b,_,f.ext g,q,l,fun vs H2 c i r2 p=>?_⟩;exact hc _ H2 c (g.trans i) (.cons (o.ext i) r2) p
end
noncomputable def m2 (f:FN)(a b:FE):FE:=fun r S=>(a r S).bind fun p=>(b r p.2).bind fun q=>f [p.1,q.1] q.2
noncomputable def m1 (f:FN)(a:FE):FE:=fun r S=>(a r S).bind fun p=>f [p.1] p.2
noncomputable def mN (f:FN)(a:FA):FE:=fun r S=>(a r S).bind fun p=>f p.1 p.2
noncomputable abbrev r2 (K:Fg1)(f:FN):R2:=fun x y H Q=>rN K f [x,y] H Q
section
variable {X:Cx} {K:Fg1} {f:FN} {a b:FE} {σ:L2.St} {H:Hp} {Q:VK}
theorem qlU (h:tM K (m2 f a b) σ H Q):tOp (r2 K f) (tM K a) (tM K b) σ H Q:=by
 obtain ⟨r,mu,S,d,s,i,y,c,hc⟩:=h;obtain ⟨⟨l,k⟩,q,c⟩:=oB1.mp c;obtain ⟨⟨n,m⟩,z,c⟩:=oB1.mp c;refine ⟨r,mu,S,l,k,i,y,q,fun v H1 mu1 j A x=>?_⟩;refine ⟨r,mu1,k,n,m,i.ext j,x,z,fun u H2 e o r2 C=>?_⟩;exact ⟨e,m,[l,n],d,s,.cons (A.ext o) (.cons r2 .nil),C,c,fun v t g p B w=>hc v t g ((j.trans o).trans p) B w⟩
theorem qs4 (h:tM K (m1 f a) σ H Q):tUn (fun x H Q=>rN K f [x] H Q) (tM K a) σ H Q:=by
 obtain ⟨r,mu,S,d,s,i,k,b,hc⟩:=h;obtain ⟨⟨e,g⟩,l,b⟩:=oB1.mp b;refine ⟨r,mu,S,e,g,i,k,l,fun v H1 mu1 m n t=>?_⟩;exact ⟨mu1,g,[e],d,s,.cons n .nil,t,b,fun v o c j p q=>hc v o c (m.trans j) p q⟩
theorem qlT {a:FA}(h:tM K (mN f a) σ H Q):tMA K a σ H fun vs H1=>rN K f vs H1 Q:=by
 obtain ⟨r,mu,S,d,s,i,k,b,hc⟩:=h;obtain ⟨⟨e,g⟩,l,b⟩:=oB1.mp b;refine ⟨r,mu,S,e,g,i,k,l,fun v H1 mu1 m n t=>?_⟩;exact ⟨mu1,g,e,d,s,n,t,b,fun v o c j p q=>hc v o c (m.trans j) p q⟩
theorem qs0 {op:Operator}{x y:Expr}{pos:Pos}(ho:OpR X (binaryOp op) (r2 X.K f))(hx:ME X x a)(hy:ME X y b):ME X (.BinOp x op y pos) (m2 f a b):=qaS (qsM ho hx hy) fun _ _ _=>qlU
theorem qsZ {op:UnaryOp}{x:Expr}{pos:Pos}(ho:UnR X (unaryOp op) (fun x H Q=>rN X.K f [x] H Q))(hx:ME X x a):ME X (.UnaryOp op x pos) (m1 f a):=qaS (qsL ho hx) fun _ _ _=>qs4
theorem qrj {op:CmpOp}{x y:Expr}{pos:Pos}(ho:OpR X (compareOp op) (r2 X.K f))(hx:ME X x a)(hy:ME X y b)(hm:behindInMarks op y=false):ME X (.Compare x [op] [y] pos) (m2 f a b):=qaS (qn1 ho hx hy hm) fun _ _ _=>qlU
theorem qs1 {x y:Expr}{pos:Pos}(ho:IxR X (r2 X.K f))(hx:ME X x a)(hy:ME X y b)(hs:qfD y):ME X (.Subscript x y pos) (m2 f a b):=qaS (qsN ho hx hy hs) fun _ _ _=>qlU
theorem qlR {x:Str}{p pos:Pos}{e:Expr}{es:List Expr}{id:String}{a:FA}(hc:qbd X (.builtin id) (rN X.K f))(hg:Gl X x)(hm:X.mg x=none)(hv:bootBuiltins x=some (.builtin id))(ha:MA X (e::es) a)(hn:x≠"__name__":=by decide)(hdb:(x == ("__debug__":Str))=false:=by decide)
  (he:starEach (e::es) X.env=(false,eval e X.env)::starEach es X.env:=by rfl) (hpl:(backTo pos (starEach es X.env)).any (·.1)=false:=by rfl):ME X (.Call (.Name x p) (e::es) [] pos) (mN f a):=
 qaS (qhC hc hg hm hv ha hn hdb he hpl) fun _ _ _=>qlT
theorem qjX {x:Str}{p pos:Pos}{e:Expr}{es:List Expr}{T:String}{a:FA}(hc:qbd X (.type T) (rN X.K f))(hg:Gl X x)(hm:X.mg x=none)(hv:bootBuiltins x=some (.type T))(ha:MA X (e::es) a)(hn:x≠"__name__":=by decide)(hdb:(x == ("__debug__":Str))=false:=by decide)
  (he:starEach (e::es) X.env=(false,eval e X.env)::starEach es X.env:=by rfl) (hpl:(backTo pos (starEach es X.env)).any (·.1)=false:=by rfl):ME X (.Call (.Name x p) (e::es) [] pos) (mN f a):=
 qaS (qfT hc hg hm hv ha hn hdb he hpl) fun _ _ _=>qlT
end
noncomputable def mB (m:FE):FT:=fun r S=>(m r S).bind fun p=>match p.1 with
 | .bl b=>some (b,p.2)
 | _=>none
theorem qro {K:Fg1}{m:FE}{σ:L2.St}{H:Hp}{Q:Bool->Hp->Prop}(h:tMT K (mB m) σ H Q):tB (tM K m) σ H Q:=by
 obtain ⟨r,mu,S,b,l,c,d,a,hc⟩:=h;obtain ⟨⟨g,n⟩,e,a⟩:=oB1.mp a;cases g with
 | bl k=>
  cases a;refine ⟨r,mu,S,_,_,c,d,e,fun v H1 mu1 f i j=>?_⟩;cases i;exact ⟨_,rfl,hc H1 mu1 f j⟩
 | _=>cases a
noncomputable def mAnd (a b:FT):FT:=fun r S=>(a r S).bind fun p=>if p.1=true then b r p.2 else some (false,p.2)
noncomputable def mOr (a b:FT):FT:=fun r S=>(a r S).bind fun p=>if p.1=true then some (true,p.2) else b r p.2
noncomputable def mNot (a:FT):FT:=fun r S=>(a r S).bind fun p=>some (!p.1,p.2)
noncomputable def qg3 (a b:FE):FE:=fun r S=>(a r S).bind fun p=>match p.1 with
 | .bl c=>if c=true then b r p.2 else some (.bl false,p.2)
 | _=>none
noncomputable def mOrV (a b:FE):FE:=fun r S=>(a r S).bind fun p=>match p.1 with
 | .bl c=>if c=true then some (.bl true,p.2) else b r p.2
 | _=>none
noncomputable def qjZ (a:FE):FE:=fun r S=>(a r S).bind fun p=>match p.1 with
 | .bl c=>some (.bl (!c),p.2)
 | _=>none
noncomputable def mIf (c:FT)(a b:FE):FE:=fun r S=>(c r S).bind fun p=>if p.1=true then a r p.2 else b r p.2
section
variable {X:Cx} {x y c:Expr} {rest:List Expr} {pos:Pos} {a b:FT} {f g:FE}
theorem qq0 {op:CmpOp}{f:FN}{a b:FE}(ho:OpR X (compareOp op) (r2 X.K f))(hx:ME X x a)(hy:ME X y b)(hm:behindInMarks op y=false):MT X (.Compare x [op] [y] pos) (mB (m2 f a b)):=
 qhA (qnK ho hx hy hm) fun σ H Q h=>by
  obtain ⟨r,mu,S,d,j,c,e,hm,hc⟩:=qro h;exact qlU ⟨r,mu,S,d,j,c,e,hm,fun v H' mu' g i k=>hc v H' mu' g i k⟩
theorem qof (ha:MT X x a):MW X (.BoolOp .And [x] pos) a:=qnJ ha
theorem qqX (ha:MT X x a):MW X (.BoolOp .Or [x] pos) a:=qp3 ha
theorem qqY (ha:MT X x a)(hb:MW X (.BoolOp .And (y::rest) pos) b):MW X (.BoolOp .And (x::y::rest) pos) (mAnd a b):=
 qmD (qp4 ha hb) <| by
  rintro σ H Q ⟨r,mu,S,k,n,f,i,c,hc⟩;obtain ⟨⟨b1,h⟩,j,c⟩:=oB1.mp c;refine ⟨r,mu,S,b1,h,f,i,j,fun H1 mu1 d g=>?_⟩;cases b1 with
  | true=>exact ⟨r,mu1,h,k,n,f.ext d,g,c,fun H2 e m l=>hc H2 e (d.trans m) l⟩
  | false=>cases c;exact hc H1 mu1 d g
theorem qsX (ha:MT X x a)(hb:MW X (.BoolOp .Or (y::rest) pos) b):MW X (.BoolOp .Or (x::y::rest) pos) (mOr a b):=
 qmD (qsF ha hb) <| by
  rintro σ H Q ⟨r,mu,S,k,n,f,i,c,hc⟩;obtain ⟨⟨b1,h⟩,j,c⟩:=oB1.mp c;refine ⟨r,mu,S,b1,h,f,i,j,fun H1 mu1 d g=>?_⟩;cases b1 with
  | false=>exact ⟨r,mu1,h,k,n,f.ext d,g,c,fun H2 e m l=>hc H2 e (d.trans m) l⟩
  | true=>cases c;exact hc H1 mu1 d g
theorem mt_w (h:MW X x a):MT X x a:=PW.pt h
theorem qqZ (ha:MT X x a):MT X (.UnaryOp .Not x pos) (mNot a):=
 qhA (qp6 ha) <| by
  rintro σ H Q ⟨r,mu,S,k,i,c,d,b,hc⟩;obtain ⟨⟨b1,h⟩,e,b⟩:=oB1.mp b;cases b;exact ⟨r,mu,S,b1,h,c,d,e,fun H1 mu1 f g=>hc H1 mu1 f g⟩
theorem qre {op}(h:ME X x f):ME X (.BoolOp op [x] pos) f:=qqp h
theorem qrk (ha:ME X x f)(hb:ME X (.BoolOp .And (y::rest) pos) g):ME X (.BoolOp .And (x::y::rest) pos) (qg3 f g):=
 qaS (qqv ha hb) <| by
  rintro σ H Q ⟨r,mu,S,k,q,d,j,a,hc⟩;obtain ⟨⟨e,i⟩,l,a⟩:=oB1.mp a;refine ⟨r,mu,S,e,i,d,j,l,fun v H1 mu1 b n h=>?_⟩;cases e with
  | bl b1=>
   cases n;refine ⟨b1,rfl,?_⟩;cases b1 with
   | true=>exact ⟨r,mu1,i,k,q,d.ext b,h,a,fun m H2 c p r2 o=>hc m H2 c (b.trans p) r2 o⟩
   | false=>cases a;exact hc _ H1 mu1 b (.bl false) h
  | _=>cases a
theorem qrf (ha:ME X x f):ME X (.UnaryOp .Not x pos) (qjZ f):=
 qaS (qqq ha) <| by
  rintro σ H Q ⟨r,mu,S,k,l,c,d,a,hc⟩;obtain ⟨⟨b,j⟩,e,a⟩:=oB1.mp a;refine ⟨r,mu,S,b,j,c,d,e,fun v H1 mu1 g h i=>?_⟩;cases b with
  | bl b1=>
   cases h;cases a;exact ⟨b1,rfl,hc _ H1 mu1 g (.bl _) i⟩
  | _=>cases a
theorem qs2 (hc:MT X c a)(hx:ME X x f)(hy:ME X y g):ME X (.IfExp c x y pos) (mIf a f g):=
 qaS (qlu hc hx hy) <| by
  rintro σ H Q ⟨r,mu,S,k,n,h,p,d,hc⟩;obtain ⟨⟨b1,m⟩,q,d⟩:=oB1.mp d;refine ⟨r,mu,S,b1,m,h,p,q,fun H1 mu1 e o=>?_⟩;cases b1 with
  | true=>exact ⟨r,mu1,m,k,n,h.ext e,o,d,fun i H2 b l r2 j=>hc i H2 b (e.trans l) r2 j⟩
  | false=>exact ⟨r,mu1,m,k,n,h.ext e,o,d,fun i H2 b l r2 j=>hc i H2 b (e.trans l) r2 j⟩
end
noncomputable def mCh (f g:FN)(a b c:FE):FE:=fun r S=>(a r S).bind fun p=>(b r p.2).bind fun q=>(f [p.1,q.1] q.2).bind fun t=>match t.1 with
 | .bl k=>if k=true then (c r t.2).bind fun z=>g [q.1,z.1] z.2 else some (.bl false,t.2)
 | _=>none
section
variable {X:Cx} {x y z:Expr} {pos:Pos} {f g:FN} {a b c:FE} {op op':CmpOp}
theorem qrn {K:Fg1}{σ:L2.St}{H:Hp}{Q:VK}(h:tM K (mCh f g a b c) σ H Q):qmx (r2 K f) (r2 K g) (tM K a) (tM K b) (tM K c) σ H Q:=by
 obtain ⟨r,mu,S,d,D,n,M,e,hc⟩:=h;obtain ⟨⟨x,u⟩,C,e⟩:=oB1.mp e;obtain ⟨⟨q,y⟩,N,e⟩:=oB1.mp e;obtain ⟨⟨z,t⟩,F,e⟩:=oB1.mp e;refine ⟨r,mu,S,x,u,n,M,C,fun Y H1 mu1 l O L=>?_⟩;refine ⟨r,mu1,u,q,y,n.ext l,L,N,fun Z H2 s m r2 V=>?_⟩;refine ⟨s,y,[x,q],z,t,.cons (O.ext m) (.cons r2 .nil),V,F,fun v3 I i j R v=>?_⟩;cases z with
 | bl k=>
  cases R;refine ⟨k,rfl,?_⟩;cases k with
  | false=>cases e;exact hc _ I i ((l.trans m).trans j) (.bl false) v
  | true=>
   obtain ⟨⟨A,B⟩,W,e⟩:=oB1.mp e;refine ⟨r,i,t,A,B,n.ext ((l.trans m).trans j),v,W,fun v4 H4 o w P X=>?_⟩;exact ⟨o,B,[q,A],d,D,.cons ((r2.ext j).ext w) (.cons P .nil),X,e,fun E U p T J G=>hc E U p ((((l.trans m).trans j).trans w).trans T) J G⟩
 | _=>cases e
theorem qlL (ho:OpR X (compareOp op) (r2 X.K f))(ho':OpR X (compareOp op') (r2 X.K g))(hx:ME X x a)(hy:ME X y b)(hz:ME X z c)(hm:lastMarks [op,op'] [y,z]=false:=by with_unfolding_all rfl):
  MT X (.Compare x [op,op'] [y,z] pos) (mB (mCh f g a b c)):=
 qhA (qlk ho ho' hx hy hz hm) fun σ H Q h=>by
  obtain ⟨r,mu,S,d,l,e,i,hm,hc⟩:=qro h;exact qrn ⟨r,mu,S,d,l,e,i,hm,fun v H' mu' j k m=>hc v H' mu' j k m⟩
end
mutual
noncomputable def D.und (n:Nat):D->Bool
 | .tup xs=>D.unds n xs
 | .rol xs=>D.unds n xs
 | .ref k=>decide (k<n)
 | .non=>true
 | .bl _=>true
 | .int _=>true
 | .str _=>true
 | .fn _=>true
noncomputable def D.unds (n:Nat):List D->Bool
 | []=>true
 | d::ds=>D.und n d&&D.unds n ds
end
noncomputable def D.sames (a b:List D):Bool:=@decide (a=b) (Classical.propDecidable _)
theorem D.sames_eq {a b:List D}(h:D.sames a b=true):a=b:=@of_decide_eq_true _ (Classical.propDecidable _) h
theorem D.sames_refl (a:List D):D.sames a a=true:=@decide_eq_true _ (Classical.propDecidable _) rfl
section
variable {K:Fg1} {H:Hp} {mu mu':List Addr}
theorem Rep.cut {n:Nat}(h:∀ k,k<n->mu[k]? = mu'[k]?):∀ {d:D} {v:V},Rep K H mu d v->d.und n=true->Rep K H mu' d v:=fun c=>c.rec (motive_1:=fun d v _=>d.und n=true->Rep K H mu' d v) (motive_2:=fun ds vs _=>D.unds n ds=true->Reps K H mu' ds vs)
  (fun _=>.non) (fun b _=>.bl b) (fun i _=>.int i) (fun x _=>.str x) (fun q _ ih e=>.tup q (ih (by rw [D.und] at e;exact e))) (fun q _ ih e=>.rol q (ih (by rw [D.und] at e;exact e)))
  (fun q e=>.ref (by rw [D.und] at e;rw [<- h _ (of_decide_eq_true e)];exact q)) (fun q _=>.fn q) (fun _=>.nil) (fun _ _ a b e=>by rw [D.unds,bA1] at e;exact .cons (a e.1) (b e.2))
theorem Reps.cut {n:Nat}(h:∀ k,k<n->mu[k]? = mu'[k]?):∀ {ds:List D} {vs:List V},Reps K H mu ds vs->D.unds n ds=true->Reps K H mu' ds vs:=fun a=>a.ind (P:=fun ds vs _=>D.unds n ds=true->Reps K H mu' ds vs) (fun _=>.nil) fun r _ b e=>by rw [D.unds,bA1] at e;exact .cons (Rep.cut h r e.1) (b e.2)
end
noncomputable def Ob.und (n:Nat):Ob->Bool
 | .lst xs=>D.unds n xs
 | .dct kvs=>D.unds n (kvs.map (·.2))
 | .dcT kvs=>D.unds n (kvs.map (·.2))
 | .iset _=>true
 | .dcF kvs=>D.unds n (kvs.map (·.2))
 | .tst _=>true
theorem KR.cut {κ:Type}{K:Fg1}{H:Hp}{mu mu':List Addr}{n:Nat}(h:∀ k,k<n->mu[k]? = mu'[k]?):∀ {ks:List (κ×D)} {ws:List (κ×V)},KR K H mu ks ws->D.unds n (ks.map (·.2))=true->KR K H mu' ks ws:=by
 intro ks ws a e
 induction a with
 | nil=>exact .nil
 | cons r t ih=>
  rw [mP1,D.unds,bA1] at e;exact .cons ⟨r.1,r.2.cut h e.1⟩ (ih e.2)
mutual
theorem qmt (n:Nat):∀ k:TK,(tkD k).und n=true
 | .non=>rfl
 | .int _=>rfl
 | .tup xs=>by rw [tkD,D.und];exact qjb n xs
theorem qjb (n:Nat):∀ ks:List TK,D.unds n (tkDs ks)=true
 | []=>rfl
 | x::xs=>by rw [tkDs,D.unds,qmt n x,qjb n xs];rfl
end
theorem KT.cut {K:Fg1}{H:Hp}{mu mu':List Addr}{n:Nat}(h:∀ k,k<n->mu[k]? = mu'[k]?):∀ {ks:List (TK×D)} {ws:List (TK×Addr×Value)},KT K H mu ks ws->D.unds n (ks.map (·.2))=true->KT K H mu' ks ws:=by
 intro ks ws b e
 induction b with
 | nil=>exact .nil
 | cons r t ih=>
  rw [mP1,D.unds,bA1] at e;obtain ⟨z,d,k,v,a,r⟩:=r;exact .cons ⟨z,d,k.cut h (qmt n _),v,a,r.cut h e.1⟩ (ih e.2)
theorem qjR (n:Nat):∀ ks:List TK,D.unds n ((ks.map fun k=>(k,D.non)).map (·.2))=true
 | []=>rfl
 | _::ks=>by rw [mP1,mP1,D.unds,qjR n ks];rfl
theorem ObR.cut {K:Fg1}{H:Hp}{mu mu':List Addr}{n:Nat}{a:Addr}(h:∀ k,k<n->mu[k]? = mu'[k]?):∀ {o:Ob},ObR K H mu a o->o.und n=true->ObR K H mu' a o
 | .lst _,⟨vs,e,r⟩,b=>⟨vs,e,r.cut h b⟩
 | .dct _,⟨ws,e,r⟩,b=>⟨ws,e,KR.cut h r b⟩
 | .dcT _,⟨ws,e,r,l⟩,b=>⟨ws,e,KT.cut h r b,l⟩
 | .iset _,q,_=>q
 | .dcF _,⟨ws,e,r,l⟩,b=>⟨ws,e,KT.cut h r b,l⟩
 | .tst ks,⟨ws,e,r⟩,_=>⟨ws,e,KT.cut h r (qjR n ks)⟩
noncomputable def gc (n:Nat)(p:D×Sto):D×Sto:=if p.1.und n&&(p.2.take n).all (Ob.und n) then (p.1,p.2.take n) else p
mutual
noncomputable def D.sh (n:Nat):D->D
 | .tup xs=>.tup (D.shs n xs)
 | .rol xs=>.rol (D.shs n xs)
 | .ref k=>.ref (n+k)
 | .fn x=>.fn x
 | .non=>.non
 | .bl b=>.bl b
 | .int i=>.int i
 | .str x=>.str x
noncomputable def D.shs (n:Nat):List D->List D
 | []=>[]
 | d::ds=>D.sh n d::D.shs n ds
end
noncomputable def Ob.sh (n:Nat):Ob->Ob
 | .lst xs=>.lst (D.shs n xs)
 | .dct kvs=>.dct (kvs.map fun p=>(p.1,p.2.sh n))
 | .dcT kvs=>.dcT (kvs.map fun p=>(p.1,p.2.sh n))
 | .iset xs=>.iset xs
 | .dcF kvs=>.dcF (kvs.map fun p=>(p.1,p.2.sh n))
 | .tst ks=>.tst ks
theorem Rep.sh {K:Fg1}{H:Hp}{mu mu':List Addr}:∀ {d:D} {v:V},Rep K H mu' d v->Rep K H (mu++mu') (d.sh mu.length) v:=fun c=>c.rec (motive_1:=fun d v _=>Rep K H (mu++mu') (d.sh mu.length) v) (motive_2:=fun ds vs _=>Reps K H (mu++mu') (D.shs mu.length ds) vs)
  .non .bl .int .str (fun h _ ih=>.tup h ih) (fun h _ ih=>.rol h ih) (fun h=>.ref (by rw [gR1 (Nat.le_add_right _ _),Nat.add_sub_cancel_left];exact h)) (fun h=>.fn h) .nil (fun _ _ a b=>.cons a b)
theorem Reps.sh {K:Fg1}{H:Hp}{mu mu':List Addr}:∀ {ds:List D} {vs:List V},Reps K H mu' ds vs->Reps K H (mu++mu') (D.shs mu.length ds) vs:=fun h=>h.ind (P:=fun ds vs _=>Reps K H (mu++mu') (D.shs mu.length ds) vs) .nil fun r _ ih=>.cons (Rep.sh r) ih
theorem KR.sh {κ:Type}{K:Fg1}{H:Hp}{mu mu':List Addr}:∀ {ks:List (κ×D)} {ws:List (κ×V)},KR K H mu' ks ws->KR K H (mu++mu') (ks.map fun p=>(p.1,p.2.sh mu.length)) ws:=by
 intro ks ws h
 induction h with
 | nil=>exact .nil
 | cons r t ih=>exact .cons ⟨r.1,r.2.sh⟩ ih
mutual
theorem qpI (n:Nat):∀ k:TK,(tkD k).sh n=tkD k
 | .non=>rfl
 | .int _=>rfl
 | .tup xs=>by rw [tkD,D.sh,qmr n xs]
theorem qmr (n:Nat):∀ ks:List TK,D.shs n (tkDs ks)=tkDs ks
 | []=>rfl
 | x::xs=>by rw [tkDs,D.shs,qpI n x,qmr n xs]
end
theorem KT.sh {K:Fg1}{H:Hp}{mu mu':List Addr}:∀ {ks:List (TK×D)} {ws:List (TK×Addr×Value)},KT K H mu' ks ws->KT K H (mu++mu') (ks.map fun p=>(p.1,p.2.sh mu.length)) ws:=by
 intro ks ws h
 induction h with
 | nil=>exact .nil
 | cons r t ih=>
  obtain ⟨z,d,k,v,a,r⟩:=r;exact .cons ⟨z,d,by have:=k.sh (mu:=mu);rw [qpI] at this;exact this,v,a,r.sh⟩ ih
theorem ObR.sh {K:Fg1}{H:Hp}{mu mu':List Addr}{a:Addr}:∀ {o:Ob},ObR K H mu' a o->ObR K H (mu++mu') a (o.sh mu.length)
 | .lst _,⟨vs,e,r⟩=>⟨vs,e,r.sh⟩
 | .dct _,⟨ws,e,r⟩=>⟨ws,e,KR.sh r⟩
 | .dcT _,⟨ws,e,r,l⟩=>⟨ws,e,KT.sh r,l⟩
 | .iset _,q=>q
 | .dcF _,⟨ws,e,r,l⟩=>⟨ws,e,KT.sh r,l⟩
 | .tst ks,⟨ws,e,r⟩=>⟨ws,e,by have:=KT.sh (mu:=mu) r;rw [List.map_map] at this;exact this⟩
theorem Rep.mor {K:Fg1}{H:Hp}{mu:List Addr}(mu':List Addr):∀ {d:D} {v:V},Rep K H mu d v->Rep K H (mu++mu') d v:=fun h=>h.exv ⟨List.prefix_append _ _,fun _ _ h=>h,fun _ _ _ h=>h⟩
theorem Reps.mor {K:Fg1}{H:Hp}{mu:List Addr}(mu':List Addr):∀ {ds:List D} {vs:List V},Reps K H mu ds vs->Reps K H (mu++mu') ds vs:=fun h=>h.exv ⟨List.prefix_append _ _,fun _ _ h=>h,fun _ _ _ h=>h⟩
theorem KR.mor {κ:Type}{K:Fg1}{H:Hp}{mu:List Addr}(mu':List Addr){ks:List (κ×D)}{ws:List (κ×V)}(h:KR K H mu ks ws):KR K H (mu++mu') ks ws:=Paired.mapP h fun _ _ z=>⟨z.1,z.2.mor mu'⟩
theorem ObR.mor {K:Fg1}{H:Hp}{mu:List Addr}{a:Addr}(mu':List Addr):∀ {o:Ob},ObR K H mu a o->ObR K H (mu++mu') a o
 | .lst _,⟨vs,e,r⟩=>⟨vs,e,r.mor mu'⟩
 | .dct _,⟨ws,e,r⟩=>⟨ws,e,KR.mor mu' r⟩
 | .dcT _,⟨ws,e,r,l⟩=>⟨ws,e,Paired.mapP r fun _ _ ⟨z,d,k,v,b,r⟩=>⟨z,d,k.mor mu',v,b,r.mor mu'⟩,l⟩
 | .iset _,q=>q
 | .dcF _,⟨ws,e,r,l⟩=>⟨ws,e,Paired.mapP r fun _ _ ⟨z,d,k,v,b,r⟩=>⟨z,d,k.mor mu',v,b,r.mor mu'⟩,l⟩
 | .tst _,⟨ws,e,r⟩=>⟨ws,e,Paired.mapP r fun _ _ ⟨z,d,k,v,b,r⟩=>⟨z,d,k.mor mu',v,b,r.mor mu'⟩⟩
noncomputable def callG (f:FN):FN:=fun ds S=>if D.unds 0 ds=true then (f ds []).map fun p=>if p.1.und 0=true then (p.1,S) else (p.1.sh S.length,S++p.2.map (Ob.sh S.length)) else (f ds S).map (gc S.length)
theorem ObR.keep {K:Fg1}{H H':Hp}{mu:List Addr}{a:Addr}(e:Ext mu mu H H')(h:∀ o,H a=some o->H' a=some o):∀ {o:Ob},ObR K H mu a o->ObR K H' mu a o
 | .lst _,⟨vs,q,r⟩=>⟨vs,h _ q,r.ext e⟩
 | .dct _,⟨ws,q,r⟩=>⟨ws,h _ q,KR.ext e r⟩
 | .dcT _,⟨ws,q,r,l⟩=>⟨ws,h _ q,KT.ext e r,l⟩
 | .iset _,q=>⟨h _ q.1,q.2⟩
 | .dcF _,⟨ws,⟨o,u,c,b⟩,r,l⟩=>⟨ws,⟨o,u,h _ c,b⟩,KT.ext e r,l⟩
 | .tst _,⟨ws,q,r⟩=>⟨ws,h _ q,KT.ext e r⟩
theorem qia {K:Fg1}{f:FN}{vs:List V}{H:Hp}{Q:VK}(h:rN K (callG f) vs H Q):rN K f vs H Q:=by
 obtain ⟨mu,S,ds,d,L,C,c,g,hc⟩:=h;unfold callG at g;split at g
 ·rename_i j;obtain ⟨⟨B,p⟩,y,g⟩:=oM1.mp g;refine ⟨[],[],ds,B,p,C.cut (n:=0) (fun k i=>absurd i (Nat.not_lt_zero _)) j,.nil,y,fun v H' mu' x r s=>?_⟩;have A:Ext mu mu H H':=⟨List.prefix_rfl,fun a o e _=>x.old a o e (by simp),x.tup,x.frz,fun _ z=>.inl z⟩;dsimp only at g;split at g
  ·rename_i hd;cases g;refine hc v H' mu A (r.cut (n:=0) (fun k i=>absurd i (Nat.not_lt_zero _)) hd) ⟨c.len,c.nd,fun n o a h1 h2=>?_⟩;exact (c.ob n o a h1 h2).keep A fun o e=>x.old a o e (by simp)
  ·cases g;have D:∀ a∈mu',H a=none:=fun a u=>(x.new a u).resolve_left (by simp);have I:Ext mu (mu++mu') H H':=⟨List.prefix_append _ _,fun a o e _=>x.old a o e (by simp),x.tup,x.frz,fun a z=>by
    rcases List.mem_append.mp z with z | z
    ·exact .inl z
    ·exact .inr (D a z)⟩
   refine hc v H' (mu++mu') I (by rw [<- c.len];exact r.sh) ⟨by rw [lA1,lA1,lM1,c.len,s.len],?_,fun n o a h1 h2=>?_⟩
   ·refine List.nodup_append.mpr ⟨c.nd,s.nd,fun a u b j z=>?_⟩;subst z;obtain ⟨o,e⟩:=c.here u;rw [D a j] at e;cases e
   ·by_cases l:n<S.length
    ·rw [gL1 l] at h1;rw [gL1 (by rw [c.len];exact l)] at h2;exact ((c.ob n o a h1 h2).keep A fun o e=>x.old a o e (by simp)).mor mu'
    ·have m:=Nat.le_of_not_lt l;rw [gR1 m] at h1;rw [gR1 (by rw [c.len];exact m)] at h2;rw [gP1] at h1;obtain ⟨G,F,J⟩:=oM1.mp h1;subst J;have q:=s.ob (n-S.length) G a F (by rw [c.len] at h2;exact h2);rw [<- c.len];exact q.sh
 ·obtain ⟨⟨B,p⟩,y,g⟩:=oM1.mp g;refine ⟨mu,S,ds,B,p,C,c,y,fun v H' mu' x r s=>?_⟩;unfold gc at g;split at g
  ·rename_i j;cases g;rw [bA1] at j;have i:∀ k,k<S.length->mu'[k]? = mu[k]?:=fun k i=>by
    obtain ⟨t,rfl⟩:=x.pre;rw [gL1 (by rw [c.len];exact i)]
   refine hc v H' mu x.back (r.cut i j.1) ⟨?_,c.nd,fun n o a h1 h2=>?_⟩
   ·have:=s.len;have E:=x.pre.length_le;rw [List.length_take,<- s.len];rw [c.len] at E ⊢;exact (Nat.min_eq_left E).symm
   ·have l:n<S.length:=by rw [<- c.len];exact (gE1.mp h2).1
    have w:p[n]? = some o:=by rw [List.getElem?_take_of_lt l] at h1;exact h1
    refine (s.ob n o a w ((i n l).trans h2)).cut i ?_;exact List.all_eq_true.mp j.2 o (gM1 h1)
  ·cases g;exact hc v H' mu' x r s
noncomputable def spM (K:Fg1)(n:Nat)(f:FN):Sp:=fun vs H Q _=>vs.length=n/\rN K f vs H Q
section
variable {X:Cx} {k n:Nat} {f:Addr} {fd:FuncData} {ps:List Str} {x:Str} {p pos:Pos} {e:Expr} {es:List Expr} {m:FN} {a:FA}
noncomputable def qaf (n:Nat)(f:FN):FN:=fun ds S=>if ds.length=n then callG f ds S else none
theorem qou (F:FnOk X.prog X.w X.K X.mg X.base CX0 k f fd ps (spM X.K n m))(hr:Room k X.A)(hg:Gl X x)(hm:X.mg x=some (.ref f))(hk:wK1 X.K (.ref f)=true)(hb:qdR X.K fd ps [])
  (ha:MA X (e::es) a) (hdb:(x == ("__debug__":Str))=false:=by decide) (he:starEach (e::es) X.env=(false,eval e X.env)::starEach es X.env:=by rfl) (hpl:(backTo pos (starEach es X.env)).any (·.1)=false:=by rfl):
  ME X (.Call (.Name x p) (e::es) [] pos) (mN (qaf n m) a):=
 qaS (qn2 (E:=E0) F hr hg hm hk hb .nil qqB ha hdb he hpl) fun σ H Q h=>by
  obtain ⟨r,mu,S,ds,v,he,g,hm,hc⟩:=qlT h;refine ⟨r,mu,S,ds,v,he,g,hm,fun vs H' mu' j s w=>?_⟩;have q:=hc vs H' mu' j s w;show spM X.K n m (vs++[]) H' Q E0;rw [List.append_nil];obtain ⟨d,l,c,o,t,h1,h2,b,u⟩:=q;unfold qaf at b;split at b
  ·rename_i i;exact ⟨by rw [<- h1.length];exact i,qia ⟨d,l,c,o,t,h1,h2,b,u⟩⟩
  ·cases b
end
noncomputable def mNx:FS:=fun r S=>some (.nx,r,S)
noncomputable def mSeq (a b:FS):FS:=fun r S=>(a r S).bind fun p=>match p.1 with
 | .nx=>b p.2.1 p.2.2
 | f=>some (f,p.2.1,p.2.2)
noncomputable def mRet (m:FE):FS:=fun r S=>(m r S).bind fun p=>some (.rt p.1,r,p.2)
noncomputable def mRetN:FS:=fun r S=>some (.rt .non,r,S)
noncomputable def qcg (m:FE):FS:=fun r S=>(m r S).bind fun p=>some (.nx,r,p.2)
noncomputable def mIfS (c:FT)(a b:FS):FS:=fun r S=>(c r S).bind fun p=>if p.1=true then a r p.2 else b r p.2
section
variable {X:Cx} {pos:Pos} {e c:Expr} {st:Stmt} {rest as bs:List Stmt} {a b:FS} {m:FE} {t:FT}
theorem qoi:MSs X [] mNx:=qjz qnM <| by
 rintro E σ H ⟨r,mu,S,f,d,e,a,b,c,hc⟩;cases c;exact hc σ H mu (.refl _ _) a b
theorem qlM (h1:MS X st a)(h2:MSs X rest b):MSs X (st::rest) (mSeq a b):=qjz (qll h1 h2) <| by
 rintro E σ H ⟨r,mu,S,f,t,u,o,p,h,hc⟩;obtain ⟨⟨m,l,n⟩,q,h⟩:=oB1.mp h;refine ⟨r,mu,S,m,l,n,o,p,q,?_⟩;cases m with
 | nx=>
  intro s H1 mu1 i j k;refine ⟨l,mu1,n,f,t,u,j,k,h,?_⟩;cases f with
  | nx=>exact fun e H2 c g=>hc e H2 c (i.trans g)
  | bk=>exact fun e H2 c g=>hc e H2 c (i.trans g)
  | ct=>exact fun e H2 c g=>hc e H2 c (i.trans g)
  | rt d=>exact fun v H2 c g=>hc v H2 c (i.trans g)
 | bk=>cases h;exact hc
 | ct=>cases h;exact hc
 | rt d=>cases h;exact hc
theorem qoh (h1:MS X st a):MSs X [st] a:=qnL h1
theorem qoj (h:ME X e m)(hs:swapsWith e none pos.line X.env=pure false:=by rfl):MS X (.Expr e pos) (qcg m):=qcs (qnO h hs) <| by
 rintro E σ H ⟨r,mu,S,f,j,k,b,hs,a,hc⟩;obtain ⟨⟨d,l⟩,c,a⟩:=oB1.mp a;cases a;exact ⟨r,mu,S,d,_,b,hs,c,fun v H' mu' x i g=>hc σ H' mu' x (b.ext x) g⟩
theorem qq2 (h:ME X e m):MS X (.Return (some e) pos) (mRet m):=qcs (qp8 h) <| by
 rintro E σ H ⟨r,mu,S,f,i,j,b,c,a,hc⟩;obtain ⟨⟨d,k⟩,g,a⟩:=oB1.mp a;cases a;exact ⟨r,mu,S,d,_,b,c,g,hc⟩
theorem qsY (hc:MT X c t)(ha:MSs X as a)(hb:MSs X bs b):MS X (.If c as bs pos) (mIfS t a b):=qcs (qsG hc ha hb) <| by
 rintro E σ H ⟨r,mu,S,f,n,p,m,q,i,hc⟩;obtain ⟨⟨k,l⟩,s,i⟩:=oB1.mp i;refine ⟨r,mu,S,k,l,m,q,s,fun H1 mu1 j u=>?_⟩;have o:∀ c:FS,c r l=some (f,n,p)->tMS X.K c E σ H1:=fun c i=>by
  refine ⟨r,mu1,l,f,n,p,m.ext j,u,i,?_⟩;cases f with
  | nx=>exact fun g H2 e h=>hc g H2 e (j.trans h)
  | bk=>exact fun g H2 e h=>hc g H2 e (j.trans h)
  | ct=>exact fun g H2 e h=>hc g H2 e (j.trans h)
  | rt d=>exact fun v H2 e h=>hc v H2 e (j.trans h)
 cases k with
 | true=>exact o a i
 | false=>exact o b i
end
noncomputable abbrev FG:=D->Ev->Sto->Option (Ev×Sto)
noncomputable abbrev FGs:=List D->Ev->Sto->Option (Ev×Sto)
inductive tMG (K:Fg1)(g:FG)(v:V)(σ:L2.St)(H:Hp)(Q:L2.St->Hp->Prop):Prop
 | mk (r:Ev) (mu:List Addr) (S:Sto) (d:D) (r':Ev) (S':Sto) (he:EnvR K H mu r σ) (hs:Sim K H mu S) (hr:Rep K H mu d v) (hm:g d r S=some (r',S')) (hc:∀ σ' H' mu',Ext mu mu' H H'->EnvR K H' mu' r' σ'->Sim K H' mu' S'->Q σ' H')
inductive tMGs (K:Fg1)(g:FGs)(vs:List V)(σ:L2.St)(H:Hp)(Q:L2.St->Hp->Prop):Prop
 | mk (r:Ev) (mu:List Addr) (S:Sto) (ds:List D) (r':Ev) (S':Sto) (he:EnvR K H mu r σ) (hs:Sim K H mu S) (hr:Reps K H mu ds vs) (hm:g ds r S=some (r',S')) (hc:∀ σ' H' mu',Ext mu mu' H H'->EnvR K H' mu' r' σ'->Sim K H' mu' S'->Q σ' H')
noncomputable abbrev MG (X:Cx)(e:Expr)(g:FG):Prop:=PG X e (tMG X.K g)
noncomputable abbrev MGs (X:Cx)(es:List Expr)(g:FGs):Prop:=PGs X es (tMGs X.K g)
noncomputable def gN (i:Nat):FG:=fun d r S=>some (r.set i (some d),S)
noncomputable def gNl:FGs:=fun ds r S=>match ds with
 | []=>some (r,S)
 | _=>none
noncomputable def gCs (g:FG)(gs:FGs):FGs:=fun ds r S=>match ds with
 | d::ds=>(g d r S).bind fun p=>gs ds p.1 p.2
 | []=>none
noncomputable def gT (n:Nat)(gs:FGs):FG:=fun d r S=>match d with
 | .tup ds=>if ds.length=n then gs ds r S else none
 | _=>none
theorem EnvR.set {K:Fg1}{H:Hp}{mu:List Addr}{r:Ev}{σ:L2.St}{i:Nat}{d:D}{v:V}(h:EnvR K H mu r σ)(q:Rep K H mu d v):EnvR K H mu (r.set i (some d)) (σ.set i (some v)):=by
 refine ⟨by rw [List.length_set,List.length_set];exact h.len,fun j k e=>?_⟩;by_cases a:i=j
 ·subst a;have b:i<r.length:=by
   have:=(gE1.mp e).1
   rwa [List.length_set] at this
  rw [List.getElem?_set_self b] at e;cases e;exact ⟨v,List.getElem?_set_self (by rw [<- h.len];exact b),q⟩
 ·rw [gS1 a] at e;obtain ⟨g,c,f⟩:=h.val j k e;exact ⟨g,by rw [gS1 a];exact c,f⟩
section
variable {X:Cx} {pos:Pos}
theorem qjF {e:Expr}{t t':TG}(h:PG X e t)(i:∀ v σ H Q,t' v σ H Q->t v σ H Q):PG X e t':=fun pins s σ H v u Q I r q=>h pins s σ H v u Q I r (i v σ H Q q)
theorem qjD {e:List Expr}{t t':TGs}(h:PGs X e t)(i:∀ v σ H Q,t' v σ H Q->t v σ H Q):PGs X e t':=fun pins s σ H v u Q I r q=>h pins s σ H v u Q I r (i v σ H Q q)
theorem qor (i:Nat){x:Str}(hN:X.N.Nodup)(hi:X.N[i]? = some x)(hx:Loc X.env.scope x)(hf:X.fn x=true\/X.env.scope.names.lookup x=some .local:=by first | exact .inl rfl | exact .inr rfl | assumption):MG X (.Name x pos) (gN i):=
 qjF (qjE hN hi hx hf) <| by
  rintro v σ H Q ⟨r,mu,S,d,f,g,b,c,a,e,hc⟩;cases e;exact hc _ H mu (.refl _ _) (b.set a) c
theorem qoq:MGs X [] gNl:=qjD qnX <| by
 rintro vs σ H Q ⟨r,mu,S,ds,e,f,c,d,b,a,hc⟩;unfold gNl at a;split at a
 ·cases a;cases b;exact ⟨rfl,hc σ H mu (.refl _ _) c d⟩
 ·cases a
theorem qlO {e:Expr}{es:List Expr}{g:FG}{h:FGs}(h1:MG X e g)(h2:MGs X es h)(hs:(assignEach (e::es) X.env).map (·.2)=assign e X.env::(assignEach es X.env).map (·.2):=by rfl):MGs X (e::es) (gCs g h):=
 qjD (qlr h1 h2 hs) <| by
  rintro vs σ H Q ⟨r,mu,S,ds,o,s,l,hs,k,a,hc⟩;unfold gCs at a;split at a
  ·obtain ⟨⟨i,j⟩,m,a⟩:=oB1.mp a;cases k with
   | cons q t=>
    exact ⟨_,_,rfl,r,mu,S,_,i,j,l,hs,q,m,fun n H1 mu1 f b u=>⟨i,mu1,j,_,o,s,b,u,t.ext f,a,fun d H2 c p=>hc d H2 c (f.trans p)⟩⟩
  ·cases a
theorem qq9 {es:List Expr}{k:Nat}{b:FGs}{n:Nat}(hc:X.calm=true)(h:MGs X es b)(hn:(assignEach es X.env).length=n:=by rfl)(hst:(assignEach es X.env).findIdx? (·.1)=none:=by rfl):MG X (.Tuple es k pos) (gT n b):=
 qjF (qqk hc h hn hst) <| by
  rintro v σ H Q ⟨r,mu,S,d,i,j,e,f,c,a,hc⟩;cases d with
  | tup ds=>
   rw [gT] at a;split at a
   ·rename_i g;cases c with
    | tup q t=>exact ⟨_,_,rfl,q,by rw [<- t.length];exact g,r,mu,S,ds,i,j,e,f,t,a,hc⟩
   ·cases a
  | _=>cases a
inductive rU (K:Fg1)(f:FN)(o i v:V)(H:Hp)(Q:Hp->Prop):Prop
 | mk (mu:List Addr) (S:Sto) (ds:List D) (d:D) (S':Sto) (hr:Reps K H mu ds [o,i,v]) (hs:Sim K H mu S) (hm:f ds S=some (d,S')) (hc:∀ H' mu',Ext mu mu' H H'->Sim K H' mu' S'->Q H')
noncomputable def gS (f:FN)(a b:FE):FG:=fun d r S=>(a r S).bind fun p=>(b r p.2).bind fun q=>(f [p.1,q.1,d] q.2).bind fun t=>some (r,t.2)
theorem qra {o i:Expr}{a b:FE}{f:FN}(ho:ME X o a)(hi:ME X i b)(hs:PSet X (rU X.K f))
  (ha:∀ v,assign (.Subscript o i pos) X.env v=(do
   let ov<-holding [v] (eval o X.env)
   let iv<-holding [v,ov] (eval i X.env)
   standAt pos
   holding [v,ov,iv] (setItem ov iv v)
   release [v,ov,iv] []):=by intro _;rfl):MG X (.Subscript o i pos) (gS f a b):=
 qjF (qql ho hi hs ha) <| by
  rintro v σ H Q ⟨r,mu,S,d,I,E,h,hs,A,c,hc⟩;obtain ⟨⟨n,m⟩,s,c⟩:=oB1.mp c;obtain ⟨⟨q,p⟩,y,c⟩:=oB1.mp c;obtain ⟨⟨B,D⟩,t,c⟩:=oB1.mp c;cases c;refine ⟨r,mu,S,n,m,h,hs,s,fun F H1 mu1 e z x=>?_⟩;refine ⟨r,mu1,m,q,p,h.ext e,x,y,fun G H2 j g r2 C=>?_⟩;exact ⟨j,p,[n,q,d],B,_,.cons (z.ext g) (.cons r2 (.cons ((A.ext e).ext g) .nil)),C,t,fun u k l w=>hc σ u k ((e.trans g).trans l) (((h.ext e).ext g).ext l) w⟩
noncomputable def mAsg (m:FE)(g:FG):FS:=fun r S=>(m r S).bind fun p=>(g p.1 r p.2).bind fun q=>some (.nx,q.1,q.2)
theorem qg2 {K:Fg1}{m:FE}{g:FG}{E:Ends}{σ:L2.St}{H:Hp}(h:tMS K (mAsg m g) E σ H):tAsg (tM K m) (tMG K g) E σ H:=by
 obtain ⟨r,mu,S,f,u,v,d,k,a,hc⟩:=h;obtain ⟨⟨i,j⟩,l,a⟩:=oB1.mp a;obtain ⟨⟨r2,t⟩,n,a⟩:=oB1.mp a;cases a;refine ⟨r,mu,S,i,j,d,k,l,fun s H1 mu1 e o q=>?_⟩;exact ⟨r,mu1,j,i,_,_,d.ext e,q,o,n,fun c H2 b p=>hc c H2 b (e.trans p)⟩
theorem qq5 {tg e:Expr}{m:FE}{g:FG}(he:ME X e m)(hg:MG X tg g)(hs:swapsWithSole [tg] e pos.line X.env=pure false:=by rfl)(hw:swappedStores [tg] e X.env=pure none:=by rfl)
  (h1:(assignEach [tg] X.env).map (·.2)=[assign tg X.env]:=by rfl):MS X (.Assign [tg] e pos) (mAsg m g):=qcs (qqc he hg hs hw h1) fun _ _ _=>qg2
theorem qq1 (i:Nat){x:Str}{e:Expr}{m:FE}{pos':Pos}(hN:X.N.Nodup)(hi:X.N[i]? = some x)(hx:Loc X.env.scope x)(he:ME X e m)(hs:swapsWith e (some (.Name x pos')) pos.line X.env=pure false:=by rfl)(hf:X.fn x=true\/X.env.scope.names.lookup x=some .local:=by first | exact .inl rfl | exact .inr rfl | assumption):
  MS X (.Assign [.Name x pos'] e pos) (mAsg m (gN i)):=qcs (qp7 hN hi hx he hs hf) fun E σ H h=>by
 obtain ⟨r,mu,S,d,o,h1,h2,f,b⟩:=qg2 h;refine ⟨r,mu,S,d,o,h1,h2,f,fun v H' mu' j k n=>?_⟩;obtain ⟨r2,a,s,t,w,u,q,g,l,c,p⟩:=b v H' mu' j k n;cases c;exact p _ H' a (.refl _ _) (q.set l) g
noncomputable def mAug (i:Nat)(f:FN)(m:FE):FS:=fun r S=>match r[i]? with
 | some (some d)=>(m r S).bind fun p=>(f [d,p.1] p.2).bind fun q=>some (.nx,r.set i (some q.1),q.2)
 | _=>none
theorem qq4 (i:Nat){x:Str}{e:Expr}{m:FE}{op:Operator}{f:FN}{pos':Pos}(hN:X.N.Nodup)(hi:X.N[i]? = some x)(hx:Loc X.env.scope x)(he:ME X e m)(ho:PIp X op (r2 X.K f))(hf:X.fn x=true\/X.env.scope.names.lookup x=some .local:=by first | exact .inl rfl | exact .inr rfl | assumption):
  MS X (.AugAssign (.Name x pos') op e pos) (mAug i f m):=qcs (qqb hN hi hx he ho hf) <| by
 rintro E σ H ⟨r,mu,S,fl,B,z,he,q,a,hc⟩;unfold mAug at a;split at a
 ·rename_i d e;obtain ⟨⟨j,h⟩,k,a⟩:=oB1.mp a;obtain ⟨⟨y,C⟩,s,a⟩:=oB1.mp a;cases a;obtain ⟨v,w,n⟩:=he.val i d e;refine ⟨v,w,r,mu,S,j,h,he,q,k,fun A H1 mu1 b t p=>?_⟩;exact ⟨mu1,h,[d,j],y,_,.cons (n.ext b) (.cons t .nil),p,s,fun D l c g u o=>hc _ l c (b.trans g) (((he.ext b).ext g).set u) o⟩
 ·cases a
end
noncomputable def whl (c:FT)(b:FS):Nat->FS
 | 0=>fun _ _=>none
 | n+1=>fun r S=>(c r S).bind fun p=>if p.1=true then (b r p.2).bind fun q=>match q.1 with
   | .nx=>whl c b n q.2.1 q.2.2
   | .ct=>whl c b n q.2.1 q.2.2
   | .bk=>some (.nx,q.2.1,q.2.2)
   | .rt d=>some (.rt d,q.2.1,q.2.2)
  else some (.nx,r,p.2)
theorem qpw {K:Fg1}{c:FT}{b:FS}{n:Nat}{E:Ends}{σ:L2.St}{H:Hp}(h:tMS K (whl c b n) E σ H):qmu (tMT K c) (tMS K b) E σ H:=by
 refine ⟨fun m a H'=>tMS K (whl c b m) E a H',⟨n,h⟩,fun m u H1 q=>?_⟩;obtain ⟨r,mu,S,f,A,w,t,I,i,hc⟩:=q;cases m with
 | zero=>cases i
 | succ m=>
  obtain ⟨⟨k,z⟩,F,i⟩:=oB1.mp i;refine ⟨r,mu,S,k,z,t,I,F,fun H2 e o D=>?_⟩;cases k with
  | false=>
   cases i;exact hc u H2 e o (t.ext o) D
  | true=>
   obtain ⟨⟨C,p,s⟩,G,i⟩:=oB1.mp i;have B:∀ {a H' mu'},Ext e mu' H2 H'->EnvR K H' mu' p a->Sim K H' mu' s->whl c b m p s=some (f,A,w)->tMS K (whl c b m) E a H':=fun {a H' mu'} x g l i=>by
    refine ⟨p,mu',s,f,A,w,g,l,i,?_⟩;cases f with
    | nx=>exact fun j H2 e y=>hc j H2 e ((o.trans x).trans y)
    | bk=>exact fun j H2 e y=>hc j H2 e ((o.trans x).trans y)
    | ct=>exact fun j H2 e y=>hc j H2 e ((o.trans x).trans y)
    | rt d=>exact fun v H2 e y=>hc v H2 e ((o.trans x).trans y)
   refine ⟨fun a H'=>tMS K (whl c b m) E a H',fun a H' q=>⟨m,Nat.lt_succ_self _,q⟩,r,e,z,C,p,s,t.ext o,D,G,?_⟩;cases C with
   | nx=>exact fun a H' mu' x g l=>B x g l i
   | ct=>exact fun a H' mu' x g l=>B x g l i
   | bk=>cases i;exact fun a H' mu' x g l=>hc a H' mu' (o.trans x) g l
   | rt d=>cases i;exact fun v H' mu' x p l=>hc v H' mu' (o.trans x) p l
theorem qlN {X:Cx}{pos:Pos}(n:Nat){c:Expr}{a:List Stmt}{t:FT}{b:FS}(hp:PassesOwn (model X.prog X.w) X.A X.env X.xe)(hc:MT X c t)(hb:MSs X a b):MS X (.While c a [] pos) (whl t b n):=
 qcs (qlm hp hc hb) fun _ _ _=>qpw
structure Itm where
 items:List D
 chk:List (Nat×List D)
noncomputable def okC (S:Sto):List (Nat×List D)->Bool
 | []=>true
 | (n,xs)::c=>(match S[n]? with
   | some (.lst ys)=>D.sames ys xs
   | _=>false)&&okC S c
noncomputable def ItR (K:Fg1)(j:It)(J:Itm)(mu:List Addr)(H:Hp):Prop:=∀ i H1 mu1 S1,Exw mu mu1 H H1->Sim K H1 mu1 S1->okC S1 J.chk=true ->
 (∀ d,J.items[i]? = some d->j.go i H1 /\ ∀ x H2,j.yld i H1 x H2->Ext mu1 mu1 H1 H2/\Sim K H2 mu1 S1/\Rep K H2 mu1 d x)/\(J.items.length<=i->j.stop i H1)
noncomputable abbrev FI:=Ev->Sto->Option (Itm×Sto)
inductive tMI (K:Fg1)(m:FI)(σ:L2.St)(H:Hp)(R:It->Hp->Prop):Prop
 | mk (r:Ev) (mu:List Addr) (S:Sto) (J:Itm) (S':Sto) (he:EnvR K H mu r σ) (hs:Sim K H mu S) (hm:m r S=some (J,S')) (hc:∀ j H' mu',Ext mu mu' H H'->ItR K j J mu' H'->Sim K H' mu' S'->R j H')
noncomputable abbrev MI (X:Cx)(tg iter:Expr)(m:FI):Prop:=PI X tg iter (tMI X.K m)
theorem qfS {X:Cx}{tg e:Expr}{t t':TI}(h:PI X tg e t)(i:∀ σ H R,t' σ H R->t σ H R):PI X tg e t':=fun pins s σ H R I q=>h pins s σ H R I (i σ H R q)
theorem qsK {X:Cx}{tg e:Expr}{t t':TI}(h:PI X tg e t)(h':PI X tg e t'):PI X tg e (fun σ H R=>t σ H R\/t' σ H R):=fun pins s σ H R I q=>q.elim (h pins s σ H R I) (h' pins s σ H R I)
noncomputable def qcE (c:List (Nat×List D))(g:FG)(b:FS):List D->FS
 | []=>fun r S=>if okC S c=true then some (.nx,r,S) else none
 | d::ds=>fun r S=>if okC S c=true then (g d r S).bind fun p=>(b p.1 p.2).bind fun q=>match q.1 with
   | .nx=>qcE c g b ds q.2.1 q.2.2
   | .ct=>qcE c g b ds q.2.1 q.2.2
   | .bk=>some (.nx,q.2.1,q.2.2)
   | .rt v=>some (.rt v,q.2.1,q.2.2)
  else none
noncomputable def mFor (m:FI)(g:FG)(b:FS):FS:=fun r S=>(m r S).bind fun p=>qcE p.1.chk g b p.1.items r p.2
theorem qen {α:Type}{l:List α}{i:Nat}{d:α}{ds:List α}(h:l.drop i=d::ds):l[i]? = some d/\l.drop (i+1)=ds:=by
 have h1:l[i]? = some d:=by
  have:=congrArg (·[0]?) h;simpa using this
 refine ⟨h1,?_⟩;rw [<- List.drop_drop,h];rfl
inductive MFI (K:Fg1)(mu1:List Addr)(H1:Hp)(c:List (Nat×List D))(g:FG)(b:FS)(f:Fl)(r':Ev)(S':Sto)(L:List D)(σ':L2.St)(H':Hp):Prop
 | mk (r2:Ev) (mu2:List Addr) (S2:Sto):Ext mu1 mu2 H1 H'->EnvR K H' mu2 r2 σ'->Sim K H' mu2 S2->qcE c g b L r2 S2=some (f,r',S')->MFI K mu1 H1 c g b f r' S' L σ' H'
theorem qox {K:Fg1}{m:FI}{g:FG}{b:FS}{E:Ends}{σ:L2.St}{H:Hp}(h:tMS K (mFor m g b) E σ H):tFor (tMI K m) (tMG K g) (tMS K b) E σ H:=by
 obtain ⟨r,mu,S,f,Q,O,M,hs,G,hc⟩:=h;obtain ⟨⟨J,P⟩,V,G⟩:=oB1.mp G;refine ⟨r,mu,S,J,P,M,hs,V,fun j H1 mu1 z U s1=>?_⟩;refine ⟨fun i k u H'=>k=(J.items.drop i).length/\MFI K mu1 H1 J.chk g b f Q O (J.items.drop i) u H',⟨_,rfl,r,mu1,P,.refl _ _,M.ext z,s1,G⟩,?_⟩;rintro i k F H2 ⟨rfl,r2,l,S2,q,t,I,a⟩;cases hl:J.items.drop i with
 | nil=>
  left;rw [hl] at a;rw [qcE] at a;dsimp only at a;split at a
  ·rename_i ok;cases a;refine ⟨(U i H2 l _ q.w I ok).2 (List.drop_eq_nil_iff.mp hl),?_⟩;exact hc F H2 l (z.trans q) t I
  ·cases a
 | cons d ds=>
  right;rw [hl] at a;obtain ⟨hi,hd⟩:=qen hl;rw [qcE] at a;dsimp only at a;split at a
  ·rename_i ok;obtain ⟨⟨R,N⟩,Y,a⟩:=oB1.mp a;obtain ⟨⟨T,D,L⟩,e4,a⟩:=oB1.mp a;obtain ⟨go,W⟩:=(U i H2 l _ q.w I ok).1 d hi;refine ⟨go,MFI K mu1 H1 J.chk g b f Q O ds,?_,fun x Z y=>?_⟩
   ·intro u H' h5;exact ⟨ds.length,Nat.lt_succ_self _,(congrArg List.length hd).symm,hd.symm ▸ h5⟩
   ·obtain ⟨s,s3,q3⟩:=W x Z y;refine ⟨r2,l,S2,d,R,N,t.ext s,s3,q3,Y,fun σ4 H4 C A B s4=>?_⟩;refine ⟨R,C,N,T,D,L,B,s4,e4,?_⟩;cases T with
    | nx=>exact fun o w c p e n=>⟨D,c,L,(q.trans s).trans (A.trans p),e,n,a⟩
    | ct=>exact fun o w c p e n=>⟨D,c,L,(q.trans s).trans (A.trans p),e,n,a⟩
    | bk=>cases a;exact fun o w c p e n=>hc o w c ((z.trans q).trans (s.trans (A.trans p))) e n
    | rt v=>cases a;exact fun X w c p r5 n=>hc X w c ((z.trans q).trans (s.trans (A.trans p))) r5 n
  ·cases a
theorem qq3 {X:Cx}{pos:Pos}{tg iter:Expr}{a:List Stmt}{m:FI}{g:FG}{b:FS}(hp:PassesOwn (model X.prog X.w) X.A X.env X.xe)(hc:X.calm=true)(hi:MI X tg iter m)(hg:MG X tg g)(hb:MSs X a b)
  (hs:∀ x,foldedSetIterable iter X.env x=pure x:=by intro _;rfl):MS X (.For tg iter a [] pos) (mFor m g b):=qcs (qqa hp hc hi hg hb hs) fun _ _ _=>qox
noncomputable def qdA (n:Nat)(ds:List D):Ev:=ds.map some++List.replicate (n-ds.length) none
noncomputable def fnB (n:Nat)(b:FS):FN:=fun ds S=>(b (qdA n ds) S).bind fun p=>match p.1 with
 | .rt d=>some (d,p.2.2)
 | .nx=>some (.non,p.2.2)
 | _=>none
theorem qfI {K:Fg1}{H:Hp}{mu:List Addr}{ds:List D}{vs:List V}(N:List Str)(h:Reps K H mu ds vs):EnvR K H mu (qdA N.length ds) (L2.start N vs):=by
 refine ⟨?_,fun i d e=>?_⟩
 ·unfold qdA L2.start;rw [lA1,lA1,lM1,lM1,lR1,lR1,h.length]
 ·unfold qdA at e;unfold L2.start;by_cases hi:i<ds.length
  ·rw [gL1 (by rw [lM1];exact hi),gP1] at e;obtain ⟨f,b,a⟩:=oM1.mp e;cases a;obtain ⟨v,c,r⟩:=h.get b;refine ⟨v,?_,r⟩;rw [gL1 (by rw [lM1,<- h.length];exact hi),gP1,c];rfl
  ·rw [gR1 (by rw [lM1];lia)] at e;have:=gM1 e;rw [List.mem_replicate] at this;cases this.2
theorem fn_m {P:Program}{w:World}{K:Fg1}{mg:Str->Option Value}{base:Heap}{x c:Str}{st:Stmt}{f:Addr}{fd:FuncData}{N ps:List Str}{k:Nat}{b:FS}(F:Fun K x c st f fd)(S:qam N ps (qac st))
  (g:∀ (e:Value) (A:Around) (a:List Env) (s:Shared) (H:Hp) (E:XK),Room k (A.deeper (envOfC c (qac st) s.heap.objs.size f e)) ->
   MSs (cxOf CX0 P w K mg base N c (qac st) f e A a s H E).nox (qa5 st) b):FnOk P w K mg base CX0 (k+1) f fd ps (spM K ps.length (fnB N.length b)):=by
 refine Fun.ok F S (fun vs H Q E h=>h.1) fun e A a s H vs Q E m j=>⟨_,g e A a s H E m,?_⟩;obtain ⟨_,mu,St,ds,d,t,h1,h2,i,l⟩:=j;unfold fnB at i;obtain ⟨⟨fl,p,q⟩,o,i⟩:=oB1.mp i;refine ⟨_,mu,St,fl,p,q,qfI N h1,h2,o,?_⟩;cases fl with
 | nx=>cases i;exact fun n H' mu' x r s=>l .non H' mu' x .non s
 | rt d=>cases i;exact l
 | bk=>cases i
 | ct=>cases i
noncomputable def cloF (cells:List (Str×Addr)):List (Str×NameKind)->List (Str×Addr)->Option (List (Str×Addr))
 | [],acc=>some acc
 | (n,k)::r,acc=>if k == .free then (cells.lookup n).bind fun c=>cloF cells r ((n,c)::acc) else cloF cells r acc
theorem qkE {env:Env}(f:Str×NameKind->List (Str×Addr)->Sem (ForInStep (List (Str×Addr))))
  (hf:∀ n k g,f (n,k) g=if k == .free then (do let c<-cellOf env n;pure (.yield ((n,c)::g))) else pure (.yield g)):
  ∀ (a:List (Str×NameKind)) (acc b:List (Str×Addr)),cloF env.cells a acc=some b->forIn a acc f=(pure b:Sem (List (Str×Addr)))
 | [],acc,b,h=>by cases h;rfl
 | (n,k)::r,acc,b,h=>by
  rw [List.forIn_cons,hf];unfold cloF at h;split at h
  ·rename_i d;rw [if_pos d];obtain ⟨c,e,h⟩:=oB1.mp h;have:cellOf env n=pure c:=by unfold cellOf;rw [e]
   rw [this,pure_bind,pure_bind];exact qkE f hf r _ b h
  ·rename_i d;rw [if_neg d,pure_bind];exact qkE f hf r _ b h
theorem qm7 {scope:Scope}{env:Env}{cl:List (Str×Addr)}(h:cloF env.cells scope.names []=some cl):closureFor scope env=pure cl:=by
 simp only [closureFor];rw [qkE (env:=env) _ (fun n k a=>by cases hk:k == NameKind.free<;>simp [hk]) scope.names [] cl h];rfl
theorem qkD {a:List (Str×Addr)}:∀ {b:List (Str×NameKind)} {acc d:List (Str×Addr)},cloF a b acc=some d->(∀ x c,acc.lookup x=some c->a.lookup x=some c) -> ∀ x c,d.lookup x=some c->a.lookup x=some c
 | [],acc,d,h,ha=>by cases h;exact ha
 | (n,k)::r,acc,d,h,ha=>by
  unfold cloF at h;split at h
  ·obtain ⟨c,e,h⟩:=oB1.mp h;refine qkD h fun x f q=>?_;rw [List.lookup_cons] at q;split at q
   ·rename_i g;cases q;rw [beq_iff_eq.mp g];exact e
   ·exact ha x f q
  ·exact qkD h ha
theorem qfv {b:List (Str×Addr)}{x:Str}:∀ {a:List (Str×NameKind)} {acc d:List (Str×Addr)},cloF b a acc=some d->(a.lookup x=some .free\/(acc.lookup x).isSome=true)->(d.lookup x).isSome=true
 | [],acc,d,h,ha=>by
  cases h;rcases ha with q | q
  ·cases q
  ·exact q
 | (n,k)::r,acc,d,h,ha=>by
  unfold cloF at h;split at h
  ·obtain ⟨c,e,h⟩:=oB1.mp h;refine qfv h ?_;rcases ha with q | q
   ·rw [List.lookup_cons] at q;split at q
    ·rename_i g;right;rw [List.lookup_cons,g];rfl
    ·exact .inl q
   ·right;rw [List.lookup_cons];split
    ·rfl
    ·exact q
  ·rename_i f;refine qfv h ?_;rcases ha with q | q
   ·rw [List.lookup_cons] at q;split at q
    ·cases q;exact absurd rfl f
    ·exact .inl q
   ·exact .inr q
theorem qbw {x:Str}{c:Addr}:∀ {a:List (Str×NameKind)} {n:Nat} {acc:List (Str×Addr)},(cellsFrom n a acc).lookup x=some c->(n<=c/\(x,c)∈cellsFrom n a [])\/acc.lookup x=some c
 | [],_,_,h=>.inr h
 | (y,k)::r,n,acc,h=>by
  unfold cellsFrom at h ⊢;split at h
  ·rename_i b;rw [if_pos b];have app:∀ (a:List (Str×NameKind)) (m:Nat) (acc:List (Str×Addr)),cellsFrom m a acc=cellsFrom m a []++acc:=by
    intro a
    induction a with
    | nil=>intro m acc;rfl
    | cons p r ih=>
     obtain ⟨z,q⟩:=p;intro m acc;unfold cellsFrom;split
     ·rw [ih _ ((z,m)::acc),ih _ [(z,m)],List.append_assoc];rfl
     ·exact ih m acc
   rcases qbw h with ⟨h1,h2⟩ | h1
   ·refine .inl ⟨by lia,?_⟩;rw [app];exact List.mem_append_left _ h2
   ·rw [List.lookup_cons] at h1;split at h1
    ·rename_i d;cases h1;refine .inl ⟨nR1 _,?_⟩;rw [app,beq_iff_eq.mp d];exact mA1 _ mS1
    ·exact .inr h1
  ·rename_i b;rw [if_neg b];exact qbw h
theorem qfw {x:Str}{c:Addr}{n:Nat}{acc:List (Str×Addr)}{a:List (Str×NameKind)}(hx:a.lookup x=some .cell)(h:(cellsFrom n a acc).lookup x=some c):n<=c:=by
 have app:∀ (a:List (Str×NameKind)) (m:Nat) (acc:List (Str×Addr)),cellsFrom m a acc=cellsFrom m a []++acc:=by
  intro a
  induction a with
  | nil=>intro m acc;rfl
  | cons p r ih=>
   obtain ⟨z,q⟩:=p;intro m acc;unfold cellsFrom;split
   ·rw [ih _ ((z,m)::acc),ih _ [(z,m)],List.append_assoc];rfl
   ·exact ih m acc
 rw [app,List.lookup_append] at h;have q:=PySem.W.cellsFrom_some a n [] (.inl hx);obtain ⟨b,e⟩:=Option.isSome_iff_exists.mp q;rw [e] at h;cases h;rcases qbw e with ⟨h1,_⟩ | h1
 ·exact h1
 ·cases h1
theorem qdc {M:Model}{A:Around}{E:Value->Shared->Prop}{s:Shared}{scope:Scope}{globals:Addr}{c:List (Str×Addr)}{qual:Str}{func:Option Addr}{code:Value}{env:Env}{b:Addr}{Q:Env->Shared->Prop}
  (d:Q {scope,locals:=s.heap.objs.size,globals,cells:=cellsFrom (s.heap.objs.size+1) scope.names c,qual,func,code:=env.code,frame:=env.frame,builtins:=env.builtins}
   {s with heap:=pushCells (s.heap.push {cls:=.type "dict",data:=.dict #[]}) scope.names}):
  wpAny M A (newFunctionEnv scope globals c [] qual func code (some env) b) Q E s:=by
 simp only [newFunctionEnv,Option.isSome_some,if_true];refine wB1 (wpAny_alloc ?_);refine wB1 (wpAny_layCells _ (fun name a cells=>by cases hkc:a == NameKind.cell<;>simp [hkc]) _ _ _ _ ?_);rw [show ({s with heap:=s.heap.push {cls:=.type "dict",data:=.dict #[]}}:Shared).heap.objs.size=s.heap.objs.size+1 from hZ1 ..];refine wB1 ?_;rw [List.forIn_nil];exact wP1 (wP1 d)
noncomputable def cxC (X:Cx)(scope:Scope)(cl:List (Str×Addr))(T:List Str)(keep:List Nat)(s:Shared)(H:Hp)(fp:List Addr):Cx where
 prog:=X.prog
 w:=X.w
 K:=X.K
 mg:=X.mg
 base:=X.base
 A:=X.A
 N:=T++keep.map fun i=>X.N.getD i (Str.ofString "")
 s₀:=s
 H₀:=H
 env:=compEnvC scope (cellsFrom (s.heap.objs.size+1) scope.names cl) s.heap.objs.size X.env
 outer:=X.stack
 stack:=X.stack
 ex:=fp
 fn:=fun x=>scope.names.lookup x == some .cell
 calm:=X.calm
 pn:=[]
 xe:=fun _ _=>False
noncomputable def inSt (k:Nat)(keep:List Nat)(σ:L2.St):L2.St:=List.replicate k none++keep.map fun i=>(σ[i]?).join
theorem qcP {env:Env}{x:Str}:∀ {a:List (Str×NameKind)},
  (a.map fun (n,k)=>if (k == NameKind.free&&env.scope.kind == .function&&env.kindOf n == some .cell) then (n,NameKind.cell) else (n,k)).lookup x =
   (a.lookup x).map fun k=>if (k == NameKind.free&&env.scope.kind == .function&&env.kindOf x == some .cell) then NameKind.cell else k
 | []=>rfl
 | (n,k)::r=>by
  show List.lookup x ((if (k == NameKind.free&&env.scope.kind == .function&&env.kindOf n == some .cell)=true then (n,NameKind.cell) else (n,k))::_)=_;cases hx:x == n with
  | true=>
   have e:=beq_iff_eq.mp hx;subst e;by_cases hc:(k == NameKind.free&&env.scope.kind == .function&&env.kindOf x == some .cell)=true
   ·rw [if_pos hc,List.lookup_cons,hx,List.lookup_cons,hx];simp only [oP1,if_pos hc]
   ·rw [if_neg hc,List.lookup_cons,hx,List.lookup_cons,hx];simp only [oP1,if_neg hc]
  | false=>
   have ih:=@qcP env x r;by_cases hc:(k == NameKind.free&&env.scope.kind == .function&&env.kindOf n == some .cell)=true
   ·rw [if_pos hc,List.lookup_cons,hx,List.lookup_cons,hx];exact ih
   ·rw [if_neg hc,List.lookup_cons,hx,List.lookup_cons,hx];exact ih
structure CSc (X:Cx)(scope:Scope)(T:List Str)(keep:List Nat):Prop where
 kind:scope.kind = .function
 names:∀ x∈scope.names,x.2 = .local->scope.names.lookup x.1=some .local
 free:∀ i∈keep,∃ x,X.N[i]? = some x/\scope.names.lookup x=some .free/\(X.env.kindOf x=some .cell\/X.env.kindOf x=some .free)/\(x,NameKind.cell)∉scope.names
theorem qhT {X:Cx} {pins:List (Addr×Obj)} {σ:L2.St} {H:Hp} {s:Shared} {scope:Scope} {w:List (Str×Addr)} {T:List Str} {keep:List Nat} {E:List Addr} (I:Inv X pins σ H s)
  (C:CSc X scope T keep) (B:cloF X.env.cells scope.names []=some w) (hf:∀ b∈E,FpOk X pins H b) (J:∀ b∈E,∃ o,s.heap.get? b=some o):
  Inv (cxC X scope w T keep s H E) [] (inSt T.length keep σ) H {s with heap:=pushCells (s.heap.push {cls:=.type "dict",data:=.dict #[]}) scope.names}:=by
 have kept:∀ b o,s.heap.get? b=some o->(pushCells (s.heap.push {cls:=.type "dict",data:=.dict #[]}) scope.names).get? b=some o:=fun b o e=>pushCells_keeps _ _ b o (hP1 _ e);have D:=cellsFrom_ok scope.names (s.heap.push {cls:=.type "dict",data:=.dict #[]}) (s.heap.objs.size+1) [] ⟨fun _ _ hm=>(nomatch hm),List.Pairwise.nil⟩ (by rw [hZ1];exact nR1 _);rw [hZ1] at D;have L:=qkD B (fun x c q=>by cases q)
 -- a cell of the block: its own or an elder one
 have d:∀ x c,(cellsFrom (s.heap.objs.size+1) scope.names w).lookup x=some c->(s.heap.objs.size+1<=c/\(x,c)∈cellsFrom (s.heap.objs.size+1) scope.names [])\/X.env.cells.lookup x=some c:=fun x c h=>by
  rcases qbw h with h1 | h1
  ·exact .inl h1
  ·exact .inr (L x c h1)
 have l:∀ x c,X.env.cells.lookup x=some c->c<s.heap.objs.size:=fun x c e=>by
  obtain ⟨v,z⟩:=I.cell x c e;exact z.lt
 have A:∀ b∈E,b<s.heap.objs.size:=fun b t=>by
  obtain ⟨o,e⟩:=J b t;exact hL1 e
 have fst:∀ b∈E,b∉frs X.stack:=fun b t z=>by
  rcases List.mem_cons.mp (I.stkSub b z) with q | q
  ·exact (hf b t).2.1 q
  ·exact (hf b t).2.2.1 q
 have kindOf:∀ x,(cxC X scope w T keep s H E).env.kindOf x=(scope.names.lookup x).map fun k=>if (k == NameKind.free&&X.env.scope.kind == .function&&X.env.kindOf x == some .cell) then NameKind.cell else k:=fun x=>qcP
 refine ⟨⟨I.ok.mod,C.kind,I.ok.glob,I.ok.blt,nR1 _,fun x y c h1 h2=>?_,fun x G=>?_,fun x c h1 h2=>?_,I.ok.hd,I.ok.frames,.inl rfl,fun b t=>⟨nN1 (A b t),fun x c h z=>?_⟩,fun b o e=>I.bs b o e,Nat.le_trans I.ok.bsz I.sz,fun b o e t=>?_,fst,I.stack,I.stkFree⟩,
  rfl,I.bare,Un.kept kept,⟨fun _=>none,(Heap.Ns.new s.heap (.type "dict")).keeps (pushCells_keeps _ _),fun i x v h1 h2 h3=>?_⟩,fun x c h=>?_,I.hok.fresh (nR1 _),fun x c h=>?_,fun p W=>absurd (show p∈([]:List (Addr×Obj)) from W) (by simp),I.hok.kept kept,?_⟩
 ·rcases d x c h1 with ⟨f,F⟩ | f<;>rcases d y c h2 with ⟨b1,b2⟩ | b1
  ·exact name_of_addr D.apart F b2
  ·exact absurd (Nat.lt_of_le_of_lt (Nat.le_of_succ_le f) (l y c b1)) (Nat.lt_irrefl _)
  ·exact absurd (Nat.lt_of_le_of_lt (Nat.le_of_succ_le b1) (l x c f)) (Nat.lt_irrefl _)
  ·exact I.ok.inj x y c f b1
 ·have O:scope.names.lookup x=some .cell\/scope.names.lookup x=some .free:=by
   rw [kindOf x] at G;cases e:scope.names.lookup x with
   | none=>rw [e] at G;rcases G with z | z<;>cases z
   | some k=>
    rw [e] at G;simp only [oP1] at G;cases k<;>simp_all
  have:((cellsFrom (s.heap.objs.size+1) scope.names w).lookup x).isSome=true:=by
   rcases O with z | z
   ·exact PySem.W.cellsFrom_some _ _ _ (.inl z)
   ·exact PySem.W.cellsFrom_some _ _ _ (.inr (qfv B (.inl z)))
  exact Option.isSome_iff_exists.mp this
 ·have g:scope.names.lookup x=some .cell:=by simpa [cxC] using h1
  have:=qfw g h2;exact Nat.le_trans (Nat.le_succ _) this
 ·subst z;rcases d x c h with ⟨f,_⟩ | f
  ·exact absurd (Nat.lt_of_le_of_lt (Nat.le_of_succ_le f) (A c t)) (Nat.lt_irrefl _)
  ·exact (hf c t).2.2.2.2.1 x c f rfl
 ·rcases (hf b t).2.2.2.1 with z | z
  ·exact I.ok.noex b o e z
  ·exact absurd (nL1 (hL1 e) (Nat.le_trans I.ok.bsz z)) (Nat.lt_irrefl _)
 ·-- a name of the block that has a value:one of the outer text's
  have hi:T.length<=i:=by
   refine Nat.le_of_not_lt fun hi=>?_;unfold inSt at h2;rw [gL1 (by rw [lR1];exact hi),List.getElem?_replicate] at h2;split at h2<;>cases h2
  unfold inSt at h2;rw [gR1 (by rw [lR1];exact hi),lR1,gP1] at h2;obtain ⟨j,S,h2⟩:=oM1.mp h2;have g:X.N.getD j (Str.ofString "")=x:=by
   have g:(T++keep.map fun i=>X.N.getD i (Str.ofString ""))[i]? = some x:=h1;rw [gR1 hi,gP1,S] at g;exact Option.some.inj g
  obtain ⟨y,R,P,U,ny⟩:=C.free j (gM1 S);have N:y=x:=by rw [<- g,List.getD_eq_getElem?_getD,R];rfl
  subst N;have M:σ[j]? = some (some v):=by
   cases e:σ[j]? with
   | none=>rw [e] at h2;cases h2
   | some o=>rw [e] at h2;cases h2;rfl
  obtain ⟨m,hn,hl⟩:=I.loc;obtain ⟨u,ru,V⟩:=hl j y v R M (by
   rcases U with z | z
   ·exact .inr (.inl z)
   ·exact .inr (.inr z))
  refine ⟨u,ru,?_⟩;rcases V with ⟨z,_⟩ | ⟨_,c,ec,Y⟩
  ·rcases U with q | q<;>(rw [z] at q;cases q)
  ·right;refine ⟨?_,c,?_,Y.keeps kept⟩
   ·rw [kindOf,P];simp only [oP1];split
    ·exact .inl rfl
    ·exact .inr rfl
   ·obtain ⟨c',e'⟩:=Option.isSome_iff_exists.mp (PySem.W.cellsFrom_some scope.names (s.heap.objs.size+1) w (.inr (qfv B (.inl P))):((cellsFrom (s.heap.objs.size+1) scope.names w).lookup y).isSome=true);have Q:(cellsFrom (s.heap.objs.size+1) scope.names w).lookup y=some c':=e';rcases d y c' Q with ⟨f,F⟩ | f
    ·-- an own cell of that name:its kind would be cell
     exfalso;have:∀ (names:List (Str×NameKind)) (n:Nat),(y,c')∈cellsFrom n names []->(y,NameKind.cell)∈names:=by
      have app:∀ (names:List (Str×NameKind)) (m:Nat) (acc:List (Str×Addr)),cellsFrom m names acc=cellsFrom m names []++acc:=by
       intro names
       induction names with
       | nil=>intro m acc;rfl
       | cons p r ih=>
        obtain ⟨z,q⟩:=p;intro m acc;unfold cellsFrom;split
        ·rw [ih _ ((z,m)::acc),ih _ [(z,m)],List.append_assoc];rfl
        ·exact ih m acc
      intro names
      induction names with
      | nil=>intro n h;cases h
      | cons p r ih=>
       obtain ⟨z,q⟩:=p;intro n h;unfold cellsFrom at h;split at h
       ·rename_i Z;rw [app] at h;rcases List.mem_append.mp h with h | h
        ·exact mC1 _ (ih _ h)
        ·have:(y,c')=(z,n):=by simpa using h
         cases this;have K:q=NameKind.cell:=by simpa using Z
         subst K;exact mS1
       ·exact mC1 _ (ih _ h)
     exact ny (this _ _ F)
    ·rw [ec] at f;cases f;exact Q
 ·rcases d x c h with ⟨f,F⟩ | f
  ·exact ⟨_,(D.empty x c F).1⟩
  ·obtain ⟨v,z⟩:=I.cell x c f;exact ⟨v,z.keeps kept⟩
 ·rcases d x c h with ⟨f,F⟩ | f
  ·exact I.hok.fresh (Nat.le_of_succ_le f)
  ·exact I.freeC x c f
 ·show (inSt T.length keep σ).length=(T++keep.map fun i=>X.N.getD i (Str.ofString "")).length;unfold inSt;rw [lA1,lA1,lR1,lM1,lM1]
noncomputable def qja (p:Pos)(tg:Expr)(ifs:List Expr)(it:Value)(env:Env)(emit:Sem Unit)(c:Code):Sem PySem.Fin:=do
 standAt p
 match<-pyNext it with
 | none=>pure (.done .next)
 | some v=>
  letOwnedTupleGo tg it v
  assign tg env v
  let mut ok:=true
  for c in ifs do
   if ok then ok<-isTrue c env (eval c env)
  if ok then emit
  again c
noncomputable def qku (elt:Expr)(acc:Value)(env:Env):Sem Unit:=do let _<-call (.builtin "list.append") [acc,<- eval elt env]
theorem qmp (elt tg iter:Expr)(ifs:List Expr)(scope:Scope)(pos:Pos)(it acc:Value)(env:Env):
  compTurn (.ListComp elt [⟨tg,iter,ifs,0⟩] scope pos) 0 it acc env=qja iter.pos tg ifs it env (qku elt acc env) (.compLoop (.ListComp elt [⟨tg,iter,ifs,0⟩] scope pos) 0 it acc env):=by rfl
noncomputable def PIfs (X:Cx)(ifs:List Expr)(t:TT):Prop:=
 ∀ (pins:List (Addr×Obj)) (s:Shared) (σ:L2.St) (H:Hp) (Q:Bool->Hp->Prop),Inv X pins σ H s->t σ H Q ->
  wpAny (model X.prog X.w) X.A (forIn ifs true fun c r=>if r=true then do let ok<-isTrue c X.env (eval c X.env);pure (ForInStep.yield ok) else pure (ForInStep.yield r)) (TP X pins σ Q) X.xe s
theorem qlo {X:Cx}:PIfs X [] (fun σ H Q=>Q true H):=fun pins s σ H Q I h=>wpAny_tests_nil ⟨H,I,h⟩
theorem qln {X:Cx}{c:Expr}{t:TT}(h:PT X c t):PIfs X [c] t:=fun pins s σ H Q I q=>wpAny_tests_one (h pins s σ H Q I q)
noncomputable def PU (X:Cx)(m:Sem Unit)(t:TS):Prop:=
 ∀ (pins:List (Addr×Obj)) (s:Shared) (σ:L2.St) (H:Hp) (E:Ends),Inv X pins σ H s->t E σ H->wpAny (model X.prog X.w) X.A m (fun _ s'=>∃ σ' H',Inv X pins σ' H' s'/\E.nx σ' H') X.xe s
theorem qgk {X:Cx}(hx:X.xe=fun _ _=>False)(hc:X.calm=true){elt:Expr}{c:List Comprehension}{scope:Scope}{pos p:Pos}{d:Nat}{tg:Expr}{ifs:List Expr}{acc:Value}{emit:Sem Unit}{J:It}{w:List Addr}{it:Addr}{O:Nat->Heap->Prop}{g:TG}{ti:TT}{tb:TS}
  (eq:compTurn (.ListComp elt c scope pos) d (.ref it) acc X.env=qja p tg ifs (.ref it) X.env emit (.compLoop (.ListComp elt c scope pos) d (.ref it) acc X.env))
  (T:Turn X.prog X.w X.K tg J w it O) (hg:PG X tg g) (hi:PIfs X ifs ti) (he:PU X emit tb)
  {pins:List (Addr×Obj)} {s:Shared} {σ:L2.St} {H:Hp} {D:Ends} (I:Inv X pins σ H s) (st:O 0 s.heap) (f2:∀ b∈w,FpOk X pins H b)
  (h:∃ W:Nat->Nat->L2.St->Hp->Prop,(∃ m,W 0 m σ H) /\ ∀ i m σ H,W i m σ H ->
   (J.stop i H/\D.nx σ H)\/(J.go i H /\ ∃ N:L2.St->Hp->Prop,(∀ a H',N a H' -> ∃ P,P<m/\W (i+1) P a H') /\ ∀ x H',J.yld i H x H'->g x σ H' fun z H2=>ti z H2 fun b v=>if b=true then tb {D with nx:=N} z v else N z v)):
  codeAny (model X.prog X.w) X.A (.compLoop (.ListComp elt c scope pos) d (.ref it) acc X.env) (fun r s'=>match r with | .ok _=>∃ a H',Inv X pins a H' s'/\D.nx a H' | .error _=>False) s:=by
 obtain ⟨W,⟨m0,w0⟩,K⟩:=h;have k:∀ {H':Hp},(∀ b∈w,H' b=none) -> ∀ b∈w,FpOk X pins H' b:=fun hn b l=>⟨hn b l,(f2 b l).2⟩;refine codeAny_loop rfl (fun n s'=>∃ i a H',Inv X pins a H' s'/\O i s'.heap/\(∀ b∈w,H' b=none)/\W i n a H') ?_ m0 ⟨0,σ,H,I,st,fun b l=>(f2 b l).1,w0⟩;rintro n S ⟨i,j,v,Z,M,G,w3⟩;show wpAny _ _ ((compTurn (.ListComp elt c scope pos) d (.ref it) acc X.env).onRaise (fun x=>do noteFrame x X.env;theTreesLotGoes x)) _ _ S;refine wpAny_noted ?_;rw [eq];have B:∀ {α:Type} {m:Sem α} {Q:α->Shared->Prop} {s:Shared} {E:Value->Shared->Prop},wpAny (model X.prog X.w) X.A m Q X.xe s->wpAny (model X.prog X.w) X.A m Q E s:=fun h=>by
  rw [hx] at h;exact wpAny_mono h (fun _ _ q=>q) fun _ _ q=>q.elim
 unfold qja;refine wB1 (wpAny_standAt (wB1 ?_));rcases K i n j v w3 with ⟨L,qn⟩ | ⟨go,N,hN,step⟩
 ·refine B (thn (T.done X rfl rfl rfl hc i pins S j v X.xe Z (k G) M L) fun r s4 ⟨V,I4⟩=>?_);subst V;exact wP1 ⟨j,v,I4,qn⟩
 ·refine B (thn (T.item X rfl rfl rfl hc i pins S j v X.xe Z (k G) M go) fun r s4 ⟨u,V,h4⟩=>?_);subst V;refine wB1 (B (thn h4 fun _ s5 ⟨x,H5,I5,r5,y5,y,U⟩=>?_));have R:=I5.pinned (k U) (T.obj _ _ y);refine wB1 (B (thn (hg _ s5 j H5 x u _ R r5 (step x H5 y5)) fun _ s6 ⟨F,H6,I6,q6⟩=>?_));refine wB1 (B (thn (hi _ s6 F H6 _ I6 q6) fun ok C ⟨t,A,Y⟩=>?_));have again':∀ {f:L2.St} {t:Hp} {C:Shared},Inv X (pins++qfR w s5.heap) f t C->N f t -> ∃ m,m<n /\ ∃ i a H',Inv X pins a H' C/\O i C.heap/\(∀ b∈w,H' b=none)/\W i m a H':=fun {f t C} A n7=>by
   obtain ⟨P,hm,w7⟩:=hN f t n7;refine ⟨P,hm,i+1,f,t,A.unpinned,T.keep _ _ _ y fun b l o e=>(A.pin (b,o) (mA1 _ (mA1 _ (qcC l e)))).1,fun b l=>?_,w7⟩;obtain ⟨o,e,d⟩:=T.obj _ _ y b l;exact (A.pin (b,o) (mA1 _ (mA1 _ (qcC l e)))).2.1
  cases ok with
  | false=>exact wP1 ⟨rfl,again' A Y⟩
  | true=>exact wB1 (B (thn (he _ C F t _ A Y) fun _ s8 ⟨σ8,H8,I8,q8⟩=>wP1 ⟨rfl,again' I8 q8⟩))
noncomputable def qk1 (p:Addr)(te:TE):TS:=fun D σ H=>te σ H fun x H1=>∃ xs,H1 p=some (.lst xs)/\xs.length<sizeLine/\D.nx σ (upd H1 p (.lst (xs++[x])))
theorem qjy {X:Cx}{elt:Expr}{te:TE}(h:PE X elt te)(p:Addr):PU X (qku elt (.ref p) X.env) (qk1 p te):=by
 intro pins s σ H E I q;unfold qku;refine wB1 (thn (h pins s σ H _ I q) fun u g ⟨x,H1,c,e,xs,a,f,i⟩=>?_);refine wB1 (thn (qf4 pins g σ H1 (.ref p) [x] (.ref p) [u] (fun _ H'=>E.nx σ H') c rfl (.cons e .nil) ⟨p,xs,x,rfl,rfl,a,f,i⟩) fun _ j ⟨_,H2,d,_,b⟩=>?_);exact wP1 ⟨σ,H2,d,b⟩
noncomputable def qpM (J:It)(g:TG)(ti:TT)(tb:TS):TS:=fun D σ H=>∃ W:Nat->Nat->L2.St->Hp->Prop,(∃ m,W 0 m σ H) /\ ∀ i m σ H,W i m σ H ->
 (J.stop i H/\D.nx σ H)\/(J.go i H /\ ∃ N:L2.St->Hp->Prop,(∀ σ' H',N σ' H' -> ∃ m',m'<m/\W (i+1) m' σ' H') /\ ∀ x H',J.yld i H x H'->g x σ H' fun σ2 H2=>ti σ2 H2 fun b H3=>if b=true then tb {D with nx:=N} σ2 H3 else N σ2 H3)
theorem Un.sameBut {fs ex:List Addr}{H H':Hp}{h h1 h2:Heap}{c:Addr}(u:Un fs ex H H' h h1)(hs:Heap.SameBut c h1 h2)(hc:h.get? c=none):Un fs ex H H' h h2:=by
 have ne:∀ {b o},h.get? b=some o->b≠c:=fun e z=>by rw [z,hc] at e;cases e
 refine ⟨fun b o e n d a=>(hs.2 b (ne e)).trans (u.keep b o e n d a),fun b o e n d a=>?_,u.free,fun b o e a=>?_,u.tups,u.frzs,u.tbls⟩
 ·obtain ⟨f,q⟩:=u.slot b o e n d a;exact ⟨f,(hs.2 b (ne e)).trans q⟩
 ·obtain ⟨o',q⟩:=u.there b o e a;exact ⟨o',(hs.2 b (ne e)).trans q⟩
noncomputable def qnp (k:Nat)(keep:List Nat)(wi:TI)(g:TG)(ti:TT)(tb:Addr->TS):TE:=fun σ H Q=>wi σ H fun J H1=>∀ p,H1 p=none ->
 qpM J g ti (tb p) {nx:=fun _ H'=>Q (.ref p) H',rt:=fun _ _=>False} (inSt k keep σ) (upd H1 p (.lst []))
theorem qn0 {X:Cx}(hc:X.calm=true){elt tg iter:Expr}{ifs:List Expr}{rest:List Comprehension}{scope:Scope}{pos:Pos}{T:List Str}{keep:List Nat}{k:List (Str×Addr)}{F:TI}{g:TG}{O:TT}{tb:Addr->TS}{emit:Value->Env->Sem Unit}
  (eq:∀ it l i,compTurn (.ListComp elt (⟨tg,iter,ifs,0⟩::rest) scope pos) 0 it l i=qja iter.pos tg ifs it i (emit l i) (.compLoop (.ListComp elt (⟨tg,iter,ifs,0⟩::rest) scope pos) 0 it l i))
  (C:CSc X scope T keep) (t:cloF X.env.cells scope.names []=some k) (hi:PI X tg iter F)
  (hb:∀ s H d p,PG (cxC X scope k T keep s H d) tg g/\PIfs (cxC X scope k T keep s H d) ifs O/\PU (cxC X scope k T keep s H d) (emit (.ref p) (cxC X scope k T keep s H d).env) (tb p))
  (hs:∀ x,foldedSetIterable iter X.env x=pure x:=by intro _;rfl):
  PE X (.ListComp elt (⟨tg,iter,ifs,0⟩::rest) scope pos) (qnp T.length keep F g O tb):=by
 intro pins s σ H Q I h;rw [eval_ListComp];refine wpAny_comprehension_free (use:=none) rfl hs (qm7 t) C.kind C.names ?_;refine thn (hi pins s σ H _ I h) fun v s1 h1=>thn h1 fun itv a h2=>?_;obtain ⟨it,d,tn,J,H2,rfl,K,TT,A,L,S⟩:=h2;refine wO1 ?_;have G:Inv X pins σ (upd H2 a.heap.objs.size (.lst [])) {a with heap:=a.heap.push {cls:=.type "list",data:=.seq ([]:List Value).toArray}}:=K.lnew (t':=a.toks) .nil (Nat.zero_le _);have u:∀ b∈d,∃ o,a.heap.get? b=some o:=fun b hb=>by
  obtain ⟨o,e,_⟩:=TT.obj 0 a.heap A b hb;exact ⟨o,e⟩
 have E:∀ b∈d,b≠a.heap.objs.size:=fun b hb z=>by
  obtain ⟨o,e⟩:=u b hb;have:=hL1 e;rw [z] at this;exact Nat.lt_irrefl _ this
 have D:∀ b∈d,FpOk X pins (upd H2 a.heap.objs.size (.lst [])) b:=fun b hb=>⟨by rw [qaq (E b hb)];exact (L b hb).1,(L b hb).2⟩;have V:∀ b∈d,∃ o,({a with heap:=a.heap.push {cls:=.type "list",data:=.seq ([]:List Value).toArray}}:Shared).heap.get? b=some o:=fun b hb=>by
  obtain ⟨o,e⟩:=u b hb;exact ⟨o,hP1 _ e⟩
 have B:=qhT G C t D V;obtain ⟨hg,hf,P⟩:=hb {a with heap:=a.heap.push {cls:=.type "list",data:=.seq ([]:List Value).toArray}} (upd H2 a.heap.objs.size (.lst [])) d a.heap.objs.size;refine qdc ?_;have f4:∀ b∈d,FpOk (cxC X scope k T keep {a with heap:=a.heap.push {cls:=.type "list",data:=.seq ([]:List Value).toArray}} (upd H2 a.heap.objs.size (.lst [])) d) [] (upd H2 a.heap.objs.size (.lst [])) b:=fun b hb=>
  ⟨(D b hb).1,(B.ok.exf b hb).1,B.ok.exfs b hb,.inl hb,(B.ok.exf b hb).2,fun p U=>absurd (show p∈([]:List (Addr×Obj)) from U) (by simp)⟩
 have w:tn 0 (pushCells ((a.heap.push {cls:=.type "list",data:=.seq ([]:List Value).toArray}).push {cls:=.type "dict",data:=.dict #[]}) scope.names):=
  TT.keep 0 a.heap _ A fun b hb o e=>pushCells_keeps scope.names _ b o (hP1 _ (hP1 _ e))
 have j:=qgk (X:=cxC X scope k T keep {a with heap:=a.heap.push {cls:=.type "list",data:=.seq ([]:List Value).toArray}} (upd H2 a.heap.objs.size (.lst [])) d) rfl hc (eq (.ref it) (.ref a.heap.objs.size) _) TT hg hf P B w f4
  (S a.heap.objs.size (K.hok.fresh (nR1 _)))
 refine codeAny_mono (codeAny_compStart_list j (TT.self X.A 0 _ _ _ w j)) fun r s' M=>?_;cases r with
 | error e=>exact M.elim
 | ok f=>
  obtain ⟨W,H',n,R⟩:=M;obtain ⟨m,Z,_⟩:=id n.loc;refine ⟨m,Z,fun h' y=>⟨.ref a.heap.objs.size,H',?_,rfl,R⟩⟩;refine G.call' (s':={s' with heap:=h'}) (ch:=d) n.os (Un.sameBut n.base y (Heap.get?_none_of_le (nR1 _))) (fun b Y e=>?_) n.bare fun b hb=>(D b hb).2.2.2 |> fun z=>⟨z.1,(D b hb).2.1,z.2.1,z.2.2⟩
  refine (n.hok b Y e).stay (fun c w' hc q=>(y.2 c ?_).trans q) (fun _ q=>q) fun _ _ q=>q;rintro rfl;have N:=n.free;rcases hc with rfl | hc
  ·exact nomatch N.symm.trans e
  ·exact nomatch N.symm.trans hc
section
variable {K:Fg1} {H:Hp} {mu:List Addr} {S:Sto} {p:Addr} {u:HO} {o:Ob} {n:Nat}
theorem Rd.ne {a:Addr}{x:HO}(h:H p=none)(q:Rd H a x):a≠p:=by
 rintro rfl;rcases q with q | ⟨_,q⟩<;>(rw [h] at q;cases q)
theorem Ext.fresh (hp:H p=none):Ext mu mu H (upd H p u) where
 pre:=List.prefix_rfl
 old:=fun a o h _=>by rw [qaq (qat h hp)];exact h
 tup:=fun a xs h=>by
  have ne:=Rd.ne hp h;rcases h with h | ⟨b,h⟩
  ·exact .inl (by rw [qaq ne];exact h)
  ·exact .inr ⟨b,by rw [qaq ne];exact h⟩
 frz:=fun a o x h=>by rw [qaq (qat h hp)];exact h
 new:=fun _ h=>.inl h
theorem Ext.new_ (hp:H p=none):Ext mu (mu++[p]) H (upd H p u) where
 pre:=List.prefix_append _ _
 old:=(Ext.fresh (mu:=mu) hp).old
 tup:=(Ext.fresh (mu:=mu) hp).tup
 frz:=(Ext.fresh (mu:=mu) hp).frz
 new:=fun a h=>by
  rcases List.mem_append.mp h with h | h
  ·exact .inl h
  ·have:a=p:=by simpa using h
   subst this;exact .inr hp
theorem Sim.fresh (s:Sim K H mu S)(hp:H p=none):Sim K (upd H p u) mu S:=
 ⟨s.len,s.nd,fun k o a h1 h2=>(s.ob k o a h1 h2).keep (Ext.fresh hp) fun b e=>by rw [qaq (qat e hp)];exact e⟩
theorem Sim.notin (s:Sim K H mu S)(hp:H p=none):p∉mu:=fun h=>by
 obtain ⟨o,e⟩:=s.here h;rw [hp] at e;cases e
theorem ObR.more {a:Addr}{mu':List Addr}{H':Hp}(e:Ext mu mu' H H')(h:∀ o,H a=some o->H' a=some o):∀ {o:Ob},ObR K H mu a o->ObR K H' mu' a o
 | .lst _,⟨vs,q,r⟩=>⟨vs,h _ q,r.ext e⟩
 | .dct _,⟨ws,q,r⟩=>⟨ws,h _ q,KR.ext e r⟩
 | .dcT _,⟨ws,q,r,l⟩=>⟨ws,h _ q,KT.ext e r,l⟩
 | .iset _,q=>⟨h _ q.1,q.2⟩
 | .dcF _,⟨ws,⟨o,u,c,b⟩,r,l⟩=>⟨ws,⟨o,u,h _ c,b⟩,KT.ext e r,l⟩
 | .tst _,⟨ws,q,r⟩=>⟨ws,h _ q,KT.ext e r⟩
theorem Sim.new (s:Sim K H mu S)(hp:H p=none)(ho:ObR K (upd H p u) (mu++[p]) p o):Sim K (upd H p u) (mu++[p]) (S++[o]):=by
 refine ⟨by rw [lA1,lA1,s.len];rfl,?_,fun k o' a h1 h2=>?_⟩
 ·rw [List.nodup_append];refine ⟨s.nd,by simp,fun a f b g e=>?_⟩;have:b=p:=by simpa using g
  subst this;subst e;exact s.notin hp f
 ·by_cases d:k<S.length
  ·rw [gL1 d] at h1;rw [gL1 (by rw [s.len];exact d)] at h2;exact (s.ob k o' a h1 h2).more (Ext.new_ hp) fun h e=>by rw [qaq (qat e hp)];exact e
  ·have c:k=S.length:=by
    have:=(gE1.mp h1).1;rw [lA1] at this;simp at this;lia
   subst c;rw [gR1 (nR1 _)] at h1;rw [<- s.len,gR1 (nR1 _)] at h2;simp at h1 h2;subst h1;subst h2;exact ho
theorem Ext.put {x:HO}(hp:H p=some x)(hm:Mut (some x))(b:p∈mu):Ext mu mu H (upd H p u) where
 pre:=List.prefix_rfl
 old:=fun a o h n=>by rw [qaq (fun e=>n (by rw [e];exact b))];exact h
 tup:=fun a xs h=>by
  have ne:a≠p:=by
   rintro rfl;rcases h with h | ⟨_,h⟩<;>(rw [hp] at h;cases h;exact hm)
  rcases h with h | ⟨c,h⟩
  ·exact .inl (by rw [qaq ne];exact h)
  ·exact .inr ⟨c,by rw [qaq ne];exact h⟩
 frz:=fun a o y h=>by
  rw [qaq (fun e=>?_)]
  ·exact h
  ·subst e;rw [hp] at h;cases h;exact hm
 new:=fun _ h=>.inl h
theorem Sim.put (s:Sim K H mu S){x:HO}(hn:mu[n]? = some p)(hp:H p=some x)(hm:Mut (some x))(ho:ObR K (upd H p u) mu p o):Sim K (upd H p u) mu (S.set n o):=by
 refine ⟨by rw [List.length_set];exact s.len,s.nd,fun k o' a h1 h2=>?_⟩;by_cases b:n=k
 ·subst b;have d:n<S.length:=by
   have:=(gE1.mp h1).1
   rwa [List.length_set] at this
  rw [List.getElem?_set_self d] at h1;cases h1;rw [hn] at h2;cases h2;exact ho
 ·rw [gS1 b] at h1;have ne:a≠p:=fun e=>by
   subst e;obtain ⟨h,c⟩:=gE1.mp hn;obtain ⟨i,f⟩:=gE1.mp h2;exact b ((List.getElem_inj s.nd).mp (c.trans f.symm))
  exact (s.ob k o' a h1 h2).keep (Ext.put hp hm (gM1 hn)) fun g e=>by rw [qaq ne];exact e
theorem Sim.lst (s:Sim K H mu S){ds:List D}{a:Addr}(h:S[n]? = some (.lst ds))(hn:mu[n]? = some a):∃ vs,H a=some (.lst vs)/\Reps K H mu ds vs:=s.ob n _ a h hn
theorem Sim.dcT (s:Sim K H mu S){ks:List (TK×D)}{a:Addr}(h:S[n]? = some (.dcT ks))(hn:mu[n]? = some a):∃ ws,H a=some (.ext (qdk a ws))/\KT K H mu ks ws/\ws.length<=sizeLine:=s.ob n _ a h hn
theorem Sim.tst (s:Sim K H mu S){ks:List TK}{a:Addr}(h:S[n]? = some (.tst ks))(hn:mu[n]? = some a):∃ ws,H a=some (.ext (qbq a ws))/\KT K H mu (ks.map fun k=>(k,D.non)) ws:=s.ob n _ a h hn
theorem Sim.dct (s:Sim K H mu S){ks:List (Key×D)}{a:Addr}(h:S[n]? = some (.dct ks))(hn:mu[n]? = some a):∃ ws,H a=some (.dK ws)/\KR K H mu ks ws:=s.ob n _ a h hn
theorem Sim.newL (s:Sim K H mu S){ds:List D}{vs:List V}(r:Reps K H mu ds vs)(hp:H p=none):Sim K (upd H p (.lst vs)) (mu++[p]) (S++[.lst ds]):=s.new hp ⟨vs,qas,r.ext (Ext.new_ hp)⟩
theorem Sim.putL (s:Sim K H mu S){ds:List D}{vs ws:List V}(r:Reps K H mu ds vs)(hn:mu[n]? = some p)(hp:H p=some (.lst ws)):Sim K (upd H p (.lst vs)) mu (S.set n (.lst ds)):=
 s.put hn hp trivial ⟨vs,qas,r.ext (Ext.put hp trivial (gM1 hn))⟩
end
theorem qcO {mu:List Addr}{S:Sto}(h:mu.length=S.length)(p:Addr):(mu++[p])[S.length]? = some p:=by
 rw [<- h,gR1 (nR1 _)];simp
noncomputable def mTup (a:FA):FE:=fun r S=>(a r S).bind fun p=>if p.1.length<=sizeLine then some (.tup p.1,p.2) else none
noncomputable def mLst (a:FA):FE:=fun r S=>(a r S).bind fun p=>if p.1.length<=sizeLine then some (.ref p.2.length,p.2++[.lst p.1]) else none
section
variable {X:Cx} {es:List Expr} {pos:Pos} {a:FA}
theorem qrc {x1}(h:MA X es a):ME X (.Tuple es x1 pos) (mTup a):=qaS (qqo h) <| by
 rintro σ H Q ⟨r,mu,S,d,l,f,g,b,hc⟩;obtain ⟨⟨ds,m⟩,i,b⟩:=oB1.mp b;dsimp only at b;split at b
 ·rename_i j;cases b;refine ⟨r,mu,S,ds,_,f,g,i,fun vs H1 mu1 x1 e k=>⟨by rw [<- e.length];exact j,fun p c=>?_⟩⟩;exact hc _ _ mu1 (x1.trans (Ext.fresh c)) (.tup (SqT.of qas) (e.ext (Ext.fresh c))) (k.fresh c)
 ·cases b
theorem qrh (h:MA X es a):ME X (.List es pos) (mLst a):=qaS (qqs h) <| by
 rintro σ H Q ⟨r,mu,S,d,m,g,i,b,hc⟩;obtain ⟨⟨ds,n⟩,j,b⟩:=oB1.mp b;dsimp only at b;split at b
 ·rename_i l;cases b;refine ⟨r,mu,S,ds,_,g,i,j,fun vs H1 mu1 k c f=>⟨by rw [<- c.length];exact l,fun p e=>?_⟩⟩;exact hc _ _ (mu1++[p]) (k.trans (Ext.new_ e)) (.ref (qcO f.len p)) (f.newL c e)
 ·cases b
end
noncomputable def inEv (k:Nat)(keep:List Nat)(r:Ev):Ev:=List.replicate k none++keep.map fun i=>(r[i]?).join
noncomputable def qb3:FT:=fun _ S=>some (true,S)
theorem qs9 {K:Fg1}{H:Hp}{mu:List Addr}{r:Ev}{σ:L2.St}(k:Nat)(keep:List Nat)(h:EnvR K H mu r σ):EnvR K H mu (inEv k keep r) (inSt k keep σ):=by
 refine ⟨by unfold inEv inSt;rw [lA1,lA1,lM1,lM1,lR1,lR1],fun i d e=>?_⟩;unfold inEv at e;unfold inSt;by_cases hi:i<k
 ·rw [gL1 (by rw [lR1];exact hi),List.getElem?_replicate] at e;split at e<;>cases e
 ·rw [gR1 (by rw [lR1];lia),lR1,gP1] at e;rw [gR1 (by rw [lR1];lia),lR1,gP1];obtain ⟨j,a,e⟩:=oM1.mp e;rw [a];have f:r[j]? = some (some d):=by
   cases q:r[j]? with
   | none=>rw [q] at e;cases e
   | some o=>rw [q] at e;cases e;rfl
  obtain ⟨v,b,c⟩:=h.val j d f;exact ⟨v,by rw [oP1,b];rfl,c⟩
section
variable {X:Cx}
theorem qlp {ifs:List Expr}{t t':L2.TT}(h:PIfs X ifs t)(i:∀ σ H Q,t' σ H Q->t σ H Q):PIfs X ifs t':=fun pins s σ H Q I q=>h pins s σ H Q I (i σ H Q q)
theorem qoo:PIfs X [] (tMT X.K qb3):=qlp qlo fun σ H Q ⟨r,mu,S,b,e,d,a,c,hc⟩=>by cases c;exact hc H mu (.refl _ _) a
theorem qon {c:Expr}{t:FT}(h:MT X c t):PIfs X [c] (tMT X.K t):=qln h
end
open PySem.AutoSeq1 (wpAny_loadPart')
noncomputable def SIt (b:Bool)(h:Heap)(it a:Addr)(i:Nat):Prop:=match b with
 | true=>h.IsListIter it a i
 | false=>h.IsTupleIter it a i
noncomputable def SCo (b:Bool)(h:Heap)(a:Addr)(xs:Array Value):Prop:=match b with
 | true=>h.IsList a xs
 | false=>h.IsTuple a xs
theorem SIt.to {b:Bool}{h h':Heap}{it a:Addr}{i:Nat}(x:SIt b h it a i)(k:∀ o,h.get? it=some o->h'.get? it=some o):SIt b h' it a i:=by
 cases b<;>(obtain ⟨o,e,r⟩:=x;exact ⟨o,k o e,r⟩)
theorem SIt.rec_ {b:Bool}{h:Heap}{it a:Addr}{i:Nat}(x:SIt b h it a i):∃ o,h.get? it=some o /\ ∀ v,o.data ≠ .cell v:=by
 cases b<;>(obtain ⟨o,e,c,d⟩:=x;exact ⟨o,e,fun v z=>by rw [d] at z;cases z⟩)
theorem SCo.to {b:Bool}{h h':Heap}{a:Addr}{xs:Array Value}(x:SCo b h a xs)(k:∀ o,h.get? a=some o->h'.get? a=some o):SCo b h' a xs:=by
 cases b<;>(obtain ⟨o,e,r⟩:=x;exact ⟨o,k o e,r⟩)
noncomputable def qb4 (b:Bool)(a:Addr):Obj:=match b with
 | true=>{cls:=.type "list_iterator",data:=.fields #[.ref a,.int 0 0]}
 | false=>{cls:=.type "tuple_iterator",data:=.fields #[.ref a,.int 0 0]}
section
variable {prog:Program} {w:World} {A:Around} {E:Value->Shared->Prop} {s:Shared}
theorem qgD {b:Bool}{h:Heap}{it a:Addr}(e:h.get? it=some (qb4 b a)):SIt b h it a 0:=by
 cases b<;>exact ⟨_,e,rfl,rfl⟩
theorem qc7 {b:Bool}{a:Addr}{xs:Array Value}{Q:Value->Shared->Prop}(x:SCo b s.heap a xs)(h:Q (.ref s.heap.objs.size) {s with heap:=s.heap.push (qb4 b a)}):wpAny (model prog w) A (pyIter (.ref a)) Q E s:=by
 cases b
 ·exact wpAny_pyIter_tuple x h
 ·exact wpAny_pyIter_list x h
theorem qlI {it l:Addr}{i:Nat}{xs:Array Value}{x:Value}{Q:Value->Shared->Prop}(c:s.heap.IsTupleIter it l i)(tl:s.heap.IsTuple l xs)(hx:xs[i]? = some x)
  (e:∀ h',h'.IsTupleIter it l (i+1)->Heap.SameBut it s.heap h'->Q x {s with heap:=h'}):wpAny (model prog w) A (Builtin.SmallTypes.nextOf (.ref it)) Q E s:=by
 obtain ⟨o,a,hc,hd⟩:=id c;obtain ⟨f,b,_,g,d⟩:=tl;unfold Builtin.SmallTypes.nextOf;refine wB1 (wpAny_callSpecial?_slot (name:=Str.ofString "__next__") c.typeIs F.slot_tuple_iterator_next (wE1 F.slot_tuple_iterator_next c.typeIs F.entry_tuple_iterator_next ?_ (F.args_tuple_iterator_next_1 _)));show wpAny _ _ (field (.ref it) 0 >>= _) _ _ s;refine wB1 (wpAny_field a hd (x:=.ref l) rfl ?_);show wpAny _ _ (if (Value.ref l == Value.none)=true then _ else _) _ _ s;rw [if_neg (show ¬ ((Value.ref l == Value.none)=true) from Bool.false_ne_true)];show wpAny _ _ (field (.ref it) 1 >>= _) _ _ s;refine wB1 (wpAny_field a hd (x:=.int i 0) rfl ?_);show wpAny _ _ (seqItems? (.ref l) >>= _) _ _ s;refine wB1 (wpAny_seqItems b d ?_);simp only [Int.toNat_natCast,hx];refine wB1 (wpAny_setField a hd (by simp) (wP1 ⟨x,rfl,wP1 (e _ ⟨_,hW1 _ a (Obj.isFreed_of_fields (Obj.data_mapFields hd _)),(Obj.cls_mapFields ..).trans hc,by rw [Obj.data_mapFields hd];simp [rawInt]⟩ (Heap.SameBut.update ..))⟩))
theorem qf3 {it l:Addr}{i:Nat}{xs:Array Value}{Q:Value->Shared->Prop}(g:A.handled=none)(c:s.heap.IsTupleIter it l i)(tl:s.heap.IsTuple l xs)(hx:xs[i]? = none)
  (h:∀ h' e,Heap.ExtBut it s.heap h'->(∃ o,h'.get? e=some o/\o.cls = .type "StopIteration")->E (.ref e) {s with heap:=h'}):wpAny (model prog w) A (Builtin.SmallTypes.nextOf (.ref it)) Q E s:=by
 obtain ⟨o,d,hc,hd⟩:=id c;obtain ⟨j,b,_,k,f⟩:=tl;unfold Builtin.SmallTypes.nextOf;refine wB1 (wpAny_callSpecial?_slot (name:=Str.ofString "__next__") c.typeIs F.slot_tuple_iterator_next (wE1 F.slot_tuple_iterator_next c.typeIs F.entry_tuple_iterator_next ?_ (F.args_tuple_iterator_next_1 _)));show wpAny _ _ (field (.ref it) 0 >>= _) _ _ s;refine wB1 (wpAny_field d hd (x:=.ref l) rfl ?_);show wpAny _ _ (if (Value.ref l == Value.none)=true then _ else _) _ _ s;rw [if_neg (show ¬ ((Value.ref l == Value.none)=true) from Bool.false_ne_true)];show wpAny _ _ (field (.ref it) 1 >>= _) _ _ s;refine wB1 (wpAny_field d hd (x:=.int i 0) rfl ?_);show wpAny _ _ (seqItems? (.ref l) >>= _) _ _ s;refine wB1 (wpAny_seqItems b f ?_);simp only [Int.toNat_natCast,hx];refine wB1 (wpAny_rule (wB1 (wpAny_setField d hd (by simp) ?_)));show wpAny _ _ (newExc (.type "StopIteration") [] >>= _) _ _ _;refine wB1 ?_;simp only [newExc,newTuple];refine wB1 (wO1 ?_ (by size_fits));refine wB1 (m:=firstArgMember _ _) (wpAny_of_eq (a:=Value.none) (by first | rfl | (simp only [firstArgMember];rfl)) ?_);refine wO1 ?_ (by size_fits);simp only [raiseNew];refine wB1 (wpAny_handled ?_)
 first | rw [show A.in1.handled=none from g] | rw [g]
 refine wB1 (wP1 (wpAny_throw ?_));exact h _ _ (((Heap.SameBut.update ..).extBut.push _).push _) ⟨_,Heap.get?_push_size _ rfl,rfl⟩
theorem qd0 {b:Bool}{it l:Addr}{i:Nat}{xs:Array Value}{x:Value}{Q:Value->Shared->Prop}(c:SIt b s.heap it l i)(tl:SCo b s.heap l xs)(hx:xs[i]? = some x)
  (a:∀ h',SIt b h' it l (i+1)->Heap.SameBut it s.heap h'->Q x {s with heap:=h'}):wpAny (model prog w) A (Builtin.SmallTypes.nextOf (.ref it)) Q E s:=by
 cases b
 ·exact qlI c tl hx a
 ·exact wpAny_nextOf_list_item c tl hx a
theorem qcv {b:Bool}{it l:Addr}{i:Nat}{xs:Array Value}{Q:Value->Shared->Prop}(a:A.handled=none)(c:SIt b s.heap it l i)(tl:SCo b s.heap l xs)(hx:xs[i]? = none)
  (d:∀ h' e,Heap.ExtBut it s.heap h'->(∃ o,h'.get? e=some o/\o.cls = .type "StopIteration")->E (.ref e) {s with heap:=h'}):wpAny (model prog w) A (Builtin.SmallTypes.nextOf (.ref it)) Q E s:=by
 cases b
 ·exact qf3 a c tl hx d
 ·exact wpAny_nextOf_list_end a c tl hx d
theorem ql9 {b:Bool}(l:Addr)(xs:Array Value):
  Meets (Builtin.«enumerate.__new__» ⟨[.type "enumerate",.ref l],[]⟩) (fun _ R s=>SCo b s.heap l xs /\
   R (.ok (.ret (.ref (s.heap.push (qb4 b l)).objs.size))) {s with heap:=(s.heap.push (qb4 b l)).push {cls:=.type "enumerate",data:=.fields #[.none,.bool false,.ref s.heap.objs.size,rawInt 0,.none,.none]}}):=
 .of_wp fun prog w A R s h=>by
  obtain ⟨i,g,d,tk,k⟩:=s;obtain ⟨a,h⟩:=h;have f:=sub_enumerate
  have j:SCo b (Shared.heap ⟨i,g,d,tk,k⟩) l xs:=a;obtain ⟨m,el⟩:∃ o,i.get? l=some o:=by cases b<;>(obtain ⟨o,e,_⟩:=a;exact ⟨o,e⟩)
  wp_walk using wpAny_loadPart' el
  refine wpAny_stack_any fun st=>wP1 ?_;split
  ·rename_i c _ _ _ _ _;cases (c == Value.type "enumerate")<;>(wp_walk using wpAny_loadPart' el,qc7 j;exact ⟨_,rfl,h⟩)
  ·wp_walk using wpAny_loadPart' el,qc7 j
   exact ⟨_,rfl,h⟩
theorem qkt {b:Bool}{l:Addr}{xs:Array Value}{Q:Value->Shared->Prop}(f:SCo b s.heap l xs)
  (h:∀ h',IsEnum h' (s.heap.objs.size+1) s.heap.objs.size 0 .none->SIt b h' s.heap.objs.size l 0->h'.objs.size=s.heap.objs.size+2->(∀ b o,s.heap.get? b=some o->h'.get? b=some o)->Q (.ref (s.heap.objs.size+1)) {s with heap:=h'}):
  wpAny (model prog w) A (call (.type "enumerate") [.ref l]) Q E s:=by
 refine callType_new F.called_enumerate (by decide) (F.typeCall_enumerate_1 _) (F.newCall_enumerate_1 _) (fun d=>F.args_object_init_2 d _) F.entry_enumerate_new (ql9 (b:=b) l xs) ⟨f,?_⟩;have a:(s.heap.push (qb4 b l)).objs.size=s.heap.objs.size+1:=hZ1 ..
 show _/\_;rw [a];have e:IsEnum ((s.heap.push (qb4 b l)).push {cls:=.type "enumerate",data:=.fields #[.none,.bool false,.ref s.heap.objs.size,rawInt 0,.none,.none]}) (s.heap.objs.size+1) s.heap.objs.size 0 .none:=by
  have q:=Heap.get?_push_size (s.heap.push (qb4 b l)) (o:={cls:=.type "enumerate",data:=.fields #[.none,.bool false,.ref s.heap.objs.size,rawInt 0,.none,.none]}) rfl;rw [a] at q;exact q
 have hi:(s.heap.push (qb4 b l)).get? s.heap.objs.size=some (qb4 b l):=Heap.get?_push_size _ (by cases b<;>rfl);refine ⟨⟨_,e,rfl⟩,h _ e (qgD (hP1 _ hi)) (by rw [hZ1,a]) fun c o x=>hP1 _ (hP1 _ x)⟩
theorem qks {b:Bool}{e it l:Addr}{i:Nat}{xs:Array Value}{x old:Value}{Q:Option Value->Shared->Prop}(he:IsEnum s.heap e it i old)(U:SIt b s.heap it l i)(tl:SCo b s.heap l xs)(hx:xs[i]? = some x)(m:e≠it)
  (T:∀ h',IsEnumOut h' e it ((i:Int)+1) x s.heap.objs.size->SIt b h' it l (i+1)->h'.get? s.heap.objs.size=some {cls:=.type "tuple",data:=.seq #[.int i s.toks,x]}->h'.objs.size=s.heap.objs.size+1 ->
   (∀ b o,b≠e->b≠it->s.heap.get? b=some o->h'.get? b=some o)->Q (some (.ref s.heap.objs.size)) {s with heap:=h',toks:=s.toks+1}):wpAny (model prog w) A (pyNext (.ref e)) Q E s:=by
 have S:s.TypeIs (.ref e) "enumerate":=⟨_,he,rfl⟩;unfold pyNext;refine wB1 (wpAny_attempt (wpAny_callSpecial?_slot (name:=Str.ofString "__next__") S F.slot_enumerate_next (wE1 F.slot_enumerate_next S F.entry_enumerate_next ?_ (F.args_enumerate_next_1 _))));obtain ⟨n,g,d,tk,t⟩:=s;show wpAny _ _ (field (.ref e) 2 >>= _) _ _ _;refine wB1 (wpAny_field he rfl (x:=.ref it) rfl ?_);refine wB1 (qd0 U tl hx fun h1 H D=>?_);replace D:Heap.SameBut it n h1:=D;have k:IsEnum h1 e it i old:=(D.2 e m).trans he;show wpAny _ _ (field (.ref e) 3 >>= _) _ _ ⟨h1,g,d,tk,t⟩;refine wB1 (wpAny_field k rfl (x:=rawInt i) rfl ?_);show wpAny _ _ (field (.ref e) 4 >>= _) _ _ ⟨h1,g,d,tk,t⟩;refine wB1 (wpAny_field k rfl (x:=.none) rfl ?_);show wpAny _ _ (mkInt i >>= _) _ _ ⟨h1,g,d,tk,t⟩;refine wB1 (wpAny_mkInt ?_);show wpAny _ _ (setField (.ref e) 3 (rawInt ((i:Int)+1)) >>= _) _ _ ⟨h1,g,d,tk+1,t⟩;refine wB1 (wS1 k (by simp) fun h2 p G=>?_);replace G:Heap.SameBut e h1 h2:=G;replace p:IsEnum h2 e it ((i:Int)+1) old:=p;show wpAny _ _ (setField (.ref e) 4 .none >>= _) _ _ ⟨h2,g,d,tk+1,t⟩;refine wB1 (wS1 p (by simp) fun h3 j C=>?_);replace C:Heap.SameBut e h2 h3:=C;replace j:IsEnum h3 e it ((i:Int)+1) old:=j;show wpAny _ _ (newTuple [.int i tk,x] >>= _) _ _ ⟨h3,g,d,tk+1,t⟩;refine wB1 (wpAny_newTuple ?_);have r:IsEnum (h3.push {cls:=.type "tuple",data:=.seq #[.int i tk,x]}) e it ((i:Int)+1) old:=hP1 _ j;generalize f:h3.push {cls:=.type "tuple",data:=.seq #[.int i tk,x]}=h4 at r;have h:h3.objs.size=n.objs.size:=by rw [C.1,G.1,D.1]
 have M:e<n.objs.size:=hL1 he;have O:h4.get? n.objs.size=some {cls:=.type "tuple",data:=.seq #[.int i tk,x]}:=by rw [<- f,<- h];exact Heap.get?_push_size _ rfl
 have N:h4.objs.size=n.objs.size+1:=by rw [<- f,hZ1,h]
 have R:∀ b o,b≠e->b≠it->n.get? b=some o->h4.get? b=some o:=fun b o a y P=>by
  rw [<- f];exact hP1 _ (C.extBut b o a (G.extBut b o a (D.extBut b o y P)))
 have L:SIt b h4 it l (i+1):=H.to fun o q=>by rw [<- f];exact hP1 _ (C.extBut _ _ (Ne.symm m) (G.extBut _ _ (Ne.symm m) q))
 show wpAny _ _ (Builtin.SmallTypes.ownedTupleIsFree (.ref e) >>= _) _ _ ⟨h4,g,d,tk+1,t⟩;rw [h];clear f j C p G k D H h h3 h2 h1;refine wB1 ?_;unfold Builtin.SmallTypes.ownedTupleIsFree;refine wB1 (wpAny_field r rfl (x:=.none) rfl (wP1 ?_));simp only [if_true];refine wB1 (wpAny_rule ?_);refine wB1 (wpAny_field r rfl (x:=old) rfl ?_);refine wB1 (wS1 r (by simp) fun h5 B J=>?_);replace J:Heap.SameBut e h4 h5:=J;replace B:IsEnum h5 e it ((i:Int)+1) x:=B;show wpAny _ _ (Builtin.SmallTypes.ownedTupleHandOut (.ref e) (.ref n.objs.size) >>= _) _ _ ⟨h5,g,d,tk+1,t⟩;refine wB1 ?_;unfold Builtin.SmallTypes.ownedTupleHandOut;refine wB1 (wS1 B (by simp) fun h6 u I=>?_);replace I:Heap.SameBut e h5 h6:=I;replace u:IsEnumOut h6 e it ((i:Int)+1) x n.objs.size:=u;refine wS1 u (by simp) fun h7 v K=>?_;replace K:Heap.SameBut e h6 h7:=K;replace v:IsEnumOut h7 e it ((i:Int)+1) x n.objs.size:=v;have up:∀ c o,c≠e->h4.get? c=some o->h7.get? c=some o:=fun c o z q=>K.extBut _ _ z (I.extBut _ _ z (J.extBut _ _ z q));refine wB1 (wpAny_letGo (wP1 ⟨_,rfl,wP1 (T h7 v (L.to fun o q=>up _ o (Ne.symm m) q) (up _ _ (nG1 M) O) (by rw [K.1,I.1,J.1,N]) fun c o a y P=>up c o a (R c o a y P))⟩))
theorem qma {b:Bool}{e it l:Addr}{i:Nat}{xs:Array Value}{c:Value}{Q:Option Value->Shared->Prop}(g:A.handled=none)(he:IsEnum s.heap e it i c)(h:SIt b s.heap it l i)(tl:SCo b s.heap l xs)(hx:xs[i]? = none)
  (j:∀ h',Heap.ExtBut it s.heap h'->Q none {s with heap:=h'}):wpAny (model prog w) A (pyNext (.ref e)) Q E s:=by
 have f:s.TypeIs (.ref e) "enumerate":=⟨_,he,rfl⟩;unfold pyNext;refine wB1 (wpAny_attempt (wpAny_callSpecial?_slot (name:=Str.ofString "__next__") f F.slot_enumerate_next (wE1 F.slot_enumerate_next f F.entry_enumerate_next ?_ (F.args_enumerate_next_1 _))));show wpAny _ _ (field (.ref e) 2 >>= _) _ _ _;refine wB1 (wpAny_field he rfl (x:=.ref it) rfl ?_);refine wB1 (qcv g h tl hx fun h' x d a=>?_);obtain ⟨o,k,hc⟩:=a;refine wB1 (wpAny_isInstance (T:="StopIteration") (b:=true) ⟨o,k,hc⟩ isSubtype_stop ?_);exact wP1 (j _ d)
theorem qgh {e it:Addr}{i:Int}{a:Value}{Q:Value->Shared->Prop}(he:IsEnum s.heap e it i a)(h:Q (.ref e) s):wpAny (model prog w) A (pyIter (.ref e)) Q E s:=by
 have b:s.TypeIs (.ref e) "enumerate":=⟨_,he,rfl⟩;refine wpAny_pyIter_slot b F.slot_enumerate_iter (wE1 F.slot_enumerate_iter b F.entry_enumerate_iter ?_ (F.args_enumerate_iter_1 _));show wpAny _ _ (ret (.ref e)) _ _ s;exact wP1 ⟨_,rfl,"enumerate",_,b,F.slot_enumerate_next.lookup,h⟩
end
open PySem.AutoSeq1 (wpAny_loadPart')
structure Zap (z ti to i1 i2:Addr):Prop where
 a1:ti≠z
 a2:to≠z
 a3:i1≠z
 a4:i2≠z
 a5:ti≠to
 a6:ti≠i1
 a7:ti≠i2
 a8:to≠i1
 a9:to≠i2
 a10:i1≠i2
section
variable {prog:Program} {w:World} {A:Around} {E:Value->Shared->Prop} {s:Shared} {b1 b2:Bool}
theorem SCo.ne {b:Bool}{h:Heap}{a c:Addr}{xs:Array Value}{o:Obj}(x:SCo b h a xs)(e:h.get? c=some o)(n:∀ ys k,o.data ≠ .seq ys k):a≠c:=by
 rintro rfl;cases b<;>(obtain ⟨o',f,g,k,d⟩:=x;rw [e] at f;cases f;exact n _ _ d)
theorem SCo.ne_it {b f:Bool}{h:Heap}{a it l:Addr}{xs:Array Value}{i:Nat}(x:SCo b h a xs)(y:SIt f h it l i):a≠it:=by
 cases f<;>(obtain ⟨o,e,c,d⟩:=y;exact x.ne e fun ys k z=>by rw [d] at z;cases z)
theorem qkR {z g to i1 i u n:Addr}{P O:Nat}{xs ys:Array Value}{x y a b:Value}{Q:Option Value->Shared->Prop}(D:Zap z g to i1 i)(hz:IsZip s.heap z g to .none)(hti:IsPair s.heap g (.ref i1) (.ref i))(V:IsPair s.heap to a b)
  (n1:u≠to) (n2:n≠to) (h1:SIt b1 s.heap i1 u P) (h2:SIt b2 s.heap i n O) (c1:SCo b1 s.heap u xs) (X:SCo b2 s.heap n ys) (hx:xs[P]? = some x) (hy:ys[O]? = some y)
  (hQ:∀ h',IsZip h' z g to (rawInt s.heap.objs.size)->IsPair h' to x y->SIt b1 h' i1 u (P+1)->SIt b2 h' i n (O+1)->IsPair h' s.heap.objs.size x y->h'.objs.size=s.heap.objs.size+1 ->
   (∀ c o,c≠z->c≠to->c≠i1->c≠i->s.heap.get? c=some o->h'.get? c=some o)->Q (some (.ref s.heap.objs.size)) {s with heap:=h'}):wpAny (model prog w) A (pyNext (.ref z)) Q E s:=by
 have hT:s.TypeIs (.ref z) "zip":=⟨_,hz,rfl⟩;have l1z:u≠z:=c1.ne hz fun _ _ q=>by cases q
 have W:n≠z:=X.ne hz fun _ _ q=>by cases q
 have K:n≠i1:=X.ne_it h1;unfold pyNext;refine wB1 (wpAny_attempt (wpAny_callSpecial?_slot (name:=Str.ofString "__next__") hT F.slot_zip_next (wE1 F.slot_zip_next hT F.entry_zip_next ?_ (F.args_zip_next_1 _))));show wpAny _ _ (field (.ref z) 2 >>= _) _ _ _;refine wB1 (wpAny_field hz rfl (x:=.bool false) rfl ?_);show wpAny _ _ (field (.ref z) 3 >>= _) _ _ _;refine wB1 (wpAny_field hz rfl (x:=.ref g) rfl ?_);refine wB1 (wpAny_seqItems hti rfl ?_);show wpAny _ _ (Builtin.SmallTypes.ownedTupleIsFree (.ref z) >>= _) _ _ _;refine wB1 ?_;unfold Builtin.SmallTypes.ownedTupleIsFree;refine wB1 (wpAny_field hz rfl (x:=.none) rfl (wP1 ?_));simp only [if_true];refine wB1 (wpAny_rule ?_);refine wB1 (wpAny_field hz rfl (x:=.ref to) rfl ?_);refine wB1 (wS1 hz (by simp) fun g1 r p=>?_);replace r:IsZip g1 z g to .ellipsis:=r;refine wB1 ?_;simp only [List.zipIdx_cons,List.zipIdx_nil,List.forIn_cons,List.forIn_nil];refine wB1 (wB1 (wpAny_onRaise ?_));show wpAny _ _ (Builtin.SmallTypes.nextOf (.ref i1) >>= _) _ _ _
 refine wB1 (qd0 (h1.to fun o q=>p.extBut _ _ D.a3 q) (c1.to fun o q=>p.extBut _ _ l1z q) hx fun g2 U B=>wP1 ?_);have k:IsPair g2 to a b:=B.extBut _ _ D.a8 (p.extBut _ _ D.a2 V);refine wB1 (wpAny_seqItems k rfl ?_);refine wB1 (wpAny_updateSeq_pair k fun g3 f v=>?_);replace f:IsPair g3 to x b:=f;refine wB1 (wpAny_letGo (wP1 ?_));refine wB1 (wB1 (wpAny_onRaise ?_));show wpAny _ _ (Builtin.SmallTypes.nextOf (.ref i) >>= _) _ _ _
 refine wB1 (qd0 (h2.to fun o q=>v.extBut _ _ D.a9.symm (B.extBut _ _ D.a10.symm (p.extBut _ _ D.a4 q))) (X.to fun o q=>v.extBut _ _ n2 (B.extBut _ _ K (p.extBut _ _ W q))) hy fun g4 h24 M=>wP1 ?_);have l:IsPair g4 to x b:=M.extBut _ _ D.a9 f;refine wB1 (wpAny_seqItems l rfl ?_);refine wB1 (wpAny_updateSeq_pair l fun d e I=>?_);replace e:IsPair d to x y:=e;refine wB1 (wpAny_letGo (wP1 (wP1 ?_)));refine wB1 (wpAny_seqItems e rfl ?_);refine wB1 (wpAny_newTuple ?_);have C:d.objs.size=s.heap.objs.size:=by rw [I.1,M.1,v.1,B.1,p.1]
 have G:IsZip d z g to .ellipsis:=I.extBut _ _ D.a2.symm (M.extBut _ _ D.a4.symm (v.extBut _ _ D.a2.symm (B.extBut _ _ D.a3.symm r)));have S:∀ c o,c≠z->c≠to->c≠i1->c≠i->s.heap.get? c=some o->d.get? c=some o:=fun c o t N Y Z q=>I.extBut _ _ N (M.extBut _ _ Z (v.extBut _ _ N (B.extBut _ _ Y (p.extBut _ _ t q))));have T:SIt b1 d i1 u (P+1):=U.to fun o q=>I.extBut _ _ D.a8.symm (M.extBut _ _ D.a10 (v.extBut _ _ D.a8.symm q));have h25:SIt b2 d i n (O+1):=h24.to fun o q=>I.extBut _ _ D.a9.symm q;have j:z<d.objs.size:=hL1 G;show wpAny _ _ (Builtin.SmallTypes.ownedTupleHandOut (.ref z) (.ref d.objs.size) >>= _) _ _ _;refine wB1 ?_;unfold Builtin.SmallTypes.ownedTupleHandOut;have hz6:IsZip (d.push {cls:=.type "tuple",data:=.seq #[x,y]}) z g to .ellipsis:=hP1 _ G;refine wB1 (wS1 hz6 (by simp) fun g7 m s7=>?_);replace m:IsZip g7 z g to (rawInt d.objs.size):=m;refine wS1 m (by simp) fun H h R=>?_;replace h:IsZip H z g to (rawInt d.objs.size):=h;have up:∀ c o,c≠z->d.get? c=some o->H.get? c=some o:=fun c o t q=>R.extBut _ _ t (s7.extBut _ _ t (hP1 _ q));have J:IsPair H d.objs.size x y:=R.extBut _ _ (nG1 j) (s7.extBut _ _ (nG1 j) (Heap.get?_push_size _ rfl));have L:H.objs.size=d.objs.size+1:=by rw [R.1,s7.1,hZ1]
 rw [C] at h J L;refine wP1 ⟨_,rfl,wP1 ?_⟩;show Q (some (.ref d.objs.size)) _;rw [C]
 exact hQ H h (up _ _ D.a2 e) (T.to fun o q=>up _ o D.a3 q) (h25.to fun o q=>up _ o D.a4 q) J L fun c o t N Y Z q=>up c o t (S c o t N Y Z q)
theorem qnf {z n to i1 u G t:Addr}{R K:Nat}{xs ys:Array Value}{a b:Value}{Q:Option Value->Shared->Prop}(Y:A.handled=none)(D:Zap z n to i1 u)(hz:IsZip s.heap z n to .none)(P:IsPair s.heap n (.ref i1) (.ref u))(L:IsPair s.heap to a b)
  (n1:G≠to) (n2:t≠to) (h1:SIt b1 s.heap i1 G R) (h2:SIt b2 s.heap u t K) (J:SCo b1 s.heap G xs) (N:SCo b2 s.heap t ys) (r:xs[R]? = none\/ys[K]? = none)
  (W:∀ h',(∀ c o,c≠z->c≠to->c≠i1->c≠u->s.heap.get? c=some o->h'.get? c=some o)->Q none {s with heap:=h'}):wpAny (model prog w) A (pyNext (.ref z)) Q E s:=by
 have hT:s.TypeIs (.ref z) "zip":=⟨_,hz,rfl⟩;have C:G≠z:=J.ne hz fun _ _ q=>by cases q
 have M:t≠z:=N.ne hz fun _ _ q=>by cases q
 have B:t≠i1:=N.ne_it h1;unfold pyNext;refine wB1 (wpAny_attempt (wpAny_callSpecial?_slot (name:=Str.ofString "__next__") hT F.slot_zip_next (wE1 F.slot_zip_next hT F.entry_zip_next ?_ (F.args_zip_next_1 _))));show wpAny _ _ (field (.ref z) 2 >>= _) _ _ _;refine wB1 (wpAny_field hz rfl (x:=.bool false) rfl ?_);show wpAny _ _ (field (.ref z) 3 >>= _) _ _ _;refine wB1 (wpAny_field hz rfl (x:=.ref n) rfl ?_);refine wB1 (wpAny_seqItems P rfl ?_);show wpAny _ _ (Builtin.SmallTypes.ownedTupleIsFree (.ref z) >>= _) _ _ _;refine wB1 ?_;unfold Builtin.SmallTypes.ownedTupleIsFree;refine wB1 (wpAny_field hz rfl (x:=.none) rfl (wP1 ?_));simp only [if_true];refine wB1 (wpAny_rule ?_);refine wB1 (wpAny_field hz rfl (x:=.ref to) rfl ?_);refine wB1 (wS1 hz (by simp) fun g1 i g=>?_);replace i:IsZip g1 z n to .ellipsis:=i;refine wB1 ?_;simp only [List.zipIdx_cons,List.zipIdx_nil,List.forIn_cons,List.forIn_nil];refine wB1 (wB1 (wpAny_onRaise ?_));show wpAny _ _ (Builtin.SmallTypes.nextOf (.ref i1) >>= _) _ _ _
 cases hx:xs[R]? with
 | none=>
  refine wB1 (qcv Y (h1.to fun o q=>g.extBut _ _ D.a3 q) (J.to fun o q=>g.extBut _ _ C q) hx fun S e k H=>?_);obtain ⟨I,d,f⟩:=H;have p:IsZip S z n to .ellipsis:=k _ _ D.a3.symm i;have l:e≠z:=fun q=>by subst q;rw [p] at d;cases d;simp at f
  refine wS1 p (by simp) fun X _ m=>?_;refine wB1 (wpAny_isInstance (T:="StopIteration") (b:=true) ⟨I,m.extBut _ _ l d,f⟩ isSubtype_stop ?_);exact wP1 (W X fun c o v _ O _ q=>m.extBut _ _ v (k _ _ O (g.extBut _ _ v q)))
 | some x=>
  have hy:ys[K]? = none:=by rcases r with h | h;rw [hx] at h;cases h;exact h
  refine wB1 (qd0 (h1.to fun o q=>g.extBut _ _ D.a3 q) (J.to fun o q=>g.extBut _ _ C q) hx fun S h12 k=>wP1 ?_);have j:IsPair S to a b:=k.extBut _ _ D.a8 (g.extBut _ _ D.a2 L);refine wB1 (wpAny_seqItems j rfl ?_);refine wB1 (wpAny_updateSeq_pair j fun X U m=>?_);refine wB1 (wpAny_letGo (wP1 ?_));refine wB1 (wB1 (wpAny_onRaise ?_));show wpAny _ _ (Builtin.SmallTypes.nextOf (.ref u) >>= _) _ _ _
  refine wB1 (qcv Y (h2.to fun o q=>m.extBut _ _ D.a9.symm (k.extBut _ _ D.a10.symm (g.extBut _ _ D.a4 q))) (N.to fun o q=>m.extBut _ _ n2 (k.extBut _ _ B (g.extBut _ _ M q))) hy fun g4 e Z H=>?_);obtain ⟨I,d,f⟩:=H;have y:IsZip g4 z n to .ellipsis:=Z _ _ D.a4.symm (m.extBut _ _ D.a2.symm (k.extBut _ _ D.a3.symm i));have l:e≠z:=fun q=>by subst q;rw [y] at d;cases d;simp at f
  refine wS1 y (by simp) fun g5 _ V=>?_;refine wB1 (wpAny_isInstance (T:="StopIteration") (b:=true) ⟨I,V.extBut _ _ l d,f⟩ isSubtype_stop ?_);exact wP1 (W g5 fun c o v q2 O q4 q=>V.extBut _ _ v (Z _ _ q4 (m.extBut _ _ q2 (k.extBut _ _ O (g.extBut _ _ v q)))))
noncomputable def zH (b1 b2:Bool)(h:Heap)(l1 l2:Addr):Heap:=((((h.push (qb4 b1 l1)).push (qb4 b2 l2)).push {cls:=.type "tuple",data:=.seq #[.ref h.objs.size,.ref (h.objs.size+1)]}).push {cls:=.type "tuple",data:=.seq #[.none,.none]}).push
 {cls:=.type "zip",data:=.fields #[.none,.bool false,.bool false,.ref (h.objs.size+2),.ref (h.objs.size+3)]}
theorem qnd (a c:Addr)(xs ys:Array Value):Meets (Builtin.«zip.__new__» ⟨[.type "zip",.ref a,.ref c],[]⟩) (fun _ R s=>SCo b1 s.heap a xs/\SCo b2 s.heap c ys/\R (.ok (.ret (.ref (s.heap.objs.size+4)))) {s with heap:=zH b1 b2 s.heap a c}):=
 .of_wp fun prog w A R s h=>by
  obtain ⟨b,g,d,tk,e⟩:=s;obtain ⟨l,k,h⟩:=h;have f:=sub_zip
  have j:SCo b1 (Shared.heap ⟨b,g,d,tk,e⟩) a xs:=l;have i:SCo b2 (Shared.heap ⟨b.push (qb4 b1 a),g,d,tk,e⟩) c ys:=k.to fun o q=>hP1 _ q
  wp_walk using qc7 j,qc7 i
  refine ⟨_,rfl,?_⟩;have m:(b.push (qb4 b1 a)).objs.size=b.objs.size+1:=hZ1 ..
  simp only [hZ1,zH] at h ⊢;exact h
theorem qkS {a d:Addr}{xs ys:Array Value}{Q:Value->Shared->Prop}(l:SCo b1 s.heap a xs)(k:SCo b2 s.heap d ys)
  (h:∀ h',IsZip h' (s.heap.objs.size+4) (s.heap.objs.size+2) (s.heap.objs.size+3) .none->IsPair h' (s.heap.objs.size+2) (.ref s.heap.objs.size) (.ref (s.heap.objs.size+1))->IsPair h' (s.heap.objs.size+3) .none .none ->
   SIt b1 h' s.heap.objs.size a 0->SIt b2 h' (s.heap.objs.size+1) d 0->h'.objs.size=s.heap.objs.size+5->(∀ c o,s.heap.get? c=some o->h'.get? c=some o)->Q (.ref (s.heap.objs.size+4)) {s with heap:=h'}):
  wpAny (model prog w) A (call (.type "zip") [.ref a,.ref d]) Q E s:=by
 refine callType_new F.called_zip (by decide) (F.typeCall_zip_2 _ _) (F.newCall_zip_2 _ _) (fun g=>F.args_object_init_3 g _ _) F.entry_zip_new (qnd (b1:=b1) (b2:=b2) a d xs ys) ⟨l,k,?_⟩;have up:∀ {h:Heap} {o:Obj} {c:Addr} {u:Obj},h.get? c=some u->(h.push o).get? c=some u:=fun q=>hP1 _ q;have b:∀ {h:Heap} {o:Obj} {n:Nat},h.objs.size=n->o.isFreed=false->(h.push o).get? n=some o:=fun e f=>by rw [<- e];exact Heap.get?_push_size _ f
 have m:(qb4 b1 a).isFreed=false:=by cases b1<;>rfl
 have p:(qb4 b2 d).isFreed=false:=by cases b2<;>rfl
 have r:(zH b1 b2 s.heap a d).get? s.heap.objs.size=some (qb4 b1 a):=up (up (up (up (b rfl m))));have v:(zH b1 b2 s.heap a d).get? (s.heap.objs.size+1)=some (qb4 b2 d):=up (up (up (b (by simp only [hZ1]) p)));have t:IsPair (zH b1 b2 s.heap a d) (s.heap.objs.size+2) (.ref s.heap.objs.size) (.ref (s.heap.objs.size+1)):=up (up (b (by simp only [hZ1]) rfl));have j:IsPair (zH b1 b2 s.heap a d) (s.heap.objs.size+3) .none .none:=up (b (by simp only [hZ1]) rfl);have i:IsZip (zH b1 b2 s.heap a d) (s.heap.objs.size+4) (s.heap.objs.size+2) (s.heap.objs.size+3) .none:=b (by simp only [hZ1]) rfl;exact ⟨⟨_,i,rfl⟩,h _ i t j (qgD r) (qgD v) (by simp only [zH,hZ1]) fun c o q=>up (up (up (up (up q))))⟩
end
noncomputable def SqB (K:Fg1)(b:Bool)(H:Hp)(a:Addr)(xs:List V):Prop:=match b with
 | true=>SqL K H a xs
 | false=>SqT K H a xs
section
variable {X:Cx} {pins:List (Addr×Obj)} {σ:L2.St} {H:Hp} {s:Shared}
theorem qaR {b:Bool}{a:Addr}{xs:List V}(I:Inv X pins σ H s)(h:SqB X.K b H a xs):∃ c:List Value,Vals xs c/\SCo b s.heap a c.toArray/\xs.length<=sizeLine:=by
 cases b
 ·obtain ⟨c,r,p,z⟩:=I.tuple h;exact ⟨c,r,p,z⟩
 ·obtain ⟨c,r,p,z⟩:=I.list h;exact ⟨c,r,p.isList,z⟩
theorem qe1 {b:Bool}{a:Addr}{xs ys:List V}(I:Inv X pins σ H s)(h:SqB X.K b H a xs)(h':SqB X.K b H a ys):xs=ys:=by
 cases b
 ·exact I.tuple_inj h h'
 ·exact I.list_inj h h'
theorem qhs {b:Bool}{a c:Addr}{xs:List V}(I:Inv X pins σ H s)(h:SqB X.K b H a xs)(f:FpOk X pins H c):a≠c:=by
 rintro rfl;have d:∀ {o},X.K.lookup a=some o->False:=fun {o} e=>by
  have g:=I.ok.mod.kin _ _ e;rcases f.2.2.2.1 with z | z
  ·exact I.ok.noex _ _ g z
  ·exact absurd (nL1 (hL1 g) (Nat.le_trans I.ok.bsz z)) (Nat.lt_irrefl _)
 cases b
 ·rcases h with (h | ⟨_,h⟩) | ⟨_,_,_,h,_⟩
  ·rw [f.1] at h;cases h
  ·rw [f.1] at h;cases h
  ·exact d h
 ·rcases h with (h | ⟨_,h⟩) | ⟨_,_,_,h,_⟩
  ·rw [f.1] at h;cases h
  ·rw [f.1] at h;cases h
  ·exact d h
theorem qhS (I:Inv X pins σ H s){fp:List Addr}(hf:∀ b∈fp,FpOk X pins H b){h':Heap}{p:Addr}{xs:List V}{a:List Value}{t':Nat}(hp:s.heap.objs.size<=p)(f:∀ b o,b∉fp->s.heap.get? b=some o->h'.get? b=some o)
  (k:IsTup h' p a.toArray) (t:Vals xs a) (hz:xs.length<=sizeLine):Inv X pins σ (upd H p (.tup xs)) {s with heap:=h',toks:=t'}:=by
 have g:H p=none:=I.hok.fresh hp;have h:∀ {b o},s.heap.get? b=some o->b≠p:=fun e=>nN1 (nL1 (hL1 e) hp);have i:∀ {b u},H b=some u->b∉fp:=fun e z=>by rw [(hf _ z).1] at e;cases e
 refine I.step (g':=s.gens) (d':=s.drawn) (ch:=fp) (fun b d=>⟨(hf b d).2.2.2.1,(hf b d).2.1,(hf b d).2.2.2.2.1,(hf b d).2.2.2.2.2⟩) (fun b o _ _ hc e _=>f b o hc e) (fun b o _ _ hc e _=>⟨o.slots,f b o hc e⟩) (fun b o _ e n=>?_)
  (fun b o hc e=>⟨o,f b o hc e⟩) (fun b ys e=>?_) (fun b o u e=>?_) (fun b ps e=>⟨#[],?_⟩) (fun m j=>?_) (fun b u e=>?_) I.bare
 ·rw [qaq (h e)];exact n
 ·rw [qaq (qat e g)];exact e
 ·rw [qaq (qat e g)];exact e
 ·rw [qaq (qat e g),e];simp
 ·obtain ⟨o,es,ep,l,r⟩:=j;exact ⟨o,es,ep,f _ o (fun z=>(hf _ z).2.1 rfl) l,r⟩
 ·by_cases d:b=p
  ·subst d;rw [qas] at e;cases e;exact ⟨hz,a,t,k⟩
  ·rw [qaq d] at e;refine (I.hok b u e).stay (fun c v hc q=>f c v ?_ q) (fun c q=>by rw [qaq (qat q g)];exact q) fun c ys q=>by rw [qaq (qat q g)];exact q
   rcases hc with z | z
   ·rw [z];exact i e
   ·exact i z
theorem qeO (I:Inv X pins σ H s){fp:List Addr}(hf:∀ b∈fp,FpOk X pins H b){h':Heap}{t':Nat}(a:∀ b o,b∉fp->s.heap.get? b=some o->h'.get? b=some o):Inv X pins σ H {s with heap:=h',toks:=t'}:=by
 have f:∀ {b u},H b=some u->b∉fp:=fun e z=>by rw [(hf _ z).1] at e;cases e
 refine I.step (g':=s.gens) (d':=s.drawn) (ch:=fp) (fun b d=>⟨(hf b d).2.2.2.1,(hf b d).2.1,(hf b d).2.2.2.2.1,(hf b d).2.2.2.2.2⟩) (fun b o _ _ hc e _=>a b o hc e) (fun b o _ _ hc e _=>⟨o.slots,a b o hc e⟩) (fun b o _ e n=>n)
  (fun b o hc e=>⟨o,a b o hc e⟩) (fun b ys e=>e) (fun b o u e=>e) (fun b ps e=>⟨#[],by rw [e];simp⟩) (fun m g=>?_) (fun b u e=>?_) I.bare
 ·obtain ⟨o,es,ep,h,r⟩:=g;exact ⟨o,es,ep,a _ o (fun z=>(hf _ z).2.1 rfl) h,r⟩
 ·refine (I.hok b u e).stay (fun c v hc q=>a c v ?_ q) (fun c q=>q) fun c ys q=>q;rcases hc with z | z
  ·rw [z];exact f e
  ·exact f z
end
theorem qho:(2:Nat)<=sizeLine:=by decide
noncomputable def Ite (K:Fg1)(b:Bool)(a:Addr):It:=
 ⟨fun i H=>∃ xs x,SqB K b H a xs/\xs[i]? = some x,fun i H x H'=>∃ p v,H p=none/\x = .ref p/\H'=upd H p (.tup [.int i,v]) /\ ∀ xs,SqB K b H a xs->xs[i]? = some v,fun i H=>∃ xs,SqB K b H a xs/\xs.length<=i⟩
theorem qi9 {P:Program}{w:World}{K:Fg1}{elts:List Expr}{k:Nat}{pos:Pos}(b:Bool)(a e it:Addr)(ne:e≠it):Turn P w K (.Tuple elts k pos) (Ite K b a) [e,it] e (fun i h=>(∃ d,IsEnum h e it (i:Nat) d)/\SIt b h it a i) where
 mem:=by simp
 obj:=by
  rintro i h ⟨⟨d,st⟩,M⟩ c hc;rcases List.mem_cons.mp hc with z | z
  ·subst z;exact ⟨_,st,fun v q=>by cases q⟩
  ·have z':c=it:=by simpa using z
   subst z';exact M.rec_
 keep:=fun i h h' ⟨⟨d,st⟩,M⟩ R=>⟨⟨d,R e (by simp) _ st⟩,M.to fun o q=>R it (by simp) o q⟩
 item:=by
  intro X D t G hc i pins s σ H E I m st L;subst D t G;obtain ⟨⟨d,g⟩,n⟩:=st;obtain ⟨xs,x,l,N⟩:=L;obtain ⟨y,J,B,W⟩:=qaR I l;obtain ⟨u,U,ru⟩:=J.get N;refine qks g n B (x:=u) (by simpa using U) ne fun h1 p C O hz1 F=>?_;refine ⟨.ref s.heap.objs.size,rfl,?_⟩;refine wpAny_letOwnedTupleGo_enum p fun h2 A f=>?_;have S:s.heap.objs.size≠e:=nG1 (hL1 g);have r:∀ c o,c∉[e,it]->s.heap.get? c=some o->h2.get? c=some o:=fun c o hc q=>by
   have j:c≠e:=fun z=>hc (by simp [z]);have c2:c≠it:=fun z=>hc (by simp [z]);exact f.extBut _ _ j (F c o j c2 q)
  have tp:IsTup h2 s.heap.objs.size [.int (i:Nat) s.toks,u].toArray:=⟨_,f.extBut _ _ S O,rfl,_,rfl⟩;have Z:=qhS I m (t':=s.toks+1) (nR1 _) r tp (xs:=[.int i,x]) (.cons ⟨_,rfl⟩ (.cons ru .nil)) qho;have Y:H s.heap.objs.size=none:=I.hok.fresh (nR1 _);refine ⟨.ref s.heap.objs.size,_,Z,rfl,⟨_,x,Y,rfl,rfl,fun ys V=>by rw [qe1 I V l];exact N⟩,⟨⟨u,?_⟩,C.to fun o q=>f.extBut _ _ (Ne.symm ne) q⟩,fun c hc=>?_⟩
  ·have:((i+1:Nat):Int)=(i:Int)+1:=by push_cast;rfl
   rw [this];exact A
  ·have j:c≠s.heap.objs.size:=fun z=>by
    rcases List.mem_cons.mp hc with q | q
    ·exact S (z.symm.trans q)
    ·have T:c=it:=by simpa using q
     obtain ⟨o,Q,_⟩:=n.rec_;rw [<- T,z] at Q;exact Nat.lt_irrefl _ (hL1 Q)
   rw [qaq j];exact (m c hc).1
 done:=by
  intro X D t G hc i pins s σ H E I m st L;subst D t G;obtain ⟨⟨d,g⟩,n⟩:=st;obtain ⟨xs,l,N⟩:=L;obtain ⟨y,J,B,W⟩:=qaR I l;have hl:=J.length;refine qma (I.ok.hd hc) g n B (by simp;lia) fun h' eb=>⟨rfl,qeO I (t':=s.toks) m fun c o hc q=>eb c o (fun z=>hc (by simp [z])) q⟩
 self:=fun _ _ _ _ _ ⟨⟨_,st⟩,_⟩ h=>qgh st h
noncomputable def Itz (K:Fg1)(b1 b2:Bool)(a1 a2:Addr):It:=
 ⟨fun i H=>∃ xs ys x y,SqB K b1 H a1 xs/\SqB K b2 H a2 ys/\xs[i]? = some x/\ys[i]? = some y,fun i H x H'=>∃ p v u,H p=none/\x = .ref p/\H'=upd H p (.tup [v,u])/\(∀ xs,SqB K b1 H a1 xs->xs[i]? = some v) /\ ∀ ys,SqB K b2 H a2 ys->ys[i]? = some u,
  fun i H=>∃ xs ys,SqB K b1 H a1 xs/\SqB K b2 H a2 ys/\(xs.length<=i\/ys.length<=i)⟩
theorem qk0 {P:Program}{w:World}{K:Fg1}{elts:List Expr}{k:Nat}{pos:Pos}(b1 b2:Bool)(a1 a2 z r to p n:Addr)(D:Zap z r to p n):Turn P w K (.Tuple elts k pos) (Itz K b1 b2 a1 a2) [z,r,to,p,n] z
  (fun i h=>IsZip h z r to .none/\IsPair h r (.ref p) (.ref n)/\(∃ u v,IsPair h to u v)/\SIt b1 h p a1 i/\SIt b2 h n a2 i) where
 mem:=by simp
 obj:=by
  rintro i h ⟨f,b,⟨u,v,g⟩,l,d⟩ c hc;simp only [List.mem_cons,List.not_mem_nil,or_false] at hc;rcases hc with rfl | rfl | rfl | rfl | rfl
  ·exact ⟨_,f,fun v q=>by cases q⟩
  ·exact ⟨_,b,fun v q=>by cases q⟩
  ·exact ⟨_,g,fun v q=>by cases q⟩
  ·exact l.rec_
  ·exact d.rec_
 keep:=fun i h h' ⟨f,b,⟨u,v,g⟩,l,d⟩ G=>⟨G z (by simp) _ f,G r (by simp) _ b,⟨u,v,G to (by simp) _ g⟩,l.to fun o q=>G p (by simp) o q,d.to fun o q=>G n (by simp) o q⟩
 item:=by
  intro X U M V hc i pins s σ H E I j st Y;subst U M V;obtain ⟨f,b,⟨u0,v0,g⟩,l,d⟩:=st;obtain ⟨xs,ys,x,y,C,B,ex,ey⟩:=Y;obtain ⟨O,W,R,hz⟩:=qaR I C;obtain ⟨F,A,m,L⟩:=qaR I B;obtain ⟨u,hu,ru⟩:=W.get ex;obtain ⟨T,Z,S⟩:=A.get ey;refine qkR D f b g (qhs I C (j to (by simp))) (qhs I B (j to (by simp))) l d R m (x:=u) (y:=T) (by simpa using hu) (by simpa using Z) fun h1 p1 p2 p3 p4 p5 p6 J=>?_;refine ⟨.ref s.heap.objs.size,rfl,?_⟩;refine wpAny_letOwnedTupleGo_zip p1 fun h2 z2 a=>?_;have lt:∀ c∈[z,r,to,p,n],c≠s.heap.objs.size:=fun c hc e=>by
   obtain ⟨o,eo⟩:∃ o,s.heap.get? c=some o:=by
    simp only [List.mem_cons,List.not_mem_nil,or_false] at hc;rcases hc with rfl | rfl | rfl | rfl | rfl
    ·exact ⟨_,f⟩
    ·exact ⟨_,b⟩
    ·exact ⟨_,g⟩
    ·obtain ⟨o,e,_⟩:=l.rec_;exact ⟨o,e⟩
    ·obtain ⟨o,e,_⟩:=d.rec_;exact ⟨o,e⟩
   rw [e] at eo;exact Nat.lt_irrefl _ (hL1 eo)
  have N:∀ c o,c∉[z,r,to,p,n]->s.heap.get? c=some o->h2.get? c=some o:=fun c o hc q=>by
   simp only [List.mem_cons,List.not_mem_nil,or_false,not_or] at hc;exact a.extBut _ _ hc.1 (J c o hc.1 hc.2.2.1 hc.2.2.2.1 hc.2.2.2.2 q)
  have tp:IsTup h2 s.heap.objs.size [u,T].toArray:=⟨_,a.extBut _ _ (Ne.symm (lt z (by simp))) p5,rfl,_,rfl⟩;have I2:=qhS I j (t':=s.toks) (nR1 _) N tp (xs:=[x,y]) (.cons ru (.cons S .nil)) qho;have hn:H s.heap.objs.size=none:=I.hok.fresh (nR1 _);refine ⟨.ref s.heap.objs.size,_,I2,rfl,⟨_,x,y,hn,rfl,rfl,fun Q t=>by rw [qe1 I t C];exact ex,fun Q t=>by rw [qe1 I t B];exact ey⟩,
   ⟨z2,a.extBut _ _ D.a1 (J _ _ D.a1 D.a5 D.a6 D.a7 b),⟨u,T,a.extBut _ _ D.a2 p2⟩,p3.to fun o q=>a.extBut _ _ D.a3 q,p4.to fun o q=>a.extBut _ _ D.a4 q⟩,fun c hc=>?_⟩
  rw [qaq (lt c hc)];exact (j c hc).1
 done:=by
  intro X U M V hc i pins s σ H E I j st Y;subst U M V;obtain ⟨f,b,⟨u0,v0,g⟩,l,d⟩:=st;obtain ⟨xs,ys,C,B,hl⟩:=Y;obtain ⟨O,W,R,hz⟩:=qaR I C;obtain ⟨F,A,m,L⟩:=qaR I B;have l1:=W.length;have l2:=A.length;refine qnf (I.ok.hd hc) D f b g (qhs I C (j to (by simp))) (qhs I B (j to (by simp))) l d R m (by simp;lia) fun h' eb=>⟨rfl,qeO I (t':=s.toks) j fun c o hc q=>?_⟩;simp only [List.mem_cons,List.not_mem_nil,or_false,not_or] at hc;exact eb c o hc.1 hc.2.2.1 hc.2.2.2.1 hc.2.2.2.2 q
 self:=fun _ _ _ _ _ ⟨st,_⟩ h=>wpAny_pyIter_zip st h
section
variable {X:Cx} {elts:List Expr} {k:Nat} {tpos:Pos}
noncomputable def qtd (K:Fg1)(ta:TA):TI:=fun σ H R=>ta σ H fun vs H1=>∃ a b,vs=[.ref a]/\(∃ xs,SqB K b H1 a xs)/\R (Ite K b a) H1
theorem qnV {a:Expr}{ta:TA}{p pos:Pos}(hg:Gl X "enumerate")(hm:X.mg "enumerate"=none)(ha:PA X [a] ta)(hs:starEach [a] X.env=[(false,eval a X.env)]:=by rfl):PI X (.Tuple elts k tpos) (.Call (.Name "enumerate" p) [a] [] pos) (qtd X.K ta):=by
 intro pins s σ H R I h;refine Call_ (qdF I hg hm boot_enumerate (PyProof.Rows.callWith_type1 (thn (ha pos pins s σ H _ I h) fun A g ⟨vs,H1,f,v,y⟩=>?_) hs rfl));obtain ⟨c,b,e,⟨xs,n⟩,q⟩:=y;subst e;cases v with
 | cons r l=>
  cases l;cases r;obtain ⟨x,C,j,B⟩:=qaR f n;refine qkt j fun h' i m o u=>qgh i ?_;have t:Inv X pins σ H1 {g with heap:=h'}:=f.kept (t':=g.toks) u;refine ⟨g.heap.objs.size+1,[g.heap.objs.size+1,g.heap.objs.size],_,_,H1,rfl,t,qi9 b c _ _ (Nat.succ_ne_self _),⟨⟨.none,i⟩,m⟩,fun d hd=>?_,q⟩;rcases List.mem_cons.mp hd with z | z
  ·subst z;exact f.fpOk (Nat.le_succ _) (f.hok.fresh (Nat.le_succ _))
  ·have w:d=g.heap.objs.size:=by simpa using z
   subst w;exact f.fpOk (nR1 _) (f.hok.fresh (nR1 _))
noncomputable def iZip (K:Fg1)(ta:TA):TI:=fun σ H R=>ta σ H fun vs H1=>∃ a1 b1 a2 b2,vs=[.ref a1,.ref a2]/\(∃ xs,SqB K b1 H1 a1 xs)/\(∃ xs,SqB K b2 H1 a2 xs)/\R (Itz K b1 b2 a1 a2) H1
theorem qqh {a b:Expr}{ta:TA}{p pos:Pos}(hg:Gl X "zip")(hm:X.mg "zip"=none)(ha:PA X [a,b] ta)(hs:starEach [a,b] X.env=[(false,eval a X.env),(false,eval b X.env)]:=by rfl)(hs2:starEach [b] X.env=[(false,eval b X.env)]:=by rfl):
  PI X (.Tuple elts k tpos) (.Call (.Name "zip" p) [a,b] [] pos) (iZip X.K ta):=by
 intro pins s σ H R I h;refine Call_ (qdF I hg hm boot_zip (PyProof.Rows.callWith_type1 (thn (ha pos pins s σ H _ I h) fun M c ⟨vs,H1,f,F,B⟩=>?_) (by rw [hs,hs2]) (by rw [hs2];rfl)));obtain ⟨x,b1,E,b2,e,⟨xs,G⟩,⟨ys,w⟩,q⟩:=B;subst e;cases F with
 | cons r i=>
  cases i with
  | cons A i=>
   cases i;cases r;cases A;obtain ⟨o,O,u,N⟩:=qaR f G;obtain ⟨l,J,j,n⟩:=qaR f w;refine qkS u j fun h' m C v t K L y=>wpAny_pyIter_zip m ?_;have D:Inv X pins σ H1 {c with heap:=h'}:=f.kept (t':=c.toks) y;refine ⟨c.heap.objs.size+4,[c.heap.objs.size+4,c.heap.objs.size+2,c.heap.objs.size+3,c.heap.objs.size,c.heap.objs.size+1],_,_,H1,rfl,D,qk0 b1 b2 x E _ _ _ _ _ ?_,⟨m,C,⟨_,_,v⟩,t,K⟩,fun d hd=>?_,q⟩
   ·constructor<;>(intro z;have P:((_:Nat)=_):=z;lia)
   ·have g:c.heap.objs.size<=d:=by
     simp only [List.mem_cons,List.not_mem_nil,or_false] at hd;rcases hd with rfl | rfl | rfl | rfl | rfl
     ·exact Nat.le_add_right _ _
     ·exact Nat.le_add_right _ _
     ·exact Nat.le_add_right _ _
     ·exact nR1 _
     ·exact Nat.le_add_right _ _
    exact f.fpOk g (f.hok.fresh g)
end
noncomputable def qap (S:Sto):D->Option (Bool×List D)
 | .tup xs=>some (false,xs)
 | .rol xs=>some (true,xs)
 | .ref n=>match S[n]? with
  | some (.lst xs)=>some (true,xs)
  | _=>none
 | _=>none
noncomputable def qep (S:Sto):D->List (Nat×List D)
 | .ref n=>match S[n]? with
  | some (.lst xs)=>[(n,xs)]
  | _=>[]
 | _=>[]
section
variable {K:Fg1} {H:Hp} {mu:List Addr} {S:Sto}
theorem qal {d:D}{v:V}{b:Bool}{xs:List D}(r:Rep K H mu d v)(s:Sim K H mu S)(h:qap S d=some (b,xs)):∃ a vs,v = .ref a/\SqB K b H a vs/\Reps K H mu xs vs:=by
 cases d with
 | tup ys=>cases h;cases r with | tup q t=>exact ⟨_,_,rfl,q,t⟩
 | rol ys=>cases h;cases r with | rol q t=>exact ⟨_,_,rfl,q.sq,t⟩
 | ref n=>
  rw [qap] at h;split at h
  ·rename_i ys e;cases h;cases r with
   | ref q=>
    obtain ⟨vs,f,c⟩:=s.lst e q;exact ⟨_,vs,rfl,SqL.of f,c⟩
  ·cases h
 | _=>cases h
theorem qcj {d:D}{a:Addr}{b:Bool}{xs:List D}(r:Rep K H mu d (.ref a))(s:Sim K H mu S)(h:qap S d=some (b,xs)){H1:Hp}{mu1:List Addr}{S1:Sto}(x:Exw mu mu1 H H1)(g:Sim K H1 mu1 S1)(ok:okC S1 (qep S d)=true):
  ∃ vs,SqB K b H1 a vs/\Reps K H1 mu1 xs vs:=by
 have f:=r.exw x;have h1:qap S1 d=some (b,xs):=by
  cases d with
  | ref n=>
   rw [qap] at h;split at h
   ·rename_i ys e;cases h;rw [qep,e] at ok;dsimp only [okC] at ok;rw [Bool.and_true] at ok;rw [qap];split at ok
    ·rename_i zs c
     first | rw [c,D.sames_eq ok] | rw [D.sames_eq ok]
    ·cases ok
   ·cases h
  | _=>exact h
 obtain ⟨i,vs,e,q,t⟩:=qal f g h1;cases e;exact ⟨vs,q,t⟩
end
noncomputable def iSeq (m:FE):FI:=fun r S=>(m r S).bind fun p=>(qap p.2 p.1).bind fun q=>some (⟨q.2,qep p.2 p.1⟩,p.2)
noncomputable def enD:Nat->List D->List D
 | _,[]=>[]
 | n,d::ds=>.tup [.int n,d]::enD (n+1) ds
noncomputable def iEn (m:FA):FI:=fun r S=>(m r S).bind fun p=>match p.1 with
 | [d]=>(qap p.2 d).bind fun q=>some (⟨enD 0 q.2,qep p.2 d⟩,p.2)
 | _=>none
noncomputable def zpD:List D->List D->List D
 | x::xs,y::ys=>.tup [x,y]::zpD xs ys
 | _,_=>[]
noncomputable def iZp (m:FA):FI:=fun r S=>(m r S).bind fun p=>match p.1 with
 | [d,e]=>(qap p.2 d).bind fun q=>(qap p.2 e).bind fun t=>some (⟨zpD q.2 t.2,qep p.2 d++qep p.2 e⟩,p.2)
 | _=>none
noncomputable def nums (lo:Int):Nat->List D
 | 0=>[]
 | n+1=>.int lo::nums (lo+1) n
noncomputable def iR1 (m:FA):FI:=fun r S=>(m r S).bind fun p=>match p.1 with
 | [.int j]=>if-(2^62)<=j/\j<2^62 then some (⟨nums 0 j.toNat,[]⟩,p.2) else none
 | _=>none
noncomputable def iR2 (m:FA):FI:=fun r S=>(m r S).bind fun p=>match p.1 with
 | [.int i,.int j]=>if-(2^62)<=i/\i<2^62 /\ -(2^62)<=j/\j<2^62 then some (⟨nums i (j-i).toNat,[]⟩,p.2) else none
 | _=>none
theorem qce:∀ (ds:List D) (n i:Nat),(enD n ds)[i]? = (ds[i]?).map fun d=>.tup [.int ((n+i:Nat):Int),d]
 | [],n,i=>by simp [enD]
 | d::ds,n,0=>by simp [enD]
 | d::ds,n,i+1=>by
  rw [enD,gC1,qce ds (n+1) i,gC1];rw [show n+1+i=n+(i+1) by lia]
theorem qcd:∀ (ds:List D) (n:Nat),(enD n ds).length=ds.length
 | [],_=>rfl
 | d::ds,n=>by rw [enD,lC1,qcd ds,lC1]
theorem qiV:∀ (xs ys:List D) (i:Nat) (d:D),(zpD xs ys)[i]? = some d -> ∃ x y,xs[i]? = some x/\ys[i]? = some y/\d = .tup [x,y]
 | [],_,i,d,h=>by simp [zpD] at h
 | _::_,[],i,d,h=>by simp [zpD] at h
 | x::xs,y::ys,0,d,h=>by simp [zpD] at h;exact ⟨x,y,rfl,rfl,h.symm⟩
 | x::xs,y::ys,i+1,d,h=>by
  rw [zpD,gC1] at h;obtain ⟨b,e,a,c,f⟩:=qiV xs ys i d h;exact ⟨b,e,by simpa using a,by simpa using c,f⟩
theorem qiU:∀ (xs ys:List D) (i:Nat),(zpD xs ys).length<=i->xs.length<=i\/ys.length<=i
 | [],_,i,_=>.inl (Nat.zero_le _)
 | _::_,[],i,_=>.inr (Nat.zero_le _)
 | x::xs,y::ys,0,h=>by simp [zpD] at h
 | x::xs,y::ys,i+1,h=>by
  rcases qiU xs ys i (by simpa [zpD] using h) with q | q
  ·exact .inl (by simpa using q)
  ·exact .inr (by simpa using q)
theorem qbv:∀ (n:Nat) (lo:Int) (i:Nat) (d:D),(nums lo n)[i]? = some d->i<n/\d = .int (lo+i)
 | 0,lo,i,d,h=>by simp [nums] at h
 | n+1,lo,0,d,h=>by simp [nums] at h;exact ⟨Nat.succ_pos _,by rw [<- h];simp⟩
 | n+1,lo,i+1,d,h=>by
  rw [nums,gC1] at h;obtain ⟨h1,h2⟩:=qbv n (lo+1) i d h;refine ⟨Nat.succ_lt_succ h1,?_⟩;rw [h2,show lo+1+(i:Int)=lo+((i+1:Nat):Int) by push_cast;lia]
theorem qay:∀ (n:Nat) (lo:Int),(nums lo n).length=n
 | 0,_=>rfl
 | n+1,lo=>by rw [nums,lC1,qay n]
theorem qjO {S:Sto}:∀ {c c':List (Nat×List D)},okC S (c++c')=true->okC S c=true/\okC S c'=true
 | [],_,h=>⟨rfl,h⟩
 | (n,xs)::c,c',h=>by
  rw [List.cons_append,okC,bA1] at h;obtain ⟨h1,h2⟩:=qjO h.2;exact ⟨by rw [okC,bA1];exact ⟨h.1,h1⟩,h2⟩
section
variable {X:Cx} {tg:Expr}
theorem qhQ (K:Fg1)(lo:Int)(n:Nat)(mu:List Addr)(H:Hp):ItR K (Itr lo n) ⟨nums lo n,[]⟩ mu H:=by
 intro i H1 mu1 c x s ok;refine ⟨fun d hd=>?_,fun h=>by rw [qay] at h;exact h⟩;obtain ⟨h1,h2⟩:=qbv n lo i d hd;refine ⟨h1,fun y H2 ⟨b,a⟩=>?_⟩;subst b;subst a;subst h2;exact ⟨.refl _ _,s,.int _⟩
theorem qq8 {e:Expr}{m:FE}(h:ME X e m):MI X tg e (iSeq m):=qfS (qsK (qnU h) (qqi h)) <| by
 rintro σ H R ⟨r,mu,S,J,G,B,D,l,hc⟩;obtain ⟨⟨d,I⟩,C,l⟩:=oB1.mp l;obtain ⟨⟨b,xs⟩,o,l⟩:=oB1.mp l;cases l;cases b with
 | true=>
  left;refine ⟨r,mu,S,d,_,B,D,C,fun v H1 mu1 s j f=>?_⟩;obtain ⟨a,vs,rfl,q,t⟩:=qal j f o;refine ⟨a,rfl,⟨vs,q⟩,hc _ H1 mu1 s (fun i H2 z F A n ok=>?_) f⟩;obtain ⟨ws,c,g⟩:=qcj j f o A n ok;refine ⟨fun d hd=>?_,fun w=>⟨ws,c,by rw [<- g.length];exact w⟩⟩;obtain ⟨v,k,u⟩:=g.get hd;refine ⟨⟨ws,v,c,k⟩,fun y E ⟨p,x⟩=>?_⟩;subst p;have:=x ws c;rw [k] at this;cases this;exact ⟨.refl _ _,n,u⟩
 | false=>
  right;refine ⟨r,mu,S,d,_,B,D,C,fun v H1 mu1 s j f=>?_⟩;obtain ⟨a,vs,rfl,q,t⟩:=qal j f o;refine ⟨a,rfl,⟨vs,q⟩,hc _ H1 mu1 s (fun i H2 z F A n ok=>?_) f⟩;obtain ⟨ws,c,g⟩:=qcj j f o A n ok;refine ⟨fun d hd=>?_,fun w=>⟨ws,c,by rw [<- g.length];exact w⟩⟩;obtain ⟨v,k,u⟩:=g.get hd;refine ⟨⟨ws,v,c,k⟩,fun y E ⟨p,x⟩=>?_⟩;subst p;have:=x ws c;rw [k] at this;cases this;exact ⟨.refl _ _,n,u⟩
theorem qe9 {K:Fg1}{H:Hp}{mu:List Addr}{d:D}{vs:List V}(r:Reps K H mu [d] vs):∃ v,vs=[v]/\Rep K H mu d v:=by
 cases r with | cons r t=>cases t;exact ⟨_,rfl,r⟩
theorem qhy {K:Fg1}{H:Hp}{mu:List Addr}{d e:D}{vs:List V}(r:Reps K H mu [d,e] vs):∃ v u,vs=[v,u]/\Rep K H mu d v/\Rep K H mu e u:=by
 cases r with | cons r t=>cases t with | cons q t=>cases t;exact ⟨_,_,rfl,r,q⟩
theorem qjU {a:Expr}{m:FA}{p pos:Pos}(hg:Gl X "range")(hm:X.mg "range"=none)(ha:MA X [a] m)(hs:starEach [a] X.env=[(false,eval a X.env)]:=by rfl):MI X tg (.Call (.Name "range" p) [a] [] pos) (iR1 m):=
 qfS (qjC hg hm ha hs) <| by
  rintro σ H R ⟨r,mu,S,J,i,c,hs,hm,hc⟩;obtain ⟨⟨ds,k⟩,d,hm⟩:=oB1.mp hm;dsimp only at hm;split at hm
  ·rename_i j;split at hm
   ·rename_i b;cases hm;refine ⟨r,mu,S,_,_,c,hs,d,fun vs H1 mu1 e f h=>?_⟩;obtain ⟨v,rfl,g⟩:=qe9 f;cases g;exact ⟨j,rfl,b.1,b.2,hc _ H1 mu1 e (qhQ _ _ _ _ _) h⟩
   ·cases hm
  ·cases hm
theorem qjT {a b:Expr}{m:FA}{p pos:Pos}(hg:Gl X "range")(hm:X.mg "range"=none)(ha:MA X [a,b] m)(hs:starEach [a,b] X.env=[(false,eval a X.env),(false,eval b X.env)]:=by rfl)(hs2:starEach [b] X.env=[(false,eval b X.env)]:=by rfl):MI X tg (.Call (.Name "range" p) [a,b] [] pos) (iR2 m):=
 qfS (qjB hg hm ha hs hs2) <| by
  rintro σ H R ⟨r,mu,S,J,n,c,hs,hm,hc⟩;obtain ⟨⟨ds,o⟩,d,hm⟩:=oB1.mp hm;dsimp only at hm;split at hm
  ·rename_i i j;split at hm
   ·rename_i f;cases hm;refine ⟨r,mu,S,_,_,c,hs,d,fun vs H1 mu1 e g l=>?_⟩;obtain ⟨v,u,rfl,h,k⟩:=qhy g;cases h;cases k;exact ⟨i,j,rfl,f,hc _ H1 mu1 e (qhQ _ _ _ _ _) l⟩
   ·cases hm
  ·cases hm
variable {elts:List Expr} {k:Nat} {tpos:Pos}
theorem qop {a:Expr}{m:FA}{p pos:Pos}(hg:Gl X "enumerate")(hm:X.mg "enumerate"=none)(ha:MA X [a] m)(hs:starEach [a] X.env=[(false,eval a X.env)]:=by rfl):MI X (.Tuple elts k tpos) (.Call (.Name "enumerate" p) [a] [] pos) (iEn m):=
 qfS (qnV hg hm ha hs) <| by
  rintro σ H R ⟨r,mu,S,J,I,u,hs,hm,hc⟩;obtain ⟨⟨ds,K⟩,w,hm⟩:=oB1.mp hm;dsimp only at hm;split at hm
  ·rename_i d;obtain ⟨⟨b,xs⟩,l,hm⟩:=oB1.mp hm;cases hm;refine ⟨r,mu,S,_,_,u,hs,w,fun vs H1 mu1 z B f=>?_⟩;obtain ⟨v,rfl,j⟩:=qe9 B;obtain ⟨a,vs,rfl,q,t⟩:=qal j f l;refine ⟨a,b,rfl,⟨vs,q⟩,hc _ H1 mu1 z (fun i H2 E M F s ok=>?_) f⟩;obtain ⟨ws,c,h⟩:=qcj j f l F s ok;refine ⟨fun d hd=>?_,fun n=>⟨ws,c,by rw [qcd] at n;rw [<- h.length];exact n⟩⟩;rw [qce] at hd;obtain ⟨N,D,hd⟩:=oM1.mp hd;obtain ⟨v,o,g⟩:=h.get D;refine ⟨⟨ws,v,c,o⟩,fun y L ⟨p,G,e,x,C,A⟩=>?_⟩;have:=A ws c;rw [o] at this;cases this;subst x;subst C;subst hd;rw [Nat.zero_add];exact ⟨Ext.fresh e,s.fresh e,.tup (SqT.of qas) (.cons (.int _) (.cons (g.ext (Ext.fresh e)) .nil))⟩
  ·cases hm
theorem qq7 {a b:Expr}{m:FA}{p pos:Pos}(hg:Gl X "zip")(hm:X.mg "zip"=none)(ha:MA X [a,b] m)(hs:starEach [a,b] X.env=[(false,eval a X.env),(false,eval b X.env)]:=by rfl)(hs2:starEach [b] X.env=[(false,eval b X.env)]:=by rfl):MI X (.Tuple elts k tpos) (.Call (.Name "zip" p) [a,b] [] pos) (iZp m):=
 qfS (qqh hg hm ha hs hs2) <| by
  rintro σ H R ⟨r,mu,S,J,S',M,hs,hm,hc⟩;obtain ⟨⟨ds,S1⟩,N,hm⟩:=oB1.mp hm;dsimp only at hm;split at hm
  ·rename_i d e;obtain ⟨⟨b1,xs⟩,C,hm⟩:=oB1.mp hm;obtain ⟨⟨b2,ys⟩,x,hm⟩:=oB1.mp hm;cases hm;refine ⟨r,mu,S,_,_,M,hs,N,fun vs H1 mu1 Q Y f=>?_⟩;obtain ⟨v,u,rfl,A,E⟩:=qhy Y;obtain ⟨W,o,rfl,U,t1⟩:=qal A f C;obtain ⟨a2,s,rfl,P,t2⟩:=qal E f x;refine ⟨W,b1,a2,b2,rfl,⟨o,U⟩,⟨s,P⟩,hc _ H1 mu1 Q (fun i H2 mu2 S2 L w ok=>?_) f⟩;obtain ⟨n,h⟩:=qjO ok;obtain ⟨ws,l,D⟩:=qcj A f C L w n;obtain ⟨c,q,I⟩:=qcj E f x L w h;refine ⟨fun d hd=>?_,fun hl=>⟨ws,c,l,q,?_⟩⟩
   ·obtain ⟨x',y',ex,Z,rfl⟩:=qiV xs ys i d hd;obtain ⟨v,F,t⟩:=D.get ex;obtain ⟨u,K,j⟩:=I.get Z;refine ⟨⟨ws,c,v,u,l,q,F,K⟩,fun y H3 ⟨p,v',u',g,O,z2,T,V⟩=>?_⟩;have B:=T ws l;have G:=V c q;rw [F] at B;cases B;rw [K] at G;cases G;subst O;subst z2;exact ⟨Ext.fresh g,w.fresh g,.tup (SqT.of qas) (.cons (t.ext (Ext.fresh g)) (.cons (j.ext (Ext.fresh g)) .nil))⟩
   ·rcases qiU xs ys i hl with z | z
    ·exact .inl (by rw [<- D.length];exact z)
    ·exact .inr (by rw [<- I.length];exact z)
  ·cases hm
end
noncomputable abbrev G1:=D->Sto->Option (D×Sto)
noncomputable abbrev G2:=D->D->Sto->Option (D×Sto)
noncomputable abbrev G3:=D->D->D->Sto->Option (D×Sto)
noncomputable def b1 (f:G1):FN:=fun ds S=>match ds with
 | [a]=>f a S
 | _=>none
noncomputable def b2 (f:G2):FN:=fun ds S=>match ds with
 | [a,b]=>f a b S
 | _=>none
noncomputable def b3 (f:G3):FN:=fun ds S=>match ds with
 | [a,b,c]=>f a b c S
 | _=>none
section
variable {X:Cx} {K:Fg1} {H:Hp} {Q:VK}
theorem rn2 {f:G2}{x y:V}(h:rN K (b2 f) [x,y] H Q):∃ mu S d e r a,Rep K H mu d x/\Rep K H mu e y/\Sim K H mu S/\f d e S=some (r,a)/\Cont K mu H r a Q:=by
 obtain ⟨mu,S,ds,r,a,b,c,g,hc⟩:=h;cases b with
 | cons q t=>cases t with
  | cons i t=>cases t;exact ⟨mu,S,_,_,r,a,q,i,c,g,hc⟩
theorem rn1 {f:G1}{xs:List V}(h:rN K (b1 f) xs H Q):∃ x mu S d r a,xs=[x]/\Rep K H mu d x/\Sim K H mu S/\f d S=some (r,a)/\Cont K mu H r a Q:=by
 obtain ⟨mu,S,ds,r,a,c,e,b,hc⟩:=h;cases c with
 | nil=>cases b
 | cons q t=>cases t with
  | nil=>exact ⟨_,mu,S,_,r,a,rfl,q,e,b,hc⟩
  | cons g t=>cases b
theorem rn2l {f:G2}{xs:List V}(h:rN K (b2 f) xs H Q):∃ x y mu S d e r b,xs=[x,y]/\Rep K H mu d x/\Rep K H mu e y/\Sim K H mu S/\f d e S=some (r,b)/\Cont K mu H r b Q:=by
 obtain ⟨mu,S,ds,r,b,c,g,a,hc⟩:=h;cases c with
 | nil=>cases a
 | cons q t=>cases t with
  | nil=>cases a
  | cons i t=>cases t with
   | nil=>exact ⟨_,_,mu,S,_,_,r,b,rfl,q,i,g,a,hc⟩
   | cons j t=>cases a
theorem Cont.now {mu:List Addr}{S:Sto}{d:D}{v:V}(c:Cont K mu H d S Q)(r:Rep K H mu d v)(s:Sim K H mu S):Q v H:=c v H mu (.refl _ _) r s
end
noncomputable def qba (i j:Int):Bool:=(decide (-(2^64)<i)&&decide (i<2^64))||(decide (-(2^64)<j)&&decide (j<2^64))||(decide (i.natAbs<2^1000)&&decide (j.natAbs<2^1000))
noncomputable def gAdd:G2:=fun d e S=>match d,e with
 | .int i,.int j=>some (.int (i+j),S)
 | .tup xs,.tup ys=>if xs.length+ys.length<=sizeLine then some (.tup (xs++ys),S) else none
 | .str x,.str y=>if x.length+y.length<=sizeLine then some (.str (x++y),S) else none
 | .ref a,.ref b=>match S[a]?,S[b]? with
  | some (.lst xs),some (.lst ys)=>if xs.length+ys.length<=sizeLine then some (.ref S.length,S++[.lst (xs++ys)]) else none
  | _,_=>none
 | _,_=>none
noncomputable def gSub:G2:=fun d e S=>match d,e with
 | .int i,.int j=>some (.int (i-j),S)
 | _,_=>none
noncomputable def gMul:G2:=fun d e S=>match d,e with
 | .int i,.int j=>if qba i j=true then some (.int (i*j),S) else none
 | _,_=>none
noncomputable def gMod:G2:=fun d e S=>match d,e with
 | .int i,.int j=>if 0<j then some (.int (i%j),S) else none
 | _,_=>none
noncomputable def gDiv:G2:=fun d e S=>match d,e with
 | .int i,.int j=>if 0<j/\j<1073741824 then some (.int (i/j),S) else none
 | _,_=>none
noncomputable def gPow:G2:=fun d e S=>match d,e with
 | .int i,.int j=>if 0<=j/\j<=1000000/\i.natAbs<2^64 then some (.int (i^j.toNat),S) else none
 | _,_=>none
noncomputable def gNeg:G1:=fun d S=>match d with
 | .int i=>some (.int (-i),S)
 | _=>none
section
variable {X:Cx}
theorem qiz {i j:Int}(h:qba i j=true):IntMulOk i j:=by
 unfold qba at h;simp only [Bool.or_eq_true,bA1,decide_eq_true_eq] at h;rcases h with (⟨h1,h2⟩ | ⟨h1,h2⟩) | ⟨h1,h2⟩
 ·exact .of_left (intBits_le_64 h1 h2)
 ·exact .of_right (intBits_le_64 h1 h2)
 ·exact .of_bits (Nat.le_trans (intBits_le h1) (by decide)) (Nat.le_trans (intBits_le h2) (by decide))
theorem qfe {f:Value->Value->Sem Value}{g:G2}{c:Int->Int->Prop}{v:Int->Int->D}(hg:∀ d e S r a,g d e S=some (r,a) -> ∃ i j,d = .int i/\e = .int j/\c i j/\r=v i j/\a=S){b:Int->Int->V}
  (hv:∀ i j K H mu,Rep K H mu (v i j) (b i j)) (ho:OpR X f (rI c b)):OpR X f (r2 X.K (b2 g)):=by
 intro pins s σ H x y u w Q I m o h;obtain ⟨mu,S,d,e,r,a,p,r2,k,l,hc⟩:=rn2 h;obtain ⟨i,j,rfl,rfl,n,rfl,rfl⟩:=hg d e S r a l;cases p;cases r2;exact ho pins s σ H _ _ u w Q I m o ⟨i,j,rfl,rfl,n,hc.now (hv i j _ _ _) k⟩
theorem qdY {f:Value->Value->Sem Value}{g:G2}{v:Int->Int->D}(hg:∀ d e S r a,g d e S=some (r,a) -> ∃ i j,d = .int i/\e = .int j/\r=v i j/\a=S){b:Int->Int->V}
  (hv:∀ i j K H mu,Rep K H mu (v i j) (b i j)) (ho:OpR X f (rI0 b)):OpR X f (r2 X.K (b2 g)):=by
 intro pins s σ H x y u w Q I l m h;obtain ⟨mu,S,d,e,r,a,n,r2,c,k,hc⟩:=rn2 h;obtain ⟨i,j,rfl,rfl,rfl,rfl⟩:=hg d e S r a k;cases n;cases r2;exact ho pins s σ H _ _ u w Q I l m ⟨i,j,rfl,rfl,hc.now (hv i j _ _ _) c⟩
theorem qn9:OpR X (binaryOp .Sub) (r2 X.K (b2 gSub)):=qdY (v:=fun i j=>.int (i-j)) (fun d e S r a h=>by
 unfold gSub at h;split at h
 ·cases h;exact ⟨_,_,rfl,rfl,rfl,rfl⟩
 ·cases h) (fun _ _ _ _ _=>.int _) qqF
theorem qf1:OpR X (binaryOp .Mult) (r2 X.K (b2 gMul)):=qfe (c:=fun i j=>IntMulOk i j) (v:=fun i j=>.int (i*j)) (fun d e S r a h=>by
 unfold gMul at h;split at h
 ·split at h
  ·rename_i q;cases h;exact ⟨_,_,rfl,rfl,qiz q,rfl,rfl⟩
  ·cases h
 ·cases h) (fun _ _ _ _ _=>.int _) (opI fun _ _ _ _ _ _ _ hc q=>mul_int q hc)
theorem qeA:OpR X (binaryOp .Mod) (r2 X.K (b2 gMod)):=qfe (c:=fun _ j=>0<j) (v:=fun i j=>.int (i%j)) (fun d e S r a h=>by
 unfold gMod at h;split at h
 ·split at h
  ·rename_i q;cases h;exact ⟨_,_,rfl,rfl,q,rfl,rfl⟩
  ·cases h
 ·cases h) (fun _ _ _ _ _=>.int _) qqI
theorem qjQ:OpR X (binaryOp .FloorDiv) (r2 X.K (b2 gDiv)):=qfe (c:=CDiv) (v:=fun i j=>.int (i/j)) (fun d e S r a h=>by
 unfold gDiv at h;split at h
 ·split at h
  ·rename_i q;cases h;exact ⟨_,_,rfl,rfl,q,rfl,rfl⟩
  ·cases h
 ·cases h) (fun _ _ _ _ _=>.int _) qn5
theorem qgT:OpR X (binaryOp .Pow) (r2 X.K (b2 gPow)):=qfe (c:=CPow) (v:=fun i j=>.int (i^j.toNat)) (fun d e S r a h=>by
 unfold gPow at h;split at h
 ·split at h
  ·rename_i q;cases h;exact ⟨_,_,rfl,rfl,q,rfl,rfl⟩
  ·cases h
 ·cases h) (fun _ _ _ _ _=>.int _) qqH
theorem qqR:UnR X (unaryOp .USub) (fun x H Q=>rN X.K (b1 gNeg) [x] H Q):=by
 intro pins s σ H x v Q I c h;obtain ⟨g,mu,S,d,r,j,e,f,b,a,hc⟩:=rn1 h;cases e;cases d with
 | int i=>cases a;cases f;exact qpA pins s σ H _ v Q I c ⟨i,rfl,hc.now (.int _) b⟩
 | _=>cases a
theorem qkG {s:Shared}{prog:Program}{w:World}{A:Around}{E:Value->Shared->Prop}{t b:Addr}{ws:List Value}{Q:Value->Shared->Prop}(ht:IsTup s.heap t ([]:List Value).toArray)(hb:IsTup s.heap b ws.toArray)(h:Q (.ref b) s):
  wpAny (model prog w) A (binaryOp .Add (.ref t) (.ref b)) Q E s:=by
 obtain ⟨⟨m,o,j,l⟩,k,hc,n,hd⟩:=id ht;obtain ⟨⟨i,f,g,e⟩,a,c,p,d⟩:=id hb;simp only at hc hd c d;subst hc hd c d;exact concat_meets ⟨_,k,rfl⟩ ⟨_,a,rfl⟩ noFill_tuple_add seq_tuple_add PySem.F.slot_tuple_add PySem.F.entry_tuple_add (PySem.F.args_tuple_add_2 _ _) (tuple_addW0 t b ([]:List Value).toArray ws.toArray n p o f l e (by simp)) ⟨k,a,h⟩
theorem qbu:OpR X (binaryOp .Add) (r2 X.K (b2 gAdd)):=by
 intro pins s σ H x y u w Q I o t h;obtain ⟨mu,S,d,e,r,T,v,r2,f,c,hc⟩:=rn2 h;unfold gAdd at c;split at c
 ·cases c;cases v;cases r2;exact qqL pins s σ H _ _ u w Q I o t ⟨_,_,rfl,rfl,hc.now (.int _) f⟩
 ·rename_i xs ys;split at c
  ·rename_i q;cases c;cases v with
   | tup C k=>
    cases r2 with
    | tup A l=>
     rename_i g O m E;by_cases F:g=[]
     ·subst F;have:xs=[]:=by cases k;rfl
      subst this;cases o;cases t;obtain ⟨B,L,M,_⟩:=I.tuple C;obtain ⟨D,R,p2,_⟩:=I.tuple A;have:B=[]:=L.nil_iff.mpr rfl;subst this;exact qkG M p2 ⟨.ref E,H,I,rfl,hc.now (.tup A l) f⟩
     ·refine qn6 pins s σ H _ _ u w Q I o t ⟨O,E,g,m,rfl,rfl,C,A,F,by rw [<- k.length,<- l.length];exact q,fun z=>?_,fun z p n=>?_⟩
      ·subst z;have:ys=[]:=by cases l;rfl
       subst this;rw [List.append_nil] at hc;exact hc.now (.tup C k) f
      ·exact hc _ _ mu (Ext.fresh n) (.tup (SqT.of qas) ((k.append l).ext (Ext.fresh n))) (f.fresh n)
  ·cases c
 ·rename_i i j;split at c
  ·rename_i q;cases c;cases v;cases r2;exact qit pins s σ H _ _ u w Q I o t ⟨i,j,rfl,rfl,q,hc.now (.str _) f⟩
  ·cases c
 ·rename_i a b;split at c
  ·rename_i xs ys K eb;split at c
   ·rename_i q;cases c;cases v with
    | ref G=>
     cases r2 with
     | ref P=>
      obtain ⟨g,J,k⟩:=f.lst K G;obtain ⟨m,N,l⟩:=f.lst eb P;refine qqK pins s σ H _ _ u w Q I o t ⟨_,_,g,m,rfl,rfl,J,N,by rw [<- k.length,<- l.length];exact q,fun p n=>?_⟩;exact hc _ _ (mu++[p]) (Ext.new_ n) (.ref (qcO f.len p)) (f.newL (k.append l) n)
   ·cases c
  ·cases c
 ·cases c
end
noncomputable def gCmp (p:Int->Int->Bool):G2:=fun d e S=>match d,e with
 | .int i,.int j=>some (.bl (p i j),S)
 | _,_=>none
section
variable {X:Cx}
theorem qhc {p:Int->Int->Bool}(d e:D)(S:Sto)(r:D)(a:Sto)(h:gCmp p d e S=some (r,a)):∃ i j,d = .int i/\e = .int j/\r = .bl (p i j)/\a=S:=by
 unfold gCmp at h;split at h
 ·cases h;exact ⟨_,_,rfl,rfl,rfl,rfl⟩
 ·cases h
theorem o_le:OpR X (compareOp .LtE) (r2 X.K (b2 (gCmp fun i j=>decide (i<=j)))):=qdY qhc (fun _ _ _ _ _=>.bl _) qsR
theorem o_gt:OpR X (compareOp .Gt) (r2 X.K (b2 (gCmp fun i j=>decide (j<i)))):=qdY qhc (fun _ _ _ _ _=>.bl _) qsS
theorem o_ge:OpR X (compareOp .GtE) (r2 X.K (b2 (gCmp fun i j=>decide (j<=i)))):=qdY qhc (fun _ _ _ _ _=>.bl _) qsT
end
noncomputable def qfs:D->Bool
 | .non=>true
 | .bl _=>true
 | .int _=>true
 | .str _=>true
 | _=>false
noncomputable def eqF:D->D->Option Bool
 | .non,.non=>some true
 | .bl a,.bl b=>some (a == b)
 | .bl a,.int b=>some ((if a then 1 else 0) == b)
 | .int a,.bl b=>some (a == (if b then 1 else 0))
 | .int a,.int b=>some (a == b)
 | .str a,.str b=>some (a == b)
 | d,e=>if qfs d&&qfs e then some false else none
noncomputable def eqL (f:D->D->Option Bool):List D->List D->Option Bool
 | x::xs,y::ys=>(f x y).bind fun b=>(eqL f xs ys).map fun c=>b&&c
 | [],[]=>some true
 | _,_=>some false
noncomputable def eqN (S:Sto):Nat->D->D->Option Bool
 | 0,_,_=>none
 | n+1,d,e=>match qap S d,qap S e with
  | some p,some q=>if p.1=q.1 then (if p.1=true/\p.2.length≠q.2.length then some false else eqL (eqN S n) p.2 q.2) else some false
  | some _,none=>if qfs e=true then some false else none
  | none,some _=>if qfs d=true then some false else none
  | none,none=>eqF d e
section
variable {X:Cx} {pins:List (Addr×Obj)} {σ:L2.St} {H:Hp} {s:Shared} {mu:List Addr} {S:Sto}
theorem qbc {K:Fg1}{d:D}{v:V}(r:Rep K H mu d v)(h:qfs d=true):qeB v=true /\ ∀ e w,Rep K H mu e w->qfs e=true->eqF d e=some (eqV v w):=by
 cases d with
 | non=>cases r;refine ⟨rfl,fun e w q f=>?_⟩;cases e with
  | non=>cases q;rfl
  | bl _=>cases q;rfl
  | int _=>cases q;rfl
  | str _=>cases q;rfl
  | _=>cases f
 | bl b=>cases r;refine ⟨rfl,fun e w q f=>?_⟩;cases e with
  | non=>cases q;rfl
  | bl _=>cases q;rfl
  | int _=>cases q;rfl
  | str _=>cases q;rfl
  | _=>cases f
 | int i=>cases r;refine ⟨rfl,fun e w q f=>?_⟩;cases e with
  | non=>cases q;rfl
  | bl _=>cases q;rfl
  | int _=>cases q;rfl
  | str _=>cases q;rfl
  | _=>cases f
 | str x=>cases r;refine ⟨rfl,fun e w q f=>?_⟩;cases e with
  | non=>cases q;rfl
  | bl _=>cases q;rfl
  | int _=>cases q;rfl
  | str _=>cases q;rfl
  | _=>cases f
 | _=>cases h
theorem qft {d e:D}{b:Bool}(h:eqF d e=some b):qfs d=true/\qfs e=true:=by
 cases d<;>cases e<;>first | exact ⟨rfl,rfl⟩ | (cases h;done) | exact nomatch h | (simp [eqF,qfs] at h)
theorem ql8 {v:V}(h:qeB v=true):eqV v v=true:=by
 cases v<;>first | rfl | (cases h;done) | exact beq_self_eq_true _ | (simp [eqV];done)
theorem qh0 (I:Inv X pins σ H s)(hs:Sim X.K H mu S):∀ (n:Nat) {d e:D} {v:V} {b:Bool},Rep X.K H mu d v->Rep X.K H mu e v->eqN S n d e=some b->b=true
 | 0,_,_,_,_,_,_,h=>by cases h
 | n + 1,d,e,v,b,z,l,h=>by
  rw [eqN] at h;have g:∀ {xs ys:List D} {vs:List V} {b:Bool},Reps X.K H mu xs vs->Reps X.K H mu ys vs->eqL (eqN S n) xs ys=some b->b=true:=by
   intro xs
   induction xs with
   | nil=>intro ys vs b A u h;cases A;cases u;cases h;rfl
   | cons x xs ih=>
    intro ys vs b A u h;cases A with
    | cons r t=>
     cases u with
     | cons L M=>
      rw [eqL] at h;obtain ⟨b1,i,h⟩:=oB1.mp h;obtain ⟨b2,c,h⟩:=oM1.mp h;subst h;rw [qh0 I hs n r L i,ih t M c];rfl
  cases hd:qap S d with
  | some p=>
   obtain ⟨E,xs⟩:=p;obtain ⟨a,vs,rfl,q,t⟩:=qal z hs hd;cases he:qap S e with
   | some p2=>
    obtain ⟨qb,ys⟩:=p2;obtain ⟨O,B,c,m,y⟩:=qal l hs he;cases c;rw [hd,he] at h;dsimp only at h;obtain ⟨J,W,F,_⟩:=qaR I q;obtain ⟨C,T,j,_⟩:=qaR I m;have P:E=qb:=by
     cases E<;>cases qb
     ·rfl
     ·obtain ⟨o,i,w,_⟩:=F;obtain ⟨Q,c,k,_⟩:=j;rw [i] at c;cases c;rw [w] at k;exact absurd k (by decide)
     ·obtain ⟨o,i,w,_⟩:=F;obtain ⟨Q,c,k,_⟩:=j;rw [i] at c;cases c;rw [w] at k;exact absurd k (by decide)
     ·rfl
    subst P;have G:=qe1 I q m;subst G;rw [if_pos rfl,if_neg (by rw [t.length,y.length];simp)] at h;exact g t y h
   | none=>
    rw [hd,he] at h;dsimp only at h;split at h
    ·rename_i f;have:=(qbc l f).1;cases this
    ·cases h
  | none=>
   cases he:qap S e with
   | some p2=>
    obtain ⟨qb,ys⟩:=p2;obtain ⟨O,B,c,m,y⟩:=qal l hs he;subst c;rw [hd,he] at h;dsimp only at h;split at h
    ·rename_i f;have:=(qbc z f).1;cases this
    ·cases h
   | none=>
    rw [hd,he] at h;dsimp only at h;obtain ⟨R,N⟩:=qft h;obtain ⟨K,U⟩:=qbc z R;rw [U e v l N] at h;cases h;exact ql8 K
theorem qaM {A:Around}{b:Bool}{a:Addr}{e:Array Value}{v:V}{u:Value}(c:SCo b s.heap a e)(r:RelV v u)(f:qeB v=true)(d:A.units<cLine):
   SeqAt.EqAt A s (.ref a) u false/\SeqAt.EqAt A s u (.ref a) false/\SeqAt.RcAt A s (.ref a) u false/\SeqAt.RcAt A s u (.ref a) false:=by
 cases v with
 | non => cases r;cases b
          · exact ⟨.tuple_none c d,.none_tuple c d,.tuple_none c d,.none_tuple c d⟩
          · exact ⟨.list_none c d,.none_list c d,.list_none c d,.none_list c d⟩
 | bl k => cases r;cases b
           · exact ⟨.tuple_bool k c d,.bool_tuple k c d,.tuple_bool k c d,.bool_tuple k c d⟩
           · exact ⟨.list_bool k c d,.bool_list k c d,.list_bool k c d,.bool_list k c d⟩
 | int i => obtain ⟨t,rfl⟩:=r;cases b
            · exact ⟨.tuple_int i t c d,.int_tuple i t c d,.tuple_int i t c d,.int_tuple i t c d⟩
            · exact ⟨.list_int i t c d,.int_list i t c d,.list_int i t c d,.int_list i t c d⟩
 | str x => obtain ⟨t,rfl⟩:=r;cases b
            · exact ⟨.tuple_str x t c d,.str_tuple x t c d,.tuple_str x t c d,.str_tuple x t c d⟩
            · exact ⟨.list_str x t c d,.str_list x t c d,.list_str x t c d,.str_list x t c d⟩
 | _=>cases f
theorem qnH {A:Around}{x y:V}{u w:Value}(d:RelV x u)(a:RelV y w)(h:qeB x=true)(f:qeB y=true):SeqAt.RcAt A s u w (eqV x y):=by
 cases x with
 | non=>cases d;cases y with
  | non=>cases a;exact .none_none
  | bl k=>cases a;exact .none_bool k
  | int i=>obtain ⟨t,rfl⟩:=a;exact .none_int i t
  | str z=>obtain ⟨t,rfl⟩:=a;exact .none_str z t
  | _=>cases f
 | bl c=>cases d;cases y with
  | non=>cases a;exact .bool_none c
  | bl k=>cases a;exact .bool_bool c k
  | int i=>obtain ⟨t,rfl⟩:=a;exact .bool_int c i t
  | str z=>obtain ⟨t,rfl⟩:=a;exact .bool_str c z t
  | _=>cases f
 | int g=>obtain ⟨b,rfl⟩:=d;cases y with
  | non=>cases a;exact .int_none g b
  | bl k=>cases a;exact .int_bool g b k
  | int i=>obtain ⟨t,rfl⟩:=a;exact .int_int g b i t
  | str z=>obtain ⟨t,rfl⟩:=a;exact .int_str g b z t
  | _=>cases f
 | str e=>obtain ⟨b,rfl⟩:=d;cases y with
  | non=>cases a;exact .str_none e b
  | bl k=>cases a;exact .str_bool e b k
  | int i=>obtain ⟨t,rfl⟩:=a;exact .str_int e b i t
  | str z=>obtain ⟨t,rfl⟩:=a;exact .str_str e b z t
  | _=>cases f
 | _=>cases h
theorem qkr (f:D->D->Option Bool):∀ {xs ys:List D} {b:Bool},eqL f xs ys=some b -> ∃ e:Nat->Bool,(∀ j x y,xs[j]? = some x->ys[j]? = some y->f x y=some (e j))/\b=((List.range (min xs.length ys.length)).all e&&xs.length == ys.length)
 | [],[],b,h=>by cases h;exact ⟨fun _=>true,fun j x y h=>by simp at h,rfl⟩
 | [],y::ys,b,h=>by cases h;exact ⟨fun _=>true,fun j x y h=>by simp at h,by simp⟩
 | x::xs,[],b,h=>by cases h;exact ⟨fun _=>true,fun j x y h h'=>by simp at h',by simp⟩
 | x::xs,y::ys,b,h=>by
  rw [eqL] at h;obtain ⟨b1,g,h⟩:=oB1.mp h;obtain ⟨b2,k,h⟩:=oM1.mp h;obtain ⟨e,d,l⟩:=qkr f k;refine ⟨fun j=>match j with | 0=>b1 | j+1=>e j,fun j i m c a=>?_,?_⟩
  ·cases j with
   | zero=>simp at c a;subst c;subst a;exact g
   | succ j=>exact d j i m (by simpa using c) (by simpa using a)
  ·rw [<- h,l,lC1,lC1,Nat.succ_min_succ,List.range_succ_eq_map,List.all_cons,List.all_map];have:((xs.length+1 == ys.length+1):Bool)=(xs.length == ys.length):=by simp
   rw [this,Bool.and_assoc];rfl
theorem qeQ (I:Inv X pins σ H s) (hs:Sim X.K H mu S):∀ (n:Nat) {A:Around} {d e:D} {v w:V} {u z:Value} {b:Bool},A.units+n<cLine->Rep X.K H mu d v->Rep X.K H mu e w->RelV v u->RelV w z->eqN S n d e=some b->SeqAt.EqAt A s u z b/\SeqAt.RcAt A s u z b
 | 0,_,_,_,_,_,_,_,_,_,_,_,_,_,h=>by cases h
 | n + 1,A,d,e,v,w,u,z,b,hu,P,r,R,E,h=>by
  have i:A.units<cLine:=by lia
  have h0:=h;rw [eqN] at h;cases hd:qap S d with
  | some p=>
   obtain ⟨W,xs⟩:=p;obtain ⟨a,vs,rfl,q,t⟩:=qal P hs hd;obtain ⟨k,Q,o,_⟩:=qaR I q;cases R;cases he:qap S e with
   | some p2=>
    obtain ⟨qb,ys⟩:=p2;obtain ⟨M,N,rfl,U,O⟩:=qal r hs he;obtain ⟨c,m,g,_⟩:=qaR I U;cases E;rw [hd,he] at h;dsimp only at h;have l:SeqAt.RcAt A s (.ref a) (.ref M) b->SeqAt.EqAt A s (.ref a) (.ref M) b/\SeqAt.RcAt A s (.ref a) (.ref M) b:=fun rc=>by
     refine ⟨?_,rc⟩;by_cases ha:a=M
     ·subst ha;rw [qh0 I hs (n+1) P r h0];exact .same _
     ·exact .of_refs ha rc
    split at h
    ·rename_i T;have Z:W=qb:=T;subst Z;split at h
     ·rename_i hl;cases h;obtain ⟨h1,h2⟩:=hl;subst h1;refine l (.lists_lengths o g ?_ i);have l1:=t.length;have l2:=O.length;have l3:=Q.length;have l4:=m.length
      simp only [sT1,bne_iff_ne,ne_eq];lia
     ·rename_i hl;obtain ⟨f,hf,K⟩:=qkr _ h;have elts:∀ j (h1:j<k.toArray.size) (h2:j<c.toArray.size),SeqAt.EqAt A.in1 s k.toArray[j] c.toArray[j] (f j):=fun j h1 h2=>by
       have B:j<k.length:=by simpa using h1
       have L:j<c.length:=by simpa using h2
       have k1:j<vs.length:=by rw [Q.length];exact B
       have k2:j<N.length:=by rw [m.length];exact L
       obtain ⟨x,ex,rx⟩:=t.getV (gG1 k1);obtain ⟨y,ey,ry⟩:=O.getV (gG1 k2);obtain ⟨u1,J,ru1⟩:=Q.get (gG1 k1);obtain ⟨u2,G,Y⟩:=m.get (gG1 k2);have C:k.toArray[j]=u1:=by
        rw [gG1 B] at J;simpa using J
       have e2:c.toArray[j]=u2:=by
        rw [gG1 L] at G;simpa using G
       rw [C,e2];exact (qeQ I hs n (A:=A.in1) (by show A.units+1+n<cLine;lia) rx ry ru1 Y (hf j x y ex ey)).1
      have l1:=t.length;have l2:=O.length;have l3:=Q.length;have l4:=m.length
      cases W with
      | false=>
       refine l ?_;have:=SeqAt.RcAt.tuples o g i elts;rw [K];have C:k.toArray.size=xs.length:=by simp;lia
       have e2:c.toArray.size=ys.length:=by simp;lia
       rw [C,e2] at this;exact this
      | true=>
       refine l ?_;have F:xs.length=ys.length:=by
        by_cases z:xs.length=ys.length
        ·exact z
        ·exact absurd ⟨rfl,z⟩ hl
       have:=SeqAt.RcAt.lists o g (by simp;lia) i elts;rw [K];have C:k.toArray.size=xs.length:=by simp;lia
       rw [C] at this;rw [F,Nat.min_self,beq_self_eq_true,Bool.and_true,<- F];exact this
    ·rename_i T;cases h;cases W with
     | true=>
      cases qb with
      | true=>exact absurd rfl T
      | false=>exact ⟨.list_tuple o g i,.list_tuple o g i⟩
     | false=>
      cases qb with
      | false=>exact absurd rfl T
      | true=>exact ⟨.tuple_list o g i,.tuple_list o g i⟩
   | none=>
    rw [hd,he] at h;dsimp only at h;split at h
    ·rename_i f;cases h;obtain ⟨r1,r2,r3,r4⟩:=qaM o E (qbc r f).1 i;exact ⟨r1,r3⟩
    ·cases h
  | none=>
   cases he:qap S e with
   | some p2=>
    obtain ⟨qb,ys⟩:=p2;obtain ⟨M,N,rfl,U,O⟩:=qal r hs he;obtain ⟨c,m,g,_⟩:=qaR I U;cases E;rw [hd,he] at h;dsimp only at h;split at h
    ·rename_i f;cases h;obtain ⟨r1,r2,r3,r4⟩:=qaM g R (qbc P f).1 i;exact ⟨r2,r4⟩
    ·cases h
   | none=>
    rw [hd,he] at h;dsimp only at h;obtain ⟨f1,f2⟩:=qft h;obtain ⟨g1,g2⟩:=qbc P f1;have g3:=(qbc r f2).1;rw [g2 e w r f2] at h;cases h;exact ⟨qem R E g1 g3,qnH R E g1 g3⟩
end
noncomputable def qav:Nat:=60
noncomputable def gEq:G2:=fun d e S=>(eqN S qav d e).map fun b=>(.bl b,S)
section
variable {X:Cx}
theorem o_eq (k:X.A.units+64<cLine):OpR X (compareOp .Eq) (r2 X.K (b2 gEq)):=by
 intro pins s σ H x y u w Q I g i h;obtain ⟨mu,S,d,e,r,l,j,r2,c,a,hc⟩:=rn2 h;obtain ⟨b,f,a⟩:=oM1.mp a;cases a;exact (qeQ I c qav (by show _+60<cLine;lia) j r2 g i f).2 X.prog X.w X.xe _ ⟨.bl b,H,I,rfl,hc.now (.bl b) c⟩
end
section
variable {X:Cx} {pins:List (Addr×Obj)} {σ:L2.St} {H:Hp} {s:Shared} {mu:List Addr} {S:Sto}
theorem qod {A:Around}{x y:V}{u w:Value}(d:RelV x u)(a:RelV y w)(h:qeB x=true)(f:qeB y=true):SeqAt.RcNeAt A s u w (!eqV x y):=by
 cases x with
 | non=>cases d;cases y with
  | non=>cases a;exact .none_none
  | bl k=>cases a;exact .none_bool k
  | int i=>obtain ⟨t,rfl⟩:=a;exact .none_int i t
  | str z=>obtain ⟨t,rfl⟩:=a;exact .none_str z t
  | _=>cases f
 | bl c=>cases d;cases y with
  | non=>cases a;exact .bool_none c
  | bl k=>cases a;exact .bool_bool c k
  | int i=>obtain ⟨t,rfl⟩:=a;exact .bool_int c i t
  | str z=>obtain ⟨t,rfl⟩:=a;exact .bool_str c z t
  | _=>cases f
 | int g=>obtain ⟨b,rfl⟩:=d;cases y with
  | non=>cases a;exact .int_none g b
  | bl k=>cases a;exact .int_bool g b k
  | int i=>obtain ⟨t,rfl⟩:=a;exact .int_int g b i t
  | str z=>obtain ⟨t,rfl⟩:=a;exact .int_str g b z t
  | _=>cases f
 | str e=>obtain ⟨b,rfl⟩:=d;cases y with
  | non=>cases a;exact .str_none e b
  | bl k=>cases a;exact .str_bool e b k
  | int i=>obtain ⟨t,rfl⟩:=a;exact .str_int e b i t
  | str z=>obtain ⟨t,rfl⟩:=a;exact .str_str e b z t
  | _=>cases f
 | _=>cases h
theorem qeg {A:Around}{b:Bool}{a:Addr}{e:Array Value}{v:V}{u:Value}(c:SCo b s.heap a e)(r:RelV v u)(f:qeB v=true)(d:A.units<cLine):SeqAt.RcNeAt A s (.ref a) u true/\SeqAt.RcNeAt A s u (.ref a) true:=by
 cases v with
 | non => cases r;cases b
          · exact ⟨.tuple_none c d,.none_tuple c d⟩
          · exact ⟨.list_none c d,.none_list c d⟩
 | bl k => cases r;cases b
           · exact ⟨.tuple_bool k c d,.bool_tuple k c d⟩
           · exact ⟨.list_bool k c d,.bool_list k c d⟩
 | int i => obtain ⟨t,rfl⟩:=r;cases b
            · exact ⟨.tuple_int i t c d,.int_tuple i t c d⟩
            · exact ⟨.list_int i t c d,.int_list i t c d⟩
 | str x => obtain ⟨t,rfl⟩:=r;cases b
            · exact ⟨.tuple_str x t c d,.str_tuple x t c d⟩
            · exact ⟨.list_str x t c d,.str_list x t c d⟩
 | _=>cases f
theorem qqW (I:Inv X pins σ H s) (hs:Sim X.K H mu S) (n:Nat) {A:Around} {d e:D} {v w:V} {u z:Value} {b:Bool} (hu:A.units+n<cLine) (T:Rep X.K H mu d v) (K:Rep X.K H mu e w) (Z:RelV v u) (L:RelV w z) (h:eqN S n d e=some b):SeqAt.RcNeAt A s u z (!b):=by
 cases n with
 | zero=>cases h
 | succ n=>
  have i:A.units<cLine:=by lia
  rw [eqN] at h;cases hd:qap S d with
  | some p=>
   obtain ⟨O,xs⟩:=p;obtain ⟨a,vs,rfl,q,t⟩:=qal T hs hd;obtain ⟨k,U,m,_⟩:=qaR I q;cases Z;cases he:qap S e with
   | some p2=>
    obtain ⟨qb,ys⟩:=p2;obtain ⟨a2,G,rfl,N,R⟩:=qal K hs he;obtain ⟨c,l,g,_⟩:=qaR I N;cases L;rw [hd,he] at h;dsimp only at h;have l1:=t.length;have l2:=R.length;have l3:=U.length;have l4:=l.length
    split at h
    ·rename_i M;have Q:O=qb:=M;subst Q;split at h
     ·rename_i Y;cases h;obtain ⟨h1,h2⟩:=Y;subst h1;refine .lists_lengths m g ?_ i;simp only [sT1,bne_iff_ne,ne_eq];lia
     ·rename_i Y;obtain ⟨f,hf,E⟩:=qkr _ h;have elts:∀ j (h1:j<k.toArray.size) (h2:j<c.toArray.size),SeqAt.EqAt A.in1 s k.toArray[j] c.toArray[j] (f j):=fun j h1 h2=>by
       have o:j<k.length:=by simpa using h1
       have F:j<c.length:=by simpa using h2
       have k1:j<vs.length:=by rw [U.length];exact o
       have k2:j<G.length:=by rw [l.length];exact F
       obtain ⟨x,ex,rx⟩:=t.getV (gG1 k1);obtain ⟨y,ey,ry⟩:=R.getV (gG1 k2);obtain ⟨u1,C,ru1⟩:=U.get (gG1 k1);obtain ⟨u2,B,P⟩:=l.get (gG1 k2);have r:k.toArray[j]=u1:=by
        rw [gG1 o] at C;simpa using C
       have W:c.toArray[j]=u2:=by
        rw [gG1 F] at B;simpa using B
       rw [r,W];exact (qeQ I hs n (A:=A.in1) (by show A.units+1+n<cLine;lia) rx ry ru1 P (hf j x y ex ey)).1
      cases O with
      | false=>
       have:=SeqAt.RcNeAt.tuples m g i elts;rw [E];have r:k.toArray.size=xs.length:=by simp;lia
       have W:c.toArray.size=ys.length:=by simp;lia
       rw [r,W] at this;exact this
      | true=>
       have J:xs.length=ys.length:=by
        by_cases z:xs.length=ys.length
        ·exact z
        ·exact absurd ⟨rfl,z⟩ Y
       have:=SeqAt.RcNeAt.lists m g (by simp;lia) i elts;rw [E];have r:k.toArray.size=xs.length:=by simp;lia
       rw [r] at this;rw [J,Nat.min_self,beq_self_eq_true,Bool.and_true,<- J];exact this
    ·rename_i M;cases h;cases O with
     | true=>
      cases qb with
      | true=>exact absurd rfl M
      | false=>exact .list_tuple m g i
     | false=>
      cases qb with
      | false=>exact absurd rfl M
      | true=>exact .tuple_list m g i
   | none=>
    rw [hd,he] at h;dsimp only at h;split at h
    ·rename_i f;cases h;exact (qeg m L (qbc K f).1 i).1
    ·cases h
  | none=>
   cases he:qap S e with
   | some p2=>
    obtain ⟨qb,ys⟩:=p2;obtain ⟨a2,G,rfl,N,R⟩:=qal K hs he;obtain ⟨c,l,g,_⟩:=qaR I N;cases L;rw [hd,he] at h;dsimp only at h;split at h
    ·rename_i f;cases h;exact (qeg g Z (qbc T f).1 i).2
    ·cases h
   | none=>
    rw [hd,he] at h;dsimp only at h;obtain ⟨f1,f2⟩:=qft h;obtain ⟨g1,g2⟩:=qbc T f1;have g3:=(qbc K f2).1;rw [g2 e w K f2] at h;cases h;exact qod Z L g1 g3
end
noncomputable def gNe:G2:=fun d e S=>(eqN S qav d e).map fun b=>(.bl (!b),S)
noncomputable def inL (f:D->D->Option Bool)(x:D):List D->Option Bool
 | []=>some false
 | y::ys=>(f y x).bind fun b=>(inL f x ys).map fun c=>b||c
noncomputable def gIn:G2:=fun d e S=>(qap S e).bind fun p=>(inL (eqN S qav) d p.2).map fun b=>(.bl b,S)
noncomputable def qgb:G2:=fun d e S=>(qap S e).bind fun p=>(inL (eqN S qav) d p.2).map fun b=>(.bl (!b),S)
noncomputable def isNon:D->Bool
 | .non=>true
 | _=>false
noncomputable def gIsN:G2:=fun d e S=>match e with
 | .non=>some (.bl (isNon d),S)
 | _=>none
noncomputable def qo2:G2:=fun d e S=>match e with
 | .non=>some (.bl (!isNon d),S)
 | _=>none
section
variable {X:Cx}
theorem o_ne (k:X.A.units+64<cLine):OpR X (compareOp .NotEq) (r2 X.K (b2 gNe)):=by
 intro pins s σ H x y u w Q I g i h;obtain ⟨mu,S,d,e,r,l,j,r2,c,a,hc⟩:=rn2 h;obtain ⟨b,f,a⟩:=oM1.mp a;cases a;exact qqW I c qav (by show _+60<cLine;lia) j r2 g i f X.prog X.w X.xe _ ⟨.bl (!b),H,I,rfl,hc.now (.bl _) c⟩
theorem qmU (f:D->D->Option Bool)(x:D):∀ {ys:List D} {b:Bool},inL f x ys=some b -> ∃ bs:List Bool,bs.length=ys.length/\(∀ (j:Nat) (y:D) (k:Bool),ys[j]? = some y->bs[j]? = some k->f y x=some k)/\b=bs.any id
 | [],b,h=>by cases h;exact ⟨[],rfl,fun j y k h=>by simp at h,rfl⟩
 | y::ys,b,h=>by
  rw [inL] at h;obtain ⟨b1,e,h⟩:=oB1.mp h;obtain ⟨b2,g,h⟩:=oM1.mp h;obtain ⟨bs,l,i,a⟩:=qmU f x g;refine ⟨b1::bs,by simp [l],fun j m k c d=>?_,?_⟩
  ·cases j with
   | zero=>simp at c d;subst c;subst d;exact e
   | succ j=>exact i j m k (by simpa using c) (by simpa using d)
  ·rw [<- h,a];simp
open Classical in
theorem qs8 {pins:List (Addr×Obj)}{σ:L2.St}{H:Hp}{s:Shared}{mu:List Addr}{S:Sto}(I:Inv X pins σ H s)(hs:Sim X.K H mu S){A:Around}(K:A.units+61<cLine){x:D}{v:V}{u:Value}(t:Rep X.K H mu x v)(E:RelV v u)
  {ys:List D} {vs:List V} {a:List Value} {b:Bool} (q:Reps X.K H mu ys vs) (o:Vals vs a) (h:inL (eqN S qav) x ys=some b):∃ e:Value->Bool,(∀ w∈a,SeqAt.EqAt A.in1 s w u (e w))/\a.any e=b:=by
 obtain ⟨bs,M,F,rfl⟩:=qmU _ x h;have J:=q.length;have L:=o.length;have l:∀ (j:Nat) w k,a[j]? = some w->bs[j]? = some k->SeqAt.EqAt A.in1 s w u k:=fun j w k g d=>by
  have p:j<a.length:=(gE1.mp g).1;obtain ⟨y,C,B⟩:=q.getV (i:=j) (v:=vs[j]'(by lia)) (gG1 (by lia));obtain ⟨N,r,r2⟩:=o.get (i:=j) (x:=vs[j]'(by lia)) (gG1 (by lia));rw [g] at r;cases r;exact (qeQ I hs qav (A:=A.in1) (by show A.units+1+60<cLine;lia) B t r2 E (F j y k C d)).1
 refine ⟨fun w=>decide (∃ j:Nat,a[j]? = some w/\bs[j]? = some true),fun w g=>?_,?_⟩
 ·by_cases z:∃ j:Nat,a[j]? = some w/\bs[j]? = some true
  ·dsimp only;rw [decide_eq_true z];obtain ⟨j,n,c⟩:=z;exact l j w true n c
  ·dsimp only;rw [decide_eq_false z];obtain ⟨j,f⟩:=List.getElem?_of_mem g;have p:j<a.length:=(gE1.mp f).1;have m:j<bs.length:=by lia
   have c:=gG1 m;cases d:bs[j] with
   | true=>rw [d] at c;exact absurd ⟨j,f,c⟩ z
   | false=>rw [d] at c;exact l j w false f c
 ·rw [Bool.eq_iff_iff,List.any_eq_true,List.any_eq_true];constructor
  ·rintro ⟨w,g,z⟩;obtain ⟨j,n,c⟩:=of_decide_eq_true z;exact ⟨true,gM1 c,rfl⟩
  ·rintro ⟨k,d,z⟩;obtain ⟨j,f⟩:=List.getElem?_of_mem d;have p:j<bs.length:=(gE1.mp f).1;have m:j<a.length:=by lia
   have G:k=true:=z;subst G;exact ⟨a[j],List.getElem_mem m,decide_eq_true ⟨j,gG1 m,f⟩⟩
theorem qoa (E:X.A.units+64<cLine):OpR X (compareOp .NotIn) (r2 X.K (b2 qgb)):=by
 intro pins s σ H x y u w Q I o B h;obtain ⟨mu,S,d,e,r,F,v,r2,j,g,hc⟩:=rn2 h;obtain ⟨⟨C,ys⟩,n,g⟩:=oB1.mp g;obtain ⟨b,p,g⟩:=oM1.mp g;cases g;obtain ⟨a,vs,rfl,q,t⟩:=qal r2 j n;cases B;obtain ⟨c,D,l,_⟩:=qaR I q;obtain ⟨f,m,z⟩:=qs8 I j (A:=X.A) (by lia) v o t D p;have i:EP X pins σ Q (.bool (!c.toArray.any f)) s:=⟨.bl (!b),H,I,by rw [show c.toArray.any f=c.any f by simp,z];rfl,hc.now (.bl _) j⟩;cases C
 ·exact SeqAt.notIn_tupleAt f l (fun y k=>m y (by simpa using k)) i
 ·exact SeqAt.notIn_listAt f l (fun y k=>m y (by simpa using k)) i
theorem qjS {K:Fg1}{H:Hp}{mu:List Addr}{d:D}{v:V}(r:Rep K H mu d v):isNon d=decide (v = .non):=by
 cases r<;>simp [isNon]
theorem qsU:OpR X (compareOp .Is) (r2 X.K (b2 gIsN)):=by
 intro pins s σ H x y u w Q I c f h;obtain ⟨mu,S,d,e,r,i,g,r2,b,a,hc⟩:=rn2 h;cases e with
 | non=>
  cases a;cases r2;refine qqJ pins s σ H _ _ u w Q I c f ⟨rfl,?_⟩;rw [<- qjS g];exact hc.now (.bl _) b
 | _=>cases a
theorem qqQ:OpR X (compareOp .IsNot) (r2 X.K (b2 qo2)):=by
 intro pins s σ H x y u w Q I c f h;obtain ⟨mu,S,d,e,r,i,g,r2,b,a,hc⟩:=rn2 h;cases e with
 | non=>
  cases a;cases r2;refine qn4 pins s σ H _ _ u w Q I c f ⟨rfl,?_⟩;rw [<- qjS g];exact hc.now (.bl _) b
 | _=>cases a
end
noncomputable def gLen:G1:=fun d S=>match d with
 | .str x=>if x.length<=sizeLine then some (.int x.length,S) else none
 | _=>(qap S d).map fun p=>(.int p.2.length,S)
noncomputable def gIx:G2:=fun d e S=>match e with
 | .int i=>(qap S d).bind fun p=>(atI p.2 i).map fun x=>(x,S)
 | _=>none
noncomputable def gTup:G1:=fun d S=>(qap S d).map fun p=>(.tup p.2,S)
noncomputable def gLst:G1:=fun d S=>(qap S d).map fun p=>(.ref S.length,S++[.lst p.2])
noncomputable def qdH:G3:=fun o i v S=>match o,i with
 | .ref n,.int k=>match S[n]? with
  | some (.lst xs)=>(ixN xs.length k).map fun j=>(.non,S.set n (.lst (xs.set j v)))
  | _=>none
 | _,_=>none
noncomputable def allB:List D->Option Bool
 | []=>some true
 | .bl b::r=>(allB r).map fun c=>b&&c
 | _=>none
noncomputable def gAll:G1:=fun d S=>(qap S d).bind fun p=>(allB p.2).map fun b=>(.bl b,S)
noncomputable def gInt:G1:=fun d S=>match d with
 | .int i=>some (.int i,S)
 | .bl b=>some (.int (if b then 1 else 0),S)
 | _=>none
noncomputable def gAbs:G1:=fun d S=>match d with
 | .int i=>some (.int (if i<0 then-i else i),S)
 | _=>none
noncomputable def gMax:G2:=fun d e S=>match d,e with
 | .int i,.int j=>some (.int (if j>i then j else i),S)
 | _,_=>none
noncomputable def gMin:G2:=fun d e S=>match d,e with
 | .int i,.int j=>some (.int (if j<i then j else i),S)
 | _,_=>none
section
variable {X:Cx}
theorem qaV:qbd X (.builtin "len") (rN X.K (b1 gLen)):=by
 intro pins s σ H xs f Q I r h;obtain ⟨x,mu,S,d,k,l,rfl,g,e,c,hc⟩:=rn1 h;unfold gLen at c;split at c
 ·split at c
  ·rename_i z j;cases c;cases g;exact qgn pins s σ H _ f Q I r ⟨_,rfl,j,hc.now (.int _) e⟩
  ·cases c
 ·obtain ⟨⟨b,ys⟩,i,c⟩:=oM1.mp c;cases c;obtain ⟨a,vs,rfl,q,t⟩:=qal g e i;refine qgo pins s σ H _ f Q I r ⟨a,vs,rfl,?_,?_⟩
  ·cases b
   ·exact .inr q
   ·exact .inl q
  ·rw [<- t.length];exact hc.now (.int _) e
theorem qpk {K:Fg1}{H:Hp}{mu:List Addr}{ds:List D}{vs:List V}{i:Int}{d:D}(t:Reps K H mu ds vs)(h:atI ds i=some d):∃ v,atI vs i=some v/\Rep K H mu d v:=by
 unfold atI at h ⊢;rw [<- t.length];obtain ⟨j,c,h⟩:=oB1.mp h;obtain ⟨v,a,b⟩:=t.get h;exact ⟨v,by rw [c];exact a,b⟩
theorem x_ix:IxR X (r2 X.K (b2 gIx)):=by
 intro value c pins s σ H x y v u Q I l m h g;obtain ⟨mu,S,d,e,r,B,A,r2,j,f,hc⟩:=rn2 h;cases e with
 | int i=>
  obtain ⟨⟨b,ys⟩,p,f⟩:=oB1.mp f;obtain ⟨z,w,f⟩:=oM1.mp f;cases f;cases r2;obtain ⟨a,vs,rfl,q,t⟩:=qal A j p;obtain ⟨n,k,o⟩:=qpk t w;cases b
  ·exact ix_tup value c pins s σ H _ _ v u Q I l m ⟨a,vs,i,n,rfl,rfl,q,k,hc.now o j⟩ g
  ·exact qoQ value c pins s σ H _ _ v u Q I l m ⟨a,vs,i,n,rfl,rfl,q,k,hc.now o j⟩ g
 | _=>cases f
theorem qbi:qbd X (.type "tuple") (rN X.K (b1 gTup)):=by
 intro pins s σ H xs i Q I r h;obtain ⟨x,mu,S,d,k,m,rfl,j,c,f,hc⟩:=rn1 h;obtain ⟨⟨b,ys⟩,g,f⟩:=oM1.mp f;cases f;obtain ⟨a,vs,rfl,q,t⟩:=qal j c g;refine qfx pins s σ H _ i Q I r ⟨a,vs,rfl,?_⟩;cases b
 ·exact .inr ⟨q,hc.now (.tup q t) c⟩
 ·exact .inl ⟨q,fun l e=>hc _ _ mu (Ext.fresh e) (.tup (SqT.of qas) (t.ext (Ext.fresh e))) (c.fresh e)⟩
theorem qm8:qbd X (.type "list") (rN X.K (b1 gLst)):=by
 intro pins s σ H xs i Q I r h;obtain ⟨x,mu,S,d,k,m,rfl,j,c,e,hc⟩:=rn1 h;obtain ⟨⟨b,ys⟩,g,e⟩:=oM1.mp e;cases e;obtain ⟨a,vs,rfl,q,t⟩:=qal j c g;refine qgm pins s σ H _ i Q I r ⟨a,vs,rfl,?_,fun l f=>hc _ _ (mu++[l]) (Ext.new_ f) (.ref (qcO c.len l)) (c.newL t f)⟩;cases b
 ·exact .inr q
 ·exact .inl q
theorem qsB:PSet X (rU X.K (b3 qdH)):=by
 intro pins s σ H o i v y C u Q I g m r h;obtain ⟨mu,S,ds,d,D,A,f,a,hc⟩:=h;cases A with
 | cons w p=>cases p with
  | cons l q=>cases q with
   | cons x z=>
    cases z;rename_i E G F;dsimp only [b3] at a;unfold qdH at a;split at a
    ·rename_i n k;split at a
     ·rename_i xs e;obtain ⟨j,B,a⟩:=oM1.mp a;cases a;cases w with
      | ref c=>
       cases l;obtain ⟨vs,b,t⟩:=f.lst e c;refine qk6 pins s σ H _ _ v y C u Q I g m r ⟨_,vs,k,j,rfl,rfl,b,by rw [<- t.length];exact B,?_⟩;exact hc _ mu (Ext.put b trivial (gM1 c)) (f.putL (t.set x j) c b)
     ·cases a
    ·cases a
theorem qpn {K:Fg1}{H:Hp}{mu:List Addr}:∀ {ds:List D} {vs:List V} {a:List Value} {b:Bool},Reps K H mu ds vs->Vals vs a->allB ds=some b -> ∃ bs:List Bool,a=bs.map Value.bool/\b=bs.all id:=by
 intro ds
 induction ds with
 | nil=>intro vs a b r v h;cases r;cases v;cases h;exact ⟨[],rfl,rfl⟩
 | cons d ds ih=>
  intro vs a b r v h;cases r with
  | cons j t=>
   cases v with
   | cons r g=>
    cases j
    case bl k=>
     obtain ⟨c,e,h⟩:=oM1.mp h;obtain ⟨bs,f,i⟩:=ih t g e;cases r;exact ⟨k::bs,by rw [f];rfl,by rw [<- h,i];rfl⟩
    all_goals cases h
theorem qfQ (bs:List Bool):(List.range bs.length).all (fun i=>bs.getD i true)=bs.all id:=by
 rw [Bool.eq_iff_iff,List.all_eq_true,List.all_eq_true];constructor
 ·intro h b c;obtain ⟨i,hi,rfl⟩:=List.mem_iff_getElem.mp c;have:=h i (List.mem_range.mpr hi);simpa [List.getD_eq_getElem?_getD,hi] using this
 ·intro h i hi;have a:=List.mem_range.mp hi;have:=h _ (List.getElem_mem a);simpa [List.getD_eq_getElem?_getD,a] using this
theorem qik {s:Shared}{b:Bool}{a:Addr}{bs:List Bool}(hc:X.A.handled=none)(g:SCo b s.heap a (bs.map Value.bool).toArray){Q:Value->Shared->Prop}
  (all:∀ h' tk,(∀ c o,s.heap.get? c=some o->h'.get? c=some o)->Q (.bool (bs.all id)) {s with heap:=h',toks:=tk}):wpAny (model X.prog X.w) X.A (call (.builtin "all") [.ref a]) Q X.xe s:=by
 refine call_all_walk (qc7 g ?_);have j:a<s.heap.objs.size:=by cases b<;>(obtain ⟨o,e,_⟩:=g;exact hL1 e)
 have ne:a≠s.heap.objs.size:=nN1 j;have l:TruthOf X.prog X.w X.A.in1 (fun i v=>(bs.map Value.bool).toArray[i]? = some v) (fun i=>bs.getD i true):=fun i v s' p q m h=>by
  have d:(bs.map Value.bool)[i]? = some v:=by simpa using m
  rw [gP1] at d;obtain ⟨k,n,rfl⟩:=oM1.mp d;dsimp only at h;rw [List.getD_eq_getElem?_getD,n] at h;exact wpAny_truthy_bool h
 have keep:∀ (h':Heap),(∀ c o,c∉[s.heap.objs.size]->(s.heap.push (qb4 b a)).get? c=some o->h'.get? c=some o) -> ∀ c o,s.heap.get? c=some o->h'.get? c=some o:=fun h' f c o e=>
  f c o (by simpa using nN1 (hL1 e)) (hP1 _ e)
 have hi:(s.heap.push (qb4 b a)).get? s.heap.objs.size=some (qb4 b a):=Heap.get?_push_size _ (by cases b<;>rfl);cases b with
 | true=>
  refine ⟨s.heap.objs.size,_,_,_,_,_,_,rfl,Walks.list (A:=X.A.in1) hc s.heap.objs.size a ne (bs.map Value.bool).toArray,⟨⟨_,hi,rfl,rfl⟩,SCo.to (b:=true) g fun o e=>hP1 _ e⟩,l,fun h' tk f=>?_⟩;have e:(bs.map Value.bool).toArray.size=bs.length:=by simp
  rw [e,qfQ];exact all h' tk (keep h' f)
 | false=>
  refine ⟨s.heap.objs.size,_,_,_,_,_,_,rfl,Walks.tuple (A:=X.A.in1) hc s.heap.objs.size a ne (bs.map Value.bool).toArray,⟨⟨_,hi,rfl,rfl⟩,SCo.to (b:=false) g fun o e=>hP1 _ e⟩,l,fun h' tk f=>?_⟩;have e:(bs.map Value.bool).toArray.size=bs.length:=by simp
  rw [e,qfQ];exact all h' tk (keep h' f)
theorem qr0 (hc:X.calm=true):qbd X (.builtin "all") (rN X.K (b1 gAll)):=by
 intro pins s σ H xs v Q I r h;obtain ⟨x,mu,S,d,w,y,rfl,l,f,c,e⟩:=rn1 h;obtain ⟨⟨b,ys⟩,i,c⟩:=oB1.mp c;obtain ⟨k,j,c⟩:=oM1.mp c;cases c;obtain ⟨a,vs,rfl,q,t⟩:=qal l f i;obtain ⟨u,rfl,p⟩:=qdm r;cases p;obtain ⟨n,o,g,_⟩:=qaR I q;obtain ⟨bs,rfl,rfl⟩:=qpn t o j;exact qik (I.ok.hd hc) g fun h' tk m=>⟨.bl _,H,I.kept m,rfl,e.now (.bl _) f⟩
theorem qts:qbd X (.type "int") (rN X.K (b1 gInt)):=by
 intro pins s σ H xs e Q I r h;obtain ⟨x,mu,S,d,g,j,rfl,f,c,a,hc⟩:=rn1 h;cases d with
 | int i=>cases a;cases f;exact qgp pins s σ H _ e Q I r (.inl ⟨i,rfl,hc.now (.int _) c⟩)
 | bl b=>cases a;cases f;exact qgp pins s σ H _ e Q I r (.inr ⟨b,rfl,hc.now (.int _) c⟩)
 | _=>cases a
theorem qr1:qbd X (.builtin "abs") (rN X.K (b1 gAbs)):=by
 intro pins s σ H xs c Q I r h;obtain ⟨x,mu,S,d,f,g,rfl,e,b,a,hc⟩:=rn1 h;cases d with
 | int i=>cases a;cases e;exact qmg pins s σ H _ c Q I r ⟨i,rfl,hc.now (.int _) b⟩
 | _=>cases a
theorem qtr (hc:X.calm=true):qbd X (.builtin "min") (rN X.K (b2 gMin)):=by
 intro pins s σ H xs f Q I r h;obtain ⟨x,y,mu,S,d,e,i,j,rfl,g,r2,c,a,b⟩:=rn2l h;unfold gMin at a;split at a
 ·cases a;cases g;cases r2;exact qkI hc pins s σ H _ f Q I r ⟨_,_,rfl,b.now (.int _) c⟩
 ·cases a
end
open PySem.SeqAt
open PySem.AutoSeq1 (wpAny_loadPart')
open PySem.MeetsSeq PySem.MeetsSeq2 PySem.MeetsSeq3
noncomputable def RcLt (A:Around)(s:Shared)(y x:Value)(b:Bool):Prop:=∀ (prog:Program) (w:World) (E:Value->Shared->Prop) (Q:Value->Shared->Prop),Q (.bool b) s->wpAny (model prog w) A (richCompare .Lt y x) Q E s
inductive LtS (A:Around)(s:Shared):List Value->List Value->Bool->Prop
 | nn:LtS A s [] [] false
 | nc (y:Value) (ys:List Value):LtS A s [] (y::ys) true
 | cn (x:Value) (xs:List Value):LtS A s (x::xs) [] false
 | eq {x y:Value} {xs ys:List Value} {k:Bool} (e:EqAt A.in1 s x y true) (t:LtS A s xs ys k):LtS A s (x::xs) (y::ys) k
 | lt {x y:Value} {xs ys:List Value} {k:Bool} (e:EqAt A.in1 s x y false) (t:RcLt A.in1 s x y k):LtS A s (x::xs) (y::ys) k
theorem qpD (l b:Addr)(items items2:Array Value)(n G:Nat)(F o:Option Addr)(D r:Array (Option Value))(c:Bool):
  Meets (Builtin.«tuple.__lt__» ⟨[.ref l,.ref b],[]⟩) (fun A R s=>s.heap.get? l=some {cls:=.type "tuple",dict:=F,data:=.seq items n,slots:=D}/\s.heap.get? b=some {cls:=.type "tuple",dict:=o,data:=.seq items2 G,slots:=r} /\
    LtS A s items.toList items2.toList c/\R (.ok (.ret (.bool c))) s):=
 .of_wp fun prog w A R s h=>by
  obtain ⟨v,g,d,tk,u⟩:=s;obtain ⟨E,H,C,h⟩:=h;have I:=AutoSeq1.sub_tuple_tuple
  wp_walk using wpAny_loadPart' E,wpAny_loadPart' H,wpAny_forIn_list _ (fun rest b s'=>b.1=none/\s'=⟨v,g,d,tk,u⟩ /\ ∃ vs ws:List Value,rest=vs.zip ws/\LtS A ⟨v,g,d,tk,u⟩ vs ws c/\vs.length+items2.size=ws.length+items.size) _
  case turn=>
   rintro ⟨y,x⟩ rest b s' ⟨k,rfl,vs,ws,f,p,a⟩;cases p with
   | nn=>cases f
   | nc _ _=>cases f
   | cn _ _=>cases f
   | eq e t=>
    rw [List.zip_cons_cons] at f;injection f with j i;injection j with m q;subst m q
    simp only [lC1] at a;refine wB1 (e prog w _ _ ?_)
    wp_walk
    exact ⟨rfl,rfl,_,_,i,t,by lia⟩
   | lt e t=>
    rw [List.zip_cons_cons] at f;injection f with j i;injection j with m q;subst m q
    refine wB1 (e prog w _ _ ?_);have B:=t prog w
    wp_walk using B
    exact ⟨_,rfl,by simpa using h⟩
  case fin=>
   rintro ⟨b1,b2⟩ s' ⟨k,rfl,vs,ws,f,p,a⟩;simp only at k;subst k;have z:c=decide (items.size<items2.size):=by
    cases p with
    | nn=>simp only [List.length_nil] at a;exact (decide_eq_false (by lia)).symm
    | nc _ _=>simp only [List.length_nil,lC1] at a;exact (decide_eq_true (by lia)).symm
    | cn _ _=>simp only [List.length_nil,lC1] at a;exact (decide_eq_false (by lia)).symm
    | eq _ _=>rw [List.zip_cons_cons] at f;cases f
    | lt _ _=>rw [List.zip_cons_cons] at f;cases f
   rw [z] at h
   wp_walk
   exact ⟨_,rfl,by simpa [Builtin.Tuple.tupleCompareSizes] using h⟩
  case h=>exact ⟨rfl,rfl,items.toList,items2.toList,rfl,C,by simp;lia⟩
theorem qlV (l b:Addr)(items items2:Array Value)(n K:Nat)(J v:Option Addr)(H z:Array (Option Value))(c:Bool)(k:Nat):
  ∀ i:Nat,items.size-i=k->i<=items.size->i<=items2.size->Meets (Builtin.«list.__eq__.loop» ⟨[.ref l,.ref b,rawInt i,rawInt 0],[]⟩)
   (fun A R s=>s.heap.get? l=some {cls:=.type "list",dict:=J,data:=.seq items n,slots:=H}/\s.heap.get? b=some {cls:=.type "list",dict:=v,data:=.seq items2 K,slots:=z} /\
    LtS A s (items.toList.drop i) (items2.toList.drop i) c/\R (.ok (.ret (.bool c))) s):=by
 induction k with
 | zero=>
  intro i F r u prog w A R s h;obtain ⟨E,g,d,tk,C⟩:=s;obtain ⟨f,j,a,h⟩:=h
  wp_walk using wpAny_loadPart' f,wpAny_loadPart' j
  have o:items[((i:Nat):Int).toNat]? = none:=by simp;lia
  have x:items.toList.drop i=[]:=by simp;lia
  rw [x] at a;rw [o]
  wp_walk using wpAny_loadPart' f,wpAny_loadPart' j
  have D:c=decide (items.size<items2.size):=by
   cases h2:items2.toList.drop i with
   | nil=>
    rw [h2] at a;cases a;have:=congrArg List.length h2;simp at this;exact (decide_eq_false (by lia)).symm
   | cons y ys=>
    rw [h2] at a;cases a;have:=congrArg List.length h2;simp at this;exact (decide_eq_true (by lia)).symm
  show R (.ok (.ret (.bool (decide (items.size<items2.size))))) _;rw [<- D];exact h
 | succ k ih=>
  intro i F r u prog w A R s h;obtain ⟨E,g,d,tk,C⟩:=s;obtain ⟨f,j,a,h⟩:=h;have p:i<items.size:=by lia
  have x:items.toList.drop i=items[i]::items.toList.drop (i+1):=by simp [List.drop_eq_getElem_cons,p]
  have o:items[((i:Nat):Int).toNat]? = some items[i]:=by simp [p]
  have hc:((i:Int)+1)=((i+1:Nat):Int):=by push_cast;rfl
  rw [x] at a;rcases Nat.lt_or_ge i items2.size with m | I
  ·have B:items2.toList.drop i=items2[i]::items2.toList.drop (i+1):=by simp [List.drop_eq_getElem_cons,m]
   have q:items2[((i:Nat):Int).toNat]? = some items2[i]:=by simp [m]
   rw [B] at a
   wp_walk using wpAny_loadPart' f,wpAny_loadPart' j
   rw [o,q];cases a with
   | eq e t=>
    refine wB1 (e prog w _ _ ?_)
    wp_walk
    rw [hc];exact ⟨plainId_quiet plain_eq_loop _,wD1 entry_eq_loop (by rw [Around.under_plainId plain_eq_loop _];exact ih (i+1) (by lia) (by lia) (by lia) prog w A R _ ⟨f,j,t,h⟩)⟩
   | lt e t=>
    refine wB1 (e prog w _ _ ?_);have G:=t prog w
    wp_walk using wpAny_loadPart' f,wpAny_loadPart' j
    rw [o,q]
    wp_walk using G
    simpa using h
  ·have q:items2[((i:Nat):Int).toNat]? = none:=by simp;lia
   have B:items2.toList.drop i=[]:=by simp;lia
   rw [B] at a;cases a
   wp_walk using wpAny_loadPart' f,wpAny_loadPart' j
   rw [o,q]
   wp_walk using wpAny_loadPart' f,wpAny_loadPart' j
   show R (.ok (.ret (.bool (decide (items.size<items2.size))))) _;rw [decide_eq_false (by lia)];exact h
theorem qrq (l b:Addr)(items items2:Array Value)(n k:Nat)(j e:Option Addr)(f a:Array (Option Value))(c:Bool):
  Meets (Builtin.«list.__lt__» ⟨[.ref l,.ref b],[]⟩) (fun A R s=>s.heap.get? l=some {cls:=.type "list",dict:=j,data:=.seq items n,slots:=f}/\s.heap.get? b=some {cls:=.type "list",dict:=e,data:=.seq items2 k,slots:=a} /\
    LtS A s items.toList items2.toList c/\R (.ok (.ret (.bool c))) s):=by
 intro prog w A R s h;obtain ⟨r,g,d,tk,p⟩:=s;obtain ⟨i,m,o,h⟩:=h;have q:=AutoSeq1.sub_list_list
 wp_walk using wpAny_loadPart' i,wpAny_loadPart' m
 exact ⟨plainId_quiet plain_eq_loop _,wD1 entry_eq_loop (by rw [Around.under_plainId plain_eq_loop _];exact qlV l b items items2 n k j e f a c _ 0 rfl (Nat.zero_le _) (Nat.zero_le _) prog w A R _ ⟨i,m,by simpa using o,h⟩)⟩
theorem qpV {A:Around}{s:Shared}{k:Bool}{l b:Addr}{xs ys:Array Value}{c:Bool}(z:SCo k s.heap l xs)(y:SCo k s.heap b ys)(v:A.units<cLine)(h:LtS A s xs.toList ys.toList c):RcLt A s (.ref l) (.ref b) c:=fun prog w E Q q=>by
 cases k
 ·obtain ⟨⟨r,t,m,p⟩,o,hc,n,hd⟩:=id z;obtain ⟨⟨j,g,i,f⟩,a,d,u,e⟩:=id y;simp only at hc hd d e;subst hc hd d e;exact richCompare_meets_room (op:=.Lt) ⟨_,o,rfl⟩ ⟨_,a,rfl⟩ PySem.F.slot_tuple_lt PySem.F.entry_tuple_lt (PySem.F.args_tuple_lt_2 _ _) (qpD l b xs ys n u t g p f c) ⟨o,a,h,show Value.bool c≠Value.notImplemented/\Q (.bool c) s from ⟨(fun x=>nomatch x),q⟩⟩ v
 ·obtain ⟨⟨r,t,m,p⟩,o,hc,n,hd⟩:=id z;obtain ⟨⟨j,g,i,f⟩,a,d,u,e⟩:=id y;simp only at hc hd d e;subst hc hd d e;exact richCompare_meets_room (op:=.Lt) ⟨_,o,rfl⟩ ⟨_,a,rfl⟩ PySem.F.slot_list_lt PySem.F.entry_list_lt (PySem.F.args_list_lt_2 _ _) (qrq l b xs ys n u t g p f c) ⟨o,a,h,show Value.bool c≠Value.notImplemented/\Q (.bool c) s from ⟨(fun x=>nomatch x),q⟩⟩ v
noncomputable def ltL (f g:D->D->Option Bool):List D->List D->Option Bool
 | [],[]=>some false
 | [],_::_=>some true
 | _::_,[]=>some false
 | x::xs,y::ys=>(f x y).bind fun b=>if b=true then ltL f g xs ys else g x y
noncomputable def ltF:D->D->Option Bool
 | .int i,.int j=>some (decide (i<j))
 | .str x,.str y=>some (decide (x.cps.toList<y.cps.toList))
 | _,_=>none
noncomputable def ltN (S:Sto):Nat->D->D->Option Bool
 | 0,_,_=>none
 | n+1,d,e=>match ltF d e with
  | some b=>some b
  | none=>match qap S d,qap S e with
   | some p,some q=>if p.1=q.1 then ltL (eqN S n) (ltN S n) p.2 q.2 else none
   | _,_=>none
noncomputable def gLt:G2:=fun d e S=>(ltN S qav d e).map fun b=>(.bl b,S)
section
variable {X:Cx} {pins:List (Addr×Obj)} {σ:L2.St} {H:Hp} {s:Shared} {mu:List Addr} {S:Sto}
theorem qrp (I:Inv X pins σ H s)(hs:Sim X.K H mu S){n:Nat}{A:Around}(l:A.units+1+n<cLine)(ih:∀ {d e:D} {v w:V} {u z:Value} {b:Bool},Rep X.K H mu d v->Rep X.K H mu e w->RelV v u->RelV w z->ltN S n d e=some b->RcLt A.in1 s u z b):
  ∀ {xs ys:List D} {vs ws:List V} {f zs:List Value} {b:Bool},Reps X.K H mu xs vs->Reps X.K H mu ys ws->Vals vs f->Vals ws zs->ltL (eqN S n) (ltN S n) xs ys=some b->LtS A s f zs b
 :=by
 intro xs
 induction xs with
 | nil=>
  intro ys vs ws f zs b a r2 g c h;cases a;cases g;cases r2 with
  | nil=>cases c;cases h;exact .nn
  | cons _ _=>cases c;cases h;exact .nc _ _
 | cons x xs q=>
  intro ys vs ws f zs b a r2 g c h;cases a with
  | cons a m=>
   cases g with
   | cons j p=>
    cases r2 with
    | nil=>cases c;cases h;exact .cn _ _
    | cons r2 r=>
     cases c with
     | cons i p2=>
      rw [ltL] at h;obtain ⟨k,o,h⟩:=oB1.mp h;have eq:=(qeQ I hs n (A:=A.in1) l a r2 j i o).1;cases k with
      | true=>exact .eq eq (q m r p p2 h)
      | false=>exact .lt eq (ih a r2 j i h)
theorem qmL (I:Inv X pins σ H s)(hs:Sim X.K H mu S):∀ (n:Nat) {A:Around} {d e:D} {v w:V} {u z:Value} {b:Bool},A.units+n<cLine->Rep X.K H mu d v->Rep X.K H mu e w->RelV v u->RelV w z->ltN S n d e=some b->RcLt A s u z b
 | 0,_,_,_,_,_,_,_,_,_,_,_,_,_,h=>by cases h
 | n + 1,A,d,e,v,w,u,z,b,U,j,r,m,f,h=>by
  rw [ltN] at h;split at h
  ·rename_i k c;cases h;unfold ltF at c;split at c
   ·cases c;cases j;cases r;obtain ⟨t,rfl⟩:=m;obtain ⟨l,rfl⟩:=f;exact fun prog w E Q q=>(PyProof.Rows.lt_int q:wpAny (model prog w) A (compareOp .Lt (.int _ t) (.int _ l)) Q E s)
   ·cases c;cases j;cases r;obtain ⟨t,rfl⟩:=m;obtain ⟨l,rfl⟩:=f;exact fun prog w E Q q=>(PyProof.Rows.lt_str q:wpAny (model prog w) A (compareOp .Lt (.str _ t) (.str _ l)) Q E s)
   ·cases c
  ·split at h
   ·rename_i p q hd y;split at h
    ·rename_i R;obtain ⟨C,xs⟩:=p;obtain ⟨qb,ys⟩:=q;have i:C=qb:=R;subst i;obtain ⟨a,vs,rfl,M,J⟩:=qal j hs hd;obtain ⟨W,T,rfl,B,K⟩:=qal r hs y;cases m;cases f;obtain ⟨F,L,G,_⟩:=qaR I M;obtain ⟨x,o,g,_⟩:=qaR I B;refine qpV G g (by lia) ?_;have:=qrp I hs (A:=A) (n:=n) (by lia) (fun N r2 P O h=>qmL I hs n (A:=A.in1) (by show A.units+1+n<cLine;lia) N r2 P O h) J K L o h;simpa using this
    ·cases h
   ·cases h
theorem qgU (k:X.A.units+64<cLine):OpR X (compareOp .Lt) (r2 X.K (b2 gLt)):=by
 intro pins s σ H x y u w Q I g i h;obtain ⟨mu,S,d,e,r,l,j,r2,c,a,hc⟩:=rn2 h;obtain ⟨b,f,a⟩:=oM1.mp a;cases a;exact qmL I c qav (by show _+60<cLine;lia) j r2 g i f X.prog X.w X.xe _ ⟨.bl b,H,I,rfl,hc.now (.bl b) c⟩
end
inductive Ty where
 | int | bool | str | tuple | list | dict
 deriving DecidableEq
noncomputable def Ty.nm:Ty->String
 | .int=>"int" | .bool=>"bool" | .str=>"str" | .tuple=>"tuple" | .list=>"list" | .dict=>"dict"
noncomputable def isTy (S:Sto)(T:Ty):D->Option Bool
 | .non=>some false
 | .bl _=>some (decide (T = .bool)||decide (T = .int))
 | .int _=>some (decide (T = .int))
 | .str _=>some (decide (T = .str))
 | .tup _=>some (decide (T = .tuple))
 | .rol _=>some (decide (T = .list))
 | .ref n=>match S[n]? with
  | some (.lst _)=>some (decide (T = .list))
  | some (.dct _)=>some (decide (T = .dict))
  | some (.dcT _)=>some (decide (T = .dict))
  | _=>none
 | .fn _=>none
noncomputable def mIsT (T:Ty)(m:FE):FE:=fun r S=>(m r S).bind fun p=>(isTy p.2 T p.1).map fun b=>(.bl b,p.2)
section
variable {X:Cx} {pins:List (Addr×Obj)} {σ:L2.St} {H:Hp} {s:Shared} {mu:List Addr} {S:Sto} {K:Fg1}
theorem qoN (T:Ty):PySem.W.kitOne K (.type "NoneType") (.type T.nm)=some false:=by cases T<;>rfl
theorem qrw (T:Ty):PySem.W.kitOne K (.type "bool") (.type T.nm)=some (decide (T = .bool)||decide (T = .int)):=by cases T<;>rfl
theorem qoP (T:Ty):PySem.W.kitOne K (.type "int") (.type T.nm)=some (decide (T = .int)):=by cases T<;>rfl
theorem qoM (T:Ty):PySem.W.kitOne K (.type "str") (.type T.nm)=some (decide (T = .str)):=by cases T<;>rfl
theorem qoL (T:Ty):PySem.W.kitOne K (.type "tuple") (.type T.nm)=some (decide (T = .tuple)):=by cases T<;>rfl
theorem qoO (T:Ty):PySem.W.kitOne K (.type "list") (.type T.nm)=some (decide (T = .list)):=by cases T<;>rfl
theorem qj8 (T:Ty):PySem.W.kitOne K (.type "dict") (.type T.nm)=some (decide (T = .dict)):=by cases T<;>rfl
theorem qoS {T:Ty}{d:D}{v:V}{u:Value}{b:Bool}{Q:Value->Shared->Prop}{E:Value->Shared->Prop}(I:Inv X pins σ H s)(hs:Sim X.K H mu S)(r:Rep X.K H mu d v)(f:RelV v u)(h:isTy S T d=some b)(q:∀ tk,Q (.bool b) {s with toks:=tk}):
  wpAny (model X.prog X.w) X.A (call (.builtin "isinstance") [u,.type T.nm]) Q E s:=by
 have g:∀ {k:Bool} {a:Addr} {vs:List V},SqB X.K k H a vs->b=(match k with | true=>decide (T = .list) | false=>decide (T = .tuple))->wpAny (model X.prog X.w) X.A (call (.builtin "isinstance") [.ref a,.type T.nm]) Q E s:=fun {k a vs} j w=>by
  obtain ⟨B,C,p,_⟩:=qaR I j;cases k
  ·obtain ⟨o,e,c,_⟩:=p;subst w;exact PySem.W.kia_one PySem.W.kitx_tuple I.kIn ⟨o,e,c⟩ (qoL T) (fun z=>nomatch z) q
  ·obtain ⟨o,e,c,_⟩:=p;subst w;exact PySem.W.kia_one PySem.W.kitx_list I.kIn ⟨o,e,c⟩ (qoO T) (fun z=>nomatch z) q
 cases d with
 | non=>cases h;cases r;exact qcy I f .non (qoN T) q
 | bl k=>cases h;cases r;exact qcy I f (.bl k) (qrw T) q
 | int i=>cases h;cases r;exact qcy I f (.int i) (qoP T) q
 | str x=>cases h;cases r;exact qcy I f (.str x) (qoM T) q
 | tup xs=>
  cases h;obtain ⟨a,vs,rfl,j,t⟩:=qal (S:=S) r hs rfl;cases f;exact g j rfl
 | fn x=>cases h
 | rol xs=>
  cases h;obtain ⟨a,vs,rfl,j,t⟩:=qal (S:=S) r hs rfl;cases f;exact g j rfl
 | ref n=>
  rw [isTy] at h;split at h
  ·rename_i xs e;cases h;obtain ⟨a,vs,rfl,j,t⟩:=qal (S:=S) r hs (by rw [qap,e]);cases f;exact g j rfl
  ·rename_i ks e;cases h;cases r with
   | ref m=>
    obtain ⟨ws,l,_⟩:=hs.dct e m;exact qcy I f (.dK l) (qj8 T) q
  ·rename_i ks e;cases h;cases r with
   | @ref _ a m=>
    cases (show u=Value.ref a from f);obtain ⟨ws,l,_⟩:=hs.dcT e m;obtain ⟨⟨_,_,o,_,_,A,y,_⟩,_⟩:=(show qaL X.prog X.w H s.heap a (.ext (qdk a ws)) from I.hok a _ l);exact PySem.W.kia_one PySem.W.kitx_dict I.kIn ⟨o,A,y.1⟩ (qj8 T) (fun z=>nomatch z) q
  ·cases h
theorem qmh (T:Ty):qbd X (.builtin "isinstance") (fun xs H Q=>∃ x mu S d b,xs=[x,.ty T.nm]/\Rep X.K H mu d x/\Sim X.K H mu S/\isTy S T d=some b/\Q (.bl b) H):=by
 intro pins s σ H xs i Q I r h;obtain ⟨x,mu,S,d,b,rfl,e,a,c,hc⟩:=h;obtain ⟨u,g,rfl,f,rt⟩:=qpx r;cases rt;exact qoS I a e f c fun tk=>⟨.bl b,H,I.tok tk,rfl,hc⟩
theorem qjW (T:Ty){e:Expr}{m:FE}{nm:Str}{p p2 pos:Pos}(hg:Gl X "isinstance")(hm:X.mg "isinstance"=none)(hg2:Gl X nm)(hm2:X.mg nm=none)(hv2:bootBuiltins nm=some (.type T.nm))(h:ME X e m)
  (hn:nm≠"__name__":=by decide) (hd:(nm == ("__debug__":Str))=false:=by decide)
  (hs1:starEach [e,.Name nm p2] X.env=(false,eval e X.env)::starEach [.Name nm p2] X.env:=by rfl) (hs2:starEach [.Name nm p2] X.env=(false,eval (.Name nm p2) X.env)::starEach [] X.env:=by rfl)
  (hpl:(backTo pos (starEach [.Name nm p2] X.env)).any (·.1)=false:=by rfl):ME X (.Call (.Name "isinstance" p) [e,.Name nm p2] [] pos) (mIsT T m):=
 qaS (qhC (qmh T) hg hm (by decide+kernel) (qfd h (qfd (qn3 (v:=.ty T.nm) hg2 hm2 hv2 rfl hn hd) qjJ hs2) hs1) (by decide) (by decide) hs1 hpl) <| by
  rintro σ H Q ⟨r,mu,S,d,n,f,g,hm,hc⟩;obtain ⟨⟨a,o⟩,i,hm⟩:=oB1.mp hm;obtain ⟨b,k,hm⟩:=oM1.mp hm;cases hm;refine ⟨r,mu,S,a,_,f,g,i,fun v H1 mu1 j l c=>?_⟩;exact ⟨v,mu1,_,a,b,rfl,l,c,k,hc _ H1 mu1 j (.bl b) c⟩
end
noncomputable abbrev FO:=Ev->Sto->Option (Option Int×Sto)
noncomputable def tMO (K:Fg1)(m:FO):TO:=fun σ H Q=>∃ r mu S o S',EnvR K H mu r σ/\Sim K H mu S/\m r S=some (o,S') /\ ∀ H' mu',Ext mu mu' H H'->Sim K H' mu' S'->Q o H'
noncomputable abbrev MO (X:Cx)(e:Option Expr)(m:FO):Prop:=PO X e (tMO X.K m)
noncomputable def qix:FO:=fun _ S=>some (none,S)
noncomputable def qiw (m:FE):FO:=fun r S=>(m r S).bind fun p=>match p.1 with
 | .int i=>some (some i,p.2)
 | _=>none
noncomputable def cutD (xs:List D)(lo hi:Option Int):List D:=(xs.drop (HT.sIx xs.length 0 lo)).take (HT.sIx xs.length xs.length hi-HT.sIx xs.length 0 lo)
section
variable {X:Cx}
theorem qol:MO X none qix:=by
 rintro pins s σ H Q I ⟨r,mu,S,o,d,c,a,b,hc⟩;cases b;exact qnT pins s σ H Q I (hc H mu (.refl _ _) a)
theorem qok {e:Expr}{m:FE}(h:ME X e m):MO X (some e) (qiw m):=by
 rintro pins s σ H Q I ⟨r,mu,S,o,l,b,c,a,hc⟩;obtain ⟨⟨d,n⟩,f,a⟩:=oB1.mp a;cases d with
 | int i=>
  cases a;refine qnS h pins s σ H Q I ⟨r,mu,S,_,_,b,c,f,fun v H1 mu1 g j k=>?_⟩;cases j;exact ⟨i,rfl,hc H1 mu1 g k⟩
 | _=>cases a
theorem qkz {K:Fg1}{H:Hp}{mu:List Addr}{ds:List D}{vs:List V}(t:Reps K H mu ds vs)(lo hi:Option Int):Reps K H mu (cutD ds lo hi) (cutV vs lo hi):=by
 unfold cutD cutV;rw [<- t.length];exact (t.drop _).take _
noncomputable def qsq (ta:TA):TE:=fun σ H Q=>ta σ H fun vs H1=>∃ j:Int,vs=[.int j] /\ ∀ p,H1 p=none->Q (.ref p) (upd H1 p (.rng 0 j))
theorem qjG {a:Expr}{ta:TA}{p pos:Pos}(hg:Gl X "range")(hm:X.mg "range"=none)(ha:PA X [a] ta)(hs:starEach [a] X.env=[(false,eval a X.env)]:=by rfl):PE X (.Call (.Name "range" p) [a] [] pos) (qsq ta):=by
 intro pins s σ H Q I h;refine Call_ (qdF I hg hm boot_range (PyProof.Rows.callWith_type1 (thn (ha pos pins s σ H _ I h) fun k g ⟨vs,H1,c,f,i⟩=>?_) hs rfl));obtain ⟨j,e,q⟩:=i;subst e;cases f with
 | cons r d=>
  cases d;obtain ⟨t,rfl⟩:=r;refine call_range_1 ⟨.ref g.heap.objs.size,_,c.laid (fun b o e=>hP1 _ e) (nR1 _) (o:=.rng 0 j) ?_,rfl,q _ (c.hok.fresh (nR1 _))⟩;exact ⟨_,_,_,Heap.get?_push_size _ rfl⟩
noncomputable def rngV (i:Int):Nat->List V
 | 0=>[]
 | n+1=>.int i::rngV (i+1) n
theorem qe8:∀ (n:Nat) (i:Int),(rngV i n).length=n
 | 0,_=>rfl
 | n+1,i=>by rw [rngV,lC1,qe8 n]
theorem qhw:∀ (n:Nat) (i:Int) (k:Nat) (v:V),(rngV i n)[k]? = some v->v = .int (i+k)
 | 0,i,k,v,h=>by simp [rngV] at h
 | n+1,i,0,v,h=>by simp [rngV] at h;rw [<- h];simp
 | n+1,i,k+1,v,h=>by
  rw [rngV,gC1] at h;rw [qhw n (i+1) k v h,show i+1+(k:Int)=i+((k+1:Nat):Int) by push_cast;lia]
theorem qhv {K:Fg1}{H:Hp}{mu:List Addr}:∀ (n:Nat) (i:Int),Reps K H mu (nums i n) (rngV i n)
 | 0,_=>.nil
 | n+1,i=>.cons (.int i) (qhv n (i+1))
theorem qi5:∀ {xs:List V} {a:List Value},xs.length=a.length->(∀ (i:Nat) x u,xs[i]? = some x->a[i]? = some u->RelV x u)->Vals xs a
 | [],[],_,_=>.nil
 | x::xs,u::a,h,f=>.cons (f 0 x u rfl rfl) (qi5 (by simpa using h) fun i y w h1 h2=>f (i+1) y w (by simpa using h1) (by simpa using h2))
 | [],_::_,h,_=>by simp at h
 | _::_,[],h,_=>by simp at h
theorem qpg (hc:X.calm=true):qbd X (.type "list") (fun xs H Q=>∃ p i j,xs=[.ref p]/\H p=some (.rng i j)/\(-(2^62)<=i/\i<2^62 /\ -(2^62)<=j/\j<2^62)/\(j-i).toNat<=2^20 /\ ∀ l,H l=none->Q (.ref l) (upd H l (.lst (rngV i (j-i).toNat)))):=by
 intro pins s σ H xs F Q I r h;obtain ⟨p,i,j,rfl,A,⟨h1,h2,w,D⟩,f,q⟩:=h;obtain ⟨u,rfl,y⟩:=qdm r;cases y;obtain ⟨t,u,v,e⟩:=I.hok p _ A;have z:(((j-i).toNat:Nat):Int)=Builtin.Range.rangeSize i j 1:=by rw [rangeSize_one];split<;>lia
 refine call_list_range (n:=(j-i).toNat) (I.ok.hd hc) e (small_one h1 h2 w D) z.symm (Nat.le_trans f (by decide)) fun h' tk c C B o hi=>?_;obtain ⟨d,a⟩:=hi;have b:Vals (rngV i (j-i).toNat) c.toList:=qi5 (by rw [qe8];simpa using d.symm) fun k x u m g=>by
  rw [qhw _ _ _ _ m];obtain ⟨E,rfl⟩:=a k u (by simpa using g);exact ⟨E,by rw [Int.mul_one]⟩
 refine ⟨.ref s.heap.objs.size,_,I.laid (t':=tk) B (nR1 _) (show qaL X.prog X.w _ h' _ (.lst (rngV i (j-i).toNat)) from ⟨?_,c.toList,C,b,by simpa using o⟩),rfl,q _ (I.hok.fresh (nR1 _))⟩;rw [qe8];exact Nat.le_trans f (by decide)
noncomputable def qjt (i j:Int):Bool:=decide (-(2^62)<=i)&&decide (i<2^62)&&decide (-(2^62)<=j)&&decide (j<2^62)&&decide ((j-i).toNat<=2^20)
noncomputable def mLR1 (m:FA):FE:=fun r S=>(m r S).bind fun p=>match p.1 with
 | [.int j]=>if qjt 0 j=true then some (.ref p.2.length,p.2++[.lst (nums 0 j.toNat)]) else none
 | _=>none
theorem qhx {i j:Int}(h:qjt i j=true):(-(2^62)<=i/\i<2^62 /\ -(2^62)<=j/\j<2^62)/\(j-i).toNat<=2^20:=by
 unfold qjt at h;simp only [bA1,decide_eq_true_eq] at h;obtain ⟨⟨⟨⟨h1,h2⟩,a⟩,b⟩,c⟩:=h;exact ⟨⟨h1,h2,a,b⟩,c⟩
theorem qrr {K:Fg1}{mu:List Addr}{H H1:Hp}{S1:Sto}{i j:Int}{Q:VK}{mu1:List Addr}(c:Ext mu mu1 H H1)(b:Sim K H1 mu1 S1)(hc:Cont K mu H (.ref S1.length) (S1++[.lst (nums i (j-i).toNat)]) Q){p l:Addr}(hp:H1 p=none)(a:upd H1 p (.rng i j) l=none):
  Q (.ref l) (upd (upd H1 p (.rng i j)) l (.lst (rngV i (j-i).toNat))):=
 hc _ _ (mu1++[l]) ((c.trans (Ext.fresh hp)).trans (Ext.new_ a)) (.ref (qcO b.len l)) ((b.fresh hp).newL (qhv _ _) a)
theorem qjV {a:Expr}{m:FA}{e p2 b c:Pos}(hc:X.calm=true)(hg:Gl X "range")(hm:X.mg "range"=none)(hg2:Gl X "list")(hm2:X.mg "list"=none)(ha:MA X [a] m)(hs:starEach [a] X.env=[(false,eval a X.env)]:=by rfl)
  (hs2:starEach [.Call (.Name "range" e) [a] [] b] X.env=[(false,eval (.Call (.Name "range" e) [a] [] b) X.env)]:=by rfl):ME X (.Call (.Name "list" p2) [.Call (.Name "range" e) [a] [] b] [] c) (mLR1 m):=
 qaS (qfT (qpg hc) hg2 hm2 (by decide+kernel) (qfd (qjG hg hm ha hs) qjJ hs2) (by decide) (by decide) hs2) <| by
  rintro σ H Q ⟨r,mu,S,d,u,h,hs,hm,f⟩;obtain ⟨⟨ds,w⟩,i,hm⟩:=oB1.mp hm;dsimp only at hm;split at hm
  ·rename_i j;split at hm
   ·rename_i g;cases hm;refine ⟨r,mu,S,_,_,h,hs,i,fun vs H1 mu1 k n t=>?_⟩;obtain ⟨v,rfl,s⟩:=qe9 n;cases s;refine ⟨j,rfl,fun p o=>⟨p,0,j,rfl,qas,(qhx g).1,(qhx g).2,fun l q=>qrr k t (by rw [Int.sub_zero];exact f) o q⟩⟩
   ·cases hm
  ·cases hm
end
noncomputable def gApp:G2:=fun o v S=>match o with
 | .ref n=>match S[n]? with
  | some (.lst xs)=>if xs.length<sizeLine then some (.non,S.set n (.lst (xs++[v]))) else none
  | _=>none
 | _=>none
noncomputable def gPop:G2:=fun o i S=>match o,i with
 | .ref n,.int k=>match S[n]? with
  | some (.lst xs)=>if-(2^63)<=k/\k<2^63 then (ixN xs.length k).bind fun j=>(xs[j]?).map fun y=>(y,S.set n (.lst (xs.eraseIdx j))) else none
  | _=>none
 | _,_=>none
noncomputable def mMt (f:FN)(o:FE)(a:FA):FE:=fun r S=>(o r S).bind fun p=>match p.1 with
 | .ref n=>match p.2[n]? with
  | some (.lst _)=>(a r p.2).bind fun q=>f (p.1::q.1) q.2
  | _=>none
 | _=>none
section
variable {X:Cx}
theorem qex:MtR X "list.append" (fun x xs H Q=>rN X.K (b2 gApp) (x::xs) H Q):=by
 intro pins s σ H x xs v l Q I j o h;obtain ⟨p,y,mu,S,d,e,q,r,g,m,r2,f,a,hc⟩:=rn2l h;cases g;cases d with
 | ref n=>
  rw [gApp] at a;split at a
  ·rename_i ys k;split at a
   ·rename_i i;cases a;cases m with
    | ref c=>
     obtain ⟨vs,b,t⟩:=f.lst k c;refine qf4 pins s σ H _ [y] v l Q I j o ⟨_,vs,y,rfl,rfl,b,by rw [<- t.length];exact i,?_⟩;exact hc _ _ mu (Ext.put b trivial (gM1 c)) .non (f.putL (t.append (.cons r2 .nil)) c b)
   ·cases a
  ·cases a
 | _=>cases a
theorem qpJ:MtR X "list.pop" (fun x xs H Q=>rN X.K (b2 gPop) (x::xs) H Q):=by
 intro pins s σ H x xs v q Q I o C h;obtain ⟨D,y,mu,S,d,e,E,F,l,r,r2,g,a,hc⟩:=rn2l h;cases l;unfold gPop at a;split at a
 ·rename_i n k;split at a
  ·rename_i ys p;split at a
   ·rename_i i;obtain ⟨j,B,a⟩:=oB1.mp a;obtain ⟨z,m,a⟩:=oM1.mp a;cases a;cases r with
    | ref f=>
     cases r2;obtain ⟨vs,b,t⟩:=g.lst p f;obtain ⟨w,A,c⟩:=t.get m;refine qlK pins s σ H _ [.int k] v q Q I o C ⟨_,vs,k,j,w,rfl,rfl,b,i.1,i.2,?_,A,?_⟩
     ·rw [<- t.length];exact (qg6 B).1
     ·have x:=Ext.put (u:=.lst (vs.eraseIdx j)) b trivial (gM1 f);exact hc _ _ mu x (c.ext x) (g.putL (t.eraseIdx j) f b)
   ·cases a
  ·cases a
 ·cases a
theorem qlP {o e:Expr}{es:List Expr}{m:FE}{a:FA}{f:FN}{name:Str}{apos cpos:Pos}{id:String}(slot:Slot "list" name id)(hty:typeOf (.builtin id)=pure (.type "method_descriptor"))(hm:MtR X id (fun x xs H Q=>rN X.K f (x::xs) H Q))(ho:ME X o m)(ha:MA X (e::es) a)
  (hbase:attributeBase o name X.env (eval o X.env)=eval o X.env:=by rfl)
  (hfew:((backTo cpos (starEach (e::es) X.env)).all (fun x=> !x.1)&&(backToKw cpos (keywordEach [] X.env)).all (fun x=>x.1.isSome)&&decide ((e::es).length+([]:List Keyword).length+(if ([]:List Keyword).isEmpty then 0 else 1)<30))=true:=by rfl)
  (hline:(apos.endLine == cpos.line)=true:=by rfl) (hs:starEach (e::es) X.env=(false,eval e X.env)::starEach es X.env:=by rfl) (hplain:(backTo cpos (starEach es X.env)).any (·.1)=false:=by rfl):
  ME X (.Call (.Attribute o name apos) (e::es) [] cpos) (mMt f m a):=
 qaS (qsO PySem.F.plainAttrs_list slot hty hm ho ha hbase hfew hline hs hplain) <| by
  rintro σ H Q ⟨r,mu,S,d,w,g,hs,hm,hc⟩;obtain ⟨⟨k,i⟩,u,hm⟩:=oB1.mp hm;refine ⟨r,mu,S,k,i,g,hs,u,fun v H1 mu1 h l j=>?_⟩;cases k with
  | ref n=>
   dsimp only at hm;split at hm
   ·rename_i xs z;obtain ⟨⟨ds,p⟩,A,hm⟩:=oB1.mp hm;refine ⟨?_,r,mu1,i,ds,p,g.ext h,j,A,fun vs H2 b q r2 C=>?_⟩
    ·cases l with
     | ref D=>
      obtain ⟨vs,B,t⟩:=j.lst z D;exact .inl ⟨rfl,vs,SqL.of B⟩
    ·exact ⟨b,p,.ref n::ds,d,w,.cons (l.ext q) r2,C,hm,fun E y c s=>hc E y c ((h.trans q).trans s)⟩
   ·cases hm
  | _=>cases hm
end
theorem qnP {X:Cx}(hc:X.calm=true){elt tg iter:Expr}{ifs:List Expr}{rest:List Comprehension}{scope:Scope}{pos l P:Pos}{y:Str}{i:Nat}{T:List Str}{keep:List Nat}{u:List (Str×Addr)}{wi:TI}{g:TG}{ti:TT}{tb:Addr->TS}{emit:Value->Env->Sem Unit}
  (V:swapsWith (.ListComp elt (⟨tg,iter,ifs,0⟩::rest) scope pos) (some (.Name y P)) l.line X.env=pure true)
  (eq:∀ it A k,compTurn (.ListComp elt (⟨tg,iter,ifs,0⟩::rest) scope pos) 0 it A k=qja iter.pos tg ifs it k (emit A k) (.compLoop (.ListComp elt (⟨tg,iter,ifs,0⟩::rest) scope pos) 0 it A k))
  (C:CSc X scope T keep) (F:cloF X.env.cells scope.names []=some u) (hi:PI X tg iter wi)
  (hb:∀ s H d p,PG (cxC X scope u T keep s H d) tg g/\PIfs (cxC X scope u T keep s H d) ifs ti/\PU (cxC X scope u T keep s H d) (emit (.ref p) (cxC X scope u T keep s H d).env) (tb p))
  (hN:X.N.Nodup) (hy:X.N[i]? = some y) (hx:Loc X.env.scope y) (hf:X.fn y=true\/X.env.scope.names.lookup y=some .local)
  (hs:∀ x,foldedSetIterable iter X.env x=pure x:=by intro _;rfl):
  PS X (.Assign [.Name y P] (.ListComp elt (⟨tg,iter,ifs,0⟩::rest) scope pos) l) (tAsg (qnp T.length keep wi g ti tb) (ql3 i)):=by
 intro pins s σ H D I h;rw [exec_Assign_Name_used _ _ _ _ V];refine wB1 (wpAny_standAt (wB1 ?_));show wpAny _ X.A (do let _<-comprehension (.ListComp elt (⟨tg,iter,ifs,0⟩::rest) scope pos) scope X.env _ (newList []) false (eval iter X.env) (some (assign (.Name y P) X.env))) _ _ s;refine wB1 (wpAny_mono (wpAny_comprehension_free (use:=some (assign (.Name y P) X.env)) (Q:=fun _ s'=>SP X pins D .next s') rfl hs (qm7 F) C.kind C.names ?_) (fun _ s' hq=>wP1 (wP1 hq)) fun _ _ e=>e);refine thn (hi pins s σ H _ I h) fun v s1 h1=>thn h1 fun itv a h2=>?_;obtain ⟨it,d,tn,J,H2,rfl,I2,TT,N,f2,q2⟩:=h2;refine wO1 ?_;have t:Inv X pins σ (upd H2 a.heap.objs.size (.lst [])) {a with heap:=a.heap.push {cls:=.type "list",data:=.seq ([]:List Value).toArray}}:=I2.lnew (t':=a.toks) .nil (Nat.zero_le _);have L:∀ b∈d,∃ o,a.heap.get? b=some o:=fun b hb=>by
  obtain ⟨o,e,_⟩:=TT.obj 0 a.heap N b hb;exact ⟨o,e⟩
 have W:∀ b∈d,b≠a.heap.objs.size:=fun b hb z=>by
  obtain ⟨o,e⟩:=L b hb;have:=hL1 e;rw [z] at this;exact Nat.lt_irrefl _ this
 have R:∀ b∈d,FpOk X pins (upd H2 a.heap.objs.size (.lst [])) b:=fun b hb=>⟨by rw [qaq (W b hb)];exact (f2 b hb).1,(f2 b hb).2⟩;have o3:∀ b∈d,∃ o,({a with heap:=a.heap.push {cls:=.type "list",data:=.seq ([]:List Value).toArray}}:Shared).heap.get? b=some o:=fun b hb=>by
  obtain ⟨o,e⟩:=L b hb;exact ⟨o,hP1 _ e⟩
 have O:=qhT t C F R o3;obtain ⟨hg,Y,he⟩:=hb {a with heap:=a.heap.push {cls:=.type "list",data:=.seq ([]:List Value).toArray}} (upd H2 a.heap.objs.size (.lst [])) d a.heap.objs.size;refine qdc ?_;have f4:∀ b∈d,FpOk (cxC X scope u T keep {a with heap:=a.heap.push {cls:=.type "list",data:=.seq ([]:List Value).toArray}} (upd H2 a.heap.objs.size (.lst [])) d) [] (upd H2 a.heap.objs.size (.lst [])) b:=fun b hb=>
  ⟨(R b hb).1,(O.ok.exf b hb).1,O.ok.exfs b hb,.inl hb,(O.ok.exf b hb).2,fun p E=>absurd (show p∈([]:List (Addr×Obj)) from E) (by simp)⟩
 have M:tn 0 (pushCells ((a.heap.push {cls:=.type "list",data:=.seq ([]:List Value).toArray}).push {cls:=.type "dict",data:=.dict #[]}) scope.names):=
  TT.keep 0 a.heap _ N fun b hb o e=>pushCells_keeps scope.names _ b o (hP1 _ (hP1 _ e))
 have n:=qgk (X:=cxC X scope u T keep {a with heap:=a.heap.push {cls:=.type "list",data:=.seq ([]:List Value).toArray}} (upd H2 a.heap.objs.size (.lst [])) d) rfl hc (eq (.ref it) (.ref a.heap.objs.size) _) TT hg Y he O M f4
  (q2 a.heap.objs.size (I2.hok.fresh (nR1 _)))
 refine codeAny_mono (codeAny_compStart_list n (TT.self X.A 0 _ _ _ M n)) fun r s' hr=>?_;cases r with
 | error e=>exact hr.elim
 | ok f=>
  obtain ⟨σ',H',B,q'⟩:=hr;have J1:Inv X pins σ H' s':=t.call' (s':=s') (ch:=d) B.os B.base B.hok B.bare fun b hb=>(R b hb).2.2.2 |> fun z=>⟨z.1,(R b hb).2.1,z.2.1,z.2.2⟩
  -- the block's own dict is kept aside
  obtain ⟨m,hn,_⟩:=id B.loc;obtain ⟨S,es,ep,eC,dC,rC⟩:=id hn;have hCz:(a.heap.push {cls:=.type "list",data:=.seq ([]:List Value).toArray}).get? (a.heap.push {cls:=.type "list",data:=.seq ([]:List Value).toArray}).objs.size=none:=Heap.get?_none_of_le (nR1 _);have G:(a.heap.push {cls:=.type "list",data:=.seq ([]:List Value).toArray}).objs.size≠X.env.locals:=fun z=>by
   have:=t.lt;rw [<- z] at this;exact Nat.lt_irrefl _ this
  have frC:H' (a.heap.push {cls:=.type "list",data:=.seq ([]:List Value).toArray}).objs.size=none:=B.free;have J2:Inv X (pins++[((a.heap.push {cls:=.type "list",data:=.seq ([]:List Value).toArray}).objs.size,S)]) σ H' s':=J1.pins_of fun p E=>by
   rcases List.mem_append.mp E with z | z
   ·exact J1.pin p (mA1 _ z)
   ·have z':p=((a.heap.push {cls:=.type "list",data:=.seq ([]:List Value).toArray}).objs.size,S):=by simpa using z
    subst z';exact ⟨eC,frC,G,t.nofs (nR1 _),fun v q=>by rw [dC] at q;cases q⟩
  refine thn (qjE hN hy hx hf _ s' σ H' (.ref a.heap.objs.size) (.ref a.heap.objs.size) D.nx J2 rfl q') fun _ s5 ⟨K,H5,J5,q5⟩=>?_;obtain ⟨e5,n5,_⟩:=J5.pin ((a.heap.push {cls:=.type "list",data:=.seq ([]:List Value).toArray}).objs.size,S) (mA1 _ (mA1 _ mS1));refine ⟨m,⟨S,es,ep,e5,dC,rC⟩,fun h' Z=>?_⟩;have J6:Inv X pins K H5 s5:=J5.unpinned;refine ⟨K,H5,J6.turned (t':=s5.toks) (fun b o hb e=>(Z.2 b hb).trans e) n5 G (.inr ?_) (fun x c w z=>?_) (fun p E z=>?_),q5⟩
  ·exact t.sz
  ·obtain ⟨w',zc⟩:=t.cell x c w;have j:=zc.lt;rw [z] at j;exact Nat.lt_irrefl _ j
  ·obtain ⟨U,_⟩:=t.pin p E;have j:=hL1 U;rw [z] at j;exact Nat.lt_irrefl _ j
section
variable {X:Cx}
theorem qr4 {K:Fg1}{te:TE}{m:FE}{i:Nat}(hm:∀ σ H Q,tM K m σ H Q->te σ H Q){E:Ends}{σ:L2.St}{H:Hp}(h:tMS K (mAsg m (gN i)) E σ H):tAsg te (ql3 i) E σ H:=by
 obtain ⟨r,mu,S,d,n,h1,h2,e,b⟩:=qg2 h;refine hm _ _ _ ⟨r,mu,S,d,n,h1,h2,e,fun v H' mu' g j l=>?_⟩;obtain ⟨r2,a,q,s,u,t,p,f,k,c,o⟩:=b v H' mu' g j l;cases c;exact o _ H' a (.refl _ _) (p.set k) f
theorem mv (i:Nat){x:Str}{pos:Pos}(hN:X.N[i]? = some x:=by rfl)(hv:Vis X.env.scope x:=by first | exact Or.inl rfl | exact Or.inr (Or.inl rfl) | exact Or.inr (Or.inr rfl))(hd:(x == ("__debug__":Str))=false:=by decide)(hcd:(x == ("__classdict__":Str))=false:=by decide):
  ME X (.Name x pos) (mV i):=qrb i hN hv hd hcd
end
noncomputable def Own (P:Program)(w:World)(K:Fg1)(mg:Str->Option Value)(base:Heap)(k:Nat)(x:Str)(n:Nat)(m:FN):Prop:=
 ∃ (f:Addr) (fd:FuncData) (ps:List Str),FnOk P w K mg base CX0 k f fd ps (spM K n m)/\qdR K fd ps []/\wK1 K (.ref f)=true/\mg x=some (.ref f)
theorem qrd {X:Cx}{k k' n:Nat}{x:Str}{m:FN}{p pos:Pos}{e:Expr}{es:List Expr}{a:FA}(h:Own X.prog X.w X.K X.mg X.base k x n m)(hr:Room k' X.A)(hk:k<=k')(hg:Gl X x)(ha:MA X (e::es) a)(hdb:(x == ("__debug__":Str))=false:=by decide)
  (he:starEach (e::es) X.env=(false,eval e X.env)::starEach es X.env:=by rfl) (hpl:(backTo pos (starEach es X.env)).any (·.1)=false:=by rfl):ME X (.Call (.Name x p) (e::es) [] pos) (mN (qaf n m) a):=by
 obtain ⟨f,fd,ps,F,b,c,d⟩:=h;exact qou F (hr.mono hk) hg d c b ha hdb he hpl
theorem qqD {P:Program}{w:World}{K:Fg1}{mg:Str->Option Value}{base:Heap}{x a:Str}{st:Stmt}{f:Addr}{fd:FuncData}{N ps:List Str}{k n:Nat}{b:FS}(F:Fun K x a st f fd)(hb:qdR K fd ps [])(hm:mg x=some (.ref f))(S:qam N ps (qac st))(hn:ps.length=n)
  (c:∀ (e:Value) (A:Around) (d:List Env) (s:Shared) (H:Hp) (E:XK),Room k (A.deeper (envOfC a (qac st) s.heap.objs.size f e)) ->
   MSs (cxOf CX0 P w K mg base N a (qac st) f e A d s H E).nox (qa5 st) b):Own P w K mg base (k+1) x n (fnB N.length b):=by
 subst hn;exact ⟨f,fd,ps,fn_m F S c,hb,F.kp,hm⟩
noncomputable def CGl (K:Fg1)(mg:Str->Option Value)(x:Str)(d:D):Prop:=∃ (v:V) (u:Value),mg x=some u/\RelV v u /\ ∀ H mu,Rep K H mu d v
theorem qot {X:Cx}{x:Str}{d:D}{pos:Pos}(h:CGl X.K X.mg x d)(hg:Gl X x)(hd:(x == ("__debug__":Str))=false:=by decide):ME X (.Name x pos) (mC d):=by
 obtain ⟨v,u,a,r,q⟩:=h;exact me_c d (qnZ hg a r hd) q
noncomputable def CV (K:Fg1)(d:D)(u:Value):Prop:=∃ v:V,RelV v u /\ ∀ H mu,Rep K H mu d v
section
variable {K:Fg1}
theorem qrW {mg:Str->Option Value}{x:Str}{d:D}{u:Value}(hm:mg x=some u)(h:CV K d u):CGl K mg x d:=by
 obtain ⟨v,r,q⟩:=h;exact ⟨v,u,hm,r,q⟩
end
theorem qfO {K:Fg1}{H:Hp}{mu:List Addr}:∀ ns:List Int,Reps K H mu (ns.map D.int) (ns.map V.int)
 | []=>.nil
 | n::ns=>.cons (.int n) (qfO ns)
theorem qru {K:Fg1}{m:FN}(hm:∀ ns:List Int,ns.length<=63 -> ∃ S,m [.rol (ns.map D.int)] []=some (.bl true,S))(H:Hp)(a:Addr)(ns:List Int)(b:ns.length<=63)(c:Only H)(f:SqL K H a (ns.map V.int)):
  spM K 1 m [.ref a] H (fun v _=>v = .bl true) fun _ _ _=>False:=by
 refine ⟨rfl,?_⟩;obtain ⟨S,e⟩:=hm ns b;have d:RoL K H a (ns.map V.int):=by
  rcases f with h | h
  ·rcases h with h | h
   ·rcases c a with z | ⟨o,xs,z⟩
    ·rw [h] at z;cases z
    ·rw [h] at z;cases z
   ·exact .inl h
  ·exact .inr h
 refine ⟨[],[],[.rol (ns.map D.int)],.bl true,S,.cons (.rol d (qfO ns)) .nil,.nil,e,fun v H' mu' x r s=>?_⟩;cases r;rfl
theorem walk_m {l:PySem.W.OpenLaw}{q:Program}{b:List Str}{XP:(Str->Option Value)->Heap->Prop}{e:World->Heap->Prop}{d:DefRec}{K:Params->Fg1}{m:FN}{k:Nat}{x:Str}(hn:l.most=some 63)(c:d.params.defaults=[])(hr:Room k callerA)
  (o:∀ (w:World) (h:Heap),e w h->(K w.params).In h) (hm:∀ ns:List Int,ns.length<=63 -> ∃ S,m [.rol (ns.map D.int)] []=some (.bl true,S))
  (F:∀ (w:World) (mg:Str->Option Value) (g:Addr) (h:Heap),(K w.params).In h->h.Ns mainGlobals mg->mg d.name=some (.ref g) ->
   ∃ fd:FuncData,(∀ (s:Shared) (u:Value),BindsTo s fd ⟨[u],[]⟩ [(x,u)]) /\ ∀ base:Heap,(K w.params).In base->base.Ns mainGlobals mg->FnOk l.prog w (K w.params) mg base CX0 k g fd [x] (spM (K w.params) 1 m)):
  PySem.W.WalkO q b XP e l.row.toRowW d [] (fun f vs=>PySem.call f vs):=
 L2.qnl (n:=63) (k:=k) (x:=x) (CX:=fun _=>CX0) (sp:=fun w=>spM (K w.params) 1 m) hn (by decide) c hr o F (fun _ H a ns p j i=>qru hm H a ns p j i) fun _ _ _ _ _ z=>z
structure XE (X:Cx)(e:Expr)(m:FE):Prop where
 h:ME X e m
structure XT (X:Cx)(e:Expr)(m:FT):Prop where
 h:MT X e m
structure XW (X:Cx)(e:Expr)(m:FT):Prop where
 h:MW X e m
structure XA (X:Cx)(e:List Expr)(m:FA):Prop where
 h:MA X e m
structure XS (X:Cx)(e:Stmt)(m:FS):Prop where
 h:MS X e m
structure XSs (X:Cx)(e:List Stmt)(m:FS):Prop where
 h:MSs X e m
structure XI (X:Cx)(tg e:Expr)(m:FI):Prop where
 h:MI X tg e m
structure XG (X:Cx)(e:Expr)(m:FG):Prop where
 h:MG X e m
structure XGs (X:Cx)(e:List Expr)(m:FGs):Prop where
 h:MGs X e m
structure XO (X:Cx)(e:Option Expr)(m:FO):Prop where
 h:MO X e m
structure XF (X:Cx)(K:Fg1)(ifs:List Expr)(t:FT):Prop where
 h:PIfs X ifs (tMT K t)
theorem qaE {X:Cx}:XF X X.K [] qb3:=⟨qoo⟩
theorem qkW {X:Cx}{c:Expr}{t:FT}(h:XT X c t):XF X X.K [c] t:=⟨qon h.h⟩
section
variable {X:Cx} {pos:Pos}
theorem qK {i:Int}{j}:XE X (.Constant (.int i) j pos) (mC (.int i)):=⟨qri⟩
theorem qcG {b:Bool}{j}:XE X (.Constant (.bool b) j pos) (mC (.bl b)):=⟨qs3⟩
theorem qdl {j}:XE X (.Constant .none j pos) (mC .non):=⟨qrg⟩
end
section
variable {X:Cx} {pos:Pos} {e:Expr} {es:List Expr} {m:FE} {n:FA}
theorem qN:XA X [] mNil:=⟨qrm⟩
theorem qA (h:XE X e m)(ht:XA X es n)(hs:starEach (e::es) X.env=(false,eval e X.env)::starEach es X.env:=by rfl):XA X (e::es) (qaa m n):=⟨qow (h:=h.h) (ht:=ht.h) (hs:=hs)⟩
end
section
variable {X:Cx} {K:Fg1} {f:FN} {a b:FE} {σ:L2.St} {H:Hp} {Q:VK}
theorem qI {op:Operator}{x y:Expr}{pos:Pos}(ho:OpR X (binaryOp op) (r2 X.K f))(hx:XE X x a)(hy:XE X y b):XE X (.BinOp x op y pos) (m2 f a b):=⟨qs0 (ho:=ho) (hx:=hx.h) (hy:=hy.h)⟩
theorem qml {op:UnaryOp}{x:Expr}{pos:Pos}(ho:UnR X (unaryOp op) (fun x H Q=>rN X.K f [x] H Q))(hx:XE X x a):XE X (.UnaryOp op x pos) (m1 f a):=⟨qsZ (ho:=ho) (hx:=hx.h)⟩
theorem qni {op:CmpOp}{x y:Expr}{pos:Pos}(ho:OpR X (compareOp op) (r2 X.K f))(hx:XE X x a)(hy:XE X y b)(hm:behindInMarks op y=false):XE X (.Compare x [op] [y] pos) (m2 f a b):=⟨qrj (ho:=ho) (hx:=hx.h) (hy:=hy.h) (hm:=hm)⟩
theorem qJ {x y:Expr}{pos:Pos}(ho:IxR X (r2 X.K f))(hx:XE X x a)(hy:XE X y b)(hs:qfD y):XE X (.Subscript x y pos) (m2 f a b):=⟨qs1 (ho:=ho) (hx:=hx.h) (hy:=hy.h) (hs:=hs)⟩
theorem qD {x:Str}{p pos:Pos}{e:Expr}{es:List Expr}{id:String}{a:FA}(hc:qbd X (.builtin id) (rN X.K f))(hg:Gl X x)(hm:X.mg x=none)(hv:bootBuiltins x=some (.builtin id))(ha:XA X (e::es) a)(hn:x≠"__name__":=by decide)(hdb:(x == ("__debug__":Str))=false:=by decide)(he:starEach (e::es) X.env=(false,eval e X.env)::starEach es X.env:=by rfl)(hpl:(backTo pos (starEach es X.env)).any (·.1)=false:=by rfl):XE X (.Call (.Name x p) (e::es) [] pos) (mN f a):=⟨qlR (hc:=hc) (hg:=hg) (hm:=hm) (hv:=hv) (ha:=ha.h) (hn:=hn) (hdb:=hdb) (he:=he) (hpl:=hpl)⟩
theorem qE {x:Str}{p pos:Pos}{e:Expr}{es:List Expr}{T:String}{a:FA}(hc:qbd X (.type T) (rN X.K f))(hg:Gl X x)(hm:X.mg x=none)(hv:bootBuiltins x=some (.type T))(ha:XA X (e::es) a)(hn:x≠"__name__":=by decide)(hdb:(x == ("__debug__":Str))=false:=by decide)(he:starEach (e::es) X.env=(false,eval e X.env)::starEach es X.env:=by rfl)(hpl:(backTo pos (starEach es X.env)).any (·.1)=false:=by rfl):XE X (.Call (.Name x p) (e::es) [] pos) (mN f a):=⟨qjX (hc:=hc) (hg:=hg) (hm:=hm) (hv:=hv) (ha:=ha.h) (hn:=hn) (hdb:=hdb) (he:=he) (hpl:=hpl)⟩
end
section
variable {X:Cx} {x y c:Expr} {rest:List Expr} {pos:Pos} {a b:FT} {f g:FE}
theorem qX {op:CmpOp}{f:FN}{a b:FE}(ho:OpR X (compareOp op) (r2 X.K f))(hx:XE X x a)(hy:XE X y b)(hm:behindInMarks op y=false):XT X (.Compare x [op] [y] pos) (mB (m2 f a b)):=⟨qq0 (ho:=ho) (hx:=hx.h) (hy:=hy.h) (hm:=hm)⟩
theorem qkU (ha:XT X x a):XW X (.BoolOp .And [x] pos) a:=⟨qof (ha:=ha.h)⟩
theorem qd2 (ha:XT X x a):XW X (.BoolOp .Or [x] pos) a:=⟨qqX (ha:=ha.h)⟩
theorem qng (ha:XT X x a)(hb:XW X (.BoolOp .And (y::rest) pos) b):XW X (.BoolOp .And (x::y::rest) pos) (mAnd a b):=⟨qqY (ha:=ha.h) (hb:=hb.h)⟩
theorem qfE (ha:XT X x a)(hb:XW X (.BoolOp .Or (y::rest) pos) b):XW X (.BoolOp .Or (x::y::rest) pos) (mOr a b):=⟨qsX (ha:=ha.h) (hb:=hb.h)⟩
theorem qih (h:XW X x a):XT X x a:=⟨mt_w (h:=h.h)⟩
theorem qcT (ha:XT X x a):XT X (.UnaryOp .Not x pos) (mNot a):=⟨qqZ (ha:=ha.h)⟩
theorem qgx {op}(h:XE X x f):XE X (.BoolOp op [x] pos) f:=⟨qre (h:=h.h)⟩
theorem qeW (ha:XE X x f)(hb:XE X (.BoolOp .And (y::rest) pos) g):XE X (.BoolOp .And (x::y::rest) pos) (qg3 f g):=⟨qrk (ha:=ha.h) (hb:=hb.h)⟩
theorem qi0 (ha:XE X x f):XE X (.UnaryOp .Not x pos) (qjZ f):=⟨qrf (ha:=ha.h)⟩
theorem qpu (hc:XT X c a)(hx:XE X x f)(hy:XE X y g):XE X (.IfExp c x y pos) (mIf a f g):=⟨qs2 (hc:=hc.h) (hx:=hx.h) (hy:=hy.h)⟩
end
section
variable {X:Cx} {x y z:Expr} {pos:Pos} {f g:FN} {a b c:FE} {op op':CmpOp}
theorem qiY (ho:OpR X (compareOp op) (r2 X.K f))(ho':OpR X (compareOp op') (r2 X.K g))(hx:XE X x a)(hy:XE X y b)(hz:XE X z c)(hm:lastMarks [op,op'] [y,z]=false:=by with_unfolding_all rfl):XT X (.Compare x [op,op'] [y,z] pos) (mB (mCh f g a b c)):=⟨qlL (ho:=ho) (ho':=ho') (hx:=hx.h) (hy:=hy.h) (hz:=hz.h) (hm:=hm)⟩
end
section
variable {X:Cx} {pos:Pos} {e c:Expr} {st:Stmt} {rest as bs:List Stmt} {a b:FS} {m:FE} {t:FT}
theorem qQ:XSs X [] mNx:=⟨qoi⟩
theorem qF (h1:XS X st a)(h2:XSs X rest b):XSs X (st::rest) (mSeq a b):=⟨qlM (h1:=h1.h) (h2:=h2.h)⟩
theorem qG (h1:XS X st a):XSs X [st] a:=⟨qoh (h1:=h1.h)⟩
theorem qa0 (h:XE X e m)(hs:swapsWith e none pos.line X.env=pure false:=by rfl):XS X (.Expr e pos) (qcg m):=⟨qoj (h:=h.h) (hs:=hs)⟩
theorem qU (h:XE X e m):XS X (.Return (some e) pos) (mRet m):=⟨qq2 (h:=h.h)⟩
theorem qV (hc:XT X c t)(ha:XSs X as a)(hb:XSs X bs b):XS X (.If c as bs pos) (mIfS t a b):=⟨qsY (hc:=hc.h) (ha:=ha.h) (hb:=hb.h)⟩
end
section
variable {X:Cx} {pos:Pos}
theorem qO (i:Nat){x:Str}(hN:X.N.Nodup)(hi:X.N[i]? = some x)(hx:Loc X.env.scope x)(hf:X.fn x=true\/X.env.scope.names.lookup x=some .local:=by first | exact .inl rfl | exact .inr rfl | assumption):XG X (.Name x pos) (gN i):=⟨qor (i:=i) (hN:=hN) (hi:=hi) (hx:=hx) (hf:=hf)⟩
theorem qau:XGs X [] gNl:=⟨qoq⟩
theorem qad {e:Expr}{es:List Expr}{g:FG}{a:FGs}(h1:XG X e g)(h2:XGs X es a)(hs:(assignEach (e::es) X.env).map (·.2)=assign e X.env::(assignEach es X.env).map (·.2):=by rfl):XGs X (e::es) (gCs g a):=⟨qlO (h1:=h1.h) (h2:=h2.h) (hs:=hs)⟩
theorem qaD {es:List Expr}{k:Nat}{a:FGs}{n:Nat}(hc:X.calm=true)(h:XGs X es a)(hn:(assignEach es X.env).length=n:=by rfl)(hst:(assignEach es X.env).findIdx? (·.1)=none:=by rfl):XG X (.Tuple es k pos) (gT n a):=⟨qq9 (hc:=hc) (h:=h.h) (hn:=hn) (hst:=hst)⟩
theorem qbH {o i:Expr}{a b:FE}{f:FN}(ho:XE X o a)(hi:XE X i b)(hs:PSet X (rU X.K f))(ha:∀ v,assign (.Subscript o i pos) X.env v=(do
   let ov<-holding [v] (eval o X.env)
   let iv<-holding [v,ov] (eval i X.env)
   standAt pos
   holding [v,ov,iv] (setItem ov iv v)
   release [v,ov,iv] []):=by intro _;rfl):XG X (.Subscript o i pos) (gS f a b):=⟨qra (ho:=ho.h) (hi:=hi.h) (hs:=hs) (ha:=ha)⟩
theorem qR {tg e:Expr}{m:FE}{g:FG}(he:XE X e m)(hg:XG X tg g)(hs:swapsWithSole [tg] e pos.line X.env=pure false:=by rfl)(hw:swappedStores [tg] e X.env=pure none:=by rfl)(h1:(assignEach [tg] X.env).map (·.2)=[assign tg X.env]:=by rfl):XS X (.Assign [tg] e pos) (mAsg m g):=⟨qq5 (he:=he.h) (hg:=hg.h) (hs:=hs) (hw:=hw) (h1:=h1)⟩
theorem qY (i:Nat){x:Str}{e:Expr}{m:FE}{pos':Pos}(hN:X.N.Nodup)(hi:X.N[i]? = some x)(hx:Loc X.env.scope x)(he:XE X e m)(hs:swapsWith e (some (.Name x pos')) pos.line X.env=pure false:=by rfl)(hf:X.fn x=true\/X.env.scope.names.lookup x=some .local:=by first | exact .inl rfl | exact .inr rfl | assumption):XS X (.Assign [.Name x pos'] e pos) (mAsg m (gN i)):=⟨qq1 (i:=i) (hN:=hN) (hi:=hi) (hx:=hx) (he:=he.h) (hs:=hs) (hf:=hf)⟩
theorem qnh (i:Nat){x:Str}{e:Expr}{m:FE}{op:Operator}{f:FN}{pos':Pos}(hN:X.N.Nodup)(hi:X.N[i]? = some x)(hx:Loc X.env.scope x)(he:XE X e m)(ho:PIp X op (r2 X.K f))(hf:X.fn x=true\/X.env.scope.names.lookup x=some .local:=by first | exact .inl rfl | exact .inr rfl | assumption):XS X (.AugAssign (.Name x pos') op e pos) (mAug i f m):=⟨qq4 (i:=i) (hN:=hN) (hi:=hi) (hx:=hx) (he:=he.h) (ho:=ho) (hf:=hf)⟩
end
section
theorem qci {X:Cx}{pos:Pos}(n:Nat){c:Expr}{a:List Stmt}{t:FT}{b:FS}(hp:PassesOwn (model X.prog X.w) X.A X.env X.xe)(hc:XT X c t)(hb:XSs X a b):XS X (.While c a [] pos) (whl t b n):=⟨qlN (n:=n) (hp:=hp) (hc:=hc.h) (hb:=hb.h)⟩
theorem qW {X:Cx}{pos:Pos}{tg iter:Expr}{a:List Stmt}{m:FI}{g:FG}{b:FS}(hp:PassesOwn (model X.prog X.w) X.A X.env X.xe)(hc:X.calm=true)(hi:XI X tg iter m)(hg:XG X tg g)(hb:XSs X a b)(hs:∀ x,foldedSetIterable iter X.env x=pure x:=by intro _;rfl):XS X (.For tg iter a [] pos) (mFor m g b):=⟨qq3 (hp:=hp) (hc:=hc) (hi:=hi.h) (hg:=hg.h) (hb:=hb.h) (hs:=hs)⟩
end
section
variable {X:Cx} {es:List Expr} {pos:Pos} {a:FA}
theorem qai {x1}(h:XA X es a):XE X (.Tuple es x1 pos) (mTup a):=⟨qrc (h:=h.h)⟩
theorem qaT (h:XA X es a):XE X (.List es pos) (mLst a):=⟨qrh (h:=h.h)⟩
end
section
variable {X:Cx} {tg:Expr}
theorem qd {e:Expr}{m:FE}(h:XE X e m):XI X tg e (iSeq m):=⟨qq8 (h:=h.h)⟩
theorem qar {a:Expr}{m:FA}{p pos:Pos}(hg:Gl X "range")(hm:X.mg "range"=none)(ha:XA X [a] m)(hs:starEach [a] X.env=[(false,eval a X.env)]:=by rfl):XI X tg (.Call (.Name "range" p) [a] [] pos) (iR1 m):=⟨qjU (hg:=hg) (hm:=hm) (ha:=ha.h) (hs:=hs)⟩
theorem qii {a b:Expr}{m:FA}{p pos:Pos}(hg:Gl X "range")(hm:X.mg "range"=none)(ha:XA X [a,b] m)(hs:starEach [a,b] X.env=[(false,eval a X.env),(false,eval b X.env)]:=by rfl)(hs2:starEach [b] X.env=[(false,eval b X.env)]:=by rfl):XI X tg (.Call (.Name "range" p) [a,b] [] pos) (iR2 m):=⟨qjT (hg:=hg) (hm:=hm) (ha:=ha.h) (hs:=hs) (hs2:=hs2)⟩
end
section
variable {X:Cx} {tg:Expr}
variable {elts:List Expr} {k:Nat} {tpos:Pos}
theorem qb6 {a:Expr}{m:FA}{p pos:Pos}(hg:Gl X "enumerate")(hm:X.mg "enumerate"=none)(ha:XA X [a] m)(hs:starEach [a] X.env=[(false,eval a X.env)]:=by rfl):XI X (.Tuple elts k tpos) (.Call (.Name "enumerate" p) [a] [] pos) (iEn m):=⟨qop (hg:=hg) (hm:=hm) (ha:=ha.h) (hs:=hs)⟩
theorem qiZ {a b:Expr}{m:FA}{p pos:Pos}(hg:Gl X "zip")(hm:X.mg "zip"=none)(ha:XA X [a,b] m)(hs:starEach [a,b] X.env=[(false,eval a X.env),(false,eval b X.env)]:=by rfl)(hs2:starEach [b] X.env=[(false,eval b X.env)]:=by rfl):XI X (.Tuple elts k tpos) (.Call (.Name "zip" p) [a,b] [] pos) (iZp m):=⟨qq7 (hg:=hg) (hm:=hm) (ha:=ha.h) (hs:=hs) (hs2:=hs2)⟩
end
section
variable {X:Cx} {pins:List (Addr×Obj)} {σ:L2.St} {H:Hp} {s:Shared} {mu:List Addr} {S:Sto} {K:Fg1}
theorem qa6 (T:Ty){e:Expr}{m:FE}{nm:Str}{p p2 pos:Pos}(hg:Gl X "isinstance")(hm:X.mg "isinstance"=none)(hg2:Gl X nm)(hm2:X.mg nm=none)(hv2:bootBuiltins nm=some (.type T.nm))(h:XE X e m)(hn:nm≠"__name__":=by decide)(hd:(nm == ("__debug__":Str))=false:=by decide)(hs1:starEach [e,.Name nm p2] X.env=(false,eval e X.env)::starEach [.Name nm p2] X.env:=by rfl)(hs2:starEach [.Name nm p2] X.env=(false,eval (.Name nm p2) X.env)::starEach [] X.env:=by rfl)(hpl:(backTo pos (starEach [.Name nm p2] X.env)).any (·.1)=false:=by rfl):XE X (.Call (.Name "isinstance" p) [e,.Name nm p2] [] pos) (mIsT T m):=⟨qjW (T:=T) (hg:=hg) (hm:=hm) (hg2:=hg2) (hm2:=hm2) (hv2:=hv2) (h:=h.h) (hn:=hn) (hd:=hd) (hs1:=hs1) (hs2:=hs2) (hpl:=hpl)⟩
end
section
variable {X:Cx}
theorem qhm:XO X none qix:=⟨qol⟩
theorem qhl {e:Expr}{m:FE}(h:XE X e m):XO X (some e) (qiw m):=⟨qok (h:=h.h)⟩
theorem qij {a:Expr}{m:FA}{d p2 b c:Pos}(hc:X.calm=true)(hg:Gl X "range")(hm:X.mg "range"=none)(hg2:Gl X "list")(hm2:X.mg "list"=none)(ha:XA X [a] m)(hs:starEach [a] X.env=[(false,eval a X.env)]:=by rfl)(hs2:starEach [.Call (.Name "range" d) [a] [] b] X.env=[(false,eval (.Call (.Name "range" d) [a] [] b) X.env)]:=by rfl):XE X (.Call (.Name "list" p2) [.Call (.Name "range" d) [a] [] b] [] c) (mLR1 m):=⟨qjV (hc:=hc) (hg:=hg) (hm:=hm) (hg2:=hg2) (hm2:=hm2) (ha:=ha.h) (hs:=hs) (hs2:=hs2)⟩
theorem qe {o e:Expr}{es:List Expr}{m:FE}{a:FA}{f:FN}{name:Str}{apos cpos:Pos}{id:String}(slot:Slot "list" name id)(hty:typeOf (.builtin id)=pure (.type "method_descriptor"))(hm:MtR X id (fun x xs H Q=>rN X.K f (x::xs) H Q))(ho:XE X o m)(ha:XA X (e::es) a)(hbase:attributeBase o name X.env (eval o X.env)=eval o X.env:=by rfl)(hfew:((backTo cpos (starEach (e::es) X.env)).all (fun x=> !x.1)&&(backToKw cpos (keywordEach [] X.env)).all (fun x=>x.1.isSome)&&decide ((e::es).length+([]:List Keyword).length+(if ([]:List Keyword).isEmpty then 0 else 1)<30))=true:=by rfl)(hline:(apos.endLine == cpos.line)=true:=by rfl)(hs:starEach (e::es) X.env=(false,eval e X.env)::starEach es X.env:=by rfl)(hplain:(backTo cpos (starEach es X.env)).any (·.1)=false:=by rfl):XE X (.Call (.Attribute o name apos) (e::es) [] cpos) (mMt f m a):=⟨qlP (slot:=slot) (hty:=hty) (hm:=hm) (ho:=ho.h) (ha:=ha.h) (hbase:=hbase) (hfew:=hfew) (hline:=hline) (hs:=hs) (hplain:=hplain)⟩
theorem xmv (i:Nat){x:Str}{pos:Pos}(hN:X.N[i]? = some x:=by rfl)(hv:Vis X.env.scope x:=by first | exact Or.inl rfl | exact Or.inr (Or.inl rfl) | exact Or.inr (Or.inr rfl))(hd:(x == ("__debug__":Str))=false:=by decide)(hcd:(x == ("__classdict__":Str))=false:=by decide):XE X (.Name x pos) (mV i):=⟨mv (i:=i) (hN:=hN) (hv:=hv) (hd:=hd) (hcd:=hcd)⟩
end
section
theorem qH {X:Cx}{k k' n:Nat}{x:Str}{m:FN}{p pos:Pos}{e:Expr}{es:List Expr}{a:FA}(h:Own X.prog X.w X.K X.mg X.base k x n m)(hr:Room k' X.A)(hk:k<=k')(hg:Gl X x)(ha:XA X (e::es) a)(hdb:(x == ("__debug__":Str))=false:=by decide)(he:starEach (e::es) X.env=(false,eval e X.env)::starEach es X.env:=by rfl)(hpl:(backTo pos (starEach es X.env)).any (·.1)=false:=by rfl):XE X (.Call (.Name x p) (e::es) [] pos) (mN (qaf n m) a):=⟨qrd (h:=h) (hr:=hr) (hk:=hk) (hg:=hg) (ha:=ha.h) (hdb:=hdb) (he:=he) (hpl:=hpl)⟩
theorem qkZ {X:Cx}{x:Str}{d:D}{pos:Pos}(h:CGl X.K X.mg x d)(hg:Gl X x)(hd:(x == ("__debug__":Str))=false:=by decide):XE X (.Name x pos) (mC d):=⟨qot (h:=h) (hg:=hg) (hd:=hd)⟩
end
section
variable {X:Cx}
structure XB1 (X:Cx)(K:Fg1)(tg:Expr)(ifs:List Expr)(elt:Expr)(g:FG)(t:FT)(e:FE):Prop where
 g:XG X tg g
 t:XF X K ifs t
 e:XE X elt e
end
theorem qiX {P:Program}{w:World}{K:Fg1}{mg:Str->Option Value}{base:Heap}{x c:Str}{st:Stmt}{f:Addr}{fd:FuncData}{N ps:List Str}{k n:Nat}{b:FS}(F:Fun K x c st f fd)(hb:qdR K fd ps [])(hm:mg x=some (.ref f))(S:qam N ps (qac st))(hn:ps.length=n)
  (e:∀ (d:Value) (A:Around) (a:List Env) (s:Shared) (H:Hp) (E:XK),Room k (A.deeper (envOfC c (qac st) s.heap.objs.size f d)) ->
   XSs (cxOf CX0 P w K mg base N c (qac st) f d A a s H E).nox (qa5 st) b):Own P w K mg base (k+1) x n (fnB N.length b):=
 qqD F hb hm S hn fun d A a s H E g=>(e d A a s H E g).h
theorem qpv {P:Program}{w:World}{K:Fg1}{mg:Str->Option Value}{base:Heap}{x c:Str}{st:Stmt}{f:Addr}{fd:FuncData}{N ps:List Str}{k n:Nat}{b:FS}(F:Fun K x c st f fd)(S:qam N ps (qac st))(hn:ps.length=n)
  (e:∀ (d:Value) (A:Around) (a:List Env) (s:Shared) (H:Hp) (E:XK),Room k (A.deeper (envOfC c (qac st) s.heap.objs.size f d)) ->
   XSs (cxOf CX0 P w K mg base N c (qac st) f d A a s H E).nox (qa5 st) b):FnOk P w K mg base CX0 (k+1) f fd ps (spM K n (fnB N.length b)):=by
 subst hn;exact fn_m F S fun d A a s H E g=>(e d A a s H E g).h
noncomputable abbrev FV:=Ev->Sto->Option (List D×Ev×Sto)
noncomputable def qch (c:List (Nat×List D))(g:FG)(t:FT)(b:FV):List D->FV
 | []=>fun r S=>if okC S c=true then some ([],r,S) else none
 | d::ds=>fun r S=>if okC S c=true then (g d r S).bind fun p=>(t p.1 p.2).bind fun k=>if k.1=true then (b p.1 k.2).bind fun q=>(qch c g t b ds q.2.1 q.2.2).map fun z=>(q.1++z.1,z.2) else qch c g t b ds p.1 k.2 else none
noncomputable def qbh (m:FE):FV:=fun r S=>(m r S).map fun q=>([q.1],r,q.2)
noncomputable def qbD (k:Nat)(keep:List Nat)(m:FI)(g:FG)(t:FT)(b:FV):FE:=fun r S=>(m r S).bind fun p=>
 (qch p.1.chk g t b p.1.items (inEv k keep r) p.2).bind fun q=>if q.1.length<=sizeLine then some (.ref q.2.2.length,q.2.2++[.lst q.1]) else none
section
variable {K:Fg1} {H H' H1:Hp} {mu mu' mu1:List Addr} {S:Sto} {a:Addr}
theorem Ext.aside (x:Ext mu mu' H H'):Ext (a::mu) (a::mu') H H' where
 pre:=List.cons_prefix_cons.mpr ⟨rfl,x.pre⟩
 old:=fun b o h n=>x.old b o h fun z=>n (mC1 _ z)
 tup:=x.tup
 frz:=x.frz
 new:=fun b h=>by
  rcases List.mem_cons.mp h with h | h
  ·exact .inl (by rw [h];exact mS1)
  ·rcases x.new b h with q | q
   ·exact .inl (mC1 _ q)
   ·exact .inr q
theorem Ext.inner (x:Ext (a::mu) (a::mu') H H'):Exw mu mu' H H':=⟨(List.cons_prefix_cons.mp x.pre).2,x.tup,x.frz⟩
theorem Ext.held {o:HO}(x:Ext mu mu' H H')(ha:H a=some o)(hn:a∉mu):H' a=some o/\a∉mu':=by
 refine ⟨x.old a o ha hn,fun z=>?_⟩;rcases x.new a z with q | q
 ·exact hn q
 ·rw [ha] at q;cases q
theorem EnvR.exw {r:Ev}{σ:L2.St}(e:Exw mu mu' H H')(h:EnvR K H mu r σ):EnvR K H' mu' r σ:=⟨h.len,fun i d q=>by
 obtain ⟨v,b,a⟩:=h.val i d q;exact ⟨v,b,a.exw e⟩⟩
theorem ObR.exw {b:Addr}(e:Exw mu mu' H H')(h:∀ o,H b=some o->H' b=some o):∀ {o:Ob},ObR K H mu b o->ObR K H' mu' b o
 | .lst _,⟨vs,q,r⟩=>⟨vs,h _ q,r.exw e⟩
 | .dct _,⟨ws,q,r⟩=>⟨ws,h _ q,Paired.mapP r fun _ _ z=>⟨z.1,z.2.exw e⟩⟩
 | .dcT _,⟨ws,q,r,l⟩=>⟨ws,h _ q,Paired.mapP r fun _ _ ⟨z,d,k,v,a,r⟩=>⟨z,d,k.exw e,v,a,r.exw e⟩,l⟩
 | .iset _,q=>⟨h _ q.1,q.2⟩
 | .dcF _,⟨ws,⟨o,u,f,c⟩,r,l⟩=>⟨ws,⟨o,u,h _ f,c⟩,Paired.mapP r fun _ _ ⟨z,d,k,v,a,r⟩=>⟨z,d,k.exw e,v,a,r.exw e⟩,l⟩
 | .tst _,⟨ws,q,r⟩=>⟨ws,h _ q,Paired.mapP r fun _ _ ⟨z,d,k,v,a,r⟩=>⟨z,d,k.exw e,v,a,r.exw e⟩⟩
theorem Sim.aside {u:HO}(s:Sim K H mu S)(e:Exw mu mu H (upd H a u))(hn:a∉mu):Sim K (upd H a u) mu S:=
 ⟨s.len,s.nd,fun k o b h1 h2=>(s.ob k o b h1 h2).exw e fun o' q=>by rw [qaq (fun z=>hn (by rw [<- z];exact gM1 h2))];exact q⟩
end
inductive tMV (K:Fg1)(a:Addr)(m:FV)(E:Ends)(σ:L2.St)(H:Hp):Prop
 | mk (r:Ev) (mu:List Addr) (S:Sto) (acc:List D) (vs:List V) (xs:List D) (r':Ev) (S':Sto):H a=some (.lst vs)->a∉mu->Reps K H mu acc vs->EnvR K H mu r σ->Sim K H mu S->m r S=some (xs,r',S')->vs.length+xs.length<=sizeLine ->
 (∀ σ' H' mu' vs',Ext (a::mu) (a::mu') H H'->H' a=some (.lst vs')->a∉mu'->Reps K H' mu' (acc++xs) vs'->EnvR K H' mu' r' σ'->Sim K H' mu' S'->E.nx σ' H')->tMV K a m E σ H
theorem qh2 {K:Fg1}{a:Addr}{m:FE}{E:Ends}{σ:L2.St}{H:Hp}(h:tMV K a (qbh m) E σ H):qk1 a (tM K m) E σ H:=by
 obtain ⟨r,mu,S,l,vs,xs,u,w,j,f,k,i,n,g,p,hc⟩:=h;obtain ⟨⟨d,t⟩,o,g⟩:=oM1.mp g;cases g;refine ⟨r,mu,S,d,t,i,n,o,fun v H1 mu1 e q s=>?_⟩;obtain ⟨c,b⟩:=e.held j f;have put:Ext (a::mu1) (a::mu1) H1 (upd H1 a (.lst (vs++[v]))):=Ext.put c trivial mS1;refine ⟨vs,c,p,?_⟩;exact hc σ _ mu1 (vs++[v]) (e.aside.trans put) qas b (((k.ext e).append (.cons q .nil)).exw put.inner) ((i.ext e).exw put.inner) (s.aside put.inner b)
inductive LFI (K:Fg1)(a:Addr)(mu2:List Addr)(H:Hp)(c:List (Nat×List D))(g:FG)(t:FT)(b:FV)(r':Ev)(S':Sto)(tot:List D)(L:List D)(σ':L2.St)(H':Hp):Prop
 | mk (r3:Ev) (mu3:List Addr) (S3:Sto) (acc3:List D) (vs3:List V) (xs3:List D):Ext (a::mu2) (a::mu3) H H'->H' a=some (.lst vs3)->a∉mu3->Reps K H' mu3 acc3 vs3->EnvR K H' mu3 r3 σ'->Sim K H' mu3 S3->qch c g t b L r3 S3=some (xs3,r',S')->acc3++xs3=tot->vs3.length+xs3.length<=sizeLine->LFI K a mu2 H c g t b r' S' tot L σ' H'
theorem qlX {K:Fg1}{a:Addr}{j:It}{J:Itm}{g:FG}{t:FT}{b:FV}{tb:TS}{D:Ends}(hb:∀ E σ H,tMV K a b E σ H->tb E σ H)
  {mu1 e:List Addr} {H1 H:Hp} {r L:Ev} {S I:Sto} {σ:L2.St} {acc xs:List Mi.D} {vs:List V} (hJ:ItR K j J mu1 H1) (x:Exw mu1 e H1 H) (ha:H a=some (.lst vs)) (O:a∉e) (hr:Reps K H e acc vs) (he:EnvR K H e r σ) (hs:Sim K H e S)
  (hm:qch J.chk g t b J.items r S=some (xs,L,I)) (hl:vs.length+xs.length<=sizeLine)
  (hc:∀ h H' mu' z,Ext (a::e) (a::mu') H H'->H' a=some (.lst z)->a∉mu'->Reps K H' mu' (acc++xs) z->EnvR K H' mu' L h->Sim K H' mu' I->D.nx h H'):qpM j (tMG K g) (tMT K t) tb D σ H:=by
 refine ⟨fun i k h H'=>k=(J.items.drop i).length/\LFI K a e H J.chk g t b L I (acc++xs) (J.items.drop i) h H',
  ⟨_,rfl,r,e,S,acc,vs,xs,.refl _ _,ha,O,hr,he,hs,hm,rfl,hl⟩,?_⟩
 rintro i k σ3 U ⟨rfl,r3,m,S3,f,vs3,X,G,s,B,A,v,W,c,n,l⟩;cases hd0:J.items.drop i with
 | nil=>
  left;rw [hd0,qch] at c;dsimp only at c;split at c
  ·rename_i ok;cases c;refine ⟨(hJ i U m _ (x.trans G.inner) W ok).2 (List.drop_eq_nil_iff.mp hd0),hc σ3 U m vs3 G s B ?_ v W⟩;rw [<- n,List.append_nil];exact A
  ·cases c
 | cons d ds=>
  right;rw [hd0] at c;obtain ⟨hi,hd⟩:=qen hd0;rw [qch] at c;dsimp only at c;split at c
  ·rename_i ok;obtain ⟨⟨N,S4⟩,e4,c⟩:=oB1.mp c;obtain ⟨⟨k5,Q⟩,e5,c⟩:=oB1.mp c;obtain ⟨go,yl⟩:=(hJ i U m _ (x.trans G.inner) W ok).1 d hi;refine ⟨go,LFI K a e H J.chk g t b L I (acc++xs) ds,?_,fun y H4 yy=>?_⟩
   ·intro h H' h6;exact ⟨ds.length,Nat.lt_succ_self _,(congrArg List.length hd).symm,hd.symm ▸ h6⟩
   ·obtain ⟨M,s4,q4⟩:=yl y H4 yy;obtain ⟨ha4,Z⟩:=M.held s B;refine ⟨r3,m,S3,d,N,S4,v.ext M,s4,q4,e4,fun σ5 H5 mu5 x5 q s5=>?_⟩;obtain ⟨T,hn5⟩:=x5.held ha4 Z;refine ⟨N,mu5,S4,k5,Q,q,s5,e5,fun H6 o w s6=>?_⟩;obtain ⟨F,u⟩:=w.held T hn5;have xx:=((G.trans M.aside).trans x5.aside).trans w.aside;have p:Reps K H6 o f vs3:=((A.ext M).ext x5).ext w;cases k5 with
    | true=>
     obtain ⟨⟨q1,r7,S7⟩,e7,c⟩:=oB1.mp c;obtain ⟨⟨z1,r8,S8⟩,e8,c⟩:=oM1.mp c;cases c;refine hb _ _ _ ⟨N,o,Q,f,vs3,q1,r7,S7,F,u,p,q.ext w,s6,e7,?_,fun σ8 H8 mu8 P x8 ha8 Y C R s8=>⟨r7,mu8,S7,f++q1,P,z1,xx.trans x8,ha8,Y,C,R,s8,e8,?_,?_⟩⟩
     ·rw [lA1] at l;dsimp only at l;lia
     ·rw [<- n,List.append_assoc]
     ·have:=C.length;have h3:=p.length;rw [lA1] at this l;dsimp only at l;lia
    | false=>exact ⟨N,o,Q,f,vs3,X,xx,F,u,p,q.ext w,s6,c,n,l⟩
  ·cases c
theorem qh4 {K:Fg1}{k:Nat}{keep:List Nat}{m:FI}{g:FG}{t:FT}{b:FV}{tb:Addr->TS}(hb:∀ a E σ H,tMV K a b E σ H->tb a E σ H){σ:L2.St}{H:Hp}{Q:VK}(h:tM K (qbD k keep m g t b) σ H Q):
  qnp k keep (tMI K m) (tMG K g) (tMT K t) tb σ H Q:=by
 obtain ⟨r,mu,S,d,Y,F,T,f,hc⟩:=h;obtain ⟨⟨J,P⟩,O,f⟩:=oB1.mp f;obtain ⟨⟨xs,r2,N⟩,U,f⟩:=oB1.mp f;dsimp only at f;split at f
 ·rename_i V;cases f;refine ⟨r,mu,S,J,P,F,T,O,fun j H1 mu1 G W M p i=>?_⟩;have w:Ext mu1 mu1 H1 (upd H1 p (.lst [])):=Ext.fresh i;refine qlX (hb p) W w.w qas (M.notin i) .nil ((qs9 k keep (F.ext G)).ext w) (M.fresh i) U (by simpa using V) fun R H' mu' s l x B D X s'=>?_;have y:Ext mu1 (mu'++[p]) H1 H':=by
   refine ⟨((List.cons_prefix_cons.mp l.pre).2).trans (List.prefix_append _ _),fun b o e n=>?_,fun b ys e=>l.tup b ys (w.tup b ys e),fun b o u e=>l.frz b o u (w.frz b o u e),fun b C=>?_⟩
   ·have I:b≠p:=qat e i;exact l.old b o (by rw [qaq I];exact e) fun z=>by
     rcases List.mem_cons.mp z with z | z
     ·exact I z
     ·exact n z
   ·rcases List.mem_append.mp C with z | z
    ·rcases l.new b (mC1 _ z) with q | q
     ·rcases List.mem_cons.mp q with q | q
      ·exact .inr (by rw [q];exact i)
      ·exact .inl q
     ·by_cases v:b=p
      ·exact .inr (by rw [v];exact i)
      ·rw [qaq v] at q;exact .inr q
    ·have:b=p:=by simpa using z
     exact .inr (by rw [this];exact i)
  refine hc _ H' (mu'++[p]) (G.trans y) (.ref (qcO s'.len p)) ⟨by rw [lA1,lA1,s'.len];rfl,?_,fun n o b h1 h2=>?_⟩
  ·rw [List.nodup_append];refine ⟨s'.nd,by simp,fun b hb c hc e=>?_⟩;have:c=p:=by simpa using hc
   subst this;subst e;exact B hb
  ·by_cases L:n<N.length
   ·rw [gL1 L] at h1;rw [gL1 (by rw [s'.len];exact L)] at h2;exact (s'.ob n o b h1 h2).mor [p]
   ·have A:n=N.length:=by
     have:=(gE1.mp h1).1;rw [lA1] at this;simp at this;lia
    subst A;rw [gR1 (nR1 _)] at h1;rw [<- s'.len,gR1 (nR1 _)] at h2;simp at h1 h2;subst h1;subst h2;exact ⟨s,x,(by simpa using D:Reps K H' mu' xs s).mor [p]⟩
 ·cases f
section
variable {X:Cx}
theorem qZ {elt tg iter:Expr}{ifs:List Expr}{scope:Scope}{pos:Pos}{T:List Str}{keep:List Nat}{i:List (Str×Addr)}{m:FI}{g:FG}{t:FT}{e:FE}(hc:X.calm=true)
  (C:CSc X scope T keep) (d:cloF X.env.cells scope.names []=some i) (hi:XI X tg iter m) (hb:∀ s H b,XB1 (cxC X scope i T keep s H b) X.K tg ifs elt g t e)
  (hs:∀ x,foldedSetIterable iter X.env x=pure x:=by intro _;rfl):XE X (.ListComp elt [⟨tg,iter,ifs,0⟩] scope pos) (qbD T.length keep m g t (qbh e)):=
 ⟨qaS (qn0 (emit:=qku elt) (tb:=fun p=>qk1 p (tM X.K e)) hc (fun it f c=>qmp elt tg iter ifs scope pos it f c) C d hi.h (fun s H b p=>⟨(hb s H b).g.h,(hb s H b).t.h,qjy (hb s H b).e.h p⟩) hs)
  fun σ H Q h=>qh4 (fun a E σ H q=>qh2 q) h⟩
theorem qbU {elt tg iter:Expr}{ifs:List Expr}{scope:Scope}{pos b l:Pos}{y:Str}(i:Nat){T:List Str}{keep:List Nat}{n:List (Str×Addr)}{m:FI}{g:FG}{t:FT}{e:FE}(hc:X.calm=true)
  (C:CSc X scope T keep) (f:cloF X.env.cells scope.names []=some n) (hi:XI X tg iter m) (hb:∀ s H c,XB1 (cxC X scope n T keep s H c) X.K tg ifs elt g t e)
  (hN:X.N.Nodup) (hy:X.N[i]? = some y) (hx:Loc X.env.scope y) (j:swapsWith (.ListComp elt [⟨tg,iter,ifs,0⟩] scope pos) (some (.Name y l)) b.line X.env=pure true:=by rfl)
  (hf:X.fn y=true\/X.env.scope.names.lookup y=some .local:=by first | exact .inl rfl | exact .inr rfl | assumption)
  (hs:∀ x,foldedSetIterable iter X.env x=pure x:=by intro _;rfl):XS X (.Assign [.Name y l] (.ListComp elt [⟨tg,iter,ifs,0⟩] scope pos) b) (mAsg (qbD T.length keep m g t (qbh e)) (gN i)):=
 ⟨qcs (qnP (emit:=qku elt) (tb:=fun p=>qk1 p (tM X.K e)) hc j (fun it k d=>qmp elt tg iter ifs scope pos it k d) C f hi.h (fun s H c p=>⟨(hb s H c).g.h,(hb s H c).t.h,qjy (hb s H c).e.h p⟩) hN hy hx hf hs)
  fun E σ H h=>qr4 (fun σ H Q q=>qh4 (fun a E σ H q=>qh2 q) q) h⟩
end
noncomputable def keyD:D->Option Key
 | .int i=>some (.inl i)
 | .str x=>some (.inr x)
 | _=>none
noncomputable def qao {κ:Type}[DecidableEq κ](kvs:List (κ×D))(k:κ):Option D:=(kvs.find? fun p=>decide (p.1=k)).map (·.2)
noncomputable def putD {κ:Type}[DecidableEq κ](kvs:List (κ×D))(k:κ)(d:D):List (κ×D):=
 if (kvs.any fun p=>decide (p.1=k))=true then kvs.map (fun p=>if p.1=k then (p.1,d) else p) else kvs++[(k,d)]
section
variable {K:Fg1} {H:Hp} {mu:List Addr}
theorem qg5 {d:D}{v:V}{k:Key}(r:Rep K H mu d v)(h:keyD d=some k):v=kV k:=by
 cases r with
 | int i=>cases h;rfl
 | str x=>cases h;rfl
 | _=>cases h
end
section
variable {κ:Type} [DecidableEq κ] {K:Fg1} {H:Hp} {mu:List Addr}
theorem KR.length:∀ {ks:List (κ×D)} {ws:List (κ×V)},KR K H mu ks ws->ks.length=ws.length:=fun h=>Paired.length h
theorem KR.look {k:κ}:∀ {ks:List (κ×D)} {ws:List (κ×V)},KR K H mu ks ws ->
  (∀ d,qao ks k=some d -> ∃ v,valV ws k=some v/\Rep K H mu d v)/\(qao ks k=none->valV ws k=none):=by
 intro ks ws h
 induction h with
 | nil=>exact ⟨fun d h=>by simp [qao] at h,fun _=>rfl⟩
 | @cons p q ks ws r t ih=>
  obtain ⟨b,c⟩:=p;obtain ⟨j,f⟩:=q;obtain ⟨e,r⟩:=r;dsimp only at e r;subst e;obtain ⟨h1,h2⟩:=ih;by_cases a:b=k
  ·subst a;refine ⟨fun d h=>?_,fun h=>?_⟩
   ·have:c=d:=by simpa [qao] using h
    subst this;exact ⟨f,by simp [valV],r⟩
   ·simp [qao] at h
  ·have g:qao ((b,c)::ks) k=qao ks k:=by simp [qao,List.find?_cons,a]
   have i:valV ((b,f)::ws) k=valV ws k:=by simp [valV,List.find?_cons,a]
   rw [g,i];exact ⟨h1,h2⟩
theorem KR.any {k:κ}:∀ {ks:List (κ×D)} {ws:List (κ×V)},KR K H mu ks ws->(ks.any fun p=>decide (p.1=k))=ws.any fun p=>decide (p.1=k):=by
 intro ks ws h
 induction h with
 | nil=>rfl
 | cons r t ih=>rw [List.any_cons,List.any_cons,ih,r.1]
theorem KR.repl {k:κ}{d:D}{v:V}(q:Rep K H mu d v):∀ {ks:List (κ×D)} {ws:List (κ×V)},KR K H mu ks ws ->
  KR K H mu (ks.map fun p=>if p.1=k then (p.1,d) else p) (ws.map fun p=>if p.1=k then (p.1,v) else p):=by
 intro ks ws h
 induction h with
 | nil=>exact .nil
 | @cons a b ks ws r t ih=>
  refine .cons ?_ ih;obtain ⟨e,r⟩:=r;dsimp only;by_cases h:a.1=k
  ·rw [if_pos h,if_pos (e ▸ h)];exact ⟨e,q⟩
  ·rw [if_neg h,if_neg (e ▸ h)];exact ⟨e,r⟩
theorem KR.snoc {k:κ}{d:D}{v:V}(q:Rep K H mu d v):∀ {ks:List (κ×D)} {ws:List (κ×V)},KR K H mu ks ws->KR K H mu (ks++[(k,d)]) (ws++[(k,v)]):=by
 intro ks ws h
 induction h with
 | nil=>exact .cons ⟨rfl,q⟩ .nil
 | cons r t ih=>exact .cons r ih
theorem KR.put {k:κ}{d:D}{v:V}(q:Rep K H mu d v){ks:List (κ×D)}{ws:List (κ×V)}(h:KR K H mu ks ws):KR K H mu (putD ks k d) (putK ws k v):=by
 unfold putD putK;rw [h.any];split
 ·exact h.repl q
 ·exact h.snoc q
end
noncomputable def gInX:G2:=fun d e S=>match e with
 | .ref n=>match S[n]? with
  | some (.dct kvs)=>(keyD d).map fun k=>(.bl (qao kvs k).isSome,S)
  | _=>gIn d e S
 | _=>gIn d e S
noncomputable def qdw:G2:=fun d e S=>match e with
 | .ref n=>match S[n]? with
  | some (.dct kvs)=>(keyD d).map fun k=>(.bl (!(qao kvs k).isSome),S)
  | _=>qgb d e S
 | _=>qgb d e S
noncomputable def gIxX:G2:=fun d e S=>match d with
 | .ref n=>match S[n]? with
  | some (.dct kvs)=>(keyD e).bind fun k=>(qao kvs k).map fun x=>(x,S)
  | _=>gIx d e S
 | _=>gIx d e S
noncomputable def qfq:G3:=fun o i v S=>match o with
 | .ref n=>match S[n]? with
  | some (.dct kvs)=>(keyD i).bind fun k=>if kvs.length<sizeLine then some (.non,S.set n (.dct (putD kvs k v))) else none
  | _=>qdH o i v S
 | _=>qdH o i v S
section
variable {X:Cx}
theorem qhL {K:Fg1}{H:Hp}{mu:List Addr}{S:Sto}(hs:Sim K H mu S){n:Nat}{a:Addr}{kvs:List (Key×D)}{k:Key}{y:V}(hn:mu[n]? = some a)(he:S[n]? = some (.dct kvs))(hy:y=kV k):
  ∃ o:Option V,DGet H a y o/\(∀ d,qao kvs k=some d -> ∃ v,o=some v/\Rep K H mu d v)/\(qao kvs k=none->o=none)/\o.isSome=(qao kvs k).isSome:=by
 obtain ⟨ws,c,f⟩:=hs.dct he hn;subst hy;obtain ⟨h1,h2⟩:=f.look (k:=k);refine ⟨valV ws k,DGet.k c,h1,h2,?_⟩;cases e:qao kvs k with
 | none=>rw [h2 e];rfl
 | some d=>obtain ⟨v,b,_⟩:=h1 d e;rw [b];rfl
theorem qlE (m:X.A.units+64<cLine):OpR X (compareOp .NotIn) (r2 X.K (b2 qdw)):=by
 intro pins s σ H x y u w Q I f i h;obtain ⟨mu,S,d,e,r,l,j,b,c,a,hc⟩:=rn2 h;have back:qgb d e S=some (r,l)->wpAny (model X.prog X.w) X.A (compareOp .NotIn u w) (EP X pins σ Q) X.xe s:=fun a=>qoa m pins s σ H x y u w Q I f i ⟨mu,S,[d,e],r,l,.cons j (.cons b .nil),c,a,hc⟩;unfold qdw at a;split at a
 ·rename_i n;split at a
  ·rename_i kvs q;obtain ⟨k,p,a⟩:=oM1.mp a;cases a;cases b with
   | ref v=>
    cases i;obtain ⟨o,g,_,_,hi⟩:=qhL c v q (qg5 j p);exact qpa (by lia) I g f fun s' t=>⟨.bl (!o.isSome),H,t,rfl,by rw [hi];exact hc.now (.bl _) c⟩
  ·exact back a
 ·exact back a
theorem qsm (P:X.A.units+64<cLine):IxR X (r2 X.K (b2 gIxX)):=by
 intro value b pins s σ H x y v u Q I w B h j;obtain ⟨mu,S,d,e,r,t,A,l,p,c,hc⟩:=rn2 h;have back:gIx d e S=some (r,t)->wpAny (model X.prog X.w) X.A (subscriptTail value b v u) (EP X pins σ Q) X.xe s:=fun c=>x_ix value b pins s σ H x y v u Q I w B ⟨mu,S,[d,e],r,t,.cons A (.cons l .nil),p,c,hc⟩ j;unfold gIxX at c;split at c
 ·rename_i n;split at c
  ·rename_i kvs M;obtain ⟨k,L,c⟩:=oB1.mp c;obtain ⟨z,F,c⟩:=oM1.mp c;cases c;cases A with
   | @ref _ a J=>
    cases w;obtain ⟨o,g,h1,_,_⟩:=qhL p J M (qg5 l L);obtain ⟨E,N,G⟩:=h1 _ F;subst N;have C:=qhj I g;unfold subscriptTail;refine wB1 ?_;rw [getitemInPython_of_ne C.not_modules];refine wB1 (wpAny_specialOf C PySem.F.slot_dict_getitem.lookup ?_);have i:wpAny (model X.prog X.w) X.A (subscripted b false (.ref a) u) (fun r f=>wpAny (model X.prog X.w) X.A (letTemporaryGo value (.ref a) r >>= fun _=>pure r) (EP X pins σ Q) X.xe f) X.xe s:=by
     rw [j];exact wpAny_operating (wpAny_mono (qky (by lia) I g B fun O K D q=>(⟨E,H,D,q,hc.now G p⟩:EP X pins σ Q O K)) (fun r f m=>wB1 (wpAny_letTemporaryGo (wP1 m))) fun _ _ x=>x)
    first
     | exact wP1 (wB1 i)
     | exact wB1 i
     | exact i
  ·exact back c
 ·exact back c
theorem qpW (L:X.A.units+64<cLine):PSet X (rU X.K (b3 qfq)):=by
 intro pins s σ H o i v t z u Q I f j p h;obtain ⟨mu,S,ds,d,l,K,e,a,hc⟩:=id h;cases K with
 | cons q B=>cases B with
  | cons g C=>cases C with
   | cons r F=>
    cases F;rename_i w y x;dsimp only [b3] at a;have back:qdH w y x S=some (d,l)->wpAny (model X.prog X.w) X.A (setItem t z u) (fun _ s'=>∃ H',Inv X pins σ H' s'/\Q H') X.xe s:=fun a=>qsB pins s σ H o i v t z u Q I f j p ⟨mu,S,[w,y,x],d,l,.cons q (.cons g (.cons r .nil)),e,a,hc⟩;unfold qfq at a;split at a
    ·rename_i n;split at a
     ·rename_i kvs E;obtain ⟨k,D,a⟩:=oB1.mp a;split at a
      ·rename_i G;cases a;cases q with
       | ref c=>
        cases f;obtain ⟨ws,b,m⟩:=e.dct E c;have J:=qg5 g D;subst J;refine qkx (by lia) I (DPut.k b (by rw [<- m.length];exact G)) j p fun s' A=>⟨_,A,?_⟩;have put:Ext mu mu H (upd H _ (.dK (putK ws k v))):=Ext.put b trivial (gM1 c);exact hc _ mu put (e.put c b trivial ⟨_,qas,(m.put r).ext put⟩)
      ·cases a
     ·exact back a
    ·exact back a
noncomputable def gIsX:G2:=fun d e S=>match e with
 | .non=>some (.bl (isNon d),S)
 | .bl b=>match d with
  | .bl c=>some (.bl (c == b),S)
  | _=>none
 | _=>none
noncomputable def qhb:G2:=fun d e S=>match e with
 | .non=>some (.bl (!isNon d),S)
 | .bl b=>match d with
  | .bl c=>some (.bl (!(c == b)),S)
  | _=>none
 | _=>none
theorem qob:OpR X (compareOp .Is) (r2 X.K (b2 gIsX)):=by
 intro pins s σ H x y u w Q I i j h;obtain ⟨mu,S,d,e,r,l,k,a,g,f,hc⟩:=rn2 h;cases e with
 | non=>exact qsU pins s σ H x y u w Q I i j ⟨mu,S,[d,.non],r,l,.cons k (.cons a .nil),g,f,hc⟩
 | bl b=>
  cases d with
  | bl c=>
   cases f;cases k;cases a;cases i;cases j;exact is_bool ⟨.bl (c == b),H,I,rfl,hc.now (.bl _) g⟩
  | _=>cases f
 | _=>cases f
theorem qlG:OpR X (compareOp .IsNot) (r2 X.K (b2 qhb)):=by
 intro pins s σ H x y u w Q I i j h;obtain ⟨mu,S,d,e,r,l,k,a,g,f,hc⟩:=rn2 h;cases e with
 | non=>exact qqQ pins s σ H x y u w Q I i j ⟨mu,S,[d,.non],r,l,.cons k (.cons a .nil),g,f,hc⟩
 | bl b=>
  cases d with
  | bl c=>
   cases f;cases k;cases a;cases i;cases j;exact isnot_bool ⟨.bl (!(c == b)),H,I,rfl,hc.now (.bl _) g⟩
  | _=>cases f
 | _=>cases f
noncomputable def qf5:FE:=fun _ S=>some (.ref S.length,S++[.dct []])
theorem qdS {pos:Pos}:XE X (.Dict [] [] pos) qf5:=⟨qaS qlv <| by
 rintro σ H Q ⟨r,mu,S,d,f,e,a,c,hc⟩ p b;cases c;exact hc _ _ (mu++[p]) (Ext.new_ b) (.ref (qcO a.len p)) (a.new b ⟨[],qas,.nil⟩)⟩
structure XP (X:Cx)(pos:Pos)(ks:List (Option Expr))(vs:List Expr)(l:List (FE×FE)):Prop where
 h:PPs X pos ks vs (l.map fun p=>(tM X.K p.1,tM X.K p.2))
end
section
variable {K:Fg1} {H H':Hp} {mu mu':List Addr} {S:Sto}
end
theorem qlA {P:Program}{w:World}{K:Fg1}{mg:Str->Option Value}{base:Heap}{x a:Str}{st:Stmt}{f:Addr}{fd:FuncData}{ps:List Str}{k n:Nat}(F:Fun K x a st f fd)(hb:qdR K fd ps [])(hm:mg x=some (.ref f)):Own P w K mg base k x n (fun _ _=>none):=by
 have g:∀ vs H Q E,¬ spM K n (fun _ _=>none) vs H Q E:=fun vs H Q E h=>by
  obtain ⟨_,mu,S,ds,d,j,_,_,e,_⟩:=h;cases e
 exact ⟨f,fd,ps,⟨fun vs H Q E h=>absurd h (g vs H Q E),fun A b s H c i vs Q E _ _ _ _ h=>absurd h (g vs H Q E)⟩,hb,F.kp,hm⟩
theorem qd3 {X:Cx}(i j:Nat){x y:Str}{a b:Expr}{m:FA}{l n pt pos:Pos}{kt k2 pt2}(hc:X.calm=true)(hN:X.N.Nodup)(hi:X.N[i]? = some x)(v:X.N[j]? = some y)(k:i≠j)
  (hx:X.env.scope.names.lookup x=some .local) (hy:X.env.scope.names.lookup y=some .local) (ha:XA X [a,b] m)
  (hw:swappedStores [.Tuple [.Name x l,.Name y n] kt pt] (.Tuple [a,b] k2 pt2) X.env=pure (some [x,y]):=by rfl)
  (hs:swapsWithSole [.Tuple [.Name x l,.Name y n] kt pt] (.Tuple [a,b] k2 pt2) pos.line X.env=pure false:=by rfl):
  XS X (.Assign [.Tuple [.Name x l,.Name y n] kt pt] (.Tuple [a,b] k2 pt2) pos) (mAsg (mTup m) (gT 2 (gCs (gN i) (gCs (gN j) gNl)))):=
 ⟨qcs (qp9 hc hN hi v k hx hy ha.h hw hs) <| by
  rintro E σ H ⟨r,mu,S,f,B,z,o,hs,h,hc⟩;obtain ⟨⟨d,A⟩,e,h⟩:=oB1.mp h;obtain ⟨⟨r2,C⟩,c,h⟩:=oB1.mp h;cases h;obtain ⟨⟨ds,w⟩,s,e⟩:=oB1.mp e;dsimp only at e;split at e
  ·cases e;refine ⟨r,mu,S,ds,_,o,hs,s,fun vs H1 mu1 p g t=>?_⟩;dsimp only at c;rw [gT] at c;split at c
   ·cases g with
    | nil=>cases c
    | cons u g=>cases g with
     | nil=>cases c
     | cons q g=>cases g with
      | nil=>
       cases c;exact ⟨_,_,rfl,hc _ H1 mu1 p (((o.ext p).set u).set q) t⟩
      | cons _ _=>cases c
   ·cases c
  ·cases e⟩
noncomputable def qo4:G2:=fun d e S=>match d,e with
 | .int i,.int j=>some (.int (i+j),S)
 | _,_=>none
theorem qoT {X:Cx}:PIp X .Add (r2 X.K (b2 qo4)):=by
 intro pins s σ H x y v u Q I f g h;obtain ⟨mu,S,d,e,r,l,k,b,c,a,hc⟩:=rn2 h;unfold qo4 at a;split at a
 ·rename_i i j;cases a;cases k;cases b;exact qoU pins s σ H _ _ v u Q I f g ⟨i,j,rfl,rfl,hc.now (.int _) c⟩
 ·cases a
end Mi
namespace HT
open PySem PySem.Spec PyProof.Rows
variable {prog:Program} {w:World} {A:Around} {E:Value->Shared->Prop} {s:Shared}
theorem qc2 {t d:Addr}{items:Array Value}{f g:Value}{lo hi:Option Int}{Q:Value->Shared->Prop}(ht:IsTup s.heap t items)(hs:s.heap.IsSliceOf d f g .none)(pl:IsPart f lo)(j:IsPart g hi)
  (hw:sIx items.size 0 lo=0/\sIx items.size items.size hi=items.size) (h:Q (.ref t) s):wpAny (model prog w) A (getItem (.ref t) (.ref d)) Q E s:=by
 obtain ⟨i,c,b,k⟩:=id hs;have e:s.TypeIs (.ref d) "slice":=⟨i,c,b⟩;unfold getItem
 try with_reducible refine wpAny_holding ?_
 first | refine wB1 (wP1 ?_) | skip
 refine wB1 (wpAny_sequenceKey ht.typeIs (by decide) ?_);refine wB1 (wpAny_callSpecial?_slot (name:=Str.ofString "__getitem__") ht.typeIs PyProof.Rows.slot_tuple_getitem
  (wE1 PyProof.Rows.slot_tuple_getitem ht.typeIs entry_tuple_getitem ?_ (args_tuple_getitem _ _)))
 show wpAny _ _ (Builtin.Tuple.tupleItemsOf (.ref t) >>= _) _ _ s;refine wB1 (tupleItemsOf_ ht ?_);refine wB1 (wpAny_typeOf e ?_);rw [if_pos (by decide)];refine wB1 (qcf hs pl j ?_);have a:((((sIx items.size 0 lo:Nat):Int) == 0&&(1:Int) == 1&&(sIx items.size items.size hi-sIx items.size 0 lo) == items.size)=true):=by
  rw [hw.1,hw.2];simp
 show wpAny _ _ (if (((sIx items.size 0 lo:Nat):Int) == 0&&(1:Int) == 1&&(sIx items.size items.size hi-sIx items.size 0 lo) == items.size)=true then _ else _) _ _ s;rw [if_pos a];refine wB1 ?_;unfold Builtin.Tuple.tupleIsExact;refine wB1 (wpAny_typeOf ht.typeIs (wP1 ?_));rw [if_pos (by decide)]
 first
  | exact wB1 (wpAny_rule (wP1 ⟨_,rfl,wP1 h⟩))
  | exact wB1 (wpAny_rule (wB1 (wP1 ⟨_,rfl,wP1 h⟩)))
end HT
namespace Mi
open PySem PySem.Spec PyProof.Rows L2
noncomputable def rSlW (K:Fg1):V->Option Int->Option Int->Hp->VK->Prop:=fun x lo hi H Q=>∃ a xs,x = .ref a/\SqT K H a xs/\(HT.sIx xs.length 0 lo=0/\HT.sIx xs.length xs.length hi=xs.length)/\Q (.ref a) H
section
variable {X:Cx}
theorem qnt:SlR X (rSlW X.K):=by
 intro pins s σ H x v k m lo hi l Q I g e pl f h;obtain ⟨a,xs,rfl,j,i,q⟩:=h;cases g;obtain ⟨c,r,d,n⟩:=I.tuple j;have b:c.toArray.size=xs.length:=by rw [sT1];exact r.length.symm
 refine ⟨"tuple",_,PyProof.Rows.slot_tuple_getitem.lookup,d.typeIs,?_⟩;exact HT.qc2 d e pl f (by rw [b];exact i) ⟨.ref a,H,I,rfl,q⟩
noncomputable def qji (S:Sto)(d:D)(lo hi:Option Int):Option (D×Sto):=(qap S d).map fun p=>if p.1=true then (.ref S.length,S++[.lst (Mi.cutD p.2 lo hi)]) else (.tup (Mi.cutD p.2 lo hi),S)
noncomputable def mSlX (m:FE)(lo hi:FO):FE:=fun r S=>(m r S).bind fun p=>(lo r p.2).bind fun a=>(hi r a.2).bind fun b=>qji b.2 p.1 a.1 b.1
theorem qgi {xs:List D}{lo hi:Option Int}(h:HT.sIx xs.length 0 lo=0/\HT.sIx xs.length xs.length hi=xs.length):Mi.cutD xs lo hi=xs:=by
 unfold Mi.cutD;rw [h.1,h.2,List.drop_zero,Nat.sub_zero,List.take_length]
theorem qeD {e:Expr}{lo hi:Option Expr}{m:FE}{a b:FO}{pos p2:Pos}(h:XE X e m)(L:XO X lo a)(M:XO X hi b):XE X (.Subscript e (.Slice lo hi none p2) pos) (mSlX m a b):=
 ⟨qaS (qlt (SlR.or qnt (SlR.or qpT qnu)) h.h L.h M.h) <| by
  rintro σ H Q ⟨r,mu,S,d,P,o,G,f,hc⟩;obtain ⟨⟨J,A⟩,C,f⟩:=oB1.mp f;obtain ⟨⟨l,B⟩,I,f⟩:=oB1.mp f;obtain ⟨⟨n,D⟩,E,f⟩:=oB1.mp f;refine ⟨r,mu,S,J,A,o,G,C,fun v H1 mu1 s K F=>?_⟩;refine ⟨r,mu1,A,l,B,o.ext s,F,I,fun H2 x y N=>?_⟩;refine ⟨r,x,B,n,D,(o.ext s).ext y,N,E,fun R g z j=>?_⟩;obtain ⟨⟨k,xs⟩,O,f⟩:=oM1.mp f;have w:=(s.trans y).trans z;obtain ⟨c,vs,rfl,q,t⟩:=qal ((K.ext y).ext z) j O;cases k with
  | true=>
   cases f;right;right;exact ⟨c,vs,rfl,q,fun p i=>hc _ _ (g++[p]) (w.trans (Ext.new_ i)) (.ref (qcO j.len p)) (j.newL (qkz t l n) i)⟩
  | false=>
   simp only [bF1,if_false] at f;cases f;by_cases u:HT.sIx xs.length 0 l=0/\HT.sIx xs.length xs.length n=xs.length
   ·left;rw [qgi u] at hc;exact ⟨c,vs,rfl,q,by rw [<- t.length];exact u,hc _ _ g w (.tup q t) j⟩
   ·right;left;exact ⟨c,vs,rfl,q,by rw [<- t.length];exact u,fun p i=>hc _ _ g (w.trans (Ext.fresh i)) (.tup (SqT.of qas) ((qkz t l n).ext (Ext.fresh i))) (j.fresh i)⟩⟩
end
mutual
inductive IsTK (h:Heap):TK->Value->Prop
 | non:IsTK h .non .none
 | int (i t):IsTK h (.int i) (.int i t)
 | tup {a o items n xs}:h.get? a=some o->o.cls = .type "tuple"->o.data = .seq items n->qcF h xs items.toList->IsTK h (.tup xs) (.ref a)
inductive qcF (h:Heap):List TK->List Value->Prop
 | nil:qcF h [] []
 | cons {k v ks vs}:IsTK h k v->qcF h ks vs->qcF h (k::ks) (v::vs)
end
section
variable {prog:Program} {w:World} {A:Around} {E:Value->Shared->Prop} {s:Shared}
theorem qgL {Q:Int->Shared->Prop}(h:Q 0xFCA86420 {s with toks:=s.toks+1}):wpAny (model prog w) A (pyHash .none) Q E s:=by
 have a:s.TypeIs .none "NoneType":=rfl;unfold pyHash
 first | unfold pyHashByItsType | skip
 have b:[Value.none].any Value.onHeap=false:=rfl;refine wB1 ?_;rw [cRoomFor,if_neg (by rw [b];exact Bool.false_ne_true)];refine wP1 ?_;refine wB1 (wpAny_specialOf a F.slot_NoneType_hash.lookup ?_);show wpAny _ _ (if (some (Value.builtin "NoneType.__hash__") == some Value.none)=true then _ else _) Q E s;rw [if_neg (by rw [beq_builtin_none];exact Bool.false_ne_true)];refine wB1 (wpAny_specialOf a F.slot_NoneType_hash.lookup ?_);show wpAny _ _ (callSpecialIfBoundUnlessNone? .none "__hash__" _ >>= _) Q E s;refine wB1 (wpAny_callSpecialIfBoundUnlessNone?_slot a F.slot_NoneType_hash (wE1 F.slot_NoneType_hash a F.entry_NoneType_hash (show wpAny _ _ (retInt 0xFCA86420) _ _ s from wpAny_ret_mkInt ?_) (F.args_NoneType_hash_1 _)));exact wP1 h
noncomputable def qig (prog:Program)(w:World)(k:TK):Prop:=∀ {A:Around} {E:Value->Shared->Prop} {s:Shared} {v:Value} {Q:Int->Shared->Prop},A.units+k.dep<cLine->IsTK s.heap k v->Q k.hash {s with toks:=s.toks+k.draws}->wpAny (model prog w) A (pyHash v) Q E s
theorem qcF.split {h:Heap}:∀ {ks:List TK} {vs:List Value},qcF h ks vs->ks.length=vs.length:=fun a=>a.rec (motive_1:=fun _ _ _=>True) (motive_2:=fun ks vs _=>ks.length=vs.length) trivial (fun _ _=>trivial) (fun _ _ _ _ _=>trivial) rfl (fun _ _ _ ih=>congrArg (· + 1) ih)
theorem ql2 {xs:List TK}(all:∀ k∈xs,qig prog w k):qig prog w (.tup xs):=by
 intro A E s v Q t u h;cases u with
 | @tup a o m n _ r hc hd hi=>
  have j:s.TypeIs (.ref a) "tuple":=⟨o,r,hc⟩;rw [TK.dep] at t;unfold pyHash
  first | unfold pyHashByItsType | skip
  first | refine wB1 (wpAny_cRoomFor_or (.inr (by lia)) ?_) | skip
  refine wB1 (wpAny_specialOf j F.slot_tuple_hash.lookup ?_);show wpAny _ _ (if (some (Value.builtin "tuple.__hash__") == some Value.none)=true then _ else _) Q E s;rw [if_neg (by rw [beq_builtin_none];exact Bool.false_ne_true)];refine wB1 (wpAny_specialOf j F.slot_tuple_hash.lookup ?_);show wpAny _ _ (callSpecialIfBoundUnlessNone? (.ref a) "__hash__" _ >>= _) Q E s;refine wB1 (wpAny_callSpecialIfBoundUnlessNone?_slot j F.slot_tuple_hash (wE1 F.slot_tuple_hash j F.entry_tuple_hash ?_ (F.args_tuple_hash_1 _)));show wpAny _ _ (Builtin.Tuple.tupleItemsOf (.ref a) >>= _) _ _ s;refine wB1 (wpAny_tupleItemsOf r hd ?_);refine wB1 ?_;rw [<- Array.forIn_toList];refine wpAny_forIn_list _
   (fun rest (b:Array Int) s'=>∃ c d,xs=c++d/\qcF s.heap d rest/\b.toList=TK.hashes c/\s'={s with toks:=s.toks+TK.drawsAll c})
   _ ?_ ?_ _ _ ⟨[],xs,rfl,hi,rfl,rfl⟩
  ·rintro x rest b s' ⟨c,d,e,p,l,rfl⟩;cases p with
   | @cons k _ g _ h1 f=>
    have q:k∈xs:=by rw [e];simp
    refine wB1 (all k q (show A.in1.units+k.dep<cLine by have:=TK.dep_mem q;rw [show A.in1.units=A.units+1 from rfl];lia) h1 ?_)
    first
     | exact wP1 ⟨c++[k],g,by simp [e],f,by rw [TK.hashes_app];simp [l,TK.hashes],by rw [TK.draws_app];simp [TK.drawsAll,Nat.add_assoc]⟩
     | exact wB1 (wP1 (wP1 ⟨c++[k],g,by simp [e],f,by rw [TK.hashes_app];simp [l,TK.hashes],by rw [TK.draws_app];simp [TK.drawsAll,Nat.add_assoc]⟩))
  ·rintro b s' ⟨c,d,e,p,l,rfl⟩;cases p;rw [List.append_nil] at e;subst e;show wpAny _ _ (retInt (Builtin.Tuple.tupleHashOf b.toList)) _ _ _;rw [l];refine wpAny_ret_mkInt ?_;show wpAny _ _ (if (decide (-(2:Int)^63<=Builtin.Tuple.tupleHashOf (TK.hashes xs))&&decide (Builtin.Tuple.tupleHashOf (TK.hashes xs)<2^63))=true then _ else _) Q E _;rw [TK.hash,TK.draws] at h;unfold reduceHash at h;by_cases i:(decide (-(2:Int)^63<=Builtin.Tuple.tupleHashOf (TK.hashes xs))&&decide (Builtin.Tuple.tupleHashOf (TK.hashes xs)<2^63))=true
   ·rw [if_pos i];rw [if_pos i] at h;exact wP1 (by simpa [Nat.add_assoc] using h)
   ·rw [if_neg i];rw [if_neg i] at h;exact wB1 (wpAny_rule (wP1 (by simpa [Nat.add_assoc] using h)))
mutual
theorem qek:∀ k:TK,qig prog w k
 | .non=>fun b a h=>by cases a;exact qgL h
 | .int i=>fun b a h=>by cases a;exact wpAny_pyHash_int h
 | .tup xs=>ql2 (qhW xs)
theorem qhW:∀ ks:List TK,∀ k∈ks,qig prog w k
 | [],k,h=>by simp at h
 | x::xs,k,h=>by
  by_cases e:k=x
  ·rw [e];exact qek x
  ·exact qhW xs k ((List.mem_cons.mp h).resolve_left e)
end
end
theorem IsTK.inj {h:Heap}:∀ {k k':TK} {v:Value},IsTK h k v->IsTK h k' v->k=k':=fun m=>m.rec (motive_1:=fun k v _=>∀ k',IsTK h k' v->k=k') (motive_2:=fun k v _=>∀ k',qcF h k' v->k=k')
  (fun k' g=>by cases g;rfl) (fun _ _ k' g=>by cases g;rfl)
  (fun e p j n ih k' g=>by
   cases g with
   | tup d o c i=>
    rw [e] at d;cases d;rw [j] at c;cases c;rw [ih _ i])
  (fun k' g=>by cases g;rfl) (fun _ _ a b k' g=>by cases g with | cons l f=>rw [a _ l,b _ f]) _
theorem IsTK.keeps {h h':Heap}{d:Addr}{o:Obj}{es ep}(ho:h.get? d=some o)(hd:o.data = .dict es ep)(hs:Heap.SameBut d h h'):∀ {k:TK} {v:Value},IsTK h k v->IsTK h' k v:=fun f=>f.rec (motive_1:=fun k v _=>IsTK h' k v) (motive_2:=fun k v _=>qcF h' k v) .non .int
  (fun {a} _ _ _ _ e g c _ ih=>.tup ((hs.2 a (fun z=>by subst z;rw [e] at ho;cases ho;rw [c] at hd;cases hd)).trans e) g c ih) .nil (fun _ _ a b=>.cons a b)
theorem qcF.at {h:Heap}:∀ {ks:List TK} {vs:List Value} (j:Nat) (h1:j<ks.length) (h2:j<vs.length),qcF h ks vs->IsTK h ks[j] vs[j]
 | _::_,_::_,0,_,_,.cons r _=>r
 | _::ks,_::vs,j+1,h1,h2,.cons _ t=>qcF.at j (by simpa using h1) (by simpa using h2) t
theorem qmj {xs ys:List TK}(b:xs.length=ys.length):((List.range (min xs.length ys.length)).all fun j=>decide (xs[j]? = ys[j]?))=decide (xs=ys):=by
 by_cases h:xs=ys
 ·subst h;simp
 ·rw [decide_eq_false h,List.all_eq_false];have:∃ j,xs[j]? ≠ ys[j]?:=Classical.byContradiction fun z=>h (List.ext_getElem? fun j=>Classical.byContradiction fun q=>z ⟨j,q⟩);obtain ⟨j,a⟩:=this;refine ⟨j,?_,by simpa using a⟩;rw [List.mem_range,b,Nat.min_self];apply Classical.byContradiction;intro c;exact a (by rw [List.getElem?_eq_none (by lia),List.getElem?_eq_none (by lia)])
theorem qrM:∀ (n:Nat) {k k':TK} {A:Around} {s:Shared} {u v:Value},k.dep<=n->A.units+n<cLine->IsTK s.heap k u->IsTK s.heap k' v->SeqAt.EqAt A s u v (decide (k=k')):=by
 intro n
 induction n with
 | zero=>
  intro k k' A s u v hd Q r g;cases r with
  | tup _ _ _ _=>simp [TK.dep] at hd
  | non=>
   cases g with
   | non=>simpa using SeqAt.EqAt.same (A:=A) (s:=s) Value.none
   | int i t=>simpa [eqV] using qem (A:=A) (s:=s) (y:=.non) (x:=.int i) rfl ⟨t,rfl⟩ rfl rfl
   | tup e c d t=>simpa using (qaM (A:=A) (s:=s) (b:=false) (v:=.non) (u:=.none) ⟨_,e,c,_,d⟩ rfl rfl (by lia)).2.1
  | int i t=>
   cases g with
   | non=>simpa [eqV] using qem (A:=A) (s:=s) (y:=.int i) (x:=.non) ⟨t,rfl⟩ rfl rfl rfl
   | int j H=>
    have:=qem (A:=A) (s:=s) (y:=.int i) (x:=.int j) ⟨t,rfl⟩ ⟨H,rfl⟩ rfl rfl;have e:eqV (.int i) (.int j)=decide (TK.int i=TK.int j):=by
     by_cases h:i=j
     ·subst h;simp [eqV]
     ·rw [decide_eq_false (fun z=>h (by injection z))];simp [eqV,h]
    rw [e] at this;exact this
   | tup e c d q=>simpa using (qaM (A:=A) (s:=s) (b:=false) (v:=.int i) (u:=.int i t) ⟨_,e,c,_,d⟩ ⟨t,rfl⟩ rfl (by lia)).2.1
 | succ n ih=>
  intro k k' A s u v hd Q r g;cases r with
  | non=>
   cases g with
   | non=>simpa using SeqAt.EqAt.same (A:=A) (s:=s) Value.none
   | int i t=>simpa [eqV] using qem (A:=A) (s:=s) (y:=.non) (x:=.int i) rfl ⟨t,rfl⟩ rfl rfl
   | tup e c d t=>simpa using (qaM (A:=A) (s:=s) (b:=false) (v:=.non) (u:=.none) ⟨_,e,c,_,d⟩ rfl rfl (by lia)).2.1
  | int i t=>
   cases g with
   | non=>simpa [eqV] using qem (A:=A) (s:=s) (y:=.int i) (x:=.non) ⟨t,rfl⟩ rfl rfl rfl
   | int j H=>
    have:=qem (A:=A) (s:=s) (y:=.int i) (x:=.int j) ⟨t,rfl⟩ ⟨H,rfl⟩ rfl rfl;have e:eqV (.int i) (.int j)=decide (TK.int i=TK.int j):=by
     by_cases h:i=j
     ·subst h;simp [eqV]
     ·rw [decide_eq_false (fun z=>h (by injection z))];simp [eqV,h]
    rw [e] at this;exact this
   | tup e c d q=>simpa using (qaM (A:=A) (s:=s) (b:=false) (v:=.int i) (u:=.int i t) ⟨_,e,c,_,d⟩ ⟨t,rfl⟩ rfl (by lia)).2.1
  | @tup a o f m xs l p w F=>
   cases g with
   | non=>simpa using (qaM (A:=A) (s:=s) (b:=false) (v:=.non) (u:=.none) ⟨_,l,p,_,w⟩ rfl rfl (by lia)).1
   | int i t=>simpa using (qaM (A:=A) (s:=s) (b:=false) (v:=.int i) (u:=.int i t) ⟨_,l,p,_,w⟩ ⟨t,rfl⟩ rfl (by lia)).1
   | @tup R S items2 m2 ys M L N G=>
    by_cases I:a=R
    ·subst I;have:TK.tup xs=TK.tup ys:=IsTK.inj (.tup l p w F) (.tup M L N G);rw [decide_eq_true this];exact .same _
    ·refine .of_refs I ?_;have J:=F.split;have K:=G.split;have C:=SeqAt.RcAt.tuples (A:=A) (s:=s) (e:=fun j=>decide (xs[j]? = ys[j]?)) ⟨o,l,p,m,w⟩ ⟨S,M,L,m2,N⟩ (by lia) (fun j h1 h2=>by
      have E:j<xs.length:=by rw [J];simpa using h1
      have O:j<ys.length:=by rw [K];simpa using h2
      rw [TK.dep] at hd;have V:=TK.dep_mem (List.getElem_mem E);have q:=ih (k:=xs[j]) (k':=ys[j]) (A:=A.in1) (s:=s) (by lia) (by show A.units+1+n<cLine;lia) (F.at j E (by simpa using h1)) (G.at j O (by simpa using h2));have e:decide (xs[j]? = ys[j]?)=decide (xs[j]=ys[j]):=by
       rw [gG1 E,gG1 O];simp
      rw [e];simpa using q)
     have P:f.size=xs.length:=by rw [J];simp
     have U:items2.size=ys.length:=by rw [K];simp
     rw [P,U] at C;have D:((List.range (min xs.length ys.length)).all (fun j=>decide (xs[j]? = ys[j]?))&&xs.length == ys.length)=decide (TK.tup xs=TK.tup ys):=by
      by_cases B:xs.length=ys.length
      ·rw [qmj B,B,beq_self_eq_true,Bool.and_true];by_cases h:xs=ys
       ·subst h;simp
       ·rw [decide_eq_false h,decide_eq_false (fun z=>h (by injection z))]
      ·have T:(xs.length == ys.length)=false:=by simpa using B
       rw [T,Bool.and_false,decide_eq_false (fun z=>B (by injection z with z;rw [z]))]
     rw [D] at C;exact C
theorem qfa {prog:Program}{w:World}:∀ (n:Nat) {k:TK} {A:Around} {E:Value->Shared->Prop} {s:Shared} {v:Value} {Q:Bool->Shared->Prop},k.dep<=n->IsTK s.heap k v->Q true s->wpAny (model prog w) A (eqIsQuiet n v) Q E s:=by
 intro n
 induction n with
 | zero=>
  intro k A E s v Q hd r h;cases r with
  | non=>rw [eqIsQuiet_byValue 0 rfl];exact wP1 h
  | int i t=>rw [eqIsQuiet_byValue 0 rfl];exact wP1 h
  | tup _ _ _ _=>simp [TK.dep] at hd
 | succ n ih=>
  intro k A E s v Q hd r h;cases r with
  | non=>rw [eqIsQuiet_byValue _ rfl];exact wP1 h
  | int i t=>rw [eqIsQuiet_byValue _ rfl];exact wP1 h
  | @tup a o b m xs e j p f=>
   have d:s.TypeIs (.ref a) "tuple":=⟨o,e,j⟩;rw [TK.dep] at hd;unfold eqIsQuiet;refine wB1 (wpAny_specialOf d F.slot_tuple_eq.lookup ?_);show wpAny _ _ (isInstance (.ref a) (.type "tuple") >>= _) _ _ s;refine wB1 (wpAny_isInstance d isSubtype_tuple_tuple ?_);simp only [Bool.not_true,bF1,if_false];refine wB1 (wpAny_seqItems e p ?_);refine wB1 ?_;show wpAny _ _ (forIn b _ _) _ _ s;rw [<- Array.forIn_toList];refine wpAny_forIn_list _ (fun rest r s'=>r.1=none/\s'=s /\ ∃ ks,qcF s.heap ks rest/\TK.depAll ks<=n) _ ?_ ?_ _ _ ⟨rfl,rfl,xs,f,by lia⟩
   ·rintro v rest r s' ⟨c,rfl,ks,l,u⟩;cases l with
    | @cons q _ ks1 _ x g=>
     rw [TK.depAll] at u;refine wB1 (ih (k:=q) (by lia) x ?_);simp only [Bool.not_true,bF1,if_false];exact wP1 ⟨rfl,rfl,ks1,g,by lia⟩
   ·rintro ⟨y,r2⟩ s' ⟨c,rfl,_⟩;simp only at c;subst c;exact wP1 h
noncomputable def qc6 (prog:Program)(w:World):HeapKind prog w TK where
 is:=fun h k a=>IsTK h k (.ref a)/\k.dep<=8
 hash:=TK.hash
 draws:=TK.draws
 room:=fun A=>A.units+8<cLine
 inj:=fun hx hy=>hx.1.inj hy.1
 keeps:=fun x ho hd hs=>⟨x.1.keeps ho hd hs,x.2⟩
 pyHash:=fun hu hk h=>qek _ (by have:=hk.2;omega) hk.1 h
 eqBool:=fun hu hx hy h=>qrM 8 hx.2 hu hx.1 hy.1 _ _ _ _ h
 quiet:=fun hk h=>qfa 8 hk.2 hk.1 h
noncomputable def gExt:G2:=fun o v S=>match o,v with
 | .ref n,.ref b=>match S[n]?,S[b]? with
  | some (.lst xs),some (.lst ys)=>if xs.length+ys.length<=sizeLine then some (.non,S.set n (.lst (xs++ys))) else none
  | _,_=>none
 | _,_=>none
noncomputable def insN (n:Nat)(k:Int):Nat:=if k<0 then (k+(n:Int)).toNat else min k.toNat n
noncomputable def gIns:G3:=fun o i v S=>match o,i with
 | .ref n,.int k=>match S[n]? with
  | some (.lst xs)=>if-(2^63)<=k/\k<2^63/\xs.length<sizeLine then some (.non,S.set n (.lst (xs.take (insN xs.length k)++v::xs.drop (insN xs.length k)))) else none
  | _=>none
 | _,_=>none
noncomputable def eqsL (f:D->D->Option Bool)(x:D):List D->Option (List Bool)
 | []=>some []
 | y::ys=>(f y x).bind fun b=>(eqsL f x ys).map (b :: ·)
noncomputable def gIdx:G2:=fun o x S=>match o with
 | .ref n=>match S[n]? with
  | some (.lst ys)=>(eqsL (eqN S qav) x ys).bind fun bs=>if bs.length<2^62 then (bs.findIdx? id).map fun j=>(.int (j:Nat),S) else none
  | _=>none
 | _=>none
theorem qkq (f:D->D->Option Bool)(x:D):∀ {ys:List D} {bs:List Bool},eqsL f x ys=some bs->bs.length=ys.length /\ ∀ (j:Nat) (y:D) (k:Bool),ys[j]? = some y->bs[j]? = some k->f y x=some k
 | [],bs,h=>by cases h;exact ⟨rfl,fun j y k h=>by simp at h⟩
 | y::ys,bs,h=>by
  rw [eqsL] at h;obtain ⟨b,eb,h⟩:=oB1.mp h;obtain ⟨g,e,h⟩:=oM1.mp h;obtain ⟨c,d⟩:=qkq f x e;subst h;refine ⟨by simp [c],fun j=>?_⟩;cases j with
  | zero=>intro a k h1 h2;simp at h1 h2;subst h1;subst h2;exact eb
  | succ j=>intro a k h1 h2;exact d j a k (by simpa using h1) (by simpa using h2)
section
open PySem.MeetsSeq PySem.MeetsSeq2 PySem.MeetsSeq3 PySem.SeqRoads2
theorem qhU {l:Addr}{c:Array Value}{n:Nat}{x:Value}{e:Nat->Bool}{top:Int}{j:Nat}(o:j<c.size)(ht:(j:Int)<top)(f:e j=true):∀ (k i:Nat),i+k=j->(∀ m,i<=m->m<j->e m=false) ->
  Meets (Builtin.«list.index.loop» ⟨[.ref l,x,rawInt i,rawInt top],[]⟩)
   (fun A R s=>s.heap.get? l=some {cls:=.type "list",data:=.seq c n}/\(∀ m (h:m<c.size),SeqAt.EqAt A.in1 s c[m] x (e m))/\R (.ok (.ret (.int j s.toks))) {s with toks:=s.toks+1})
 | 0,i,hk,hno,prog,w,A,R,⟨hp,g,d,tk,os⟩,⟨hl,he,h⟩=>by
  have p:i=j:=by lia
  subst p
  wp_walk using AutoSeq1.wpAny_loadPart' hl
  rw [show (if (i:Int)<top then c[((i:Nat):Int).toNat]? else none)=some c[i] by simp [ht,o]];refine wB1 (he i o prog w _ _ ?_);rw [f]
  wp_walk
  exact h
 | k+1,i,hk,hno,prog,w,A,R,⟨hp,g,d,tk,os⟩,⟨hl,he,h⟩=>by
  have h1:i<c.size:=by lia
  have h2:(i:Int)<top:=by lia
  wp_walk using AutoSeq1.wpAny_loadPart' hl
  rw [show (if (i:Int)<top then c[((i:Nat):Int).toNat]? else none)=some c[i] by simp [h1,h2]];refine wB1 (he i h1 prog w _ _ ?_);rw [hno i (nR1 i) (by lia)]
  wp_walk
  rw [show ((i:Int)+1)=((i+1:Nat):Int) by push_cast;rfl];have z:=qhU (l:=l) (n:=n) (x:=x) o ht f k (i+1) (by lia) (fun m a b=>hno m (by lia) b) prog w A R _ ⟨hl,he,h⟩;exact ⟨plainId_quiet plain_index_loop _,wD1 entry_index_loop (by rw [Around.under_plainId plain_index_loop _];exact z)⟩
theorem ql0 {l:Addr}{a:Array Value}{n:Nat}{x:Value}{e:Nat->Bool}{j:Nat}(p:j<a.size)(ht:(j:Int)<2^63-1)(f:e j=true)(c:∀ m,m<j->e m=false):
  Meets (Builtin.«list.index» ⟨[.ref l,x],[]⟩)
   (fun A R s=>s.heap.get? l=some {cls:=.type "list",data:=.seq a n}/\(∀ m (h:m<a.size),SeqAt.EqAt A.in1 s a[m] x (e m))/\R (.ok (.ret (.int j s.toks))) {s with toks:=s.toks+1}):=by
 intro prog w A R ⟨r,g,d,tk,q⟩ ⟨k,o,h⟩
 wp_walk using AutoSeq1.wpAny_loadPart' k
 rw [show ((fun i:Int=>if i<0 then max 0 (i+(a.size:Int)) else i) ((none:Option Int).getD 0))=((0:Nat):Int) by simp,show ((fun i:Int=>if i<0 then max 0 (i+(a.size:Int)) else i) ((none:Option Int).getD (2^63-1)))=2^63-1 by simp];have z:=qhU (l:=l) (n:=n) (x:=x) p ht f j 0 (by lia) (fun m _ b=>c m b) prog w A R _ ⟨k,o,h⟩;exact ⟨plainId_quiet plain_index_loop _,wD1 entry_index_loop (by rw [Around.under_plainId plain_index_loop _];exact z)⟩
end
section
variable {X:Cx}
theorem qnn (Y:X.A.units+64<cLine):MtR X "list.index" (fun x xs H Q=>rN X.K (b2 gIdx) (x::xs) H Q):=by
 intro pins s σ H x xs v Z Q I E B h;obtain ⟨U,y,mu,S,d,e,r',W,N,K,r2,k,a,hc⟩:=rn2l h;cases N;unfold gIdx at a;split at a
 ·rename_i n;split at a
  ·rename_i ys G;obtain ⟨bs,eb,a⟩:=oB1.mp a;split at a
   ·rename_i o;obtain ⟨j,q,a⟩:=oM1.mp a;cases a;cases K with
    | ref P=>
     obtain ⟨vs,O,t⟩:=k.lst G P;cases E;obtain ⟨u,rfl,M⟩:=B.one;obtain ⟨z,b,J,c,hl,e⟩:=I.lstM O;obtain ⟨V,at1⟩:=qkq _ _ eb;have l2:=t.length;have T:=c.length;rw [List.findIdx?_eq_some_iff_getElem] at q;obtain ⟨D,l,f⟩:=q;have g:∀ m (a:m<b.toArray.size),SeqAt.EqAt X.A.in1 s b.toArray[m] u (bs[m]?.getD false):=fun m a=>by
      have m1:m<b.length:=by simpa using a
      obtain ⟨R,L,C⟩:=t.getV (i:=m) (v:=vs[m]'(by lia)) (gG1 (by lia));obtain ⟨w',p,r⟩:=c.get (i:=m) (x:=vs[m]'(by lia)) (gG1 (by lia));have m2:m<bs.length:=by lia
      have w:b.toArray[m]=w':=by
       have:=gG1 m1;rw [this] at p;simpa using p
      rw [w,gG1 m2];exact (qeQ I k qav (A:=X.A.in1) (by show X.A.units+1+60<cLine;lia) C r2 r M (at1 m R bs[m] L (gG1 m2))).1
     refine call_meets F.slot_list_index ⟨_,e,rfl⟩ F.entry_list_index (F.args_list_index_2 _ _)
      (ql0 (n:=J) (e:=fun m=>bs[m]?.getD false) (j:=j) (by simp;lia) (by lia) ?_ ?_) ⟨e,g,?_⟩
     ·simp only [gG1 D,Option.getD_some];simpa using l
     ·intro m a;have m2:m<bs.length:=by lia
      have:=f m a;simp only [gG1 m2,Option.getD_some];simpa using this
     ·exact ⟨.int j,H,I.tok _,⟨_,rfl⟩,hc.now (.int _) k⟩
   ·cases a
  ·cases a
 ·cases a
end
mutual
noncomputable def kD:D->Option TK
 | .non=>some .non
 | .int i=>some (.int i)
 | .tup xs=>(kDs xs).map .tup
 | _=>none
noncomputable def kDs:List D->Option (List TK)
 | []=>some []
 | x::xs=>(kD x).bind fun k=>(kDs xs).map (k :: ·)
end
noncomputable def keyT:D->Option TK
 | .tup xs=>(kDs xs).bind fun ks=>if (TK.tup ks).dep<=8 then some (.tup ks) else none
 | _=>none
mutual
theorem qs6:∀ {d:D} {k:TK},kD d=some k->tkD k=d
 | .non,k,h=>by cases h;rfl
 | .int i,k,h=>by cases h;rfl
 | .tup xs,k,h=>by
  rw [kD] at h;obtain ⟨ks,e,h⟩:=oM1.mp h;subst h;rw [tkD,qkb e]
 | .bl _,k,h=>by simp [kD] at h
 | .str _,k,h=>by simp [kD] at h
 | .rol _,k,h=>by simp [kD] at h
 | .fn _,k,h=>by simp [kD] at h
 | .ref _,k,h=>by simp [kD] at h
theorem qkb:∀ {ds:List D} {ks:List TK},kDs ds=some ks->tkDs ks=ds
 | [],ks,h=>by cases h;rfl
 | x::xs,ks,h=>by
  rw [kDs] at h;obtain ⟨k,b,h⟩:=oB1.mp h;obtain ⟨t,a,h⟩:=oM1.mp h;subst h;rw [tkDs,qs6 b,qkb a]
end
theorem qfp {d:D}{k:TK}(h:keyT d=some k):tkD k=d/\k.dep<=8 /\ ∃ xs,k = .tup xs:=by
 cases d with
 | tup xs=>
  rw [keyT] at h;obtain ⟨ks,e,h⟩:=oB1.mp h;split at h
  ·rename_i hd;cases h;exact ⟨by rw [tkD,qkb e],hd,ks,rfl⟩
  ·cases h
 | _=>cases h
section
variable {X:Cx} {pins:List (Addr×Obj)} {σ:L2.St} {H:Hp} {s:Shared} {mu:List Addr}
mutual
theorem qjd (I:Inv X pins σ H s):∀ (k:TK) {v:V} {u:Value},Rep X.K H mu (tkD k) v->RelV v u->IsTK s.heap k u
 | .non,v,u,r,q=>by
  rw [tkD] at r;cases r;cases q;exact .non
 | .int i,v,u,r,q=>by
  rw [tkD] at r;cases r;obtain ⟨t,rfl⟩:=q;exact .int i t
 | .tup xs,v,u,r,q=>by
  rw [tkD] at r;cases r with
  | tup h t=>
   cases q;obtain ⟨c,d,⟨o,a,b,n,e⟩,_⟩:=I.tuple h;exact .tup a b e (by simpa using qms I xs t d)
theorem qms (I:Inv X pins σ H s):∀ (ks:List TK) {vs:List V} {a:List Value},Reps X.K H mu (tkDs ks) vs->Vals vs a->qcF s.heap ks a
 | [],vs,a,r,q=>by rw [tkDs] at r;cases r;cases q;exact .nil
 | k::ks,vs,a,r,q=>by
  rw [tkDs] at r;cases r with
  | cons r t=>cases q with
   | cons q p=>exact .cons (qjd I k r q) (qms I ks t p)
end
theorem qis {α β γ δ:Type}{F:α->β->Prop}{G:γ->δ->Prop}{f:α->γ}{g:β->δ}:∀ {d:List α} {c:List β},Paired F d c->(∀ a b,F a b->G (f a) (g b))->Paired G (d.map f) (c.map g):=by
 intro a b h g
 induction h with
 | nil=>exact .nil
 | cons r t ih=>exact .cons (g _ _ r) ih
theorem qeK {α β:Type}{F:α->β->Prop}:∀ {f i:List α} {e j:List β},Paired F f e->Paired F i j->Paired F (f++i) (e++j):=by
 intro a b c d h g
 induction h with
 | nil=>exact g
 | cons r t ih=>exact .cons r ih
theorem KT.length {K:Fg1}:∀ {ks:List (TK×D)} {ws:List (TK×Addr×Value)},KT K H mu ks ws->ks.length=ws.length:=fun h=>Paired.length h
theorem KT.mem {K:Fg1}:∀ {ks:List (TK×D)} {ws:List (TK×Addr×Value)},KT K H mu ks ws -> ∀ x∈ws,x.1.dep<=8/\Rep K H mu (tkD x.1) (.ref x.2.1):=by
 intro ks ws a x h
 induction a with
 | nil=>cases h
 | cons r t ih=>
  rcases List.mem_cons.mp h with e | e
  ·subst e;rw [<- r.1];exact ⟨r.2.1,r.2.2.1⟩
  ·exact ih e
theorem KT.look {K:Fg1}{k:TK}:∀ {ks:List (TK×D)} {ws:List (TK×Addr×Value)},KT K H mu ks ws ->
  (∀ d,qao ks k=some d -> ∃ p v,atKey ws k=some p/\RelV v p.2/\Rep K H mu d v)/\(atKey ws k).isSome=(qao ks k).isSome:=by
 intro ks ws h
 induction h with
 | nil=>exact ⟨fun d h=>by simp [qao] at h,rfl⟩
 | @cons p l ks ws r t ih=>
  obtain ⟨b,e⟩:=p;obtain ⟨m,c,f⟩:=l;obtain ⟨z,d,q,v,g,r⟩:=r;dsimp only at z q g r;subst z;obtain ⟨h1,h2⟩:=ih;by_cases a:b=k
  ·subst a;refine ⟨fun d h=>?_,by simp [atKey,qao]⟩;have:e=d:=by simpa [qao] using h
   subst this;exact ⟨(c,f),v,by simp [atKey],g,r⟩
  ·have i:qao ((b,e)::ks) k=qao ks k:=by simp [qao,List.find?_cons,a]
   have j:atKey ((b,c,f)::ws) k=atKey ws k:=by simp [atKey,List.find?_cons,a]
   rw [i,j];exact ⟨h1,h2⟩
theorem KT.put {K:Fg1}{k:TK}{d:D}{v:V}{a:Addr}{u:Value}(hk:k.dep<=8)(j:Rep K H mu (tkD k) (.ref a))(g:RelV v u)(q:Rep K H mu d v){ks:List (TK×D)}{ws:List (TK×Addr×Value)}(h:KT K H mu ks ws):KT K H mu (putD ks k d) (storedH ws k a u):=by
 unfold putD storedH;have e:(ks.any fun p=>decide (p.1=k))=(atKey ws k).isSome:=by
  rw [h.look.2];unfold qao;rw [Option.isSome_map,Bool.eq_iff_iff,List.find?_isSome,List.any_eq_true]
 rw [e];split
 ·clear e;refine qis h fun p w ⟨z,i,f,l,c,m⟩=>?_;unfold putAt;by_cases b:p.1=k
  ·rw [if_pos b,if_pos (by rw [<- z];exact b)];exact ⟨z,i,f,v,g,q⟩
  ·rw [if_neg b,if_neg (by rw [<- z];exact b)];exact ⟨z,i,f,l,c,m⟩
 ·exact qeK h (.cons ⟨rfl,hk,j,v,g,q⟩ .nil)
theorem qme (I:Inv X pins σ H s){a:Addr}{xs:List (TK×Addr×Value)}{kvs:List (TK×D)}(e:H a=some (.ext (qdk a xs)))(h:KT X.K H mu kvs xs):(a == sysModules)=false/\s.heap.DictOfH (qc6 X.prog X.w) a xs:=by
 obtain ⟨⟨h1,h2,o,es,ep,d,c,f,g⟩,_⟩:=(show qaL X.prog X.w H s.heap a (.ext (qdk a xs)) from I.hok a _ e);exact ⟨h1,o,es,ep,d,c,f,g,fun x b=>⟨qjd I _ (h.mem x b).2 rfl,(h.mem x b).1⟩,h2⟩
theorem qkn {h:Heap}{a:Addr}{xs:List (TK×Addr×Value)}(hd:(a == sysModules)=false)(hm:h.DictOfH (qc6 X.prog X.w) a xs):qaL X.prog X.w H h a (.ext (qdk a xs)):=by
 obtain ⟨o,es,ep,d,n,m,e,p,g⟩:=hm;refine ⟨⟨hd,g,o,es,ep,d,n,m,e⟩,⟨o,d⟩,fun q r ⟨l,i,o',b,c,b3,f,j,k⟩ st=>⟨l,i,o',b,c,st _ b3,f,j,k⟩⟩
end
noncomputable def gInY:G2:=fun d e S=>match e with
 | .ref n=>match S[n]? with
  | some (.dcT kvs)=>(keyT d).map fun k=>(.bl (qao kvs k).isSome,S)
  | _=>gInX d e S
 | _=>gInX d e S
noncomputable def qbT:G2:=fun d e S=>match e with
 | .ref n=>match S[n]? with
  | some (.dcT kvs)=>(keyT d).map fun k=>(.bl (!(qao kvs k).isSome),S)
  | _=>qdw d e S
 | _=>qdw d e S
noncomputable def gIxY:G2:=fun d e S=>match d with
 | .ref n=>match S[n]? with
  | some (.dcT kvs)=>(keyT e).bind fun k=>(qao kvs k).map fun x=>(x,S)
  | some (.dcF kvs)=>(keyT e).bind fun k=>(qao kvs k).map fun x=>(x,S)
  | _=>gIxX d e S
 | _=>gIxX d e S
noncomputable def qbS:G3:=fun o i v S=>match o with
 | .ref n=>match S[n]? with
  | some (.dcT kvs)=>(keyT i).bind fun k=>if kvs.length<sizeLine then some (.non,S.set n (.dcT (putD kvs k v))) else none
  | some (.dct [])=>match keyT i with
   | some k=>some (.non,S.set n (.dcT [(k,v)]))
   | none=>qfq o i v S
  | _=>qfq o i v S
 | _=>qfq o i v S
section
variable {X:Cx}
theorem qg4 {κ:Type}[DecidableEq κ](kvs:List (κ×D))(k:κ)(d:D):(putD kvs k d).length<=kvs.length+1:=by
 unfold putD;split
 ·rw [lM1];lia
 ·simp
theorem qh1 {h:Heap}{a:Addr}(d:h.DictOf (qa3 X.prog X.w) a []):h.DictOfH (qc6 X.prog X.w) a []:=by
 obtain ⟨o,es,ep,h1,h2,c,_,b,_⟩:=d;have e:es.toList=[]:=by
  generalize es.toList=l at b;cases b;rfl
 exact ⟨o,es,ep,h1,h2,c,e,(fun x f=>by simp at f),List.nodup_nil⟩
theorem qeb {A:Around}(a:A.units+64<cLine):(qc6 X.prog X.w).room A.in1:=by
 show A.units+1+8<cLine;lia
theorem qdG {pins:List (Addr×Obj)}{σ:L2.St}{H:Hp}{s:Shared}{mu:List Addr}(I:Inv X pins σ H s){d:D}{v:V}{u:Value}{k:TK}(r:Rep X.K H mu d v)(q:RelV v u)(h:keyT d=some k):
  ∃ a,u = .ref a/\v = .ref a/\Rep X.K H mu (tkD k) (.ref a)/\k.dep<=8/\(qc6 X.prog X.w).is s.heap k a:=by
 obtain ⟨e,hd,xs,ex⟩:=qfp h;subst e;have is:=qjd I k r q;subst ex;cases id is with
 | @tup a _ _ _ _ _ _ _ _=>
  rw [tkD] at r;cases r with
  | tup h1 h2=>
   cases q;exact ⟨a,rfl,rfl,by rw [tkD];exact .tup h1 h2,hd,is,hd⟩
theorem qhG (g:X.A.units+64<cLine):OpR X (compareOp .NotIn) (r2 X.K (b2 qbT)):=by
 intro pins s σ H x y u w Q I i j h;obtain ⟨mu,S,d,e,r,o,l,c,f,b,hc⟩:=rn2 h;have back:qdw d e S=some (r,o)->wpAny (model X.prog X.w) X.A (compareOp .NotIn u w) (EP X pins σ Q) X.xe s:=fun b=>qlE g pins s σ H x y u w Q I i j ⟨mu,S,[d,e],r,o,.cons l (.cons c .nil),f,b,hc⟩;unfold qbT at b;split at b
 ·rename_i n;split at b
  ·rename_i kvs q;obtain ⟨k,p,b⟩:=oM1.mp b;cases b;cases c with
   | ref v=>
    cases j;obtain ⟨xs,z,m,_⟩:=f.dcT q v;obtain ⟨hd,t⟩:=qme I z m;obtain ⟨a,rfl,rfl,_,_,hi⟩:=qdG I l i p;refine wpAny_notIn_heap (qeb g) hi hd t ?_;exact ⟨.bl (!(atKey xs k).isSome),H,I.tok _,rfl,by rw [m.look.2];exact hc.now (.bl _) f⟩
  ·exact back b
 ·exact back b
theorem qrR {pins:List (Addr×Obj)}{σ:L2.St}{H:Hp}{s:Shared}{mu:List Addr}(I:Inv X pins σ H s){a:Addr}{xs:List (TK×Addr×Value)}{kvs:List (TK×D)}(e:∃ o u,H a=some (.frz o u)/\qsk a xs o)(h:KT X.K H mu kvs xs):(a == sysModules)=false/\s.heap.DictOfH (qc6 X.prog X.w) a xs:=by
 obtain ⟨o,u,e,h1,h2,g,es,ep,f,c⟩:=e;obtain ⟨d,_⟩:=(show qaL X.prog X.w H s.heap a (.frz o u) from I.hok a _ e);exact ⟨h1,o,es,ep,d,g,f,c,fun x b=>⟨qjd I _ (h.mem x b).2 rfl,(h.mem x b).1⟩,h2⟩
theorem qP (F:X.A.units+64<cLine):IxR X (r2 X.K (b2 gIxY)):=by
 intro value c pins s σ H x y v u Q I B J h m;obtain ⟨mu,S,d,e,r,w,D,o,t,f,hc⟩:=rn2 h;have back:gIxX d e S=some (r,w)->wpAny (model X.prog X.w) X.A (subscriptTail value c v u) (EP X pins σ Q) X.xe s:=fun f=>qsm F value c pins s σ H x y v u Q I B J ⟨mu,S,[d,e],r,w,.cons D (.cons o .nil),t,f,hc⟩ m;have g:∀ kvs a xs,v = .ref a->KT X.K H mu kvs xs->s.heap.DictOfH (qc6 X.prog X.w) a xs->((keyT e).bind fun k=>(qao kvs k).map fun x=>(x,S))=some (r,w)->wpAny (model X.prog X.w) X.A (subscriptTail value c v u) (EP X pins σ Q) X.xe s:=fun kvs a xs R l G f=>by
  obtain ⟨k,P,f⟩:=oB1.mp f;obtain ⟨z,M,f⟩:=oM1.mp f;cases f;subst R;obtain ⟨b,rfl,rfl,_,_,hi⟩:=qdG I o J P;obtain ⟨p,L,ep,O,N⟩:=l.look.1 _ M;have K:=G.typeIs;unfold subscriptTail;refine wB1 ?_;rw [getitemInPython_of_ne K.not_modules];refine wB1 (wpAny_specialOf K PySem.F.slot_dict_getitem.lookup ?_);have j:wpAny (model X.prog X.w) X.A (subscripted c false (.ref a) (.ref b)) (fun r i=>wpAny (model X.prog X.w) X.A (letTemporaryGo value (.ref a) r >>= fun _=>pure r) (EP X pins σ Q) X.xe i) X.xe s:=by
   rw [m];exact wpAny_operating (wpAny_mono (wpAny_getItem_heap (qeb F) hi G ep (show EP X pins σ Q p.2 _ from ⟨L,H,I.tok _,O,hc.now N t⟩)) (fun r i q=>wB1 (wpAny_letTemporaryGo (wP1 q))) fun _ _ x=>x)
  first
   | exact wP1 (wB1 j)
   | exact wB1 j
   | exact j
 unfold gIxY at f;split at f
 ·rename_i n;split at f
  ·rename_i kvs C;cases D with
   | @ref _ a A=>
    cases B;obtain ⟨xs,E,l,_⟩:=t.dcT C A;exact g kvs a xs rfl l (qme I E l).2 f
  ·rename_i kvs C;cases D with
   | @ref _ a A=>
    cases B;obtain ⟨xs,E,l,_⟩:=(show ObR X.K H mu a (.dcF kvs) from t.ob n _ a C A);exact g kvs a xs rfl l (qrR I E l).2 f
  ·exact back f
 ·exact back f
theorem qcI (D:X.A.units+64<cLine):PSet X (rU X.K (b3 qbS)):=by
 intro pins s σ H o i v P T u Q I A C r h;obtain ⟨mu,S,ds,d,N,Z,m,a,hc⟩:=id h;cases Z with
 | cons E U=>cases U with
  | cons B W=>cases W with
   | cons w Y=>
    cases Y;rename_i O R M;dsimp only [b3] at a;have back:qfq O R M S=some (d,N)->wpAny (model X.prog X.w) X.A (setItem P T u) (fun _ s'=>∃ H',Inv X pins σ H' s'/\Q H') X.xe s:=fun a=>qpW D pins s σ H o i v P T u Q I A C r ⟨mu,S,[O,R,M],d,N,.cons E (.cons B (.cons w .nil)),m,a,hc⟩;unfold qbS at a;split at a
    ·rename_i n;split at a
     ·rename_i kvs J;obtain ⟨k,F,a⟩:=oB1.mp a;split at a
      ·rename_i hl;cases a;cases E with
       | @ref _ j g=>
        cases A;obtain ⟨xs,x,l,V⟩:=m.dcT J g;obtain ⟨hd,L⟩:=qme I x l;obtain ⟨b,rfl,rfl,y,t,hi⟩:=qdG I B C F;refine wpAny_setItem_heap (hsz:=V) (qeb D) hi L fun h' e c=>?_;have f:∃ q,h'.get? _=some q:=let ⟨q,_,_,f,_⟩:=e;⟨q,f⟩
        have put:Ext mu mu H (upd H j (.ext (qdk j (storedH xs k b u)))):=Ext.put x trivial (gM1 g);refine ⟨_,qdy I (by rw [x];exact True.intro) c f (qkn hd e),hc _ mu put (m.put g x trivial ⟨_,qas,((l.put t y r w).ext put),?_⟩)⟩;rw [<- (l.put t y r w).length];have:=qg4 kvs k M;lia
      ·cases a
     ·rename_i J;split at a
      ·rename_i k F;cases a;cases E with
       | @ref _ j g=>
        cases A;obtain ⟨ws,p,l⟩:=m.dct J g;cases l;obtain ⟨z,hd,vs,G,L⟩:=qo9 I.hok p;cases G;obtain ⟨b,rfl,rfl,y,t,hi⟩:=qdG I B C F;have K:s.heap.DictOfH (qc6 X.prog X.w) _ []:=qh1 L;refine wpAny_setItem_heap (hsz:=Nat.zero_le _) (qeb D) hi K fun h' e c=>?_;have f:∃ q,h'.get? _=some q:=let ⟨q,_,_,f,_⟩:=e;⟨q,f⟩
        have put:Ext mu mu H (upd H j (.ext (qdk j (storedH [] k b u)))):=Ext.put p trivial (gM1 g);exact ⟨_,qdy I (by rw [p];exact True.intro) c f (qkn hd e),hc _ mu put (m.put g p trivial ⟨_,qas,KT.ext put (.cons ⟨rfl,t,y,v,r,w⟩ .nil),(show 1<=sizeLine by decide)⟩)⟩
      ·exact back a
     ·exact back a
    ·exact back a
end
noncomputable def qss (i j k:Nat)(ta:TA):TS:=fun D σ H=>ta σ H fun vs H1=>∃ u v w,vs=[u,v,w]/\D.nx (((σ.set i (some u)).set j (some v)).set k (some w)) H1
theorem qnN {X:Cx}{i j k:Nat}{x y z:Str}{es:List Expr}{ta:TA}{n B A pt pos:Pos}{kt k2 pt2}(hc:X.calm=true)(hN:X.N.Nodup)(hi:X.N[i]? = some x)(M:X.N[j]? = some y)(hk:X.N[k]? = some z)(m:i≠j)(r:i≠k)(w:j≠k)
  (hx:X.env.scope.names.lookup x=some .local) (hy:X.env.scope.names.lookup y=some .local) (hz:X.env.scope.names.lookup z=some .local) (ha:PA X es ta)
  (hw:swappedStores [.Tuple [.Name x n,.Name y B,.Name z A] kt pt] (.Tuple es k2 pt2) X.env=pure (some [x,y,z]))
  (hs:swapsWithSole [.Tuple [.Name x n,.Name y B,.Name z A] kt pt] (.Tuple es k2 pt2) pos.line X.env=pure false):
  PS X (.Assign [.Tuple [.Name x n,.Name y B,.Name z A] kt pt] (.Tuple es k2 pt2) pos) (qss i j k ta):=by
 intro pins s σ H D I h;rw [exec_Assign_arm];refine wB1 (wpAny_standAt ?_);rw [hs];refine wB1 (wP1 ?_);rw [if_neg (by decide)];refine wB1 (Tuple_ (thn (ha _ pins s σ H _ I h) fun L g ⟨vs,H1,F,N,a,b,c,P,u⟩=>?_));subst P;obtain ⟨d,f,u3,rfl,ra,R,E⟩:∃ d f u3,L=[d,f,u3]/\RelV a d/\RelV b f/\RelV c u3:=by
  cases N with
  | cons p t=>cases t with
   | cons Q t=>cases t with
    | cons q t=>cases t;exact ⟨_,_,_,rfl,p,Q,q⟩
 refine wO1 ?_ (by show 3<=sizeLine;decide);have J:Inv X pins σ H1 {g with heap:=g.heap.push {cls:=.type "tuple",data:=.seq [d,f,u3].toArray}}:=F.kept (t':=g.toks) fun b o e=>hP1 _ e;rw [hw];refine wB1 (wP1 ?_);show wpAny (model X.prog X.w) X.A (do rule "assign.swapped-stores";let items<-unpackItems (.ref g.heap.objs.size) 3 none;assignInOrder [fun v=>bindName X.env z v,fun v=>bindName X.env y v,fun v=>bindName X.env x v] items.reverse;pure Flow.next) _ _ _;refine wB1 (wpAny_rule (wB1 (unpackItems_tuple (items:= #[d,f,u3]) (I.ok.hd hc) (IsTup.new g.heap _) fun h' l=>?_)));have G:=J.kept (h':=h') (t':=g.toks) fun b o e=>l b o (nN1 (hL1 e)) e;show wpAny _ _ (assignInOrder [fun v=>bindName X.env z v,fun v=>bindName X.env y v,fun v=>bindName X.env x v] [u3,f,d] >>= fun _=>pure Flow.next) _ _ _;refine wB1 (assignInOrder_cons (wpAny_bindName (qbE G hN hk (.inl hz) E (fun T O=>?_) (.inr hz))));refine assignInOrder_cons (wpAny_bindName (qbE O hN M (.inl hy) R (fun S K=>?_) (.inr hy)));refine assignInOrder_cons (wpAny_bindName (qbE K hN hi (.inl hx) ra (fun U C=>assignInOrder_nil (wP1 ?_)) (.inr hx)));rw [List.set_comm _ _ (Ne.symm m),List.set_comm _ _ (Ne.symm r),List.set_comm _ _ (Ne.symm w)] at C;exact ⟨_,H1,C,u⟩
theorem qkV {X:Cx} (i j k:Nat) {x y z:Str} {es:List Expr} {m:FA} {h p o pt pos:Pos} {kt k2 pt2} (hc:X.calm=true) (hN:X.N.Nodup) (hi:X.N[i]? = some x) (A:X.N[j]? = some y) (hk:X.N[k]? = some z) (g:i≠j) (l:i≠k) (n:j≠k)
  (hx:X.env.scope.names.lookup x=some .local) (hy:X.env.scope.names.lookup y=some .local) (hz:X.env.scope.names.lookup z=some .local) (ha:XA X es m)
  (hw:swappedStores [.Tuple [.Name x h,.Name y p,.Name z o] kt pt] (.Tuple es k2 pt2) X.env=pure (some [x,y,z]):=by rfl)
  (hs:swapsWithSole [.Tuple [.Name x h,.Name y p,.Name z o] kt pt] (.Tuple es k2 pt2) pos.line X.env=pure false:=by rfl):
  XS X (.Assign [.Tuple [.Name x h,.Name y p,.Name z o] kt pt] (.Tuple es k2 pt2) pos) (mAsg (mTup m) (gT 3 (gCs (gN i) (gCs (gN j) (gCs (gN k) gNl))))):=
 ⟨qcs (qnN hc hN hi A hk g l n hx hy hz ha.h hw hs) <| by
  rintro E σ H ⟨r,mu,S,f,G,D,q,hs,e,hc⟩;obtain ⟨⟨d,F⟩,c,e⟩:=oB1.mp e;obtain ⟨⟨r2,I⟩,a,e⟩:=oB1.mp e;cases e;obtain ⟨⟨ds,C⟩,u,c⟩:=oB1.mp c;dsimp only at c;split at c
  ·cases c;refine ⟨r,mu,S,ds,_,q,hs,u,fun vs H1 mu1 s b v=>?_⟩;dsimp only at a;rw [gT] at a;split at a
   ·cases b with
    | nil=>cases a
    | cons w b=>cases b with
     | nil=>cases a
     | cons t b=>cases b with
      | nil=>cases a
      | cons B b=>cases b with
       | nil=>
        cases a;exact ⟨_,_,_,rfl,hc _ H1 mu1 s ((((q.ext s).set w).set t).set B) v⟩
       | cons _ _=>cases a
   ·cases a
  ·cases c⟩
noncomputable def truD (S:Sto)(d:D):Option Bool:=match d with
 | .non=>some false
 | .bl b=>some b
 | .int i=>some (i != 0)
 | .str y=>if y.length<=sizeLine then some ((y.length:Int) != 0) else none
 | .ref n=>match S[n]? with
  | some (.dct kvs)=>some (!kvs.isEmpty)
  | _=>(qap S d).map fun p=> !p.2.isEmpty
 | _=>(qap S d).map fun p=> !p.2.isEmpty
noncomputable def mTr (m:FE):FT:=fun r S=>(m r S).bind fun p=>(truD p.2 p.1).map fun b=>(b,p.2)
section
variable {K:Fg1} {H:Hp} {mu:List Addr} {S:Sto}
theorem qgF {d:D}{v:V}{b:Bool}(r:Rep K H mu d v)(s:Sim K H mu S)(h:((qap S d).map fun p=> !p.2.isEmpty)=some b):TruV K v H b:=by
 obtain ⟨⟨k,xs⟩,e,h⟩:=oM1.mp h;obtain ⟨a,vs,rfl,q,t⟩:=qal r s e;have z:(!xs.isEmpty) = !vs.isEmpty:=by cases t<;>rfl
 dsimp only at h;rw [z] at h;cases k
 ·exact .inr (.inl ⟨vs,q,h.symm⟩)
 ·exact .inl ⟨vs,q,h.symm⟩
theorem qpG {d:D}{v:V}{b:Bool}(r:Rep K H mu d v)(s:Sim K H mu S)(h:truD S d=some b):TruV K v H b:=by
 cases d with
 | non=>cases r;cases h;rfl
 | bl k=>cases r;cases h;rfl
 | int i=>cases r;cases h;rfl
 | str y=>
  rw [truD] at h;split at h
  ·rename_i f;cases r;cases h;exact ⟨f,rfl⟩
  ·cases h
 | tup xs=>exact qgF r s h
 | rol xs=>exact qgF r s h
 | fn x=>cases h
 | ref n=>
  rw [truD] at h;split at h
  ·rename_i kvs a;cases h;cases r with
   | ref g=>
    obtain ⟨ws,c,e⟩:=s.dct a g;refine .inr (.inr ⟨ws,c,?_⟩);cases e<;>rfl
  ·exact qgF r s h
end
theorem qb5 {X:Cx}{x:Expr}{f:FE}(h:XE X x f)(he:∀ a,isTrue x X.env a=(do let v<-a;standAt x.pos;holding [v] (truthy v)):=by intro _;rfl):XT X x (mTr f):=
 ⟨qhA (qlj h.h he) <| by
  rintro σ H Q ⟨r,mu,S,b,m,he,e,c,hc⟩;obtain ⟨⟨l,n⟩,g,c⟩:=oB1.mp c;obtain ⟨b1,j,c⟩:=oM1.mp c;cases c;exact ⟨r,mu,S,_,_,he,e,g,fun v H1 mu1 i k d=>⟨_,qpG k d j,hc H1 mu1 i d⟩⟩⟩
section
variable {X:Cx} {pins:List (Addr×Obj)} {σ:L2.St} {H:Hp} {s:Shared} {mu:List Addr}
end
section
variable {X:Cx}
noncomputable def qmS:List D->Option (List Int)
 | []=>some []
 | .int i::ds=>(qmS ds).map fun is=>i::is
 | _=>none
noncomputable def ddI (ns:List Int):List Int:=ns.foldl step_dedup []
noncomputable def qtz:G1:=fun d S=>match qap S d with
 | some (true,xs)=>(qmS xs).bind fun ns=>if ns.length+1<scanBound then some (.ref S.length,S++[.iset (ddI ns)]) else none
 | _=>none
noncomputable def gLenS:G1:=fun d S=>match d with
 | .ref n=>match S[n]? with
  | some (.iset xs)=>some (.int xs.length,S)
  | _=>gLen d S
 | _=>gLen d S
noncomputable def qkh:G2:=fun d e S=>match d,e with
 | .ref n,.int k=>match S[n]? with
  | some (.lst xs)=>if-(2^63)<=k/\k<2^63/\xs.length*k.toNat<=sizeLine then some (.ref S.length,S++[.lst (List.replicate k.toNat xs).flatten]) else none
  | _=>none
 | _,_=>none
theorem Reps.rep {K:Fg1}{H:Hp}{mu:List Addr}{ds:List D}{vs:List V}(r:Reps K H mu ds vs):∀ k:Nat,Reps K H mu (List.replicate k ds).flatten (List.replicate k vs).flatten
 | 0=>.nil
 | k+1=>by rw [List.replicate_succ,List.replicate_succ,List.flatten_cons,List.flatten_cons];exact Reps.append r (Reps.rep r k)
theorem qqS:OpR X (binaryOp .Mult) (r2 X.K (b2 qkh)):=by
 intro pins s σ H x y u w Q I i l h;obtain ⟨mu,S,d,e,r,q,m,r2,b,a,hc⟩:=rn2 h;unfold qkh at a;split at a
 ·rename_i n k;split at a
  ·rename_i xs j;split at a
   ·rename_i c;cases a;cases m with
    | ref o=>
     cases r2;obtain ⟨vs,g,t⟩:=b.lst j o;refine qqG pins s σ H _ _ u w Q I i l ⟨_,k,vs,rfl,rfl,g,c.1,c.2.1,by rw [<- t.length];exact c.2.2,fun p f=>?_⟩;exact hc _ _ (mu++[p]) (Ext.new_ f) (.ref (qcO b.len p)) (b.newL (Reps.rep t k.toNat) f)
   ·cases a
  ·cases a
 ·cases a
end
@[elab_as_elim] theorem ln0 {P:List Value->Prop}{us:List Value}(l:us.length=0)(f:P []):P us:=by
 cases us with
 | nil=>exact f
 | cons _ _=>cases l
@[elab_as_elim] theorem ln1 {P:List Value->Prop}{us:List Value}(l:us.length=1)(f:∀ a,P [a]):P us:=by
 cases us with
 | nil=>cases l
 | cons a us=>exact ln0 (P:=fun us=>P (a::us)) (Nat.succ.inj l) (f a)
@[elab_as_elim] theorem ln2 {P:List Value->Prop}{us:List Value}(l:us.length=2)(f:∀ a b,P [a,b]):P us:=by
 cases us with
 | nil=>cases l
 | cons a us=>exact ln1 (P:=fun us=>P (a::us)) (Nat.succ.inj l) (f a)
@[elab_as_elim] theorem ln3 {P:List Value->Prop}{us:List Value}(l:us.length=3)(f:∀ a b c,P [a,b,c]):P us:=by
 cases us with
 | nil=>cases l
 | cons a us=>exact ln2 (P:=fun us=>P (a::us)) (Nat.succ.inj l) (f a)
@[elab_as_elim] theorem ln4 {P:List Value->Prop}{us:List Value}(l:us.length=4)(f:∀ a b c d,P [a,b,c,d]):P us:=by
 cases us with
 | nil=>cases l
 | cons a us=>exact ln3 (P:=fun us=>P (a::us)) (Nat.succ.inj l) (f a)
@[elab_as_elim] theorem ln5 {P:List Value->Prop}{us:List Value}(l:us.length=5)(f:∀ a b c d e,P [a,b,c,d,e]):P us:=by
 cases us with
 | nil=>cases l
 | cons a us=>exact ln4 (P:=fun us=>P (a::us)) (Nat.succ.inj l) (f a)
end Mi
namespace HT
open PySem PySem.Spec PyProof.Rows
variable {prog:Program} {w:World} {A:Around} {E:Value->Shared->Prop} {s:Shared}
end HT
namespace Mi
open PySem PySem.Spec PyProof.Rows L2
section
variable {X:Cx}
end
end Mi
namespace HT
open PySem PySem.Spec PyProof.Rows
section
variable {prog:Program} {w:World} {A:Around} {R:Result->Shared->Prop} {I ax L:Addr} {xs:Array Value}
end
section
variable {prog:Program} {w:World} {A:Around} {E:Value->Shared->Prop} {s:Shared}
end
end HT
namespace Mi
open PySem PySem.Spec PyProof.Rows L2
section
variable {X:Cx}
end
section
variable {elt tg iter tg2 iter2 tg3 iter3:Expr} {ifs ifs2 ifs3:List Expr} {scope:Scope} {pos:Pos}
end
section
variable {X:Cx}
end
noncomputable def qg8:List D->Option (List Int)
 | []=>some []
 | .int i::l=>(qg8 l).map fun t=>i::t
 | _=>none
section
variable {X:Cx}
theorem qke {K:Fg1}{H:Hp}{mu:List Addr}:∀ {ds:List D} {vs:List V} {a:List Value} {ns:List Int},Reps K H mu ds vs->Vals vs a->qg8 ds=some ns->IntsAre a ns:=by
 intro ds
 induction ds with
 | nil=>intro vs a ns r v h;cases r;cases v;cases h;exact .nil
 | cons d ds ih=>
  intro vs a ns r v h;cases r with
  | cons c t=>
   cases v with
   | cons f b=>
    cases c
    case int i=>
     obtain ⟨m,e,h⟩:=oM1.mp h;subst h;obtain ⟨tk,rfl⟩:=f;exact .cons i tk (ih t b e)
    all_goals cases h
end
end Mi
namespace Mi
open PySem PySem.Spec PyProof.Rows L2
section
variable {X:Cx}
end
theorem qaw (n:Nat):∀ ns:List Int,D.unds n (ns.map D.int)=true
 | []=>rfl
 | _::ns=>by rw [mP1,D.unds,qaw n ns];rfl
theorem qoY {n:Nat}{d:D}{S:Sto}(h:S.length=n):gc n (d,S)=(d,S):=by
 unfold gc;split
 ·rw [show (d,S).2=S from rfl,<- h,List.take_length]
 ·rfl
theorem qgl {n:Nat}{f:FN}{ds:List D}{S S1:Sto}{d:D}(h:f ds []=some (d,S1))(hn:ds.length=n)(a:D.unds 0 ds=true)(hd:d.und 0=true):qaf n f ds S=some (d,S):=by
 unfold qaf callG;rw [if_pos hn,if_pos a,h,oP1,if_pos hd]
theorem qfy {n:Nat}{f:FN}{ds:List D}{S S1:Sto}{d:D}(h:f ds []=some (d,S1))(hn:ds.length=n)(a:D.unds 0 ds=true)(hd:d.und 0=false):qaf n f ds S=some (d.sh S.length,S++S1.map (Ob.sh S.length)):=by
 unfold qaf callG;rw [if_pos hn,if_pos a,h,oP1,if_neg (by dsimp only;rw [hd];decide)]
theorem qeq {n:Nat}{f:FN}{ds:List D}{S S1:Sto}{d:D}(h:f ds S=some (d,S1))(hn:ds.length=n)(a:D.unds 0 ds=false):qaf n f ds S=some (gc S.length (d,S1)):=by
 unfold qaf callG;rw [if_pos hn,if_neg (by rw [a];decide),h,oP1]
theorem qkH {n:Nat}{f:FN}{ds:List D}{S S1:Sto}{d:D}(h:f ds S=some (d,S1))(hn:ds.length=n)(b:D.unds 0 ds=false)(a:S1.length=S.length):qaf n f ds S=some (d,S1):=by
 rw [qeq h hn b,qoY a]
theorem qjY {a b:FS}{r c:Ev}{S S1:Sto}(h:a r S=some (.nx,c,S1)):mSeq a b r S=b c S1:=by unfold mSeq;rw [h];rfl
theorem qlJ {i j:Int}(h1: -(2^64)<i)(h2:i<2^64):qba i j=true:=by
 unfold qba;simp only [Bool.or_eq_true,bA1,decide_eq_true_eq];exact .inl (.inl ⟨h1,h2⟩)
theorem qog {i j:Int}(h1: -(2^64)<j)(h2:j<2^64):qba i j=true:=by
 unfold qba;simp only [Bool.or_eq_true,bA1,decide_eq_true_eq];exact .inl (.inr ⟨h1,h2⟩)
theorem qbA {S:Sto}{n:Nat}{xs:List D}(h:S[n]? = some (.lst xs)):okC S [(n,xs)]=true:=by
 rw [okC,h];simp [D.sames_refl,okC]
noncomputable def refs (n:Nat):Nat->List D
 | 0=>[]
 | k+1=>.ref n::refs (n+1) k
theorem qeZ {n:Nat}:∀ {xs:List D} {x:D},D.unds n xs=true->x∈xs->x.und n=true
 | y::ys,x,h,hx=>by
  rw [D.unds,bA1] at h;rcases List.mem_cons.mp hx with e | e
  ·rw [e];exact h.1
  ·exact qeZ h.2 e
open Classical in
section
variable {prog:Program} {w:World} {A:Around} {E:Value->Shared->Prop} {s:Shared} {κ:SortKind} {ws:List Value} {a₀:Array Keyed}
end
section
variable {prog:Program} {w:World} {A:Around} {E:Value->Shared->Prop} {s:Shared}
end
section
variable {prog:Program} {w:World} {A:Around} {E:Value->Shared->Prop} {R:Result->Shared->Prop}
end
section
variable {prog:Program} {w:World} {A:Around} {E:Value->Shared->Prop} {s:Shared}
end
section
variable {X:Cx}
end
noncomputable abbrev KtIs (h:Heap)(it d:Addr)(i n ep:Nat):Prop:=h.get? it=some {cls:=.type "dict_keyiterator",dict:=none,data:=.fields #[.ref d,.int i 0,.int n 0,.int ep 0],slots:= #[]}
section
variable {prog:Program} {w:World} {A:Around} {E:Value->Shared->Prop} {s:Shared}
theorem qoH {it d:Addr}{i ep:Nat}{es:Array DictEntry}{o:Obj}{Q:Option Value->Shared->Prop}(g:KtIs s.heap it d i es.size ep)(hd:s.heap.get? d=some o)(j:o.data = .dict es ep)(hi:i<es.size)
  (q:∀ h',KtIs h' it d (i+1) es.size ep->Heap.SameBut it s.heap h'->Q (some es[i].key) {s with heap:=h'}):wpAny (model prog w) A (pyNext (.ref it)) Q E s:=by
 have h:s.TypeIs (.ref it) "dict_keyiterator":=⟨_,g,rfl⟩;unfold pyNext;refine wB1 (wpAny_attempt (wpAny_callSpecial?_slot (name:=Str.ofString "__next__") h PySem.F.slot_dict_keyiterator_next
  (wE1 PySem.F.slot_dict_keyiterator_next h PySem.F.entry_dict_keyiterator_next ?_ (PySem.F.args_dict_keyiterator_next_1 _))))
 refine wB1 (wP1 (wB1 (wB1 (wB1 (wpAny_typeNameOfWhole_keyiter h (wP1 ?_))))));refine wB1 (wpAny_fieldsOf g rfl ?_);have k:Builtin.Dict_items.ownsTuple "dict_keyiterator"=false:=by decide
 simp only [k,bF1,if_false];show wpAny _ _ (if (Value.ref d == Value.none)=true then _ else _) _ _ s;rw [if_neg (show ¬ ((Value.ref d == Value.none)=true) from Bool.false_ne_true)];refine wB1 (wP1 (wB1 (wpAny_dictEntries hd j ?_)));rw [if_neg (by simp)];refine wB1 (wP1 (wB1 (wpAny_dictEpoch hd j ?_)));rw [if_neg (by simp)];refine wP1 ?_;simp only [show ¬ ((i:Int)<0) from by lia,if_false,Int.toNat_natCast,aG1 hi];refine wB1 (wB1 (wpAny_typeNameOfWhole_keyiter h (wP1 ?_)));refine wB1 (wpAny_isOneOf_keyiter h ?_);show wpAny _ _ (setField (.ref it) 1 (rawInt ((i:Int)+1)) >>= _) _ _ s;refine wB1 (wS1 g (by simp) fun b a f=>?_);replace a:KtIs b it d (i+1) es.size ep:=by
  have e:((i+1:Nat):Int)=(i:Int)+1:=by lia
  unfold KtIs;rw [e];simpa [rawInt] using a
 have c:Shared.TypeIs {s with heap:=b} (.ref it) "dict_keyiterator":=⟨_,a,rfl⟩;refine wB1 (wpAny_holding (wB1 (wpAny_isOneOf_keyiter c ?_)));show wpAny _ _ (pure es[i].key) _ _ _;exact wP1 (wP1 ⟨_,rfl,wP1 (q b a f)⟩)
theorem qrv {it d:Addr}{i ep:Nat}{es:Array DictEntry}{o:Obj}{Q:Option Value->Shared->Prop}(n:A.handled=none)(f:KtIs s.heap it d i es.size ep)(hd:s.heap.get? d=some o)(g:o.data = .dict es ep)(hi:es.size<=i)
  (q:∀ h',(∀ b o,b≠it->s.heap.get? b=some o->h'.get? b=some o)->Q none {s with heap:=h'}):wpAny (model prog w) A (pyNext (.ref it)) Q E s:=by
 have j:s.TypeIs (.ref it) "dict_keyiterator":=⟨_,f,rfl⟩;unfold pyNext;refine wB1 (wpAny_attempt (wpAny_callSpecial?_slot (name:=Str.ofString "__next__") j PySem.F.slot_dict_keyiterator_next
  (wE1 PySem.F.slot_dict_keyiterator_next j PySem.F.entry_dict_keyiterator_next ?_ (PySem.F.args_dict_keyiterator_next_1 _))))
 refine wB1 (wP1 (wB1 (wB1 (wB1 (wpAny_typeNameOfWhole_keyiter j (wP1 ?_))))));refine wB1 (wpAny_fieldsOf f rfl ?_);have h:Builtin.Dict_items.ownsTuple "dict_keyiterator"=false:=by decide
 simp only [h,bF1,if_false];show wpAny _ _ (if (Value.ref d == Value.none)=true then _ else _) _ _ s;rw [if_neg (show ¬ ((Value.ref d == Value.none)=true) from Bool.false_ne_true)];refine wB1 (wP1 (wB1 (wpAny_dictEntries hd g ?_)));rw [if_neg (by simp)];refine wB1 (wP1 (wB1 (wpAny_dictEpoch hd g ?_)));rw [if_neg (by simp)];refine wP1 ?_;simp only [show ¬ ((i:Int)<0) from by lia,if_false,Int.toNat_natCast,Array.getElem?_eq_none hi];refine wB1 (wB1 (wpAny_typeNameOfWhole_keyiter j (wP1 ?_)));show wpAny _ _ (setField (.ref it) 0 .none >>= _) _ _ s;refine wB1 (wS1 f (by simp) fun l k c=>?_);show wpAny _ _ (newExc (.type "StopIteration") [] >>= _) _ _ _;refine wB1 ?_;simp only [newExc,newTuple];refine wB1 (wO1 ?_ (by size_fits));refine wB1 (m:=firstArgMember _ _) (wpAny_of_eq (a:=Value.none) (by first | rfl | (simp only [firstArgMember];rfl)) ?_);refine wO1 ?_ (by size_fits);simp only [raiseNew];refine wB1 (wpAny_handled ?_);rw [show A.in1.handled=none from n];refine wB1 (wP1 (wpAny_throw ?_));refine wB1 (wpAny_isInstance (T:="StopIteration") (b:=true) ⟨_,Heap.get?_push_size _ rfl,rfl⟩ isSubtype_stop ?_);exact wP1 (q _ fun b o p e=>hP1 _ (hP1 _ (c.extBut b o p e)))
theorem qoJ {d:Addr}{es:Array DictEntry}{ep:Nat}{o:Obj}{Q:Value->Shared->Prop}(hm:(d == sysModules)=false)(hd:s.heap.get? d=some o)(hc:o.cls = .type "dict")(a:o.data = .dict es ep)(hn:es.size<=sizeLine)
  (q:Q (.ref s.heap.objs.size) {s with heap:=s.heap.push {cls:=.type "dict_keyiterator",data:=.fields #[.ref d,.int 0 0,.int es.size 0,.int ep 0]}}):wpAny (model prog w) A (pyIter (.ref d)) Q E s:=by
 have b:s.TypeIs (.ref d) "dict":=⟨o,hd,hc⟩;refine wpAny_pyIter_slot b PySem.F.slot_dict_iter (wE1 PySem.F.slot_dict_iter b PySem.F.entry_dict_iter ?_ (PySem.F.args_dict_iter_1 _));unfold Builtin.«dict.__iter__»;refine wB1 ?_;unfold Builtin.Dict.dictSlotNone;refine wB1 (wpAny_notOrdered_dict b ?_);show wpAny _ _ (pure (Value.ref d)) _ _ s;refine wP1 ?_;show wpAny _ _ (Builtin.Dict.showsAll d >>= _) _ _ s;unfold Builtin.Dict.showsAll;rw [if_neg (by rw [hm];exact Bool.false_ne_true)];refine wB1 (wP1 (wB1 (wpAny_dictEntries hd a (wB1 (wpAny_dictEpoch hd a (wB1 ?_))))));refine wO1 (wP1 ⟨_,rfl,"dict_keyiterator",_,⟨_,Heap.get?_push_size _ rfl,rfl⟩,PySem.F.slot_dict_keyiterator_next.lookup,?_⟩);simpa [rawInt] using q
end
section
variable {prog:Program} {w:World} {A:Around} {E:Value->Shared->Prop} {R:Result->Shared->Prop}
theorem qoI {it d S:Addr}{ep:Nat}{es:Array DictEntry}{o:Obj}{m:Value}(H:A.handled=none)(q:o.data = .dict es ep)(h1:it≠d)(h2:S≠d)(F:S≠it)(hn:es.size<=sizeLine):
  ∀ (k i:Nat) (s:Shared) (acc:Array Value) (c:Nat),es.size-i=k->i<=es.size->KtIs s.heap it d i es.size ep->s.heap.get? d=some o ->
  s.heap.get? S=some {cls:=.type "list",dict:=none,data:=.seq acc c,slots:= #[]}->acc.toList=(es.toList.take i).map (·.key) ->
  (∀ h' a y,(∀ b u,b≠it->b≠S->s.heap.get? b=some u->h'.get? b=some u)->h'.get? S=some {cls:=.type "list",dict:=none,data:=.seq a y,slots:= #[]}->a.toList=es.toList.map (·.key)->R (.ok (.ret m)) {s with heap:=h'}) ->
  codeAny (model prog w) A (.builtin "list.extend.loop" ⟨[.ref S,.ref it,m],[]⟩) R s:=by
 intro k
 induction k with
 | zero=>
  intro i s acc c G hi j hd C v B;have e:i=es.size:=by lia
  subst e;refine wD1 PySem.F.entry_extend_loop ?_;rw [Around.under_plainId PySem.F.plain_extend_loop _];show wpAny _ A.in1 (pyNext (.ref it) >>= _) _ _ s;refine wB1 (qrv H j hd q (nR1 _) fun h' keep=>wP1 ?_);exact B h' acc c (fun b u l _ e=>keep b u l e) (keep S _ F C) (by rw [v,<- Array.length_toList,List.take_length])
 | succ k ih=>
  intro i s acc c G hi j hd C v B;have g:i<es.size:=by lia
  have t:acc.size=i:=by rw [<- Array.length_toList,v,lM1,List.length_take,Array.length_toList];lia
  refine wD1 PySem.F.entry_extend_loop ?_;rw [Around.under_plainId PySem.F.plain_extend_loop _];show wpAny _ A.in1 (pyNext (.ref it) >>= _) _ _ s;refine wB1 (qoH j hd q g fun h' r D=>?_);have p:=D.extBut S _ F C;show wpAny _ A.in1 (updateSeq S (·.push es[i].key) >>= _) _ _ _;refine wB1 (wpAny_updateSeq (s:={s with heap:=h'}) p rfl ?_ (by rw [t];lia) (by show (acc.push _).size<=sizeLine+1;rw [Array.size_push,t];lia));have h:∀ b u,b≠S->h'.get? b=some u->(h'.update S (Obj.mapSeq (·.push es[i].key))).get? b=some u:=fun b u l e=>by rw [hU1 _ _ _ _ l];exact e
  refine wP1 ⟨plainId_quiet PySem.F.plain_extend_loop _,ih (i+1) {s with heap:=h'.update S (Obj.mapSeq (·.push es[i].key))} (acc.push es[i].key) _ (by lia) g (h it _ (Ne.symm F) r) (h d _ (Ne.symm h2) (D.extBut d _ (Ne.symm h1) hd)) (hW1 _ p rfl) ?_ ?_⟩
  ·rw [Array.toList_push,v,List.take_succ,aT1,aG1 g,List.map_append];rfl
  ·intro x a y f z E;exact B x a y (fun b u l n e=>f b u l n (h b u n (D.extBut b u l e))) z E
theorem qmd:typeLookup (.type "dict") "__len__"=pure (some (.builtin "dict.__len__")):=by rw [typeLookup_type,builtinLookup_eq_fast];kernel_rfl
theorem qoK {s:Shared}{v:Addr}{Q:Bool->Shared->Prop}(c:s.TypeIs (.ref v) "dict")(q:Q false s):wpAny (model prog w) A (Builtin.List.listLengthHint (.ref v)) Q E s:=by
 unfold Builtin.List.listLengthHint;refine wB1 (wpAny_specialOf c qmd ?_);generalize a:("dict.__len__":String)=id0
 wp_delta
 rw [show splitId id0=some ("dict","__len__") from by subst a;decide+kernel];subst a;refine wB1 (wpAny_isInstance (b:=true) c (by rw [isSubtype_type];kernel_rfl) ?_);rw [if_neg (by decide)];dsimp only;rw [if_pos (by decide+kernel)];refine wB1 (wpAny_typeOf c ?_);exact wP1 q
theorem qj7 {s:Shared}{d:Addr}{es:Array DictEntry}{ep:Nat}{o:Obj}{Q:Value->Shared->Prop}(J:A.handled=none)(hm:(d == sysModules)=false)(hd:s.heap.get? d=some o)(hc:o.cls = .type "dict")(y:o.data = .dict es ep)(hn:es.size<=sizeLine)
  (q:∀ h' F,(∀ b u,s.heap.get? b=some u->h'.get? b=some u)->h'.get? s.heap.objs.size=some {cls:=.type "list",dict:=none,data:=.seq (es.toList.map (·.key)).toArray F,slots:= #[]}->Q (.ref s.heap.objs.size) {s with heap:=h'}):
  wpAny (model prog w) A (call (.type "list") [.ref d]) Q E s:=by
 have i:d<s.heap.objs.size:=hL1 hd;refine callType_codes (Q₁:=fun B j=>B = .ref s.heap.objs.size/\j={s with heap:=s.heap.push {cls:=.type "list",data:=.seq #[]}}) PySem.F.called_list (PySem.F.typeCall_list_1 _) PySem.F.entry_list_init
  (code_list_new _ ⟨rfl,rfl⟩) fun B j a=>?_
 obtain ⟨rfl,rfl⟩:=a;have D:(s.heap.push {cls:=.type "list",data:=.seq #[]}).get? s.heap.objs.size=some {cls:=.type "list",data:=.seq #[]}:=Heap.get?_push_size _ rfl;refine ⟨⟨_,D,rfl⟩,PySem.F.args_list_init_2 _ _,?_⟩;have x:∀ b u,s.heap.get? b=some u->(s.heap.push {cls:=.type "list",data:=.seq #[]}).get? b=some u:=fun b u e=>hP1 _ e;have t:(s.heap.push {cls:=.type "list",data:=.seq #[]}).objs.size=s.heap.objs.size+1:=by rw [hZ1]
 generalize s.heap.push {cls:=.type "list",data:=.seq #[]}=a at *
 show wpAny _ A.in1.in1 (do let old<-Builtin.List.listItems (.ref s.heap.objs.size);Builtin.List.listUpdate (.ref s.heap.objs.size) (fun _=> #[]);letGo old.toList.reverse;Builtin.List.listExtendWith (.ref s.heap.objs.size) (.ref d) .none) _ _ {s with heap:=a};refine wB1 (listItems_at D rfl ?_);show wpAny _ A.in1.in1 (updateSeq s.heap.objs.size (fun _=> #[]) >>= fun _=>letGo (#[]:Array Value).toList.reverse >>= fun _=>Builtin.List.listExtendWith (.ref s.heap.objs.size) (.ref d) .none) _ _ {s with heap:=a};refine wB1 (wpAny_updateSeq (s:={s with heap:=a}) D rfl ?_);have m:=hW1 (Obj.mapSeq (fun _=>(#[]:Array Value))) D rfl;have g:∀ b u,s.heap.get? b=some u->(a.update s.heap.objs.size (Obj.mapSeq (fun _=>(#[]:Array Value)))).get? b=some u:=fun b u e=>by rw [hU1 _ _ _ _ (nN1 (hL1 e))];exact x b u e
 have n:(a.update s.heap.objs.size (Obj.mapSeq (fun _=>(#[]:Array Value)))).objs.size=s.heap.objs.size+1:=by rw [Heap.size_update,t]
 generalize a.update s.heap.objs.size (Obj.mapSeq (fun _=>(#[]:Array Value)))=h₂ at *
 refine wB1 (wpAny_letGo ?_);unfold Builtin.List.listExtendWith;have k:Shared.TypeIs {s with heap:=h₂} (.ref d) "dict":=⟨o,g d o hd,hc⟩;refine wB1 (wpAny_typeOf k ?_);have h1:Builtin.List.listSameRef (.ref s.heap.objs.size) (.ref d)=false:=by simp [Builtin.List.listSameRef,nG1 i]
 rw [if_neg (by rw [h1];decide)];refine wB1 (qoJ (s:={s with heap:=h₂}) hm (g d o hd) hc y hn ?_);dsimp only;have C:KtIs (h₂.push {cls:=.type "dict_keyiterator",data:=.fields #[.ref d,.int 0 0,.int es.size 0,.int ep 0]}) h₂.objs.size d 0 es.size ep:=Heap.get?_push_size _ rfl;have h:=hP1 {cls:=.type "dict_keyiterator",data:=.fields #[.ref d,.int 0 0,.int es.size 0,.int ep 0]} m;have f:∀ b u,s.heap.get? b=some u->(h₂.push {cls:=.type "dict_keyiterator",data:=.fields #[.ref d,.int 0 0,.int es.size 0,.int ep 0]}).get? b=some u:=fun b u e=>hP1 _ (g b u e);generalize h₂.push {cls:=.type "dict_keyiterator",data:=.fields #[.ref d,.int 0 0,.int es.size 0,.int ep 0]}=h₃ at *
 rw [n] at C ⊢;have p:Shared.TypeIs {s with heap:=h₃} (.ref d) "dict":=⟨o,f d o hd,hc⟩;refine wB1 (wpAny_holding (qoK p ?_));rw [if_pos (by decide+kernel)];refine wB1 (wpAny_rule (wB1 ?_));show wpAny _ A.in1.in1 (updateSeq s.heap.objs.size (·.push .none) >>= fun _=>updateSeq s.heap.objs.size (·.pop)) _ _ _;refine wB1 (wpAny_updateSeq (s:={s with heap:=h₃}) h rfl ?_);have c:=hW1 (Obj.mapSeq (·.push Value.none)) h rfl;refine wpAny_updateSeq (s:={s with heap:=h₃.update s.heap.objs.size (Obj.mapSeq (·.push Value.none))}) c rfl ?_;have l:=hW1 (Obj.mapSeq (·.pop)) c rfl;have r:∀ b u,b≠s.heap.objs.size->h₃.get? b=some u->((h₃.update s.heap.objs.size (Obj.mapSeq (·.push Value.none))).update s.heap.objs.size (Obj.mapSeq (·.pop))).get? b=some u:=fun b u v e=>by
  rw [hU1 _ _ _ _ v,hU1 _ _ _ _ v];exact e
 have z:s.heap.objs.size+1≠s.heap.objs.size:=Nat.succ_ne_self _;refine wP1 ⟨plainId_quiet PySem.F.plain_extend_loop _,qoI (A:=A.in1) (it:=s.heap.objs.size+1) (o:=o) J y (nG1 (Nat.lt_succ_of_lt i)) (nG1 i) (Ne.symm z) hn es.size 0
  {s with heap:=(h₃.update s.heap.objs.size (Obj.mapSeq (·.push Value.none))).update s.heap.objs.size (Obj.mapSeq (·.pop))} _ _ rfl (Nat.zero_le _) (r _ _ z C) (r d o (nN1 i) (f d o hd)) l rfl fun h' H F keep G I=>⟨rfl,?_⟩⟩
 refine q h' F (fun b u e=>?_) (by rw [G,<- I,Array.toArray_toList]);have v:b<s.heap.objs.size:=hL1 e;exact keep b u (nN1 (Nat.lt_succ_of_lt v)) (nN1 v) (r b u (nN1 v) (f b u e))
noncomputable def qg9:G1:=fun d S=>match d with
 | .ref n=>match S[n]? with
  | some (.dcT kvs)=>some (.ref S.length,S++[.lst (kvs.map fun p=>tkD p.1)])
  | some (.dct [])=>some (.ref S.length,S++[.lst []])
  | _=>gLst d S
 | _=>gLst d S
end
section
variable {X:Cx}
theorem KT.keys {K:Fg1}{H:Hp}{mu:List Addr}:∀ {ks:List (TK×D)} {ws:List (TK×Addr×Value)},KT K H mu ks ws->Reps K H mu (ks.map fun p=>tkD p.1) (ws.map fun x=>V.ref x.2.1)
 | _,_,.nil=>.nil
 | _,_,.cons ⟨z,d,k,_⟩ t=>.cons k (KT.keys t)
theorem qfG:∀ ws:List (TK×Addr×Value),Vals (ws.map fun x=>V.ref x.2.1) (ws.map fun x=>Value.ref x.2.1)
 | []=>.nil
 | _::ws=>.cons rfl (qfG ws)
theorem qpf (j:X.calm=true):qbd X (.type "list") (rN X.K (b1 qg9)):=by
 intro pins s σ H xs B Q I r h;obtain ⟨x,mu,S,d,C,A,y,v,g,e,hc⟩:=rn1 h;have back:gLst d S=some (C,A)->wpAny (model X.prog X.w) X.A (call (.type "list") B) (EP X pins σ Q) X.xe s:=fun e=>qm8 pins s σ H xs B Q I r (by rw [y];exact ⟨mu,S,[d],C,A,.cons v .nil,g,e,hc⟩);unfold qg9 at e;split at e
 ·rename_i n;split at e
  ·rename_i kvs t;cases e;subst y;obtain ⟨u,rfl,r2⟩:=qdm r;cases v with
   | @ref _ a q=>
    cases r2;obtain ⟨ws,h1,h2,D⟩:=g.dcT t q;obtain ⟨⟨i,_,o,es,ep,w,z,p,l⟩,_⟩:=(show qaL X.prog X.w H s.heap a (.ext (qdk a ws)) from I.hok a _ h1);have f:es.size<=sizeLine:=by rw [<- Array.length_toList,l,lM1];exact D
    refine qj7 (I.ok.hd j) i w z.1 p f fun h' m keep c=>?_;have b:=I.hok.fresh (nR1 s.heap.objs.size);have E:Vals (ws.map fun x=>V.ref x.2.1) (es.toList.map (·.key)):=by
     rw [l,List.map_map];exact qfG ws
    refine ⟨.ref s.heap.objs.size,_,I.laid (t':=s.toks) (o:=.lst (ws.map fun x=>V.ref x.2.1)) keep (nR1 _) ⟨by rw [lM1];exact D,_,m,E,c⟩,rfl,hc _ _ (mu++[_]) (Ext.new_ b) (.ref (qcO g.len _)) (g.newL h2.keys b)⟩
  ·rename_i t;cases e;subst y;obtain ⟨u,rfl,r2⟩:=qdm r;cases v with
   | @ref _ a q=>
    cases r2;obtain ⟨ws,h1,h2⟩:=g.dct t q;cases h2;obtain ⟨_,i,vs,w,o,es,ep,z,p,l,F⟩:=I.hok a _ h1;cases w;have k:es.toList=[]:=List.length_eq_zero_iff.mp (by have:=F.2.1.length;simpa using this);have f:es.size=0:=by rw [<- Array.length_toList,k];rfl
    refine qj7 (I.ok.hd j) i z p.1 l (by rw [f];exact Nat.zero_le _) fun h' m keep c=>?_;have b:=I.hok.fresh (nR1 s.heap.objs.size);rw [k] at c
    exact ⟨.ref s.heap.objs.size,_,I.laid (t':=s.toks) (o:=.lst []) keep (nR1 _) ⟨Nat.zero_le _,[],m,.nil,c⟩,rfl,hc _ _ (mu++[_]) (Ext.new_ b) (.ref (qcO g.len _)) (g.newL .nil b)⟩
  ·exact back e
 ·exact back e
end
section
variable {X:Cx} {pins:List (Addr×Obj)} {σ:L2.St} {H:Hp} {s:Shared} {a:Addr} {u v:HO}
end
section
variable {K:Fg1} {H H':Hp} {mu mu':List Addr} {S:Sto} {n:Nat} {a:Addr} {o:Obj} {u:HO}
theorem ObR.exv {b:Addr}(e:Exv mu mu' H H')(h:∀ o,H b=some o->H' b=some o):∀ {o:Ob},ObR K H mu b o->ObR K H' mu' b o
 | .lst _,⟨vs,q,r⟩=>⟨vs,h _ q,r.exv e⟩
 | .dct _,⟨ws,q,r⟩=>⟨ws,h _ q,Paired.mapP r fun _ _ z=>⟨z.1,z.2.exv e⟩⟩
 | .dcT _,⟨ws,q,r,l⟩=>⟨ws,h _ q,Paired.mapP r fun _ _ ⟨z,d,k,v,a,r⟩=>⟨z,d,k.exv e,v,a,r.exv e⟩,l⟩
 | .iset _,q=>⟨h _ q.1,q.2⟩
 | .dcF _,⟨ws,⟨o,u,f,c⟩,r,l⟩=>⟨ws,⟨o,u,h _ f,c⟩,Paired.mapP r fun _ _ ⟨z,d,k,v,a,r⟩=>⟨z,d,k.exv e,v,a,r.exv e⟩,l⟩
 | .tst _,⟨ws,q,r⟩=>⟨ws,h _ q,Paired.mapP r fun _ _ ⟨z,d,k,v,a,r⟩=>⟨z,d,k.exv e,v,a,r.exv e⟩⟩
end
theorem Ris.lt {xs:Array Nat}(h:Ris xs){a b u v:Nat}(d:a<b)(c:xs[a]? = some u)(eb:xs[b]? = some v):u<v:=by
 rw [<- aT1] at c eb;obtain ⟨e,c⟩:=gE1.mp c;obtain ⟨f,eb⟩:=gE1.mp eb;have:=List.pairwise_iff_getElem.mp h a b e f d;rw [c,eb] at this;exact this
structure Bs (xs:Array Nat)(j i:Nat):Prop where
 le:i<=xs.size
 lo:∀ k v,xs[k]? = some v->k<i->v<j
 hi:∀ k v,xs[k]? = some v->i<=k->j<=v
theorem qph {xs:Array Nat}{j:Nat}(hr:Ris xs):∀ n lo hi:Nat,lo<=hi->hi<=xs.size->hi-lo<=n->(∀ k v,xs[k]? = some v->k<lo->v<j)->(∀ k v,xs[k]? = some v->hi<=k->j<=v)->Bs xs j (SetTable.below.go xs j n lo hi)
 | 0,lo,hi,h1,h2,g,c,b=>by
  have:lo=hi:=by lia
  subst this;exact ⟨h2,c,b⟩
 | n + 1,lo,hi,h1,h2,g,c,b=>by
  rw [SetTable.below.go];by_cases f:lo<hi
  ·rw [if_pos f];have d:(lo+hi)/2<xs.size:=by lia
   have a:=aG1 d;have h:xs.getD ((lo+hi)/2) j=xs[(lo+hi)/2]:=by simp [Array.getD,d]
   dsimp only;rw [h];by_cases hc:xs[(lo+hi)/2]<j
   ·rw [if_pos hc];refine qph hr n _ _ (by lia) h2 (by lia) (fun k v e i=>?_) b;rcases Nat.lt_or_ge k ((lo+hi)/2) with z | z
    ·have:=hr.lt z e a;lia
    ·have:k=(lo+hi)/2:=by lia
     subst this;rw [a] at e;cases e;exact hc
   ·rw [if_neg hc];refine qph hr n _ _ (by lia) (by lia) (by lia) c fun k v e i=>?_;rcases Nat.lt_or_ge ((lo+hi)/2) k with z | z
    ·have:=hr.lt z a e;lia
    ·have:k=(lo+hi)/2:=by lia
     subst this;rw [a] at e;cases e;lia
  ·rw [if_neg f];have:lo=hi:=by lia
   subst this;exact ⟨h2,c,b⟩
theorem qib {xs:Array Nat}(hr:Ris xs)(j:Nat):Bs xs j (SetTable.below xs j):=
 qph hr _ 0 _ (Nat.zero_le _) (nR1 _) (by lia) (fun _ _ _ h=>absurd h (Nat.not_lt_zero _)) fun k v e h=>by
  have:=(Array.getElem?_eq_some_iff.mp e).1;lia
theorem qdg {α:Type}(xs:Array α)(p:Nat)(x:α):(SetTable.insertAt xs p x).toList=xs.toList.take p++x::xs.toList.drop p:=by
 unfold SetTable.insertAt;rw [Array.toList_append,Array.toList_push,Array.toList_extract,Array.toList_extract];simp [List.extract_eq_drop_take];rw [List.take_of_length_le (by simp)]
theorem qnF {xs:Array Nat}(hr:Ris xs){j:Nat}(hn:xs[SetTable.below xs j]? ≠ some j):Ris (SetTable.insertAt xs (SetTable.below xs j) j):=by
 have b:=qib hr j;unfold Ris;rw [qdg,List.pairwise_append,List.pairwise_cons];have lo:∀ v∈xs.toList.take (SetTable.below xs j),v<j:=fun v f=>by
  obtain ⟨k,d⟩:=List.getElem?_of_mem f;rw [List.getElem?_take] at d;split at d
  ·rename_i h;exact b.lo k v (by rw [<- aT1];exact d) h
  ·cases d
 have hi:∀ v∈xs.toList.drop (SetTable.below xs j),j<v:=fun v f=>by
  obtain ⟨k,d⟩:=List.getElem?_of_mem f;rw [List.getElem?_drop,aT1] at d;have h1:=b.hi _ v d (Nat.le_add_right _ _);rcases Nat.lt_or_ge j v with z | z
  ·exact z
  ·exfalso;have g:v=j:=by lia
   subst g;cases k with
   | zero=>exact hn d
   | succ k=>
    have l:SetTable.below xs v<xs.size:=by have:=(Array.getElem?_eq_some_iff.mp d).1;lia
    have e:=aG1 l;have:=b.hi _ _ e (nR1 _);have:=hr.lt (by lia) e d;lia
 refine ⟨hr.sublist (List.take_sublist _ _),⟨hi,hr.sublist (List.drop_sublist _ _)⟩,fun a i c hc=>?_⟩;rcases List.mem_cons.mp hc with z | z
 ·rw [z];exact lo a i
 ·exact Nat.lt_trans (lo a i) (hi c z)
structure TS (l:Bool)(t:SetTable):Prop where
 up:Ris t.place
 du:t.dummies = #[]
 ld:t.led=l
theorem qhI {t:SetTable}(hd:t.dummies = #[])(j:Nat):SetTable.has t.dummies j=false:=by rw [hd];rfl
theorem qhe {α:Type}(f:Nat->Option α):∀ l:List Nat,((l.filterMap fun j=>(f j).map (j,·)).map (·.1)).Sublist l
 | []=>.slnil
 | a::l=>by
  rw [List.filterMap_cons];cases f a with
  | none=>exact (qhe f l).cons a
  | some x=>exact (qhe f l).cons₂ a
noncomputable def kOf (e:Int×Value):Int:=match e.2 with
 | .int k _=>k
 | _=>0
structure Els (es:Array (Int×Value))(ns:List Int):Prop where
 el:∀ e∈es.toList,∃ k t,e=(hashInt k,Value.int k t)
 pm:(es.toList.map kOf).Perm ns
theorem Els.size {es:Array (Int×Value)}{ns:List Int}(h:Els es ns):es.size=ns.length:=by
 have:=h.pm.length_eq;rw [lM1,Array.length_toList] at this;exact this
section
variable {P:Program} {w:World} {A:Around} {E:Value->Shared->Prop} {s:Shared} {b:Bool} {p:Addr} {ns:List Int}
theorem qmE {es fs:Array (Int×Value)}{ep:Nat}{t u:SetTable}{h:Heap}(e:h.get? p=some (stO es ep t)):(h.update p (Obj.putSet fs u)).get? p=some (stO fs (ep+1) u):=by
 have:=hW1 (Obj.putSet fs u) e (by rw [putSet_of fs u rfl];rfl);rw [putSet_of fs u rfl] at this;exact this
end
section
variable {P:Program} {w:World} {A:Around} {E:Value->Shared->Prop} {s:Shared}
end
section
variable {P:Program} {w:World} {A:Around} {E:Value->Shared->Prop} {b:Bool}
end
section
variable {P:Program} {w:World} {A:Around} {E:Value->Shared->Prop} {s:Shared} {it a:Addr} {f:Value} {i ep:Nat} {es:Array (Int×Value)} {t:SetTable} {pl:List Value}
end
section
variable {P:Program} {w:World} {A:Around} {E:Value->Shared->Prop}
end
section
variable {X:Cx}
end
section
variable {X:Cx} {pins:List (Addr×Obj)} {σ:L2.St} {H:Hp} {s:Shared} {a:Addr} {kvs:List (Key×V)} {k:Key} {v:V} {u r:Value} {A:Around} {E:Value->Shared->Prop}
end
section
variable {X:Cx}
end
open AutoSeq1 (wpAny_loadPart')
section
variable {prog:Program} {w:World} {A:Around} {E:Value->Shared->Prop} {s:Shared}
end
section
variable {X:Cx}
end
section
variable {P:Program} {w:World} {A:Around} {E:Value->Shared->Prop} {s:Shared}
end
section
variable {X:Cx}
end
section
variable {X:Cx} {a b:Expr} {rest:List Expr} {pos:Pos} {ta tb:TE} {f g:FE}
end
section
variable {X:Cx}
theorem KR.len {K:Fg1}{H:Hp}{mu:List Addr}{ks:List (Key×D)}{ws:List (Key×V)}(h:KR K H mu ks ws):ws.length=ks.length:=by
 induction h with
 | nil=>rfl
 | cons _ _ ih=>rw [lC1,lC1,ih]
noncomputable def qha:G1:=fun d S=>match d with
 | .ref n=>match S[n]? with
  | some (.dct kvs)=>some (.int kvs.length,S)
  | _=>gLen d S
 | _=>gLen d S
theorem qrZ:qbd X (.builtin "len") (rN X.K (b1 qha)):=by
 intro pins s σ H xs g Q I r h;obtain ⟨x,mu,S,d,i,j,f,c,b,a,hc⟩:=rn1 h;have m:=a;unfold qha at a;split at a
 ·rename_i n;split at a
  ·rename_i ys e;cases a;subst f;cases c with
   | ref q=>
    obtain ⟨ws,k,o⟩:=b.dct e q;cases r with
    | cons l rt=>
     cases rt;cases l;refine qtk I (Rd.of k) fun t s' p=>⟨.int ws.length,H,p,⟨_,rfl⟩,?_⟩;rw [o.len];exact hc.now (.int _) b
  ·exact qaV pins s σ H xs g Q I r (by subst f;exact ⟨mu,S,[_],i,j,.cons c .nil,b,(show b1 gLen [_] S=_ from a),hc⟩)
 ·exact qaV pins s σ H xs g Q I r (by subst f;exact ⟨mu,S,[_],i,j,.cons c .nil,b,(show b1 gLen [_] S=_ from a),hc⟩)
end
section
variable {P:Program} {w:World} {A:Around} {E:Value->Shared->Prop} {b:Bool}
end
section
variable {X:Cx}
end
theorem qiH:∀ {a:List Value} {ns:List Int},IntsAre a ns -> ∃ xs:Array (Int×Tok),a.toArray=intItems xs/\xs.toList.map (·.1)=ns:=by
 intro a ns h
 induction h with
 | nil=>exact ⟨#[],by simp [intItems],rfl⟩
 | cons n t _ ih=>
  obtain ⟨xs,d,c⟩:=ih;refine ⟨((n,t)::xs.toList).toArray,?_,by rw [mP1,c]⟩;have b:=congrArg Array.toList d;unfold intItems at b ⊢;rw [Array.toList_map] at b;rw [List.map_toArray,mP1]
  congr 1
  rw [<- b]
noncomputable def maxI:List Int->Int
 | []=>0
 | [x]=>x
 | x::y::l=>let m:=maxI (y::l);if x<m then m else x
noncomputable def minI:List Int->Int
 | []=>0
 | [x]=>x
 | x::y::l=>let m:=minI (y::l);if m<x then m else x
theorem qov:∀ {l:List Int},l≠[]->maxI l∈l /\ ∀ a∈l,a<=maxI l
 | [],h=>(h rfl).elim
 | [x],_=>⟨by simp [maxI],fun a h=>by simp at h;subst h;simp [maxI]⟩
 | x::y::l,_=>by
  obtain ⟨h1,h2⟩:=qov (l:=y::l) (by simp);rw [maxI];split
  ·refine ⟨mC1 _ h1,fun a b=>?_⟩;rcases List.mem_cons.mp b with rfl | b
   ·lia
   ·exact h2 a b
  ·refine ⟨mS1,fun a b=>?_⟩;rcases List.mem_cons.mp b with rfl | b
   ·exact Int.le_refl _
   ·have:=h2 a b;lia
theorem qg1:∀ {l:List Int},l≠[]->minI l∈l /\ ∀ a∈l,minI l<=a
 | [],h=>(h rfl).elim
 | [x],_=>⟨by simp [minI],fun a h=>by simp at h;subst h;simp [minI]⟩
 | x::y::l,_=>by
  obtain ⟨h1,h2⟩:=qg1 (l:=y::l) (by simp);rw [minI];split
  ·refine ⟨mC1 _ h1,fun a b=>?_⟩;rcases List.mem_cons.mp b with rfl | b
   ·lia
   ·exact h2 a b
  ·refine ⟨mS1,fun a b=>?_⟩;rcases List.mem_cons.mp b with rfl | b
   ·exact Int.le_refl _
   ·have:=h2 a b;lia
theorem qoc {xs:Array (Int×Tok)}{ns:List Int}(e:xs.toList.map (·.1)=ns){j:Nat}(a:j<ns.length):numAt xs j∈ns:=by
 rw [numAt_eq,e,List.getD_eq_getElem?_getD,gG1 a];exact List.getElem_mem a
theorem qos {xs:Array (Int×Tok)}{ns:List Int}(e:xs.toList.map (·.1)=ns){a:Int}(h:a∈ns):∃ j,j<ns.length/\numAt xs j=a:=by
 obtain ⟨j,b,rfl⟩:=List.getElem_of_mem h;exact ⟨j,b,by rw [numAt_eq,e,List.getD_eq_getElem?_getD,gG1 b];rfl⟩
noncomputable def gMaxL:G1:=fun d S=>match qap S d with
 | some (true,xs)=>(qg8 xs).bind fun ns=>if ns=[] then none else some (.int (maxI ns),S)
 | _=>none
noncomputable def qki:G1:=fun d S=>match qap S d with
 | some (true,xs)=>(qg8 xs).bind fun ns=>if ns=[] then none else some (.int (minI ns),S)
 | _=>none
section
variable {X:Cx}
theorem qrX (e:X.calm=true):qbd X (.builtin "min") (rN X.K (b1 qki)):=by
 intro pins s σ H xs K Q I r h;obtain ⟨x,mu,S,d,M,J,rfl,A,k,b,hc⟩:=rn1 h;unfold qki at b;split at b
 ·rename_i ds y;obtain ⟨ns,n,b⟩:=oB1.mp b;split at b
  ·cases b
  ·rename_i c;cases b;obtain ⟨a,vs,rfl,q,t⟩:=qal A k y;obtain ⟨u,rfl,r2⟩:=qdm r;cases r2;obtain ⟨p,w,C,L⟩:=I.list q;have B:=qke t w n;obtain ⟨xs,z,f⟩:=qiH B;have g:xs.size=ns.length:=by rw [<- Array.length_toList,<- f,lM1]
   have F:0<ns.length:=List.length_pos_iff.mpr c;refine min_intList (I.ok.hd e) (by rw [<- z];exact C.isList) (by lia) fun v h' tk l keep=>?_;obtain ⟨o,rfl⟩:=intItems_at l;obtain ⟨G,E⟩:=argBest_lt (numAt xs) (xs.size-1);have m:numAt xs (argBest (fun i j=>decide (numAt xs i<numAt xs j)) (xs.size-1))=minI ns:=by
    obtain ⟨m1,m2⟩:=qg1 c;obtain ⟨j,N,D⟩:=qos f m1;have h1:=E j (by lia);have h2:=m2 _ (qoc f (j:=argBest (fun i j=>decide (numAt xs i<numAt xs j)) (xs.size-1)) (by lia));rw [D] at h1;exact Int.le_antisymm h1 h2
   rw [m];exact ⟨.int (minI ns),H,I.kept keep,⟨_,rfl⟩,hc.now (.int _) k⟩
 ·cases b
end
section
variable {prog:Program} {w:World} {A:Around} {E:Value->Shared->Prop} {s:Shared}
end
section
variable {X:Cx} {pins:List (Addr×Obj)} {σ:L2.St} {H:Hp} {s:Shared} {mu:List Addr}
end
section
variable {X:Cx}
end
theorem qtl {K:Fg1}{x:Str}{f:Addr}(h:wN1 K mainGlobals x=some (some (.ref f))):CV K (.fn x) (.ref f):=⟨.ref f,rfl,fun _ _=>.fn h⟩
section
variable {X:Cx} {f:Addr} {fd:FuncData} {ps:List Str} {k n:Nat} {sp:Sp} {dvs:List V} {ds:List Value} {CX:CXT} {E:XK} {t:TA} {e:Expr} {es:List Expr} {p pos:Pos} {i:Nat} {v x:Str}
theorem qlw (hN:X.N[i]? = some v)(hv:Vis X.env.scope v)(F:FnOk X.prog X.w X.K X.mg X.base CX k f fd ps sp)(hr:Room k X.A)(hm:X.mg x=some (.ref f))(hk:wK1 X.K (.ref f)=true)(hb:qdR X.K fd ps ds)(hd:Vals dvs ds)(hx:qif CX X E)
  (ha:PA X (e::es) t) (hdb:(v == ("__debug__":Str))=false:=by decide) (hcd:(v == ("__classdict__":Str))=false:=by decide) (he:starEach (e::es) X.env=(false,eval e X.env)::starEach es X.env:=by rfl) (hpl:(backTo pos (starEach es X.env)).any (·.1)=false:=by rfl):
  PE X (.Call (.Name v p) (e::es) [] pos) (fun σ H Q=>(∃ a,σ[i]? = some (some (.ref a))/\wN1 X.K mainGlobals x=some (some (.ref a)))/\qpP sp dvs E t σ H Q):=by
 rintro pins s σ H Q I ⟨⟨a,y,j⟩,h⟩;have g:=wM1 I.ok.mod.kin I.ok.mod.glob j;rw [hm] at g;cases g;obtain ⟨m,w,o⟩:=I.loc;obtain ⟨u,r,l⟩:=o i v _ hN y hv;cases r;have d:wpAny (model X.prog X.w) X.A (callWith pos (.ref f) [] (backTo pos (starEach (e::es) X.env)) (backToKw pos (keywordEach [] X.env))) (EP X pins σ Q) X.xe s:=by
  refine PySem.W.callWith_K (h₀:=X.base) I.ok.mod.kin hk (thn (ha pos pins s σ H _ I h) fun z A ⟨vs,H1,n,r,q⟩=>⟨n.kIn,?_⟩) he hpl;exact qmC F hr hb hd hx n r q
 refine wpAny_Call_Name_kw ?_;rcases l with ⟨hk,hm⟩ | ⟨hk,c,hc,b⟩
 ·exact wpAny_Name (wpAny_loadName_local I.ok.kind hk w hm d) hdb
 ·rcases hk with hk | hk
  ·exact wpAny_Name (wpAny_loadName_cell I.ok.kind hk hc b d) hdb
  ·exact wpAny_Name (wpAny_loadName_free I.ok.kind hk hc b d hcd) hdb
noncomputable def mFnV (i:Nat)(x:Str)(g:FN)(a:FA):FE:=fun r S=>match r[i]? with
 | some (some (.fn y))=>if y=x then mN g a r S else none
 | _=>none
theorem qlQ {m:FN}{a:FA}{k':Nat}(i:Nat)(h:Own X.prog X.w X.K X.mg X.base k x n m)(hr:Room k' X.A)(hk:k<=k')(hN:X.N[i]? = some v)(hv:Vis X.env.scope v)(ha:MA X (e::es) a)(hdb:(v == ("__debug__":Str))=false:=by decide)(hcd:(v == ("__classdict__":Str))=false:=by decide)
  (he:starEach (e::es) X.env=(false,eval e X.env)::starEach es X.env:=by rfl) (hpl:(backTo pos (starEach es X.env)).any (·.1)=false:=by rfl):ME X (.Call (.Name v p) (e::es) [] pos) (mFnV i x (qaf n m) a):=by
 obtain ⟨f,fd,ps,F,b,L,s⟩:=h;refine qaS (qlw (E:=E0) hN hv F (hr.mono hk) s L b .nil qqB ha hdb hcd he hpl) fun σ H Q h=>?_;obtain ⟨r,mu,S,d,j,he,l,c,hc⟩:=h;unfold mFnV at c;split at c
 ·rename_i y w;split at c
  ·rename_i D;subst D;obtain ⟨P,B,O⟩:=he.val i _ w;cases O with
   | fn u=>
    refine ⟨⟨_,B,u⟩,?_⟩;obtain ⟨r,mu,S,ds,j,he,l,c,hc⟩:=qlT (K:=X.K) (f:=qaf n m) ⟨r,mu,S,d,j,he,l,c,hc⟩;refine ⟨r,mu,S,ds,j,he,l,c,fun vs H' mu' z G C=>?_⟩;have q:=hc vs H' mu' z G C;show spM X.K n m (vs++[]) H' Q E0;rw [List.append_nil];obtain ⟨t,J,o,M,A,h1,h2,g,N⟩:=q;unfold qaf at g;split at g
    ·rename_i I;exact ⟨by rw [<- h1.length];exact I,qia ⟨t,J,o,M,A,h1,h2,g,N⟩⟩
    ·cases g
  ·cases c
 ·cases c
theorem qfF {m:FN}{a:FA}{k':Nat}(i:Nat)(h:Own X.prog X.w X.K X.mg X.base k x n m)(hr:Room k' X.A)(hk:k<=k')(hN:X.N[i]? = some v)(hv:Vis X.env.scope v)(ha:XA X (e::es) a)(hdb:(v == ("__debug__":Str))=false:=by decide)(hcd:(v == ("__classdict__":Str))=false:=by decide)
  (he:starEach (e::es) X.env=(false,eval e X.env)::starEach es X.env:=by rfl) (hpl:(backTo pos (starEach es X.env)).any (·.1)=false:=by rfl):XE X (.Call (.Name v p) (e::es) [] pos) (mFnV i x (qaf n m) a):=⟨qlQ i h hr hk hN hv ha.h hdb hcd he hpl⟩
end
section
variable {prog:Program} {w:World} {K:Type} [DecidableEq K] {knd:HeapKind prog w K} {A:Around} {E:Value->Shared->Prop} {s:Shared}
theorem qiB {d:Addr}(hd:(d == sysModules)=false):
  MeetsIn prog w (Builtin.«dict.__len__» ⟨[.ref d],[]⟩) (fun _ R s=>∃ xs,s.heap.DictOfH knd d xs/\R (.ok (.ret (.int xs.length s.toks))) {s with toks:=s.toks+1}):=
 .of_wp fun A R s ⟨xs,c,h⟩=>by
  obtain ⟨o,es,ep,b,hc,a,e,_⟩:=c;show wpAny _ _ (dictSize d >>= _) _ _ s;unfold dictSize;refine wB1 (wB1 (wpAny_dictEntries b a (wP1 ?_)));show wpAny _ _ (Builtin.Dict.pendingCount d >>= _) _ _ s;refine wB1 (wpAny_pendingCount_other hd ?_);refine wpAny_ret_mkInt ?_;rw [Nat.add_zero,size_of_entries e];exact h
theorem qkJ {d:Addr}{xs:List (K×Addr×Value)}{Q:Value->Shared->Prop}(hd:(d == sysModules)=false)(hm:s.heap.DictOfH knd d xs)(a:(xs.length:Int)<2^63)
  (h:Q (.int xs.length (s.toks+1)) {s with toks:=s.toks+1+1}):wpAny (model prog w) A (call (.builtin "len") [.ref d]) Q E s:=by
 refine Calls.call_function_entry kind_len plain_len entry_len (args_len1 _) ?_;unfold Builtin.«len»;refine wB1 (m:=oneArg "len" _) (wP1 ?_);refine wB1 (m:=callSpecial? (.ref d) (Str.ofString "__len__")) (wpAny_callSpecial?_slot (name:=Str.ofString "__len__") hm.typeIs F.slot_dict_len
  (call_meetsIn F.slot_dict_len hm.typeIs F.entry_dict_len (F.args_dict_len_1 _) (qiB (knd:=knd) hd) ⟨xs,hm,?_⟩))
 show wpAny _ _ _ _ _ {s with toks:=s.toks+1};refine wB1 (wpAny_holding (wP1 ?_));refine wB1 (wpAny_letGo ?_);show wpAny _ _ (if ((xs.length:Nat):Int)<0 then _ else _) _ _ _;rw [if_neg (by omega)];show wpAny _ _ (if ((xs.length:Nat):Int)>=2^63 then _ else _) _ _ _;rw [if_neg (by omega)];exact wB1 (wpAny_mkInt (wP1 ⟨_,rfl,h⟩))
end
section
variable {X:Cx}
noncomputable def qiI:G1:=fun d S=>match d with
 | .ref n=>match S[n]? with
  | some (.dcT kvs)=>some (.int kvs.length,S)
  | _=>qha d S
 | _=>qha d S
theorem qrY:qbd X (.builtin "len") (rN X.K (b1 qiI)):=by
 intro pins s σ H xs c Q I r h;obtain ⟨x,mu,S,d,i,j,k,f,b,a,hc⟩:=rn1 h;have back:qha d S=some (i,j)->wpAny (model X.prog X.w) X.A (call (.builtin "len") c) (EP X pins σ Q) X.xe s:=fun a=>qrZ pins s σ H xs c Q I r (by subst k;exact ⟨mu,S,[d],i,j,.cons f .nil,b,(show b1 qha [d] S=_ from a),hc⟩);unfold qiI at a;split at a
 ·rename_i n;split at a
  ·rename_i ys e;cases a;subst k;cases f with
   | ref q=>
    obtain ⟨ws,l,g,m⟩:=b.dcT e q;obtain ⟨hd,p⟩:=qme I l g;cases r with
    | cons o rt=>
     cases rt;cases o;refine qkJ hd p (by rw [sizeLine_eq] at m;lia) ?_;refine ⟨.int ws.length,H,I.tok _,⟨_,rfl⟩,?_⟩;rw [<- g.length];exact hc.now (.int _) b
  ·exact back a
 ·exact back a
noncomputable def qcc:G2:=fun d e S=>match e with
 | .ref n=>match S[n]? with
  | some (.dct [])=>match keyT d with
   | some _=>some (.bl true,S)
   | none=>qbT d e S
  | _=>qbT d e S
 | _=>qbT d e S
theorem qhF (j:X.A.units+64<cLine):OpR X (compareOp .NotIn) (r2 X.K (b2 qcc)):=by
 intro pins s σ H x y u w Q I l m h;obtain ⟨mu,S,d,e,r,p,o,c,f,a,hc⟩:=rn2 h;have back:qbT d e S=some (r,p)->wpAny (model X.prog X.w) X.A (compareOp .NotIn u w) (EP X pins σ Q) X.xe s:=fun a=>qhG j pins s σ H x y u w Q I l m ⟨mu,S,[d,e],r,p,.cons o (.cons c .nil),f,a,hc⟩;unfold qcc at a;split at a
 ·rename_i n;split at a
  ·rename_i t;split at a
   ·rename_i k q;cases a;cases c with
    | ref C=>
     cases m;obtain ⟨ws,v,A⟩:=f.dct t C;cases A;obtain ⟨z,hd,vs,g,B⟩:=qo9 I.hok v;cases g;obtain ⟨b,rfl,rfl,E,D,hi⟩:=qdG I o l q;have i:s.heap.DictOfH (qc6 X.prog X.w) _ []:=qh1 B;refine wpAny_notIn_heap (qeb j) hi hd i ?_;exact ⟨.bl true,H,I.tok _,rfl,hc.now (.bl _) f⟩
   ·exact back a
  ·exact back a
 ·exact back a
noncomputable def gInZ:G2:=fun d e S=>match e with
 | .ref n=>match S[n]? with
  | some (.dct [])=>match keyT d with
   | some _=>some (.bl false,S)
   | none=>gInY d e S
  | _=>gInY d e S
 | _=>gInY d e S
end
theorem qpY (m i:Nat):SetTable.runEnd m i-i<=9:=by unfold SetTable.runEnd;split<;>lia
theorem qmB (m i:Nat):i<=SetTable.runEnd m i:=by unfold SetTable.runEnd;split<;>lia
theorem qsC {m i:Nat}(h:i<=m):SetTable.runEnd m i<=m:=by unfold SetTable.runEnd;split<;>lia
theorem qj5 (m i b:Nat):(SetTable.leap m i b).1<=m:=by
 unfold SetTable.leap;have:=Nat.mod_lt (i*5+1+b/32) (Nat.succ_pos m);dsimp only;lia
theorem qhD (m:Nat):∀ n i b:Nat,(qbX m n i b).length<=10*n
 | 0,_,_=>by simp [qbX]
 | n+1,i,b=>by
  rw [qbX,lA1,List.length_range'];have:=qhD m n (SetTable.leap m i b).1 (SetTable.leap m i b).2;have:=qpY m i;lia
theorem qjI (m:Nat):∀ n i b:Nat,i<=m -> ∀ x∈qbX m n i b,x<=m
 | 0,_,_,_,x,h=>by simp [qbX] at h
 | n+1,i,b,hi,x,h=>by
  rw [qbX,List.mem_append] at h;rcases h with h | h
  ·rw [List.mem_range'_1] at h;have:=qsC hi;have:=qmB m i
   lia
  ·exact qjI m n _ _ (qj5 m i b) x h
noncomputable def sLp (m:Nat):Nat->Nat->Nat->Nat×Nat
 | 0,i,b=>(i,b)
 | n+1,i,b=>sLp m n (SetTable.leap m i b).1 (SetTable.leap m i b).2
theorem qmM (m:Nat):∀ n i b:Nat,(sLp m n i b).2=b/32^n
 | 0,i,b=>by simp [sLp]
 | n+1,i,b=>by
  rw [sLp,qmM m n];show b/32/32^n=_;rw [Nat.div_div_eq_div_mul,Nat.pow_succ,Nat.mul_comm]
theorem qmN (m:Nat):∀ n i b:Nat,i<=m->(sLp m n i b).1<=m
 | 0,i,b,h=>h
 | n+1,i,b,h=>by rw [sLp];exact qmN m n _ _ (qj5 m i b)
theorem qfU (m:Nat):∀ n k i b x:Nat,x∈qbX m k (sLp m n i b).1 (sLp m n i b).2->x∈qbX m (n+k) i b
 | 0,k,i,b,x,h=>by rw [Nat.zero_add];exact h
 | n+1,k,i,b,x,h=>by
  rw [sLp] at h;rw [show n+1+k=(n+k)+1 by lia,qbX];exact mA1 _ (qfU m n k _ _ x h)
noncomputable def sIt (m:Nat):Nat->Nat->Nat
 | 0,i=>i
 | n+1,i=>sIt m n ((i*5+1)%(m+1))
noncomputable def sItL (m:Nat):Nat->Nat->List Nat
 | 0,_=>[]
 | k+1,i=>i::sItL m k ((i*5+1)%(m+1))
theorem qkc {m j:Nat}:∀ {k i:Nat},j∈sItL m k i -> ∃ n,n<k/\sIt m n i=j
 | 0,i,h=>by simp [sItL] at h
 | k+1,i,h=>by
  rw [sItL,List.mem_cons] at h;rcases h with h | h
  ·exact ⟨0,Nat.succ_pos k,h.symm⟩
  ·obtain ⟨n,a,e⟩:=qkc h;exact ⟨n+1,Nat.succ_lt_succ a,e⟩
theorem qhR (m:Nat):∀ a b i:Nat,sIt m (a+b) i=sIt m b (sIt m a i)
 | 0,b,i=>by rw [Nat.zero_add];rfl
 | a+1,b,i=>by rw [show a+1+b=(a+b)+1 by lia,sIt,sIt,qhR m a b]
theorem qg7 (m:Nat):∀ n k i:Nat,n<k->sIt m n i∈qbX m k i 0
 | 0,k+1,i,_=>by rw [sIt,qbX];exact List.mem_append_left _ (List.mem_range'_1.mpr ⟨nR1 _,by lia⟩)
 | n+1,k+1,i,h=>by
  rw [sIt,qbX];refine mA1 _ ?_;have e:SetTable.leap m i 0=((i*5+1)%(m+1),0):=rfl;rw [e];exact qg7 m n k _ (Nat.lt_of_succ_lt_succ h)
noncomputable def sOrb (m:Nat):Bool:=((List.range (m+1)).all fun j=>(sItL m (m+1) 0).contains j)&&sIt m (m+1) 0 == 0
theorem sMk.orb {m:Nat}(h:sMk m):sOrb m=true:=by
 rcases h with rfl | rfl | rfl
 ·decide+kernel
 ·decide+kernel
 ·decide+kernel
theorem sMk.full {m:Nat}(h:sMk m){i j:Nat}(hi:i<=m)(k:j<=m):j∈qbX m (m+2) i 0:=by
 have f:=h.orb;unfold sOrb at f;rw [bA1,List.all_eq_true,beq_iff_eq] at f;have c:∀ x,x<=m -> ∃ n,n<m+1/\sIt m n 0=x:=fun x g=>qkc (by simpa using f.1 x (List.mem_range.mpr (Nat.lt_succ_of_le g)));obtain ⟨a,l,d⟩:=c i hi;obtain ⟨b,o,eb⟩:=c j k;rcases Nat.lt_or_ge b a with z | z
 ·have e:sIt m (b+(m+1)-a) i=j:=by
   rw [<- d,<- qhR,show a+(b+(m+1)-a)=(m+1)+b by lia,qhR,f.2,eb]
  rw [<- e];exact qg7 m _ _ i (by lia)
 ·have e:sIt m (b-a) i=j:=by rw [<- d,<- qhR,show a+(b-a)=b by lia,eb]
  rw [<- e];exact qg7 m _ _ i (by lia)
theorem qpi (h:Int):SetTable.bits h<2^64:=by
 unfold SetTable.bits;have h1:=Int.emod_nonneg h (show (2^64:Int)≠0 by decide);have h2:=Int.emod_lt_of_pos h (show (0:Int)<2^64 by decide);have:((h%(2^64:Int)).toNat:Int)<2^64:=by rw [Int.toNat_of_nonneg h1];exact h2
 exact_mod_cast this
theorem qi4 {m:Nat}(hm:sMk m)(h:Int){j:Nat}(a:j<=m):j∈sWay m h:=by
 unfold sWay SetTable.turns;rw [show m+15=13+(m+2) by lia];apply qfU;rw [qmM,Nat.div_eq_of_lt (Nat.lt_trans (qpi h) (by decide))];have hi:=qmN m 13 (SetTable.bits h%(m+1)) (SetTable.bits h) (by have:=Nat.mod_lt (SetTable.bits h) (Nat.succ_pos m);lia);exact hm.full hi a
theorem qgz (m:Nat)(h:Int):(sWay m h).length<=10*SetTable.turns m:=qhD _ _ _ _
theorem qmm {m:Nat}(h:Int):∀ x∈sWay m h,x<=m:=qjI _ _ _ _ (by have:=Nat.mod_lt (SetTable.bits h) (Nat.succ_pos m);lia)
noncomputable def sAdv (m:Nat)(p:SetTable.Probe):SetTable.Probe:=SetTable.advance {SetTable.fresh 0 0 true with mask:=m} p
noncomputable def qdB (m:Nat):SetTable.Probe->List Nat->Prop
 | _,[]=>True
 | p,x::L=>p.j=x/\p.dummy=none/\qdB m (sAdv m p) L
theorem qeH (m i b:Nat)(L:List Nat)(h:qdB m {j:=(SetTable.leap m i b).1,more:=SetTable.runEnd m (SetTable.leap m i b).1-(SetTable.leap m i b).1,i:=(SetTable.leap m i b).1,perturb:=(SetTable.leap m i b).2,dummy:=none} L):
  ∀ more j:Nat,qdB m {j,more,i,perturb:=b,dummy:=none} (List.range' j (more+1)++L)
 | 0,j=>by
  refine ⟨rfl,rfl,?_⟩;exact h
 | more+1,j=>by
  rw [List.range'_succ];refine ⟨rfl,rfl,?_⟩;exact qeH m i b L h more (j+1)
theorem qeG (m:Nat):∀ n i b:Nat,qdB m {j:=i,more:=SetTable.runEnd m i-i,i,perturb:=b,dummy:=none} (qbX m n i b)
 | 0,_,_=>trivial
 | n+1,i,b=>by
  rw [qbX];exact qeH m i b _ (qeG m n _ _) _ _
theorem qfH (t:SetTable)(h:Int):qdB t.mask (t.probeStart h) (sWay t.mask h):=qeG _ _ _ _
theorem qfz {xs:Array Nat}(hr:Ris xs){j:Nat}(d:j∈xs.toList):xs[SetTable.below xs j]? = some j:=by
 have b:=qib hr j;obtain ⟨k,a⟩:=List.getElem?_of_mem d;rw [aT1] at a;have c:¬ k<SetTable.below xs j:=fun z=>by have:=b.lo _ _ a z;lia
 have f:SetTable.below xs j<xs.size:=by have:=(Array.getElem?_eq_some_iff.mp a).1;lia
 have e:=aG1 f;have h1:=b.hi _ _ e (nR1 _);rcases Nat.lt_or_ge (SetTable.below xs j) k with z | z
 ·have:=hr.lt z e a;lia
 ·have:k=SetTable.below xs j:=by lia
  rw [<- this];exact a
theorem qgC {t:SetTable}(hr:Ris t.place){j:Nat}(a:j∈t.place.toList):t.slot j = .live (SetTable.below t.place j):=by
 unfold SetTable.slot;dsimp only;rw [qfz hr a];simp
theorem qk3 {t:SetTable}(hd:t.dummies = #[]){j:Nat}(a:j∉t.place.toList):t.slot j = .empty:=by
 unfold SetTable.slot;have:(t.place[SetTable.below t.place j]? == some j)=false:=by
  rw [beq_eq_false_iff_ne];intro z;rw [<- aT1] at z;exact a (gM1 z)
 dsimp only;rw [this,qhI hd];simp
theorem qkg {t:SetTable}{f:Nat->Int}{h:Int}(hr:Ris t.place)(hd:t.dummies = #[]):∀ (L:List Nat) (p:SetTable.Probe) (n:Nat),qdB t.mask p L->L.length<=n->(∃ x∈L,x∉t.place.toList) ->
  ∃ pre x a,L=pre++x::a/\(∀ y∈pre,y∈t.place.toList/\f (SetTable.below t.place y)≠h) /\
   ((x∉t.place.toList/\SetTable.probe.go t f h n p=some (.empty x none))\/(∃ q,x∈t.place.toList/\f (SetTable.below t.place x)=h/\SetTable.probe.go t f h n p=some (.candidate x (SetTable.below t.place x) q)/\qdB t.mask q a))
 | [],p,n,_,_,c=>by obtain ⟨x,c,_⟩:=c;cases c
 | x::L,p,0,_,hl,_=>by simp at hl
 | x :: L,p,n+1,g,hl,c=>by
  obtain ⟨rfl,o,g⟩:=g;rw [SetTable.probe.go];by_cases b:p.j∈t.place.toList
  ·rw [qgC hr b];dsimp only;by_cases i:f (SetTable.below t.place p.j)=h
   ·refine ⟨[],p.j,L,rfl,(fun y d=>by cases d),.inr ⟨t.advance p,b,i,?_,g⟩⟩;rw [i];simp
   ·have m:(f (SetTable.below t.place p.j) == h)=false:=beq_eq_false_iff_ne.mpr i;rw [m];obtain ⟨y,d,k⟩:=c;have j:∃ x∈L,x∉t.place.toList:=by
     rcases List.mem_cons.mp d with e | e
     ·subst e;exact absurd b k
     ·exact ⟨y,e,k⟩
    obtain ⟨pre,x,a,e,h1,h2⟩:=qkg hr hd L (t.advance p) n g (by simpa using hl) j;refine ⟨p.j::pre,x,a,by rw [e];rfl,fun z l=>?_,?_⟩
    ·rcases List.mem_cons.mp l with e | e
     ·subst e;exact ⟨b,i⟩
     ·exact h1 z e
    ·simpa using h2
  ·rw [qk3 hd b];refine ⟨[],p.j,L,rfl,(fun y d=>by cases d),.inl ⟨b,?_⟩⟩;rw [o]
theorem qj3 {α:Type}[DecidableEq α]:∀ (l l':List α),l.Nodup->(∀ x∈l,x∈l')->l.length<=l'.length
 | [],_,_,_=>Nat.zero_le _
 | x::l,l',hn,hs=>by
  obtain ⟨h1,h2⟩:=List.nodup_cons.mp hn;have c:x∈l':=hs x (mS1);have:=qj3 l (l'.erase x) h2 fun y b=>by
   have a:y≠x:=fun z=>by subst z;exact h1 b
   exact (List.mem_erase_of_ne a).mpr (hs y (mC1 _ b))
  rw [List.length_erase_of_mem c] at this;have:=List.length_pos_of_mem c;rw [lC1];lia
theorem qnE {m:Nat}(occ:List Nat)(b:occ.length<=m):∃ j,j<=m/\j∉occ:=by
 apply Classical.byContradiction;intro z;have:=qj3 (List.range (m+1)) occ List.nodup_range fun x a=>Classical.byContradiction fun q=>z ⟨x,by have:=List.mem_range.mp a;lia,q⟩;rw [List.length_range] at this;lia
theorem sRch.more {m:Nat}{occ a:List Nat}{h:Int}{j:Nat}(r:sRch m occ h j)(k:∀ x∈occ,x∈a):sRch m a h j:=by
 obtain ⟨pre,b,e,f⟩:=r;exact ⟨pre,b,e,fun y c=>k y (f y c)⟩
theorem sTT.fits {es:Array (Int×Value)}{t:SetTable}(h:sTT es t):t.fits es.size=true:=by
 unfold SetTable.fits SetTable.fill;rw [h.du,h.sz];have:=h.fl;simp;exact this
theorem qne {α β:Type}(a:Array α)(b:Array β)(p:Nat)(x:α)(y:β)(c:a.size=b.size):(SetTable.insertAt a p x).toList.zip (SetTable.insertAt b p y).toList=(a.toList.zip b.toList).take p++(x,y)::(a.toList.zip b.toList).drop p:=by
 rw [qdg,qdg,List.zip_append (by rw [List.length_take,List.length_take];simp [c]),List.zip_cons_cons];rw [show List.take p (a.toList.zip b.toList)=(a.toList.take p).zip (b.toList.take p) by simp only [List.zip_eq_zipWith,List.take_zipWith]];rw [show List.drop p (a.toList.zip b.toList)=(a.toList.drop p).zip (b.toList.drop p) by simp only [List.zip_eq_zipWith,List.drop_zipWith]]
theorem qfn {α:Type}(a:Array α)(p:Nat)(x y:α):y∈(SetTable.insertAt a p x).toList↔y=x\/y∈a.toList:=by
 rw [qdg,List.mem_append,List.mem_cons];have:=List.take_append_drop p a.toList;constructor
 ·rintro (h | h | h)
  ·exact .inr (List.mem_of_mem_take h)
  ·exact .inl h
  ·exact .inr (List.mem_of_mem_drop h)
 ·rintro (h | h)
  ·exact .inr (.inl h)
  ·rw [<- this,List.mem_append] at h;rcases h with h | h
   ·exact .inl h
   ·exact .inr (.inr h)
theorem qb7 {α:Type}(a:Array α)(p:Nat)(x:α):(SetTable.insertAt a p x).size=a.size+1:=by
 rw [<- Array.length_toList,qdg,lA1,lC1,<- Nat.add_assoc,<- lA1,List.take_append_drop,Array.length_toList]
theorem sTT.put {es:Array (Int×Value)}{t:SetTable}(h:sTT es t){j:Nat}{e:Int×Value}(g:j<=t.mask)(hn:j∉t.place.toList)(hr:sRch t.mask t.place.toList e.1 j)(hs:es.size+1<=t.mask):sTT (SetTable.insertAt es (t.put j).2 e) (t.put j).1:=by
 have f:(t.put j).1.mask=t.mask:=rfl;have d:(t.put j).1.place=SetTable.insertAt t.place (SetTable.below t.place j) j:=rfl;refine ⟨h.mks,?_,?_,?_,?_,?_,?_⟩
 ·rw [d];exact qnF h.up fun z=>hn (by rw [<- aT1] at z;exact gM1 z)
 ·show (if SetTable.has t.dummies j=true then _ else t.dummies) = #[];rw [qhI h.du,if_neg (by decide)];exact h.du
 ·rw [d,qb7,qb7,h.sz]
 ·intro x b;rw [d,qfn] at b;rcases b with rfl | b
  ·exact g
  ·exact h.le x b
 ·rw [qb7,f];exact hs
 ·rw [d,f];show ∀ z∈(SetTable.insertAt t.place (SetTable.below t.place j) j).toList.zip (SetTable.insertAt es (SetTable.below t.place j) e).toList,_;rw [qne _ _ _ _ _ h.sz];have a:∀ x∈t.place.toList,x∈(SetTable.insertAt t.place (SetTable.below t.place j) j).toList:=fun x b=>(qfn _ _ _ _).mpr (.inr b);intro z c;rw [List.mem_append,List.mem_cons] at c;rcases c with c | rfl | c
  ·exact (h.rc z (List.mem_of_mem_take c)).more a
  ·exact hr.more a
  ·exact (h.rc z (List.mem_of_mem_drop c)).more a
theorem sTT.fresh (l:Bool):sTT #[] (SetTable.fresh 0 0 l):=⟨.inl rfl,.nil,rfl,rfl,(fun j h=>by simp [SetTable.fresh] at h),Nat.zero_le _,fun z h=>by simp [SetTable.fresh] at h⟩
theorem qkk (m:Nat)(a:Array (Option Nat)):∀ n i b:Nat,SetTable.layClean.free m a n i b=(qbX m n i b).find? fun j=>(a.getD j (some 0)).isNone
 | 0,i,b=>by rw [SetTable.layClean.free,qbX];rfl
 | n+1,i,b=>by
  rw [SetTable.layClean.free,qbX,List.find?_append,List.range'_eq_map_range,List.find?_map];rw [show SetTable.runEnd m i+1-i=SetTable.runEnd m i-i+1 by have:=qmB m i;lia];show (match List.find? (fun k=>(a.getD (i+k) (some 0)).isNone) (List.range (SetTable.runEnd m i-i+1)) with
   | some k=>some (i+k)
   | none=>_)=(Option.map (fun k=>i+k) (List.find? (fun k=>(a.getD (i+k) (some 0)).isNone) (List.range (SetTable.runEnd m i-i+1)))).or _
  cases List.find? (fun k=>(a.getD (i+k) (some 0)).isNone) (List.range (SetTable.runEnd m i-i+1)) with
  | some k=>rfl
  | none=>exact qkk m a n _ _
structure sLO (m:Nat)(hs:List Int)(ow:Array (Option Nat)):Prop where
 sz:ow.size=m+1
 ct:ow.toList.countP (·.isSome)=hs.length
 all:∀ q:Nat,q<hs.length -> ∃ j:Nat,ow[j]? = some (some q)
 rc:∀ j q:Nat,ow[j]? = some (some q) -> ∃ h,hs[q]? = some h /\ ∃ pre post,sWay m h=pre++j::post /\ ∀ y∈pre,∃ q':Nat,ow[y]? = some (some q')
theorem qgj (k:Nat):∀ (l:List (Option Nat)) (j:Nat),l[j]? = some none->(l.set j (some k)).countP (·.isSome)=l.countP (·.isSome)+1
 | [],j,h=>by simp at h
 | x::l,0,h=>by
  have:x=none:=by simpa using h
  subst this;simp
 | x::l,j+1,h=>by
  rw [List.set_cons_succ,List.countP_cons,List.countP_cons,qgj k l j (by simpa using h)];lia
theorem qoB {m:Nat}{hs:List Int}{b:Array (Option Nat)}(hm:sMk m)(h:sLO m hs b)(J:hs.length<=m)(x:Int):
  ∃ j,SetTable.layClean.free m b (SetTable.turns m) (SetTable.bits x%(m+1)) (SetTable.bits x)=some j/\sLO m (hs++[x]) (b.setIfInBounds j (some hs.length)):=by
 rw [qkk];show ∃ j,(sWay m x).find? _=some j/\_;have H:∃ j:Nat,b[j]? = some none:=by
  apply Classical.byContradiction;intro z;have:b.toList.countP (·.isSome)=b.toList.length:=List.countP_eq_length.mpr fun a D=>by
   obtain ⟨j,B⟩:=List.getElem?_of_mem D;cases a with
   | some q=>rfl
   | none=>exact absurd ⟨j,by rw [<- aT1];exact B⟩ z
  rw [h.ct,show b.toList.length=b.size from rfl,h.sz] at this;lia
 obtain ⟨u,A⟩:=H;have r:u<=m:=by have:=(Array.getElem?_eq_some_iff.mp A).1;rw [h.sz] at this;lia
 cases hf:(sWay m x).find? fun j=>(b.getD j (some 0)).isNone with
 | none=>
  exfalso;have:=List.find?_eq_none.mp hf u (qi4 hm x r);rw [Array.getD_eq_getD_getElem?,A] at this;simp at this
 | some j=>
  obtain ⟨o,pre,k,e,F⟩:=List.find?_eq_some_iff_append.mp hf;have w:=qmm (m:=m) x;have B:j<=m:=w j (by rw [e];simp);have d:j<b.size:=by rw [h.sz];lia
  have s:∀ y,y<=m->(b.getD y (some 0)).isNone=false -> ∃ q,b[y]? = some (some q):=fun y g n=>by
   have i:y<b.size:=by rw [h.sz];lia
   rw [Array.getD_eq_getD_getElem?,aG1 i] at n;rw [aG1 i];cases hc:b[y] with
   | none=>rw [hc] at n;cases n
   | some q=>exact ⟨q,rfl⟩
  have v:b[j]? = some none:=by
   rw [Array.getD_eq_getD_getElem?,aG1 d] at o;rw [aG1 d];cases hc:b[j] with
   | none=>rfl
   | some q=>rw [hc] at o;cases o
  have keep:∀ y q,b[y]? = some (some q)->(b.setIfInBounds j (some hs.length))[y]? = some (some q):=fun y q c=>by
   have:j≠y:=fun z=>by subst z;rw [v] at c;cases c
   rw [Array.getElem?_setIfInBounds_ne this];exact c
  have new:(b.setIfInBounds j (some hs.length))[j]? = some (some hs.length):=by
   rw [Array.getElem?_setIfInBounds_self_of_lt d]
  refine ⟨j,rfl,?_,?_,?_,?_⟩
  ·rw [Array.size_setIfInBounds];exact h.sz
  ·rw [Array.toList_setIfInBounds,qgj _ _ _ (by rw [aT1];exact v),h.ct];simp
  ·intro q n;rw [lA1,List.length_singleton] at n;rcases Nat.lt_or_ge q hs.length with z | z
   ·obtain ⟨y,c⟩:=h.all q z;exact ⟨y,keep y q c⟩
   ·have:q=hs.length:=by lia
    subst this;exact ⟨j,new⟩
  ·intro y q c;by_cases g:j=y
   ·subst g;rw [new] at c;cases c;refine ⟨x,by simp,pre,k,e,fun y g=>?_⟩;obtain ⟨q,eq⟩:=s y (w y (by rw [e];simp [g])) (by have:=F y g;simpa using this);exact ⟨q,keep y q eq⟩
   ·rw [Array.getElem?_setIfInBounds_ne g] at c;obtain ⟨h',C,l,f,I,G⟩:=h.rc y q c;refine ⟨h',?_,l,f,I,fun z E=>?_⟩
    ·rw [gL1 (gE1.mp C).1];exact C
    ·obtain ⟨t,p⟩:=G z E;exact ⟨t,keep z t p⟩
noncomputable def qlc (m:Nat)(acc:Option (Array (Option Nat)×Nat))(h:Int):Option (Array (Option Nat)×Nat):=do
 let (owner,k)<-acc
 let j<-SetTable.layClean.free m owner (SetTable.turns m) (SetTable.bits h%(m+1)) (SetTable.bits h)
 pure (owner.setIfInBounds j (some k),k+1)
theorem qj1 {m:Nat}(hm:sMk m):∀ (rest hs:List Int) (b:Array (Option Nat)),sLO m hs b->hs.length+rest.length<=m+1 -> ∃ a,rest.foldl (qlc m) (some (b,hs.length))=some (a,hs.length+rest.length)/\sLO m (hs++rest) a
 | [],hs,b,h,_=>⟨b,rfl,by rw [List.append_nil];exact h⟩
 | x::rest,hs,b,h,hl=>by
  rw [lC1] at hl;obtain ⟨j,e,h'⟩:=qoB hm h (by lia) x;obtain ⟨a,d,c⟩:=qj1 hm rest (hs++[x]) _ h' (by rw [lA1,List.length_singleton];lia);refine ⟨a,?_,by rw [List.append_assoc] at c;exact c⟩;rw [List.foldl_cons];have:qlc m (some (b,hs.length)) x=some (b.setIfInBounds j (some hs.length),(hs++[x]).length):=by
   show (SetTable.layClean.free m b (SetTable.turns m) (SetTable.bits x%(m+1)) (SetTable.bits x) >>= fun j=>_)=_;rw [e,lA1,List.length_singleton];rfl
  rw [this,d,lA1,List.length_singleton,lC1]
  congr 2;lia
theorem qrt {m:Nat}(hm:sMk m)(hs:Array Int)(d:hs.size<=m+1):∃ ow,SetTable.layClean m hs=some ow/\sLO m hs.toList ow:=by
 have c:sLO m [] (Array.replicate (m+1) none):=by
  refine ⟨Array.size_replicate,?_,(fun q h=>absurd h (Nat.not_lt_zero _)),fun j q h=>?_⟩
  ·rw [Array.toList_replicate,List.length_nil,List.countP_eq_zero];intro a b;rw [(List.mem_replicate.mp b).2];simp
  ·exfalso;rw [Array.getElem?_replicate] at h;split at h<;>simp at h
 obtain ⟨ow,e,h⟩:=qj1 hm hs.toList [] _ c (by simpa using d);refine ⟨ow,?_,by simpa using h⟩;unfold SetTable.layClean;rw [<- Array.foldl_toList];show Option.map _ (List.foldl (qlc m) (some (Array.replicate (m+1) none,0)) hs.toList)=_;have e:List.foldl (qlc m) (some (Array.replicate (m+1) none,0)) hs.toList=_:=e;rw [e];rfl
theorem qhX {α β:Type}(f:α->Option β)(g:α->β):∀ l:List α,(∀ a∈l,f a=some (g a))->l.filterMap f=l.map g
 | [],_=>rfl
 | a::l,h=>by
  rw [List.filterMap_cons,h a mS1];dsimp only;rw [mP1,qhX f g l fun b c=>h b (mC1 _ c)]
theorem qiW {α β γ:Type}(f:α->β)(g:α->γ):∀ l:List α,(l.map f).zip (l.map g)=l.map fun a=>(f a,g a)
 | []=>rfl
 | a::l=>by rw [mP1,mP1,List.zip_cons_cons,qiW f g l];rfl
theorem qdx {α β:Type}{f g:α->Option β}:∀ l:List α,(∀ a∈l,f a=g a)->l.filterMap f=l.filterMap g
 | [],_=>rfl
 | a::l,h=>by rw [List.filterMap_cons,List.filterMap_cons,h a mS1,qdx l fun b c=>h b (mC1 _ c)]
theorem qhM:∀ (l:List (Option Nat)) (s:Nat),((List.range' s l.length).filterMap fun j=>(l.getD (j-s) none).map (j,·)).length=l.countP (·.isSome)
 | [],s=>rfl
 | x::l,s=>by
  rw [lC1,List.range'_succ,List.filterMap_cons,List.countP_cons];have ih:=qhM l (s+1);have e:(List.filterMap (fun j=>Option.map (fun x=>(j,x)) ((x::l).getD (j-s) none)) (List.range' (s+1) l.length))=List.filterMap (fun j=>(l.getD (j-(s+1)) none).map (j,·)) (List.range' (s+1) l.length):=by
   refine qdx _ fun j a=>?_;rw [List.mem_range'_1] at a;rw [show j-s=(j-(s+1))+1 by lia];rfl
  rw [e,Nat.sub_self];cases x with
  | none=>simpa using ih
  | some q=>simpa using ih
theorem qoG {m fi mo:Nat}{l p:Bool}(hm:sMk m){es:Array (Int×Value)}(G:es.size<=m):∃ r b,SetTable.laid m fi mo l p (es.map (·.1))=some (r,b)/\(b.filterMap (es[·]?)).size=es.size/\sTT (b.filterMap (es[·]?)) r/\(∀ e,e∈(b.filterMap (es[·]?)).toList↔e∈es.toList)/\r.led=l/\r.mask=m:=by
 obtain ⟨g,e,h⟩:=qrt hm (es.map (·.1)) (by rw [Array.size_map];lia);have c:(es.map (·.1)).toList.length=es.size:=by simp
 generalize t:(List.range (m+1)).filterMap (fun j=>(g.getD j none).map (j,·))=a;refine ⟨{mask:=m,place:=(a.map (·.1)).toArray,dummies:= #[],finger:=fi,led:=l,moves:=mo,plain:=p},(a.map (·.2)).toArray,?_,?_⟩
 ·unfold SetTable.laid;rw [e,<- t];rfl
 have mem:∀ j q,(j,q)∈a↔g[j]? = some (some q):=fun j q=>by
  rw [<- t,List.mem_filterMap];constructor
  ·rintro ⟨I,o,e⟩;obtain ⟨w,eq,e⟩:=oM1.mp e;cases e;rw [List.mem_range] at o;have n:j<g.size:=by rw [h.sz];exact o
   rw [Array.getD_eq_getD_getElem?,aG1 n] at eq;rw [aG1 n];have:g[j]=some q:=by simpa using eq
   rw [this]
  ·intro e;have n:=(Array.getElem?_eq_some_iff.mp e).1;refine ⟨j,List.mem_range.mpr (by rw [h.sz] at n;exact n),?_⟩;rw [Array.getD_eq_getD_getElem?,e];rfl
 have lt:∀ z∈a,z.2<es.size:=fun z f=>by
  obtain ⟨h',u,_⟩:=h.rc z.1 z.2 ((mem _ _).mp f);have:=(gE1.mp u).1;rw [c] at this;exact this
 have B:a.length=es.size:=by
  have:=qhM g.toList 0;rw [show g.toList.length=g.size from rfl,h.sz,h.ct,c] at this;rw [<- this,<- t,List.range_eq_range']
  congr 1
  refine qdx _ fun j _=>?_;simp [Array.getD_eq_getD_getElem?]
 have i:((a.map (·.2)).toArray.filterMap (es[·]?)).toList=a.map fun z=>(es[z.2]?).getD (0,.none):=by
  rw [Array.toList_filterMap];rw [List.filterMap_map];exact qhX _ _ _ fun z f=>by
   show es[z.2]? = _;rw [aG1 (lt z f)];rfl
 have sz:((a.map (·.2)).toArray.filterMap (es[·]?)).size=es.size:=by rw [<- Array.length_toList,i,lM1,B]
 refine ⟨sz,⟨hm,?_,rfl,?_,?_,?_,?_⟩,fun e=>?_,rfl,rfl⟩
 ·unfold Ris;rw [<- t];exact List.pairwise_lt_range.sublist (by simpa using qhe (fun j=>g.getD j none) (List.range (m+1)))
 ·rw [sz,sT1,lM1,B]
 ·intro j s;simp only [List.mem_map] at s;obtain ⟨z,f,rfl⟩:=s;have:=(Array.getElem?_eq_some_iff.mp ((mem z.1 z.2).mp f)).1;rw [h.sz] at this;show _<=m;lia
 ·rw [sz];exact G
 ·rw [i];show ∀ z∈(a.map (·.1)).zip _,sRch m (a.map (·.1)) _ _;rw [qiW];intro z f;obtain ⟨y,A,rfl⟩:=List.mem_map.mp f;obtain ⟨h',u,pre,k,D,F⟩:=h.rc y.1 y.2 ((mem _ _).mp A);have:((es[y.2]?).getD (0,.none)).1=h':=by
   have d:=lt y A;rw [Array.toList_map,gP1,aT1,aG1 d] at u;rw [aG1 d];simpa using u
  rw [this];exact ⟨pre,k,D,fun x H=>by obtain ⟨w,E⟩:=F x H;exact List.mem_map.mpr ⟨(x,w),(mem _ _).mpr E,rfl⟩⟩
 ·rw [i,List.mem_map];constructor
  ·rintro ⟨z,f,rfl⟩;rw [aG1 (lt z f)];simp
  ·intro C;obtain ⟨q,v⟩:=List.getElem?_of_mem C;rw [aT1] at v;have d:=(Array.getElem?_eq_some_iff.mp v).1;obtain ⟨j,s⟩:=h.all q (by rw [c];exact d);exact ⟨(j,q),(mem _ _).mpr s,by rw [v];rfl⟩
theorem qrF {prog:Program}{w:World}:∀ (n:Nat) {k:TK} {A:Around} {E:Value->Shared->Prop} {s:Shared} {v:Value} {Q:Bool->Shared->Prop},k.dep<=n->IsTK s.heap k v->Q true s->wpAny (model prog w) A (hashByValue n v) Q E s:=by
 intro n
 induction n with
 | zero=>
  intro k A E s v Q hd r h;cases r with
  | non=>exact wP1 h
  | int i t=>exact wP1 h
  | tup _ _ _ _=>simp [TK.dep] at hd
 | succ n ih=>
  intro k A E s v Q hd r h;cases r with
  | non=>exact wP1 h
  | int i t=>exact wP1 h
  | @tup a o b m xs d j p e=>
   have f:s.TypeIs (.ref a) "tuple":=⟨o,d,j⟩;rw [TK.dep] at hd;unfold hashByValue;refine wB1 (wpAny_specialOf f F.slot_tuple_hash.lookup ?_);show wpAny _ _ (seqItems? (.ref a) >>= _) _ _ s;refine wB1 (wpAny_seqItems d p ?_);refine wB1 ?_;show wpAny _ _ (forIn b _ _) _ _ s;rw [<- Array.forIn_toList];refine wpAny_forIn_list _ (fun rest r s'=>r.1=none/\s'=s /\ ∃ ks,qcF s.heap ks rest/\TK.depAll ks<=n) _ ?_ ?_ _ _ ⟨rfl,rfl,xs,e,by lia⟩
   ·rintro v rest r s' ⟨c,rfl,ks,l,u⟩;cases l with
    | @cons q _ ks1 _ x g=>
     rw [TK.depAll] at u;refine wB1 (ih (k:=q) (by lia) x ?_);simp only [Bool.not_true,bF1,if_false];exact wP1 ⟨rfl,rfl,ks1,g,by lia⟩
   ·rintro ⟨y,r2⟩ s' ⟨c,rfl,_⟩;simp only at c;subst c;exact wP1 h
theorem qm6 {prog:Program}{w:World}:∀ (n:Nat) {k:TK} {A:Around} {E:Value->Shared->Prop} {s:Shared} {v:Value} {Q:Bool->Shared->Prop},k.dep<=n->IsTK s.heap k v->Q false s->wpAny (model prog w) A (ofAClassStatement n v) Q E s:=by
 intro n
 induction n with
 | zero=>
  intro k A E s v Q hd r h;cases r with
  | non=>exact wP1 h
  | int i t=>exact wP1 h
  | tup _ _ _ _=>simp [TK.dep] at hd
 | succ n ih=>
  intro k A E s v Q hd r h;cases r with
  | non=>exact wP1 h
  | int i t=>exact wP1 h
  | @tup a o b m xs d j p e=>
   have f:s.TypeIs (.ref a) "tuple":=⟨o,d,j⟩;rw [TK.dep] at hd;unfold ofAClassStatement;refine wB1 (wpAny_typeOf f ?_);show wpAny _ _ (pure true >>= _) _ _ s;refine wB1 (wP1 ?_);simp only [Bool.not_true,bF1,if_false];refine wB1 (wpAny_seqItems d p ?_);refine wB1 ?_;show wpAny _ _ (forIn b _ _) _ _ s;rw [<- Array.forIn_toList];refine wpAny_forIn_list _ (fun rest r s'=>r.1=none/\s'=s /\ ∃ ks,qcF s.heap ks rest/\TK.depAll ks<=n) _ ?_ ?_ _ _ ⟨rfl,rfl,xs,e,by lia⟩
   ·rintro v rest r s' ⟨c,rfl,ks,l,u⟩;cases l with
    | @cons q _ ks1 _ x g=>
     rw [TK.depAll] at u;refine wB1 (ih (k:=q) (by lia) x ?_);simp only [bF1,if_false];exact wP1 ⟨rfl,rfl,ks1,g,by lia⟩
   ·rintro ⟨y,r2⟩ s' ⟨c,rfl,_⟩;simp only at c;subst c;exact wP1 h
noncomputable def sE1 (h:Heap)(k:TK)(e:Int×Value):Prop:=∃ a,e=(k.hash,.ref a)/\IsTK h k (.ref a)/\k.dep<=8
section
variable {prog:Program} {w:World} {A:Around} {E:Value->Shared->Prop} {s:Shared}
theorem qnx {k:TK}{x:Addr}{Q:Bool->Shared->Prop}(hk:IsTK s.heap k (.ref x))(hd:k.dep<=8)(l:List Value)(he:∀ v∈l,∃ b a,v = .ref a/\IsTK s.heap b (.ref a)/\b.dep<=8)(h:Q false s):wpAny (model prog w) A (searchCouldBeSeen (.ref x) l) Q E s:=by
 unfold searchCouldBeSeen;refine wB1 ?_;refine wpAny_forIn_list _ (fun rest r s'=>r.1=none/\s'=s /\ ∀ v∈rest,∃ b a,v = .ref a/\IsTK s.heap b (.ref a)/\b.dep<=8) _ ?_ ?_ _ _ ⟨rfl,rfl,he⟩
 ·rintro v rest r s' ⟨c,rfl,e⟩;obtain ⟨b,a,rfl,h1,h2⟩:=e v mS1;have tl:∀ v∈rest,∃ b a,v=Value.ref a/\IsTK s'.heap b (.ref a)/\b.dep<=8:=fun v h=>e v (mC1 _ h);dsimp only;by_cases d:(x == a)=true
  ·rw [d];exact wP1 ⟨rfl,rfl,tl⟩
  ·rw [Bool.not_eq_true] at d;rw [d];show wpAny _ _ (eqIsQuiet 8 (.ref x) >>= _) _ _ _;refine wB1 (qfa 8 hd hk ?_);refine wB1 (qfa 8 h2 h1 ?_);refine wB1 (qm6 8 hd hk ?_);refine wB1 (qm6 8 h2 h1 ?_);exact wP1 ⟨rfl,rfl,tl⟩
 ·rintro ⟨f,r2⟩ s' ⟨c,rfl,_⟩;simp only at c;subst c;exact wP1 h
theorem qgf {α:Type}{occ:List α}{a c:α}(hc:c∉occ)(ha:a∈occ):∀ {d b B D:List α},(∀ y∈b,y∈occ)->b++a::B=d++c::D->a∈d
 | [],[],B,D,_,e=>by
  simp at e;obtain ⟨rfl,_⟩:=e;exact absurd ha hc
 | [],z::b,B,D,h,e=>by
  simp at e;obtain ⟨rfl,_⟩:=e;exact absurd (h z mS1) hc
 | z::d,[],B,D,_,e=>by
  simp at e;obtain ⟨rfl,_⟩:=e;exact mS1
 | z::d,z'::b,B,D,h,e=>by
  simp at e;exact mC1 _ (qgf hc ha (fun y f=>h y (mC1 _ f)) e.2)
theorem qmi {xs:Array Nat}(hr:Ris xs){i j:Nat}(h:xs[i]? = some j):SetTable.below xs j=i:=by
 have e:=qfz hr (gM1 (by rw [aT1];exact h));rcases Nat.lt_trichotomy (SetTable.below xs j) i with z | z | z
 ·have:=hr.lt z e h;lia
 ·exact z
 ·have:=hr.lt z h e;lia
theorem qqP {m:Nat}(h:sMk m):(m%2 == 0)=false:=by rcases h with rfl | rfl | rfl<;>rfl
theorem srch (N:Bool) {a:Addr} {es:Array (Int×Value)} {ep:Nat} {t:SetTable} {k:TK} {x:Addr} (hu:A.units+8<cLine) (ho:s.heap.get? a=some (stO es ep t)) (ht:sTT es t) (he:∀ e∈es.toList,∃ k',sE1 s.heap k' e) (hk:IsTK s.heap k (.ref x)) (hd:k.dep<=8) {Q:SetFound->Shared->Prop}
  (q1:(∃ e∈es.toList,sE1 s.heap k e) -> ∀ i,Q (.there (if N=true then none else some i)) s)
  (q2:∀ j pre m,sWay t.mask k.hash=pre++j::m->(∀ y∈pre,y∈t.place.toList)->j∉t.place.toList->(∀ e∈es.toList,¬ sE1 s.heap k e)->Q (.free j false) s):
  ∀ (n:Nat) (L c:List Nat) (b:Option SetTable.Probe),sWay t.mask k.hash=c++L->qdB t.mask (b.getD (t.probeStart k.hash)) L->L.length<n->(∀ y∈c,y∈t.place.toList /\ ∀ e,es[SetTable.below t.place y]? = some e -> ¬ sE1 s.heap k e)->wpAny (model prog w) A (setSearchFrom a (.ref x) k.hash N n b) Q E s:=by
 have hf:=ht.fits;have P:t.place.toList.length<=t.mask:=by rw [Array.length_toList,ht.sz];exact ht.fl
 intro n
 induction n with
 | zero=>intro L _ _ _ _ h;exact absurd h (Nat.not_lt_zero _)
 | succ n ih=>
  intro L c b T hs hl U;have hx:∃ y∈L,y∉t.place.toList:=by
   obtain ⟨j,hj,S⟩:=qnE t.place.toList P;have:=qi4 ht.mks k.hash hj;rw [T,List.mem_append] at this;rcases this with z | z
   ·exact absurd (U j z).1 S
   ·exact ⟨j,z,S⟩
  have hL:L.length<=10*SetTable.turns t.mask:=by
   have:=qgz t.mask k.hash;rw [T,lA1] at this;lia
  obtain ⟨pre,y,m,e,h1,h2⟩:=qkg (f:=fun i=>(es[i]?.map (·.1)).getD 0) (h:=k.hash) ht.up ht.du L _ _ hs hL hx;unfold setSearchFrom;refine wB1 (wpAny_setState_of ho rfl hf ?_);dsimp only;rw [show t.gaveWay=false from qqP ht.mks];simp only [bF1,if_false];rcases h2 with ⟨S,hg⟩ | ⟨q,V,hh,hg,hq⟩
  ·generalize D:SetTable.probe t _ k.hash (b.getD (t.probeStart k.hash))=met;have D:=D.symm.trans hg;subst D;refine wP1 (q2 y (c++pre) m (by rw [T,e,List.append_assoc]) (fun z R=>?_) S fun e' he' l=>?_)
   ·rcases List.mem_append.mp R with o | o
    ·exact (U z o).1
    ·exact (h1 z o).1
   ·obtain ⟨i,hi⟩:=List.getElem?_of_mem he';have I:es[i]? = some e':=by rw [<- aT1];exact hi
    have J:=(Array.getElem?_eq_some_iff.mp I).1;have hpi:i<t.place.size:=by rw [ht.sz];exact J
    have K:=aG1 hpi;have R:(t.place[i],e')∈t.place.toList.zip es.toList:=by
     refine gM1 (i:=i) ?_;rw [List.getElem?_zip_eq_some];exact ⟨by rw [aT1];exact K,hi⟩
    obtain ⟨M,O,_⟩:=id l;obtain ⟨pre1,post1,B,f1⟩:=ht.rc _ R;dsimp only at B;rw [show e'.1=k.hash from by rw [O],T,e,<- List.append_assoc] at B;have hm:=qgf (occ:=t.place.toList) S (gM1 (by rw [aT1];exact K)) f1 B.symm;have W:=qmi ht.up K;rcases List.mem_append.mp hm with o | o
    ·exact (U _ o).2 e' (by rw [W];exact I) l
    ·refine (h1 _ o).2 ?_;rw [W,I,O];rfl
  ·generalize D:SetTable.probe t _ k.hash (b.getD (t.probeStart k.hash))=met;have D:=D.symm.trans hg;subst D;have W:=qfz ht.up V;have J:SetTable.below t.place y<es.size:=by rw [<- ht.sz];exact (Array.getElem?_eq_some_iff.mp W).1
   have d:=aG1 J;generalize es[SetTable.below t.place y]=e0 at d;have F:e0∈es.toList:=gM1 (by rw [aT1];exact d);obtain ⟨k',M,rfl,l,C⟩:=he e0 F;dsimp only;have u:wpAny (model prog w) A (do
     let equal<-holding [Value.ref M] (eqBool (Value.ref M) (.ref x))
     let (es',_,t')<-setState a
     if (N&&equal)=true then return SetFound.there none
     let some same:=t'.sameMemory t.moves t.mask | unsupported "set.changed-during-lookup:is-the-new-block-at-the-old-address"
     let still<-match (if same=true then t'.slot y else .empty) with
      | .live Y=>match es'[Y]? with
       | some (_,y')=>do pure (if (<- isSame y' (.ref M))=true then some Y else none)
       | none=>pure none
      | _=>pure none
     match still with
     | none=>do rule "set.search.anew";setSearchFrom a (.ref x) k.hash N n none
     | some Y=>if equal=true then return .there (some Y) else setSearchFrom a (.ref x) k.hash N n (some q)) Q E s:=by
    refine wB1 (wpAny_holding (qrM 8 C hu l hk _ _ _ _ ?_));refine wB1 (wpAny_setState_of ho rfl hf ?_);dsimp only;by_cases G:k'=k
    ·subst G;rw [decide_eq_true rfl];cases N with
     | true=>exact wP1 (q1 ⟨_,F,M,rfl,l,C⟩ 0)
     | false=>
      simp only [Bool.false_and,bF1,if_false];rw [show t.sameMemory t.moves t.mask=some true from by unfold SetTable.sameMemory;simp];dsimp only;rw [if_pos rfl,qgC ht.up V];dsimp only;rw [d];dsimp only;refine wB1 ?_;refine wpAny_of_eq (a:=true) (by unfold isSame;simp) ?_;rw [if_pos rfl];refine wB1 (wP1 ?_);exact wP1 (q1 ⟨_,F,M,rfl,l,C⟩ _)
    ·rw [decide_eq_false G];simp only [Bool.and_false,bF1,if_false];rw [show t.sameMemory t.moves t.mask=some true from by unfold SetTable.sameMemory;simp];dsimp only;rw [if_pos rfl,qgC ht.up V];dsimp only;rw [d];dsimp only;refine wB1 ?_;refine wpAny_of_eq (a:=true) (by unfold isSame;simp) ?_;rw [if_pos rfl];refine wB1 (wP1 ?_);dsimp only;refine ih m (c++pre++[y]) (some q) ?_ hq ?_ fun z R=>?_
     ·rw [T,e];simp
     ·rw [e] at hl;simp at hl;lia
     ·rcases List.mem_append.mp R with o | o
      ·rcases List.mem_append.mp o with X | X
       ·exact U z X
       ·refine ⟨(h1 z X).1,fun B g H=>(h1 z X).2 ?_⟩;obtain ⟨a1,rfl,_⟩:=H;rw [g];rfl
      ·have:z=y:=by simpa using o
       subst this;refine ⟨V,fun B g H=>G ?_⟩;rw [d] at g;obtain ⟨a1,p,Z,_⟩:=H;cases g;injection p with _ p;injection p with p;subst p;exact l.inj Z
   by_cases r:t.led=true
   ·rw [r];simp only [Bool.not_true,bF1,if_false];rw [d];exact u
   ·rw [Bool.not_eq_true] at r;rw [r];simp only [Bool.not_false,if_true];refine wB1 (qnx hk hd _ (fun v hv=>?_) ?_)
    ·obtain ⟨B,g,rfl⟩:=List.mem_map.mp hv;rw [Array.toList_filter] at g;obtain ⟨k1,a1,rfl,g1,g2⟩:=he B ((List.mem_filter.mp g).1);exact ⟨k1,a1,rfl,g1,g2⟩
    ·simp only [bF1,if_false];rw [d];exact u
end
theorem qhd {es:Array (Int×Value)}{t:SetTable}(h:sTT es t):t.tooFull=decide (es.size*5>=t.mask*3):=by
 unfold SetTable.tooFull SetTable.fill;rw [h.du,h.sz];rfl
noncomputable def KsAt (h:Heap)(xs:List (TK×Addr×Value)):Prop:=∀ z∈xs,IsTK h z.1 (.ref z.2.1)/\z.1.dep<=8
theorem KsAt.el {h:Heap}{xs:List (TK×Addr×Value)}{es:Array (Int×Value)}(c:KsAt h xs)(a:∀ e∈es.toList,∃ z∈xs,e=(z.1.hash,.ref z.2.1)):∀ e∈es.toList,∃ f,sE1 h f e:=fun e d=>by
 obtain ⟨z,b,rfl⟩:=a e d;exact ⟨z.1,z.2.1,rfl,(c z b).1,(c z b).2⟩
theorem KsAt.found {h:Heap}{xs:List (TK×Addr×Value)}{es:Array (Int×Value)}{k:TK}(i:KsAt h xs)(g:∀ e∈es.toList,∃ z∈xs,e=(z.1.hash,.ref z.2.1))(d:∀ z∈xs,(z.1.hash,Value.ref z.2.1)∈es.toList):(∃ e∈es.toList,sE1 h k e)↔k∈xs.map (·.1):=by
 constructor
 ·rintro ⟨e,j,a,l,f,_⟩;obtain ⟨z,c,b⟩:=g e j;rw [l] at b;injection b with _ b;injection b with b;refine List.mem_map.mpr ⟨z,c,?_⟩;have:=(i z c).1;rw [<- b] at this;exact this.inj f
 ·intro f;obtain ⟨z,c,rfl⟩:=List.mem_map.mp f;exact ⟨_,d z c,z.2.1,rfl,(i z c).1,(i z c).2⟩
section
variable {P:Program} {w:World} {A:Around} {E:Value->Shared->Prop} {s:Shared} {p:Addr} {xs:List (TK×Addr×Value)}
theorem qhp {m:Nat}(h:sMk m):SetTable.turns m<=142:=by unfold SetTable.turns;rcases h with z | z | z<;>rw [z]<;>decide
noncomputable def qeu (xs:List (TK×Addr×Value))(k:TK)(x:Addr):List (TK×Addr×Value):=if k∈xs.map (·.1) then xs else xs++[(k,x,.none)]
theorem addR {k:TK}{x:Addr}{Q:Bool->Shared->Prop}(hu:A.units+8<cLine)(hS:qbq p xs s.heap)(X:KsAt s.heap xs)(hb:xs.length<76)(hk:IsTK s.heap k (.ref x))(hd:k.dep<=8)
  (q:∀ c h',Heap.SameBut p s.heap h'->qbq p (qeu xs k x) h'->Q c {s with heap:=h'}):wpAny (model P w) A (setAddHashed p (.ref x) k.hash) Q E s:=by
 obtain ⟨nd,es,ep,t,K,B,I,g,G,R⟩:=id hS;have hf:=B.fits;unfold setAddHashed setAddHashedIn;refine wpAny_holding (wB1 (wpAny_setState_of K rfl hf ?_));dsimp only;rw [show byScan (Value.ref x) es=false from rfl];simp only [bF1,if_false];unfold setSearch;refine wB1 (srch true hu K B (X.el g) hk hd ?q1 ?q2 100000 (sWay t.mask k.hash) [] none rfl (qfH t k.hash) ?ln (fun y hy=>by cases hy))
 case q1=>
  intro h _;have U:=(X.found g G).mp h;have F:qeu xs k x=xs:=by unfold qeu;rw [if_pos U]
  rw [F] at q;exact wP1 (q _ s.heap (Heap.SameBut.refl p s.heap) hS)
 case q2=>
  intro j pre H ew hp hj S;dsimp only;have hn:k∉xs.map (·.1):=fun z=>by obtain ⟨e,n,h⟩:=(X.found g G).mpr z;exact S e n h
  have F:qeu xs k x=xs++[(k,x,.none)]:=by unfold qeu;rw [if_neg hn]
  rw [F] at q;refine wB1 (wpAny_setState_of K rfl hf ?_);dsimp only;have V:j<=t.mask:=qmm k.hash j (by rw [ew];simp);rw [qhd B] at I;have I:¬ es.size*5>=t.mask*3:=by simpa using I
  have D:es.size+1<=t.mask:=by rcases B.mks with z | z | z<;>rw [z] at I ⊢ <;> lia
  have v:sTT (SetTable.insertAt es (t.put j).2 (k.hash,.ref x)) (t.put j).1:=B.put V hj ⟨pre,H,ew,hp⟩ D;have O:(SetTable.insertAt es (t.put j).2 (k.hash,Value.ref x)).size=(xs++[(k,x,Value.none)]).length:=by rw [qb7,R,lA1];rfl
  have r:(SetTable.insertAt es (t.put j).2 (k.hash,Value.ref x)).size<=sizeLine:=by rw [O,lA1,sizeLine_eq];simp;lia
  have sb:=Heap.SameBut.update s.heap p (Obj.putSet (SetTable.insertAt es (t.put j).2 (k.hash,.ref x)) (t.put j).1);have M:=qmE (fs:=SetTable.insertAt es (t.put j).2 (k.hash,.ref x)) (u:=(t.put j).1) K;have L:((xs++[(k,x,Value.none)]).map (·.1)).Nodup:=by
   rw [List.map_append,List.nodup_append];exact ⟨nd,by simp,fun a ha b hb e=>by simp at hb;subst hb;subst e;exact hn ha⟩
  have e1:∀ e∈(SetTable.insertAt es (t.put j).2 (k.hash,Value.ref x)).toList,∃ z∈xs++[(k,x,Value.none)],e=(z.1.hash,.ref z.2.1):=fun e n=>by
   rw [qfn] at n;rcases n with rfl | n
   ·exact ⟨_,mA1 _ mS1,rfl⟩
   ·obtain ⟨z,h1,h2⟩:=g e n;exact ⟨z,List.mem_append_left _ h1,h2⟩
  have a1:∀ z∈xs++[(k,x,Value.none)],(z.1.hash,Value.ref z.2.1)∈(SetTable.insertAt es (t.put j).2 (k.hash,Value.ref x)).toList:=fun z W=>by
   rw [qfn];rcases List.mem_append.mp W with Z | Z
   ·exact .inr (G z Z)
   ·rw [List.mem_singleton.mp Z];exact .inl rfl
  have tail:wpAny (model P w) A (do
    storeSet p (SetTable.insertAt es (t.put j).2 (k.hash,.ref x)) (t.put j).1
    if (!false&&(t.put j).1.tooFull)=true then do
      setRelay p (SetTable.grown (es.size+1))
      pure true
     else pure true) Q E s:=by
   refine wB1 (wpAny_storeSet_of K rfl ?_ r);by_cases f:(t.put j).1.tooFull=true
   ·rw [f];simp only [Bool.not_false,Bool.and_true,if_true];refine wB1 ?_;unfold setRelay;refine wB1 (wpAny_setState_of (s:={s with heap:=s.heap.update p _}) M rfl v.fits ?_);dsimp only;have N:=f;rw [qhd v,qb7] at N;have N:(es.size+1)*5>=t.mask*3:=of_decide_eq_true N;have e4:∃ m,sMk m/\SetTable.sizeAbove (SetTable.grown (es.size+1))=m+1/\es.size+1<=m/\(es.size+1)*5<m*3:=by
     rcases B.mks with z | z | z<;>rw [z] at I N
     ·have:es.size=4:=by lia
      rw [this];exact ⟨31,.inr (.inl rfl),rfl,by decide,by decide⟩
     ·have:es.size=18:=by lia
      rw [this];exact ⟨127,.inr (.inr rfl),rfl,by decide,by decide⟩
     ·lia
    obtain ⟨m,hm,em,Y,hm2⟩:=e4;rw [if_neg (by rw [em,sizeLine_eq];rcases hm with z | z | z<;>rw [z]<;>decide)];obtain ⟨t2,d,er,i,J,o,_,T⟩:=qoG (m:=m) (fi:=(t.put j).1.finger) (mo:=(t.put j).1.movedTo m) (l:=(t.put j).1.led) (p:=(t.put j).1.plain) hm (es:=SetTable.insertAt es (t.put j).2 (k.hash,.ref x)) (by rw [qb7];exact Y);refine wB1 ?_;rw [show (t.put j).1.relaid ((SetTable.insertAt es (t.put j).2 (k.hash,Value.ref x)).map (·.1)) (SetTable.grown (es.size+1))=some (t2,d) from by unfold SetTable.relaid;rw [em,Nat.add_sub_cancel];exact er];have z2:(d.filterMap ((SetTable.insertAt es (t.put j).2 (k.hash,Value.ref x))[·]?)).size=(xs++[(k,x,Value.none)]).length:=i.trans O;show wpAny _ _ (if ((d.filterMap ((SetTable.insertAt es (t.put j).2 (k.hash,Value.ref x))[·]?)).size != (SetTable.insertAt es (t.put j).2 (k.hash,Value.ref x)).size)=true then _ else _) _ _ _;rw [i];simp only [bne_self_eq_false,bF1,if_false];refine wP1 ?_;dsimp only;refine wpAny_storeSet_of M rfl ?_ (by rw [i];exact r);refine wP1 (q _ _ (sb.trans (Heap.SameBut.update _ p _)) ⟨L,_,_,_,qmE M,J,?_,fun e n=>e1 e ((o e).mp n),fun z W=>(o _).mpr (a1 z W),z2⟩);rw [qhd J,T,i,qb7];exact decide_eq_false (by lia)
   ·rw [Bool.not_eq_true] at f;rw [f];simp only [Bool.and_false,bF1,if_false];exact wP1 (q _ _ sb ⟨L,_,_,_,M,v,f,e1,a1,O⟩)
  by_cases C:(t.put j).1.plain=true
  ·rw [C];simp only [if_true];refine wB1 (qrF 8 hd hk ?_);exact tail
  ·rw [Bool.not_eq_true] at C;rw [C];simp only [bF1,if_false];refine wB1 (wP1 ?_);exact tail
 case ln=>
  have:=qgz t.mask k.hash;have:=qhp B.mks;lia
theorem hasR {k:TK}{x:Addr}{Q:Bool->Shared->Prop}(D:A.units+12<cLine)(v:qbq p xs s.heap)(g:KsAt s.heap xs)(hk:IsTK s.heap k (.ref x))(hd:k.dep<=8)
  (q:Q (decide (k∈xs.map (·.1))) {s with toks:=s.toks+k.draws}):wpAny (model P w) A (setContains p (.ref x)) Q E s:=by
 obtain ⟨G,es,ep,t,m,f,B,a,b,o⟩:=id v;unfold setContains;refine wpAny_holding (wB1 (qek k (by lia) hk ?_));refine wB1 ?_;unfold setFind setFindIn;refine wB1 (wpAny_setState_of (s:={s with toks:=s.toks+k.draws}) m rfl f.fits ?_);dsimp only;rw [show byScan (Value.ref x) es=false from rfl];simp only [bF1,if_false];unfold setSearch;refine wB1 (srch (s:={s with toks:=s.toks+k.draws}) false (by lia) m f (g.el a) hk hd ?q1 ?q2 100000 (sWay t.mask k.hash) [] none rfl (qfH t k.hash) ?ln (fun y r=>by cases r))
 case q1=>
  intro h i;have d:=(g.found a b).mp h;rw [decide_eq_true d] at q;exact wP1 (wP1 q)
 case q2=>
  intro j pre l H C F c;have u:k∉xs.map (·.1):=fun z=>by obtain ⟨e,n,h⟩:=(g.found a b).mpr z;exact c e n h
  rw [decide_eq_false u] at q;exact wP1 (wP1 q)
 case ln=>
  have:=qgz t.mask k.hash;have:=qhp f.mks;lia
end
section
variable {P:Program} {w:World} {A:Around} {E:Value->Shared->Prop}
end
section
variable {X:Cx}
end
section
variable {X:Cx} {pos:Pos}
theorem gn (i:Nat){x:Str}(hN:X.N.Nodup)(hi:X.N[i]? = some x:=by rfl)(hx:Loc X.env.scope x:=by first | exact Or.inl rfl | exact Or.inr rfl)(hf:X.fn x=true\/X.env.scope.names.lookup x=some .local:=by first | exact .inl rfl | exact .inr rfl | assumption):XG X (.Name x pos) (gN i):=qO i hN hi hx hf
theorem sn (i:Nat){x:Str}{e:Expr}{m:FE}{pos':Pos}(hN:X.N.Nodup)(he:XE X e m)(hi:X.N[i]? = some x:=by rfl)(hx:Loc X.env.scope x:=by first | exact Or.inl rfl | exact Or.inr rfl)(hs:swapsWith e (some (.Name x pos')) pos.line X.env=pure false:=by rfl)(hf:X.fn x=true\/X.env.scope.names.lookup x=some .local:=by first | exact .inl rfl | exact .inr rfl | assumption):XS X (.Assign [.Name x pos'] e pos) (mAsg m (gN i)):=qY i hN hi hx he hs hf
theorem jx {k:Nat}{x y:Expr}{a b:FE}(hr:Room k X.A)(hx:XE X x a)(hy:XE X y b)(hs:qfD y:=by intro _ _;rfl):XE X (.Subscript x y pos) (m2 (b2 gIxY) a b):=qJ (qP hr.units) hx hy hs
theorem wo {k k' n:Nat}{x:Str}{m:FN}{p:Pos}{e:Expr}{es:List Expr}{a:FA}(h:Own X.prog X.w X.K X.mg X.base k x n m)(hr:Room k' X.A)(ha:XA X (e::es) a)(hk:k<=k':=by first | decide | omega)(hg:Gl X x:=by rfl)(hdb:(x == ("__debug__":Str))=false:=by decide)(he:starEach (e::es) X.env=(false,eval e X.env)::starEach es X.env:=by rfl)(hpl:(backTo pos (starEach es X.env)).any (·.1)=false:=by rfl):XE X (.Call (.Name x p) (e::es) [] pos) (mN (qaf n m) a):=qH h hr hk hg ha hdb he hpl
theorem ce {op:CmpOp}{x y:Expr}{f:FN}{a b:FE}(ho:OpR X (compareOp op) (r2 X.K f))(hx:XE X x a)(hy:XE X y b)(hm:behindInMarks op y=false:=by exact qmH _):XE X (.Compare x [op] [y] pos) (m2 f a b):=qni ho hx hy hm
theorem ct {op:CmpOp}{x y:Expr}{f:FN}{a b:FE}(ho:OpR X (compareOp op) (r2 X.K f))(hx:XE X x a)(hy:XE X y b)(hm:behindInMarks op y=false:=by exact qmH _):XT X (.Compare x [op] [y] pos) (mB (m2 f a b)):=qX ho hx hy hm
theorem cb {x:Str}{p:Pos}{e:Expr}{es:List Expr}{id:String}{f:FN}{a:FA}(hc:qbd X (.builtin id) (rN X.K f))(hm:X.mg x=none)(ha:XA X (e::es) a)(hg:Gl X x:=by rfl)(hv:bootBuiltins x=some (.builtin id):=by decide+kernel)(hn:x≠"__name__":=by decide)(hdb:(x == ("__debug__":Str))=false:=by decide)(he:starEach (e::es) X.env=(false,eval e X.env)::starEach es X.env:=by rfl)(hpl:(backTo pos (starEach es X.env)).any (·.1)=false:=by rfl):XE X (.Call (.Name x p) (e::es) [] pos) (mN f a):=qD hc hg hm hv ha hn hdb he hpl
theorem cy {x:Str}{p:Pos}{e:Expr}{es:List Expr}{T:String}{f:FN}{a:FA}(hc:qbd X (.type T) (rN X.K f))(hm:X.mg x=none)(ha:XA X (e::es) a)(hg:Gl X x:=by rfl)(hv:bootBuiltins x=some (.type T):=by decide+kernel)(hn:x≠"__name__":=by decide)(hdb:(x == ("__debug__":Str))=false:=by decide)(he:starEach (e::es) X.env=(false,eval e X.env)::starEach es X.env:=by rfl)(hpl:(backTo pos (starEach es X.env)).any (·.1)=false:=by rfl):XE X (.Call (.Name x p) (e::es) [] pos) (mN f a):=qE hc hg hm hv ha hn hdb he hpl
theorem kc {a:Scope}{i:Nat}{l:List Nat}(x:Str)(r:∀ i∈l,∃ x,X.N[i]? = some x/\a.names.lookup x=some .free/\(X.env.kindOf x=some .cell\/X.env.kindOf x=some .free)/\(x,NameKind.cell)∉a.names)(h1:X.N[i]? = some x:=by rfl)(h2:a.names.lookup x=some .free:=by rfl)(b:X.env.kindOf x=some .cell\/X.env.kindOf x=some .free:=by first | exact Or.inl rfl | exact Or.inr rfl)(c:(x,NameKind.cell)∉a.names:=by decide+kernel):∀ j∈i::l,∃ x,X.N[j]? = some x/\a.names.lookup x=some .free/\(X.env.kindOf x=some .cell\/X.env.kindOf x=some .free)/\(x,NameKind.cell)∉a.names:=List.forall_mem_cons.mpr ⟨⟨x,h1,h2,b,c⟩,r⟩
end
structure FnAt (K:Fg1)(x:Str)(st:Stmt)(f:Addr):Prop where
 ns:wN1 K mainGlobals x=some (some (.ref f))
 fn:∃ fd,Fun K x x st f fd
theorem qti {K:Fg1}{x:Str}{st:Stmt}{f:Addr}{h:Value}{od g:Option Addr}{e:Array (Option Value)}{kV d i b ct:Value}(a:wN1 K mainGlobals x=some (some (.ref f)))(l:K.lookup f=some ⟨h,od,.func (wF1 x x (qcz st) (qa5 st) (qac st) .none kV d i g b ct),e⟩)
  (c:wC1 K b x=true) (k:wK1 K (.ref f)=true):FnAt K x st f:=⟨a,_,qmW l c k⟩
theorem xo {P:Program}{w:World}{K:Fg1}{mg:Str->Option Value}{base h:Heap}{x:Str}{st:Stmt}{f:Addr}{N ps:List Str}{k n:Nat}{b:FS}(X:K.In h)(G:h.Ns mainGlobals mg)(F:FnAt K x st f)(S:qam N ps (qac st))
  (hb:∀ (kV g l:Value) (j:Option Addr) (a ct:Value) (e:List Value),e.length=ps.length->bindArgs (wF1 x x (qcz st) (qa5 st) (qac st) .none kV g l j a ct) ⟨e,[]⟩=pure (ps.zip e))
  (c:∀ (f:Addr) (a:Value) (A:Around) (d:List Env) (s:Shared) (H:Hp) (E:XK),Room k (A.deeper (envOfC x (qac st) s.heap.objs.size f a)) ->
   XSs (cxOf CX0 P w K mg base N x (qac st) f a A d s H E).nox (qa5 st) b) (hn:ps.length=n:=by rfl):Own P w K mg base (k+1) x n (fnB N.length b):=by
 obtain ⟨fd,i⟩:=F.fn;exact qiX i (i.binds hb) (wM1 X G F.ns) S hn (c f)
theorem KT.ks1 {K:Fg1}{H:Hp}{mu:List Addr}:∀ {ks:List TK} {ws:List (TK×Addr×Value)},KT K H mu (ks.map fun k=>(k,D.non)) ws->ws.map (·.1)=ks
 | [],ws,h=>by cases h;rfl
 | k::ks,ws,h=>by
  cases h with
  | cons r t=>
   rw [mP1,KT.ks1 t,<- r.1]
section
variable {X:Cx} {pins:List (Addr×Obj)} {σ:L2.St} {H:Hp} {s:Shared} {mu:List Addr}
theorem qpS (I:Inv X pins σ H s){a:Addr}{ws:List (TK×Addr×Value)}{ks:List TK}(e:H a=some (.ext (qbq a ws)))(h:KT X.K H mu (ks.map fun k=>(k,D.non)) ws):qbq a ws s.heap/\KsAt s.heap ws:=by
 obtain ⟨c,_⟩:=(show qaL X.prog X.w H s.heap a (.ext (qbq a ws)) from I.hok a _ e);exact ⟨c,fun z b=>⟨qjd I _ (h.mem z b).2 rfl,(h.mem z b).1⟩⟩
theorem qjl {h:Heap}{a:Addr}{xs:List (TK×Addr×Value)}(hx:qbq a xs h):qaL X.prog X.w H h a (.ext (qbq a xs)):=by
 obtain ⟨b,es,ep,t,e,r⟩:=id hx;exact ⟨hx,⟨_,e⟩,fun h1 h2 ⟨b,es,ep,t,e,r⟩ k=>⟨b,es,ep,t,k _ e,r⟩⟩
end
section
variable {P:Program} {w:World} {A:Around} {E:Value->Shared->Prop} {s:Shared} {a x:Addr} {xs:List (TK×Addr×Value)} {k:TK}
theorem qbq.typeIs (b:qbq a xs s.heap):s.TypeIs (.ref a) "set":=by
 obtain ⟨c,es,ep,t,e,r⟩:=b;exact ⟨_,e,rfl⟩
theorem qrU {Q:Bool->Shared->Prop}(e:A.units+24<cLine)(c:qbq a xs s.heap)(d:KsAt s.heap xs)(hk:IsTK s.heap k (.ref x))(hd:k.dep<=8)(h:Q (decide (k∈xs.map (·.1))) {s with toks:=s.toks+k.draws}):wpAny (model P w) A (contains (.ref a) (.ref x)) Q E s:=by
 have b:=c.typeIs;unfold contains
 try with_reducible refine wpAny_holding ?_
 refine wB1 (wpAny_specialOf b F.slot_set_contains.lookup ?_);show wpAny _ _ (if (some (Value.builtin "set.__contains__") == some Value.none)=true then _ else _) _ E s;rw [if_neg (by rw [beq_builtin_none];exact Bool.false_ne_true)];refine wB1 (wpAny_callSpecialUnlessNone?_slot (name:=Str.ofString "__contains__") b F.slot_set_contains
  (wE1 F.slot_set_contains b entry_set_contains ?_ (F.args_set_contains_2 _ _)))
 unfold Builtin.«frozenset.__contains__» Builtin.Frozenset.oneOther;simp only [List.isEmpty_nil,bind_assoc];unfold Builtin.Frozenset.addrOf Builtin.Frozenset.withSetAsKey;refine wB1 (wP1 ?_)
 try dsimp only
 refine wB1 (wP1 ?_)
 try dsimp only
 refine wB1 (wpAny_tryCatch ?_);refine hasR (by show A.units+1+12<cLine;lia) c d hk hd ?_;exact wP1 ⟨_,rfl,wpAny_truthy_bool h⟩
theorem qkK {Q:Value->Shared->Prop}(g:A.units+24<cLine)(e:qbq a xs s.heap)(f:KsAt s.heap xs)(hb:xs.length<76)(hk:IsTK s.heap k (.ref x))(hd:k.dep<=8)
  (h:∀ h',Heap.SameBut a s.heap h'->qbq a (qeu xs k x) h'->Q .none {s with heap:=h',toks:=s.toks+k.draws}):wpAny (model P w) A (call (.builtin "set.add") [.ref a,.ref x]) Q E s:=by
 refine wE1 F.slot_set_add e.typeIs F.entry_set_add ?_ (F.args_set_add_2 _ _);unfold Builtin.«set.add» Builtin.Frozenset.oneOther;simp only [List.isEmpty_nil,bind_assoc];unfold Builtin.Frozenset.addrOf setAdd;refine wB1 (wP1 ?_)
 try dsimp only
 refine wB1 (wP1 ?_)
 try dsimp only
 refine wB1 ?_;refine wpAny_holding ?_;refine wB1 (qek k (by show A.units+1+_<cLine;lia) hk ?_);refine addR (s:={s with toks:=s.toks+k.draws}) (by show A.units+1+8<cLine;lia) e f hb hk hd fun c h' d b=>?_;show wpAny _ _ (ret Value.none) _ _ _;exact wP1 ⟨_,rfl,h h' d b⟩
end
noncomputable def putS (ks:List TK)(k:TK):List TK:=if k∈ks then ks else ks++[k]
noncomputable def gInT:G2:=fun d e S=>match e with
 | .ref n=>match S[n]? with
  | some (.tst ks)=>(keyT d).map fun k=>(.bl (decide (k∈ks)),S)
  | _=>gInZ d e S
 | _=>gInZ d e S
noncomputable def qel:G2:=fun d e S=>match e with
 | .ref n=>match S[n]? with
  | some (.tst ks)=>(keyT d).map fun k=>(.bl (!decide (k∈ks)),S)
  | _=>qcc d e S
 | _=>qcc d e S
noncomputable def qiJ:G2:=fun o d S=>match o with
 | .ref n=>match S[n]? with
  | some (.tst ks)=>(keyT d).bind fun k=>if ks.length<76 then some (.non,S.set n (.tst (putS ks k))) else none
  | _=>none
 | _=>none
section
variable {X:Cx}
theorem qlF (o:X.A.units+64<cLine):OpR X (compareOp .NotIn) (r2 X.K (b2 qel)):=by
 intro pins s σ H x y u w Q I g i h;obtain ⟨mu,S,d,e,r,m,j,c,f,b,hc⟩:=rn2 h;have back:qcc d e S=some (r,m)->wpAny (model X.prog X.w) X.A (compareOp .NotIn u w) (EP X pins σ Q) X.xe s:=fun b=>qhF o pins s σ H x y u w Q I g i ⟨mu,S,[d,e],r,m,.cons j (.cons c .nil),f,b,hc⟩;unfold qel at b;split at b
 ·rename_i n;split at b
  ·rename_i ks q;obtain ⟨k,p,b⟩:=oM1.mp b;cases b;cases c with
   | ref v=>
    cases i;obtain ⟨ws,A,l⟩:=f.tst q v;obtain ⟨t,z⟩:=qpS I A l;obtain ⟨a,rfl,rfl,_,hd,hi⟩:=qdG I j g p;show wpAny _ _ (do return Value.bool (!(<- contains _ _))) _ _ s;refine wB1 (qrU (by lia) t z hi.1 hd ?_);refine wP1 ⟨.bl (!decide (k∈ks)),H,I.tok _,?_,hc.now (.bl _) f⟩;rw [l.ks1];rfl
  ·exact back b
 ·exact back b
theorem KT.add {K:Fg1}{H:Hp}{mu:List Addr}{ks:List TK}{ws:List (TK×Addr×Value)}{k:TK}{a:Addr}(h:KT K H mu (ks.map fun k=>(k,D.non)) ws)(hd:k.dep<=8)(r:Rep K H mu (tkD k) (.ref a)):KT K H mu ((putS ks k).map fun k=>(k,D.non)) (qeu ws k a):=by
 have e:=h.ks1;unfold putS qeu;rw [e];split
 ·exact h
 ·rw [List.map_append];exact qeK h (.cons ⟨rfl,hd,r,.non,rfl,.non⟩ .nil)
theorem qpK (N:X.A.units+64<cLine):MtR X "set.add" (fun x xs H Q=>rN X.K (b2 qiJ) (x::xs) H Q):=by
 intro pins s σ H x xs v O Q I D i h;obtain ⟨mu,S,ds,d,M,K,o,a,hc⟩:=h;cases K with
 | cons A w=>cases w with
  | nil=>cases a
  | cons r z=>cases z with
   | cons _ _=>cases a
   | nil=>
    rename_i P T;dsimp only [b2] at a;unfold qiJ at a;split at a
    ·rename_i n;split at a
     ·rename_i ks E;obtain ⟨k,B,a⟩:=oB1.mp a;split at a
      ·rename_i R;cases a;cases A with
       | @ref _ j m=>
        cases D;obtain ⟨u,rfl,G⟩:=qdm i;obtain ⟨ws,g,l⟩:=o.tst E m;obtain ⟨F,J⟩:=qpS I g l;obtain ⟨b,rfl,rfl,L,p,hi⟩:=qdG I r G B;have C:ws.length=ks.length:=by rw [<- l.ks1,lM1]
        refine qkK (by lia) F J (by lia) hi.1 p fun h' c f=>?_;have y:∃ q,h'.get? j=some q:=by obtain ⟨_,es,ep,t,e,_⟩:=f;exact ⟨_,e⟩
        have put:Ext mu mu H (upd H j (.ext (qbq j (qeu ws k b)))):=Ext.put g trivial (gM1 m);refine ⟨.non,_,qdy I (by rw [g];exact True.intro) c y (qjl f),rfl,?_⟩;exact hc _ _ mu put .non (o.put m g trivial ⟨_,qas,(l.add p L).ext put⟩)
      ·cases a
     ·cases a
    ·cases a
end
section
variable {X:Cx} {o e:Expr} {es:List Expr} {to:TE} {t:TA} {name:Str} {apos cpos:Pos} {id:String} {r:V->List V->Hp->VK->Prop}
noncomputable def tBMS (r:V->List V->Hp->VK->Prop)(to:TE)(t:TA):TE:=fun σ H Q=>to σ H fun x H1=>(∃ p xs,x = .ref p/\H1 p=some (.ext (qbq p xs)))/\t σ H1 fun xs H2=>r x xs H2 Q
theorem qqu (slot:Slot "set" name id)(hty:typeOf (.builtin id)=pure (.type "method_descriptor"))(hm:MtR X id r)(ho:PE X o to)(ha:PA X (e::es) t)
  (hbase:attributeBase o name X.env (eval o X.env)=eval o X.env:=by rfl)
  (hfew:((backTo cpos (starEach (e::es) X.env)).all (fun x=> !x.1)&&(backToKw cpos (keywordEach [] X.env)).all (fun x=>x.1.isSome)
   && decide ((e::es).length+([]:List Keyword).length+(if ([]:List Keyword).isEmpty then 0 else 1)<30))=true:=by rfl)
  (hline:(apos.endLine == cpos.line)=true:=by rfl) (hs:starEach (e::es) X.env=(false,eval e X.env)::starEach es X.env:=by rfl) (hplain:(backTo cpos (starEach es X.env)).any (·.1)=false:=by rfl):
  PE X (.Call (.Attribute o name apos) (e::es) [] cpos) (tBMS r to t):=by
 intro pins s σ H Q I h;refine wpAny_Call_method_late hbase hfew hline rfl (thn (ho pins s σ H _ I h) fun v f ⟨x,H1,d,n,⟨p,xs,ex,m⟩,u⟩=>?_);subst ex;cases n;obtain ⟨⟨w,i,ep,tb,c,y⟩,_⟩:=(show qaL X.prog X.w H1 f.heap p (.ext (qbq p xs)) from d.hok p _ m);refine ⟨"set",id,PySem.F.plainAttrs_set,slot,hty,⟨_,c,rfl⟩,fun a j=>⟨_,by cases j;exact c,rfl⟩,?_⟩;have b:=ha cpos pins f σ H1 _ d u;rw [hs] at b ⊢;refine Calls.callWith_builtin (by show (false||(backTo cpos (starEach es X.env)).any (·.1))=false;rw [hplain]<;>rfl) (Calls.evalArgs_plain ?_);exact thn b fun k q ⟨vs,H2,l,r2,g⟩=>hm pins q σ H2 (.ref p) vs (.ref p) k Q l rfl r2 g
end
noncomputable def mMs (f:FN)(m:FE)(a:FA):FE:=fun r S=>(m r S).bind fun p=>match p.1 with
 | .ref n=>match p.2[n]? with
  | some (.tst _)=>(a r p.2).bind fun q=>f (.ref n::q.1) q.2
  | _=>none
 | _=>none
section
variable {X:Cx}
theorem qkY (y:X.A.units+64<cLine){o e:Expr}{m:FE}{a:FA}{apos cpos:Pos}(ho:XE X o m)(ha:XA X [e] a)
  (hbase:attributeBase o "add" X.env (eval o X.env)=eval o X.env:=by rfl)
  (hfew:((backTo cpos (starEach [e] X.env)).all (fun x=> !x.1)&&(backToKw cpos (keywordEach [] X.env)).all (fun x=>x.1.isSome)&&decide (([e]:List Expr).length+([]:List Keyword).length+(if ([]:List Keyword).isEmpty then 0 else 1)<30))=true:=by rfl)
  (hline:(apos.endLine == cpos.line)=true:=by rfl) (hs:starEach [e] X.env=(false,eval e X.env)::starEach [] X.env:=by rfl) (hplain:(backTo cpos (starEach [] X.env)).any (·.1)=false:=by rfl):
  XE X (.Call (.Attribute o "add" apos) [e] [] cpos) (mMs (b2 qiJ) m a):=
 ⟨qaS (qqu PySem.F.slot_set_add PySem.F.type_set_add (qpK y) ho.h ha.h hbase hfew hline hs hplain) <| by
  rintro σ H Q ⟨r,mu,S,d,w,g,hs,b,hc⟩;obtain ⟨⟨k,i⟩,u,b⟩:=oB1.mp b;refine ⟨r,mu,S,k,i,g,hs,u,fun v H1 mu1 h l j=>?_⟩;cases k with
  | ref n=>
   dsimp only at b;split at b
   ·rename_i xs A;obtain ⟨⟨ds,p⟩,B,b⟩:=oB1.mp b;refine ⟨?_,r,mu1,i,ds,p,g.ext h,j,B,fun vs H2 c q r2 D=>?_⟩
    ·cases l with
     | ref E=>
      obtain ⟨vs,C,t⟩:=j.tst A E;exact ⟨_,vs,rfl,C⟩
    ·exact ⟨c,p,.ref n::ds,d,w,.cons (l.ext q) r2,D,b,fun F z f s=>hc F z f ((h.trans q).trans s)⟩
   ·cases b
  | _=>cases b⟩
noncomputable def qlS (m:FE):FE:=fun r S=>(m r S).bind fun p=>(keyT p.1).map fun k=>(.ref p.2.length,p.2++[.tst [k]])
theorem qkX (hcd:PySem.W.kdsCode X.K X.env.code=true)(hu:X.A.units+64<cLine){e:Expr}{m:FE}{pos:Pos}(ho:XE X e m)(he:starEach [e] X.env=[(false,eval e X.env)]:=by rfl):XE X (.Set [e] 0 pos) (qlS m):=by
 refine ⟨fun pins s σ H Q I h=>?_⟩;obtain ⟨r,mu,S,d,S',R,hs,N,hc⟩:=h;obtain ⟨⟨Y,E⟩,e1,N⟩:=oB1.mp N;obtain ⟨k,ek,N⟩:=oM1.mp N;cases N;rw [arm_eval_Set];refine wB1 (wpAny_standAt ?_);refine wB1 (PySem.W.kds_main (K:=X.K) (fun a o q=>I.kIn a o q) hcd fun b=>?_);rw [he];refine PySem.W.kds_core (ts:=[do let v<-eval e X.env;standAt pos;pure v]) rfl rfl (by simp) rfl fun i=>?_;have f:=I.hok.fresh (nR1 s.heap.objs.size);have W:qbq s.heap.objs.size [] (s.heap.push (stO #[] 0 (.fresh 0 0 i))):=⟨List.nodup_nil,#[],0,_,Heap.get?_push_size _ rfl,sTT.fresh i,rfl,(fun e he=>by simp at he),(fun z F=>by cases F),rfl⟩;have I0:=I.laid (t':=s.toks) (a:=s.heap.objs.size) (o:=.ext (qbq s.heap.objs.size [])) (h':=s.heap.push (stO #[] 0 (.fresh 0 0 i))) (fun b u q=>hP1 _ q) (nR1 _) (qjl W);have hn:=hs.notin f;refine wpAny_evalAll_cons (wB1 ?_);refine thn (ho.h pins _ σ _ (fun v H1=>∃ mu1 x,v=V.ref x/\Ext mu mu1 (upd H s.heap.objs.size (.ext (qbq s.heap.objs.size []))) H1/\Rep X.K H1 mu1 Y v/\Sim X.K H1 mu1 E) I0 ⟨r,mu,S,Y,E,R.ext (Ext.fresh f),hs.fresh f,e1,fun v H1 mu1 C M A=>?_⟩) fun v A ⟨x,H1,P,M,mu1,xa,hx,C,rp,j⟩=>?_
 ·have:∃ x,v=V.ref x:=by
   obtain ⟨ee,_,ys,ey⟩:=qfp ek;subst ey;dsimp only at ee;rw [<- ee,tkD] at M;cases M with
   | tup h1 h2=>exact ⟨_,rfl⟩
  obtain ⟨x,hx⟩:=this;exact ⟨mu1,x,hx,C,M,A⟩
 refine wB1 (wpAny_standAt (wP1 (wpAny_evalAll_nil ?_)));have w:H1 s.heap.objs.size=some (.ext (qbq s.heap.objs.size [])):=C.old _ _ qas hn;have G:s.heap.objs.size∉mu1:=fun z=>by
  rcases C.new _ z with q | q
  ·exact hn q
  ·rw [qas] at q;cases q
 obtain ⟨U,_⟩:=(show qaL X.prog X.w H1 A.heap s.heap.objs.size (.ext (qbq s.heap.objs.size [])) from P.hok _ _ w);obtain ⟨b,ub,vb,rk,dk,hi⟩:=qdG P rp M ek;subst ub;refine PySem.W.kds_fill_cons ?_;unfold setAdd;refine wpAny_holding (wB1 (qek k (by lia) hi.1 ?_));refine addR (s:={A with toks:=A.toks+k.draws}) (by lia) U (fun z F=>by cases F) (by decide) hi.1 dk fun c h' l g=>?_;refine PySem.W.kds_fill_nil rfl ?_;have hq:∃ q,h'.get? s.heap.objs.size=some q:=by obtain ⟨_,es,ep,t,e,_⟩:=g;exact ⟨_,e⟩
 have ea:qeu [] k b=[(k,b,Value.none)]:=by unfold qeu;rw [if_neg (by simp)];rfl
 rw [ea] at g;have IF:=qdy (t':=A.toks+k.draws) (ob:=.ext (qbq s.heap.objs.size [(k,b,Value.none)])) P (by rw [w];exact True.intro) l hq (qjl g);refine ⟨.ref s.heap.objs.size,_,IF,rfl,?_⟩;have J:KT X.K H1 mu1 ([k].map fun k=>(k,D.non)) [(k,b,Value.none)]:=.cons ⟨rfl,dk,rk,.non,rfl,.non⟩ .nil;generalize T:HO.ext (qbq s.heap.objs.size [(k,b,Value.none)])=u1 at IF ⊢;generalize s.heap.objs.size=p at *
 have L:Ext (mu1++[p]) (mu1++[p]) H1 (upd H1 p u1):=Ext.put w trivial (by simp);have B:=(Ext.fresh (mu:=mu) (u:=.ext (qbq p [])) f).trans C;refine hc (.ref p) _ (mu1++[p]) ⟨B.pre.trans (List.prefix_append _ _),fun a o h n=>L.old a o (B.old a o h n) fun z=>?_,fun a xs q=>L.tup a xs (B.tup a xs q),fun a o u q=>L.frz a o u (B.frz a o u q),fun a z=>?_⟩ (.ref ?_) ⟨?_,?_,fun n o a h1 h2=>?_⟩
 ·rcases List.mem_append.mp z with q | q
  ·rcases B.new a q with y | y
   ·exact n y
   ·rw [y] at h;cases h
  ·rw [List.mem_singleton.mp q,f] at h;cases h
 ·rcases List.mem_append.mp z with q | q
  ·exact B.new a q
  ·rw [List.mem_singleton.mp q];exact .inr f
 ·rw [show List.length (Y,E).snd=mu1.length from j.len.symm,gR1 (nR1 _),Nat.sub_self];rfl
 ·rw [lA1,lA1,j.len];rfl
 ·rw [List.nodup_append];exact ⟨j.nd,by simp,fun a ha c O e=>by rw [List.mem_singleton.mp O] at e;subst e;exact G ha⟩
 ·have Z:Exv mu1 (mu1++[p]) H1 (upd H1 p u1):=⟨List.prefix_append _ _,L.tup,fun a o xs q=>L.frz a o _ q⟩;rcases Nat.lt_or_ge n E.length with z | z
  ·rw [gL1 z] at h1;rw [gL1 (by rw [j.len];exact z)] at h2;exact (j.ob n o a h1 h2).exv Z fun o' q=>by rw [qaq (fun y=>G (by rw [<- y];exact gM1 h2))];exact q
  ·have F:n=E.length:=by
    have:=(gE1.mp h1).1;rw [lA1] at this;simp at this;lia
   subst F;rw [gR1 (nR1 _),Nat.sub_self] at h1;rw [gR1 (by rw [j.len];exact nR1 _),j.len,Nat.sub_self] at h2;cases h1;cases h2;exact ⟨_,by rw [T];exact qas,Paired.mapP J fun _ _ ⟨z,d,k,v,rv,r⟩=>⟨z,d,k.exv Z,v,rv,r.exv Z⟩⟩
theorem qrB {K:Fg1}{a:Value}{q:Str}(h:wC1 K a q=true):PySem.W.kdsCode K a=true:=by
 unfold wC1 at h;unfold PySem.W.kdsCode;split at h
 ·split at h
  ·rename_i e;dsimp only;rw [e]
  ·cases h
 ·cases h
theorem xoC {P:Program}{w:World}{K:Fg1}{mg:Str->Option Value}{base h:Heap}{x:Str}{st:Stmt}{f:Addr}{N ps:List Str}{k n:Nat}{b:FS}(Y:K.In h)(G:h.Ns mainGlobals mg)(F:FnAt K x st f)(S:qam N ps (qac st))
  (hb:∀ (kV i r:Value) (q:Option Addr) (c ct:Value) (l:List Value),l.length=ps.length->bindArgs (wF1 x x (qcz st) (qa5 st) (qac st) .none kV i r q c ct) ⟨l,[]⟩=pure (ps.zip l))
  (e:∀ (f:Addr) (c:Value) (A:Around) (a:List Env) (s:Shared) (H:Hp) (E:XK),Room k (A.deeper (envOfC x (qac st) s.heap.objs.size f c))->PySem.W.kdsCode K c=true ->
   XSs (cxOf CX0 P w K mg base N x (qac st) f c A a s H E).nox (qa5 st) b) (hn:ps.length=n:=by rfl):Own P w K mg base (k+1) x n (fnB N.length b):=by
 subst hn;obtain ⟨fd,o⟩:=F.fn;have m:=o.binds hb;have D:=o.kp;obtain ⟨L,M,kV,i,r,q,c,ct,v,rfl,lk,j⟩:=o.ex;refine ⟨f,_,ps,?_,m,D,wM1 Y G F.ns⟩;refine qrI lk j S (fun vs H Q E h=>h.1) fun A a s H vs Q E C p=>⟨_,PSs.nox (e f c A a s H E C (qrB j)).h,?_⟩;obtain ⟨_,mu,St,ds,d,J,h1,h2,g,t⟩:=p;unfold fnB at g;obtain ⟨⟨fl,B,y⟩,u,g⟩:=oB1.mp g;refine ⟨_,mu,St,fl,B,y,qfI N h1,h2,u,?_⟩;cases fl with
 | nx=>cases g;exact fun z H' mu' x I s=>t .non H' mu' x .non s
 | rt d=>cases g;exact t
 | bk=>cases g
 | ct=>cases g
end
noncomputable def W {α:Type}(o:Option α)(Q:α->Prop):Prop:=∃ x,o=some x/\Q x
section
variable {α β:Type} {Q:α->Prop}
theorem qag {x:α}:W (some x) Q↔Q x:=⟨fun ⟨_,e,h⟩=>(by cases e;exact h),fun h=>⟨x,rfl,h⟩⟩
theorem qev:W (none:Option α) Q↔False:=⟨fun ⟨_,e,_⟩=>(by cases e),False.elim⟩
theorem qah {o:Option β}{f:β->Option α}:W (o.bind f) Q↔W o fun x=>W (f x) Q:=by
 cases o with
 | none=>exact ⟨fun ⟨_,e,_⟩=>(by cases e),fun ⟨_,e,_⟩=>(by cases e)⟩
 | some x=>exact ⟨fun h=>⟨x,rfl,h⟩,fun ⟨_,e,h⟩=>by cases e;exact h⟩
theorem qeC {o:Option β}{f:β->α}:W (o.map f) Q↔W o fun x=>Q (f x):=by
 cases o with
 | none=>exact ⟨fun ⟨_,e,_⟩=>(by cases e),fun ⟨_,e,_⟩=>(by cases e)⟩
 | some x=>exact ⟨fun ⟨_,e,h⟩=>(by cases e;exact ⟨x,rfl,h⟩),fun ⟨_,e,h⟩=>(by cases e;exact ⟨_,rfl,h⟩)⟩
theorem qiN {c:Prop}[Decidable c]{a b:Option α}:W (if c then a else b) Q↔if c then W a Q else W b Q:=by split<;>exact Iff.rfl
theorem W.mono {o:Option α}{Q':α->Prop}(h:W o Q)(k:∀ x,Q x->Q' x):W o Q':=let ⟨x,e,q⟩:=h;⟨x,e,k x q⟩
theorem W.of {o:Option α}{x:α}(e:o=some x)(h:Q x):W o Q:=⟨x,e,h⟩
end
theorem seqW {a b:FS}{r:Ev}{S:Sto}{Q:Fl×Ev×Sto->Prop}(R:Ev->Sto->Prop)(h1:W (a r S) fun p=>p.1 = .nx/\R p.2.1 p.2.2)(h2:∀ r S,R r S->W (b r S) Q):W (mSeq a b r S) Q:=by
 obtain ⟨⟨f,g,h⟩,e,d,c⟩:=h1;dsimp only at d c;subst d;unfold mSeq;rw [e];exact h2 g h c
theorem fnW {n:Nat}{b:FS}{ds:List D}{S:Sto}{Q:D×Sto->Prop}(h:W (b (qdA n ds) S) fun p=>match p.1 with
  | .rt d=>Q (d,p.2.2)
  | .nx=>Q (.non,p.2.2)
  | _=>False):W (fnB n b ds S) Q:=by
 obtain ⟨⟨f,a,c⟩,e,q⟩:=h;unfold fnB;rw [e];cases f with
 | rt d=>exact ⟨_,rfl,q⟩
 | nx=>exact ⟨_,rfl,q⟩
 | bk=>exact q.elim
 | ct=>exact q.elim
theorem qiK {n:Nat}{f:FN}{ds:List D}{S:Sto}{Q:D×Sto->Prop}(hn:ds.length=n)(a:D.unds 0 ds=false)(h:W (f ds S) fun p=>Q (gc S.length p)):W (qaf n f ds S) Q:=by
 obtain ⟨⟨d,b⟩,e,q⟩:=h;exact ⟨_,qeq e hn a,q⟩
theorem qdQ {n:Nat}{f:FN}{ds:List D}{S:Sto}{Q:D×Sto->Prop}(hn:ds.length=n)(a:D.unds 0 ds=true)(h:W (f ds []) fun p=>p.1.und 0=true/\Q (p.1,S)):W (qaf n f ds S) Q:=by
 obtain ⟨⟨d,g⟩,e,c,b⟩:=h;exact ⟨_,qgl e hn a c,b⟩
mutual
theorem qc5 {n:Nat}:∀ {d:D},d.und 0=true->d.und n=true
 | .non,_=>rfl
 | .bl _,_=>rfl
 | .int _,_=>rfl
 | .str _,_=>rfl
 | .tup xs,h=>by rw [D.und] at h ⊢;exact qbx h
 | .rol xs,h=>by rw [D.und] at h ⊢;exact qbx h
 | .fn _,_=>rfl
 | .ref k,h=>by simp [D.und] at h
theorem qbx {n:Nat}:∀ {ds:List D},D.unds 0 ds=true->D.unds n ds=true
 | [],_=>rfl
 | d::ds,h=>by
  rw [D.unds,bA1] at h ⊢;exact ⟨qc5 h.1,qbx h.2⟩
end
theorem qaA {c:List (Nat×List D)}{g:FG}{b:FS}{Q:Fl×Ev×Sto->Prop}(I:Nat->Ev->Sto->Prop):∀ (items:List D) (k:Nat) (r:Ev) (S:Sto),I k r S ->
  (∀ i r S,I i r S->okC S c=true) ->
  (∀ i d,items[i]? = some d -> ∀ r S,I (k+i) r S->W (g d r S) fun p=>W (b p.1 p.2) fun q=>q.1 = .nx/\I (k+i+1) q.2.1 q.2.2) ->
  (∀ r S,I (k+items.length) r S->Q (.nx,r,S))->W (qcE c g b items r S) Q
 | [],k,r,S,hi,hok,_,hq=>by rw [qcE];dsimp only;rw [if_pos (hok _ _ _ hi),qag];exact hq r S (by simpa using hi)
 | d::ds,k,r,S,hi,hok,hs,hq=>by
  rw [qcE];dsimp only;rw [if_pos (hok _ _ _ hi),qah];obtain ⟨p,h,h1⟩:=hs 0 d rfl r S (by simpa using hi);refine ⟨p,h,?_⟩;dsimp only;rw [qah];obtain ⟨⟨f,l,n⟩,j,h2,e⟩:=h1;refine ⟨_,j,?_⟩;dsimp only at h2 e ⊢;subst h2;refine qaA I ds (k+1) l n (by simpa using e) hok (fun i m hd r S a=>?_) fun r S a=>hq r S (by rw [lC1,show k+(ds.length+1)=k+1+ds.length by lia];exact a);have:=hs (i+1) m (by simpa using hd) r S (by rw [show k+(i+1)=k+1+i by lia];exact a);rw [show k+(i+1)+1=k+1+i+1 by lia] at this;exact this
theorem qcx {c:List (Nat×List D)}{g:FG}{t:FT}{e:FE}{Q:List D×Ev×Sto->Prop}(I:Nat->List D->Ev->Sto->Prop):∀ (items:List D) (k:Nat) (acc:List D) (r:Ev) (S:Sto),I k acc r S ->
  (∀ i acc r S,I i acc r S->okC S c=true) ->
  (∀ i d,items[i]? = some d -> ∀ acc r S,I (k+i) acc r S->W (g d r S) fun p=>W (t p.1 p.2) fun b=>if b.1=true then W (e p.1 b.2) fun x=>I (k+i+1) (acc++[x.1]) p.1 x.2 else I (k+i+1) acc p.1 b.2) ->
  (∀ xs r S,I (k+items.length) (acc++xs) r S->Q (xs,r,S))->W (qch c g t (qbh e) items r S) Q
 | [],k,acc,r,S,hi,hok,_,hq=>by rw [qch];dsimp only;rw [if_pos (hok _ _ _ _ hi),qag];exact hq [] r S (by simpa using hi)
 | d::ds,k,acc,r,S,hi,hok,hs,hq=>by
  rw [qch];dsimp only;rw [if_pos (hok _ _ _ _ hi),qah];obtain ⟨p,j,h1⟩:=hs 0 d rfl acc r S (by simpa using hi);refine ⟨p,j,?_⟩;dsimp only;rw [qah];obtain ⟨⟨b,l⟩,m,h2⟩:=h1;refine ⟨_,m,?_⟩;have step:∀ i f,ds[i]? = some f -> ∀ acc r S,I (k+1+i) acc r S->W (g f r S) fun p=>W (t p.1 p.2) fun b=>if b.1=true then W (e p.1 b.2) fun x=>I (k+1+i+1) (acc++[x.1]) p.1 x.2 else I (k+1+i+1) acc p.1 b.2:=fun i f hd acc r S a=>by
   have:=hs (i+1) f (by simpa using hd) acc r S (by rw [show k+(i+1)=k+1+i by lia];exact a);rw [show k+(i+1)+1=k+1+i+1 by lia] at this;exact this
  dsimp only at h2 ⊢;cases b with
  | true=>
   rw [if_pos rfl] at h2 ⊢;rw [qah,qbh,qeC];obtain ⟨⟨x,n⟩,o,h⟩:=h2;refine ⟨_,o,?_⟩;dsimp only at h ⊢;rw [qeC];refine qcx I ds (k+1) (acc++[x]) p.1 n (by simpa using h) hok step fun xs r S a=>?_;refine hq _ r S ?_;rw [lC1,show k+(ds.length+1)=k+1+ds.length by lia];simpa using a
  | false=>
   rw [if_neg (by decide)] at h2 ⊢;refine qcx I ds (k+1) acc p.1 l (by simpa using h2) hok step fun xs r S a=>?_;refine hq _ r S ?_;rw [lC1,show k+(ds.length+1)=k+1+ds.length by lia];exact a
theorem qpF {S:Sto}{b:Bool}:truD S (.bl b)=some b:=rfl
theorem qso {S:Sto}:truD S .non=some false:=rfl
theorem qsp {S:Sto}{i:Int}:truD S (.int i)=some (i != 0):=rfl
theorem qo3 {x y:Int}{S:Sto}:gEq (.int x) (.int y) S=some (.bl (x == y),S):=rfl
theorem qo0 {x y:Int}{S:Sto}:gNe (.int x) (.int y) S=some (.bl (!(x == y)),S):=rfl
theorem qo1 {x y:Int}{S:Sto}:gLt (.int x) (.int y) S=some (.bl (decide (x<y)),S):=rfl
theorem qtf {x y:Str}{S:Sto}:gEq (.str x) (.str y) S=some (.bl (x == y),S):=rfl
theorem qte {x y:Str}{S:Sto}:gNe (.str x) (.str y) S=some (.bl (!(x == y)),S):=rfl
theorem ite_and' {c p:Prop}[Decidable c]:(if c then p else False)↔c/\p:=by split<;>simp [*]
noncomputable def bnd (j:Int):Bool:=decide (-(2^62)<=j)&&decide (j<2^62)
theorem qaW {n:Nat}(h:n<2^60):bnd n=true:=by
 unfold bnd;rw [bA1,decide_eq_true_eq,decide_eq_true_eq];lia
theorem qr3 {j:Int}(h: -(2^60)<=j)(h':j<2^60):bnd j=true:=by
 unfold bnd;rw [bA1,decide_eq_true_eq,decide_eq_true_eq];lia
noncomputable def rW1 (p:List D×Sto)(Q:Itm×Sto->Prop):Prop:=match p.1 with
 | [.int j]=>bnd j=true/\Q (⟨nums 0 j.toNat,[]⟩,p.2)
 | _=>False
noncomputable def rW2 (p:List D×Sto)(Q:Itm×Sto->Prop):Prop:=match p.1 with
 | [.int i,.int j]=>bnd i=true/\bnd j=true/\Q (⟨nums i (j-i).toNat,[]⟩,p.2)
 | _=>False
theorem qiO {m:FA}{r:Ev}{S:Sto}{Q:Itm×Sto->Prop}:W (iR1 m r S) Q↔W (m r S) fun p=>rW1 p Q:=by
 unfold iR1;rw [qah];constructor
 ·refine fun h=>h.mono fun p q=>?_;unfold rW1;split at q
  ·rename_i j e
   try rw [e]
   rw [qiN] at q;split at q
   ·rename_i hc;exact ⟨by unfold bnd;rw [bA1,decide_eq_true_eq,decide_eq_true_eq];exact hc,qag.mp q⟩
   ·exact (qev.mp q).elim
  ·exact (qev.mp q).elim
 ·refine fun h=>h.mono fun p q=>?_;unfold rW1 at q;split at q
  ·rename_i j e;obtain ⟨a,b⟩:=q;unfold bnd at a;rw [bA1,decide_eq_true_eq,decide_eq_true_eq] at a
   try rw [e]
   try dsimp only
   rw [if_pos a];exact qag.mpr b
  ·exact q.elim
theorem qtw {m:FA}{r:Ev}{S:Sto}{Q:Itm×Sto->Prop}:W (iR2 m r S) Q↔W (m r S) fun p=>rW2 p Q:=by
 unfold iR2;rw [qah];constructor
 ·refine fun h=>h.mono fun p q=>?_;unfold rW2;split at q
  ·rename_i i j e
   try rw [e]
   rw [qiN] at q;split at q
   ·rename_i hc;refine ⟨?_,?_,qag.mp q⟩
    ·unfold bnd;rw [bA1,decide_eq_true_eq,decide_eq_true_eq];exact ⟨hc.1,hc.2.1⟩
    ·unfold bnd;rw [bA1,decide_eq_true_eq,decide_eq_true_eq];exact hc.2.2
   ·exact (qev.mp q).elim
  ·exact (qev.mp q).elim
 ·refine fun h=>h.mono fun p q=>?_;unfold rW2 at q;split at q
  ·rename_i i j e;obtain ⟨a,b,c⟩:=q;unfold bnd at a b;rw [bA1,decide_eq_true_eq,decide_eq_true_eq] at a b
   try rw [e]
   try dsimp only
   rw [if_pos ⟨a.1,a.2,b⟩];exact qag.mpr c
  ·exact q.elim
noncomputable def fits (n:Nat):Bool:=decide (n<=sizeLine)
theorem qaj {n:Nat}(h:n<=100000):fits n=true:=by unfold fits;rw [decide_eq_true_eq];exact Nat.le_trans h (by decide)
theorem qhY {n:Nat}:fits n=true↔n<=sizeLine:=by unfold fits;rw [decide_eq_true_eq]
theorem ft0:fits 0=true:=qaj (by decide)
theorem ft1:fits 1=true:=qaj (by decide)
theorem ft2:fits 2=true:=qaj (by decide)
theorem ft3:fits 3=true:=qaj (by decide)
theorem ft4:fits 4=true:=qaj (by decide)
theorem ft5:fits 5=true:=qaj (by decide)
theorem ft6:fits 6=true:=qaj (by decide)
theorem ft7:fits 7=true:=qaj (by decide)
theorem ft8:fits 8=true:=qaj (by decide)
theorem qcS {α:Type}{n:Nat}{o:Option α}{Q:α->Prop}:W (if n<=sizeLine then o else none) Q↔fits n=true/\W o Q:=by
 rw [qhY,qiN];split
 ·rename_i h;exact ⟨fun q=>⟨h,q⟩,fun q=>q.2⟩
 ·rename_i h;exact ⟨fun q=>(qev.mp q).elim,fun q=>absurd q.1 h⟩
theorem qnb {a:FA}{r:Ev}{S:Sto}{Q:D×Sto->Prop}:W (mTup a r S) Q↔W (a r S) fun p=>fits p.1.length=true/\Q (.tup p.1,p.2):=by
 unfold mTup;rw [qah];exact ⟨fun h=>h.mono fun p q=>(qcS.mp q).imp_right qag.mp,fun h=>h.mono fun p q=>qcS.mpr (q.imp_right qag.mpr)⟩
theorem qr8 {a:FA}{r:Ev}{S:Sto}{Q:D×Sto->Prop}:W (mLst a r S) Q↔W (a r S) fun p=>fits p.1.length=true/\Q (.ref p.2.length,p.2++[.lst p.1]):=by
 unfold mLst;rw [qah];exact ⟨fun h=>h.mono fun p q=>(qcS.mp q).imp_right qag.mp,fun h=>h.mono fun p q=>qcS.mpr (q.imp_right qag.mpr)⟩
theorem qpr {k:Nat}{keep:List Nat}{m:FI}{g:FG}{t:FT}{b:FV}{r:Ev}{S:Sto}{Q:D×Sto->Prop}:W (qbD k keep m g t b r S) Q↔W (m r S) fun p=>W (qch p.1.chk g t b p.1.items (inEv k keep r) p.2) fun q=>fits q.1.length=true/\Q (.ref q.2.2.length,q.2.2++[.lst q.1]):=by
 unfold qbD;rw [qah];refine ⟨fun h=>h.mono fun p q=>?_,fun h=>h.mono fun p q=>?_⟩
 ·rw [qah] at q;exact q.mono fun z w=>(qcS.mp w).imp_right qag.mp
 ·rw [qah];exact q.mono fun z w=>qcS.mpr (w.imp_right qag.mpr)
theorem qsh {xs ys:List D}{S:Sto}{Q:D×Sto->Prop}:W (gAdd (.tup xs) (.tup ys) S) Q↔fits (xs.length+ys.length)=true/\Q (.tup (xs++ys),S):=
 ⟨fun q=>(qcS.mp q).imp_right qag.mp,fun q=>qcS.mpr (q.imp_right qag.mpr)⟩
theorem qsj {x y:Int}{S:Sto}{Q:D×Sto->Prop}:W (gAdd (.int x) (.int y) S) Q↔Q (.int (x+y),S):=qag
theorem qsi {a b:Nat}{xs ys:List D}{S:Sto}{Q:D×Sto->Prop}(h1:S[a]? = some (.lst xs))(h2:S[b]? = some (.lst ys)):W (gAdd (.ref a) (.ref b) S) Q↔fits (xs.length+ys.length)=true/\Q (.ref S.length,S++[.lst (xs++ys)]):=by
 rw [gAdd];simp only [h1,h2];exact ⟨fun q=>(qcS.mp q).imp_right qag.mp,fun q=>qcS.mpr (q.imp_right qag.mpr)⟩
theorem qfC {n:Nat}{v:D}{xs:List D}{S:Sto}{Q:D×Sto->Prop}(h:S[n]? = some (.lst xs)):W (gApp (.ref n) v S) Q↔fits (xs.length+1)=true/\Q (.non,S.set n (.lst (xs++[v]))):=by
 rw [gApp];simp only [h];rw [qiN,qhY];split
 ·rename_i a;exact ⟨fun q=>⟨a,qag.mp q⟩,fun q=>qag.mpr q.2⟩
 ·rename_i a;exact ⟨fun q=>(qev.mp q).elim,fun q=>absurd q.1 a⟩
theorem qr6 {n:Nat}{k:Nat}{xs:List D}{S:Sto}{Q:D×Sto->Prop}(h:S[n]? = some (.lst xs))(hk:k<=1000)(hx:xs.length<=1000)(q:Q (.ref S.length,S++[.lst (List.replicate k xs).flatten])):W (qkh (.ref n) (.int k) S) Q:=by
 rw [qkh];simp only [h];have a:xs.length*k<=sizeLine:=Nat.le_trans (Nat.mul_le_mul hx hk) (by decide);rw [if_pos ⟨by lia,by lia,by rw [Int.toNat_natCast];exact a⟩,qag,Int.toNat_natCast];exact q
theorem qiM {n:Nat}{i:Nat}{xs:List D}{x:D}{S:Sto}{Q:D×Sto->Prop}(h:S[n]? = some (.lst xs))(hx:xs[i]? = some x)(q:Q (x,S)):W (gIxY (.ref n) (.int i) S) Q:=by
 refine W.of (x:=(x,S)) ?_ q;have a:=(gE1.mp hx).1;simp only [gIxY,gIxX,gIx,h,qap,atI,ixN,oS1,if_pos (show (0:Int)<=i by lia)];rw [if_pos (by lia)];simp [hx]
theorem qkQ {i:Nat}{xs:List D}{x:D}{S:Sto}{Q:D×Sto->Prop}(hx:xs[i]? = some x)(q:Q (x,S)):W (gIxY (.tup xs) (.int i) S) Q:=by
 refine W.of (x:=(x,S)) ?_ q;have a:=(gE1.mp hx).1;simp only [gIxY,gIxX,gIx,qap,atI,ixN,oS1,if_pos (show (0:Int)<=i by lia)];rw [if_pos (by lia)];simp [hx]
theorem qna {n:Nat}{i:Nat}{xs:List D}{v:D}{S:Sto}{Q:D×Sto->Prop}(h:S[n]? = some (.lst xs))(hx:i<xs.length)(q:Q (.non,S.set n (.lst (xs.set i v)))):W (qbS (.ref n) (.int i) v S) Q:=by
 refine W.of (x:=(.non,S.set n (.lst (xs.set i v)))) ?_ q;simp only [qbS,qfq,qdH,h,ixN,if_pos (show (0:Int)<=i by lia)];rw [if_pos (by lia)];simp
theorem rp0:List.replicate 0 (none:Option D)=[]:=rfl
theorem rp1:List.replicate 1 (none:Option D)=[none]:=rfl
theorem rp2:List.replicate 2 (none:Option D)=[none,none]:=rfl
theorem rp3:List.replicate 3 (none:Option D)=[none,none,none]:=rfl
theorem rp4:List.replicate 4 (none:Option D)=[none,none,none,none]:=rfl
theorem rp5:List.replicate 5 (none:Option D)=[none,none,none,none,none]:=rfl
theorem rp6:List.replicate 6 (none:Option D)=[none,none,none,none,none,none]:=rfl
theorem rp7:List.replicate 7 (none:Option D)=[none,none,none,none,none,none,none]:=rfl
theorem rp8:List.replicate 8 (none:Option D)=[none,none,none,none,none,none,none,none]:=rfl
theorem rp9:List.replicate 9 (none:Option D)=[none,none,none,none,none,none,none,none,none]:=rfl
theorem rp10:List.replicate 10 (none:Option D)=[none,none,none,none,none,none,none,none,none,none]:=rfl
theorem rp11:List.replicate 11 (none:Option D)=[none,none,none,none,none,none,none,none,none,none,none]:=rfl
theorem rp12:List.replicate 12 (none:Option D)=[none,none,none,none,none,none,none,none,none,none,none,none]:=rfl
theorem rp13:List.replicate 13 (none:Option D)=[none,none,none,none,none,none,none,none,none,none,none,none,none]:=rfl
theorem rp14:List.replicate 14 (none:Option D)=[none,none,none,none,none,none,none,none,none,none,none,none,none,none]:=rfl
theorem rp15:List.replicate 15 (none:Option D)=[none,none,none,none,none,none,none,none,none,none,none,none,none,none,none]:=rfl
theorem rp16:List.replicate 16 (none:Option D)=[none,none,none,none,none,none,none,none,none,none,none,none,none,none,none,none]:=rfl
theorem rp17:List.replicate 17 (none:Option D)=[none,none,none,none,none,none,none,none,none,none,none,none,none,none,none,none,none]:=rfl
theorem rp18:List.replicate 18 (none:Option D)=[none,none,none,none,none,none,none,none,none,none,none,none,none,none,none,none,none,none]:=rfl
theorem rp19:List.replicate 19 (none:Option D)=[none,none,none,none,none,none,none,none,none,none,none,none,none,none,none,none,none,none,none]:=rfl
theorem rp20:List.replicate 20 (none:Option D)=[none,none,none,none,none,none,none,none,none,none,none,none,none,none,none,none,none,none,none,none]:=rfl
theorem qcb {α:Type}{T G:List α}{k:Nat}:(T++G)[T.length+k]? = G[k]?:=by rw [gR1 (by lia)];congr 1;lia
theorem qaC {α:Type}{T G:List α}:(T++G)[T.length]? = G[0]?:=by rw [gR1 (by lia)];congr 1;lia
theorem qgV:∀ (n:Nat) (lo:Int),nums lo n=(List.range n).map fun i:Nat=>D.int (lo+i)
 | 0,lo=>rfl
 | n+1,lo=>by
  rw [nums,qgV n (lo+1),List.range_succ_eq_map,mP1,List.map_map]
  congr 1
  ·simp
  ·apply List.map_congr_left;intro i _;simp only [Function.comp_apply,Nat.succ_eq_add_one]
   congr 1
   push_cast
   lia
theorem qiy (n:Nat):nums 0 n=(List.range n).map fun i:Nat=>D.int i:=by
 rw [qgV];apply List.map_congr_left;intro i _;simp
theorem mapW {α:Type}{c:List (Nat×List D)}{g:FG}{t:FT}{e:FE}{S:Sto}{f:α->D}{Q:List D×Ev×Sto->Prop}(F:α->D)(P:Ev->Prop)(d:okC S c=true):∀ (xs:List α) (r:Ev),P r ->
  (∀ a∈xs,∀ r,P r->W (g (f a) r S) fun p=>W (t p.1 p.2) fun b=>b.1=true/\W (e p.1 b.2) fun x=>x.1=F a/\x.2=S/\P p.1) ->
  (∀ i,P i->Q (xs.map F,i,S))->W (qch c g t (qbh e) (xs.map f) r S) Q
 | [],r,hr,_,h=>by rw [List.map_nil,qch];dsimp only;rw [if_pos d,qag];exact h r hr
 | a::xs,r,hr,hs,h=>by
  rw [mP1,qch];dsimp only;rw [if_pos d,qah];obtain ⟨p,l,⟨b,o,q,⟨x,u,n,m,s⟩⟩⟩:=hs a mS1 r hr;refine ⟨p,l,?_⟩;dsimp only;rw [qah];refine ⟨b,o,?_⟩;dsimp only;rw [if_pos q,qah,qbh,qeC];refine ⟨x,u,?_⟩;dsimp only;rw [m,qeC];refine mapW F P d xs p.1 s (fun a k=>hs a (mC1 _ k)) fun i j=>?_;have:=h i j;rw [mP1,<- n] at this;exact this
theorem qhf {α:Type}{c:List (Nat×List D)}{g:FG}{t:FT}{e:FE}{S:Sto}{f:α->D}{Q:List D×Ev×Sto->Prop}(k:α->Bool)(F:α->D)(P:Ev->Prop)(d:okC S c=true):∀ (xs:List α) (r:Ev),P r ->
  (∀ a∈xs,∀ r,P r->W (g (f a) r S) fun p=>W (t p.1 p.2) fun b=>b.1=k a/\b.2=S/\P p.1/\(k a=true->W (e p.1 S) fun x=>x.1=F a/\x.2=S)) ->
  (∀ j,P j->Q ((xs.filter k).map F,j,S))->W (qch c g t (qbh e) (xs.map f) r S) Q
 | [],r,hr,_,h=>by rw [List.map_nil,qch];dsimp only;rw [if_pos d,qag];exact h r hr
 | a::xs,r,hr,hs,h=>by
  rw [mP1,qch];dsimp only;rw [if_pos d,qah];obtain ⟨p,u,⟨b,v,q,o,s,m⟩⟩:=hs a mS1 r hr;refine ⟨p,u,?_⟩;dsimp only;rw [qah];refine ⟨b,v,?_⟩;dsimp only;cases hk:k a with
  | true=>
   rw [q,hk,if_pos rfl,qah,qbh,qeC,o];obtain ⟨x,w,m,n⟩:=m hk;refine ⟨x,w,?_⟩;dsimp only;rw [n,qeC];refine qhf k F P d xs p.1 s (fun a l=>hs a (mC1 _ l)) fun j i=>?_;have:=h j i;rw [List.filter_cons,hk,if_pos rfl,mP1,<- m] at this;exact this
  | false=>
   rw [q,hk,if_neg (by decide),o];refine qhf k F P d xs p.1 s (fun a l=>hs a (mC1 _ l)) fun j i=>?_;have:=h j i;rw [List.filter_cons,hk,if_neg (by decide)] at this;exact this
theorem qie {α:Type}{f:α->Bool}:∀ xs:List α,Mi.allB (xs.map fun x=>D.bl (f x))=some (xs.all f)
 | []=>rfl
 | x::xs=>by rw [mP1,Mi.allB,qie xs];rfl
mutual
theorem qmn {n m:Nat}(h:n<=m):∀ {d:D},d.und n=true->d.und m=true
 | .non,_=>rfl
 | .bl _,_=>rfl
 | .int _,_=>rfl
 | .str _,_=>rfl
 | .tup xs,q=>by rw [D.und] at q ⊢;exact qcU h q
 | .rol xs,q=>by rw [D.und] at q ⊢;exact qcU h q
 | .fn _,_=>rfl
 | .ref k,q=>by simp [D.und] at q ⊢;lia
theorem qcU {n m:Nat}(h:n<=m):∀ {ds:List D},D.unds n ds=true->D.unds m ds=true
 | [],_=>rfl
 | d::ds,q=>by
  rw [D.unds,bA1] at q ⊢;exact ⟨qmn h q.1,qcU h q.2⟩
end
theorem qdZ {n m:Nat}(h:n<=m):∀ {o:Ob},o.und n=true->o.und m=true
 | .lst xs,q=>by rw [Ob.und] at q ⊢;exact qcU h q
 | .dct xs,q=>by rw [Ob.und] at q ⊢;exact qcU h q
 | .dcT xs,q=>by rw [Ob.und] at q ⊢;exact qcU h q
 | .dcF xs,q=>by rw [Ob.und] at q ⊢;exact qcU h q
 | .iset _,_=>rfl
 | .tst _,_=>rfl
theorem unds_map {α:Type}{n:Nat}{f:α->D}:∀ {xs:List α},(∀ x∈xs,(f x).und n=true)->D.unds n (xs.map f)=true
 | [],_=>rfl
 | x::xs,h=>by rw [mP1,D.unds,h x mS1,unds_map fun y a=>h y (mC1 _ a)];rfl
theorem al1 {x:Nat}:x+1+1=x+2:=rfl
theorem al2 {x:Nat}:x+2+1=x+3:=rfl
theorem al3 {x:Nat}:x+3+1=x+4:=rfl
theorem al4 {x:Nat}:x+4+1=x+5:=rfl
theorem al5 {x:Nat}:x+5+1=x+6:=rfl
theorem al6 {x:Nat}:x+6+1=x+7:=rfl
theorem al7 {x:Nat}:x+1+2=x+3:=rfl
theorem len_tup {xs:List D}{S:Sto}:gLen (.tup xs) S=some (.int xs.length,S):=rfl
theorem qs5 {xs:List D}{S:Sto}:gLen (.rol xs) S=some (.int xs.length,S):=rfl
theorem qsl {S:Sto}:gLen (.str "") S=some (.int 0,S):=rfl
theorem qgE {xs:List D}{S:Sto}:qap S (.tup xs)=some (false,xs):=rfl
theorem qsz {xs:List D}{S:Sto}:qap S (.rol xs)=some (true,xs):=rfl
theorem qpc {xs:List D}{S:Sto}:qep S (.tup xs)=[]:=rfl
theorem qto {xs:List D}{S:Sto}:qep S (.rol xs)=[]:=rfl
theorem qe4 {n:Nat}{xs:List D}{S:Sto}(h:S[n]? = some (.lst xs)):qap S (.ref n)=some (true,xs):=by simp only [qap,h]
theorem qpd {n:Nat}{xs:List D}{S:Sto}(h:S[n]? = some (.lst xs)):qep S (.ref n)=[(n,xs)]:=by simp only [qep,h]
noncomputable def sW (S:Sto)(d:D)(Q:List D×List (Nat×List D)->Prop):Prop:=W (qap S d) fun q=>Q (q.2,qep S d)
theorem qd9 {xs:List D}{S:Sto}{Q:List D×List (Nat×List D)->Prop}:sW S (.tup xs) Q↔Q (xs,[]):=qag
theorem qax {n:Nat}{xs:List D}{S:Sto}{Q:List D×List (Nat×List D)->Prop}(h:S[n]? = some (.lst xs))(q:Q (xs,[(n,xs)])):sW S (.ref n) Q:=by
 unfold sW;rw [qe4 h,qpd h,qag];exact q
theorem qnc {m:FE}{r:Ev}{S:Sto}{Q:Itm×Sto->Prop}:W (iSeq m r S) Q↔W (m r S) fun p=>sW p.2 p.1 fun q=>Q (⟨q.1,q.2⟩,p.2):=by
 unfold iSeq;rw [qah];refine ⟨fun h=>h.mono fun p q=>?_,fun h=>h.mono fun p q=>?_⟩
 ·rw [qah] at q;exact q.mono fun z w=>qag.mp w
 ·rw [qah];exact W.mono (show W (qap p.2 p.1) _ from q) fun z w=>qag.mpr w
theorem qsf {d:D}{S:Sto}{Q:D×Sto->Prop}:W (Mi.gTup d S) Q↔sW S d fun q=>Q (.tup q.1,S):=by
 unfold Mi.gTup;rw [qeC];exact Iff.rfl
theorem qtv {n:Nat}{S:Sto}{Q:D×Sto->Prop}:W (gLen (.ref n) S) Q↔sW S (.ref n) fun q=>Q (.int q.1.length,S):=by
 unfold gLen sW;rw [qeC]
noncomputable def pD (e:Nat×Nat):D:=.tup [.int e.1,.int e.2]
theorem qmZ {S:Sto}{n:Nat}{a b:Nat×Nat}:eqN S (n+2) (pD a) (pD b)=some (a == b):=by
 obtain ⟨f,e⟩:=a;obtain ⟨b1,b2⟩:=b;rw [eqN];have d:∀ x y:Nat,eqN S (n+1) (.int x) (.int y)=some ((x:Int) == (y:Int)):=fun x y=>rfl;have c:∀ x y:Nat,((x:Int) == (y:Int))=(x == y):=fun x y=>by
  rw [Bool.eq_iff_iff,beq_iff_eq,beq_iff_eq];lia
 simp [pD,qap,eqL,d,c];rfl
theorem qko {S:Sto}{n:Nat}{e:Nat×Nat}:∀ b:List (Nat×Nat),eqsL (eqN S (n+2)) (pD e) (b.map pD)=some (b.map fun a=>a == e)
 | []=>rfl
 | a::b=>by rw [mP1,eqsL,qmZ,qko b];rfl
theorem qsa {S:Sto}{n j:Nat}{row:List (Nat×Nat)}{e:Nat×Nat}{Q:D×Sto->Prop}(h:S[n]? = some (.lst (row.map pD)))(b:row.length<1000)(a:row.findIdx? (· == e)=some j)(q:Q (.int j,S)):W (gIdx (.ref n) (pD e) S) Q:=by
 refine W.of ?_ q;unfold gIdx qav;simp only [h,show (60:Nat)=58+2 from rfl,qko,oS1,lM1];rw [if_pos (by lia),List.findIdx?_map];simp [Function.comp_def,a]
theorem qdz {f:FN}{o:FE}{a:FA}{r:Ev}{S:Sto}{Q:D×Sto->Prop}(h:W (o r S) fun p=>∃ n xs,p.1 = .ref n/\p.2[n]? = some (.lst xs)/\W (a r p.2) fun q=>W (f (.ref n::q.1) q.2) Q):W (mMt f o a r S) Q:=by
 unfold mMt;rw [qah];refine h.mono ?_;rintro ⟨d,b⟩ ⟨n,xs,rfl,e,q⟩;dsimp only at e q ⊢;rw [e];dsimp only;rw [qah];exact q
noncomputable def qds (row:List (Nat×Nat)):Ob:=.lst (row.map pD)
theorem qda {n:Nat}{row:List (Nat×Nat)}:(qds row).und n=true:=by
 unfold qds;rw [Ob.und];exact unds_map fun _ _=>rfl
theorem qgK:∀ {k n i:Nat},i<k->(refs n k)[i]? = some (.ref (n+i))
 | k+1,n,0,_=>rfl
 | k+1,n,i+1,h=>by rw [refs,gC1,qgK (Nat.lt_of_succ_lt_succ h),show n+1+i=n+(i+1) by lia]
theorem qdW:∀ k n:Nat,(refs n k).length=k
 | 0,_=>rfl
 | k+1,n=>by rw [refs,lC1,qdW]
noncomputable def tot (E:List (List (Nat×Nat))):Nat:=(E.map List.length).sum
theorem qmq:∀ {E:List (List (Nat×Nat))} {k:Nat},k<=E.length->(∀ i b,i<k->E[i]? = some b->4<=b.length)->4*k<=tot E
 | E,0,_,_=>by lia
 | [],k+1,h,_=>by simp at h
 | a::E,k+1,h,q=>by
  have h1:=q 0 a (by lia) rfl;have h2:=qmq (E:=E) (k:=k) (by simpa using h) fun i b hi c=>q (i+1) b (by lia) (by simpa using c);simp [tot] at h2 ⊢;lia
noncomputable def nmD (rs:List Nat):List D:=rs.map fun i:Nat=>D.int i
theorem nm_und (a:List Nat):D.unds 0 (nmD a)=true:=unds_map fun _ _=>rfl
theorem qhK {κ:Type}[DecidableEq κ]{k:κ}:qao ([]:List (κ×D)) k=none:=rfl
theorem qaZ {κ:Type}[DecidableEq κ]{k a:κ}{d:D}{r:List (κ×D)}:qao ((a,d)::r) k=if a=k then some d else qao r k:=by
 unfold qao;rw [List.find?_cons];by_cases h:a=k
 ·simp [h]
 ·simp [h]
theorem qfo {κ:Type}[DecidableEq κ]{k:κ}{b:List (κ×D)}:∀ {a:List (κ×D)},qao (a++b) k=(qao a k).or (qao b k)
 | []=>rfl
 | (x,d)::a=>by
  rw [List.cons_append,qaZ,qaZ,qfo (a:=a)];split<;>rfl
theorem qdf {κ:Type}[DecidableEq κ]{k:κ}:∀ {a:List (κ×D)},(a.any fun p=>decide (p.1=k))=false->qao a k=none
 | [],_=>rfl
 | (x,d)::a,h=>by
  simp only [List.any_cons,Bool.or_eq_false_iff,decide_eq_false_iff_not] at h;rw [qaZ,if_neg h.1];exact qdf h.2
theorem qeh {κ:Type}[DecidableEq κ]{k k':κ}{v:D}:∀ {a:List (κ×D)},(a.any fun p=>decide (p.1=k))=true->qao (a.map fun p=>if p.1=k then (p.1,v) else p) k'=if k'=k then some v else qao a k'
 | [],h=>by simp at h
 | (x,d)::a,h=>by
  rw [mP1];by_cases f:x=k
  ·subst f;rw [if_pos (show (x,d).1=x from rfl)];rw [qaZ,qaZ];by_cases e:k'=x
   ·subst e;simp
   ·rw [if_neg (Ne.symm e),if_neg (Ne.symm e),if_neg e];by_cases g:(a.any fun p=>decide (p.1=x))=true
    ·rw [qeh g,if_neg e]
    ·have:(a.map fun p=>if p.1=x then (p.1,v) else p)=a:=by
      have b:(a.any fun p=>decide (p.1=x))=false:=Bool.eq_false_iff.mpr g;rw [List.any_eq_false] at b
      conv=>rhs;rw [<- List.map_id a]
      apply List.map_congr_left;intro p i;have:=b p i;simp at this;simp [this]
     rw [this]
  ·simp only [List.any_cons,decide_eq_false f,Bool.false_or] at h;rw [if_neg (show ¬ (x,d).1=k from f)];rw [qaZ,qaZ,qeh h];by_cases c:x=k'
   ·subst c;simp [f]
   ·simp [c]
theorem qde {κ:Type}[DecidableEq κ]{k k':κ}{v:D}{a:List (κ×D)}:qao (putD a k v) k'=if k'=k then some v else qao a k':=by
 unfold putD;split
 ·rename_i h;exact qeh h
 ·rename_i h;have h':(a.any fun p=>decide (p.1=k))=false:=Bool.eq_false_iff.mpr h;rw [qfo,qaZ,qhK];by_cases b:k'=k
  ·subst b;rw [qdf h',if_pos rfl];rfl
  ·rw [if_neg (Ne.symm b),if_neg b];cases qao a k'<;>rfl
theorem qjx {κ:Type}[DecidableEq κ]{k:κ}{v:D}{a:List (κ×D)}:(putD a k v).length<=a.length+1:=by
 unfold putD;split
 ·rw [lM1];lia
 ·rw [lA1];simp
theorem qp5 {κ:Type}[DecidableEq κ]{k:κ}{v:D}{a:List (κ×D)}:putD a k v≠[]:=by
 unfold putD;split
 ·rename_i h;intro z;cases a with
  | nil=>simp at h
  | cons x xs=>simp at z
 ·simp
noncomputable def dO (F:List (TK×D)):Ob:=if F=[] then .dct [] else .dcT F
theorem qeV {U:Sto}{n:Nat}{F:List (TK×D)}{a v:D}{k:TK}{Q:D×Sto->Prop}(h:U[n]? = some (dO F))(hk:keyT a=some k)(c:F.length<1000)(q:Q (.non,U.set n (dO (putD F k v)))):W (qbS (.ref n) a v U) Q:=by
 refine W.of ?_ q;unfold dO at h ⊢;rw [if_neg qp5];by_cases b:F=[]
 ·subst b;rw [if_pos rfl] at h;simp only [qbS,h,hk];rfl
 ·rw [if_neg b] at h;simp only [qbS,h,hk,oS1];rw [if_pos (nL1 c (by decide))]
theorem qdj {U:Sto}{n:Nat}{F:List (TK×D)}{a v:D}{k:TK}{Q:D×Sto->Prop}(h:U[n]? = some (dO F))(hk:keyT a=some k)(hv:qao F k=some v)(q:Q (v,U)):W (gIxY (.ref n) a U) Q:=by
 refine W.of ?_ q;unfold dO at h;by_cases b:F=[]
 ·subst b;cases hv
 ·rw [if_neg b] at h;simp only [gIxY,h,hk,oS1,hv,oP1]
noncomputable def tkP (e:Nat×Nat):TK:=.tup [.int e.1,.int e.2]
theorem qdn {a b:Nat×Nat}(h:tkP a=tkP b):a=b:=by
 obtain ⟨d,c⟩:=a;obtain ⟨b1,b2⟩:=b;simp [tkP] at h
 ext<;>simp<;>lia
theorem qaU {e:Nat×Nat}:keyT (pD e)=some (tkP e):=rfl
theorem qr5 {U:Sto}{n i:Nat}{xs:List D}{x:D}{Q:D×Sto->Prop}(h:U[n]? = some (.lst xs))(hx:xs[i]? = some x)(hb:i<1000)(q:Q (x,U.set n (.lst (xs.eraseIdx i)))):W (gPop (.ref n) (.int i) U) Q:=by
 have a:=(gE1.mp hx).1;refine W.of ?_ q;simp only [gPop,h];rw [if_pos ⟨by lia,by lia⟩];simp only [ixN,if_pos (show (0:Int)<=i by lia)];rw [if_pos (by lia)];simp [hx]
theorem qrH {d:D}{S G:Sto}(hd:d.und 0=true)(a:S.all (Ob.und S.length)=true):gc S.length (d,S++G)=(d,S):=by
 unfold gc;dsimp only;rw [List.take_left,if_pos (by rw [qc5 hd,a];rfl)]
theorem qtx {m:FA}{r:Ev}{S:Sto}{xs:List D}{Q:Itm×Sto->Prop}(hm:m r S=some ([.tup xs],S))(q:Q (⟨enD 0 xs,[]⟩,S)):W (iEn m r S) Q:=by
 refine W.of (x:=(⟨enD 0 xs,[]⟩,S)) ?_ q;simp only [iEn,hm,oS1,qgE,qpc]
mutual
theorem qmA {n:Nat}:∀ {d:D},d.und 0=true->d.sh n=d
 | .non,_=>rfl
 | .bl _,_=>rfl
 | .int _,_=>rfl
 | .str _,_=>rfl
 | .tup xs,h=>by rw [D.und] at h;rw [D.sh,qe3 h]
 | .rol xs,h=>by rw [D.und] at h;rw [D.sh,qe3 h]
 | .fn _,_=>rfl
 | .ref k,h=>by simp [D.und] at h
theorem qe3 {n:Nat}:∀ {ds:List D},D.unds 0 ds=true->D.shs n ds=ds
 | [],_=>rfl
 | d::ds,h=>by
  rw [D.unds,bA1] at h;rw [D.shs,qmA h.1,qe3 h.2]
end
end Mi
end
local macro_rules | `(tactic| walk_at "own wq") => `(tactic| simp only [Mi.qag, Mi.qev, Mi.ite_and', Mi.qah, Mi.qeC, Mi.qiN, Mi.mSeq, Mi.mAsg, Mi.mIfS, Mi.mRet, Mi.qcg, Mi.mNx, Mi.mN, Mi.qaa, Mi.mNil, Mi.m2, Mi.m1, Mi.mV, Mi.mC, Mi.qnb, Mi.qr8, Mi.mB, Mi.mAnd, Mi.mOr, Mi.mNot, Mi.qg3, Mi.qjZ, Mi.mIf, Mi.qb3, Mi.mTr, Mi.qpF, Mi.gN, Mi.gT, Mi.gCs, Mi.gNl, Mi.gS, Mi.b1, Mi.b2, Mi.b3, Mi.fnB, Mi.qdA, Mi.qpr, Mi.qiO, Mi.qtw, Mi.rW1, Mi.rW2, Mi.mFor, Mi.inEv, Mi.qsh, Mi.qsj, Mi.gSub, Mi.gCmp, Mi.gInt, Mi.qo3, Mi.qo0, Mi.qo1, Mi.ft0, Mi.ft1, Mi.ft2, Mi.ft3, Mi.ft5, true_and, Mi.qcb, Mi.qaC, List.append_assoc, lA1, List.getElem?_cons_zero, gC1, List.getElem?_nil, List.set_cons_zero, List.set_cons_succ, lC1, List.length_nil, mP1, List.map_nil, Mi.rp0, Mi.rp1, Mi.rp2, Mi.rp4, Mi.rp5, Mi.rp8, Mi.rp9, Mi.rp10, Mi.rp12, List.nil_append, List.cons_append, List.append_nil, Nat.reduceAdd, Nat.reduceSub, Option.join_some, Option.join_none, oP1, Option.map_none, oS1, Option.bind_none, if_true, if_false, bF1, Bool.not_true, Bool.not_false, ite_true, ite_false, reduceIte, decide_true, decide_false, Mi.al1, Mi.al7, Mi.len_tup, Mi.qnc, Mi.qsf, Mi.qtv])
local macro_rules | `(tactic| walk_at "own wv") => `(tactic| simp -implicitDefEqProofs only [Mi.qag, true_and, Mi.mV, Mi.mNx, Mi.mNil, Mi.mN, Mi.mIfS, Mi.qaa, Mi.mB, Mi.mAsg, Mi.m2, Mi.gS, Mi.ft2, Mi.b3, Mi.b2, Mi.al1, Mi.qnb, Mi.qiN, Mi.qah, oS1, Nat.reduceAdd, List.length_nil, lC1, List.getElem?_cons_zero, gC1])
section
namespace Law
open PySem PySem.Spec PyProof.Rows L2 Mi
noncomputable def top (i:Nat):Stmt:=PySem.Challenge.pw_ringmeet_k12_whole_parted_or_alike.main.body.getD i (.Pass ⟨0,0,0,0⟩)
structure Blt (mg:Str->Option Value):Prop where
 z_abs:mg "abs"=none
 z_all:mg "all"=none
 z_bool:mg "bool"=none
 z_enumerate:mg "enumerate"=none
 z_int:mg "int"=none
 z_isinstance:mg "isinstance"=none
 z_len:mg "len"=none
 z_list:mg "list"=none
 z_min:mg "min"=none
 z_range:mg "range"=none
 z_tuple:mg "tuple"=none
 z_zip:mg "zip"=none
section
variable {P:Program} {w:World} {K:Fg1} {mg:Str->Option Value} {base h:Heap}
noncomputable abbrev qdp:Stmt:=top 1
noncomputable def qeS:FS:=(mRet (qg3 (mIsT .int (mV 0)) (qjZ (mIsT .bool (mV 0)))))
noncomputable def qb0:FN:=fnB 1 qeS
theorem qgH:qam ["thing"] ["thing"] (qac qdp):=⟨rfl,rfl,rfl,by decide+kernel,rfl,by decide+kernel,by decide+kernel⟩
theorem qgQ (X:K.In h)(G:h.Ns mainGlobals mg){f:Addr}(F:FnAt K "is_whole" qdp f)(B:Blt mg):
  Own P w K mg base 1 "is_whole" 1 qb0:=xo X G F qgH (fun _ _ _ _ _ _ c a=>ln1 a fun _=>rfl) fun _ _ _ _ _ _ _ b=>
 (qG (qU (qeW (qa6 .int rfl B.z_isinstance rfl B.z_int (by decide+kernel) (xmv 0)) (qgx (qi0 (qa6 .bool rfl B.z_isinstance rfl B.z_bool (by decide+kernel) (xmv 0)))))))
noncomputable abbrev qgI:Stmt:=top 2
noncomputable def qbz:FS:=(mSeq (mIfS (mNot (mB (mCh (b2 (gCmp fun i j=>decide (i<=j))) (b2 gLt) (mC (D.int (0))) (mV 5) (mN (b1 gLen) (qaa (m2 (b2 gIxY) (mV 0) (mV 4)) mNil))))) (mRet (mN (b1 gTup) (qaa (mV 3) mNil))) mNx)
  (mSeq (mAsg (m2 (b2 gIxY) (m2 (b2 gIxY) (mV 0) (mV 4)) (mV 5)) (gT 2 (gCs (gN 4) (gCs (gN 6) gNl))))
  (qcg (mMt (b2 gApp) (mV 3) (qaa (mTup (qaa (mV 4) (qaa (mV 6) mNil))) mNil)))))
noncomputable def qkM:FS:=(mSeq (mAsg (mLst mNil) (gN 3))
  (mSeq (mAsg (mV 1) (gN 4))
  (mSeq (mFor (iSeq (mV 2)) (gN 5) qbz)
  (mRet (mN (b1 gTup) (qaa (mV 3) mNil))))))
noncomputable def qdu:FN:=fnB 7 qkM
theorem qcB:qam ["web","room","walk","found","here","door","back"] ["web","room","walk"] (qac qgI):=⟨rfl,rfl,rfl,by decide+kernel,rfl,by decide+kernel,by decide+kernel⟩
theorem qlB (X:K.In h)(G:h.Ns mainGlobals mg){f:Addr}(F:FnAt K "stops" qgI f)(B:Blt mg):
  Own P w K mg base 1 "stops" 3 qdu:=xo X G F qcB (fun _ _ _ _ _ _ c b=>ln3 b fun _ _ _=>rfl) fun _ _ _ _ _ _ _ a=>
 (qF (sn 3 qcB.nd (qaT qN))
  (qF (sn 4 qcB.nd (xmv 1))
  (qF (qW PassesOwn.never rfl (qd (xmv 2)) (gn 5 qcB.nd) (qF (qV (qcT (qiY o_le (qgU a.units) qK (xmv 5) (cb qaV B.z_len (qA (jx a (xmv 0) (xmv 4)) qN)))) (qG (qU (cy qbi B.z_tuple (qA (xmv 3) qN)))) qQ)
  (qF (qR (jx a (jx a (xmv 0) (xmv 4)) (xmv 5)) (qaD rfl (qad (gn 4 qcB.nd) (qad (gn 6 qcB.nd) qau))))
  (qG (qa0 (qe PySem.F.slot_list_append PySem.F.type_list_append qex (xmv 3) (qA (qai (qA (xmv 4) (qA (xmv 6) qN))) qN)))))))
  (qG (qU (cy qbi B.z_tuple (qA (xmv 3) qN)))))))
noncomputable abbrev qgJ:Stmt:=top 5
noncomputable def qfV:FS:=(mSeq (mAsg (mN (b1 gTup) (qaa (qbD 2 [2] (iSeq (mV 5)) (gT 2 (gCs (gN 0) (gCs (gN 1) gNl))) qb3 (qbh (mTup (qaa (m2 (b2 gIxY) (mV 2) (mV 0)) (qaa (mV 1) mNil))))) mNil)) (gN 6))
  (qcg (mMt (b2 gApp) (mV 3) (qaa (mTup (qaa (m2 (b2 gIxY) (mV 2) (mV 4)) (qaa (m2 (b2 gIxY) (mV 1) (mV 4)) (qaa (mV 6) mNil)))) mNil))))
noncomputable def qkN:FS:=(mSeq (mAsg (mLst mNil) (gN 3))
  (mSeq (mFor (iEn (qaa (mV 0) mNil)) (gT 2 (gCs (gN 4) (gCs (gN 5) gNl))) qfV)
  (mRet (mV 3))))
noncomputable def qc1:FN:=fnB 7 qkN
theorem qc8:qam ["web","signs","colours","found","room","doors","led_to"] ["web","signs","colours"] (qac qgJ):=⟨rfl,rfl,rfl,by decide+kernel,rfl,by decide+kernel,by decide+kernel⟩
theorem qlC (X:K.In h)(G:h.Ns mainGlobals mg){f:Addr}(F:FnAt K "looks" qgJ f)(B:Blt mg):
  Own P w K mg base 1 "looks" 3 qc1:=xo X G F qc8 (fun _ _ _ _ _ _ c b=>ln3 b fun _ _ _=>rfl) fun _ _ _ _ _ _ _ a=>
 (qF (sn 3 qc8.nd (qaT qN))
  (qF (qW PassesOwn.never rfl (qb6 rfl B.z_enumerate (qA (xmv 0) qN)) (qaD rfl (qad (gn 4 qc8.nd) (qad (gn 5 qc8.nd) qau))) (qF (sn 6 qc8.nd (cy qbi B.z_tuple (qA (qZ rfl (T:=["there","back"]) (keep:=[2]) ⟨rfl,by decide+kernel,(kc "colours" (List.forall_mem_nil _))⟩ rfl (qd (xmv 5)) (fun _ _ _=>⟨(qaD rfl (qad (qO 0 (show List.Nodup (["there","back","colours"]:List Str) by decide+kernel) rfl (by first|exact Or.inl rfl|exact Or.inr rfl)) (qad (qO 1 (show List.Nodup (["there","back","colours"]:List Str) by decide+kernel) rfl (by first|exact Or.inl rfl|exact Or.inr rfl)) qau))),qaE,(qai (qA (jx a (xmv 2) (xmv 0)) (qA (xmv 1) qN)))⟩)) qN)))
  (qG (qa0 (qe PySem.F.slot_list_append PySem.F.type_list_append qex (xmv 3) (qA (qai (qA (jx a (xmv 2) (xmv 4)) (qA (jx a (xmv 1) (xmv 4)) (qA (xmv 6) qN)))) qN))))))
  (qG (qU (xmv 3)))))
noncomputable abbrev qdo:Stmt:=top 8
noncomputable def qdC:FS:=(mIfS (mB (m2 (b2 qcc) (mV 2) (mV 1))) (mAsg (mN (b1 qiI) (qaa (mV 1) mNil)) (gS (b3 qbS) (mV 1) (mV 2))) mNx)
noncomputable def qeR:FS:=(mSeq (mAsg qf5 (gN 1))
  (mSeq (mFor (iSeq (mV 0)) (gN 2) qdC)
  (mRet (mN (b1 gTup) (qaa (qbD 1 [1] (iSeq (mV 0)) (gN 0) qb3 (qbh (m2 (b2 gIxY) (mV 1) (mV 0)))) mNil)))))
noncomputable def qbf:FN:=fnB 3 qeR
theorem qcV:qam ["things","numbers","thing"] ["things"] (qac qdo):=⟨rfl,rfl,rfl,by decide+kernel,rfl,by decide+kernel,by decide+kernel⟩
theorem qgP (X:K.In h)(G:h.Ns mainGlobals mg){f:Addr}(F:FnAt K "numbered" qdo f)(B:Blt mg):
  Own P w K mg base 1 "numbered" 1 qbf:=xo X G F qcV (fun _ _ _ _ _ _ c b=>ln1 b fun _=>rfl) fun _ _ _ _ _ _ _ a=>
 (qF (sn 1 qcV.nd qdS)
  (qF (qW PassesOwn.never rfl (qd (xmv 0)) (gn 2 qcV.nd) (qG (qV (ct (qhF a.units) (xmv 2) (xmv 1) (by with_unfolding_all rfl)) (qG (qR (cb qrY B.z_len (qA (xmv 1) qN)) (qbH (xmv 1) (xmv 2) (qcI a.units)))) qQ)))
  (qG (qU (cy qbi B.z_tuple (qA (qZ rfl (T:=["thing"]) (keep:=[1]) ⟨rfl,by decide+kernel,(kc "numbers" (List.forall_mem_nil _))⟩ rfl (qd (xmv 0)) (fun _ _ _=>⟨(qO 0 (show List.Nodup (["thing","numbers"]:List Str) by decide+kernel) rfl (by first|exact Or.inl rfl|exact Or.inr rfl)),qaE,(jx a (xmv 1) (xmv 0))⟩)) qN))))))
noncomputable abbrev qc0:Stmt:=top 14
noncomputable def qdb:FS:=(mSeq (mAsg (m2 (b2 gMod) (m2 (b2 gAdd) (m2 (b2 gAdd) (m2 (b2 gMul) (mV 1) (mC (D.int (1000003)))) (m2 (b2 gMod) (mV 4) (m2 (b2 gPow) (mC (D.int (10))) (mC (D.int (30)))))) (m2 (b2 gMul) (mC (D.int (31))) (mV 3))) (mC (D.int (2305843009213693951)))) (gN 1))
  (mIfS (mB (m2 (b2 (gCmp fun i j=>decide (j<=i))) (mN (b1 gAbs) (qaa (mV 4) mNil)) (m2 (b2 gPow) (mC (D.int (10))) (mC (D.int (18)))))) (qcg (mMt (b2 gApp) (mV 2) (qaa (m2 (b2 gMod) (mN (b1 gAbs) (qaa (mV 4) mNil)) (m2 (b2 gMul) (m2 (b2 gPow) (mC (D.int (10))) (mC (D.int (60)))) (m2 (b2 gPow) (mC (D.int (10))) (mC (D.int (30)))))) mNil))) mNx))
noncomputable def qet:FS:=(mSeq (mAsg (mTup (qaa (m2 (b2 gAdd) (mN (b1 gLen) (qaa (mV 0) mNil)) (mC (D.int (7)))) (qaa (mLst mNil) mNil))) (gT 2 (gCs (gN 1) (gCs (gN 2) gNl))))
  (mSeq (mFor (iEn (qaa (mSlX (mV 0) qix (qiw (mC (D.int (63))))) mNil)) (gT 2 (gCs (gN 3) (gCs (gN 4) gNl))) qdb)
  (mRet (mLst (qaa (mV 2) (qaa (mV 1) (qaa (mC (D.int (0))) mNil)))))))
noncomputable def qbg:FN:=fnB 5 qet
theorem qbm:qam ["_law_script","_law_seed","_law_own","_law_k","_law_cell"] ["_law_script"] (qac qc0):=⟨rfl,rfl,rfl,by decide+kernel,rfl,by decide+kernel,by decide+kernel⟩
theorem qf0 (X:K.In h)(G:h.Ns mainGlobals mg){f:Addr}(F:FnAt K "_law_hand" qc0 f)(B:Blt mg):
  Own P w K mg base 1 "_law_hand" 1 qbg:=xo X G F qbm (fun _ _ _ _ _ _ c a=>ln1 a fun _=>rfl) fun _ _ _ _ _ _ _ b=>
 (qF (qd3 1 2 rfl qbm.nd rfl rfl (by decide) rfl rfl (qA (qI qbu (cb qaV B.z_len (qA (xmv 0) qN)) qK) (qA (qaT qN) qN)))
  (qF (qW PassesOwn.never rfl (qb6 rfl B.z_enumerate (qA (qeD (xmv 0) qhm (qhl qK)) qN)) (qaD rfl (qad (gn 3 qbm.nd) (qad (gn 4 qbm.nd) qau))) (qF (sn 1 qbm.nd (qI qeA (qI qbu (qI qbu (qI qf1 (xmv 1) qK) (qI qeA (xmv 4) (qI qgT qK qK))) (qI qf1 qK (xmv 3))) qK))
  (qG (qV (ct o_ge (cb qr1 B.z_abs (qA (xmv 4) qN)) (qI qgT qK qK)) (qG (qa0 (qe PySem.F.slot_list_append PySem.F.type_list_append qex (xmv 2) (qA (qI qeA (cb qr1 B.z_abs (qA (xmv 4) qN)) (qI qf1 (qI qgT qK qK) (qI qgT qK qK))) qN)))) qQ))))
  (qG (qU (qaT (qA (xmv 2) (qA (xmv 1) (qA qK qN))))))))
noncomputable abbrev qcZ:Stmt:=top 15
noncomputable def qa9:FT:=(mAnd (mB (m2 (b2 gNe) (m2 (b2 gIxY) (mV 0) (mC (D.int (0)))) (mLst mNil))) (mB (m2 (b2 gEq) (m2 (b2 gIxY) (m2 (b2 gIxY) (mV 0) (mC (D.int (0)))) (mC (D.int (0)))) (mC (D.int (0))))))
noncomputable def qbt:FS:=(qcg (mMt (b2 gPop) (m2 (b2 gIxY) (mV 0) (mC (D.int (0)))) (qaa (mC (D.int (0))) mNil)))
noncomputable def qc4:FS:=(mSeq (whl qa9 qbt 100000)
  (mSeq (mIfS (mB (m2 (b2 gNe) (m2 (b2 gIxY) (mV 0) (mC (D.int (0)))) (mLst mNil))) (mSeq (mAsg (m2 (b2 gMod) (m2 (b2 gIxY) (m2 (b2 gIxY) (mV 0) (mC (D.int (0)))) (mC (D.int (0)))) (mV 1)) (gN 2))
  (mSeq (mAsg (m2 (b2 gDiv) (m2 (b2 gIxY) (m2 (b2 gIxY) (mV 0) (mC (D.int (0)))) (mC (D.int (0)))) (mV 1)) (gS (b3 qbS) (m2 (b2 gIxY) (mV 0) (mC (D.int (0)))) (mC (D.int (0)))))
  (mRet (mV 2)))) mNx)
  (mSeq (mAsg (m2 (b2 gAdd) (m2 (b2 gIxY) (mV 0) (mC (D.int (2)))) (mC (D.int (1)))) (gS (b3 qbS) (mV 0) (mC (D.int (2)))))
  (mSeq (mAsg (m2 (b2 gMod) (m2 (b2 gMul) (m2 (b2 gAdd) (m2 (b2 gAdd) (m2 (b2 gIxY) (mV 0) (mC (D.int (1)))) (m2 (b2 gMul) (m2 (b2 gMul) (mC (D.int (65537))) (m2 (b2 gIxY) (mV 0) (mC (D.int (2))))) (m2 (b2 gIxY) (mV 0) (mC (D.int (2)))))) (mC (D.int (11)))) (mC (D.int (48271)))) (mC (D.int (2305843009213693921)))) (gN 3))
  (mSeq (mAsg (m2 (b2 gMod) (m2 (b2 gMul) (mV 3) (m2 (b2 gAdd) (m2 (b2 gMod) (mV 3) (mC (D.int (1000003)))) (m2 (b2 gMul) (mC (D.int (99991))) (m2 (b2 gIxY) (mV 0) (mC (D.int (2))))))) (mC (D.int (2305843009213693907)))) (gN 3))
  (mRet (m2 (b2 gMod) (m2 (b2 gAdd) (m2 (b2 gDiv) (mV 3) (mC (D.int (97)))) (m2 (b2 gDiv) (mV 3) (mC (D.int (1000033))))) (mV 1))))))))
noncomputable def qae:FN:=fnB 4 qc4
theorem qbF:qam ["_law_hand_here","_law_many","_law_digit","_law_mixed"] ["_law_hand_here","_law_many"] (qac qcZ):=⟨rfl,rfl,rfl,by decide+kernel,rfl,by decide+kernel,by decide+kernel⟩
theorem qfY (X:K.In h)(G:h.Ns mainGlobals mg){f:Addr}(F:FnAt K "_law_take" qcZ f)(B:Blt mg):
  Own P w K mg base 1 "_law_take" 2 qae:=xo X G F qbF (fun _ _ _ _ _ _ c b=>ln2 b fun _ _=>rfl) fun _ _ _ _ _ _ _ a=>
 (qF (qci 100000 PassesOwn.never (qih (qng (ct (o_ne a.units) (jx a (xmv 0) qK) (qaT qN)) (qkU (ct (o_eq a.units) (jx a (jx a (xmv 0) qK) qK) qK)))) (qG (qa0 (qe PySem.F.slot_list_pop PySem.F.type_list_pop qpJ (jx a (xmv 0) qK) (qA qK qN)))))
  (qF (qV (ct (o_ne a.units) (jx a (xmv 0) qK) (qaT qN)) (qF (sn 2 qbF.nd (qI qeA (jx a (jx a (xmv 0) qK) qK) (xmv 1)))
  (qF (qR (qI qjQ (jx a (jx a (xmv 0) qK) qK) (xmv 1)) (qbH (jx a (xmv 0) qK) qK (qcI a.units)))
  (qG (qU (xmv 2))))) qQ)
  (qF (qR (qI qbu (jx a (xmv 0) qK) qK) (qbH (xmv 0) qK (qcI a.units)))
  (qF (sn 3 qbF.nd (qI qeA (qI qf1 (qI qbu (qI qbu (jx a (xmv 0) qK) (qI qf1 (qI qf1 qK (jx a (xmv 0) qK)) (jx a (xmv 0) qK))) qK) qK) qK))
  (qF (sn 3 qbF.nd (qI qeA (qI qf1 (xmv 3) (qI qbu (qI qeA (xmv 3) qK) (qI qf1 qK (jx a (xmv 0) qK)))) qK))
  (qG (qU (qI qeA (qI qbu (qI qjQ (xmv 3) qK) (qI qjQ (xmv 3) qK)) (xmv 1)))))))))
noncomputable abbrev qb9:Stmt:=top 17
noncomputable def qdi:FS:=(mSeq (mIfS (mOr (mB (m2 (b2 (gCmp fun i j=>decide (j<i))) (mN (b1 gLen) (qaa (m2 (b2 gIxY) (mV 0) (mV 1)) mNil)) (m2 (b2 gSub) (mC (D.int (3))) (mN (b1 gInt) (qaa (m2 (b2 gEq) (mV 1) (mV 2)) mNil))))) (mB (m2 (b2 (gCmp fun i j=>decide (j<i))) (mN (b1 gLen) (qaa (m2 (b2 gIxY) (mV 0) (mV 2)) mNil)) (mC (D.int (3)))))) (mRet (mV 3)) mNx)
  (mSeq (qcg (mMt (b2 gApp) (m2 (b2 gIxY) (mV 0) (mV 1)) (qaa (mTup (qaa (mV 3) (qaa (mC (D.int (0))) mNil))) mNil)))
  (mSeq (qcg (mMt (b2 gApp) (m2 (b2 gIxY) (mV 0) (mV 2)) (qaa (mTup (qaa (mV 3) (qaa (mC (D.int (1))) mNil))) mNil)))
  (mRet (m2 (b2 gAdd) (mV 3) (mC (D.int (1))))))))
noncomputable def qaI:FN:=fnB 4 qdi
theorem qey:qam ["_law_ends","_law_one","_law_other","_law_edge"] ["_law_ends","_law_one","_law_other","_law_edge"] (qac qb9):=⟨rfl,rfl,rfl,by decide+kernel,rfl,by decide+kernel,by decide+kernel⟩
theorem qez (X:K.In h)(G:h.Ns mainGlobals mg){f:Addr}(F:FnAt K "_law_joined" qb9 f)(B:Blt mg):
  Own P w K mg base 1 "_law_joined" 4 qaI:=xo X G F qey (fun _ _ _ _ _ _ c b=>ln4 b fun _ _ _ _=>rfl) fun _ _ _ _ _ _ _ a=>
 (qF (qV (qih (qfE (ct o_gt (cb qaV B.z_len (qA (jx a (xmv 0) (xmv 1)) qN)) (qI qn9 qK (cy qts B.z_int (qA (ce (o_eq a.units) (xmv 1) (xmv 2)) qN)))) (qd2 (ct o_gt (cb qaV B.z_len (qA (jx a (xmv 0) (xmv 2)) qN)) qK)))) (qG (qU (xmv 3))) qQ)
  (qF (qa0 (qe PySem.F.slot_list_append PySem.F.type_list_append qex (jx a (xmv 0) (xmv 1)) (qA (qai (qA (xmv 3) (qA qK qN))) qN)))
  (qF (qa0 (qe PySem.F.slot_list_append PySem.F.type_list_append qex (jx a (xmv 0) (xmv 2)) (qA (qai (qA (xmv 3) (qA qK qN))) qN)))
  (qG (qU (qI qbu (xmv 3) qK))))))
noncomputable abbrev qcn:Stmt:=top 21
noncomputable def qdL:FS:=(mRet (mN (b1 gTup) (qaa (qbD 1 [0] (iR1 (qaa (mV 0) mNil)) (gN 0) qb3 (qbh (mTup (qaa (mTup (qaa (m2 (b2 gMod) (m2 (b2 gAdd) (mV 0) (mC (D.int (1)))) (mV 1)) (qaa (mC (D.int (1))) mNil))) (qaa (mTup (qaa (m2 (b2 gMod) (m2 (b2 gSub) (m2 (b2 gAdd) (mV 0) (mV 1)) (mC (D.int (1)))) (mV 1)) (qaa (mC (D.int (0))) mNil))) mNil))))) mNil)))
noncomputable def qbo:FN:=fnB 1 qdL
theorem qe6:qam ["_law_many"] ["_law_many"] (qac qcn):=⟨rfl,rfl,rfl,by decide+kernel,rfl,by decide+kernel,by decide+kernel⟩
theorem qfi (X:K.In h)(G:h.Ns mainGlobals mg){f:Addr}(F:FnAt K "_law_round" qcn f)(B:Blt mg):
  Own P w K mg base 1 "_law_round" 1 qbo:=xo X G F qe6 (fun _ _ _ _ _ _ c a=>ln1 a fun _=>rfl) fun _ _ _ _ _ _ _ b=>
 (qG (qU (cy qbi B.z_tuple (qA (qZ rfl (T:=["_law_room"]) (keep:=[0]) ⟨rfl,by decide+kernel,(kc "_law_many" (List.forall_mem_nil _))⟩ rfl (qar rfl B.z_range (qA (xmv 0) qN)) (fun _ _ _=>⟨(qO 0 (show List.Nodup (["_law_room","_law_many"]:List Str) by decide+kernel) rfl (by first|exact Or.inl rfl|exact Or.inr rfl)),qaE,(qai (qA (qai (qA (qI qeA (qI qbu (xmv 0) qK) (xmv 1)) (qA qK qN))) (qA (qai (qA (qI qeA (qI qn9 (qI qbu (xmv 0) (xmv 1)) qK) (xmv 1)) (qA qK qN))) qN)))⟩)) qN))))
noncomputable abbrev qck:Stmt:=top 26
noncomputable def qcK:FS:=(qcg (mMt (b2 gApp) (mV 4) (qaa (mIf (mB (m2 (b2 gNe) (mV 6) (mV 8))) (mC (D.int (1))) (m2 (b2 gAdd) (mC (D.int (1))) (m2 (b2 gIxY) (mV 1) (mTup (qaa (mV 5) (qaa (mV 7) mNil)))))) mNil)))
noncomputable def qdI:FS:=(mSeq (mAsg (mLst mNil) (gN 4))
  (mSeq (mFor (iZp (qaa (m2 (b2 gIxY) (mV 0) (mV 2)) (qaa (m2 (b2 gIxY) (mV 0) (mV 3)) mNil))) (gT 2 (gCs (gT 2 (gCs (gN 5) (gCs (gN 6) gNl))) (gCs (gT 2 (gCs (gN 7) (gCs (gN 8) gNl))) gNl))) qcK)
  (mRet (mV 4))))
noncomputable def qaN:FN:=fnB 9 qdI
theorem qaP:qam ["_law_web_here","_law_far_here","_law_one","_law_other","_law_steps_here","_law_there","_law_back","_law_beside","_law_also"] ["_law_web_here","_law_far_here","_law_one","_law_other"] (qac qck):=⟨rfl,rfl,rfl,by decide+kernel,rfl,by decide+kernel,by decide+kernel⟩
theorem qff (X:K.In h)(G:h.Ns mainGlobals mg){f:Addr}(F:FnAt K "_law_steps" qck f)(B:Blt mg):
  Own P w K mg base 1 "_law_steps" 4 qaN:=xo X G F qaP (fun _ _ _ _ _ _ c b=>ln4 b fun _ _ _ _=>rfl) fun _ _ _ _ _ _ _ a=>
 (qF (sn 4 qaP.nd (qaT qN))
  (qF (qW PassesOwn.never rfl (qiZ rfl B.z_zip (qA (jx a (xmv 0) (xmv 2)) (qA (jx a (xmv 0) (xmv 3)) qN))) (qaD rfl (qad (qaD rfl (qad (gn 5 qaP.nd) (qad (gn 6 qaP.nd) qau))) (qad (qaD rfl (qad (gn 7 qaP.nd) (qad (gn 8 qaP.nd) qau))) qau))) (qG (qa0 (qe PySem.F.slot_list_append PySem.F.type_list_append qex (xmv 4) (qA (qpu (ct (o_ne a.units) (xmv 6) (xmv 8)) qK (qI qbu qK (jx a (xmv 1) (qai (qA (xmv 5) (qA (xmv 7) qN)))))) qN)))))
  (qG (qU (xmv 4)))))
noncomputable abbrev qjo:Stmt:=top 4
noncomputable def qm9:FS:=(mSeq (mAsg (mTup (qaa (mC (D.int (0))) (qaa (mN (b1 gLen) (qaa (m2 (b2 gIxY) (mV 0) (mV 2)) mNil)) (qaa (m2 (b2 gIxY) (mV 1) (mV 2)) mNil)))) (gN 4))
  (mSeq (mAsg (qbD 2 [0,1] (iSeq (mN (qaf 3 qdu) (qaa (mV 0) (qaa (mV 2) (qaa (mV 3) mNil))))) (gT 2 (gCs (gN 0) (gCs (gN 1) gNl))) qb3 (qbh (mTup (qaa (m2 (b2 gAdd) (mC (D.int (1))) (mV 1)) (qaa (mN (b1 gLen) (qaa (m2 (b2 gIxY) (mV 2) (mV 0)) mNil)) (qaa (m2 (b2 gIxY) (mV 3) (mV 0)) mNil)))))) (gN 5))
  (mRet (m2 (b2 gAdd) (mTup (qaa (mV 4) mNil)) (mN (b1 gTup) (qaa (mV 5) mNil))))))
noncomputable def qdd:FN:=fnB 6 qm9
theorem qgG:qam ["web","signs","room","walk","first","behind"] ["web","signs","room","walk"] (qac qjo):=⟨rfl,rfl,rfl,by decide+kernel,rfl,by decide+kernel,by decide+kernel⟩
theorem qn7 (X:K.In h)(G:h.Ns mainGlobals mg){f:Addr}(F:FnAt K "seen" qjo f)(B:Blt mg)(b:Own P w K mg base 1 "stops" 3 qdu):
  Own P w K mg base 2 "seen" 4 qdd:=xo X G F qgG (fun _ _ _ _ _ _ d c=>ln4 c fun _ _ _ _=>rfl) fun _ _ _ _ _ _ _ a=>
 (qF (sn 4 qgG.nd (qai (qA qK (qA (cb qaV B.z_len (qA (jx a (xmv 0) (xmv 2)) qN)) (qA (jx a (xmv 1) (xmv 2)) qN)))))
  (qF (qbU 5 rfl (T:=["there","back"]) (keep:=[0,1]) ⟨rfl,by decide+kernel,(kc "web" (kc "signs" (List.forall_mem_nil _)))⟩ rfl (qd (wo b a (qA (xmv 0) (qA (xmv 2) (qA (xmv 3) qN))))) (fun _ _ _=>⟨(qaD rfl (qad (qO 0 (show List.Nodup (["there","back","web","signs"]:List Str) by decide+kernel) rfl (by first|exact Or.inl rfl|exact Or.inr rfl)) (qad (qO 1 (show List.Nodup (["there","back","web","signs"]:List Str) by decide+kernel) rfl (by first|exact Or.inl rfl|exact Or.inr rfl)) qau))),qaE,(qai (qA (qI qbu qK (xmv 1)) (qA (cb qaV B.z_len (qA (jx a (xmv 2) (xmv 0)) qN)) (qA (jx a (xmv 3) (xmv 0)) qN))))⟩) qgG.nd rfl (by first|exact Or.inl rfl|exact Or.inr rfl))
  (qG (qU (qI qbu (qai (qA (xmv 4) qN)) (cy qbi B.z_tuple (qA (xmv 5) qN)))))))
noncomputable abbrev qd7:Stmt:=top 7
noncomputable def qed:FT:=(mB (m2 (b2 gNe) (mV 4) (mV 3)))
noncomputable def qec:FS:=(mSeq (mAsg (mV 4) (gN 3))
  (mAsg (mFnV 2 "numbered" (qaf 1 qbf) (qaa (mN (qaf 3 qc1) (qaa (mV 0) (qaa (mV 1) (qaa (mV 3) mNil)))) mNil)) (gN 4)))
noncomputable def qgu:FS:=(mSeq (mAsg (mN (b1 gTup) (qaa (qbD 1 [] (iSeq (mV 0)) (gN 0) qb3 (qbh (mC (D.int (0))))) mNil)) (gN 3))
  (mSeq (mAsg (mFnV 2 "numbered" (qaf 1 qbf) (qaa (mN (qaf 3 qc1) (qaa (mV 0) (qaa (mV 1) (qaa (mV 3) mNil)))) mNil)) (gN 4))
  (mSeq (whl qed qec 100000)
  (mRet (mV 3)))))
noncomputable def qcw:FN:=fnB 5 qgu
theorem qbW:qam ["web","signs","numbering","colours","finer"] ["web","signs","numbering"] (qac qd7):=⟨rfl,rfl,rfl,by decide+kernel,rfl,by decide+kernel,by decide+kernel⟩
theorem qiu (X:K.In h)(G:h.Ns mainGlobals mg){f:Addr}(F:FnAt K "refined" qd7 f)(B:Blt mg)(o1:Own P w K mg base 1 "looks" 3 qc1)(o2:Own P w K mg base 1 "numbered" 1 qbf):
  Own P w K mg base 2 "refined" 3 qcw:=xo X G F qbW (fun _ _ _ _ _ _ c b=>ln3 b fun _ _ _=>rfl) fun _ _ _ _ _ _ _ a=>
 (qF (sn 3 qbW.nd (cy qbi B.z_tuple (qA (qZ rfl (T:=["room"]) (keep:=[]) ⟨rfl,by decide+kernel,(List.forall_mem_nil _)⟩ rfl (qd (xmv 0)) (fun _ _ _=>⟨(qO 0 (show List.Nodup (["room"]:List Str) by decide+kernel) rfl (by first|exact Or.inl rfl|exact Or.inr rfl)),qaE,qK⟩)) qN)))
  (qF (sn 4 qbW.nd (qfF 2 o2 a (by first|decide|omega) rfl (by first|exact Or.inl rfl|exact Or.inr rfl) (qA (wo o1 a (qA (xmv 0) (qA (xmv 1) (qA (xmv 3) qN)))) qN)))
  (qF (qci 100000 PassesOwn.never (ct (o_ne a.units) (xmv 4) (xmv 3)) (qF (sn 3 qbW.nd (xmv 4))
  (qG (sn 4 qbW.nd (qfF 2 o2 a (by first|decide|omega) rfl (by first|exact Or.inl rfl|exact Or.inr rfl) (qA (wo o1 a (qA (xmv 0) (qA (xmv 1) (qA (xmv 3) qN)))) qN))))))
  (qG (qU (xmv 3))))))
noncomputable abbrev qd8:Stmt:=top 16
noncomputable def qgv:FS:=(mRet (m2 (b2 gIxY) (mV 1) (mN (qaf 2 qae) (qaa (mV 0) (qaa (mN (b1 gLen) (qaa (mV 1) mNil)) mNil)))))
noncomputable def qbb:FN:=fnB 2 qgv
theorem qip:qam ["_law_hand_here","_law_some"] ["_law_hand_here","_law_some"] (qac qd8):=⟨rfl,rfl,rfl,by decide+kernel,rfl,by decide+kernel,by decide+kernel⟩
theorem qiv (X:K.In h)(G:h.Ns mainGlobals mg){f:Addr}(F:FnAt K "_law_of" qd8 f)(B:Blt mg)(o3:Own P w K mg base 1 "_law_take" 2 qae):
  Own P w K mg base 2 "_law_of" 2 qbb:=xo X G F qip (fun _ _ _ _ _ _ c b=>ln2 b fun _ _=>rfl) fun _ _ _ _ _ _ _ a=>
 (qG (qU (jx a (xmv 1) (wo o3 a (qA (xmv 0) (qA (cb qaV B.z_len (qA (xmv 1) qN)) qN))))))
noncomputable abbrev qcp:Stmt:=top 19
noncomputable def qdN:FS:=(mSeq (mAsg (mN (b1 gLst) (qaa (mV 1) mNil)) (gN 2))
  (mRet (qbD 1 [2,0] (iR1 (qaa (mN (b1 gLen) (qaa (mV 1) mNil)) mNil)) (gN 0) qb3 (qbh (mMt (b2 gPop) (mV 1) (qaa (mN (qaf 2 qae) (qaa (mV 2) (qaa (mN (b1 gLen) (qaa (mV 1) mNil)) mNil))) mNil))))))
noncomputable def qaF:FN:=fnB 3 qdN
theorem qc9:qam ["_law_hand_here","_law_some","_law_left"] ["_law_hand_here","_law_some"] (qac qcp):=⟨rfl,rfl,rfl,by decide+kernel,rfl,by decide+kernel,by decide+kernel⟩
theorem qfk (X:K.In h)(G:h.Ns mainGlobals mg){f:Addr}(F:FnAt K "_law_order" qcp f)(B:Blt mg)(o3:Own P w K mg base 1 "_law_take" 2 qae):
  Own P w K mg base 2 "_law_order" 2 qaF:=xo X G F qc9 (fun _ _ _ _ _ _ c a=>ln2 a fun _ _=>rfl) fun _ _ _ _ _ _ _ b=>
 (qF (sn 2 qc9.nd (cy qm8 B.z_list (qA (xmv 1) qN)))
  (qG (qU (qZ rfl (T:=["_law_k"]) (keep:=[2,0]) ⟨rfl,by decide+kernel,(kc "_law_left" (kc "_law_hand_here" (List.forall_mem_nil _)))⟩ rfl (qar rfl B.z_range (qA (cb qaV B.z_len (qA (xmv 1) qN)) qN)) (fun _ _ _=>⟨(qO 0 (show List.Nodup (["_law_k","_law_left","_law_hand_here"]:List Str) by decide+kernel) rfl (by first|exact Or.inl rfl|exact Or.inr rfl)),qaE,(qe PySem.F.slot_list_pop PySem.F.type_list_pop qpJ (xmv 1) (qA (wo o3 b (qA (xmv 2) (qA (cb qaV B.z_len (qA (xmv 1) qN)) qN))) qN))⟩)))))
noncomputable abbrev qdr:Stmt:=top 27
noncomputable def qdE:FS:=(mAsg (mC (D.int (99))) (gS (b3 qbS) (mV 2) (mTup (qaa (mV 3) (qaa (mV 4) mNil)))))
noncomputable def qdD:FS:=(mFor (iR1 (qaa (mN (b1 gLen) (qaa (mV 0) mNil)) mNil)) (gN 4) qdE)
noncomputable def qcu:FS:=(mIfS (mOr (mB (m2 (b2 gNe) (mN (b1 gLen) (qaa (m2 (b2 gIxY) (mV 0) (mV 3)) mNil)) (mN (b1 gLen) (qaa (m2 (b2 gIxY) (mV 0) (mV 4)) mNil)))) (mB (m2 (b2 gNe) (m2 (b2 gIxY) (mV 1) (mV 3)) (m2 (b2 gIxY) (mV 1) (mV 4))))) (mAsg (mC (D.int (0))) (gS (b3 qbS) (mV 2) (mTup (qaa (mV 3) (qaa (mV 4) mNil))))) (mAsg (mN (b1 qki) (qaa (m2 (b2 gAdd) (mLst (qaa (mC (D.int (99))) mNil)) (mN (qaf 4 qaN) (qaa (mV 0) (qaa (mV 2) (qaa (mV 3) (qaa (mV 4) mNil)))))) mNil)) (gS (b3 qbS) (mV 2) (mTup (qaa (mV 3) (qaa (mV 4) mNil))))))
noncomputable def qct:FS:=(mFor (iSeq (mN (b1 qg9) (qaa (mV 2) mNil))) (gT 2 (gCs (gN 3) (gCs (gN 4) gNl))) qcu)
noncomputable def qeU:FS:=(mSeq (mAsg qf5 (gN 2))
  (mSeq (mFor (iR1 (qaa (mN (b1 gLen) (qaa (mV 0) mNil)) mNil)) (gN 3) qdD)
  (mSeq (mFor (iR1 (qaa (mC (D.int (9))) mNil)) (gN 5) qct)
  (mRet (mV 2)))))
noncomputable def qb2:FN:=fnB 6 qeU
theorem qa2:qam ["_law_web_here","_law_signs_here","_law_far_here","_law_one","_law_other","_law_turn"] ["_law_web_here","_law_signs_here"] (qac qdr):=⟨rfl,rfl,rfl,by decide+kernel,rfl,by decide+kernel,by decide+kernel⟩
theorem qgS (X:K.In h)(G:h.Ns mainGlobals mg){f:Addr}(F:FnAt K "_law_far" qdr f)(B:Blt mg)(b:Own P w K mg base 1 "_law_steps" 4 qaN):
  Own P w K mg base 2 "_law_far" 2 qb2:=xo X G F qa2 (fun _ _ _ _ _ _ d c=>ln2 c fun _ _=>rfl) fun _ _ _ _ _ _ _ a=>
 (qF (sn 2 qa2.nd qdS)
  (qF (qW PassesOwn.never rfl (qar rfl B.z_range (qA (cb qaV B.z_len (qA (xmv 0) qN)) qN)) (gn 3 qa2.nd) (qG (qW PassesOwn.never rfl (qar rfl B.z_range (qA (cb qaV B.z_len (qA (xmv 0) qN)) qN)) (gn 4 qa2.nd) (qG (qR qK (qbH (xmv 2) (qai (qA (xmv 3) (qA (xmv 4) qN))) (qcI a.units)))))))
  (qF (qW PassesOwn.never rfl (qar rfl B.z_range (qA qK qN)) (gn 5 qa2.nd) (qG (qW PassesOwn.never rfl (qd (cy (qpf rfl) B.z_list (qA (xmv 2) qN))) (qaD rfl (qad (gn 3 qa2.nd) (qad (gn 4 qa2.nd) qau))) (qG (qV (qih (qfE (ct (o_ne a.units) (cb qaV B.z_len (qA (jx a (xmv 0) (xmv 3)) qN)) (cb qaV B.z_len (qA (jx a (xmv 0) (xmv 4)) qN))) (qd2 (ct (o_ne a.units) (jx a (xmv 1) (xmv 3)) (jx a (xmv 1) (xmv 4)))))) (qG (qR qK (qbH (xmv 2) (qai (qA (xmv 3) (qA (xmv 4) qN))) (qcI a.units)))) (qG (qR (cb (qrX rfl) B.z_min (qA (qI qbu (qaT (qA qK qN)) (wo b a (qA (xmv 0) (qA (xmv 2) (qA (xmv 3) (qA (xmv 4) qN)))))) qN)) (qbH (xmv 2) (qai (qA (xmv 3) (qA (xmv 4) qN))) (qcI a.units)))))))))
  (qG (qU (xmv 2))))))
noncomputable abbrev qcY:Stmt:=top 28
noncomputable def qbs:FT:=(mB (m2 (b2 (gCmp fun i j=>decide (j<i))) (m2 (b2 gIxY) (mV 1) (mTup (qaa (mV 2) (qaa (mV 3) mNil)))) (mC (D.int (0)))))
noncomputable def qbr:FS:=(mSeq (mAsg (mMt (b2 gIdx) (mN (qaf 4 qaN) (qaa (mV 0) (qaa (mV 1) (qaa (mV 2) (qaa (mV 3) mNil))))) (qaa (m2 (b2 gIxY) (mV 1) (mTup (qaa (mV 2) (qaa (mV 3) mNil)))) mNil)) (gN 5))
  (mSeq (mAsg (m2 (b2 gAdd) (mV 4) (mTup (qaa (mV 5) mNil))) (gN 4))
  (mSeq (mIfS (mB (m2 (b2 gNe) (m2 (b2 gIxY) (m2 (b2 gIxY) (m2 (b2 gIxY) (mV 0) (mV 2)) (mV 5)) (mC (D.int (1)))) (m2 (b2 gIxY) (m2 (b2 gIxY) (m2 (b2 gIxY) (mV 0) (mV 3)) (mV 5)) (mC (D.int (1)))))) (mRet (mV 4)) mNx)
  (mAsg (mTup (qaa (m2 (b2 gIxY) (m2 (b2 gIxY) (m2 (b2 gIxY) (mV 0) (mV 2)) (mV 5)) (mC (D.int (0)))) (qaa (m2 (b2 gIxY) (m2 (b2 gIxY) (m2 (b2 gIxY) (mV 0) (mV 3)) (mV 5)) (mC (D.int (0)))) mNil))) (gT 2 (gCs (gN 2) (gCs (gN 3) gNl)))))))
noncomputable def qes:FS:=(mSeq (mAsg (mTup mNil) (gN 4))
  (mSeq (whl qbs qbr 100000)
  (mRet (mV 4))))
noncomputable def qbC:FN:=fnB 6 qes
theorem qbl:qam ["_law_web_here","_law_far_here","_law_one","_law_other","_law_walk_here","_law_door"] ["_law_web_here","_law_far_here","_law_one","_law_other"] (qac qcY):=⟨rfl,rfl,rfl,by decide+kernel,rfl,by decide+kernel,by decide+kernel⟩
theorem qfX (X:K.In h)(G:h.Ns mainGlobals mg){f:Addr}(F:FnAt K "_law_walk" qcY f)(B:Blt mg)(b:Own P w K mg base 1 "_law_steps" 4 qaN):
  Own P w K mg base 2 "_law_walk" 4 qbC:=xo X G F qbl (fun _ _ _ _ _ _ d c=>ln4 c fun _ _ _ _=>rfl) fun _ _ _ _ _ _ _ a=>
 (qF (sn 4 qbl.nd (qai qN))
  (qF (qci 100000 PassesOwn.never (ct o_gt (jx a (xmv 1) (qai (qA (xmv 2) (qA (xmv 3) qN)))) qK) (qF (sn 5 qbl.nd (qe PySem.F.slot_list_index PySem.F.type_list_index (qnn a.units) (wo b a (qA (xmv 0) (qA (xmv 1) (qA (xmv 2) (qA (xmv 3) qN))))) (qA (jx a (xmv 1) (qai (qA (xmv 2) (qA (xmv 3) qN)))) qN)))
  (qF (sn 4 qbl.nd (qI qbu (xmv 4) (qai (qA (xmv 5) qN))))
  (qF (qV (ct (o_ne a.units) (jx a (jx a (jx a (xmv 0) (xmv 2)) (xmv 5)) qK) (jx a (jx a (jx a (xmv 0) (xmv 3)) (xmv 5)) qK)) (qG (qU (xmv 4))) qQ)
  (qG (qd3 2 3 rfl qbl.nd rfl rfl (by decide) rfl rfl (qA (jx a (jx a (jx a (xmv 0) (xmv 2)) (xmv 5)) qK) (qA (jx a (jx a (jx a (xmv 0) (xmv 3)) (xmv 5)) qK) qN))))))))
  (qG (qU (xmv 4)))))
noncomputable abbrev qcX:Stmt:=top 6
noncomputable def qer:FS:=(mRet (mN (qaf 3 qcw) (qaa (mV 0) (qaa (mV 1) (qaa (mC (D.fn "numbered")) mNil)))))
noncomputable def qbB:FN:=fnB 2 qer
theorem qfM:qam ["web","signs"] ["web","signs"] (qac qcX):=⟨rfl,rfl,rfl,by decide+kernel,rfl,by decide+kernel,by decide+kernel⟩
theorem qfW (X:K.In h)(G:h.Ns mainGlobals mg){f:Addr}(F:FnAt K "colouring" qcX f)(B:Blt mg)(b:Own P w K mg base 2 "refined" 3 qcw)(c:CGl K mg "numbered" (D.fn "numbered")):
  Own P w K mg base 3 "colouring" 2 qbB:=xo X G F qfM (fun _ _ _ _ _ _ e d=>ln2 d fun _ _=>rfl) fun _ _ _ _ _ _ _ a=>
 (qG (qU (wo b a (qA (xmv 0) (qA (xmv 1) (qA (qkZ c rfl) qN))))))
noncomputable abbrev qbJ:Stmt:=top 11
noncomputable def qcR:FS:=(mRet (m2 (b2 gNe) (mN (qaf 4 qdd) (qaa (mV 0) (qaa (mV 1) (qaa (mV 2) (qaa (mV 4) mNil))))) (mN (qaf 4 qdd) (qaa (mV 0) (qaa (mV 1) (qaa (mV 3) (qaa (mV 4) mNil)))))))
noncomputable def qaz:FN:=fnB 5 qcR
theorem qd6:qam ["web","signs","one","other","walk"] ["web","signs","one","other","walk"] (qac qbJ):=⟨rfl,rfl,rfl,by decide+kernel,rfl,by decide+kernel,by decide+kernel⟩
theorem qef (X:K.In h)(G:h.Ns mainGlobals mg){f:Addr}(F:FnAt K "looks_unlike" qbJ f)(B:Blt mg)(o6:Own P w K mg base 2 "seen" 4 qdd):
  Own P w K mg base 3 "looks_unlike" 5 qaz:=xo X G F qd6 (fun _ _ _ _ _ _ c b=>ln5 b fun _ _ _ _ _=>rfl) fun _ _ _ _ _ _ _ a=>
 (qG (qU (ce (o_ne a.units) (wo o6 a (qA (xmv 0) (qA (xmv 1) (qA (xmv 2) (qA (xmv 4) qN))))) (wo o6 a (qA (xmv 0) (qA (xmv 1) (qA (xmv 3) (qA (xmv 4) qN))))))))
noncomputable abbrev qcq:Stmt:=top 18
noncomputable def qbO:FS:=(mSeq (mAsg (qbD 1 [4] (iR1 (qaa (mV 5) mNil)) (gN 0) (mB (m2 (b2 gLt) (mN (b1 gLen) (qaa (m2 (b2 gIxY) (mV 1) (mV 0)) mNil)) (mC (D.int (4))))) (qbh (mV 0))) (gN 6))
  (mAsg (mN (qaf 4 qaI) (qaa (mV 4) (qaa (mN (qaf 2 qbb) (qaa (mV 0) (qaa (mV 6) mNil))) (qaa (mV 5) (qaa (mV 3) mNil))))) (gN 3)))
noncomputable def qbN:FS:=(mSeq (mAsg (mN (qaf 2 qae) (qaa (mV 0) (qaa (mV 2) mNil))) (gN 8))
  (mAsg (mN (qaf 4 qaI) (qaa (mV 4) (qaa (mV 8) (qaa (mN (qaf 2 qae) (qaa (mV 0) (qaa (mV 2) mNil))) (qaa (mV 3) mNil))))) (gN 3)))
noncomputable def qcL:FS:=(mAsg (mTup (qaa (mV 5) (qaa (mV 12) mNil))) (gS (b3 qbS) (mV 10) (mV 13)))
noncomputable def qbM:FS:=(mFor (iEn (qaa (mV 11) mNil)) (gT 2 (gCs (gN 12) (gCs (gN 13) gNl))) qcL)
noncomputable def qdO:FS:=(mSeq (mAsg (mTup (qaa (m2 (b2 gAdd) (mC (D.int (1))) (mN (qaf 2 qae) (qaa (mV 0) (qaa (mV 1) mNil)))) (qaa (mC (D.int (0))) mNil))) (gT 2 (gCs (gN 2) (gCs (gN 3) gNl))))
  (mSeq (mAsg (qbD 1 [] (iR1 (qaa (mV 2) mNil)) (gN 0) qb3 (qbh (mLst mNil))) (gN 4))
  (mSeq (mFor (iR2 (qaa (mC (D.int (1))) (qaa (mV 2) mNil))) (gN 5) qbO)
  (mSeq (mFor (iR1 (qaa (mN (qaf 2 qae) (qaa (mV 0) (qaa (mC (D.int (10))) mNil))) mNil)) (gN 7) qbN)
  (mSeq (mAsg (qbD 1 [0] (iSeq (mV 4)) (gN 0) qb3 (qbh (mN (qaf 2 qaF) (qaa (mV 1) (qaa (mV 0) mNil))))) (gN 9))
  (mSeq (mAsg qf5 (gN 10))
  (mSeq (mFor (iEn (qaa (mV 9) mNil)) (gT 2 (gCs (gN 5) (gCs (gN 11) gNl))) qbM)
  (mRet (mN (b1 gTup) (qaa (qbD 1 [10] (iSeq (mV 9)) (gN 0) qb3 (qbh (mN (b1 gTup) (qaa (qbD 2 [1] (iSeq (mV 0)) (gT 2 (gCs (gN 0) (gCs (gN 1) gNl))) qb3 (qbh (m2 (b2 gIxY) (mV 2) (mTup (qaa (mV 0) (qaa (m2 (b2 gSub) (mC (D.int (1))) (mV 1)) mNil)))))) mNil)))) mNil))))))))))
noncomputable def qaG:FN:=fnB 14 qdO
theorem qak:qam ["_law_hand_here","_law_most","_law_many","_law_edge","_law_ends","_law_room","_law_free","_law_k","_law_one","_law_doors","_law_places","_law_some","_law_door","_law_end"] ["_law_hand_here","_law_most"] (qac qcq):=⟨rfl,rfl,rfl,by decide+kernel,rfl,by decide+kernel,by decide+kernel⟩
theorem qfl (X:K.In h)(G:h.Ns mainGlobals mg){f:Addr}(F:FnAt K "_law_drawn" qcq f)(B:Blt mg)(b:Own P w K mg base 1 "_law_joined" 4 qaI)(e:Own P w K mg base 2 "_law_of" 2 qbb)(c:Own P w K mg base 2 "_law_order" 2 qaF)(o3:Own P w K mg base 1 "_law_take" 2 qae):
  Own P w K mg base 3 "_law_drawn" 2 qaG:=xo X G F qak (fun _ _ _ _ _ _ g d=>ln2 d fun _ _=>rfl) fun _ _ _ _ _ _ _ a=>
 (qF (qd3 2 3 rfl qak.nd rfl rfl (by decide) rfl rfl (qA (qI qbu qK (wo o3 a (qA (xmv 0) (qA (xmv 1) qN)))) (qA qK qN)))
  (qF (sn 4 qak.nd (qZ rfl (T:=["_law_room"]) (keep:=[]) ⟨rfl,by decide+kernel,(List.forall_mem_nil _)⟩ rfl (qar rfl B.z_range (qA (xmv 2) qN)) (fun _ _ _=>⟨(qO 0 (show List.Nodup (["_law_room"]:List Str) by decide+kernel) rfl (by first|exact Or.inl rfl|exact Or.inr rfl)),qaE,(qaT qN)⟩)))
  (qF (qW PassesOwn.never rfl (qii rfl B.z_range (qA qK (qA (xmv 2) qN))) (gn 5 qak.nd) (qF (qbU 6 rfl (T:=["_law_one"]) (keep:=[4]) ⟨rfl,by decide+kernel,(kc "_law_ends" (List.forall_mem_nil _))⟩ rfl (qar rfl B.z_range (qA (xmv 5) qN)) (fun _ _ _=>⟨(qO 0 (show List.Nodup (["_law_one","_law_ends"]:List Str) by decide+kernel) rfl (by first|exact Or.inl rfl|exact Or.inr rfl)),(qkW (ct (qgU a.units) (cb qaV B.z_len (qA (jx a (xmv 1) (xmv 0)) qN)) qK)),(xmv 0)⟩) qak.nd rfl (by first|exact Or.inl rfl|exact Or.inr rfl))
  (qG (sn 3 qak.nd (wo b a (qA (xmv 4) (qA (wo e a (qA (xmv 0) (qA (xmv 6) qN))) (qA (xmv 5) (qA (xmv 3) qN)))))))))
  (qF (qW PassesOwn.never rfl (qar rfl B.z_range (qA (wo o3 a (qA (xmv 0) (qA qK qN))) qN)) (gn 7 qak.nd) (qF (sn 8 qak.nd (wo o3 a (qA (xmv 0) (qA (xmv 2) qN))))
  (qG (sn 3 qak.nd (wo b a (qA (xmv 4) (qA (xmv 8) (qA (wo o3 a (qA (xmv 0) (qA (xmv 2) qN))) (qA (xmv 3) qN)))))))))
  (qF (qbU 9 rfl (T:=["_law_some"]) (keep:=[0]) ⟨rfl,by decide+kernel,(kc "_law_hand_here" (List.forall_mem_nil _))⟩ rfl (qd (xmv 4)) (fun _ _ _=>⟨(qO 0 (show List.Nodup (["_law_some","_law_hand_here"]:List Str) by decide+kernel) rfl (by first|exact Or.inl rfl|exact Or.inr rfl)),qaE,(wo c a (qA (xmv 1) (qA (xmv 0) qN)))⟩) qak.nd rfl (by first|exact Or.inl rfl|exact Or.inr rfl))
  (qF (sn 10 qak.nd qdS)
  (qF (qW PassesOwn.never rfl (qb6 rfl B.z_enumerate (qA (xmv 9) qN)) (qaD rfl (qad (gn 5 qak.nd) (qad (gn 11 qak.nd) qau))) (qG (qW PassesOwn.never rfl (qb6 rfl B.z_enumerate (qA (xmv 11) qN)) (qaD rfl (qad (gn 12 qak.nd) (qad (gn 13 qak.nd) qau))) (qG (qR (qai (qA (xmv 5) (qA (xmv 12) qN))) (qbH (xmv 10) (xmv 13) (qcI a.units)))))))
  (qG (qU (cy qbi B.z_tuple (qA (qZ rfl (T:=["_law_some"]) (keep:=[10]) ⟨rfl,by decide+kernel,(kc "_law_places" (List.forall_mem_nil _))⟩ rfl (qd (xmv 9)) (fun _ _ _=>⟨(qO 0 (show List.Nodup (["_law_some","_law_places"]:List Str) by decide+kernel) rfl (by first|exact Or.inl rfl|exact Or.inr rfl)),qaE,(cy qbi B.z_tuple (qA (qZ rfl (T:=["_law_edge","_law_side"]) (keep:=[1]) ⟨rfl,by decide+kernel,(kc "_law_places" (List.forall_mem_nil _))⟩ rfl (qd (xmv 0)) (fun _ _ _=>⟨(qaD rfl (qad (qO 0 (show List.Nodup (["_law_edge","_law_side","_law_places"]:List Str) by decide+kernel) rfl (by first|exact Or.inl rfl|exact Or.inr rfl)) (qad (qO 1 (show List.Nodup (["_law_edge","_law_side","_law_places"]:List Str) by decide+kernel) rfl (by first|exact Or.inl rfl|exact Or.inr rfl)) qau))),qaE,(jx a (xmv 2) (qai (qA (xmv 0) (qA (qI qn9 qK (xmv 1)) qN))))⟩)) qN))⟩)) qN)))))))))))
noncomputable abbrev qcr:Stmt:=top 20
noncomputable def qbR:FS:=(mIfS (mB (m2 (b2 gLt) (mTup (qaa (mV 6) (qaa (mV 8) mNil))) (mV 9))) (mAsg (mN (qaf 2 qaF) (qaa (mV 0) (qaa (mLR1 (qaa (mV 2) mNil)) mNil))) (gS (b3 qbS) (mV 3) (mTup (qaa (mV 6) (qaa (mV 8) mNil))))) mNx)
noncomputable def qbQ:FS:=(mFor (iEn (qaa (mV 7) mNil)) (gT 2 (gCs (gN 8) (gCs (gN 9) gNl))) qbR)
noncomputable def qbP:FS:=(mSeq (mIfS (mB (m2 (b2 gLt) (mTup (qaa (mV 6) (qaa (mV 8) mNil))) (mV 9))) (mAsg (mTup (qaa (m2 (b2 gIxY) (mV 9) (mC (D.int (0)))) (qaa (m2 (b2 gIxY) (m2 (b2 gIxY) (mV 3) (mTup (qaa (mV 6) (qaa (mV 8) mNil)))) (mV 10)) mNil))) (gN 12)) (mAsg (mTup (qaa (m2 (b2 gIxY) (mV 9) (mC (D.int (0)))) (qaa (mMt (b2 gIdx) (m2 (b2 gIxY) (mV 3) (mV 9)) (qaa (mV 10) mNil)) mNil))) (gN 12)))
  (mSeq (mIfS (mB (m2 (b2 qbT) (mV 12) (mV 4))) (qcg (mMt (b2 gApp) (mV 4) (qaa (mV 12) mNil))) mNx)
  (qcg (mMt (b2 gApp) (mV 11) (qaa (mTup (qaa (mMt (b2 gIdx) (mV 4) (qaa (mV 12) mNil)) (qaa (m2 (b2 gIxY) (mV 9) (mC (D.int (1)))) mNil))) mNil)))))
noncomputable def qcN:FT:=(mB (m2 (b2 gLt) (mN (b1 gLen) (qaa (mV 5) mNil)) (mN (b1 gLen) (qaa (mV 4) mNil))))
noncomputable def qcM:FS:=(mSeq (mAsg (m2 (b2 gIxY) (mV 4) (mN (b1 gLen) (qaa (mV 5) mNil))) (gT 2 (gCs (gN 6) (gCs (gN 10) gNl))))
  (mSeq (mAsg (mLst mNil) (gN 11))
  (mSeq (mFor (iEn (qaa (m2 (b2 gIxY) (mV 1) (mV 6)) mNil)) (gT 2 (gCs (gN 8) (gCs (gN 9) gNl))) qbP)
  (qcg (mMt (b2 gApp) (mV 5) (qaa (mN (b1 gTup) (qaa (mV 11) mNil)) mNil))))))
noncomputable def qdP:FS:=(mSeq (mAsg (mTup (qaa qf5 (qaa (mLst (qaa (mTup (qaa (mC (D.int (0))) (qaa (mC (D.int (0))) mNil))) mNil)) (qaa (mLst mNil) mNil)))) (gT 3 (gCs (gN 3) (gCs (gN 4) (gCs (gN 5) gNl)))))
  (mSeq (mFor (iEn (qaa (mV 1) mNil)) (gT 2 (gCs (gN 6) (gCs (gN 7) gNl))) qbQ)
  (mSeq (whl qcN qcM 100000)
  (mRet (mTup (qaa (mN (b1 gTup) (qaa (mV 5) mNil)) (qaa (qbD 2 [] (iSeq (mV 4)) (gT 2 (gCs (gN 0) (gCs (gN 1) gNl))) qb3 (qbh (mV 0))) mNil)))))))
noncomputable def qaO:FN:=fnB 13 qdP
theorem qan:qam ["_law_hand_here","_law_web_here","_law_copies","_law_orders","_law_met","_law_rooms","_law_room","_law_doors","_law_door","_law_goal","_law_copy","_law_some","_law_above"] ["_law_hand_here","_law_web_here","_law_copies"] (qac qcr):=⟨rfl,rfl,rfl,by decide+kernel,rfl,by decide+kernel,by decide+kernel⟩
theorem qfm (X:K.In h)(G:h.Ns mainGlobals mg){f:Addr}(F:FnAt K "_law_cover" qcr f)(B:Blt mg)(b:Own P w K mg base 2 "_law_order" 2 qaF):
  Own P w K mg base 3 "_law_cover" 3 qaO:=xo X G F qan (fun _ _ _ _ _ _ d c=>ln3 c fun _ _ _=>rfl) fun _ _ _ _ _ _ _ a=>
 (qF (qkV 3 4 5 rfl qan.nd rfl rfl rfl (by decide) (by decide) (by decide) rfl rfl rfl (qA qdS (qA (qaT (qA (qai (qA qK (qA qK qN))) qN)) (qA (qaT qN) qN))))
  (qF (qW PassesOwn.never rfl (qb6 rfl B.z_enumerate (qA (xmv 1) qN)) (qaD rfl (qad (gn 6 qan.nd) (qad (gn 7 qan.nd) qau))) (qG (qW PassesOwn.never rfl (qb6 rfl B.z_enumerate (qA (xmv 7) qN)) (qaD rfl (qad (gn 8 qan.nd) (qad (gn 9 qan.nd) qau))) (qG (qV (ct (qgU a.units) (qai (qA (xmv 6) (qA (xmv 8) qN))) (xmv 9)) (qG (qR (wo b a (qA (xmv 0) (qA (qij rfl rfl B.z_range rfl B.z_list (qA (xmv 2) qN)) qN))) (qbH (xmv 3) (qai (qA (xmv 6) (qA (xmv 8) qN))) (qcI a.units)))) qQ)))))
  (qF (qci 100000 PassesOwn.never (ct (qgU a.units) (cb qaV B.z_len (qA (xmv 5) qN)) (cb qaV B.z_len (qA (xmv 4) qN))) (qF (qR (jx a (xmv 4) (cb qaV B.z_len (qA (xmv 5) qN))) (qaD rfl (qad (gn 6 qan.nd) (qad (gn 10 qan.nd) qau))))
  (qF (sn 11 qan.nd (qaT qN))
  (qF (qW PassesOwn.never rfl (qb6 rfl B.z_enumerate (qA (jx a (xmv 1) (xmv 6)) qN)) (qaD rfl (qad (gn 8 qan.nd) (qad (gn 9 qan.nd) qau))) (qF (qV (ct (qgU a.units) (qai (qA (xmv 6) (qA (xmv 8) qN))) (xmv 9)) (qG (sn 12 qan.nd (qai (qA (jx a (xmv 9) qK) (qA (jx a (jx a (xmv 3) (qai (qA (xmv 6) (qA (xmv 8) qN)))) (xmv 10)) qN))))) (qG (sn 12 qan.nd (qai (qA (jx a (xmv 9) qK) (qA (qe PySem.F.slot_list_index PySem.F.type_list_index (qnn a.units) (jx a (xmv 3) (xmv 9)) (qA (xmv 10) qN)) qN))))))
  (qF (qV (ct (qhG a.units) (xmv 12) (xmv 4) (by with_unfolding_all rfl)) (qG (qa0 (qe PySem.F.slot_list_append PySem.F.type_list_append qex (xmv 4) (qA (xmv 12) qN)))) qQ)
  (qG (qa0 (qe PySem.F.slot_list_append PySem.F.type_list_append qex (xmv 11) (qA (qai (qA (qe PySem.F.slot_list_index PySem.F.type_list_index (qnn a.units) (xmv 4) (qA (xmv 12) qN)) (qA (jx a (xmv 9) qK) qN))) qN)))))))
  (qG (qa0 (qe PySem.F.slot_list_append PySem.F.type_list_append qex (xmv 5) (qA (cy qbi B.z_tuple (qA (xmv 11) qN)) qN))))))))
  (qG (qU (qai (qA (cy qbi B.z_tuple (qA (xmv 5) qN)) (qA (qZ rfl (T:=["_law_room","_law_copy"]) (keep:=[]) ⟨rfl,by decide+kernel,(List.forall_mem_nil _)⟩ rfl (qd (xmv 4)) (fun _ _ _=>⟨(qaD rfl (qad (qO 0 (show List.Nodup (["_law_room","_law_copy"]:List Str) by decide+kernel) rfl (by first|exact Or.inl rfl|exact Or.inr rfl)) (qad (qO 1 (show List.Nodup (["_law_room","_law_copy"]:List Str) by decide+kernel) rfl (by first|exact Or.inl rfl|exact Or.inr rfl)) qau))),qaE,(xmv 0)⟩)) qN))))))))
noncomputable abbrev qcl:Stmt:=top 23
noncomputable def qdJ:FS:=(mSeq (mAsg (mN (qaf 2 qae) (qaa (mV 0) (qaa (mC (D.int (4))) mNil))) (gN 2))
  (mSeq (mAsg (m2 (b2 qkh) (mLst (qaa (mC (D.int (0))) mNil)) (mV 1)) (gN 3))
  (mSeq (mIfS (mB (m2 (b2 gEq) (mV 2) (mC (D.int (1))))) (mAsg (qbD 1 [0] (iR1 (qaa (mV 1) mNil)) (gN 0) qb3 (qbh (mN (qaf 2 qae) (qaa (mV 1) (qaa (mC (D.int (3))) mNil))))) (gN 3)) mNx)
  (mSeq (mIfS (mB (m2 (b2 gEq) (mV 2) (mC (D.int (2))))) (mAsg (mN (qaf 2 qbb) (qaa (mV 0) (qaa (mLst (qaa (mC (D.int (1))) (qaa (m1 (b1 gNeg) (mC (D.int (1)))) (qaa (m2 (b2 gPow) (mC (D.int (10))) (mC (D.int (30)))) mNil)))) mNil))) (gS (b3 qbS) (mV 3) (mN (qaf 2 qae) (qaa (mV 0) (qaa (mV 1) mNil))))) mNx)
  (mSeq (mIfS (mB (m2 (b2 gEq) (mV 2) (mC (D.int (3))))) (mAsg (qbD 1 [0] (iR1 (qaa (mV 1) mNil)) (gN 0) qb3 (qbh (mN (qaf 2 qbb) (qaa (mV 1) (qaa (mLst (qaa (mC (D.int (0))) (qaa (mC (D.int (2))) (qaa (m1 (b1 gNeg) (mC (D.int (3)))) (qaa (m2 (b2 gPow) (mC (D.int (10))) (mC (D.int (40)))) (qaa (m2 (b2 gAdd) (m2 (b2 gPow) (mC (D.int (10))) (mC (D.int (40)))) (mC (D.int (1)))) mNil)))))) mNil))))) (gN 3)) mNx)
  (mRet (mN (b1 gTup) (qaa (mV 3) mNil))))))))
noncomputable def qa7:FN:=fnB 4 qdJ
theorem qa8:qam ["_law_hand_here","_law_many","_law_way","_law_signs_here"] ["_law_hand_here","_law_many"] (qac qcl):=⟨rfl,rfl,rfl,by decide+kernel,rfl,by decide+kernel,by decide+kernel⟩
theorem qfg (X:K.In h)(G:h.Ns mainGlobals mg){f:Addr}(F:FnAt K "_law_signs" qcl f)(B:Blt mg)(b:Own P w K mg base 2 "_law_of" 2 qbb)(o3:Own P w K mg base 1 "_law_take" 2 qae):
  Own P w K mg base 3 "_law_signs" 2 qa7:=xo X G F qa8 (fun _ _ _ _ _ _ d c=>ln2 c fun _ _=>rfl) fun _ _ _ _ _ _ _ a=>
 (qF (sn 2 qa8.nd (wo o3 a (qA (xmv 0) (qA qK qN))))
  (qF (sn 3 qa8.nd (qI qqS (qaT (qA qK qN)) (xmv 1)))
  (qF (qV (ct (o_eq a.units) (xmv 2) qK) (qG (qbU 3 rfl (T:=["_law_room"]) (keep:=[0]) ⟨rfl,by decide+kernel,(kc "_law_hand_here" (List.forall_mem_nil _))⟩ rfl (qar rfl B.z_range (qA (xmv 1) qN)) (fun _ _ _=>⟨(qO 0 (show List.Nodup (["_law_room","_law_hand_here"]:List Str) by decide+kernel) rfl (by first|exact Or.inl rfl|exact Or.inr rfl)),qaE,(wo o3 a (qA (xmv 1) (qA qK qN)))⟩) qa8.nd rfl (by first|exact Or.inl rfl|exact Or.inr rfl))) qQ)
  (qF (qV (ct (o_eq a.units) (xmv 2) qK) (qG (qR (wo b a (qA (xmv 0) (qA (qaT (qA qK (qA (qml qqR qK) (qA (qI qgT qK qK) qN)))) qN))) (qbH (xmv 3) (wo o3 a (qA (xmv 0) (qA (xmv 1) qN))) (qcI a.units)))) qQ)
  (qF (qV (ct (o_eq a.units) (xmv 2) qK) (qG (qbU 3 rfl (T:=["_law_room"]) (keep:=[0]) ⟨rfl,by decide+kernel,(kc "_law_hand_here" (List.forall_mem_nil _))⟩ rfl (qar rfl B.z_range (qA (xmv 1) qN)) (fun _ _ _=>⟨(qO 0 (show List.Nodup (["_law_room","_law_hand_here"]:List Str) by decide+kernel) rfl (by first|exact Or.inl rfl|exact Or.inr rfl)),qaE,(wo b a (qA (xmv 1) (qA (qaT (qA qK (qA qK (qA (qml qqR qK) (qA (qI qgT qK qK) (qA (qI qbu (qI qgT qK qK) qK) qN)))))) qN)))⟩) qa8.nd rfl (by first|exact Or.inl rfl|exact Or.inr rfl))) qQ)
  (qG (qU (cy qbi B.z_tuple (qA (xmv 3) qN)))))))))
noncomputable abbrev qe7:Stmt:=top 10
noncomputable def qbZ:FS:=(mSeq (mIfS (mTr (mN (qaf 5 qaz) (qaa (mV 0) (qaa (mV 1) (qaa (mV 8) (qaa (mV 9) (qaa (mTup (qaa (mV 10) mNil)) mNil))))))) (mRet (m2 (b2 gAdd) (mV 7) (mTup (qaa (mV 10) mNil)))) mNx)
  (mSeq (mAsg (mTup (qaa (m2 (b2 gIxY) (m2 (b2 gIxY) (m2 (b2 gIxY) (mV 0) (mV 8)) (mV 10)) (mC (D.int (0)))) (qaa (m2 (b2 gIxY) (m2 (b2 gIxY) (m2 (b2 gIxY) (mV 0) (mV 9)) (mV 10)) (mC (D.int (0)))) mNil))) (gN 11))
  (mIfS (mB (m2 (b2 qel) (mV 11) (mV 5))) (mSeq (qcg (mMs (b2 qiJ) (mV 5) (qaa (mV 11) mNil)))
  (qcg (mMt (b2 gApp) (mV 4) (qaa (mTup (qaa (m2 (b2 gAdd) (mV 7) (mTup (qaa (mV 10) mNil))) (qaa (m2 (b2 gIxY) (mV 11) (mC (D.int (0)))) (qaa (m2 (b2 gIxY) (mV 11) (mC (D.int (1)))) mNil)))) mNil)))) mNx)))
noncomputable def qbY:FT:=(mB (m2 (b2 gLt) (mV 6) (mN (b1 gLen) (qaa (mV 4) mNil))))
noncomputable def qbe:FS:=(mSeq (mAsg (m2 (b2 gIxY) (mV 4) (mV 6)) (gT 3 (gCs (gN 7) (gCs (gN 8) (gCs (gN 9) gNl)))))
  (mSeq (mFor (iR1 (qaa (mN (b1 gLen) (qaa (m2 (b2 gIxY) (mV 0) (mV 8)) mNil)) mNil)) (gN 10) qbZ)
  (mAug 6 (b2 qo4) (mC (D.int (1))))))
noncomputable def qic:FS:=(mSeq (mIfS (mTr (mN (qaf 5 qaz) (qaa (mV 0) (qaa (mV 1) (qaa (mV 2) (qaa (mV 3) (qaa (mTup mNil) mNil))))))) (mRet (mTup mNil)) mNx)
  (mSeq (mAsg (mLst (qaa (mTup (qaa (mTup mNil) (qaa (mV 2) (qaa (mV 3) mNil)))) mNil)) (gN 4))
  (mSeq (mAsg (qlS (mTup (qaa (mV 2) (qaa (mV 3) mNil)))) (gN 5))
  (mSeq (mAsg (mC (D.int (0))) (gN 6))
  (mSeq (whl qbY qbe 100000)
  (mRet (mC D.non)))))))
noncomputable def qcD:FN:=fnB 12 qic
theorem qaX:qam ["web","signs","one","other","queue","known","at","walk","here","there","door","pair"] ["web","signs","one","other"] (qac qe7):=⟨rfl,rfl,rfl,by decide+kernel,rfl,by decide+kernel,by decide+kernel⟩
theorem qjN (X:K.In h)(G:h.Ns mainGlobals mg){f:Addr}(F:FnAt K "parted" qe7 f)(B:Blt mg)(b:Own P w K mg base 3 "looks_unlike" 5 qaz):
  Own P w K mg base 4 "parted" 4 qcD:=xoC X G F qaX (fun _ _ _ _ _ _ e d=>ln4 d fun _ _ _ _=>rfl) fun _ _ _ _ _ _ _ a c=>
 (qF (qV (qb5 (wo b a (qA (xmv 0) (qA (xmv 1) (qA (xmv 2) (qA (xmv 3) (qA (qai qN) qN))))))) (qG (qU (qai qN))) qQ)
  (qF (sn 4 qaX.nd (qaT (qA (qai (qA (qai qN) (qA (xmv 2) (qA (xmv 3) qN)))) qN)))
  (qF (sn 5 qaX.nd (qkX c a.units (qai (qA (xmv 2) (qA (xmv 3) qN)))))
  (qF (sn 6 qaX.nd qK)
  (qF (qci 100000 PassesOwn.never (ct (qgU a.units) (xmv 6) (cb qaV B.z_len (qA (xmv 4) qN))) (qF (qR (jx a (xmv 4) (xmv 6)) (qaD rfl (qad (gn 7 qaX.nd) (qad (gn 8 qaX.nd) (qad (gn 9 qaX.nd) qau)))))
  (qF (qW PassesOwn.never rfl (qar rfl B.z_range (qA (cb qaV B.z_len (qA (jx a (xmv 0) (xmv 8)) qN)) qN)) (gn 10 qaX.nd) (qF (qV (qb5 (wo b a (qA (xmv 0) (qA (xmv 1) (qA (xmv 8) (qA (xmv 9) (qA (qai (qA (xmv 10) qN)) qN))))))) (qG (qU (qI qbu (xmv 7) (qai (qA (xmv 10) qN))))) qQ)
  (qF (sn 11 qaX.nd (qai (qA (jx a (jx a (jx a (xmv 0) (xmv 8)) (xmv 10)) qK) (qA (jx a (jx a (jx a (xmv 0) (xmv 9)) (xmv 10)) qK) qN))))
  (qG (qV (ct (qlF a.units) (xmv 11) (xmv 5) (by with_unfolding_all rfl)) (qF (qa0 (qkY a.units (xmv 5) (qA (xmv 11) qN)))
  (qG (qa0 (qe PySem.F.slot_list_append PySem.F.type_list_append qex (xmv 4) (qA (qai (qA (qI qbu (xmv 7) (qai (qA (xmv 10) qN))) (qA (jx a (xmv 11) qK) (qA (jx a (xmv 11) qK) qN)))) qN))))) qQ)))))
  (qG (qnh 6 qaX.nd rfl (by first|exact Or.inl rfl|exact Or.inr rfl) qK qoT)))))
  (qG (qU qdl)))))))
noncomputable abbrev qbI:Stmt:=top 12
noncomputable def qcQ:FS:=(mSeq (mIfS (mOr (mNot (mTr (mIsT .tuple (mV 4)))) (mNot (mTr (mN (b1 gAll) (qaa (qbD 1 [] (iSeq (mV 4)) (gN 0) qb3 (qbh (qg3 (mN (qaf 1 qb0) (qaa (mV 0) mNil)) (m2 (b2 (gCmp fun i j=>decide (j<=i))) (mV 0) (mC (D.int (0))))))) mNil))))) (mRet (mC (D.bl false))) mNx)
  (mRet (mN (qaf 5 qaz) (qaa (mV 0) (qaa (mV 1) (qaa (mV 2) (qaa (mV 3) (qaa (mV 4) mNil))))))))
noncomputable def qaY:FN:=fnB 5 qcQ
theorem qd5:qam ["web","signs","one","other","thing"] ["web","signs","one","other","thing"] (qac qbI):=⟨rfl,rfl,rfl,by decide+kernel,rfl,by decide+kernel,by decide+kernel⟩
theorem qee (X:K.In h)(G:h.Ns mainGlobals mg){f:Addr}(F:FnAt K "shows_parted" qbI f)(B:Blt mg)(b:Own P w K mg base 1 "is_whole" 1 qb0)(a:Own P w K mg base 3 "looks_unlike" 5 qaz):
  Own P w K mg base 4 "shows_parted" 5 qaY:=xo X G F qd5 (fun _ _ _ _ _ _ e d=>ln5 d fun _ _ _ _ _=>rfl) fun _ _ _ _ _ _ _ c=>
 (qF (qV (qih (qfE (qcT (qb5 (qa6 .tuple rfl B.z_isinstance rfl B.z_tuple (by decide+kernel) (xmv 4)))) (qd2 (qcT (qb5 (cb (qr0 rfl) B.z_all (qA (qZ rfl (T:=["door"]) (keep:=[]) ⟨rfl,by decide+kernel,(List.forall_mem_nil _)⟩ rfl (qd (xmv 4)) (fun _ _ _=>⟨(qO 0 (show List.Nodup (["door"]:List Str) by decide+kernel) rfl (by first|exact Or.inl rfl|exact Or.inr rfl)),qaE,(qeW (wo b c (qA (xmv 0) qN)) (qgx (ce o_ge (xmv 0) qK)))⟩)) qN))))))) (qG (qU qcG)) qQ)
  (qG (qU (wo a c (qA (xmv 0) (qA (xmv 1) (qA (xmv 2) (qA (xmv 3) (qA (xmv 4) qN)))))))))
noncomputable abbrev qdq:Stmt:=top 22
noncomputable def qeT:FS:=(mSeq (mAsg (mN (qaf 2 qae) (qaa (mV 0) (qaa (mC (D.int (5))) mNil))) (gN 1))
  (mSeq (mIfS (mB (m2 (b2 gEq) (mV 1) (mC (D.int (0))))) (mRet (mN (qaf 1 qbo) (qaa (m2 (b2 gAdd) (mC (D.int (1))) (mN (qaf 2 qae) (qaa (mV 0) (qaa (mC (D.int (8))) mNil)))) mNil))) mNx)
  (mSeq (mIfS (mB (m2 (b2 gEq) (mV 1) (mC (D.int (1))))) (mSeq (mAsg (mN (qaf 2 qaG) (qaa (mV 0) (qaa (mC (D.int (4))) mNil))) (gN 2))
  (mRet (m2 (b2 gIxY) (mN (qaf 3 qaO) (qaa (mV 0) (qaa (mV 2) (qaa (m2 (b2 gAdd) (mC (D.int (1))) (mN (qaf 2 qae) (qaa (mV 0) (qaa (m2 (b2 gDiv) (mC (D.int (8))) (mN (b1 gLen) (qaa (mV 2) mNil))) mNil)))) mNil)))) (mC (D.int (0)))))) mNx)
  (mRet (mN (qaf 2 qaG) (qaa (mV 0) (qaa (mC (D.int (8))) mNil)))))))
noncomputable def qb1:FN:=fnB 3 qeT
theorem qcW:qam ["_law_hand_here","_law_way","_law_web_here"] ["_law_hand_here"] (qac qdq):=⟨rfl,rfl,rfl,by decide+kernel,rfl,by decide+kernel,by decide+kernel⟩
theorem qgR (X:K.In h)(G:h.Ns mainGlobals mg){f:Addr}(F:FnAt K "_law_web" qdq f)(B:Blt mg)(d:Own P w K mg base 3 "_law_cover" 3 qaO)(b:Own P w K mg base 3 "_law_drawn" 2 qaG)(c:Own P w K mg base 1 "_law_round" 1 qbo)(o3:Own P w K mg base 1 "_law_take" 2 qae):
  Own P w K mg base 4 "_law_web" 1 qb1:=xo X G F qcW (fun _ _ _ _ _ _ g e=>ln1 e fun _=>rfl) fun _ _ _ _ _ _ _ a=>
 (qF (sn 1 qcW.nd (wo o3 a (qA (xmv 0) (qA qK qN))))
  (qF (qV (ct (o_eq a.units) (xmv 1) qK) (qG (qU (wo c a (qA (qI qbu qK (wo o3 a (qA (xmv 0) (qA qK qN)))) qN)))) qQ)
  (qF (qV (ct (o_eq a.units) (xmv 1) qK) (qF (sn 2 qcW.nd (wo b a (qA (xmv 0) (qA qK qN))))
  (qG (qU (jx a (wo d a (qA (xmv 0) (qA (xmv 2) (qA (qI qbu qK (wo o3 a (qA (xmv 0) (qA (qI qjQ qK (cb qaV B.z_len (qA (xmv 2) qN))) qN)))) qN)))) qK)))) qQ)
  (qG (qU (wo b a (qA (xmv 0) (qA qK qN))))))))
noncomputable abbrev qcm:Stmt:=top 25
noncomputable def qdK:FS:=(mSeq (mIfS (mB (m2 (b2 gEq) (mN (qaf 2 qae) (qaa (mV 0) (qaa (mC (D.int (2))) mNil))) (mC (D.int (0))))) (mSeq (mAsg (mN (qaf 1 qb1) (qaa (mV 0) mNil)) (gN 1))
  (mRet (mTup (qaa (mV 1) (qaa (mN (qaf 2 qa7) (qaa (mV 0) (qaa (mN (b1 gLen) (qaa (mV 1) mNil)) mNil))) mNil))))) mNx)
  (mSeq (mAsg (mN (qaf 2 qaG) (qaa (mV 0) (qaa (mC (D.int (4))) mNil))) (gN 2))
  (mSeq (mAsg (mN (qaf 3 qaO) (qaa (mV 0) (qaa (mV 2) (qaa (m2 (b2 gDiv) (mC (D.int (8))) (mN (b1 gLen) (qaa (mV 2) mNil))) mNil)))) (gT 2 (gCs (gN 1) (gCs (gN 3) gNl))))
  (mSeq (mAsg (mN (qaf 2 qa7) (qaa (mV 0) (qaa (mN (b1 gLen) (qaa (mV 2) mNil)) mNil))) (gN 4))
  (mSeq (mAsg (qbD 1 [4] (iSeq (mV 3)) (gN 0) qb3 (qbh (m2 (b2 gIxY) (mV 1) (mV 0)))) (gN 5))
  (mSeq (mIfS (mB (m2 (b2 (gCmp fun i j=>decide (j<i))) (mN (qaf 2 qae) (qaa (mV 0) (qaa (mC (D.int (3))) mNil))) (mC (D.int (0))))) (mAsg (mC (D.int (9))) (gS (b3 qbS) (mV 5) (mN (qaf 2 qae) (qaa (mV 0) (qaa (mN (b1 gLen) (qaa (mV 5) mNil)) mNil))))) mNx)
  (mRet (mTup (qaa (mV 1) (qaa (mN (b1 gTup) (qaa (mV 5) mNil)) mNil))))))))))
noncomputable def qbn:FN:=fnB 6 qdK
theorem qaH:qam ["_law_hand_here","_law_web_here","_law_base","_law_below","_law_some","_law_signs_here"] ["_law_hand_here"] (qac qcm):=⟨rfl,rfl,rfl,by decide+kernel,rfl,by decide+kernel,by decide+kernel⟩
theorem qfh (X:K.In h)(G:h.Ns mainGlobals mg){f:Addr}(F:FnAt K "_law_scene" qcm f)(B:Blt mg)(e:Own P w K mg base 3 "_law_cover" 3 qaO)(d:Own P w K mg base 3 "_law_drawn" 2 qaG)(b:Own P w K mg base 3 "_law_signs" 2 qa7)(o3:Own P w K mg base 1 "_law_take" 2 qae)(c:Own P w K mg base 4 "_law_web" 1 qb1):
  Own P w K mg base 5 "_law_scene" 1 qbn:=xo X G F qaH (fun _ _ _ _ _ _ i g=>ln1 g fun _=>rfl) fun _ _ _ _ _ _ _ a=>
 (qF (qV (ct (o_eq a.units) (wo o3 a (qA (xmv 0) (qA qK qN))) qK) (qF (sn 1 qaH.nd (wo c a (qA (xmv 0) qN)))
  (qG (qU (qai (qA (xmv 1) (qA (wo b a (qA (xmv 0) (qA (cb qaV B.z_len (qA (xmv 1) qN)) qN))) qN)))))) qQ)
  (qF (sn 2 qaH.nd (wo d a (qA (xmv 0) (qA qK qN))))
  (qF (qR (wo e a (qA (xmv 0) (qA (xmv 2) (qA (qI qjQ qK (cb qaV B.z_len (qA (xmv 2) qN))) qN)))) (qaD rfl (qad (gn 1 qaH.nd) (qad (gn 3 qaH.nd) qau))))
  (qF (sn 4 qaH.nd (wo b a (qA (xmv 0) (qA (cb qaV B.z_len (qA (xmv 2) qN)) qN))))
  (qF (qbU 5 rfl (T:=["_law_room"]) (keep:=[4]) ⟨rfl,by decide+kernel,(kc "_law_some" (List.forall_mem_nil _))⟩ rfl (qd (xmv 3)) (fun _ _ _=>⟨(qO 0 (show List.Nodup (["_law_room","_law_some"]:List Str) by decide+kernel) rfl (by first|exact Or.inl rfl|exact Or.inr rfl)),qaE,(jx a (xmv 1) (xmv 0))⟩) qaH.nd rfl (by first|exact Or.inl rfl|exact Or.inr rfl))
  (qF (qV (ct o_gt (wo o3 a (qA (xmv 0) (qA qK qN))) qK) (qG (qR qK (qbH (xmv 5) (wo o3 a (qA (xmv 0) (qA (cb qaV B.z_len (qA (xmv 5) qN)) qN))) (qcI a.units)))) qQ)
  (qG (qU (qai (qA (xmv 1) (qA (cy qbi B.z_tuple (qA (xmv 5) qN)) qN)))))))))))
noncomputable abbrev qb8:Stmt:=top 24
noncomputable def qbj (self:FN):FS:=(mSeq (mIfS (mB (m2 (b2 gIsX) (mV 1) (mC D.non))) (mRet (m2 (b2 gIsX) (mV 0) (mC D.non))) mNx)
  (mSeq (mIfS (mTr (mIsT .tuple (mV 1))) (mSeq (mIfS (mOr (mNot (mTr (mIsT .tuple (mV 0)))) (mB (m2 (b2 gNe) (mN (b1 gLen) (qaa (mV 0) mNil)) (mN (b1 gLen) (qaa (mV 1) mNil))))) (mRet (mC (D.bl false))) mNx)
  (mRet (mN (b1 gAll) (qaa (qbD 2 [] (iZp (qaa (mV 0) (qaa (mV 1) mNil))) (gT 2 (gCs (gN 0) (gCs (gN 1) gNl))) qb3 (qbh (mN (qaf 2 self) (qaa (mV 0) (qaa (mV 1) mNil))))) mNil)))) mNx)
  (mRet (qg3 (mIsT .int (mV 0)) (qg3 (qjZ (mIsT .bool (mV 0))) (m2 (b2 gEq) (mV 0) (mV 1)))))))
noncomputable def qaB:Nat->FN
 | 0=>fun _ _=>none
 | n+1=>fnB 2 (qbj (qaB n))
noncomputable def qa4:FN:=qaB 8
theorem qfN:qam ["_law_found","_law_due"] ["_law_found","_law_due"] (qac qb8):=⟨rfl,rfl,rfl,by decide+kernel,rfl,by decide+kernel,by decide+kernel⟩
theorem qfJ {f:Addr}{fd:FuncData}(F:Fun K "_law_same" "_law_same" qb8 f fd)(hb:qdR K fd ["_law_found","_law_due"] [])(hm:mg "_law_same"=some (.ref f))(B:Blt mg){k:Nat}{self:FN}(hk:0<=k)(o_self:Own P w K mg base k "_law_same" 2 self):
  Own P w K mg base (k+1) "_law_same" 2 (fnB 2 (qbj self)):=qiX (n:=2) (N:=["_law_found","_law_due"]) (ps:=["_law_found","_law_due"]) (b:=qbj self) F hb hm qfN rfl fun d A c s H E a=>
 (qF (qV (ct qob (xmv 1) qdl) (qG (qU (ce qob (xmv 0) qdl))) qQ)
  (qF (qV (qb5 (qa6 .tuple rfl B.z_isinstance rfl B.z_tuple (by decide+kernel) (xmv 1))) (qF (qV (qih (qfE (qcT (qb5 (qa6 .tuple rfl B.z_isinstance rfl B.z_tuple (by decide+kernel) (xmv 0)))) (qd2 (ct (o_ne a.units) (cb qaV B.z_len (qA (xmv 0) qN)) (cb qaV B.z_len (qA (xmv 1) qN)))))) (qG (qU qcG)) qQ)
  (qG (qU (cb (qr0 rfl) B.z_all (qA (qZ rfl (T:=["_law_one","_law_other"]) (keep:=[]) ⟨rfl,by decide+kernel,(List.forall_mem_nil _)⟩ rfl (qiZ rfl B.z_zip (qA (xmv 0) (qA (xmv 1) qN))) (fun _ _ _=>⟨(qaD rfl (qad (qO 0 (show List.Nodup (["_law_one","_law_other"]:List Str) by decide+kernel) rfl (by first|exact Or.inl rfl|exact Or.inr rfl)) (qad (qO 1 (show List.Nodup (["_law_one","_law_other"]:List Str) by decide+kernel) rfl (by first|exact Or.inl rfl|exact Or.inr rfl)) qau))),qaE,(qH o_self a (nR1 _) rfl (qA (xmv 0) (qA (xmv 1) qN)))⟩)) qN))))) qQ)
  (qG (qU (qeW (qa6 .int rfl B.z_isinstance rfl B.z_int (by decide+kernel) (xmv 0)) (qeW (qi0 (qa6 .bool rfl B.z_isinstance rfl B.z_bool (by decide+kernel) (xmv 0))) (qgx (ce (o_eq a.units) (xmv 0) (xmv 1)))))))))
theorem qfZ (X:K.In h)(G:h.Ns mainGlobals mg){f:Addr}(F:FnAt K "_law_same" qb8 f)(B:Blt mg):Own P w K mg base 9 "_law_same" 2 qa4:=by
 have a:=wM1 X G F.ns;obtain ⟨fd,F⟩:=F.fn;have b:=F.binds (ps:=["_law_found","_law_due"]) (fun _ _ _ _ _ _ e c=>ln2 c fun _ _=>rfl);have d:∀ j:Nat,Own P w K mg base (1+j) "_law_same" 2 (qaB j):=fun j=>by
  induction j with
  | zero=>exact qlA F b a
  | succ j ih=>exact qfJ F b a B (show 0<=1+j by omega) ih
 exact d 8
noncomputable abbrev qco:Stmt:=top 29
noncomputable def qbL:FS:=(mIfS (mNot (mTr (mN (qaf 2 qa4) (qaa (mN (qaf 4 qcD) (qaa (mV 0) (qaa (mV 1) (qaa (mV 2) (qaa (mV 3) mNil))))) (qaa (mV 4) mNil))))) (mRet (mC (D.bl false))) mNx)
noncomputable def qbK:FS:=(mSeq (mAsg (mTup (qaa (mSlX (mV 4) qix (qiw (mV 6))) (qaa (m2 (b2 gEq) (mV 6) (mN (b1 gLen) (qaa (mV 4) mNil))) mNil))) (gT 2 (gCs (gN 7) (gCs (gN 8) gNl))))
  (mSeq (mAsg (m2 (b2 gNe) (mN (qaf 4 qdd) (qaa (mV 0) (qaa (mV 1) (qaa (mV 2) (qaa (mV 7) mNil))))) (mN (qaf 4 qdd) (qaa (mV 0) (qaa (mV 1) (qaa (mV 3) (qaa (mV 7) mNil)))))) (gN 9))
  (mSeq (mIfS (mB (m2 (b2 gNe) (mV 9) (mV 8))) (mRet (mC (D.bl false))) mNx)
  (mSeq (mAsg (mN (qaf 5 qaY) (qaa (mV 0) (qaa (mV 1) (qaa (mV 2) (qaa (mV 3) (qaa (mV 7) mNil)))))) (gN 10))
  (mIfS (mOr (mNot (mTr (mIsT .bool (mV 10)))) (mB (m2 (b2 gNe) (mV 10) (mV 8)))) (mRet (mC (D.bl false))) mNx)))))
noncomputable def qdM:FS:=(mSeq (mFor (iR1 (qaa (mC (D.int (2))) mNil)) (gN 5) qbL)
  (mSeq (mIfS (mB (m2 (b2 gIsX) (mV 4) (mC D.non))) (mRet (mC (D.bl true))) mNx)
  (mSeq (mFor (iR1 (qaa (m2 (b2 gAdd) (mN (b1 gLen) (qaa (mV 4) mNil)) (mC (D.int (1)))) mNil)) (gN 6) qbK)
  (mRet (mC (D.bl true))))))
noncomputable def qbp:FN:=fnB 11 qdM
theorem qaQ:qam ["_law_web_here","_law_signs_here","_law_one","_law_other","_law_due","_law_again","_law_size","_law_walk_here","_law_last","_law_unlike","_law_found"] ["_law_web_here","_law_signs_here","_law_one","_law_other","_law_due"] (qac qco):=⟨rfl,rfl,rfl,by decide+kernel,rfl,by decide+kernel,by decide+kernel⟩
theorem qfj (X:K.In h)(G:h.Ns mainGlobals mg){f:Addr}(F:FnAt K "_law_right" qco f)(B:Blt mg)(c:Own P w K mg base 9 "_law_same" 2 qa4)(d:Own P w K mg base 4 "parted" 4 qcD)(o6:Own P w K mg base 2 "seen" 4 qdd)(b:Own P w K mg base 4 "shows_parted" 5 qaY):
  Own P w K mg base 10 "_law_right" 5 qbp:=xo X G F qaQ (fun _ _ _ _ _ _ g e=>ln5 e fun _ _ _ _ _=>rfl) fun _ _ _ _ _ _ _ a=>
 (qF (qW PassesOwn.never rfl (qar rfl B.z_range (qA qK qN)) (gn 5 qaQ.nd) (qG (qV (qcT (qb5 (wo c a (qA (wo d a (qA (xmv 0) (qA (xmv 1) (qA (xmv 2) (qA (xmv 3) qN))))) (qA (xmv 4) qN))))) (qG (qU qcG)) qQ)))
  (qF (qV (ct qob (xmv 4) qdl) (qG (qU qcG)) qQ)
  (qF (qW PassesOwn.never rfl (qar rfl B.z_range (qA (qI qbu (cb qaV B.z_len (qA (xmv 4) qN)) qK) qN)) (gn 6 qaQ.nd) (qF (qd3 7 8 rfl qaQ.nd rfl rfl (by decide) rfl rfl (qA (qeD (xmv 4) qhm (qhl (xmv 6))) (qA (ce (o_eq a.units) (xmv 6) (cb qaV B.z_len (qA (xmv 4) qN))) qN)))
  (qF (sn 9 qaQ.nd (ce (o_ne a.units) (wo o6 a (qA (xmv 0) (qA (xmv 1) (qA (xmv 2) (qA (xmv 7) qN))))) (wo o6 a (qA (xmv 0) (qA (xmv 1) (qA (xmv 3) (qA (xmv 7) qN)))))))
  (qF (qV (ct (o_ne a.units) (xmv 9) (xmv 8)) (qG (qU qcG)) qQ)
  (qF (sn 10 qaQ.nd (wo b a (qA (xmv 0) (qA (xmv 1) (qA (xmv 2) (qA (xmv 3) (qA (xmv 7) qN)))))))
  (qG (qV (qih (qfE (qcT (qb5 (qa6 .bool rfl B.z_isinstance rfl B.z_bool (by decide+kernel) (xmv 10)))) (qd2 (ct (o_ne a.units) (xmv 10) (xmv 8))))) (qG (qU qcG)) qQ)))))))
  (qG (qU qcG)))))
noncomputable abbrev qiq:Stmt:=top 30
noncomputable def qgO:FS:=(mSeq (mAsg (mC D.non) (gN 9))
  (mSeq (mIfS (mB (m2 (b2 gNe) (m2 (b2 gIxY) (mV 6) (mV 7)) (m2 (b2 gIxY) (mV 6) (mV 8)))) (mAsg (mN (qaf 4 qbC) (qaa (mV 3) (qaa (mV 5) (qaa (mV 7) (qaa (mV 8) mNil))))) (gN 9)) mNx)
  (mSeq (mIfS (mB (m2 (b2 gNe) (m2 (b2 gLt) (m2 (b2 gIxY) (mV 5) (mTup (qaa (mV 7) (qaa (mV 8) mNil)))) (mC (D.int (99)))) (m2 (b2 qhb) (mV 9) (mC D.non)))) (mRet (mC (D.bl false))) mNx)
  (mIfS (mNot (mTr (mN (qaf 5 qbp) (qaa (mV 3) (qaa (mV 4) (qaa (mV 7) (qaa (mV 8) (qaa (mV 9) mNil)))))))) (mRet (mC (D.bl false))) mNx))))
noncomputable def qjK:FS:=(mFor (iR1 (qaa (mN (b1 gLen) (qaa (mV 3) mNil)) mNil)) (gN 8) qgO)
noncomputable def qgN:FS:=(mSeq (mAsg (mN (qaf 1 qbn) (qaa (mV 1) mNil)) (gT 2 (gCs (gN 3) (gCs (gN 4) gNl))))
  (mSeq (mAsg (mTup (qaa (mN (qaf 2 qb2) (qaa (mV 3) (qaa (mV 4) mNil))) (qaa (mN (qaf 2 qbB) (qaa (mV 3) (qaa (mV 4) mNil))) mNil))) (gT 2 (gCs (gN 5) (gCs (gN 6) gNl))))
  (mFor (iR1 (qaa (mN (b1 gLen) (qaa (mV 3) mNil)) mNil)) (gN 7) qjK)))
noncomputable def qpj:FS:=(mSeq (mAsg (mN (qaf 1 qbg) (qaa (mV 0) mNil)) (gN 1))
  (mSeq (mFor (iR1 (qaa (m2 (b2 gAdd) (mC (D.int (3))) (mN (b2 gMin) (qaa (mN (b1 gLen) (qaa (mV 0) mNil)) (qaa (mC (D.int (5))) mNil)))) mNil)) (gN 2) qgN)
  (mRet (mC (D.bl true)))))
noncomputable def m_law:FN:=fnB 10 qpj
theorem qcH:qam ["_law_script","_law_hand_here","_law_turn","_law_web_here","_law_signs_here","_law_far_here","_law_colours","_law_one","_law_other","_law_due"] ["_law_script"] (qac qiq):=⟨rfl,rfl,rfl,by decide+kernel,rfl,by decide+kernel,by decide+kernel⟩
theorem qqM {f:Addr}{fd:FuncData}(F:Fun K "law" "law" qiq f fd)(B:Blt mg)(h:Own P w K mg base 2 "_law_far" 2 qb2)(g:Own P w K mg base 1 "_law_hand" 1 qbg)(i:Own P w K mg base 10 "_law_right" 5 qbp)(j:Own P w K mg base 5 "_law_scene" 1 qbn)(d:Own P w K mg base 2 "_law_walk" 4 qbC)(c:Own P w K mg base 3 "colouring" 2 qbB):
  FnOk P w K mg base CX0 11 f fd ["_law_script"] (spM K 1 m_law):=qpv (k:=10) (n:=1) (N:=["_law_script","_law_hand_here","_law_turn","_law_web_here","_law_signs_here","_law_far_here","_law_colours","_law_one","_law_other","_law_due"]) (ps:=["_law_script"]) (b:=qpj) F qcH rfl fun l A e s H E a=>
 (qF (sn 1 qcH.nd (wo g a (qA (xmv 0) qN)))
  (qF (qW PassesOwn.never rfl (qar rfl B.z_range (qA (qI qbu qK (cb (qtr rfl) B.z_min (qA (cb qaV B.z_len (qA (xmv 0) qN)) (qA qK qN)))) qN)) (gn 2 qcH.nd) (qF (qR (wo j a (qA (xmv 1) qN)) (qaD rfl (qad (gn 3 qcH.nd) (qad (gn 4 qcH.nd) qau))))
  (qF (qd3 5 6 rfl qcH.nd rfl rfl (by decide) rfl rfl (qA (wo h a (qA (xmv 3) (qA (xmv 4) qN))) (qA (wo c a (qA (xmv 3) (qA (xmv 4) qN))) qN)))
  (qG (qW PassesOwn.never rfl (qar rfl B.z_range (qA (cb qaV B.z_len (qA (xmv 3) qN)) qN)) (gn 7 qcH.nd) (qG (qW PassesOwn.never rfl (qar rfl B.z_range (qA (cb qaV B.z_len (qA (xmv 3) qN)) qN)) (gn 8 qcH.nd) (qF (sn 9 qcH.nd qdl)
  (qF (qV (ct (o_ne a.units) (jx a (xmv 6) (xmv 7)) (jx a (xmv 6) (xmv 8))) (qG (sn 9 qcH.nd (wo d a (qA (xmv 3) (qA (xmv 5) (qA (xmv 7) (qA (xmv 8) qN))))))) qQ)
  (qF (qV (ct (o_ne a.units) (ce (qgU a.units) (jx a (xmv 5) (qai (qA (xmv 7) (qA (xmv 8) qN)))) qK) (ce qlG (xmv 9) qdl)) (qG (qU qcG)) qQ)
  (qG (qV (qcT (qb5 (wo i a (qA (xmv 3) (qA (xmv 4) (qA (xmv 7) (qA (xmv 8) (qA (xmv 9) qN)))))))) (qG (qU qcG)) qQ))))))))))))
  (qG (qU qcG))))
end
theorem all_mk {l:PySem.W.OpenLaw}{w:World}{K:Fg1}{h:Heap}{mg:Str->Option Value}{fa f1 f2 f3 f4 f5 f6 f7 f8 f9 f10 U f12 f13 f14 A q u Q Z S f21 o R f24 p f26 Y:Addr}(X:K.In h)(G:h.Ns mainGlobals mg)(t:mg "law"=some (.ref fa))
  (a1:FnAt K "is_whole" qdp f1)
  (a2:FnAt K "stops" qgI f2)
  (a3:FnAt K "looks" qgJ f3)
  (O:FnAt K "numbered" qdo f4)
  (a5:FnAt K "_law_hand" qc0 f5)
  (a6:FnAt K "_law_take" qcZ f6)
  (a7:FnAt K "_law_joined" qb9 f7)
  (a8:FnAt K "_law_round" qcn f8)
  (a9:FnAt K "_law_steps" qck f9)
  (a10:FnAt K "seen" qjo f10)
  (C:FnAt K "refined" qd7 U)
  (a12:FnAt K "_law_of" qd8 f12)
  (a13:FnAt K "_law_order" qcp f13)
  (E:FnAt K "_law_far" qdr f14)
  (T:FnAt K "_law_walk" qcY A)
  (I:FnAt K "colouring" qcX q)
  (a17:FnAt K "looks_unlike" qbJ u)
  (F:FnAt K "_law_drawn" qcq Q)
  (H:FnAt K "_law_cover" qcr Z)
  (a20:FnAt K "_law_signs" qcl S)
  (x:FnAt K "parted" qe7 f21)
  (a22:FnAt K "shows_parted" qbI o)
  (r:FnAt K "_law_web" qdq R)
  (a24:FnAt K "_law_scene" qcm f24)
  (z:FnAt K "_law_same" qb8 p)
  (y:FnAt K "_law_right" qco f26)
  (k:FnAt K "law" qiq Y)
  (f:wN1 K mainGlobals "abs"=some none)
  (g:wN1 K mainGlobals "all"=some none)
  (z_bool:wN1 K mainGlobals "bool"=some none)
  (z_enumerate:wN1 K mainGlobals "enumerate"=some none)
  (b:wN1 K mainGlobals "int"=some none)
  (z_isinstance:wN1 K mainGlobals "isinstance"=some none)
  (d:wN1 K mainGlobals "len"=some none)
  (z_list:wN1 K mainGlobals "list"=some none)
  (c:wN1 K mainGlobals "min"=some none)
  (z_range:wN1 K mainGlobals "range"=some none)
  (z_tuple:wN1 K mainGlobals "tuple"=some none)
  (a:wN1 K mainGlobals "zip"=some none)
  :∃ fd:FuncData,(∀ (s:Shared) (v:Value),BindsTo s fd ⟨[v],[]⟩ [("_law_script",v)]) /\ ∀ base:Heap,K.In base->base.Ns mainGlobals mg->FnOk l.prog w K mg base CX0 11 fa fd ["_law_script"] (spM K 1 m_law):=by
 have e:=t.symm.trans (wM1 X G k.ns);cases e;have B:Blt mg:=⟨PySem.W.mg_none_of X G f,PySem.W.mg_none_of X G g,PySem.W.mg_none_of X G z_bool,PySem.W.mg_none_of X G z_enumerate,PySem.W.mg_none_of X G b,PySem.W.mg_none_of X G z_isinstance,PySem.W.mg_none_of X G d,PySem.W.mg_none_of X G z_list,PySem.W.mg_none_of X G c,PySem.W.mg_none_of X G z_range,PySem.W.mg_none_of X G z_tuple,PySem.W.mg_none_of X G a⟩;have g0:CGl K mg "numbered" (D.fn "numbered"):=qrW (wM1 X G O.ns) (qtl O.ns);obtain ⟨_,⟨⟨_,_,kV,dc,pm,an,cd,ct,_,rfl,lL,cL⟩,kL⟩⟩:=k.fn;refine ⟨wF1 "law" "law" (qcz qiq) (qa5 qiq) (qac qiq) .none kV dc pm an cd ct,fun s v=>.of_eq rfl,fun base _ _=>?_⟩;have o11:=qgQ (P:=l.prog) (w:=w) (base:=base) X G a1 B;have o0:=qlB (P:=l.prog) (w:=w) (base:=base) X G a2 B;have o1:=qlC (P:=l.prog) (w:=w) (base:=base) X G a3 B;have o2:=qgP (P:=l.prog) (w:=w) (base:=base) X G O B;have J:=qf0 (P:=l.prog) (w:=w) (base:=base) X G a5 B;have i:=qfY (P:=l.prog) (w:=w) (base:=base) X G a6 B;have o7:=qez (P:=l.prog) (w:=w) (base:=base) X G a7 B;have o14:=qfi (P:=l.prog) (w:=w) (base:=base) X G a8 B;have o4:=qff (P:=l.prog) (w:=w) (base:=base) X G a9 B;have o6:=qn7 X G a10 B o0;have o5:=qiu X G C B o1 o2;have o8:=qiv X G a12 B i;have o9:=qfk X G a13 B i;have W:=qgS X G E B o4;have o24:=qfX X G T B o4;have V:=qfW X G I B o5 g0;have j:=qef X G a17 B o6;have m:=qfl X G F B o7 o8 o9 i;have n:=qfm X G H B o9;have o15:=qfg X G a20 B o8 i;have N:=qjN X G x B j;have L:=qee X G a22 B o11 j;have o16:=qgR X G r B n m o14 i;have o23:=qfh X G a24 B n m o15 i o16;have M:=qfZ (P:=l.prog) (w:=w) (base:=base) X G z B;have o22:=qfj X G y B M N o6 L;exact qqM (P:=l.prog) (w:=w) (base:=base) (qmW lL cL kL) B W J o22 o23 o24 V
noncomputable abbrev Web:=List (List (Nat×Nat))
noncomputable def dP (p:Nat×Nat):D:=.tup [.int p.1,.int p.2]
noncomputable def dR (r:List (Nat×Nat)):D:=.tup (r.map dP)
noncomputable def dW (w:Web):D:=.tup (w.map dR)
noncomputable def Web.inn (w:Web):Prop:=∀ r∈w,∀ p∈r,p.1<w.length
noncomputable def stp (w:Web)(r:Nat)(d:Int):Option (Nat×Nat):=if 0<=d then (w[r]?).bind (·[d.toNat]?) else none
noncomputable def qaK (w:Web):Nat->List Int->List (Nat×Nat)
 | _,[]=>[]
 | r,d::ds=>match stp w r d with
  | none=>[]
  | some p=>p::qaK w p.1 ds
theorem ix_tup {xs:List D}{i:Nat}{d:D}{S:Sto}(h:xs[i]? = some d):gIxY (.tup xs) (.int i) S=some (d,S):=by
 show gIx (.tup xs) (.int i) S=some (d,S);unfold gIx qap;simp [qpl h]
theorem qf8 {w:Web}{r:Nat}{row:List (Nat×Nat)}{S:Sto}(h:w[r]? = some row):gIxY (dW w) (.int r) S=some (dR row,S):=ix_tup (by rw [gP1,h];rfl)
theorem qoR {row:List (Nat×Nat)}{i:Nat}{p:Nat×Nat}{S:Sto}(h:row[i]? = some p):gIxY (dR row) (.int i) S=some (dP p,S):=ix_tup (by rw [gP1,h];rfl)
theorem qj4 {row:List (Nat×Nat)}{S:Sto}:gLen (dR row) S=some (.int row.length,S):=by
 unfold dR gLen qap;simp
theorem lt_int {i j:Int}{S:Sto}:gLt (.int i) (.int j) S=some (.bl (decide (i<j)),S):=by kernel_rfl!
theorem qin {w:Web}{r:Nat}{d:Int}{acc:List D}{o1 o2 o6:Option D}{row:List (Nat×Nat)}(hr:w[r]? = some row)(n:acc.length<sizeLine):
  qbz [some (dW w),o1,o2,some (.ref 0),some (.int r),some (.int d),o6] [.lst acc]=match stp w r d with
   | none=>some (.rt (.tup acc),[some (dW w),o1,o2,some (.ref 0),some (.int r),some (.int d),o6],[.lst acc])
   | some p=>some (.nx,[some (dW w),o1,o2,some (.ref 0),some (.int p.1),some (.int d),some (.int p.2)],[.lst (acc++[dP p])]):=by
 have m:∀ S,mN (b1 gLen) (qaa (m2 (b2 gIxY) (mV 0) (mV 4)) mNil) [some (dW w),o1,o2,some (.ref 0),some (.int r),some (.int d),o6] S=some (.int row.length,S):=fun S=>by
  have e:m2 (b2 gIxY) (mV 0) (mV 4) [some (dW w),o1,o2,some (.ref 0),some (.int r),some (.int d),o6] S=some (dR row,S):=qf8 (S:=S) hr;have g:qaa (m2 (b2 gIxY) (mV 0) (mV 4)) mNil [some (dW w),o1,o2,some (.ref 0),some (.int r),some (.int d),o6] S=some ([dR row],S):=by
   unfold qaa;rw [e];rfl
  unfold mN;rw [g];exact qj4
 have t:∀ S,mNot (mB (mCh (b2 (gCmp fun i j=>decide (i<=j))) (b2 gLt) (mC (D.int (0))) (mV 5) (mN (b1 gLen) (qaa (m2 (b2 gIxY) (mV 0) (mV 4)) mNil)))) [some (dW w),o1,o2,some (.ref 0),some (.int r),some (.int d),o6] S=some (!(decide (0<=d)&&decide (d<row.length)),S):=fun S=>by
  unfold mNot mB mCh;simp only [m];by_cases a:0<=d
  ·simp [mC,mV,b2,gCmp,a,lt_int]
  ·simp [mC,mV,b2,gCmp,a]
 have o:∀ (c:FT) (b k:FS) (r:Ev) (S f:Sto) (x:Bool),c r S=some (x,f)->mSeq (mIfS c (mRet (mN (b1 Mi.gTup) (qaa (mV 3) mNil))) mNx) k r S=(if x=true then mSeq (mRet (mN (b1 Mi.gTup) (qaa (mV 3) mNil))) k r f else k r f):=fun c b k r S f x h=>by
  unfold mSeq mIfS;simp only [h];cases x<;>rfl
 unfold qbz;rw [o _ mNx _ _ _ _ _ (t _)];by_cases h:0<=d/\d<row.length
 ·obtain ⟨a,h1⟩:=h;obtain ⟨k,rfl⟩:=Int.eq_ofNat_of_zero_le a;have l:k<row.length:=by lia
  have es:stp w r k=some row[k]:=by unfold stp;simp [hr,l]
  rw [es,decide_eq_true a,decide_eq_true h1];have g:m2 (b2 gIxY) (m2 (b2 gIxY) (mV 0) (mV 4)) (mV 5) [some (dW w),o1,o2,some (.ref 0),some (.int r),some (.int k),o6] [.lst acc]=some (dP row[k],[.lst acc]):=by
   have e:m2 (b2 gIxY) (mV 0) (mV 4) [some (dW w),o1,o2,some (.ref 0),some (.int r),some (.int k),o6] [.lst acc]=some (dR row,[.lst acc]):=qf8 hr;rw [m2,e];exact qoR (gG1 l)
  have q:mAsg (m2 (b2 gIxY) (m2 (b2 gIxY) (mV 0) (mV 4)) (mV 5)) (gT 2 (gCs (gN 4) (gCs (gN 6) gNl))) [some (dW w),o1,o2,some (.ref 0),some (.int r),some (.int k),o6] [.lst acc]=some (.nx,[some (dW w),o1,o2,some (.ref 0),some (.int row[k].1),some (.int k),some (.int row[k].2)],[.lst acc]):=by
   unfold mAsg;rw [g];rfl
  show mSeq _ _ _ _=_;rw [qjY q];show (mMt (b2 gApp) (mV 3) (qaa (mTup (qaa (mV 4) (qaa (mV 6) mNil))) mNil) _ _).bind _=_;simp [mMt,mV,qaa,mTup,mNil,b2,gApp,n,dP,(by decide:2<=sizeLine)]
 ·have es:stp w r d=none:=by
   unfold stp;split
   ·rename_i a;simp [hr];lia
   ·rfl
  have eb:(!(decide (0<=d)&&decide (d<row.length)))=true:=by
   simp;lia
  rw [es,eb];rfl
theorem qeL {w:Web}(hw:w.inn){o1 o2:Option D}:∀ (ws:List Int) (r:Nat) (acc:List (Nat×Nat)) (k o6:Option D),r<w.length->acc.length+ws.length<sizeLine ->
  ∃ f g h,qcE [] (gN 5) qbz (ws.map D.int) [some (dW w),o1,o2,some (.ref 0),some (.int r),k,o6] [.lst (acc.map dP)]=some (f,g,h) /\
   ((f = .rt (.tup ((acc++qaK w r ws).map dP))/\(qaK w r ws).length<ws.length)\/(f = .nx/\(qaK w r ws).length=ws.length/\g[3]? = some (some (.ref 0))/\h=[.lst ((acc++qaK w r ws).map dP)]))
 | [],r,acc,k,o6,hr,hl=>⟨_,_,_,rfl,.inr ⟨rfl,rfl,rfl,by simp [qaK]⟩⟩
 | d :: ws,r,acc,k,o6,hr,hl=>by
  rw [lC1] at hl;have st:=qin (w:=w) (r:=r) (d:=d) (acc:=acc.map dP) (o1:=o1) (o2:=o2) (o6:=o6) (row:=w[r]) (gG1 hr) (by rw [lM1];lia);rw [mP1,qcE];show ∃ f g h,(qbz [some (dW w),o1,o2,some (.ref 0),some (.int r),some (.int d),o6] [.lst (acc.map dP)]).bind _=some (f,g,h)/\_;rw [st];rw [qaK];cases e:stp w r d with
  | none=>exact ⟨_,_,_,rfl,.inl ⟨by simp,by simp⟩⟩
  | some p=>
   have m:p.1<w.length:=by
    unfold stp at e;split at e
    ·obtain ⟨j,i,l⟩:=oB1.mp e;exact hw j (gM1 i) p (gM1 l)
    ·cases e
   obtain ⟨f,g,h,i,l⟩:=qeL hw ws p.1 (acc++[p]) (some (.int d)) (some (.int p.2)) m (by simp;lia);refine ⟨f,g,h,?_,?_⟩
   ·rw [List.map_append] at i;exact i
   ·rcases l with ⟨a,b⟩ | ⟨a,b,c,n⟩
    ·exact .inl ⟨by rw [a];simp,by simpa using b⟩
    ·exact .inr ⟨a,by simpa using b,c,by rw [n];simp⟩
theorem qk2 {w:Web}(hw:w.inn){r:Nat}{ws:List Int}(hr:r<w.length)(c:ws.length<sizeLine):
  ∃ a,qdu [dW w,.int r,.tup (ws.map D.int)] []=some (.tup ((qaK w r ws).map dP),a):=by
 obtain ⟨f,g,a,e,h⟩:=qeL hw (o1:=some (.int r)) (o2:=some (.tup (ws.map D.int))) ws r [] none none hr (by simpa using c);have b:mFor (iSeq (mV 2)) (gN 5) qbz [some (dW w),some (.int r),some (.tup (ws.map D.int)),some (.ref 0),some (.int r),none,none] [.lst []]=some (f,g,a):=e;have i:qkM (qdA 7 [dW w,.int r,.tup (ws.map D.int)]) []=mSeq (mFor (iSeq (mV 2)) (gN 5) qbz) (mRet (mN (b1 Mi.gTup) (qaa (mV 3) mNil))) [some (dW w),some (.int r),some (.tup (ws.map D.int)),some (.ref 0),some (.int r),none,none] [.lst []]:=rfl;unfold qdu fnB;rw [i];rcases h with ⟨rfl,_⟩ | ⟨rfl,_,d,rfl⟩
 ·exact ⟨a,by unfold mSeq;rw [b];rfl⟩
 ·refine ⟨[.lst (([]++qaK w r ws).map dP)],?_⟩;rw [qjY b];simp [mRet,mN,qaa,mV,mNil,d,b1,Mi.gTup,qap]
theorem qmo (n:Nat)(p:Nat×Nat):(dP p).und n=true:=rfl
theorem unds_map {α:Type}{f:α->D}{n:Nat}(h:∀ x,(f x).und n=true):∀ xs:List α,D.unds n (xs.map f)=true
 | []=>rfl
 | x::xs=>by rw [mP1,D.unds,h x,unds_map h xs];rfl
theorem qi7 (n:Nat)(r:List (Nat×Nat)):(dR r).und n=true:=by unfold dR;rw [D.und];exact unds_map (qmo n) r
theorem qeF (n:Nat)(w:Web):(dW w).und n=true:=by unfold dW;rw [D.und];exact unds_map (qi7 n) w
theorem qe0 (w:Web):∀ (ws:List Int) (r:Nat),(qaK w r ws).length<=ws.length
 | [],r=>by simp [qaK]
 | d::ws,r=>by
  rw [qaK];cases stp w r d with
  | none=>simp
  | some p=>simpa using qe0 w ws p.1
theorem len_tup {xs:List D}{S:Sto}:gLen (.tup xs) S=some (.int xs.length,S):=rfl
theorem qpQ {w:Web}(hw:w.inn){r:Nat}{d:Int}{p:Nat×Nat}(e:stp w r d=some p):p.1<w.length:=by
 unfold stp at e;split at e
 ·obtain ⟨a,c,b⟩:=oB1.mp e;exact hw a (gM1 c) p (gM1 b)
 ·cases e
noncomputable def hd (g:Nat)(m c:Int):Ob:=.lst [.ref g,.int m,.int c]
theorem at0 {a b c:D}:atI [a,b,c] 0=some a:=by rfl
theorem at1 {a b c:D}:atI [a,b,c] 1=some b:=by rfl
theorem at2 {a b c:D}:atI [a,b,c] 2=some c:=by rfl
theorem qhJ {S:Sto}{g:Nat}{own:List Int}(h:S[g]? = some (.lst (own.map D.int))):gNe (.ref g) (.ref S.length) (S++[.lst []])=some (.bl (!own.isEmpty),S++[.lst []]):=by
 have a:g<S.length:=(gE1.mp h).1;have b:qap (S++[.lst []]) (.ref g)=some (true,own.map D.int):=by rw [qap,gL1 a,h]
 have c:qap (S++[.lst []]) (.ref S.length)=some (true,[]):=by rw [qap,List.getElem?_concat_length]
 unfold gNe qav;rw [show (60:Nat)=59+1 from rfl,eqN,b,c];cases own with
 | nil=>simp [eqL]
 | cons x xs=>simp
theorem qca {S:Sto}{h g:Nat}{m c:Int}(e:S[h]? = some (hd g m c)):gIxY (.ref h) (.int 0) S=some (.ref g,S)/\gIxY (.ref h) (.int 1) S=some (.int m,S)/\gIxY (.ref h) (.int 2) S=some (.int c,S):=by
 unfold hd at e;refine ⟨?_,?_,?_⟩<;>simp [gIxY,gIxX,gIx,qap,e,at0,at1,at2]
theorem qmP {S:Sto}{g:Nat}{x:Int}{own:List Int}(e:S[g]? = some (.lst ((x::own).map D.int))):gIxY (.ref g) (.int 0) S=some (.int x,S):=by
 simp [gIxY,gIxX,gIx,qap,e,atI,ixN]
theorem qgA {S:Sto}{h g:Nat}{m c:Int}{own:List Int}{o1 o2 o3:Option D}(e:S[h]? = some (hd g m c))(a:S[g]? = some (.lst (own.map D.int))):
  qa9 [some (.ref h),o1,o2,o3] S=some (match own with | []=>false | x::_=>x == 0,S++[.lst []]):=by
 have i:h<S.length:=(gE1.mp e).1;have f:g<S.length:=(gE1.mp a).1;have j:(S++[.lst []])[h]? = some (hd g m c):=by rw [gL1 i];exact e
 have d:(S++[.lst []])[g]? = some (.lst (own.map D.int)):=by rw [gL1 f];exact a
 cases own with
 | nil=>simp [qa9,mAnd,mB,m2,b2,mV,mC,(qca e).1,mLst,mNil,qhJ a]
 | cons x xs=>
  have b:∀ (x:Int) (S:Sto),gEq (.int x) (.int 0) S=some (.bl (x == 0),S):=fun x S=>by rfl
  simp [qa9,mAnd,mB,m2,b2,mV,mC,(qca e).1,mLst,mNil,qhJ a,(qca j).1,qmP d,b]
theorem qqf {S:Sto}{h g:Nat}{m c x:Int}{own:List Int}{o1 o2 o3:Option D}(e:S[h]? = some (hd g m c))(a:S[g]? = some (.lst ((x::own).map D.int))):
  qbt [some (.ref h),o1,o2,o3] S=some (.nx,[some (.ref h),o1,o2,o3],S.set g (.lst (own.map D.int))):=by
 have hi:ixN (own.length+1) 0=some 0:=by unfold ixN;rw [if_pos (by decide),if_pos (by lia)];rfl
 simp [qbt,qcg,mMt,m2,b2,mV,mC,(qca e).1,a,qaa,mNil,gPop,hi]
theorem qjj {h g:Nat}{m c:Int}{o1 o2 o3:Option D}(d:g≠h):∀ (own:List Int) (S:Sto) (f:Nat),own.length<f->S[h]? = some (hd g m c)->S[g]? = some (Ob.lst (own.map D.int))->(∀ x∈own,0<=x) ->
  ∃ (a:List Int) (n:Nat),whl qa9 qbt f [some (.ref h),o1,o2,o3] S=some (.nx,[some (.ref h),o1,o2,o3],S.set g (Ob.lst (a.map D.int))++List.replicate n (Ob.lst []))/\(∀ x∈a,0<=x)/\(∀ x r,a=x::r->0<x)/\a.length<=own.length
 | [],S,f+1,hf,e,e2,hp=>by
  refine ⟨[],1,?_,by simp,by simp,nR1 _⟩;have i:g<S.length:=(gE1.mp e2).1;have:S.set g (Ob.lst (([]:List Int).map D.int))=S:=by
   obtain ⟨k,b⟩:=gE1.mp e2;rw [<- b];exact List.set_getElem_self k
  rw [whl];dsimp only;rw [qgA e e2];simp only [oS1,this];rfl
 | x :: own,S,f+1,hf,e,e2,hp=>by
  have i:g<S.length:=(gE1.mp e2).1;have p:h<S.length:=(gE1.mp e).1;by_cases b:x=0
  ·have l:(S++[Ob.lst []])[h]? = some (hd g m c):=by rw [gL1 p];exact e
   have j:(S++[Ob.lst []])[g]? = some (Ob.lst ((x::own).map D.int)):=by rw [gL1 i];exact e2
   have v:((S++[Ob.lst []]).set g (Ob.lst (own.map D.int)))[h]? = some (hd g m c):=by rw [gS1 d];exact l
   have o:((S++[Ob.lst []]).set g (Ob.lst (own.map D.int)))[g]? = some (Ob.lst (own.map D.int)):=List.getElem?_set_self (by simp;lia);obtain ⟨a,n,q,w,t,z⟩:=qjj (o1:=o1) (o2:=o2) (o3:=o3) d own _ f (by simp at hf;lia) v o (fun y s=>hp y (mC1 _ s));refine ⟨a,n+1,?_,w,t,by simp;lia⟩;rw [whl];dsimp only;rw [qgA e e2];subst b;simp only [oS1,beq_self_eq_true,if_true,qqf l j];rw [q,List.set_set,List.set_append_left _ _ i,List.append_assoc];rfl
  ·refine ⟨x::own,1,?_,hp,fun y r e=>?_,nR1 _⟩
   ·have:S.set g (Ob.lst ((x::own).map D.int))=S:=by
     obtain ⟨k,b⟩:=gE1.mp e2;rw [<- b];exact List.set_getElem_self k
    have u:(x == 0)=false:=by simpa using b
    rw [whl];dsimp only;rw [qgA e e2];simp only [oS1,this,u];rfl
   ·cases e;have:=hp x mS1;lia
noncomputable def mix1 (m c:Int):Int:=(m+65537*c*c+11)*48271%2305843009213693921
noncomputable def mix2 (m c:Int):Int:=mix1 m c*(mix1 m c%1000003+99991*c)%2305843009213693907
theorem qnm {S:Sto}{h g:Nat}{m c k:Int}{own:List Int}(i:g≠h)(e:S[h]? = some (hd g m c))(A:S[g]? = some (Ob.lst (own.map D.int)))(hp:∀ x∈own,0<=x)(E:own.length<=1000)(hk:0<k)(u:k<1073741824)(hc:0<=c)(G:c<2^60):
  ∃ (d:Int) (a:List Int) (c':Int) (n:Nat),qae [.ref h,.int k] S=some (.int d,(S.set g (Ob.lst (a.map D.int))).set h (hd g m c')++List.replicate n (Ob.lst []))/\0<=d/\d<k/\(∀ x∈a,0<=x)/\a.length<=own.length/\0<=c'/\c'<=c+1:=by
 obtain ⟨a,n,q,N,I,C⟩:=qjj (o1:=some (.int k)) (o2:=none) (o3:=none) i own S 100000 (by lia) e A hp;have O:g<S.length:=(gE1.mp A).1;have hh:h<S.length:=(gE1.mp e).1;generalize l:S.set g (Ob.lst (a.map D.int))=T at q;have tl:T.length=S.length:=by rw [<- l,List.length_set]
 have J:T[h]? = some (hd g m c):=by rw [<- l,gS1 i];exact e
 have L:T[g]? = some (Ob.lst (a.map D.int)):=by rw [<- l];exact List.getElem?_set_self O
 generalize o:T++List.replicate n (Ob.lst [])=U at q;have p:U[h]? = some (hd g m c):=by rw [<- o,gL1 (by lia)];exact J
 have s:U[g]? = some (Ob.lst (a.map D.int)):=by rw [<- o,gL1 (by lia)];exact L
 have H:h<U.length:=(gE1.mp p).1;have R:g<U.length:=(gE1.mp s).1;have t:(U++[Ob.lst []])[h]? = some (hd g m c):=by rw [gL1 H];exact p
 have B:(U++[Ob.lst []])[g]? = some (Ob.lst (a.map D.int)):=by rw [gL1 R];exact s
 have b:∀ V:Sto,V.length=T.length->(V++List.replicate n (Ob.lst []))++[Ob.lst []]=V++List.replicate (n+1) (Ob.lst []):=fun V _=>by rw [List.append_assoc,<- List.replicate_succ']
 have st:qdA 4 [.ref h,.int k]=[some (.ref h),some (.int k),none,none]:=rfl;cases a with
 | cons x r=>
  have F:=I x r rfl;refine ⟨x%k,(x/k)::r,c,n+1,?_,Int.emod_nonneg _ (by lia),Int.emod_lt_of_pos _ hk,?_,C,hc,by lia⟩
  ·have hi:ixN (r.length+1) 0=some 0:=by unfold ixN;rw [if_pos (by decide),if_pos (by lia)];rfl
   have f:(U++[Ob.lst []]).set g (Ob.lst (((x/k)::r).map D.int))=((S.set g (Ob.lst (((x/k)::r).map D.int))).set h (hd g m c))++List.replicate (n+1) (Ob.lst []):=by
    rw [<- b _ (by rw [List.length_set,List.length_set,tl]),<- o,List.set_append_left _ _ (by simp;lia),List.set_append_left _ _ (by lia),<- l,List.set_set]
    congr 2
    have:(S.set g (Ob.lst (((x/k)::r).map D.int)))[h]? = some (hd g m c):=by rw [gS1 i];exact e
    obtain ⟨E,F⟩:=gE1.mp this;rw [<- F];exact (List.set_getElem_self E).symm
   simp only [qae,fnB,st,qc4,mSeq,q,oS1];simp [mIfS,mB,m2,b2,mV,mC,(qca p).1,mLst,mNil,qhJ s,mSeq,mAsg,(qca t).1,qmP B,gMod,hk,gN,gDiv,u,gS,b3,qbS,qfq,B,qdH,hi,mRet];simpa using f
  ·intro y K;rcases List.mem_cons.mp K with z | z
   ·rw [z];exact Int.ediv_nonneg (by lia) (by lia)
   ·exact N y (mC1 _ z)
 | nil=>
  refine ⟨(mix2 m (c+1)/97+mix2 m (c+1)/1000033)%k,[],c+1,n+1,?_,Int.emod_nonneg _ (by lia),Int.emod_lt_of_pos _ hk,by simp,C,by lia,by lia⟩;have Y:qba 65537 (c+1)=true:=qlJ (by decide) (by decide);have P:qba (65537*(c+1)) (c+1)=true:=qog (by lia) (by lia);have W:qba (m+65537*(c+1)*(c+1)+11) 48271=true:=qog (by decide) (by decide);have Q:qba 99991 (c+1)=true:=qlJ (by decide) (by decide);have w:=Int.emod_lt_of_pos ((m+65537*(c+1)*(c+1)+11)*48271) (show (0:Int)<2305843009213693921 by decide);have Z:=Int.emod_nonneg ((m+65537*(c+1)*(c+1)+11)*48271) (show (2305843009213693921:Int)≠0 by decide);have X:qba ((m+65537*(c+1)*(c+1)+11)*48271%2305843009213693921) ((m+65537*(c+1)*(c+1)+11)*48271%2305843009213693921%1000003+99991*(c+1))=true:=qlJ (by lia) (by lia);have f:(U++[Ob.lst []]).set h (hd g m (c+1))=((S.set g (Ob.lst (([]:List Int).map D.int))).set h (hd g m (c+1)))++List.replicate (n+1) (Ob.lst []):=by
   rw [<- b _ (by rw [List.length_set,List.length_set,tl]),<- o,List.set_append_left _ _ (by simp;lia),List.set_append_left _ _ (by lia),<- l]
  have M:((U++[Ob.lst []]).set h (hd g m (c+1)))[h]? = some (hd g m (c+1)):=List.getElem?_set_self (by simp;lia);have v:=qca M;have j:qbS (.ref h) (.int 2) (.int (c+1)) (U++[Ob.lst []])=some (.non,(U++[Ob.lst []]).set h (hd g m (c+1))):=by
   unfold hd at t ⊢;simp [qbS,qfq,t,qdH,ixN]
  simp only [qae,fnB,st,qc4,mSeq,q,oS1];simp [mIfS,mB,m2,b2,mV,mC,(qca p).1,mLst,mNil,qhJ s,mSeq,mAsg,(qca t).2.2,gMod,hk,gN,gDiv,gS,b3,j,mRet,mNx,gAdd,gMul,v.2.1,v.2.2,Y,P,W,Q,X,mix1,mix2];simpa using f
structure Hand (h g:Nat)(n:Nat)(S:Sto):Prop where
 ne:g≠h
 at_:∃ (m c:Int) (own:List Int),S[h]? = some (hd g m c)/\S[g]? = some (Ob.lst (own.map D.int))/\(∀ x∈own,0<=x)/\own.length<=1000/\0<=c/\c<=n
noncomputable def Shut (S:Sto):Prop:=S.all (Ob.und S.length)=true
structure Chg (h g:Nat)(S S':Sto):Prop where
 len:S'.length=S.length
 same:∀ i,i≠h->i≠g->S'[i]? = S[i]?
theorem qoZ {n:Nat}{d:D}{S G:Sto}(a:S.length=n)(hd:d.und n=true)(ha:S.all (Ob.und n)=true):gc n (d,S++G)=(d,S):=by
 have e:(S++G).take n=S:=by rw [<- a,List.take_left]
 unfold gc;dsimp only;rw [if_pos (by rw [e,hd,ha];rfl),e]
theorem qfB {p:Ob->Bool}{S:Sto}{i:Nat}{o:Ob}(h:S.all p=true)(ho:p o=true):(S.set i o).all p=true:=by
 rw [List.all_eq_true] at h ⊢;intro x a;rcases List.mem_or_eq_of_mem_set a with h1 | h1
 ·exact h x h1
 ·rw [h1];exact ho
theorem qje {S:Sto}{h g n:Nat}{k:Int}(H:Hand h g n S)(s:Shut S)(hn:n<2^59)(hk:0<k)(e:k<1073741824):
  ∃ (d:Nat) (S':Sto),qaf 2 qae [.ref h,.int k] S=some (.int d,S')/\(d:Int)<k/\Hand h g (n+1) S'/\Shut S'/\Chg h g S S':=by
 obtain ⟨m,c,own,j,o,x,r,A,cn⟩:=H.at_;obtain ⟨d,a,f,z,q,u,y,v,B,b,t⟩:=qnm H.ne j o x r hk e A (by lia);have w:h<S.length:=(gE1.mp j).1;have l:g<S.length:=(gE1.mp o).1;obtain ⟨p,rfl⟩:=Int.eq_ofNat_of_zero_le u;have sh:((S.set g (Ob.lst (a.map D.int))).set h (hd g m f)).all (Ob.und S.length)=true:=
  qfB (qfB s (by rw [Ob.und];exact qaw _ _)) (by unfold hd;rw [Ob.und,D.unds,D.unds,D.unds,D.unds,D.und,D.und,D.und];simp [l])
 refine ⟨p,(S.set g (Ob.lst (a.map D.int))).set h (hd g m f),?_,y,⟨H.ne,m,f,a,?_,?_,v,by lia,b,by push_cast;lia⟩,?_,?_,?_⟩
 ·rw [qeq (n:=2) q rfl rfl,qoZ (by simp) rfl sh]
 ·rw [List.getElem?_set_self (by simpa using w)]
 ·rw [gS1 H.ne.symm,List.getElem?_set_self l]
 ·unfold Shut;rw [List.length_set,List.length_set];exact sh
 ·simp
 ·intro i h1 h2;rw [gS1 (Ne.symm h1),gS1 (Ne.symm h2)]
structure HS (h g n:Nat)(B U:Sto):Prop where
 hl:h<B.length
 gl:g<B.length
 len:B.length<=U.length
 same:∀ i,i<B.length->i≠h->i≠g->U[i]? = B[i]?
 hand:Hand h g n U
 shut:Shut U
theorem HS.more {h g n a:Nat}{B U:Sto}(s:HS h g n B U)(hn:n<=a):HS h g a B U:=by
 obtain ⟨m,c,own,b,e,i,f,d,j⟩:=s.hand.at_;exact ⟨s.hl,s.gl,s.len,s.same,⟨s.hand.ne,m,c,own,b,e,i,f,d,by lia⟩,s.shut⟩
theorem HS.self {h g n:Nat}{U:Sto}(H:Hand h g n U)(a:Shut U):HS h g n U U:=by
 obtain ⟨m,c,own,d,b,_⟩:=H.at_;exact ⟨(gE1.mp d).1,(gE1.mp b).1,nR1 _,fun _ _ _ _=>rfl,H,a⟩
theorem HS.trans {h g n c:Nat}{B U V:Sto}(a:HS h g n B U)(b:HS h g c U V):HS h g c B V:=
 ⟨a.hl,a.gl,Nat.le_trans a.len b.len,fun i hi h1 h2=>(b.same i (nL1 hi a.len) h1 h2).trans (a.same i hi h1 h2),b.hand,b.shut⟩
theorem HS.at {h g n:Nat}{B U:Sto}(s:HS h g n B U){i:Nat}{o:Ob}(e:B[i]? = some o)(h1:i≠h)(h2:i≠g):U[i]? = some o:=by
 rw [s.same i (gE1.mp e).1 h1 h2];exact e
theorem qk5 {U:Sto}{G:Sto}(s:Shut U)(hg:∀ o∈G,o.und (U++G).length=true):Shut (U++G):=by
 unfold Shut at *
 rw [List.all_append,bA1];rw [List.all_eq_true] at s;refine ⟨List.all_eq_true.mpr fun o a=>qdZ (by rw [lA1];lia) (s o a),List.all_eq_true.mpr hg⟩
theorem qk4 {U:Sto}{i:Nat}{o:Ob}(s:Shut U)(ho:o.und U.length=true):Shut (U.set i o):=by
 unfold Shut at *
 rw [List.length_set];exact qfB s ho
theorem HS.app {h g n:Nat}{B U G:Sto}(s:HS h g n B U)(hg:∀ o∈G,o.und (U++G).length=true):HS h g n B (U++G):=by
 obtain ⟨m,c,own,a,b,j,f,e,d⟩:=s.hand.at_;refine ⟨s.hl,s.gl,by rw [lA1];have:=s.len;lia,fun i hi h1 h2=>?_,⟨s.hand.ne,m,c,own,?_,?_,j,f,e,d⟩,qk5 s.shut hg⟩
 ·rw [gL1 (by have:=s.len;lia)];exact s.same i hi h1 h2
 ·rw [gL1 (gE1.mp a).1];exact a
 ·rw [gL1 (gE1.mp b).1];exact b
theorem HS.set {h g n i:Nat}{B U:Sto}{o:Ob}(s:HS h g n B U)(hi:B.length<=i)(ho:o.und U.length=true):HS h g n B (U.set i o):=by
 obtain ⟨m,c,own,e,l,q,p,f,d⟩:=s.hand.at_;have h1:=s.hl;have h2:=s.gl;refine ⟨s.hl,s.gl,by rw [List.length_set];exact s.len,fun j k a b=>?_,⟨s.hand.ne,m,c,own,?_,?_,q,p,f,d⟩,qk4 s.shut ho⟩
 ·rw [gS1 (by lia)];exact s.same j k a b
 ·rw [gS1 (by lia)];exact e
 ·rw [gS1 (by lia)];exact l
theorem qby {h g n:Nat}{B U:Sto}{k:Int}{Q:D×Sto->Prop}(s:HS h g n B U)(hn:n<=2^50)(hk:0<k)(c:k<1073741824)
  (q:∀ (d:Nat) U',HS h g (n+1) B U'->HS h g (n+1) U U'->U'.length=U.length->(d:Int)<k->Q (.int d,U')):W (qaf 2 qae [.ref h,.int k] U) Q:=by
 obtain ⟨d,U',e,hd,H',f,C⟩:=qje s.hand s.shut (by lia) hk c;have h1:=s.hl;have h2:=s.gl;have j:=s.len;have u:HS h g (n+1) U U':=⟨by lia,by lia,by rw [C.len];lia,fun i _ a b=>C.same i a b,H',f⟩;exact ⟨_,e,q d U' (s.trans u) u C.len hd⟩
theorem qkL {n h g c c':Nat}{f:FN}{ds:List D}{B U:Sto}{Q:D×Sto->Prop}(hn:ds.length=n)(w:D.unds 0 ds=false)(s:HS h g c B U)
  (q:W (f ds U) fun p=>HS h g c' U p.2/\p.1.und 0=true /\ ∀ k,HS h g c' B k->HS h g c' U k->k.length=U.length->Q (p.1,k)):W (qaf n f ds U) Q:=by
 refine qiK hn w (q.mono ?_);rintro ⟨d,V⟩ ⟨v,hd,q⟩;dsimp only at v hd q;have E:=v.len;have H:=s.hl;have F:=s.gl;have G:=s.len;have tl:(V.take U.length).length=U.length:=by rw [List.length_take];lia
 obtain ⟨m,y,own,l,r,C,A,x,t⟩:=v.hand.at_;have get:∀ i,i<U.length->(V.take U.length)[i]? = V[i]?:=fun i hi=>by rw [List.getElem?_take_of_lt hi]
 have sh:(V.take U.length).all (Ob.und U.length)=true:=by
  rw [List.all_eq_true];intro o z;obtain ⟨i,hi⟩:=List.getElem?_of_mem z;have j:i<U.length:=by rw [<- tl];exact (gE1.mp hi).1
  rw [get i j] at hi;by_cases a:i=h
  ·subst a;rw [l] at hi;cases hi;simp [hd,Law.hd,Ob.und,D.unds,D.und];lia
  ·by_cases b:i=g
   ·subst b;rw [r] at hi;cases hi;rw [Ob.und];exact qaw _ _
   ·rw [v.same i j a b] at hi;have:=s.shut;unfold Shut at this;rw [List.all_eq_true] at this;exact this o (gM1 hi)
 have u:HS h g c' U (V.take U.length):=by
  refine ⟨v.hl,v.gl,by rw [tl];lia,fun i hi a b=>by rw [get i hi];exact v.same i hi a b,⟨v.hand.ne,m,y,own,by rw [get h (by lia)];exact l,by rw [get g (by lia)];exact r,C,A,x,t⟩,?_⟩;unfold Shut;rw [tl];exact sh
 have e:gc U.length (d,V)=(d,V.take U.length):=by
  unfold gc;dsimp only;rw [if_pos (by rw [qc5 hd,sh];rfl)]
 rw [e];exact q _ (s.trans u) u tl
theorem qeP:∀ {xs:List D} {i:Nat} (h:i<xs.length),(xs[i]::xs.eraseIdx i).Perm xs
 | x::xs,0,h=>List.Perm.refl _
 | x::xs,i+1,h=>by
  have:=qeP (xs:=xs) (i:=i) (by simpa using h);rw [List.eraseIdx_cons_succ,List.getElem_cons_succ];exact (List.Perm.swap _ _ _).trans (this.cons x)
theorem qeE {n:Nat}{xs:List D}{i:Nat}(h:D.unds n xs=true):D.unds n (xs.eraseIdx i)=true:=by
 induction xs generalizing i with
 | nil=>simpa using h
 | cons x xs ih=>
  rw [D.unds,bA1] at h;cases i with
  | zero=>exact h.2
  | succ i=>rw [List.eraseIdx_cons_succ,D.unds,h.1,ih h.2];rfl
theorem qjM {h g c r:Nat}{B U:Sto}{xs:List D}{Q:D×Sto->Prop}(s:HS h g c B U)(hc:c<=2^45)(hr:U[r]? = some (.lst xs))(P:r≠h)(O:r≠g)(T:xs.length<=100)(hx:D.unds 0 xs=true)
  (q:∀ k ys t,HS h g (c+xs.length) B t->HS h g (c+xs.length) U t->U.length<=k->t[k]? = some (.lst ys)->ys.Perm xs->Q (.ref k,t)):W (qaf 2 qaF [.ref h,.ref r] U) Q:=by
 refine qiK rfl rfl ?_;unfold qaF;refine fnW ?_;unfold qdN;have h1:=s.hl;have h2:=s.gl;have V:=s.len;have L:HS h g c U U:=HS.self s.hand s.shut;refine seqW (fun l S=>S=U++[.lst xs]/\l=[some (.ref h),some (.ref r),some (.ref U.length)]) ?_ ?_
 ·((try walk_at "own wq");repeat (simp only [gLst,qe4 hr];try walk_at "own wq"))
 rintro l S ⟨rfl,rfl⟩;have v:(U++[Ob.lst xs])[r]? = some (.lst xs):=by rw [gL1 (gE1.mp hr).1];exact hr
 walk_at "own wq";refine qax v ?_;dsimp only;rw [Int.toNat_natCast];refine ⟨qaW (by lia),?_⟩;refine qcx (fun i e l S=>∃ x a,i<=xs.length/\l=[x,some (.ref U.length),some (.ref h)]/\HS h g (c+i) U S/\S.length=U.length+1/\S[U.length]? = some (.lst a)/\(e++a).Perm xs/\e.length=i/\D.unds 0 a=true) (nums 0 xs.length) 0 [] _ _ ⟨none,xs,by lia,rfl,L.app (fun o m=>by simp at m;subst m;rw [Ob.und];exact qbx hx),by simp,by simp,by simp,rfl,hx⟩ (fun _ _ _ _ _=>rfl) ?_ ?_
 ·rintro i d hd e l S ⟨x,a,hi,rfl,C,F,b,f,I,A⟩;have w:=(gE1.mp hd).1;rw [qay] at w;rw [Nat.zero_add] at *
  have n:a.length=xs.length-i:=by
   have:=f.length_eq;rw [lA1] at this;lia
  walk_at "own wq";refine qdz ?_;walk_at "own wq";refine ⟨U.length,a,rfl,b,?_⟩;refine qax b ?_;dsimp only;refine qby C (by lia) (by lia) (by lia) fun j K E u J R=>?_;have p:j<a.length:=by lia
  have hleft':K[U.length]? = some (.lst a):=u.at b (by lia) (by lia);walk_at "own wq";refine qr5 hleft' (gG1 p) (by lia) ?_;refine ⟨_,a.eraseIdx j,by lia,rfl,E.set (nR1 _) (by rw [Ob.und];exact qbx (qeE A)),by rw [List.length_set];lia,by rw [List.getElem?_set_self (by lia)],?_,by lia,qeE A⟩;have:=qeP p;exact (List.Perm.append_left e this).trans f
 ·rintro ys l S ⟨x,a,hi,rfl,C,F,b,f,I,A⟩;rw [List.nil_append,Nat.zero_add,qay] at *
  have n:a=[]:=by
   have:=f.length_eq;rw [lA1] at this;exact List.eq_nil_of_length_eq_zero (by lia)
  subst n;rw [List.append_nil] at f;walk_at "own wq";refine ⟨qaj (by lia),?_⟩;have G:D.unds 0 ys=true:=unds_of' fun y M=>qeZ hx (f.mem_iff.mp M);have H:HS h g (c+xs.length) U (S++[.lst ys]):=C.app fun o m=>by simp at m;subst m;rw [Ob.und];exact qbx G
  have N:gc U.length (.ref S.length,S++[.lst ys])=(.ref S.length,S++[.lst ys]):=by
   unfold gc;rw [if_neg];simp [D.und];intro z;lia
  rw [N];exact q S.length ys _ (s.trans H) H (by lia) (by rw [List.getElem?_concat_length]) f
where
 unds_of' {xs:List D}:(∀ x∈xs,x.und 0=true)->D.unds 0 xs=true:=by
  induction xs with
  | nil=>intro _;rfl
  | cons x xs ih=>intro h;rw [D.unds,h x mS1,ih fun y hy=>h y (mC1 _ hy)];rfl
noncomputable abbrev qab:=List (List (Nat×Nat))
structure EW (b m:Nat)(E:qab)(U:Sto):Prop where
 el:E.length=m
 row:∀ (i:Nat) (row:List (Nat×Nat)),E[i]? = some row->U[b+i]? = some (qds row)
 ends:U[b+m]? = some (.lst (refs b m))
theorem EW.over {h g n b m:Nat}{E:qab}{U V:Sto}(e:EW b m E U)(s:HS h g n U V)(d:h<b)(hg:g<b):EW b m E V:=
 ⟨e.el,fun i a c=>s.at (e.row i a c) (by lia) (by lia),s.at e.ends (by lia) (by lia)⟩
theorem EW.setRow {b m i:Nat}{E:qab}{U:Sto}{row:List (Nat×Nat)}(w:EW b m E U)(hi:i<m):EW b m (E.set i row) (U.set (b+i) (qds row)):=by
 have c:b+m<U.length:=(gE1.mp w.ends).1;refine ⟨by rw [List.length_set];exact w.el,fun j a h=>?_,by rw [gS1 (by lia)];exact w.ends⟩;by_cases e:i=j
 ·subst e;rw [List.getElem?_set_self (by rw [w.el];exact hi)] at h;cases h;rw [List.getElem?_set_self (by lia)]
 ·rw [gS1 e] at h;rw [gS1 (by lia)];exact w.row j a h
theorem qew {b m i:Nat}{E:qab}{U:Sto}{Q:D×Sto->Prop}(w:EW b m E U)(hi:i<m)(q:Q (.ref (b+i),U)):W (gIxY (.ref (b+m)) (.int i) U) Q:=
 qiM (xs:=refs b m) (x:=.ref (b+i)) w.ends (qgK hi) q
theorem qhP {b m a c e:Nat}{E:qab}{U:Sto}{Q:D×Sto->Prop}(w:EW b m E U)(ha:a<m)(hc:c<m){ra:List (Nat×Nat)}(h:E[a]? = some ra)(G:ra.length<=4){g:List (Nat×Nat)}(i:E[c]? = some g)(F:g.length<=4)
  (r:(ra.length+(if a=c then 1 else 0)>3\/g.length>3)->Q (.int e,U))
  (v:ra.length+(if a=c then 1 else 0)<=3->g.length<=3 -> ∀ rb,(E.set a (ra++[(e,0)]))[c]? = some rb->Q (.int ((e+1:Nat):Int),(U.set (b+a) (qds (ra++[(e,0)]))).set (b+c) (qds (rb++[(e,1)])))):
  W (qaf 4 qaI [.ref (b+m),.int a,.int c,.int e] U) Q:=by
 have n:W (qaI [.ref (b+m),.int a,.int c,.int e] U) fun p=>p.2.length=U.length/\Q p:=by
  unfold qaI;refine fnW ?_;unfold qdi;have s:((a:Int) == (c:Int))=decide (a=c):=by
   rw [Bool.eq_iff_iff,beq_iff_eq,decide_eq_true_eq];lia
  walk_at "own wq";refine qew w ha ?_;walk_at "own wq";refine qax (xs:=ra.map pD) (w.row a ra h) ?_
  ((try walk_at "own wq");repeat (simp only [s];try walk_at "own wq"))
  have u:ra.length+(if a=c then 1 else 0)<=3->g.length<=3->W (mMt (b2 gApp) (m2 (b2 gIxY) (mV 0) (mV 1)) (qaa (mTup (qaa (mV 3) (qaa (mC (D.int 0)) mNil))) mNil) [some (.ref (b+m)),some (.int a),some (.int c),some (.int e)] U) fun x=>
    W (mMt (b2 gApp) (m2 (b2 gIxY) (mV 0) (mV 2)) (qaa (mTup (qaa (mV 3) (qaa (mC (D.int 1)) mNil))) mNil) [some (.ref (b+m)),some (.int a),some (.int c),some (.int e)] x.2) fun x=>
     x.2.length=U.length/\Q (.int ((e:Int)+1),x.2):=by
   intro l o;refine qdz ?_;walk_at "own wq";refine qew w ha ?_;refine ⟨b+a,ra.map pD,rfl,w.row a ra h,?_⟩;walk_at "own wq";rw [qfC (xs:=ra.map pD) (w.row a ra h)];refine ⟨qaj (by rw [lM1];lia),?_⟩;have t:(ra.map pD++[D.tup [D.int ↑e,D.int 0]])=(ra++[(e,0)]).map pD:=by simp [pD]
   rw [t];have j:=w.setRow (row:=ra++[(e,0)]) ha;obtain ⟨rb,f⟩:∃ rb,(E.set a (ra++[(e,0)]))[c]? = some rb:=⟨_,gG1 (by rw [j.el];exact hc)⟩;have H:rb.length<=8:=by
    by_cases z:a=c
    ·subst z;rw [List.getElem?_set_self (by rw [w.el];exact ha)] at f;cases f;simp;lia
    ·rw [gS1 z,i] at f;cases f;lia
   refine qdz ?_;walk_at "own wq";refine qew j hc ?_;refine ⟨b+c,rb.map pD,rfl,j.row c rb f,?_⟩;walk_at "own wq";refine (qfC (xs:=rb.map pD) (j.row c rb f)).mpr ?_;refine ⟨qaj (by rw [lM1];lia),?_⟩;have k:(rb.map pD++[D.tup [D.int ↑e,D.int 1]])=(rb++[(e,1)]).map pD:=by simp [pD]
   rw [k];have:=v l o rb f;refine ⟨by simp,?_⟩;simpa [qds] using this
  have B:(if decide (a=c)=true then (1:Int) else 0)=((if a=c then 1 else 0:Nat):Int):=by
   by_cases z:a=c<;>simp [z]
  rw [B,lM1];by_cases l:ra.length+(if a=c then 1 else 0)<=3
  ·rw [if_neg (by rw [decide_eq_true_eq];lia)];refine qew w hc ?_;walk_at "own wq";refine qax (xs:=g.map pD) (w.row c g i) ?_;walk_at "own wq";rw [lM1];by_cases o:g.length<=3
   ·rw [if_neg (by rw [decide_eq_true_eq];lia)];exact u l o
   ·rw [if_pos (by rw [decide_eq_true_eq];lia)];exact r (.inr (by lia))
  ·rw [if_pos (by rw [decide_eq_true_eq];lia)];exact r (.inl (by lia))
 obtain ⟨⟨d,C⟩,y,A,q⟩:=n;exact ⟨_,qkH y rfl rfl A,q⟩
noncomputable def allE:Nat->List (Nat×Nat)
 | 0=>[]
 | e+1=>(e,1)::(e,0)::allE e
theorem qid:∀ e,(allE e).length=2*e
 | 0=>rfl
 | e+1=>by rw [allE,lC1,lC1,qid e];lia
theorem qbG:∀ {e:Nat} {x:Nat×Nat},x∈allE e↔x.1<e/\x.2<=1
 | 0,x=>by simp [allE]
 | e+1,x=>by
  rw [allE,List.mem_cons,List.mem_cons,qbG (e:=e)];obtain ⟨a,b⟩:=x;simp only [Prod.mk.injEq];lia
theorem qdt:∀ e,(allE e).Nodup
 | 0=>List.nodup_nil
 | e+1=>by
  rw [allE,List.nodup_cons,List.nodup_cons];refine ⟨fun h=>?_,fun h=>?_,qdt e⟩
  ·rcases List.mem_cons.mp h with h | h
   ·simp at h
   ·have:=(qbG.mp h).1;simp at this
  ·have:=(qbG.mp h).1;simp at this
theorem qfr:∀ {E:qab} {i:Nat} {row:List (Nat×Nat)} {x:Nat×Nat},E[i]? = some row->(E.set i (row++[x])).flatten.Perm (x::E.flatten)
 | [],i,_,_,h=>by simp at h
 | a::E,0,row,x,h=>by
  simp at h;subst h;rw [List.set_cons_zero,List.flatten_cons,List.flatten_cons,List.append_assoc];exact List.perm_middle
 | a::E,i+1,row,x,h=>by
  have:=qfr (E:=E) (i:=i) (row:=row) (x:=x) (by simpa using h);rw [List.set_cons_succ,List.flatten_cons,List.flatten_cons];exact (List.Perm.append_left a this).trans List.perm_middle
structure DI (m:Nat)(E:qab)(e:Nat):Prop where
 len:E.length=m
 all:E.flatten.Perm (allE e)
 le:∀ (i:Nat) (row:List (Nat×Nat)),E[i]? = some row->row.length<=4
theorem DI.start (m:Nat):DI m (List.replicate m []) 0:=by
 refine ⟨by simp,by simp [allE],fun i a h=>?_⟩;rw [List.getElem?_replicate] at h;split at h
 ·cases h;simp
 ·cases h
theorem DI.tot {m:Nat}{E:qab}{e:Nat}(d:DI m E e):Mi.tot E=2*e:=by
 unfold Mi.tot;rw [<- List.length_flatten,d.all.length_eq,qid]
theorem DI.join {m a c e:Nat}{E:qab}{ra g:List (Nat×Nat)}(d:DI m E e)(ha:E[a]? = some ra)(i:ra.length<4)(hb:(E.set a (ra++[(e,0)]))[c]? = some g)(k:g.length<4):
  DI m ((E.set a (ra++[(e,0)])).set c (g++[(e,1)])) (e+1):=by
 refine ⟨by rw [List.length_set,List.length_set];exact d.len,?_,fun j f b=>?_⟩
 ·exact (qfr hb).trans (((qfr ha).trans (d.all.cons _)).cons _)
 ·by_cases z:c=j
  ·subst z;rw [List.getElem?_set_self (gE1.mp hb).1] at b;cases b;simp;lia
  ·rw [gS1 z] at b;by_cases h:a=j
   ·subst h;rw [List.getElem?_set_self (gE1.mp ha).1] at b;cases b;simp;lia
   ·rw [gS1 h] at b;exact d.le j f b
theorem of_W {h g c r:Nat}{B U:Sto}{xs:List D}{Q:D×Sto->Prop}(s:HS h g c B U)(hc:c<=2^45)(hr:U[r]? = some (.lst xs))(l:r≠h)(m:r≠g)(p:xs.length<=100)(o:0<xs.length)(hx:∀ x∈xs,x.und 0=true)
  (q:∀ x f,x∈xs->HS h g (c+1) B f->HS h g (c+1) U f->f.length=U.length->Q (x,f)):W (qaf 2 qbb [.ref h,.ref r] U) Q:=by
 refine qkL (c':=c+1) rfl rfl s ?_;unfold qbb;refine fnW ?_;unfold qgv;walk_at "own wq";refine qax hr ?_;dsimp only;have n:HS h g c U U:=HS.self s.hand s.shut;refine qby n (by lia) (by lia) (by lia) fun j f h1 h2 t u=>?_;have d:j<xs.length:=by lia
 refine qiM (i:=j) (h2.at hr l m) (gG1 d) ?_;exact ⟨h2,hx _ (List.getElem_mem d),fun k a b e=>q _ k (List.getElem_mem d) a b e⟩
theorem qpH {h g n b m i:Nat}{most:Int}{M U:Sto}{E:qab}{x6:Option D}{Q:Fl×Ev×Sto->Prop}(s:HS h g n M U)(hb:M.length=b)(hn:n<=2^44)(w:EW b m E U)(d:DI m E i)(hi:i+1<m)(hm:m<=8)
  (he:∀ (j:Nat) (row:List (Nat×Nat)),i+1<=j->E[j]? = some row->row=[])
  (q:∀ O N Y,HS h g (n+1) M N->EW b m O N->DI m O (i+1)->(∀ (j:Nat) (row:List (Nat×Nat)),i+2<=j->O[j]? = some row->row=[]) ->
   Q (.nx,[some (.ref h),some (.int most),some (.int m),some (.int ((i+1:Nat):Int)),some (.ref (b+m)),some (.int ((i+1:Nat):Int)),Y,none,none,none,none,none,none,none],N)):
  W (qbO [some (.ref h),some (.int most),some (.int m),some (.int (i:Int)),some (.ref (b+m)),some (.int ((i+1:Nat):Int)),x6,none,none,none,none,none,none,none] U) Q:=by
 have hh:=s.hl;have hg:=s.gl;have hbl:=s.len;have l:∀ j,j<m -> ∃ row,E[j]? = some row:=fun j t=>⟨_,gG1 (by rw [d.len];exact t)⟩
 let k:Nat->Bool:=fun j=>decide ((E.getD j []).length<4)
 unfold qbO;walk_at "own wq";rw [qiy,Int.toNat_natCast];refine ⟨qaW (by lia),?_⟩;refine qhf k (fun j:Nat=>.int j) (fun r=>∃ x,r=[x,some (.ref (b+m))]) rfl (List.range (i+1)) _ ⟨_,rfl⟩ ?_ ?_
 ·rintro j t r ⟨x,rfl⟩;have v:j<m:=by have:=List.mem_range.mp t;lia
  obtain ⟨row,f⟩:=l j v;walk_at "own wq";refine qew w v ?_;walk_at "own wq";refine qax (xs:=row.map pD) (w.row j row f) ?_;walk_at "own wq";refine ⟨?_,⟨_,rfl⟩,fun _=>trivial⟩;simp only [k,List.getD_eq_getElem?_getD,f,Option.getD_some,lM1];rw [Bool.eq_iff_iff,decide_eq_true_eq,decide_eq_true_eq];lia
 ·rintro r' _;walk_at "own wq";have C:(List.range (i+1)).filter k≠[]:=by
   intro z;have K:∀ (j:Nat) (row:List (Nat×Nat)),j<i+1->E[j]? = some row->4<=row.length:=fun j row t hr=>by
    have:=List.filter_eq_nil_iff.mp z j (List.mem_range.mpr t);simp only [k,List.getD_eq_getElem?_getD,hr,Option.getD_some,decide_eq_true_eq] at this;lia
   have:=qmq (E:=E) (k:=i+1) (by rw [d.len];lia) K;have:=d.tot;lia
  generalize hL:(List.range (i+1)).filter k=L at C;have P:∀ j∈L,j<i+1/\k j=true:=fun j t=>by
   rw [<- hL,List.mem_filter] at t;exact ⟨List.mem_range.mp t.1,t.2⟩
  have hLl:L.length<=8:=by
   rw [<- hL];have:=List.length_filter_le k (List.range (i+1));simp at this;lia
  refine ⟨qaj (by rw [lM1];lia),?_⟩;have s1:HS h g n M (U++[.lst (L.map fun j:Nat=>D.int j)]):=s.app fun o B=>by simp at B;subst B;rw [Ob.und];exact Mi.unds_map fun _ _=>rfl
  have V:HS h g n U (U++[.lst (L.map fun j:Nat=>D.int j)]):=(HS.self s.hand s.shut).app fun o B=>by simp at B;subst B;rw [Ob.und];exact Mi.unds_map fun _ _=>rfl
  refine of_W s1 (by lia) (xs:=L.map fun j:Nat=>D.int j) (by rw [qaC];rfl) (by lia) (by lia) (by rw [lM1];lia) (by rw [lM1];exact List.length_pos_iff.mpr C) (fun x X=>by obtain ⟨y,_,rfl⟩:=List.mem_map.mp X;rfl) fun x U2 X s2 T l2=>?_;obtain ⟨j,t,rfl⟩:=List.mem_map.mp X;obtain ⟨hj1,G⟩:=P j t;obtain ⟨row,f⟩:=l j (by lia);have S:row.length<4:=by
   simp only [k,List.getD_eq_getElem?_getD,f,Option.getD_some,decide_eq_true_eq] at G;exact G
  obtain ⟨rb,A⟩:=l (i+1) hi;have F:=he (i+1) rb (nR1 _) A;subst F;have Z:EW b m E U2:=(w.over V (by lia) (by lia)).over T (by lia) (by lia);have u:j≠i+1:=by lia
  walk_at "own wq";refine qhP (a:=j) (c:=i+1) (e:=i) Z (by lia) hi f (by lia) A (by simp) (fun z=>?_) fun _ _ R p=>?_
  ·rw [if_neg u] at z;simp at z;lia
  ·have H:R=[]:=by
    rw [gS1 u,A] at p;cases p;rfl
   subst H;have w3:=(Z.setRow (row:=row++[(i,0)]) (show j<m by lia)).setRow (row:=[]++[(i,1)]) hi;have s3:=(s2.set (i:=b+j) (o:=qds (row++[(i,0)])) (by lia) qda).set (i:=b+(i+1)) (o:=qds ([]++[(i,1)])) (by lia) qda;refine q _ _ _ s3 w3 (d.join f S p (by simp)) fun j' J v I=>?_;rw [gS1 (by lia),gS1 (by lia)] at I;exact he j' J (by lia) I
theorem qq6 {h g n b m e:Nat}{most:Int}{A U:Sto}{E:qab}{G J I L:Option D}{Q:Fl×Ev×Sto->Prop}(s:HS h g n A U)(hb:A.length=b)(hn:n<=2^44)(w:EW b m E U)(d:DI m E e)(N:0<m)(hm:m<=8)
  (q:∀ C t r y,HS h g (n+2) A t->EW b m C t->DI m C r->r<=e+1 ->
   Q (.nx,[some (.ref h),some (.int most),some (.int m),some (.int (r:Nat)),some (.ref (b+m)),G,J,I,y,none,none,none,none,none],t)):
  W (qbN [some (.ref h),some (.int most),some (.int m),some (.int (e:Nat)),some (.ref (b+m)),G,J,I,L,none,none,none,none,none] U) Q:=by
 have hh:=s.hl;have hg:=s.gl;have M:=s.len;have f:∀ j,j<m -> ∃ row,E[j]? = some row:=fun j S=>⟨_,gG1 (by rw [d.len];exact S)⟩;unfold qbN;walk_at "own wq";refine qby s (by lia) (by lia) (by lia) fun a U1 R x Y X=>?_;walk_at "own wq";refine qby R (by lia) (by lia) (by lia) fun c U2 H v Z hc=>?_;have u:EW b m E U2:=(w.over x (by lia) (by lia)).over v (by lia) (by lia);obtain ⟨ra,p⟩:=f a (by lia);obtain ⟨K,l⟩:=f c (by lia);walk_at "own wq";refine qhP (a:=a) (c:=c) (e:=e) u (by lia) (by lia) p (d.le a ra p) l (d.le c K l) (fun _=>?_) fun F c2 B k=>?_
 ·exact q E U2 e _ H u d (by lia)
 ·have V:B.length<4:=by
   by_cases z:a=c
   ·subst z;rw [List.getElem?_set_self (by rw [d.len];lia)] at k;cases k;rw [if_pos rfl] at F;simp;lia
   ·rw [gS1 z,l] at k;cases k;lia
  have T:ra.length<4:=by split at F<;>lia
  have P:=(u.setRow (row:=ra++[(e,0)]) (show a<m by lia)).setRow (row:=B++[(e,1)]) (show c<m by lia);have O:=(H.set (i:=b+a) (o:=qds (ra++[(e,0)])) (by lia) qda).set (i:=b+c) (o:=qds (B++[(e,1)])) (by lia) qda;exact q _ _ (e+1) _ O P (d.join p T k V) (by lia)
noncomputable def At (R:qab)(r d:Nat)(x:Nat×Nat):Prop:=∃ row,R[r]? = some row/\row[d]? = some x
theorem At.mem {R:qab}{r d:Nat}{x:Nat×Nat}(h:At R r d x):x∈R.flatten:=by
 obtain ⟨a,h1,h2⟩:=h;exact List.mem_flatten.mpr ⟨a,gM1 h1,gM1 h2⟩
theorem qkO {R:qab}{x:Nat×Nat}(h:x∈R.flatten):∃ p:Nat×Nat,At R p.1 p.2 x:=by
 obtain ⟨a,h1,h2⟩:=List.mem_flatten.mp h;obtain ⟨r,b⟩:=List.getElem?_of_mem h1;obtain ⟨d,hd⟩:=List.getElem?_of_mem h2;exact ⟨(r,d),a,b,hd⟩
theorem qf2 {α:Type}:∀ {l:List α} {i j:Nat} {x:α},l.Nodup->l[i]? = some x->l[j]? = some x->i=j
 | [],i,j,x,_,h,_=>by simp at h
 | a::l,0,0,x,_,_,_=>rfl
 | a::l,0,j+1,x,n,h1,h2=>by
  simp at h1 h2;subst h1;exact absurd (gM1 h2) (List.nodup_cons.mp n).1
 | a::l,i+1,0,x,n,h1,h2=>by
  simp at h1 h2;subst h2;exact absurd (gM1 h1) (List.nodup_cons.mp n).1
 | a::l,i+1,j+1,x,n,h1,h2=>by
  exact congrArg (· + 1) (qf2 (i:=i) (j:=j) (x:=x) (List.nodup_cons.mp n).2 (by simpa using h1) (by simpa using h2))
theorem qfA:∀ {R:qab} {r d b d':Nat} {x:Nat×Nat},R.flatten.Nodup->At R r d x->At R b d' x->r=b/\d=d'
 | [],r,d,b,d',x,_,⟨_,h,_⟩,_=>by simp at h
 | a::R,r,d,b,d',x,n,⟨row,h1,h2⟩,⟨row',h1',h2'⟩=>by
  rw [List.flatten_cons,List.nodup_append] at n;cases r with
  | zero=>
   simp at h1;subst h1;cases b with
   | zero=>
    simp at h1';subst h1';exact ⟨rfl,qf2 n.1 h2 h2'⟩
   | succ b=>
    have m1:x∈R.flatten:=List.mem_flatten.mpr ⟨row',gM1 (by simpa using h1'),gM1 h2'⟩;exact absurd rfl (n.2.2 x (gM1 h2) x m1)
  | succ r=>
   cases b with
   | zero=>
    simp at h1';subst h1';have m1:x∈R.flatten:=List.mem_flatten.mpr ⟨row,gM1 (by simpa using h1),gM1 h2⟩;exact absurd rfl (n.2.2 x (gM1 h2') x m1)
   | succ b=>
    obtain ⟨e,c⟩:=qfA (R:=R) n.2.1 ⟨row,by simpa using h1,h2⟩ ⟨row',by simpa using h1',h2'⟩;exact ⟨by rw [e],c⟩
open Classical in
noncomputable def plc (R:qab)(x:Nat×Nat):Nat×Nat:=if h:∃ p:Nat×Nat,At R p.1 p.2 x then Classical.choose h else (0,0)
theorem qhB {R:qab}{x:Nat×Nat}(h:x∈R.flatten):At R (plc R x).1 (plc R x).2 x:=by
 have h':=qkO h;unfold plc;rw [dif_pos h'];exact Classical.choose_spec h'
theorem qqg {R:qab}{r d:Nat}{x:Nat×Nat}(n:R.flatten.Nodup)(h:At R r d x):plc R x=(r,d):=by
 obtain ⟨b,a⟩:=qfA n (qhB h.mem) h;exact Prod.ext b a
noncomputable def opp (x:Nat×Nat):Nat×Nat:=(x.1,1-x.2)
noncomputable def webR (R:qab):qab:=R.map fun row=>row.map fun x=>plc R (opp x)
structure WebG (m:Nat)(w:qab):Prop where
 len:w.length=m
 le:∀ row∈w,row.length<=4
 back:∀ r d p,At w r d p->At w p.1 p.2 (r,d)
 ne:∀ r d p,At w r d p->p≠(r,d)
theorem qgy {R:qab}{r d:Nat}{p:Nat×Nat}:At (webR R) r d p ↔ ∃ x,At R r d x/\p=plc R (opp x):=by
 unfold At webR;constructor
 ·rintro ⟨b,h1,h2⟩;rw [gP1] at h1;obtain ⟨a,e,rfl⟩:=oM1.mp h1;rw [gP1] at h2;obtain ⟨x,c,rfl⟩:=oM1.mp h2;exact ⟨x,⟨a,e,c⟩,rfl⟩
 ·rintro ⟨x,⟨b,h1,h2⟩,rfl⟩;exact ⟨b.map fun x=>plc R (opp x),by rw [gP1,h1];rfl,by rw [gP1,h2];rfl⟩
theorem qnk {m e:Nat}{R:qab}(d:DI m R e):WebG m (webR R):=by
 have n:R.flatten.Nodup:=d.all.nodup_iff.mpr (qdt e);have opp_mem:∀ x,x∈R.flatten->opp x∈R.flatten/\opp (opp x)=x/\opp x≠x:=fun x c=>by
  have:=qbG.mp (d.all.mem_iff.mp c);obtain ⟨a,b⟩:=x;simp at this;refine ⟨d.all.mem_iff.mpr (qbG.mpr ⟨this.1,by simp [opp]⟩),?_,?_⟩
  ·simp [opp];lia
  ·simp [opp];lia
 refine ⟨by unfold webR;rw [lM1];exact d.len,?_,?_,?_⟩
 ·intro f l;obtain ⟨r,h,rfl⟩:=List.mem_map.mp l;obtain ⟨i,hi⟩:=List.getElem?_of_mem h;rw [lM1];exact d.le i r hi
 ·intro r s p g;obtain ⟨x,c,rfl⟩:=qgy.mp g;obtain ⟨h1,h2,_⟩:=opp_mem x c.mem;exact qgy.mpr ⟨opp x,qhB h1,by rw [h2,qqg n c]⟩
 ·intro r s p g z;obtain ⟨x,c,rfl⟩:=qgy.mp g;obtain ⟨h1,_,o⟩:=opp_mem x c.mem;have k:=qhB h1;rw [z] at k;obtain ⟨f,q,t⟩:=c;obtain ⟨j,b1,b2⟩:=k;rw [q] at b1;cases b1;rw [t] at b2;exact o (Option.some.inj b2).symm
theorem qls {f:Nat×Nat->D}:∀ {a b:List D},a.Perm b -> ∀ l:List (Nat×Nat),b=l.map f -> ∃ c:List (Nat×Nat),a=c.map f/\c.Perm l:=by
 intro a b h
 induction h with
 | nil=>intro l e;exact ⟨[],rfl,by cases l with | nil=>exact .refl _ | cons _ _=>simp at e⟩
 | cons x _ ih=>
  intro l e;cases l with
  | nil=>simp at e
  | cons y l=>
   simp at e;obtain ⟨c,d,p⟩:=ih l e.2;exact ⟨y::c,by rw [mP1,e.1,d],p.cons y⟩
 | swap x y o=>
  intro l e
  match l,e with
  | a::b::l,e=>
   simp at e;exact ⟨b::a::l,by rw [mP1,mP1,e.1,e.2.1,e.2.2],List.Perm.swap _ _ _⟩
 | trans _ _ i g=>
  intro l e;obtain ⟨m,d,j⟩:=g l e;obtain ⟨n,k,p2⟩:=i m d;exact ⟨n,k,p2.trans j⟩
theorem qfP:∀ (k n:Nat),refs n (k+1)=refs n k++[.ref (n+k)]
 | 0,n=>rfl
 | k+1,n=>by
  rw [refs,qfP k (n+1),refs,List.cons_append,show n+1+k=n+(k+1) by lia]
theorem qle {n k m:Nat}(h:n+k<=m):D.unds m (refs n k)=true:=by
 induction k generalizing n with
 | zero=>rfl
 | succ k ih=>rw [refs,D.unds,ih (by lia),D.und];simp;lia
theorem ql7 {U:Sto}{m:Nat}:EW U.length m (List.replicate m []) (U++(List.replicate m (.lst [])++[.lst (refs U.length m)])):=by
 refine ⟨by simp,fun i a h=>?_,?_⟩
 ·have hi:i<m:=by have:=(gE1.mp h).1;simpa using this
  rw [List.getElem?_replicate,if_pos hi] at h;cases h;rw [qcb,gL1 (by simpa using hi),List.getElem?_replicate,if_pos hi];rfl
 ·rw [qcb,gR1 (by simp)];simp
structure qiR (b:Nat)(ks:List Nat)(R:qab)(V:Sto):Prop where
 len:ks.length=R.length
 at_:∀ (i k:Nat) (row:List (Nat×Nat)),ks[i]? = some k->R[i]? = some row->V[k]? = some (qds row)
 low:∀ k∈ks,b<=k
theorem qiR.over {h g n b:Nat}{ks:List Nat}{R:qab}{U V:Sto}(e:qiR b ks R U)(s:HS h g n U V)(c:h<b)(hg:g<b):qiR b ks R V:=
 ⟨e.len,fun i k a h1 h2=>s.at (e.at_ i k a h1 h2) (by have:=e.low k (gM1 h1);lia) (by have:=e.low k (gM1 h1);lia),e.low⟩
noncomputable def refD (k:Nat):D:=.ref k
theorem qge:∀ {R E:qab},R.length=E.length->(∀ (i:Nat) (r e:List (Nat×Nat)),R[i]? = some r->E[i]? = some e->r.Perm e)->R.flatten.Perm E.flatten
 | [],[],_,_=>.refl _
 | [],_::_,h,_=>by simp at h
 | _::_,[],h,_=>by simp at h
 | r::R,e::E,h,q=>by
  rw [List.flatten_cons,List.flatten_cons];exact (q 0 r e rfl rfl).append (qge (by simpa using h) fun i a b h1 h2=>q (i+1) a b (by simpa using h1) (by simpa using h2))
theorem qo8 {h g n b m e:Nat}{M U:Sto}{E:qab}{Q:List D×Ev×Sto->Prop}(s:HS h g n M U)(hb:M.length=b)(hn:n<=2^44)(w:EW b m E U)(d:DI m E e)(hm:m<=8)
  (q:∀ ks R V x,HS h g (n+40) M V->qiR b ks R V->DI m R e->(∀ k∈ks,k<V.length)->Q (ks.map refD,[x,some (.ref h)],V)):
  W (qch [(b+m,refs b m)] (gN 0) qb3 (qbh (mN (qaf 2 qaF) (qaa (mV 1) (qaa (mV 0) mNil)))) (refs b m) [none,some (.ref h)] U) Q:=by
 have hh:=s.hl;have hg:=s.gl;have Z:=s.len;have f:∀ j,j<m -> ∃ row,E[j]? = some row:=fun j p=>⟨_,gG1 (by rw [d.len];exact p)⟩;refine qcx (fun i C r S=>∃ ks R x,i<=m/\HS h g (n+5*i) M S/\EW b m E S/\C=ks.map refD/\r=[x,some (.ref h)]/\ks.length=i/\qiR b ks R S/\(∀ (j:Nat) (r e:List (Nat×Nat)),R[j]? = some r->E[j]? = some e->r.Perm e)/\(∀ k∈ks,k<S.length)) (refs b m) 0 [] _ _ ⟨[],[],none,by lia,s,w,rfl,rfl,rfl,⟨rfl,fun i k row h1=>by simp at h1,fun k o=>by simp at o⟩,fun j r e h1=>by simp at h1,fun k o=>by simp at o⟩ ?_ ?_ ?_
 ·rintro i C r S ⟨ks,R,x,_,_,G,_⟩;exact qbA G.ends
 ·rintro i dd hd C r S ⟨ks,R,x,hi,H,G,rfl,rfl,o,a,L,A⟩;have u:=(gE1.mp hd).1;rw [qdW] at u;rw [qgK u] at hd;cases hd;rw [Nat.zero_add] at *
  obtain ⟨row,l⟩:=f i u;have hrl:=d.le i row l;walk_at "own wq";refine qjM H (by lia) (G.row i row l) (by lia) (by lia) (by rw [lM1];lia) (Mi.unds_map fun _ _=>rfl) fun k ys V T t hkl I P=>?_;rw [lM1] at T t;obtain ⟨c,rfl,N⟩:=qls P row rfl;have hSl:=H.len;have J:=a.over t (by lia) (by lia);refine ⟨ks++[k],R++[c],_,by lia,T.more (by lia),G.over t (by lia) (by lia),by simp [refD],rfl,by simp [o],⟨by simp [a.len],fun j F O h1 h2=>?_,fun F v=>?_⟩,fun j O e' h1 h2=>?_,fun F v=>?_⟩
  ·by_cases p:j<ks.length
   ·rw [gL1 p] at h1;rw [gL1 (by rw [<- a.len];exact p)] at h2;exact J.at_ j F O h1 h2
   ·have y:j=ks.length:=by have:=(gE1.mp h1).1;simp at this;lia
    subst y;rw [List.getElem?_concat_length] at h1;rw [a.len,List.getElem?_concat_length] at h2;cases h1;cases h2;exact I
  ·rcases List.mem_append.mp v with z | z
   ·exact a.low F z
   ·simp at z;lia
  ·by_cases p:j<R.length
   ·rw [gL1 p] at h1;exact L j O e' h1 h2
   ·have y:j=R.length:=by have:=(gE1.mp h1).1;simp at this;lia
    subst y;rw [List.getElem?_concat_length] at h1;cases h1;rw [<- a.len,o,l] at h2;cases h2;exact N
  ·have Y:=t.len;show F<V.length;rcases List.mem_append.mp v with z | z
   ·have:=A F z;lia
   ·simp at z;subst z;exact (gE1.mp I).1
 ·rintro xs r S ⟨ks,R,x,hi,H,G,X,rfl,o,a,L,A⟩;rw [List.nil_append] at X;subst X;rw [Nat.zero_add,qdW] at H o;have B:R.length=E.length:=by rw [<- a.len,o,d.len]
  have dR:DI m R e:=⟨by rw [B];exact d.len,(qge B L).trans d.all,fun j row p=>by
   obtain ⟨c,K⟩:=f j (by rw [<- d.len,<- B];exact (gE1.mp p).1);rw [(L j row c p K).length_eq];exact d.le j c K⟩
  exact q ks R S x (H.more (by lia)) a dR A
theorem qiP {m:FA}{r:Ev}{S:Sto}{Q:Itm×Sto->Prop}{d:D}{S1:Sto}(h:m r S=some ([d],S1))(q:sW S1 d fun p=>Q (⟨enD 0 p.1,p.2⟩,S1)):W (iEn m r S) Q:=by
 unfold iEn;rw [h,oS1];dsimp only;rw [qah];exact W.mono (show W (qap S1 d) _ from q) fun z w=>qag.mpr w
theorem qfb {F:List (TK×D)}{k:TK}{v:D}{n:Nat}(h:∀ p∈F,p.2.und n=true)(hv:v.und n=true):∀ p∈putD F k v,p.2.und n=true:=by
 intro p a;unfold putD at a;split at a
 ·obtain ⟨q,b,rfl⟩:=List.mem_map.mp a;split
  ·exact hv
  ·exact h q b
 ·rcases List.mem_append.mp a with z | z
  ·exact h p z
  ·simp at z;subst z;exact hv
theorem qp0 {V:Sto}{pl k r:Nat}{F:List (TK×D)}{R:qab}{row:List (Nat×Nat)}{w o1 o2 o3 A o6 B H t I G:Option D}{Q:Fl×Ev×Sto->Prop}(L:R.flatten.Nodup)(hr:R[r]? = some row)(hpl:pl<V.length)(hk:V[k]? = some (qds row))(m:k≠pl)(U:F.length+row.length<500)
  (P:∀ p∈F,p.2.und 0=true) (s:∀ b d x,b<r->At R b d x->qao F (tkP x)=some (pD (b,d)))
  (q:∀ c g f,c.length<=F.length+row.length->(∀ p∈c,p.2.und 0=true)->(∀ b d x,b<r+1->At R b d x->qao c (tkP x)=some (pD (b,d))) ->
   Q (.nx,[w,o1,o2,o3,A,some (.int (r:Nat)),o6,B,H,t,some (.ref pl),some (.ref k),g,f],V.set pl (dO c))):
  W (qbM [w,o1,o2,o3,A,some (.int (r:Nat)),o6,B,H,t,some (.ref pl),some (.ref k),I,G] (V.set pl (dO F))) Q:=by
 unfold qbM mFor;rw [qah];refine qiP (d:=.ref k) (S1:=V.set pl (dO F)) rfl ?_;refine qax (xs:=row.map pD) (by rw [gS1 m.symm];exact hk) ?_;refine qaA (fun i b S=>∃ c g f,i<=row.length/\c.length<=F.length+i/\(∀ p∈c,p.2.und 0=true)/\S=V.set pl (dO c)/\b=[w,o1,o2,o3,A,some (.int (r:Nat)),o6,B,H,t,some (.ref pl),some (.ref k),g,f]/\(∀ b d x,b<r->At R b d x->qao c (tkP x)=some (pD (b,d)))/\(∀ d x,d<i->row[d]? = some x->qao c (tkP x)=some (pD (r,d)))) _ 0 _ _ ⟨F,_,_,by lia,by lia,P,rfl,rfl,s,fun d x hd=>by lia⟩ ?_ ?_ ?_
 ·rintro i b S ⟨c,_,_,_,_,_,rfl,_⟩;exact qbA (by rw [gS1 m.symm];exact hk)
 ·rintro i X hd b S ⟨c,u,C,hi,E,j,rfl,rfl,h1,h2⟩;dsimp only at hd;rw [qce,gP1] at hd;obtain ⟨z,T,rfl⟩:=oM1.mp hd;obtain ⟨x,l,rfl⟩:=oM1.mp T;have O:=(gE1.mp l).1;rw [Nat.zero_add] at *
  walk_at "own wq";unfold qcL;walk_at "own wq";refine qeV (F:=c) (by rw [List.getElem?_set_self hpl]) qaU (by lia) ?_;have n:At R r i x:=⟨row,hr,l⟩;refine ⟨putD c (tkP x) (pD (r,i)),_,_,by lia,by have:=qjx (k:=tkP x) (v:=pD (r,i)) (a:=c);lia,qfb j rfl,by rw [List.set_set];rfl,rfl,fun b d y o h=>?_,fun d y N h=>?_⟩
  ·rw [qde];by_cases e:tkP y=tkP x
   ·have:=qdn e;subst this;have:=(qfA L h n).1;lia
   ·rw [if_neg e];exact h1 b d y o h
  ·rw [qde];by_cases e:tkP y=tkP x
   ·have:=qdn e;subst this;have:=(qfA L ⟨row,hr,h⟩ n).2;subst this;rw [if_pos rfl]
   ·rw [if_neg e];by_cases z:d<i
    ·exact h2 d y z h
    ·have:d=i:=by lia
     subst this;rw [l] at h;cases h;exact absurd rfl e
 ·rintro b S ⟨c,u,C,hi,E,j,rfl,rfl,h1,h2⟩;rw [qcd,lM1,Nat.zero_add] at E h2;refine q c _ _ E j fun b d x o l=>?_;by_cases z:b<r
  ·exact h1 b d x z l
  ·have:b=r:=by lia
   subst this;obtain ⟨M,J,K⟩:=l;rw [hr] at J;cases J;exact h2 d x (gE1.mp K).1 K
theorem qh3 {F:List (TK×D)}{n:Nat}(h:∀ p∈F,p.2.und n=true):(dO F).und n=true:=by
 unfold dO;split
 ·rfl
 ·rw [Ob.und];exact Mi.unds_map fun p a=>h p a
theorem lpD {R:qab}{x:Nat×Nat}:dW (webR R) = .tup (R.map fun a=>.tup (a.map fun x=>pD (plc R (opp x)))):=by
 unfold dW webR;simp only [List.map_map]
 congr 1
 apply List.map_congr_left;intro a _;simp only [Function.comp_apply,dR,List.map_map];rfl
theorem qhi {h g c most:Nat}{B U:Sto}{Q:D×Sto->Prop}(s:HS h g c B U)(hc:c<=2^40)(hm0:0<most)(hm8:most<=8)
  (q:∀ m w U',0<m->m<=most->WebG m w->HS h g (c+200) B U'->HS h g (c+200) U U'->U'.length=U.length->Q (dW w,U')):W (qaf 2 qaG [.ref h,.int most] U) Q:=by
 have hh:=s.hl;have hg:=s.gl;have hbl:=s.len;refine qkL (c':=c+200) rfl rfl s ?_;have s0:HS h g c U U:=HS.self s.hand s.shut;unfold qaG;refine fnW ?_;unfold qdO;refine seqW (fun r S=>∃ m,0<m/\m<=most/\HS h g (c+1) U S/\S.length=U.length/\r=[some (.ref h),some (.int most),some (.int (m:Nat)),some (.int ((0:Nat):Int)),none,none,none,none,none,none,none,none,none,none]) ?_ ?_
 ·walk_at "own wq";refine qby s0 (by lia) (by lia) (by lia) fun k U1 s1 _ l1 T=>?_;walk_at "own wq";exact ⟨k+1,by lia,by lia,s1,l1,by simp [Int.add_comm]⟩
 rintro r S ⟨m,m0,mm,s1,l1,rfl⟩;refine seqW (fun r V=>HS h g (c+1) U V/\EW U.length m (List.replicate m []) V/\r=[some (.ref h),some (.int most),some (.int (m:Nat)),some (.int ((0:Nat):Int)),some (.ref (U.length+m)),none,none,none,none,none,none,none,none,none]) ?_ ?_
 ·walk_at "own wq";refine ⟨qaW (by lia),?_⟩;rw [Int.toNat_natCast];refine qcx (fun i K r V=>K=refs U.length i/\V=S++List.replicate i (.lst []) /\ ∃ x,r=[x]) (nums 0 m) 0 [] _ _ ⟨rfl,by simp,_,rfl⟩ (fun _ _ _ _ _=>rfl) ?_ ?_
  ·rintro i d hd K r V ⟨rfl,rfl,x,rfl⟩;walk_at "own wq";rw [Nat.zero_add];refine ⟨?_,?_,_,rfl⟩
   ·rw [qfP,l1,lR1]
   ·rw [List.replicate_succ']
  ·rintro xs r V ⟨e,rfl,_⟩;rw [List.nil_append,Nat.zero_add,qay] at e;subst e;rw [Nat.zero_add,qay];walk_at "own wq";rw [qdW];refine ⟨qaj (by lia),s1.app fun o J=>?_,?_,?_⟩
   ·rcases List.mem_append.mp J with z | z
    ·rw [List.eq_of_mem_replicate z];rfl
    ·simp at z;subst z;rw [Ob.und];exact qle (by simp [l1])
   ·have:=ql7 (U:=S) (m:=m);rw [l1] at this;exact this
   ·simp [l1]
 rintro r V ⟨sV,w0,rfl⟩;refine seqW (fun r V=>∃ E n t,HS h g (c+20) U V/\EW U.length m E V/\DI m E (m-1)/\r=[some (.ref h),some (.int most),some (.int (m:Nat)),some (.int ((m-1:Nat):Int)),some (.ref (U.length+m)),n,t,none,none,none,none,none,none,none]) ?_ ?_
 ·walk_at "own wq";refine ⟨qr3 (by decide) (by decide),qaW (by lia),?_⟩;refine qaA (fun i r V=>i<=m-1 /\ ∃ E n t,HS h g (c+1+i) U V/\EW U.length m E V/\DI m E i/\(∀ (j:Nat) (row:List (Nat×Nat)),i+1<=j->E[j]? = some row->row=[])/\r=[some (.ref h),some (.int most),some (.int (m:Nat)),some (.int (i:Nat)),some (.ref (U.length+m)),n,t,none,none,none,none,none,none,none]) _ 0 _ _ ?_ (fun _ _ _ _=>rfl) ?_ ?_
  ·refine ⟨by lia,_,none,none,sV,w0,DI.start m,fun j row _ hr=>?_,rfl⟩;rw [List.getElem?_replicate] at hr;split at hr
   ·cases hr;rfl
   ·cases hr
  ·rintro i d hd r V ⟨hi,E,n,t,I,w,O,he,rfl⟩;have C:=(gE1.mp hd).1;rw [qay] at C;have hd':d = .int ((i+1:Nat):Int):=by
    rw [qgV,gP1,List.getElem?_range C] at hd;simp at hd;rw [<- hd]
    push_cast
    congr 1
    lia
   subst hd';rw [Nat.zero_add] at *
   walk_at "own wq";refine qpH I rfl (by lia) w O (by lia) (by lia) he fun E' V' x6' s' w' d' he'=>?_;exact ⟨rfl,by lia,E',_,_,s',w',d',he',rfl⟩
  ·rintro r V ⟨hi,E,n,t,I,w,O,he,rfl⟩;rw [qay] at *
   have e1:0+((m:Int)-1).toNat=m-1:=by lia
   rw [e1] at I O;rw [e1];exact ⟨rfl,E,_,_,I.more (by lia),w,O,rfl⟩
 rintro r V ⟨E,n,t,I,w,O,rfl⟩;refine seqW (fun r V=>∃ E e n t M N,HS h g (c+60) U V/\EW U.length m E V/\DI m E e/\e<=20/\r=[some (.ref h),some (.int most),some (.int (m:Nat)),some (.int (e:Nat)),some (.ref (U.length+m)),n,t,M,N,none,none,none,none,none]) ?_ ?_
 ·walk_at "own wq";refine qby I (by lia) (by lia) (by lia) fun k V1 s1 s1' l1 T=>?_;walk_at "own wq";have hVl:=I.len;refine ⟨qaW (by lia),?_⟩;rw [Int.toNat_natCast];refine qaA (fun i r V=>i<=k /\ ∃ E e n t M N,HS h g (c+21+2*i) U V/\EW U.length m E V/\DI m E e/\e<=8+i/\r=[some (.ref h),some (.int most),some (.int (m:Nat)),some (.int (e:Nat)),some (.ref (U.length+m)),n,t,M,N,none,none,none,none,none]) _ 0 _ _ ⟨by lia,E,m-1,_,_,_,_,s1,w.over s1' (by lia) (by lia),O,by lia,rfl⟩ (fun _ _ _ _=>rfl) ?_ ?_
  ·rintro i d hd r V ⟨hi,E,e,n,t,M,N,I,w,O,he,rfl⟩;have C:=(gE1.mp hd).1;rw [qay] at C;rw [Nat.zero_add] at *
   walk_at "own wq";refine qq6 I rfl (by lia) w O m0 (by lia) fun E' V' e' x8' s' w' d' he'=>?_;exact ⟨rfl,by lia,E',e',_,_,_,_,s',w',d',by lia,rfl⟩
  ·rintro r V ⟨hi,E,e,n,t,M,N,I,w,O,he,rfl⟩;rw [qay,Nat.zero_add] at *
   exact ⟨rfl,E,e,_,_,_,_,I.more (by lia),w,O,by lia,rfl⟩
 rintro r V ⟨E,e,n,t,M,N,I,w,O,he,rfl⟩;refine seqW (fun r V=>∃ ks R n t M N u,HS h g (c+100) U V/\qiR U.length ks R V/\DI m R e/\(∀ k∈ks,k<u)/\U.length<=u/\V.length=u+1/\V[u]? = some (.lst (ks.map refD))/\r=[some (.ref h),some (.int most),some (.int (m:Nat)),some (.int (e:Nat)),some (.ref (U.length+m)),n,t,M,N,some (.ref u),none,none,none,none]) ?_ ?_
 ·walk_at "own wq";refine qax w.ends ?_;refine qo8 I rfl (by lia) w O (by lia) fun ks R V2 x s2 v dR Y=>?_;walk_at "own wq";have hl2:=s2.len;refine ⟨qaj (by rw [lM1,v.len,dR.len];lia),ks,R,_,_,_,_,V2.length,s2.app fun o J=>?_,⟨v.len,fun i k row h1 h2=>?_,v.low⟩,dR,Y,hl2,by simp,by rw [List.getElem?_concat_length],rfl⟩
  ·simp at J;subst J;rw [Ob.und];refine Mi.unds_map fun k T=>?_;have:=Y k T;simp [refD,D.und];lia
  ·have:=v.at_ i k row h1 h2;rw [gL1 (gE1.mp this).1];exact this
 rintro r V ⟨ks,R,n,t,M,N,u,sV,T,dR,Y,hdp,hVl,P,rfl⟩;have nd:R.flatten.Nodup:=dR.all.nodup_iff.mpr (qdt e);refine seqW (fun r V1=>V1=V++[.dct []]/\r=[some (.ref h),some (.int most),some (.int (m:Nat)),some (.int (e:Nat)),some (.ref (U.length+m)),n,t,M,N,some (.ref u),some (.ref V.length),none,none,none]) ?_ ?_
 ·((try walk_at "own wq");repeat (simp only [qf5];try walk_at "own wq"))
 rintro r V1 ⟨rfl,rfl⟩;generalize Z:V++[Ob.dct []]=V1;have hpl:V.length<V1.length:=by rw [<- Z];simp
 have sV1:HS h g (c+100) U V1:=by rw [<- Z];exact sV.app fun o J=>by simp at J;subst J;rfl
 have H:∀ (i:Nat) (o:Ob),V[i]? = some o->V1[i]? = some o:=fun i o hi=>by rw [<- Z,gL1 (gE1.mp hi).1];exact hi
 have hset0:V1=V1.set V.length (dO []):=by
  have:V1[V.length]? = some (dO []):=by rw [<- Z,List.getElem?_concat_length];rfl
  obtain ⟨hl,hx⟩:=gE1.mp this;rw [<- hx,List.set_getElem_self]
 refine seqW (fun r V2=>∃ F n x11 x12 x13,V2=V1.set V.length (dO F)/\(∀ X d x,At R X d x->qao F (tkP x)=some (pD (X,d)))/\(∀ p∈F,p.2.und 0=true)/\r=[some (.ref h),some (.int most),some (.int (m:Nat)),some (.int (e:Nat)),some (.ref (U.length+m)),n,t,M,N,some (.ref u),some (.ref V.length),x11,x12,x13]) ?_ ?_
 ·unfold mFor;rw [qah];refine qiP (d:=.ref u) (S1:=V1) rfl ?_;refine qax (H u _ P) ?_;refine qaA (fun i r V2=>∃ F n x11 x12 x13,i<=m/\F.length<=4*i/\V2=V1.set V.length (dO F)/\(∀ X d x,X<i->At R X d x->qao F (tkP x)=some (pD (X,d)))/\(∀ p∈F,p.2.und 0=true)/\r=[some (.ref h),some (.int most),some (.int (m:Nat)),some (.int (e:Nat)),some (.ref (U.length+m)),n,t,M,N,some (.ref u),some (.ref V.length),x11,x12,x13]) _ 0 _ _ ⟨[],_,_,_,_,by lia,by simp,hset0,fun X d x hr=>by lia,fun p hp=>by simp at hp,rfl⟩ ?_ ?_ ?_
  ·rintro i r V2 ⟨F,_,_,_,_,_,_,rfl,_⟩;exact qbA (by rw [gS1 (by lia)];exact H u _ P)
  ·rintro i dd hd r V2 ⟨F,y5,y11,y12,y13,hi,hF,rfl,h1,hu,rfl⟩;dsimp only at hd;rw [qce,gP1] at hd;obtain ⟨z,hz,rfl⟩:=oM1.mp hd;obtain ⟨k,L,rfl⟩:=oM1.mp hz;have hlt:=(gE1.mp L).1;rw [Nat.zero_add] at *
   obtain ⟨row,f⟩:∃ row,R[i]? = some row:=⟨_,gG1 (by rw [<- T.len];exact hlt)⟩;have him:i<m:=by rw [<- dR.len,<- T.len];exact hlt
   have hkd:=Y k (gM1 L);have hrl:=dR.le i row f
   ((try walk_at "own wq");repeat (simp only [refD];try walk_at "own wq"))
   refine qp0 (r:=i) nd f hpl (H k _ (T.at_ i k row L f)) (by lia) (by lia) hu h1 fun F' o12 o13 hl hu' h1'=>?_;exact ⟨rfl,F',_,_,_,_,by lia,by lia,rfl,h1',hu',rfl⟩
  ·rintro r V2 ⟨F,y5,y11,y12,y13,hi,hF,rfl,h1,hu,rfl⟩;rw [qcd,lM1,Nat.zero_add] at h1;refine ⟨rfl,F,_,_,_,_,rfl,fun X d x hx=>h1 X d x ?_ hx,hu,rfl⟩;obtain ⟨row,e1,_⟩:=hx;rw [T.len];exact (gE1.mp e1).1
 rintro r V2 ⟨F,y5,y11,y12,y13,rfl,hF,hu,rfl⟩;generalize hV2:V1.set V.length (dO F)=V2;have sV2:HS h g (c+100) U V2:=by rw [<- hV2];exact sV1.set (by lia) (qh3 fun p hp=>qc5 (hu p hp))
 have A:∀ (i:Nat) (o:Ob),V[i]? = some o->V2[i]? = some o:=fun i o hi=>by
  rw [<- hV2,gS1 (by have:=(gE1.mp hi).1;lia)];exact H i o hi
 have hplc:V2[V.length]? = some (dO F):=by rw [<- hV2,List.getElem?_set_self hpl]
 have hmem:∀ x∈R.flatten,opp x∈R.flatten:=fun x hx=>by
  have:=qbG.mp (dR.all.mem_iff.mp hx);exact dR.all.mem_iff.mpr (qbG.mpr ⟨this.1,by simp [opp]⟩)
 walk_at "own wq";refine qax (S:=V2) (A u _ P) ?_;refine qcx (fun i K r S=>∃ G x,S=V2++G/\(∀ o∈G,o.und 0=true)/\r=[x,some (.ref V.length)]/\K=(R.take i).map fun row=>D.tup (row.map fun x=>pD (plc R (opp x)))) (ks.map refD) 0 [] _ _ ⟨[],none,by simp,fun o J=>by simp at J,rfl,rfl⟩ ?_ ?_ ?_
 ·rintro i K r S ⟨G,x,rfl,_⟩;exact qbA (by rw [gL1 (gE1.mp (A u _ P)).1];exact A u _ P)
 ·rintro i d hd K r S ⟨G,x,rfl,hG,rfl,rfl⟩;rw [gP1] at hd;obtain ⟨k,L,rfl⟩:=oM1.mp hd;have hlt:=(gE1.mp L).1;obtain ⟨row,f⟩:∃ row,R[i]? = some row:=⟨_,gG1 (by rw [<- T.len];exact hlt)⟩;have hrl:=dR.le i row f;have v:=A k _ (T.at_ i k row L f);have hk3:(V2++G)[k]? = some (.lst (row.map pD)):=by rw [gL1 (gE1.mp v).1];exact v
  ((try walk_at "own wq");repeat (simp only [refD];try walk_at "own wq"))
  refine qax hk3 ?_;refine mapW (fun x=>pD (plc R (opp x))) (fun r=>∃ x y,r=[x,y,some (.ref V.length)]) (qbA hk3) row _ ⟨_,_,rfl⟩ ?_ ?_
  ·rintro y hy r ⟨a,b,rfl⟩;rw [pD];walk_at "own wq";have hy2:=(qbG.mp (dR.all.mem_iff.mp (List.mem_flatten.mpr ⟨row,gM1 f,hy⟩)));rw [show ((1:Int)-(y.2:Int))=((1-y.2:Nat):Int) by lia];have hopp:=hmem y (List.mem_flatten.mpr ⟨row,gM1 f,hy⟩);have hlook:=hF _ _ _ (qhB hopp);refine qdj (F:=F) (k:=tkP (opp y)) (by rw [gL1 (gE1.mp hplc).1];exact hplc) (qaU (e:=opp y)) hlook ?_;exact ⟨rfl,rfl,_,_,rfl⟩
  ·rintro X _;walk_at "own wq";refine ⟨qaj (by rw [lM1];lia),?_⟩;refine qax (xs:=row.map fun x=>pD (plc R (opp x))) (by rw [<- List.append_assoc,<- lA1,qaC];rfl) ?_;refine ⟨G++[Ob.lst (row.map fun x=>pD (plc R (opp x)))],_,rfl,fun o J=>?_,rfl,?_⟩
   ·rcases List.mem_append.mp J with z | z
    ·exact hG o z
    ·simp at z;subst z;rw [Ob.und];exact Mi.unds_map fun _ _=>rfl
   ·rw [Nat.zero_add,List.take_succ,f];simp
 ·rintro xs r S ⟨G,x,rfl,hG,rfl,e1⟩;rw [List.nil_append,Nat.zero_add,lM1,T.len,List.take_length] at e1;subst e1;walk_at "own wq";have hRl:=dR.len;refine ⟨qaj (by rw [lM1];lia),?_⟩;refine qax (xs:=R.map fun row=>D.tup (row.map fun x=>pD (plc R (opp x)))) (by rw [<- List.append_assoc,<- lA1,qaC];rfl) ?_;have e2:=lpD (R:=R) (x:=(0,0));have hund:D.unds 0 (R.map fun row=>D.tup (row.map fun x=>pD (plc R (opp x))))=true:=Mi.unds_map fun row _=>by rw [D.und];exact Mi.unds_map fun _ _=>rfl
  refine ⟨(sV2.app fun o J=>?_).more (by lia),by rw [D.und];exact hund,fun U' a b l=>?_⟩
  ·rcases List.mem_append.mp J with z | z
   ·exact qdZ (Nat.zero_le _) (hG o z)
   ·simp at z;subst z;rw [Ob.und];exact qbx hund
  ·rw [<- e2];exact q m _ U' m0 mm (qnk dR) a b l
theorem qnj {c:FT}{b:FS}{Q:Fl×Ev×Sto->Prop}(I:Nat->Ev->Sto->Prop)(N:Nat)
  (step:∀ k r S,I k r S->W (c r S) fun p=>if p.1=true then k<N/\W (b r p.2) fun q=>q.1 = .nx/\I (k+1) q.2.1 q.2.2 else Q (.nx,r,p.2)):
  ∀ (a k:Nat) (r:Ev) (S:Sto),N-k<a->I k r S->W (whl c b a r S) Q
 | 0,k,r,S,hf,_=>by lia
 | a+1,k,r,S,hf,hi=>by
  rw [whl];dsimp only;rw [qah];obtain ⟨⟨t,n⟩,e,h⟩:=step k r S hi;refine ⟨_,e,?_⟩;dsimp only at h ⊢;cases t with
  | true=>
   rw [if_pos rfl] at h ⊢;obtain ⟨m,⟨f,l,i⟩,j,g,d⟩:=h;dsimp only at g d;subst g;rw [j,oS1];exact qnj I N step a (k+1) l i (by lia) d
  | false=>
   rw [if_neg (by decide)] at h ⊢;exact qag.mpr h
noncomputable def lex (a b:Nat×Nat):Bool:=decide (a.1<b.1)||(decide (a.1=b.1)&&decide (a.2<b.2))
theorem qmV {a b:Nat×Nat}{S:Sto}:gLt (pD a) (pD b) S=some (.bl (lex a b),S):=by
 have d:∀ (n x y:Nat),eqN S (n+1) (.int x) (.int y)=some (decide (x=y)):=fun n x y=>by
  show some ((x:Int) == (y:Int))=_
  congr 1
  rw [Bool.eq_iff_iff,beq_iff_eq,decide_eq_true_eq];lia
 have c:∀ (n x y:Nat),ltN S (n+1) (.int x) (.int y)=some (decide (x<y)):=fun n x y=>by
  show some (decide ((x:Int)<(y:Int)))=_
  congr 1
  rw [Bool.eq_iff_iff,decide_eq_true_eq,decide_eq_true_eq];lia
 unfold gLt qav;rw [show (60:Nat)=58+1+1 from rfl,ltN];simp only [pD,ltF,qap,if_true,ltL,d,c,oS1];unfold lex;by_cases h1:a.1=b.1
 ·by_cases h2:a.2=b.2
  ·simp [h1,h2]
  ·simp [h1,h2]
 ·simp [h1]
theorem qoE {a b:Nat×Nat}(h:lex a b=false)(c:b≠a):lex b a=true:=by
 unfold lex at *
 obtain ⟨e,d⟩:=a;obtain ⟨b1,b2⟩:=b;simp at *
 lia
theorem few:∀ {N:Nat} {l:List Nat},l.Nodup->(∀ x∈l,x<N)->l.length<=N
 | 0,l,_,h=>by
  cases l with
  | nil=>simp
  | cons a l=>have:=h a mS1;lia
 | N+1,l,n,h=>by
  by_cases d:N∈l
  ·have h1:=few (N:=N) (l:=l.erase N) (n.erase N) fun x c=>by
    have b:=(List.Nodup.mem_erase_iff n).mp c;have:=h x b.2;have:=b.1;lia
   have:=List.length_erase_of_mem d;lia
  ·have:=few (N:=N) (l:=l) n fun x c=>by
    have h1:=h x c;have:x≠N:=fun z=>d (z ▸ c);lia
   lia
theorem few2 {A B:Nat}{l:List (Nat×Nat)}(n:l.Nodup)(h:∀ x∈l,x.1<A/\x.2<B):l.length<=A*B:=by
 have h1:=few (N:=A*B) (l:=l.map fun x=>x.1*B+x.2) ?_ ?_
 ·simpa using h1
 ·rw [List.nodup_iff_pairwise_ne,List.pairwise_map];refine List.Pairwise.imp_of_mem ?_ n;intro x y b d a e;apply a;have h1:=h x b;have h2:=h y d;have ex:x.1=(x.1*B+x.2)/B:=by rw [Nat.mul_comm,Nat.mul_add_div (by lia),Nat.div_eq_of_lt h1.2,Nat.add_zero]
  have g:y.1=(y.1*B+y.2)/B:=by rw [Nat.mul_comm,Nat.mul_add_div (by lia),Nat.div_eq_of_lt h2.2,Nat.add_zero]
  have c:x.1=y.1:=by rw [ex,g,e]
  rw [c] at e;exact Prod.ext c (by lia)
 ·intro z f;obtain ⟨x,b,rfl⟩:=List.mem_map.mp f;have h1:=h x b;have:(x.1+1)*B<=A*B:=Nat.mul_le_mul_right B h1.1;rw [Nat.add_mul] at this;lia
noncomputable def rndW (m:Nat):qab:=(List.range m).map fun r=>[((r+1)%m,1),((r+m-1)%m,0)]
noncomputable def okW (w:qab):Bool:=w.zipIdx.all fun p=>decide (p.1.length<=4)&&p.1.zipIdx.all fun q=>(match w[q.1.1]? with | some row=>decide (row[q.1.2]? = some (p.2,q.2)) | none=>false)&&decide (q.1≠(p.2,q.2))
theorem qqN {w:qab}(h:okW w=true):WebG w.length w:=by
 unfold okW at h;rw [List.all_eq_true] at h;have get:∀ (r:Nat) (a:List (Nat×Nat)),w[r]? = some a->a.length<=4 /\ ∀ (d:Nat) (p:Nat×Nat),a[d]? = some p->At w p.1 p.2 (r,d)/\p≠(r,d):=fun r a c=>by
  have h1:=h (a,r) (by rw [List.mem_zipIdx_iff_getElem?];exact c);simp only [bA1,decide_eq_true_eq,List.all_eq_true] at h1;refine ⟨h1.1,fun d p g=>?_⟩;have h2:=h1.2 (p,d) (by rw [List.mem_zipIdx_iff_getElem?];exact g);dsimp only at h2;refine ⟨?_,h2.2⟩;have f:=h2.1;split at f
  ·rename_i b e;exact ⟨b,e,by simpa using f⟩
  ·cases f
 refine ⟨rfl,fun a c=>?_,fun r d p ⟨a,h1,h2⟩=>((get r a h1).2 d p h2).1,fun r d p ⟨a,h1,h2⟩=>((get r a h1).2 d p h2).2⟩;obtain ⟨i,hi⟩:=List.getElem?_of_mem c;exact (get i a hi).1
theorem qld {m:Nat}(a:0<m)(d:m<=8):WebG m (rndW m):=by
 have q:∀ m:Fin 9,0<m.val->okW (rndW m.val)=true/\(rndW m.val).length=m.val:=by decide+kernel
 obtain ⟨c,b⟩:=q ⟨m,by lia⟩ a;have:=qqN c;rw [b] at this;exact this
theorem qnD {m:Nat}{S:Sto}{Q:D×Sto->Prop}(g:0<m)(f:m<=8)(q:Q (dW (rndW m),S)):W (qaf 1 qbo [.int m] S) Q:=by
 refine qdQ rfl rfl ?_;unfold qbo;refine fnW ?_;unfold qdL;walk_at "own wq";refine ⟨qaW (by lia),?_⟩;rw [qiy,Int.toNat_natCast];refine mapW (fun r:Nat=>dR [((r+1)%m,1),((r+m-1)%m,0)]) (fun r=>∃ x,r=[x,some (.int m)]) rfl (List.range m) _ ⟨_,rfl⟩ ?_ ?_
 ·rintro r d c ⟨x,rfl⟩
  ((try walk_at "own wq");repeat (simp only [gMod];try walk_at "own wq"))
  refine ⟨by lia,by lia,?_,_,rfl⟩;have a:(((r+1)%m:Nat):Int)=((r:Int)+1)%(m:Int):=by push_cast;rfl
  have b:(((r+m-1)%m:Nat):Int)=((r:Int)+(m:Int)-1)%(m:Int):=by
   rw [Int.natCast_emod]
   congr 1
   lia
  simp [dR,dP,a,b]
 ·rintro c _;walk_at "own wq";refine ⟨qaj (by simp;lia),?_⟩;refine qax rfl ?_;refine ⟨by rw [D.und];exact Mi.unds_map fun _ _=>qi7 _ _,?_⟩;have e:dW (rndW m) = .tup ((List.range m).map fun r:Nat=>dR [((r+1)%m,1),((r+m-1)%m,0)]):=by
   unfold dW rndW;rw [List.map_map];rfl
  rw [<- e];exact q
theorem qjs {k:Nat}(h:k<=1000):qjt 0 (k:Int)=true:=by
 unfold qjt;simp only [bA1,decide_eq_true_eq];lia
theorem qty {m:FA}{r:Ev}{S S1:Sto}{k:Nat}{Q:D×Sto->Prop}(h:m r S=some ([.int k],S1))(hk:k<=1000)(q:Q (.ref S1.length,S1++[.lst (nums 0 k)])):W (mLR1 m r S) Q:=by
 refine W.of ?_ q;unfold mLR1;rw [h,oS1];dsimp only;rw [if_pos (qjs hk),Int.toNat_natCast]
theorem qnY:∀ {a b:List D},a.Perm b -> ∀ l:List Nat,b=nmD l -> ∃ c:List Nat,a=nmD c/\c.Perm l:=by
 intro a b h
 induction h with
 | nil=>intro l e;exact ⟨[],rfl,by cases l with | nil=>exact .refl _ | cons _ _=>simp [nmD] at e⟩
 | cons x _ ih=>
  intro l e;cases l with
  | nil=>simp [nmD] at e
  | cons y l=>
   simp [nmD] at e;obtain ⟨c,d,p⟩:=ih l e.2;exact ⟨y::c,by rw [nmD,mP1,e.1,d];rfl,p.cons y⟩
 | swap x y n=>
  intro l e
  match l,e with
  | a::b::l,e=>
   simp [nmD] at e;exact ⟨b::a::l,by rw [nmD,mP1,mP1,e.1,e.2.1,e.2.2],List.Perm.swap _ _ _⟩
 | trans _ _ g f=>
  intro l e;obtain ⟨k,d,i⟩:=f l e;obtain ⟨m,j,p2⟩:=g k d;exact ⟨m,j,p2.trans i⟩
theorem qkp {S:Sto}{n x:Nat}:∀ ys:List Nat,eqsL (eqN S (n+1)) (.int x) (nmD ys)=some (ys.map fun y=>y == x)
 | []=>rfl
 | y::ys=>by
  have b:eqN S (n+1) (.int y) (.int x)=some ((y:Int) == (x:Int)):=rfl;have a:((y:Int) == (x:Int))=(y == x):=by rw [Bool.eq_iff_iff,beq_iff_eq,beq_iff_eq];lia
  have ih:=qkp (S:=S) (n:=n) (x:=x) ys;rw [nmD] at ih ⊢;rw [mP1,eqsL,b,a,ih];rfl
theorem qgg {α:Type}[BEq α][LawfulBEq α]{l:List α}{x:α}(h:x∈l):∃ j,l.findIdx? (· == x)=some j/\l[j]? = some x:=by
 cases e:l.findIdx? (· == x) with
 | none=>
  rw [List.findIdx?_eq_none_iff] at e;have:=e x h;simp at this
 | some j=>
  obtain ⟨a,h1,_⟩:=List.findIdx?_eq_some_iff_getElem.mp e;exact ⟨j,rfl,by rw [gG1 a];simp at h1;rw [h1]⟩
theorem qsb {S:Sto}{n x:Nat}{ys:List Nat}{Q:D×Sto->Prop}(h:S[n]? = some (.lst (nmD ys)))(c:ys.length<1000)(hx:x∈ys)(q:∀ j:Nat,ys[j]? = some x->Q (.int j,S)):W (gIdx (.ref n) (.int x) S) Q:=by
 obtain ⟨j,b,a⟩:=qgg hx;refine W.of ?_ (q j a);unfold gIdx qav;simp only [h,show (60:Nat)=59+1 from rfl,qkp,oS1,lM1];rw [if_pos (by lia),List.findIdx?_map];simp [Function.comp_def,b]
theorem qsc {S:Sto}{n:Nat}{row:List (Nat×Nat)}{e:Nat×Nat}{Q:D×Sto->Prop}(h:S[n]? = some (.lst (row.map pD)))(b:row.length<1000)(he:e∈row)(q:∀ j:Nat,row[j]? = some e->Q (.int j,S)):W (gIdx (.ref n) (pD e) S) Q:=by
 obtain ⟨j,c,a⟩:=qgg he;exact qsa h b c (q j a)
theorem qmT {S:Sto}{n:Nat}{x:Nat×Nat}:∀ a:List (Nat×Nat),inL (eqN S (n+2)) (pD x) (a.map pD)=some (a.contains x)
 | []=>rfl
 | y::a=>by
  rw [mP1,inL,qmZ,qmT a,List.contains_cons,show (y == x)=(x == y) from Bool.beq_comm];rfl
theorem qpp {S:Sto}{n:Nat}{row:List (Nat×Nat)}{x:Nat×Nat}{Q:D×Sto->Prop}(h:S[n]? = some (.lst (row.map pD)))(q:Q (.bl (!row.contains x),S)):W (qbT (pD x) (.ref n) S) Q:=by
 refine W.of ?_ q;simp only [qbT,h,qdw,qgb,qe4 h,oS1,qav,show (60:Nat)=58+2 from rfl,qmT,oP1]
structure Ords (w:qab)(cp b:Nat)(done:Nat->Nat->Prop)(F:List (TK×D))(V:Sto):Prop where
 ord:∀ r d p,done r d->At w r d p->lex (r,d) p=true -> ∃ k ys,qao F (tkP (r,d))=some (.ref k)/\b<=k/\V[k]? = some (.lst (nmD ys))/\ys.Perm (List.range cp)
 und:∀ p∈F,p.2.und V.length=true
theorem Ords.over {h g n c b:Nat}{w:qab}{a:Nat->Nat->Prop}{F:List (TK×D)}{U V:Sto}(o:Ords w c b a F U)(s:HS h g n U V)(q:h<b)(hg:g<b):Ords w c b a F V:=
 ⟨fun r d p h1 h2 e=>by
  obtain ⟨k,ys,f,l,m,i⟩:=o.ord r d p h1 h2 e;exact ⟨k,ys,f,l,s.at m (by lia) (by lia),i⟩,fun p j=>qmn s.len (o.und p j)⟩
theorem qsQ {h g n b m r d od:Nat}{w:qab}{p:Nat×Nat}{M V:Sto}{F:List (TK×D)}{x4 x5 x7 J x11 E:Option D}{Q:Fl×Ev×Sto->Prop}(s:HS h g n M V)(hb:M.length<=b)(hod:b<=od)(hn:n<=2^44)(hcp:m<=8)(hF:F.length<500)(hd:V[od]? = some (dO F))(o:Ords w m b (fun c d'=>c<r\/(c=r/\d'<d)) F V)(hod2:od<b+3)
  (q:∀ L A,HS h g (n+8) M A->A[od]? = some (dO L)->L.length<=F.length+1->Ords w m b (fun c d'=>c<r\/(c=r/\d'<d+1)) L A->(∀ i,i≠od->i≠h->i≠g->i<V.length->A[i]? = V[i]?)->V.length<=A.length->(∀ (c d' k:Nat),qao L (tkP (c,d'))=some (.ref k)->qao F (tkP (c,d'))=some (.ref k)\/V.length<=k) ->
   Q (.nx,[some (.ref h),some (dW w),some (.int m),some (.ref od),x4,x5,some (.int (r:Nat)),x7,some (.int (d:Nat)),some (pD p),J,x11,E],A)) (hp:At w r d p) (X:∀ (c d' k:Nat),qao F (tkP (c,d'))=some (.ref k)->k≠od):
  W (qbR [some (.ref h),some (dW w),some (.int m),some (.ref od),x4,x5,some (.int (r:Nat)),x7,some (.int (d:Nat)),some (pD p),J,x11,E] V) Q:=by
 have hh:=s.hl;have hg:=s.gl;have hVl:=s.len;have hodV:od<V.length:=(gE1.mp hd).1;unfold qbR;walk_at "own wv";have e:∀ S,gLt (D.tup [D.int ↑r,D.int ↑d]) (pD p) S=some (.bl (lex (r,d) p),S):=fun S=>qmV (a:=(r,d)) (b:=p)
 ((try walk_at "own wv");repeat (simp-implicitDefEqProofs only [e];try walk_at "own wv"))
 by_cases U:lex (r,d) p=true
 ·rw [if_pos U];refine qty (k:=m) (S1:=V) rfl (by lia) ?_;walk_at "own wv";have s1:HS h g n M (V++[.lst (nums 0 m)]):=s.app fun o C=>by simp at C;subst C;rw [Ob.und,qiy];exact Mi.unds_map fun _ _=>rfl
  have u:HS h g n V (V++[.lst (nums 0 m)]):=(HS.self s.hand s.shut).app fun o C=>by simp at C;subst C;rw [Ob.und,qiy];exact Mi.unds_map fun _ _=>rfl
  refine qjM (r:=V.length) (xs:=nums 0 m) s1 (by lia) (by rw [qaC];rfl) (by lia) (by lia) (by rw [qay];lia) (by rw [qiy];exact Mi.unds_map fun _ _=>rfl) fun k ys V2 s2 l v G y=>?_;obtain ⟨zs,rfl,hz⟩:=qnY y (List.range m) (by rw [qiy];rfl);rw [qay] at s2 l;have l12:=u.len;have P:=l.len;have Z:V2[od]? = some (dO F):=l.at (u.at hd (by lia) (by lia)) (by lia) (by lia);walk_at "own wv";refine qeV (F:=F) Z (qaU (e:=(r,d))) (by lia) ?_;have H:k≠od:=by rw [lA1] at v;simp at v;lia
  have Y:=(o.over u (by lia) (by lia)).over l (by lia) (by lia);have kl2:k<V2.length:=(gE1.mp G).1;refine q (putD F (tkP (r,d)) (.ref k)) (V2.set od (dO (putD F (tkP (r,d)) (.ref k)))) ((s2.set (by lia) (qh3 (qfb Y.und (by simp [D.und];lia)))).more (by lia)) (by rw [List.getElem?_set_self (by lia)]) qjx ⟨fun c d' K x t j=>?_,fun K y=>by rw [List.length_set];exact qfb Y.und (by simp [D.und];lia) K y⟩ (fun i h1 h2 h3 h4=>?_) (by rw [List.length_set];rw [lA1] at P;lia) (fun c d' R f=>?_)
  ·rw [qde];by_cases T:tkP (c,d')=tkP (r,d)
   ·have:=qdn T;cases this;rw [if_pos rfl];exact ⟨k,zs,rfl,by rw [lA1] at v;lia,by rw [gS1 H.symm];exact G,hz⟩
   ·rw [if_neg T];have I:c<r\/(c=r/\d'<d):=by
     rcases x with z | ⟨B,z2⟩
     ·exact .inl z
     ·refine .inr ⟨B,?_⟩;by_cases O:d'=d
      ·subst B;subst O;exact absurd rfl T
      ·lia
    obtain ⟨R,N,a1,a2,a3,a4⟩:=Y.ord c d' K I t j;exact ⟨R,N,a1,a2,by rw [gS1 (X c d' R a1).symm];exact a3,a4⟩
  ·rw [gS1 (Ne.symm h1),l.same i (by rw [lA1];lia) h2 h3,u.same i h4 h2 h3]
  ·rw [qde] at f;split at f
   ·cases f;rw [lA1] at v;exact .inr (by lia)
   ·exact .inl f
 ·rw [if_neg U];have hlf:lex (r,d) p=false:=Bool.eq_false_iff.mpr U;refine q F V (s.more (by lia)) hd (by lia) ⟨fun c d' K x t j=>?_,o.und⟩ (fun i _ _ _ _=>rfl) (nR1 _) (fun _ _ _ f=>.inl f);refine o.ord c d' K ?_ t j;rcases x with z | ⟨B,z2⟩
  ·exact .inl z
  ·refine .inr ⟨B,?_⟩;by_cases O:d'=d
   ·subst B;subst O;obtain ⟨row,b1,b2⟩:=t
    obtain ⟨row',c1,c2⟩:=hp;rw [b1] at c1;cases c1;rw [b2] at c2;cases c2;rw [hlf] at j;cases j
   ·lia
theorem qrT {p:Nat×Nat}:dP p=pD p:=rfl
theorem qqE {h g n b y:Nat}{w:qab}{O V:Sto}{u x11 t:Option D}{Q:Fl×Ev×Sto->Prop}(s:HS h g n O V)(hb:O.length=b)(hn:n<=2^43)(X:y<=8)(hw:w.length<=8)(U:∀ f∈w,f.length<=4)(hV:V.length=b+3)(hd:V[b]? = some (dO []))
  (q:∀ F a L P v x,HS h g (n+300) O a->a[b]? = some (dO F)->Ords w y b (fun _ _=>True) F a->(∀ (c d' k:Nat),qao F (tkP (c,d'))=some (.ref k)->b+3<=k)->(∀ i,i≠b->i≠h->i≠g->i<V.length->a[i]? = V[i]?)->V.length<=a.length ->
   Q (.nx,[some (.ref h),some (dW w),some (.int y),some (.ref b),some (.ref (b+1)),some (.ref (b+2)),L,P,v,x,u,x11,t],a)):
  W (mFor (iEn (qaa (mV 1) mNil)) (gT 2 (gCs (gN 6) (gCs (gN 7) gNl))) qbQ [some (.ref h),some (dW w),some (.int y),some (.ref b),some (.ref (b+1)),some (.ref (b+2)),none,none,none,none,u,x11,t] V) Q:=by
 unfold mFor;rw [qah];refine qiP (d:=dW w) (S1:=V) rfl ?_;refine qd9.mpr ?_;refine qaA (fun i r a=>∃ F L P v x,i<=w.length/\F.length<=4*i/\HS h g (n+32*i) O a/\a[b]? = some (dO F)/\Ords w y b (fun c _=>c<i) F a/\(∀ (c d' k:Nat),qao F (tkP (c,d'))=some (.ref k)->b+3<=k)/\(∀ i,i≠b->i≠h->i≠g->i<V.length->a[i]? = V[i]?)/\V.length<=a.length/\r=[some (.ref h),some (dW w),some (.int y),some (.ref b),some (.ref (b+1)),some (.ref (b+2)),L,P,v,x,u,x11,t]) _ 0 _ _ ⟨[],none,none,none,none,by lia,by simp,s,hd,⟨fun r d p hr=>by lia,fun p S=>by simp at S⟩,(fun c d' k J=>by rw [qhK] at J;cases J),fun _ _ _ _ _=>rfl,nR1 _,rfl⟩ (fun _ _ _ _=>rfl) ?_ ?_
 ·rintro i dd e r V1 ⟨F,L,P,v,x,hi,hF,s1,B,M,G,H,E,rfl⟩;dsimp only at e;rw [qce,gP1] at e;obtain ⟨z,Z,rfl⟩:=oM1.mp e;obtain ⟨f,l,rfl⟩:=oM1.mp Z;have hlt:=(gE1.mp l).1;have hr4:=U f (gM1 l);rw [Nat.zero_add] at *
  walk_at "own wq";unfold qbQ mFor;rw [qah];refine qiP (d:=dR f) (S1:=V1) rfl ?_;refine qd9.mpr ?_;refine qaA (fun j r a=>∃ K v x,j<=f.length/\K.length<=F.length+j/\HS h g (n+32*i+8*j) O a/\a[b]? = some (dO K)/\Ords w y b (fun c d'=>c<i\/(c=i/\d'<j)) K a/\(∀ (c d' k:Nat),qao K (tkP (c,d'))=some (.ref k)->b+3<=k)/\(∀ i,i≠b->i≠h->i≠g->i<V.length->a[i]? = V[i]?)/\V.length<=a.length/\r=[some (.ref h),some (dW w),some (.int y),some (.ref b),some (.ref (b+1)),some (.ref (b+2)),some (.int (i:Nat)),some (dR f),v,x,u,x11,t]) _ 0 _ _ ⟨F,v,x,by lia,by lia,s1,B,⟨fun r d p hr=>M.ord r d p (by lia),M.und⟩,G,H,E,rfl⟩ (fun _ _ _ _=>rfl) ?_ ?_
  ·rintro j dd e r V2 ⟨F2,y8,y9,hj,Y,s2,I,T,o,C,A,rfl⟩;dsimp only at e;rw [qce,gP1] at e;obtain ⟨z,Z,rfl⟩:=oM1.mp e;obtain ⟨p,S,rfl⟩:=oM1.mp Z;have hjlt:=(gE1.mp S).1;rw [Nat.zero_add] at *
   ((try walk_at "own wq");repeat (simp only [qrT];try walk_at "own wq"))
   refine qsQ (b:=b) (od:=b) s2 (by lia) (nR1 _) (by lia) X (by lia) I T (by lia) (fun K a a1 a2 a3 a4 a5 a6 a7=>?_) ⟨f,l,S⟩ fun c d' k J=>by have:=o c d' k J;lia
   refine ⟨rfl,K,_,_,by lia,by lia,a1.more (by lia),a2,a4,fun c d' k J=>?_,fun i' b1 b2 b3 b4=>?_,Nat.le_trans A a6,rfl⟩
   ·rcases a7 c d' k J with z | z
    ·exact o c d' k z
    ·lia
   ·rw [a5 i' b1 b2 b3 (by lia),C i' b1 b2 b3 b4]
  ·rintro r V2 ⟨F2,y8,y9,hj,Y,s2,I,T,o,C,A,rfl⟩;rw [qcd,lM1,Nat.zero_add] at *
   refine ⟨rfl,F2,_,_,_,_,by lia,by lia,s2.more (by lia),I,⟨fun r d p hr m=>T.ord r d p ?_ m,T.und⟩,o,C,A,rfl⟩;by_cases z:r<i
   ·exact .inl z
   ·have:r=i:=by lia
    subst this;obtain ⟨N,R,e2⟩:=m
    rw [l] at R;cases R;exact .inr ⟨rfl,(gE1.mp e2).1⟩
 ·rintro r V1 ⟨F,L,P,v,x,hi,hF,s1,B,M,G,H,E,rfl⟩;rw [qcd,lM1,Nat.zero_add] at *
  refine q F V1 _ _ _ _ (s1.more (by lia)) B ⟨fun r d p _ m=>M.ord r d p ?_ m,M.und⟩ G H E;obtain ⟨N,R,e2⟩:=m
  exact (gE1.mp R).1
structure BS (h g n b:Nat)(U0 V0:Sto)(F:List (TK×D))(met:List (Nat×Nat))(rooms:qab)(V:Sto):Prop where
 hs:HS h g n U0 V
 dic:V[b]? = some (dO F)
 same:∀ i,b+3<=i->i<V0.length->V[i]? = V0[i]?
 len:V0.length<=V.length
 mt:V[b+1]? = some (.lst (met.map pD))
 rm:V[b+2]? = some (.lst (rooms.map dR))
structure MI (w:qab)(cp:Nat)(met:List (Nat×Nat)):Prop where
 nd:met.Nodup
 inn:∀ x∈met,x.1<w.length/\x.2<cp
theorem MI.few {w:qab}{a:Nat}{met:List (Nat×Nat)}(m:MI w a met)(h:w.length*a<=8):met.length<=8:=Nat.le_trans (few2 m.nd m.inn) h
theorem BS.set {h g n b i:Nat}{e d V:Sto}{F:List (TK×D)}{met a:List (Nat×Nat)}{c rooms':qab}{o:Ob}(s:BS h g n b e d F met c V)(hb:e.length=b)(hi:d.length<=i\/i=b+1\/i=b+2)(k:b+3<=d.length)(f:i<V.length)(ho:o.und V.length=true)
  (hm:(V.set i o)[b+1]? = some (.lst (a.map pD))) (hr:(V.set i o)[b+2]? = some (.lst (rooms'.map dR))):BS h g n b e d F a rooms' (V.set i o):=
 ⟨s.hs.set (by lia) ho,by rw [gS1 (by lia)];exact s.dic,fun j h1 h2=>by rw [gS1 (by lia)];exact s.same j h1 h2,by rw [List.length_set];exact s.len,hm,hr⟩
theorem qjL {n:Nat}(l:List (Nat×Nat)):D.unds n (l.map pD)=true:=Mi.unds_map fun _ _=>rfl
theorem qrP {h g n b cp r c d sp:Nat}{w:qab}{m:Nat}{f:Nat×Nat}{Z I V:Sto}{F:List (TK×D)}{met t:List (Nat×Nat)}{u:qab}{x7 x12:Option D}{Q:Fl×Ev×Sto->Prop}(hw:WebG m w)(h8:w.length*cp<=8)(hb:Z.length=b)(h0:b+3<=I.length)
  (o:Ords w cp b (fun _ _=>True) F I) (hkb:∀ (G d' k:Nat),qao F (tkP (G,d'))=some (.ref k)->b+3<=k) (s:BS h g n b Z I F met u V) (U:MI w cp met) (hsp:I.length<=sp) (hs:V[sp]? = some (.lst (t.map pD))) (hsl:t.length<100) (hc:c<cp) (B:At w r d f)
  (q:∀ l e T P,met <+: l->MI w cp l->BS h g n b Z I F l u T->T[sp]? = some (.lst ((t++[e]).map pD))->e.2=f.2->(∃ y,l[e.1]? = some y/\y.1=f.1)->T.length=V.length ->
   Q (.nx,[some (.ref h),some (dW w),some (.int cp),some (.ref b),some (.ref (b+1)),some (.ref (b+2)),some (.int (r:Nat)),x7,some (.int (d:Nat)),some (pD f),some (.int (c:Nat)),some (.ref sp),P],T)):
  W (qbP [some (.ref h),some (dW w),some (.int cp),some (.ref b),some (.ref (b+1)),some (.ref (b+2)),some (.int (r:Nat)),x7,some (.int (d:Nat)),some (pD f),some (.int (c:Nat)),some (.ref sp),x12] V) Q:=by
 have hspl:sp<V.length:=(gE1.mp hs).1;have look:∀ r d p,At w r d p->lex (r,d) p=true -> ∃ k ys,qao F (tkP (r,d))=some (.ref k)/\V[k]? = some (.lst (nmD ys))/\ys.Perm (List.range cp):=fun r d p h1 h2=>by
  obtain ⟨k,ys,C,O,E,a4⟩:=o.ord r d p trivial h1 h2;exact ⟨k,ys,C,by rw [s.same k (hkb r d k C) (gE1.mp E).1];exact E,a4⟩
 have i0:∀ (S:Sto) (Q:D×Sto->Prop),Q (.int f.1,S)->W (gIxY (pD f) (.int 0) S) Q:=fun S Q q=>qkQ (i:=0) rfl q;have i1:∀ (S:Sto) (Q:D×Sto->Prop),Q (.int f.2,S)->W (gIxY (pD f) (.int 1) S) Q:=fun S Q q=>qkQ (i:=1) rfl q;have hg1:f.1<w.length:=by obtain ⟨row,C,_⟩:=hw.back r d f B;exact (gE1.mp C).1
 unfold qbP;refine seqW (fun G S=>S=V /\ ∃ A,A<cp/\G=[some (.ref h),some (dW w),some (.int cp),some (.ref b),some (.ref (b+1)),some (.ref (b+2)),some (.int (r:Nat)),x7,some (.int (d:Nat)),some (pD f),some (.int (c:Nat)),some (.ref sp),some (pD (f.1,A))]) ?_ ?_
 ·walk_at "own wq";have e:∀ S,gLt (D.tup [D.int ↑r,D.int ↑d]) (pD f) S=some (.bl (lex (r,d) f),S):=fun S=>qmV (a:=(r,d)) (b:=f)
  ((try walk_at "own wq");repeat (simp only [e];try walk_at "own wq"))
  by_cases X:lex (r,d) f=true
  ·rw [if_pos X];obtain ⟨k,ys,C,O,E⟩:=look r d f B X;have L:ys.length=cp:=by rw [E.length_eq];simp
   refine i0 _ _ ?_;refine qdj (F:=F) s.dic (qaU (e:=(r,d))) C ?_;refine qiM (i:=c) (xs:=nmD ys) (x:=.int (ys[c]'(by lia):Nat)) O (by rw [nmD,gP1,gG1 (by lia)];rfl) ?_;walk_at "own wq";refine ⟨ys[c]'(by lia),?_,rfl⟩;exact List.mem_range.mp (E.mem_iff.mp (List.getElem_mem _))
  ·rw [if_neg X];have H:=qoE (Bool.eq_false_iff.mpr X) (hw.ne r d f B);obtain ⟨k,ys,C,O,E⟩:=look f.1 f.2 (r,d) (hw.back r d f B) H;have L:ys.length=cp:=by rw [E.length_eq];simp
   have hcp8:cp<=8:=by
    have:0<w.length:=by lia
    exact Nat.le_trans (Nat.le_mul_of_pos_left cp this) h8
   refine i0 _ _ ?_;refine qdz ?_;walk_at "own wq";refine qdj (F:=F) s.dic (qaU (e:=f)) C ?_;refine ⟨k,nmD ys,rfl,O,?_⟩;refine qsb O (by lia) (E.mem_iff.mpr (List.mem_range.mpr hc)) fun j hj=>?_;walk_at "own wq";exact ⟨j,by rw [<- L];exact (gE1.mp hj).1,rfl⟩
 rintro G S ⟨J,A,hc',rfl⟩;have hVS:=J.symm;clear J;subst hVS;refine seqW (fun G S=>∃ l,met <+: l/\MI w cp l/\(f.1,A)∈l/\BS h g n b Z I F l u S/\S[sp]? = some (.lst (t.map pD))/\S.length=V.length/\G=[some (.ref h),some (dW w),some (.int cp),some (.ref b),some (.ref (b+1)),some (.ref (b+2)),some (.int (r:Nat)),x7,some (.int (d:Nat)),some (pD f),some (.int (c:Nat)),some (.ref sp),some (pD (f.1,A))]) ?_ ?_
 ·walk_at "own wq";refine qpp s.mt ?_;walk_at "own wq";have hfew:=U.few h8;by_cases v:(f.1,A)∈met
  ·rw [if_neg (by simpa using v)];exact ⟨met,List.prefix_rfl,U,v,s,hs,trivial⟩
  ·rw [if_pos (by simpa using v)];refine qdz ?_;walk_at "own wq";refine ⟨b+1,met.map pD,rfl,s.mt,?_⟩;refine (qfC s.mt).mpr ⟨qaj (by rw [lM1];lia),?_⟩;have e:met.map pD++[pD (f.1,A)]=(met++[(f.1,A)]).map pD:=by simp
   rw [e];have N:b+1<V.length:=(gE1.mp s.mt).1;refine ⟨met++[(f.1,A)],List.prefix_append _ _,⟨?_,fun x Y=>?_⟩,by simp,s.set hb (.inr (.inl rfl)) h0 N (by rw [Ob.und];exact qjL _) (by rw [List.getElem?_set_self N]) (by rw [gS1 (by lia)];exact s.rm),by rw [gS1 (by lia)];exact hs,by rw [List.length_set],trivial⟩
   ·rw [List.nodup_append];refine ⟨U.nd,by simp,fun x Y y hy z=>?_⟩;simp at hy;rw [z,hy] at Y;exact v Y
   ·rcases List.mem_append.mp Y with z | z
    ·exact U.inn x z
    ·simp at z;subst z;exact ⟨hg1,hc'⟩
 rintro G S ⟨l,M,K,v,s',R,H,rfl⟩;have hfew':=K.few h8;walk_at "own wq";refine qdz ?_;walk_at "own wq";refine ⟨sp,t.map pD,rfl,R,?_⟩;refine qdz ?_;walk_at "own wq";refine ⟨b+1,l.map pD,rfl,s'.mt,?_⟩;refine qsc s'.mt (by lia) v fun j hj=>?_;refine i1 _ _ ?_;walk_at "own wq";refine (qfC R).mpr ⟨qaj (by rw [lM1];lia),?_⟩;have e:t.map pD++[D.tup [D.int ↑j,D.int ↑f.2]]=(t++[(j,f.2)]).map pD:=by simp [pD]
 rw [e];exact q l (j,f.2) _ _ M K (s'.set hb (.inl hsp) h0 (by lia) (by rw [Ob.und];exact qjL _) (by rw [gS1 (by lia)];exact s'.mt) (by rw [gS1 (by lia)];exact s'.rm)) (by rw [List.getElem?_set_self (by lia)]) rfl ⟨(f.1,A),hj,rfl⟩ (by rw [List.length_set];exact H)
structure WebO (w:qab):Prop where
 pos:0<w.length
 few:w.length<=8
 le:∀ row∈w,row.length<=4
 to:∀ row∈w,∀ e∈row,∃ r,w[e.1]? = some r/\e.2<r.length
theorem WebG.o {m:Nat}{w:qab}(h:WebG m w)(j:0<m)(i:m<=8):WebO w:=by
 refine ⟨by rw [h.len];exact j,by rw [h.len];exact i,h.le,fun b f e g=>?_⟩;obtain ⟨r,c⟩:=List.getElem?_of_mem f;obtain ⟨d,hd⟩:=List.getElem?_of_mem g;obtain ⟨a,h1,h2⟩:=h.back r d e ⟨b,c,hd⟩;exact ⟨a,h1,(gE1.mp h2).1⟩
noncomputable def qiQ (met:List (Nat×Nat))(crow row:List (Nat×Nat)):Prop:=∀ (d:Nat) (e goal:Nat×Nat),crow[d]? = some e->row[d]? = some goal->e.2=goal.2 /\ ∃ y:Nat×Nat,met[e.1]? = some y/\y.1=goal.1
noncomputable def RF (w:qab)(met:List (Nat×Nat))(rooms:qab):Prop:=∀ (i:Nat) (crow:List (Nat×Nat)),rooms[i]? = some crow -> ∃ x row,met[i]? = some x/\w[x.1]? = some row/\crow.length=row.length/\qiQ met crow row
theorem qgM {α:Type}{a b:List α}{i:Nat}{x:α}(h:a <+: b)(e:a[i]? = some x):b[i]? = some x:=by
 obtain ⟨t,rfl⟩:=h;rw [gL1 (gE1.mp e).1];exact e
theorem qiQ.mono {met b c row:List (Nat×Nat)}(h:qiQ met c row)(p:met <+: b):qiQ b c row:=fun d e f h1 h2=>by
 obtain ⟨a,y,b1,b2⟩:=h d e f h1 h2;exact ⟨a,y,qgM p b1,b2⟩
theorem RF.mono {w:qab}{met a:List (Nat×Nat)}{rooms:qab}(h:RF w met rooms)(p:met <+: a):RF w a rooms:=fun i b hi=>by
 obtain ⟨x,c,d,f,g,e⟩:=h i b hi;exact ⟨x,c,qgM p d,f,g,e.mono p⟩
theorem qpb {n:Nat}(l:qab):D.unds n (l.map dR)=true:=Mi.unds_map fun _ _=>qi7 _ _
theorem qkA {h g c m t:Nat}{w:qab}{B U:Sto}{Q:D×Sto->Prop}(s:HS h g c B U)(hc:c<=2^42)(hw:WebG m w)(hm0:0<m)(N:0<t)(h8':m*t<=8)
  (q:∀ cw k V (bl:List Nat),WebO cw->U.length<=k->V[k]? = some (.lst (bl.map fun i:Nat=>D.int i))->bl.length=cw.length->(∀ x∈bl,x<m)->HS h g (c+400) B V->HS h g (c+400) U V->Q (.tup [dW cw,.ref k],V)):W (qaf 3 qaO [.ref h,dW w,.int t] U) Q:=by
 have hh:=s.hl;have hg:=s.gl;have hbl:=s.len;have h8:w.length*t<=8:=by rw [hw.len];exact h8'
 have hcp8:t<=8:=Nat.le_trans (Nat.le_mul_of_pos_left t hm0) h8';have hw8:w.length<=8:=Nat.le_trans (Nat.le_mul_of_pos_right w.length N) h8;refine qiK rfl (by simp [D.unds,D.und]) ?_;have s0:HS h g c U U:=HS.self s.hand s.shut;unfold qaO;refine fnW ?_;unfold qdP;generalize v:U.length=b;refine seqW (fun r S=>S=U++[.dct [],.lst [pD (0,0)],.lst []]/\r=[some (.ref h),some (dW w),some (.int t),some (.ref b),some (.ref (b+1)),some (.ref (b+2)),none,none,none,none,none,none,none]) ?_ ?_
 ·((try walk_at "own wq");repeat (simp only [qf5];try walk_at "own wq"))
  simp [v,pD]
 rintro r S ⟨rfl,rfl⟩;generalize L:U++[Ob.dct [],.lst [pD (0,0)],.lst []]=Vi;have sVi:HS h g c U Vi:=by
  rw [<- L];refine s0.app fun o O=>?_;simp at O;rcases O with rfl | rfl | rfl<;>rfl
 have vl:Vi.length=b+3:=by rw [<- L];simp [v]
 have v0:Vi[b]? = some (dO []):=by rw [<- L,<- v,qaC];rfl
 have v1:Vi[b+1]? = some (.lst [pD (0,0)]):=by rw [<- L,<- v,qcb];rfl
 have v2:Vi[b+2]? = some (.lst []):=by rw [<- L,<- v,qcb];rfl
 refine seqW (fun r V0=>∃ F x6 x7 x8 X,HS h g (c+300) U V0/\V0[b]? = some (dO F)/\Ords w t b (fun _ _=>True) F V0/\(∀ (r' d' k:Nat),qao F (tkP (r',d'))=some (.ref k)->b+3<=k)/\V0[b+1]? = some (.lst [pD (0,0)])/\V0[b+2]? = some (.lst [])/\b+3<=V0.length/\r=[some (.ref h),some (dW w),some (.int t),some (.ref b),some (.ref (b+1)),some (.ref (b+2)),x6,x7,x8,X,none,none,none]) ?_ ?_
 ·refine qqE sVi v (by lia) hcp8 hw8 hw.le vl v0 fun F V' x6 x7 x8 X a1 a2 a3 a4 a5 a6=>?_;refine ⟨rfl,F,_,_,_,_,a1,a2,a3,a4,?_,?_,by rw [vl] at a6;exact a6,rfl⟩
  ·rw [a5 (b+1) (by lia) (by lia) (by lia) (by lia)];exact v1
  ·rw [a5 (b+2) (by lia) (by lia) (by lia) (by lia)];exact v2
 rintro r V0 ⟨F,x6,x7,x8,X,sV0,hd0,o0,hkb,m0,r0,hl0,rfl⟩;have bs0:BS h g (c+300) b U V0 F [(0,0)] [] V0:=⟨sV0,hd0,fun _ _ _=>rfl,nR1 _,m0,r0⟩;have mi0:MI w t [(0,0)]:=⟨by simp,fun x M=>by simp at M;subst M;exact ⟨by rw [hw.len];exact hm0,N⟩⟩;refine seqW (fun r V=>∃ met rooms x6 x7 x8 X x10 Z P,BS h g (c+300) b U V0 F met rooms V/\MI w t met/\RF w met rooms/\rooms.length=met.length/\0<met.length/\r=[some (.ref h),some (dW w),some (.int t),some (.ref b),some (.ref (b+1)),some (.ref (b+2)),x6,x7,x8,X,x10,Z,P]) ?_ ?_
 ·refine qnj (fun k r V=>∃ met rooms x6 x7 x8 X x10 Z P,BS h g (c+300) b U V0 F met rooms V/\MI w t met/\RF w met rooms/\rooms.length=k/\k<=met.length/\0<met.length/\r=[some (.ref h),some (dW w),some (.int t),some (.ref b),some (.ref (b+1)),some (.ref (b+2)),x6,x7,x8,X,x10,Z,P]) 8 ?_ 100000 0 _ _ (by lia) ⟨[(0,0)],[],_,_,_,_,_,_,_,bs0,mi0,fun i E hi=>by simp at hi,rfl,by lia,by simp,rfl⟩;rintro k r V ⟨met,rooms,y6,y7,y8,y9,y10,y11,T,bs,Y,rf,hk,hkm,hmp,rfl⟩;have hfew:=Y.few h8;unfold qcN;walk_at "own wq";refine qax bs.rm ?_;refine qax bs.mt ?_;walk_at "own wq";rw [lM1,lM1,hk];by_cases hlt:k<met.length
  ·rw [if_pos (by rw [decide_eq_true_eq];lia)];refine ⟨by lia,?_⟩;obtain ⟨x,M⟩:∃ x,met[k]? = some x:=⟨_,gG1 hlt⟩;have hxi:=Y.inn x (gM1 M);obtain ⟨row,G⟩:∃ row,w[x.1]? = some row:=⟨_,gG1 hxi.1⟩;have hr4:=hw.le row (gM1 G);unfold qcM;refine seqW (fun r S=>S=V/\r=[some (.ref h),some (dW w),some (.int t),some (.ref b),some (.ref (b+1)),some (.ref (b+2)),some (.int (x.1:Nat)),y7,y8,y9,some (.int (x.2:Nat)),y11,T]) ?_ ?_
   ·walk_at "own wq";refine qax bs.rm ?_;walk_at "own wq";rw [lM1,hk];refine qiM (i:=k) (xs:=met.map pD) (x:=pD x) bs.mt (by rw [gP1,M];rfl) ?_;rw [pD];walk_at "own wq"
   rintro r S ⟨hS,rfl⟩;have hS':=hS.symm;clear hS;subst hS';refine seqW (fun r S=>S=V++[.lst []]/\r=[some (.ref h),some (dW w),some (.int t),some (.ref b),some (.ref (b+1)),some (.ref (b+2)),some (.int (x.1:Nat)),y7,y8,y9,some (.int (x.2:Nat)),some (.ref V.length),T]) ?_ ?_
   ·walk_at "own wq"
   rintro r S ⟨rfl,rfl⟩;have bl:=bs.len;have bs1:BS h g (c+300) b U V0 F met rooms (V++[.lst []]):=by
    refine ⟨bs.hs.app fun o O=>by simp at O;subst O;rfl,?_,fun i h1 h2=>?_,by rw [lA1];lia,?_,?_⟩
    ·rw [gL1 (gE1.mp bs.dic).1];exact bs.dic
    ·rw [gL1 (by lia)];exact bs.same i h1 h2
    ·rw [gL1 (gE1.mp bs.mt).1];exact bs.mt
    ·rw [gL1 (gE1.mp bs.rm).1];exact bs.rm
   refine seqW (fun r S=>∃ l f z8 z9 H,met <+: l/\MI w t l/\BS h g (c+300) b U V0 F l rooms S/\S[V.length]? = some (.lst (f.map pD))/\f.length=row.length/\qiQ l f row/\r=[some (.ref h),some (dW w),some (.int t),some (.ref b),some (.ref (b+1)),some (.ref (b+2)),some (.int (x.1:Nat)),y7,z8,z9,some (.int (x.2:Nat)),some (.ref V.length),H]) ?_ ?_
   ·unfold mFor;rw [qah];refine qiP (d:=dR row) (S1:=V++[.lst []]) ?_ ?_
    ·simp only [qaa,mNil,m2,b2,mV,gC1,List.getElem?_cons_zero,oS1,qf8 G]
    refine qd9.mpr ?_;refine qaA (fun j r S=>∃ l f z8 z9 H,j<=row.length/\met <+: l/\MI w t l/\BS h g (c+300) b U V0 F l rooms S/\S[V.length]? = some (.lst (f.map pD))/\f.length=j/\qiQ l f row/\r=[some (.ref h),some (dW w),some (.int t),some (.ref b),some (.ref (b+1)),some (.ref (b+2)),some (.int (x.1:Nat)),y7,z8,z9,some (.int (x.2:Nat)),some (.ref V.length),H]) _ 0 _ _ ⟨met,[],_,_,_,by lia,List.prefix_rfl,Y,bs1,by rw [qaC];rfl,rfl,fun d e goal h1=>by simp at h1,rfl⟩ (fun _ _ _ _=>rfl) ?_ ?_
    ·rintro j dd R r S ⟨l,f,z8,z9,H,hj,p,I,u,J,A,ro,rfl⟩;dsimp only at R;rw [qce,gP1] at R;obtain ⟨z,hz,rfl⟩:=oM1.mp R;obtain ⟨goal,n,rfl⟩:=oM1.mp hz;have hjlt:=(gE1.mp n).1;rw [Nat.zero_add] at *
     ((try walk_at "own wq");repeat (simp only [qrT];try walk_at "own wq"))
     refine qrP hw h8 v hl0 o0 hkb u I (by lia) J (by lia) hxi.2 ⟨row,G,n⟩ fun met2 e V2 x12' c1 c2 c3 c4 c5 c6 c7=>?_;refine ⟨rfl,met2,f++[e],_,_,_,by lia,p.trans c1,c2,c3,c4,by simp [A],fun d e' goal' h1 h2=>?_,rfl⟩;by_cases hd:d<f.length
     ·rw [gL1 hd] at h1;exact (ro.mono c1) d e' goal' h1 h2
     ·have hd2:d=f.length:=by have:=(gE1.mp h1).1;simp at this;lia
      subst hd2;rw [List.getElem?_concat_length] at h1;cases h1;rw [A,n] at h2;cases h2;exact ⟨c5,c6⟩
    ·rintro r S ⟨l,f,z8,z9,H,hj,p,I,u,J,A,ro,rfl⟩;rw [qcd,lM1,Nat.zero_add] at A;exact ⟨rfl,l,f,_,_,_,p,I,u,J,A,ro,rfl⟩
   rintro r S ⟨l,f,z8,z9,H,p,I,u,J,A,ro,rfl⟩;have hfew':=I.few h8;walk_at "own wq";refine qdz ?_;walk_at "own wq";refine ⟨b+2,rooms.map dR,rfl,u.rm,?_⟩;refine qax J ?_;refine (qfC u.rm).mpr ⟨qaj (by rw [lM1];lia),?_⟩;have e:rooms.map dR++[D.tup (f.map pD)]=(rooms++[f]).map dR:=by rw [List.map_append];rfl
   rw [e];have hb2:b+2<S.length:=(gE1.mp u.rm).1;refine ⟨l,rooms++[f],_,_,_,_,_,_,_,u.set v (.inr (.inr rfl)) hl0 hb2 (by rw [Ob.und];exact qpb _) (by rw [gS1 (by lia)];exact u.mt) (by rw [List.getElem?_set_self hb2]),I,fun i E hi=>?_,by simp [hk],?_,?_,rfl⟩
   ·by_cases hik:i<rooms.length
    ·rw [gL1 hik] at hi;exact (rf.mono p) i E hi
    ·have hi2:i=rooms.length:=by have:=(gE1.mp hi).1;simp at this;lia
     subst hi2;rw [List.getElem?_concat_length] at hi;cases hi;exact ⟨x,row,by rw [hk];exact qgM p M,G,A,ro⟩
   ·have:=p.length_le;lia
   ·have:=p.length_le;lia
  ·rw [if_neg (by rw [decide_eq_true_eq];lia)];exact ⟨met,rooms,_,_,_,_,_,_,_,bs,Y,rf,by lia,hmp,rfl⟩
 rintro r V ⟨met,rooms,y6,y7,y8,y9,y10,y11,T,bs,Y,rf,hrl,hmp,rfl⟩;have hfew:=Y.few h8;have wo:WebO rooms:=by
  refine ⟨by lia,by lia,fun row hr=>?_,fun E hr e he=>?_⟩
  ·obtain ⟨i,hi⟩:=List.getElem?_of_mem hr;obtain ⟨x,C,a1,a2,a3,a4⟩:=rf i row hi;rw [a3];exact hw.le C (gM1 a2)
  ·obtain ⟨i,hi⟩:=List.getElem?_of_mem hr;obtain ⟨d,hd⟩:=List.getElem?_of_mem he;obtain ⟨x,C,a1,a2,a3,a4⟩:=rf i E hi;obtain ⟨goal,n⟩:∃ goal,C[d]? = some goal:=⟨_,gG1 (by rw [<- a3];exact (gE1.mp hd).1)⟩;obtain ⟨b1,y,b2,b3⟩:=a4 d e goal hd n;obtain ⟨K,hc2⟩:∃ cr,rooms[e.1]? = some cr:=⟨_,gG1 (by rw [hrl];exact (gE1.mp b2).1)⟩;obtain ⟨x2,row2,d1,d2,d3,d4⟩:=rf e.1 K hc2;rw [b2] at d1;cases d1;obtain ⟨row3,e1,e2⟩:=hw.back x.1 d goal ⟨C,a2,n⟩;rw [b3,e1] at d2;cases d2;exact ⟨K,hc2,by rw [b1,d3];exact (gE1.mp e2).1⟩
 walk_at "own wq";refine qax bs.rm ?_;refine qax bs.mt ?_;refine mapW (fun x:Nat×Nat=>.int x.1) (fun r=>∃ x y,r=[x,y]) (qbA bs.mt) met _ ⟨_,_,rfl⟩ ?_ ?_
 ·rintro x M r ⟨a,b',rfl⟩;rw [pD];walk_at "own wq";exact ⟨_,_,rfl⟩
 ·rintro r' _;walk_at "own wq";refine ⟨qaj (by rw [lM1];lia),?_⟩;have sf:HS h g (c+400) U (V++[.lst (met.map fun x:Nat×Nat=>D.int x.1)]):=(bs.hs.app fun o O=>by simp at O;subst O;rw [Ob.und];exact Mi.unds_map fun _ _=>rfl).more (by lia);have hVl:=bs.hs.len;have hgc:∀ d S,d=D.tup [dW rooms,D.ref V.length]->gc b (d,S)=(d,S):=fun d S e=>by
   unfold gc;rw [if_neg];subst e;simp [D.und,D.unds];intro _ z;lia
  have:=q rooms V.length _ (met.map (·.1)) wo hVl (by rw [List.map_map,qaC];rfl) (by rw [lM1,hrl]) (fun x M=>by obtain ⟨y,hy,rfl⟩:=List.mem_map.mp M;rw [<- hw.len];exact (Y.inn y hy).1) (s.trans sf) sf;rw [hgc]
  ·exact this
  ·rfl
theorem qhN {w:qab}{S:Sto}:gLen (dW w) S=some (.int w.length,S):=by simp [dW,gLen,qap]
theorem qsn {h g c:Nat}{B U:Sto}{Q:D×Sto->Prop}(s:HS h g c B U)(hc:c<=2^39)
  (q:∀ w d,WebO w->HS h g (c+1000) B d->HS h g (c+1000) U d->d.length=U.length->Q (dW w,d)):W (qaf 1 qb1 [.ref h] U) Q:=by
 refine qkL (c':=c+1000) rfl rfl s ?_;have z:HS h g c U U:=HS.self s.hand s.shut;unfold qb1;refine fnW ?_;unfold qeT;walk_at "own wq";refine qby z (by lia) (by lia) (by lia) fun k M u _ H J=>?_;walk_at "own wq";split
 ·refine qby u (by lia) (by lia) (by lia) fun m p o _ y x=>?_;walk_at "own wq";rw [show ((1:Int)+(m:Int))=((m+1:Nat):Int) by lia];refine qnD (by lia) (by lia) ?_;exact ⟨o.more (by lia),qeF 0 _,fun d a b l=>q _ d ((qld (by lia) (by lia)).o (by lia) (by lia)) a b l⟩
 ·split
  ·refine qhi (most:=4) u (by lia) (by lia) (by lia) fun m w p e x f o v y=>?_
   ((try walk_at "own wq");repeat (simp only [qhN];try walk_at "own wq"))
   have j:gDiv (D.int 8) (D.int w.length) p=some (.int ((8/w.length:Nat):Int),p):=by
    have L:=f.len;simp only [gDiv];rw [if_pos ⟨by lia,by lia⟩];simp
   ((try walk_at "own wq");repeat (simp only [j];try walk_at "own wq"))
   have hd:0<8/w.length:=by rw [f.len];exact Nat.div_pos (by lia) e
   have A:8/w.length<=8:=Nat.div_le_self _ _;refine qby o (by lia) (by lia) (by lia) fun r F C E G t=>?_;walk_at "own wq";rw [show ((1:Int)+(r:Int))=((r+1:Nat):Int) by lia];have n:m*(r+1)<=8:=by
    have h1:r+1<=8/m:=by rw [f.len] at t;lia
    exact Nat.le_trans (Nat.mul_le_mul_left m h1) (Nat.mul_div_le 8 m)
   refine qkA C (by lia) f e (by lia) n fun I K V _ wo _ _ _ _ a b=>?_;refine qkQ (i:=0) rfl ?_;exact ⟨a.more (by lia),qeF 0 _,fun d a b l=>q _ d wo a b l⟩
  ·refine qhi (most:=8) u (by lia) (by lia) (by lia) fun m w p e x f o v y=>?_;exact ⟨o.more (by lia),qeF 0 _,fun d a b l=>q _ d (f.o e x) a b l⟩
theorem modW {x y:Int}{S:Sto}{Q:D×Sto->Prop}(h:0<y)(q:Q (.int (x%y),S)):W (gMod (.int x) (.int y) S) Q:=by
 refine W.of ?_ q;simp only [gMod,if_pos h]
theorem mulW {x y:Int}{S:Sto}{Q:D×Sto->Prop}(h:qba x y=true)(q:Q (.int (x*y),S)):W (gMul (.int x) (.int y) S) Q:=by
 refine W.of ?_ q;simp only [gMul,if_pos h]
theorem powW {x y:Nat}{S:Sto}{Q:D×Sto->Prop}(h:y<=1000)(hx:x<=100)(q:Q (.int ((x:Int)^y),S)):W (gPow (.int x) (.int y) S) Q:=by
 refine W.of ?_ q;simp only [gPow];rw [if_pos ⟨by lia,by lia,by lia⟩,Int.toNat_natCast]
theorem absW {x:Int}{S:Sto}{Q:D×Sto->Prop}(q:∀ y:Int,0<=y->Q (.int y,S)):W (gAbs (.int x) S) Q:=by
 refine W.of (x:=(.int (if x<0 then-x else x),S)) rfl (q _ ?_);split<;>lia
theorem qrG (ns:List Int)(u:ns.length<=63):W (qbg [.rol (ns.map D.int)] []) fun p=>p.1 = .ref 2 /\ ∃ (own:List Int) (a:Int),p.2=[.lst (own.map D.int),.lst (ns.map D.int),hd 0 a 0]/\(∀ x∈own,0<=x)/\own.length<=63:=by
 unfold qbg;refine fnW ?_;unfold qet;generalize m:D.rol (ns.map D.int)=N;have j:gLen N []=some (.int ns.length,[]):=by rw [<- m];simp [gLen,qap]
 refine seqW (fun r S=>∃ a,S=[.lst (([]:List Int).map D.int)]/\r=[some N,some (.int a),some (.ref 0),none,none]) ?_ ?_
 ·((try walk_at "own wq");repeat (simp only [j];try walk_at "own wq"))
  exact ⟨_,rfl⟩
 rintro r S ⟨a,rfl,rfl⟩;refine seqW (fun r S=>∃ (own:List Int) (a:Int) (f g:Option D),S=[.lst (own.map D.int),.lst (ns.map D.int)]/\r=[some N,some (.int a),some (.ref 0),f,g]/\(∀ x∈own,0<=x)/\own.length<=63) ?_ ?_
 ·unfold mFor;rw [qah];have k:qaa (mSlX (mV 0) qix (qiw (mC (D.int 63)))) mNil [some N,some (.int a),some (.ref 0),none,none] [Ob.lst (([]:List Int).map D.int)]=some ([.ref 1],[.lst (([]:List Int).map D.int),.lst (ns.map D.int)]):=by
   have hc:Mi.cutD (ns.map D.int) none (some 63)=ns.map D.int:=qgi ⟨rfl,by
    have:=HT.qjp (ns.map D.int).length (ns.map D.int).length 63;rw [show (some (63:Int))=some ((63:Nat):Int) from rfl,this,lM1];lia⟩
   rw [<- m];simp [qaa,mSlX,mV,qix,qiw,mC,qji,qap,hc,mNil]
  refine qiP k ?_;refine qax (xs:=ns.map D.int) rfl ?_;refine qaA (fun i r S=>∃ (own:List Int) (a:Int) (f g:Option D),i<=ns.length/\S=[.lst (own.map D.int),.lst (ns.map D.int)]/\r=[some N,some (.int a),some (.ref 0),f,g]/\(∀ x∈own,0<=x)/\own.length<=i) _ 0 _ _ ⟨[],a,none,none,by lia,rfl,rfl,by simp,by simp⟩ ?_ ?_ ?_
  ·rintro i r S ⟨own,_,_,_,_,rfl,_⟩;exact qbA rfl
  ·rintro i v d r S ⟨own,a,f,g,hi,rfl,rfl,b,c⟩;dsimp only at d;rw [qce,gP1] at d;obtain ⟨z,q,rfl⟩:=oM1.mp d;obtain ⟨h,e,rfl⟩:=oM1.mp q;have n:=(gE1.mp e).1;rw [Nat.zero_add] at *
   walk_at "own wq";unfold qdb;refine seqW (fun r S=>∃ a,S=[.lst (own.map D.int),.lst (ns.map D.int)]/\r=[some N,some (.int a),some (.ref 0),some (.int (i:Nat)),some (.int h)]) ?_ ?_
   ·walk_at "own wq";refine mulW (qog (by decide) (by decide)) ?_;refine powW (x:=10) (y:=30) (by decide) (by decide) ?_;refine modW (by exact Int.pow_pos (by decide)) ?_;walk_at "own wq";refine mulW (qlJ (by decide) (by decide)) ?_;walk_at "own wq";refine modW (by decide) ?_;exact ⟨_,rfl,rfl⟩
   rintro r S ⟨a,rfl,rfl⟩;walk_at "own wq";refine absW fun w s=>?_;refine powW (x:=10) (y:=18) (by decide) (by decide) ?_;walk_at "own wq";split
   ·refine qdz ?_;walk_at "own wq";refine ⟨0,own.map D.int,rfl,rfl,?_⟩;refine absW fun o l=>?_;refine powW (x:=10) (y:=60) (by decide) (by decide) ?_;refine powW (x:=10) (y:=30) (by decide) (by decide) ?_;refine mulW (show qba (10^60) (10^30)=true by decide+kernel) ?_;refine modW (by exact Int.mul_pos (Int.pow_pos (by decide)) (Int.pow_pos (by decide))) ?_;walk_at "own wq";refine (qfC (xs:=own.map D.int) rfl).mpr ⟨qaj (by rw [lM1];lia),?_⟩;refine ⟨own++[_],_,_,_,by lia,by rw [List.map_append];rfl,rfl,fun x t=>?_,by simp;lia⟩;rcases List.mem_append.mp t with z | z
    ·exact b x z
    ·simp only [List.mem_singleton] at z;rw [z];exact Int.emod_nonneg _ (Int.ne_of_gt (Int.mul_pos (Int.pow_pos (by decide)) (Int.pow_pos (by decide))))
   ·exact ⟨own,_,_,_,by lia,rfl,rfl,b,by lia⟩
  ·rintro r S ⟨own,a,f,g,hi,rfl,rfl,b,c⟩;rw [qcd,lM1,Nat.zero_add] at c;exact ⟨rfl,own,_,_,_,rfl,rfl,b,by lia⟩
 rintro r S ⟨own,a,f,g,rfl,rfl,b,c⟩;walk_at "own wq";exact ⟨own,a,rfl,b,c⟩
mutual
theorem qnw:∀ d:D,d.sh 0=d
 | .non=>rfl
 | .bl _=>rfl
 | .int _=>rfl
 | .str _=>rfl
 | .fn _=>rfl
 | .tup xs=>by rw [D.sh,qdV xs]
 | .rol xs=>by rw [D.sh,qdV xs]
 | .ref k=>by rw [D.sh,Nat.zero_add]
theorem qdV:∀ ds:List D,D.shs 0 ds=ds
 | []=>rfl
 | d::ds=>by rw [D.shs,qnw d,qdV ds]
end
theorem qns (ns:List Int)(g:ns.length<=63):W (qaf 1 qbg [.rol (ns.map D.int)] []) fun p=>p.1 = .ref 2/\HS 2 0 0 p.2 p.2:=by
 obtain ⟨⟨d,S⟩,e,hd,own,a,c,b,f⟩:=qrG ns g;dsimp only at hd c;subst hd;subst c;refine ⟨_,qfy (n:=1) e rfl (by rw [D.unds,D.und,qaw];rfl) (by simp [D.und]),?_⟩;refine ⟨rfl,?_⟩;have h:([Ob.lst (own.map D.int),.lst (ns.map D.int),hd 0 a 0].map (Ob.sh ([]:Sto).length))=[Ob.lst (own.map D.int),.lst (ns.map D.int),hd 0 a 0]:=by
  simp [Ob.sh,hd,qdV]
 dsimp only;rw [h,List.nil_append];refine HS.self ⟨by decide,a,0,own,rfl,rfl,b,by lia,Int.le_refl _,Int.le_refl _⟩ ?_;unfold Shut;simp [Ob.und,qaw,hd,D.unds,D.und]
theorem HS.pushI {h g n:Nat}{B U:Sto}(s:HS h g n B U)(zs:List Int):HS h g n B (U++[.lst (zs.map D.int)]):=s.app fun o a=>by simp at a;subst a;rw [Ob.und];exact qaw _ _
theorem qqO {h g c:Nat}{B U:Sto}(zs:List Int){Q:D×Sto->Prop}(s:HS h g c B U)(hc:c<=2^44)(j:zs.length<=100)(e:0<zs.length)
  (q:∀ z∈zs,∀ d,HS h g (c+1) B d->HS h g (c+1) U d->d.length=U.length+1->Q (.int z,d)):W (qaf 2 qbb [.ref h,.ref U.length] (U++[.lst (zs.map D.int)])) Q:=by
 have h1:=s.hl;have h2:=s.gl;have n:=s.len;have k:HS h g c U U:=HS.self s.hand s.shut;refine of_W (r:=U.length) (xs:=zs.map D.int) (s.pushI zs) (by lia) (by rw [qaC];rfl) (by lia) (by lia) (by rw [lM1];exact j) (by rw [lM1];exact e) (fun x f=>by obtain ⟨y,_,rfl⟩:=List.mem_map.mp f;rfl) fun x i f a b l=>?_;obtain ⟨z,m,rfl⟩:=List.mem_map.mp f;exact q z m i a ((k.pushI zs).trans b) (by rw [l];simp)
theorem qsJ {S:Sto}:gPow (.int 10) (.int 30) S=some (.int (10^30),S):=by
 simp only [gPow];rw [if_pos ⟨by decide,by decide,by decide⟩];rfl
theorem qqe {S:Sto}:gPow (.int 10) (.int 40) S=some (.int (10^40),S):=by
 simp only [gPow];rw [if_pos ⟨by decide,by decide,by decide⟩];rfl
theorem neg_int {x:Int}{S:Sto}:gNeg (.int x) S=some (.int (-x),S):=rfl
theorem qjk {h g c m:Nat}{B U:Sto}{Q:D×Sto->Prop}(s:HS h g c B U)(hc:c<=2^40)(G:0<m)(hm:m<=8)
  (q:∀ (sg:List Int) C,sg.length=m->HS h g (c+20) B C->HS h g (c+20) U C->C.length=U.length->Q (.tup (sg.map D.int),C)):W (qaf 2 qa7 [.ref h,.int m] U) Q:=by
 have X:=s.hl;have T:=s.gl;have M:=s.len;refine qkL (c':=c+20) rfl rfl s ?_;have J:HS h g c U U:=HS.self s.hand s.shut;unfold qa7;refine fnW ?_;unfold qdJ;refine seqW (fun r V=>∃ n:Nat,HS h g (c+1) U V/\r=[some (.ref h),some (.int m),some (.int n),none]) ?_ ?_
 ·walk_at "own wq";refine qby J (by lia) (by lia) (by lia) fun k H F _ R u=>?_;exact ⟨k,F,rfl⟩
 rintro r V ⟨n,F,rfl⟩;have P:=F.len;refine seqW (fun r V=>∃ (k:Nat) (sg:List Int),sg.length=m/\U.length<=k/\V[k]? = some (.lst (sg.map D.int))/\HS h g (c+1) U V/\r=[some (.ref h),some (.int m),some (.int n),some (.ref k)]) ?_ ?_
 ·walk_at "own wq";refine qr6 (k:=m) (xs:=[.int 0]) (by rw [qaC];rfl) (by lia) (by simp) ?_;have e:(List.replicate m [D.int 0]).flatten=(List.replicate m (0:Int)).map D.int:=by
   clear q s J F hc hm G
   induction m with
   | zero=>rfl
   | succ m ih=>rw [List.replicate_succ,List.replicate_succ,List.flatten_cons,ih];rfl
  rw [e];refine ⟨V.length+1,List.replicate m 0,by simp,by lia,by rw [List.append_assoc,qcb];rfl,?_,?_⟩
  ·have:=(F.pushI [0]).pushI (List.replicate m 0);simpa using this
  ·simp
 rintro r V ⟨k,sg,j,u,f,o,rfl⟩;refine seqW (fun r V=>∃ (k:Nat) (sg:List Int),sg.length=m/\U.length<=k/\V[k]? = some (.lst (sg.map D.int))/\HS h g (c+9) U V/\r=[some (.ref h),some (.int m),some (.int n),some (.ref k)]) ?_ ?_
 ·walk_at "own wq";split
  ·refine ⟨qaW (by lia),?_⟩;rw [Int.toNat_natCast];refine qcx (fun i t r w=>i<=m/\(∃ zs:List Int,t=zs.map D.int/\zs.length=i)/\HS h g (c+1+i) U w /\ ∃ A,r=[A,some (.ref h)]) _ 0 [] _ _ ⟨by lia,⟨[],rfl,rfl⟩,o,_,rfl⟩ (fun _ _ _ _ _=>rfl) ?_ ?_
   ·rintro i d hd t r w ⟨hi,⟨zs,rfl,x⟩,v,A,rfl⟩;have y:=(gE1.mp hd).1;rw [qay] at y;rw [Nat.zero_add] at *
    walk_at "own wq";refine qby v (by lia) (by lia) (by lia) fun e H a _ _ K=>?_;exact ⟨by lia,⟨zs++[(e:Int)],by simp,by simp;lia⟩,a.more (by lia),_,rfl⟩
   ·rintro xs r w ⟨hi,⟨zs,x,p⟩,v,A,rfl⟩;rw [qay,Nat.zero_add] at p v;rw [List.nil_append] at x;subst x;refine ⟨qaj (by rw [lM1];lia),w.length,zs,p,v.len,by rw [qaC];rfl,(v.more (by lia)).pushI zs,rfl⟩
  ·exact ⟨k,sg,j,u,f,o.more (by lia),rfl⟩
 clear j u f o;rintro r V ⟨k,sg,j,u,f,o,rfl⟩;refine seqW (fun r V=>∃ (k:Nat) (sg:List Int),sg.length=m/\U.length<=k/\V[k]? = some (.lst (sg.map D.int))/\HS h g (c+11) U V/\r=[some (.ref h),some (.int m),some (.int n),some (.ref k)]) ?_ ?_
 ·((try walk_at "own wq");repeat (simp only [neg_int,qsJ];try walk_at "own wq"))
  split
  ·refine qqO [1,-1,10^30] o (by lia) (by simp) (by simp) fun z x H a b l=>?_;walk_at "own wq";refine qby a (by lia) (by lia) (by lia) fun e N O b2 S K=>?_;have E:N[k]? = some (.lst (sg.map D.int)):=b2.at (b.at f (by lia) (by lia)) (by lia) (by lia);refine qna (i:=e) E (by rw [lM1];lia) ?_;have I:=(gE1.mp E).1;refine ⟨k,sg.set e z,by simpa using j,u,?_,?_,rfl⟩
   ·rw [List.getElem?_set_self I,List.map_set]
   ·exact O.set u (by rw [Ob.und,<- List.map_set];exact qaw _ _)
  ·exact ⟨k,sg,j,u,f,o.more (by lia),rfl⟩
 clear j u f o;rintro r V ⟨k,sg,j,u,f,o,rfl⟩;refine seqW (fun r V=>∃ (k:Nat) (sg:List Int),sg.length=m/\V[k]? = some (.lst (sg.map D.int))/\HS h g (c+19) U V/\r=[some (.ref h),some (.int m),some (.int n),some (.ref k)]) ?_ ?_
 ·((try walk_at "own wq");repeat (simp only [neg_int,qqe];try walk_at "own wq"))
  split
  ·refine ⟨qaW (by lia),?_⟩;rw [Int.toNat_natCast];refine qcx (fun i t r w=>i<=m/\(∃ zs:List Int,t=zs.map D.int/\zs.length=i)/\HS h g (c+11+i) U w /\ ∃ A,r=[A,some (.ref h)]) _ 0 [] _ _ ⟨by lia,⟨[],rfl,rfl⟩,o,_,rfl⟩ (fun _ _ _ _ _=>rfl) ?_ ?_
   ·rintro i d hd t r w ⟨hi,⟨zs,rfl,x⟩,v,A,rfl⟩;have y:=(gE1.mp hd).1;rw [qay] at y;rw [Nat.zero_add] at *
    ((try walk_at "own wq");repeat (simp only [neg_int,qqe];try walk_at "own wq"))
    refine qqO [0,2,-3,10^40,10^40+1] v (by lia) (by simp) (by simp) fun z L H a _ _=>?_;exact ⟨by lia,⟨zs++[z],by simp,by simp;lia⟩,a.more (by lia),_,rfl⟩
   ·rintro xs r w ⟨hi,⟨zs,x,p⟩,v,A,rfl⟩;rw [qay,Nat.zero_add] at p v;rw [List.nil_append] at x;subst x;refine ⟨qaj (by rw [lM1];lia),w.length,zs,p,by rw [qaC];rfl,(v.more (by lia)).pushI zs,rfl⟩
  ·exact ⟨k,sg,j,f,o.more (by lia),rfl⟩
 clear j u f o;rintro r V ⟨k,sg,j,f,o,rfl⟩;walk_at "own wq";refine qax f ?_;exact ⟨o.more (by lia),by rw [D.und];exact qaw _ _,fun C a b l=>q sg C j a b l⟩
noncomputable def rowL (w:Web)(r:Nat):Nat:=(w[r]?.getD []).length
noncomputable def sgA (sg:List Int)(r:Nat):Int:=sg[r]?.getD 0
noncomputable def stD (w:Web)(sg:List Int)(c r:Nat):D:=.tup [.int c,.int (rowL w r),.int (sgA sg r)]
noncomputable def qio (w:Web)(sg:List Int):Nat->Nat->List Int->List D
 | c,r,[]=>[stD w sg c r]
 | c,r,d::ds=>stD w sg c r::match stp w r d with
  | none=>[]
  | some p=>qio w sg (1+p.2) p.1 ds
theorem qbV (w:Web)(sg:List Int):∀ (ws:List Int) (c r:Nat),qio w sg c r ws=stD w sg c r::(qaK w r ws).map fun p=>stD w sg (1+p.2) p.1
 | [],c,r=>rfl
 | d::ws,c,r=>by
  rw [qio,qaK];cases stp w r d with
  | none=>rfl
  | some p=>dsimp only;rw [qbV w sg ws (1+p.2) p.1];rfl
theorem qpR {w:Web}{sg:List Int}{c r n:Nat}:(stD w sg c r).und n=true:=rfl
theorem qk7 {w:Web}{sg:List Int}{n:Nat}:∀ (ws:List Int) (c r:Nat),D.unds n (qio w sg c r ws)=true:=fun ws c r=>by
 rw [qbV,D.unds,qpR,Bool.true_and];exact Mi.unds_map fun _ _=>rfl
theorem qnC {w:Web}{r:Nat}{row:List (Nat×Nat)}(h:w[r]? = some row):rowL w r=row.length:=by unfold rowL;rw [h];rfl
theorem qrD {sg:List Int}{r:Nat}{S:Sto}(h:r<sg.length):gIxY (.tup (sg.map D.int)) (.int r) S=some (.int (sgA sg r),S):=
 ix_tup (by unfold sgA;rw [gP1,gG1 h];rfl)
theorem qrs {w:Web}{r:Nat}{S:Sto}{row:List (Nat×Nat)}(h:w[r]? = some row):gLen (dR row) S=some (.int (rowL w r),S):=by rw [qnC h];exact qj4
theorem callG {n:Nat}{f:FN}{ds:List D}{S:Sto}{Q:D×Sto->Prop}(hn:ds.length=n)(b:D.unds 0 ds=false)(a:Shut S)
  (h:W (f ds S) fun p=>(∃ G,p.2=S++G)/\p.1.und 0=true/\Q (p.1,S)):W (qaf n f ds S) Q:=by
 refine qiK hn b (h.mono ?_);rintro ⟨d,V⟩ ⟨⟨G,e⟩,hd,q⟩;dsimp only at e hd q;subst e;have e:gc S.length (d,S++G)=(d,S):=by
  unfold gc;dsimp only;rw [List.take_left,if_pos];rw [qc5 hd,Bool.true_and];exact a
 rw [e];exact q
theorem qht {w:Web}{sg:List Int}{r:Nat}{ws:List Int}{S:Sto}{Q:D×Sto->Prop}(hw:w.inn)(k:sg.length=w.length)(hr:r<w.length)(s:ws.length<=1000)
  (q:Q (.tup (qio w sg 0 r ws),S)):W (qaf 4 qdd [dW w,.tup (sg.map D.int),.int r,.tup (ws.map D.int)] S) Q:=by
 refine qdQ rfl (by rw [D.unds,qeF,D.unds,D.und,qaw,D.unds,D.und,D.unds,D.und,qaw];rfl) ?_;unfold qdd;refine fnW ?_;unfold qm9;obtain ⟨row,a⟩:∃ row,w[r]? = some row:=⟨_,gG1 hr⟩;have j:ws.length<sizeLine:=Nat.lt_of_le_of_lt s (by decide);obtain ⟨u,e⟩:=qk2 hw hr j;have c:qaf 3 qdu [dW w,.int r,.tup (ws.map D.int)] []=some (.tup ((qaK w r ws).map dP),[]):=
  qgl e rfl (by rw [D.unds,qeF,D.unds,D.unds,D.und,D.und,qaw];rfl) (by rw [D.und];exact Law.unds_map (qmo 0) _)
 refine seqW (fun h V=>V=[]/\h=[some (dW w),some (.tup (sg.map D.int)),some (.int r),some (.tup (ws.map D.int)),some (stD w sg 0 r),none]) ?_ ?_
 ·((try walk_at "own wq");repeat (simp only [qf8 a,qrs a,qrD (k ▸ hr)];try walk_at "own wq"))
  rfl
 rintro h V ⟨rfl,rfl⟩;have i:∀ p∈qaK w r ws,p.1<w.length:=by
  clear q c e a s j
  induction ws generalizing r with
  | nil=>intro p g;simp [qaK] at g
  | cons d ws ih=>
   intro p g;rw [qaK] at g;cases he:stp w r d with
   | none=>rw [he] at g;simp at g
   | some t=>
    rw [he] at g;have h1:=qpQ hw he;rcases List.mem_cons.mp g with z | z
    ·rw [z];exact h1
    ·exact ih h1 p z
 refine seqW (fun h V=>V=[.lst ((qaK w r ws).map fun p=>stD w sg (1+p.2) p.1)]/\h=[some (dW w),some (.tup (sg.map D.int)),some (.int r),some (.tup (ws.map D.int)),some (stD w sg 0 r),some (.ref 0)]) ?_ ?_
 ·walk_at "own wq";refine W.of c ?_
  ((try walk_at "own wq");repeat (simp only [qd9];try walk_at "own wq"))
  refine mapW (f:=dP) (fun p=>stD w sg (1+p.2) p.1) (fun h=>∃ l m,h=[l,m,some (dW w),some (.tup (sg.map D.int))]) rfl (qaK w r ws) _ ⟨_,_,rfl⟩ ?_ ?_
  ·rintro p g h ⟨l,m,rfl⟩;obtain ⟨o,b⟩:∃ row,w[p.1]? = some row:=⟨_,gG1 (i p g)⟩;unfold dP
   ((try walk_at "own wq");repeat (simp only [qf8 b,qrs b,qrD (k ▸ i p g)];try walk_at "own wq"))
   refine ⟨?_,_,_,rfl⟩;unfold stD
   push_cast
   rfl
  ·rintro h ⟨l,m,rfl⟩;have:=qe0 w ws r;exact ⟨qaj (by rw [lM1];lia),rfl,rfl⟩
 rintro h V ⟨rfl,rfl⟩;walk_at "own wq";refine qax rfl ?_;have:=qe0 w ws r;walk_at "own wq";refine ⟨qaj (by rw [lM1];lia),?_,?_⟩
 ·have:=qk7 (w:=w) (sg:=sg) (n:=0) ws 0 r;rw [qbV] at this;rw [D.und];exact this
 ·rw [<- qbV];exact q
theorem qtt {m:FE}{lo hi:FO}{r:Ev}{S:Sto}{xs:List D}{a b:Option Int}{Q:D×Sto->Prop}(hm:m r S=some (.tup xs,S))(c:lo r S=some (a,S))(d:hi r S=some (b,S))(q:Q (.tup (Mi.cutD xs a b),S)):W (mSlX m lo hi r S) Q:=by
 refine W.of ?_ q;unfold mSlX;rw [hm,oS1];dsimp only;rw [c,oS1];dsimp only;rw [d,oS1];simp only [qji,qgE,oP1,bF1,if_false]
theorem cutT (xs:List D)(k:Nat):Mi.cutD xs none (some (k:Int))=xs.take k:=by
 unfold Mi.cutD;rw [HT.qlb,HT.qjp,List.drop_zero,Nat.sub_zero];by_cases h:k<=xs.length
 ·rw [Nat.min_eq_left h]
 ·rw [Nat.min_eq_right (by lia),List.take_length,List.take_of_length_le (by lia)]
theorem qmf (ws:List Nat)(k:Nat):Mi.cutD (nmD ws) none (some (k:Int))=nmD (ws.take k):=by
 rw [cutT,nmD,nmD,<- List.map_take]
theorem qmI (ws:List Nat):nmD ws=(ws.map Int.ofNat).map D.int:=by simp [nmD]
theorem qgw {T:Ty}{m:FE}{r:Ev}{S:Sto}{Q:D×Sto->Prop}:W (mIsT T m r S) Q↔W (m r S) fun p=>W (isTy p.2 T p.1) fun b=>Q (.bl b,p.2):=by
 unfold mIsT;rw [qah];simp only [qeC]
theorem qmQ {S:Sto}{T:Ty}{xs:List D}:isTy S T (.tup xs)=some (decide (T = .tuple)):=rfl
theorem qmR {S:Sto}{T:Ty}{i:Int}:isTy S T (.int i)=some (decide (T = .int)):=rfl
theorem qiE {xs:List D}{S:Sto}:gIsX (.tup xs) .non S=some (.bl false,S):=rfl
theorem qiF {i:Int}{S:Sto}:gIsX (.int i) .non S=some (.bl false,S):=rfl
theorem qse {m:FA}{r:Ev}{S:Sto}{xs ys:List D}{Q:Itm×Sto->Prop}(hm:m r S=some ([.tup xs,.tup ys],S))(q:Q (⟨zpD xs ys,[]⟩,S)):W (iZp m r S) Q:=by
 refine W.of ?_ q;unfold iZp;rw [hm];rfl
theorem qiS:∀ xs:List D,zpD xs xs=xs.map fun x=>D.tup [x,x]
 | []=>rfl
 | x::xs=>by rw [zpD,qiS xs];rfl
theorem qsg {n:Nat}{xs:List D}{S:Sto}{Q:D×Sto->Prop}(h:S[n]? = some (.lst (xs.map fun _=>D.bl true)))(q:Q (.bl true,S)):W (gAll (.ref n) S) Q:=by
 refine W.of ?_ q;unfold gAll;rw [qe4 h,oS1];dsimp only;rw [qie (f:=fun _=>true)];simp
theorem qla (n:Nat)(i:Int)(S:Sto):W (qaB (n+1) [.int i,.int i] S) fun p=>p=(.bl true,S):=by
 rw [qaB];refine fnW ?_;unfold qbj
 ((try walk_at "own wq");repeat (simp only [qiF,qgw,qmR];try walk_at "own wq"))
 simp only [reduceCtorEq,decide_false,decide_true,beq_self_eq_true];walk_at "own wq"
theorem qk9 (n:Nat)(xs:List D)(i:xs.length<=10000)(g:D.unds 0 xs=true)(hx:∀ x∈xs,W (qaB n [x,x] []) fun p=>p.1 = .bl true):W (qaB (n+1) [.tup xs,.tup xs] []) fun p=>p.1 = .bl true:=by
 rw [qaB];refine fnW ?_;unfold qbj
 ((try walk_at "own wq");repeat (simp only [qiE,qgw,qmQ];try walk_at "own wq"))
 simp only [reduceCtorEq,decide_false,decide_true,beq_self_eq_true];walk_at "own wq";refine qse (xs:=xs) (ys:=xs) rfl ?_;rw [qiS];refine mapW (f:=fun x=>D.tup [x,x]) (fun _=>D.bl true) (fun d=>∃ b c,d=[b,c]) rfl xs _ ⟨_,_,rfl⟩ ?_ ?_
 ·rintro x a d ⟨b,c,rfl⟩;have e:x.und 0=true:=qeZ g a;walk_at "own wq";refine qdQ rfl (by rw [D.unds,D.unds,e];rfl) ?_;refine (hx x a).mono fun p h=>?_;rw [h];exact ⟨rfl,rfl,rfl,_,_,rfl⟩
 ·rintro d ⟨b,c,rfl⟩;refine ⟨qaj (by rw [lM1];lia),?_⟩;walk_at "own wq";refine qsg (xs:=xs) rfl ?_;walk_at "own wq"
noncomputable def webD (w:qab):D:=.tup (w.map fun row=>.tup (row.map pD))
structure WebJ (m:Nat)(w:qab):Prop where
 len:w.length=m
 le:∀ (i:Nat) (row:List (Nat×Nat)),w[i]? = some row->row.length<=4
 to:∀ (r d:Nat) (e:Nat×Nat),At w r d e->e.1<m
theorem WebO.j {w:qab}(h:WebO w):WebJ w.length w:=⟨rfl,fun i a b=>h.le a (gM1 b),fun r d e ⟨a,h1,h2⟩=>by
 obtain ⟨c,g,_⟩:=h.to a (gM1 h1) e (gM1 h2);exact (gE1.mp g).1⟩
theorem qbk (w:qab):(webD w).und 0=true:=by
 unfold webD;rw [D.und];exact Mi.unds_map fun a _=>by rw [D.und];exact Mi.unds_map fun _ _=>rfl
open Classical in
noncomputable def tf (P:Prop):Bool:=decide P
theorem tf_e {P:Prop}:tf P=true↔P:=by unfold tf;exact @decide_eq_true_iff P (Classical.propDecidable P)
theorem tf_t {P:Prop}(h:P):tf P=true:=tf_e.mpr h
theorem tf_b {P:Prop}{b:Bool}(h:b=true↔P):b=tf P:=by rw [Bool.eq_iff_iff,tf_e];exact h
theorem tf_f {P:Prop}(h:¬ P):tf P=false:=(tf_b ⟨fun z=>(by cases z),fun z=>(h z).elim⟩).symm
theorem tf_i {P Q:Prop}(h:P↔Q):tf P=tf Q:=tf_b (tf_e.trans h)
section
variable {α β:Type}
noncomputable def isF (k:Nat->α)(r:Nat):Prop:=∀ s,s<r->k s≠k r
theorem ql4 (k:Nat->α)(r:Nat):∃ s,s<=r/\k s=k r/\isF k s:=by
 induction r using Nat.strongRecOn with
 | ind r ih=>
  by_cases h:isF k r
  ·exact ⟨r,nR1 _,rfl,h⟩
  ·obtain ⟨s,h1,h2⟩:∃ s,s<r/\k s=k r:=Classical.byContradiction fun z=>h fun s a e=>z ⟨s,a,e⟩;obtain ⟨u,d,c,b⟩:=ih s h1;exact ⟨u,by lia,c.trans h2,b⟩
noncomputable def fs (k:Nat->α)(r:Nat):Nat:=Classical.choose (ql4 k r)
theorem qkj (k:Nat->α)(r:Nat):fs k r<=r:=(Classical.choose_spec (ql4 k r)).1
theorem fs_k (k:Nat->α)(r:Nat):k (fs k r)=k r:=(Classical.choose_spec (ql4 k r)).2.1
theorem fs_F (k:Nat->α)(r:Nat):isF k (fs k r):=(Classical.choose_spec (ql4 k r)).2.2
theorem ql5 {k:Nat->α}{r s:Nat}(h:k s=k r)(hf:isF k s):s=fs k r:=by
 rcases Nat.lt_trichotomy s (fs k r) with z | z | z
 ·exact (fs_F k r s z (h.trans (fs_k k r).symm)).elim
 ·exact z
 ·exact (hf _ z ((fs_k k r).trans h.symm)).elim
theorem qgc {k:Nat->α}{r s:Nat}:fs k r=fs k s↔k r=k s:=by
 constructor
 ·intro h;rw [<- fs_k k r,h];exact fs_k k s
 ·intro h;exact ql5 ((fs_k k r).trans h) (fs_F k r)
noncomputable def cnt (k:Nat->α)(n:Nat):Nat:=((List.range n).filter fun s=>tf (isF k s)).length
noncomputable def cn (k:Nat->α)(r:Nat):Nat:=cnt k (fs k r)
theorem qh6 {k:Nat->α}{n:Nat}:cnt k (n+1)=cnt k n+if tf (isF k n)=true then 1 else 0:=by
 unfold cnt;rw [List.range_succ,List.filter_append,lA1]
 congr 1
 cases h:tf (isF k n) with
 | true=>rw [List.filter_cons_of_pos (by exact h)];rfl
 | false=>rw [List.filter_cons_of_neg (by rw [h];decide)];rfl
theorem qh7 {k:Nat->α}{a b:Nat}(h:a<=b):cnt k a<=cnt k b:=by
 induction b with
 | zero=>rw [show a=0 by lia];exact nR1 _
 | succ b ih=>
  rcases Nat.lt_succ_iff_lt_or_eq.mp (Nat.lt_succ_of_le h) with z | z
  ·rw [qh6];have:=ih (by lia);lia
  ·rw [z];exact nR1 _
theorem qkB {k:Nat->α}{a b:Nat}(h:a<b)(hf:isF k a):cnt k a<cnt k b:=by
 have h1:=qh7 (k:=k) (show a+1<=b from h);rw [qh6,tf_t hf,if_pos rfl] at h1;lia
theorem qm5 {k:Nat->α}{r s:Nat}:cn k r=cn k s↔k r=k s:=by
 constructor
 ·intro h;rw [<- qgc];rcases Nat.lt_trichotomy (fs k r) (fs k s) with z | z | z
  ·have:=qkB z (fs_F k r);unfold cn at h;lia
  ·exact z
  ·have:=qkB z (fs_F k s);unfold cn at h;lia
 ·intro h;unfold cn;rw [qgc.mpr h]
theorem qga {k:Nat->α}{k':Nat->β}{m r:Nat}(h:∀ a b,a<m->b<m->(k a=k b↔k' a=k' b))(hr:r<m):isF k r↔isF k' r:=
 ⟨fun f s c e=>f s c ((h s r (by lia) hr).mpr e),fun f s c e=>f s c ((h s r (by lia) hr).mp e)⟩
theorem ql6 {k:Nat->α}{k':Nat->β}{m r:Nat}(h:∀ a b,a<m->b<m->(k a=k b↔k' a=k' b))(hr:r<m):fs k r=fs k' r:=by
 have h1:=qkj k r;exact ql5 ((h _ _ (by lia) hr).mp (fs_k k r)) ((qga h (by lia)).mp (fs_F k r))
theorem qkC {k:Nat->α}{k':Nat->β}{m n:Nat}(h:∀ a b,a<m->b<m->(k a=k b↔k' a=k' b))(hn:n<=m):cnt k n=cnt k' n:=by
 unfold cnt
 congr 1
 refine List.filter_congr fun s c=>?_;exact tf_i (qga h (by have:=List.mem_range.mp c;lia))
theorem qh8 {k:Nat->α}{k':Nat->β}{m r:Nat}(h:∀ a b,a<m->b<m->(k a=k b↔k' a=k' b))(hr:r<m):cn k r=cn k' r:=by
 unfold cn;have h1:=qkj k r;rw [<- ql6 h hr];exact qkC h (by lia)
theorem qtm {k:Nat->α}{r:Nat}:cn (cn k) r=cn k r:=qh8 (m:=r+1) (fun _ _ _ _=>qm5) (Nat.lt_succ_self r)
end
noncomputable def rowN (w:qab)(r:Nat):List (Nat×Nat):=w[r]?.getD []
theorem qjq {w:qab}{r:Nat}{row:List (Nat×Nat)}(h:w[r]? = some row):rowN w r=row:=by unfold rowN;rw [h];rfl
noncomputable def sgN (sg:List Int)(r:Nat):Int:=sg.getD r 0
noncomputable def mvC (c:Nat->Nat)(e:Nat×Nat):Nat×Nat:=(c e.1,e.2)
noncomputable def lk (w:qab)(sg:List Int)(c:Nat->Nat)(r:Nat):Nat×Int×List (Nat×Nat):=(c r,sgN sg r,(rowN w r).map (mvC c))
noncomputable def col (w:qab)(sg:List Int):Nat->Nat->Nat
 | 0=>fun _=>0
 | n+1=>cn (lk w sg (col w sg n))
noncomputable def Dr (w:qab)(R:Nat->Nat->Prop)(r s:Nat):Prop:=(rowN w r).length=(rowN w s).length /\ ∀ (d:Nat) (e e':Nat×Nat),(rowN w r)[d]? = some e->(rowN w s)[d]? = some e'->R e.1 e'.1/\e.2=e'.2
theorem Dr.imp {w:qab}{R c:Nat->Nat->Prop}{r s:Nat}(h:Dr w R r s)(i:∀ a b,R a b->c a b):Dr w c r s:=⟨h.1,fun d e f h1 h2=>⟨i _ _ (h.2 d e f h1 h2).1,(h.2 d e f h1 h2).2⟩⟩
theorem qrl {γ:Type}{w:qab}{c:Nat->γ}{r s:Nat}:(rowN w r).map (fun e=>(c e.1,e.2))=(rowN w s).map (fun e=>(c e.1,e.2))↔Dr w (fun a b=>c a=c b) r s:=by
 constructor
 ·intro h;refine ⟨by have:=congrArg List.length h;rwa [lM1,lM1] at this,fun d e e' h1 h2=>?_⟩;have:=congrArg (fun l:List (γ×Nat)=>l[d]?) h;simp only [gP1,h1,h2,oP1,Option.some.injEq,Prod.mk.injEq] at this;exact this
 ·rintro ⟨h1,h2⟩;refine List.ext_getElem? fun d=>?_;rw [gP1,gP1];cases he:(rowN w r)[d]? with
  | none=>
   rw [List.getElem?_eq_none_iff] at he;rw [List.getElem?_eq_none (by lia)]
  | some e=>
   have j:=(gE1.mp he).1;obtain ⟨e',f⟩:∃ e',(rowN w s)[d]? = some e':=⟨_,gG1 (by lia)⟩;rw [f];obtain ⟨g,i⟩:=h2 d e e' he f;simp only [oP1,g,i]
noncomputable def RA (w:qab)(sg:List Int):Nat->Nat->Nat->Prop
 | 0=>fun _ _=>True
 | n+1=>fun r s=>RA w sg n r s/\sgN sg r=sgN sg s/\Dr w (RA w sg n) r s
theorem qcA {w:qab}{sg:List Int}:∀ {n r s:Nat},col w sg n r=col w sg n s↔RA w sg n r s
 | 0,r,s=>⟨fun _=>trivial,fun _=>rfl⟩
 | n+1,r,s=>by
  have ih:=@qcA w sg n;rw [col,qm5,lk,lk,Prod.mk.injEq,Prod.mk.injEq,RA,ih];refine and_congr_right fun _=>and_congr_right fun _=>?_;exact qrl.trans ⟨fun h=>h.imp fun a b=>ih.mp,fun h=>h.imp fun a b=>ih.mpr⟩
theorem qm4 {w:qab}{sg:List Int}:∀ {n r:Nat},col w sg n r=cn (col w sg n) r
 | 0,r=>by
  have:fs (col w sg 0) r=0:=(ql5 (k:=col w sg 0) (s:=0) (r:=r) rfl fun s a=>absurd a (Nat.not_lt_zero s)).symm;unfold cn;rw [this];rfl
 | n+1,r=>by rw [col,qtm]
noncomputable def EB (w:qab)(sg:List Int):Nat->Nat->Nat->Prop
 | 0=>fun r s=>(rowN w r).length=(rowN w s).length/\sgN sg r=sgN sg s
 | n+1=>fun r s=>EB w sg n r s/\Dr w (EB w sg n) r s
theorem EB.zero {w:qab}{sg:List Int}:∀ {n r s:Nat},EB w sg n r s->EB w sg 0 r s
 | 0,_,_,h=>h
 | n+1,r,s,h=>EB.zero (n:=n) h.1
theorem EB.ra {w:qab}{sg:List Int}:∀ {n r s:Nat},EB w sg n r s->RA w sg n r s
 | 0,_,_,_=>trivial
 | n+1,r,s,h=>⟨EB.ra h.1,h.1.zero.2,h.2.imp fun a b=>EB.ra⟩
theorem RA.eb {w:qab}{sg:List Int}:∀ {n r s:Nat},RA w sg (n+1) r s->EB w sg n r s
 | 0,r,s,h=>⟨h.2.2.1,h.2.1⟩
 | n+1,r,s,h=>⟨RA.eb h.1,h.2.2.imp fun a b=>RA.eb⟩
noncomputable def Stl (m:Nat)(w:qab)(sg:List Int)(n:Nat):Prop:=∀ r s,r<m->s<m->RA w sg n r s->RA w sg (n+1) r s
theorem Dr.lt {m:Nat}{w:qab}{R j:Nat->Nat->Prop}{r s:Nat}(hw:WebJ m w)(h:Dr w R r s)(i:∀ a b,a<m->b<m->R a b->j a b):Dr w j r s:=by
 have f:∀ {r d:Nat} {e:Nat×Nat},(rowN w r)[d]? = some e->e.1<m:=fun {r d e} c=>by
  unfold rowN at c;cases hr:w[r]? with
  | none=>rw [hr] at c;simp at c
  | some g=>rw [hr] at c;exact hw.to r d e ⟨g,hr,c⟩
 exact ⟨h.1,fun d e k h1 h2=>⟨i _ _ (f h1) (f h2) (h.2 d e k h1 h2).1,(h.2 d e k h1 h2).2⟩⟩
theorem Stl.next {m n:Nat}{w:qab}{sg:List Int}(hw:WebJ m w)(h:Stl m w sg n):Stl m w sg (n+1):=fun r s a b q=>
 ⟨q,q.2.1,q.2.2.lt hw h⟩
theorem Stl.on {m n:Nat}{w:qab}{sg:List Int}(hw:WebJ m w)(h:Stl m w sg n):∀ k,Stl m w sg (n+k)
 | 0=>h
 | k+1=>(h.on hw k).next hw
theorem Stl.up {m n:Nat}{w:qab}{sg:List Int}(hw:WebJ m w)(h:Stl m w sg n):∀ k r s,r<m->s<m->(RA w sg n r s↔RA w sg (n+k) r s)
 | 0,r,s,_,_=>Iff.rfl
 | k+1,r,s,hr,hs=>(h.up hw k r s hr hs).trans ⟨fun q=>h.on hw k r s hr hs q,fun q=>q.1⟩
theorem qh5 {m n k:Nat}{w:qab}{sg:List Int}(h:∀ r s,r<m->s<m->(RA w sg n r s↔RA w sg k r s)){r:Nat}(hr:r<m):col w sg n r=col w sg k r:=by
 rw [qm4 (n:=n),qm4 (n:=k)];exact qh8 (m:=m) (fun a b c d=>by rw [qcA,qcA];exact h a b c d) hr
theorem qnq {m n:Nat}{w:qab}{sg:List Int}:(∀ r,r<m->col w sg (n+1) r=col w sg n r)↔Stl m w sg n:=by
 constructor
 ·intro h r s a b q;rw [<- qcA] at q ⊢;rw [h r a,h s b,q]
 ·intro h r a;exact (qh5 (fun r s a b=>⟨fun q=>h r s a b q,fun q=>q.1⟩) a).symm
theorem qkm {p q:Nat->Bool}(h:∀ x,p x=true->q x=true):∀ l:List Nat,(l.filter p).length<=(l.filter q).length/\((l.filter p).length=(l.filter q).length -> ∀ x∈l,q x=true->p x=true)
 | []=>⟨nR1 _,fun _ x b=>by cases b⟩
 | a::l=>by
  obtain ⟨h1,h2⟩:=qkm h l;cases hp:p a with
  | true=>
   rw [List.filter_cons_of_pos hp,List.filter_cons_of_pos (h a hp),lC1,lC1];refine ⟨by lia,fun e x b d=>?_⟩;rcases List.mem_cons.mp b with rfl | b
   ·exact hp
   ·exact h2 (by lia) x b d
  | false=>
   rw [List.filter_cons_of_neg (by rw [hp];decide)];cases d:q a with
   | true=>
    rw [List.filter_cons_of_pos d,lC1];exact ⟨by lia,fun e=>by lia⟩
   | false=>
    rw [List.filter_cons_of_neg (by rw [d];decide)];refine ⟨h1,fun e x b c=>?_⟩;rcases List.mem_cons.mp b with rfl | b
    ·rw [d] at c;cases c
    ·exact h2 e x b c
theorem more {m n:Nat}{w:qab}{sg:List Int}(h:¬ Stl m w sg n):cnt (col w sg n) m<cnt (col w sg (n+1)) m:=by
 have d:∀ r,isF (col w sg n) r->isF (col w sg (n+1)) r:=fun r c s b e=>c s b (by rw [qcA] at e ⊢;exact e.1);obtain ⟨h1,h2⟩:=qkm (p:=fun s=>tf (isF (col w sg n) s)) (q:=fun s=>tf (isF (col w sg (n+1)) s)) (fun x a=>tf_t (d x (tf_e.mp a))) (List.range m);refine Nat.lt_of_le_of_ne h1 fun e=>h fun r s f b q=>?_;have back:∀ x,x<m->isF (col w sg (n+1)) x->isF (col w sg n) x:=fun x a c=>tf_e.mp (h2 e x (List.mem_range.mpr a) (tf_t c))
 -- both have one first place
 have one:∀ x,x<m->fs (col w sg (n+1)) x=fs (col w sg n) x:=fun x a=>by
  have g:=qkj (col w sg (n+1)) x;refine ql5 ?_ (back _ (by lia) (fs_F _ x));have:=fs_k (col w sg (n+1)) x;rw [qcA] at this ⊢;exact this.1
 rw [<- qcA] at q ⊢;rw [<- qgc,one r f,one s b,qgc];exact q
theorem qrV (k:Nat->Nat)(m:Nat):cnt k m<=m:=by
 unfold cnt;exact Nat.le_trans (List.length_filter_le ..) (by rw [List.length_range];exact nR1 _)
theorem qjr {m n:Nat}{w:qab}{sg:List Int}(hm:0<m)(h:∀ k,k<n -> ¬ Stl m w sg k):n<m:=by
 have:∀ k,k<=n->k+1<=cnt (col w sg k) m:=fun k=>by
  induction k with
  | zero=>
   intro _;have:=qkB (k:=col w sg 0) hm (fun s a=>by lia);lia
  | succ k ih=>
   intro b;have h1:=ih (by lia);have h2:=more (h k (by lia));lia
 have h1:=this n (nR1 _);have h2:=qrV (col w sg n) m;lia
noncomputable def colL (m:Nat)(w:qab)(sg:List Int):List Nat:=(List.range m).map (col w sg m)
theorem qnr {m n:Nat}{w:qab}{sg:List Int}(hw:WebJ m w)(h:Stl m w sg n)(hn:n<=m):(List.range m).map (col w sg n)=colL m w sg:=by
 refine List.map_congr_left fun r c=>?_;refine qh5 (fun a b d e=>?_) (List.mem_range.mp c);have:=h.up hw (m-n) a b d e
 rwa [show n+(m-n)=m by lia] at this
theorem qmz {m:Nat}{w:qab}{sg:List Int}(hm:0<m):∃ n,n<m/\Stl m w sg n:=by
 refine Classical.byContradiction fun z=>?_;have:=qjr (w:=w) (sg:=sg) (n:=m) hm fun k b a=>z ⟨k,b,a⟩;lia
theorem qpZ {m:Nat}{w:qab}(hw:WebJ m w){r:Nat}(hr:r<m):∃ row,w[r]? = some row:=⟨_,gG1 (by rw [hw.len];exact hr)⟩
theorem qlD {n:Nat}{o:Ob}(h:o.und 0=true):o.sh n=o:=by
 have a:∀ {κ:Type} (l:List (κ×D)),D.unds 0 (l.map (·.2))=true->(l.map fun p=>(p.1,p.2.sh n))=l:=fun l=>by
  induction l with
  | nil=>intro _;rfl
  | cons x l ih=>
   intro h;rw [mP1,D.unds,bA1] at h;rw [mP1,ih h.2,qmA h.1]
 cases o with
 | lst xs=>rw [Ob.und] at h;rw [Ob.sh,qe3 h]
 | dct l=>rw [Ob.und] at h;rw [Ob.sh,a l h]
 | dcT l=>rw [Ob.und] at h;rw [Ob.sh,a l h]
 | dcF l=>rw [Ob.und] at h;rw [Ob.sh,a l h]
 | iset l=>rfl
 | tst l=>rfl
theorem qhr {n:Nat}{S:Sto}(h:S.all (Ob.und 0)=true):S.map (Ob.sh n)=S:=by
 have:S.map (Ob.sh n)=S.map id:=List.map_congr_left fun o a=>qlD (List.all_eq_true.mp h o a);rw [this,List.map_id]
theorem qtq {n:Nat}{f:FN}{ds:List D}{S:Sto}{Q:D×Sto->Prop}(hn:ds.length=n)(c:D.unds 0 ds=true)(h:W (f ds []) fun p=>∃ k xs,p.1 = .ref k/\p.2[k]? = some (.lst xs)/\p.2.all (Ob.und 0)=true /\ ∀ G j,(S++G)[j]? = some (.lst xs)->G.all (Ob.und 0)=true->S.length<=j->Q (.ref j,S++G)):W (qaf n f ds S) Q:=by
 obtain ⟨⟨d,G⟩,e,k,xs,rfl,b,a,q⟩:=h;refine ⟨_,qfy e hn c rfl,?_⟩;dsimp only at b a;rw [qhr a];exact q G _ (by rw [qcb];exact b) a (Nat.le_add_right _ _)
theorem all0 {S:Sto}(h:S.all (Ob.und 0)=true):S.all (Ob.und S.length)=true:=by
 rw [List.all_eq_true] at *
 exact fun o a=>qdZ (Nat.zero_le _) (h o a)
noncomputable abbrev sgD (sg:List Int):D:=.tup (sg.map D.int)
theorem qfL (sg:List Int):(sgD sg).und 0=true:=by rw [D.und];exact Mi.unds_map fun _ _=>rfl
noncomputable abbrev clL (m:Nat)(c:Nat->Nat):List Nat:=(List.range m).map c
noncomputable abbrev clD (m:Nat)(c:Nat->Nat):D:=.tup (nmD (clL m c))
theorem W_cl {m r:Nat}{c:Nat->Nat}{S:Sto}{Q:D×Sto->Prop}(hr:r<m)(q:Q (.int (c r:Nat),S)):W (gIxY (clD m c) (.int r) S) Q:=
 qkQ (i:=r) (x:=.int (c r:Nat)) (by rw [nmD,gP1,gP1,List.getElem?_range hr];rfl) q
theorem W_sg {m r:Nat}{sg:List Int}{S:Sto}{Q:D×Sto->Prop}(a:sg.length=m)(hr:r<m)(q:Q (.int (sgN sg r),S)):W (gIxY (sgD sg) (.int r) S) Q:=
 qkQ (i:=r) (x:=.int (sgN sg r)) (by rw [gP1,gG1 (by lia)];unfold sgN;rw [List.getD_eq_getElem?_getD,gG1 (by lia)];rfl) q
noncomputable abbrev Lk:=Nat×Int×List (Nat×Nat)
noncomputable def lkD (x:Lk):D:=.tup [.int (x.1:Nat),.int x.2.1,.tup (x.2.2.map pD)]
theorem qoC (x:Lk):(lkD x).und 0=true:=by
 unfold lkD;rw [D.und,D.unds,D.unds,D.unds,D.und,Mi.unds_map (fun _ _=>rfl)];rfl
theorem qoA {m:Nat}{w:qab}{sg:List Int}{c:Nat->Nat}(hw:WebJ m w)(hm:m<=8)(hs:sg.length=m):W (qc1 [webD w,sgD sg,clD m c] []) fun p=>∃ k,p.1 = .ref k/\p.2[k]? = some (.lst ((List.range m).map fun r=>lkD (lk w sg c r)))/\p.2.all (Ob.und 0)=true:=by
 unfold qc1;refine fnW ?_;unfold qkN;refine seqW (fun r V=>V=[.lst []]/\r=[some (webD w),some (sgD sg),some (clD m c),some (.ref 0),none,none,none]) ?_ ?_
 ·walk_at "own wq"
  try exact ⟨rfl,trivial⟩
 rintro r V ⟨rfl,rfl⟩;refine seqW (fun r V=>∃ G h g j,G.all (Ob.und 0)=true/\V = .lst ((List.range m).map fun r=>lkD (lk w sg c r))::G/\r=[some (webD w),some (sgD sg),some (clD m c),some (.ref 0),h,g,j]) ?_ ?_
 ·unfold mFor;rw [qah];refine qtx (xs:=w.map fun a=>.tup (a.map pD)) rfl ?_;refine qaA (fun i r V=>∃ G h g j,i<=m/\G.all (Ob.und 0)=true/\V = .lst ((List.range i).map fun r=>lkD (lk w sg c r))::G/\r=[some (webD w),some (sgD sg),some (clD m c),some (.ref 0),h,g,j]) _ 0 _ _ ⟨[],_,_,_,by lia,rfl,rfl,rfl⟩ (fun _ _ _ _=>rfl) ?_ ?_
  ·rintro i A l r V ⟨G,h,g,j,hi,q,rfl,rfl⟩;rw [qce,gP1] at l;obtain ⟨z,x,rfl⟩:=oM1.mp l;obtain ⟨a,b,rfl⟩:=oM1.mp x;have o:i<m:=by rw [<- hw.len];exact (gE1.mp b).1
   have y:=hw.le i a b;rw [Nat.zero_add] at *
   walk_at "own wq";unfold qfV;refine seqW (fun r V=>V = .lst ((List.range i).map fun r=>lkD (lk w sg c r))::(G++[.lst (a.map fun e=>pD (mvC c e))])/\r=[some (webD w),some (sgD sg),some (clD m c),some (.ref 0),some (.int (i:Nat)),some (.tup (a.map pD)),some (.tup (a.map fun e=>pD (mvC c e)))]) ?_ ?_
   ·walk_at "own wq";rw [qd9];refine mapW (f:=pD) (fun e=>pD (mvC c e)) (fun s=>∃ t u,s=[t,u,some (clD m c)]) rfl a _ ⟨_,_,rfl⟩ ?_ ?_
    ·rintro e v s ⟨t,u,rfl⟩;obtain ⟨d,hd⟩:=List.getElem?_of_mem v;have:=hw.to i d e ⟨a,b,hd⟩;rw [pD];walk_at "own wq";refine W_cl this ?_;walk_at "own wq";exact ⟨rfl,_,_,rfl⟩
    ·rintro s _;refine ⟨qaj (by rw [lM1];lia),?_⟩;walk_at "own wq";refine qax (xs:=a.map fun e=>pD (mvC c e)) (by rw [gC1,qaC];rfl) ?_
     first | exact ⟨rfl,rfl⟩ | exact ⟨rfl,trivial⟩ | rfl
   rintro r V ⟨rfl,rfl⟩;unfold qcg;rw [qah];refine qdz ?_;walk_at "own wq";refine ⟨0,(List.range i).map fun r=>lkD (lk w sg c r),rfl,rfl,?_⟩;refine W_cl o ?_;walk_at "own wq";refine W_sg hs o ?_;walk_at "own wq";refine (qfC (n:=0) (xs:=(List.range i).map fun r=>lkD (lk w sg c r)) rfl).mpr ⟨qaj (by rw [lM1,List.length_range];lia),?_⟩;refine ⟨G++[.lst (a.map fun e=>pD (mvC c e))],_,_,_,by lia,?_,?_,rfl⟩
   ·rw [List.all_append,q,List.all_cons,Ob.und,Mi.unds_map (fun _ _=>rfl)];rfl
   ·have e:lkD (lk w sg c i)=D.tup [D.int (c i:Nat),D.int (sgN sg i),D.tup (a.map fun e=>pD (mvC c e))]:=by
     unfold lk;rw [qjq b,lkD,List.map_map];rfl
    rw [List.range_succ,List.map_append,mP1,e];rfl
  ·rintro r V ⟨G,h,g,j,hi,q,rfl,rfl⟩;rw [qcd,lM1,Nat.zero_add,hw.len];exact ⟨rfl,G,_,_,_,q,rfl,rfl⟩
 rintro r V ⟨G,h,g,j,q,rfl,rfl⟩;walk_at "own wq";refine ⟨0,rfl,rfl,?_⟩;rw [List.all_cons,q,Ob.und,Mi.unds_map (fun _ _=>qoC _)];rfl
noncomputable def lkT (x:Lk):TK:=.tup [.int (x.1:Nat),.int x.2.1,.tup (x.2.2.map tkP)]
theorem qrC:∀ l:List (Nat×Nat),kDs (l.map pD)=some (l.map tkP)
 | []=>rfl
 | e::l=>by
  rw [mP1,kDs,qrC l];rfl
theorem qrS:∀ l:List (Nat×Nat),TK.depAll (l.map tkP)<=2
 | []=>by simp [TK.depAll]
 | e::l=>by
  have:=qrS l;rw [mP1,TK.depAll];have:(tkP e).dep<=2:=by simp [tkP,TK.dep,TK.depAll]
  lia
theorem qf7 (x:Lk):keyT (lkD x)=some (lkT x):=by
 have e:kDs [.int (x.1:Nat),.int x.2.1,.tup (x.2.2.map pD)]=some [.int (x.1:Nat),.int x.2.1,.tup (x.2.2.map tkP)]:=by
  simp only [kDs,kD,qrC,oP1,oS1]
 unfold lkD;rw [keyT,e,oS1,if_pos]
 ·rfl
 ·have:=qrS x.2.2;simp [TK.dep,TK.depAll];lia
theorem qoD {x y:Lk}(h:lkD x=lkD y):x=y:=by
 obtain ⟨a,b,l⟩:=x;obtain ⟨g,i,l'⟩:=y;unfold lkD at h;injection h with h;injection h with h1 h;injection h with h2 h;injection h with c h;injection h1 with h1;injection h2 with h2;injection c with c;have:l=l':=(List.map_inj_right fun x y e=>by
  unfold pD at e;injection e with e;injection e with d e;injection e with f e;injection d with d;injection f with f;exact Prod.ext (by lia) (by lia)).mp c
 dsimp only at h1 h2;rw [this,h2,show a=g by lia]
theorem qj2 {x y:Lk}(h:lkT x=lkT y):x=y:=by
 have h1:=(qfp (qf7 x)).1;have h2:=(qfp (qf7 y)).1;exact qoD (by rw [<- h1,<- h2,h])
noncomputable def nF (k:Nat->Lk)(i:Nat):List (TK×D):=((List.range i).filter fun f=>tf (isF k f)).map fun f=>(lkT (k f),.int (cnt k f:Nat))
theorem qmK {k:Nat->Lk}{i:Nat}:(nF k i).length=cnt k i:=by unfold nF cnt;rw [lM1]
theorem qgW {k:Nat->Lk}{i:Nat}:nF k (i+1)=nF k i++if tf (isF k i)=true then [(lkT (k i),.int (cnt k i:Nat))] else []:=by
 unfold nF;rw [List.range_succ,List.filter_append,List.map_append]
 congr 1
 cases h:tf (isF k i) with
 | true=>rw [List.filter_cons_of_pos (by exact h)];rfl
 | false=>rw [List.filter_cons_of_neg (by rw [h];decide)];rfl
theorem qgX {k:Nat->Lk}:∀ {i r:Nat},fs k r<i->qao (nF k i) (lkT (k r))=some (.int (cn k r:Nat))
 | 0,r,h=>by lia
 | i+1,r,h=>by
  rw [qgW,qfo];by_cases hi:fs k r<i
  ·rw [qgX hi];rfl
  ·have e:fs k r=i:=by lia
   have a:=fs_F k r;have c:=fs_k k r;rw [e] at a c;rw [tf_t a,if_pos rfl];have j:qao (nF k i) (lkT (k r))=none:=by
    refine qdf ?_;rw [Bool.eq_false_iff];intro z;obtain ⟨p,g,d⟩:=List.any_eq_true.mp z;obtain ⟨f,l,rfl⟩:=List.mem_map.mp g;have b:=List.mem_range.mp (List.mem_filter.mp l).1;have:=qj2 (of_decide_eq_true d);exact a f b (by rw [c];exact this)
   rw [j,Option.none_or,qaZ,if_pos (by rw [c])];unfold cn;rw [e]
theorem qmJ {k:Nat->Lk}{i:Nat}(h:isF k i):((nF k i).any fun p=>decide (p.1=lkT (k i)))=false:=by
 rw [Bool.eq_false_iff];intro z;obtain ⟨p,c,b⟩:=List.any_eq_true.mp z;obtain ⟨f,d,rfl⟩:=List.mem_map.mp c;have a:=List.mem_range.mp (List.mem_filter.mp d).1;exact h f a (qj2 (of_decide_eq_true b))
theorem qqU {S:Sto}{n:Nat}{F:List (TK×D)}{d:D}{k:TK}(h:S[n]? = some (dO F))(hk:keyT d=some k):qcc d (.ref n) S=some (.bl (!(qao F k).isSome),S):=by
 unfold dO at h;by_cases a:F=[]
 ·subst a;rw [if_pos rfl] at h;simp only [qcc,h,hk];rfl
 ·rw [if_neg a] at h;simp only [qcc,qbT,h,hk,oP1]
theorem lenE {S:Sto}{n:Nat}{F:List (TK×D)}(h:S[n]? = some (dO F)):qiI (.ref n) S=some (.int (F.length:Nat),S):=by
 unfold dO at h;by_cases a:F=[]
 ·subst a;rw [if_pos rfl] at h;simp only [qiI,qha,h];rfl
 ·rw [if_neg a] at h;simp only [qiI,h]
theorem qqT {m n:Nat}{S:Sto}{k:Nat->Lk}{Q:D×Sto->Prop}(t:S.all (Ob.und 0)=true)(hn:S[n]? = some (.lst ((List.range m).map fun r=>lkD (k r))))(hm:m<=8)(q:Q (clD m (cn k),S)):W (qaf 1 qbf [.ref n] S) Q:=by
 refine qiK rfl rfl ?_;unfold qbf;refine fnW ?_;unfold qeR;have gn:∀ (X:Ob),(S++[X])[n]? = some (.lst ((List.range m).map fun r=>lkD (k r))):=fun X=>by rw [gL1 (gE1.mp hn).1];exact hn
 have h:∀ (X:Ob),(S++[X])[S.length]? = some X:=fun X=>by rw [qaC];rfl
 have st:∀ (X Y:Ob),(S++[X]).set S.length Y=S++[Y]:=fun X Y=>by rw [List.set_append_right _ _ (nR1 _),Nat.sub_self];rfl
 refine seqW (fun r V=>V=S++[dO (nF k 0)]/\r=[some (.ref n),some (.ref S.length),none]) ?_ ?_
 ·have u:dO (nF k 0) = .dct []:=if_pos rfl;rw [u]
  ((try walk_at "own wq");repeat (simp only [qf5];try walk_at "own wq"))
 rintro r V ⟨rfl,rfl⟩;refine seqW (fun r V=>∃ c,V=S++[dO (nF k m)]/\r=[some (.ref n),some (.ref S.length),c]) ?_ ?_
 ·walk_at "own wq";refine qax (gn _) ?_;refine qaA (fun i r V=>∃ c,i<=m/\V=S++[dO (nF k i)]/\r=[some (.ref n),some (.ref S.length),c]) _ 0 _ _ ⟨_,by lia,rfl,rfl⟩ ?_ ?_ ?_
  ·rintro i r V ⟨_,_,rfl,_⟩;exact qbA (gn _)
  ·rintro i d hd r V ⟨c,hi,rfl,rfl⟩;dsimp only at hd;have a:=(gE1.mp hd).1;rw [lM1,List.length_range] at a;rw [gP1,List.getElem?_range a] at hd;cases hd;rw [Nat.zero_add] at *
   walk_at "own wq";unfold qdC;have p:=qqU (S:=S++[dO (nF k i)]) (d:=lkD (k i)) (h _) (qf7 _)
   ((try walk_at "own wq");repeat (simp only [p];try walk_at "own wq"))
   by_cases g:isF k i
   ·have b:qao (nF k i) (lkT (k i))=none:=qdf (qmJ g);rw [b,if_pos (by rfl)];have v:=lenE (S:=S++[dO (nF k i)]) (h _)
    ((try walk_at "own wq");repeat (simp only [v];try walk_at "own wq"))
    refine qeV (F:=nF k i) (h _) (qf7 _) (by rw [qmK];have:=qh7 (k:=k) hi;have w:cnt k m<=m:=(by unfold cnt;exact Nat.le_trans (List.length_filter_le ..) (by rw [List.length_range];exact nR1 _));lia) ?_;rw [st];refine ⟨_,a,?_,rfl⟩;rw [qgW,tf_t g,if_pos rfl,qmK];unfold putD;rw [qmJ g,if_neg (by decide)]
   ·obtain ⟨s,l,j⟩:∃ s,s<i/\k s=k i:=Classical.byContradiction fun z=>g fun s l e=>z ⟨s,l,e⟩;have o:fs k i<i:=Nat.lt_of_le_of_lt (by rw [<- qgc.mpr j];exact qkj k s) l;rw [qgX o,if_neg (by simp)];refine ⟨_,a,?_,rfl⟩;rw [qgW,tf_f g,if_neg (by decide),List.append_nil]
  ·rintro r V ⟨c,hi,rfl,rfl⟩;rw [lM1,List.length_range,Nat.zero_add];exact ⟨rfl,_,rfl,rfl⟩
 rintro r V ⟨c,rfl,rfl⟩;walk_at "own wq";refine qax (gn _) ?_;refine mapW (f:=fun r=>lkD (k r)) (fun r=>D.int (cn k r:Nat)) (fun r=>∃ x,r=[x,some (.ref S.length)]) (qbA (gn _)) (List.range m) _ ⟨_,rfl⟩ ?_ ?_
 ·rintro i hi r ⟨x,rfl⟩;walk_at "own wq";refine qdj (h _) (qf7 _) (qgX (by have:=qkj k i;have:=List.mem_range.mp hi;lia)) ?_;exact ⟨rfl,rfl,_,rfl⟩
 ·rintro y _;refine ⟨qaj (by rw [lM1,List.length_range];lia),?_⟩;walk_at "own wq";refine qax (xs:=nmD (clL m (cn k))) (by first | (rw [qcb,nmD,List.map_map];rfl) | simp [nmD]) ?_;have:=qrH (d:=clD m (cn k)) (S:=S) (G:=[dO (nF k m),.lst ((List.range m).map fun r=>D.int (cn k r:Nat))]) (by rw [D.und];exact nm_und _) (all0 t)
  first | (rw [this];exact q) | (show Q (gc _ _);rw [this];exact q)
theorem qm1 {S:Sto}{n:Nat}:∀ a b:List Nat,eqL (eqN S (n+1)) (nmD a) (nmD b)=some (tf (a=b))
 | [],[]=>by rw [tf_t rfl];rfl
 | [],_::_=>by rw [tf_f (by simp)];rfl
 | _::_,[]=>by rw [tf_f (by simp)];rfl
 | x::a,y::b=>by
  have c:eqN S (n+1) (.int x) (.int y)=some ((x:Int) == (y:Int)):=rfl;show eqL _ (.int x::nmD a) (.int y::nmD b)=_;rw [eqL,c,qm1 a b,oS1];refine congrArg some (tf_b ?_);rw [bA1,beq_iff_eq,tf_e,List.cons.injEq];constructor
  ·rintro ⟨h1,h2⟩;exact ⟨by lia,h2⟩
  ·rintro ⟨h1,h2⟩;exact ⟨by lia,h2⟩
theorem qrO {S:Sto}{n:Nat}{a b:List Nat}:eqN S (n+2) (.tup (nmD a)) (.tup (nmD b))=some (tf (a=b)):=by
 rw [show n+2=n+1+1 from rfl,eqN];simp only [qgE,qm1 (S:=S) (n:=n) a b];simp
theorem qsW {S:Sto}{a b:List Nat}:gNe (.tup (nmD a)) (.tup (nmD b)) S=some (.bl (!tf (a=b)),S):=by
 show (eqN S qav _ _).map _=_;rw [show qav=58+2 from rfl,qrO];rfl
theorem qtn {m:Nat}{c c':Nat->Nat}:clL m c=clL m c' ↔ ∀ r,r<m->c r=c' r:=by
 unfold clL;rw [List.map_inj_left];exact ⟨fun h r a=>h r (List.mem_range.mpr a),fun h r a=>h r (List.mem_range.mp a)⟩
theorem qr9 {i:Nat}{x:Str}{g:FN}{a:FA}{r:Ev}{S:Sto}{Q:D×Sto->Prop}(h:r[i]? = some (some (.fn x)))(q:W (mN g a r S) Q):W (mFnV i x g a r S) Q:=by
 unfold mFnV;rw [h];dsimp only;rw [if_pos rfl];exact q
theorem qhu {m n:Nat}{w:qab}{sg:List Int}{c:Nat->Nat}{S:Sto}{h:Option D}{Q:D×Sto->Prop}(hw:WebJ m w)(hm:m<=8)(hs:sg.length=m)(f:S.all (Ob.und 0)=true)
  (q:∀ G,(S++G).all (Ob.und 0)=true->Q (clD m (cn (lk w sg c)),S++G)):W (mFnV 2 "numbered" (qaf 1 qbf) (qaa (mN (qaf 3 qc1) (qaa (mV 0) (qaa (mV 1) (qaa (mV 3) mNil)))) mNil) [some (webD w),some (sgD sg),some (.fn "numbered"),some (clD m c),h] S) Q:=by
 refine qr9 rfl ?_;simp (implicitDefEqProofs:=false) only [mN,qaa,mV,mNil,List.getElem?_cons_zero,gC1,oS1,qah,qag];refine qtq rfl (by rw [D.unds,qbk,D.unds,qfL,D.unds,D.und,nm_und];rfl) ((qoA (c:=c) hw hm hs).mono ?_);rintro p ⟨k,h1,h2,b⟩;refine ⟨k,_,h1,h2,b,fun G j d g e=>?_⟩;have a:(S++G).all (Ob.und 0)=true:=by rw [List.all_append,f,g];rfl
 exact qqT a d hm (q G a)
theorem qju {m:Nat}{w:qab}{sg:List Int}{S:Sto}{Q:D×Sto->Prop}(hw:WebJ m w)(o:0<m)(hm:m<=8)(hs:sg.length=m)(q:Q (.tup (nmD (colL m w sg)),S)):W (qaf 3 qcw [webD w,sgD sg,.fn "numbered"] S) Q:=by
 refine qdQ rfl (by rw [D.unds,qbk,D.unds,qfL];rfl) ?_;unfold qcw;refine fnW ?_;unfold qgu;refine seqW (fun r V=>V.all (Ob.und 0)=true/\r=[some (webD w),some (sgD sg),some (.fn "numbered"),some (clD m (col w sg 0)),none]) ?_ ?_
 ·walk_at "own wq";rw [show webD w = .tup (w.map fun b=>.tup (b.map pD)) from rfl,qd9];refine mapW (f:=fun b:List (Nat×Nat)=>D.tup (b.map pD)) (fun _=>.int 0) (fun r=>∃ x,r=[x]) rfl w _ ⟨_,rfl⟩ ?_ ?_
  ·rintro b A r ⟨x,rfl⟩;walk_at "own wq";exact ⟨_,rfl⟩
  ·rintro s _;refine ⟨qaj (by rw [lM1,hw.len];lia),?_⟩;walk_at "own wq";refine qax (xs:=w.map fun _=>D.int 0) rfl ?_;have e:(w.map fun _=>D.int 0)=nmD (clL m (col w sg 0)):=by
    have h1:(w.map fun _=>D.int 0)=List.replicate m (D.int 0):=by rw [List.map_const',hw.len]
    have h2:nmD (clL m (col w sg 0))=List.replicate m (D.int 0):=by
     unfold nmD clL;rw [List.map_map];have:((fun i:Nat=>D.int i)∘col w sg 0)=fun _=>D.int 0:=rfl;rw [this,List.map_const',List.length_range]
    rw [h1,h2]
   rw [e];refine ⟨?_,rfl⟩;rw [List.all_cons,Ob.und,nm_und];rfl
 rintro r V ⟨l,rfl⟩;refine seqW (fun r V=>V.all (Ob.und 0)=true/\r=[some (webD w),some (sgD sg),some (.fn "numbered"),some (clD m (col w sg 0)),some (clD m (col w sg 1))]) ?_ ?_
 ·unfold mAsg;rw [qah];refine qhu (n:=0) hw hm hs l fun G t=>?_;exact W.of rfl ⟨rfl,t,rfl⟩
 rintro r V ⟨l,rfl⟩;refine seqW (fun r V=>r[3]? = some (some (.tup (nmD (colL m w sg))))) ?_ ?_
 ·refine qnj (fun k r V=>(∀ j,j<k -> ¬ Stl m w sg j)/\V.all (Ob.und 0)=true/\r=[some (webD w),some (sgD sg),some (.fn "numbered"),some (clD m (col w sg k)),some (clD m (col w sg (k+1)))]) 8 ?_ 100000 0 _ _ (by lia) ⟨fun j h=>by lia,l,rfl⟩;rintro k r V ⟨p,l,rfl⟩;unfold qed
  ((try walk_at "own wq");repeat (simp only [qsW];try walk_at "own wq"))
  have g:=(qtn (m:=m) (c:=col w sg (k+1)) (c':=col w sg k)).trans qnq;by_cases a:Stl m w sg k
  ·rw [tf_t (g.mpr a),if_neg (by decide)];have z:=qjr o p;show some (some (clD m (col w sg k)))=_;rw [<- qnr hw a (by lia)]
  ·rw [tf_f (fun h=>a (g.mp h)),if_pos (show (!false)=true from rfl)];have d:∀ j,j<k+1 -> ¬ Stl m w sg j:=fun j y=>by
    rcases Nat.lt_succ_iff_lt_or_eq.mp y with h | rfl
    ·exact p j h
    ·exact a
   have z:=qjr o d;refine ⟨by lia,?_⟩;unfold qec;refine seqW (fun s u=>u=V/\s=[some (webD w),some (sgD sg),some (.fn "numbered"),some (clD m (col w sg (k+1))),some (clD m (col w sg (k+1)))]) ?_ ?_
   ·walk_at "own wq"
   rintro s u ⟨rfl,rfl⟩;unfold mAsg;rw [qah];refine qhu (n:=0) hw hm hs l fun G t=>?_;exact W.of rfl ⟨rfl,d,t,rfl⟩
 rintro r V v;unfold mRet;rw [qah];unfold mV;rw [v,qag];exact qag.mpr ⟨by rw [D.und];exact nm_und _,q⟩
theorem qhk {m:Nat}{w:qab}{sg:List Int}{S:Sto}{Q:D×Sto->Prop}(hw:WebJ m w)(a:0<m)(hm:m<=8)(hs:sg.length=m)(q:Q (.tup (nmD (colL m w sg)),S)):W (qaf 2 qbB [webD w,sgD sg] S) Q:=by
 refine qdQ rfl (by rw [D.unds,qbk,D.unds,qfL];rfl) ?_;unfold qbB;refine fnW ?_;unfold qer;walk_at "own wq";refine qju hw a hm hs ?_;exact ⟨by rw [D.und];exact nm_und _,q⟩
theorem EB.down {w:qab}{sg:List Int}{a b:Nat}:∀ {k n:Nat},k<=n->EB w sg n a b->EB w sg k a b
 | k,0,h,q=>by rw [Nat.le_zero.mp h];exact q
 | k,n+1,h,q=>by
  rcases Nat.lt_or_ge k (n+1) with z | z
  ·exact EB.down (Nat.le_of_lt_succ z) q.1
  ·rw [show k=n+1 by lia];exact q
theorem EB.of {w:qab}{sg:List Int}{a b:Nat}(c:EB w sg 0 a b):∀ {j:Nat},Dr w (EB w sg j) a b->EB w sg (j+1) a b
 | 0,h=>⟨c,h⟩
 | j+1,h=>⟨EB.of c (h.imp fun _ _ q=>q.1),h⟩
noncomputable def dsp (w:qab)(f:Nat->Nat->Nat)(a b:Nat):List Nat:=((rowN w a).zip (rowN w b)).map fun p=>if p.1.2=p.2.2 then 1+f p.1.1 p.2.1 else 1
noncomputable def mn (c:Nat)(l:List Nat):Nat:=l.foldl min c
theorem qgY {k:Nat}:∀ {l:List Nat} {c:Nat},mn c l<=k↔c<=k \/ ∃ x∈l,x<=k
 | [],c=>by simp [mn]
 | x::l,c=>by
  show mn (min c x) l<=k↔_;rw [qgY];constructor
  ·rintro (h | ⟨y,a,h⟩)
   ·rcases Nat.le_total c x with z | z
    ·exact .inl (by rw [Nat.min_eq_left z] at h;exact h)
    ·exact .inr ⟨x,mS1,by rw [Nat.min_eq_right z] at h;exact h⟩
   ·exact .inr ⟨y,mC1 _ a,h⟩
  ·rintro (h | ⟨y,a,h⟩)
   ·exact .inl (Nat.le_trans (Nat.min_le_left _ _) h)
   ·rcases List.mem_cons.mp a with e | e
    ·subst e;exact .inl (Nat.le_trans (Nat.min_le_right _ _) h)
    ·exact .inr ⟨y,e,h⟩
theorem qiA:∀ {l:List Nat} {c:Nat},mn c l=c\/mn c l∈l
 | [],c=>.inl rfl
 | x::l,c=>by
  show mn (min c x) l=c\/mn (min c x) l∈x::l;rcases qiA (l:=l) (c:=min c x) with h | h
  ·rcases Nat.le_total c x with z | z
   ·exact .inl (by rw [h,Nat.min_eq_left z])
   ·exact .inr (by rw [h,Nat.min_eq_right z];exact mS1)
  ·exact .inr (mC1 _ h)
open Classical in
noncomputable def phi (w:qab)(sg:List Int)(f:Nat->Nat->Nat)(a b:Nat):Nat:=if EB w sg 0 a b then mn 99 (dsp w f a b) else 0
theorem qc3 {w:qab}{f:Nat->Nat->Nat}{a b x:Nat}:x∈dsp w f a b ↔ ∃ (d:Nat) (e c:Nat×Nat),(rowN w a)[d]? = some e/\(rowN w b)[d]? = some c/\x=if e.2=c.2 then 1+f e.1 c.1 else 1:=by
 unfold dsp;rw [List.mem_map];constructor
 ·rintro ⟨⟨e,c⟩,h,rfl⟩;obtain ⟨d,hd⟩:=List.getElem?_of_mem h;rw [List.getElem?_zip_eq_some] at hd;exact ⟨d,e,c,hd.1,hd.2,rfl⟩
 ·rintro ⟨d,e,c,h1,h2,rfl⟩;exact ⟨(e,c),gM1 (i:=d) (List.getElem?_zip_eq_some.mpr ⟨h1,h2⟩),rfl⟩
theorem qeJ {w:qab}{sg:List Int}{f:Nat->Nat->Nat}{a b:Nat}:phi w sg f a b<=99:=by
 unfold phi;split
 ·exact qgY.mpr (.inl (nR1 _))
 ·exact Nat.zero_le _
theorem qmF {w:qab}{sg:List Int}{f:Nat->Nat->Nat}{a b k:Nat}(g:EB w sg 0 a b)(hk:k<98):phi w sg f a b<=k+1 ↔ ∃ (d:Nat) (e c:Nat×Nat),(rowN w a)[d]? = some e/\(rowN w b)[d]? = some c/\(e.2=c.2->f e.1 c.1<=k):=by
 unfold phi;rw [if_pos g,qgY];constructor
 ·rintro (h | ⟨x,i,h⟩)
  ·lia
  ·obtain ⟨d,e,c,h1,h2,rfl⟩:=qc3.mp i;refine ⟨d,e,c,h1,h2,fun z=>?_⟩;rw [if_pos z] at h;lia
 ·rintro ⟨d,e,c,h1,h2,h⟩;refine .inr ⟨_,qc3.mpr ⟨d,e,c,h1,h2,rfl⟩,?_⟩;split
  ·rename_i z;have:=h z;lia
  ·lia
theorem qnW {w:qab}{sg:List Int}{f:Nat->Nat->Nat}{a b:Nat}(g:EB w sg 0 a b):1<=phi w sg f a b:=by
 unfold phi;rw [if_pos g];rcases qiA (l:=dsp w f a b) (c:=99) with h | h
 ·rw [h];decide
 ·obtain ⟨d,e,j,h1,h2,i⟩:=qc3.mp h;rw [i];split<;>lia
theorem qdX {m:Nat}{w:qab}{sg:List Int}{f g:Nat->Nat->Nat}(hw:WebJ m w)(h:∀ a b,a<m->b<m->f a b<=g a b)(a b:Nat):phi w sg f a b<=phi w sg g a b:=by
 unfold phi;split
 ·rcases qiA (l:=dsp w g a b) (c:=99) with z | z
  ·rw [z];exact qgY.mpr (.inl (nR1 _))
  ·refine qgY.mpr (.inr ?_);obtain ⟨d,e,k,h1,h2,n⟩:=qc3.mp z;refine ⟨_,qc3.mpr ⟨d,e,k,h1,h2,rfl⟩,?_⟩;rw [n];have i:∀ {r:Nat} {e:Nat×Nat},(rowN w r)[d]? = some e->e.1<m:=fun {r e} q=>by
    unfold rowN at q;cases hr:w[r]? with
    | none=>rw [hr] at q;simp at q
    | some j=>rw [hr] at q;exact hw.to r d e ⟨j,hr,q⟩
   have:=h e.1 k.1 (i h1) (i h2);split<;>lia
 ·exact nR1 _
noncomputable def tF (w:qab)(sg:List Int):Nat->Nat->Nat->Nat
 | 0=>phi w sg fun _ _=>99
 | n+1=>phi w sg (tF w sg n)
theorem qpN {w:qab}{sg:List Int}:∀ (n a b:Nat),tF w sg n a b<=n+1\/tF w sg n a b=99:=by
 have h:∀ (f:Nat->Nat->Nat) (n a b:Nat),(∀ a b,f a b<=n\/f a b=99)->phi w sg f a b<=n+1\/phi w sg f a b=99:=fun f n a b m=>by
  have g:=qeJ (w:=w) (sg:=sg) (f:=f) (a:=a) (b:=b);unfold phi at g ⊢;split at g
  ·rename_i i;rw [if_pos i];rcases qiA (l:=dsp w f a b) (c:=99) with z | z
   ·exact .inr z
   ·obtain ⟨d,e,o,h1,h2,k⟩:=qc3.mp z;rw [k] at g ⊢;have:=m e.1 o.1;split at g
    ·rename_i j;rw [if_pos j];rcases this with q | q
     ·exact .inl (by lia)
     ·rw [q] at g;lia
    ·rename_i j;rw [if_neg j];exact .inl (by lia)
  ·rename_i i;rw [if_neg i];exact .inl (Nat.zero_le _)
 intro n
 induction n with
 | zero=>intro a b;exact h _ 0 a b fun _ _=>.inr rfl
 | succ n ih=>intro a b;exact h _ (n+1) a b ih
theorem qmw {w:qab}{sg:List Int}:∀ (n a b k:Nat),k<99->tF w sg n a b<=k -> ¬ EB w sg k a b:=by
 have c:∀ (f:Nat->Nat->Nat),(∀ a b k,k<98->f a b<=k -> ¬ EB w sg k a b) -> ∀ a b k,k<99->phi w sg f a b<=k -> ¬ EB w sg k a b:=fun f p a b k g h q=>by
  have i:=q.zero;have s:=qnW (f:=f) i;cases k with
  | zero=>lia
  | succ j=>
   obtain ⟨d,e,l,h1,h2,m⟩:=(qmF i (by lia)).mp h;obtain ⟨r,o⟩:=q.2.2 d e l h1 h2;exact p e.1 l.1 j (by lia) (m o) r
 intro n
 induction n with
 | zero=>exact c _ fun a b k g h=>absurd h (by lia)
 | succ n ih=>exact c _ fun a b k g h=>ih a b k (by lia) h
theorem qhq {w:qab}{sg:List Int}:∀ (n a b k:Nat),n<98->k<=n -> ¬ EB w sg k a b->tF w sg n a b<=k:=by
 have zero:∀ (f:Nat->Nat->Nat) (a b k:Nat),¬ EB w sg 0 a b->phi w sg f a b<=k:=fun f a b k h=>by
  unfold phi;rw [if_neg h];exact Nat.zero_le _
 intro n
 induction n with
 | zero=>
  intro a b k _ i h;rw [Nat.le_zero.mp i] at h;exact zero _ a b k h
 | succ n ih=>
  intro a b k m i h;by_cases c:EB w sg 0 a b
  ·cases k with
   | zero=>exact absurd c h
   | succ j=>
    show phi w sg (tF w sg n) a b<=j+1;rw [qmF c (by lia)];refine Classical.byContradiction fun z=>h (EB.of c ⟨c.1,fun d e g h1 h2=>?_⟩);by_cases l:e.2=g.2
    ·refine ⟨Classical.byContradiction fun q=>z ⟨d,e,g,h1,h2,fun _=>ih e.1 g.1 j (by lia) (by lia) q⟩,l⟩
    ·exact absurd ⟨d,e,g,h1,h2,fun q=>absurd q l⟩ z
  ·exact zero _ a b k c
theorem qo7 {m:Nat}{w:qab}{sg:List Int}(hw:WebJ m w)(hm:0<m){a b:Nat}(ha:a<m)(hb:b<m)(h:EB w sg m a b)(k:Nat):EB w sg k a b:=by
 obtain ⟨n,d,c⟩:=qmz (w:=w) (sg:=sg) hm;have h1:=c.up hw (m-n) a b ha hb;have h2:=c.up hw (m+k+1-n) a b ha hb;rw [show n+(m-n)=m by lia] at h1;rw [show n+(m+k+1-n)=m+k+1 by lia] at h2;exact EB.down (by lia) (RA.eb (h2.mp (h1.mpr h.ra)))
noncomputable abbrev far (w:qab)(sg:List Int):Nat->Nat->Nat:=tF w sg 8
theorem qhZ {m:Nat}{w:qab}{sg:List Int}(hw:WebJ m w)(hm:0<m)(c:m<=8){a b k:Nat}(ha:a<m)(hb:b<m)(hk:k<99):far w sg a b<=k ↔ ¬ EB w sg k a b:=by
 refine ⟨qmw 8 a b k hk,fun h=>?_⟩;rcases Nat.lt_or_ge k 9 with z | z
 ·exact qhq 8 a b k (by decide) (by lia) h
 ·refine Nat.le_trans (qhq 8 a b 8 (by decide) (nR1 _) fun q=>h ?_) (by lia);exact qo7 hw hm ha hb (EB.down c q) k
theorem qhg {m:Nat}{w:qab}{sg:List Int}(hw:WebJ m w)(hm:0<m)(c:m<=8){a b:Nat}(ha:a<m)(hb:b<m):phi w sg (far w sg) a b=far w sg a b:=by
 have all:∀ k,k<99->(tF w sg 9 a b<=k↔far w sg a b<=k):=fun k d=>by
  rw [qhZ hw hm c ha hb d];refine ⟨qmw 9 a b k d,fun h=>?_⟩;rcases Nat.lt_or_ge k 10 with z | z
  ·exact qhq 9 a b k (by decide) (by lia) h
  ·refine Nat.le_trans (qhq 9 a b 8 (by decide) (by decide) fun q=>h ?_) (by lia);exact qo7 hw hm ha hb (EB.down c q) k
 show tF w sg 9 a b=tF w sg 8 a b;have h1:=qeJ (w:=w) (sg:=sg) (f:=tF w sg 8) (a:=a) (b:=b);have h2:=qeJ (w:=w) (sg:=sg) (f:=tF w sg 7) (a:=a) (b:=b);have h1:tF w sg 9 a b<=99:=h1;have h2:tF w sg 8 a b<=99:=h2;rcases Nat.lt_or_ge (tF w sg 9 a b) 99 with z | z
 ·have q:=(all _ z).mp (nR1 _);have e:=(all (tF w sg 8 a b) (by lia)).mpr (nR1 _);lia
 ·rcases Nat.lt_or_ge (tF w sg 8 a b) 99 with y | y
  ·have:=(all _ y).mpr (nR1 _);lia
  ·lia
theorem qjf {m:Nat}{w:qab}{sg:List Int}(hw:WebJ m w):∀ (n a b:Nat),a<m->b<m->tF w sg (n+1) a b<=tF w sg n a b
 | 0,a,b,_,_=>qdX hw (fun a b _ _=>qeJ) a b
 | n+1,a,b,_,_=>qdX hw (fun a b c d=>qjf hw n a b c d) a b
theorem qo5 {m:Nat}{w:qab}{sg:List Int}(hw:WebJ m w)(hm:0<m)(c:m<=8){a b:Nat}(ha:a<m)(hb:b<m):far w sg a b<99↔col w sg m a≠col w sg m b:=by
 rw [Ne,qcA];constructor
 ·intro h q;have:=(qhZ hw hm c ha hb h).mp (nR1 _);obtain ⟨n,e,d⟩:=qmz (w:=w) (sg:=sg) hm;have h1:=d.up hw (m-n) a b ha hb;have h2:=d.up hw (m+1-n) a b ha hb;rw [show n+(m-n)=m by lia] at h1;rw [show n+(m+1-n)=m+1 by lia] at h2;exact this (qo7 hw hm ha hb (RA.eb (h2.mp (h1.mpr q))) _)
 ·intro h;refine Nat.lt_of_le_of_lt ((qhZ hw hm c ha hb (k:=8) (by decide)).mpr fun q=>h (EB.down c q).ra) (by decide)
noncomputable def prs (m:Nat):List (Nat×Nat):=(List.range m).flatMap fun a=>(List.range m).map fun b=>(a,b)
theorem qfc {m a b:Nat}:(a,b)∈prs m↔a<m/\b<m:=by
 unfold prs;rw [List.mem_flatMap];constructor
 ·rintro ⟨x,d,h⟩;obtain ⟨y,c,e⟩:=List.mem_map.mp h;cases e;exact ⟨List.mem_range.mp d,List.mem_range.mp c⟩
 ·rintro ⟨h1,h2⟩;exact ⟨a,List.mem_range.mpr h1,List.mem_map.mpr ⟨b,List.mem_range.mpr h2,rfl⟩⟩
structure FD (m:Nat)(f:Nat->Nat->Nat)(F:List (TK×D)):Prop where
 keys:F.map (·.1)=(prs m).map tkP
 get:∀ a b,a<m->b<m->qao F (tkP (a,b))=some (.int (f a b:Nat))
 und:∀ p∈F,p.2.und 0=true
noncomputable def up2 (f:Nat->Nat->Nat)(a b v:Nat):Nat->Nat->Nat:=fun x y=>if x=a/\y=b then v else f x y
theorem qlh {k:TK}{v:D}{F:List (TK×D)}(h:k∈F.map (·.1)):(putD F k v).map (·.1)=F.map (·.1):=by
 unfold putD;have:(F.any fun p=>decide (p.1=k))=true:=by
  rw [List.any_eq_true];obtain ⟨p,a,e⟩:=List.mem_map.mp h;exact ⟨p,a,decide_eq_true e⟩
 rw [this,if_pos rfl,List.map_map];refine List.map_congr_left fun p _=>?_;show (if p.1=k then (p.1,v) else p).1=p.1;split<;>rfl
theorem FD.put {m:Nat}{f:Nat->Nat->Nat}{F:List (TK×D)}(h:FD m f F){a b v:Nat}(ha:a<m)(hb:b<m):FD m (up2 f a b v) (putD F (tkP (a,b)) (.int (v:Nat))):=by
 refine ⟨(qlh ?_).trans h.keys,fun x y d c=>?_,qfb h.und rfl⟩
 ·rw [h.keys];exact List.mem_map.mpr ⟨(a,b),qfc.mpr ⟨ha,hb⟩,rfl⟩
 ·rw [qde];unfold up2;by_cases e:x=a/\y=b
  ·obtain ⟨rfl,rfl⟩:=e;rw [if_pos rfl,if_pos ⟨rfl,rfl⟩]
  ·rw [if_neg e,if_neg fun z=>e ?_]
   ·exact h.get x y d c
   ·have:=qdn z;exact ⟨congrArg (·.1) this,congrArg (·.2) this⟩
theorem qd4 (k:Nat):∀ n,((List.range n).map fun _=>k).sum=n*k
 | 0=>by rw [Nat.zero_mul];rfl
 | n+1=>by rw [List.range_succ,List.map_append,List.sum_append,qd4 k n,Nat.succ_mul];rfl
theorem FD.len {m:Nat}{f:Nat->Nat->Nat}{F:List (TK×D)}(h:FD m f F)(hm:m<=8):F.length<=64:=by
 have:=congrArg List.length h.keys;rw [lM1,lM1] at this;rw [this];unfold prs;rw [List.length_flatMap];have e:((List.range m).map fun a=>((List.range m).map fun b=>(a,b)).length)=(List.range m).map fun _=>m:=List.map_congr_left fun a _=>by rw [lM1,List.length_range]
 rw [e];have:((List.range m).map fun _=>m).sum=m*m:=qd4 m m;rw [this];exact Nat.mul_le_mul hm hm
theorem qcJ {m:Nat}{w:qab}(hw:WebJ m w){r d:Nat}{e:Nat×Nat}(he:(rowN w r)[d]? = some e):e.1<m:=by
 unfold rowN at he;cases hr:w[r]? with
 | none=>rw [hr] at he;simp at he
 | some a=>rw [hr] at he;exact hw.to r d e ⟨a,hr,he⟩
theorem ixr {m:Nat}{w:qab}(hw:WebJ m w){r:Nat}{S:Sto}(hr:r<m):gIxY (webD w) (.int r) S=some (.tup ((rowN w r).map pD),S):=by
 obtain ⟨a,h⟩:=qpZ hw hr;rw [qjq h];exact ix_tup (by rw [gP1,h];rfl)
theorem qea {m:Nat}{w:qab}(hw:WebJ m w)(r:Nat):(rowN w r).length<=4:=by
 unfold rowN;cases hr:w[r]? with
 | none=>simp
 | some a=>exact hw.le r a hr
theorem qfu {w:qab}{f:Nat->Nat->Nat}{a b:Nat}:(dsp w f a b).length=min (rowN w a).length (rowN w b).length:=by unfold dsp;rw [lM1,List.length_zip]
theorem qiT:∀ (xs ys:List (Nat×Nat)),zpD (xs.map pD) (ys.map pD)=(xs.zip ys).map fun p=>D.tup [pD p.1,pD p.2]
 | [],ys=>by cases ys<;>rfl
 | x::xs,[]=>rfl
 | x::xs,y::ys=>by rw [mP1,mP1,zpD,qiT xs ys];rfl
theorem qjh {m a b k:Nat}{w:qab}{f:Nat->Nat->Nat}{F:List (TK×D)}{S:Sto}{Q:D×Sto->Prop}(hw:WebJ m w)(ha:a<m)(hb:b<m)(hk:S[k]? = some (dO F))(E:FD m f F)
  (q:Q (.ref S.length,S++[.lst (nmD (dsp w f a b))])):W (qaf 4 qaN [webD w,.ref k,.int a,.int b] S) Q:=by
 refine qiK rfl (by rw [D.unds,qbk];rfl) ?_;have y:=(gE1.mp hk).1;unfold qaN;refine fnW ?_;unfold qdI;refine seqW (fun r V=>V=S++[.lst []]/\r=[some (webD w),some (.ref k),some (.int (a:Nat)),some (.int (b:Nat)),some (.ref S.length),none,none,none,none]) ?_ ?_
 ·walk_at "own wq"
  try exact ⟨rfl,trivial⟩
 rintro r V ⟨rfl,rfl⟩;refine seqW (fun r V=>∃ j n l g,V=S++[.lst (nmD (dsp w f a b))]/\r=[some (webD w),some (.ref k),some (.int (a:Nat)),some (.int (b:Nat)),some (.ref S.length),j,n,l,g]) ?_ ?_
 ·unfold mFor;rw [qah];refine qse (xs:=(rowN w a).map pD) (ys:=(rowN w b).map pD) ?_ ?_
  ·have G:=ixr hw (S:=S++[.lst []]) ha;have I:=ixr hw (S:=S++[.lst []]) hb;simp only [qaa,m2,b2,mV,mNil,List.getElem?_cons_zero,gC1,oS1,G,I]
  rw [qiT];refine qaA (fun i r V=>i<=(dsp w f a b).length/\V=S++[.lst (nmD ((dsp w f a b).take i))] /\ ∃ j n l g,r=[some (webD w),some (.ref k),some (.int (a:Nat)),some (.int (b:Nat)),some (.ref S.length),j,n,l,g]) _ 0 _ _ ⟨Nat.zero_le _,rfl,_,_,_,_,rfl⟩ (fun _ _ _ _=>rfl) ?_ ?_
  ·rintro i J s r V ⟨hi,rfl,j,n,l,g,rfl⟩;rw [Nat.zero_add] at *
   rw [gP1] at s;obtain ⟨⟨e,c⟩,A,rfl⟩:=oM1.mp s;have B:=List.getElem?_zip_eq_some.mp A;have hd:(dsp w f a b)[i]? = some (if e.2=c.2 then 1+f e.1 c.1 else 1):=by
    unfold dsp;rw [gP1,A];rfl
   have u:=(gE1.mp hd).1;have H:(dsp w f a b).length<=4:=by rw [qfu];have:=qea hw a;lia
   have t:(S++[Ob.lst (nmD ((dsp w f a b).take i))])[k]? = some (dO F):=by rw [gL1 y];exact hk
   have o:(S++[Ob.lst (nmD ((dsp w f a b).take i))])[S.length]? = some (.lst (nmD ((dsp w f a b).take i))):=by rw [qaC];rfl
   unfold pD;walk_at "own wq";unfold qcK qcg;rw [qah];refine qdz ?_;walk_at "own wq";refine ⟨S.length,_,rfl,o,?_⟩;have p:∀ v:Nat,(if e.2=c.2 then 1+f e.1 c.1 else 1)=v->W (gApp (.ref S.length) (.int (v:Nat)) (S++[Ob.lst (nmD ((dsp w f a b).take i))])) fun x=>(i+1<=(dsp w f a b).length/\x.2=S++[.lst (nmD ((dsp w f a b).take (i+1)))]):=fun v C=>by
    refine (qfC o).mpr ⟨qaj (by rw [nmD,lM1,List.length_take];lia),u,?_⟩;rw [List.take_succ,hd,C];show (S++[_]).set S.length _=_;rw [List.set_append_right _ _ (nR1 _),Nat.sub_self];unfold nmD;rw [List.map_append];rfl
   by_cases d:e.2=c.2
   ·rw [if_neg (by rw [d];simp)];refine qdj t (qaU (e:=(e.1,c.1))) (E.get e.1 c.1 (qcJ hw B.1) (qcJ hw B.2)) ?_;walk_at "own wq";have:=p _ (if_pos d);rw [show ((1+f e.1 c.1:Nat):Int)=1+(f e.1 c.1:Int) from by push_cast;rfl] at this;exact this.mono fun x h=>⟨h.1,h.2,_,_,_,_,rfl⟩
   ·rw [if_pos (by simp [show ¬ ((e.2:Int)=c.2) from fun z=>d (by exact_mod_cast z)])];exact (p 1 (if_neg d)).mono fun x h=>⟨h.1,h.2,_,_,_,_,rfl⟩
  ·rintro r V ⟨hi,rfl,j,n,l,g,rfl⟩;refine ⟨rfl,_,_,_,_,?_,rfl⟩;rw [Nat.zero_add,lM1,show (List.zip (rowN w a) (rowN w b)).length=(dsp w f a b).length from by unfold dsp;rw [lM1],List.take_length]
 rintro r V ⟨j,n,l,g,rfl,rfl⟩;walk_at "own wq";rw [show gc S.length (D.ref S.length,S++[Ob.lst (nmD (dsp w f a b))])=(D.ref S.length,S++[Ob.lst (nmD (dsp w f a b))]) from by unfold gc;rw [show (D.ref S.length).und S.length=false by rw [D.und];simp];rfl];exact q
noncomputable abbrev sgT (sg:List Int):D:=.tup (sg.map D.int)
theorem qmO {sg:List Int}{r:Nat}{S:Sto}(h:r<sg.length):gIxY (sgT sg) (.int r) S=some (.int (sgN sg r),S):=
 ix_tup (by unfold sgN;rw [gP1,gG1 h,List.getD_eq_getElem?_getD,gG1 h];rfl)
theorem qrE:∀ a:List Nat,qg8 (nmD a)=some (a.map fun (r:Nat)=>(r:Int))
 | []=>rfl
 | r::a=>by
  have:=qrE a;show (qg8 (.int r::nmD a))=_;rw [qg8,this];rfl
theorem qom {c:Nat}{l:List Nat}:minI ((c::l).map fun (r:Nat)=>(r:Int))=(mn c l:Nat):=by
 have h:=qg1 (l:=(c::l).map fun (r:Nat)=>(r:Int)) (by simp);obtain ⟨x,a,e⟩:=List.mem_map.mp h.1;have h1:mn c l<=x:=qgY.mpr (by
  rcases List.mem_cons.mp a with z | z
  ·exact .inl (by rw [z];exact nR1 _)
  ·exact .inr ⟨x,z,nR1 _⟩)
 have h2:(mn c l)∈c::l:=by
  rcases qiA (l:=l) (c:=c) with z | z
  ·rw [z];exact mS1
  ·exact mC1 _ z
 have:=h.2 _ (List.mem_map.mpr ⟨_,h2,rfl⟩);lia
theorem qr7 {c:Nat}{os:List Nat}{S:Sto}{n:Nat}{Q:D×Sto->Prop}(h:S[n]? = some (.lst (nmD (c::os))))(q:Q (.int (mn c os:Nat),S)):W (qki (.ref n) S) Q:=by
 refine W.of ?_ q;simp only [qki,qap,h];rw [qrE,oS1,if_neg (by simp),qom]
theorem nm_und:∀ a:List Nat,D.unds 0 (nmD a)=true
 | []=>rfl
 | r::a=>by
  show D.unds 0 (.int r::nmD a)=true;rw [D.unds,nm_und a];rfl
noncomputable abbrev evF (w:qab)(sg:List Int)(x3 x4 x5:Option D):Ev:=[some (webD w),some (sgT sg),some (.ref 0),x3,x4,x5]
theorem lenR {m:Nat}{w:qab}(hw:WebJ m w){r:Nat}{S:Sto}:gLen (.tup ((rowN w r).map pD)) S=some (.int ((rowN w r).length:Nat),S):=by
 simp only [gLen,qap,oP1,lM1]
theorem qo6 {m a b:Nat}{w:qab}{sg:List Int}{f:Nat->Nat->Nat}{F:List (TK×D)}{V:Sto}{j:Option D}(hw:WebJ m w)(hm:m<=8)(hs:sg.length=m)(ha:a<m)(hb:b<m)(h:V[0]? = some (dO F))(i:FD m f F):
  W (qcu (evF w sg (some (.int (a:Nat))) (some (.int (b:Nat))) j) V) fun q=>q.1 = .nx/\q.2.1=evF w sg (some (.int (a:Nat))) (some (.int (b:Nat))) j /\ ∃ G,q.2.2=V.set 0 (dO (putD F (tkP (a,b)) (.int (phi w sg f a b:Nat))))++G/\G.all (Ob.und 0)=true:=by
 have t:=i.len hm;have d:=(gE1.mp h).1;have k:=ixr hw (S:=V) ha;have l:=ixr hw (S:=V) hb;have s:=qmO (sg:=sg) (r:=a) (S:=V) (by lia);have p:=qmO (sg:=sg) (r:=b) (S:=V) (by lia);unfold qcu;walk_at "own wq";simp only [k,l,lenR hw,qag];walk_at "own wq";have zero:¬ EB w sg 0 a b->W (qbS (.ref 0) (.tup [.int (a:Nat),.int (b:Nat)]) (.int 0) V) fun x=>∃ G,x.2=V.set 0 (dO (putD F (tkP (a,b)) (.int (phi w sg f a b:Nat))))++G/\G.all (Ob.und 0)=true:=fun z=>by
  have:phi w sg f a b=0:=by unfold phi;rw [if_neg z]
  refine qeV (F:=F) h (qaU (e:=(a,b))) (by lia) ⟨[],?_,rfl⟩;rw [this,List.append_nil];rfl
 by_cases hd:(rowN w a).length=(rowN w b).length
 ·rw [if_neg (by rw [hd];simp)];simp only [s,p,qag];walk_at "own wq";by_cases g:sgN sg a=sgN sg b
  ·rw [if_neg (by rw [g];simp)];have o:phi w sg f a b=mn 99 (dsp w f a b):=by unfold phi;exact if_pos ⟨hd,g⟩
   refine qjh hw ha hb (by rw [gL1 d];exact h) i ?_;dsimp only;have n:(dsp w f a b).length<=4:=by rw [qfu];have:=qea hw a;lia
   refine (qsi (xs:=[.int 99]) (ys:=nmD (dsp w f a b)) ?_ ?_).mpr ⟨qaj ?_,?_⟩
   ·rw [List.append_assoc,qaC];rfl
   ·rw [gR1 (nR1 _),Nat.sub_self];rfl
   ·rw [nmD,lM1];simp;lia
   dsimp only;refine qr7 (c:=99) (os:=dsp w f a b) ?_ ?_
   ·rw [gR1 (nR1 _),Nat.sub_self];rfl
   dsimp only;refine qeV (F:=F) ?_ (qaU (e:=(a,b))) (by lia) ⟨[.lst [.int 99],.lst (nmD (dsp w f a b)),.lst (nmD (99::dsp w f a b))],?_,?_⟩
   ·rw [List.append_assoc,List.append_assoc,gL1 d];exact h
   ·rw [o,List.append_assoc,List.append_assoc,List.set_append_left _ _ d];rfl
   ·simp only [List.all_cons,List.all_nil,Ob.und,nm_und];rfl
  ·rw [if_pos (by simp [g])];exact zero fun z=>g z.2
 ·rw [if_pos (by simp;lia)];exact zero fun z=>hd z.1
theorem qoz {F:List (TK×D)}{n:Nat}{S:Sto}(b:S[n]? = some (dO F)):qg9 (.ref n) S=some (.ref S.length,S++[.lst (F.map fun p=>Mi.tkD p.1)]):=by
 cases F with
 | nil=>
  have a:S[n]? = some (.dct []):=b;simp only [qg9,a];rfl
 | cons x F=>
  have a:S[n]? = some (.dcT (x::F)):=b;simp only [qg9,a]
theorem FD.lst {m:Nat}{f:Nat->Nat->Nat}{F:List (TK×D)}(h:FD m f F):(F.map fun p=>Mi.tkD p.1)=(prs m).map pD:=by
 have:=congrArg (List.map Mi.tkD) h.keys;rw [List.map_map,List.map_map] at this;exact this
inductive PI (m:Nat)(w:qab)(sg:List Int)(g:Nat->Nat->Nat)(n:Nat)(x5:Option D)(i:Nat):Ev->Sto->Prop
 | mk (F:List (TK×D)) (f:Nat->Nat->Nat) (x3 x4:Option D) (V:Sto):V[0]? = some (dO F)->FD m f F->V[n]? = some (.lst ((prs m).map pD))->V.all (Ob.und 0)=true ->
  (∀ a b,a<m->b<m->far w sg a b<=f a b/\f a b<=g a b)->(∀ j a b,j<i->(prs m)[j]? = some (a,b)->f a b<=phi w sg g a b)->PI m w sg g n x5 i (evF w sg x3 x4 x5) V
inductive PO (m:Nat)(w:qab)(sg:List Int)(g:Nat->Nat->Nat)(x5:Option D):Ev->Sto->Prop
 | mk (F:List (TK×D)) (f:Nat->Nat->Nat) (x3 x4:Option D) (V:Sto):V[0]? = some (dO F)->FD m f F->V.all (Ob.und 0)=true ->
  (∀ a b,a<m->b<m->far w sg a b<=f a b/\f a b<=g a b)->PO m w sg g x5 (evF w sg x3 x4 x5) V
theorem qqA {m:Nat}{w:qab}{sg:List Int}{g:Nat->Nat->Nat}{V:Sto}{r:Ev}{J:Option D}(hw:WebJ m w)(h1:0<m)(hm:m<=8)(hs:sg.length=m)(hg:∀ a b,a<m->b<m->phi w sg g a b<=g a b)(h:PO m w sg g J r V):
  W (qct r V) fun q=>q.1 = .nx/\PO m w sg (phi w sg g) J q.2.1 q.2.2:=by
 obtain ⟨F,f,A,E,V,p,o,u,t⟩:=h;unfold qct mFor;rw [qah,qnc];have K:=(gE1.mp p).1;have e:mN (b1 qg9) (qaa (mV 2) mNil) (evF w sg A E J) V=some (.ref V.length,V++[.lst ((prs m).map pD)]):=by
  have:=qoz p;rw [o.lst] at this;simp only [mN,qaa,mNil,mV,b1,gC1,List.getElem?_cons_zero,oS1,this]
 rw [e,qag];refine qax (xs:=(prs m).map pD) (by rw [gR1 (nR1 _),Nat.sub_self];rfl) ?_;dsimp only;refine qaA (PI m w sg g V.length J) _ 0 _ _ (.mk F f A E _ ?_ o ?_ ?_ t fun j _ _ v _=>absurd v (Nat.not_lt_zero _)) (fun i r H hi=>?_) ?_ ?_
 ·rw [gL1 K];exact p
 ·rw [gR1 (nR1 _),Nat.sub_self];rfl
 ·rw [List.all_append,u];have:D.unds 0 ((prs m).map pD)=true:=unds_map (fun _=>rfl) _;simp only [List.all_cons,List.all_nil,Ob.und,this];rfl
 ·obtain ⟨F,f,A,E,H,p,o,B,u,t,I⟩:=hi;exact qbA B
 ·rintro i d hd r H ⟨F,f,A,E,H,p,o,B,u,t,I⟩;rw [Nat.zero_add] at *
  rw [gP1] at hd;obtain ⟨⟨a,b⟩,C,rfl⟩:=oM1.mp hd;obtain ⟨n,c⟩:=qfc.mp (gM1 C);unfold pD;walk_at "own wq";refine (qo6 hw hm hs n c p o).mono ?_;rintro ⟨fl,Q,P⟩ ⟨rfl,rfl,G,rfl,O⟩;have s:=(gE1.mp p).1;have up:phi w sg f a b<=phi w sg g a b:=qdX hw (fun a b n c=>(t a b n c).2) a b;refine ⟨rfl,.mk (putD F (tkP (a,b)) (.int (phi w sg f a b:Nat))) (up2 f a b (phi w sg f a b)) _ _ _ ?_ (o.put n c) ?_ ?_ (fun x y N L=>?_) fun j x y v l=>?_⟩
  ·rw [gL1 (by rw [List.length_set];exact s),List.getElem?_set_self s]
  ·have M:=(gE1.mp B).1;rw [gL1 (by rw [List.length_set];exact M),gS1 (by lia)];exact B
  ·rw [List.all_append,qfB u (qh3 (o.put n c).und),O];rfl
  ·unfold up2;split
   ·rename_i k;obtain ⟨rfl,rfl⟩:=k;refine ⟨?_,Nat.le_trans up (hg x y N L)⟩;rw [<- qhg hw h1 hm N L];exact qdX hw (fun a b n c=>(t a b n c).1) x y
   ·exact t x y N L
  ·unfold up2;split
   ·rename_i k;obtain ⟨rfl,rfl⟩:=k;exact up
   ·rename_i k;refine I j x y ?_ l;rcases Nat.lt_or_eq_of_le (Nat.le_of_lt_succ v) with z | z
    ·exact z
    ·subst z;rw [C] at l;cases l;exact absurd ⟨rfl,rfl⟩ k
 ·rintro r H ⟨F,f,A,E,H,p,o,B,u,t,I⟩;refine ⟨rfl,.mk F f _ _ _ p o u fun a b n c=>⟨(t a b n c).1,?_⟩⟩;obtain ⟨j,v⟩:=List.getElem?_of_mem (qfc.mpr ⟨n,c⟩);exact I j a b (by rw [Nat.zero_add,lM1];exact (gE1.mp v).1) v
noncomputable def fl (ps:List (Nat×Nat)):List (TK×D):=ps.map fun p=>(tkP p,.int 99)
theorem qrJ {ps:List (Nat×Nat)}{p:Nat×Nat}(h:p∉ps):putD (fl ps) (tkP p) (.int 99)=fl (ps++[p]):=by
 unfold putD;have:((fl ps).any fun q=>decide (q.1=tkP p))=false:=by
  rw [List.any_eq_false];rintro ⟨k,v⟩ b z;obtain ⟨q,a,e⟩:=List.mem_map.mp b;cases e;exact h (qdn (of_decide_eq_true z) ▸ a)
 rw [this];unfold fl;rw [List.map_append];rfl
theorem qkl {p:Nat×Nat}:∀ {ps:List (Nat×Nat)},p∈ps->qao (fl ps) (tkP p)=some (.int 99)
 | q::ps,h=>by
  show qao ((tkP q,.int 99)::fl ps) (tkP p)=_;rw [qaZ];by_cases e:tkP q=tkP p
  ·rw [if_pos e]
  ·rw [if_neg e];rcases List.mem_cons.mp h with z | z
   ·exact absurd (by rw [z]) e
   ·exact qkl z
theorem qrK {m:Nat}:FD m (fun _ _=>99) (fl (prs m)):=by
 refine ⟨?_,fun a b c e=>qkl (qfc.mpr ⟨c,e⟩),fun p d=>?_⟩
 ·unfold fl;rw [List.map_map];rfl
 ·obtain ⟨q,_,rfl⟩:=List.mem_map.mp d;rfl
noncomputable def pre (m i j:Nat):List (Nat×Nat):=((List.range i).flatMap fun a=>(List.range m).map fun b=>(a,b))++(List.range j).map fun b=>(i,b)
theorem qqd {m i:Nat}:pre m i 0=(List.range i).flatMap fun a=>(List.range m).map fun b=>(a,b):=by
 unfold pre;exact List.append_nil _
theorem qsH {m i j:Nat}:pre m i j++[(i,j)]=pre m i (j+1):=by
 unfold pre;rw [List.range_succ,List.map_append,List.append_assoc];rfl
theorem qsI {m i:Nat}:pre m i m=pre m (i+1) 0:=by
 rw [qqd];unfold pre;rw [List.range_succ,List.flatMap_append];simp
theorem qnQ {m i j:Nat}:(i,j)∉pre m i j:=by
 unfold pre;rw [List.mem_append];rintro (h | h)
 ·obtain ⟨a,d,h⟩:=List.mem_flatMap.mp h;obtain ⟨b,c,e⟩:=List.mem_map.mp h;cases e;exact absurd (List.mem_range.mp d) (Nat.lt_irrefl _)
 ·obtain ⟨b,c,e⟩:=List.mem_map.mp h;cases e;exact absurd (List.mem_range.mp c) (Nat.lt_irrefl _)
theorem qnR {m i j:Nat}(hi:i<=8)(hm:m<=8)(c:j<=8):(pre m i j).length<=72:=by
 unfold pre;rw [lA1,List.length_flatMap,lM1,List.length_range];have e:((List.range i).map fun a=>((List.range m).map fun b=>(a,b)).length)=(List.range i).map fun _=>m:=List.map_congr_left fun a _=>by rw [lM1,List.length_range]
 rw [e,qd4];have:=Nat.mul_le_mul hi hm;lia
theorem FD.congr {m:Nat}{f g:Nat->Nat->Nat}{F:List (TK×D)}(h:FD m f F)(e:∀ a b,a<m->b<m->f a b=g a b):FD m g F:=⟨h.keys,fun a b c d=>by rw [h.get a b c d,e a b c d],h.und⟩
theorem qdT {m:Nat}{w:qab}(hw:WebJ m w){S:Sto}:gLen (webD w) S=some (.int (m:Nat),S):=by
 unfold webD;simp only [gLen,qap,oP1,lM1,hw.len]
noncomputable def gg (w:qab)(sg:List Int):Nat->Nat->Nat->Nat
 | 0=>fun _ _=>99
 | n+1=>tF w sg n
theorem gg_s {w:qab}{sg:List Int}:∀ n,phi w sg (gg w sg n)=gg w sg (n+1)
 | 0=>rfl
 | _+1=>rfl
theorem qoX {m:Nat}{w:qab}{sg:List Int}(hw:WebJ m w):∀ n a b,a<m->b<m->phi w sg (gg w sg n) a b<=gg w sg n a b
 | 0,a,b,_,_=>qeJ
 | n+1,a,b,ha,hb=>qjf hw n a b ha hb
theorem qth {m:Nat}{w:qab}{sg:List Int}(hw:WebJ m w)(h1:0<m)(hm:m<=8)(hs:sg.length=m):
  W (qb2 [webD w,sgT sg] []) fun p=>∃ k X,p.1 = .ref k/\p.2[k]? = some X/\p.2.all (Ob.und 0)=true /\ ∃ F,X=dO F/\FD m (far w sg) F:=by
 unfold qb2;refine fnW ?_;unfold qeU;refine seqW (fun r V=>V=[dO []]/\r=evF w sg none none none) ?_ ?_
 ·walk_at "own wq";exact W.of rfl ⟨rfl,rfl⟩
 rintro r V ⟨rfl,rfl⟩;refine seqW (fun r V=>∃ g c,V=[dO (fl (prs m))]/\r=evF w sg g c none) ?_ ?_
 ·unfold mFor;rw [qah,qiO];walk_at "own wq";rw [qdT hw,qag];refine ⟨qaW (by lia),?_⟩;rw [Int.toNat_natCast];refine qaA (fun i r V=>i<=m/\V=[dO (fl (pre m i 0))] /\ ∃ g c,r=evF w sg g c none) _ 0 _ _ ⟨Nat.zero_le _,rfl,_,_,rfl⟩ (fun _ _ _ _=>rfl) ?_ ?_
  ·rintro i d hd r V ⟨hi,rfl,g,c,rfl⟩;rw [Nat.zero_add] at *
   obtain ⟨v,rfl⟩:=qbv _ _ _ _ hd;rw [Int.zero_add];walk_at "own wq";unfold qdD mFor;rw [qah,qiO];walk_at "own wq";rw [qdT hw,qag];refine ⟨qaW (by lia),?_⟩;rw [Int.toNat_natCast];refine qaA (fun j r V=>j<=m/\V=[dO (fl (pre m i j))] /\ ∃ c,r=evF w sg (some (.int (i:Nat))) c none) _ 0 _ _ ⟨Nat.zero_le _,rfl,_,rfl⟩ (fun _ _ _ _=>rfl) ?_ ?_
   ·rintro j d hd r V ⟨B,rfl,c,rfl⟩;rw [Nat.zero_add] at *
    obtain ⟨u,rfl⟩:=qbv _ _ _ _ hd;rw [Int.zero_add];walk_at "own wq";unfold qdE;walk_at "own wq";refine qeV (F:=fl (pre m i j)) rfl (qaU (e:=(i,j))) (by have:=qnR (m:=m) (i:=i) (j:=j) (by lia) hm (by lia);unfold fl;rw [lM1];lia) ?_;rw [qrJ qnQ,qsH];exact ⟨u,rfl,_,rfl⟩
   ·rintro r V ⟨_,rfl,c,rfl⟩;rw [Nat.zero_add,qay,qsI];exact ⟨rfl,v,rfl,_,_,rfl⟩
  ·rintro r V ⟨_,rfl,g,c,rfl⟩;rw [Nat.zero_add,qay,qqd];exact ⟨rfl,_,_,rfl,rfl⟩
 rintro r V ⟨g,c,rfl,rfl⟩;refine seqW (fun r V=>∃ l,PO m w sg (far w sg) l r V) ?_ ?_
 ·unfold mFor;rw [qah,qiO];walk_at "own wq";refine ⟨by decide,?_⟩;refine qaA (fun i r V=>∃ l,PO m w sg (gg w sg i) l r V) _ 0 _ _ ⟨_,fl (prs m),_,_,_,_,rfl,qrK,?_,fun a b _ _=>⟨qeJ,nR1 _⟩⟩ (fun _ _ _ _=>rfl) ?_ ?_
  ·rw [List.all_cons,qh3 qrK.und];rfl
  ·rintro i d hd r V ⟨l,F,f,g,c,V,x,t,s,o⟩;rw [Nat.zero_add] at *
   walk_at "own wq";refine (qqA hw h1 hm hs (qoX hw i) (.mk F f g c V x t s o)).mono ?_;rintro q ⟨A,z⟩;rw [gg_s] at z;exact ⟨A,_,z⟩
  ·rintro r V h;exact ⟨rfl,h⟩
 rintro r V ⟨l,F,f,g,c,V,x,t,s,o⟩;walk_at "own wq";exact ⟨0,_,rfl,x,s,F,rfl,t.congr fun a b y n=>Nat.le_antisymm (o a b y n).2 (o a b y n).1⟩
theorem qmY {S:Sto}{n x:Nat}:∀ ys:List Nat,eqsL (eqN S (n+1)) (.int x) (nmD ys)=some (ys.map fun y=>y == x)
 | []=>rfl
 | y::ys=>by
  show eqsL (eqN S (n+1)) (.int x) (.int y::nmD ys)=_;rw [eqsL,qmY ys];have:((y:Int) == x)=(y == x):=by
   rw [Bool.eq_iff_iff,beq_iff_eq,beq_iff_eq];lia
  show some (((y:Int) == x)::_)=_;rw [this];rfl
theorem qsd {S:Sto}{n x:Nat}{ys:List Nat}{Q:D×Sto->Prop}(h:S[n]? = some (.lst (nmD ys)))(b:ys.length<1000)(hx:x∈ys)(q:Q (.int (ys.findIdx (· == x):Nat),S)):W (gIdx (.ref n) (.int x) S) Q:=by
 have a:ys.findIdx? (· == x)=some (ys.findIdx (· == x)):=List.findIdx?_eq_some_of_exists ⟨x,hx,by simp⟩;refine W.of ?_ q;unfold gIdx qav;simp only [h,show (60:Nat)=59+1 from rfl,qmY,oS1,lM1];rw [if_pos (by lia),List.findIdx?_map];simp [Function.comp_def,a]
noncomputable def dr (w:qab)(a d:Nat):Nat×Nat:=(rowN w a).getD d (0,0)
noncomputable def wk (w:qab)(f:Nat->Nat->Nat):Nat->Nat->Nat->List Nat
 | 0,_,_=>[]
 | n+1,a,b=>
  let d:=(dsp w f a b).findIdx (· == n+1)
  d::if (dr w a d).2=(dr w b d).2 then wk w f n (dr w a d).1 (dr w b d).1 else []
theorem qd1 {m a b n:Nat}{w:qab}{sg:List Int}(hw:WebJ m w)(h1:0<m)(hm:m<=8)(ha:a<m)(hb:b<m)(hn:n<98)(h:far w sg a b=n+1):
  n+1∈dsp w (far w sg) a b /\ ∀ d,(dsp w (far w sg) a b)[d]? = some (n+1)->(rowN w a)[d]? = some (dr w a d)/\(rowN w b)[d]? = some (dr w b d)/\(dr w a d).1<m/\(dr w b d).1<m/\((dr w a d).2=(dr w b d).2->far w sg (dr w a d).1 (dr w b d).1=n):=by
 have f:=qhg (sg:=sg) hw h1 hm ha hb;rw [h] at f;constructor
 ·unfold phi at f;split at f
  ·rcases qiA (l:=dsp w (far w sg) a b) (c:=99) with z | z
   ·lia
   ·rw [f] at z;exact z
  ·lia
 ·intro d hd;unfold dsp at hd;rw [gP1] at hd;obtain ⟨⟨e,e'⟩,k,i⟩:=oM1.mp hd;obtain ⟨g,p2⟩:=List.getElem?_zip_eq_some.mp k;have o:dr w a d=e:=by unfold dr;rw [List.getD_eq_getElem?_getD,g];rfl
  have j:dr w b d=e':=by unfold dr;rw [List.getD_eq_getElem?_getD,p2];rfl
  rw [o,j];refine ⟨g,p2,qcJ hw g,qcJ hw p2,fun z=>?_⟩;dsimp only at i;rw [if_pos z] at i;lia
theorem qhV {x:Nat}{ys:List Nat}(h:x∈ys):ys[ys.findIdx (· == x)]? = some x:=by
 have a:ys.findIdx (· == x)<ys.length:=List.findIdx_lt_length_of_exists ⟨x,h,by simp⟩;rw [gG1 a];have:=List.findIdx_getElem (w:=a);rw [beq_iff_eq] at this;rw [this]
theorem qhE {m a d:Nat}{w:qab}{S:Sto}(h:(rowN w a)[d]? = some (dr w a d)):gIxY (.tup ((rowN w a).map pD)) (.int d) S=some (pD (dr w a d),S):=ix_tup (by rw [gP1,h];rfl)
theorem qr2 {m k n a b:Nat}{w:qab}{sg:List Int}{F:List (TK×D)}{acc:List Nat}{H:Option D}{V:Sto}(hw:WebJ m w)(h1:0<m)(hm:m<=8)(h:FD m (far w sg) F)(hn:far w sg a b=n+1)(x:n+1<99)(ha:a<m)(hb:b<m)(E:acc.length<=100)(hk:V[k]? = some (dO F)){d:Nat}(hd:d=(dsp w (far w sg) a b).findIdx (· == n+1)):
  W (qbr [some (webD w),some (.ref k),some (.int (a:Nat)),some (.int (b:Nat)),some (.tup (nmD acc)),H] V) fun p=>(∃ G,p.2.2=V++G)/\if (dr w a d).2=(dr w b d).2 then p.1 = .nx/\p.2.1=[some (webD w),some (.ref k),some (.int ((dr w a d).1:Nat)),some (.int ((dr w b d).1:Nat)),some (.tup (nmD (acc++[d]))),some (.int (d:Nat))] else p.1 = .rt (.tup (nmD (acc++[d]))):=by
 obtain ⟨s,J⟩:=qd1 hw h1 hm ha hb (by lia) hn;obtain ⟨o,q,C,I,A⟩:=J _ (qhV s);rw [<- hd] at o q C I A;have g:=(gE1.mp hk).1;have B:(dsp w (far w sg) a b).length<=4:=by rw [qfu];have:=qea hw a;lia
 unfold qbr;refine seqW (fun r U=>U=V++[.lst (nmD (dsp w (far w sg) a b))]/\r=[some (webD w),some (.ref k),some (.int (a:Nat)),some (.int (b:Nat)),some (.tup (nmD acc)),some (.int (d:Nat))]) ?_ ?_
 ·walk_at "own wq";refine qdz ?_;walk_at "own wq";refine qjh hw ha hb hk h ?_;have f:(V++[Ob.lst (nmD (dsp w (far w sg) a b))])[V.length]? = some (.lst (nmD (dsp w (far w sg) a b))):=by rw [gR1 (nR1 _),Nat.sub_self];rfl
  refine ⟨V.length,_,rfl,f,?_⟩;refine qdj (by rw [gL1 g];exact hk) (qaU (e:=(a,b))) (h.get a b ha hb) ?_;dsimp only;rw [hn];refine qsd f (by lia) s ?_;rw [<- hd];exact ⟨rfl,rfl⟩
 rintro r U ⟨rfl,rfl⟩;refine seqW (fun r U=>U=V++[.lst (nmD (dsp w (far w sg) a b))]/\r=[some (webD w),some (.ref k),some (.int (a:Nat)),some (.int (b:Nat)),some (.tup (nmD (acc++[d]))),some (.int (d:Nat))]) ?_ ?_
 ·walk_at "own wq";refine ⟨qaj (by unfold nmD;rw [lM1];simp;lia),?_⟩;unfold nmD;rw [List.map_append];rfl
 rintro r U ⟨rfl,rfl⟩;have j:=ixr hw (S:=V++[.lst (nmD (dsp w (far w sg) a b))]) ha;have t:=ixr hw (S:=V++[.lst (nmD (dsp w (far w sg) a b))]) hb;have l:=qhE (m:=m) (S:=V++[.lst (nmD (dsp w (far w sg) a b))]) o;have u:=qhE (m:=m) (S:=V++[.lst (nmD (dsp w (far w sg) a b))]) q;have v:∀ p:Nat×Nat,gIxY (pD p) (.int 1) (V++[.lst (nmD (dsp w (far w sg) a b))])=some (.int (p.2:Nat),V++[.lst (nmD (dsp w (far w sg) a b))]):=fun p=>ix_tup (i:=1) rfl;have y:∀ p:Nat×Nat,gIxY (pD p) (.int 0) (V++[.lst (nmD (dsp w (far w sg) a b))])=some (.int (p.1:Nat),V++[.lst (nmD (dsp w (far w sg) a b))]):=fun p=>ix_tup (i:=0) rfl;unfold mSeq;rw [qah];walk_at "own wq";simp only [j,t,l,u,v,qag];walk_at "own wq";by_cases c:(dr w a d).2=(dr w b d).2
 ·rw [if_neg (by rw [c];simp)];simp only [j,t,l,u,y,qag];refine ⟨⟨_,rfl⟩,?_⟩;rw [if_pos c];trivial
 ·rw [if_pos (by simp [show ¬ (((dr w a d).2:Int)=(dr w b d).2) from fun z=>c (by exact_mod_cast z)])];refine ⟨⟨_,rfl⟩,?_⟩;rw [if_neg c];trivial
theorem go_W {m k:Nat}{w:qab}{sg:List Int}{F:List (TK×D)}(hw:WebJ m w)(h1:0<m)(hm:m<=8)(f:FD m (far w sg) F):∀ (n a b c:Nat) (acc:List Nat) (g:Option D) (V:Sto),far w sg a b=n->n<99->a<m->b<m->n<c->acc.length+n<=100->V[k]? = some (dO F) ->
  W (whl qbs qbr c [some (webD w),some (.ref k),some (.int (a:Nat)),some (.int (b:Nat)),some (.tup (nmD acc)),g] V) fun p=>(∃ G,p.2.2=V++G)/\((p.1 = .nx/\p.2.1[4]? = some (some (.tup (nmD (acc++wk w (far w sg) n a b)))))\/p.1 = .rt (.tup (nmD (acc++wk w (far w sg) n a b))))
 | 0,a,b,c+1,acc,g,V,hn,_,ha,hb,_,_,hk=>by
  unfold whl;rw [qah];unfold qbs;walk_at "own wq";refine qdj hk (qaU (e:=(a,b))) (f.get a b ha hb) ?_;walk_at "own wq";rw [hn,if_neg (by decide)];exact ⟨⟨[],(List.append_nil _).symm⟩,.inl (by rw [wk,List.append_nil])⟩
 | n+1,a,b,c+1,acc,g,V,hn,hn9,ha,hb,hfu,hac,hk=>by
  unfold whl;rw [qah];unfold qbs;walk_at "own wq";refine qdj hk (qaU (e:=(a,b))) (f.get a b ha hb) ?_;walk_at "own wq";rw [hn];rw [if_pos (by rw [decide_eq_true_eq];lia)];obtain ⟨u,s⟩:=qd1 hw h1 hm ha hb (by lia) hn;obtain ⟨v,x,o,i,q⟩:=s _ (qhV u);refine (qr2 hw h1 hm f hn hn9 ha hb (by lia) hk rfl).mono ?_;rintro ⟨fl,r,U⟩ ⟨⟨G,rfl⟩,h⟩;dsimp only at h ⊢;rw [wk];split at h
  ·rename_i d;obtain ⟨rfl,rfl⟩:=h;dsimp only;rw [if_pos d];have:=go_W (k:=k) hw h1 hm f n _ _ c (acc++[(dsp w (far w sg) a b).findIdx (· == n+1)]) (some (.int ((dsp w (far w sg) a b).findIdx (· == n+1):Nat))) (V++G) (q d) (by lia) o i (by lia) (by rw [lA1];simp;lia) (by rw [gL1 (gE1.mp hk).1];exact hk);rw [List.append_assoc] at this;refine this.mono ?_;rintro p ⟨⟨j,t⟩,l⟩;exact ⟨⟨G++j,by rw [t,List.append_assoc]⟩,l⟩
  ·rename_i d;subst h;dsimp only;rw [if_neg d,qag];exact ⟨⟨G,rfl⟩,.inr rfl⟩
theorem qoy {m a b k:Nat}{w:qab}{sg:List Int}{F:List (TK×D)}{S:Sto}{Q:D×Sto->Prop}(hw:WebJ m w)(h1:0<m)(hm:m<=8)(d:Shut S)(f:FD m (far w sg) F)(ha:a<m)(hb:b<m)(g:far w sg a b<99)(hk:S[k]? = some (dO F))
  (q:Q (.tup (nmD (wk w (far w sg) (far w sg a b) a b)),S)):W (qaf 4 qbC [webD w,.ref k,.int a,.int b] S) Q:=by
 refine callG rfl (by rw [D.unds,qbk];rfl) d ?_;unfold qbC;refine fnW ?_;unfold qes;refine seqW (fun r V=>V=S/\r=[some (webD w),some (.ref k),some (.int (a:Nat)),some (.int (b:Nat)),some (.tup (nmD [])),none]) ?_ ?_
 ·walk_at "own wq";exact rfl
 rintro r V ⟨rfl,rfl⟩;obtain ⟨⟨fl,r,U⟩,e,⟨G,rfl⟩,h⟩:=go_W (k:=k) hw h1 hm f _ a b 100000 [] none V rfl g ha hb (by lia) (by simp;lia) hk;unfold mSeq;rw [e,oS1];have c:(D.tup (nmD (wk w (far w sg) (far w sg a b) a b))).und 0=true:=by rw [D.und];exact nm_und _
 rcases h with ⟨rfl,h⟩ | h
 ·dsimp only at h ⊢;unfold mRet mV;rw [h];exact W.of rfl ⟨⟨G,rfl⟩,c,q⟩
 ·dsimp only at h ⊢;subst h;exact W.of rfl ⟨⟨G,rfl⟩,c,q⟩
theorem qmk {n:Nat}{d:D}{k:TK}{ks:List TK}{S:Sto}{Q:D×Sto->Prop}(h:S[n]? = some (.tst ks))(hk:keyT d=some k)(q:Q (.bl (!decide (k∈ks)),S)):W (qel d (.ref n) S) Q:=by
 refine W.of ?_ q;simp only [qel,h,hk,oP1]
theorem qps {n:Nat}{d:D}{k:TK}{ks:List TK}{S:Sto}{Q:D×Sto->Prop}(h:S[n]? = some (.tst ks))(hk:keyT d=some k)(a:ks.length<76)(q:Q (.non,S.set n (.tst (putS ks k)))):W (qiJ (.ref n) d S) Q:=by
 refine W.of ?_ q;simp only [qiJ,h,hk,oS1];rw [if_pos a]
theorem qtu {f:FN}{o:FE}{a:FA}{r:Ev}{S:Sto}{Q:D×Sto->Prop}(h:W (o r S) fun p=>∃ n ks,p.1 = .ref n/\p.2[n]? = some (.tst ks)/\W (a r p.2) fun q=>W (f (.ref n::q.1) q.2) Q):W (mMs f o a r S) Q:=by
 unfold mMs;rw [qah];refine h.mono ?_;rintro ⟨d,b⟩ ⟨n,ks,rfl,e,q⟩;dsimp only at e q ⊢;rw [e];dsimp only;rw [qah];exact q
theorem qpq {m:FE}{r:Ev}{S:Sto}{Q:D×Sto->Prop}(h:W (m r S) fun p=>∃ k,keyT p.1=some k/\Q (.ref p.2.length,p.2++[.tst [k]])):W (qlS m r S) Q:=by
 unfold qlS;rw [qah];refine h.mono ?_;rintro ⟨d,a⟩ ⟨k,e,q⟩;dsimp only at e q ⊢;rw [e];exact W.of rfl q
theorem qli {ks:List TK}{k:TK}(h:k∉ks):putS ks k=ks++[k]:=by unfold putS;rw [if_neg h]
noncomputable def trD (t:Nat×Nat×Int):D:=.tup [.int t.1,.int t.2.1,.int t.2.2]
noncomputable def qa1 (w:qab)(sg:List Int)(r:Nat)(ws:List Int):List (Nat×Nat×Int):=(0,(rowN w r).length,sgN sg r)::(qaK w r ws).map fun p=>(1+p.2,(rowN w p.1).length,sgN sg p.1)
theorem qsy {sg:List Int}{r:Nat}:sgA sg r=sgN sg r:=by unfold sgA sgN;rw [List.getD_eq_getElem?_getD]
theorem qe5 {w:qab}{sg:List Int}{r:Nat}{ws:List Int}:qio w sg 0 r ws=(qa1 w sg r ws).map trD:=by
 rw [qbV];unfold qa1 stD;rw [mP1,List.map_map];simp only [qsy];rfl
theorem qrN {S:Sto}{n:Nat}{a b:Nat×Nat×Int}:eqN S (n+2) (trD a) (trD b)=some (decide (a=b)):=by
 obtain ⟨d,c,e⟩:=a;obtain ⟨b1,b2,b3⟩:=b;show some (((d:Int) == b1)&&(((c:Int) == b2)&&((e == b3)&&true)))=_
 congr 1
 rw [Bool.eq_iff_iff];simp;lia
theorem qm0 {S:Sto}{n:Nat}:∀ a b:List (Nat×Nat×Int),eqL (eqN S (n+2)) (a.map trD) (b.map trD)=some (decide (a=b))
 | [],[]=>rfl
 | [],_::_=>rfl
 | _::_,[]=>rfl
 | x::a,y::b=>by
  rw [mP1,mP1,eqL,qrN,qm0 a b];show some (decide (x=y)&&decide (a=b))=_
  congr 1
  rw [Bool.eq_iff_iff];simp
theorem qqV {S:Sto}{a b:List (Nat×Nat×Int)}:gNe (.tup (a.map trD)) (.tup (b.map trD)) S=some (.bl (!decide (a=b)),S):=by
 unfold gNe qav;have:eqN S 60 (.tup (a.map trD)) (.tup (b.map trD))=some (decide (a=b)):=qm0 (n:=57) a b;rw [this];rfl
theorem WebJ.inn {m:Nat}{w:qab}(hw:WebJ m w):Web.inn w:=fun a b p c=>by
 obtain ⟨r,h⟩:=List.getElem?_of_mem b;obtain ⟨d,h'⟩:=List.getElem?_of_mem c;rw [hw.len];exact hw.to r d p ⟨a,h,h'⟩
theorem qdU {m a b:Nat}{w:qab}{sg:List Int}{ws:List Int}{S:Sto}{Q:D×Sto->Prop}(hw:WebJ m w)(hs:sg.length=m)(ha:a<m)(hb:b<m)(c:ws.length<=1000)
  (q:Q (.bl (!decide (qa1 w sg a ws=qa1 w sg b ws)),S)):W (qaf 5 qaz [webD w,sgT sg,.int a,.int b,.tup (ws.map D.int)] S) Q:=by
 refine qdQ rfl (by rw [D.unds,qbk,D.unds,D.und,qaw,D.unds,D.und,D.unds,D.und,D.unds,D.und,qaw];rfl) ?_;unfold qaz;refine fnW ?_;unfold qcR;walk_at "own wq";refine qht hw.inn (hs.trans hw.len.symm) (by rw [hw.len];exact ha) c ?_;refine qht hw.inn (hs.trans hw.len.symm) (by rw [hw.len];exact hb) c ?_;dsimp only;rw [qe5,qe5,qqV,qag];exact ⟨rfl,q⟩
theorem qk8 {w:qab}{sg:List Int}{a b:Nat}:qa1 w sg a []=qa1 w sg b []↔EB w sg 0 a b:=by
 unfold qa1;show [_]=[_]↔_;simp [EB]
theorem qgB {w:qab}{r d:Nat}:stp w r (d:Int)=(rowN w r)[d]?:=by
 unfold stp rowN;rw [if_pos (by lia),Int.toNat_natCast];cases w[r]? <;> rfl
theorem qmy {w:qab}{r d:Nat}{e:Nat×Nat}(h:(rowN w r)[d]? = some e):qaK w r [(d:Int)]=[e]:=by
 rw [qaK,qgB,h];rfl
theorem qny {w:qab}{sg:List Int}{a b d:Nat}{e c:Nat×Nat}(f:EB w sg 0 a b)(h1:(rowN w a)[d]? = some e)(h2:(rowN w b)[d]? = some c):qa1 w sg a [(d:Int)]=qa1 w sg b [(d:Int)]↔e.2=c.2/\EB w sg 0 e.1 c.1:=by
 unfold qa1;rw [qmy h1,qmy h2];simp [EB,f.1,f.2]
noncomputable abbrev En:=List Nat×Nat×Nat
theorem qdh {m a b d:Nat}{w:qab}{sg:List Int}{e c:Nat×Nat}(hw:WebJ m w)(h1:0<m)(hm:m<=8)(ha:a<m)(hb:b<m)(f:EB w sg 0 a b)(g:(rowN w a)[d]? = some e)(p2:(rowN w b)[d]? = some c):
  far w sg a b<=(if e.2=c.2 then 1+far w sg e.1 c.1 else 1):=by
 have h:phi w sg (far w sg) a b<=(if e.2=c.2 then 1+far w sg e.1 c.1 else 1):=by
  unfold phi;rw [if_pos f,qgY];exact .inr ⟨_,qc3.mpr ⟨d,e,c,g,p2,rfl⟩,nR1 _⟩
 rw [qhg hw h1 hm ha hb] at h;exact h
theorem qhh {m a b:Nat}{w:qab}{sg:List Int}(hw:WebJ m w)(h1:0<m)(hm:m<=8)(ha:a<m)(hb:b<m):far w sg a b=0 ↔ ¬ EB w sg 0 a b:=by
 rw [<- qhZ hw h1 hm ha hb (by decide)];lia
theorem qpz {m a b d:Nat}{w:qab}{sg:List Int}{e c:Nat×Nat}(hw:WebJ m w)(h1:0<m)(hm:m<=8)(g:EB w sg 0 a b)(f:(rowN w a)[d]? = some e)(p2:(rowN w b)[d]? = some c):
  qa1 w sg a [(d:Int)]≠qa1 w sg b [(d:Int)]↔(if e.2=c.2 then 1+far w sg e.1 c.1 else 1)=1:=by
 rw [Ne,qny g f p2];split
 ·rename_i h;rw [show (1+far w sg e.1 c.1=1)↔far w sg e.1 c.1=0 by lia,qhh hw h1 hm (qcJ hw f) (qcJ hw p2)];simp [h]
 ·rename_i h;simp [h]
structure QB (m:Nat)(w:qab)(sg:List Int)(N t:Nat)(L:List En):Prop where
 inr:∀ e∈L,e.2.1<m/\e.2.2<m/\EB w sg 0 e.2.1 e.2.2
 far:∀ e∈L,N<=e.1.length+far w sg e.2.1 e.2.2
 nd:(L.map (·.2)).Nodup
 up:L.Pairwise fun e f=>e.1.length<=f.1.length
 le:∀ e∈L,e.1.length<=t+1
theorem QB.push {m N t:Nat}{w:qab}{sg:List Int}{L:List En}{e:En}(h:QB m w sg N t L)(h1:e.2.1<m)(h2:e.2.2<m)(g:EB w sg 0 e.2.1 e.2.2)(j:N<=e.1.length+Law.far w sg e.2.1 e.2.2)(i:e.2∉L.map (·.2))(d:e.1.length=t+1):QB m w sg N t (L++[e]):=by
 refine ⟨fun f a=>?_,fun f a=>?_,?_,?_,fun f a=>?_⟩
 ·rcases List.mem_append.mp a with z | z
  ·exact h.inr f z
  ·rw [List.mem_singleton.mp z];exact ⟨h1,h2,g⟩
 ·rcases List.mem_append.mp a with z | z
  ·exact h.far f z
  ·rw [List.mem_singleton.mp z];exact j
 ·rw [List.map_append,List.nodup_append];refine ⟨h.nd,by simp,fun x c y b=>?_⟩;rw [mP1,List.map_nil,List.mem_singleton] at b;rintro rfl;exact i (b ▸ c)
 ·rw [List.pairwise_append];refine ⟨h.up,by simp,fun x c y b=>?_⟩;rw [List.mem_singleton.mp b,d];exact h.le x c
 ·rcases List.mem_append.mp a with z | z
  ·exact h.le f z
  ·rw [List.mem_singleton.mp z,d];exact nR1 _
structure QJ (w:qab)(sg:List Int)(N:Nat)(A:List Nat)(k:Nat)(L:List En)(j:Nat)(e:En):Prop where
 ge:k<=j
 at_:L[j]? = some e
 on:e.1.length+far w sg e.2.1 e.2.2=N
 ans:e.1++wk w (far w sg) (far w sg e.2.1 e.2.2) e.2.1 e.2.2=A
 bef:∀ i f,i<j->L[i]? = some f->f.1.length+far w sg f.2.1 f.2.2=N->f.1.length<e.1.length
 all:∀ f∈L,f.1.length+far w sg f.2.1 f.2.2=N->f.1.length<=e.1.length
theorem QJ.push {w:qab}{sg:List Int}{N k j:Nat}{A:List Nat}{L:List En}{e f:En}(h:QJ w sg N A k L j e)(hf:f.1.length+far w sg f.2.1 f.2.2=N->f.1.length<=e.1.length):QJ w sg N A k (L++[f]) j e:=by
 have b:=(gE1.mp h.at_).1;refine ⟨h.ge,by rw [gL1 b];exact h.at_,h.on,h.ans,fun i g hi a=>h.bef i g hi (by rw [gL1 (by lia)] at a;exact a),fun g a=>?_⟩;rcases List.mem_append.mp a with z | z
 ·exact h.all g z
 ·rw [List.mem_singleton.mp z];exact hf
noncomputable def dst (w:qab)(sg:List Int)(x y:Nat):Nat:=(dsp w (far w sg) x y).findIdx (· == far w sg x y)
noncomputable def PD (w:qab)(sg:List Int)(N:Nat)(A:List Nat)(k:Nat)(c:En)(i:Nat)(L:List En):Prop:=(∃ j e,QJ w sg N A (k+1) L j e)\/(QJ w sg N A k L k c/\i<=dst w sg c.2.1 c.2.2)
theorem qm3 {w:qab}{sg:List Int}{x y d s:Nat}(h:(dsp w (far w sg) x y)[d]? = some s)(e:s=far w sg x y):dst w sg x y<=d:=by
 unfold dst;refine Nat.le_of_not_lt fun z=>?_;have:=List.not_of_lt_findIdx z;have a:=(gE1.mp h);obtain ⟨h1,h2⟩:=a;rw [h2] at this;simp [e] at this
theorem qkv {w:qab}{f:Nat->Nat->Nat}{x y d:Nat}{e a:Nat×Nat}(b:(rowN w x)[d]? = some e)(p2:(rowN w y)[d]? = some a):(dsp w f x y)[d]? = some (if e.2=a.2 then 1+f e.1 a.1 else 1):=by
 have:((rowN w x).zip (rowN w y))[d]? = some (e,a):=List.getElem?_zip_eq_some.mpr ⟨b,p2⟩;unfold dsp;rw [gP1,this];rfl
theorem qqw {m k N t d:Nat}{w:qab}{sg:List Int}{A wl:List Nat}{x y:Nat}{L:List En}{e F:Nat×Nat}(hw:WebJ m w)(h1:0<m)(hm:m<=8)(q:QB m w sg N t L)(hc:L[k]? = some (wl,x,y))(ht:wl.length=t)(p:PD w sg N A k (wl,x,y) d L)(i:(rowN w x)[d]? = some e)(p2:(rowN w y)[d]? = some F)
  (s:qa1 w sg x [(d:Int)]≠qa1 w sg y [(d:Int)]):A=wl++[d]:=by
 obtain ⟨l,g,c⟩:=q.inr _ (gM1 hc);have n:=(qpz hw h1 hm c i p2).mp s;have o:=qdh hw h1 hm l g c i p2;dsimp only at l g c;have H:far w sg x y≠0:=fun z=>(qhh hw h1 hm l g).mp z c;have a:far w sg x y=1:=by rw [n] at o;dsimp only at o;lia
 have v:=q.far _ (gM1 hc);dsimp only at v;have hd:(dsp w (far w sg) x y)[d]? = some (far w sg x y):=by
  rw [qkv i p2,n,a]
 rcases p with ⟨j,f,J⟩ | ⟨J,hi⟩
 ·have I:=J.ge;have h:=(gE1.mp J.at_);obtain ⟨r,G,B⟩:=q.inr f (gM1 J.at_);have:far w sg f.2.1 f.2.2≠0:=fun z=>(qhh hw h1 hm r G).mp z B;have u:=J.on;have E:wl.length<=f.1.length:=by
   obtain ⟨C,D⟩:=gE1.mp hc;obtain ⟨b1,b2⟩:=h;have:=List.pairwise_iff_getElem.mp q.up k j C b1 (by lia);rw [D,b2] at this;exact this
  have:=J.bef k (wl,x,y) (by lia) hc (by dsimp only;lia);dsimp only at this;lia
 ·have:=qm3 hd rfl;have b:dst w sg x y=d:=by dsimp only at hi;lia
  have:=J.ans;dsimp only at this;rw [a] at this;rw [<- this,wk];unfold dst at b;rw [a] at b;rw [show (0:Nat)+1=1 from rfl,b]
  congr 2
  split<;>rfl
theorem qpy {m N t i j:Nat}{w:qab}{sg:List Int}{L:List En}{e f:En}(q:QB m w sg N t L)(a:i<j)(hi:L[i]? = some e)(c:L[j]? = some f):e.1.length<=f.1.length:=by
 obtain ⟨d,b⟩:=gE1.mp hi;obtain ⟨b1,b2⟩:=gE1.mp c;have:=List.pairwise_iff_getElem.mp q.up i j d b1 a;rw [b,b2] at this;exact this
theorem qqx {m k N t d:Nat}{w:qab}{sg:List Int}{A wl:List Nat}{x y:Nat}{L:List En}{e a:Nat×Nat}(q:QB m w sg N t L)(ht:wl.length=t)(p:PD w sg N A k (wl,x,y) d L)(l:(rowN w x)[d]? = some e)(p2:(rowN w y)[d]? = some a)(hb:e.2=a.2)
  (hk:(e.1,a.1)∈L.map (·.2)) (hx:far w sg x y<99) (hd:dst w sg x y=d->far w sg x y=1+far w sg e.1 a.1):PD w sg N A k (wl,x,y) (d+1) L:=by
 rcases p with h | ⟨J,hi⟩
 ·exact .inl h
 ·refine .inr ⟨J,Nat.lt_of_le_of_ne hi fun z=>?_⟩;have j:=hd z.symm;obtain ⟨g,b,i⟩:=List.mem_map.mp hk;have h1:=q.far g b;have h2:=q.le g b;have c:=J.on;have f:=J.all g b;rw [i] at h1 f;dsimp only at h1 f c;lia
theorem qqy {m k N t d:Nat}{w:qab}{sg:List Int}{A wl:List Nat}{x y:Nat}{L:List En}{e e':Nat×Nat}(hw:WebJ m w)(h1:0<m)(hm:m<=8)(q:QB m w sg N t L)(hc:L[k]? = some (wl,x,y))(ht:wl.length=t)(p:PD w sg N A k (wl,x,y) d L)(l:(rowN w x)[d]? = some e)(p2:(rowN w y)[d]? = some e')(hb:e.2=e'.2)
  (G:N<99) (hd:dst w sg x y=d->far w sg x y<99->far w sg x y=1+far w sg e.1 e'.1):PD w sg N A k (wl,x,y) (d+1) (L++[(wl++[d],e.1,e'.1)]):=by
 obtain ⟨s,u,v⟩:=q.inr _ (gM1 hc);dsimp only at s u v;have D:=qdh hw h1 hm s u v l p2;rw [if_pos hb] at D;have C:=q.far _ (gM1 hc);dsimp only at C;have n:=(gE1.mp hc).1;have a:(wl++[d]).length=t+1:=by rw [lA1,ht];rfl
 rcases p with ⟨j,f,J⟩ | ⟨J,hi⟩
 ·refine .inl ⟨j,f,J.push fun on=>?_⟩;dsimp only at on ⊢;rw [a] at on ⊢;have H:=J.ge;have h:=qpy q (show k<j by lia) hc J.at_;dsimp only at h;rcases Nat.lt_or_ge t f.1.length with z | z
  ·exact z
  ·have:=J.bef k (wl,x,y) (by lia) hc (by dsimp only;lia);dsimp only at this;lia
 ·have o:=J.on;dsimp only at o hi;by_cases z:dst w sg x y=d
  ·have F:=hd z (by lia);refine .inl ⟨L.length,(wl++[d],e.1,e'.1),n,?_,?_,?_,fun i g r c on=>?_,fun g c on=>?_⟩
   ·rw [gR1 (nR1 _),Nat.sub_self];rfl
   ·dsimp only;rw [a];lia
   ·dsimp only;have:=J.ans;dsimp only at this;rw [<- this,show far w sg x y=far w sg e.1 e'.1+1 by lia,wk,List.append_assoc];unfold dst at z;rw [show far w sg x y=far w sg e.1 e'.1+1 by lia] at z;have E:dr w x d=e:=by unfold dr;rw [List.getD_eq_getElem?_getD,l];rfl
    have B:dr w y d=e':=by unfold dr;rw [List.getD_eq_getElem?_getD,p2];rfl
    rw [z,E,B,if_pos hb];rfl
   ·rw [gL1 r] at c;have:=J.all g (gM1 c) on;dsimp only at this ⊢;rw [a];lia
   ·dsimp only;rw [a];rcases List.mem_append.mp c with b | b
    ·have:=J.all g b on;dsimp only at this;lia
    ·rw [List.mem_singleton.mp b];dsimp only;rw [a];exact nR1 _
  ·refine .inr ⟨J.push fun on=>?_,Nat.lt_of_le_of_ne hi fun b=>z b.symm⟩;exfalso;dsimp only at on;rw [a] at on;have:=qm3 (sg:=sg) (qkv l p2) (by rw [if_pos hb];lia);lia
theorem qm2 {m x y:Nat}{w:qab}{sg:List Int}(hw:WebJ m w)(h1:0<m)(hm:m<=8)(hx:x<m)(hy:y<m)(g:EB w sg 0 x y)(j:far w sg x y<99):dst w sg x y<(rowN w x).length /\ ∀ e a,(rowN w x)[dst w sg x y]? = some e->(rowN w y)[dst w sg x y]? = some a->e.2=a.2->far w sg x y=1+far w sg e.1 a.1:=by
 have k:far w sg x y≠0:=fun z=>(qhh hw h1 hm hx hy).mp z g;obtain ⟨n,b⟩:∃ n,far w sg x y=n+1:=⟨far w sg x y-1,by lia⟩;obtain ⟨h,l⟩:=qd1 hw h1 hm hx hy (by lia) b;have hi:=qhV h;have hd:dst w sg x y=(dsp w (far w sg) x y).findIdx (· == n+1):=by unfold dst;rw [b]
 rw [<- hd] at hi;have d:=(gE1.mp hi).1;rw [qfu] at d;refine ⟨by lia,fun e a c p2 i=>?_⟩;have:=qkv (f:=far w sg) c p2;rw [hi,if_pos i] at this;have:=Option.some.inj this;lia
theorem qqz {m k N:Nat}{w:qab}{sg:List Int}{A:List Nat}{c:En}{L:List En}(hw:WebJ m w)(h1:0<m)(hm:m<=8)(hx:c.2.1<m)(hy:c.2.2<m)(b:EB w sg 0 c.2.1 c.2.2)(d:N<99)(p:PD w sg N A k c (rowN w c.2.1).length L):∃ j e,QJ w sg N A (k+1) L j e:=by
 rcases p with h | ⟨J,hi⟩
 ·exact h
 ·have a:=J.on;have:=(qm2 hw h1 hm hx hy b (by lia)).1;lia
theorem qly {w:qab}{sg:List Int}{N k j:Nat}{A:List Nat}{L:List En}{e c:En}(h:QJ w sg N A k L j e)(hc:L[k]? = some c):PD w sg N A k c 0 L:=by
 rcases Nat.lt_or_eq_of_le h.ge with z | z
 ·exact .inl ⟨j,e,z,h.at_,h.on,h.ans,h.bef,h.all⟩
 ·subst z;have:=h.at_;rw [hc] at this;cases this;exact .inr ⟨h,Nat.zero_le _⟩
theorem qlg {m a b:Nat}{w:qab}{sg:List Int}(ha:a<m)(hb:b<m)(d:EB w sg 0 a b):QB m w sg (far w sg a b) 0 [([],a,b)]:=by
 refine ⟨fun e c=>?_,fun e c=>?_,by simp,by simp,fun e c=>?_⟩<;>rw [List.mem_singleton.mp c]
 ·exact ⟨ha,hb,d⟩
 ·dsimp only;lia
 ·exact Nat.zero_le _
theorem qlf {a b:Nat}{w:qab}{sg:List Int}:QJ w sg (far w sg a b) (wk w (far w sg) (far w sg a b) a b) 0 [([],a,b)] 0 ([],a,b):=by
 refine ⟨nR1 _,rfl,by dsimp only;simp,rfl,fun i f hi=>absurd hi (Nat.not_lt_zero _),fun f c _=>?_⟩;rw [List.mem_singleton.mp c];exact nR1 _
theorem qjw {m N t:Nat}{w:qab}{sg:List Int}{L:List En}(hm:m<=8)(q:QB m w sg N t L):L.length<=64:=by
 have:=few2 (A:=m) (B:=m) q.nd fun x b=>by
  obtain ⟨e,a,rfl⟩:=List.mem_map.mp b;exact ⟨(q.inr e a).1,(q.inr e a).2.1⟩
 rw [lM1] at this;exact Nat.le_trans this (Nat.mul_le_mul hm hm)
theorem QB.step {m N t t' k:Nat}{w:qab}{sg:List Int}{L:List En}{c:En}(q:QB m w sg N t L)(h:t<=t'):QB m w sg N t' L:=⟨q.inr,q.far,q.nd,q.up,fun e a=>Nat.le_trans (q.le e a) (by lia)⟩
noncomputable def enD (e:En):D:=.tup [.tup (nmD e.1),.int e.2.1,.int e.2.2]
noncomputable abbrev qS (L:List En):Sto:=[.lst (L.map enD),.tst (L.map fun e=>tkP e.2)]
noncomputable abbrev evP (w:qab)(sg:List Int)(a b:Nat)(k:Nat)(x7 x8 x9 x10 x11:Option D):Ev:=[some (webD w),some (sgT sg),some (.int (a:Nat)),some (.int (b:Nat)),some (.ref 0),some (.ref 1),some (.int (k:Nat)),x7,x8,x9,x10,x11]
theorem qjc {L:List En}{p:Nat×Nat}:tkP p∈(L.map fun e=>tkP e.2)↔p∈L.map (·.2):=by
 rw [List.mem_map,List.mem_map];constructor
 ·rintro ⟨e,a,h⟩;exact ⟨e,a,qdn h⟩
 ·rintro ⟨e,a,h⟩;exact ⟨e,a,by rw [h]⟩
theorem qjH {m a b k d:Nat}{w:qab}{sg:List Int}{c:En}{L:List En}{x11:Option D}{e e':Nat×Nat}(hw:WebJ m w)(hs:sg.length=m)(hx:c.2.1<m)(hy:c.2.2<m)(y:EB w sg 0 c.2.1 c.2.2)(j:(rowN w c.2.1)[d]? = some e)(p2:(rowN w c.2.2)[d]? = some e')(x:L.length<=64)(hc:c.1.length<=64):
  W (qbZ (evP w sg a b k (some (.tup (nmD c.1))) (some (.int (c.2.1:Nat))) (some (.int (c.2.2:Nat))) (some (.int (d:Nat))) x11) (qS L)) fun p=>
   if qa1 w sg c.2.1 [(d:Int)]=qa1 w sg c.2.2 [(d:Int)] then p.1 = .nx/\(∃ x11,p.2.1=evP w sg a b k (some (.tup (nmD c.1))) (some (.int (c.2.1:Nat))) (some (.int (c.2.2:Nat))) (some (.int (d:Nat))) x11)/\p.2.2=qS (if (e.1,e'.1)∈L.map (·.2) then L else L++[(c.1++[d],e.1,e'.1)])
   else p.1 = .rt (.tup (nmD (c.1++[d]))):=by
 unfold qbZ;walk_at "own wq";refine qdU (ws:=[(d:Int)]) hw hs hx hy (by simp) ?_;walk_at "own wq";have g:nmD c.1++[D.int (d:Nat)]=nmD (c.1++[d]):=by unfold nmD;rw [List.map_append];rfl
 by_cases f:qa1 w sg c.2.1 [(d:Int)]=qa1 w sg c.2.2 [(d:Int)]
 ·rw [if_neg (by simp [f])];have o:dr w c.2.1 d=e:=by unfold dr;rw [List.getD_eq_getElem?_getD,j];rfl
  have l:dr w c.2.2 d=e':=by unfold dr;rw [List.getD_eq_getElem?_getD,p2];rfl
  have t:=ixr hw (S:=qS L) hx;have v:=ixr hw (S:=qS L) hy;have q:=qhE (m:=m) (S:=qS L) (o.symm ▸ j);have n:=qhE (m:=m) (S:=qS L) (l.symm ▸ p2);rw [o] at q;rw [l] at n;have r:∀ p:Nat×Nat,gIxY (pD p) (.int 0) (qS L)=some (.int (p.1:Nat),qS L):=fun p=>ix_tup (i:=0) rfl;simp only [t,v,q,n,r,qag];refine qmk (ks:=L.map fun e=>tkP e.2) rfl (qaU (e:=(e.1,e'.1))) ?_;simp only [qag];by_cases h:(e.1,e'.1)∈L.map (·.2)
  ·rw [if_neg (by simp [qjc.mpr h]),if_pos f,if_pos h];exact ⟨⟨_,rfl⟩,rfl⟩
  ·rw [if_pos (by simpa using fun z=>h (qjc.mp z))];refine qtu ?_;walk_at "own wq";refine ⟨1,_,rfl,rfl,?_⟩;refine qps rfl (qaU (e:=(e.1,e'.1))) (by rw [lM1];lia) ?_;rw [qli fun z=>h (qjc.mp z)];have s:∀ S:Sto,gIxY (.tup [.int (e.1:Nat),.int (e'.1:Nat)]) (.int 0) S=some (.int (e.1:Nat),S):=fun S=>ix_tup (i:=0) rfl;have u:∀ S:Sto,gIxY (.tup [.int (e.1:Nat),.int (e'.1:Nat)]) (.int 1) S=some (.int (e'.1:Nat),S):=fun S=>ix_tup (i:=1) rfl;refine qdz ?_;walk_at "own wq";refine ⟨0,_,rfl,rfl,qaj (by unfold nmD;rw [lM1];lia),?_⟩;simp only [s,u,qag];refine (qfC (xs:=L.map enD) rfl).mpr ⟨qaj (by rw [lM1];lia),?_⟩;rw [if_pos f,if_neg h];refine ⟨⟨_,rfl⟩,?_⟩;rw [g];unfold qS;rw [List.map_append,List.map_append];rfl
 ·rw [if_pos (by simp [f])];refine ⟨qaj (by unfold nmD;rw [lM1];lia),?_⟩;rw [if_neg f,g]
theorem qlW {c:List (Nat×List D)}{g:FG}{b:FS}{Q:Fl×Ev×Sto->Prop}(I:Nat->Ev->Sto->Prop):∀ (items:List D) (k:Nat) (r:Ev) (S:Sto),I k r S ->
  (∀ i r S,I i r S->okC S c=true) ->
  (∀ i d,items[i]? = some d -> ∀ r S,I (k+i) r S->W (g d r S) fun p=>W (b p.1 p.2) fun q=>(q.1 = .nx/\I (k+i+1) q.2.1 q.2.2) \/ ∃ v,q.1 = .rt v/\Q (.rt v,q.2)) ->
  (∀ r S,I (k+items.length) r S->Q (.nx,r,S))->W (qcE c g b items r S) Q:=by
 intro items
 induction items with
 | nil=>intro k r S hi a _ j;rw [qcE];dsimp only;rw [if_pos (a _ _ _ hi),qag];exact j r S (by simpa using hi)
 | cons d ds ih=>
  intro k r S hi a l j;rw [qcE];dsimp only;rw [if_pos (a _ _ _ hi),qah];obtain ⟨p,m,⟨f,s,t⟩,n,h⟩:=l 0 d rfl r S (by simpa using hi);refine ⟨p,m,?_⟩;dsimp only;rw [qah];refine ⟨_,n,?_⟩;dsimp only at h ⊢;rcases h with ⟨rfl,e⟩ | ⟨v,rfl,o⟩
  ·exact ih (k+1) s t e a (fun i d hd r S e=>by
    have:=l (i+1) d hd r S (by rw [show k+(i+1)=k+1+i by lia];exact e);rw [show k+(i+1)+1=k+1+i+1 by lia] at this;exact this) fun r S e=>j r S (by rw [lC1,show k+(ds.length+1)=k+1+ds.length by lia];exact e)
  ·exact qag.mpr o
theorem qsA {a b:FS}{r:Ev}{S:Sto}{Q:Fl×Ev×Sto->Prop}(h:W (a r S) fun p=>(p.1 = .nx/\W (b p.2.1 p.2.2) Q) \/ ∃ v,p.1 = .rt v/\Q (.rt v,p.2)):W (mSeq a b r S) Q:=by
 obtain ⟨⟨f,c,d⟩,e,h⟩:=h;unfold mSeq;rw [e];dsimp only at h;rcases h with ⟨rfl,h⟩ | ⟨v,rfl,h⟩
 ·exact h
 ·exact qag.mpr h
inductive DQ (m:Nat)(w:qab)(sg:List Int)(N:Nat)(A:List Nat)(a b k:Nat)(c:En)(i:Nat):Ev->Sto->Prop
 | mk (L:List En) (x10 x11:Option D):QB m w sg N c.1.length L->L[k]? = some c->PD w sg N A k c i L->DQ m w sg N A a b k c i (evP w sg a b k (some (.tup (nmD c.1))) (some (.int (c.2.1:Nat))) (some (.int (c.2.2:Nat))) x10 x11) (qS L)
theorem qlx {m a b k N:Nat}{w:qab}{sg:List Int}{A:List Nat}{c:En}{r:Ev}{S:Sto}{Q:Fl×Ev×Sto->Prop}(hw:WebJ m w)(h1:0<m)(hm:m<=8)(hs:sg.length=m)(H:N<99)(hc:c.1.length<=64)
  (h:DQ m w sg N A a b k c 0 r S) (K:∀ r S,DQ m w sg N A a b k c (rowN w c.2.1).length r S->Q (.nx,r,S)) (I:∀ r S,Q (.rt (.tup (nmD A)),r,S)):
  W (qcE [] (gN 10) qbZ (nums 0 (rowN w c.2.1).length) r S) Q:=by
 refine qlW (DQ m w sg N A a b k c) _ 0 _ _ h (fun _ _ _ _=>rfl) ?_ ?_
 ·rintro d v G r S ⟨L,P,D,g,j,x⟩;rw [Nat.zero_add] at *
  obtain ⟨hd,rfl⟩:=qbv _ _ _ _ G;rw [Int.zero_add];obtain ⟨B,u,n⟩:=g.inr c (gM1 j);have f:=gG1 hd;have s:d<(rowN w c.2.2).length:=by rw [<- n.1];exact hd
  have p2:=gG1 s;walk_at "own wq";refine (qjH (a:=a) (b:=b) (k:=k) (x11:=D) hw hs B u n f p2 (qjw hm g) hc).mono ?_;rintro ⟨fl,T,R⟩ h;dsimp only at h ⊢;split at h
  ·rename_i t;obtain ⟨rfl,⟨E,rfl⟩,rfl⟩:=h;refine .inl ⟨rfl,?_⟩;obtain ⟨p,q⟩:=(qny n f p2).mp t;have l:dst w sg c.2.1 c.2.2=d->far w sg c.2.1 c.2.2<99->far w sg c.2.1 c.2.2=1+far w sg ((rowN w c.2.1)[d]).1 ((rowN w c.2.2)[d]).1:=fun z y=>by
    subst z;exact (qm2 hw h1 hm B u n y).2 _ _ f p2 p
   split
   ·rename_i i;refine .mk L _ _ g j ?_;rcases x with h | ⟨J,hi⟩
    ·exact .inl h
    ·have o:far w sg c.2.1 c.2.2<99:=by have:=J.on;lia
     exact qqx (wl:=c.1) g rfl (.inr ⟨J,hi⟩) f p2 p i o fun z=>l z o
   ·rename_i i;have M:=g.far c (gM1 j);have C:=qdh hw h1 hm B u n f p2;rw [if_pos p] at C;have O:=qcJ hw f;have r2:=qcJ hw p2;refine .mk _ _ _ (g.push (e:=(c.1++[d],((rowN w c.2.1)[d]).1,((rowN w c.2.2)[d]).1)) O r2 q (by rw [lA1];simp only [lC1,List.length_nil];lia) i (by rw [lA1];rfl)) (by rw [gL1 (gE1.mp j).1];exact j) ?_;exact qqy (wl:=c.1) hw h1 hm g j rfl x f p2 p H l
  ·rename_i t;subst h;have:=qqw hw h1 hm g j rfl x f p2 t;refine .inr ⟨_,rfl,?_⟩;rw [<- this];exact I _ _
 ·intro r S F;rw [Nat.zero_add,qay] at F;exact K r S F
theorem qqm {m a b k N j:Nat}{w:qab}{sg:List Int}{A:List Nat}{c e:En}{L:List En}{l h q d x11:Option D}(hw:WebJ m w)(h1:0<m)(hm:m<=8)(hs:sg.length=m)(t:N<99)(hc:c.1.length<=64)(hk:k<2^40)
  (s:QB m w sg N c.1.length L) (hk:L[k]? = some c) (y:QJ w sg N A k L j e):
  W (qbe (evP w sg a b k l h q d x11) (qS L)) fun p=>(p.1 = .nx /\ ∃ f l h q d x11,p.2=(evP w sg a b (k+1) l h q d x11,qS f)/\QB m w sg N c.1.length f/\f[k]? = some c /\ ∃ j e,QJ w sg N A (k+1) f j e)\/p.1 = .rt (.tup (nmD A)):=by
 obtain ⟨u,x,B⟩:=s.inr c (gM1 hk);unfold qbe;refine seqW (fun r V=>V=qS L/\r=evP w sg a b k (some (.tup (nmD c.1))) (some (.int (c.2.1:Nat))) (some (.int (c.2.2:Nat))) d x11) ?_ ?_
 ·walk_at "own wq";refine qiM (i:=k) (xs:=L.map enD) rfl (by rw [gP1,hk];rfl) ?_;unfold enD;walk_at "own wq"
  try exact ⟨rfl,rfl⟩
 rintro r V ⟨rfl,rfl⟩;refine qsA ?_;unfold mFor;rw [qah,qiO];walk_at "own wq";rw [ixr hw u,qag];dsimp only;rw [len_tup,qag,lM1];refine ⟨qaW (by have:=qea hw c.2.1;lia),?_⟩;rw [Int.toNat_natCast];refine qlx (N:=N) (A:=A) hw h1 hm hs t hc (.mk L d x11 s hk (qly y hk)) ?_ ?_
 ·rintro r S ⟨f,z,v,o,g,n⟩;refine .inl ⟨rfl,?_⟩;unfold mAug;walk_at "own wq";refine W.of rfl (.inl ⟨f,_,_,_,_,_,rfl,o,g,qqz hw h1 hm u x B t n⟩)
 ·intro r S;exact .inr ⟨_,rfl,.inr rfl⟩
theorem qqj {m a b N:Nat}{w:qab}{sg:List Int}{A:List Nat}(hw:WebJ m w)(h1:0<m)(hm:m<=8)(hs:sg.length=m)(x:N<99):∀ (d k t:Nat) (L:List En) (v n u f x11:Option D) (j:Nat) (e:En),64<d+k->t<=k->QB m w sg N t L->QJ w sg N A k L j e->(∀ c,L[k]? = some c->t<=c.1.length) ->
  W (whl qbY qbe d (evP w sg a b k v n u f x11) (qS L)) fun p=>p.1 = .rt (.tup (nmD A))
 | 0,k,t,L,v,n,u,f,x11,j,e,hf,ht,qb,qj,hc=>by
  have:=(gE1.mp qj.at_).1;have:=qj.ge;have:=qjw hm qb;lia
 | d+1,k,t,L,v,n,u,f,x11,j,e,hf,ht,qb,qj,hc=>by
  have K:=(gE1.mp qj.at_).1;have M:=qj.ge;have P:=qjw hm qb;have i:L[k]? = some (L[k]'(by lia)):=gG1 (by lia);generalize L[k]'(by lia)=c at i;have q:=hc c i;have z:=qb.le c (gM1 i);unfold whl;rw [qah];unfold qbY;walk_at "own wq";refine qax (xs:=L.map enD) rfl ?_;dsimp only;rw [lM1];rw [if_pos (by rw [decide_eq_true_eq];lia)];refine (qqm (a:=a) (b:=b) (k:=k) hw h1 hm hs x (by lia) (by lia) (qb.step (k:=k) (c:=c) q) i qj).mono ?_;rintro ⟨fl,r,S⟩ h;dsimp only at h ⊢;rcases h with ⟨rfl,F,O,J,I,B,E,y,g,s,C,G,o⟩ | rfl
  ·obtain ⟨rfl,rfl⟩:=Prod.mk.inj y;exact qqj hw h1 hm hs x d (k+1) c.1.length F _ _ _ _ _ C G (by lia) (by lia) g o fun H l=>qpy g (Nat.lt_succ_self k) s l
  ·exact qag.mpr rfl
theorem qrL {w:qab}{sg:List Int}{a b:Nat}(h:¬ far w sg a b<99):far w sg a b=99:=by
 rcases qpN (w:=w) (sg:=sg) 8 a b with z | z
 ·exact absurd (show far w sg a b<99 from Nat.lt_of_le_of_lt z (by decide)) h
 ·exact z
structure QZ (m:Nat)(w:qab)(sg:List Int)(L:List En):Prop where
 inr:∀ e∈L,e.2.1<m/\e.2.2<m/\EB w sg 0 e.2.1 e.2.2/\far w sg e.2.1 e.2.2=99
 nd:(L.map (·.2)).Nodup
 le:∀ (i:Nat) (e:En),L[i]? = some e->e.1.length<=i
theorem qjv {m:Nat}{w:qab}{sg:List Int}{L:List En}(hm:m<=8)(q:QZ m w sg L):L.length<=64:=by
 have:=few2 (A:=m) (B:=m) q.nd fun x b=>by
  obtain ⟨e,a,rfl⟩:=List.mem_map.mp b;exact ⟨(q.inr e a).1,(q.inr e a).2.1⟩
 rw [lM1] at this;exact Nat.le_trans this (Nat.mul_le_mul hm hm)
theorem QZ.push {m:Nat}{w:qab}{sg:List Int}{L:List En}{e:En}(h:QZ m w sg L)(h1:e.2.1<m)(h2:e.2.2<m)(c:EB w sg 0 e.2.1 e.2.2)(g:far w sg e.2.1 e.2.2=99)(d:e.2∉L.map (·.2))(k:e.1.length<=L.length):QZ m w sg (L++[e]):=by
 refine ⟨fun f a=>?_,?_,fun i f a=>?_⟩
 ·rcases List.mem_append.mp a with z | z
  ·exact h.inr f z
  ·rw [List.mem_singleton.mp z];exact ⟨h1,h2,c,g⟩
 ·rw [List.map_append,List.nodup_append];refine ⟨h.nd,by simp,fun x j y b=>?_⟩;rw [mP1,List.map_nil,List.mem_singleton] at b;rintro rfl;exact d (b ▸ j)
 ·rcases Nat.lt_or_ge i L.length with z | z
  ·rw [gL1 z] at a;exact h.le i f a
  ·rw [gR1 z] at a;have:=gM1 a;rw [List.mem_singleton.mp this];lia
inductive DZ (m:Nat)(w:qab)(sg:List Int)(a b k:Nat)(c:En):Ev->Sto->Prop
 | mk (L:List En) (x10 x11:Option D):QZ m w sg L->L[k]? = some c->DZ m w sg a b k c (evP w sg a b k (some (.tup (nmD c.1))) (some (.int (c.2.1:Nat))) (some (.int (c.2.2:Nat))) x10 x11) (qS L)
theorem qkT {m a b k:Nat}{w:qab}{sg:List Int}{c:En}{r:Ev}{S:Sto}(hw:WebJ m w)(h1:0<m)(hm:m<=8)(hs:sg.length=m)(hc:c.1.length<=64)
  (h:DZ m w sg a b k c r S):W (qcE [] (gN 10) qbZ (nums 0 (rowN w c.2.1).length) r S) fun p=>p.1 = .nx/\DZ m w sg a b k c p.2.1 p.2.2:=by
 refine qaA (fun _=>DZ m w sg a b k c) _ 0 _ _ h (fun _ _ _ _=>rfl) ?_ ?_
 ·rintro d v D r S ⟨L,I,y,l,i⟩;obtain ⟨hd,rfl⟩:=qbv _ _ _ _ D;rw [Int.zero_add];obtain ⟨C,A,g,u⟩:=l.inr c (gM1 i);have j:=gG1 hd;have o:d<(rowN w c.2.2).length:=by rw [<- g.1];exact hd
  have p2:=gG1 o;walk_at "own wq";refine (qjH (a:=a) (b:=b) (k:=k) (x11:=y) hw hs C A g j p2 (qjv hm l) hc).mono ?_;rintro ⟨fl,K,J⟩ h;dsimp only at h ⊢;have f:=qdh hw h1 hm C A g j p2;rw [u] at f;split at h
  ·rename_i q;obtain ⟨rfl,⟨B,rfl⟩,rfl⟩:=h;refine ⟨rfl,?_⟩;obtain ⟨H,n⟩:=(qny g j p2).mp q;rw [if_pos H] at f;split
   ·exact .mk L _ _ l i
   ·rename_i s;have x:=(gE1.mp i).1;have E:=l.le k c i;have t:far w sg ((rowN w c.2.1)[d]).1 ((rowN w c.2.2)[d]).1=99:=by
     rcases qpN (w:=w) (sg:=sg) 8 ((rowN w c.2.1)[d]).1 ((rowN w c.2.2)[d]).1 with z | z
     ·have:far w sg ((rowN w c.2.1)[d]).1 ((rowN w c.2.2)[d]).1<=8+1:=z;lia
     ·exact z
    have F:=qcJ hw j;have r2:=qcJ hw p2;refine .mk _ _ _ (l.push (e:=(c.1++[d],((rowN w c.2.1)[d]).1,((rowN w c.2.2)[d]).1)) F r2 n t s ?_) (by rw [gL1 x];exact i);dsimp only;rw [lA1];simp only [lC1,List.length_nil];lia
  ·rename_i q;have:=(qpz hw h1 hm g j p2).mp q;rw [this] at f;lia
 ·rintro r S G;exact ⟨rfl,G⟩
theorem qpt {m a b:Nat}{w:qab}{sg:List Int}(hw:WebJ m w)(h1:0<m)(hm:m<=8)(hs:sg.length=m):∀ (e k:Nat) (L:List En) (n j l d x11:Option D),66<e+k->k<=L.length->QZ m w sg L ->
  W (whl qbY qbe e (evP w sg a b k n j l d x11) (qS L)) fun p=>p.1 = .nx
 | 0,k,L,n,j,l,d,x11,hf,ht,qb=>by
  have:=qjv hm qb;lia
 | e+1,k,L,n,j,l,d,x11,hf,ht,qb=>by
  have H:=qjv hm qb;unfold whl;rw [qah];unfold qbY;walk_at "own wq";refine qax (xs:=L.map enD) rfl ?_;dsimp only;rw [lM1];by_cases u:k<L.length
  ·rw [if_pos (by rw [decide_eq_true_eq];lia)];have o:L[k]? = some (L[k]):=gG1 u;generalize L[k]=c at o;obtain ⟨A,E,B,y⟩:=qb.inr c (gM1 o);have x:=qb.le k c o;have s:W (qbe (evP w sg a b k n j l d x11) (qS L)) fun p=>p.1 = .nx /\ ∃ h n j l d x11,p.2=(evP w sg a b (k+1) n j l d x11,qS h)/\QZ m w sg h/\h[k]? = some c:=by
    unfold qbe;refine seqW (fun r V=>V=qS L/\r=evP w sg a b k (some (.tup (nmD c.1))) (some (.int (c.2.1:Nat))) (some (.int (c.2.2:Nat))) d x11) ?_ ?_
    ·walk_at "own wq";refine qiM (i:=k) (xs:=L.map enD) rfl (by rw [gP1,o];rfl) ?_;unfold enD;walk_at "own wq"
     try exact ⟨rfl,rfl⟩
    rintro r V ⟨rfl,rfl⟩;refine seqW (DZ m w sg a b k c) ?_ ?_
    ·unfold mFor;rw [qah,qiO];walk_at "own wq";rw [ixr hw A,qag];dsimp only;rw [len_tup,qag,lM1];refine ⟨qaW (by have:=qea hw c.2.1;lia),?_⟩;rw [Int.toNat_natCast];exact qkT hw h1 hm hs (by lia) (.mk L d x11 qb o)
    rintro r S ⟨h,q,t,f,g⟩;unfold mAug;walk_at "own wq";exact W.of rfl ⟨h,_,_,_,_,_,rfl,f,g⟩
   refine s.mono ?_;rintro ⟨fl,r,S⟩ ⟨z,h,G,F,C,q,t,v,f,g⟩;dsimp only at z v ⊢;subst z;obtain ⟨rfl,rfl⟩:=Prod.mk.inj v;exact qpt hw h1 hm hs e (k+1) h _ _ _ _ _ (by lia) (by have:=(gE1.mp g).1;lia) f
  ·rw [if_neg (by rw [decide_eq_true_eq];lia)];trivial
noncomputable def ptd (w:qab)(sg:List Int)(a b:Nat):D:=
 haveI:=Classical.propDecidable
 if far w sg a b<99 then .tup (nmD (wk w (far w sg) (far w sg a b) a b)) else .non
theorem qlz {m a b:Nat}{w:qab}{sg:List Int}{S:Sto}{Q:D×Sto->Prop}(hw:WebJ m w)(h1:0<m)(hm:m<=8)(hs:sg.length=m)(ha:a<m)(hb:b<m)(q:Q (ptd w sg a b,S)):W (qaf 4 qcD [webD w,sgT sg,.int a,.int b] S) Q:=by
 have j:(ptd w sg a b).und 0=true:=by
  unfold ptd;split
  ·rw [D.und];exact nm_und _
  ·rfl
 have k:W (qcD [webD w,sgT sg,.int a,.int b] []) fun p=>p.1=ptd w sg a b:=by
  unfold qcD;refine fnW ?_;unfold qic;by_cases c:EB w sg 0 a b
  ·refine seqW (fun r V=>V=[]/\r=[some (webD w),some (sgT sg),some (.int (a:Nat)),some (.int (b:Nat)),none,none,none,none,none,none,none,none]) ?_ ?_
   ·walk_at "own wq";refine qdU (ws:=[]) hw hs ha hb (by simp) ?_;walk_at "own wq";rw [if_neg (by rw [qk8.mpr c];simp)];trivial
   rintro r V ⟨rfl,rfl⟩;refine seqW (fun r V=>V=[.lst [enD ([],a,b)]]/\r=[some (webD w),some (sgT sg),some (.int (a:Nat)),some (.int (b:Nat)),some (.ref 0),none,none,none,none,none,none,none]) ?_ ?_
   ·walk_at "own wq";exact ⟨rfl,trivial⟩
   rintro r V ⟨rfl,rfl⟩;refine seqW (fun r V=>V=qS [([],a,b)]/\r=[some (webD w),some (sgT sg),some (.int (a:Nat)),some (.int (b:Nat)),some (.ref 0),some (.ref 1),none,none,none,none,none,none]) ?_ ?_
   ·walk_at "own wq";refine qpq ?_;walk_at "own wq";exact ⟨_,qaU (e:=(a,b)),rfl,trivial⟩
   rintro r V ⟨rfl,rfl⟩;refine seqW (fun r V=>V=qS [([],a,b)]/\r=evP w sg a b 0 none none none none none) ?_ ?_
   ·walk_at "own wq";exact rfl
   rintro r V ⟨rfl,rfl⟩;by_cases f:far w sg a b<99
   ·obtain ⟨⟨fl,r,U⟩,e,h⟩:=qqj (a:=a) (b:=b) (A:=wk w (far w sg) (far w sg a b) a b) hw h1 hm hs f 100000 0 0 [([],a,b)] none none none none none 0 _ (by lia) (by lia) (qlg ha hb c) qlf (fun _ _=>Nat.zero_le _);unfold mSeq;rw [e,oS1];dsimp only at h ⊢;subst h;refine W.of rfl ?_;unfold ptd;rw [if_pos f]
   ·obtain ⟨⟨fl,r,U⟩,e,h⟩:=qpt (a:=a) (b:=b) hw h1 hm hs 100000 0 [([],a,b)] none none none none none (by lia) (by simp) ⟨fun e g=>by rw [List.mem_singleton.mp g];exact ⟨ha,hb,c,qrL f⟩,by simp,fun i e g=>by rw [List.mem_singleton.mp (gM1 g)];exact Nat.zero_le _⟩;unfold mSeq;rw [e,oS1];dsimp only at h ⊢;subst h;refine W.of rfl ?_;unfold ptd;rw [if_neg f]
  ·have l:far w sg a b=0:=(qhh hw h1 hm ha hb).mpr c;unfold mSeq;rw [qah];walk_at "own wq";refine qdU (ws:=[]) hw hs ha hb (by simp) ?_;walk_at "own wq";rw [if_pos (by simpa using fun z=>c (qk8.mp z))];unfold ptd;rw [l,if_pos (by decide)];rfl
 refine qdQ rfl (by rw [D.unds,qbk,D.unds,D.und,qaw];rfl) (k.mono ?_);rintro ⟨d,U⟩ h;dsimp only at h ⊢;subst h;exact ⟨j,q⟩
theorem qjm {w:qab}{sg:List Int}{a b d:Nat}{ws:List Int}{e g:Nat×Nat}(i:EB w sg 0 a b)(h1:(rowN w a)[d]? = some e)(h2:(rowN w b)[d]? = some g):qa1 w sg a ((d:Int)::ws)=qa1 w sg b ((d:Int)::ws)↔e.2=g.2/\qa1 w sg e.1 ws=qa1 w sg g.1 ws:=by
 unfold qa1;rw [qaK,qgB,h1,qaK,qgB,h2];dsimp only;simp only [mP1,List.cons.injEq,Prod.mk.injEq,i.1,i.2,true_and,and_assoc];constructor
 ·rintro ⟨j,f,c,h⟩;exact ⟨by lia,f,c,h⟩
 ·rintro ⟨j,f,c,h⟩;exact ⟨by lia,f,c,h⟩
theorem qi2 {w:qab}{f:Nat->Nat->Nat}:∀ (n a b:Nat),(wk w f n a b).length<=n
 | 0,a,b=>nR1 _
 | n+1,a,b=>by
  rw [wk];rw [lC1];split
  ·have:=qi2 (w:=w) (f:=f) n (dr w a ((dsp w f a b).findIdx (· == n+1))).1 (dr w b ((dsp w f a b).findIdx (· == n+1))).1;lia
  ·simp
theorem qi1 {m:Nat}{w:qab}{sg:List Int}(hw:WebJ m w)(h1:0<m)(hm:m<=8):∀ (n a b:Nat),far w sg a b=n->n<99->a<m->b<m -> ∀ s,s<=(wk w (far w sg) n a b).length ->
  (qa1 w sg a (((wk w (far w sg) n a b).take s).map Int.ofNat)≠qa1 w sg b (((wk w (far w sg) n a b).take s).map Int.ofNat)↔s=(wk w (far w sg) n a b).length)
 | 0,a,b,i,_,f,h,s,e=>by
  rw [wk] at *
  have:s=0:=Nat.le_zero.mp e;subst this;have g:=(qhh hw h1 hm f h).mp i;exact ⟨fun _=>rfl,fun _ z=>g (qk8.mp z)⟩
 | n + 1,a,b,i,u,f,h,s,e=>by
  have g:EB w sg 0 a b:=Classical.not_not.mp fun z=>by
   have:=(qhh hw h1 hm f h).mpr z;lia
  obtain ⟨t,r⟩:=qd1 hw h1 hm f h (by lia) i;obtain ⟨j,o,p,l,q⟩:=r _ (qhV t);rw [wk] at *
  generalize (dsp w (far w sg) a b).findIdx (· == n+1)=d at *
  cases s with
  | zero=>
   constructor
   ·exact fun z=>absurd (qk8.mpr g) z
   ·intro z;simp at z
  | succ s=>
   rw [List.take_succ_cons,mP1];have k:=qjm (ws:=((if (dr w a d).2=(dr w b d).2 then wk w (far w sg) n (dr w a d).1 (dr w b d).1 else []).take s).map Int.ofNat) g j o;rw [show (Int.ofNat d)=(d:Int) from rfl,Ne,k];by_cases c:(dr w a d).2=(dr w b d).2
   ·rw [if_pos c] at e ⊢;have ih:=qi1 hw h1 hm n _ _ (q c) (by lia) p l s (by simpa using e);rw [lC1];constructor
    ·intro z;have:=ih.mp fun y=>z ⟨c,y⟩;lia
    ·intro z y;exact ih.mpr (by lia) y.2
   ·rw [if_neg c] at e ⊢;simp at e;subst e;exact ⟨fun _=>rfl,fun _ z=>c z.1⟩
theorem qi3 {i:Int}{S:Sto}{Q:D×Sto->Prop}(q:Q (.bl true,S)):W (qaf 1 qb0 [.int i] S) Q:=by
 refine qdQ rfl rfl ?_;unfold qb0;refine fnW ?_;unfold qeS
 ((try walk_at "own wq");repeat (simp only [qgw,qmR];try walk_at "own wq"))
 simp only [reduceCtorEq,decide_false,decide_true];walk_at "own wq";exact ⟨rfl,q⟩
theorem qnv {m a b:Nat}{w:qab}{sg:List Int}{ws:List Nat}{S:Sto}{Q:D×Sto->Prop}(hw:WebJ m w)(hs:sg.length=m)(ha:a<m)(hb:b<m)(g:ws.length<=900)
  (q:Q (.bl (!decide (qa1 w sg a (ws.map Int.ofNat)=qa1 w sg b (ws.map Int.ofNat))),S)):W (qaf 5 qaY [webD w,sgT sg,.int a,.int b,.tup (nmD ws)] S) Q:=by
 refine qdQ rfl (by rw [D.unds,qbk,D.unds,D.und,qaw,D.unds,D.und,D.unds,D.und,D.unds,D.und,nm_und];rfl) ?_;unfold qaY;refine fnW ?_;unfold qcQ;refine seqW (fun c V=>c=[some (webD w),some (sgT sg),some (.int a),some (.int b),some (.tup (nmD ws))]) ?_ ?_
 ·((try walk_at "own wq");repeat (simp only [qgw,qmQ,qd9];try walk_at "own wq"))
  refine mapW (f:=fun i:Nat=>D.int i) (fun _=>D.bl true) (fun c=>∃ d,c=[d]) rfl ws _ ⟨_,rfl⟩ ?_ ?_
  ·rintro k e c ⟨d,rfl⟩;walk_at "own wq";refine qi3 ?_;walk_at "own wq";rw [decide_eq_true (by lia)];exact ⟨rfl,_,rfl⟩
  ·rintro c ⟨d,rfl⟩;refine ⟨qaj (by simp;lia),?_⟩;walk_at "own wq";refine qsg (xs:=nmD ws) (by unfold nmD;rw [List.map_map];rfl) ?_;walk_at "own wq"
 rintro c V rfl;walk_at "own wq";rw [qmI];refine qdU (ws:=ws.map Int.ofNat) hw hs ha hb (by rw [lM1];lia) ?_;exact ⟨rfl,q⟩
theorem qnB {ws:List Nat}{S:Sto}{Q:D×Sto->Prop}(d:ws.length<=1000)(q:Q (.bl true,S)):W (qaf 2 qa4 [.tup (nmD ws),.tup (nmD ws)] S) Q:=by
 have b:(D.tup (nmD ws)).und 0=true:=by rw [D.und];exact nm_und _
 refine qdQ rfl (by rw [D.unds,D.unds,b];rfl) ?_;have h:=qk9 7 (nmD ws) (by rw [nmD,lM1];lia) (nm_und _) ?_
 ·refine W.mono h fun p a=>?_;rw [a];exact ⟨rfl,q⟩
 ·intro x c;obtain ⟨i,_,rfl⟩:=List.mem_map.mp c;exact (qla 6 i []).mono fun p a=>by rw [a]
theorem qnA {S:Sto}{Q:D×Sto->Prop}(q:Q (.bl true,S)):W (qaf 2 qa4 [.non,.non] S) Q:=by
 refine qdQ rfl rfl ?_;unfold qa4;rw [qaB];refine fnW ?_;unfold qbj;have e:∀ S,gIsX .non .non S=some (.bl true,S):=fun _=>rfl
 ((try walk_at "own wq");repeat (simp only [e];try walk_at "own wq"))
 exact ⟨rfl,q⟩
theorem qs7 {b:Bool}{S:Sto}:isTy S .bool (.bl b)=some true:=rfl
theorem qoe {b c:Bool}{S:Sto}(h:b=c):gNe (.bl b) (.bl c) S=some (.bl false,S):=by subst h;cases b<;>rfl
noncomputable abbrev evR (w:qab)(sg:List Int)(a b:Nat)(A:D)(x5 x6 x7 x8 x9 x10:Option D):Ev:=[some (webD w),some (sgT sg),some (.int (a:Nat)),some (.int (b:Nat)),some A,x5,x6,x7,x8,x9,x10]
theorem qpo {m a b:Nat}{w:qab}{sg:List Int}{S:Sto}{k g e j x10:Option D}(hw:WebJ m w)(h1:0<m)(hm:m<=8)(hs:sg.length=m)(ha:a<m)(hb:b<m):
  W ((mFor (iR1 (qaa (mC (D.int (2))) mNil)) (gN 5) qbL) (evR w sg a b (ptd w sg a b) none k g e j x10) S) fun p=>p.1 = .nx/\p.2.2=S /\ ∃ c,p.2.1=evR w sg a b (ptd w sg a b) c k g e j x10:=by
 walk_at "own wq";refine ⟨by decide,?_⟩;refine qaA (fun i r V=>V=S /\ ∃ c,r=evR w sg a b (ptd w sg a b) c k g e j x10) _ 0 _ _ ⟨rfl,_,rfl⟩ (fun _ _ _ _=>rfl) ?_ ?_
 ·rintro i d hd r V ⟨rfl,c,rfl⟩;walk_at "own wq";unfold qbL;walk_at "own wq";refine qlz hw h1 hm hs ha hb ?_;dsimp only;have h:W (qaf 2 qa4 [ptd w sg a b,ptd w sg a b] V) fun p=>p=(.bl true,V):=by
   unfold ptd;split
   ·rename_i l;exact qnB (by have:=qi2 (w:=w) (f:=far w sg) (far w sg a b) a b;lia) rfl
   ·exact qnA rfl
  refine h.mono ?_;rintro p rfl;walk_at "own wq";exact ⟨_,rfl⟩
 ·rintro r V ⟨rfl,c,rfl⟩;exact ⟨rfl,rfl,_,rfl⟩
theorem qpU {m a b s:Nat}{w:qab}{sg:List Int}{A:List Nat}{S:Sto}{c i f d x10:Option D}(hw:WebJ m w)(hs:sg.length=m)(ha:a<m)(hb:b<m)(l:A.length<=900)(hsz:s<=A.length)(h:qa1 w sg a ((A.take s).map Int.ofNat)≠qa1 w sg b ((A.take s).map Int.ofNat)↔s=A.length):
  W (qbK (evR w sg a b (.tup (nmD A)) c (some (.int (s:Nat))) i f d x10) S) fun p=>p.1 = .nx/\p.2.2=S /\ ∃ k i f d x10,p.2.1=evR w sg a b (.tup (nmD A)) c k i f d x10:=by
 have hd:(!decide (qa1 w sg a ((A.take s).map Int.ofNat)=qa1 w sg b ((A.take s).map Int.ofNat)))=((s:Int) == (A.length:Int)):=by
  rw [Bool.eq_iff_iff];simp only [Bool.not_eq_true',decide_eq_false_iff_not,beq_iff_eq];exact h.trans (by lia)
 have e:∀ S,gLen (.tup (nmD A)) S=some (.int (A.length:Nat),S):=fun S=>by rw [len_tup,nmD,lM1]
 have g:(A.take s).length<=900:=by rw [List.length_take];lia
 unfold qbK;refine seqW (fun r V=>V=S/\r=evR w sg a b (.tup (nmD A)) c (some (.int (s:Nat))) (some (.tup (nmD (A.take s)))) (some (.bl ((s:Int) == (A.length:Int)))) d x10) ?_ ?_
 ·walk_at "own wq";refine qtt (xs:=nmD A) (a:=none) (b:=some (s:Int)) rfl rfl rfl ?_;rw [qmf]
  ((try walk_at "own wq");repeat (simp only [e];try walk_at "own wq"))
  rw [nmD,lM1]
 rintro r V ⟨rfl,rfl⟩;refine seqW (fun r j=>j=V/\r=evR w sg a b (.tup (nmD A)) c (some (.int (s:Nat))) (some (.tup (nmD (A.take s)))) (some (.bl ((s:Int) == (A.length:Int)))) (some (.bl ((s:Int) == (A.length:Int)))) x10) ?_ ?_
 ·walk_at "own wq";rw [qmI (A.take s)];refine qht hw.inn (hs.trans hw.len.symm) (by rw [hw.len];exact ha) (by rw [lM1];lia) ?_;refine qht hw.inn (hs.trans hw.len.symm) (by rw [hw.len];exact hb) (by rw [lM1];lia) ?_;dsimp only;rw [qe5,qe5,qqV,qag,hd]
  first | exact ⟨rfl,rfl,rfl⟩ | exact ⟨rfl,rfl⟩ | rfl
 rintro r j ⟨rfl,rfl⟩;walk_at "own wq";rw [qoe rfl,qag];walk_at "own wq";refine qnv hw hs ha hb g ?_;dsimp only;rw [hd];refine qgw.mpr ?_
 ((try walk_at "own wq");repeat (simp only [qs7];try walk_at "own wq"))
 rw [qoe rfl,qag];walk_at "own wq";exact ⟨_,_,_,_,_,rfl⟩
theorem qnG {m a b:Nat}{w:qab}{sg:List Int}{S:Sto}{Q:D×Sto->Prop}(hw:WebJ m w)(h1:0<m)(hm:m<=8)(hs:sg.length=m)(ha:a<m)(hb:b<m)(q:Q (.bl true,S)):W (qaf 5 qbp [webD w,sgT sg,.int a,.int b,ptd w sg a b] S) Q:=by
 have j:(ptd w sg a b).und 0=true:=by
  unfold ptd;split
  ·rw [D.und];exact nm_und _
  ·rfl
 refine qdQ rfl (by rw [D.unds,qbk,D.unds,D.und,qaw,D.unds,D.unds,D.unds,j];rfl) ?_;unfold qbp;refine fnW ?_;unfold qdM;refine seqW (fun r V=>V=[] /\ ∃ g,r=evR w sg a b (ptd w sg a b) g none none none none none) (qpo hw h1 hm hs ha hb) ?_;rintro r V ⟨rfl,g,rfl⟩;unfold ptd;split
 ·rename_i u;generalize o:wk w (far w sg) (far w sg a b) a b=A;have y:A.length<=900:=by have:=qi2 (w:=w) (f:=far w sg) (far w sg a b) a b;rw [o] at this;lia
  refine seqW (fun r V=>V=[]/\r=evR w sg a b (.tup (nmD A)) g none none none none none) ?_ ?_
  ·have e:∀ S,gIsX (.tup (nmD A)) .non S=some (.bl false,S):=fun _=>rfl
   ((try walk_at "own wq");repeat (simp only [e];try walk_at "own wq"))
   try exact ⟨rfl,rfl⟩
  rintro r V ⟨rfl,rfl⟩;refine seqW (fun r V=>True) ?_ ?_
  ·have t:(nmD A).length=A.length:=by rw [nmD,lM1]
   walk_at "own wq";rw [t];rw [show ((A.length:Int)+1)=((A.length+1:Nat):Int) by lia,Int.toNat_natCast];refine ⟨qaW (by lia),?_⟩;refine qaA (fun i r V=>V=[] /\ ∃ k l h n c,r=evR w sg a b (.tup (nmD A)) g k l h n c) _ 0 _ _ ⟨rfl,_,_,_,_,_,rfl⟩ (fun _ _ _ _=>rfl) ?_ ?_
   ·rintro s d hd r V ⟨rfl,k,l,h,n,c,rfl⟩;obtain ⟨v,rfl⟩:=qbv _ _ _ _ hd;rw [Int.zero_add];walk_at "own wq";refine (qpU hw hs ha hb y (by lia) ?_).mono fun p x=>x;rw [<- o];exact qi1 hw h1 hm _ a b rfl u ha hb s (by rw [o];lia)
   ·rintro r V ⟨rfl,k,l,h,n,c,rfl⟩;exact ⟨rfl,trivial⟩
  rintro r V _;walk_at "own wq";exact ⟨rfl,q⟩
 ·unfold mSeq;rw [qah];have e:∀ S,gIsX .non .non S=some (.bl true,S):=fun _=>rfl
  ((try walk_at "own wq");repeat (simp only [e];try walk_at "own wq"))
  exact ⟨rfl,q⟩
theorem qnz {h g c:Nat}{B U:Sto}{Q:D×Sto->Prop}(s:HS h g c B U)(hc:c<=2^38)
  (q:∀ w (sg:List Int) e,WebO w->sg.length=w.length->HS h g (c+2000) B e->HS h g (c+2000) U e->e.length=U.length->Q (.tup [dW w,sgD sg],e)):W (qaf 1 qbn [.ref h] U) Q:=by
 have hh:=s.hl;have hg:=s.gl;have hbl:=s.len;refine qkL (c':=c+2000) rfl rfl s ?_;have s0:HS h g c U U:=HS.self s.hand s.shut;have d:∀ (w:qab) (sg:List Int),(D.tup [dW w,sgD sg]).und 0=true:=fun w sg=>by rw [D.und,D.unds,D.unds,D.unds,qeF,qfL];rfl
 unfold qbn;refine fnW ?_;unfold qdK;walk_at "own wq";refine qby s0 (by lia) (by lia) (by lia) fun k U1 O _ l1 hk=>?_;walk_at "own wq";split
 ·refine qsn O (by lia) fun w E wo a b l=>?_
  ((try walk_at "own wq");repeat (simp only [qhN];try walk_at "own wq"))
  refine qjk a (by lia) wo.pos wo.few fun sg v o z b3 Z=>?_;walk_at "own wq";exact ⟨z.more (by lia),d _ _,fun e a b l=>q w sg e wo o a b l⟩
 ·refine qhi (most:=4) O (by lia) (by lia) (by lia) fun m w E n hm A S s2' l2=>?_
  ((try walk_at "own wq");repeat (simp only [qhN];try walk_at "own wq"))
  have t:=A.len;have u:gDiv (D.int 8) (D.int w.length) E=some (.int ((8/w.length:Nat):Int),E):=by
   simp only [gDiv];rw [if_pos ⟨by lia,by lia⟩];simp
  ((try walk_at "own wq");repeat (simp only [u];try walk_at "own wq"))
  have hd:0<8/w.length:=by rw [A.len];exact Nat.div_pos (by lia) n
  refine qkA S (by lia) A n hd (by rw [t];exact Nat.mul_div_le 8 m) fun M k' V bl wo hk' F j C a b=>?_
  ((try walk_at "own wq");repeat (simp only [qhN];try walk_at "own wq"))
  rw [t];refine qjk a (by lia) n (by lia) fun sg v o z b3 Z=>?_;walk_at "own wq";have J:=S.len;have p:v[k']? = some (.lst (bl.map fun i:Nat=>D.int i)):=b3.at F (by lia) (by lia);refine qax p ?_;have P:=wo.pos;have R:=wo.few;refine mapW (f:=fun i:Nat=>D.int i) (fun i:Nat=>D.int (sgN sg i)) (fun r=>∃ x,r=[x,some (sgD sg)]) (qbA p) bl _ ⟨_,rfl⟩ ?_ ?_
  ·rintro i hi r ⟨x,rfl⟩;walk_at "own wq";refine W_sg o (C i hi) ?_;exact ⟨rfl,rfl,_,rfl⟩
  ·rintro r' _;refine ⟨qaj (by rw [lM1];lia),?_⟩;have N:=z.pushI (bl.map (sgN sg));have L:(bl.map (sgN sg)).map D.int=bl.map fun i:Nat=>D.int (sgN sg i):=by rw [List.map_map];rfl
   rw [L] at N;have hU3:=z.len;walk_at "own wq";refine qby N (by lia) (by lia) (by lia) fun k2 Y X I l4 hk2=>?_;have G:Y[v.length]? = some (.lst (bl.map fun i:Nat=>D.int (sgN sg i))):=I.at (by rw [qaC];rfl) (by lia) (by lia);walk_at "own wq";split
   ·refine qax G ?_;walk_at "own wq";rw [lM1];refine qby X (by lia) (by lia) (by lia) fun y U5 s5 H l5 hk3=>?_;have T:U5[v.length]? = some (.lst (bl.map fun i:Nat=>D.int (sgN sg i))):=H.at G (by lia) (by lia);refine qna (i:=y) T (by rw [lM1];lia) ?_;have K:=(gE1.mp T).1;have e6:(bl.map fun i:Nat=>D.int (sgN sg i)).set y (.int 9)=((bl.map (sgN sg)).set y 9).map D.int:=by rw [<- L,List.map_set]
    walk_at "own wq";rw [e6];refine qax (xs:=((bl.map (sgN sg)).set y 9).map D.int) (by rw [List.getElem?_set_self K]) ?_;exact ⟨(s5.set (by lia) (by rw [Ob.und];exact qaw _ _)).more (by lia),d _ _,fun e a b l=>q M _ e wo (by rw [List.length_set,lM1,j]) a b l⟩
   ·refine qax G ?_;rw [<- L];exact ⟨X.more (by lia),d _ _,fun e a b l=>q M _ e wo (by rw [lM1,j]) a b l⟩
theorem qtp {n:Nat}{f:FN}{ds:List D}{S:Sto}{Q:D×Sto->Prop}(hn:ds.length=n)(c:D.unds 0 ds=true)(h:W (f ds []) fun p=>∃ k X,p.1 = .ref k/\p.2[k]? = some X/\p.2.all (Ob.und 0)=true /\ ∀ G j,(S++G)[j]? = some X->G.all (Ob.und 0)=true->Q (.ref j,S++G)):W (qaf n f ds S) Q:=by
 obtain ⟨⟨d,G⟩,e,k,X,rfl,b,a,q⟩:=h;refine ⟨_,qfy e hn c rfl,?_⟩;dsimp only at b a;rw [qhr a];exact q G _ (by rw [qcb];exact b) a
noncomputable abbrev evL (N:D)(x2 x3 x4 x5 x6 x7 x8 x9:Option D):Ev:=[some N,some (.ref 2),x2,x3,x4,x5,x6,x7,x8,x9]
theorem qqC {m k a b:Nat}{w:qab}{sg:List Int}{F:List (TK×D)}{V:Sto}{N:D}{g x9:Option D}(hw:WebJ m w)(h1:0<m)(hm:m<=8)(hs:sg.length=m)(i:Shut V)(h:FD m (far w sg) F)(hk:V[k]? = some (dO F))(ha:a<m)(hb:b<m):
  W (qgO (evL N g (some (webD w)) (some (sgD sg)) (some (.ref k)) (some (.tup (nmD (colL m w sg)))) (some (.int (a:Nat))) (some (.int (b:Nat))) x9) V) fun p=>p.1 = .nx/\p.2.2=V /\ ∃ x9,p.2.1=evL N g (some (webD w)) (some (sgD sg)) (some (.ref k)) (some (.tup (nmD (colL m w sg)))) (some (.int (a:Nat))) (some (.int (b:Nat))) x9:=by
 have d:=qo5 (sg:=sg) hw h1 hm ha hb;unfold qgO;refine seqW (fun r U=>U=V/\r=evL N g (some (webD w)) (some (sgD sg)) (some (.ref k)) (some (.tup (nmD (colL m w sg)))) (some (.int (a:Nat))) (some (.int (b:Nat))) (some .non)) ?_ ?_
 ·walk_at "own wq"
  try exact ⟨rfl,rfl⟩
 rintro r U ⟨rfl,rfl⟩;refine seqW (fun r V=>V=U/\r=evL N g (some (webD w)) (some (sgD sg)) (some (.ref k)) (some (.tup (nmD (colL m w sg)))) (some (.int (a:Nat))) (some (.int (b:Nat))) (some (ptd w sg a b))) ?_ ?_
 ·walk_at "own wq";refine W_cl (c:=col w sg m) ha ?_;dsimp only;refine W_cl (c:=col w sg m) hb ?_;walk_at "own wq";by_cases f:far w sg a b<99
  ·rw [if_pos (by have:=d.mp f;simp;lia)];refine qoy hw h1 hm i h ha hb f hk ?_;unfold ptd;rw [if_pos f]
   first | exact ⟨rfl,rfl⟩ | rfl
  ·rw [if_neg (by have:=mt d.mpr f;simp at this ⊢;lia)];unfold ptd;rw [if_neg f]
 rintro r V ⟨rfl,rfl⟩;refine seqW (fun r U=>U=V/\r=evL N g (some (webD w)) (some (sgD sg)) (some (.ref k)) (some (.tup (nmD (colL m w sg)))) (some (.int (a:Nat))) (some (.int (b:Nat))) (some (ptd w sg a b))) ?_ ?_
 ·walk_at "own wq";refine qdj hk (qaU (e:=(a,b))) (h.get a b ha hb) ?_;walk_at "own wq";have e:qhb (ptd w sg a b) .non V=some (.bl (decide (((far w sg a b:Nat):Int)<99)),V):=by
   unfold ptd;split
   ·rename_i f;rw [decide_eq_true (by lia)];rfl
   ·rename_i f;rw [decide_eq_false (by lia)];rfl
  rw [e,qag];dsimp only;rw [qoe rfl,qag];walk_at "own wq"
 rintro r U ⟨rfl,rfl⟩;walk_at "own wq";refine qnG hw h1 hm hs ha hb ?_;walk_at "own wq";exact ⟨_,rfl⟩
theorem qpC {c:Nat}{B S:Sto}{N:D}{t C Q y A q g e:Option D}(s:HS 2 0 c B S)(hc:c<=2^37):
  W (qgN (evL N t C Q y A q g e) S) fun p=>p.1 = .nx/\HS 2 0 (c+2000) B p.2.2 /\ ∃ v R P T M J z9,p.2.1=evL N t v R P T M J z9:=by
 unfold qgN;refine seqW (fun r V=>∃ w f,WebO w/\f.length=w.length/\HS 2 0 (c+2000) B V/\r=evL N t (some (webD w)) (some (sgD f)) y A q g e) ?_ ?_
 ·walk_at "own wq";refine qnz s (by lia) fun w f U' wo n a b l=>?_;walk_at "own wq";exact ⟨w,f,wo,n,a,rfl⟩
 rintro r V ⟨w,f,wo,n,a,rfl⟩;have h:=wo.pos;have m:=wo.few;refine seqW (fun r V=>HS 2 0 (c+2000) B V /\ ∃ k F,V[k]? = some (dO F)/\FD w.length (far w f) F/\r=evL N t (some (webD w)) (some (sgD f)) (some (.ref k)) (some (.tup (nmD (colL w.length w f)))) q g e) ?_ ?_
 ·walk_at "own wq";refine qtp rfl (by rw [D.unds,qbk,D.unds,qfL];rfl) ((qth wo.j h m n).mono ?_);rintro ⟨d,U⟩ ⟨k,X,E,Y,L,F,rfl,u⟩;refine ⟨k,_,E,Y,L,fun G j x K=>?_⟩;dsimp only;refine qhk wo.j h m n ?_;walk_at "own wq";exact ⟨a.app fun o I=>qdZ (Nat.zero_le _) (List.all_eq_true.mp K o I),j,F,x,u,rfl⟩
 rintro r V ⟨z,k,F,O,u,rfl⟩;walk_at "own wq";rw [qdT wo.j,qag];refine ⟨qaW (by lia),?_⟩;rw [Int.toNat_natCast];refine qaA (fun i r U=>U=V /\ ∃ q g e,r=evL N t (some (webD w)) (some (sgD f)) (some (.ref k)) (some (.tup (nmD (colL w.length w f)))) q g e) _ 0 _ _ ⟨rfl,_,_,_,rfl⟩ (fun _ _ _ _=>rfl) ?_ ?_
 ·rintro i d hd r U ⟨rfl,q,g,e,rfl⟩;obtain ⟨hi,rfl⟩:=qbv _ _ _ _ hd;rw [Int.zero_add];walk_at "own wq";unfold qjK;walk_at "own wq";rw [qdT wo.j,qag];refine ⟨qaW (by lia),?_⟩;rw [Int.toNat_natCast];refine qaA (fun j r V=>V=U /\ ∃ g e,r=evL N t (some (webD w)) (some (sgD f)) (some (.ref k)) (some (.tup (nmD (colL w.length w f)))) (some (.int (i:Nat))) g e) _ 0 _ _ ⟨rfl,_,_,rfl⟩ (fun _ _ _ _=>rfl) ?_ ?_
  ·rintro j d hd r V ⟨rfl,g,e,rfl⟩;obtain ⟨x,rfl⟩:=qbv _ _ _ _ hd;rw [Int.zero_add];walk_at "own wq";refine (qqC wo.j h m n z.shut u O hi x).mono ?_;rintro p ⟨H,Z,e,v⟩;exact ⟨H,Z,_,_,v⟩
  ·rintro r V ⟨rfl,g,e,rfl⟩;exact ⟨rfl,rfl,_,_,_,rfl⟩
 ·rintro r U ⟨rfl,q,g,e,rfl⟩;exact ⟨rfl,z,_,_,_,_,_,_,_,rfl⟩
theorem truth (ns:List Int)(x:ns.length<=63):∃ S,m_law [.rol (ns.map D.int)] []=some (.bl true,S):=by
 have g:W (m_law [.rol (ns.map D.int)] []) fun p=>p.1 = .bl true:=by
  unfold m_law;refine fnW ?_;unfold qpj;have f:=qns ns x;generalize u:D.rol (ns.map D.int)=N at *
  have a:∀ S,gLen N S=some (.int ns.length,S):=fun S=>by rw [<- u];simp [gLen,qap]
  refine seqW (fun r S=>HS 2 0 0 S S/\r=evL N none none none none none none none none) ?_ ?_
  ·walk_at "own wq";refine f.mono fun p b=>?_;rw [b.1];exact ⟨b.2,rfl⟩
  rintro r B ⟨v,rfl⟩;refine seqW (fun r S=>True) ?_ ?_
  ·((try walk_at "own wq");repeat (simp only [a,gMin];try walk_at "own wq"))
   have y:∃ t:Nat,t<=8/\((3:Int)+(if (5:Int)<(ns.length:Int) then 5 else (ns.length:Int)))=(t:Int):=by
    by_cases h1:(5:Int)<(ns.length:Int)
    ·rw [if_pos h1];exact ⟨8,by lia,by decide⟩
    ·rw [if_neg h1];exact ⟨3+ns.length,by lia,by push_cast;rfl⟩
   obtain ⟨t,F,te⟩:=y;rw [te,Int.toNat_natCast];refine ⟨qaW (by lia),?_⟩;refine qaA (fun i r S=>i<=t/\HS 2 0 (2000*i) B S /\ ∃ j n o l s q m k,r=evL N j n o l s q m k) _ 0 _ _ ⟨by lia,v,_,_,_,_,_,_,_,_,rfl⟩ (fun _ _ _ _=>rfl) ?_ ?_
   ·rintro i d hd r S ⟨hi,w,j,n,o,l,s,q,m,k,rfl⟩;have c:=(gE1.mp hd).1;rw [qay] at c;rw [Nat.zero_add] at *
    walk_at "own wq";refine (qpC w (by lia)).mono fun p b=>?_;obtain ⟨h1,h2,E,I,H,J,G,C,A,z⟩:=b;exact ⟨h1,by lia,h2.more (by lia),_,_,_,_,_,_,_,_,z⟩
   ·rintro r S _;exact ⟨rfl,trivial⟩
  rintro r S _;walk_at "own wq"
 obtain ⟨⟨d,S⟩,e,h⟩:=g;dsimp only at h;exact ⟨S,by rw [e,h]⟩
end Law
end
open PySem PySem.W PyProof.Rows
noncomputable def PySem.W.Fast.tw7576347855880773338:=()
noncomputable def PySem.W.Fast.tw6300914817746666212:=()
noncomputable def PySem.W.Fast.tw7112748382921438181:=()
noncomputable def PySem.W.Fast.tw4531687559139654488:=()
noncomputable def PySem.W.Fast.tw9850644011303461813:=()
noncomputable def PySem.W.Fast.tw3141651297487906864:=()
noncomputable def PySem.W.Fast.tw1602311979068055403:=()
noncomputable def PySem.W.Fast.tw96222804397183877:=()
noncomputable def PySem.W.Fast.tw7756335868001851140:=()
noncomputable def PySem.W.Fast.tw2008160263767577735:=()
noncomputable def PySem.W.Fast.tw17219125215563953524:=()
noncomputable def PySem.W.Fast.tw18206099788242012854:=()
noncomputable def PySem.W.Fast.tw4693278269935753113:=()
noncomputable def PySem.W.Fast.tw18331406010611593852:=()
noncomputable def PySem.W.Fast.tw4416337945844969400:=()
noncomputable def PySem.W.Fast.tw15450503551092071246:=()
noncomputable def PySem.W.Fast.tw12140844403360125656:=()
noncomputable def PySem.W.Fast.tw5959709043976825571:=()
noncomputable def PySem.W.Fast.tw15828850053443247711:=()
noncomputable def PySem.W.Fast.tw16358250882953778286:=()
noncomputable def PySem.W.Fast.tw714900423218836718:=()
noncomputable def PySem.W.Fast.tw13835443238321817867:=()
noncomputable def PySem.W.Fast.tw12289322338614745525:=()
noncomputable def PySem.W.Fast.tw12026433632605812135:=()
noncomputable def PySem.W.Fast.tw17970941452779311528:=()
noncomputable def PySem.W.Fast.tw14829554894240775589:=()
noncomputable def PySem.W.Fast.tw1095367921190647944:=()
noncomputable def PySem.W.Fast.tw2532084218447339146:=()
noncomputable def PySem.W.Fast.tw10958380138869876392:=()
noncomputable def PySem.W.Fast.tw7182406199283220232:=()
noncomputable def PySem.W.Fast.tw5005915202619737239:=()
noncomputable def PySem.W.Fast.tw13878484880367522160:=()
noncomputable def PySem.W.Fast.tw10950637646623453730:=()
noncomputable def PySem.W.Fast.tw6218123066223155911:=()
noncomputable def PySem.W.Fast.tw9915269326271862266:=()
noncomputable def PySem.W.Fast.tw13578198163904906009:=()
noncomputable def PySem.W.Fast.tw6962897399970516829:=()
noncomputable def PySem.W.Fast.tw10546308447883768425:=()
noncomputable def PySem.W.Fast.tw17788986321719056273:=()
noncomputable def PySem.W.Fast.tw6241945294486444510:=()
noncomputable def PySem.W.Fast.tw14906364117706124606:=()
noncomputable def PySem.W.Fast.tw3013442381507252866:=()
noncomputable def PySem.W.Fast.tw13449291289398121293:=()
noncomputable def PySem.W.Fast.tw4001200307576391093:=()
noncomputable def PySem.W.Fast.tw7901307233196323930:=()
noncomputable def PySem.W.Fast.tw11990743282372901639:=()
noncomputable def PySem.W.Fast.tw17180327903982043766:=()
noncomputable def PySem.W.Fast.tw15783697060217457915:=()
noncomputable def PySem.W.Fast.tw18322145663225733028:=()
noncomputable def PySem.W.Fast.tw13003347246551671761:=()
noncomputable def PySem.W.Fast.tw7230261317047595957:=()
noncomputable def PySem.W.Fast.tw16188905317477755852:=()
noncomputable def PySem.W.Fast.tw5701882574634812576:=()
noncomputable def PySem.W.Fast.tw627901907944208377:=()
noncomputable def PySem.W.Fast.tw13529737401948023703:=()
set_option maxRecDepth 100000 in
set_option maxHeartbeats 0 in
theorem PySem.Challenge.cw_ringmeet_k12_whole_parted_or_alike_holds : PySem.Challenge.rw_ringmeet_k12_whole_parted_or_alike.Holds := by
 w_on;o_law;k_head;(case hw=>w_witness2)
 k_fill
 refine Mi.walk_m (l:=PySem.Challenge.rw_ringmeet_k12_whole_parted_or_alike) (m:=Law.m_law) (k:=11) (x:="_law_script") rfl rfl ⟨rfl,by decide,by decide,rfl⟩ (fun w h Y=>PySem.W.kIn_of Y) Law.truth ?F
 case F=>
  intro w mg e h d G b;refine' Law.all_mk d G b ?a1 ?a2 ?a3 ?a4 ?a5 ?a6 ?a7 ?a8 ?a9 ?a10 ?a11 ?a12 ?a13 ?a14 ?a15 ?a16 ?a17 ?a18 ?a19 ?a20 ?a21 ?a22 ?a23 ?a24 ?a25 ?a26 ?a27 ?z_abs ?z_all ?z_bool ?z_enumerate ?z_int ?z_isinstance ?z_len ?z_list ?z_min ?z_range ?z_tuple ?z_zip
  all_goals try (refine' Mi.qti ?a ?l ?c ?k;(case a=>k_is);(case l=>k_is);(case c=>k_is);(case k=>k_is))
  all_goals k_is

