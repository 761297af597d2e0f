import PyProof.Rows.All
import Wide.All
import OpenK.AllK
import Wide.FinOn
import Lean
import PyProof.EqAt
import PyProof.EqKinds
import PyProof.TupleCall
import PySem.Challenge.RW_ringmeet_k66_slow_beats
set_option Elab.async false
set_option compiler.extract_closed false
set_option linter.all false
set_option maxRecDepth 100000
set_option maxHeartbeats 4000000
open List renaming getElem?_eq_some_iff → gE1, getElem?_append_left → gL1, getElem?_eq_getElem → gG1, mem_of_getElem? → gM1, getElem?_set_ne → gS1, length_append → lA1, length_map → lM1, getElem?_cons_succ → gC1, mem_cons_of_mem → mC1, mem_cons_self → mS1, getElem?_map → gP1, getElem?_append_right → gR1, size_toArray → sT1, map_cons → mP1, length_cons → lC1, length_replicate → lR1, mem_append_right → mA1
open Option renaming bind_eq_some_iff → oB1, map_eq_some_iff → oM1, bind_some → oS1, map_some → oP1
open Nat renaming le_refl → nR1, lt_of_lt_of_le → nL1, ne_of_lt → nN1, ne_of_gt → nG1
open Bool renaming and_eq_true → bA1, false_eq_true → bF1
open Array renaming getElem?_eq_getElem → aG1, getElem?_toList → aT1
open PySem.W renaming Frag → Fg1, nsIn → wN1, keepIn → wK1, codeIn → wC1, fnOf → wF1, mg_of → wM1
open PySem.Heap renaming get?_push_of_some → hP1, get?_push_size → hS1, lt_size → hL1, size_push → hZ1, get?_update_ne → hU1, get?_update_self → hW1
open PySem renaming wpAny_bind → wB1, wpAny_pure → wP1, wpAny_setField_rec → wS1, wpAny_newObj_type → wO1, codeAny_builtin → wD1, wpAny_call_entry → wE1
open List renaming take_nil → av, drop_nil → aw, mem_filter → aA, mem_range → aB, filterMap_cons → aD, mem_cons → aE, mem_append → aF, mem_append_left → aG, getElem?_set_self → aH, mem_filterMap → aK, append_nil → aL, nodup_cons → aM, replicate → aN, length_take → aP, getElem?_replicate → aQ, getElem?_take_of_lt → aR, take_sublist → aS, length_set → aT, reverse_cons → aU, map_nil → aW, find?_cons → aX, any_cons → aY, length_nil → aZ, cons_append → bf, prefix_rfl → bh, nodup_nil → bi, getElem?_of_mem → bj, map_map → bn, prefix_append → bo, nodup_append → bq, all_eq_true → br, lookup_cons → bu, append_assoc → bv, getD_eq_getElem?_getD → bA, zipIdx_cons → bB, not_mem_nil → bC, all_cons → bG, any_eq_true → bI, getElem_mem → bJ, zip_cons_cons → bK, cons_prefix_cons → bM, take_length → bN, getElem?_eq_none → bO, foldl_cons → bP, pairwise_cons → bQ, length_eq_zero_iff → bS, take_of_length_le → bU, pairwise_lt_range → bV, map_append → bW, mem_map → bX, take_succ → bY, length_eraseIdx_of_lt → bZ, perm_middle → b0, getElem?_range → b4, getElem?_toArray → b6, contains_iff_mem → b7, forall_mem_nil → b8, map_congr_left → cb, filter_cons → cc, map_id → cf, nil_append → cg, pairwise_map → ci, getElem?_cons_zero → cj, set_cons_zero → ck, set_cons_succ → cm, mem_singleton → cp, getElem?_concat_length → cq, flatten_cons → cr, length_filter_le → cu, mem_flatten → cv, length_zipIdx → cy, set_append_right → cA, getElem?_zipIdx → cB, length_range → cC, mem_flatMap → cD
open Option renaming some → ay, isSome_iff_exists → aO, isSome_map → a0, getD_some → b9
open Nat renaming lt_irrefl → az, le_trans → aC, le_succ → aV, lt_trans → bc, zero_le → bd, add_assoc → bg, le_add_right → bm, not_lt_zero → bp, lt_succ_self → bt, lt_of_le_of_lt → bw, le_of_succ_le → bx, zero_add → bE, lt_or_ge → bL, mul_le_mul_right → cw
open Array renaming length_toList → aI, toArray_toList → bR, toList_push → bT, getElem?_eq_none → b5
open Bool renaming false_ne_true → aJ, and_true → bD, or_eq_true → bF, eq_iff_iff → bH, and_self → ca
open PySem renaming Value → cE, Shared → cF, Addr → cG, Program → cH, Around → cI, World → cJ, mainGlobals → cK, starEach → cM, sizeLine → cN, wpAny → cO, Heap → cP, FuncData → cQ, Stmt → cR, Scope → cS
open Option renaming some → Z, none → Y
open Bool renaming true → M, false → J
theorem Mi.O{α}{a:α}:a=a:=rfl
open Mi (O)
theorem Mi.al{p:Prop}[Decidable p]:(decide p=true)=p:=decide_eq_true_eq
theorem Mi.ak{c:Prop}{h:Decidable c}(a:c){α:Sort _}{t e:α}:ite c t e=t:=if_pos a
theorem Mi.aj{c:Prop}{h:Decidable c}(a:¬c){α:Sort _}{t e:α}:ite c t e=e:=if_neg a
theorem Mi.ai{p:Prop}[Decidable p]:¬p→decide p=false:=decide_eq_false
theorem Mi.ah{p:Prop}[Decidable p]:p→decide p=true:=decide_eq_true
open List renaming range → af
open Mi (al ak aj ai ah)
noncomputable section
namespace L2
open PySem PySem.Spec PyProof.Rows
abbrev Key:=Sum Int Str
noncomputable def m9:Key->cE->Bool
 | .inl k,v=>Value.isInt k v
 | .inr x,v=>Value.isStrOf x v
noncomputable def FW(w:cJ):Key->Int
 | .inl k=>hashInt k
 | .inr x=>hashStr w x
theorem dS:∀{k:Key} {v:cE},m9 k v=M->(∃i t,k=Sum.inl i/\v=Value.int i t)\/(∃x t,k=Sum.inr x/\v=Value.str x t)
 | .inl i,v,h=>by
  obtain⟨t,e⟩:=Value.isInt_shape (k:=i) (v:=v) h;exact .inl ⟨i,t,O,e⟩
 | .inr x,v,h=>by
  obtain⟨t,e⟩:=Value.isStrOf_shape (x:=x) (v:=v) h;exact .inr ⟨x,t,O,e⟩
theorem uC(i:Int)(t:Tok):m9 (.inl i) (.int i t)=M:=by simp[m9,Value.isInt]
theorem uB(x:Str)(t:Tok):m9 (.inr x) (.str x t)=M:=by simp[m9,Value.isStrOf]
theorem Cz(a b:Int):decide ((Sum.inl a:Key)=Sum.inl b)=(a == b):=by
 by_cases e:a=b
 ·subst e;simp
 ·have h:¬ (Sum.inl a:Key)=Sum.inl b:=λq=>e (Sum.inl.inj q);rw[ai h];exact(beq_eq_false_iff_ne.mpr e).symm
theorem Cv(a b:Str):decide ((Sum.inr a:Key)=Sum.inr b)=decide (a=b):=by
 by_cases e:a=b
 ·subst e;simp
 ·have h:¬ (Sum.inr a:Key)=Sum.inr b:=λq=>e (Sum.inr.inj q);rw[ai h,ai e]
theorem Cy(a:Int)(b:Str):decide ((Sum.inl a:Key)=Sum.inr b)=J:=ai (λq=>nomatch q)
theorem Cw(a:Str)(b:Int):decide ((Sum.inr a:Key)=Sum.inl b)=J:=ai (λq=>nomatch q)
noncomputable def d0(prog:cH)(w:cJ):PySem.KeyKind prog w Key where
 is:=m9
 hash:=FW w
 inj:=λv a b ha hb=>by
  rcases dS ha with⟨i,t,rfl,rfl⟩|⟨x,t,rfl,rfl⟩
  ·rcases dS hb with⟨j,u,rfl,e⟩|⟨y,u,rfl,e⟩
   ·injection e with e1 _;rw[e1]
   ·exact nomatch e
  ·rcases dS hb with⟨j,u,rfl,e⟩|⟨y,u,rfl,e⟩
   ·exact nomatch e
   ·injection e with e1 _;rw[e1]
 byValue:=λk v h=>by
  rcases dS h with⟨i,t,rfl,rfl⟩|⟨x,t,rfl,rfl⟩<;>rfl
 pyHash:=λhv h=>by
  rcases dS hv with⟨i,t,rfl,rfl⟩|⟨x,t,rfl,rfl⟩
  ·exact wpAny_pyHash_int h
  ·exact wpAny_pyHash_str h
 eqBool:=λhu hv h=>by
  rcases dS hu with⟨i,t,rfl,rfl⟩|⟨x,t,rfl,rfl⟩
  ·rcases dS hv with⟨j,u,rfl,rfl⟩|⟨y,u,rfl,rfl⟩
   ·rw[Cz]at h;exact wpAny_eqBool_int h
   ·rw[Cy]at h;exact SeqAt.EqAt.int_str i t y u _ _ _ _ h
  ·rcases dS hv with⟨j,u,rfl,rfl⟩|⟨y,u,rfl,rfl⟩
   ·rw[Cw]at h;exact SeqAt.EqAt.str_int x t j u _ _ _ _ h
   ·rw[Cv]at h;exact wpAny_eqBool_str h
 «strs» :=λk x t v h=>by
  rcases dS h with⟨i,u,rfl,e⟩|⟨y,u,rfl,e⟩
  ·exact nomatch e
  ·injection e with e1 _;subst e1;cases v<;>rfl
theorem pG(prog:cH)(w:cJ)(i:Int)(t:Tok):(d0 prog w).is (.inl i) (.int i t)=M:=uC i t
theorem pF(prog:cH)(w:cJ)(x:Str)(t:Tok):(d0 prog w).is (.inr x) (.str x t)=M:=uB x t
end L2
namespace L2
open PySem PySem.Spec PyProof.Rows
inductive V where
 |non|bl (b:Bool)|int (i:Int)|str (x:Str)|byt (b:Array UInt8)|flt (b:UInt64)|ref (a:cG)|ty (n:String)
 deriving DecidableEq
def de:V->cE->Prop
 | .non,u=>u=Value.none
 | .bl b,u=>u=Value.bool b
 | .int i,u=>∃t,u=Value.int i t
 | .str x,u=>∃t,u=Value.str x t
 | .byt b,u=>∃t,u=Value.bytes b t
 | .flt b,u=>∃t,u=Value.float b t
 | .ref a,u=>u=Value.ref a
 | .ty n,u=>u=Value.type n
abbrev dy:List V->List cE->Prop:=Paired de
theorem dy.length{xs:List V}{a:List cE}(r:dy xs a):xs.length=a.length:=Paired.length r
theorem dy.get:∀{xs:List V} {a:List cE} {i:Nat} {x:V},dy xs a->xs[i]?=Z x -> ∃u,a[i]?=Z u/\de x u:=by
 intro xs a i x h e
 induction h generalizing i with
 |nil=>cases e
 |cons r t ih=>cases i with
  |zero=>cases e;exact⟨_,O,r⟩
  |succ i=>exact ih (i:=i) e
theorem dy.set{x:V}{u:cE}(r:de x u):∀{xs:List V} {a:List cE} (i:Nat),dy xs a->dy (xs.set i x) (a.set i u):=by
 intro xs a i h
 induction h generalizing i with
 |nil=>exact .nil
 |cons q t ih=>cases i with
  |zero=>exact .cons r t
  |succ i=>exact .cons q (ih i)
theorem dy.append:∀{xs ys:List V} {a ws:List cE},dy xs a->dy ys ws->dy (xs++ys) (a++ws):=by
 intro xs ys a ws h s
 induction h with
 |nil=>exact s
 |cons r t ih=>exact .cons r ih
theorem dy.take:∀{xs:List V} {a:List cE} (n:Nat),dy xs a->dy (xs.take n) (a.take n):=by
 intro xs a n h
 induction h generalizing n with
 |nil=>rw[av,av];exact .nil
 |cons r t ih=>cases n with
  |zero=>exact .nil
  |succ n=>exact .cons r (ih n)
theorem dy.drop:∀{xs:List V} {a:List cE} (n:Nat),dy xs a->dy (xs.drop n) (a.drop n):=by
 intro xs a n h
 induction h generalizing n with
 |nil=>rw[aw,aw];exact .nil
 |cons r t ih=>cases n with
  |zero=>exact .cons r t
  |succ n=>exact ih n
def my:Option V->Option cE->Prop
 |some v,Z u=>de v u
 |none,Y=>True
 |_,_=>False
def KV{κ:Type}:List (κ×V)->List (κ×cE)->Prop:=Paired λ(p:κ×V) (q:κ×cE)=>p.1=q.1/\de p.2 q.2
noncomputable def kV:Key->V
 | .inl i=>.int i
 | .inr x=>.str x
inductive HO where
 /-- a list -/
 |lst (xs:List V)
 /-- a tuple (never changes) -/
 |tup (xs:List V)
 /-- a dict whose keys are ints and texts; one whose keys are tuples of ints and texts (the empty one is both) -/
 |dK (kvs:List (Key×V))|dT (kvs:List (List Key×V))
 /-- a set of ints: its members, its size -/
 |set (S:Int->Bool) (n:Nat)
 /-- an instance of the class at C, its dict at dx, its attributes -/
 |ins (C dx:cG) (fs:List (Str×V))
 /-- the dict of the instance at x -/
 |own (x:cG)
 /-- the dict of an exception -/
 |xd (fs:List (Str×V))
 /-- a bound method, f of x -/
 |met (f x:cG)
 /-- a range object lo, lo + 1, .. below hi -/
 |rng (lo hi:Int)
 /-- a thing that is known to the object (the script; a dict while a loop walks it): read, never written while it is so -/
 |frz (o:Obj) (u:HO)
 /-- a code object's table -/
 |tbl (ps:Array cE)
 /-- any other thing, by what is true of its one object (a def of one's own: SetO a S n := HO.ext λh => ..) -/
 |ext (φ:cP->Prop)
abbrev Hp:=cG->Option HO
noncomputable def upd(H:Hp)(a:cG)(o:HO):Hp:=λb=>if b=a then Z o else H b
theorem dr{H:Hp}{a:cG}{o:HO}:upd H a o a=Z o:=by unfold upd;rw[ak O]
theorem di{H:Hp}{a b:cG}{o:HO}(h:b≠a):upd H a o b=H b:=by unfold upd;rw[aj h]
theorem Eb{H:Hp}{a b:cG}{o u:HO}(h:H a=Z o)(h':H b=Z u)(d:o≠u):a≠b:=by
 intro e;subst e;rw[h]at h';exact d (Option.some.inj h')
theorem dA{H:Hp}{a b:cG}{o:HO}(h:H a=Z o)(h':H b=Y):a≠b:=by
 intro e;subst e;rw[h]at h';cases h'
section
variable(P:cH) (w:cJ)
def dZ(H:Hp)(h:cP)(a:cG):HO->Prop
 | .lst xs=>xs.length<=cN /\ ∃(its:List cE) (n:Nat),dy xs its/\h.get? a=Z {cls:=.type "list",data:=.seq its.toArray n}
 | .tup xs=>xs.length<=cN /\ ∃its:List cE,dy xs its/\IsTup h a its.toArray
 | .dK kvs=>kvs.length<=cN/\(a == sysModules)=J /\ ∃vs,KV kvs vs/\h.DictOf (d0 P w) a vs
 | .dT kvs=>kvs.length<=cN/\(a == sysModules)=false /\ ∃ xs:List (List Key×cG×cE),
   Paired (λ(p:List Key×V) (q:List Key×cG×cE)=>p.1=q.1/\H q.2.1=Z (.tup (p.1.map kV))/\de p.2 q.2.2) kvs xs /\
   ∃o es ep,h.get? a=Z o/\o.ExactDict/\o.data = .dict es ep/\es.toList=xs.map (entryOfKey (tupleKind (d0 P w)))/\(xs.map (·.1)).Nodup
 | .set S n=>h.SetOf (intKind P w) a S n
 | .ins C dx fs=>H dx=some (.own a)/\fs.length<=1000/\dx≠a/\h.get? a=some (PySem.W.instObj C dx) /\
   ∃mA,h.Ns1 dx mA/\(∀f,my (fs.lookup f) (mA f))/\PySem.Within mA (fs.map (·.1))
 | .own _=>∃o,h.get? a=Z o
 | .xd fs=>∃mA,h.Ns1 a mA /\ ∀f,my (fs.lookup f) (mA f)
 | .rng lo hi=>∃t u v,h.get? a=Z {cls:=.type "range",data:=.fields #[.int lo t,.int hi u,.int 1 v]}
 | .frz o u=>h.get? a=Z o/\dZ H h a u
 | .tbl ps=>h.get? a=Z {cls:=.none,data:=.fields ps}
 | .met f x=>h.get? a=Z (PySem.W.methodObj (.ref f) (.ref x))
 | .ext φ=>φ h/\(∃o,h.get? a=Z o) /\ ∀h1 h2:cP,φ h1->(∀o,h1.get? a=Z o->h2.get? a=Z o)->φ h2
def jB(H:Hp)(h:cP):Prop:=∀a o,H a=Z o->dZ P w H h a o
end
section
variable{P:cH}{w:cJ}{H H':Hp}{h h':cP}{a:cG}{o:HO}
theorem dZ.lt(x:dZ P w H h a o):a<h.objs.size:=by
 cases o with
 |lst xs=>obtain⟨_,_,_,_,e⟩:=x;exact hL1 e
 |tup xs=>obtain⟨_,_,_,p⟩:=x;exact p.lt
 |dK kvs=>obtain⟨_,_,_,_,o,_,_,e,_⟩:=x;exact hL1 e
 |dT kvs=>obtain⟨_,_,_,_,o,_,_,e,_⟩:=x;exact hL1 e
 |set S n=>obtain⟨o,_,_,_,e,_⟩:=x;exact hL1 e
 |ins C dx fs=>obtain⟨_,_,_,e,_⟩:=x;exact hL1 e
 |own y=>obtain⟨_,e⟩:=x;exact hL1 e
 |xd fs=>obtain⟨_,⟨_,_,_,e,_⟩,_⟩:=x;exact hL1 e
 |rng lo hi=>obtain⟨_,_,_,e⟩:=x;exact hL1 e
 |frz b u=>obtain⟨e,_⟩:=x;exact hL1 e
 |tbl ps=>exact hL1 (show h.get? a=Z _ from x)
 |met f y=>exact hL1 (show h.get? a=Z _ from x)
 |ext φ=>obtain⟨_,⟨_,e⟩,_⟩:=x;exact hL1 e
theorem Paired.mapP{α β:Type}{F G:α->β->Prop}:∀{l₁:List α} {l₂:List β},Paired F l₁ l₂->(∀a b,F a b->G a b)->Paired G l₁ l₂:=by
 intro a b h f
 induction h with
 |nil=>exact .nil
 |cons r t ih=>exact .cons (f _ _ r) ih
theorem dZ.stay(x:dZ P w H h a o)(k:∀ b u,(b=a\/H b=Z (.own a))->h.get? b=Z u->h'.get? b=Z u)(ho:∀b,H b=Z (.own a)->H' b=Z (.own a))(ht:∀b xs,H b=Z (.tup xs)->H' b=Z (.tup xs)):dZ P w H' h' a o:=by
 induction o with
 |lst xs=>obtain⟨z,i,n,r,e⟩:=x;exact⟨z,i,n,r,k _ _ (.inl O) e⟩
 |tup xs=>obtain⟨z,i,r,g,e,c⟩:=x;exact⟨z,i,r,g,k _ _ (.inl O) e,c⟩
 |dK kvs=>obtain⟨z,y,vs,r,g,es,ep,e,c⟩:=x;exact⟨z,y,vs,r,g,es,ep,k _ _ (.inl O) e,c⟩
 |dT kvs=>
  obtain⟨z,y,xs,r,g,es,ep,e,c⟩:=x;exact⟨z,y,xs,Paired.mapP r λp q z=>⟨z.1,ht _ _ z.2.1,z.2.2⟩,g,es,ep,k _ _ (.inl O) e,c⟩
 |set S n=>obtain⟨g,es,ep,t,e,c⟩:=x;exact⟨g,es,ep,t,k _ _ (.inl O) e,c⟩
 |ins C dx fs=>
  obtain⟨d,z,ne,e,mA,⟨j,es,ep,l,c⟩,r⟩:=x;exact⟨ho _ d,z,ne,k _ _ (.inl O) e,mA,⟨j,es,ep,k _ _ (.inr d) l,c⟩,r⟩
 |own y=>obtain⟨g,e⟩:=x;exact⟨g,k _ _ (.inl O) e⟩
 |xd fs=>obtain⟨mA,⟨j,es,ep,e,c⟩,r⟩:=x;exact⟨mA,⟨j,es,ep,k _ _ (.inl O) e,c⟩,r⟩
 |rng lo hi=>obtain⟨t,u,v,e⟩:=x;exact⟨t,u,v,k _ _ (.inl O) e⟩
 |frz g u ih=>obtain⟨e,q⟩:=x;exact⟨k _ _ (.inl O) e,ih q⟩
 |tbl ps=>
  have e:h.get? a=Z {cls:=.none,data:=.fields ps}:=x;show h'.get? a=Z {cls:=.none,data:=.fields ps};exact k a _ (.inl O) e
 |met f y=>
  have e:h.get? a=Z (PySem.W.methodObj (.ref f) (.ref y)):=x;show h'.get? a=Z (PySem.W.methodObj (.ref f) (.ref y));exact k a _ (.inl O) e
 |ext φ=>obtain⟨p,⟨o,e⟩,st⟩:=x;exact⟨st _ _ p λo q=>k _ _ (.inl O) q,⟨o,k _ _ (.inl O) e⟩,st⟩
theorem jB.lt(x:jB P w H h)(e:H a=Z o):a<h.objs.size:=(x a o e).lt
theorem jB.fresh(x:jB P w H h)(e:h.objs.size<=a):H a=Y:=by
 cases q:H a with
 |none=>rfl
 |some u=>exact absurd (nL1 (x.lt q) e) (az _)
theorem jB.kept(x:jB P w H h)(k:∀b u,h.get? b=Z u->h'.get? b=Z u):jB P w H h':=λa o e=>
 (x a o e).stay (λb u _ q=>k b u q) (λ_ q=>q) λ_ _ q=>q
theorem jB.laid(x:jB P w H h)(k:∀b u,h.get? b=Z u->h'.get? b=Z u)(hp:h.objs.size<=a)(new:dZ P w (upd H a o) h' a o):jB P w (upd H a o) h':=λb u e=>by
 have d:=x.fresh hp;by_cases f:b=a
 ·subst f;rw[dr]at e;cases e;exact new
 ·rw[di f]at e;exact(x b u e).stay (λc v _ q=>k c v q) (λc q=>by rw[di (dA q d)];exact q) λc xs q=>by rw[di (dA q d)];exact q
end
def Rd(H:Hp)(a:cG)(u:HO):Prop:=H a=Z u \/ ∃o,H a=Z (.frz o u)
theorem Rd.ok{P:cH}{w:cJ}{H:Hp}{h:cP}{a:cG}{u:HO}(r:Rd H a u)(x:jB P w H h):dZ P w H h a u:=by
 rcases r with r|⟨o,r⟩
 ·exact x a u r
 ·obtain⟨_,q⟩:=x a _ r;exact q
def Dd:Option HO->Prop
 |some (.lst _)=>True
 |some (.dK _)=>True
 |some (.dT _)=>True
 |some (.set _ _)=>True
 |some (.ins _ _ _)=>True
 |some (.ext _)=>True
 |_=>False
section
variable{P:cH}{w:cJ}{H:Hp}{h h':cP}{x e:cG}{o':HO}
theorem jB.write(ok:jB P w H h)(mu:Dd (H x))(he:e=x\/H e=Z (.own x))(k:∀ b u,b≠e->h.get? b=Z u->h'.get? b=Z u)(i:∃ u,h'.get? e=Z u)(new:dZ P w (upd H x o') h' x o'):jB P w (upd H x o') h':=λb u q=>by
 have d:∀c y,H c=Z (.own y)->c≠x:=λc y r z=>by subst z;rw[r]at mu;exact mu
 have f:∀c xs,H c=Z (.tup xs)->c≠x:=λc xs r z=>by subst z;rw[r]at mu;exact mu
 by_cases g:b=x
 ·subst g;rw[dr]at q;cases q;exact new
 ·rw[di g]at q;by_cases a:b=e
  ·have j:H b=some (.own x):=by
    rcases he with z|z
    ·exact absurd (a.trans z) g
    ·rw[a];exact z
   rw[q]at j;cases j;obtain⟨v,l⟩:=i;exact⟨v,by rw[a];exact l⟩
  ·refine(ok b u q).stay (λc v hc r=>k c v ?_ r) (λc r=>by rw[di (d c b r)];exact r) λc xs r=>by rw[di (f c xs r)];exact r
   rcases hc with rfl|hc
   ·exact a
   ·rintro rfl;rcases he with z|z
    ·exact d c b hc z
    ·rw[hc]at z;cases z;exact g O
end
structure Un (fs ex:List cG)(H H':Hp)(h h':cP):Prop where
 keep:∀b o,h.get? b=some o->H b=none->b∉fs->b∉ex->h'.get? b=some o
 slot:∀b o,h.get? b=some o->H b=none->b∈fs->b∉ex -> ∃sl,h'.get? b=some {o with slots:=sl}
 free:∀b o,h.get? b=some o->H b=none->b∉ex->H' b=none
 there:∀b o,h.get? b=some o->b∉ex -> ∃o',h'.get? b=some o'
 tups:∀b xs,H b=some (.tup xs)->H' b=some (.tup xs)
 frzs:∀b o u,H b=some (.frz o u)->H' b=some (.frz o u)
 tbls:∀b ps,H b=some (.tbl ps) -> ∃more,H' b=some (.tbl (ps++more))
section
variable{fs fs' ex ex':List cG}{H H1 H2:Hp}{h h1 h2 h':cP}{a x e:cG}{o:HO}
theorem Un.any(u:Un fs ex H H1 h h1){b:cG}{a:Obj}(q:h.get? b=Z a)(n:H b=Y)(hx:b∉ex):∃d,h1.get? b=Z {a with slots:=d}:=by
 by_cases c:b∈fs
 ·exact u.slot b a q n c hx
 ·exact⟨a.slots,u.keep b a q n c hx⟩
theorem Un.trans(a:Un fs ex H H1 h h1)(b:Un fs ex H1 H2 h1 h2):Un fs ex H H2 h h2 where
 keep:=λc e q n hc d=>b.keep c e (a.keep c e q n hc d) (a.free c e q n d) hc d
 slot:=λc e q n hc d=>by
  obtain⟨j,f⟩:=a.slot c e q n hc d;obtain⟨g,i⟩:=b.slot c _ f (a.free c e q n d) hc d;exact⟨g,i⟩
 free:=λc e q n d=>by
  obtain⟨o',f⟩:=a.there c e q d;exact b.free c o' f (a.free c e q n d) d
 there:=λc e q d=>by
  obtain⟨o',f⟩:=a.there c e q d;exact b.there c o' f d
 tups:=λc xs q=>b.tups c xs (a.tups c xs q)
 frzs:=λc e xs q=>b.frzs c e xs (a.frzs c e xs q)
 tbls:=λc ps q=>by
  obtain⟨m1,f⟩:=a.tbls c ps q;obtain⟨m2,i⟩:=b.tbls c _ f;exact⟨m1++m2,by rw[i,Array.append_assoc]⟩
theorem Un.kept(k:∀b u,h.get? b=Z u->h'.get? b=Z u):Un fs ex H H h h':=
 ⟨λb a q _ _ _=>k b a q,λb a q _ _ _=>⟨a.slots,k b a q⟩,λ_ _ _ n _=>n,λb a q _=>⟨a,k b a q⟩,λ_ _ q=>q,λ_ _ _ q=>q,λ_ ps q=>⟨#[],by rw[q];simp⟩⟩
theorem Un.refl:Un fs ex H H h h:=Un.kept λ_ _ q=>q
theorem Un.laid(k:∀b u,h.get? b=Z u->h'.get? b=Z u)(hp:h.objs.size<=a)(hn:H a=Y):Un fs ex H (upd H a o) h h' where
 keep:=λb u q _ _ _=>k b u q
 slot:=λb u q _ _ _=>⟨u.slots,k b u q⟩
 free:=λb u q n _=>by rw[di (nN1 (nL1 (hL1 q) hp))];exact n
 there:=λb u q _=>⟨u,k b u q⟩
 tups:=λb xs q=>by rw[di (dA q hn)];exact q
 frzs:=λb u xs q=>by rw[di (dA q hn)];exact q
 tbls:=λb ps q=>⟨#[],by rw[di (dA q hn),q];simp⟩
theorem Un.write(mu:Dd (H x))(he:e=x\/H e=Z (.own x))(k:∀b u,b≠e->h.get? b=Z u->h'.get? b=Z u)(c:∃u,h'.get? e=Z u):Un fs ex H (upd H x o) h h':=by
 have g:∀b,H b=Y->b≠x:=λb n z=>by subst z;rw[n]at mu;exact mu
 have f:∀b,H b=Y->b≠e:=λb n z=>by
  subst z;rcases he with r|r
  ·exact g b n r
  ·rw[n]at r;cases r
 have d:∀b u,H b=Z u -> ¬ Dd (Z u)->b≠x:=λb u q nm z=>by subst z;rw[q]at mu;exact nm mu
 refine⟨λb u q n _ _=>k b u (f b n) q,λb u q n _ _=>⟨u.slots,k b u (f b n) q⟩,λb u q n _=>by rw[di (g b n)];exact n,λb u q _=>?_,
  λb xs q=>by rw[di (d b _ q λz=>z)];exact q,λb u xs q=>by rw[di (d b _ q λz=>z)];exact q,λb ps q=>⟨#[],by rw[di (d b _ q λz=>z),q];simp⟩⟩
 by_cases a:b=e
 ·subst a;exact c
 ·exact⟨u,k b u a q⟩
end
noncomputable def trk(h:cP)(H:Hp):List cG:=(af h.objs.size).filter λa=>(H a).isSome
noncomputable def oy(h:cP)(H:Hp):cP:=PySem.W.hideAll h (trk h H)
theorem uJ(h:cP)(H:Hp):(oy h H).objs.size=h.objs.size:=PySem.W.hideAll_size _ _
theorem xl{h:cP}{H:Hp}{b:cG}{o:Obj}(e:h.get? b=Z o)(n:H b=Y):(oy h H).get? b=Z o:=
 PySem.W.hideAll_get _ e λa=>by
  have q:(H b).isSome=M:=(aA.mp a).2;rw[n]at q;simp at q
theorem zi{h:cP}{H:Hp}{b:cG}{o:Obj}(e:(oy h H).get? b=Z o):h.get? b=Z o/\H b=Y:=by
 have a:h.get? b=Z o:=PySem.W.of_hideAll (trk h H) e;refine⟨a,?_⟩;cases q:H b with
 |none=>rfl
 |some x=>
  have c:b∈trk h H:=aA.mpr ⟨aB.mpr (hL1 a),by simp[q]⟩;have z:(oy h H).get? b=Y:=PySem.W.hideAll_none (trk h H) c;rw[z]at e;cases e
noncomputable def Ap(g h:cP)(L:cG):List (cG×Obj):=(af h.objs.size).filterMap λa=>if a=L\/(g.get? a).isSome=M then Y else(h.get? a).map λo=>(a,o)
noncomputable def rest(g h:cP)(L d:cG):List (cG×Obj):=(Ap g h L).filter λp=>decide (p.1≠d)
end L2
namespace L2
open PySem PySem.Spec PyProof.Rows
structure Mod (K:Fg1)(mg:Str->Option cE)(base:cP):Prop where
 kin:K.In base
 glob:base.Ns cK mg
 blt:∃mb,base.Ns builtinsNs mb /\ ∀x:Str,x≠"__name__"->mb x=bootBuiltins x
 nolimit:base.NoLimit
structure Cx where
 prog:cH
 w:cJ
 K:Fg1
 mg:Str->Option cE
 base:cP
 A:cI
 N:List Str
 s₀:cF
 H₀:Hp
 env:Env
 outer:List Env
 stack:List Env
 ex:List cG
 fn:Str->Bool
 calm:Bool
 pn:List (cG×Obj)
 xe:cE->cF->Prop
noncomputable def frs(l:List Env):List cG:=l.filterMap (·.frame)
abbrev Cx.fs(X:Cx):List cG:=frs X.outer
def Vis(sc:cS)(x:Str):Prop:=sc.names.lookup x=Z .local\/sc.names.lookup x=Z .cell\/sc.names.lookup x=Z .free
def sw(sc:cS)(x:Str):Prop:=sc.names.lookup x=Z .local\/sc.names.lookup x=Z .cell
def Gh(env:Env)(h:cP)(m:Str->Option cE)(x:Str)(u:cE):Prop:=
 (env.kindOf x=Z .local/\m x=Z u)\/((env.kindOf x=Z .cell\/env.kindOf x=Z .free) /\ ∃c,env.cells.lookup x=Z c/\h.IsCell c (Z u))
structure Cx.Ok (X:Cx):Prop where
 mod:Mod X.K X.mg X.base
 kind:X.env.scope.kind = .function
 glob:X.env.globals=cK
 blt:X.env.builtins=builtinsNs
 above:X.s₀.heap.objs.size<=X.env.locals
 inj:∀x y c,X.env.cells.lookup x=some c->X.env.cells.lookup y=some c->x=y
 has:∀x,(X.env.kindOf x=some .cell\/X.env.kindOf x=some .free) -> ∃c,X.env.cells.lookup x=some c
 cab:∀x c,X.fn x=true->X.env.cells.lookup x=some c->X.s₀.heap.objs.size<=c
 hd:X.calm=true->X.A.handled=none
 frames:X.A.frames=some X.stack
 stk:X.stack=X.outer\/(X.stack=X.env::X.outer/\X.env.frame=some X.env.locals)
 exf:∀b∈X.ex,b≠X.env.locals /\ ∀x c,X.env.cells.lookup x=some c->c≠b
 bs:∀b o,X.base.get? b=some o->X.s₀.heap.get? b=some o/\X.H₀ b=none
 bsz:X.base.objs.size<=X.s₀.heap.objs.size
 noex:∀b o,X.base.get? b=some o->b∉X.ex
 exfs:∀b∈X.ex,b∉X.fs
 funs:X.s₀.heap.FunFrames X.base X.outer
 frf:∀b∈X.fs,X.H₀ b=none
structure Inv (X:Cx)(ag:List (cG×Obj))(σ:List (Option V))(H:Hp)(s:cF):Prop where
 ok:X.Ok
 os:s.os=X.s₀.os
 bare:AllBare s.gens
 base:Un X.fs X.ex X.H₀ H X.s₀.heap s.heap
 loc:∃m,s.heap.Ns X.env.locals m /\ ∀(i:Nat) (x:Str) (v:V),X.N[i]?=some x->σ[i]?=some (some v)->Vis X.env.scope x -> ∃u,de v u/\Gh X.env s.heap m x u
 cell:∀x c,X.env.cells.lookup x=some c -> ∃v,s.heap.IsCell c v
 free:H X.env.locals=none
 freeC:∀x c,X.env.cells.lookup x=some c->H c=none
 pin:∀p∈X.pn++ag,s.heap.get? p.1=some p.2/\H p.1=none/\p.1≠X.env.locals/\p.1∉X.fs /\ ∀v,p.2.data ≠ .cell v
 hok:jB X.prog X.w H s.heap
 len:σ.length=X.N.length
section
variable{X:Cx}{ag:List (cG×Obj)}{σ:List (Option V)}{H H':Hp}{s:cF}{h':cP}
theorem Cx.Ok.nofr(ok:X.Ok){b:cG}{o:Obj}(e:X.base.get? b=Z o):b∉X.fs:=λa=>by
 have:=(ok.funs.mem a).1;rw[e]at this;cases this
theorem Inv.bs(I:Inv X ag σ H s):∀b o,X.base.get? b=Z o->s.heap.get? b=Z o/\H b=Y:=λb o e=>
 ⟨I.base.keep b o (I.ok.bs b o e).1 (I.ok.bs b o e).2 (I.ok.nofr e) (I.ok.noex b o e),I.base.free b o (I.ok.bs b o e).1 (I.ok.bs b o e).2 (I.ok.noex b o e)⟩
theorem Inv.bk(I:Inv X ag σ H s):∀b o,X.base.get? b=Z o->s.heap.get? b=Z o:=λb o e=>(I.bs b o e).1
theorem Inv.mod(I:Inv X ag σ H s):Mod X.K X.mg X.base:=I.ok.mod
theorem Inv.kIn(I:Inv X ag σ H s):X.K.In s.heap:=I.ok.mod.kin.keeps I.bk
theorem Inv.lt(I:Inv X ag σ H s):X.env.locals<s.heap.objs.size:=let ⟨_,hn,_⟩:=I.loc;hn.lt
theorem Inv.sz(I:Inv X ag σ H s):X.s₀.heap.objs.size<=s.heap.objs.size:=aC I.ok.above (Nat.le_of_lt I.lt)
theorem Inv.nofs(I:Inv X ag σ H s){a:cG}(h:s.heap.objs.size<=a):a∉X.fs:=λc=>by
 obtain⟨_,o,b,_⟩:=I.ok.funs.mem c;exact absurd (nL1 (hL1 b) (aC I.sz h)) (az _)
theorem Inv.cne(I:Inv X ag σ H s):∀x c,X.env.cells.lookup x=Z c->c≠X.env.locals:=λx c e z=>by
 obtain⟨v,o,f,d⟩:=I.cell x c e;obtain⟨m,⟨o',es,ep,a,b,_⟩,_⟩:=I.loc;rw[z,a]at f;cases f;rw[b]at d;cases d
theorem Inv.funs(I:Inv X ag σ H s):s.heap.FunFrames X.base X.outer:=by
 have all:∀(l:List Env),(∀b∈frs l,b∈X.fs)->X.s₀.heap.FunFrames X.base l->s.heap.FunFrames X.base l:=by
  intro l
  induction l with
  |nil=>intro _ _;trivial
  |cons g r ih=>
   intro f n;obtain⟨m,⟨L,o,c,h,i,j⟩,k⟩:=n;have d:L∈X.fs:=f L (by unfold frs;rw[aD,c];exact mS1);obtain⟨p,e⟩:=I.base.slot L o i (I.ok.frf L d) d λz=>I.ok.exfs L z d;exact⟨m,⟨L,_,c,h,e,j⟩,ih (λb a=>f b (by unfold frs;rw[aD,c];exact mC1 _ a)) k⟩
 exact all X.outer (λ_ a=>a) I.ok.funs
theorem Inv.stack(I:Inv X ag σ H s):s.heap.FunFrames X.base X.stack:=by
 rcases I.ok.stk with e|⟨e,b⟩
 ·rw[e];exact I.funs
 ·rw[e];obtain⟨m,a,_⟩:=I.loc;refine .cons (by rw[I.ok.kind];decide) b a ?_ I.funs;exact Heap.get?_none_of_le (aC I.ok.bsz I.ok.above)
theorem Inv.stkSub(I:Inv X ag σ H s):∀b∈frs X.stack,b∈X.env.locals::X.fs:=λb a=>by
 rcases I.ok.stk with e|⟨e,c⟩
 ·rw[e]at a;exact mC1 _ a
 ·rw[e]at a;unfold frs at a;rw[aD,c]at a;exact a
theorem Inv.stkFree(I:Inv X ag σ H s):∀b∈frs X.stack,H b=Y:=λb a=>by
 rcases aE.mp (I.stkSub b a)with e|a
 ·rw[e];exact I.free
 ·obtain⟨_,o,c,_⟩:=I.ok.funs.mem a;exact I.base.free b o c (I.ok.frf b a) λz=>I.ok.exfs b z a
theorem Inv.step{g':Array GenState}{t':Nat}{d':Drawn}{ch:List cG}(I:Inv X ag σ H s)(f:∀b∈ch,(b∈X.ex\/X.s₀.heap.objs.size<=b)/\b≠X.env.locals/\(∀x c,X.env.cells.lookup x=some c->c≠b) /\ ∀p∈X.pn++ag,p.1≠b)(keep:∀b o,b≠X.env.locals->b∉X.fs->b∉ch->s.heap.get? b=some o->H b=none->h'.get? b=some o)(slot:∀b o,b≠X.env.locals->b∈X.fs->b∉ch->s.heap.get? b=some o->H b=none -> ∃K,h'.get? b=some {o with slots:=K})(free:∀b o,b∉ch->s.heap.get? b=some o->H b=none->H' b=none)(w:∀b o,b∉ch->s.heap.get? b=some o -> ∃o',h'.get? b=some o')(F:∀b xs,H b=some (.tup xs)->H' b=some (.tup xs))(B:∀b o u,H b=some (.frz o u)->H' b=some (.frz o u))(E:∀b ps,H b=some (.tbl ps) -> ∃more,H' b=some (.tbl (ps++more)))(ns:∀m,s.heap.Ns X.env.locals m->h'.Ns X.env.locals m)(L:jB X.prog X.w H' h')(hg:AllBare g'):
  Inv X ag σ H' {s with heap:=h',gens:=g',drawn:=d',toks:=t'}:=by
 have D:∀b o,X.s₀.heap.get? b=Z o->b≠X.env.locals:=λb o e=>nN1 (nL1 (hL1 e) I.ok.above);have t:∀b o,X.s₀.heap.get? b=Z o->b∉X.ex->b∉ch:=λb o e a y=>by
  rcases(f b y).1 with z|z
  ·exact a z
  ·exact absurd (nL1 (hL1 e) z) (az _)
 have h:∀x c,X.env.cells.lookup x=Z c -> ∀v,s.heap.IsCell c v->h'.IsCell c v:=λx c e v ⟨o,A,G⟩=>by
  have g:c∉ch:=λz=>(f c z).2.2.1 x c e O;by_cases hc:c∈X.fs
  ·obtain⟨K,q⟩:=slot c o (I.cne x c e) hc g A (I.freeC x c e);exact⟨_,q,G⟩
  ·exact⟨o,keep c o (I.cne x c e) hc g A (I.freeC x c e),G⟩
 refine⟨I.ok,I.os,hg,⟨λb o e n y a=>?_,λb o e n y a=>?_,λb o e n a=>?_,λb o e a=>?_,λb xs e=>F b xs (I.base.tups b xs e),λb o xs e=>B b o xs (I.base.frzs b o xs e),λb ps e=>?_⟩,?_,λx c e=>?_,?_,λx c e=>?_,λp ao=>?_,L,I.len⟩
 ·exact keep b o (D b o e) y (t b o e a) (I.base.keep b o e n y a) (I.base.free b o e n a)
 ·obtain⟨K,j⟩:=I.base.slot b o e n y a;obtain⟨am,C⟩:=slot b _ (D b o e) y (t b o e a) j (I.base.free b o e n a);exact⟨am,C⟩
 ·obtain⟨o',j⟩:=I.base.there b o e a;exact free b o' (t b o e a) j (I.base.free b o e n a)
 ·obtain⟨o',j⟩:=I.base.there b o e a;exact w b o' (t b o e a) j
 ·obtain⟨m1,j⟩:=I.base.tbls b ps e;obtain⟨m2,C⟩:=E b _ j;exact⟨m1++m2,by rw[C,Array.append_assoc]⟩
 ·obtain⟨m,P,au⟩:=I.loc;refine⟨m,ns m P,λi x v j C Q=>?_⟩;obtain⟨u,r,l⟩:=au i x v j C Q;refine⟨u,r,?_⟩;rcases l with l|⟨k,c,e,z⟩
  ·exact .inl l
  ·exact .inr ⟨k,c,e,h x c e _ z⟩
 ·obtain⟨v,z⟩:=I.cell x c e;exact⟨v,h x c e v z⟩
 ·obtain⟨m,⟨o,_,_,A,_⟩,_⟩:=I.loc;exact free _ o (λz=>(f _ z).2.1 O) A I.free
 ·obtain⟨v,o,A,G⟩:=I.cell x c e;exact free c o (λz=>(f c z).2.2.1 x c e O) A (I.freeC x c e)
 ·obtain⟨e,n,ne,N,d⟩:=I.pin p ao;have g:p.1∉ch:=λz=>(f p.1 z).2.2.2 p ao O;exact⟨keep p.1 p.2 ne N g e n,free p.1 p.2 g e n,ne,N,d⟩
theorem Inv.un{t':Nat}(I:Inv X ag σ H s)(u:Un X.fs [] H H' s.heap h')(f:jB X.prog X.w H' h'):Inv X ag σ H' {s with heap:=h',toks:=t'}:=by
 obtain⟨m,⟨o,es,ep,h,r⟩,_⟩:=id I.loc;obtain⟨p,j⟩:=u.any h I.free (by simp);exact I.step (g':=s.gens) (d':=s.drawn) (ch:=[]) (λ_ z=>nomatch z) (λb o _ c _ e n=>u.keep b o e n c (by simp)) (λb o _ c _ e n=>u.slot b o e n c (by simp)) (λb o _ e n=>u.free b o e n (by simp)) (λb o _ e=>u.there b o e (by simp)) u.tups u.frzs u.tbls (λl i=>by
  obtain⟨o',d,g,a,k⟩:=i;rw[h]at a;cases a;exact⟨_,d,g,j,k⟩) f I.bare
theorem Inv.call{g':Array GenState}{t':Nat}{d':Drawn}{ch:List cG}(I:Inv X ag σ H s)(u:Un (frs X.stack) ch H H' s.heap h')(g:jB X.prog X.w H' h')(hg:AllBare g')(d:∀b∈ch,(b∈X.ex\/X.s₀.heap.objs.size<=b)/\b≠X.env.locals/\(∀x c,X.env.cells.lookup x=some c->c≠b) /\ ∀p∈X.pn++ag,p.1≠b):
  Inv X ag σ H' {s with heap:=h',gens:=g',drawn:=d',toks:=t'}:=by
 obtain⟨m,⟨o,es,ep,j,r⟩,_⟩:=id I.loc;obtain⟨v,h⟩:=u.any j I.free λz=>(d _ z).2.1 O;exact I.step (ch:=ch) d (λb o h k hc e n=>u.keep b o e n (λz=>(aE.mp (I.stkSub b z)).elim h k) hc) (λb o _ _ hc e n=>u.any e n hc) (λb o hc e n=>u.free b o e n hc) (λb o hc e=>u.there b o e hc) u.tups u.frzs u.tbls (λt l=>by
  obtain⟨o',f,i,a,q⟩:=l;rw[j]at a;cases a;exact⟨_,f,i,h,q⟩) g hg
theorem Inv.turned{t':Nat}{it:cG}(I:Inv X ag σ H s)(k:∀ b o,b≠it->s.heap.get? b=Z o->h'.get? b=Z o)(hn:H it=Y)(d:it≠X.env.locals)(h1:it∈X.ex\/X.s₀.heap.objs.size<=it)(h2:∀x c,X.env.cells.lookup x=Z c->c≠it)(i:∀p∈X.pn++ag,p.1≠it):Inv X ag σ H {s with heap:=h',toks:=t'}:=by
 have a:∀b u,H b=Z u->b≠it:=λb u e z=>by rw[z,hn]at e;cases e
 refine I.step (g':=s.gens) (d':=s.drawn) (ch:=[it]) (λb f=>?_) (λb o _ _ hc e _=>k b o (λz=>hc (by simp[z])) e) (λb o _ _ hc e _=>⟨o.slots,k b o (λz=>hc (by simp[z])) e⟩) (λ_ _ _ _ n=>n)
  (λb o hc e=>⟨o,k b o (λz=>hc (by simp[z])) e⟩) (λ_ _ e=>e) (λ_ _ _ e=>e) (λb ps e=>⟨#[],by rw[e];simp⟩) (λm g=>?_) (λb u e=>?_) I.bare
 ·have e:b=it:=by simpa using f
  subst e;exact⟨h1,d,h2,i⟩
 ·obtain⟨o,es,ep,h,r⟩:=g;exact⟨o,es,ep,k _ o (Ne.symm d) h,r⟩
 ·refine(I.hok b u e).stay (λc v hc q=>k c v ?_ q) (λ_ q=>q) λ_ _ q=>q;rcases hc with z|z
  ·rw[z];exact a b u e
  ·exact a c _ z
theorem Inv.tok(I:Inv X ag σ H s)(t:Nat):Inv X ag σ H {s with toks:=t}:=I.un (h':=s.heap) (t':=t) Un.refl I.hok
theorem Inv.kept{t':Nat}(I:Inv X ag σ H s)(k:∀b u,s.heap.get? b=Z u->h'.get? b=Z u):Inv X ag σ H {s with heap:=h',toks:=t'}:=I.un (Un.kept k) (I.hok.kept k)
theorem Inv.laid{a:cG}{o:HO}{t':Nat}(I:Inv X ag σ H s)(k:∀ b u,s.heap.get? b=some u->h'.get? b=some u)(hp:s.heap.objs.size<=a)(new:dZ X.prog X.w (upd H a o) h' a o):
  Inv X ag σ (upd H a o) {s with heap:=h',toks:=t'}:=I.un (Un.laid k hp (I.hok.fresh hp)) (I.hok.laid k hp new)
theorem Inv.write{x e:cG}{o:HO}{t':Nat}(I:Inv X ag σ H s)(mu:Dd (H x))(he:e=x\/H e=Z (.own x))(k:∀ b u,b≠e->s.heap.get? b=Z u->h'.get? b=Z u)(a:∃ u,h'.get? e=Z u)(new:dZ X.prog X.w (upd H x o) h' x o):Inv X ag σ (upd H x o) {s with heap:=h',toks:=t'}:=I.un (Un.write mu he k a) (I.hok.write mu he k a new)
theorem Inv.pins_of{a:List (cG×Obj)}(I:Inv X ag σ H s)(h:∀p∈a,s.heap.get? p.1=Z p.2/\H p.1=Y/\p.1≠X.env.locals/\p.1∉X.fs /\ ∀v,p.2.data ≠ .cell v):Inv X a σ H s:=
 ⟨I.ok,I.os,I.bare,I.base,I.loc,I.cell,I.free,I.freeC,λp b=>(aF.mp b).elim (λz=>I.pin p (aG _ z)) (h p),I.hok,I.len⟩
theorem pB{N:List Str}(hN:N.Nodup){i j:Nat}{x:Str}(a:N[i]?=Z x)(b:N[j]?=Z x):i=j:=by
 obtain⟨h1,c⟩:=gE1.mp a;obtain⟨h2,d⟩:=gE1.mp b;exact(List.getElem_inj hN).mp (c.trans d.symm)
theorem uh{ao:Model}{A:cI}{E:cE->cF->Prop}{i:Nat}{x:Str}{v:V}{u:cE}{Q:Unit->cF->Prop}(I:Inv X ag σ H s)(hN:X.N.Nodup)(hi:X.N[i]? = Z x)(hx:sw X.env.scope x)(r:de v u)(h:∀s',Inv X ag (σ.set i (Z v)) H s'->(∃a,Heap.SameBut a s.heap s'.heap/\(a=X.env.locals\/X.env.cells.lookup x=Z a))->Q () s')(hf:X.fn x=M\/X.env.scope.names.lookup x=Z .local:=by first|exact .inl rfl|exact .inr rfl|assumption):cO ao A (storeName X.env x u) Q E s:=by
 obtain⟨m,aq,hl⟩:=id I.loc;have G:(X.env.scope.kind == .class||(X.env.scope.kind == .module&&X.env.locals != X.env.globals))=J:=by rw[I.ok.kind];rfl
 have B:i<σ.length:=by rw[I.len];exact(gE1.mp hi).1
 have cne:=I.cne;have tracked:∀{a:cG} {h':cP},(∃o,s.heap.get? a=Z o/\H a=Y)->Heap.SameBut a s.heap h'->jB X.prog X.w H h':=λ{a h'} ha f b ob e=>by
  obtain⟨_,_,l⟩:=ha;refine(I.hok b ob e).stay (λc au hc q=>(f.2 c ?_).trans q) (λ_ q=>q) λ_ _ q=>q;rintro rfl;rcases hc with rfl|hc
  ·rw[l]at e;cases e
  ·rw[l]at hc;cases hc
 rcases hx with w|w
 ·refine wpAny_storeName_local w aq (λh' T f=>?_) G;obtain⟨oL,_,_,R,_⟩:=id aq;refine h _ ⟨I.ok,I.os,I.bare,⟨λb o e n D hx=>?_,λb o e n D hx=>?_,I.base.free,λb o e hx=>?_,I.base.tups,I.base.frzs,I.base.tbls⟩,⟨_,T,λj y v' g t e3=>?_⟩,λy c e=>?_,I.free,I.freeC,λp S=>?_,tracked ⟨oL,R,I.free⟩ f,by simpa using I.len⟩ ⟨_,f,.inl O⟩
  ·exact(f.2 b (nN1 (nL1 (hL1 e) I.ok.above))).trans (I.base.keep b o e n D hx)
  ·obtain⟨wq,g⟩:=I.base.slot b o e n D hx;exact⟨wq,(f.2 b (nN1 (nL1 (hL1 e) I.ok.above))).trans g⟩
  ·obtain⟨o',g⟩:=I.base.there b o e hx;exact⟨o',(f.2 b (nN1 (nL1 (hL1 e) I.ok.above))).trans g⟩
  ·by_cases F:j=i
   ·subst F;rw[hi]at g;cases g;rw[aH B]at t;cases t;exact⟨u,r,.inl ⟨w,by simp⟩⟩
   ·rw[gS1 (Ne.symm F)]at t;obtain⟨u',W,q⟩:=hl j y v' g t e3;refine⟨u',W,?_⟩;rcases q with⟨k,e⟩|⟨k,c,e,z⟩
    ·refine .inl ⟨k,?_⟩;have:y≠x:=λe=>F (pB hN g (e ▸ hi));simp[this,e]
    ·exact .inr ⟨k,c,e,z.sameBut f (cne y c e)⟩
  ·obtain⟨au,z⟩:=I.cell y c e;exact⟨au,z.sameBut f (cne y c e)⟩
  ·obtain⟨e,n,ne,U,d⟩:=I.pin p S;exact⟨(f.2 p.1 ne).trans e,n,ne,U,d⟩
 ·have C:X.fn x=true:=by
   rcases hf with z|z
   ·exact z
   ·rw[z]at w;cases w
  obtain⟨c,hc⟩:=I.ok.has x (.inl w);obtain⟨au,z⟩:=I.cell x c hc;refine wpAny_storeName_cell I.ok.kind w hc z (λh' L f=>?_);obtain⟨oc,am,K⟩:=id z;refine h {s with heap:=h'} ⟨I.ok,I.os,I.bare,⟨λb o e n D hx=>?_,λb o e n D hx=>?_,I.base.free,λb o e hx=>?_,I.base.tups,I.base.frzs,I.base.tbls⟩,⟨m,aq.sameBut f (Ne.symm (cne x c hc)),λj y v' g t e3=>?_⟩,λy P e=>?_,I.free,I.freeC,λp S=>?_,tracked ⟨oc,am,I.freeC x c hc⟩ f,by simpa using I.len⟩ ⟨c,f,.inr hc⟩
  ·exact(f.2 b (nN1 (nL1 (hL1 e) (I.ok.cab x c C hc)))).trans (I.base.keep b o e n D hx)
  ·obtain⟨wq,g⟩:=I.base.slot b o e n D hx;exact⟨wq,(f.2 b (nN1 (nL1 (hL1 e) (I.ok.cab x c C hc)))).trans g⟩
  ·obtain⟨o',g⟩:=I.base.there b o e hx;exact⟨o',(f.2 b (nN1 (nL1 (hL1 e) (I.ok.cab x c C hc)))).trans g⟩
  ·by_cases F:j=i
   ·subst F;rw[hi]at g;cases g;rw[aH B]at t;cases t;exact⟨u,r,.inr ⟨.inl w,c,hc,L⟩⟩
   ·rw[gS1 (Ne.symm F)]at t;obtain⟨u',W,q⟩:=hl j y v' g t e3;refine⟨u',W,?_⟩;rcases q with q|⟨k,P,e,z'⟩
    ·exact .inl q
    ·refine .inr ⟨k,P,e,z'.sameBut f ?_⟩;rintro rfl;exact F (pB hN g (I.ok.inj _ _ _ e hc ▸ hi))
  ·by_cases N:P=c
   ·subst N;exact⟨_,L⟩
   ·obtain⟨w2,z2⟩:=I.cell y P e;exact⟨w2,z2.sameBut f N⟩
  ·obtain⟨e,n,ne,U,d⟩:=I.pin p S;refine⟨(f.2 p.1 ?_).trans e,n,ne,U,d⟩;intro q;rw[q,am]at e;have q':oc=p.2:=Option.some.inj e;exact d au (by rw[<- q'];exact K)
theorem hI{ao:Model}{A:cI}{E:cE->cF->Prop}{i:Nat}{x:Str}{v:V}{u:cE}{Q:Unit->cF->Prop}(I:Inv X ag σ H s)(hN:X.N.Nodup)(hi:X.N[i]? = Z x)(hx:sw X.env.scope x)(r:de v u)(h:∀s',Inv X ag (σ.set i (Z v)) H s'->Q () s')(hf:X.fn x=M\/X.env.scope.names.lookup x=Z .local:=by first|exact .inl rfl|exact .inr rfl|assumption):cO ao A (storeName X.env x u) Q E s:=
 uh I hN hi hx r (λs' a _=>h s' a) hf
theorem Inv.call'{s':cF}{ch:List cG}(I:Inv X ag σ H s)(ho:s'.os=s.os)(u:Un (frs X.stack) ch H H' s.heap s'.heap)(a:jB X.prog X.w H' s'.heap)(hg:AllBare s'.gens)(d:∀b∈ch,(b∈X.ex\/X.s₀.heap.objs.size<=b)/\b≠X.env.locals/\(∀x c,X.env.cells.lookup x=Z c->c≠b) /\ ∀p∈X.pn++ag,p.1≠b):Inv X ag σ H' s':=by
 obtain⟨h',h,g,f,o'⟩:=s';have e:o'=s.os:=ho;subst e;exact I.call (g':=h) (t':=f) (d':=g) u a hg d
end
abbrev XK:=cE->Option cG->Hp->Prop
abbrev St:=List (Option V)
abbrev VK:=V->Hp->Prop
abbrev TE:=St->Hp->VK->Prop
abbrev TT:=St->Hp->(Bool->Hp->Prop)->Prop
abbrev TA:=St->Hp->(List V->Hp->Prop)->Prop
structure im where
 nx:St->Hp->Prop
 rt:VK
 bk:St->Hp->Prop:=λ_ _=>False
 ct:St->Hp->Prop:=λ_ _=>False
abbrev TS:=im->St->Hp->Prop
def EP(X:Cx)(ag:List (cG×Obj))(σ:St)(Q:VK)(u:cE)(s':cF):Prop:=∃v H',Inv X ag σ H' s'/\de v u/\Q v H'
def TP(X:Cx)(ag:List (cG×Obj))(σ:St)(Q:Bool->Hp->Prop)(b:Bool)(s':cF):Prop:=∃H',Inv X ag σ H' s'/\Q b H'
def AP(X:Cx)(ag:List (cG×Obj))(σ:St)(Q:List V->Hp->Prop)(us:List cE)(s':cF):Prop:=∃vs H',Inv X ag σ H' s'/\dy vs us/\Q vs H'
def SP(X:Cx)(ag:List (cG×Obj))(D:im)(f:Flow)(s':cF):Prop:=
 match f with
 | .next=>∃ σ' H',Inv X ag σ' H' s'/\D.nx σ' H'
 | .brk=>∃ σ' H',Inv X ag σ' H' s'/\D.bk σ' H'
 | .cont=>∃ σ' H',Inv X ag σ' H' s'/\D.ct σ' H'
 | .ret u=>∃v σ' H',Inv X ag σ' H' s'/\de v u/\D.rt v H'
def PE(X:Cx)(e:Expr)(t:TE):Prop:=
 ∀(ag:List (cG×Obj)) (s:cF) (σ:St) (H:Hp) (Q:VK),Inv X ag σ H s->t σ H Q->cO (model X.prog X.w) X.A (eval e X.env) (EP X ag σ Q) X.xe s
def PT(X:Cx)(e:Expr)(t:TT):Prop:=
 ∀(ag:List (cG×Obj)) (s:cF) (σ:St) (H:Hp) (Q:Bool->Hp->Prop),Inv X ag σ H s->t σ H Q->cO (model X.prog X.w) X.A (isTrue e X.env (eval e X.env)) (TP X ag σ Q) X.xe s
def PW(X:Cx)(e:Expr)(t:TT):Prop:=
 ∀(whole:Sem cE) (ag:List (cG×Obj)) (s:cF) (σ:St) (H:Hp) (Q:Bool->Hp->Prop),Inv X ag σ H s->t σ H Q->cO (model X.prog X.w) X.A (isTrue e X.env whole) (TP X ag σ Q) X.xe s
theorem PW.pt{X:Cx}{e:Expr}{t:TT}(h:PW X e t):PT X e t:=h _
def PA(X:Cx)(es:List Expr)(t:TA):Prop:=
 ∀(pos:Pos) (ag:List (cG×Obj)) (s:cF) (σ:St) (H:Hp) (Q:List V->Hp->Prop),Inv X ag σ H s->t σ H Q->cO (model X.prog X.w) X.A (spliced (backTo pos (cM es X.env))) (AP X ag σ Q) X.xe s
def PS(X:Cx)(st:cR)(t:TS):Prop:=
 ∀(ag:List (cG×Obj)) (s:cF) (σ:St) (H:Hp) (D:im),Inv X ag σ H s->t D σ H->cO (model X.prog X.w) X.A (exec st X.env) (SP X ag D) X.xe s
def qT(X:Cx)(st:List cR)(t:TS):Prop:=
 ∀(ag:List (cG×Obj)) (s:cF) (σ:St) (H:Hp) (D:im),Inv X ag σ H s->t D σ H->cO (model X.prog X.w) X.A (execs st X.env) (SP X ag D) X.xe s
theorem ee{α:Type}{t:Sem α}{Q b:α->cF->Prop}{ao:Model}{A:cI}{E:cE->cF->Prop}{s:cF}(h:cO ao A t Q E s)(c:∀a s,Q a s->b a s):cO ao A t b E s:=wpAny_mono h c λ_ _ x=>x
end L2
namespace L2
open PySem PySem.Spec PyProof.Rows
section
variable{X:Cx}
theorem HB{a b:Expr}{ta tb:TE}(ha:PE X a ta)(hb:PE X b tb){ag:List (cG×Obj)}{s:cF}{σ:St}{H:Hp}{R:V->V->Hp->Prop}(I:Inv X ag σ H s)(h:ta σ H fun x H1=>tb σ H1 fun y H2=>R x y H2){α:Type}{Q:α->cF->Prop}{f:cE->cE->Sem α}(hf:∀v u e x y H2,Inv X ag σ H2 e->de x v->de y u->R x y H2->cO (model X.prog X.w) X.A (f v u) Q X.xe e):
  cO (model X.prog X.w) X.A (eval a X.env) (λv c=>cO (model X.prog X.w) X.A (eval b X.env) (λu d=>cO (model X.prog X.w) X.A (f v u) Q X.xe d) X.xe c) X.xe s:=by
 refine ee (ha ag s σ H _ I h) λv i ⟨x,H1,j,l,k⟩=>?_;refine ee (hb ag i σ H1 _ j k) λu e ⟨y,H2,m,r2,g⟩=>?_;exact hf v u e x y H2 m l r2 g
noncomputable def Fn(i:Nat):TE:=fun σ H Q=>∃v,σ[i]?=Z (Z v)/\Q v H
noncomputable def tC(v:V):TE:=λ_ H Q=>Q v H
theorem Bz {i:Nat}{x:Str}{pos:Pos}(hN:X.N[i]?=Z x)(hv:Vis X.env.scope x)(hd:(x == ("__debug__":Str))=J:=by decide)(hcd:(x == ("__classdict__":Str))=J:=by decide):PE X (.Name x pos) (Fn i):=by
 intro ag s σ H Q I h;obtain⟨v,e,h⟩:=h;obtain⟨m,f,j⟩:=I.loc;obtain⟨u,r,l⟩:=j i x v hN e hv;have b:EP X ag σ Q u s:=⟨v,H,I,r,h⟩;rcases l with⟨d,g⟩|⟨d,c,hc,a⟩
 ·exact wpAny_Name (wpAny_loadName_local I.ok.kind d f g b) hd
 ·rcases d with d|d
  ·exact wpAny_Name (wpAny_loadName_cell I.ok.kind d hc a b) hd
  ·exact wpAny_Name (wpAny_loadName_free I.ok.kind d hc a b hcd) hd
theorem BE{i j pos}:PE X (.Constant (.int i) j pos) (tC (.int i)):=λ_ _ _ H _ I h=>wpAny_Constant_int ⟨.int i,H,I.tok _,⟨_,O⟩,h⟩
theorem DY{b j pos}:PE X (.Constant (.bool b) j pos) (tC (.bl b)):=λ_ _ _ H _ I h=>Constant_bool ⟨.bl b,H,I,O,h⟩
theorem BC{j pos}:PE X (.Constant .none j pos) (tC .non):=λ_ _ _ H _ I h=>Constant_none ⟨.non,H,I,O,h⟩
theorem BB{x j pos}:PE X (.Constant (.str x) j pos) (tC (.str x)):=λ_ _ _ H _ I h=>Calls.Constant_str ⟨.str x,H,I.tok _,⟨_,O⟩,h⟩
def Gl(X:Cx)(x:Str):Prop:=X.env.kindOf x=Z .globalImplicit
theorem tq {E:cE->cF->Prop}{ag:List (cG×Obj)}{s:cF}{σ:St}{H:Hp}{x:Str}{u:cE}{pos:Pos}{Q:cE->cF->Prop}(I:Inv X ag σ H s)(hg:Gl X x)(hm:X.mg x=some u)(h:Q u s)
  (hd:(x == ("__debug__":Str))=J:=by decide):cO (model X.prog X.w) X.A (eval (.Name x pos) X.env) Q E s:=
 Calls.Name_function_global I.ok.kind hg (Calls.loadGlobal_global (by rw[I.ok.glob];exact I.mod.glob.keeps I.bk) hm h) hd
theorem iP {E:cE->cF->Prop}{ag:List (cG×Obj)}{s:cF}{σ:St}{H:Hp}{x:Str}{u:cE}{pos:Pos}{Q:cE->cF->Prop}(I:Inv X ag σ H s)(hg:Gl X x)(hm:X.mg x=none)(hv:bootBuiltins x=some u)(h:Q u s)
  (hn:x≠"__name__":=by decide) (hd:(x == ("__debug__":Str))=J:=by decide):cO (model X.prog X.w) X.A (eval (.Name x pos) X.env) Q E s:=by
 obtain⟨a,h1,h2⟩:=I.mod.blt;exact Calls.Name_function_global I.ok.kind hg (Calls.loadGlobal_builtin (by rw[I.ok.glob];exact I.mod.glob.keeps I.bk) hm (by rw[I.ok.blt];exact h1.keeps I.bk) ((h2 x hn).trans hv) h) hd
theorem y1 {x:Str}{v:V}{u:cE}{pos:Pos}(hg:Gl X x)(hm:X.mg x=Z u)(r:de v u)(hd:(x == ("__debug__":Str))=J:=by decide):PE X (.Name x pos) (tC v):=
 λ_ _ _ H _ I h=>tq I hg hm ⟨v,H,I,r,h⟩ hd
variable{a b:Expr}{ta tb:TE}{pos:Pos}
noncomputable def tB(t:TE):TT:=fun σ H Q=>t σ H λx H1=>∃c,x = .bl c/\Q c H1
variable{tA tB':TT}{rest:List Expr}
noncomputable def FC(t u:TT):TT:=fun σ H Q=>t σ H λc H1=>if c=M then u σ H1 Q else Q J H1
noncomputable def GP(t u:TT):TT:=fun σ H Q=>t σ H λc H1=>if c=M then Q M H1 else u σ H1 Q
theorem yM(ha:PT X a tA):PW X (.BoolOp .And [a] pos) tA:=by
 intro b ag s σ H Q I h;refine isTrue_and (ee (ha ag s σ H Q I h) λc d e=>?_);cases c with
 |true=>exact isTrue_and_nil e
 |false=>exact e
theorem Bi(ha:PT X a tA):PW X (.BoolOp .Or [a] pos) tA:=by
 intro b ag s σ H Q I h;refine isTrue_or (ee (ha ag s σ H Q I h) λc d e=>?_);cases c with
 |false=>exact isTrue_or_nil e
 |true=>exact e
theorem Bj(ha:PT X a tA)(hb:PW X (.BoolOp .And (b::rest) pos) tB'):PW X (.BoolOp .And (a::b::rest) pos) (FC tA tB'):=by
 intro f ag s σ H Q I h;refine isTrue_and (ee (ha ag s σ H _ I h) λc g ⟨H1,d,e⟩=>?_);cases c with
 |true=>exact hb f ag g σ H1 Q d e
 |false=>exact⟨H1,d,e⟩
theorem DR(ha:PT X a tA)(hb:PW X (.BoolOp .Or (b::rest) pos) tB'):PW X (.BoolOp .Or (a::b::rest) pos) (GP tA tB'):=by
 intro f ag s σ H Q I h;refine isTrue_or (ee (ha ag s σ H _ I h) λc g ⟨H1,d,e⟩=>?_);cases c with
 |true=>exact⟨H1,d,e⟩
 |false=>exact hb f ag g σ H1 Q d e
noncomputable def GR(t:TT)(ta tb:TE):TE:=fun σ H Q=>t σ H λc H1=>if c=M then ta σ H1 Q else tb σ H1 Q
theorem wy{c:Expr}(hc:PT X c tA)(ha:PE X a ta)(hb:PE X b tb):PE X (.IfExp c a b pos) (GR tA ta tb):=by
 intro ag s σ H Q I h;refine wpAny_IfExp (ee (hc ag s σ H _ I h) λd e ⟨H1,f,g⟩=>?_);cases d with
 |true=>exact ha ag e σ H1 Q f g
 |false=>exact hb ag e σ H1 Q f g
end
end L2
namespace L2
open PySem PySem.Spec PyProof.Rows
def kq(K:Fg1)(H:Hp)(a:cG)(xs:List V):Prop:=
 Rd H a (.lst xs) \/
  ∃(o:Obj) (its:Array cE) (n:Nat),K.lookup a=Z o/\o.cls = .type "list"/\o.dict=Y/\o.data = .seq its n/\its.size<=cN/\dy xs its.toList
def iV(K:Fg1)(H:Hp)(a:cG)(xs:List V):Prop:=
 Rd H a (.tup xs) \/
  ∃(o:Obj) (its:Array cE) (n:Nat),K.lookup a=Z o/\o.cls = .type "tuple"/\o.data = .seq its n/\its.size<=cN/\dy xs its.toList
noncomputable def Gb:cE->Option V
 | .none=>Z .non
 | .bool b=>Z (.bl b)
 | .int i _=>Z (.int i)
 | .str x _=>Z (.str x)
 | .bytes b _=>Z (.byt b)
 | .float b _=>Z (.flt b)
 | .ref a=>Z (.ref a)
 | .type n=>Z (.ty n)
 |_=>Y
theorem de.abs{x:V}{u:cE}(r:de x u):Gb u=Z x:=by
 cases x with
 |non=>cases r;rfl
 |bl _=>cases r;rfl
 |int _=>obtain⟨t,rfl⟩:=r;rfl
 |str _=>obtain⟨t,rfl⟩:=r;rfl
 |byt _=>obtain⟨t,rfl⟩:=r;rfl
 |flt _=>obtain⟨t,rfl⟩:=r;rfl
 |ref _=>cases r;rfl
 |ty _=>cases r;rfl
theorem de.inj{x y:V}{u:cE}(r:de x u)(q:de y u):x=y:=Option.some.inj (r.abs.symm.trans q.abs)
theorem dy.inj:∀{xs ys:List V} {a:List cE},dy xs a->dy ys a->xs=ys:=by
 intro xs ys a h g
 induction h generalizing ys with
 |nil=>cases g;rfl
 |cons r t ih=>cases g with
  |cons c b=>rw[r.inj c,ih b]
section
variable{X:Cx}{ag:List (cG×Obj)}{σ:St}{H:Hp}{s:cF}{a:cG}{xs ys:List V}
theorem kq.of{K:Fg1}(h:H a=Z (.lst xs)):kq K H a xs:=.inl (.inl h)
theorem iV.of{K:Fg1}(h:H a=Z (.tup xs)):iV K H a xs:=.inl (.inl h)
theorem Inv.list(I:Inv X ag σ H s)(h:kq X.K H a xs):∃b:List cE,dy xs b/\PlainL s.heap a b.toArray/\xs.length<=cN:=by
 rcases h with h|⟨o,b,n,f,hc,c,d,g,r⟩
 ·obtain⟨z,b,n,r,e⟩:=h.ok I.hok;exact⟨b,r,⟨_,n,e,O,O,O⟩,z⟩
 ·refine⟨b.toList,r,⟨o,n,I.kIn a o f,hc,c,by simpa using d⟩,?_⟩;have e:=r.length;simp only[aI]at e;lia
theorem Inv.tuple(I:Inv X ag σ H s)(h:iV X.K H a xs):∃b:List cE,dy xs b/\IsTup s.heap a b.toArray/\xs.length<=cN:=by
 rcases h with h|⟨o,b,n,c,hc,d,f,r⟩
 ·obtain⟨z,b,r,p⟩:=h.ok I.hok;exact⟨b,r,p,z⟩
 ·refine⟨b.toList,r,⟨o,I.kIn a o c,hc,n,by simpa using d⟩,?_⟩;have e:=r.length;simp only[aI]at e;lia
theorem Inv.list_inj(I:Inv X ag σ H s)(h:kq X.K H a xs)(h':kq X.K H a ys):xs=ys:=by
 obtain⟨b,r,⟨o,n,e,_,_,d⟩,_⟩:=I.list h;obtain⟨its',i,⟨o',j,f,_,_,c⟩,_⟩:=I.list h';rw[e]at f;cases f;rw[d]at c;injection c with g _;have:b=its':=by simpa using congrArg Array.toList g
 subst this;exact r.inj i
theorem Inv.tuple_inj(I:Inv X ag σ H s)(h:iV X.K H a xs)(h':iV X.K H a ys):xs=ys:=by
 obtain⟨b,r,⟨o,e,_,n,d⟩,_⟩:=I.tuple h;obtain⟨its',i,⟨o',f,_,j,c⟩,_⟩:=I.tuple h';rw[e]at f;cases f;rw[d]at c;injection c with g _;have:b=its':=by simpa using congrArg Array.toList g
 subst this;exact r.inj i
end
abbrev Cx.wish(X:Cx)(E:cE->cF->Prop):Cx:={X with xe:=E}
abbrev Cx.nox(X:Cx):Cx:=X.wish λ_ _=>False
theorem Cx.Ok.wish{X:Cx}(ok:X.Ok)(E:cE->cF->Prop):(X.wish E).Ok:=
 ⟨ok.mod,ok.kind,ok.glob,ok.blt,ok.above,ok.inj,ok.has,ok.cab,ok.hd,ok.frames,ok.stk,ok.exf,ok.bs,ok.bsz,ok.noex,ok.exfs,ok.funs,ok.frf⟩
theorem Cx.Ok.unwish{X:Cx}{E:cE->cF->Prop}(ok:(X.wish E).Ok):X.Ok:=
 ⟨ok.mod,ok.kind,ok.glob,ok.blt,ok.above,ok.inj,ok.has,ok.cab,ok.hd,ok.frames,ok.stk,ok.exf,ok.bs,ok.bsz,ok.noex,ok.exfs,ok.funs,ok.frf⟩
section
variable{X:Cx}{ag:List (cG×Obj)}{σ:St}{H:Hp}{s:cF}{E:cE->cF->Prop}
theorem Inv.wish(I:Inv X ag σ H s)(E:cE->cF->Prop):Inv (X.wish E) ag σ H s:=⟨I.ok.wish E,I.os,I.bare,I.base,I.loc,I.cell,I.free,I.freeC,I.pin,I.hok,I.len⟩
theorem Inv.unwish(I:Inv (X.wish E) ag σ H s):Inv X ag σ H s:=⟨I.ok.unwish,I.os,I.bare,I.base,I.loc,I.cell,I.free,I.freeC,I.pin,I.hok,I.len⟩
theorem SP.unwish{D:im}{f:Flow}{s':cF}(h:SP (X.wish E) ag D f s'):SP X ag D f s':=by
 cases f with
 |next=>obtain⟨a,H',I,q⟩:=h;exact⟨a,H',I.unwish,q⟩
 |brk=>obtain⟨a,H',I,q⟩:=h;exact⟨a,H',I.unwish,q⟩
 |cont=>obtain⟨a,H',I,q⟩:=h;exact⟨a,H',I.unwish,q⟩
 |ret u=>obtain⟨v,a,H',I,r,q⟩:=h;exact⟨v,a,H',I.unwish,r,q⟩
theorem qT.nox{st:List cR}{t:TS}(h:qT X.nox st t):qT X st t:=λag s σ H D I a=>
 wpAny_mono (h ag s σ H D (I.wish _) a) (λ_ _ q=>q.unwish) λ_ _ z=>False.elim z
end
section
variable{X:Cx}{st:cR}{rest:List cR}{t u:TS}{e:Expr}{te:TE}{pos:Pos}
noncomputable def DA:TS:=λD σ H=>D.nx σ H
noncomputable def Fp(t u:TS):TS:=λD σ H=>t {D with nx:=u D} σ H
theorem yR:qT X [] DA:=λ_ _ σ H _ I h=>wpAny_execs_nil ⟨σ,H,I,h⟩
theorem wh(h1:PS X st t)(h2:qT X rest u):qT X (st::rest) (Fp t u):=by
 intro ag s σ H D I h;refine wpAny_execs_cons (ee (h1 ag s σ H {D with nx:=u D} I h) λf b q=>?_);cases f with
 |next=>
  obtain⟨a,H',c,q⟩:=q;exact h2 ag b a H' D c q
 |ret v=>exact q
 |brk=>exact q
 |cont=>exact q
theorem yQ(h1:PS X st t):qT X [st] t:=by
 intro ag s σ H D I h;refine wpAny_execs_cons (ee (h1 ag s σ H D I h) λf a q=>?_);cases f with
 |next=>exact wpAny_execs_nil q
 |ret v=>exact q
 |brk=>exact q
 |cont=>exact q
theorem Inv.quiet{ag:List (cG×Obj)}{σ:St}{H:Hp}{s:cF}(I:Inv X ag σ H s):interactive X.env=J:=by simp[interactive,I.ok.kind]
noncomputable def DD(te:TE):TS:=λD σ H=>te σ H λ_ H1=>D.nx σ H1
theorem yS(he:PE X e te)(hs:swapsWith e Y pos.line X.env=pure J:=by rfl):PS X (.Expr e pos) (DD te):=by
 intro ag s σ H D I h;exact wpAny_Expr_any (ee (he ag s σ H _ I h) λv d ⟨x,H1,a,c,b⟩=>⟨σ,H1,a,b⟩) I.quiet hs
noncomputable def Fq(te:TE):TS:=λD σ H=>te σ H D.rt
theorem Bo(he:PE X e te):PS X (.Return (Z e) pos) (Fq te):=by
 intro ag s σ H D I h;exact wpAny_Return_some (ee (he ag s σ H _ I h) λv d ⟨x,H1,b,a,c⟩=>⟨x,σ,H1,b,a,c⟩)
noncomputable def Fy(c:TT)(t u:TS):TS:=λD σ H=>c σ H λb H1=>if b=M then t D σ H1 else u D σ H1
theorem DS{c:Expr}{a b:List cR}{tc:TT}(hc:PT X c tc)(ha:qT X a t)(hb:qT X b u):PS X (.If c a b pos) (Fy tc t u):=by
 intro ag s σ H D I h;refine wpAny_If (ee (hc ag s σ H _ I h) λd e ⟨H1,f,g⟩=>?_);cases d with
 |true=>exact ha ag e σ H1 D f g
 |false=>exact hb ag e σ H1 D f g
end
abbrev TG:=V->St->Hp->(St->Hp->Prop)->Prop
abbrev AO:=List V->St->Hp->(St->Hp->Prop)->Prop
def PG(X:Cx)(target:Expr)(t:TG):Prop:=
 ∀(ag:List (cG×Obj)) (s:cF) (σ:St) (H:Hp) (v:V) (u:cE) (Q:St->Hp->Prop),Inv X ag σ H s->de v u->t v σ H Q ->
  cO (model X.prog X.w) X.A (assign target X.env u) (λ_ s'=>∃ σ' H',Inv X ag σ' H' s'/\Q σ' H') X.xe s
def Dc(X:Cx)(ts:List Expr)(t:AO):Prop:=
 ∀(ag:List (cG×Obj)) (s:cF) (σ:St) (H:Hp) (vs:List V) (us:List cE) (Q:St->Hp->Prop),Inv X ag σ H s->dy vs us->t vs σ H Q ->
  cO (model X.prog X.w) X.A (assignInOrder ((assignEach ts X.env).map (·.2)) us) (λ_ s'=>∃ σ' H',Inv X ag σ' H' s'/\Q σ' H') X.xe s
abbrev Da:=V->V->V->Hp->(Hp->Prop)->Prop
def sv(X:Cx)(t:Da):Prop:=
 ∀(ag:List (cG×Obj)) (s:cF) (σ:St) (H:Hp) (o i v:V) (ov iv u:cE) (Q:Hp->Prop),Inv X ag σ H s->de o ov->de i iv->de v u->t o i v H Q ->
  cO (model X.prog X.w) X.A (setItem ov iv u) (λ_ s'=>∃H',Inv X ag σ H' s'/\Q H') X.xe s
abbrev Gf:=V->V->Hp->VK->Prop
def Fi(X:Cx)(op:Operator)(t:Gf):Prop:=
 ∀(ag:List (cG×Obj)) (s:cF) (σ:St) (H:Hp) (x y:V) (v u:cE) (Q:VK),Inv X ag σ H s->de x v->de y u->t x y H Q ->
  cO (model X.prog X.w) X.A (inplaceOp op v u) (EP X ag σ Q) X.xe s
section
variable{X:Cx}{pos:Pos}
noncomputable def tJ(i:Nat):TG:=λv σ H Q=>Q (σ.set i (Z v)) H
theorem sT{i:Nat}{x:Str}(hN:X.N.Nodup)(hi:X.N[i]?=Z x)(hx:sw X.env.scope x)(hf:X.fn x=M\/X.env.scope.names.lookup x=Z .local:=by first|exact .inl rfl|exact .inr rfl|assumption):PG X (.Name x pos) (tJ i):=by
 intro ag s σ H v u Q I r h;exact wpAny_assign_Name (hI I hN hi hx r (λs' a=>⟨_,H,a,h⟩) hf)
noncomputable def F2:AO:=λvs σ H Q=>vs=[]/\Q σ H
noncomputable def Ex(t:TG)(u:AO):AO:=λvs σ H Q=>∃v r,vs=v::r/\t v σ H fun σ' H'=>u r σ' H' Q
theorem y0:Dc X [] F2:=by
 intro ag s σ H vs a Q I r h;obtain⟨e,h⟩:=h;subst e;cases r;exact assignInOrder_nil ⟨σ,H,I,h⟩
theorem wu{e:Expr}{es:List Expr}{t:TG}{u:AO}(h1:PG X e t)(h2:Dc X es u)(hs:(assignEach (e::es) X.env).map (·.2)=assign e X.env::(assignEach es X.env).map (·.2):=by rfl):Dc X (e::es) (Ex t u):=by
 intro ag s σ H vs i Q I r h;obtain⟨v,j,b,h⟩:=h;subst b;cases r with
 |cons r f=>
  rw[hs];refine assignInOrder_cons (ee (h1 ag s σ H _ _ _ I r h) λ_ c ⟨a,H1,d,g⟩=>?_);exact h2 ag c a H1 _ _ Q d f g
noncomputable def gTup(K:Fg1)(n:Nat)(t:AO):TG:=λv σ H Q=>∃a xs,v = .ref a/\iV K H a xs/\xs.length=n/\t xs σ H Q
theorem Bx{es:List Expr}{k:Nat}{t:AO}{n:Nat}(hc:X.calm=M)(h:Dc X es t)(hn:(assignEach es X.env).length=n:=by rfl)(hst:(assignEach es X.env).findIdx? (·.1)=Y:=by rfl):PG X (.Tuple es k pos) (gTup X.K n t):=by
 intro ag s σ H v u Q I r c;obtain⟨a,xs,f,i,p,c⟩:=c;subst f;cases r;obtain⟨l,d,m,q⟩:=I.tuple i;refine assign_Tuple_tuple (I.ok.hd hc) m (by simp[hn,<- p,d.length]) hst λh' j=>?_;have g:Inv X ag σ H {s with heap:=h'}:=I.kept (t':=s.toks) λb o e=>j b o (nN1 (hL1 e)) e;exact h ag _ σ H xs _ Q g (by simpa using d) c
noncomputable def gSub(to ti:TE)(t:Da):TG:=λv σ H Q=>to σ H λo H1=>ti σ H1 λi H2=>t o i v H2 λH3=>Q σ H3
theorem By{o i:Expr}{to c:TE}{t:Da}(ho:PE X o to)(hi:PE X i c)(hs:sv X t)(ha:∀v,assign (.Subscript o i pos) X.env v=(do
   let a<-holding [v] (eval o X.env)
   let b<-holding [v,a] (eval i X.env)
   standAt pos
   holding [v,a,b] (setItem a b v)
   release [v,a,b] []):=by intro _;rfl):PG X (.Subscript o i pos) (gSub to c t):=by
 intro ag s σ H v u Q I r h;rw[ha];refine wB1 (wpAny_holding (ee (ho ag s σ H _ I h) λa f ⟨x,H1,g,l,k⟩=>?_));refine wB1 (wpAny_holding (ee (hi ag f σ H1 _ g k) λb p ⟨y,H2,n,r2,m⟩=>?_));refine wB1 (wpAny_standAt (wB1 (wpAny_holding (ee (hs ag p σ H2 x y v a b u _ n l r2 r m) λ_ q ⟨j,e,d⟩=>?_))));exact wpAny_release ⟨σ,j,e,d⟩
noncomputable def vO(te:TE)(g:TG):TS:=λD σ H=>te σ H λx H1=>g x σ H1 D.nx
theorem Bt{tg e:Expr}{te:TE}{g:TG}(he:PE X e te)(hg:PG X tg g)(hs:swapsWithSole [tg] e pos.line X.env=pure J:=by rfl)(hw:swappedStores [tg] e X.env=pure Y:=by rfl)(h1:(assignEach [tg] X.env).map (·.2)=[assign tg X.env]:=by rfl):PS X (.Assign [tg] e pos) (vO te g):=by
 intro ag s σ H D I h;refine wpAny_Assign_stores (ee (he ag s σ H _ I h) λv a ⟨x,H1,b,c,d⟩=>?_) hs hw;rw[h1];exact ee (hg ag a σ H1 x v _ b c d) λ_ f q=>q
theorem Bn{i:Nat}{x:Str}{e:Expr}{te:TE}{pos':Pos}(hN:X.N.Nodup)(hi:X.N[i]? = some x)(hx:sw X.env.scope x)(he:PE X e te)(hs:swapsWith e (some (.Name x pos')) pos.line X.env=pure false:=by rfl)(hf:X.fn x=true\/X.env.scope.names.lookup x=some .local:=by first | exact .inl rfl | exact .inr rfl | assumption):
  PS X (.Assign [.Name x pos'] e pos) (vO te (tJ i)):=by
 intro ag s σ H D I h;refine wpAny_Assign_Name (ee (he ag s σ H _ I h) λv f ⟨y,H1,a,b,c⟩=>?_) hs;exact hI a hN hi hx b (λg d=>⟨_,H1,d,c⟩) hf
noncomputable def Fs(i j:Nat)(ta:TA):TS:=λD σ H=>ta σ H λvs H1=>∃v w,vs=[v,w]/\D.nx ((σ.set i (Z v)).set j (Z w)) H1
theorem Bp{i j:Nat}{x y:Str}{a b:Expr}{ta:TA}{l f pt:Pos}{kt k2 pt2}(hc:X.calm=true)(hN:X.N.Nodup)(hi:X.N[i]? = some x)(z:X.N[j]? = some y)(g:i≠j)(hx:X.env.scope.names.lookup x=some .local)(hy:X.env.scope.names.lookup y=some .local)(ha:PA X [a,b] ta)(hw:swappedStores [.Tuple [.Name x l,.Name y f] kt pt] (.Tuple [a,b] k2 pt2) X.env=pure (some [x,y]))(hs:swapsWithSole [.Tuple [.Name x l,.Name y f] kt pt] (.Tuple [a,b] k2 pt2) pos.line X.env=pure false:=by rfl):
  PS X (.Assign [.Tuple [.Name x l,.Name y f] kt pt] (.Tuple [a,b] k2 pt2) pos) (Fs i j ta):=by
 intro ag s σ H D I h;rw[exec_Assign_arm];refine wB1 (wpAny_standAt ?_);rw[hs];refine wB1 (wP1 ?_);rw[aj (by decide)];refine wB1 (Tuple_ (ee (ha _ ag s σ H _ I h) λF d ⟨vs,H1,u,am,m⟩=>?_));obtain⟨v,w,t,m⟩:=m;subst t;obtain⟨c,u2,rfl,C,n⟩:∃c u2,F=[c,u2]/\de v c/\de w u2:=by
  cases am with
  |cons p q=>
   cases q with
   |cons A B=>
    cases B;exact⟨_,_,O,p,A⟩
 refine wO1 ?_ (by show 2<=cN;decide);have E:Inv X ag σ H1 {d with heap:=d.heap.push {cls:=.type "tuple",data:=.seq [c,u2].toArray}}:=u.kept (t':=d.toks) λb o e=>hP1 _ e;rw[hw];refine wB1 (wP1 ?_);show cO (model X.prog X.w) X.A (do rule "assign.swapped-stores";let items<-unpackItems (.ref d.heap.objs.size) 2 Y;assignInOrder [λv=>bindName X.env y v,λv=>bindName X.env x v] items.reverse;pure Flow.next) _ _ _;refine wB1 (wpAny_rule (wB1 (unpackItems_tuple (items:= #[c,u2]) (I.ok.hd hc) (IsTup.new d.heap _) λh' k=>?_)));have G:=E.kept (h':=h') (t':=d.toks) λb o e=>k b o (nN1 (hL1 e)) e;show cO _ _ (assignInOrder [λv=>bindName X.env y v,λv=>bindName X.env x v] [u2,c] >>= λ_=>pure Flow.next) _ _ _;refine wB1 (assignInOrder_cons (wpAny_bindName (hI G hN z (.inl hy) n (λao K=>?_) (.inr hy))));refine assignInOrder_cons (wpAny_bindName (hI K hN hi (.inl hx) C (λL r=>assignInOrder_nil (wP1 ?_)) (.inr hx)));rw[List.set_comm _ _ (Ne.symm g)]at r;exact⟨_,H1,r,m⟩
noncomputable def FB(i:Nat)(te:TE)(ti:Gf):TS:=λD σ H=>∃x,σ[i]?=Z (Z x)/\te σ H λy H1=>ti x y H1 λz H2=>D.nx (σ.set i (Z z)) H2
theorem Br{i:Nat}{x:Str}{e:Expr}{te:TE}{op:Operator}{j:Gf}{pos':Pos}(hN:X.N.Nodup)(hi:X.N[i]? = some x)(hx:sw X.env.scope x)(he:PE X e te)(ho:Fi X op j)(hf:X.fn x=true\/X.env.scope.names.lookup x=some .local:=by first | exact .inl rfl | exact .inr rfl | assumption):
  PS X (.AugAssign (.Name x pos') op e pos) (FB i te j):=by
 intro ag s σ H D I h;obtain⟨v,p,h⟩:=h;obtain⟨m,A,t⟩:=I.loc;have g:Vis X.env.scope x:=by rcases hx with k|k;exact .inl k;exact .inr (.inl k)
 obtain⟨u,r,l⟩:=t i x v hi p g;refine wpAny_AugAssign_Name ?_;have n:cO (model X.prog X.w) X.A (eval e X.env) (λw f=>cO (model X.prog X.w) X.A (inplaceOp op u w) (λr d=>cO (model X.prog X.w) X.A (storeName X.env x r) (λ_=>SP X ag D .next) X.xe d) X.xe f) X.xe s:=by
  refine ee (he ag s σ H _ I h) λw F ⟨y,H1,q,G,am⟩=>?_;refine ee (ho ag F σ H1 v y u w _ q r G am) λz L ⟨ao,H2,C,r2,o⟩=>?_;exact hI C hN hi hx r2 (λK E=>⟨_,H2,E,o⟩) hf
 rcases l with⟨a,B⟩|⟨a,c,hc,b⟩
 ·exact wpAny_loadName_local I.ok.kind a A B n
 ·rcases a with a|a
  ·exact wpAny_loadName_cell I.ok.kind a hc b n
  ·rcases hx with k|k
   ·have:X.env.scope.names.lookup x=Z .free:=a;rw[k]at this;cases this
   ·have:X.env.scope.names.lookup x=Z .free:=a;rw[k]at this;cases this
noncomputable def vM(c:TT)(tb:TS):TS:=λD σ H=>∃W:Nat->St->Hp->Prop,(∃m,W m σ H) /\ ∀m σ H,W m σ H ->
 c σ H λb H1=>if b=M then∃N:St->Hp->Prop,(∀ σ' H',N σ' H' -> ∃m',m'<m/\W m' σ' H')/\tb {D with nx:=N,ct:=N,bk:=D.nx} σ H1 else D.nx σ H1
theorem wj{c:Expr}{e:List cR}{tc:TT}{tb:TS}(hp:PassesOwn (model X.prog X.w) X.A X.env X.xe)(hc:PT X c tc)(hb:qT X e tb):PS X (.While c e [] pos) (vM tc tb):=by
 intro ag s σ H D I h;obtain⟨W,⟨y,x⟩,i⟩:=h;refine wpAny_While (codeAny_whileLoop (λn s'=>∃g H',Inv X ag g H' s'/\W n g H') ?_ y ⟨σ,H,I,x⟩);rintro n A ⟨d,H1,w,B⟩;refine wpAny_passesOwn hp (ee (hc ag A d H1 _ w (i n d H1 B)) λb z ⟨H2,u,l⟩=>?_);cases b with
 |true=>
  obtain⟨N,t,l⟩:=l;rw[ak O];refine wpAny_passesOwn hp (ee (hb ag z d H2 _ u l) λf C k=>?_);cases f with
  |next=>
   obtain⟨a,j,r,p⟩:=k;obtain⟨m,o,q⟩:=t a j p;exact⟨m,o,a,j,r,q⟩
  |cont=>
   obtain⟨a,j,r,p⟩:=k;obtain⟨m,o,q⟩:=t a j p;exact⟨m,o,a,j,r,q⟩
  |brk=>exact k
  |ret v=>exact k
 |false=>
  rw[aj aJ];exact wpAny_execs_nil ⟨d,H2,u,l⟩
end
structure It where
 go:Nat->Hp->Prop
 yld:Nat->Hp->V->Hp->Prop
 stop:Nat->Hp->Prop
def iF(X:Cx)(ag:List (cG×Obj))(H:Hp)(b:cG):Prop:=
 H b=Y/\b≠X.env.locals/\b∉X.fs/\(b∈X.ex\/X.s₀.heap.objs.size<=b)/\(∀x c,X.env.cells.lookup x=Z c->c≠b) /\ ∀p∈X.pn++ag,p.1≠b
theorem Inv.fpOk{X:Cx}{ag:List (cG×Obj)}{σ:St}{H H':Hp}{s:cF}{b:cG}(I:Inv X ag σ H s)(hb:s.heap.objs.size<=b)(hn:H' b=Y):iF X ag H' b:=by
 refine⟨hn,nG1 (nL1 I.lt hb),I.nofs hb,.inr (aC I.sz hb),λx c e z=>?_,λp a z=>?_⟩
 ·obtain⟨v,q⟩:=I.cell x c e;exact absurd (nL1 q.lt (by rw[z];exact hb)) (az _)
 ·exact absurd (nL1 (hL1 (I.pin p a).1) (by rw[z];exact hb)) (az _)
structure sr (P:cH)(w:cJ)(K:Fg1)(tg:Expr)(am:It)(fp:List cG)(it:cG)(tn:Nat->cP->Prop):Prop where
 mem:it∈fp
 obj:∀i h,tn i h -> ∀b∈fp,∃o,h.get? b=some o /\ ∀v,o.data ≠ .cell v
 keep:∀i h h',tn i h->(∀b∈fp,∀o,h.get? b=some o->h'.get? b=some o)->tn i h'
 item:∀(X:Cx),X.prog=P->X.w=w->X.K=K->X.calm=true -> ∀(i:Nat) (ag:List (cG×Obj)) (s:cF) (σ:St) (H:Hp) (E:cE->cF->Prop),Inv X ag σ H s->(∀b∈fp,iF X ag H b)->tn i s.heap->am.go i H ->
  cO (model P w) X.A (pyNext (.ref it)) (λr s1=>∃u,r=some u /\
   cO (model P w) X.A (letOwnedTupleGo tg (.ref it) u) (λ_ s2=>∃x H',Inv X ag σ H' s2/\de x u/\am.yld i H x H'/\tn (i+1) s2.heap /\ ∀b∈fp,H' b=none) E s1) E s
 done:∀(X:Cx),X.prog=P->X.w=w->X.K=K->X.calm=true -> ∀(i:Nat) (ag:List (cG×Obj)) (s:cF) (σ:St) (H:Hp) (E:cE->cF->Prop),Inv X ag σ H s->(∀b∈fp,iF X ag H b)->tn i s.heap->am.stop i H ->
  cO (model P w) X.A (pyNext (.ref it)) (λr s1=>r=none/\Inv X ag σ H s1) E s
 self:∀(A:cI) (i:Nat) (s:cF) (Q:cE->cF->Prop) (E:cE->cF->Prop),tn i s.heap->Q (.ref it) s->cO (model P w) A (pyIter (.ref it)) Q E s
abbrev TI:=St->Hp->(It->Hp->Prop)->Prop
def GG(X:Cx)(ag:List (cG×Obj))(σ:St)(tg:Expr)(R:It->Hp->Prop)(itv:cE)(s2:cF):Prop:=
 ∃(it:cG) (fp:List cG) (tn:Nat->cP->Prop) (am:It) (H':Hp),itv = .ref it/\Inv X ag σ H' s2/\sr X.prog X.w X.K tg am fp it tn/\tn 0 s2.heap/\(∀b∈fp,iF X ag H' b)/\R am H'
def PI(X:Cx)(tg iter:Expr)(wi:TI):Prop:=
 ∀(ag:List (cG×Obj)) (s:cF) (σ:St) (H:Hp) (R:It->Hp->Prop),Inv X ag σ H s->wi σ H R ->
  cO (model X.prog X.w) X.A (eval iter X.env) (λv s1=>cO (model X.prog X.w) X.A (pyIter v) (GG X ag σ tg R) X.xe s1) X.xe s
theorem xp {ao:Model}{A:cI}{E:cE->cF->Prop}{s:cF}{tg:Expr}{it:cG}{u:cE}{o:Obj}{n:String}{vs:Array cE}{Q:Unit->cF->Prop}(ho:s.heap.get? it=some o)(hc:o.cls = .type n)(hd:o.data = .fields vs)
   (hn:["enumerate","zip","dict_itemiterator","dict_reverseitemiterator","odict_iterator","itertools.zip_longest","itertools.pairwise"].contains n=J) (a:Q () s):cO ao A (letOwnedTupleGo tg (.ref it) u) Q E s:=by
 unfold letOwnedTupleGo;cases tg <;> first
   |exact wP1 a
   | (cases u<;>first
       |exact wP1 a
       | (refine wB1 (wpAny_load ho ?_)
          rw[hc,hd];show cO ao A (if(["enumerate","zip","dict_itemiterator","dict_reverseitemiterator","odict_iterator","itertools.zip_longest","itertools.pairwise"].contains n&&vs[0]? == Z (rawInt _))=M then _ else _) Q E s;rw[aj (by intro h;rw[hn,Bool.false_and]at h;cases h)];exact wP1 a))
noncomputable def GK(K:Fg1)(a:cG):It:=
 ⟨λi H=>∃xs x,kq K H a xs/\xs[i]?=Z x,λi H x H'=>H'=H /\ ∀xs,kq K H a xs->xs[i]?=Z x,λi H=>∃xs,kq K H a xs/\xs.length<=i⟩
noncomputable def GJ(K:Fg1)(a:cG):It:=
 ⟨λi H=>∃xs x,iV K H a xs/\xs[i]?=Z x,λi H x H'=>H'=H /\ ∀xs,iV K H a xs->xs[i]?=Z x,λi H=>∃xs,iV K H a xs/\xs.length<=i⟩
noncomputable def EZ(lo:Int)(n:Nat):It:=⟨λi _=>i<n,λi H x H'=>H'=H/\x = .int (lo+i),λi _=>n<=i⟩
theorem uf{P:cH}{w:cJ}{K:Fg1}{tg:Expr}(a it:cG):sr P w K tg (GK K a) [it] it (λi h=>h.IsListIter it a i) where
 mem:=by simp
 obj:=λi h st b f=>by
  have e:b=it:=by simpa using f
  subst e;obtain⟨o,e,c,d⟩:=st;exact⟨o,e,λv z=>by rw[d]at z;cases z⟩
 keep:=λi h h' st k=>st.at λo e=>k it (by simp) o e
 item:=by
  intro X F B m hc i ag s σ H E I j st l;subst F B m;obtain⟨xs,x,g,D⟩:=l;obtain⟨y,n,p,R⟩:=I.list g;obtain⟨u,G,Q⟩:=n.get D;obtain⟨r,t,ao,q,A,C⟩:=j it (by simp);refine wpAny_pyNext_list_item st p.isList (x:=u) (by simpa using G) λh' st' N=>?_;have am:Inv X ag σ H {s with heap:=h'}:=I.turned (t':=s.toks) (λb o f e=>(N.2 b f).trans e) r t q A C;obtain⟨o,e,c,d⟩:=id st';exact⟨u,O,xp (s:={s with heap:=h'}) e c d (by decide) ⟨x,H,am,Q,⟨O,λys au=>by rw[I.list_inj au g];exact D⟩,st',λb f=>(j b f).1⟩⟩
 done:=by
  intro X F B m hc i ag s σ H E I j st l;subst F B m;obtain⟨xs,g,D⟩:=l;obtain⟨y,n,p,R⟩:=I.list g;obtain⟨r,t,ao,q,A,C⟩:=j it (by simp);have S:=n.length;exact wpAny_pyNext_list_end (I.ok.hd hc) st p.isList (by simp;lia) λh' L=>⟨O,I.turned (t':=s.toks) (λb o f e=>L b o f e) r t q A C⟩
 self:=λ_ _ _ _ _ st h=>wpAny_pyIter_listiter st h
theorem ri{P:cH}{w:cJ}{K:Fg1}{tg:Expr}(a it:cG):sr P w K tg (GJ K a) [it] it (λi h=>h.IsTupleIter it a i) where
 mem:=by simp
 obj:=λi h st b g=>by
  have e:b=it:=by simpa using g
  subst e;obtain⟨o,e,c,d⟩:=st;exact⟨o,e,λv z=>by rw[d]at z;cases z⟩
 keep:=λi h h' st k=>st.at λo e=>k it (by simp) o e
 item:=by
  intro X F B n hc i ag s σ H E I l st m;subst F B n;obtain⟨xs,x,j,D⟩:=m;obtain⟨f,q,p,R⟩:=I.tuple j;obtain⟨u,G,Q⟩:=q.get D;obtain⟨t,y,ao,r,A,C⟩:=l it (by simp);refine wpAny_pyNext_tuple_item st (show s.heap.IsTuple a f.toArray from p) (x:=u) (by simpa using G) λh' st' N=>?_;have am:Inv X ag σ H {s with heap:=h'}:=I.turned (t':=s.toks) (λb o g e=>(N.2 b g).trans e) t y r A C;obtain⟨o,e,c,d⟩:=id st';exact⟨u,O,xp (s:={s with heap:=h'}) e c d (by decide) ⟨x,H,am,Q,⟨O,λys au=>by rw[I.tuple_inj au j];exact D⟩,st',λb g=>(l b g).1⟩⟩
 done:=by
  intro X F B n hc i ag s σ H E I l st m;subst F B n;obtain⟨xs,j,D⟩:=m;obtain⟨f,q,p,R⟩:=I.tuple j;obtain⟨t,y,ao,r,A,C⟩:=l it (by simp);have S:=q.length;exact wpAny_pyNext_tuple_end (I.ok.hd hc) st (show s.heap.IsTuple a f.toArray from p) (by simp;lia) λh' L=>⟨O,I.turned (t':=s.toks) (λb o g e=>L b o g e) t y r A C⟩
 self:=λ_ _ _ _ _ st h=>wpAny_pyIter_tupleiter st h
theorem rj{P:cH}{w:cJ}{K:Fg1}{tg:Expr}(it:cG)(lo:Int)(n:Nat):sr P w K tg (EZ lo n) [it] it (λi h=>IsRangeIter h it (lo+(i:Nat)*1) ((n:Int)-(i:Nat)) 1) where
 mem:=by simp
 obj:=λi h st b a=>by
  have e:b=it:=by simpa using a
  subst e;exact⟨_,st,λv z=>by
   have x:Data.fields _=Data.cell v:=z;cases x⟩
 keep:=λi h h' st k=>k it (by simp) _ st
 item:=by
  intro X r q g hc i ag s σ H E I c st m;subst r q g;obtain⟨j,l,B,d,f,p⟩:=c it (by simp);have W:=Walks.range (prog:=X.prog) (w:=X.w) (I.ok.hd hc) it lo 1 n;refine W.item i s _ _ m st λv h' tk A st' C=>?_;obtain⟨t,rfl⟩:=A;have u:Inv X ag σ H {s with heap:=h',toks:=tk}:=I.turned (λb o a e=>C b o (by simpa using a) e) j l d f p;refine⟨_,O,xp (s:={s with heap:=h',toks:=tk}) (n:="range_iterator") st' O O (by decide) ⟨.int (lo+i),H,u,⟨t,?_⟩,⟨O,O⟩,st',λb a=>(c b a).1⟩⟩;rw[Int.mul_one]
 done:=by
  intro X r q g hc i ag s σ H E I c st m;subst r q g;obtain⟨j,l,B,d,f,p⟩:=c it (by simp);exact wpAny_pyNext_range_end (I.ok.hd hc) st (by have:n<=i:=m;lia) λh' y=>⟨O,I.turned (t':=s.toks) (λb o a e=>y b o a e) j l d f p⟩
 self:=λ_ _ _ _ _ st h=>wpAny_pyIter_rangeiter st h
end L2
namespace L2
open PySem PySem.Spec PyProof.Rows
section
variable{X:Cx}{tg:Expr}
noncomputable def Et(K:Fg1)(tl:TE):TI:=fun σ H R=>tl σ H λx H1=>∃a,x = .ref a/\(∃xs,kq K H1 a xs)/\R (GK K a) H1
noncomputable def F1(K:Fg1)(tl:TE):TI:=fun σ H R=>tl σ H λx H1=>∃a,x = .ref a/\(∃xs,iV K H1 a xs)/\R (GJ K a) H1
theorem yY{l:Expr}{tl:TE}(m:PE X l tl):PI X tg l (Et X.K tl):=by
 intro ag s σ H R I h;refine ee (m ag s σ H _ I h) λv c ⟨x,H1,d,j,i⟩=>?_;obtain⟨a,e,⟨xs,g⟩,q⟩:=i;subst e;cases j;obtain⟨k,r,p,n⟩:=d.list g;refine wpAny_pyIter_list p.isList ?_;refine⟨c.heap.objs.size,[c.heap.objs.size],_,_,H1,O,d.kept (t':=c.toks) λb o e=>hP1 _ e,uf a _,⟨_,hS1 _ O,O,O⟩,λb f=>?_,q⟩;have e:b=c.heap.objs.size:=by simpa using f
 subst e;exact d.fpOk (nR1 _) (d.hok.fresh (nR1 _))
theorem Bw{l:Expr}{tl:TE}(m:PE X l tl):PI X tg l (F1 X.K tl):=by
 intro ag s σ H R I h;refine ee (m ag s σ H _ I h) λv c ⟨x,H1,d,k,j⟩=>?_;obtain⟨a,e,⟨xs,i⟩,q⟩:=j;subst e;cases k;obtain⟨f,r,p,n⟩:=d.tuple i;refine wpAny_pyIter_tuple (show c.heap.IsTuple a f.toArray from p) ?_;refine⟨c.heap.objs.size,[c.heap.objs.size],_,_,H1,O,d.kept (t':=c.toks) λb o e=>hP1 _ e,ri a _,⟨_,hS1 _ O,O,O⟩,λb g=>?_,q⟩;have e:b=c.heap.objs.size:=by simpa using g
 subst e;exact d.fpOk (nR1 _) (d.hok.fresh (nR1 _))
theorem pj{ag:List (cG×Obj)}{σ:St}{H:Hp}{s:cF}{R:It->Hp->Prop}{E:cE->cF->Prop}{lo hi:Int}{t u v:Tok}{tk:Nat}(I:Inv X ag σ H s)(h1: -(2^62)<=lo)(h2:lo<2^62)(h: -(2^62)<=hi)(f:hi<2^62)(q:R (EZ lo (hi-lo).toNat) H):cO (model X.prog X.w) X.A (pyIter (.ref s.heap.objs.size)) (GG X ag σ tg R) E {s with heap:=s.heap.push {cls:=.type "range",data:=.fields #[.int lo t,.int hi u,.int 1 v]},toks:=tk}:=by
 refine wpAny_pyIter_range (IsRange.new ..) (small_one h1 h2 h f) ?_;have a:Inv X ag σ H {s with heap:=s.heap.push {cls:=.type "range",data:=.fields #[.int lo t,.int hi u,.int 1 v]},toks:=tk}:=I.kept λb o e=>hP1 _ e;refine⟨(s.heap.push {cls:=.type "range",data:=.fields #[.int lo t,.int hi u,.int 1 v]}).objs.size,[(s.heap.push {cls:=.type "range",data:=.fields #[.int lo t,.int hi u,.int 1 v]}).objs.size],_,_,H,O,
  a.kept (t':=tk) λb o e=>hP1 _ e,rj _ lo (hi-lo).toNat,?_,λb c=>?_,q⟩
 ·have d:lo+((0:Nat):Int)*1=lo:=by simp
  have g:(((hi-lo).toNat:Nat):Int)-((0:Nat):Int)=Builtin.Range.rangeSize lo hi 1:=by rw[rangeSize_one];split<;>lia
  show IsRangeIter _ _ (lo+((0:Nat):Int)*1) ((((hi-lo).toNat:Nat):Int)-((0:Nat):Int)) 1;rw[d,g];exact hS1 _ O
 ·have e:b=(s.heap.push {cls:=.type "range",data:=.fields #[.int lo t,.int hi u,.int 1 v]}).objs.size:=by simpa using c
  subst e;exact a.fpOk (nR1 _) (a.hok.fresh (nR1 _))
noncomputable def Es(ta:TA):TI:=fun σ H R=>ta σ H λvs H1=>∃j:Int,vs=[.int j] /\ -(2^62)<=j/\j<2^62/\R (EZ 0 j.toNat) H1
noncomputable def Er(ta:TA):TI:=fun σ H R=>ta σ H λvs H1=>∃i j:Int,vs=[.int i,.int j]/\(-(2^62)<=i/\i<2^62 /\ -(2^62)<=j/\j<2^62)/\R (EZ i (j-i).toNat) H1
theorem uq {a:Expr}{ta:TA}{p pos:Pos}(hg:Gl X "range")(hm:X.mg "range"=Y)(ha:PA X [a] ta)(hs:cM [a] X.env=[(J,eval a X.env)]:=by rfl):PI X tg (.Call (.Name "range" p) [a] [] pos) (Es ta):=by
 intro ag s σ H R I h;refine Call_ (iP I hg hm boot_range (PyProof.Rows.callWith_type1 (ee (ha pos ag s σ H _ I h) λi k ⟨vs,H1,c,f,b⟩=>?_) hs O));obtain⟨j,e,b,g,q⟩:=b;subst e;cases f with
 |cons r d=>
  cases d;obtain⟨t,rfl⟩:=r;exact call_range_1 (pj c (by lia) (by lia) b g (by simpa using q))
theorem uo {a b:Expr}{ta:TA}{p pos:Pos}(hg:Gl X "range")(hm:X.mg "range"=none)(ha:PA X [a,b] ta)(hs:cM [a,b] X.env=[(false,eval a X.env),(false,eval b X.env)]:=by rfl)(hs2:cM [b] X.env=[(false,eval b X.env)]:=by rfl):
  PI X tg (.Call (.Name "range" p) [a,b] [] pos) (Er ta):=by
 intro ag s σ H R I h;refine Call_ (iP I hg hm boot_range (PyProof.Rows.callWith_type1 (ee (ha pos ag s σ H _ I h) λu v ⟨vs,H1,g,l,c⟩=>?_) (by rw[hs,hs2]) (by rw[hs2];rfl)));obtain⟨i,j,e,⟨c,m,f,k⟩,q⟩:=c;subst e;cases l with
 |cons r d=>
  cases d with
  |cons n d=>
   cases d;obtain⟨t,rfl⟩:=r;obtain⟨o,rfl⟩:=n;exact call_range_2 (pj g c m f k q)
noncomputable def DC(wi:TI)(g:TG)(tb:TS):TS:=λD σ H=>wi σ H λam H1=>∃W:Nat->Nat->St->Hp->Prop,(∃m,W 0 m σ H1) /\ ∀i m σ H,W i m σ H ->
 (am.stop i H/\D.nx σ H)\/(am.go i H /\ ∃N:St->Hp->Prop,(∀ σ' H',N σ' H' -> ∃m',m'<m/\W (i+1) m' σ' H') /\ ∀x H',am.yld i H x H'->g x σ H' fun σ2 H2=>tb {D with nx:=N,ct:=N,bk:=D.nx} σ2 H2)
noncomputable def lp(fp:List cG)(h:cP):List (cG×Obj):=fp.filterMap λb=>(h.get? b).map λo=>(b,o)
theorem gX{a:List cG}{h:cP}{b:cG}{o:Obj}(hb:b∈a)(e:h.get? b=Z o):(b,o)∈lp a h:=aK.mpr ⟨b,hb,by rw[e];rfl⟩
theorem ur{a:List cG}{h:cP}{p:cG×Obj}(hp:p∈lp a h):p.1∈a/\h.get? p.1=Z p.2:=by
 obtain⟨b,d,e⟩:=aK.mp hp;cases q:h.get? b with
 |none=>rw[q]at e;cases e
 |some o=>
  rw[q]at e;have c:(b,o)=p:=Option.some.inj e;subst c;exact⟨d,q⟩
theorem Inv.pinned{ag:List (cG×Obj)}{σ:St}{H:Hp}{s:cF}{a:List cG}(I:Inv X ag σ H s)(hf:∀b∈a,iF X ag H b)(ho:∀b∈a,∃o,s.heap.get? b=Z o /\ ∀v,o.data ≠ .cell v):Inv X (ag++lp a s.heap) σ H s:=
 I.pins_of λp g=>(aF.mp g).elim (λz=>I.pin p (mA1 _ z)) λz=>by
  obtain⟨c,e⟩:=ur z;obtain⟨h,i,j,_⟩:=hf p.1 c;obtain⟨o,f,d⟩:=ho p.1 c;rw[e]at f;cases f;exact⟨e,h,i,j,d⟩
theorem Inv.unpinned{ag pl:List (cG×Obj)}{σ:St}{H:Hp}{s:cF}(I:Inv X (ag++pl) σ H s):Inv X ag σ H s:=I.pins_of λp a=>I.pin p (mA1 _ (aG _ a))
theorem Bq{iter:Expr}{t:List cR}{wq:TI}{g:TG}{tb:TS}{pos:Pos}(hp:PassesOwn (model X.prog X.w) X.A X.env X.xe)(hc:X.calm=M)(hi:PI X tg iter wq)(hg:PG X tg g)(hb:qT X t tb)(hs:∀x,foldedSetIterable iter X.env x=pure x:=by intro _;rfl):PS X (.For tg iter t [] pos) (DC wq g tb):=by
 intro ag s σ H D I h;refine wpAny_For (ee (hi ag s σ H _ I h) λv s1 h1=>ee h1 λitv s2 h2=>?_) hs;obtain⟨it,C,U,am,H2,e,I2,T,L,Q,W,⟨m0,w0⟩,B⟩:=h2;subst e
 -- what stays M of the iterator's objects through the loop
 have p:∀{H':Hp},(∀b∈C,H' b=Y) -> ∀b∈C,iF X ag H' b:=λhn b hb=>⟨hn b hb,(Q b hb).2⟩;refine codeAny_forLoop_any (λn s'=>∃i j H',Inv X ag j H' s'/\U i s'.heap/\(∀b∈C,H' b=Y)/\W i n j H') ?_ m0 ⟨0,σ,H2,I2,L,λb hb=>(Q b hb).1,w0⟩;rintro n S ⟨i,l,F,aq,y,A,w3⟩;rcases B i n l F w3 with⟨z,qn⟩|⟨go,N,hN,step⟩
 ·refine wpAny_passesOwn hp (ee (T.done X O O O hc i ag S l F X.xe aq (p A) y z) λr s4 ⟨ao,I4⟩=>?_);subst ao;exact wpAny_execs_nil ⟨l,F,I4,qn⟩
 ·refine wpAny_passesOwn hp (ee (T.item X rfl rfl rfl hc i ag S l F X.xe aq (p A) y go) fun r s4 ⟨u,ao,h4⟩=>?_);subst ao;refine wpAny_passesOwn hp (ee h4 fun _ R ⟨x,V,I5,r5,y5,w,au⟩=>?_);have K:=I5.pinned (p au) (T.obj _ _ w);refine wpAny_passesOwn hp (ee (hg _ R l V x u _ K r5 (step x V y5)) fun _ s6 ⟨P,H6,I6,q6⟩=>?_);refine wpAny_passesOwn hp (ee (hb _ s6 P H6 _ I6 q6) fun f G q=>?_);have again:∀ {a:St} {k:Hp},Inv X (ag++lp C R.heap) a k G->N a k -> ∃ m,m<n /\ ∃ i j H',Inv X ag j H' G/\U i G.heap/\(∀ b∈C,H' b=none)/\W i m j H':=fun {a k} c E=>by
   obtain⟨m',hm,w7⟩:=hN a k E;refine⟨m',hm,i+1,a,k,c.unpinned,T.keep _ _ _ w λb hb o e=>(c.pin (b,o) (mA1 _ (mA1 _ (gX hb e)))).1,λb hb=>?_,w7⟩;obtain⟨o,e,d⟩:=T.obj _ _ w b hb;exact(c.pin (b,o) (mA1 _ (mA1 _ (gX hb e)))).2.1
  cases f with
  |next=>obtain⟨a,k,c,E⟩:=q;exact again c E
  |cont=>obtain⟨a,k,c,E⟩:=q;exact again c E
  |brk=>obtain⟨a,k,c,q⟩:=q;exact⟨a,k,c.unpinned,q⟩
  |ret v=>obtain⟨x7,a,k,c,r7,q⟩:=q;exact⟨x7,a,k,c.unpinned,r7,q⟩
end
end L2
namespace L2
open PySem PySem.Spec PyProof.Rows
abbrev R2:=V->V->Hp->VK->Prop
def e9(X:Cx)(f:cE->cE->Sem cE)(r:R2):Prop:=
 ∀(ag:List (cG×Obj)) (s:cF) (σ:St) (H:Hp) (x y:V) (v u:cE) (Q:VK),Inv X ag σ H s->de x v->de y u->r x y H Q ->
  cO (model X.prog X.w) X.A (f v u) (EP X ag σ Q) X.xe s
def Dk(X:Cx)(f:cE->Sem cE)(r:V->Hp->VK->Prop):Prop:=
 ∀(ag:List (cG×Obj)) (s:cF) (σ:St) (H:Hp) (x:V) (v:cE) (Q:VK),Inv X ag σ H s->de x v->r x H Q ->
  cO (model X.prog X.w) X.A (f v) (EP X ag σ Q) X.xe s
def dV(X:Cx)(f:cE)(r:List V->Hp->VK->Prop):Prop:=
 ∀(ag:List (cG×Obj)) (s:cF) (σ:St) (H:Hp) (xs:List V) (us:List cE) (Q:VK),Inv X ag σ H s->dy xs us->r xs H Q ->
  cO (model X.prog X.w) X.A (call f us) (EP X ag σ Q) X.xe s
noncomputable def Dz(r:R2)(ta tb:TE):TE:=fun σ H Q=>ta σ H λx H1=>tb σ H1 λy H2=>r x y H2 Q
def Gm(r:V->Hp->VK->Prop)(ta:TE):TE:=fun σ H Q=>ta σ H λx H1=>r x H1 Q
def rI(C:Int->Int->Prop)(g:Int->Int->V):R2:=λx y H Q=>∃i j,x = .int i/\y = .int j/\C i j/\Q (g i j) H
noncomputable def yK(g:Int->Int->V):R2:=λx y H Q=>∃i j,x = .int i/\y = .int j/\Q (g i j) H
def rU(g:Int->V):V->Hp->VK->Prop:=λx H Q=>∃i,x = .int i/\Q (g i) H
section
variable{X:Cx}{a b c:Expr}{ta tb tc:TE}{pos:Pos}
theorem CW(ha:PE X a ta)(hb:PE X b tb){ag:List (cG×Obj)}{s:cF}{σ:St}{H:Hp}{R:V->V->Hp->Prop}(I:Inv X ag σ H s)(h:ta σ H fun x H1=>tb σ H1 fun y H2=>R x y H2){Q:cE->cF->Prop}{f:cE->cE->Sem cE}(hf:∀v u e x y H2,Inv X ag σ H2 e->de x v->de y u->R x y H2->cO (model X.prog X.w) X.A (f v u) Q X.xe e):
  cO (model X.prog X.w) X.A (eval a X.env) (λv c=>cO (model X.prog X.w) X.A (eval b X.env) (λu d=>cO (model X.prog X.w) X.A (f v u) Q X.xe d) X.xe c) X.xe s:=by
 refine ee (ha ag s σ H _ I h) λv i ⟨x,H1,j,l,k⟩=>?_;refine ee (hb ag i σ H1 _ j k) λu e ⟨y,H2,m,r2,g⟩=>?_;exact hf v u e x y H2 m l r2 g
theorem DV{op:Operator}{r:R2}(ho:e9 X (binaryOp op) r)(ha:PE X a ta)(hb:PE X b tb):PE X (.BinOp a op b pos) (Dz r ta tb):=by
 intro ag s σ H Q I h;exact wpAny_BinOp (CW ha hb I h λv u d x y H2 f e c q=>ho ag d σ H2 x y v u Q f e c q)
theorem DU{op:UnaryOp}{r:V->Hp->VK->Prop}(ho:Dk X (unaryOp op) r)(ha:PE X a ta):PE X (.UnaryOp op a pos) (Gm r ta):=by
 intro ag s σ H Q I h;exact UnaryOp_ (ee (ha ag s σ H _ I h) λv c ⟨x,H1,d,b,e⟩=>ho ag c σ H1 x v Q d b e)
theorem opI{f:cE->cE->Sem cE}{C:Int->Int->Prop}{g:Int->Int->Int}(a:∀(i j:Int) (t u:Tok) (s:cF) (Q:cE->cF->Prop) (E:cE->cF->Prop),C i j->Q (.int (g i j) s.toks) {s with toks:=s.toks+1}->cO (model X.prog X.w) X.A (f (.int i t) (.int j u)) Q E s):
  e9 X f (rI C λi j=>.int (g i j)):=by
 intro ag s σ H x y v u Q I c b h;obtain⟨i,j,rfl,rfl,hc,q⟩:=h;obtain⟨t,rfl⟩:=c;obtain⟨d,rfl⟩:=b;exact a i j t d s _ _ hc ⟨.int (g i j),H,I.tok _,⟨_,O⟩,q⟩
theorem zg{f:cE->cE->Sem cE}{g:Int->Int->Int}(a:∀(i j:Int) (t u:Tok) (s:cF) (Q:cE->cF->Prop) (E:cE->cF->Prop),Q (.int (g i j) s.toks) {s with toks:=s.toks+1}->cO (model X.prog X.w) X.A (f (.int i t) (.int j u)) Q E s):
  e9 X f (yK λi j=>.int (g i j)):=by
 intro ag s σ H x y v u Q I c b h;obtain⟨i,j,rfl,rfl,q⟩:=h;obtain⟨t,rfl⟩:=c;obtain⟨d,rfl⟩:=b;exact a i j t d s _ _ ⟨.int (g i j),H,I.tok _,⟨_,O⟩,q⟩
theorem D3{f:cE->cE->Sem cE}{g:Int->Int->Bool}(a:∀(i j:Int) (t u:Tok) (s:cF) (Q:cE->cF->Prop) (E:cE->cF->Prop),Q (.bool (g i j)) s->cO (model X.prog X.w) X.A (f (.int i t) (.int j u)) Q E s):
  e9 X f (yK λi j=>.bl (g i j)):=by
 intro ag s σ H x y v u Q I c b h;obtain⟨i,j,rfl,rfl,q⟩:=h;obtain⟨t,rfl⟩:=c;obtain⟨d,rfl⟩:=b;exact a i j t d s _ _ ⟨.bl (g i j),H,I,O,q⟩
def E2(i j:Int):Prop:=0<j/\j<1073741824
def Aw(i j:Int):Prop:=0<=j/\j<=1000000/\i.natAbs<2^64
theorem rh(k:Nat):(0:Int)<=2^k:=by
 rw[two_pow_cast];exact Int.natCast_nonneg _
theorem BQ:e9 X (binaryOp .Add) (yK λi j=>.int (i+j)):=zg λ_ _ _ _ _ _ _ q=>add_int q
theorem BH:e9 X (binaryOp .Sub) (yK λi j=>.int (i-j)):=zg λ_ _ _ _ _ _ _ q=>sub_int q
theorem ze:e9 X (binaryOp .FloorDiv) (rI E2 λi j=>.int (i/j)):=opI λi j _ _ _ _ _ hc q=>by
 have h1:(0:Int)<j:=hc.1;have h2:j<1073741824:=hc.2;exact floordiv_int (by lia) (by rw[Int.fdiv_eq_ediv_of_nonneg i (by lia)];exact q) (.inl (PyProof.noPylong_small (by lia)))
theorem BM:e9 X (binaryOp .Mod) (rI (λ_ j=>0<j) λi j=>.int (i%j)):=opI λi j _ _ _ _ _ hc q=>by
 have h1:(0:Int)<j:=hc;exact mod_int' (by lia) (by rw[Int.fmod_eq_emod_of_nonneg i (by lia)];exact q)
theorem BK:e9 X (binaryOp .Pow) (rI Aw λi j=>.int (i^j.toNat)):=opI λ_ _ _ _ _ _ _ hc q=>pow_int_small hc.1 hc.2.1 hc.2.2 q
theorem BJ:e9 X (binaryOp .LShift) (rI Aw λi j=>.int (i*2^j.toNat)):=opI λ_ _ _ _ _ _ _ hc q=>lshift_int_small hc.1 hc.2.1 hc.2.2 q
theorem BI:e9 X (binaryOp .RShift) (rI (λ_ j=>0<=j) λi j=>.int (i/2^j.toNat)):=opI λi j _ _ _ _ _ hc q=>
 rshift_int hc (by rw[Int.fdiv_eq_ediv_of_nonneg i (rh _)];exact q)
theorem BP:e9 X (binaryOp .BitAnd) (yK λi j=>.int (Builtin.bitAnd i j)):=zg λ_ _ _ _ _ _ _ q=>and_int q
theorem zR:e9 X (inplaceOp .Add) (yK λi j=>.int (i+j)):=zg λ_ _ _ _ _ _ _ q=>iadd_int q
theorem GN{f:cE->Sem cE}{g:Int->Int}(a:∀(i:Int) (t:Tok) (s:cF) (Q:cE->cF->Prop) (E:cE->cF->Prop),Q (.int (g i) s.toks) {s with toks:=s.toks+1}->cO (model X.prog X.w) X.A (f (.int i t)) Q E s):
  Dk X f (rU λi=>.int (g i)):=by
 intro ag s σ H x v Q I b h;obtain⟨i,rfl,q⟩:=h;obtain⟨t,rfl⟩:=b;exact a i t s _ _ ⟨.int (g i),H,I.tok _,⟨_,O⟩,q⟩
theorem A1:Dk X (unaryOp .USub) (rU λi=>.int (-i)):=GN λ_ _ _ _ _ q=>neg_int q
theorem xC{ag:List (cG×Obj)}{σ:St}{H:Hp}{s:cF}{Q:VK}{k k':Bool}(I:Inv X ag σ H s)(q:Q (.bl k) H)(e:k=k'):EP X ag σ Q (.bool k') s:=by
 subst e;exact⟨.bl k,H,I,O,q⟩
theorem D1:e9 X (compareOp .Gt) (yK λi j=>.bl (decide (j<i))):=D3 λ_ _ _ _ _ _ _ q=>gt_int q
theorem D2:e9 X (compareOp .GtE) (yK λi j=>.bl (decide (j<=i))):=D3 λ_ _ _ _ _ _ _ q=>ge_int q
theorem BN:e9 X (compareOp .Is) (λx y H Q=>y = .non/\Q (.bl (decide (x = .non))) H):=by
 intro ag s σ H x y v u Q I a b h;obtain⟨rfl,q⟩:=h;cases b;refine is_none_gen (xC I q ?_);cases x<;>first
  |(cases a;rfl)
  |(obtain⟨t,rfl⟩:=a;rfl)
theorem zd:e9 X (compareOp .IsNot) (λx y H Q=>y = .non/\Q (.bl (!decide (x = .non))) H):=by
 intro ag s σ H x y v u Q I a b h;obtain⟨rfl,q⟩:=h;cases b;refine isnot_none_gen (xC I q ?_);cases x<;>first
  |(cases a;rfl)
  |(obtain⟨t,rfl⟩:=a;rfl)
theorem wI(b:Expr){op:CmpOp}(h:op ≠ .In:=by decide)(h2:op ≠ .NotIn:=by decide):behindInMarks op b=J:=by
 have a:(op == CmpOp.In)=J:=by cases op<;>first|rfl|exact absurd rfl h
 have c:(op == CmpOp.NotIn)=J:=by cases op<;>first|rfl|exact absurd rfl h2
 cases b<;>simp[behindInMarks,a,c]
theorem za{op:CmpOp}{r:R2}(ho:e9 X (compareOp op) r)(ha:PE X a ta)(hb:PE X b tb)(hm:behindInMarks op b=J):PE X (.Compare a [op] [b] pos) (Dz r ta tb):=by
 intro ag s σ H Q I h;exact wpAny_Compare1 (CW ha hb I h λv u d x y H2 f e c q=>ho ag d σ H2 x y v u Q f e c q) hm
noncomputable def Dw(t:TE):TT:=fun σ H Q=>t σ H λx H'=>∃k,x = .bl k/\Q k H'
theorem yP{op:CmpOp}{r:R2}(ho:e9 X (compareOp op) r)(ha:PE X a ta)(hb:PE X b tb)(hm:behindInMarks op b=J):PT X (.Compare a [op] [b] pos) (Dw (Dz r ta tb)):=by
 intro ag s σ H Q I h;refine wpAny_isTrue_Compare1 (ee (ha ag s σ H _ I h) λv i ⟨x,H1,j,o,m⟩=>ee (hb ag i σ H1 _ j m) λu q ⟨y,H2,p,r2,f⟩=>
  ee (ho ag q σ H2 x y v u _ p o r2 f) λc t ⟨z,l,g,n,k,e,d⟩=>?_) hm
 subst e;cases n;exact wpAny_truthy_bool ⟨l,g,d⟩
theorem lE:(cN:Nat)<2^63:=by rw[sizeLine_eq];decide
theorem rD:e9 X (binaryOp .Add) (λx y H Q=>∃i j,x = .str i/\y = .str j/\i.length+j.length<=cN/\Q (.str (i++j)) H):=by
 intro ag s σ H x y v u Q I c b h;obtain⟨i,j,rfl,rfl,a,q⟩:=h;obtain⟨t,rfl⟩:=c;obtain⟨d,rfl⟩:=b;exact add_str (λd tk=>⟨.str (i++j),H,I.tok _,⟨_,O⟩,q⟩) a
theorem gB{x:V}{a:List cE}(r:dy [x] a):∃u,a=[u]/\de x u:=by
 cases r with
 |cons b r2=>cases r2;exact⟨_,O,b⟩
theorem Az{x y:V}{a:List cE}(r:dy [x,y] a):∃u w',a=[u,w']/\de x u/\de y w':=by
 cases r with
 |cons d r2=>
  cases r2 with
  |cons b c=>cases c;exact⟨_,_,O,d,b⟩
theorem u5(hc:X.calm=M):dV X (.builtin "max") (λxs H Q=>∃i j,xs=[.int i,.int j]/\Q (.int (if j>i then j else i)) H):=by
 intro ag s σ H xs c Q I r h;obtain⟨i,j,rfl,q⟩:=h;obtain⟨u,d,rfl,⟨t,rfl⟩,⟨b,rfl⟩⟩:=Az r;refine max_two_ints (I.ok.hd hc) λh' tk k=>⟨_,H,I.kept k,?_,q⟩;by_cases a:j>i
 ·rw[ak a,ak a];exact⟨_,O⟩
 ·rw[aj a,aj a];exact⟨_,O⟩
theorem u4(hc:X.calm=M):dV X (.builtin "min") (λxs H Q=>∃i j,xs=[.int i,.int j]/\Q (.int (if j<i then j else i)) H):=by
 intro ag s σ H xs c Q I r h;obtain⟨i,j,rfl,q⟩:=h;obtain⟨u,d,rfl,⟨t,rfl⟩,⟨b,rfl⟩⟩:=Az r;refine min_two_ints (I.ok.hd hc) λh' tk k=>⟨_,H,I.kept k,?_,q⟩;by_cases a:j<i
 ·rw[ak a,ak a];exact⟨_,O⟩
 ·rw[aj a,aj a];exact⟨_,O⟩
theorem nz:dV X (.type "int") (λxs H Q=>(∃i,xs=[.int i]/\Q (.int i) H) \/ ∃k,xs=[.bl k]/\Q (.int (if k then 1 else 0)) H):=by
 intro ag s σ H xs b Q I r h;rcases h with⟨i,rfl,q⟩|⟨k,rfl,q⟩
 ·obtain⟨u,rfl,t,rfl⟩:=gB r;exact call_int_int ⟨.int i,H,I,⟨_,O⟩,q⟩
 ·obtain⟨u,rfl,a⟩:=gB r;cases a;exact call_int_bool ⟨.int (if k then 1 else 0),H,I.tok _,⟨_,O⟩,q⟩
end
end L2
namespace L2
open PySem PySem.Spec PyProof.Rows
section
variable{prog:cH}{w:cJ}{A:cI}{E:cE->cF->Prop}{s:cF}{K:Fg1}{x dx C f:cG}{mA:Str->Option cE}{name:Str}{v:cE}
end
theorem my.some_of{v:V}{o:Option cE}(r:my (Z v) o):∃u,o=Z u/\de v u:=by
 cases o with
 |none=>exact(show False from r).elim
 |some u=>exact⟨u,O,r⟩
section
variable{P:cH}{w:cJ}{H H':Hp}{h h':cP}{a C dx:cG}{fs fs':List (Str×V)}
end
section
variable{X:Cx}{ag:List (cG×Obj)}{σ:St}{H:Hp}{s:cF}{a C dx:cG}{fs:List (Str×V)}{f:Str}{v:V}{A:cI}{E:cE->cF->Prop}
end
section
variable{X:Cx}{o e value:Expr}{f:Str}{pos pos' tpos:Pos}{ta tv:TE}
end
section
variable{X:Cx}{ag:List (cG×Obj)}{σ:St}{H:Hp}{s:cF}{A:cI}{E:cE->cF->Prop}{Q:cE->cF->Prop}{c:cE}{b:Bool}
end
end L2
namespace L2
open PySem PySem.Spec PyProof.Rows
structure eM (k:Nat)(A:cI):Prop where
 hd:A.handled=none
 dp:A.depth+3*k+5<recursionLimit
 un:A.units+16*k+200<cLine
 gd:A.guards=some []
theorem eM.mono{j k:Nat}{A:cI}(r:eM k A)(h:j<=k):eM j A:=⟨r.hd,by have:=r.dp;lia,by have:=r.un;lia,r.gd⟩
theorem eM.deeper{k:Nat}{A:cI}(r:eM (k+1) A)(env:Env):eM k (A.deeper env):=
 ⟨r.hd,by have:=r.dp;show A.depth+1+3*k+5<_;lia,by have:=r.un;show A.units+3+16*k+200<_;lia,r.gd⟩
theorem eM.depth{k:Nat}{A:cI}(r:eM k A):A.depth<recursionLimit:=by have:=r.dp;lia
theorem eM.units{k:Nat}{A:cI}(r:eM k A):A.units+64<cLine:=by have:=r.un;lia
noncomputable def Ft:TA:=λ_ H Q=>Q [] H
noncomputable def DF(ta:TE)(tr:TA):TA:=fun σ H Q=>ta σ H λx H1=>tr σ H1 λxs H2=>Q (x::xs) H2
section
variable{X:Cx}{e:Expr}{es:List Expr}{te:TE}{t:TA}{pos:Pos}
theorem lv:PA X [] Ft:=λ_ _ _ _ H Q I h=>Calls.spliced_nil ⟨[],H,I,.nil,h⟩
theorem jb(ha:PE X e te)(hr:PA X es t)(hs:cM (e::es) X.env=(J,eval e X.env)::cM es X.env:=by rfl):PA X (e::es) (DF te t):=by
 intro pos ag s σ H Q I h;rw[hs];show cO _ _ (spliced ((J,eval e X.env)::backTo pos (cM es X.env))) _ _ s;refine Calls.spliced_cons (ee (ha ag s σ H _ I h) λu b ⟨x,H1,c,f,d⟩=>?_);exact ee (hr pos ag b σ H1 _ c d) λi j ⟨xs,H2,g,r2,a⟩=>⟨x::xs,H2,g,.cons f r2,a⟩
noncomputable def Fo(t:TA):TE:=fun σ H Q=>t σ H λxs H1=>xs.length<=cN /\ ∀p,H1 p=Y->Q (.ref p) (upd H1 p (.tup xs))
noncomputable def Fx(t:TA):TE:=fun σ H Q=>t σ H λxs H1=>xs.length<=cN /\ ∀p,H1 p=Y->Q (.ref p) (upd H1 p (.lst xs))
theorem BA{x1}(h:PA X es t):PE X (.Tuple es x1 pos) (Fo t):=by
 intro ag s σ H Q I g;refine wpAny_Tuple_spliced (ee (h pos ag s σ H _ I g) λd a ⟨xs,H1,c,r,z,q⟩=>⟨by rw[<- r.length];exact z,?_⟩);have f:H1 a.heap.objs.size=Y:=c.hok.fresh (nR1 _);refine⟨.ref a.heap.objs.size,upd H1 a.heap.objs.size (.tup xs),c.laid (t':=a.toks) (λb u e=>hP1 _ e) (nR1 _) ?_,O,q _ f⟩;exact⟨z,d,r,⟨_,hS1 _ O,O,_,O⟩⟩
theorem BD(h:PA X es t):PE X (.List es pos) (Fx t):=by
 intro ag s σ H Q I g;refine wpAny_List_spliced (ee (h pos ag s σ H _ I g) λd a ⟨xs,H1,c,r,z,q⟩=>⟨by rw[<- r.length];exact z,?_⟩);have f:H1 a.heap.objs.size=Y:=c.hok.fresh (nR1 _);refine⟨.ref a.heap.objs.size,upd H1 a.heap.objs.size (.lst xs),c.laid (t':=a.toks) (λb u e=>hP1 _ e) (nR1 _) ?_,O,q _ f⟩;exact⟨z,d,0,r,hS1 _ O⟩
end
abbrev Sp:=List V->Hp->VK->XK->Prop
abbrev vm:=List Env->Hp->cF->XK->cE->cF->Prop
structure Av (P:cH)(w:cJ)(K:Fg1)(mg:Str->Option cE)(base:cP)(A:cI)(outer:List Env)(s:cF)(H:Hp):Prop where
 frames:A.frames=some outer
 mod:Mod K mg base
 bs:∀b o,base.get? b=some o->s.heap.get? b=some o/\H b=none
 bsz:base.objs.size<=s.heap.objs.size
 funs:s.heap.FunFrames base outer
 frf:∀b∈frs outer,H b=none
 hok:jB P w H s.heap
 bare:AllBare s.gens
def CE(outer:List Env)(P:cH)(w:cJ)(H:Hp)(s:cF)(Q:VK)(u:cE)(s':cF):Prop:=
 ∃v H',s'.os=s.os/\AllBare s'.gens/\Un (frs outer) [] H H' s.heap s'.heap/\jB P w H' s'.heap/\de v u/\Q v H'
def CR(CX:vm)(outer:List Env)(P:cH)(w:cJ)(H:Hp)(s:cF)(Q:VK)(E:XK)(r:Result)(s':cF):Prop:=
 match r with
 | .ok (.ret u)=>CE outer P w H s Q u s'
 | .ok _=>False
 | .error e=>CX outer H s E e s'
structure jS (P:cH)(w:cJ)(K:Fg1)(mg:Str->Option cE)(base:cP)(CX:vm)(k:Nat)(f:cG)(fd:cQ)(ps:List Str)(sp:Sp):Prop where
 len:∀vs H Q E,sp vs H Q E->vs.length=ps.length
 run:∀(A:cI) (outer:List Env) (s:cF) (H:Hp) (args:Args) (us:List cE) (vs:List V) (Q:VK) (E:XK),eM k A->Av P w K mg base A outer s H->BindsTo s fd args (ps.zip us)->dy vs us->sp vs H Q E ->
  codeAny (model P w) A (.call (.ref f) args) (CR CX outer P w H s Q E) s
section
variable{X:Cx}{ag:List (cG×Obj)}{σ:St}{H:Hp}{s s':cF}
theorem Inv.env0(I:Inv X ag σ H s):Av X.prog X.w X.K X.mg X.base X.A X.stack s H:=
 ⟨I.ok.frames,I.ok.mod,I.bs,aC I.ok.bsz I.sz,I.stack,I.stkFree,I.hok,I.bare⟩
theorem Inv.after{Q:VK}{u:cE}(I:Inv X ag σ H s)(h:CE X.stack X.prog X.w H s Q u s'):EP X ag σ Q u s':=by
 obtain⟨v,H',i,a,un,c,r,q⟩:=h;obtain⟨f,g,d,t,e⟩:=s';obtain rfl:e=s.os:=i;exact⟨v,H',I.call (h':=f) (g':=g) (d':=d) (t':=t) (ch:=[]) un c a (λb z=>absurd z (by simp)),r,q⟩
end
noncomputable def DG(sp:Sp)(dvs:List V)(E:XK)(t:TA):TE:=fun σ H Q=>t σ H λvs H1=>sp (vs++dvs) H1 Q E
def jC(K:Fg1)(fd:cQ)(ps:List Str)(ds:List cE):Prop:=
 ∀(s:cF) (us:List cE),K.In s.heap->(us++ds).length=ps.length->BindsTo s fd ⟨us,[]⟩ (ps.zip (us++ds))
theorem jC.all{K:Fg1}{fd:cQ}{ps:List Str}(h:∀a:List cE,a.length=ps.length->bindArgs fd ⟨a,[]⟩=pure (ps.zip a)):jC K fd ps []:=λs a _ b=>by
 rw[aL]at b ⊢;exact .of_eq (h a b)
def su(CX:vm)(X:Cx)(E:XK):Prop:=∀(ag:List (cG×Obj)) (σ:St) (H:Hp) (s:cF) (e:cE) (s':cF),Inv X ag σ H s->CX X.stack H s E e s'->X.xe e s'
section
variable{X:Cx}{CX:vm}{k:Nat}{f C:cG}{fd:cQ}{ps:List Str}{sp:Sp}{dvs:List V}{ds:List cE}{E:XK}{x m:Str}{p pos apos:Pos}{e o:Expr}{es:List Expr}{ta:TE}{t:TA}
theorem Bd{ag:List (cG×Obj)}{σ:St}{H:Hp}{s:cF}{Q:VK}{a:List cE}{vs:List V}(F:jS X.prog X.w X.K X.mg X.base CX k f fd ps sp)(hr:eM k X.A)(hb:jC X.K fd ps ds)(hd:dy dvs ds)(hx:su CX X E)(I:Inv X ag σ H s)(r:dy vs a)(h:sp (vs++dvs) H Q E):cO (model X.prog X.w) X.A (call (.ref f) a) (EP X ag σ Q) X.xe s:=by
 have r2:dy (vs++dvs) (a++ds):=r.append hd;have d:(a++ds).length=ps.length:=by rw[<- r2.length];exact F.len _ _ _ _ h
 refine wpAny_call (codeAny_mono (F.run X.A X.stack s H ⟨a,[]⟩ (a++ds) (vs++dvs) Q E hr I.env0 (hb s a I.kIn d) r2 h) λr s' b=>?_);cases r with
 |error e=>exact hx ag σ H s e s' I b
 |ok c=>
  cases c with
  |ret u=>exact I.after b
  |next=>exact False.elim b
  |brk=>exact False.elim b
  |cont=>exact False.elim b
theorem zb (F:jS X.prog X.w X.K X.mg X.base CX k f fd ps sp)(hr:eM k X.A)(hg:Gl X x)(hm:X.mg x=some (.ref f))(hk:wK1 X.K (.ref f)=true)(hb:jC X.K fd ps ds)(hd:dy dvs ds)(hx:su CX X E)
  (ha:PA X (e::es) t) (hdb:(x == ("__debug__":Str))=J:=by decide) (he:cM (e::es) X.env=(J,eval e X.env)::cM es X.env:=by rfl) (hpl:(backTo pos (cM es X.env)).any (·.1)=J:=by rfl):
  PE X (.Call (.Name x p) (e::es) [] pos) (DG sp dvs E t):=by
 intro ag s σ H Q I h;refine wpAny_Call_Name_kw (tq I hg hm ?_ hdb);refine PySem.W.callWith_K (h₀:=X.base) I.ok.mod.kin hk (ee (ha pos ag s σ H _ I h) λc b ⟨vs,H1,a,r,q⟩=>⟨a.kIn,?_⟩) he hpl;exact Bd F hr hb hd hx a r q
end
section
variable{X:Cx}{CX:vm}{k:Nat}{f C:cG}{fd:cQ}{ps ks:List Str}{sp:Sp}{E:XK}{x m:Str}{p pos apos kpos:Pos}{e o:Expr}{es:List Expr}{kws:List Keyword}{te ta:TE}{t tk:TA}{nm:Option Str}
variable{g:List cE->List cE->List cE}{gV:List V->List V->List V}
end
structure fq (N P:List Str)(sc:cS):Prop where
 kind:sc.kind = .function
 co:sc.isCoroutine=false
 gen:sc.isGenerator=false
 nd:N.Nodup
 pre:N.take P.length=P
 par:∀x∈P,sc.names.lookup x=some .local\/sc.names.lookup x=some .cell
 nofree:∀y∈sc.names,y.2 ≠ .free
theorem nC{kindOf:Str->Option NameKind}{x:Str}:∀{binds:List (Str×cE)} {m:Str->Option cE},(∀v,(x,v)∉binds)->bindL kindOf binds m x=m x
 |[],_,_=>rfl
 |(n,v)::r,m,h=>by
  unfold bindL;rw[nC λw a=>h w (mC1 _ a)];split
  ·have:x≠n:=by rintro rfl;exact h v mS1
   simp[this]
  ·rfl
theorem nE{kindOf:Str->Option NameKind}{x:Str}:∀{binds:List (Str×cE)} {m:Str->Option cE},(∀v,(x,v)∉binds)->bindC kindOf binds m x=m x
 |[],_,_=>rfl
 |(n,v)::r,m,h=>by
  unfold bindC;rw[nE λw a=>h w (mC1 _ a)];split
  ·rfl
  ·have:x≠n:=by rintro rfl;exact h v mS1
   simp[this]
theorem nD{kindOf:Str->Option NameKind}{x:Str}{v:cE}:∀ {P:List Str} {vs:List cE} {i:Nat} {m:Str->Option cE},P.Nodup->P[i]? = some x->vs[i]? = some v->kindOf x=some .local ->
  bindL kindOf (P.zip vs) m x=Z v
 |[],_,_,_,_,h,_,_=>by simp at h
 |_::_,[],_,_,_,_,h,_=>by simp at h
 |p::P,w::vs,0,m,nd,h1,h2,hk=>by
  simp at h1 h2;subst h1;subst h2;show bindL kindOf ((p,w)::P.zip vs) m p=_;unfold bindL;rw[nC λv a=>(aM.mp nd).1 (List.of_mem_zip a).1,ak hk];simp
 |p::P,w::vs,i+1,m,nd,h1,h2,hk=>by
  show bindL kindOf ((p,w)::P.zip vs) m x=_;unfold bindL;exact nD (i:=i) (aM.mp nd).2 (by simpa using h1) (by simpa using h2) hk
theorem nF{kindOf:Str->Option NameKind}{x:Str}{v:cE}:∀ {P:List Str} {vs:List cE} {i:Nat} {m:Str->Option cE},P.Nodup->P[i]? = some x->vs[i]? = some v->kindOf x≠some .local ->
  bindC kindOf (P.zip vs) m x=Z v
 |[],_,_,_,_,h,_,_=>by simp at h
 |_::_,[],_,_,_,_,h,_=>by simp at h
 |p::P,w::vs,0,m,nd,h1,h2,hk=>by
  simp at h1 h2;subst h1;subst h2;show bindC kindOf ((p,w)::P.zip vs) m p=_;unfold bindC;rw[nE λv a=>(aM.mp nd).1 (List.of_mem_zip a).1,aj hk];simp
 |p::P,w::vs,i+1,m,nd,h1,h2,hk=>by
  show bindC kindOf ((p,w)::P.zip vs) m x=_;unfold bindC;exact nF (i:=i) (aM.mp nd).2 (by simpa using h1) (by simpa using h2) hk
noncomputable def start(N:List Str)(vs:List V):St:=vs.map Z++aN (N.length-vs.length) Y
noncomputable def kE(CX:vm)(P:cH)(w:cJ)(K:Fg1)(mg:Str->Option cE)(base:cP)(N:List Str)(qual:Str)(scope:cS)(f:cG)(cd:cE)(A:cI)(outer:List Env)(s:cF)(H:Hp)(E:XK):Cx where
 prog:=P
 w:=w
 K:=K
 mg:=mg
 base:=base
 A:=A.deeper (envOfC qual scope s.heap.objs.size f cd)
 N:=N
 s₀:=s
 H₀:=H
 env:=envOfC qual scope s.heap.objs.size f cd
 outer:=outer
 stack:=envOfC qual scope s.heap.objs.size f cd::outer
 ex:=[]
 calm:=M
 fn:=λ_=>M
 pn:=[]
 xe:=λe s'=>cO (model P w) (A.deeper (envOfC qual scope s.heap.objs.size f cd)) (leaving (envOfC qual scope s.heap.objs.size f cd) e) (λ_ s''=>CX outer H s E e s'') (λe' s''=>CX outer H s E e' s'') s'
theorem qq{a:cS}{n:Nat}{x:Str}(h:a.names.lookup x=Z .cell):∃c,(cellsFrom n a.names []).lookup x=Z c:=by
 have q:=PySem.W.cellsFrom_some a.names n [] (.inl h);exact aO.mp q
theorem uD{CX:vm}{P:cH}{w:cJ}{K:Fg1}{mg:Str->Option cE}{base:cP}{N ps:List Str}{g:Str}{scope:cS}{f:cG}{B:cE}{A:cI}{d:List Env}{s s1:cF}{H:Hp}{E:XK}{C:List cE}{vs:List V}(S:fq N ps scope)(hd:A.handled=none)(j:Av P w K mg base A d s H)(L:vs.length=ps.length)(r:dy vs C)(x:InCallC s s.heap.objs.size (bindL (envOfC g scope s.heap.objs.size f B).kindOf (ps.zip C) fun _=>none) (cellsFrom (s.heap.objs.size+1) scope.names []) (bindC (envOfC g scope s.heap.objs.size f B).kindOf (ps.zip C) fun _=>none) s1):
  Inv (kE CX P w K mg base N g scope f B A d s H E) [] (start N vs) H s1:=by
 have I:ps.length<=N.length:=by have:=congrArg List.length S.pre;rw[aP]at this;lia
 obtain⟨h1,tk,rfl,F⟩:=x.done;have m:∀b:cG,b∉(kE CX P w K mg base N g scope f B A d s H E).ex:=λb z=>absurd (show b∈([]:List cG)from z) (by simp);refine⟨⟨j.mod,S.kind,O,O,nR1 _,λy z c h1 h2=>?_,λy l=>?_,λy c _ h=>?_,λ_=>hd,Around.frames_deeper j.frames,.inr ⟨O,O⟩,λb z=>absurd z (m b),j.bs,j.bsz,λb _ _=>m b,λb z=>absurd z (m b),j.funs,j.frf⟩,
  rfl,j.bare,Un.kept F,⟨_,x.toInCall.ns,λi y v h1 h2 ao=>?_⟩,λy c h=>⟨_,x.cell y c h⟩,j.hok.fresh (nR1 _),λy c h=>?_,λp o=>absurd (show p∈([]:List (cG×Obj))from o) (by simp),j.hok.kept F,?_⟩
 ·exact name_of_addr x.apart (PySem.mem_of_lookup h1) (PySem.mem_of_lookup h2)
 ·have l:scope.names.lookup y=Z .cell\/scope.names.lookup y=Z .free:=l;rcases l with l|l
  ·exact qq l
  ·exact absurd O (S.nofree _ (PySem.mem_of_lookup l))
 ·exact Nat.le_of_lt (x.above y c (PySem.mem_of_lookup h))
 ·have hi:i<vs.length:=by
   unfold start at h2;by_cases hi:i<vs.length
   ·exact hi
   ·rw[gR1 (by simpa using hi)]at h2;rw[aQ]at h2;split at h2<;>cases h2
  have G:vs[i]?=Z v:=by
   unfold start at h2;rw[gL1 (by simpa using hi),gP1]at h2;cases e:vs[i]? with
   |none=>rw[e]at h2;cases h2
   |some a=>rw[e]at h2;cases h2;rfl
  obtain⟨u,D,am⟩:=r.get G;have o:ps[i]?=Z y:=by
   rw[<- S.pre,aR (by lia)];exact h1
  have t:ps.Nodup:=by rw[<- S.pre];exact S.nd.sublist (aS _ _)
  refine⟨u,am,?_⟩;rcases S.par y (gM1 o)with k|k
  ·exact .inl ⟨k,nD t o D k⟩
  ·obtain⟨c,e⟩:=qq (n:=s.heap.objs.size+1) k;refine .inr ⟨.inl k,c,e,?_⟩;have q:=x.cell y c e;rw[nF t o D (by show scope.names.lookup y≠_;rw[k];decide)]at q;exact q
 ·exact j.hok.fresh (Nat.le_of_lt (x.above y c (PySem.mem_of_lookup h)))
 ·unfold start;show _=N.length;rw[lA1,lM1,lR1];lia
theorem Ey{CX:vm}{P:cH}{w:cJ}{K:Fg1}{mg:Str->Option cE}{base:cP}{k:Nat}{f:cG}{name c:Str}{params:Arguments}{g:List cR}{scope:cS}{ao kV m L d ct W:cE}{R od:Option cG}{C:Array (Option cE)}{N ps:List Str}{sp:Sp}(lk:K.lookup f=some ⟨W,od,.func (wF1 name c params g scope ao kV m L R d ct),C⟩)(hcd:wC1 K d c=true)(S:fq N ps scope)(len:∀vs H Q E,sp vs H Q E->vs.length=ps.length)(i:∀(A:cI) (a:List Env) (s:cF) (H:Hp) (vs:List V) (Q:VK) (E:XK),eM k (A.deeper (envOfC c scope s.heap.objs.size f d))->sp vs H Q E ->
   ∃t,qT (kE CX P w K mg base N c scope f d A a s H E) g t/\t {nx:=λ_ H'=>Q .non H',rt:=Q} (start N vs) H):
  jS P w K mg base CX (k+1) f (wF1 name c params g scope ao kV m L R d ct) ps sp:=by
 refine⟨len,λA a s H T us vs Q E G p hb r z=>?_⟩;have X:=len _ _ _ _ z;have au:K.In s.heap:=p.mod.kin.keeps λb o e=>(p.bs b o e).1;have F:s.heap.NoLimit:=p.mod.nolimit.keeps λb o e=>(p.bs b o e).1;have j:∀y∈ps.zip us,scope.names.lookup y.1=Z .local\/(scope.names.lookup y.1=Z .cell/\((cellsFrom (s.heap.objs.size+1) scope.names []).lookup y.1).isSome=M):=λ⟨n,v⟩ hy=>by
  rcases S.par n (List.of_mem_zip hy).1 with q|q
  ·exact .inl q
  ·exact .inr ⟨q,PySem.W.cellsFrom_some _ _ _ (.inl q)⟩
 refine codeAny_call_function G.depth (au _ _ lk) O S.co S.gen O (PySem.W.codeRec_of au hcd) (hb _ _ _ _ ?_);refine wpAny_newFunctionEnv_cells S.kind j λenv aq s1 x=>?_;subst aq;refine⟨F.keeps x.toInCall.keep,codeAny_func ?_⟩;obtain⟨t,ht,U⟩:=i A a s H vs Q E (G.deeper _) z;have I:Inv (kE CX P w K mg base N c scope f d A a s H E) [] (start N vs) H s1:=uD S G.hd p X r x;refine wpAny_mono (ht [] s1 (start N vs) H _ I U) (λwq s' l=>?_) λe s' l=>l;have B:∀{h:St} {H':Hp} {v:V} {u:cE},Inv (kE CX P w K mg base N c scope f d A a s H E) [] h H' s'->de v u->Q v H'->CE a P w H s Q u s':=
  λ{h H' v u} am D q=>⟨v,H',am.os,am.bare,am.base,am.hok,D,q⟩
 cases wq with
 |ret u=>
  obtain⟨v,h,H',am,D,q⟩:=l;exact B am D q
 |next=>
  obtain⟨h,H',am,q⟩:=l;exact B (v:=V.non) (u:=Value.none) am O q
 |brk=>
  obtain⟨_,_,_,q⟩:=l;exact False.elim q
 |cont=>
  obtain⟨_,_,_,q⟩:=l;exact False.elim q
end L2
namespace L2
open PySem PySem.Spec PyProof.Rows
section
variable{X:Cx}{x:Str}{p pos:Pos}{e:Expr}{es:List Expr}{t:TA}{id T:String}{r:List V->Hp->VK->Prop}
def Go(r:List V->Hp->VK->Prop)(t:TA):TE:=fun σ H Q=>t σ H λvs H1=>r vs H1 Q
theorem po (hc:dV X (.builtin id) r)(hg:Gl X x)(hm:X.mg x=none)(hv:bootBuiltins x=some (.builtin id))(ha:PA X (e::es) t)(hn:x≠"__name__":=by decide)(hdb:(x == ("__debug__":Str))=false:=by decide)
  (he:cM (e::es) X.env=(J,eval e X.env)::cM es X.env:=by rfl) (hpl:(backTo pos (cM es X.env)).any (·.1)=J:=by rfl):PE X (.Call (.Name x p) (e::es) [] pos) (Go r t):=by
 intro ag s σ H Q I h;refine wpAny_Call_Name_kw (iP I hg hm hv ?_ hn hdb);exact PyProof.Rows.callWith_builtin1 (ee (ha pos ag s σ H _ I h) λa b ⟨vs,H1,c,d,f⟩=>hc ag b σ H1 vs a Q c d f) he hpl
theorem ix (hc:dV X (.type T) r)(hg:Gl X x)(hm:X.mg x=none)(hv:bootBuiltins x=some (.type T))(ha:PA X (e::es) t)(hn:x≠"__name__":=by decide)(hdb:(x == ("__debug__":Str))=false:=by decide)
  (he:cM (e::es) X.env=(J,eval e X.env)::cM es X.env:=by rfl) (hpl:(backTo pos (cM es X.env)).any (·.1)=J:=by rfl):PE X (.Call (.Name x p) (e::es) [] pos) (Go r t):=by
 intro ag s σ H Q I h;refine wpAny_Call_Name_kw (iP I hg hm hv ?_ hn hdb);exact PyProof.Rows.callWith_type1 (ee (ha pos ag s σ H _ I h) λa b ⟨vs,H1,c,d,f⟩=>hc ag b σ H1 vs a Q c d f) he hpl
end
end L2
namespace HT
open PySem PyProof.Rows
section
open PySem.SeqAt
open PySem.AutoSeq1 (wpAny_loadPart')
open PySem.MeetsSeq PySem.MeetsSeq2 PySem.MeetsSeq3
end
section
variable{prog:cH}{w:cJ}{A:cI}{E:cE->cF->Prop}{s:cF}
theorem Ag {t b:cG}{vs ws:List cE}{Q:cE->cF->Prop}(ht:IsTup s.heap t vs.toArray)(hb:IsTup s.heap b ws.toArray)(hv:vs≠[])
  (h1:ws=[]->Q (.ref t) s) (h2:ws≠[]->Q (.ref s.heap.objs.size) {s with heap:=s.heap.push {cls:=.type "tuple",data:=.seq (vs++ws).toArray}})
  (hsz:vs.length+ws.length<=cN):cO (model prog w) A (binaryOp .Add (.ref t) (.ref b)) Q E s:=by
 obtain⟨⟨cls,p,data,o⟩,h,hc,n,m⟩:=id ht;obtain⟨⟨l,c,j,d⟩,a,g,k,f⟩:=id hb;simp only at hc m g f;subst hc m g f;have e:vs.toArray++ws.toArray=(vs++ws).toArray:=by simp
 by_cases i:ws=[]
 ·exact concat_meets ⟨_,h,rfl⟩ ⟨_,a,rfl⟩ noFill_tuple_add seq_tuple_add PySem.F.slot_tuple_add PySem.F.entry_tuple_add (PySem.F.args_tuple_add_2 _ _)
   (tuple_addW1 t b vs.toArray ws.toArray n k p c o d (by simpa using hv) (by simp[i])) ⟨h,a,h1 i⟩
 ·refine concat_meets ⟨_,h,rfl⟩ ⟨_,a,rfl⟩ noFill_tuple_add seq_tuple_add PySem.F.slot_tuple_add PySem.F.entry_tuple_add (PySem.F.args_tuple_add_2 _ _)
   (tuple_addW2 t b vs.toArray ws.toArray n k p c o d (by simpa using hv) (by simpa using i) (by rw[sT1,sT1];exact hsz)) ⟨h,a,?_⟩
  rw[e];exact h2 i
noncomputable def sIx(n d:Nat):Option Int->Nat
 |none=>d
 |some v=>if v<0 then(v+(n:Int)).toNat else min v.toNat n
theorem wa(n d:Nat):sIx n d Y=d:=rfl
theorem yD(n d k:Nat):sIx n d (Z (k:Int))=min k n:=by
 show(if(k:Int)<0 then((k:Int)+(n:Int)).toNat else min (k:Int).toNat n)=min k n;rw[aj (by lia),Int.toNat_natCast]
theorem Bb(n d:Nat)(hd:d<=n)(o:Option Int):sIx n d o<=n:=by
 cases o with
 |none=>exact hd
 |some v=>
  show(if v<0 then(v+(n:Int)).toNat else min v.toNat n)<=n;by_cases a:v<0
  ·rw[ak a];lia
  ·rw[aj a];exact Nat.min_le_right _ _
theorem tS(v:Int)(n d:Nat):(if v<0 then max (v+(n:Int)) 0 else min v (n:Int))=((sIx n d (Z v):Nat):Int):=by
 show(if v<0 then max (v+(n:Int)) 0 else min v (n:Int))=(((if v<0 then(v+(n:Int)).toNat else min v.toNat n):Nat):Int);by_cases a:v<0
 ·simp only[ak a];lia
 ·simp only[aj a];lia
theorem sj(lo hi:Option Int)(n:Nat):Builtin.Slice.sliceAdjust lo hi 1 (n:Int)=(((sIx n 0 lo:Nat):Int),((sIx n n hi:Nat):Int)):=by
 have h1:¬ ((1:Int)<0):=by lia
 unfold Builtin.Slice.sliceAdjust;simp only[h1,if_false];refine Prod.ext ?_ ?_
 ·cases lo with
  |none=>rfl
  |some v=>exact tS v n 0
 ·cases hi with
  |none=>rfl
  |some v=>exact tS v n n
theorem rv(i j:Nat):Builtin.Slice.slicePlaces (i:Int) (j:Int) 1=j-i:=by
 unfold Builtin.Slice.slicePlaces;have h1:(1:Int)>0:=by lia
 simp only[h1,if_true,Int.ediv_one];split<;>lia
theorem k0{v:cE}{o:Option Int}{Q:Option Int->cF->Prop}(p:IsPart v o)(h:Q o s):cO (model prog w) A (Builtin.Slice.slicePartIndex v) Q E s:=by
 cases p with
 |none=>exact slicePart_none h
 |int i t=>exact slicePart_int h
theorem gD{sl:cG}{c d:cE}{lo hi:Option Int}{n:Nat}{Q:Int×Int×Nat->cF->Prop}(hs:s.heap.IsSliceOf sl c d .none)(pl:IsPart c lo)(e:IsPart d hi)(h:Q (((sIx n 0 lo:Nat):Int),1,sIx n n hi-sIx n 0 lo) s):cO (model prog w) A (Builtin.Slice.sliceApplied (.ref sl) (pure (n:Int))) Q E s:=by
 obtain⟨g,a,f,b⟩:=id hs;unfold Builtin.Slice.sliceApplied Builtin.Slice.sliceFields;refine wB1 (wB1 (wpAny_field a b (x:=c) O (wB1 (wpAny_field a b (x:=d) O (wB1 (wpAny_field a b (x:=.none) O (wP1 ?_)))))));refine wB1 (slicePart_none ?_);show cO _ _ (if((1:Int) == 0)=M then _ else _) _ _ s;rw[aj (by decide)];refine wB1 (k0 pl (wB1 (k0 e (wB1 (wP1 ?_)))));show cO _ _ (match Builtin.Slice.sliceAdjust lo hi 1 (n:Int)with|(lo,hi)=>pure (lo,(1:Int),Builtin.Slice.slicePlaces lo hi 1)) _ _ s;rw[sj lo hi n];show cO _ _ (pure (((sIx n 0 lo:Nat):Int),(1:Int),Builtin.Slice.slicePlaces ((sIx n 0 lo:Nat):Int) ((sIx n n hi:Nat):Int) 1)) _ _ s;rw[rv];exact wP1 h
theorem wt(xs:Array cE)(i k:Nat):((af k).filterMap λ(m:Nat)=>xs[((i:Int)+(m:Int)*1).toNat]?).toArray=((xs.toList.drop i).take k).toArray:=by
 have e:(λ(m:Nat)=>xs[((i:Int)+(m:Int)*1).toNat]?)=λm=>xs[i+m]?:=by
  funext m
  have:((i:Int)+(m:Int)*1).toNat=i+m:=by lia
  rw[this]
 rw[e];have:=pick_run xs i k;rw[List.filterMap_map]at this;have a:((λx=>xs[x]?)∘λx=>i+x)=λm=>xs[i+m]?:=rfl;rw[a]at this;rw[this]
theorem jm {t sl:cG}{items:Array cE}{f g:cE}{lo hi:Option Int}{Q:cE->cF->Prop}(ht:IsTup s.heap t items)(hs:s.heap.IsSliceOf sl f g .none)(pl:IsPart f lo)(i:IsPart g hi)
  (hw:¬ (sIx items.size 0 lo=0/\sIx items.size items.size hi=items.size))
  (h:Q (.ref s.heap.objs.size) {s with heap:=s.heap.push {cls:=.type "tuple",data:=.seq ((items.toList.drop (sIx items.size 0 lo)).take (sIx items.size items.size hi-sIx items.size 0 lo)).toArray}})
  (hsz:items.size<=cN):cO (model prog w) A (getItem (.ref t) (.ref sl)) Q E s:=by
 have a:sizeOk (.seq ((items.toList.drop (sIx items.size 0 lo)).take (sIx items.size items.size hi-sIx items.size 0 lo)).toArray):=by
  show((items.toList.drop (sIx items.size 0 lo)).take (sIx items.size items.size hi-sIx items.size 0 lo)).toArray.size<=cN;rw[sT1,aP,List.length_drop,aI];omega
 have n:sIx items.size items.size hi<=items.size:=Bb _ _ (nR1 _) hi;obtain⟨k,b,d,j⟩:=id hs;have c:s.TypeIs (.ref sl) "slice":=⟨k,b,d⟩;unfold getItem
 try with_reducible refine wpAny_holding ?_
 first|refine wB1 (wP1 ?_)|skip
 refine wB1 (wpAny_sequenceKey ht.typeIs (by decide) ?_);refine wB1 (wpAny_callSpecial?_slot (name:=Str.ofString "__getitem__") ht.typeIs PyProof.Rows.slot_tuple_getitem
  (wE1 PyProof.Rows.slot_tuple_getitem ht.typeIs entry_tuple_getitem ?_ (args_tuple_getitem _ _)))
 show cO _ _ (Builtin.Tuple.tupleItemsOf (.ref t) >>= _) _ _ s;refine wB1 (tupleItemsOf_ ht ?_);refine wB1 (wpAny_typeOf c ?_);rw[ak (by decide)];refine wB1 (gD hs pl i ?_);have e:¬ ((((sIx items.size 0 lo:Nat):Int) == 0&&(1:Int) == 1&&(sIx items.size items.size hi-sIx items.size 0 lo) == items.size)=M):=by
  intro q;rw[bA1,bA1]at q;have l:((sIx items.size 0 lo:Nat):Int)=0:=eq_of_beq q.1.1;have o:sIx items.size items.size hi-sIx items.size 0 lo=items.size:=eq_of_beq q.2;exact hw ⟨by omega,by omega⟩
 show cO _ _ (if(((sIx items.size 0 lo:Nat):Int) == 0&&(1:Int) == 1&&(sIx items.size items.size hi-sIx items.size 0 lo) == items.size)=M then _ else _) _ _ s;rw[aj e,wt]
 first
  |exact wB1 (m:=Builtin.Tuple.tupleExact _) (wO1 (wP1 ⟨_,rfl,wP1 h⟩) a)
  |exact wB1 (m:=Builtin.Tuple.tupleExact _) (wO1 (wB1 (wP1 (wP1 ⟨_,rfl,wP1 h⟩))) a)
  |exact wB1 (wB1 (m:=Builtin.Tuple.tupleExact _) (wO1 (wP1 (wP1 ⟨_,rfl,wP1 h⟩)) a))
  |exact wB1 (wB1 (m:=Builtin.Tuple.tupleExact _) (wO1 (wP1 ⟨_,rfl,wP1 h⟩) a))
end
end HT
namespace L2
open PySem PySem.Spec PyProof.Rows
abbrev TO:=St->Hp->(Option Int->Hp->Prop)->Prop
def PO(X:Cx)(e:Option Expr)(t:TO):Prop:=
 ∀(ag:List (cG×Obj)) (s:cF) (σ:St) (H:Hp) (Q:Option Int->Hp->Prop),Inv X ag σ H s->t σ H Q ->
  cO (model X.prog X.w) X.A (evalPart e X.env) (λu s'=>∃o H',Inv X ag σ H' s'/\IsPart u o/\Q o H') X.xe s
noncomputable def yw:TO:=λ_ H Q=>Q Y H
noncomputable def Dy(t:TE):TO:=fun σ H Q=>t σ H λx H1=>∃i,x = .int i/\Q (Z i) H1
section
variable{X:Cx}{e:Expr}{te:TE}{lo hi:Option Expr}{tl th:TO}{pos p2:Pos}
theorem yX:PO X Y yw:=by
 intro ag s σ H Q I h;rw[evalPart_none];exact wP1 ⟨Y,H,I,.none,h⟩
theorem yW(h:PE X e te):PO X (Z e) (Dy te):=by
 intro ag s σ H Q I d;rw[evalPart_some];refine ee (h ag s σ H _ I d) λu f ⟨x,H1,a,b,c⟩=>?_;obtain⟨i,rfl,q⟩:=c;obtain⟨t,rfl⟩:=b;exact⟨Z i,H1,a,.int i t,q⟩
def yc(X:Cx)(r:V->Option Int->Option Int->Hp->VK->Prop):Prop:=
 ∀(ag:List (cG×Obj)) (s:cF) (σ:St) (H:Hp) (x:V) (v vl vu:cE) (lo hi:Option Int) (sl:cG) (Q:VK),Inv X ag σ H s->de x v->s.heap.IsSliceOf sl vl vu .none->IsPart vl lo->IsPart vu hi->r x lo hi H Q ->
  ∃T id,typeLookup (.type T) "__getitem__"=pure (Z (.builtin id))/\s.TypeIs v T/\cO (model X.prog X.w) X.A (getItem v (.ref sl)) (EP X ag σ Q) X.xe s
theorem yc.or{r g:V->Option Int->Option Int->Hp->VK->Prop}(h:yc X r)(h':yc X g):yc X (λx lo hi H Q=>r x lo hi H Q\/g x lo hi H Q):=by
 intro ag s σ H x v a b lo hi d Q I f e pl c q;rcases q with q|q
 ·exact h ag s σ H x v a b lo hi d Q I f e pl c q
 ·exact h' ag s σ H x v a b lo hi d Q I f e pl c q
def GO(r:V->Option Int->Option Int->Hp->VK->Prop)(te:TE)(tl th:TO):TE:=fun σ H Q=>te σ H λx H1=>tl σ H1 λl H2=>th σ H2 λu H3=>r x l u H3 Q
theorem wx{r:V->Option Int->Option Int->Hp->VK->Prop}(hr:yc X r)(he:PE X e te)(k:PO X lo tl)(g:PO X hi th):PE X (.Subscript e (.Slice lo hi Y p2) pos) (GO r te tl th):=by
 intro ag s σ H Q I h;refine Subscript_ (ee (he ag s σ H _ I h) λv A ⟨x,H1,i,B,o⟩=>?_);refine wpAny_Slice (ee (k ag A σ H1 _ i o) λc w ⟨l,H2,t,pl,D⟩=>ee (g ag w σ H2 _ t D) λd a ⟨u,f,z,m,n⟩=>?_);rw[evalPart_none];refine wP1 ?_;have C:Inv X ag σ f {a with heap:=a.heap.push {cls:=.type "slice",data:=.fields #[c,d,.none]}}:=z.kept (t':=a.toks) λb E q=>hP1 _ q;obtain⟨T,id,y,p,j⟩:=hr ag {a with heap:=a.heap.push {cls:=.type "slice",data:=.fields #[c,d,.none]}} σ f x v c d l u a.heap.objs.size Q C B (Heap.IsSliceOf.new ..) pl m n;show cO (model X.prog X.w) X.A (subscriptTail e (.Slice lo hi Y p2) v (.ref a.heap.objs.size)) (EP X ag σ Q) X.xe {a with heap:=a.heap.push {cls:=.type "slice",data:=.fields #[c,d,.none]}};exact tail_any (ops:=[.ref a.heap.objs.size,v]) p y j (by with_unfolding_all rfl)
noncomputable def ql(xs:List V)(lo hi:Option Int):List V:=(xs.drop (HT.sIx xs.length 0 lo)).take (HT.sIx xs.length xs.length hi-HT.sIx xs.length 0 lo)
theorem kd(xs:List V)(lo hi:Option Int):(ql xs lo hi).length<=xs.length:=by
 unfold ql;rw[aP,List.length_drop];lia
def FK(K:Fg1):V->Option Int->Option Int->Hp->VK->Prop:=λx lo hi H Q=>∃a xs,x = .ref a/\iV K H a xs /\
 ¬ (HT.sIx xs.length 0 lo=0/\HT.sIx xs.length xs.length hi=xs.length) /\ ∀p,H p=Y->Q (.ref p) (upd H p (.tup (ql xs lo hi)))
theorem A8:yc X (FK X.K):=by
 intro ag s σ H x v m n lo hi p Q I l j pl g h;obtain⟨a,xs,rfl,i,k,q⟩:=h;cases l;obtain⟨d,r,f,e⟩:=I.tuple i;have c:d.toArray.size=xs.length:=by rw[sT1];exact r.length.symm
 refine⟨"tuple",_,PyProof.Rows.slot_tuple_getitem.lookup,f.typeIs,?_⟩;refine HT.jm f j pl g (by rw[c];exact k) ?_ (by rw[c];exact e);rw[c];refine⟨.ref s.heap.objs.size,_,I.laid (t':=s.toks) (o:=.tup (ql xs lo hi)) (λb t q=>hP1 _ q) (nR1 _) ?_,O,q _ (I.hok.fresh (nR1 _))⟩;exact⟨aC (kd xs lo hi) e,_,(r.drop (HT.sIx xs.length 0 lo)).take (HT.sIx xs.length xs.length hi-HT.sIx xs.length 0 lo),IsTup.new _ _⟩
noncomputable def DQ(K:Fg1):R2:=λx y H Q=>∃a b xs ys,x = .ref a/\y = .ref b/\iV K H a xs/\iV K H b ys/\xs≠[]/\xs.length+ys.length<=cN /\
 (ys=[]->Q (.ref a) H)/\(ys≠[] -> ∀p,H p=Y->Q (.ref p) (upd H p (.tup (xs++ys))))
theorem dy.nil_iff{xs:List V}{a:List cE}(r:dy xs a):a=[]↔xs=[]:=by
 cases r with
 |nil=>simp
 |cons _ _=>simp
theorem zf:e9 X (binaryOp .Add) (DQ X.K):=by
 intro ag s σ H x y v u Q I p k h;obtain⟨a,b,xs,ys,rfl,rfl,i,g,l,d,j,n⟩:=h;cases p;cases k;obtain⟨m,c,f,_⟩:=I.tuple i;obtain⟨e,r2,p2,_⟩:=I.tuple g;refine HT.Ag f p2 (λz=>l (c.nil_iff.mp z)) (λz=>⟨.ref a,H,I,O,j (r2.nil_iff.mp z)⟩) (λz=>?_) (by rw[<- c.length,<- r2.length];exact d);refine⟨.ref s.heap.objs.size,_,I.laid (t':=s.toks) (o:=.tup (xs++ys)) (λb r q=>hP1 _ q) (nR1 _) ?_,O,n (λw=>z (r2.nil_iff.mpr w)) _ (I.hok.fresh (nR1 _))⟩;exact⟨by rw[lA1];exact d,_,c.append r2,IsTup.new _ _⟩
end
end L2
namespace L2
open PySem PySem.Spec PyProof.Rows
noncomputable def rS(n:Nat)(i:Int):Option Nat:=if 0<=i then(if i<n then Z i.toNat else Y)else if-(n:Int)<=i then Z (i+n).toNat else Y
noncomputable def qM{α:Type}(xs:List α)(i:Int):Option α:=(rS xs.length i).bind λj=>xs[j]?
theorem ou{n:Nat}{i:Int}{j:Nat}(h:rS n i=Z j):seqIndex? i n=Z j/\j<n /\ -(n:Int)<=i/\i<n:=by
 unfold rS at h;by_cases a:0<=i
 ·rw[ak a]at h;by_cases h1:i<n
  ·rw[ak h1]at h;have e:i.toNat=j:=Option.some.inj h;exact⟨by rw[seqIndex_of a h1,e],by lia,by lia,h1⟩
  ·rw[aj h1]at h;cases h
 ·rw[aj a]at h;by_cases h1: -(n:Int)<=i
  ·rw[ak h1]at h;have e:(i+n).toNat=j:=Option.some.inj h;exact⟨by rw[seqIndex_neg (by lia) h1,e],by lia,h1,by lia⟩
  ·rw[aj h1]at h;cases h
theorem tY{α:Type}{xs:List α}{i:Int}{v:α}(h:qM xs i=Z v):∃j,seqIndex? i xs.length=Z j/\xs[j]?=Z v/\j<xs.length /\ -(xs.length:Int)<=i/\i<xs.length:=by
 unfold qM at h;cases e:rS xs.length i with
 |none=>rw[e]at h;cases h
 |some j=>
  rw[e]at h;obtain⟨h1,h2,b,a⟩:=ou e;exact⟨j,h1,h,h2,b,a⟩
def kS(b:Expr):Prop:=∀o i,subscripted b J o i=operate [o,i] (getItem o i)
def AR(X:Cx)(r:R2):Prop:=
 ∀(value slice:Expr) (ag:List (cG×Obj)) (s:cF) (σ:St) (H:Hp) (x y:V) (v u:cE) (Q:VK),Inv X ag σ H s->de x v->de y u->r x y H Q ->
  subscripted slice J v u=operate [v,u] (getItem v u)->cO (model X.prog X.w) X.A (subscriptTail value slice v u) (EP X ag σ Q) X.xe s
def Dl(X:Cx)(id:String)(r:V->List V->Hp->VK->Prop):Prop:=
 ∀(ag:List (cG×Obj)) (s:cF) (σ:St) (H:Hp) (x:V) (xs:List V) (v:cE) (us:List cE) (Q:VK),Inv X ag σ H s->de x v->dy xs us->r x xs H Q ->
  cO (model X.prog X.w) X.A (call (.builtin id) (v::us)) (EP X ag σ Q) X.xe s
section
variable{X:Cx}{a b:Expr}{ta tb:TE}{pos:Pos}
theorem DW{r:R2}(hr:AR X r)(ha:PE X a ta)(hb:PE X b tb)(hs:kS b):PE X (.Subscript a b pos) (Dz r ta tb):=by
 intro ag s σ H Q I h;exact Subscript_ (CW ha hb I h λv u d x y H2 f e c q=>hr a b ag d σ H2 x y v u Q f e c q (hs _ _))
noncomputable def FP(K:Fg1):R2:=λx y H Q=>∃p xs i v,x = .ref p/\y = .int i/\kq K H p xs/\qM xs i=Z v/\Q v H
noncomputable def FM(K:Fg1):R2:=λx y H Q=>∃p xs i v,x = .ref p/\y = .int i/\iV K H p xs/\qM xs i=Z v/\Q v H
theorem zM:AR X (FP X.K):=by
 intro value e ag s σ H x y v u Q I n A h g;obtain⟨p,xs,i,z,rfl,rfl,o,l,q⟩:=h;cases n;obtain⟨t,rfl⟩:=A;obtain⟨c,r,pl,D⟩:=I.list o;obtain⟨j,h1,h2,F,B,m⟩:=tY l;obtain⟨w,k,b⟩:=r.get h2;have C:=r.length;have E:=lE;have a:EP X ag σ Q w s:=⟨z,H,I,b,q⟩;by_cases f:0<=i
 ·have d:i.toNat=j:=by
   rw[seqIndex_of f m]at h1;exact Option.some.inj h1
  exact item_listR pl.isList f (by lia) (by rw[d];simpa using k) a g
 ·have d:(i+(c.toArray.size:Int)).toNat=j:=by
   rw[seqIndex_neg (by lia) B]at h1;rw[sT1,<- C];exact Option.some.inj h1
  exact subscriptTail_builtinR (x:=w) pl.isList.typeIs slot_list_getitem.lookup
   (wpAny_getItem_list_neg (Q:=λr s'=>r=w/\EP X ag σ Q r s') pl.isList (by lia) (by rw[sT1]<;>lia) (by lia) (by rw[d];simpa using k) ⟨O,a⟩) g
theorem CA:AR X (FM X.K):=by
 intro value c ag s σ H x y v u Q I e g h k;obtain⟨p,xs,i,z,rfl,rfl,f,d,q⟩:=h;cases e;obtain⟨t,rfl⟩:=g;obtain⟨l,r,pl,o⟩:=I.tuple f;obtain⟨j,h1,h2,D,C,B⟩:=tY d;obtain⟨w,m,a⟩:=r.get h2;have n:=r.length;have A:=lE;have b:EP X ag σ Q w s:=⟨z,H,I,a,q⟩;exact subscriptTail_builtinR (x:=w) pl.typeIs slot_tuple_getitem.lookup
  (getItem_tuple (j:=j) (Q:=λr s'=>r=w/\EP X ag σ Q r s') pl (by lia) (by lia) (by rw[sT1,<- n];exact h1) (by simpa using m) ⟨O,b⟩) k
theorem rO(its:List cE)(n j:Nat)(u:cE):Obj.mapSeq (·.setIfInBounds j u) {cls:=.type "list",data:=.seq its.toArray n}={cls:=.type "list",data:=.seq (its.set j u).toArray n}:=by
 simp[Obj.mapSeq]
theorem Inv.lst{ag:List (cG×Obj)}{σ:St}{H:Hp}{s:cF}{p:cG}{xs:List V}(I:Inv X ag σ H s)(h:H p=some (.lst xs)):
  ∃(its:List cE) (n:Nat),dy xs its/\s.heap.get? p=Z {cls:=.type "list",data:=.seq its.toArray n}/\xs.length<=cN:=by
 obtain⟨z,its,n,r,e⟩:=I.hok p _ h;exact⟨its,n,r,e,z⟩
theorem Inv.lstUpd {ag:List (cG×Obj)}{σ:St}{H:Hp}{s:cF}{p:cG}{xs ys:List V}{its its':List cE}{n n':Nat}{f:Obj->Obj}(I:Inv X ag σ H s)(h:H p=some (.lst xs))
  (ho:s.heap.get? p=Z {cls:=.type "list",data:=.seq its.toArray n}) (hf:f {cls:=.type "list",data:=.seq its.toArray n}={cls:=.type "list",data:=.seq its'.toArray n'}) (r:dy ys its') (a:ys.length<=cN) (t:Nat):
  Inv X ag σ (upd H p (.lst ys)) {s with heap:=s.heap.update p f,toks:=t}:=by
 have e:(s.heap.update p f).get? p=Z {cls:=.type "list",data:=.seq its'.toArray n'}:=by
  rw[hW1 f ho (by rw[hf]<;>rfl),hf]
 refine I.write (x:=p) (e:=p) (by rw[h];trivial) (.inl O) (λb u c q=>(Heap.get?_update_other _ _ (Ne.symm c)).trans q) ⟨_,e⟩ ?_;exact⟨a,its',n',r,e⟩
def DP:V->V->V->Hp->(Hp->Prop)->Prop:=λo i v H Q=>∃p xs k j,o = .ref p/\i = .int k/\H p=Z (.lst xs)/\rS xs.length k=Z j/\Q (upd H p (.lst (xs.set j v)))
theorem v7:sv X DP:=by
 intro ag s σ H o i v B C u Q I x y A h;obtain⟨p,xs,k,j,rfl,rfl,e,z,q⟩:=h;cases x;obtain⟨t,rfl⟩:=y;obtain⟨a,n,r,b,w⟩:=I.lst e;obtain⟨h1,h2,m,g⟩:=ou z;have d:=r.length;have D:=lE;have f:Inv X ag σ (upd H p (.lst (xs.set j v))) {s with heap:=s.heap.update p (Obj.mapSeq (·.setIfInBounds j u))}:=
  I.lstUpd e b (rO a n j u) (r.set A j) (by rw[aT];exact w) s.toks
 by_cases l:0<=k
 ·have c:k.toNat=j:=by
   rw[seqIndex_of l g]at h1;exact Option.some.inj h1
  exact PySem.W.ki_setAt b l (by lia) (by rw[sT1,<- d];exact g) (by rw[c];exact⟨_,f,q⟩)
 ·have c:(k+(a.toArray.size:Int)).toNat=j:=by
   rw[seqIndex_neg (by lia) m]at h1;rw[sT1,<- d];exact Option.some.inj h1
  exact PySem.W.ki_setBack b (by lia) (by rw[sT1,<- d];exact m) (by lia) (by rw[c];exact⟨_,f,q⟩)
theorem nS(lo hi:Option Int)(n:Nat):(sliceBounds lo hi Y n).1=((HT.sIx n 0 lo:Nat):Int)/\(sliceBounds lo hi Y n).2.1=((HT.sIx n n hi:Nat):Int)/\(sliceBounds lo hi Y n).2.2=1:=by
 refine⟨?_,?_,O⟩
 ·cases lo with
  |none=>simp[sliceBounds,HT.sIx]
  |some i=>
   simp only[sliceBounds,HT.sIx,Option.getD_none,show(1:Int)>0 by decide,if_true];by_cases h:i<0
   ·simp only[h,if_true]<;>lia
   ·simp only[h,if_false]<;>lia
 ·cases hi with
  |none=>simp[sliceBounds,HT.sIx]
  |some i=>
   simp only[sliceBounds,HT.sIx,Option.getD_none,show(1:Int)>0 by decide,if_true];by_cases h:i<0
   ·simp only[h,if_true]<;>lia
   ·simp only[h,if_false]<;>lia
theorem md(its:List cE)(lo hi:Option Int):slicePick its.toArray lo hi Y=((its.drop (HT.sIx its.length 0 lo)).take (HT.sIx its.length its.length hi-HT.sIx its.length 0 lo)).toArray:=by
 obtain⟨h1,h2,a⟩:=nS lo hi its.toArray.size;unfold slicePick;rw[h1,h2,a];simp only[sliceRange_one,pick_run,sT1]<;>rfl
def FL(K:Fg1):V->Option Int->Option Int->Hp->VK->Prop:=λx lo hi H Q=>∃a xs,x = .ref a/\kq K H a xs /\ ∀p,H p=Y->Q (.ref p) (upd H p (.lst (ql xs lo hi)))
theorem yB:yc X (FL X.K):=by
 intro ag s σ H x v l m lo hi n Q I k i pl e h;obtain⟨a,xs,rfl,g,q⟩:=h;cases k;obtain⟨j,r,d,f⟩:=I.list g;have c:=r.length;refine⟨"list",_,slot_list_getitem.lookup,d.isList.typeIs,?_⟩;refine wpAny_getItem_list_slice d.isList i pl e .none (by simp) ?_ (by rw[sT1]<;>lia);rw[md,<- c];refine⟨.ref s.heap.objs.size,_,I.laid (t':=s.toks) (o:=.lst (ql xs lo hi)) (λb p q=>hP1 _ q) (nR1 _) ?_,O,q _ (I.hok.fresh (nR1 _))⟩;exact⟨aC (kd xs lo hi) f,_,0,(r.drop (HT.sIx xs.length 0 lo)).take (HT.sIx xs.length xs.length hi-HT.sIx xs.length 0 lo),hS1 _ O⟩
noncomputable def iM:V->Bool
 | .non=>M
 | .bl _=>M
 | .int _=>M
 | .str _=>M
 |_=>J
noncomputable def qL:V->V->Bool
 | .non,.non=>M
 | .bl a,.bl b=>a == b
 | .bl a,.int b=>(if a then 1 else 0) == b
 | .int a,.bl b=>a == (if b then 1 else 0)
 | .int a,.int b=>a == b
 | .str a,.str b=>a == b
 |_,_=>J
theorem iS{A:cI}{s:cF}{y x:V}{u v:cE}(e:de y u)(c:de x v)(g:iM y=M)(f:iM x=M):SeqAt.EqAt A s u v (qL y x):=by
 cases y with
 |non=>
  cases e;cases x with
  |non=>cases c;exact SeqAt.EqAt.same _
  |bl b=>cases c;exact SeqAt.EqAt.none_bool b
  |int b=>obtain⟨t,rfl⟩:=c;exact SeqAt.EqAt.none_int b t
  |str b=>obtain⟨t,rfl⟩:=c;exact SeqAt.EqAt.none_str b t
  |_=>exact absurd (show J=M from f) aJ
 |bl a=>
  cases e;cases x with
  |non=>cases c;exact SeqAt.EqAt.bool_none a
  |bl b=>cases c;exact SeqAt.EqAt.bool_bool a b
  |int b=>obtain⟨t,rfl⟩:=c;exact SeqAt.EqAt.bool_int a b t
  |str b=>obtain⟨t,rfl⟩:=c;exact SeqAt.EqAt.bool_str a b t
  |_=>exact absurd (show J=M from f) aJ
 |int a=>
  obtain⟨d,rfl⟩:=e;cases x with
  |non=>cases c;exact SeqAt.EqAt.int_none a d
  |bl b=>cases c;exact SeqAt.EqAt.int_bool a d b
  |int b=>obtain⟨t,rfl⟩:=c;exact SeqAt.EqAt.int_int a d b t
  |str b=>obtain⟨t,rfl⟩:=c;exact SeqAt.EqAt.int_str a d b t
  |_=>exact absurd (show J=M from f) aJ
 |str a=>
  obtain⟨d,rfl⟩:=e;cases x with
  |non=>cases c;exact SeqAt.EqAt.str_none a d
  |bl b=>cases c;exact SeqAt.EqAt.str_bool a d b
  |int b=>obtain⟨t,rfl⟩:=c;exact SeqAt.EqAt.str_int a d b t
  |str b=>obtain⟨t,rfl⟩:=c;exact SeqAt.EqAt.str_str a d b t
  |_=>exact absurd (show J=M from f) aJ
 |_=>exact absurd (show J=M from g) aJ
theorem oK:dV X (.builtin "len") (λxs H Q=>∃p ys,xs=[.ref p]/\(kq X.K H p ys\/iV X.K H p ys)/\Q (.int ys.length) H):=by
 intro ag s σ H xs g Q I r h;obtain⟨p,ys,rfl,b,q⟩:=h;obtain⟨u,rfl,f⟩:=gB r;cases f;have i:=lE;rcases b with b|b
 ·obtain⟨c,d,pl,e⟩:=I.list b;have a:=d.length;exact Calls.call_len_list pl.isList (by simp only[sT1]<;>lia) ⟨.int ys.length,H,I.tok _,⟨s.toks+1,by rw[sT1,a]⟩,q⟩
 ·obtain⟨c,d,pl,e⟩:=I.tuple b;have a:=d.length;exact len_tuple pl (by simp only[sT1]<;>lia) ⟨.int ys.length,H,I.tok _,⟨s.toks+1,by rw[sT1,a]⟩,q⟩
theorem oJ:dV X (.builtin "len") (λxs H Q=>∃z,xs=[.str z]/\z.length<=cN/\Q (.int z.length) H):=by
 intro ag s σ H xs c Q I r h;obtain⟨z,rfl,b,q⟩:=h;obtain⟨u,rfl,t,rfl⟩:=gB r;have a:=lE;exact len_str (by lia) ⟨.int z.length,H,I.tok _,⟨_,O⟩,q⟩
theorem oI:dV X (.type "list") (λxs H Q=>∃p ys,xs=[.ref p]/\(kq X.K H p ys\/iV X.K H p ys) /\ ∀l,H l=Y->Q (.ref l) (upd H l (.lst ys))):=by
 intro ag s σ H xs w Q I r h;obtain ⟨p,ys,rfl,i,q⟩:=h;obtain ⟨u,rfl,v⟩:=gB r;cases v;have k:∀ (a:List cE),dy ys a->ys.length<=cN -> ∀ (h':cP) (c:Nat),(∀ b o',s.heap.get? b=some o'->h'.get? b=some o') ->
   h'.get? s.heap.objs.size=Z {cls:=.type "list",dict:=Y,data:=.seq a.toArray c,slots:= #[]}->EP X ag σ Q (.ref s.heap.objs.size) {s with heap:=h'}:=λa d g h' c j e=>
  ⟨.ref s.heap.objs.size,_,I.laid (t':=s.toks) j (nR1 _) (show dZ X.prog X.w _ h' _ (.lst ys)from⟨g,a,c,d,e⟩),O,q _ (I.hok.fresh (nR1 _))⟩
 rcases i with i|i
 ·obtain⟨a,d,pl,g⟩:=I.list i;have f:=d.length;obtain⟨o,m,hc,n,t⟩:=pl.isList;exact call_list_seq p (.inl O) m hc t (λh' c j e=>k a d g h' c j e) (by simp only[sT1]<;>lia)
 ·obtain⟨a,d,pl,g⟩:=I.tuple i;have f:=d.length;obtain⟨o,m,hc,n,t⟩:=pl;exact call_list_seq p (.inr O) m hc t (λh' c j e=>k a d g h' c j e) (by simp only[sT1]<;>lia)
theorem mq:dV X (.type "tuple") (λxs H Q=>∃p ys,xs=[.ref p]/\((kq X.K H p ys /\ ∀l,H l=Y->Q (.ref l) (upd H l (.tup ys)))\/(iV X.K H p ys/\Q (.ref p) H))):=by
 intro ag s σ H xs n Q I r h;obtain⟨p,ys,rfl,h⟩:=h;obtain⟨u,rfl,m⟩:=gB r;cases m;rcases h with⟨c,q⟩|⟨c,q⟩
 ·obtain ⟨a,d,pl,g⟩:=I.list c;have f:=d.length;refine call_tuple_list pl.isList (fun h' j=>?_) (by simp only [sT1]<;>lia);have i:Inv X ag σ H {s with heap:=h'}:=I.kept (t':=s.toks) j;have k:Inv X ag σ (upd H h'.objs.size (.tup ys)) {s with heap:=h'.push {cls:=.type "tuple",data:=.seq a.toArray}}:=
   i.laid (t':=s.toks) (λb o e=>hP1 _ e) (nR1 _) (show dZ X.prog X.w _ _ _ (.tup ys)from⟨g,a,d,IsTup.new _ _⟩)
  exact⟨.ref h'.objs.size,_,k,O,q _ (i.hok.fresh (nR1 _))⟩
 ·obtain⟨a,d,pl,g⟩:=I.tuple c;exact call_tuple_same pl ⟨.ref p,H,I,O,q⟩
def Gk(K:Fg1)(T:String)(x:V)(H:Hp):Prop:=match x with
 | .str _=>T="str"
 | .int _=>T="int"
 | .ref p=>(T="list" /\ ∃ xs,kq K H p xs)\/(T="tuple" /\ ∃ o,K.lookup p=some o/\o.cls = .type "tuple"/\o.dict=none) \/
   (T="dict"/\((∃kvs,H p=Z (.dK kvs)) \/ ∃kvs,H p=Z (.dT kvs)))\/(T="set" /\ ∃S n,H p=Z (.set S n))
 |_=>False
theorem A2{ag:List (cG×Obj)}{σ:St}{H:Hp}{s:cF}{T:String}{x:V}{v:cE}(I:Inv X ag σ H s)(r:de x v)(ty:Gk X.K T x H):
  s.TypeIs v T /\ ∀a,v = .ref a -> ∃g,s.heap.get? a=Z g/\g.dict=Y:=by
 cases x with
 |str z=>
  obtain⟨t,rfl⟩:=r;cases(show T="str" from ty);exact⟨typeIs_str s z t,λ_ e=>nomatch e⟩
 |int i=>
  obtain⟨t,rfl⟩:=r;cases(show T="int" from ty);exact⟨typeIs_int s i t,λ_ e=>nomatch e⟩
 |ref p=>
  cases r;rcases ty with⟨rfl,xs,h⟩|⟨rfl,o,b,hc,d⟩|⟨rfl,b⟩|⟨rfl,S,n,b⟩
  ·obtain⟨j,_,pl,_⟩:=I.list h;refine⟨pl.isList.typeIs,λa e=>?_⟩;cases e;obtain⟨o,n,e,c,d,_⟩:=pl;exact⟨o,e,d⟩
  ·refine⟨⟨o,I.kIn p o b,hc⟩,λa e=>?_⟩;cases e;exact⟨o,I.kIn _ o b,d⟩
  ·have z:∃ o,s.heap.get? p=some o/\o.ExactDict:=by
    rcases b with⟨kvs,b⟩|⟨kvs,b⟩
    ·obtain⟨_,_,_,_,o,_,_,e,ex,_⟩:=I.hok p _ b;exact⟨o,e,ex⟩
    ·obtain⟨_,_,_,_,o,_,_,e,ex,_⟩:=I.hok p _ b;exact⟨o,e,ex⟩
   obtain⟨o,e,ex⟩:=z;refine⟨⟨o,e,ex.1⟩,λa f=>?_⟩;cases f;exact⟨o,e,ex.2.1⟩
  ·obtain⟨o,_,_,_,e,ex,_⟩:=I.hok p _ b;refine⟨⟨o,e,ex.1⟩,λa f=>?_⟩;cases f;exact⟨o,e,ex.2.1⟩
 |_=>exact False.elim ty
def GS(K:Fg1)(T:String)(r:V->List V->Hp->VK->Prop)(to:TE)(t:TA):TE:=fun σ H Q=>to σ H λx H1=>Gk K T x H1/\t σ H1 λxs H2=>r x xs H2 Q
variable{o e:Expr}{es:List Expr}{to:TE}{t:TA}{name:Str}{apos cpos:Pos}{T id:String}{r:V->List V->Hp->VK->Prop}
theorem DX (k:PlainAttrs T)(slot:Slot T name id)(hty:typeOf (.builtin id)=pure (.type "method_descriptor"))(hm:Dl X id r)(ho:PE X o to)(ha:PA X (e::es) t)
  (hbase:attributeBase o name X.env (eval o X.env)=eval o X.env:=by rfl)
  (hfew:((backTo cpos (cM (e::es) X.env)).all (λx=> !x.1)&&(backToKw cpos (keywordEach [] X.env)).all (λx=>x.1.isSome)
   && decide ((e::es).length+([]:List Keyword).length+(if([]:List Keyword).isEmpty then 0 else 1)<30))=M:=by rfl)
  (hline:(apos.endLine == cpos.line)=M:=by rfl) (hs:cM (e::es) X.env=(J,eval e X.env)::cM es X.env:=by rfl) (hplain:(backTo cpos (cM es X.env)).any (·.1)=J:=by rfl):
  PE X (.Call (.Attribute o name apos) (e::es) [] cpos) (GS X.K T r to t):=by
 intro ag s σ H Q I h;refine wpAny_Call_method_late hbase hfew hline O (ee (ho ag s σ H _ I h) λv g ⟨x,H1,a,c,ty,i⟩=>?_);obtain⟨h1,h2⟩:=A2 a c ty;refine⟨T,id,k,slot,hty,h1,h2,?_⟩;have b:=ha cpos ag g σ H1 _ a i;rw[hs]at b ⊢;refine Calls.callWith_builtin (by show(J||(backTo cpos (cM es X.env)).any (·.1))=J;rw[hplain]<;>rfl) (Calls.evalArgs_plain ?_);exact ee b λd l ⟨vs,H2,j,r2,f⟩=>hm ag l σ H2 x vs v d Q j c r2 f
end
end L2
namespace L2
open PySem PySem.Spec PyProof.Rows
def GH(X:Cx)(id:String)(r:V->List V->Hp->VK->Prop):Prop:=
 ∀(ag:List (cG×Obj)) (s:cF) (σ:St) (H:Hp) (x:V) (xs:List V) (v:cE) (us:List cE) (Q:VK),Inv X ag σ H s->de x v->dy xs us->r x xs H Q ->
  cO (model X.prog X.w) X.A (call (.builtin id) (v::us)) (EP X ag σ Q) X.xe s
theorem dy.one:∀{x:V} {a:List cE},dy [x] a -> ∃u,a=[u]/\de x u:=by
 intro x a h;cases h with
 |cons r t=>cases t;exact⟨_,O,r⟩
theorem dy.eraseIdx:∀{xs:List V} {a:List cE} (i:Nat),dy xs a->dy (xs.eraseIdx i) (a.eraseIdx i)
 |_,_,_,.nil=>.nil
 |_,_,0,.cons _ t=>t
 |_,_,i+1,.cons r t=>.cons r (dy.eraseIdx i t)
theorem dy.reverse{xs:List V}{a:List cE}(h:dy xs a):dy xs.reverse a.reverse:=by
 induction h with
 |nil=>exact .nil
 |cons r t ih=>rw[aU,aU];exact dy.append ih (.cons r .nil)
theorem m7{α:Type}:∀(l:List α) (i:Nat),(l.eraseIdx i).length<=l.length
 |[],_=>nR1 _
 |_::_,0=>aV _
 |_::r,i+1=>Nat.succ_le_succ (m7 r i)
section
variable{X:Cx}{ag:List (cG×Obj)}{σ:St}{H:Hp}{s:cF}{l b:cG}{xs ys zs:List V}
theorem Inv.lset {its its':List cE}{n:Nat}{f:Array cE->Array cE}{t':Nat}(I:Inv X ag σ H s)(d:H l=some (.lst xs))
  (e:s.heap.get? l=Z {cls:=.type "list",data:=.seq its.toArray n}) (hf:f its.toArray=its'.toArray) (hv:dy ys its') (b:ys.length<=cN):
  Inv X ag σ (upd H l (.lst ys)) {s with heap:=s.heap.update l (Obj.mapSeq f),toks:=t'}:=by
 have q:=PySem.IsL.update e f;rw[hf]at q;refine I.write (x:=l) (e:=l) (by rw[d];exact trivial) (.inl O) (λg u c a=>(Heap.get?_update_other s.heap (Obj.mapSeq f) (Ne.symm c)).trans a) ⟨_,q⟩ ?_;exact⟨b,its',_,hv,q⟩
theorem Inv.lnew{its:List cE}{t':Nat}(I:Inv X ag σ H s)(hv:dy ys its)(a:ys.length<=cN):
  Inv X ag σ (upd H s.heap.objs.size (.lst ys)) {s with heap:=s.heap.push {cls:=.type "list",data:=.seq its.toArray},toks:=t'}:=
 I.laid (λ_ _ q=>hP1 _ q) (nR1 _) ⟨a,its,0,hv,hS1 _ O⟩
theorem Inv.fresh(I:Inv X ag σ H s):H s.heap.objs.size=Y:=I.hok.fresh (nR1 _)
theorem Inv.lstM(I:Inv X ag σ H s)(a:H l=Z (.lst xs)):xs.length<=cN /\ ∃(its:List cE) (n:Nat),dy xs its/\xs.length=its.length/\s.heap.get? l=Z {cls:=.type "list",data:=.seq its.toArray n}:=by
 obtain⟨z,its,n,r,e⟩:=I.hok l _ a;exact⟨z,its,n,r,r.length,e⟩
end
section
variable{X:Cx}
def yL:V->List V->Hp->VK->Prop:=λx vs H Q=>∃l xs y,x = .ref l/\vs=[y]/\H l=Z (.lst xs)/\xs.length<cN/\Q .non (upd H l (.lst (xs++[y])))
theorem m4:GH X "list.append" yL:=by
 intro ag s σ H x vs v i Q I d f h;obtain⟨l,xs,y,rfl,rfl,b,g,q⟩:=h;cases d;obtain⟨u,rfl,c⟩:=f.one;obtain⟨z,a,n,r,j,e⟩:=I.lstM b;refine call_meets F.slot_list_append ⟨_,e,O⟩ F.entry_list_append (F.args_list_append_2 _ _) (PySem.list_append l a.toArray n u (by rw[sT1];lia)) ⟨e,?_⟩;refine⟨.non,_,I.lset (its':=a++[u]) b e (by simp) (r.append (.cons c .nil)) ?_,O,q⟩;rw[lA1,List.length_singleton];lia
def Bh:V->List V->Hp->VK->Prop:=λx vs H Q=>∃l xs i k y,x = .ref l/\vs=[.int i]/\H l=Z (.lst xs) /\ -(2^63)<=i/\i<2^63/\seqIndex? i xs.length=Z k/\xs[k]?=Z y/\Q y (upd H l (.lst (xs.eraseIdx k)))
theorem wL:GH X "list.pop" Bh:=by
 intro ag s σ H x vs v A Q I f m h;obtain⟨l,xs,i,k,y,rfl,rfl,c,h1,h2,j,g,q⟩:=h;cases f;obtain⟨u,rfl,d⟩:=m.one;obtain⟨t,rfl⟩:=d;obtain⟨z,a,n,r,p,e⟩:=I.lstM c;obtain⟨w,o,b⟩:=r.get g;refine call_meets F.slot_list_pop ⟨_,e,O⟩ F.entry_list_pop (F.args_list_pop_2 _ _)
  (MeetsSeq.list_pop_at l a.toArray n i t k w (fitsIndex_both h1 h2) (by rw[sT1,<- p];exact j) (by rw[<- aT1];exact o) (by rw[sT1];lia)) ⟨e,?_⟩
 refine⟨y,_,I.lset (its':=a.eraseIdx k) c e ?_ (r.eraseIdx k) ?_,b,q⟩
 ·show a.toArray.eraseIdxIfInBounds k=(a.eraseIdx k).toArray;rw[List.eraseIdxIfInBounds_toArray]
 ·have:=m7 xs k;lia
noncomputable def FQ:R2:=λx y H Q=>∃l b xs zs,x = .ref l/\y = .ref b/\H l=Z (.lst xs)/\H b=Z (.lst zs)/\xs.length+zs.length<=cN /\ ∀p,H p=Y->Q (.ref p) (upd H p (.lst (xs++zs)))
theorem BO:e9 X (binaryOp .Add) FQ:=by
 intro ag s σ H x y v u Q I g i h;obtain⟨l,b,xs,zs,rfl,rfl,f,d,p,q⟩:=h;cases g;cases i;obtain⟨z,c,n,r,w,e⟩:=I.lstM f;obtain⟨t,a,o,r2,k,j⟩:=I.lstM d;refine PySem.P.add_list e j ?_ (by rw[sT1,sT1];lia);have m:c.toArray++a.toArray=(c++a).toArray:=by simp
 rw[m];exact⟨.ref _,_,I.lnew (t':=s.toks) (r.append r2) (by rw[lA1];lia),O,q _ I.fresh⟩
end
section
variable{prog:cH}{w:cJ}{A:cI}{E:cE->cF->Prop}{s:cF}
end
section
variable{X:Cx}
end
end L2
namespace Att
open PySem PySem.W PySem.Calls PyProof.Rows
theorem kB{P:Params}{h:cP}:∀(ns:List Int) (vs:List cE),WellAll P h vs (ns.map WData.int)->IntsAre vs ns:=by
 intro ns
 induction ns with
 |nil=>
  intro vs w;rw[aW]at w;cases w;exact .nil
 |cons n ns ih=>
  intro vs w;rw[mP1]at w;cases w with
  |cons a b=>
   cases a;exact .cons _ _ (ih _ b)
theorem ul{l:OpenLaw}{n:Nat}(hn:l.most=some n){P:Params}{h:cP}{args:List WData}{b:List cE}(c:l.row.toRowW.claim.pre args=true)(j:WellAll P h b args):
  ∃a vs ns,b=[Value.ref a]/\args=[WData.list (ns.map WData.int)]/\h.get? a=Z {cls:=.type "list",data:=.seq vs.toArray}/\IntsAre vs ns/\ns.length<=n:=by
 have k:WShape.hasAll [] args [.list .int]=M:=(pre_splitW c).1;have hc:l.pre.holds [] {args:=args}=M:=(pre_splitW c).2;obtain⟨d,r,rfl,h1,h2⟩:=hasAllW_cons k;obtain rfl:=hasAllW_nil h2;obtain⟨xs,rfl,t⟩:=hasW_list h1;obtain⟨ns,rfl⟩:=items_int t;have e:ns.length<=n:=by
  unfold OpenLaw.pre at hc;have i:(WTm.not (.lt (.lit (.int (n:Int))) (.len (.arg 0)))).holds [] {args:=[.list (ns.map .int)]}=M:=by
   have i:=(holds_andW hc).1;rw[hn]at i;exact i
  have g:=condW_of i (w_not (w_lt w_lit (w_len_list (w_arg O))));rw[lM1]at g;refine Nat.le_of_not_lt λq=>?_;have p:(n:Int)<((ns.length:Nat):Int):=by omega
  first
   |(rw[ah p]at g;exact absurd g (by decide))
   |(simp at g;omega)
 cases j with
 |cons s m=>
  cases m;cases s with
  |list o f=>exact⟨_,_,ns,O,O,o,kB ns _ f,e⟩
theorem um(l:OpenLaw)(args:List WData):l.row.toRowW.claim.post args (.bool M) args=M:=
 postW_of (r:=l.row.toRowW) (X:=(M == M))
  (show WShape.has [] (.bool M) .bool=M by first|rfl|decide|simp[WShape.has,WShape.arms,WShape.armsAll])
  (show(WTm.eq .res (.lit (.bool M))).value [] {args:=args,res:=Z (.bool M),after:=args}=Z (.bool (M == M))from w_eq_bool (w_res O) w_lit) O
theorem attach_call {l:OpenLaw}{n:Nat}{q:cH}{e:List Str}{XP:(Str->Option cE)->cP->Prop}{A:cJ->cP->Prop}{d:DefRec}
  (hn:l.most=Z n) (v:d.params.defaults=[])
  (call:∀(w:cJ) (c b:cF) (mg y:Str->Option cE) (j:cG) (o:Obj) (t p g:cE) (a:cG) (vs:List cE) (ns:List Int),
   Ground q e [] XP w c mg y b.heap->A w b.heap ->
   b.heap.get? j=Z o->o.data = .func (docDef d.name d.params d.body d.scope t p g)->b.heap.CodeRec p d.name->mg d.name=Z (.ref j) ->
   b.heap.get? a=Z {cls:=.type "list",data:=.seq vs.toArray}->IntsAre vs ns->ns.length<=n->b.gens = #[] ->
   codeAny (model l.prog w) callerA (.call (.ref j) ⟨[.ref a],[]⟩) (λr s'=>r = .ok (.ret (.bool M))/\OldK b.heap s'.heap/\s'.os=b.os/\AllBare s'.gens) b):
  WalkO q e XP A l.row.toRowW d [] (λf vs=>PySem.call f vs):=by
 intro w c b mg y G aq j o t p g ao kV L F x C s E D B as m z au u N;obtain rfl:ao = .none:=Dflts.none C v;obtain rfl:kV = .none:=Dflts.noKw C;obtain⟨a,vs,ns,rfl,rfl,k,h,i⟩:=ul hn m u;refine enter_call (codeAny_mono (call w c b mg y j o t p g a vs ns G aq L (fd_plain F) x s k h i E) λr s' H=>?_);obtain⟨rfl,h2,K,I⟩:=H;exact⟨.inl ⟨.bool M,.bool M,[],O,λ_=>rfl,.bool M,um l _,λ_=>⟨List.Pairwise.nil,λ_ am=>(nomatch am)⟩⟩,h2,K,I⟩
section
variable{prog:cH}{w:cJ}{A:cI}{E:cE->cF->Prop}{s:cF}{K:Frag}
end
end Att
namespace L2
open PySem PySem.Spec PyProof.Rows
theorem ud:∀{vs:List cE} {ns:List Int},IntsAre vs ns->dy (ns.map V.int) vs:=by
 intro vs ns h
 induction h with
 |nil=>exact .nil
 |cons n t h ih=>exact .cons ⟨t,O⟩ ih
def As(H:Hp):Prop:=∀b,H b=Y \/ ∃o xs,H b=Z (.frz o (.lst xs))
theorem w9 {P:cH}{w:cJ}{K:Fg1}{mg L:Str->Option cE}{CX:vm}{k:Nat}{am a:cG}{fd:cQ}{x:Str}{sp:Sp}{s₁:cF}{vs:List cE}{ns:List Int}
  (Q:K.In s₁.heap) (t:s₁.heap.Ns cK mg) (hb:s₁.heap.Ns builtinsNs L) (C:∀x:Str,x≠"__name__"->L x=bootBuiltins x) (B:s₁.heap.NoLimit) (hg:s₁.gens = #[])
  (ha:s₁.heap.get? a=Z {cls:=.type "list",data:=.seq vs.toArray}) (hi:IntsAre vs ns) (N:ns.length<=cN) (hr:eM k callerA)
  (F:∀base:cP,K.In base->base.Ns cK mg->jS P w K mg base CX k am fd [x] sp) (g:∀(s:cF) (u:cE),BindsTo s fd ⟨[u],[]⟩ [(x,u)])
  (E:∀H:Hp,As H->kq K H a (ns.map V.int)->sp [.ref a] H (λv _=>v = .bl M) λ_ _ _=>False)
  (I:∀H e s',CX [] H s₁ (λ_ _ _=>False) e s'->False):
  codeAny (model P w) callerA (.call (.ref am) ⟨[.ref a],[]⟩) (λr s'=>r = .ok (.ret (.bool M))/\OldK s₁.heap s'.heap/\s'.os=s₁.os/\AllBare s'.gens) s₁:=by
 have au:=ud hi;have A:=hi.length
 -- from an abstract heap in which nothing but the script may be tracked
 have f:∀ H:Hp,As H->kq K H a (ns.map V.int)->jB P w H s₁.heap->(∀ b,H b≠none->b=a)->(H a≠none->K.lookup a=none) ->
   codeAny (model P w) callerA (.call (.ref am) ⟨[.ref a],[]⟩) (λr s'=>r = .ok (.ret (.bool M))/\OldK s₁.heap s'.heap/\s'.os=s₁.os/\AllBare s'.gens) s₁:=by
  intro H R hS p S W;have base_of:∀{b:cG} {o:Obj},s₁.heap.get? b=Z o->H b=Y->(oy s₁.heap H).get? b=Z o:=λe n=>xl e n;have D:∀{b:cG} {o:Obj} {es:Array DictEntry} {ep:Nat},s₁.heap.get? b=Z o->o.data = .dict es ep->H b=Y:=λ{b o es ep} e d=>by
   cases q:H b with
   |none=>rfl
   |some u=>
    have G:b=a:=S b (by rw[q];simp);subst G;rw[ha]at e;cases e;have d':Data.seq vs.toArray _=Data.dict es ep:=d;cases d'
  have c:∀{b:cG} {m:Str->Option cE},s₁.heap.Ns b m->(oy s₁.heap H).Ns b m:=λ{b m} ⟨o,es,ep,e,d,r⟩=>⟨o,es,ep,base_of e (D e d),d,r⟩;have l:K.In (oy s₁.heap H):=λb o e=>base_of (Q b o e) (by
   cases q:H b with
   |none=>rfl
   |some u=>
    have G:b=a:=S b (by rw[q];simp);subst G;rw[W (by rw[q];simp)]at e;cases e)
  have U:Mod K mg (oy s₁.heap H):=⟨l,c t,⟨L,c hb,C⟩,let ⟨mc,h1,h2⟩:=B;⟨mc,c h1,h2⟩⟩;have X:Av P w K mg (oy s₁.heap H) callerA [] s₁ H:=⟨O,U,λb o e=>zi e,Nat.le_of_eq (uJ _ _),trivial,λb hb=>absurd (show b∈([]:List cG)from hb) (by simp),p,.of_eq hg⟩;refine codeAny_mono ((F _ l (c t)).run callerA [] s₁ H ⟨[.ref a],[]⟩ [.ref a] [.ref a] _ _ hr X (g s₁ (.ref a)) (.cons O .nil) (E H R hS)) λr s' h=>?_;cases r with
  |error e=>exact(I H e s' h).elim
  |ok aq=>
   cases aq with
   |next=>exact False.elim h
   |brk=>exact False.elim h
   |cont=>exact False.elim h
   |ret u=>
    obtain⟨v,H',os,y,un,j,r',q⟩:=h;have q':v = .bl M:=q;subst q';obtain rfl:u=Value.bool true:=r';refine⟨O,OldK.of_keep λb o e=>?_,os,y⟩;cases q:H b with
    |none=>exact un.keep b o e q (by intro z;exact absurd (show b∈([]:List cG)from z) (by simp)) (by simp)
    |some u=>
     rcases R b with z|⟨ob,xs,z⟩
     ·rw[q]at z;cases z
     ·have T:=un.frzs b ob _ z;obtain⟨ao,_⟩:=p b _ z;obtain⟨wq,_⟩:=j b _ T;rw[e]at ao;cases ao;exact wq
 cases hk:K.lookup a with
 |some o=>
  -- the script is one of the module's own objects
  have e:=Q a o hk;rw[ha]at e;cases e;refine f (λ_=>Y) (λ_=>.inl O) (.inr ⟨_,vs.toArray,_,hk,O,O,O,by rw[sT1,A];exact N,by simpa using au⟩) (λb u z=>by have i:(Y:Option HO)=Z u:=z;cases i) (λb z=>absurd O z) λz=>absurd O z
 |none=>
  refine f (λb=>if b=a then Z (.frz {cls:=.type "list",data:=.seq vs.toArray} (.lst (ns.map V.int)))else Y) (λb=>?_) (.inl (.inr ⟨{cls:=.type "list",data:=.seq vs.toArray},ak O⟩)) (λb u z=>?_) (λb z=>?_) λ_=>hk
  ·by_cases hb:b=a
   ·exact .inr ⟨_,_,ak hb⟩
   ·exact .inl (aj hb)
  ·by_cases hb:b=a
   ·have i:=(ak hb).symm.trans z;cases i;subst hb;exact⟨ha,by rw[lM1];exact N,vs,_,au,ha⟩
   ·have i:=(aj hb).symm.trans z;cases i
  ·by_cases hb:b=a
   ·exact hb
   ·exact absurd (aj hb) z
end L2
namespace L2
open PySem PySem.Spec PyProof.Rows
theorem yt{l:PySem.W.OpenLaw}{n k:Nat}{q:cH}{g:List Str}{XP:(Str->Option cE)->cP->Prop}{C:cJ->cP->Prop}{d:DefRec}{K:Params->Fg1}{CX:cJ->vm}{sp:cJ->Sp}{x:Str}(hn:l.most=some n)(r:n<=cN)(t:d.params.defaults=[])(hr:eM k callerA)(am:∀(w:cJ) (h:cP),C w h->(K w.params).In h)(F:∀(w:cJ) (mg:Str->Option cE) (m:cG) (h:cP),(K w.params).In h->h.Ns cK mg->mg d.name=some (.ref m) ->
   ∃fd:cQ,(∀(s:cF) (u:cE),BindsTo s fd ⟨[u],[]⟩ [(x,u)]) /\
    ∀base:cP,(K w.params).In base->base.Ns cK mg->jS l.prog w (K w.params) mg base (CX w) k m fd [x] (sp w))(y:∀(w:cJ) (H:Hp) (a:cG) (ns:List Int),ns.length<=n->As H->kq (K w.params) H a (ns.map V.int)->sp w [.ref a] H (λv _=>v = .bl M) λ_ _ _=>False)(z:∀(w:cJ) (H:Hp) (s:cF) (e:cE) (s':cF),CX w [] H s (λ_ _ _=>False) e s'->False):
  PySem.W.WalkO q g XP C l.row.toRowW d [] (λf vs=>PySem.call f vs):=by
 refine Att.attach_call hn t λw A i mg S m o Q T D a vs ns G aq R P N p j c b E=>?_;have B:=am w _ aq;obtain⟨fd,au,I⟩:=F w mg m _ B G.T.g p;exact w9 B G.T.g G.T.b G.T.builtins G.T.nolimit E j c (aC b r) hr I au (λH ao L=>y w H a ns b ao L) λH e s'=>z w H i e s'
end L2
namespace L2
open PySem PySem.Spec PyProof.Rows
noncomputable def gi(s:cR):Arguments:=match s with
 | .FunctionDef _ a _ _ _ _ _ _ _ _=>a
 |_=>{posonlyargs:=[],args:=[],vararg:=Y,kwonlyargs:=[],kw_defaults:=[],kwarg:=Y,defaults:=[]}
noncomputable def ea(s:cR):List cR:=match s with
 | .FunctionDef _ _ b _ _ _ _ _ _ _=>b
 |_=>[]
noncomputable def dg(s:cR):cS:=match s with
 | .FunctionDef _ _ _ _ _ _ sc _ _ _=>sc
 |_=>{kind:=.function,names:=[],isGenerator:=J,isCoroutine:=J}
abbrev qz:vm:=λ_ _ _ _ _ _=>False
abbrev E0:XK:=λ_ _ _=>False
theorem DZ{X:Cx}:su qz X E0:=λ_ _ _ _ _ _ _ h=>h.elim
structure vk (K:Fg1)(x qual:Str)(st:cR)(f:cG)(fd:cQ):Prop where
 ex:∃(oc:cE) (od:Option cG) (kV doc pm:cE) (an:Option cG) (cdv ct:cE) (osl:Array (Option cE)),
  fd=wF1 x qual (gi st) (ea st) (dg st) .none kV doc pm an cdv ct/\K.lookup f=some ⟨oc,od,.func fd,osl⟩/\wC1 K cdv qual=true
 kp:wK1 K (.ref f)=true
section
variable{P:cH}{w:cJ}{K:Fg1}{mg:Str->Option cE}{base:cP}
theorem vk.ok{x b:Str}{st:cR}{f:cG}{fd:cQ}{N ps:List Str}{k:Nat}{sp:Sp}(F:vk K x b st f fd)(S:fq N ps (dg st))(len:∀ vs H Q E,sp vs H Q E->vs.length=ps.length)(d:∀(c:cE) (A:cI) (a:List Env) (s:cF) (H:Hp) (vs:List V) (Q:VK) (E:XK),eM k (A.deeper (envOfC b (dg st) s.heap.objs.size f c))->sp vs H Q E ->
   ∃t,qT (kE qz P w K mg base N b (dg st) f c A a s H E).nox (ea st) t/\t {nx:=λ_ H'=>Q .non H',rt:=Q} (start N vs) H):jS P w K mg base qz (k+1) f fd ps sp:=by
 obtain⟨p,o,kV,i,r,n,c,ct,l,rfl,j,g⟩:=F.ex;refine Ey j g S len λA a s H vs Q E m e=>?_;obtain⟨t,h,q⟩:=d c A a s H vs Q E m e;exact⟨t,h.nox,q⟩
theorem vk.binds{x a:Str}{st:cR}{f:cG}{fd:cQ}{ps:List Str}(F:vk K x a st f fd)(h:∀(kV b g:cE) (d:Option cG) (c ct:cE) (e:List cE),e.length=ps.length->bindArgs (wF1 x a (gi st) (ea st) (dg st) .none kV b g d c ct) ⟨e,[]⟩=pure (ps.zip e)):jC K fd ps []:=by
 obtain⟨m,l,kV,b,g,d,c,ct,i,rfl,k,j⟩:=F.ex;exact .all (h kV b g d c ct)
theorem xA{x a:Str}{st:cR}{f:cG}{j:cE}{i g:Option cG}{e:Array (Option cE)}{kV d h b ct:cE}(l:K.lookup f=Z ⟨j,i,.func (wF1 x a (gi st) (ea st) (dg st) .none kV d h g b ct),e⟩)(c:wC1 K b a=M)(k:wK1 K (.ref f)=M):vk K x a st f (wF1 x a (gi st) (ea st) (dg st) .none kV d h g b ct):=⟨⟨j,i,kV,d,h,g,b,ct,e,O,l,c⟩,k⟩
end
section
variable{X:Cx}
end
def qy(H H':Hp):Prop:=∀b o,H b=Z o->H' b=Z o
theorem qy.trans{H H1 H2:Hp}(a:qy H H1)(b:qy H1 H2):qy H H2:=λc o h=>b c o (a c o h)
theorem qy.free{H H':Hp}(e:qy H H'){l:cG}(h:H' l=Option.none):H l=Option.none:=by
 cases q:H l with
 |none=>rfl
 |some o=>
  rw[e l o q]at h;cases h
theorem qy.seq{K:Fg1}{H H':Hp}{a:cG}{xs:List V}(e:qy H H')(h:kq K H a xs):kq K H' a xs:=by
 rcases h with(h|⟨o,h⟩)|h
 ·exact .inl (.inl (e _ _ h))
 ·exact .inl (.inr ⟨o,e _ _ h⟩)
 ·exact .inr h
end L2
namespace L2
open PySem PySem.Spec PyProof.Rows
section
variable{κ:Type} [DecidableEq κ]
noncomputable def gM(kvs:List (κ×V))(k:κ):Option V:=(kvs.find? λkv=>decide (kv.1=k)).map (·.2)
noncomputable def gG(kvs:List (κ×V))(k:κ)(v:V):List (κ×V):=
 if(kvs.any λkv=>decide (kv.1=k))=M then kvs.map (λkv=>if kv.1=k then(kv.1,v)else kv)else kvs++[(k,v)]
theorem kX{p:κ×V}{r:List (κ×V)}{k:κ}(e:p.1=k):gM (p::r) k=Z p.2:=by simp[gM,aX,e]
theorem kY{p:κ×V}{r:List (κ×V)}{k:κ}(e:¬ p.1=k):gM (p::r) k=gM r k:=by simp[gM,aX,e]
theorem oV(k:κ):∀kvs:List (κ×V),(kvs.any λa=>decide (a.1=k))=(gM kvs k).isSome
 |[]=>rfl
 |p::r=>by
  rw[aY];by_cases e:p.1=k
  ·simp only[kX e,ah e,Bool.true_or,Option.isSome_some]
  ·rw[kY e,ai e,Bool.false_or];exact oV k r
theorem h9(kvs:List (κ×V))(k:κ)(v:V):(gG kvs k v).length<=kvs.length+1:=by
 unfold gG;split
 ·rw[lM1];lia
 ·rw[lA1,lC1,aZ];lia
theorem my.isSome_eq{o:Option V}{u:Option cE}(r:my o u):o.isSome=u.isSome:=by
 cases o with
 |none=>cases u with
  |none=>rfl
  |some _=>exact(show False from r).elim
 |some _=>cases u with
  |none=>exact(show False from r).elim
  |some _=>rfl
theorem KV.val{kvs:List (κ×V)}{vs:List (κ×cE)}(r:KV kvs vs)(k:κ):my (gM kvs k) (valueAt vs k):=by
 unfold KV at r
 induction r with
 |nil=>exact True.intro
 | @cons p q ps c h t ih=>
  obtain⟨h1,h2⟩:=h;by_cases e:p.1=k
  ·have a:q.1=k:=h1.symm.trans e;have b:valueAt (q::c) k=Z q.2:=by simp[valueAt,aX,a]
   rw[kX e,b];exact h2
  ·have a:¬ q.1=k:=λz=>e (h1.trans z);have b:valueAt (q::c) k=valueAt c k:=by simp[valueAt,aX,a]
   rw[kY e,b];exact ih
theorem KV.any{kvs:List (κ×V)}{vs:List (κ×cE)}(r:KV kvs vs)(k:κ):(kvs.any λa=>decide (a.1=k))=vs.any λa=>decide (a.1=k):=by
 unfold KV at r
 induction r with
 |nil=>rfl
 |cons h t ih=>rw[aY,aY,ih,h.1]
theorem KV.repl{kvs:List (κ×V)}{vs:List (κ×cE)}(r:KV kvs vs)(k:κ){y:V}{u:cE}(b:de y u):
  KV (kvs.map λa=>if a.1=k then(a.1,y)else a) (vs.map λa=>if a.1=k then(a.1,u)else a):=by
 unfold KV at r ⊢
 induction r with
 |nil=>exact .nil
 | @cons p q ps c h t ih=>
  rw[mP1,mP1];refine .cons ?_ ih;obtain⟨h1,h2⟩:=h;by_cases e:p.1=k
  ·rw[ak e,ak (h1.symm.trans e)];exact⟨h1,b⟩
  ·rw[aj e,aj (λz=>e (h1.trans z))];exact⟨h1,h2⟩
theorem KV.put{kvs:List (κ×V)}{vs:List (κ×cE)}(r:KV kvs vs)(k:κ){y:V}{u:cE}(a:de y u):KV (gG kvs k y) (stored vs k u):=by
 unfold gG stored;rw[r.any k];by_cases e:(vs.any λb=>decide (b.1=k))=M
 ·rw[ak e,ak e];exact r.repl k a
 ·rw[aj e,aj e];exact Paired.snoc r ⟨O,a⟩
theorem KV.length{kvs:List (κ×V)}{vs:List (κ×cE)}(r:KV kvs vs):kvs.length=vs.length:=Paired.length r
end
theorem na{P:cH}{w:cJ}{k:Key}{u:cE}(r:de (kV k) u):(d0 P w).is k u=M:=by
 cases k with
 |inl i=>obtain⟨t,e⟩:=(show∃t,u=Value.int i t from r);subst e;exact pG P w i t
 |inr x=>obtain⟨t,e⟩:=(show∃t,u=Value.str x t from r);subst e;exact pF P w x t
theorem nb{P:cH}{w:cJ}:∀{ks:List Key} {a:List cE},dy (ks.map kV) a->ItemsAre (d0 P w) ks a
 |[],_,r=>by rw[aW]at r;cases r;exact .nil
 |k::ks,_,r=>by
  rw[mP1]at r;cases r with
  |cons h t=>exact .cons (na h) (nb t)
abbrev KT(H:Hp):List (List Key×V)->List (List Key×cG×cE)->Prop:=Paired λp q=>p.1=q.1/\H q.2.1=Z (.tup (p.1.map kV))/\de p.2 q.2.2
theorem KT.val{H:Hp}{kvs:List (List Key×V)}{xs:List (List Key×cG×cE)}(r:KT H kvs xs)(k:List Key):my (gM kvs k) ((atKey xs k).map (·.2)):=by
 induction r with
 |nil=>exact True.intro
 | @cons p q ps c h t ih=>
  obtain⟨h1,_,h2⟩:=h;by_cases e:p.1=k
  ·have a:q.1=k:=h1.symm.trans e;have b:atKey (q::c) k=Z q.2:=by simp[atKey,aX,a]
   rw[kX e,b];exact h2
  ·have a:¬ q.1=k:=λz=>e (h1.trans z);have b:atKey (q::c) k=atKey c k:=by simp[atKey,aX,a]
   rw[kY e,b];exact ih
theorem KT.repl{H:Hp}{kvs:List (List Key×V)}{xs:List (List Key×cG×cE)}(r:KT H kvs xs)(k:List Key){y:V}{u:cE}(c:de y u):
  KT H (kvs.map λa=>if a.1=k then(a.1,y)else a) (xs.map (putAt k u)):=by
 induction r with
 |nil=>exact .nil
 | @cons p q ps d h t ih=>
  rw[mP1,mP1];refine .cons ?_ ih;obtain⟨h1,h2,b⟩:=h;unfold putAt;by_cases e:p.1=k
  ·rw[ak e,ak (h1.symm.trans e)];exact⟨h1,h2,c⟩
  ·rw[aj e,aj (λz=>e (h1.trans z))];exact⟨h1,h2,b⟩
theorem KT.put{H:Hp}{kvs:List (List Key×V)}{xs:List (List Key×cG×cE)}(r:KT H kvs xs)(k:List Key){b:cG}{y:V}{u:cE}(hb:H b=some (.tup (k.map kV)))(a:de y u):
  KT H (gG kvs k y) (storedH xs k b u):=by
 have e:(kvs.any λc=>decide (c.1=k))=(atKey xs k).isSome:=by
  rw[oV,(r.val k).isSome_eq,a0]
 unfold gG storedH;rw[e];by_cases q:(atKey xs k).isSome=M
 ·rw[ak q,ak q];exact r.repl k a
 ·rw[aj q,aj q];exact Paired.snoc r ⟨O,hb,a⟩
theorem KT.keeps{H H':Hp}{kvs:List (List Key×V)}{xs:List (List Key×cG×cE)}(r:KT H kvs xs)(ht:∀b ys,H b=Z (.tup ys)->H' b=Z (.tup ys)):KT H' kvs xs:=
 Paired.mapP r λ_ _ z=>⟨z.1,ht _ _ z.2.1,z.2.2⟩
section
variable{P:cH}{w:cJ}{H:Hp}{h:cP}{a:cG}
theorem AF{u:HO}(ok:jB P w H h)(e:Rd H a u):dZ P w H h a u:=e.ok ok
theorem qf{kvs:List (Key×V)}(ok:jB P w H h)(e:Rd H a (.dK kvs)):kvs.length<=cN/\(a == sysModules)=J /\ ∃vs,KV kvs vs/\h.DictOf (d0 P w) a vs:=
 show dZ P w H h a (.dK kvs)from AF ok e
theorem xL{kvs:List (Key×V)}(ok:jB P w H h)(e:H a=Z (.dK kvs)):kvs.length<=cN/\(a == sysModules)=J /\ ∃vs,KV kvs vs/\h.DictOf (d0 P w) a vs:=qf ok (.inl e)
theorem lF{ks:List Key}(ok:jB P w H h)(e:H a=Z (.tup (ks.map kV))):(tupleKind (d0 P w)).is h ks a:=by
 obtain⟨_,b,r,o,h1,h2,n,c⟩:=(show dZ P w H h a (.tup (ks.map kV))from ok a _ e);exact⟨o,b.toArray,n,h1,h2,c,by simpa using nb r⟩
theorem qc{kvs:List (List Key×V)}(ok:jB P w H h)(e:Rd H a (.dT kvs)):kvs.length<=cN/\(a == sysModules)=false /\
  ∃xs,KT H kvs xs/\h.DictOfH (tupleKind (d0 P w)) a xs:=by
 obtain⟨z,y,xs,r,o,es,ep,h1,h2,g,f,d⟩:=(show dZ P w H h a (.dT kvs)from AF ok e);refine⟨z,y,xs,r,o,es,ep,h1,h2,g,f,λx b=>?_,d⟩;have all:∀{l:List (List Key×V)} {m:List (List Key×cG×cE)},KT H l m -> ∀x∈m,(tupleKind (d0 P w)).is h x.1 x.2.1:=by
  intro l m q
  induction q with
  |nil=>intro x b;exact nomatch b
  | @cons p q ps i c t ih=>
   intro x b;rcases aE.mp b with e|b
   ·subst e;exact lF ok (by rw[<- c.1];exact c.2.1)
   ·exact ih x b
 exact all r x b
theorem EE{kvs:List (List Key×V)}(ok:jB P w H h)(e:H a=some (.dT kvs)):kvs.length<=cN/\(a == sysModules)=false /\
  ∃xs,KT H kvs xs/\h.DictOfH (tupleKind (d0 P w)) a xs:=qc ok (.inl e)
end
def mD(H:Hp)(a:cG)(y:V)(r:Option V):Prop:=
 (∃kvs k,Rd H a (.dK kvs)/\y=kV k/\r=gM kvs k) \/ ∃kvs k b,Rd H a (.dT kvs)/\y = .ref b/\H b=Z (.tup (k.map kV))/\r=gM kvs k
def vc(H:Hp)(a:cG)(y v:V)(H':Hp):Prop:=
 (∃kvs k,H a=Z (.dK kvs)/\y=kV k/\kvs.length<cN/\H'=upd H a (.dK (gG kvs k v))) \/
 ∃kvs k b,H a=Z (.dT kvs)/\y = .ref b/\H b=Z (.tup (k.map kV))/\kvs.length<cN/\H'=upd H a (.dT (gG kvs k v))
theorem mD.k{H:Hp}{a:cG}{kvs:List (Key×V)}{k:Key}(e:H a=Z (.dK kvs)):mD H a (kV k) (gM kvs k):=.inl ⟨kvs,k,.inl e,O,O⟩
theorem mD.t{H:Hp}{a b:cG}{kvs:List (List Key×V)}{k:List Key}(e:H a=Z (.dT kvs))(c:H b=Z (.tup (k.map kV))):mD H a (.ref b) (gM kvs k):=.inr ⟨kvs,k,b,.inl e,O,c,O⟩
theorem vc.k{H:Hp}{a:cG}{kvs:List (Key×V)}{k:Key}{v:V}(e:H a=Z (.dK kvs))(b:kvs.length<cN):vc H a (kV k) v (upd H a (.dK (gG kvs k v))):=.inl ⟨kvs,k,e,O,b,O⟩
theorem vc.t{H:Hp}{a b:cG}{kvs:List (List Key×V)}{k:List Key}{v:V}(e:H a=some (.dT kvs))(d:H b=some (.tup (k.map kV)))(c:kvs.length<cN):
  vc H a (.ref b) v (upd H a (.dT (gG kvs k v))):=.inr ⟨kvs,k,b,e,O,d,c,O⟩
section
variable{X:Cx}{ag:List (cG×Obj)}{σ:St}{H:Hp}{s:cF}{a:cG}{y v:V}{u r:cE}{o:Option V}{A:cI}{E:cE->cF->Prop}
theorem Inv.big(I:Inv X ag σ H s):sysModules<s.heap.objs.size:=by
 have h:cK<s.heap.objs.size:=(I.mod.glob.keeps I.bk).lt;exact bc (by decide) h
theorem uT{Q:cE->cF->Prop}(r:A.units+1<cLine)(I:Inv X ag σ H s)(g:mD H a y (some v))(q:de y u)(h:∀ f s',Inv X ag σ H s'->de v f->Q f s'):
  cO (model X.prog X.w) A (getItem (.ref a) u) Q E s:=by
 rcases g with⟨kvs,k,e,i,l⟩|⟨kvs,k,b,e,i,x,l⟩
 ·subst i;obtain⟨z,w,vs,c,j⟩:=qf I.hok e;obtain⟨f,m,d⟩:=my.some_of (v:=v) (o:=valueAt vs k) (by rw[l];exact c.val k);exact wpAny_getItem_of (na q) j.mapOf m (h f _ (I.tok _) d)
 ·subst i;cases(show u=Value.ref b from q);obtain⟨z,w,xs,c,j⟩:=qc I.hok e;obtain⟨f,m,d⟩:=my.some_of (v:=v) (o:=(atKey xs k).map (·.2)) (by rw[l];exact c.val k);obtain⟨p,t,n⟩:=oM1.mp m;refine wpAny_getItem_heap (tupleKind_room_in1 r) (lF I.hok x) j t ?_;rw[n];exact h f _ (I.tok _) d
theorem F6{Q:cE->cF->Prop}(m:A.units+1<cLine)(I:Inv X ag σ H s)(g:mD H a y o)(j:de y u)(h:∀ s',Inv X ag σ H s'->Q (.bool o.isSome) s'):
  cO (model X.prog X.w) A (compareOp .In u (.ref a)) Q E s:=by
 rcases g with⟨kvs,k,e,d,l⟩|⟨kvs,k,b,e,d,n,l⟩
 ·subst d;obtain⟨z,f,vs,c,i⟩:=qf I.hok e;refine wpAny_in_of (na j) f i.mapOf ?_;rw[<- (c.val k).isSome_eq,<- l];exact h _ (I.tok _)
 ·subst d;cases(show u=Value.ref b from j);obtain⟨z,f,xs,c,i⟩:=qc I.hok e;refine wpAny_in_heap (tupleKind_room_in1 m) (lF I.hok n) f i ?_;have q:=(c.val k).isSome_eq;rw[a0]at q;rw[<- q,<- l];exact h _ (I.tok _)
theorem Ad{Q:cE->cF->Prop}(m:A.units+1<cLine)(I:Inv X ag σ H s)(g:mD H a y o)(j:de y u)(h:∀ s',Inv X ag σ H s'->Q (.bool (!o.isSome)) s'):
  cO (model X.prog X.w) A (compareOp .NotIn u (.ref a)) Q E s:=by
 rcases g with⟨kvs,k,e,d,l⟩|⟨kvs,k,b,e,d,n,l⟩
 ·subst d;obtain⟨z,f,vs,c,i⟩:=qf I.hok e;refine wpAny_notIn_of (na j) f i.mapOf ?_;rw[<- (c.val k).isSome_eq,<- l];exact h _ (I.tok _)
 ·subst d;cases(show u=Value.ref b from j);obtain⟨z,f,xs,c,i⟩:=qc I.hok e;refine wpAny_notIn_heap (tupleKind_room_in1 m) (lF I.hok n) f i ?_;have q:=(c.val k).isSome_eq;rw[a0]at q;rw[<- q,<- l];exact h _ (I.tok _)
theorem jt{h':cP}{t':Nat}{c:HO}(I:Inv X ag σ H s)(mu:Dd (H a))(hs:Heap.SameBut a s.heap h')(he:∃ q,h'.get? a=some q)(new:dZ X.prog X.w (upd H a c) h' a c):
  Inv X ag σ (upd H a c) {s with heap:=h',toks:=t'}:=
 I.write (x:=a) (e:=a) mu (.inl O) (λb q d z=>(hs.2 b d).trans z) he new
theorem xM{P:cH}{w:cJ}{H':Hp}{h':cP}{kvs:List (Key×V)}{vs:List (Key×cE)}(z:kvs.length<=cN)(hd:(a == sysModules)=false)(b:KV kvs vs)(dd:h'.DictOf (d0 P w) a vs):
  dZ P w H' h' a (.dK kvs):=⟨z,hd,vs,b,dd⟩
theorem uS{H':Hp}{Q:Unit->cF->Prop}(F:A.units+1<cLine)(I:Inv X ag σ H s)(g:vc H a y v H')(C:de y u)(D:de v r)(h:∀ s',Inv X ag σ H' s'->Q () s'):
  cO (model X.prog X.w) A (setItem (.ref a) u r) Q E s:=by
 rcases g with⟨kvs,k,e,j,l,t⟩|⟨kvs,k,b,e,j,x,l,t⟩
 ·subst j t;obtain⟨z,m,vs,d,p⟩:=xL I.hok e;have w:vs.length<=cN:=by rw[<- d.length];exact z
  have n:(gG kvs k v).length<=cN:=by have:=h9 kvs k v;lia
  refine wpAny_setItem_pairs (hsz:=w) (na C) p λh' f o=>h _ ?_;have am:∃q,h'.get? a=Z q:=let ⟨q,_,_,i,_⟩:=f;⟨q,i⟩
  exact jt I (by rw[e];exact True.intro) o am (xM n m (d.put k D) f)
 ·subst j t;cases(show u=Value.ref b from C);obtain⟨z,m,xs,d,p⟩:=EE I.hok e;have w:xs.length<=cN:=by rw[<- Paired.length d];exact z
  have n:(gG kvs k v).length<=cN:=by have:=h9 kvs k v;lia
  refine wpAny_setItem_heap (hsz:=w) (tupleKind_room_in1 F) (lF I.hok x) p λh' f o=>h _ ?_;obtain⟨q,es,ep,i,h2,K,G,_,L⟩:=f;refine jt I (by rw[e];exact True.intro) o ⟨q,i⟩ ⟨n,m,_,(d.put k x D).keeps λc ys B=>?_,q,es,ep,i,h2,K,G,L⟩;rw[di (Eb B e (λz=>nomatch z))];exact B
end
section
variable{X:Cx}{ag:List (cG×Obj)}{σ:St}{H:Hp}{s:cF}{a:cG}{kvs:List (Key×V)}{k:Key}{u:cE}{A:cI}{E:cE->cF->Prop}
end
theorem qh{X:Cx}{ag:List (cG×Obj)}{σ:St}{H:Hp}{s:cF}{a:cG}{y:V}{o:Option V}(I:Inv X ag σ H s)(g:mD H a y o):s.TypeIs (.ref a) "dict":=by
 rcases g with⟨kvs,k,e,_,_⟩|⟨kvs,k,b,e,_,_,_⟩
 ·obtain⟨_,_,vs,_,c⟩:=qf I.hok e;exact c.typeIs
 ·obtain⟨_,_,xs,_,c⟩:=qc I.hok e;exact c.typeIs
section
variable{X:Cx}{o i e value:Expr}{pos pos' tpos:Pos}{td ty tv:TE}
end
theorem qg{P:cH}{w:cJ}{H:Hp}(h:cP)(hb:sysModules<h.objs.size):dZ P w H (h.push {cls:=.type "dict",data:=.dict #[]}) h.objs.size (.dK []):=
 ⟨bd _,beq_eq_false_iff_ne.mpr (Ne.symm (nN1 hb)),[],.nil,Heap.DictOf.new h⟩
noncomputable def A7:TE:=λ_ H Q=>∀p,H p=Y->Q (.ref p) (upd H p (.dK []))
section
variable{X:Cx}{pos:Pos}
theorem wz:PE X (.Dict [] [] pos) A7:=λag s σ H Q I h=>
 wpAny_Dict_empty ⟨.ref s.heap.objs.size,_,I.laid (a:=s.heap.objs.size) (o:=.dK []) (t':=s.toks) (λ_ _ q=>hP1 _ q) (nR1 _) (qg s.heap I.big),O,h _ (I.hok.fresh (nR1 _))⟩
end
def nQ:List (TE×TE)->St->Hp->(List (V×V)->Hp->Prop)->Prop
 |[],_,H,Q=>Q [] H
 |(tk,tv)::r,σ,H,Q=>tk σ H λx H1=>tv σ H1 λy H2=>nQ r σ H2 λps H3=>Q ((x,y)::ps) H3
abbrev VV:List (V×V)->List (cE×cE)->Prop:=Paired λp q=>de p.1 q.1/\de p.2 q.2
def EU(X:Cx)(pos:Pos)(keys:List (Option Expr))(values:List Expr)(trs:List (TE×TE)):Prop:=
 ∀(ag:List (cG×Obj)) (s:cF) (σ:St) (H:Hp) (Q:List (V×V)->Hp->Prop),Inv X ag σ H s->nQ trs σ H Q ->
  cO (model X.prog X.w) X.A (evalPairs (pairTrees keys values X.env pos)) (λvs s'=>∃ps H',Inv X ag σ H' s'/\VV ps vs/\Q ps H') X.xe s
theorem yV{X:Cx}{pos:Pos}:EU X pos [] [] []:=λag s σ H Q I h=>pairTrees_nil_walk ⟨[],H,I,.nil,h⟩
theorem wm{X:Cx}{pos:Pos}{k v:Expr}{ks:List (Option Expr)}{vs:List Expr}{tk tv:TE}{a:List (TE×TE)}(hk:PE X k tk)(hv:PE X v tv)(hr:EU X pos ks vs a):
  EU X pos (Z k::ks) (v::vs) ((tk,tv)::a):=λag s σ H Q I h=>
 pairTrees_cons_walk (ee (hk ag s σ H _ I h) λu e ⟨x,H1,f,m,i⟩=>ee (hv ag e σ H1 _ f i) λp o ⟨y,H2,n,j,l⟩=>
  ee (hr ag o σ H2 _ n l) λws q ⟨ps,g,d,b,c⟩=>⟨(x,y)::ps,g,d,.cons ⟨m,j⟩ b,c⟩)
noncomputable def gW(kvs more:List (Key×V)):List (Key×V):=more.foldl (λacc kv=>gG acc kv.1 kv.2) kvs
theorem KV.merge:∀{more:List (Key×V)} {rs:List (Key×cE)} {kvs:List (Key×V)} {vs:List (Key×cE)},KV more rs->KV kvs vs->KV (gW kvs more) (merged vs rs):=by
 intro more rs kvs vs r;unfold KV at r
 induction r generalizing kvs vs with
 |nil=>intro q;exact q
 | @cons p q ps b h t ih=>
  intro a;have e:KV (gG kvs p.1 p.2) (stored vs q.1 q.2):=by
   have:=a.put p.1 h.2;rw[<- h.1];exact this
  exact ih e
theorem iK:∀(more kvs:List (Key×V)),(gW kvs more).length<=kvs.length+more.length
 |[],kvs=>by show kvs.length<=kvs.length+0;lia
 |p::r,kvs=>by
  have h1:=iK r (gG kvs p.1 p.2);have h2:=h9 kvs p.1 p.2;show(gW (gG kvs p.1 p.2) r).length<=_;rw[lC1];lia
theorem lV{P:cH}{w:cJ}:∀{kvs:List (Key×V)} {ws:List (cE×cE)},VV (kvs.map λd=>(kV d.1,d.2)) ws -> ∃rs,Carries (d0 P w) ws rs/\KV kvs rs
 |[],_,r=>by rw[aW]at r;cases r;exact⟨[],True.intro,.nil⟩
 |p::kvs,_,r=>by
  rw[mP1]at r;cases r with
  | @cons a b as bs h t=>
   obtain⟨rs,c,q⟩:=lV (P:=P) (w:=w) t;obtain⟨b1,b2⟩:=b;exact⟨(p.1,b2)::rs,⟨na h.1,O,c⟩,.cons ⟨O,h.2⟩ q⟩
noncomputable def DE(trs:List (TE×TE)):TE:=fun σ H Q=>∀p,H p=Y->nQ trs σ (upd H p (.dK [])) λps H2=>H2 p=Z (.dK []) /\ ∃kvs:List (Key×V),ps=kvs.map (λkv=>(kV kv.1,kv.2))/\kvs.length<=15/\Q (.ref p) (upd H2 p (.dK (gW [] kvs)))
theorem y2{X:Cx}{pos:Pos}{b:List (Option Expr)}{values:List Expr}{d:List (TE×TE)}(h:EU X pos b values d)(f:b.all (·.isSome)=M)(n:b.length=values.length)(h0:b≠[])(j:b.length<=15):PE X (.Dict b values pos) (DE d):=by
 intro ag s σ H Q I q;have r:=I.hok.fresh (nR1 s.heap.objs.size);have l:=I.laid (a:=s.heap.objs.size) (o:=.dK []) (h':=s.heap.push {cls:=.type "dict",data:=.dict #[]}) (t':=s.toks) (λ_ _ q=>hP1 _ q) (nR1 _) (qg s.heap I.big);refine wpAny_Dict_walk (knd:=d0 X.prog X.w) f n h0 j (ee (h ag _ σ _ _ l (q _ r)) λws B ⟨ps,H2,k,i,e,kvs,ep,C,y⟩=>?_);subst ep;obtain⟨rs,c,rk⟩:=lV (P:=X.prog) (w:=X.w) i;obtain⟨z,m,A,x,u⟩:=xL k.hok e;cases x;refine⟨rs,c,u,λh' g t=>⟨.ref s.heap.objs.size,_,?_,O,y⟩⟩;have v:(gW [] kvs).length<=cN:=by
  have h1:=iK kvs [];rw[aZ]at h1;rw[sizeLine_eq];lia
 have p:∃q,h'.get? s.heap.objs.size=Z q:=let ⟨q,_,_,hq,_⟩:=g;⟨q,hq⟩
 exact jt k (by rw[e];exact True.intro) t p (xM v m (rk.merge .nil) g)
structure M2 (X:Cx)(o:Expr)(m:Str)(apos:Pos)(e f:Expr)(cpos:Pos):Prop where
 base:attributeBase o m X.env (eval o X.env)=eval o X.env
 few:((backTo cpos (cM [e,f] X.env)).all (λx=> !x.1)&&(backToKw cpos (keywordEach [] X.env)).all (λx=>x.1.isSome)
  && decide (([e,f]:List Expr).length+([]:List Keyword).length+(if([]:List Keyword).isEmpty then 0 else 1)<30))=true
 line:(apos.endLine == cpos.line)=true
 trees:backTo cpos (cM [e,f] X.env)=[(false,eval e X.env),(false,eval f X.env)]
section
variable{X:Cx}{ag:List (cG×Obj)}{σ:St}{H:Hp}{s:cF}{a:cG}{y d:V}{u r:cE}{o:Option V}{A:cI}{E:cE->cF->Prop}
end
section
variable{X:Cx}{o e f:Expr}{apos cpos:Pos}{td ty tx:TE}
end
section
variable{X:Cx}{ag:List (cG×Obj)}{σ:St}{H:Hp}{s:cF}{a:cG}{kvs:List (Key×V)}{A:cI}{E:cE->cF->Prop}
end
section
variable{X:Cx}{ag:List (cG×Obj)}{σ:St}{H:Hp}{s:cF}{a:cG}{y:V}{u:cE}{A:cI}{E:cE->cF->Prop}
end
end L2
namespace Mi
open PySem PySem.Spec PyProof.Rows L2
inductive TK where
 |non|int (i:Int)|tup (xs:List TK)
instance:DecidableEq TK:=λ_ _=>Classical.propDecidable _
mutual
noncomputable def TK.hash:TK->Int
 | .non=>0xFCA86420
 | .int i=>hashInt i
 | .tup xs=>reduceHash (Builtin.Tuple.tupleHashOf (TK.hashes xs))
noncomputable def TK.hashes:List TK->List Int
 |[]=>[]
 |x::xs=>TK.hash x::TK.hashes xs
end
mutual
noncomputable def TK.draws:TK->Nat
 | .non=>1
 | .int _=>1
 | .tup xs=>TK.drawsAll xs+1
noncomputable def TK.drawsAll:List TK->Nat
 |[]=>0
 |x::xs=>TK.draws x+TK.drawsAll xs
end
mutual
noncomputable def TK.dep:TK->Nat
 | .non=>0
 | .int _=>0
 | .tup xs=>TK.depAll xs+1
noncomputable def TK.depAll:List TK->Nat
 |[]=>0
 |x::xs=>max (TK.dep x) (TK.depAll xs)
end
theorem TK.dep_mem:∀{xs:List TK} {x:TK},x∈xs->x.dep<=TK.depAll xs
 |y::ys,x,h=>by
  rw[TK.depAll];rcases aE.mp h with e|e
  ·rw[e];exact Nat.le_max_left _ _
  ·exact aC (TK.dep_mem e) (Nat.le_max_right _ _)
theorem TK.hashes_app:∀a b:List TK,TK.hashes (a++b)=TK.hashes a++TK.hashes b
 |[],_=>rfl
 |x::xs,b=>by rw[bf,TK.hashes,TK.hashes,TK.hashes_app xs b];rfl
theorem TK.draws_app:∀a b:List TK,TK.drawsAll (a++b)=TK.drawsAll a+TK.drawsAll b
 |[],_=>by simp[TK.drawsAll]
 |x::xs,b=>by rw[bf,TK.drawsAll,TK.drawsAll,TK.draws_app xs b,bg]
def ss(xs:Array Nat):Prop:=xs.toList.Pairwise (· < ·)
noncomputable def AE(m:Nat):Nat->Nat->Nat->List Nat
 |0,_,_=>[]
 |n+1,i,b=>List.range' i (SetTable.runEnd m i-i+1)++AE m n (SetTable.leap m i b).1 (SetTable.leap m i b).2
def GT(m:Nat):Prop:=m=7\/m=31\/m=127
noncomputable def FD(m:Nat)(h:Int):List Nat:=AE m (SetTable.turns m) (SetTable.bits h%(m+1)) (SetTable.bits h)
def FH(m:Nat)(occ:List Nat)(h:Int)(j:Nat):Prop:=∃pre post,FD m h=pre++j::post /\ ∀y∈pre,y∈occ
structure FF (es:Array (Int×cE))(t:SetTable):Prop where
 mks:GT t.mask
 up:ss t.place
 du:t.dummies = #[]
 sz:t.place.size=es.size
 le:∀j∈t.place.toList,j<=t.mask
 fl:es.size<=t.mask
 rc:∀z∈t.place.toList.zip es.toList,FH t.mask t.place.toList z.2.1 z.1
noncomputable def stO(es:Array (Int×cE))(ep:Nat)(t:SetTable):Obj:={cls:=.type "set",dict:=Y,data:=.set es ep t,slots:= #[]}
def ET(a:cG)(xs:List (TK×cG×cE))(h:cP):Prop:=(xs.map (·.1)).Nodup /\ ∃es ep t,h.get? a=Z (stO es ep t)/\FF es t/\t.tooFull=J/\(∀e∈es.toList,∃z∈xs,e=(z.1.hash,.ref z.2.1))/\(∀z∈xs,(z.1.hash,Value.ref z.2.1)∈es.toList)/\es.size=xs.length
inductive D where
 |non|bl (b:Bool)|int (i:Int)|str (x:Str)|tup (xs:List D)|rol (xs:List D)|ref (n:Nat)|fn (x:Str)
inductive Ob where
 |lst (xs:List D)|dct (kvs:List (Key×D))|dcT (kvs:List (TK×D))|iset (xs:List Int)|dcF (kvs:List (TK×D))|tst (ks:List TK)
abbrev cV:=List Ob
abbrev Ev:=List (Option D)
abbrev FE:=Ev->cV->Option (D×cV)
abbrev FT:=Ev->cV->Option (Bool×cV)
abbrev FA:=Ev->cV->Option (List D×cV)
abbrev FN:=List D->cV->Option (D×cV)
inductive Fl where
 |nx|rt (d:D)|bk|ct
abbrev FS:=Ev->cV->Option (Fl×Ev×cV)
def RoL(K:Fg1)(H:Hp)(a:cG)(xs:List V):Prop:=(∃o,H a=Z (.frz o (.lst xs))) \/
 ∃(o:Obj) (its:Array cE) (n:Nat),K.lookup a=Z o/\o.cls = .type "list"/\o.dict=Y/\o.data = .seq its n/\its.size<=cN/\dy xs its.toList
theorem RoL.sq{K:Fg1}{H:Hp}{a:cG}{xs:List V}(h:RoL K H a xs):kq K H a xs:=h.elim (λ⟨o,q⟩=>.inl (.inr ⟨o,q⟩)) .inr
mutual
inductive dP (K:Fg1)(H:Hp)(mu:List cG):D->V->Prop
 |non:dP K H mu .non .non
 |bl (b:Bool):dP K H mu (.bl b) (.bl b)
 |int (i:Int):dP K H mu (.int i) (.int i)
 |str (x:Str):dP K H mu (.str x) (.str x)
 |tup {ds:List D} {vs:List V} {a:cG} (h:iV K H a vs) (r:c5 K H mu ds vs):dP K H mu (.tup ds) (.ref a)
 |rol {ds:List D} {vs:List V} {a:cG} (h:RoL K H a vs) (r:c5 K H mu ds vs):dP K H mu (.rol ds) (.ref a)
 |ref {n:Nat} {a:cG} (h:mu[n]?=some a):dP K H mu (.ref n) (.ref a)
 |fn {x:Str} {a:cG} (h:wN1 K cK x=some (some (.ref a))):dP K H mu (.fn x) (.ref a)
inductive c5 (K:Fg1)(H:Hp)(mu:List cG):List D->List V->Prop
 |nil:c5 K H mu [] []
 |cons {d:D} {v:V} {ds:List D} {vs:List V} (r:dP K H mu d v) (t:c5 K H mu ds vs):c5 K H mu (d::ds) (v::vs)
end
structure Ext (mu mu':List cG)(H H':Hp):Prop where
 pre:mu <+: mu'
 old:∀a o,H a=some o->a∉mu->H' a=some o
 tup:∀a xs,Rd H a (.tup xs)->Rd H' a (.tup xs)
 frz:∀a o u,H a=some (.frz o u)->H' a=some (.frz o u)
 new:∀a∈mu',a∈mu\/H a=none
theorem Ext.refl(mu:List cG)(H:Hp):Ext mu mu H H:=⟨bh,λ_ _ h _=>h,λ_ _ h=>h,λ_ _ _ h=>h,λ_ h=>.inl h⟩
theorem Ext.trans{mu m1 m2:List cG}{H H1 H2:Hp}(a:Ext mu m1 H H1)(b:Ext m1 m2 H1 H2):Ext mu m2 H H2 where
 pre:=a.pre.trans b.pre
 old:=λc o h n=>b.old c o (a.old c o h n) λz=>by
  rcases a.new c z with q|q
  ·exact n q
  ·rw[h]at q;cases q
 tup:=λc xs h=>b.tup c xs (a.tup c xs h)
 frz:=λc o u h=>b.frz c o u (a.frz c o u h)
 new:=λc h=>by
  rcases b.new c h with q|q
  ·exact a.new c q
  ·by_cases z:c∈mu
   ·exact .inl z
   ·right;cases e:H c with
    |none=>rfl
    |some o=>rw[a.old c o e z]at q;cases q
theorem Ext.at{mu mu':List cG}{H H':Hp}(e:Ext mu mu' H H'){n:Nat}{a:cG}(h:mu[n]?=Z a):mu'[n]?=Z a:=by
 obtain⟨t,rfl⟩:=e.pre;have b:n<mu.length:=(gE1.mp h).1;rw[gL1 b];exact h
theorem Ext.back{mu mu':List cG}{H H':Hp}(e:Ext mu mu' H H'):Ext mu mu H H':=⟨bh,e.old,e.tup,e.frz,λ_ h=>.inl h⟩
structure oT (mu mu':List cG)(H H':Hp):Prop where
 pre:mu <+: mu'
 tup:∀a xs,Rd H a (.tup xs)->Rd H' a (.tup xs)
 frz:∀a o u,H a=some (.frz o u)->H' a=some (.frz o u)
theorem Ext.w{mu mu':List cG}{H H':Hp}(e:Ext mu mu' H H'):oT mu mu' H H':=⟨e.pre,e.tup,e.frz⟩
theorem oT.trans{mu m1 m2:List cG}{H H1 H2:Hp}(a:oT mu m1 H H1)(b:oT m1 m2 H1 H2):oT mu m2 H H2:=⟨a.pre.trans b.pre,λc xs h=>b.tup c xs (a.tup c xs h),λc o u h=>b.frz c o u (a.frz c o u h)⟩
theorem oT.at{mu mu':List cG}{H H':Hp}(e:oT mu mu' H H'){n:Nat}{a:cG}(h:mu[n]?=Z a):mu'[n]?=Z a:=by
 obtain⟨t,rfl⟩:=e.pre;have b:n<mu.length:=(gE1.mp h).1;rw[gL1 b];exact h
structure AS (mu mu':List cG)(H H':Hp):Prop where
 pre:mu <+: mu'
 tup:∀a xs,Rd H a (.tup xs)->Rd H' a (.tup xs)
 frl:∀a o xs,H a=some (.frz o (.lst xs))->H' a=some (.frz o (.lst xs))
theorem oT.v{mu mu':List cG}{H H':Hp}(e:oT mu mu' H H'):AS mu mu' H H':=⟨e.pre,e.tup,λa o xs h=>e.frz a o _ h⟩
theorem Ext.v{mu mu':List cG}{H H':Hp}(e:Ext mu mu' H H'):AS mu mu' H H':=e.w.v
theorem AS.at{mu mu':List cG}{H H':Hp}(e:AS mu mu' H H'){n:Nat}{a:cG}(h:mu[n]?=Z a):mu'[n]?=Z a:=by
 obtain⟨t,rfl⟩:=e.pre;have b:n<mu.length:=(gE1.mp h).1;rw[gL1 b];exact h
theorem iV.exv{K:Fg1}{mu mu':List cG}{H H':Hp}{a:cG}{vs:List V}(e:AS mu mu' H H')(h:iV K H a vs):iV K H' a vs:=by
 rcases h with h|h
 ·exact .inl (e.tup a vs h)
 ·exact .inr h
theorem RoL.exv{K:Fg1}{mu mu':List cG}{H H':Hp}{a:cG}{vs:List V}(e:AS mu mu' H H')(h:RoL K H a vs):RoL K H' a vs:=by
 rcases h with⟨o,h⟩|h
 ·exact .inl ⟨o,e.frl a o _ h⟩
 ·exact .inr h
theorem dP.exv{K:Fg1}{mu mu':List cG}{H H':Hp}(e:AS mu mu' H H'):∀ {d:D} {v:V},dP K H mu d v->dP K H' mu' d v:=fun h=>h.rec (motive_1:=fun d v _=>dP K H' mu' d v) (motive_2:=fun ds vs _=>c5 K H' mu' ds vs)
  .non .bl .int .str (λh _ ih=>.tup (iV.exv e h) ih) (λh _ ih=>.rol (RoL.exv e h) ih) (λh=>.ref (e.at h)) (λh=>.fn h) .nil (λ_ _ a b=>.cons a b)
theorem c5.ind{K:Fg1}{mu:List cG}{H:Hp}{P:(ds:List D)->(vs:List V)->c5 K H mu ds vs->Prop}(hn:P [] [] .nil)(hc:∀{d v ds vs} (r:dP K H mu d v) (t:c5 K H mu ds vs),P ds vs t->P (d::ds) (v::vs) (.cons r t)){ds:List D}{vs:List V}(h:c5 K H mu ds vs):P ds vs h:=
 h.rec (motive_1:=λ_ _ _=>True) (motive_2:=P) trivial (λ_=>trivial) (λ_=>trivial) (λ_=>trivial) (λ_ _ _=>trivial) (λ_ _ _=>trivial) (λ_=>trivial) (λ_=>trivial) hn (λr t _ ih=>hc r t ih)
theorem c5.exv{K:Fg1}{mu mu':List cG}{H H':Hp}(e:AS mu mu' H H'):∀{ds:List D} {vs:List V},c5 K H mu ds vs->c5 K H' mu' ds vs:=λh=>h.ind (P:=λds vs _=>c5 K H' mu' ds vs) .nil λr _ ih=>.cons (dP.exv e r) ih
section
variable{K:Fg1}{mu mu':List cG}{H H':Hp}{a:cG}{vs:List V}
theorem dP.exw(e:oT mu mu' H H'){d:D}{v:V}(h:dP K H mu d v):dP K H' mu' d v:=h.exv e.v
theorem c5.exw(e:oT mu mu' H H'){ds:List D}(h:c5 K H mu ds vs):c5 K H' mu' ds vs:=h.exv e.v
theorem dP.ext(e:Ext mu mu' H H'){d:D}{v:V}(h:dP K H mu d v):dP K H' mu' d v:=h.exv e.v
theorem c5.ext(e:Ext mu mu' H H'){ds:List D}(h:c5 K H mu ds vs):c5 K H' mu' ds vs:=h.exv e.v
end
section
variable{K:Fg1}{H:Hp}{mu:List cG}
theorem c5.length:∀{ds:List D} {vs:List V},c5 K H mu ds vs->ds.length=vs.length:=λh=>h.ind (P:=λds vs _=>ds.length=vs.length) O λ_ _ ih=>congrArg (· + 1) ih
theorem c5.get:∀{ds:List D} {vs:List V} {i:Nat} {d:D},c5 K H mu ds vs->ds[i]?=Z d -> ∃v,vs[i]?=Z v/\dP K H mu d v:=by
 intro ds vs i d h e
 induction h using c5.ind generalizing i with
 |hn=>cases e
 |hc r t ih=>cases i with
  |zero=>cases e;exact⟨_,O,r⟩
  |succ i=>exact ih (i:=i) e
theorem c5.getV:∀{ds:List D} {vs:List V} {i:Nat} {v:V},c5 K H mu ds vs->vs[i]?=Z v -> ∃d,ds[i]?=Z d/\dP K H mu d v:=by
 intro ds vs i d h e
 induction h using c5.ind generalizing i with
 |hn=>cases e
 |hc r t ih=>cases i with
  |zero=>cases e;exact⟨_,O,r⟩
  |succ i=>exact ih (i:=i) e
theorem c5.append:∀{ds es:List D} {vs ws:List V},c5 K H mu ds vs->c5 K H mu es ws->c5 K H mu (ds++es) (vs++ws):=λh s=>h.ind (P:=λds vs _=>c5 K H mu (ds++_) (vs++_)) s λr _ ih=>.cons r ih
theorem c5.take:∀{ds:List D} {vs:List V} (n:Nat),c5 K H mu ds vs->c5 K H mu (ds.take n) (vs.take n):=by
 intro ds vs n h
 induction h using c5.ind generalizing n with
 |hn=>rw[av,av];exact .nil
 |hc r t ih=>cases n with
  |zero=>exact .nil
  |succ n=>exact .cons r (ih n)
theorem c5.drop:∀{ds:List D} {vs:List V} (n:Nat),c5 K H mu ds vs->c5 K H mu (ds.drop n) (vs.drop n):=by
 intro ds vs n h
 induction h using c5.ind generalizing n with
 |hn=>rw[aw,aw];exact .nil
 |hc r t ih=>cases n with
  |zero=>exact .cons r t
  |succ n=>exact ih n
theorem c5.set{d:D}{v:V}(r:dP K H mu d v):∀{ds:List D} {vs:List V} (i:Nat),c5 K H mu ds vs->c5 K H mu (ds.set i d) (vs.set i v):=by
 intro ds vs i h
 induction h using c5.ind generalizing i with
 |hn=>exact .nil
 |hc q t ih=>cases i with
  |zero=>exact .cons r t
  |succ i=>exact .cons q (ih i)
theorem c5.eraseIdx:∀{ds:List D} {vs:List V} (i:Nat),c5 K H mu ds vs->c5 K H mu (ds.eraseIdx i) (vs.eraseIdx i):=by
 intro ds vs i h
 induction h using c5.ind generalizing i with
 |hn=>exact .nil
 |hc q t ih=>cases i with
  |zero=>exact t
  |succ i=>exact .cons q (ih i)
theorem c5.reverse:∀{ds:List D} {vs:List V},c5 K H mu ds vs->c5 K H mu ds.reverse vs.reverse:=by
 intro ds vs h
 induction h using c5.ind with
 |hn=>exact .nil
 |hc r t ih=>rw[aU,aU];exact c5.append ih (.cons r .nil)
end
def KR{κ:Type}(K:Fg1)(H:Hp)(mu:List cG):List (κ×D)->List (κ×V)->Prop:=Paired λp q=>p.1=q.1/\dP K H mu p.2 q.2
mutual
noncomputable def tkD:TK->D
 | .non=>.non
 | .int i=>.int i
 | .tup xs=>.tup (iZ xs)
noncomputable def iZ:List TK->List D
 |[]=>[]
 |x::xs=>tkD x::iZ xs
end
def gy(a:cG)(xs:List (TK×cG×cE))(h:cP):Prop:=(a == sysModules)=J/\(xs.map (·.1)).Nodup /\ ∃o es ep,h.get? a=Z o/\o.ExactDict/\o.data = .dict es ep/\es.toList=xs.map λx=>(⟨x.1.hash,.ref x.2.1,x.2.2⟩:DictEntry)
def AT(a:cG)(xs:List (TK×cG×cE))(o:Obj):Prop:=(a == sysModules)=J/\(xs.map (·.1)).Nodup/\o.ExactDict /\ ∃es ep,o.data = .dict es ep/\es.toList=xs.map λx=>(⟨x.1.hash,.ref x.2.1,x.2.2⟩:DictEntry)
def KT(K:Fg1)(H:Hp)(mu:List cG):List (TK×D)->List (TK×cG×cE)->Prop:=Paired λp q=>p.1=q.1/\p.1.dep<=8/\dP K H mu (tkD p.1) (.ref q.2.1) /\ ∃v,de v q.2.2/\dP K H mu p.2 v
def l9(K:Fg1)(H:Hp)(mu:List cG)(a:cG):Ob->Prop
 | .lst ds=>∃vs,H a=Z (.lst vs)/\c5 K H mu ds vs
 | .dct kvs=>∃ws,H a=Z (.dK ws)/\KR K H mu kvs ws
 | .dcT kvs=>∃xs,H a=Z (.ext (gy a xs))/\KT K H mu kvs xs/\xs.length<=cN
 | .iset xs=>H a=Z (.set (λk=>xs.contains k) xs.length)/\xs.Nodup
 | .dcF kvs=>∃xs,(∃o u,H a=Z (.frz o u)/\AT a xs o)/\KT K H mu kvs xs/\xs.length<=cN
 | .tst ks=>∃xs,H a=Z (.ext (ET a xs))/\KT K H mu (ks.map λk=>(k,D.non)) xs
structure Sim (K:Fg1)(H:Hp)(mu:List cG)(S:cV):Prop where
 len:mu.length=S.length
 nd:mu.Nodup
 ob:∀(n:Nat) (o:Ob) (a:cG),S[n]?=some o->mu[n]?=some a->l9 K H mu a o
structure ei (K:Fg1)(H:Hp)(mu:List cG)(r:Ev)(σ:L2.St):Prop where
 len:r.length=σ.length
 val:∀(i:Nat) (d:D),r[i]?=some (some d) -> ∃v,σ[i]?=some (some v)/\dP K H mu d v
theorem ei.ext{K:Fg1}{mu mu':List cG}{H H':Hp}{r:Ev}{σ:L2.St}(e:Ext mu mu' H H')(h:ei K H mu r σ):ei K H' mu' r σ:=⟨h.len,λi d q=>by
 obtain⟨v,a,b⟩:=h.val i d q;exact⟨v,a,b.ext e⟩⟩
theorem KR.ext{κ:Type}{K:Fg1}{mu mu':List cG}{H H':Hp}{ks:List (κ×D)}{ws:List (κ×V)}(e:Ext mu mu' H H')(h:KR K H mu ks ws):KR K H' mu' ks ws:=
 Paired.mapP h λ_ _ z=>⟨z.1,z.2.ext e⟩
theorem KT.ext{K:Fg1}{mu mu':List cG}{H H':Hp}{ks:List (TK×D)}{ws:List (TK×cG×cE)}(e:Ext mu mu' H H')(h:KT K H mu ks ws):KT K H' mu' ks ws:=
 Paired.mapP h λ_ _ ⟨z,d,k,v,a,r⟩=>⟨z,d,k.ext e,v,a,r.ext e⟩
theorem Sim.nil{K:Fg1}{H:Hp}:Sim K H [] []:=⟨O,bi,λn o a h=>by simp at h⟩
theorem Sim.here{K:Fg1}{H:Hp}{mu:List cG}{S:cV}(s:Sim K H mu S){a:cG}(h:a∈mu):∃o,H a=Z o:=by
 obtain⟨n,b⟩:=bj h;have c:n<S.length:=by rw[<- s.len];exact(gE1.mp b).1
 have q:=s.ob n _ a (gG1 c) b;cases e:S[n]with
 |lst ds=>rw[e]at q;obtain⟨vs,z,_⟩:=q;exact⟨_,z⟩
 |dct ks=>rw[e]at q;obtain⟨vs,z,_⟩:=q;exact⟨_,z⟩
 |dcT ks=>rw[e]at q;obtain⟨vs,z,_⟩:=q;exact⟨_,z⟩
 |iset xs=>rw[e]at q;exact⟨_,q.1⟩
 |dcF ks=>rw[e]at q;obtain⟨vs,⟨_,_,z,_⟩,_⟩:=q;exact⟨_,z⟩
 |tst ks=>rw[e]at q;obtain⟨vs,z,_⟩:=q;exact⟨_,z⟩
def oP(K:Fg1)(mu:List cG)(H:Hp)(d:D)(S':cV)(Q:VK):Prop:=∀v H' mu',Ext mu mu' H H'->dP K H' mu' d v->Sim K H' mu' S'->Q v H'
inductive tM (K:Fg1)(m:FE)(σ:L2.St)(H:Hp)(Q:VK):Prop
 |mk (r:Ev) (mu:List cG) (S:cV) (d:D) (S':cV) (he:ei K H mu r σ) (hs:Sim K H mu S) (hm:m r S=some (d,S')) (hc:oP K mu H d S' Q)
inductive yx (K:Fg1)(m:FT)(σ:L2.St)(H:Hp)(Q:Bool->Hp->Prop):Prop
 |mk (r:Ev) (mu:List cG) (S:cV) (b:Bool) (S':cV) (he:ei K H mu r σ) (hs:Sim K H mu S) (hm:m r S=some (b,S')) (hc:∀H' mu',Ext mu mu' H H'->Sim K H' mu' S'->Q b H')
inductive Gn (K:Fg1)(m:FA)(σ:L2.St)(H:Hp)(Q:List V->Hp->Prop):Prop
 |mk (r:Ev) (mu:List cG) (S:cV) (ds:List D) (S':cV) (he:ei K H mu r σ) (hs:Sim K H mu S) (hm:m r S=some (ds,S')) (hc:∀vs H' mu',Ext mu mu' H H'->c5 K H' mu' ds vs->Sim K H' mu' S'->Q vs H')
def Fu(K:Fg1)(mu:List cG)(H:Hp)(r':Ev)(S':cV)(E:im)(f:Fl):Prop:=match f with
 | .nx=>∀ σ' H' mu',Ext mu mu' H H'->ei K H' mu' r' σ'->Sim K H' mu' S'->E.nx σ' H'
 | .bk=>∀ σ' H' mu',Ext mu mu' H H'->ei K H' mu' r' σ'->Sim K H' mu' S'->E.bk σ' H'
 | .ct=>∀ σ' H' mu',Ext mu mu' H H'->ei K H' mu' r' σ'->Sim K H' mu' S'->E.ct σ' H'
 | .rt d=>oP K mu H d S' E.rt
inductive sK (K:Fg1)(m:FS)(E:im)(σ:L2.St)(H:Hp):Prop
 |mk (r:Ev) (mu:List cG) (S:cV) (f:Fl) (r':Ev) (S':cV) (he:ei K H mu r σ) (hs:Sim K H mu S) (hm:m r S=some (f,r',S')) (hc:Fu K mu H r' S' E f)
inductive rN (K:Fg1)(f:FN)(vs:List V)(H:Hp)(Q:VK):Prop
 |mk (mu:List cG) (S:cV) (ds:List D) (d:D) (S':cV) (hr:c5 K H mu ds vs) (hs:Sim K H mu S) (hm:f ds S=some (d,S')) (hc:oP K mu H d S' Q)
abbrev ME(X:Cx)(e:Expr)(m:FE):Prop:=PE X e (tM X.K m)
abbrev MT(X:Cx)(e:Expr)(m:FT):Prop:=PT X e (yx X.K m)
abbrev MW(X:Cx)(e:Expr)(m:FT):Prop:=PW X e (yx X.K m)
abbrev MA(X:Cx)(es:List Expr)(m:FA):Prop:=PA X es (Gn X.K m)
abbrev MS(X:Cx)(st:cR)(m:FS):Prop:=PS X st (sK X.K m)
abbrev vb(X:Cx)(st:List cR)(m:FS):Prop:=qT X st (sK X.K m)
section
variable{X:Cx}{e:Expr}{es:List Expr}{st:cR}{sts:List cR}
theorem dX{t t':TE}(h:PE X e t)(i:∀ σ H Q,t' σ H Q->t σ H Q):PE X e t':=λag s σ H Q I q=>h ag s σ H Q I (i σ H Q q)
theorem Bl{t t':TT}(h:PT X e t)(i:∀ σ H Q,t' σ H Q->t σ H Q):PT X e t':=λag s σ H Q I q=>h ag s σ H Q I (i σ H Q q)
theorem wf{t t':TT}(h:PW X e t)(i:∀ σ H Q,t' σ H Q->t σ H Q):PW X e t':=λa ag s σ H Q I q=>h a ag s σ H Q I (i σ H Q q)
theorem wB{t t':TA}(h:PA X es t)(i:∀ σ H Q,t' σ H Q->t σ H Q):PA X es t':=λpos ag s σ H Q I q=>h pos ag s σ H Q I (i σ H Q q)
theorem gk{t t':TS}(h:PS X st t)(i:∀E σ H,t' E σ H->t E σ H):PS X st t':=λag s σ H E I q=>h ag s σ H E I (i E σ H q)
theorem nU{t t':TS}(h:qT X sts t)(i:∀E σ H,t' E σ H->t E σ H):qT X sts t':=λag s σ H E I q=>h ag s σ H E I (i E σ H q)
end
noncomputable def mV (i:Nat):FE:=λr S=>match r[i]? with
 |some (some d)=>some (d,S)
 |_=>none
noncomputable def mC (d:D):FE:=λ_ S=>some (d,S)
section
variable{X:Cx}{pos:Pos}
theorem Cg (i:Nat){x:Str}(hN:X.N[i]?=Z x)(hv:Vis X.env.scope x)(hd:(x == ("__debug__":Str))=J:=by decide)(hcd:(x == ("__classdict__":Str))=J:=by decide):ME X (.Name x pos) (mV i):=
 dX (Bz hN hv hd hcd) <| by
  rintro σ H Q ⟨r,mu,S,d,j,b,f,a,hc⟩;unfold mV at a;split at a
  ·rename_i h e;cases a;obtain⟨v,c,g⟩:=b.val i _ e;exact⟨v,c,hc v H mu (.refl _ _) g f⟩
  ·cases a
theorem wU{e:Expr}{v:V}(d:D)(h:PE X e (tC v))(hr:∀H mu,dP X.K H mu d v):ME X e (mC d):=
 dX h <| by
  rintro σ H Q ⟨r,mu,S,f,g,c,b,a,hc⟩;cases a;exact hc v H mu (.refl _ _) (hr H mu) b
theorem Cn{i:Int}{j}:ME X (.Constant (.int i) j pos) (mC (.int i)):=wU _ BE λ_ _=>.int i
theorem Ei{b:Bool}{j}:ME X (.Constant (.bool b) j pos) (mC (.bl b)):=wU _ DY λ_ _=>.bl b
theorem Ck{j}:ME X (.Constant .none j pos) (mC .non):=wU _ BC λ_ _=>.non
theorem Ci{x:Str}{j}:ME X (.Constant (.str x) j pos) (mC (.str x)):=wU _ BB λ_ _=>.str x
end
noncomputable def cU:FA:=λ_ S=>Z ([],S)
noncomputable def cT (m:FE)(n:FA):FA:=λr S=>(m r S).bind λp=>(n r p.2).bind λq=>some (p.1::q.1,q.2)
section
variable{X:Cx}{pos:Pos}{e:Expr}{es:List Expr}{m:FE}{n:FA}
theorem Cp:MA X [] cU:=wB lv <| by
 rintro σ H Q ⟨r,mu,S,ds,d,c,b,a,hc⟩;cases a;exact hc [] H mu (.refl _ _) .nil b
theorem zC(h:ME X e m)(ht:MA X es n)(hs:cM (e::es) X.env=(J,eval e X.env)::cM es X.env:=by rfl):MA X (e::es) (cT m n):=
 wB (jb h ht hs) <| by
  rintro σ H Q ⟨r,mu,S,ds,t,f,hs,a,hc⟩;unfold cT at a;obtain⟨⟨d,i⟩,k,a⟩:=oB1.mp a;obtain⟨⟨c,s⟩,o,a⟩:=oB1.mp a;cases a;refine⟨r,mu,S,d,i,f,hs,k,λv H1 mu1 j p l=>?_⟩;refine⟨r,mu1,i,c,_,f.ext j,l,o,λvs H2 b g r2 q=>?_⟩;exact hc _ H2 b (j.trans g) (.cons (p.ext g) r2) q
end
noncomputable def m2 (f:FN)(a b:FE):FE:=λr S=>(a r S).bind λp=>(b r p.2).bind λq=>f [p.1,q.1] q.2
noncomputable def m1 (f:FN)(a:FE):FE:=λr S=>(a r S).bind λp=>f [p.1] p.2
noncomputable def mN (f:FN)(a:FA):FE:=λr S=>(a r S).bind λp=>f p.1 p.2
abbrev r2(K:Fg1)(f:FN):R2:=λx y H Q=>rN K f [x,y] H Q
section
variable{X:Cx}{K:Fg1}{f:FN}{a b:FE}{σ:L2.St}{H:Hp}{Q:VK}
theorem tm(h:tM K (m2 f a b) σ H Q):Dz (r2 K f) (tM K a) (tM K b) σ H Q:=by
 obtain⟨r,mu,S,d,w,j,x,c,hc⟩:=h;obtain⟨⟨n,i⟩,p,c⟩:=oB1.mp c;obtain⟨⟨l,o⟩,s,c⟩:=oB1.mp c;refine⟨r,mu,S,n,i,j,x,p,λv H1 mu1 m C A=>?_⟩;refine⟨r,mu1,i,l,o,j.ext m,A,s,λu H2 e k r2 y=>?_⟩;exact⟨e,o,[n,l],d,w,.cons (C.ext k) (.cons r2 .nil),y,c,λv B g z q t=>hc v B g ((m.trans k).trans z) q t⟩
theorem El(h:tM K (m1 f a) σ H Q):Gm (λx H Q=>rN K f [x] H Q) (tM K a) σ H Q:=by
 obtain⟨r,mu,S,d,t,i,p,b,hc⟩:=h;obtain⟨⟨g,e⟩,k,b⟩:=oB1.mp b;refine⟨r,mu,S,g,e,i,p,k,λv H1 mu1 o q l=>?_⟩;exact⟨mu1,e,[g],d,t,.cons q .nil,l,b,λv m c j n s=>hc v m c (o.trans j) n s⟩
theorem wY{a:FA}(h:tM K (mN f a) σ H Q):Gn K a σ H λvs H1=>rN K f vs H1 Q:=by
 obtain⟨r,mu,S,d,t,i,p,b,hc⟩:=h;obtain⟨⟨g,e⟩,k,b⟩:=oB1.mp b;refine⟨r,mu,S,g,e,i,p,k,λv H1 mu1 o q l=>?_⟩;exact⟨mu1,e,g,d,t,q,l,b,λv m c j n s=>hc v m c (o.trans j) n s⟩
theorem Ef{op:Operator}{x y:Expr}{pos:Pos}(ho:e9 X (binaryOp op) (r2 X.K f))(hx:ME X x a)(hy:ME X y b):ME X (.BinOp x op y pos) (m2 f a b):=dX (DV ho hx hy) λ_ _ _=>tm
theorem Ee{op:UnaryOp}{x:Expr}{pos:Pos}(ho:Dk X (unaryOp op) (λx H Q=>rN X.K f [x] H Q))(hx:ME X x a):ME X (.UnaryOp op x pos) (m1 f a):=dX (DU ho hx) λ_ _ _=>El
theorem Co{op:CmpOp}{x y:Expr}{pos:Pos}(ho:e9 X (compareOp op) (r2 X.K f))(hx:ME X x a)(hy:ME X y b)(hm:behindInMarks op y=J):ME X (.Compare x [op] [y] pos) (m2 f a b):=dX (za ho hx hy hm) λ_ _ _=>tm
theorem Eg{x y:Expr}{pos:Pos}(ho:AR X (r2 X.K f))(hx:ME X x a)(hy:ME X y b)(hs:kS y):ME X (.Subscript x y pos) (m2 f a b):=dX (DW ho hx hy hs) λ_ _ _=>tm
theorem wT {x:Str}{p pos:Pos}{e:Expr}{es:List Expr}{id:String}{a:FA}(hc:dV X (.builtin id) (rN X.K f))(hg:Gl X x)(hm:X.mg x=none)(hv:bootBuiltins x=some (.builtin id))(ha:MA X (e::es) a)(hn:x≠"__name__":=by decide)(hdb:(x == ("__debug__":Str))=false:=by decide)
  (he:cM (e::es) X.env=(J,eval e X.env)::cM es X.env:=by rfl) (hpl:(backTo pos (cM es X.env)).any (·.1)=J:=by rfl):ME X (.Call (.Name x p) (e::es) [] pos) (mN f a):=
 dX (po hc hg hm hv ha hn hdb he hpl) λ_ _ _=>wY
theorem uy {x:Str}{p pos:Pos}{e:Expr}{es:List Expr}{T:String}{a:FA}(hc:dV X (.type T) (rN X.K f))(hg:Gl X x)(hm:X.mg x=none)(hv:bootBuiltins x=some (.type T))(ha:MA X (e::es) a)(hn:x≠"__name__":=by decide)(hdb:(x == ("__debug__":Str))=false:=by decide)
  (he:cM (e::es) X.env=(J,eval e X.env)::cM es X.env:=by rfl) (hpl:(backTo pos (cM es X.env)).any (·.1)=J:=by rfl):ME X (.Call (.Name x p) (e::es) [] pos) (mN f a):=
 dX (ix hc hg hm hv ha hn hdb he hpl) λ_ _ _=>wY
end
noncomputable def mB (m:FE):FT:=λr S=>(m r S).bind λp=>match p.1 with
 | .bl b=>some (b,p.2)
 |_=>none
theorem Ek{K:Fg1}{m:FE}{σ:L2.St}{H:Hp}{Q:Bool->Hp->Prop}(h:yx K (mB m) σ H Q):tB (tM K m) σ H Q:=by
 obtain⟨r,mu,S,b,n,c,g,a,hc⟩:=h;obtain⟨⟨j,l⟩,d,a⟩:=oB1.mp a;cases j with
 |bl k=>
  cases a;refine⟨r,mu,S,_,_,c,g,d,λv H1 mu1 f i e=>?_⟩;cases i;exact⟨_,O,hc H1 mu1 f e⟩
 |_=>cases a
noncomputable def ol(a b:FT):FT:=λr S=>(a r S).bind λp=>if p.1=M then b r p.2 else Z (J,p.2)
noncomputable def Ej(a b:FT):FT:=λr S=>(a r S).bind λp=>if p.1=M then Z (M,p.2)else b r p.2
noncomputable def Hf(a:FT):FT:=λr S=>(a r S).bind λp=>Z (!p.1,p.2)
noncomputable def Gv(a b:FE):FE:=λr S=>(a r S).bind λp=>match p.1 with
 | .bl c=>if c=M then b r p.2 else Z (.bl J,p.2)
 |_=>Y
noncomputable def He(a b:FE):FE:=λr S=>(a r S).bind λp=>match p.1 with
 | .bl c=>if c=M then Z (.bl M,p.2)else b r p.2
 |_=>Y
noncomputable def Gu(a:FE):FE:=λr S=>(a r S).bind λp=>match p.1 with
 | .bl c=>Z (.bl (!c),p.2)
 |_=>Y
noncomputable def qC(c:FT)(a b:FE):FE:=λr S=>(c r S).bind λp=>if p.1=M then a r p.2 else b r p.2
section
variable{X:Cx}{x y c:Expr}{rest:List Expr}{pos:Pos}{a b:FT}{f g:FE}
theorem B2{op:CmpOp}{f:FN}{a b:FE}(ho:e9 X (compareOp op) (r2 X.K f))(hx:ME X x a)(hy:ME X y b)(hm:behindInMarks op y=J):MT X (.Compare x [op] [y] pos) (mB (m2 f a b)):=
 Bl (yP ho hx hy hm) fun σ H Q h=>by
  obtain⟨r,mu,S,d,k,c,i,hm,hc⟩:=Ek h;exact tm ⟨r,mu,S,d,k,c,i,hm,λv H' mu' g j e=>hc v H' mu' g j e⟩
theorem zn(ha:MT X x a):MW X (.BoolOp .And [x] pos) a:=yM ha
theorem B0(ha:MT X x a):MW X (.BoolOp .Or [x] pos) a:=Bi ha
theorem B1(ha:MT X x a)(hb:MW X (.BoolOp .And (y::rest) pos) b):MW X (.BoolOp .And (x::y::rest) pos) (ol a b):=
 wf (Bj ha hb) <| by
  rintro σ H Q ⟨r,mu,S,k,m,f,l,c,hc⟩;obtain⟨⟨b1,g⟩,j,c⟩:=oB1.mp c;refine⟨r,mu,S,b1,g,f,l,j,λH1 mu1 d h=>?_⟩;cases b1 with
  |true=>exact⟨r,mu1,g,k,m,f.ext d,h,c,λH2 e i n=>hc H2 e (d.trans i) n⟩
  |false=>cases c;exact hc H1 mu1 d h
theorem Ec(ha:MT X x a)(hb:MW X (.BoolOp .Or (y::rest) pos) b):MW X (.BoolOp .Or (x::y::rest) pos) (Ej a b):=
 wf (DR ha hb) <| by
  rintro σ H Q ⟨r,mu,S,k,m,f,l,c,hc⟩;obtain⟨⟨b1,g⟩,j,c⟩:=oB1.mp c;refine⟨r,mu,S,b1,g,f,l,j,λH1 mu1 d h=>?_⟩;cases b1 with
  |false=>exact⟨r,mu1,g,k,m,f.ext d,h,c,λH2 e i n=>hc H2 e (d.trans i) n⟩
  |true=>cases c;exact hc H1 mu1 d h
theorem FU(h:MW X x a):MT X x a:=PW.pt h
theorem Eh(hc:MT X c a)(hx:ME X x f)(hy:ME X y g):ME X (.IfExp c x y pos) (qC a f g):=
 dX (wy hc hx hy) <| by
  rintro σ H Q ⟨r,mu,S,k,o,h,q,d,hc⟩;obtain⟨⟨b1,j⟩,p,d⟩:=oB1.mp d;refine⟨r,mu,S,b1,j,h,q,p,λH1 mu1 e n=>?_⟩;cases b1 with
  |true=>exact⟨r,mu1,j,k,o,h.ext e,n,d,λl H2 b i r2 m=>hc l H2 b (e.trans i) r2 m⟩
  |false=>exact⟨r,mu1,j,k,o,h.ext e,n,d,λl H2 b i r2 m=>hc l H2 b (e.trans i) r2 m⟩
end
section
variable{X:Cx}{x y z:Expr}{pos:Pos}{f g:FN}{a b c:FE}{op op':CmpOp}
end
mutual
noncomputable def D.und(n:Nat):D->Bool
 | .tup xs=>D.unds n xs
 | .rol xs=>D.unds n xs
 | .ref k=>decide (k<n)
 | .non=>M
 | .bl _=>M
 | .int _=>M
 | .str _=>M
 | .fn _=>M
noncomputable def D.unds(n:Nat):List D->Bool
 |[]=>M
 |d::ds=>D.und n d&&D.unds n ds
end
mutual
noncomputable def D.same:D->D->Bool
 | .non,.non=>M
 | .bl a,.bl b=>a == b
 | .int a,.int b=>decide (a=b)
 | .str a,.str b=>decide (a=b)
 | .tup xs,.tup ys=>D.sames xs ys
 | .rol xs,.rol ys=>D.sames xs ys
 | .ref a,.ref b=>decide (a=b)
 | .fn a,.fn b=>decide (a=b)
 |_,_=>J
noncomputable def D.sames:List D->List D->Bool
 |[],[]=>M
 |x::xs,y::ys=>D.same x y&&D.sames xs ys
 |_,_=>J
end
mutual
theorem D.same_eq:∀{a b:D},D.same a b=M->a=b
 | .non,.non,_=>rfl
 | .non,.bl _,h=>by simp[D.same]at h
 | .non,.int _,h=>by simp[D.same]at h
 | .non,.str _,h=>by simp[D.same]at h
 | .non,.tup _,h=>by simp[D.same]at h
 | .non,.rol _,h=>by simp[D.same]at h
 | .non,.ref _,h=>by simp[D.same]at h
 | .non,.fn _,h=>by simp[D.same]at h
 | .bl _,.non,h=>by simp[D.same]at h
 | .bl x,.bl y,h=>by simp[D.same]at h;rw[h]
 | .bl _,.int _,h=>by simp[D.same]at h
 | .bl _,.str _,h=>by simp[D.same]at h
 | .bl _,.tup _,h=>by simp[D.same]at h
 | .bl _,.rol _,h=>by simp[D.same]at h
 | .bl _,.ref _,h=>by simp[D.same]at h
 | .bl _,.fn _,h=>by simp[D.same]at h
 | .int _,.non,h=>by simp[D.same]at h
 | .int _,.bl _,h=>by simp[D.same]at h
 | .int x,.int y,h=>by simp[D.same]at h;rw[h]
 | .int _,.str _,h=>by simp[D.same]at h
 | .int _,.tup _,h=>by simp[D.same]at h
 | .int _,.rol _,h=>by simp[D.same]at h
 | .int _,.ref _,h=>by simp[D.same]at h
 | .int _,.fn _,h=>by simp[D.same]at h
 | .str _,.non,h=>by simp[D.same]at h
 | .str _,.bl _,h=>by simp[D.same]at h
 | .str _,.int _,h=>by simp[D.same]at h
 | .str x,.str y,h=>by simp[D.same]at h;rw[h]
 | .str _,.tup _,h=>by simp[D.same]at h
 | .str _,.rol _,h=>by simp[D.same]at h
 | .str _,.ref _,h=>by simp[D.same]at h
 | .str _,.fn _,h=>by simp[D.same]at h
 | .tup _,.non,h=>by simp[D.same]at h
 | .tup _,.bl _,h=>by simp[D.same]at h
 | .tup _,.int _,h=>by simp[D.same]at h
 | .tup _,.str _,h=>by simp[D.same]at h
 | .tup x,.tup y,h=>by rw[D.same]at h;rw[D.sames_eq h]
 | .tup _,.rol _,h=>by simp[D.same]at h
 | .tup _,.ref _,h=>by simp[D.same]at h
 | .tup _,.fn _,h=>by simp[D.same]at h
 | .rol _,.non,h=>by simp[D.same]at h
 | .rol _,.bl _,h=>by simp[D.same]at h
 | .rol _,.int _,h=>by simp[D.same]at h
 | .rol _,.str _,h=>by simp[D.same]at h
 | .rol _,.tup _,h=>by simp[D.same]at h
 | .rol x,.rol y,h=>by rw[D.same]at h;rw[D.sames_eq h]
 | .rol _,.ref _,h=>by simp[D.same]at h
 | .rol _,.fn _,h=>by simp[D.same]at h
 | .ref _,.non,h=>by simp[D.same]at h
 | .ref _,.bl _,h=>by simp[D.same]at h
 | .ref _,.int _,h=>by simp[D.same]at h
 | .ref _,.str _,h=>by simp[D.same]at h
 | .ref _,.tup _,h=>by simp[D.same]at h
 | .ref _,.rol _,h=>by simp[D.same]at h
 | .ref x,.ref y,h=>by simp[D.same]at h;rw[h]
 | .ref _,.fn _,h=>by simp[D.same]at h
 | .fn _,.non,h=>by simp[D.same]at h
 | .fn _,.bl _,h=>by simp[D.same]at h
 | .fn _,.int _,h=>by simp[D.same]at h
 | .fn _,.str _,h=>by simp[D.same]at h
 | .fn _,.tup _,h=>by simp[D.same]at h
 | .fn _,.rol _,h=>by simp[D.same]at h
 | .fn _,.ref _,h=>by simp[D.same]at h
 | .fn x,.fn y,h=>by simp[D.same]at h;rw[h]
theorem D.sames_eq:∀{a b:List D},D.sames a b=M->a=b
 |[],[],_=>rfl
 |x::xs,y::ys,h=>by
  rw[D.sames,bA1]at h;rw[D.same_eq h.1,D.sames_eq h.2]
 |[],_::_,h=>by simp[D.sames]at h
 |_::_,[],h=>by simp[D.sames]at h
end
mutual
theorem D.same_refl:∀a:D,D.same a a=M
 | .non=>rfl
 | .bl a=>by simp[D.same]
 | .int a=>by simp[D.same]
 | .str a=>by simp[D.same]
 | .tup xs=>by rw[D.same];exact D.sames_refl xs
 | .rol xs=>by rw[D.same];exact D.sames_refl xs
 | .ref a=>by simp[D.same]
 | .fn a=>by simp[D.same]
theorem D.sames_refl:∀a:List D,D.sames a a=M
 |[]=>rfl
 |x::xs=>by rw[D.sames,D.same_refl x,D.sames_refl xs];rfl
end
section
variable{K:Fg1}{H:Hp}{mu mu':List cG}
theorem dP.cut{n:Nat}(h:∀ k,k<n->mu[k]? = mu'[k]?):∀ {d:D} {v:V},dP K H mu d v->d.und n=true->dP K H mu' d v:=fun c=>c.rec (motive_1:=fun d v _=>d.und n=true->dP K H mu' d v) (motive_2:=fun ds vs _=>D.unds n ds=true->c5 K H mu' ds vs)
  (λ_=>.non) (λb _=>.bl b) (λi _=>.int i) (λx _=>.str x) (λq _ ih e=>.tup q (ih (by rw[D.und]at e;exact e))) (λq _ ih e=>.rol q (ih (by rw[D.und]at e;exact e)))
  (λq e=>.ref (by rw[D.und]at e;rw[<- h _ (of_decide_eq_true e)];exact q)) (λq _=>.fn q) (λ_=>.nil) (λ_ _ a b e=>by rw[D.unds,bA1]at e;exact .cons (a e.1) (b e.2))
theorem c5.cut{n:Nat}(h:∀k,k<n->mu[k]?=mu'[k]?):∀{ds:List D} {vs:List V},c5 K H mu ds vs->D.unds n ds=M->c5 K H mu' ds vs:=λa=>a.ind (P:=λds vs _=>D.unds n ds=M->c5 K H mu' ds vs) (λ_=>.nil) λr _ b e=>by rw[D.unds,bA1]at e;exact .cons (dP.cut h r e.1) (b e.2)
end
noncomputable def Ob.und(n:Nat):Ob->Bool
 | .lst xs=>D.unds n xs
 | .dct kvs=>D.unds n (kvs.map (·.2))
 | .dcT kvs=>D.unds n (kvs.map (·.2))
 | .iset _=>M
 | .dcF kvs=>D.unds n (kvs.map (·.2))
 | .tst _=>M
theorem KR.cut{κ:Type}{K:Fg1}{H:Hp}{mu mu':List cG}{n:Nat}(h:∀k,k<n->mu[k]?=mu'[k]?):∀{ks:List (κ×D)} {ws:List (κ×V)},KR K H mu ks ws->D.unds n (ks.map (·.2))=M->KR K H mu' ks ws:=by
 intro ks ws a e
 induction a with
 |nil=>exact .nil
 |cons r t ih=>
  rw[mP1,D.unds,bA1]at e;exact .cons ⟨r.1,r.2.cut h e.1⟩ (ih e.2)
mutual
theorem vL(n:Nat):∀k:TK,(tkD k).und n=M
 | .non=>rfl
 | .int _=>rfl
 | .tup xs=>by rw[tkD,D.und];exact sG n xs
theorem sG(n:Nat):∀ks:List TK,D.unds n (iZ ks)=M
 |[]=>rfl
 |x::xs=>by rw[iZ,D.unds,vL n x,sG n xs];rfl
end
theorem KT.cut{K:Fg1}{H:Hp}{mu mu':List cG}{n:Nat}(h:∀k,k<n->mu[k]?=mu'[k]?):∀{ks:List (TK×D)} {ws:List (TK×cG×cE)},KT K H mu ks ws->D.unds n (ks.map (·.2))=M->KT K H mu' ks ws:=by
 intro ks ws a e
 induction a with
 |nil=>exact .nil
 |cons r t ih=>
  rw[mP1,D.unds,bA1]at e;obtain⟨z,d,k,v,b,r⟩:=r;exact .cons ⟨z,d,k.cut h (vL n _),v,b,r.cut h e.1⟩ (ih e.2)
theorem s9(n:Nat):∀ks:List TK,D.unds n ((ks.map λk=>(k,D.non)).map (·.2))=M
 |[]=>rfl
 |_::ks=>by rw[mP1,mP1,D.unds,s9 n ks];rfl
theorem l9.cut{K:Fg1}{H:Hp}{mu mu':List cG}{n:Nat}{a:cG}(h:∀k,k<n->mu[k]?=mu'[k]?):∀{o:Ob},l9 K H mu a o->o.und n=M->l9 K H mu' a o
 | .lst _,⟨vs,e,r⟩,b=>⟨vs,e,r.cut h b⟩
 | .dct _,⟨ws,e,r⟩,b=>⟨ws,e,KR.cut h r b⟩
 | .dcT _,⟨ws,e,r,l⟩,b=>⟨ws,e,KT.cut h r b,l⟩
 | .iset _,q,_=>q
 | .dcF _,⟨ws,e,r,l⟩,b=>⟨ws,e,KT.cut h r b,l⟩
 | .tst ks,⟨ws,e,r⟩,_=>⟨ws,e,KT.cut h r (s9 n ks)⟩
noncomputable def gc(n:Nat)(p:D×cV):D×cV:=if p.1.und n&&(p.2.take n).all (Ob.und n)then(p.1,p.2.take n)else p
mutual
noncomputable def D.sh(n:Nat):D->D
 | .tup xs=>.tup (D.shs n xs)
 | .rol xs=>.rol (D.shs n xs)
 | .ref k=>.ref (n+k)
 | .fn x=>.fn x
 | .non=>.non
 | .bl b=>.bl b
 | .int i=>.int i
 | .str x=>.str x
noncomputable def D.shs(n:Nat):List D->List D
 |[]=>[]
 |d::ds=>D.sh n d::D.shs n ds
end
noncomputable def Ob.sh(n:Nat):Ob->Ob
 | .lst xs=>.lst (D.shs n xs)
 | .dct kvs=>.dct (kvs.map λp=>(p.1,p.2.sh n))
 | .dcT kvs=>.dcT (kvs.map λp=>(p.1,p.2.sh n))
 | .iset xs=>.iset xs
 | .dcF kvs=>.dcF (kvs.map λp=>(p.1,p.2.sh n))
 | .tst ks=>.tst ks
theorem dP.sh{K:Fg1}{H:Hp}{mu mu':List cG}:∀ {d:D} {v:V},dP K H mu' d v->dP K H (mu++mu') (d.sh mu.length) v:=fun c=>c.rec (motive_1:=fun d v _=>dP K H (mu++mu') (d.sh mu.length) v) (motive_2:=fun ds vs _=>c5 K H (mu++mu') (D.shs mu.length ds) vs)
  .non .bl .int .str (λh _ ih=>.tup h ih) (λh _ ih=>.rol h ih) (λh=>.ref (by rw[gR1 (bm _ _),Nat.add_sub_cancel_left];exact h)) (λh=>.fn h) .nil (λ_ _ a b=>.cons a b)
theorem c5.sh{K:Fg1}{H:Hp}{mu mu':List cG}:∀{ds:List D} {vs:List V},c5 K H mu' ds vs->c5 K H (mu++mu') (D.shs mu.length ds) vs:=λh=>h.ind (P:=λds vs _=>c5 K H (mu++mu') (D.shs mu.length ds) vs) .nil λr _ ih=>.cons (dP.sh r) ih
theorem KR.sh{κ:Type}{K:Fg1}{H:Hp}{mu mu':List cG}:∀{ks:List (κ×D)} {ws:List (κ×V)},KR K H mu' ks ws->KR K H (mu++mu') (ks.map λp=>(p.1,p.2.sh mu.length)) ws:=by
 intro ks ws h
 induction h with
 |nil=>exact .nil
 |cons r t ih=>exact .cons ⟨r.1,r.2.sh⟩ ih
mutual
theorem AC(n:Nat):∀k:TK,(tkD k).sh n=tkD k
 | .non=>rfl
 | .int _=>rfl
 | .tup xs=>by rw[tkD,D.sh,vJ n xs]
theorem vJ(n:Nat):∀ks:List TK,D.shs n (iZ ks)=iZ ks
 |[]=>rfl
 |x::xs=>by rw[iZ,D.shs,AC n x,vJ n xs]
end
theorem KT.sh{K:Fg1}{H:Hp}{mu mu':List cG}:∀{ks:List (TK×D)} {ws:List (TK×cG×cE)},KT K H mu' ks ws->KT K H (mu++mu') (ks.map λp=>(p.1,p.2.sh mu.length)) ws:=by
 intro ks ws h
 induction h with
 |nil=>exact .nil
 |cons r t ih=>
  obtain⟨z,d,k,v,a,r⟩:=r;exact .cons ⟨z,d,by have:=k.sh (mu:=mu);rw[AC]at this;exact this,v,a,r.sh⟩ ih
theorem l9.sh{K:Fg1}{H:Hp}{mu mu':List cG}{a:cG}:∀{o:Ob},l9 K H mu' a o->l9 K H (mu++mu') a (o.sh mu.length)
 | .lst _,⟨vs,e,r⟩=>⟨vs,e,r.sh⟩
 | .dct _,⟨ws,e,r⟩=>⟨ws,e,KR.sh r⟩
 | .dcT _,⟨ws,e,r,l⟩=>⟨ws,e,KT.sh r,l⟩
 | .iset _,q=>q
 | .dcF _,⟨ws,e,r,l⟩=>⟨ws,e,KT.sh r,l⟩
 | .tst ks,⟨ws,e,r⟩=>⟨ws,e,by have:=KT.sh (mu:=mu) r;rw[bn]at this;exact this⟩
theorem dP.mor{K:Fg1}{H:Hp}{mu:List cG}(mu':List cG):∀{d:D} {v:V},dP K H mu d v->dP K H (mu++mu') d v:=λh=>h.exv ⟨bo _ _,λ_ _ h=>h,λ_ _ _ h=>h⟩
theorem c5.mor{K:Fg1}{H:Hp}{mu:List cG}(mu':List cG):∀{ds:List D} {vs:List V},c5 K H mu ds vs->c5 K H (mu++mu') ds vs:=λh=>h.exv ⟨bo _ _,λ_ _ h=>h,λ_ _ _ h=>h⟩
theorem KR.mor{κ:Type}{K:Fg1}{H:Hp}{mu:List cG}(mu':List cG){ks:List (κ×D)}{ws:List (κ×V)}(h:KR K H mu ks ws):KR K H (mu++mu') ks ws:=Paired.mapP h λ_ _ z=>⟨z.1,z.2.mor mu'⟩
theorem l9.mor{K:Fg1}{H:Hp}{mu:List cG}{a:cG}(mu':List cG):∀{o:Ob},l9 K H mu a o->l9 K H (mu++mu') a o
 | .lst _,⟨vs,e,r⟩=>⟨vs,e,r.mor mu'⟩
 | .dct _,⟨ws,e,r⟩=>⟨ws,e,KR.mor mu' r⟩
 | .dcT _,⟨ws,e,r,l⟩=>⟨ws,e,Paired.mapP r λ_ _ ⟨z,d,k,v,b,r⟩=>⟨z,d,k.mor mu',v,b,r.mor mu'⟩,l⟩
 | .iset _,q=>q
 | .dcF _,⟨ws,e,r,l⟩=>⟨ws,e,Paired.mapP r λ_ _ ⟨z,d,k,v,b,r⟩=>⟨z,d,k.mor mu',v,b,r.mor mu'⟩,l⟩
 | .tst _,⟨ws,e,r⟩=>⟨ws,e,Paired.mapP r λ_ _ ⟨z,d,k,v,b,r⟩=>⟨z,d,k.mor mu',v,b,r.mor mu'⟩⟩
noncomputable def nA(f:FN):FN:=λds S=>if D.unds 0 ds=M then(f ds []).map λp=>if p.1.und 0=M then(p.1,S)else(p.1.sh S.length,S++p.2.map (Ob.sh S.length))else(f ds S).map (gc S.length)
theorem l9.keep{K:Fg1}{H H':Hp}{mu:List cG}{a:cG}(e:Ext mu mu H H')(h:∀o,H a=Z o->H' a=Z o):∀{o:Ob},l9 K H mu a o->l9 K H' mu a o
 | .lst _,⟨vs,q,r⟩=>⟨vs,h _ q,r.ext e⟩
 | .dct _,⟨ws,q,r⟩=>⟨ws,h _ q,KR.ext e r⟩
 | .dcT _,⟨ws,q,r,l⟩=>⟨ws,h _ q,KT.ext e r,l⟩
 | .iset _,q=>⟨h _ q.1,q.2⟩
 | .dcF _,⟨ws,⟨o,u,b,c⟩,r,l⟩=>⟨ws,⟨o,u,h _ b,c⟩,KT.ext e r,l⟩
 | .tst _,⟨ws,q,r⟩=>⟨ws,h _ q,KT.ext e r⟩
theorem xQ{K:Fg1}{f:FN}{vs:List V}{H:Hp}{Q:VK}(h:rN K (nA f) vs H Q):rN K f vs H Q:=by
 obtain⟨mu,S,ds,d,ao,E,c,g,hc⟩:=h;unfold nA at g;split at g
 ·rename_i j;obtain⟨⟨B,p⟩,u,g⟩:=oM1.mp g;refine⟨[],[],ds,B,p,E.cut (n:=0) (λk i=>absurd i (bp _)) j,.nil,u,λv H' mu' x r s=>?_⟩;have w:Ext mu mu H H':=⟨bh,λa o e _=>x.old a o e (by simp),x.tup,x.frz,λ_ z=>.inl z⟩;dsimp only at g;split at g
  ·rename_i I;cases g;refine hc v H' mu w (r.cut (n:=0) (λk i=>absurd i (bp _)) I) ⟨c.len,c.nd,λn o a h1 h2=>?_⟩;exact(c.ob n o a h1 h2).keep w λo e=>x.old a o e (by simp)
  ·cases g;have C:∀ a∈mu',H a=none:=fun a y=>(x.new a y).resolve_left (by simp);have am:Ext mu (mu++mu') H H':=⟨bo _ _,fun a o e _=>x.old a o e (by simp),x.tup,x.frz,fun a z=>by
    rcases aF.mp z with z|z
    ·exact .inl z
    ·exact .inr (C a z)⟩
   refine hc v H' (mu++mu') am (by rw[<- c.len];exact r.sh) ⟨by rw[lA1,lA1,lM1,c.len,s.len],?_,λn o a h1 h2=>?_⟩
   ·refine bq.mpr ⟨c.nd,s.nd,λa y b j z=>?_⟩;subst z;obtain⟨o,e⟩:=c.here y;rw[C a j]at e;cases e
   ·by_cases l:n<S.length
    ·rw[gL1 l]at h1;rw[gL1 (by rw[c.len];exact l)]at h2;exact((c.ob n o a h1 h2).keep w λo e=>x.old a o e (by simp)).mor mu'
    ·have m:=Nat.le_of_not_lt l;rw[gR1 m]at h1;rw[gR1 (by rw[c.len];exact m)]at h2;rw[gP1]at h1;obtain⟨L,F,G⟩:=oM1.mp h1;subst G;have q:=s.ob (n-S.length) L a F (by rw[c.len]at h2;exact h2);rw[<- c.len];exact q.sh
 ·obtain⟨⟨B,p⟩,u,g⟩:=oM1.mp g;refine⟨mu,S,ds,B,p,E,c,u,λv H' mu' x r s=>?_⟩;unfold gc at g;split at g
  ·rename_i j;cases g;rw [bA1] at j;have i:∀ k,k<S.length->mu'[k]? = mu[k]?:=fun k i=>by
    obtain⟨t,rfl⟩:=x.pre;rw[gL1 (by rw[c.len];exact i)]
   refine hc v H' mu x.back (r.cut i j.1) ⟨?_,c.nd,λn o a h1 h2=>?_⟩
   ·have:=s.len;have D:=x.pre.length_le;rw[aP,<- s.len];rw[c.len]at D ⊢;exact(Nat.min_eq_left D).symm
   ·have l:n<S.length:=by rw[<- c.len];exact(gE1.mp h2).1
    have A:p[n]?=Z o:=by rw[aR l]at h1;exact h1
    refine(s.ob n o a A ((i n l).trans h2)).cut i ?_;exact br.mp j.2 o (gM1 h1)
  ·cases g;exact hc v H' mu' x r s
noncomputable def ya(K:Fg1)(n:Nat)(f:FN):Sp:=λvs H Q _=>vs.length=n/\rN K f vs H Q
section
variable{X:Cx}{k n:Nat}{f:cG}{fd:cQ}{ps:List Str}{x:Str}{p pos:Pos}{e:Expr}{es:List Expr}{m:FN}{a:FA}
noncomputable def cY (n:Nat)(f:FN):FN:=λds S=>if ds.length=n then nA f ds S else none
theorem zB (F:jS X.prog X.w X.K X.mg X.base qz k f fd ps (ya X.K n m))(hr:eM k X.A)(hg:Gl X x)(hm:X.mg x=some (.ref f))(hk:wK1 X.K (.ref f)=true)(hb:jC X.K fd ps [])
  (ha:MA X (e::es) a) (hdb:(x == ("__debug__":Str))=J:=by decide) (he:cM (e::es) X.env=(J,eval e X.env)::cM es X.env:=by rfl) (hpl:(backTo pos (cM es X.env)).any (·.1)=J:=by rfl):
  ME X (.Call (.Name x p) (e::es) [] pos) (mN (cY n m) a):=
 dX (zb (E:=E0) F hr hg hm hk hb .nil DZ ha hdb he hpl) fun σ H Q h=>by
  obtain⟨r,mu,S,ds,w,he,s,hm,hc⟩:=wY h;refine⟨r,mu,S,ds,w,he,s,hm,λvs H' mu' l t i=>?_⟩;have q:=hc vs H' mu' l t i;show ya X.K n m (vs++[]) H' Q E0;rw[aL];obtain⟨c,u,d,j,g,h1,h2,b,o⟩:=q;unfold cY at b;split at b
  ·rename_i v;exact⟨by rw[<- h1.length];exact v,xQ ⟨c,u,d,j,g,h1,h2,b,o⟩⟩
  ·cases b
end
noncomputable def oi:FS:=λr S=>Z (.nx,r,S)
noncomputable def c7 (a b:FS):FS:=λr S=>(a r S).bind λp=>match p.1 with
 | .nx=>b p.2.1 p.2.2
 |f=>some (f,p.2.1,p.2.2)
noncomputable def dY (m:FE):FS:=λr S=>(m r S).bind λp=>some (.rt p.1,r,p.2)
noncomputable def Gs:FS:=λr S=>Z (.rt .non,r,S)
noncomputable def eF (m:FE):FS:=λr S=>(m r S).bind λp=>some (.nx,r,p.2)
noncomputable def fX (c:FT)(a b:FS):FS:=λr S=>(c r S).bind λp=>if p.1=true then a r p.2 else b r p.2
section
variable{X:Cx}{pos:Pos}{e c:Expr}{st:cR}{rest as bs:List cR}{a b:FS}{m:FE}{t:FT}
theorem zp:vb X [] oi:=nU yR <| by
 rintro E σ H ⟨r,mu,S,f,e,d,a,c,b,hc⟩;cases b;exact hc σ H mu (.refl _ _) a c
theorem wN(h1:MS X st a)(h2:vb X rest b):vb X (st::rest) (c7 a b):=nU (wh h1 h2) <| by
 rintro E σ H ⟨r,mu,S,f,q,u,o,s,h,hc⟩;obtain⟨⟨m,n,l⟩,p,h⟩:=oB1.mp h;refine⟨r,mu,S,m,n,l,o,s,p,?_⟩;cases m with
 |nx=>
  intro t H1 mu1 i k j;refine⟨n,mu1,l,f,q,u,k,j,h,?_⟩;cases f with
  |nx=>exact λe H2 c g=>hc e H2 c (i.trans g)
  |bk=>exact λe H2 c g=>hc e H2 c (i.trans g)
  |ct=>exact λe H2 c g=>hc e H2 c (i.trans g)
  |rt d=>exact λv H2 c g=>hc v H2 c (i.trans g)
 |bk=>cases h;exact hc
 |ct=>cases h;exact hc
 |rt d=>cases h;exact hc
theorem zo(h1:MS X st a):vb X [st] a:=yQ h1
theorem zr(h:ME X e m)(hs:swapsWith e Y pos.line X.env=pure J:=by rfl):MS X (.Expr e pos) (eF m):=gk (yS h hs) <| by
 rintro E σ H ⟨r,mu,S,f,j,l,b,hs,a,hc⟩;obtain⟨⟨d,i⟩,c,a⟩:=oB1.mp a;cases a;exact⟨r,mu,S,d,_,b,hs,c,λv H' mu' x k g=>hc σ H' mu' x (b.ext x) g⟩
theorem B4(h:ME X e m):MS X (.Return (Z e) pos) (dY m):=gk (Bo h) <| by
 rintro E σ H ⟨r,mu,S,f,j,k,b,g,a,hc⟩;obtain⟨⟨d,i⟩,c,a⟩:=oB1.mp a;cases a;exact⟨r,mu,S,d,_,b,g,c,hc⟩
theorem Ed(hc:MT X c t)(ha:vb X as a)(hb:vb X bs b):MS X (.If c as bs pos) (fX t a b):=gk (DS hc ha hb) <| by
 rintro E σ H ⟨r,mu,S,f,n,p,m,u,i,hc⟩;obtain⟨⟨k,l⟩,q,i⟩:=oB1.mp i;refine⟨r,mu,S,k,l,m,u,q,λH1 mu1 j s=>?_⟩;have o:∀c:FS,c r l=Z (f,n,p)->sK X.K c E σ H1:=λc i=>by
  refine⟨r,mu1,l,f,n,p,m.ext j,s,i,?_⟩;cases f with
  |nx=>exact λg H2 e h=>hc g H2 e (j.trans h)
  |bk=>exact λg H2 e h=>hc g H2 e (j.trans h)
  |ct=>exact λg H2 e h=>hc g H2 e (j.trans h)
  |rt d=>exact λv H2 e h=>hc v H2 e (j.trans h)
 cases k with
 |true=>exact o a i
 |false=>exact o b i
end
abbrev FG:=D->Ev->cV->Option (Ev×cV)
abbrev x9:=List D->Ev->cV->Option (Ev×cV)
inductive DB (K:Fg1)(g:FG)(v:V)(σ:L2.St)(H:Hp)(Q:L2.St->Hp->Prop):Prop
 |mk (r:Ev) (mu:List cG) (S:cV) (d:D) (r':Ev) (S':cV) (he:ei K H mu r σ) (hs:Sim K H mu S) (hr:dP K H mu d v) (hm:g d r S=some (r',S')) (hc:∀ σ' H' mu',Ext mu mu' H H'->ei K H' mu' r' σ'->Sim K H' mu' S'->Q σ' H')
inductive Fw (K:Fg1)(g:x9)(vs:List V)(σ:L2.St)(H:Hp)(Q:L2.St->Hp->Prop):Prop
 |mk (r:Ev) (mu:List cG) (S:cV) (ds:List D) (r':Ev) (S':cV) (he:ei K H mu r σ) (hs:Sim K H mu S) (hr:c5 K H mu ds vs) (hm:g ds r S=some (r',S')) (hc:∀ σ' H' mu',Ext mu mu' H H'->ei K H' mu' r' σ'->Sim K H' mu' S'->Q σ' H')
abbrev MG(X:Cx)(e:Expr)(g:FG):Prop:=PG X e (DB X.K g)
abbrev EX(X:Cx)(es:List Expr)(g:x9):Prop:=Dc X es (Fw X.K g)
noncomputable def gN (i:Nat):FG:=λd r S=>some (r.set i (some d),S)
noncomputable def gNl:x9:=λds r S=>match ds with
 |[]=>Z (r,S)
 |_=>Y
noncomputable def gCs (g:FG)(gs:x9):x9:=λds r S=>match ds with
 |d::ds=>(g d r S).bind λp=>gs ds p.1 p.2
 |[]=>none
noncomputable def gT (n:Nat)(gs:x9):FG:=λd r S=>match d with
 | .tup ds=>if ds.length=n then gs ds r S else none
 |_=>none
theorem ei.set{K:Fg1}{H:Hp}{mu:List cG}{r:Ev}{σ:L2.St}{i:Nat}{d:D}{v:V}(h:ei K H mu r σ)(q:dP K H mu d v):ei K H mu (r.set i (Z d)) (σ.set i (Z v)):=by
 refine⟨by rw[aT,aT];exact h.len,λj c e=>?_⟩;by_cases a:i=j
 ·subst a;have b:i<r.length:=by
   have:=(gE1.mp e).1
   rwa [aT]at this
  rw[aH b]at e;cases e;exact⟨v,aH (by rw[<- h.len];exact b),q⟩
 ·rw[gS1 a]at e;obtain⟨g,f,k⟩:=h.val j c e;exact⟨g,by rw[gS1 a];exact f,k⟩
section
variable{X:Cx}{pos:Pos}
theorem rz{e:Expr}{t t':TG}(h:PG X e t)(i:∀v σ H Q,t' v σ H Q->t v σ H Q):PG X e t':=λag s σ H v u Q I r q=>h ag s σ H v u Q I r (i v σ H Q q)
theorem sS{e:List Expr}{t t':AO}(h:Dc X e t)(i:∀v σ H Q,t' v σ H Q->t v σ H Q):Dc X e t':=λag s σ H v u Q I r q=>h ag s σ H v u Q I r (i v σ H Q q)
theorem zz(i:Nat){x:Str}(hN:X.N.Nodup)(hi:X.N[i]?=Z x)(hx:sw X.env.scope x)(hf:X.fn x=M\/X.env.scope.names.lookup x=Z .local:=by first|exact .inl rfl|exact .inr rfl|assumption):MG X (.Name x pos) (gN i):=
 rz (sT hN hi hx hf) <| by
  rintro v σ H Q ⟨r,mu,S,d,f,g,a,c,e,b,hc⟩;cases b;exact hc _ H mu (.refl _ _) (a.set e) c
theorem zy:EX X [] gNl:=sS y0 <| by
 rintro vs σ H Q ⟨r,mu,S,ds,f,e,b,d,c,a,hc⟩;unfold gNl at a;split at a
 ·cases a;cases c;exact⟨O,hc σ H mu (.refl _ _) b d⟩
 ·cases a
theorem wP{e:Expr}{es:List Expr}{g:FG}{j:x9}(h1:MG X e g)(h2:EX X es j)(hs:(assignEach (e::es) X.env).map (·.2)=assign e X.env::(assignEach es X.env).map (·.2):=by rfl):EX X (e::es) (gCs g j):=
 sS (wu h1 h2 hs) <| by
  rintro vs σ H Q ⟨r,mu,S,ds,o,u,k,hs,p,a,hc⟩;unfold gCs at a;split at a
  ·obtain⟨⟨i,f⟩,m,a⟩:=oB1.mp a;cases p with
   |cons q t=>
    exact⟨_,_,O,r,mu,S,_,i,f,k,hs,q,m,λs H1 mu1 h d n=>⟨i,mu1,f,_,o,u,d,n,t.ext h,a,λb H2 c l=>hc b H2 c (h.trans l)⟩⟩
  ·cases a
theorem Cd{es:List Expr}{k:Nat}{b:x9}{n:Nat}(hc:X.calm=M)(h:EX X es b)(hn:(assignEach es X.env).length=n:=by rfl)(hst:(assignEach es X.env).findIdx? (·.1)=Y:=by rfl):MG X (.Tuple es k pos) (gT n b):=
 rz (Bx hc h hn hst) <| by
  rintro v σ H Q ⟨r,mu,S,d,e,j,c,f,g,a,hc⟩;cases d with
  |tup ds=>
   rw[gT]at a;split at a
   ·rename_i i;cases g with
    |tup q t=>exact⟨_,_,O,q,by rw[<- t.length];exact i,r,mu,S,ds,e,j,c,f,t,a,hc⟩
   ·cases a
  |_=>cases a
inductive rU (K:Fg1)(f:FN)(o i v:V)(H:Hp)(Q:Hp->Prop):Prop
 |mk (mu:List cG) (S:cV) (ds:List D) (d:D) (S':cV) (hr:c5 K H mu ds [o,i,v]) (hs:Sim K H mu S) (hm:f ds S=some (d,S')) (hc:∀H' mu',Ext mu mu' H H'->Sim K H' mu' S'->Q H')
noncomputable def gS(f:FN)(a b:FE):FG:=λd r S=>(a r S).bind λp=>(b r p.2).bind λq=>(f [p.1,q.1,d] q.2).bind λt=>Z (r,t.2)
theorem Ce{o i:Expr}{a b:FE}{f:FN}(ho:ME X o a)(hi:ME X i b)(hs:sv X (rU X.K f))(ha:∀v,assign (.Subscript o i pos) X.env v=(do
   let ov<-holding [v] (eval o X.env)
   let iv<-holding [v,ov] (eval i X.env)
   standAt pos
   holding [v,ov,iv] (setItem ov iv v)
   release [v,ov,iv] []):=by intro _;rfl):MG X (.Subscript o i pos) (gS f a b):=
 rz (By ho hi hs ha) <| by
  rintro v σ H Q ⟨r,mu,S,d,I,E,h,hs,x,c,hc⟩;obtain⟨⟨p,l⟩,s,c⟩:=oB1.mp c;obtain⟨⟨m,q⟩,t,c⟩:=oB1.mp c;obtain⟨⟨z,F⟩,w,c⟩:=oB1.mp c;cases c;refine⟨r,mu,S,p,l,h,hs,s,λG H1 mu1 g C A=>?_⟩;refine⟨r,mu1,l,m,q,h.ext g,A,t,λD H2 j e r2 y=>?_⟩;exact⟨j,q,[p,m,d],z,_,.cons (C.ext e) (.cons r2 (.cons ((x.ext g).ext e) .nil)),y,w,λB k n u=>hc σ B k ((g.trans e).trans n) (((h.ext g).ext e).ext n) u⟩
noncomputable def db (m:FE)(g:FG):FS:=λr S=>(m r S).bind λp=>(g p.1 r p.2).bind λq=>some (.nx,q.1,q.2)
theorem oj{K:Fg1}{m:FE}{g:FG}{E:im}{σ:L2.St}{H:Hp}(h:sK K (db m g) E σ H):vO (tM K m) (DB K g) E σ H:=by
 obtain⟨r,mu,S,f,t,v,d,p,a,hc⟩:=h;obtain⟨⟨j,e⟩,l,a⟩:=oB1.mp a;obtain⟨⟨r2,u⟩,o,a⟩:=oB1.mp a;cases a;refine⟨r,mu,S,j,e,d,p,l,λs H1 mu1 i q n=>?_⟩;exact⟨r,mu1,e,j,_,_,d.ext i,n,q,o,λb H2 c k=>hc b H2 c (i.trans k)⟩
theorem B7{tg e:Expr}{m:FE}{g:FG}(he:ME X e m)(hg:MG X tg g)(hs:swapsWithSole [tg] e pos.line X.env=pure J:=by rfl)(hw:swappedStores [tg] e X.env=pure Y:=by rfl)(h1:(assignEach [tg] X.env).map (·.2)=[assign tg X.env]:=by rfl):MS X (.Assign [tg] e pos) (db m g):=gk (Bt he hg hs hw h1) λ_ _ _=>oj
theorem B3(i:Nat){x:Str}{e:Expr}{m:FE}{pos':Pos}(hN:X.N.Nodup)(hi:X.N[i]? = some x)(hx:sw X.env.scope x)(he:ME X e m)(hs:swapsWith e (some (.Name x pos')) pos.line X.env=pure false:=by rfl)(hf:X.fn x=true\/X.env.scope.names.lookup x=some .local:=by first | exact .inl rfl | exact .inr rfl | assumption):
  MS X (.Assign [.Name x pos'] e pos) (db m (gN i)):=gk (Bn hN hi hx he hs hf) λE σ H h=>by
 obtain⟨r,mu,S,d,p,h1,h2,q,j⟩:=oj h;refine⟨r,mu,S,d,p,h1,h2,q,λv H' mu' l n c=>?_⟩;obtain⟨r2,a,w,t,u,s,g,o,b,f,k⟩:=j v H' mu' l n c;cases f;exact k _ H' a (.refl _ _) (g.set b) o
noncomputable def zG(i:Nat)(f:FN)(m:FE):FS:=λr S=>match r[i]? with
 |some (Z d)=>(m r S).bind λp=>(f [d,p.1] p.2).bind λq=>Z (.nx,r.set i (Z q.1),q.2)
 |_=>Y
theorem B6(i:Nat){x:Str}{e:Expr}{m:FE}{op:Operator}{f:FN}{pos':Pos}(hN:X.N.Nodup)(hi:X.N[i]? = some x)(hx:sw X.env.scope x)(he:ME X e m)(ho:Fi X op (r2 X.K f))(hf:X.fn x=true\/X.env.scope.names.lookup x=some .local:=by first | exact .inl rfl | exact .inr rfl | assumption):
  MS X (.AugAssign (.Name x pos') op e pos) (zG i f m):=gk (Br hN hi hx he ho hf) <| by
 rintro E σ H ⟨r,mu,S,z,F,A,he,t,a,hc⟩;unfold zG at a;split at a
 ·rename_i d e;obtain⟨⟨j,g⟩,l,a⟩:=oB1.mp a;obtain⟨⟨s,D⟩,o,a⟩:=oB1.mp a;cases a;obtain⟨v,k,q⟩:=he.val i d e;refine⟨v,k,r,mu,S,j,g,he,t,l,λB H1 mu1 c y u=>?_⟩;exact⟨mu1,g,[d,j],s,_,.cons (q.ext c) (.cons y .nil),u,o,λC w b h n p=>hc _ w b (c.trans h) (((he.ext c).ext h).set n) p⟩
 ·cases a
end
noncomputable def oQ (c:FT)(b:FS):Nat->FS
 |0=>λ_ _=>none
 | n+1=>fun r S=>(c r S).bind fun p=>if p.1=true then (b r p.2).bind fun q=>match q.1 with
   | .nx=>oQ c b n q.2.1 q.2.2
   | .ct=>oQ c b n q.2.1 q.2.2
   | .bk=>some (.nx,q.2.1,q.2.2)
   | .rt d=>some (.rt d,q.2.1,q.2.2)
  else some (.nx,r,p.2)
theorem AY{K:Fg1}{c:FT}{b:FS}{n:Nat}{E:im}{σ:L2.St}{H:Hp}(h:sK K (oQ c b n) E σ H):vM (yx K c) (sK K b) E σ H:=by
 refine⟨λm a H'=>sK K (oQ c b m) E a H',⟨n,h⟩,λm t H1 q=>?_⟩;obtain⟨r,mu,S,f,z,A,u,I,i,hc⟩:=q;cases m with
 |zero=>cases i
 |succ m=>
  obtain⟨⟨k,w⟩,F,i⟩:=oB1.mp i;refine⟨r,mu,S,k,w,u,I,F,λH2 e l C=>?_⟩;cases k with
  |false=>
   cases i;exact hc t H2 e l (u.ext l) C
  |true=>
   obtain⟨⟨B,p,s⟩,G,i⟩:=oB1.mp i;have D:∀{a H' mu'},Ext e mu' H2 H'->ei K H' mu' p a->Sim K H' mu' s->oQ c b m p s=Z (f,z,A)->sK K (oQ c b m) E a H':=λ{a H' mu'} x g o i=>by
    refine⟨p,mu',s,f,z,A,g,o,i,?_⟩;cases f with
    |nx=>exact λj H2 e y=>hc j H2 e ((l.trans x).trans y)
    |bk=>exact λj H2 e y=>hc j H2 e ((l.trans x).trans y)
    |ct=>exact λj H2 e y=>hc j H2 e ((l.trans x).trans y)
    |rt d=>exact λv H2 e y=>hc v H2 e ((l.trans x).trans y)
   refine⟨λa H'=>sK K (oQ c b m) E a H',λa H' q=>⟨m,bt _,q⟩,r,e,w,B,p,s,u.ext l,C,G,?_⟩;cases B with
   |nx=>exact λa H' mu' x g o=>D x g o i
   |ct=>exact λa H' mu' x g o=>D x g o i
   |bk=>cases i;exact λa H' mu' x g o=>hc a H' mu' (l.trans x) g o
   |rt d=>cases i;exact λv H' mu' x p o=>hc v H' mu' (l.trans x) p o
theorem wO{X:Cx}{pos:Pos}(n:Nat){c:Expr}{a:List cR}{t:FT}{b:FS}(hp:PassesOwn (model X.prog X.w) X.A X.env X.xe)(hc:MT X c t)(hb:vb X a b):MS X (.While c a [] pos) (oQ t b n):=
 gk (wj hp hc hb) λ_ _ _=>AY
structure vj where
 items:List D
 chk:List (Nat×List D)
noncomputable def mT (S:cV):List (Nat×List D)->Bool
 |[]=>true
 | (n,xs)::c=>(match S[n]? with
   |some (.lst ys)=>D.sames ys xs
   |_=>false)&&mT S c
def Gj(K:Fg1)(j:It)(am:vj)(mu:List cG)(H:Hp):Prop:=∀i H1 mu1 S1,oT mu mu1 H H1->Sim K H1 mu1 S1->mT S1 am.chk=M ->
 (∀d,am.items[i]?=Z d->j.go i H1 /\ ∀x H2,j.yld i H1 x H2->Ext mu1 mu1 H1 H2/\Sim K H2 mu1 S1/\dP K H2 mu1 d x)/\(am.items.length<=i->j.stop i H1)
abbrev FI:=Ev->cV->Option (vj×cV)
inductive Fv (K:Fg1)(m:FI)(σ:L2.St)(H:Hp)(R:It->Hp->Prop):Prop
 |mk (r:Ev) (mu:List cG) (S:cV) (am:vj) (S':cV) (he:ei K H mu r σ) (hs:Sim K H mu S) (hm:m r S=some (am,S')) (hc:∀j H' mu',Ext mu mu' H H'->Gj K j am mu' H'->Sim K H' mu' S'->R j H')
abbrev MI(X:Cx)(tg iter:Expr)(m:FI):Prop:=PI X tg iter (Fv X.K m)
theorem lr{X:Cx}{tg e:Expr}{t t':TI}(h:PI X tg e t)(i:∀ σ H R,t' σ H R->t σ H R):PI X tg e t':=λag s σ H R I q=>h ag s σ H R I (i σ H R q)
theorem DT{X:Cx}{tg e:Expr}{t t':TI}(h:PI X tg e t)(h':PI X tg e t'):PI X tg e (fun σ H R=>t σ H R\/t' σ H R):=λag s σ H R I q=>q.elim (h ag s σ H R I) (h' ag s σ H R I)
noncomputable def ji (c:List (Nat×List D))(g:FG)(b:FS):List D->FS
 |[]=>λr S=>if mT S c=true then some (.nx,r,S)else none
 | d::ds=>fun r S=>if mT S c=true then (g d r S).bind fun p=>(b p.1 p.2).bind fun q=>match q.1 with
   | .nx=>ji c g b ds q.2.1 q.2.2
   | .ct=>ji c g b ds q.2.1 q.2.2
   | .bk=>some (.nx,q.2.1,q.2.2)
   | .rt v=>some (.rt v,q.2.1,q.2.2)
  else none
noncomputable def fz (m:FI)(g:FG)(b:FS):FS:=λr S=>(m r S).bind λp=>ji p.1.chk g b p.1.items r p.2
theorem kb{α:Type}{l:List α}{i:Nat}{d:α}{ds:List α}(h:l.drop i=d::ds):l[i]?=Z d/\l.drop (i+1)=ds:=by
 have h1:l[i]?=Z d:=by
  have:=congrArg (·[0]?) h;simpa using this
 refine⟨h1,?_⟩;rw[<- List.drop_drop,h];rfl
inductive Gg (K:Fg1)(mu1:List cG)(H1:Hp)(c:List (Nat×List D))(g:FG)(b:FS)(f:Fl)(r':Ev)(S':cV)(L:List D)(σ':L2.St)(H':Hp):Prop
 |mk (r2:Ev) (mu2:List cG) (S2:cV):Ext mu1 mu2 H1 H'->ei K H' mu2 r2 σ'->Sim K H' mu2 S2->ji c g b L r2 S2=some (f,r',S')->Gg K mu1 H1 c g b f r' S' L σ' H'
theorem zF{K:Fg1}{m:FI}{g:FG}{b:FS}{E:im}{σ:L2.St}{H:Hp}(h:sK K (fz m g b) E σ H):DC (Fv K m) (DB K g) (sK K b) E σ H:=by
 obtain⟨r,mu,S,f,Q,T,P,hs,C,hc⟩:=h;obtain⟨⟨am,ao⟩,W,C⟩:=oB1.mp C;refine⟨r,mu,S,am,ao,P,hs,W,λj H1 mu1 A au s1=>?_⟩;refine⟨λi k s H'=>k=(am.items.drop i).length/\Gg K mu1 H1 am.chk g b f Q T (am.items.drop i) s H',⟨_,O,r,mu1,ao,.refl _ _,P.ext A,s1,C⟩,?_⟩;rintro i k L H2 ⟨rfl,r2,l,S2,n,u,F,a⟩;cases hl:am.items.drop i with
 |nil=>
  left;rw[hl]at a;rw[ji]at a;dsimp only at a;split at a
  ·rename_i ok;cases a;refine⟨(au i H2 l _ n.w F ok).2 (List.drop_eq_nil_iff.mp hl),?_⟩;exact hc L H2 l (A.trans n) u F
  ·cases a
 |cons d ds=>
  right;rw[hl]at a;obtain⟨hi,N⟩:=kb hl;rw[ji]at a;dsimp only at a;split at a
  ·rename_i ok;obtain⟨⟨R,U⟩,e3,a⟩:=oB1.mp a;obtain⟨⟨V,I,G⟩,aq,a⟩:=oB1.mp a;obtain⟨go,X⟩:=(au i H2 l _ n.w F ok).1 d hi;refine⟨go,Gg K mu1 H1 am.chk g b f Q T ds,?_,λx H3 y=>?_⟩
   ·intro s H' h5;exact⟨ds.length,bt _,(congrArg List.length N).symm,N.symm ▸ h5⟩
   ·obtain⟨w,s3,q3⟩:=X x H3 y;refine⟨r2,l,S2,d,R,U,u.ext w,s3,q3,e3,fun σ4 H4 B z D s4=>?_⟩;refine⟨R,B,U,V,I,G,D,s4,aq,?_⟩;cases V with
    |nx=>exact λq t c p e o=>⟨I,c,G,(n.trans w).trans (z.trans p),e,o,a⟩
    |ct=>exact λq t c p e o=>⟨I,c,G,(n.trans w).trans (z.trans p),e,o,a⟩
    |bk=>cases a;exact λq t c p e o=>hc q t c ((A.trans n).trans (w.trans (z.trans p))) e o
    |rt v=>cases a;exact λv5 t c p wq o=>hc v5 t c ((A.trans n).trans (w.trans (z.trans p))) wq o
  ·cases a
theorem B5{X:Cx}{pos:Pos}{tg iter:Expr}{a:List cR}{m:FI}{g:FG}{b:FS}(hp:PassesOwn (model X.prog X.w) X.A X.env X.xe)(hc:X.calm=M)(hi:MI X tg iter m)(hg:MG X tg g)(hb:vb X a b)(hs:∀x,foldedSetIterable iter X.env x=pure x:=by intro _;rfl):MS X (.For tg iter a [] pos) (fz m g b):=gk (Bq hp hc hi hg hb hs) λ_ _ _=>zF
noncomputable def fB(n:Nat)(ds:List D):Ev:=ds.map Z++aN (n-ds.length) Y
noncomputable def gJ (n:Nat)(b:FS):FN:=λds S=>(b (fB n ds) S).bind λp=>match p.1 with
 | .rt d=>some (d,p.2.2)
 | .nx=>some (.non,p.2.2)
 |_=>none
theorem uk{K:Fg1}{H:Hp}{mu:List cG}{ds:List D}{vs:List V}(N:List Str)(h:c5 K H mu ds vs):ei K H mu (fB N.length ds) (L2.start N vs):=by
 refine⟨?_,λi d e=>?_⟩
 ·unfold fB L2.start;rw[lA1,lA1,lM1,lM1,lR1,lR1,h.length]
 ·unfold fB at e;unfold L2.start;by_cases hi:i<ds.length
  ·rw[gL1 (by rw[lM1];exact hi),gP1]at e;obtain⟨f,a,b⟩:=oM1.mp e;cases b;obtain⟨v,c,r⟩:=h.get a;refine⟨v,?_,r⟩;rw[gL1 (by rw[lM1,<- h.length];exact hi),gP1,c];rfl
  ·rw[gR1 (by rw[lM1];lia)]at e;have:=gM1 e;rw[List.mem_replicate]at this;cases this.2
theorem Ez{P:cH}{w:cJ}{K:Fg1}{mg:Str->Option cE}{base:cP}{x c:Str}{st:cR}{f:cG}{fd:cQ}{N ps:List Str}{k:Nat}{b:FS}(F:vk K x c st f fd)(S:fq N ps (dg st))(g:∀(e:cE) (A:cI) (a:List Env) (s:cF) (H:Hp) (E:XK),eM k (A.deeper (envOfC c (dg st) s.heap.objs.size f e)) ->
   vb (kE qz P w K mg base N c (dg st) f e A a s H E).nox (ea st) b):jS P w K mg base qz (k+1) f fd ps (ya K ps.length (gJ N.length b)):=by
 refine vk.ok F S (λvs H Q E h=>h.1) λe A a s H vs Q E r j=>⟨_,g e A a s H E r,?_⟩;obtain⟨_,mu,St,ds,d,u,h1,h2,i,m⟩:=j;unfold gJ at i;obtain⟨⟨l,q,o⟩,p,i⟩:=oB1.mp i;refine⟨_,mu,St,l,q,o,uk N h1,h2,p,?_⟩;cases l with
 |nx=>cases i;exact λn H' mu' x t s=>m .non H' mu' x .non s
 |rt d=>cases i;exact m
 |bk=>cases i
 |ct=>cases i
noncomputable def iE(cells:List (Str×cG)):List (Str×NameKind)->List (Str×cG)->Option (List (Str×cG))
 |[],acc=>Z acc
 |(n,k)::r,acc=>if k == .free then(cells.lookup n).bind λc=>iE cells r ((n,c)::acc)else iE cells r acc
theorem sb{env:Env}(f:Str×NameKind->List (Str×cG)->Sem (ForInStep (List (Str×cG))))(hf:∀n k d,f (n,k) d=if k == .free then(do let c<-cellOf env n;pure (.yield ((n,c)::d)))else pure (.yield d)):
  ∀(a:List (Str×NameKind)) (acc b:List (Str×cG)),iE env.cells a acc=Z b->forIn a acc f=(pure b:Sem (List (Str×cG)))
 |[],acc,b,h=>by cases h;rfl
 |(n,k)::r,acc,b,h=>by
  rw[List.forIn_cons,hf];unfold iE at h;split at h
  ·rename_i g;rw[ak g];obtain⟨c,e,h⟩:=oB1.mp h;have:cellOf env n=pure c:=by unfold cellOf;rw[e]
   rw[this,pure_bind,pure_bind];exact sb f hf r _ b h
  ·rename_i g;rw[aj g,pure_bind];exact sb f hf r _ b h
theorem xN{scope:cS}{env:Env}{cl:List (Str×cG)}(h:iE env.cells scope.names []=Z cl):closureFor scope env=pure cl:=by
 simp only[closureFor];rw[sb (env:=env) _ (λn k a=>by cases hk:k == NameKind.free<;>simp[hk]) scope.names [] cl h];rfl
theorem sa{a:List (Str×cG)}:∀{b:List (Str×NameKind)} {acc d:List (Str×cG)},iE a b acc=Z d->(∀x c,acc.lookup x=Z c->a.lookup x=Z c) -> ∀x c,d.lookup x=Z c->a.lookup x=Z c
 |[],acc,d,h,ha=>by cases h;exact ha
 |(n,k)::r,acc,d,h,ha=>by
  unfold iE at h;split at h
  ·obtain⟨c,e,h⟩:=oB1.mp h;refine sa h λx f q=>?_;rw[bu]at q;split at q
   ·rename_i g;cases q;rw[beq_iff_eq.mp g];exact e
   ·exact ha x f q
  ·exact sa h ha
theorem kQ{b:List (Str×cG)}{x:Str}:∀{a:List (Str×NameKind)} {acc d:List (Str×cG)},iE b a acc=Z d->(a.lookup x=Z .free\/(acc.lookup x).isSome=M)->(d.lookup x).isSome=M
 |[],acc,d,h,ha=>by
  cases h;rcases ha with q|q
  ·cases q
  ·exact q
 |(n,k)::r,acc,d,h,ha=>by
  unfold iE at h;split at h
  ·obtain⟨c,e,h⟩:=oB1.mp h;refine kQ h ?_;rcases ha with q|q
   ·rw[bu]at q;split at q
    ·rename_i f;right;rw[bu,f];rfl
    ·exact .inl q
   ·right;rw[bu];split
    ·rfl
    ·exact q
  ·rename_i g;refine kQ h ?_;rcases ha with q|q
   ·rw[bu]at q;split at q
    ·cases q;exact absurd O g
    ·exact .inl q
   ·exact .inr q
theorem fm{x:Str}{c:cG}:∀{a:List (Str×NameKind)} {n:Nat} {acc:List (Str×cG)},(cellsFrom n a acc).lookup x=Z c->(n<=c/\(x,c)∈cellsFrom n a [])\/acc.lookup x=Z c
 |[],_,_,h=>.inr h
 |(y,k)::r,n,acc,h=>by
  unfold cellsFrom at h ⊢;split at h
  ·rename_i b;rw [if_pos b];have app:∀ (a:List (Str×NameKind)) (m:Nat) (acc:List (Str×cG)),cellsFrom m a acc=cellsFrom m a []++acc:=by
    intro a
    induction a with
    |nil=>intro m acc;rfl
    |cons p r ih=>
     obtain⟨z,q⟩:=p;intro m acc;unfold cellsFrom;split
     ·rw[ih _ ((z,m)::acc),ih _ [(z,m)],bv];rfl
     ·exact ih m acc
   rcases fm h with⟨h1,h2⟩|h1
   ·refine .inl ⟨by lia,?_⟩;rw[app];exact aG _ h2
   ·rw[bu]at h1;split at h1
    ·rename_i d;cases h1;refine .inl ⟨nR1 _,?_⟩;rw[app,beq_iff_eq.mp d];exact mA1 _ mS1
    ·exact .inr h1
  ·rename_i b;rw[aj b];exact fm h
theorem ml{x:Str}{c:cG}{n:Nat}{acc:List (Str×cG)}{a:List (Str×NameKind)}(hx:a.lookup x=Z .cell)(h:(cellsFrom n a acc).lookup x=Z c):n<=c:=by
 have app:∀(a:List (Str×NameKind)) (m:Nat) (acc:List (Str×cG)),cellsFrom m a acc=cellsFrom m a []++acc:=by
  intro a
  induction a with
  |nil=>intro m acc;rfl
  |cons p r ih=>
   obtain⟨z,q⟩:=p;intro m acc;unfold cellsFrom;split
   ·rw[ih _ ((z,m)::acc),ih _ [(z,m)],bv];rfl
   ·exact ih m acc
 rw[app,List.lookup_append]at h;have q:=PySem.W.cellsFrom_some a n [] (.inl hx);obtain⟨b,e⟩:=aO.mp q;rw[e]at h;cases h;rcases fm e with⟨h1,_⟩|h1
 ·exact h1
 ·cases h1
theorem iJ {ao:Model}{A:cI}{E:cE->cF->Prop}{s:cF}{scope:cS}{globals:cG}{c:List (Str×cG)}{qual:Str}{func:Option cG}{code:cE}{env:Env}{b:cG}{Q:Env->cF->Prop}
  (d:Q {scope,locals:=s.heap.objs.size,globals,cells:=cellsFrom (s.heap.objs.size+1) scope.names c,qual,func,code:=env.code,frame:=env.frame,builtins:=env.builtins}
   {s with heap:=pushCells (s.heap.push {cls:=.type "dict",data:=.dict #[]}) scope.names}):
  cO ao A (newFunctionEnv scope globals c [] qual func code (Z env) b) Q E s:=by
 simp only[newFunctionEnv,Option.isSome_some,if_true];refine wB1 (wpAny_alloc ?_);refine wB1 (wpAny_layCells _ (λname a cells=>by cases hkc:a == NameKind.cell<;>simp[hkc]) _ _ _ _ ?_);rw[show({s with heap:=s.heap.push {cls:=.type "dict",data:=.dict #[]}}:cF).heap.objs.size=s.heap.objs.size+1 from hZ1 ..];refine wB1 ?_;rw[List.forIn_nil];exact wP1 (wP1 d)
noncomputable def cxC(X:Cx)(scope:cS)(cl:List (Str×cG))(T:List Str)(keep:List Nat)(s:cF)(H:Hp)(fp:List cG):Cx where
 prog:=X.prog
 w:=X.w
 K:=X.K
 mg:=X.mg
 base:=X.base
 A:=X.A
 N:=T++keep.map λi=>X.N.getD i (Str.ofString "")
 s₀:=s
 H₀:=H
 env:=compEnvC scope (cellsFrom (s.heap.objs.size+1) scope.names cl) s.heap.objs.size X.env
 outer:=X.stack
 stack:=X.stack
 ex:=fp
 fn:=λx=>scope.names.lookup x == Z .cell
 calm:=X.calm
 pn:=[]
 xe:=λ_ _=>False
noncomputable def ow(k:Nat)(keep:List Nat)(σ:L2.St):L2.St:=aN k Y++keep.map λi=>(σ[i]?).join
theorem hZ{env:Env}{x:Str}:∀ {a:List (Str×NameKind)},
  (a.map λ(n,k)=>if(k == NameKind.free&&env.scope.kind == .function&&env.kindOf n == Z .cell)then(n,NameKind.cell)else(n,k)).lookup x =
   (a.lookup x).map λk=>if(k == NameKind.free&&env.scope.kind == .function&&env.kindOf x == Z .cell)then NameKind.cell else k
 |[]=>rfl
 |(n,k)::r=>by
  show List.lookup x ((if(k == NameKind.free&&env.scope.kind == .function&&env.kindOf n == Z .cell)=M then(n,NameKind.cell)else(n,k))::_)=_;cases hx:x == n with
  |true=>
   have e:=beq_iff_eq.mp hx;subst e;by_cases hc:(k == NameKind.free&&env.scope.kind == .function&&env.kindOf x == Z .cell)=M
   ·rw[ak hc,bu,hx,bu,hx];simp only[oP1,ak hc]
   ·rw[aj hc,bu,hx,bu,hx];simp only[oP1,aj hc]
  |false=>
   have ih:=@hZ env x r;by_cases hc:(k == NameKind.free&&env.scope.kind == .function&&env.kindOf n == Z .cell)=M
   ·rw[ak hc,bu,hx,bu,hx];exact ih
   ·rw[aj hc,bu,hx,bu,hx];exact ih
structure E1 (X:Cx)(scope:cS)(T:List Str)(keep:List Nat):Prop where
 kind:scope.kind = .function
 names:∀x∈scope.names,x.2 = .local->scope.names.lookup x.1=some .local
 free:∀i∈keep,∃x,X.N[i]?=some x/\scope.names.lookup x=some .free/\(X.env.kindOf x=some .cell\/X.env.kindOf x=some .free)/\(x,NameKind.cell)∉scope.names
theorem pO{X:Cx}{ag:List (cG×Obj)}{σ:L2.St}{H:Hp}{s:cF}{scope:cS}{t:List (Str×cG)}{T:List Str}{keep:List Nat}{D:List cG}(I:Inv X ag σ H s)(C:E1 X scope T keep)(A:iE X.env.cells scope.names []=some t)(hf:∀b∈D,iF X ag H b)(F:∀b∈D,∃o,s.heap.get? b=some o):
  Inv (cxC X scope t T keep s H D) [] (ow T.length keep σ) H {s with heap:=pushCells (s.heap.push {cls:=.type "dict",data:=.dict #[]}) scope.names}:=by
 have kept:∀b o,s.heap.get? b=Z o->(pushCells (s.heap.push {cls:=.type "dict",data:=.dict #[]}) scope.names).get? b=Z o:=λb o e=>pushCells_keeps _ _ b o (hP1 _ e);have B:=cellsFrom_ok scope.names (s.heap.push {cls:=.type "dict",data:=.dict #[]}) (s.heap.objs.size+1) [] ⟨λ_ _ aq=>(nomatch aq),List.Pairwise.nil⟩ (by rw[hZ1];exact nR1 _);rw[hZ1]at B;have ao:=sa A (λx c q=>by cases q)
 -- a cell of the block: its own or an elder one
 have d:∀x c,(cellsFrom (s.heap.objs.size+1) scope.names t).lookup x=Z c->(s.heap.objs.size+1<=c/\(x,c)∈cellsFrom (s.heap.objs.size+1) scope.names [])\/X.env.cells.lookup x=Z c:=λx c h=>by
  rcases fm h with h1|h1
  ·exact .inl h1
  ·exact .inr (ao x c h1)
 have g:∀x c,X.env.cells.lookup x=Z c->c<s.heap.objs.size:=λx c e=>by
  obtain⟨v,z⟩:=I.cell x c e;exact z.lt
 have w:∀b∈D,b<s.heap.objs.size:=λb l=>by
  obtain⟨o,e⟩:=F b l;exact hL1 e
 have fst:∀b∈D,b∉frs X.stack:=λb l z=>by
  rcases aE.mp (I.stkSub b z)with q|q
  ·exact(hf b l).2.1 q
  ·exact(hf b l).2.2.1 q
 have kindOf:∀x,(cxC X scope t T keep s H D).env.kindOf x=(scope.names.lookup x).map λk=>if(k == NameKind.free&&X.env.scope.kind == .function&&X.env.kindOf x == Z .cell)then NameKind.cell else k:=λx=>hZ
 refine⟨⟨I.ok.mod,C.kind,I.ok.glob,I.ok.blt,nR1 _,λx y c h1 h2=>?_,λx E=>?_,λx c h1 h2=>?_,I.ok.hd,I.ok.frames,.inl O,λb l=>⟨nN1 (w b l),λx c h z=>?_⟩,λb o e=>I.bs b o e,aC I.ok.bsz I.sz,λb o e l=>?_,fst,I.stack,I.stkFree⟩,
  rfl,I.bare,Un.kept kept,⟨λ_=>Y,(Heap.Ns.new s.heap (.type "dict")).keeps (pushCells_keeps _ _),λi x v h1 h2 h3=>?_⟩,λx c h=>?_,I.hok.fresh (nR1 _),λx c h=>?_,λp R=>absurd (show p∈([]:List (cG×Obj))from R) (by simp),I.hok.kept kept,?_⟩
 ·rcases d x c h1 with⟨a1,a2⟩|a1<;>rcases d y c h2 with⟨b1,b2⟩|b1
  ·exact name_of_addr B.apart a2 b2
  ·exact absurd (bw (bx a1) (g y c b1)) (az _)
  ·exact absurd (bw (bx b1) (g x c a1)) (az _)
  ·exact I.ok.inj x y c a1 b1
 ·have L:scope.names.lookup x=some .cell\/scope.names.lookup x=some .free:=by
   rw[kindOf x]at E;cases e:scope.names.lookup x with
   |none=>rw[e]at E;rcases E with z|z<;>cases z
   |some k=>
    rw[e]at E;simp only[oP1]at E;cases k<;>simp_all
  have:((cellsFrom (s.heap.objs.size+1) scope.names t).lookup x).isSome=M:=by
   rcases L with z|z
   ·exact PySem.W.cellsFrom_some _ _ _ (.inl z)
   ·exact PySem.W.cellsFrom_some _ _ _ (.inr (kQ A (.inl z)))
  exact aO.mp this
 ·have f:scope.names.lookup x=Z .cell:=by simpa[cxC]using h1
  have:=ml f h2;exact aC (aV _) this
 ·subst z;rcases d x c h with⟨a1,_⟩|a1
  ·exact absurd (bw (bx a1) (w c l)) (az _)
  ·exact(hf c l).2.2.2.2.1 x c a1 O
 ·rcases(hf b l).2.2.2.1 with z|z
  ·exact I.ok.noex b o e z
  ·exact absurd (nL1 (hL1 e) (aC I.ok.bsz z)) (az _)
 ·-- a name of the block that has a value:one of the outer text's
  have hi:T.length<=i:=by
   refine Nat.le_of_not_lt λhi=>?_;unfold ow at h2;rw[gL1 (by rw[lR1];exact hi),aQ]at h2;split at h2<;>cases h2
  unfold ow at h2;rw[gR1 (by rw[lR1];exact hi),lR1,gP1]at h2;obtain⟨j,P,h2⟩:=oM1.mp h2;have f:X.N.getD j (Str.ofString "")=x:=by
   have f:(T++keep.map λi=>X.N.getD i (Str.ofString ""))[i]?=Z x:=h1;rw[gR1 hi,gP1,P]at f;exact Option.some.inj f
  obtain⟨y,N,Q,ky,ny⟩:=C.free j (gM1 P);have G:y=x:=by rw[<- f,bA,N];rfl
  subst G;have am:σ[j]?=Z (Z v):=by
   cases e:σ[j]? with
   |none=>rw[e]at h2;cases h2
   |some o=>rw[e]at h2;cases h2;rfl
  obtain⟨m,hn,U⟩:=I.loc;obtain⟨u,wq,V⟩:=U j y v N am (by
   rcases ky with z|z
   ·exact .inr (.inl z)
   ·exact .inr (.inr z))
  refine⟨u,wq,?_⟩;rcases V with⟨z,_⟩|⟨_,c,W,zc⟩
  ·rcases ky with q|q<;>(rw[z]at q;cases q)
  ·right;refine⟨?_,c,?_,zc.keeps kept⟩
   ·rw[kindOf,Q];simp only[oP1];split
    ·exact .inl O
    ·exact .inr O
   ·obtain⟨c',e'⟩:=aO.mp (PySem.W.cellsFrom_some scope.names (s.heap.objs.size+1) t (.inr (kQ A (.inl Q))):((cellsFrom (s.heap.objs.size+1) scope.names t).lookup y).isSome=M);have au:(cellsFrom (s.heap.objs.size+1) scope.names t).lookup y=Z c':=e';rcases d y c' au with⟨a1,a2⟩|a1
    ·-- an own cell of that name:its kind would be cell
     exfalso;have:∀(names:List (Str×NameKind)) (n:Nat),(y,c')∈cellsFrom n names []->(y,NameKind.cell)∈names:=by
      have app:∀(names:List (Str×NameKind)) (m:Nat) (acc:List (Str×cG)),cellsFrom m names acc=cellsFrom m names []++acc:=by
       intro names
       induction names with
       |nil=>intro m acc;rfl
       |cons p r ih=>
        obtain⟨z,q⟩:=p;intro m acc;unfold cellsFrom;split
        ·rw[ih _ ((z,m)::acc),ih _ [(z,m)],bv];rfl
        ·exact ih m acc
      intro names
      induction names with
      |nil=>intro n h;cases h
      |cons p r ih=>
       obtain⟨z,q⟩:=p;intro n h;unfold cellsFrom at h;split at h
       ·rename_i S;rw[app]at h;rcases aF.mp h with h|h
        ·exact mC1 _ (ih _ h)
        ·have:(y,c')=(z,n):=by simpa using h
         cases this;have K:q=NameKind.cell:=by simpa using S
         subst K;exact mS1
       ·exact mC1 _ (ih _ h)
     exact ny (this _ _ a2)
    ·rw[W]at a1;cases a1;exact au
 ·rcases d x c h with⟨a1,a2⟩|a1
  ·exact⟨_,(B.empty x c a2).1⟩
  ·obtain⟨v,z⟩:=I.cell x c a1;exact⟨v,z.keeps kept⟩
 ·rcases d x c h with⟨a1,a2⟩|a1
  ·exact I.hok.fresh (bx a1)
  ·exact I.freeC x c a1
 ·show(ow T.length keep σ).length=(T++keep.map λi=>X.N.getD i (Str.ofString "")).length;unfold ow;rw[lA1,lA1,lR1,lM1,lM1]
noncomputable def oX(p:Pos)(tg:Expr)(ifs:List Expr)(it:cE)(env:Env)(emit:Sem Unit)(c:Code):Sem PySem.Fin:=do
 standAt p
 match<-pyNext it with
 |none=>pure (.done .next)
 |some v=>
  letOwnedTupleGo tg it v
  assign tg env v
  let mut ok:=M
  for c in ifs do
   if ok then ok<-isTrue c env (eval c env)
  if ok then emit
  again c
noncomputable def qa(elt:Expr)(acc:cE)(env:Env):Sem Unit:=do let _<-call (.builtin "list.append") [acc,<- eval elt env]
theorem vF(elt tg iter:Expr)(ifs:List Expr)(scope:cS)(pos:Pos)(it acc:cE)(env:Env):
  compTurn (.ListComp elt [⟨tg,iter,ifs,0⟩] scope pos) 0 it acc env=oX iter.pos tg ifs it env (qa elt acc env) (.compLoop (.ListComp elt [⟨tg,iter,ifs,0⟩] scope pos) 0 it acc env):=by rfl
def mz(X:Cx)(ifs:List Expr)(t:TT):Prop:=
 ∀(ag:List (cG×Obj)) (s:cF) (σ:L2.St) (H:Hp) (Q:Bool->Hp->Prop),Inv X ag σ H s->t σ H Q ->
  cO (model X.prog X.w) X.A (forIn ifs M λc r=>if r=M then do let ok<-isTrue c X.env (eval c X.env);pure (ForInStep.yield ok)else pure (ForInStep.yield r)) (TP X ag σ Q) X.xe s
theorem wp{X:Cx}:mz X [] (fun σ H Q=>Q M H):=λag s σ H Q I h=>wpAny_tests_nil ⟨H,I,h⟩
theorem wo{X:Cx}{c:Expr}{t:TT}(h:PT X c t):mz X [c] t:=λag s σ H Q I q=>wpAny_tests_one (h ag s σ H Q I q)
def PU(X:Cx)(m:Sem Unit)(t:TS):Prop:=
 ∀(ag:List (cG×Obj)) (s:cF) (σ:L2.St) (H:Hp) (E:im),Inv X ag σ H s->t E σ H->cO (model X.prog X.w) X.A m (λ_ s'=>∃ σ' H',Inv X ag σ' H' s'/\E.nx σ' H') X.xe s
theorem nv{X:Cx}(hx:X.xe=fun _ _=>False)(hc:X.calm=true){elt:Expr}{c:List Comprehension}{scope:cS}{pos p:Pos}{d:Nat}{tg:Expr}{ifs:List Expr}{acc:cE}{emit:Sem Unit}{am:It}{w:List cG}{it:cG}{P:Nat->cP->Prop}{g:TG}{wq:TT}{tb:TS}(eq:compTurn (.ListComp elt c scope pos) d (.ref it) acc X.env=oX p tg ifs (.ref it) X.env emit (.compLoop (.ListComp elt c scope pos) d (.ref it) acc X.env))(T:sr X.prog X.w X.K tg am w it P)(hg:PG X tg g)(hi:mz X ifs wq)(he:PU X emit tb){ag:List (cG×Obj)}{s:cF}{σ:L2.St}{H:Hp}{D:im}(I:Inv X ag σ H s)(st:P 0 s.heap)(aq:∀b∈w,iF X ag H b)(h:∃W:Nat->Nat->L2.St->Hp->Prop,(∃m,W 0 m σ H) /\ ∀i m σ H,W i m σ H ->
   (am.stop i H/\D.nx σ H)\/(am.go i H /\ ∃N:L2.St->Hp->Prop,(∀a H',N a H' -> ∃au,au<m/\W (i+1) au a H') /\ ∀x H',am.yld i H x H'->g x σ H' λz H2=>wq z H2 λb y=>if b=M then tb {D with nx:=N} z y else N z y)):
  codeAny (model X.prog X.w) X.A (.compLoop (.ListComp elt c scope pos) d (.ref it) acc X.env) (λr s'=>match r with | .ok _=>∃a H',Inv X ag a H' s'/\D.nx a H' | .error _=>False) s:=by
 obtain⟨W,⟨m0,w0⟩,L⟩:=h;have k:∀{H':Hp},(∀b∈w,H' b=Y) -> ∀b∈w,iF X ag H' b:=λhn b l=>⟨hn b l,(aq b l).2⟩;refine codeAny_loop O (λn s'=>∃i a H',Inv X ag a H' s'/\P i s'.heap/\(∀b∈w,H' b=Y)/\W i n a H') ?_ m0 ⟨0,σ,H,I,st,λb l=>(aq b l).1,w0⟩;rintro n R ⟨i,j,y,I3,F,K,w3⟩;show cO _ _ ((compTurn (.ListComp elt c scope pos) d (.ref it) acc X.env).onRaise (λx=>do noteFrame x X.env;theTreesLotGoes x)) _ _ R;refine wpAny_noted ?_;rw[eq];have B:∀{α:Type} {m:Sem α} {Q:α->cF->Prop} {s:cF} {E:cE->cF->Prop},cO (model X.prog X.w) X.A m Q X.xe s->cO (model X.prog X.w) X.A m Q E s:=λh=>by
  rw[hx]at h;exact wpAny_mono h (λ_ _ q=>q) λ_ _ q=>q.elim
 unfold oX;refine wB1 (wpAny_standAt (wB1 ?_));rcases L i n j y w3 with⟨G,qn⟩|⟨go,N,hN,step⟩
 ·refine B (ee (T.done X O O O hc i ag R j y X.xe I3 (k K) F G) λr s4 ⟨U,I4⟩=>?_);subst U;exact wP1 ⟨j,y,I4,qn⟩
 ·refine B (ee (T.item X rfl rfl rfl hc i ag R j y X.xe I3 (k K) F go) fun r s4 ⟨u,U,h4⟩=>?_);subst U;refine wB1 (B (ee h4 fun _ s5 ⟨x,H5,I5,r5,y5,t,V⟩=>?_));have S:=I5.pinned (k V) (T.obj _ _ t);refine wB1 (B (ee (hg _ s5 j H5 x u _ S r5 (step x H5 y5)) fun _ s6 ⟨ao,H6,I6,q6⟩=>?_));refine wB1 (B (ee (hi _ s6 ao H6 _ I6 q6) fun ok C ⟨v,A,q7⟩=>?_));have again':∀ {f:L2.St} {v:Hp} {C:cF},Inv X (ag++lp w s5.heap) f v C->N f v -> ∃ m,m<n /\ ∃ i a H',Inv X ag a H' C/\P i C.heap/\(∀ b∈w,H' b=none)/\W i m a H':=fun {f v C} A n7=>by
   obtain⟨au,hm,w7⟩:=hN f v n7;refine⟨au,hm,i+1,f,v,A.unpinned,T.keep _ _ _ t λb l o e=>(A.pin (b,o) (mA1 _ (mA1 _ (gX l e)))).1,λb l=>?_,w7⟩;obtain⟨o,e,d⟩:=T.obj _ _ t b l;exact(A.pin (b,o) (mA1 _ (mA1 _ (gX l e)))).2.1
  cases ok with
  |false=>exact wP1 ⟨O,again' A q7⟩
  |true=>exact wB1 (B (ee (he _ C ao v _ A q7) λ_ s8 ⟨σ8,H8,I8,q8⟩=>wP1 ⟨O,again' I8 q8⟩))
noncomputable def sL(p:cG)(te:TE):TS:=λD σ H=>te σ H λx H1=>∃xs,H1 p=Z (.lst xs)/\xs.length<cN/\D.nx σ (upd H1 p (.lst (xs++[x])))
theorem sR{X:Cx}{elt:Expr}{te:TE}(h:PE X elt te)(p:cG):PU X (qa elt (.ref p) X.env) (sL p te):=by
 intro ag s σ H E I q;unfold qa;refine wB1 (ee (h ag s σ H _ I q) λu c ⟨x,H1,d,e,xs,b,g,f⟩=>?_);refine wB1 (ee (m4 ag c σ H1 (.ref p) [x] (.ref p) [u] (λ_ H'=>E.nx σ H') d O (.cons e .nil) ⟨p,xs,x,O,O,b,g,f⟩) λ_ j ⟨_,H2,i,_,a⟩=>?_);exact wP1 ⟨σ,H2,i,a⟩
noncomputable def AD(am:It)(g:TG)(ti:TT)(tb:TS):TS:=λD σ H=>∃W:Nat->Nat->L2.St->Hp->Prop,(∃m,W 0 m σ H) /\ ∀i m σ H,W i m σ H ->
 (am.stop i H/\D.nx σ H)\/(am.go i H /\ ∃N:L2.St->Hp->Prop,(∀ σ' H',N σ' H' -> ∃m',m'<m/\W (i+1) m' σ' H') /\ ∀x H',am.yld i H x H'->g x σ H' fun σ2 H2=>ti σ2 H2 λb H3=>if b=M then tb {D with nx:=N} σ2 H3 else N σ2 H3)
theorem Un.sameBut{fs ex:List cG}{H H':Hp}{h h1 h2:cP}{c:cG}(u:Un fs ex H H' h h1)(hs:Heap.SameBut c h1 h2)(hc:h.get? c=Y):Un fs ex H H' h h2:=by
 have ne:∀{b o},h.get? b=Z o->b≠c:=λe z=>by rw[z,hc]at e;cases e
 refine⟨λb o e n d a=>(hs.2 b (ne e)).trans (u.keep b o e n d a),λb o e n d a=>?_,u.free,λb o e a=>?_,u.tups,u.frzs,u.tbls⟩
 ·obtain⟨f,q⟩:=u.slot b o e n d a;exact⟨f,(hs.2 b (ne e)).trans q⟩
 ·obtain⟨o',q⟩:=u.there b o e a;exact⟨o',(hs.2 b (ne e)).trans q⟩
noncomputable def vN(k:Nat)(keep:List Nat)(wi:TI)(g:TG)(ti:TT)(tb:cG->TS):TE:=fun σ H Q=>wi σ H λam H1=>∀p,H1 p=Y ->
 AD am g ti (tb p) {nx:=λ_ H'=>Q (.ref p) H',rt:=λ_ _=>False} (ow k keep σ) (upd H1 p (.lst []))
theorem y3{X:Cx}(hc:X.calm=true){elt tg iter:Expr}{ifs:List Expr}{rest:List Comprehension}{scope:cS}{pos:Pos}{T:List Str}{keep:List Nat}{k:List (Str×cG)}{N:TI}{g:TG}{G:TT}{tb:cG->TS}{emit:cE->Env->Sem Unit}(eq:∀it l i,compTurn (.ListComp elt (⟨tg,iter,ifs,0⟩::rest) scope pos) 0 it l i=oX iter.pos tg ifs it i (emit l i) (.compLoop (.ListComp elt (⟨tg,iter,ifs,0⟩::rest) scope pos) 0 it l i))(C:E1 X scope T keep)(u:iE X.env.cells scope.names []=some k)(hi:PI X tg iter N)(hb:∀s H d p,PG (cxC X scope k T keep s H d) tg g/\mz (cxC X scope k T keep s H d) ifs G/\PU (cxC X scope k T keep s H d) (emit (.ref p) (cxC X scope k T keep s H d).env) (tb p))(hs:∀x,foldedSetIterable iter X.env x=pure x:=by intro _;rfl):
  PE X (.ListComp elt (⟨tg,iter,ifs,0⟩::rest) scope pos) (vN T.length keep N g G tb):=by
 intro ag s σ H Q I h;rw[eval_ListComp];refine wpAny_comprehension_free (use:=Y) O hs (xN u) C.kind C.names ?_;refine ee (hi ag s σ H _ I h) λv s1 h1=>ee h1 λau a h2=>?_;obtain⟨it,d,tn,am,H2,rfl,L,TT,w,F,q2⟩:=h2;refine wO1 ?_;have ao:Inv X ag σ (upd H2 a.heap.objs.size (.lst [])) {a with heap:=a.heap.push {cls:=.type "list",data:=.seq ([]:List cE).toArray}}:=L.lnew (t':=a.toks) .nil (bd _);have old:∀b∈d,∃o,a.heap.get? b=Z o:=λb hb=>by
  obtain⟨o,e,_⟩:=TT.obj 0 a.heap w b hb;exact⟨o,e⟩
 have D:∀b∈d,b≠a.heap.objs.size:=λb hb z=>by
  obtain⟨o,e⟩:=old b hb;have:=hL1 e;rw[z]at this;exact az _ this
 have A:∀b∈d,iF X ag (upd H2 a.heap.objs.size (.lst [])) b:=λb hb=>⟨by rw[di (D b hb)];exact(F b hb).1,(F b hb).2⟩;have o3:∀b∈d,∃o,({a with heap:=a.heap.push {cls:=.type "list",data:=.seq ([]:List cE).toArray}}:cF).heap.get? b=Z o:=λb hb=>by
  obtain⟨o,e⟩:=old b hb;exact⟨o,hP1 _ e⟩
 have B:=pO ao C u A o3;obtain⟨R,W,U⟩:=hb {a with heap:=a.heap.push {cls:=.type "list",data:=.seq ([]:List cE).toArray}} (upd H2 a.heap.objs.size (.lst [])) d a.heap.objs.size;refine iJ ?_;have f4:∀b∈d,iF (cxC X scope k T keep {a with heap:=a.heap.push {cls:=.type "list",data:=.seq ([]:List cE).toArray}} (upd H2 a.heap.objs.size (.lst [])) d) [] (upd H2 a.heap.objs.size (.lst [])) b:=λb hb=>
  ⟨(A b hb).1,(B.ok.exf b hb).1,B.ok.exfs b hb,.inl hb,(B.ok.exf b hb).2,λp P=>absurd (show p∈([]:List (cG×Obj))from P) (by simp)⟩
 have y:tn 0 (pushCells ((a.heap.push {cls:=.type "list",data:=.seq ([]:List cE).toArray}).push {cls:=.type "dict",data:=.dict #[]}) scope.names):=
  TT.keep 0 a.heap _ w λb hb o e=>pushCells_keeps scope.names _ b o (hP1 _ (hP1 _ e))
 have j:=nv (X:=cxC X scope k T keep {a with heap:=a.heap.push {cls:=.type "list",data:=.seq ([]:List cE).toArray}} (upd H2 a.heap.objs.size (.lst [])) d) O hc (eq (.ref it) (.ref a.heap.objs.size) _) TT R W U B y f4
  (q2 a.heap.objs.size (L.hok.fresh (nR1 _)))
 refine codeAny_mono (codeAny_compStart_list j (TT.self X.A 0 _ _ _ y j)) λr s' K=>?_;cases r with
 |error e=>exact K.elim
 |ok f=>
  obtain⟨S,H',n,aq⟩:=K;obtain⟨m,V,_⟩:=id n.loc;refine⟨m,V,λh' t=>⟨.ref a.heap.objs.size,H',?_,O,aq⟩⟩;refine ao.call' (s':={s' with heap:=h'}) (ch:=d) n.os (Un.sameBut n.base t (Heap.get?_none_of_le (nR1 _))) (λb wq e=>?_) n.bare λb hb=>(A b hb).2.2.2 |> λz=>⟨z.1,(A b hb).2.1,z.2.1,z.2.2⟩
  refine(n.hok b wq e).stay (λc w' hc q=>(t.2 c ?_).trans q) (λ_ q=>q) λ_ _ q=>q;rintro rfl;have E:=n.free;rcases hc with rfl|hc
  ·exact nomatch E.symm.trans e
  ·exact nomatch E.symm.trans hc
section
variable{K:Fg1}{H:Hp}{mu:List cG}{S:cV}{p:cG}{u:HO}{o:Ob}{n:Nat}
theorem Rd.ne{a:cG}{x:HO}(h:H p=Y)(q:Rd H a x):a≠p:=by
 rintro rfl;rcases q with q|⟨_,q⟩<;>(rw[h]at q;cases q)
theorem Ext.fresh(hp:H p=Y):Ext mu mu H (upd H p u) where
 pre:=bh
 old:=λa o h _=>by rw[di (dA h hp)];exact h
 tup:=λa xs h=>by
  have ne:=Rd.ne hp h;rcases h with h|⟨b,h⟩
  ·exact .inl (by rw[di ne];exact h)
  ·exact .inr ⟨b,by rw[di ne];exact h⟩
 frz:=λa o x h=>by rw[di (dA h hp)];exact h
 new:=λ_ h=>.inl h
theorem Ext.new_(hp:H p=Y):Ext mu (mu++[p]) H (upd H p u) where
 pre:=bo _ _
 old:=(Ext.fresh (mu:=mu) hp).old
 tup:=(Ext.fresh (mu:=mu) hp).tup
 frz:=(Ext.fresh (mu:=mu) hp).frz
 new:=λa h=>by
  rcases aF.mp h with h|h
  ·exact .inl h
  ·have:a=p:=by simpa using h
   subst this;exact .inr hp
theorem Sim.fresh(s:Sim K H mu S)(hp:H p=Y):Sim K (upd H p u) mu S:=
 ⟨s.len,s.nd,λk o a h1 h2=>(s.ob k o a h1 h2).keep (Ext.fresh hp) λb e=>by rw[di (dA e hp)];exact e⟩
theorem Sim.notin(s:Sim K H mu S)(hp:H p=Y):p∉mu:=λh=>by
 obtain⟨o,e⟩:=s.here h;rw[hp]at e;cases e
theorem l9.more{a:cG}{mu':List cG}{H':Hp}(e:Ext mu mu' H H')(h:∀o,H a=Z o->H' a=Z o):∀{o:Ob},l9 K H mu a o->l9 K H' mu' a o
 | .lst _,⟨vs,q,r⟩=>⟨vs,h _ q,r.ext e⟩
 | .dct _,⟨ws,q,r⟩=>⟨ws,h _ q,KR.ext e r⟩
 | .dcT _,⟨ws,q,r,l⟩=>⟨ws,h _ q,KT.ext e r,l⟩
 | .iset _,q=>⟨h _ q.1,q.2⟩
 | .dcF _,⟨ws,⟨o,u,b,c⟩,r,l⟩=>⟨ws,⟨o,u,h _ b,c⟩,KT.ext e r,l⟩
 | .tst _,⟨ws,q,r⟩=>⟨ws,h _ q,KT.ext e r⟩
theorem Sim.new(s:Sim K H mu S)(hp:H p=Y)(ho:l9 K (upd H p u) (mu++[p]) p o):Sim K (upd H p u) (mu++[p]) (S++[o]):=by
 refine⟨by rw[lA1,lA1,s.len];rfl,?_,λk o' a h1 h2=>?_⟩
 ·rw[bq];refine⟨s.nd,by simp,λa g b f e=>?_⟩;have:b=p:=by simpa using f
  subst this;subst e;exact s.notin hp g
 ·by_cases d:k<S.length
  ·rw[gL1 d]at h1;rw[gL1 (by rw[s.len];exact d)]at h2;exact(s.ob k o' a h1 h2).more (Ext.new_ hp) λh e=>by rw[di (dA e hp)];exact e
  ·have c:k=S.length:=by
    have:=(gE1.mp h1).1;rw[lA1]at this;simp at this;lia
   subst c;rw[gR1 (nR1 _)]at h1;rw[<- s.len,gR1 (nR1 _)]at h2;simp at h1 h2;subst h1;subst h2;exact ho
theorem Ext.put{x:HO}(hp:H p=Z x)(hm:Dd (Z x))(b:p∈mu):Ext mu mu H (upd H p u) where
 pre:=bh
 old:=λa o h n=>by rw[di (λe=>n (by rw[e];exact b))];exact h
 tup:=λa xs h=>by
  have ne:a≠p:=by
   rintro rfl;rcases h with h|⟨_,h⟩<;>(rw[hp]at h;cases h;exact hm)
  rcases h with h|⟨c,h⟩
  ·exact .inl (by rw[di ne];exact h)
  ·exact .inr ⟨c,by rw[di ne];exact h⟩
 frz:=λa o y h=>by
  rw[di (λe=>?_)]
  ·exact h
  ·subst e;rw[hp]at h;cases h;exact hm
 new:=λ_ h=>.inl h
theorem Sim.put(s:Sim K H mu S){x:HO}(hn:mu[n]?=Z p)(hp:H p=Z x)(hm:Dd (Z x))(ho:l9 K (upd H p u) mu p o):Sim K (upd H p u) mu (S.set n o):=by
 refine⟨by rw[aT];exact s.len,s.nd,λk o' a h1 h2=>?_⟩;by_cases b:n=k
 ·subst b;have f:n<S.length:=by
   have:=(gE1.mp h1).1
   rwa [aT]at this
  rw[aH f]at h1;cases h1;rw[hn]at h2;cases h2;exact ho
 ·rw [gS1 b] at h1;have ne:a≠p:=fun e=>by
   subst e;obtain⟨g,c⟩:=gE1.mp hn;obtain⟨h,d⟩:=gE1.mp h2;exact b ((List.getElem_inj s.nd).mp (c.trans d.symm))
  exact(s.ob k o' a h1 h2).keep (Ext.put hp hm (gM1 hn)) λi e=>by rw[di ne];exact e
theorem Sim.lst(s:Sim K H mu S){ds:List D}{a:cG}(h:S[n]?=Z (.lst ds))(hn:mu[n]?=Z a):∃vs,H a=Z (.lst vs)/\c5 K H mu ds vs:=s.ob n _ a h hn
theorem Sim.dcT(s:Sim K H mu S){ks:List (TK×D)}{a:cG}(h:S[n]?=Z (.dcT ks))(hn:mu[n]?=Z a):∃ws,H a=Z (.ext (gy a ws))/\KT K H mu ks ws/\ws.length<=cN:=s.ob n _ a h hn
theorem Sim.dct(s:Sim K H mu S){ks:List (Key×D)}{a:cG}(h:S[n]?=Z (.dct ks))(hn:mu[n]?=Z a):∃ws,H a=Z (.dK ws)/\KR K H mu ks ws:=s.ob n _ a h hn
theorem Sim.newL(s:Sim K H mu S){ds:List D}{vs:List V}(r:c5 K H mu ds vs)(hp:H p=Y):Sim K (upd H p (.lst vs)) (mu++[p]) (S++[.lst ds]):=s.new hp ⟨vs,dr,r.ext (Ext.new_ hp)⟩
theorem Sim.putL(s:Sim K H mu S){ds:List D}{vs ws:List V}(r:c5 K H mu ds vs)(hn:mu[n]?=Z p)(hp:H p=Z (.lst ws)):Sim K (upd H p (.lst vs)) mu (S.set n (.lst ds)):=
 s.put hn hp trivial ⟨vs,dr,r.ext (Ext.put hp trivial (gM1 hn))⟩
end
theorem fC{mu:List cG}{S:cV}(h:mu.length=S.length)(p:cG):(mu++[p])[S.length]?=Z p:=by
 rw[<- h,gR1 (nR1 _)];simp
noncomputable def dL (a:FA):FE:=λr S=>(a r S).bind λp=>if p.1.length<=cN then some (.tup p.1,p.2)else none
noncomputable def fe (a:FA):FE:=λr S=>(a r S).bind λp=>if p.1.length<=cN then some (.ref p.2.length,p.2++[.lst p.1])else none
section
variable{X:Cx}{es:List Expr}{pos:Pos}{a:FA}
theorem Ch{x1}(h:MA X es a):ME X (.Tuple es x1 pos) (dL a):=dX (BA h) <| by
 rintro σ H Q ⟨r,mu,S,d,m,f,j,b,hc⟩;obtain⟨⟨ds,l⟩,g,b⟩:=oB1.mp b;dsimp only at b;split at b
 ·rename_i k;cases b;refine⟨r,mu,S,ds,_,f,j,g,λvs H1 mu1 x1 e i=>⟨by rw[<- e.length];exact k,λp c=>?_⟩⟩;exact hc _ _ mu1 (x1.trans (Ext.fresh c)) (.tup (iV.of dr) (e.ext (Ext.fresh c))) (i.fresh c)
 ·cases b
theorem Cm(h:MA X es a):ME X (.List es pos) (fe a):=dX (BD h) <| by
 rintro σ H Q ⟨r,mu,S,d,n,g,k,b,hc⟩;obtain⟨⟨ds,m⟩,i,b⟩:=oB1.mp b;dsimp only at b;split at b
 ·rename_i l;cases b;refine⟨r,mu,S,ds,_,g,k,i,λvs H1 mu1 j f e=>⟨by rw[<- f.length];exact l,λp c=>?_⟩⟩;exact hc _ _ (mu1++[p]) (j.trans (Ext.new_ c)) (.ref (fC e.len p)) (e.newL f c)
 ·cases b
end
noncomputable def pP(k:Nat)(keep:List Nat)(r:Ev):Ev:=aN k Y++keep.map λi=>(r[i]?).join
noncomputable def eZ:FT:=λ_ S=>Z (M,S)
theorem Ep{K:Fg1}{H:Hp}{mu:List cG}{r:Ev}{σ:L2.St}(k:Nat)(keep:List Nat)(h:ei K H mu r σ):ei K H mu (pP k keep r) (ow k keep σ):=by
 refine⟨by unfold pP ow;rw[lA1,lA1,lM1,lM1,lR1,lR1],λi d e=>?_⟩;unfold pP at e;unfold ow;by_cases hi:i<k
 ·rw[gL1 (by rw[lR1];exact hi),aQ]at e;split at e<;>cases e
 ·rw [gR1 (by rw [lR1];lia),lR1,gP1] at e;rw [gR1 (by rw [lR1];lia),lR1,gP1];obtain ⟨j,c,e⟩:=oM1.mp e;rw [c];have b:r[j]? = some (some d):=by
   cases q:r[j]? with
   |none=>rw[q]at e;cases e
   |some o=>rw[q]at e;cases e;rfl
  obtain⟨v,a,f⟩:=h.val j d b;exact⟨v,by rw[oP1,a];rfl,f⟩
section
variable{X:Cx}
theorem wr{ifs:List Expr}{t t':L2.TT}(h:mz X ifs t)(i:∀ σ H Q,t' σ H Q->t σ H Q):mz X ifs t':=λag s σ H Q I q=>h ag s σ H Q I (i σ H Q q)
theorem zw:mz X [] (yx X.K eZ):=wr wp fun σ H Q ⟨r,mu,S,b,e,d,c,a,hc⟩=>by cases a;exact hc H mu (.refl _ _) c
theorem zv{c:Expr}{t:FT}(h:MT X c t):mz X [c] (yx X.K t):=wo h
end
open PySem.AutoSeq1 (wpAny_loadPart')
def SIt(b:Bool)(h:cP)(it a:cG)(i:Nat):Prop:=match b with
 |true=>h.IsListIter it a i
 |false=>h.IsTupleIter it a i
def SCo(b:Bool)(h:cP)(a:cG)(xs:Array cE):Prop:=match b with
 |true=>h.IsList a xs
 |false=>h.IsTuple a xs
theorem SIt.to{b:Bool}{h h':cP}{it a:cG}{i:Nat}(x:SIt b h it a i)(k:∀o,h.get? it=Z o->h'.get? it=Z o):SIt b h' it a i:=by
 cases b<;>(obtain⟨o,e,r⟩:=x;exact⟨o,k o e,r⟩)
theorem SIt.rec_{b:Bool}{h:cP}{it a:cG}{i:Nat}(x:SIt b h it a i):∃o,h.get? it=Z o /\ ∀v,o.data ≠ .cell v:=by
 cases b<;>(obtain⟨o,e,c,d⟩:=x;exact⟨o,e,λv z=>by rw[d]at z;cases z⟩)
theorem SCo.to{b:Bool}{h h':cP}{a:cG}{xs:Array cE}(x:SCo b h a xs)(k:∀o,h.get? a=Z o->h'.get? a=Z o):SCo b h' a xs:=by
 cases b<;>(obtain⟨o,e,r⟩:=x;exact⟨o,k o e,r⟩)
noncomputable def fA(b:Bool)(a:cG):Obj:=match b with
 |true=>{cls:=.type "list_iterator",data:=.fields #[.ref a,.int 0 0]}
 |false=>{cls:=.type "tuple_iterator",data:=.fields #[.ref a,.int 0 0]}
section
variable{prog:cH}{w:cJ}{A:cI}{E:cE->cF->Prop}{s:cF}
theorem nT{b:Bool}{h:cP}{it a:cG}(e:h.get? it=Z (fA b a)):SIt b h it a 0:=by
 cases b<;>exact⟨_,e,O,O⟩
theorem i3{b:Bool}{a:cG}{xs:Array cE}{Q:cE->cF->Prop}(x:SCo b s.heap a xs)(h:Q (.ref s.heap.objs.size) {s with heap:=s.heap.push (fA b a)}):cO (model prog w) A (pyIter (.ref a)) Q E s:=by
 cases b
 ·exact wpAny_pyIter_tuple x h
 ·exact wpAny_pyIter_list x h
theorem wJ{it l:cG}{i:Nat}{xs:Array cE}{x:cE}{Q:cE->cF->Prop}(c:s.heap.IsTupleIter it l i)(tl:s.heap.IsTuple l xs)(hx:xs[i]? = Z x)(f:∀h',h'.IsTupleIter it l (i+1)->Heap.SameBut it s.heap h'->Q x {s with heap:=h'}):cO (model prog w) A (Builtin.SmallTypes.nextOf (.ref it)) Q E s:=by
 obtain⟨o,b,hc,a⟩:=id c;obtain⟨h,e,_,g,d⟩:=tl;unfold Builtin.SmallTypes.nextOf;refine wB1 (wpAny_callSpecial?_slot (name:=Str.ofString "__next__") c.typeIs F.slot_tuple_iterator_next (wE1 F.slot_tuple_iterator_next c.typeIs F.entry_tuple_iterator_next ?_ (F.args_tuple_iterator_next_1 _)));show cO _ _ (field (.ref it) 0 >>= _) _ _ s;refine wB1 (wpAny_field b a (x:=.ref l) O ?_);show cO _ _ (if(Value.ref l == Value.none)=M then _ else _) _ _ s;rw[aj (show¬ ((Value.ref l == Value.none)=M)from aJ)];show cO _ _ (field (.ref it) 1 >>= _) _ _ s;refine wB1 (wpAny_field b a (x:=.int i 0) O ?_);show cO _ _ (seqItems? (.ref l) >>= _) _ _ s;refine wB1 (wpAny_seqItems e d ?_);simp only[Int.toNat_natCast,hx];refine wB1 (wpAny_setField b a (by simp) (wP1 ⟨x,O,wP1 (f _ ⟨_,hW1 _ b (Obj.isFreed_of_fields (Obj.data_mapFields a _)),(Obj.cls_mapFields ..).trans hc,by rw[Obj.data_mapFields a];simp[rawInt]⟩ (Heap.SameBut.update ..))⟩))
theorem og {it l:cG}{i:Nat}{xs:Array cE}{Q:cE->cF->Prop}(h:A.handled=none)(d:s.heap.IsTupleIter it l i)(tl:s.heap.IsTuple l xs)(hx:xs[i]? = none)
  (j:∀h' e,Heap.ExtBut it s.heap h'->(∃o,h'.get? e=Z o/\o.cls = .type "StopIteration")->E (.ref e) {s with heap:=h'}):cO (model prog w) A (Builtin.SmallTypes.nextOf (.ref it)) Q E s:=by
 obtain⟨o,b,hc,c⟩:=id d;obtain⟨n,g,_,k,f⟩:=tl;unfold Builtin.SmallTypes.nextOf;refine wB1 (wpAny_callSpecial?_slot (name:=Str.ofString "__next__") d.typeIs F.slot_tuple_iterator_next (wE1 F.slot_tuple_iterator_next d.typeIs F.entry_tuple_iterator_next ?_ (F.args_tuple_iterator_next_1 _)));show cO _ _ (field (.ref it) 0 >>= _) _ _ s;refine wB1 (wpAny_field b c (x:=.ref l) O ?_);show cO _ _ (if(Value.ref l == Value.none)=M then _ else _) _ _ s;rw[aj (show¬ ((Value.ref l == Value.none)=M)from aJ)];show cO _ _ (field (.ref it) 1 >>= _) _ _ s;refine wB1 (wpAny_field b c (x:=.int i 0) O ?_);show cO _ _ (seqItems? (.ref l) >>= _) _ _ s;refine wB1 (wpAny_seqItems g f ?_);simp only[Int.toNat_natCast,hx];refine wB1 (wpAny_rule (wB1 (wpAny_setField b c (by simp) ?_)));show cO _ _ (newExc (.type "StopIteration") [] >>= _) _ _ _;refine wB1 ?_;simp only[newExc,newTuple];refine wB1 (wO1 ?_ (by size_fits));refine wB1 (m:=firstArgMember _ _) (wpAny_of_eq (a:=Value.none) (by first|rfl|(simp only[firstArgMember];rfl)) ?_);refine wO1 ?_ (by size_fits);simp only[raiseNew];refine wB1 (wpAny_handled ?_)
 first|rw[show A.in1.handled=Y from h] | rw[h]
 refine wB1 (wP1 (wpAny_throw ?_));exact j _ _ (((Heap.SameBut.update ..).extBut.push _).push _) ⟨_,hS1 _ O,O⟩
theorem jg{b:Bool}{it l:cG}{i:Nat}{xs:Array cE}{x:cE}{Q:cE->cF->Prop}(a:SIt b s.heap it l i)(tl:SCo b s.heap l xs)(hx:xs[i]? = Z x)(c:∀h',SIt b h' it l (i+1)->Heap.SameBut it s.heap h'->Q x {s with heap:=h'}):cO (model prog w) A (Builtin.SmallTypes.nextOf (.ref it)) Q E s:=by
 cases b
 ·exact wJ a tl hx c
 ·exact wpAny_nextOf_list_item a tl hx c
theorem gU {b:Bool}{it l:cG}{i:Nat}{xs:Array cE}{Q:cE->cF->Prop}(d:A.handled=none)(c:SIt b s.heap it l i)(tl:SCo b s.heap l xs)(hx:xs[i]? = none)
  (a:∀h' e,Heap.ExtBut it s.heap h'->(∃o,h'.get? e=Z o/\o.cls = .type "StopIteration")->E (.ref e) {s with heap:=h'}):cO (model prog w) A (Builtin.SmallTypes.nextOf (.ref it)) Q E s:=by
 cases b
 ·exact og d c tl hx a
 ·exact wpAny_nextOf_list_end d c tl hx a
theorem xH{b:Bool}(l:cG)(xs:Array cE):
  Meets (Builtin.«enumerate.__new__» ⟨[.type "enumerate",.ref l],[]⟩) (λ_ R s=>SCo b s.heap l xs /\
   R (.ok (.ret (.ref (s.heap.push (fA b l)).objs.size))) {s with heap:=(s.heap.push (fA b l)).push {cls:=.type "enumerate",data:=.fields #[.none,.bool J,.ref s.heap.objs.size,rawInt 0,.none,.none]}}):=
 .of_wp λprog w A R s h=>by
  obtain⟨a,g,d,tk,k⟩:=s;obtain⟨j,h⟩:=h;have i:=sub_enumerate
  have f:SCo b (Shared.heap ⟨a,g,d,tk,k⟩) l xs:=j;obtain⟨m,el⟩:∃o,a.get? l=some o:=by cases b<;>(obtain⟨o,e,_⟩:=j;exact⟨o,e⟩)
  wp_walk using wpAny_loadPart' el
  refine wpAny_stack_any λst=>wP1 ?_;split
  ·rename_i c _ _ _ _ _;cases(c == Value.type "enumerate")<;>(wp_walk using wpAny_loadPart' el,i3 f;exact⟨_,O,h⟩)
  ·wp_walk using wpAny_loadPart' el,i3 f
   exact⟨_,O,h⟩
theorem uO{b:Bool}{l:cG}{xs:Array cE}{Q:cE->cF->Prop}(f:SCo b s.heap l xs)(h:∀h',IsEnum h' (s.heap.objs.size+1) s.heap.objs.size 0 .none->SIt b h' s.heap.objs.size l 0->h'.objs.size=s.heap.objs.size+2->(∀b o,s.heap.get? b=some o->h'.get? b=some o)->Q (.ref (s.heap.objs.size+1)) {s with heap:=h'}):
  cO (model prog w) A (call (.type "enumerate") [.ref l]) Q E s:=by
 refine callType_new F.called_enumerate (by decide) (F.typeCall_enumerate_1 _) (F.newCall_enumerate_1 _) (λa=>F.args_object_init_2 a _) F.entry_enumerate_new (xH (b:=b) l xs) ⟨f,?_⟩;have d:(s.heap.push (fA b l)).objs.size=s.heap.objs.size+1:=hZ1 ..
 show _/\_;rw[d];have e:IsEnum ((s.heap.push (fA b l)).push {cls:=.type "enumerate",data:=.fields #[.none,.bool J,.ref s.heap.objs.size,rawInt 0,.none,.none]}) (s.heap.objs.size+1) s.heap.objs.size 0 .none:=by
  have q:=hS1 (s.heap.push (fA b l)) (o:={cls:=.type "enumerate",data:=.fields #[.none,.bool J,.ref s.heap.objs.size,rawInt 0,.none,.none]}) O;rw[d]at q;exact q
 have hi:(s.heap.push (fA b l)).get? s.heap.objs.size=Z (fA b l):=hS1 _ (by cases b<;>rfl);refine⟨⟨_,e,O⟩,h _ e (nT (hP1 _ hi)) (by rw[hZ1,d]) λc o x=>hP1 _ (hP1 _ x)⟩
theorem uN {b:Bool}{e it l:cG}{i:Nat}{xs:Array cE}{x old:cE}{Q:Option cE->cF->Prop}(he:IsEnum s.heap e it i old)(U:SIt b s.heap it l i)(tl:SCo b s.heap l xs)(hx:xs[i]? = some x)(k:e≠it)
  (V:∀h',IsEnumOut h' e it ((i:Int)+1) x s.heap.objs.size->SIt b h' it l (i+1)->h'.get? s.heap.objs.size=Z {cls:=.type "tuple",data:=.seq #[.int i s.toks,x]}->h'.objs.size=s.heap.objs.size+1 ->
   (∀b o,b≠e->b≠it->s.heap.get? b=Z o->h'.get? b=Z o)->Q (Z (.ref s.heap.objs.size)) {s with heap:=h',toks:=s.toks+1}):cO (model prog w) A (pyNext (.ref e)) Q E s:=by
 have T:s.TypeIs (.ref e) "enumerate":=⟨_,he,O⟩;unfold pyNext;refine wB1 (wpAny_attempt (wpAny_callSpecial?_slot (name:=Str.ofString "__next__") T F.slot_enumerate_next (wE1 F.slot_enumerate_next T F.entry_enumerate_next ?_ (F.args_enumerate_next_1 _))));obtain⟨h,g,d,tk,t⟩:=s;show cO _ _ (field (.ref e) 2 >>= _) _ _ _;refine wB1 (wpAny_field he O (x:=.ref it) O ?_);refine wB1 (jg U tl hx λh1 H G=>?_);replace G:Heap.SameBut it h h1:=G;have m:IsEnum h1 e it i old:=(G.2 e k).trans he;show cO _ _ (field (.ref e) 3 >>= _) _ _ ⟨h1,g,d,tk,t⟩;refine wB1 (wpAny_field m O (x:=rawInt i) O ?_);show cO _ _ (field (.ref e) 4 >>= _) _ _ ⟨h1,g,d,tk,t⟩;refine wB1 (wpAny_field m O (x:=.none) O ?_);show cO _ _ (mkInt i >>= _) _ _ ⟨h1,g,d,tk,t⟩;refine wB1 (wpAny_mkInt ?_);show cO _ _ (setField (.ref e) 3 (rawInt ((i:Int)+1)) >>= _) _ _ ⟨h1,g,d,tk+1,t⟩;refine wB1 (wS1 m (by simp) λh2 p D=>?_);replace D:Heap.SameBut e h1 h2:=D;replace p:IsEnum h2 e it ((i:Int)+1) old:=p;show cO _ _ (setField (.ref e) 4 .none >>= _) _ _ ⟨h2,g,d,tk+1,t⟩;refine wB1 (wS1 p (by simp) λh3 r C=>?_);replace C:Heap.SameBut e h2 h3:=C;replace r:IsEnum h3 e it ((i:Int)+1) old:=r;show cO _ _ (newTuple [.int i tk,x] >>= _) _ _ ⟨h3,g,d,tk+1,t⟩;refine wB1 (wpAny_newTuple ?_);have j:IsEnum (h3.push {cls:=.type "tuple",data:=.seq #[.int i tk,x]}) e it ((i:Int)+1) old:=hP1 _ r;generalize a:h3.push {cls:=.type "tuple",data:=.seq #[.int i tk,x]}=h4 at j;have n:h3.objs.size=h.objs.size:=by rw[C.1,D.1,G.1]
 have L:e<h.objs.size:=hL1 he;have R:h4.get? h.objs.size=Z {cls:=.type "tuple",data:=.seq #[.int i tk,x]}:=by rw[<- a,<- n];exact hS1 _ O
 have S:h4.objs.size=h.objs.size+1:=by rw[<- a,hZ1,n]
 have ao:∀b o,b≠e->b≠it->h.get? b=Z o->h4.get? b=Z o:=λb o f y P=>by
  rw[<- a];exact hP1 _ (C.extBut b o f (D.extBut b o f (G.extBut b o y P)))
 have au:SIt b h4 it l (i+1):=H.to λo q=>by rw[<- a];exact hP1 _ (C.extBut _ _ (Ne.symm k) (D.extBut _ _ (Ne.symm k) q))
 show cO _ _ (Builtin.SmallTypes.ownedTupleIsFree (.ref e) >>= _) _ _ ⟨h4,g,d,tk+1,t⟩;rw[n];clear a r C p D m G H n h3 h2 h1;refine wB1 ?_;unfold Builtin.SmallTypes.ownedTupleIsFree;refine wB1 (wpAny_field j O (x:=.none) O (wP1 ?_));simp only[if_true];refine wB1 (wpAny_rule ?_);refine wB1 (wpAny_field j O (x:=old) O ?_);refine wB1 (wS1 j (by simp) λh5 u am=>?_);replace am:Heap.SameBut e h4 h5:=am;replace u:IsEnum h5 e it ((i:Int)+1) x:=u;show cO _ _ (Builtin.SmallTypes.ownedTupleHandOut (.ref e) (.ref h.objs.size) >>= _) _ _ ⟨h5,g,d,tk+1,t⟩;refine wB1 ?_;unfold Builtin.SmallTypes.ownedTupleHandOut;refine wB1 (wS1 u (by simp) λh6 v I=>?_);replace I:Heap.SameBut e h5 h6:=I;replace v:IsEnumOut h6 e it ((i:Int)+1) x h.objs.size:=v;refine wS1 v (by simp) λh7 B K=>?_;replace K:Heap.SameBut e h6 h7:=K;replace B:IsEnumOut h7 e it ((i:Int)+1) x h.objs.size:=B;have N:∀c o,c≠e->h4.get? c=Z o->h7.get? c=Z o:=λc o z q=>K.extBut _ _ z (I.extBut _ _ z (am.extBut _ _ z q));refine wB1 (wpAny_letGo (wP1 ⟨_,O,wP1 (V h7 B (au.to λo q=>N _ o (Ne.symm k) q) (N _ _ (nG1 L) R) (by rw[K.1,I.1,am.1,S]) λc o f y P=>N c o f (ao c o f y P))⟩))
theorem xI{b:Bool}{e it l:cG}{i:Nat}{xs:Array cE}{old:cE}{Q:Option cE->cF->Prop}(j:A.handled=Y)(he:IsEnum s.heap e it i old)(h:SIt b s.heap it l i)(tl:SCo b s.heap l xs)(hx:xs[i]? = Y)(f:∀h',Heap.ExtBut it s.heap h'->Q Y {s with heap:=h'}):cO (model prog w) A (pyNext (.ref e)) Q E s:=by
 have d:s.TypeIs (.ref e) "enumerate":=⟨_,he,O⟩;unfold pyNext;refine wB1 (wpAny_attempt (wpAny_callSpecial?_slot (name:=Str.ofString "__next__") d F.slot_enumerate_next (wE1 F.slot_enumerate_next d F.entry_enumerate_next ?_ (F.args_enumerate_next_1 _))));show cO _ _ (field (.ref e) 2 >>= _) _ _ _;refine wB1 (wpAny_field he O (x:=.ref it) O ?_);refine wB1 (gU j h tl hx λh' x a c=>?_);obtain⟨o,g,hc⟩:=c;refine wB1 (wpAny_isInstance (T:="StopIteration") (b:=M) ⟨o,g,hc⟩ isSubtype_stop ?_);exact wP1 (f _ a)
theorem nq{e it:cG}{i:Int}{old:cE}{Q:cE->cF->Prop}(he:IsEnum s.heap e it i old)(h:Q (.ref e) s):cO (model prog w) A (pyIter (.ref e)) Q E s:=by
 have a:s.TypeIs (.ref e) "enumerate":=⟨_,he,O⟩;refine wpAny_pyIter_slot a F.slot_enumerate_iter (wE1 F.slot_enumerate_iter a F.entry_enumerate_iter ?_ (F.args_enumerate_iter_1 _));show cO _ _ (ret (.ref e)) _ _ s;exact wP1 ⟨_,O,"enumerate",_,a,F.slot_enumerate_next.lookup,h⟩
end
open PySem.AutoSeq1 (wpAny_loadPart')
structure Gc (z ti to i1 i2:cG):Prop where
 a1:ti≠z
 a2:to≠z
 a3:i1≠z
 a4:i2≠z
 a5:ti≠to
 a6:ti≠i1
 a7:ti≠i2
 a8:to≠i1
 a9:to≠i2
 a10:i1≠i2
section
variable{prog:cH}{w:cJ}{A:cI}{E:cE->cF->Prop}{s:cF}{b1 b2:Bool}
theorem SCo.ne{b:Bool}{h:cP}{a c:cG}{xs:Array cE}{o:Obj}(x:SCo b h a xs)(e:h.get? c=Z o)(n:∀ys k,o.data ≠ .seq ys k):a≠c:=by
 rintro rfl;cases b<;>(obtain⟨o',f,g,k,d⟩:=x;rw[e]at f;cases f;exact n _ _ d)
theorem SCo.ne_it{b f:Bool}{h:cP}{a it l:cG}{xs:Array cE}{i:Nat}(x:SCo b h a xs)(y:SIt f h it l i):a≠it:=by
 cases f<;>(obtain⟨o,e,c,d⟩:=y;exact x.ne e λys k z=>by rw[d]at z;cases z)
theorem vn{z g to i1 j v r:cG}{S P:Nat}{xs ys:Array cE}{x y a b:cE}{Q:Option cE->cF->Prop}(D:Gc z g to i1 j)(l:IsZip s.heap z g to .none)(hti:IsPair s.heap g (.ref i1) (.ref j))(hto:IsPair s.heap to a b)(n1:v≠to)(n2:r≠to)(h1:SIt b1 s.heap i1 v S)(h2:SIt b2 s.heap j r P)(c1:SCo b1 s.heap v xs)(c2:SCo b2 s.heap r ys)(hx:xs[S]?=some x)(hy:ys[P]?=some y)(hQ:∀h',IsZip h' z g to (rawInt s.heap.objs.size)->IsPair h' to x y->SIt b1 h' i1 v (S+1)->SIt b2 h' j r (P+1)->IsPair h' s.heap.objs.size x y->h'.objs.size=s.heap.objs.size+1 ->
   (∀c o,c≠z->c≠to->c≠i1->c≠j->s.heap.get? c=Z o->h'.get? c=Z o)->Q (Z (.ref s.heap.objs.size)) {s with heap:=h'}):cO (model prog w) A (pyNext (.ref z)) Q E s:=by
 have hT:s.TypeIs (.ref z) "zip":=⟨_,l,O⟩;have X:v≠z:=c1.ne l λ_ _ q=>by cases q
 have aq:r≠z:=c2.ne l λ_ _ q=>by cases q
 have I:r≠i1:=c2.ne_it h1;unfold pyNext;refine wB1 (wpAny_attempt (wpAny_callSpecial?_slot (name:=Str.ofString "__next__") hT F.slot_zip_next (wE1 F.slot_zip_next hT F.entry_zip_next ?_ (F.args_zip_next_1 _))));show cO _ _ (field (.ref z) 2 >>= _) _ _ _;refine wB1 (wpAny_field l O (x:=.bool J) O ?_);show cO _ _ (field (.ref z) 3 >>= _) _ _ _;refine wB1 (wpAny_field l O (x:=.ref g) O ?_);refine wB1 (wpAny_seqItems hti O ?_);show cO _ _ (Builtin.SmallTypes.ownedTupleIsFree (.ref z) >>= _) _ _ _;refine wB1 ?_;unfold Builtin.SmallTypes.ownedTupleIsFree;refine wB1 (wpAny_field l O (x:=.none) O (wP1 ?_));simp only[if_true];refine wB1 (wpAny_rule ?_);refine wB1 (wpAny_field l O (x:=.ref to) O ?_);refine wB1 (wS1 l (by simp) λg1 p u=>?_);replace p:IsZip g1 z g to .ellipsis:=p;refine wB1 ?_;simp only[bB,List.zipIdx_nil,List.forIn_cons,List.forIn_nil];refine wB1 (wB1 (wpAny_onRaise ?_));show cO _ _ (Builtin.SmallTypes.nextOf (.ref i1) >>= _) _ _ _
 refine wB1 (jg (h1.to λo q=>u.extBut _ _ D.a3 q) (c1.to λo q=>u.extBut _ _ X q) hx λg2 W C=>wP1 ?_);have i:IsPair g2 to a b:=C.extBut _ _ D.a8 (u.extBut _ _ D.a2 hto);refine wB1 (wpAny_seqItems i O ?_);refine wB1 (wpAny_updateSeq_pair i λg3 f B=>?_);replace f:IsPair g3 to x b:=f;refine wB1 (wpAny_letGo (wP1 ?_));refine wB1 (wB1 (wpAny_onRaise ?_));show cO _ _ (Builtin.SmallTypes.nextOf (.ref j) >>= _) _ _ _
 refine wB1 (jg (h2.to λo q=>B.extBut _ _ D.a9.symm (C.extBut _ _ D.a10.symm (u.extBut _ _ D.a4 q))) (c2.to λo q=>B.extBut _ _ n2 (C.extBut _ _ I (u.extBut _ _ aq q))) hy λg4 wq G=>wP1 ?_);have k:IsPair g4 to x b:=G.extBut _ _ D.a9 f;refine wB1 (wpAny_seqItems k O ?_);refine wB1 (wpAny_updateSeq_pair k λd e H=>?_);replace e:IsPair d to x y:=e;refine wB1 (wpAny_letGo (wP1 (wP1 ?_)));refine wB1 (wpAny_seqItems e O ?_);refine wB1 (wpAny_newTuple ?_);have L:d.objs.size=s.heap.objs.size:=by rw[H.1,G.1,B.1,C.1,u.1]
 have ao:IsZip d z g to .ellipsis:=H.extBut _ _ D.a2.symm (G.extBut _ _ D.a4.symm (B.extBut _ _ D.a2.symm (C.extBut _ _ D.a3.symm p)));have hk5:∀c o,c≠z->c≠to->c≠i1->c≠j->s.heap.get? c=Z o->d.get? c=Z o:=λc o t au q3 q4 q=>H.extBut _ _ au (G.extBut _ _ q4 (B.extBut _ _ au (C.extBut _ _ q3 (u.extBut _ _ t q))));have U:SIt b1 d i1 v (S+1):=W.to λo q=>H.extBut _ _ D.a8.symm (G.extBut _ _ D.a10 (B.extBut _ _ D.a8.symm q));have h25:SIt b2 d j r (P+1):=wq.to λo q=>H.extBut _ _ D.a9.symm q;have m:z<d.objs.size:=hL1 ao;show cO _ _ (Builtin.SmallTypes.ownedTupleHandOut (.ref z) (.ref d.objs.size) >>= _) _ _ _;refine wB1 ?_;unfold Builtin.SmallTypes.ownedTupleHandOut;have T:IsZip (d.push {cls:=.type "tuple",data:=.seq #[x,y]}) z g to .ellipsis:=hP1 _ ao;refine wB1 (wS1 T (by simp) λg7 n s7=>?_);replace n:IsZip g7 z g to (rawInt d.objs.size):=n;refine wS1 n (by simp) λN h V=>?_;replace h:IsZip N z g to (rawInt d.objs.size):=h;have R:∀c o,c≠z->d.get? c=Z o->N.get? c=Z o:=λc o t q=>V.extBut _ _ t (s7.extBut _ _ t (hP1 _ q));have am:IsPair N d.objs.size x y:=V.extBut _ _ (nG1 m) (s7.extBut _ _ (nG1 m) (hS1 _ O));have K:N.objs.size=d.objs.size+1:=by rw[V.1,s7.1,hZ1]
 rw[L]at h am K;refine wP1 ⟨_,O,wP1 ?_⟩;show Q (Z (.ref d.objs.size)) _;rw[L]
 exact hQ N h (R _ _ D.a2 e) (U.to λo q=>R _ o D.a3 q) (h25.to λo q=>R _ o D.a4 q) am K λc o t au q3 q4 q=>R c o t (hk5 c o t au q3 q4 q)
theorem ye{z n to i1 C H y:cG}{P L:Nat}{xs ys:Array cE}{a b:cE}{Q:Option cE->cF->Prop}(hh:A.handled=Y)(D:Gc z n to i1 C)(l:IsZip s.heap z n to .none)(R:IsPair s.heap n (.ref i1) (.ref C))(N:IsPair s.heap to a b)(n1:H≠to)(n2:y≠to)(h1:SIt b1 s.heap i1 H P)(h2:SIt b2 s.heap C y L)(U:SCo b1 s.heap H xs)(S:SCo b2 s.heap y ys)(v:xs[P]?=Y\/ys[L]?=Y)(wq:∀h',(∀c o,c≠z->c≠to->c≠i1->c≠C->s.heap.get? c=Z o->h'.get? c=Z o)->Q Y {s with heap:=h'}):cO (model prog w) A (pyNext (.ref z)) Q E s:=by
 have aq:s.TypeIs (.ref z) "zip":=⟨_,l,O⟩;have r:H≠z:=U.ne l λ_ _ q=>by cases q
 have K:y≠z:=S.ne l λ_ _ q=>by cases q
 have u:y≠i1:=S.ne_it h1;unfold pyNext;refine wB1 (wpAny_attempt (wpAny_callSpecial?_slot (name:=Str.ofString "__next__") aq F.slot_zip_next (wE1 F.slot_zip_next aq F.entry_zip_next ?_ (F.args_zip_next_1 _))));show cO _ _ (field (.ref z) 2 >>= _) _ _ _;refine wB1 (wpAny_field l O (x:=.bool J) O ?_);show cO _ _ (field (.ref z) 3 >>= _) _ _ _;refine wB1 (wpAny_field l O (x:=.ref n) O ?_);refine wB1 (wpAny_seqItems R O ?_);show cO _ _ (Builtin.SmallTypes.ownedTupleIsFree (.ref z) >>= _) _ _ _;refine wB1 ?_;unfold Builtin.SmallTypes.ownedTupleIsFree;refine wB1 (wpAny_field l O (x:=.none) O (wP1 ?_));simp only[if_true];refine wB1 (wpAny_rule ?_);refine wB1 (wpAny_field l O (x:=.ref to) O ?_);refine wB1 (wS1 l (by simp) λg1 g i=>?_);replace g:IsZip g1 z n to .ellipsis:=g;refine wB1 ?_;simp only[bB,List.zipIdx_nil,List.forIn_cons,List.forIn_nil];refine wB1 (wB1 (wpAny_onRaise ?_));show cO _ _ (Builtin.SmallTypes.nextOf (.ref i1) >>= _) _ _ _
 cases hx:xs[P]? with
 |none=>
  refine wB1 (gU hh (h1.to λo q=>i.extBut _ _ D.a3 q) (U.to λo q=>i.extBut _ _ r q) hx λI e k am=>?_);obtain⟨ao,d,f⟩:=am;have t:IsZip I z n to .ellipsis:=k _ _ D.a3.symm g;have m:e≠z:=λq=>by subst q;rw[t]at d;cases d;simp at f
  refine wS1 t (by simp) λX _ p=>?_;refine wB1 (wpAny_isInstance (T:="StopIteration") (b:=M) ⟨ao,p.extBut _ _ m d,f⟩ isSubtype_stop ?_);exact wP1 (wq X λc o B _ au _ q=>p.extBut _ _ B (k _ _ au (i.extBut _ _ B q)))
 |some x=>
  have hy:ys[L]?=Y:=by rcases v with h|h;rw[hx]at h;cases h;exact h
  refine wB1 (jg (h1.to λo q=>i.extBut _ _ D.a3 q) (U.to λo q=>i.extBut _ _ r q) hx λI h12 k=>wP1 ?_);have j:IsPair I to a b:=k.extBut _ _ D.a8 (i.extBut _ _ D.a2 N);refine wB1 (wpAny_seqItems j O ?_);refine wB1 (wpAny_updateSeq_pair j λX hto3 p=>?_);refine wB1 (wpAny_letGo (wP1 ?_));refine wB1 (wB1 (wpAny_onRaise ?_));show cO _ _ (Builtin.SmallTypes.nextOf (.ref C) >>= _) _ _ _
  refine wB1 (gU hh (h2.to λo q=>p.extBut _ _ D.a9.symm (k.extBut _ _ D.a10.symm (i.extBut _ _ D.a4 q))) (S.to λo q=>p.extBut _ _ n2 (k.extBut _ _ u (i.extBut _ _ K q))) hy λg4 e V am=>?_);obtain⟨ao,d,f⟩:=am;have G:IsZip g4 z n to .ellipsis:=V _ _ D.a4.symm (p.extBut _ _ D.a2.symm (k.extBut _ _ D.a3.symm g));have m:e≠z:=λq=>by subst q;rw[G]at d;cases d;simp at f
  refine wS1 G (by simp) λg5 _ W=>?_;refine wB1 (wpAny_isInstance (T:="StopIteration") (b:=M) ⟨ao,W.extBut _ _ m d,f⟩ isSubtype_stop ?_);exact wP1 (wq g5 λc o B q2 au q4 q=>W.extBut _ _ B (V _ _ q4 (p.extBut _ _ q2 (k.extBut _ _ au (i.extBut _ _ B q)))))
noncomputable def zH(b1 b2:Bool)(h:cP)(l1 l2:cG):cP:=((((h.push (fA b1 l1)).push (fA b2 l2)).push {cls:=.type "tuple",data:=.seq #[.ref h.objs.size,.ref (h.objs.size+1)]}).push {cls:=.type "tuple",data:=.seq #[.none,.none]}).push
 {cls:=.type "zip",data:=.fields #[.none,.bool J,.bool J,.ref (h.objs.size+2),.ref (h.objs.size+3)]}
theorem yd(a c:cG)(xs ys:Array cE):Meets (Builtin.«zip.__new__» ⟨[.type "zip",.ref a,.ref c],[]⟩) (λ_ R s=>SCo b1 s.heap a xs/\SCo b2 s.heap c ys/\R (.ok (.ret (.ref (s.heap.objs.size+4)))) {s with heap:=zH b1 b2 s.heap a c}):=
 .of_wp λprog w A R s h=>by
  obtain⟨b,g,d,tk,f⟩:=s;obtain⟨i,l,h⟩:=h;have e:=sub_zip
  have j:SCo b1 (Shared.heap ⟨b,g,d,tk,f⟩) a xs:=i;have k:SCo b2 (Shared.heap ⟨b.push (fA b1 a),g,d,tk,f⟩) c ys:=l.to λo q=>hP1 _ q
  wp_walk using i3 j,i3 k
  refine⟨_,O,?_⟩;have m:(b.push (fA b1 a)).objs.size=b.objs.size+1:=hZ1 ..
  simp only[hZ1,zH]at h ⊢;exact h
theorem vo{b d:cG}{xs ys:Array cE}{Q:cE->cF->Prop}(k:SCo b1 s.heap b xs)(v:SCo b2 s.heap d ys)(h:∀h',IsZip h' (s.heap.objs.size+4) (s.heap.objs.size+2) (s.heap.objs.size+3) .none->IsPair h' (s.heap.objs.size+2) (.ref s.heap.objs.size) (.ref (s.heap.objs.size+1))->IsPair h' (s.heap.objs.size+3) .none .none ->
   SIt b1 h' s.heap.objs.size b 0->SIt b2 h' (s.heap.objs.size+1) d 0->h'.objs.size=s.heap.objs.size+5->(∀c o,s.heap.get? c=Z o->h'.get? c=Z o)->Q (.ref (s.heap.objs.size+4)) {s with heap:=h'}):
  cO (model prog w) A (call (.type "zip") [.ref b,.ref d]) Q E s:=by
 refine callType_new F.called_zip (by decide) (F.typeCall_zip_2 _ _) (F.newCall_zip_2 _ _) (λi=>F.args_object_init_3 i _ _) F.entry_zip_new (yd (b1:=b1) (b2:=b2) b d xs ys) ⟨k,v,?_⟩;have a:∀{h:cP} {o:Obj} {c:cG} {u:Obj},h.get? c=Z u->(h.push o).get? c=Z u:=λq=>hP1 _ q;have g:∀{h:cP} {o:Obj} {n:Nat},h.objs.size=n->o.isFreed=J->(h.push o).get? n=Z o:=λe f=>by rw[<- e];exact hS1 _ f
 have p:(fA b1 b).isFreed=J:=by cases b1<;>rfl
 have t:(fA b2 d).isFreed=J:=by cases b2<;>rfl
 have l:(zH b1 b2 s.heap b d).get? s.heap.objs.size=Z (fA b1 b):=a (a (a (a (g O p))));have m:(zH b1 b2 s.heap b d).get? (s.heap.objs.size+1)=Z (fA b2 d):=a (a (a (g (by simp only[hZ1]) t)));have x:IsPair (zH b1 b2 s.heap b d) (s.heap.objs.size+2) (.ref s.heap.objs.size) (.ref (s.heap.objs.size+1)):=a (a (g (by simp only[hZ1]) O));have r:IsPair (zH b1 b2 s.heap b d) (s.heap.objs.size+3) .none .none:=a (g (by simp only[hZ1]) O);have j:IsZip (zH b1 b2 s.heap b d) (s.heap.objs.size+4) (s.heap.objs.size+2) (s.heap.objs.size+3) .none:=g (by simp only[hZ1]) O;exact⟨⟨_,j,O⟩,h _ j x r (nT l) (nT m) (by simp only[zH,hZ1]) λc o q=>a (a (a (a (a q))))⟩
end
def oS(K:Fg1)(b:Bool)(H:Hp)(a:cG)(xs:List V):Prop:=match b with
 |true=>kq K H a xs
 |false=>iV K H a xs
section
variable{X:Cx}{ag:List (cG×Obj)}{σ:L2.St}{H:Hp}{s:cF}
theorem dW{b:Bool}{a:cG}{xs:List V}(I:Inv X ag σ H s)(h:oS X.K b H a xs):∃c:List cE,dy xs c/\SCo b s.heap a c.toArray/\xs.length<=cN:=by
 cases b
 ·obtain⟨c,r,p,z⟩:=I.tuple h;exact⟨c,r,p,z⟩
 ·obtain⟨c,r,p,z⟩:=I.list h;exact⟨c,r,p.isList,z⟩
theorem kH{b:Bool}{a:cG}{xs ys:List V}(I:Inv X ag σ H s)(h:oS X.K b H a xs)(h':oS X.K b H a ys):xs=ys:=by
 cases b
 ·exact I.tuple_inj h h'
 ·exact I.list_inj h h'
theorem nR{b:Bool}{a c:cG}{xs:List V}(I:Inv X ag σ H s)(h:oS X.K b H a xs)(f:iF X ag H c):a≠c:=by
 rintro rfl;have d:∀{o},X.K.lookup a=Z o->False:=λ{o} e=>by
  have g:=I.ok.mod.kin _ _ e;rcases f.2.2.2.1 with z|z
  ·exact I.ok.noex _ _ g z
  ·exact absurd (nL1 (hL1 g) (aC I.ok.bsz z)) (az _)
 cases b
 ·rcases h with(h|⟨_,h⟩)|⟨_,_,_,h,_⟩
  ·rw[f.1]at h;cases h
  ·rw[f.1]at h;cases h
  ·exact d h
 ·rcases h with(h|⟨_,h⟩)|⟨_,_,_,h,_⟩
  ·rw[f.1]at h;cases h
  ·rw[f.1]at h;cases h
  ·exact d h
theorem pN(I:Inv X ag σ H s){fp:List cG}(hf:∀ b∈fp,iF X ag H b){h':cP}{p:cG}{xs:List V}{its:List cE}{t':Nat}(hp:s.heap.objs.size<=p)(f:∀ b o,b∉fp->s.heap.get? b=Z o->h'.get? b=Z o)(l:IsTup h' p its.toArray)(t:dy xs its)(i:xs.length<=cN):Inv X ag σ (upd H p (.tup xs)) {s with heap:=h',toks:=t'}:=by
 have d:H p=Y:=I.hok.fresh hp;have g:∀{b o},s.heap.get? b=Z o->b≠p:=λe=>nN1 (nL1 (hL1 e) hp);have h:∀{b u},H b=Z u->b∉fp:=λe z=>by rw[(hf _ z).1]at e;cases e
 refine I.step (g':=s.gens) (d':=s.drawn) (ch:=fp) (λb a=>⟨(hf b a).2.2.2.1,(hf b a).2.1,(hf b a).2.2.2.2.1,(hf b a).2.2.2.2.2⟩) (λb o _ _ hc e _=>f b o hc e) (λb o _ _ hc e _=>⟨o.slots,f b o hc e⟩) (λb o _ e n=>?_)
  (λb o hc e=>⟨o,f b o hc e⟩) (λb ys e=>?_) (λb o u e=>?_) (λb ps e=>⟨#[],?_⟩) (λm j=>?_) (λb u e=>?_) I.bare
 ·rw[di (g e)];exact n
 ·rw[di (dA e d)];exact e
 ·rw[di (dA e d)];exact e
 ·rw[di (dA e d),e];simp
 ·obtain⟨o,es,ep,k,r⟩:=j;exact⟨o,es,ep,f _ o (λz=>(hf _ z).2.1 O) k,r⟩
 ·by_cases a:b=p
  ·subst a;rw[dr]at e;cases e;exact⟨i,its,t,l⟩
  ·rw[di a]at e;refine(I.hok b u e).stay (λc v hc q=>f c v ?_ q) (λc q=>by rw[di (dA q d)];exact q) λc ys q=>by rw[di (dA q d)];exact q
   rcases hc with z|z
   ·rw[z];exact h e
   ·exact h z
theorem lG(I:Inv X ag σ H s){fp:List cG}(hf:∀b∈fp,iF X ag H b){h':cP}{t':Nat}(a:∀b o,b∉fp->s.heap.get? b=Z o->h'.get? b=Z o):Inv X ag σ H {s with heap:=h',toks:=t'}:=by
 have f:∀{b u},H b=Z u->b∉fp:=λe z=>by rw[(hf _ z).1]at e;cases e
 refine I.step (g':=s.gens) (d':=s.drawn) (ch:=fp) (λb d=>⟨(hf b d).2.2.2.1,(hf b d).2.1,(hf b d).2.2.2.2.1,(hf b d).2.2.2.2.2⟩) (λb o _ _ hc e _=>a b o hc e) (λb o _ _ hc e _=>⟨o.slots,a b o hc e⟩) (λb o _ e n=>n)
  (λb o hc e=>⟨o,a b o hc e⟩) (λb ys e=>e) (λb o u e=>e) (λb ps e=>⟨#[],by rw[e];simp⟩) (λm g=>?_) (λb u e=>?_) I.bare
 ·obtain⟨o,es,ep,h,r⟩:=g;exact⟨o,es,ep,a _ o (λz=>(hf _ z).2.1 O) h,r⟩
 ·refine(I.hok b u e).stay (λc v hc q=>a c v ?_ q) (λc q=>q) λc ys q=>q;rcases hc with z|z
  ·rw[z];exact f e
  ·exact f z
end
theorem oW:(2:Nat)<=cN:=by decide
noncomputable def GL(K:Fg1)(b:Bool)(a:cG):It:=
 ⟨λi H=>∃xs x,oS K b H a xs/\xs[i]?=Z x,λi H x H'=>∃p v,H p=Y/\x = .ref p/\H'=upd H p (.tup [.int i,v]) /\ ∀xs,oS K b H a xs->xs[i]?=Z v,λi H=>∃xs,oS K b H a xs/\xs.length<=i⟩
theorem ug{P:cH}{w:cJ}{K:Fg1}{elts:List Expr}{k:Nat}{pos:Pos}(b:Bool)(a e it:cG)(ne:e≠it):sr P w K (.Tuple elts k pos) (GL K b a) [e,it] e (λi h=>(∃old,IsEnum h e it (i:Nat) old)/\SIt b h it a i) where
 mem:=by simp
 obj:=by
  rintro i h ⟨⟨old,st⟩,N⟩ c hc;rcases aE.mp hc with z|z
  ·subst z;exact⟨_,st,λv q=>by cases q⟩
  ·have T:c=it:=by simpa using z
   subst T;exact N.rec_
 keep:=λi h h' ⟨⟨old,st⟩,N⟩ Q=>⟨⟨old,Q e (by simp) _ st⟩,N.to λo q=>Q it (by simp) o q⟩
 item:=by
  intro X ao D y hc i ag s σ H E I j st p;subst ao D y;obtain⟨⟨old,g⟩,l⟩:=st;obtain⟨xs,x,f,am⟩:=p;obtain⟨C,B,r,hz⟩:=dW I f;obtain⟨u,S,ru⟩:=B.get am;refine uN g l r (x:=u) (by simpa using S) ne λh1 n L A W t=>?_;refine⟨.ref s.heap.objs.size,O,?_⟩;refine wpAny_letOwnedTupleGo_enum n λh2 F d=>?_;have R:s.heap.objs.size≠e:=nG1 (hL1 g);have G:∀c o,c∉[e,it]->s.heap.get? c=Z o->h2.get? c=Z o:=λc o hc q=>by
   have m:c≠e:=λz=>hc (by simp[z]);have c2:c≠it:=λz=>hc (by simp[z]);exact d.extBut _ _ m (t c o m c2 q)
  have tp:IsTup h2 s.heap.objs.size [.int (i:Nat) s.toks,u].toArray:=⟨_,d.extBut _ _ R A,O,_,O⟩;have I2:=pN I j (t':=s.toks+1) (nR1 _) G tp (xs:=[.int i,x]) (.cons ⟨_,O⟩ (.cons ru .nil)) oW;have V:H s.heap.objs.size=Y:=I.hok.fresh (nR1 _);refine⟨.ref s.heap.objs.size,_,I2,O,⟨_,x,V,O,O,λys aq=>by rw[kH I aq f];exact am⟩,⟨⟨u,?_⟩,L.to λo q=>d.extBut _ _ (Ne.symm ne) q⟩,λc hc=>?_⟩
  ·have:((i+1:Nat):Int)=(i:Int)+1:=by push_cast;rfl
   rw[this];exact F
  ·have m:c≠s.heap.objs.size:=fun z=>by
    rcases aE.mp hc with q|q
    ·exact R (z.symm.trans q)
    ·have wq:c=it:=by simpa using q
     obtain⟨o,au,_⟩:=l.rec_;rw[<- wq,z]at au;exact az _ (hL1 au)
   rw[di m];exact(j c hc).1
 done:=by
  intro X ao D y hc i ag s σ H E I j st p;subst ao D y;obtain⟨⟨old,g⟩,l⟩:=st;obtain⟨xs,f,am⟩:=p;obtain⟨C,B,r,hz⟩:=dW I f;have hl:=B.length;refine xI (I.ok.hd hc) g l r (by simp;lia) λh' U=>⟨O,lG I (t':=s.toks) j λc o hc q=>U c o (λz=>hc (by simp[z])) q⟩
 self:=λ_ _ _ _ _ ⟨⟨_,st⟩,_⟩ h=>nq st h
noncomputable def GI(K:Fg1)(b1 b2:Bool)(a1 a2:cG):It:=
 ⟨λi H=>∃xs ys x y,oS K b1 H a1 xs/\oS K b2 H a2 ys/\xs[i]?=Z x/\ys[i]?=Z y,λi H x H'=>∃p v u,H p=Y/\x = .ref p/\H'=upd H p (.tup [v,u])/\(∀xs,oS K b1 H a1 xs->xs[i]?=Z v) /\ ∀ys,oS K b2 H a2 ys->ys[i]?=Z u,
  λi H=>∃xs ys,oS K b1 H a1 xs/\oS K b2 H a2 ys/\(xs.length<=i\/ys.length<=i)⟩
theorem vE{P:cH}{w:cJ}{K:Fg1}{elts:List Expr}{k:Nat}{pos:Pos}(b1 b2:Bool)(a1 a2 z r to m A:cG)(D:Gc z r to m A):sr P w K (.Tuple elts k pos) (GI K b1 b2 a1 a2) [z,r,to,m,A] z
  (λi h=>IsZip h z r to .none/\IsPair h r (.ref m) (.ref A)/\(∃u v,IsPair h to u v)/\SIt b1 h m a1 i/\SIt b2 h A a2 i) where
 mem:=by simp
 obj:=by
  rintro i h ⟨j,b,⟨u,v,g⟩,l,d⟩ c hc;simp only[aE,bC,or_false]at hc;rcases hc with rfl|rfl|rfl|rfl|rfl
  ·exact⟨_,j,λv q=>by cases q⟩
  ·exact⟨_,b,λv q=>by cases q⟩
  ·exact⟨_,g,λv q=>by cases q⟩
  ·exact l.rec_
  ·exact d.rec_
 keep:=λi h h' ⟨j,b,⟨u,v,g⟩,l,d⟩ G=>⟨G z (by simp) _ j,G r (by simp) _ b,⟨u,v,G to (by simp) _ g⟩,l.to λo q=>G m (by simp) o q,d.to λo q=>G A (by simp) o q⟩
 item:=by
  intro X wq U N hc i ag s σ H E I f st L;subst wq U N;obtain⟨j,b,⟨u0,v0,g⟩,l,d⟩:=st;obtain⟨xs,ys,x,y,C,B,ex,ey⟩:=L;obtain⟨T,Q,ao,hz⟩:=dW I C;obtain⟨am,n,t,R⟩:=dW I B;obtain⟨u,hu,ru⟩:=Q.get ex;obtain⟨V,S,W⟩:=n.get ey;refine vn D j b g (nR I C (f to (by simp))) (nR I B (f to (by simp))) l d ao t (x:=u) (y:=V) (by simpa using hu) (by simpa using S) λh1 p1 p2 p3 p4 p5 p6 F=>?_;refine⟨.ref s.heap.objs.size,O,?_⟩;refine wpAny_letOwnedTupleGo_zip p1 λh2 z2 a=>?_;have lt:∀c∈[z,r,to,m,A],c≠s.heap.objs.size:=λc hc e=>by
   obtain⟨o,eo⟩:∃o,s.heap.get? c=some o:=by
    simp only[aE,bC,or_false]at hc;rcases hc with rfl|rfl|rfl|rfl|rfl
    ·exact⟨_,j⟩
    ·exact⟨_,b⟩
    ·exact⟨_,g⟩
    ·obtain⟨o,e,_⟩:=l.rec_;exact⟨o,e⟩
    ·obtain⟨o,e,_⟩:=d.rec_;exact⟨o,e⟩
   rw[e]at eo;exact az _ (hL1 eo)
  have aq:∀c o,c∉[z,r,to,m,A]->s.heap.get? c=Z o->h2.get? c=Z o:=λc o hc q=>by
   simp only[aE,bC,or_false,not_or]at hc;exact a.extBut _ _ hc.1 (F c o hc.1 hc.2.2.1 hc.2.2.2.1 hc.2.2.2.2 q)
  have tp:IsTup h2 s.heap.objs.size [u,V].toArray:=⟨_,a.extBut _ _ (Ne.symm (lt z (by simp))) p5,O,_,O⟩;have I2:=pN I f (t':=s.toks) (nR1 _) aq tp (xs:=[x,y]) (.cons ru (.cons W .nil)) oW;have hn:H s.heap.objs.size=Y:=I.hok.fresh (nR1 _);refine⟨.ref s.heap.objs.size,_,I2,O,⟨_,x,y,hn,O,O,λau p=>by rw[kH I p C];exact ex,λau p=>by rw[kH I p B];exact ey⟩,
   ⟨z2,a.extBut _ _ D.a1 (F _ _ D.a1 D.a5 D.a6 D.a7 b),⟨u,V,a.extBut _ _ D.a2 p2⟩,p3.to λo q=>a.extBut _ _ D.a3 q,p4.to λo q=>a.extBut _ _ D.a4 q⟩,λc hc=>?_⟩
  rw[di (lt c hc)];exact(f c hc).1
 done:=by
  intro X wq U N hc i ag s σ H E I f st L;subst wq U N;obtain⟨j,b,⟨u0,v0,g⟩,l,d⟩:=st;obtain⟨xs,ys,C,B,hl⟩:=L;obtain⟨T,Q,ao,hz⟩:=dW I C;obtain⟨am,n,t,R⟩:=dW I B;have l1:=Q.length;have l2:=n.length;refine ye (I.ok.hd hc) D j b g (nR I C (f to (by simp))) (nR I B (f to (by simp))) l d ao t (by simp;lia) λh' eb=>⟨O,lG I (t':=s.toks) f λc o hc q=>?_⟩;simp only[aE,bC,or_false,not_or]at hc;exact eb c o hc.1 hc.2.2.1 hc.2.2.2.1 hc.2.2.2.2 q
 self:=λ_ _ _ _ _ ⟨st,_⟩ h=>wpAny_pyIter_zip st h
section
variable{X:Cx}{elts:List Expr}{k:Nat}{tpos:Pos}
noncomputable def Eu(K:Fg1)(ta:TA):TI:=fun σ H R=>ta σ H λvs H1=>∃a b,vs=[.ref a]/\(∃xs,oS K b H1 a xs)/\R (GL K b a) H1
theorem yZ {a:Expr}{ta:TA}{p pos:Pos}(hg:Gl X "enumerate")(hm:X.mg "enumerate"=Y)(ha:PA X [a] ta)(hs:cM [a] X.env=[(J,eval a X.env)]:=by rfl):PI X (.Tuple elts k tpos) (.Call (.Name "enumerate" p) [a] [] pos) (Eu X.K ta):=by
 intro ag s σ H R I h;refine Call_ (iP I hg hm boot_enumerate (PyProof.Rows.callWith_type1 (ee (ha pos ag s σ H _ I h) λC f ⟨vs,H1,g,y,n⟩=>?_) hs O));obtain⟨c,b,e,⟨xs,m⟩,q⟩:=n;subst e;cases y with
 |cons r t=>
  cases t;cases r;obtain⟨v,D,w,B⟩:=dW g m;refine uO w λh' i u j x=>nq i ?_;have A:Inv X ag σ H1 {f with heap:=h'}:=g.kept (t':=f.toks) x;refine⟨f.heap.objs.size+1,[f.heap.objs.size+1,f.heap.objs.size],_,_,H1,O,A,ug b c _ _ (Nat.succ_ne_self _),⟨⟨.none,i⟩,u⟩,λd o=>?_,q⟩;rcases aE.mp o with z|z
  ·subst z;exact g.fpOk (aV _) (g.hok.fresh (aV _))
  ·have l:d=f.heap.objs.size:=by simpa using z
   subst l;exact g.fpOk (nR1 _) (g.hok.fresh (nR1 _))
noncomputable def F0(K:Fg1)(ta:TA):TI:=fun σ H R=>ta σ H λvs H1=>∃a1 b1 a2 b2,vs=[.ref a1,.ref a2]/\(∃xs,oS K b1 H1 a1 xs)/\(∃xs,oS K b2 H1 a2 xs)/\R (GI K b1 b2 a1 a2) H1
theorem Bv {a b:Expr}{ta:TA}{p pos:Pos}(hg:Gl X "zip")(hm:X.mg "zip"=none)(ha:PA X [a,b] ta)(hs:cM [a,b] X.env=[(false,eval a X.env),(false,eval b X.env)]:=by rfl)(hs2:cM [b] X.env=[(false,eval b X.env)]:=by rfl):
  PI X (.Tuple elts k tpos) (.Call (.Name "zip" p) [a,b] [] pos) (F0 X.K ta):=by
 intro ag s σ H R I h;refine Call_ (iP I hg hm boot_zip (PyProof.Rows.callWith_type1 (ee (ha pos ag s σ H _ I h) λP c ⟨vs,H1,f,K,L⟩=>?_) (by rw[hs,hs2]) (by rw[hs2];rfl)));obtain⟨G,b1,F,b2,e,⟨xs,am⟩,⟨ys,y⟩,q⟩:=L;subst e;cases K with
 |cons r i=>
  cases i with
  |cons x i=>
   cases i;cases r;cases x;obtain⟨D,N,v,au⟩:=dW f am;obtain⟨n,w,j,B⟩:=dW f y;refine vo v j λh' m C u o t Q A=>wpAny_pyIter_zip m ?_;have E:Inv X ag σ H1 {c with heap:=h'}:=f.kept (t':=c.toks) A;refine⟨c.heap.objs.size+4,[c.heap.objs.size+4,c.heap.objs.size+2,c.heap.objs.size+3,c.heap.objs.size,c.heap.objs.size+1],_,_,H1,O,E,vE b1 b2 G F _ _ _ _ _ ?_,⟨m,C,⟨_,_,u⟩,o,t⟩,λd l=>?_,q⟩
   ·constructor<;>(intro z;have ao:((_:Nat)=_):=z;lia)
   ·have g:c.heap.objs.size<=d:=by
     simp only[aE,bC,or_false]at l;rcases l with rfl|rfl|rfl|rfl|rfl
     ·exact bm _ _
     ·exact bm _ _
     ·exact bm _ _
     ·exact nR1 _
     ·exact bm _ _
    exact f.fpOk g (f.hok.fresh g)
end
noncomputable def da (S:cV):D->Option (Bool×List D)
 | .tup xs=>some (false,xs)
 | .rol xs=>some (true,xs)
 | .ref n=>match S[n]? with
  |some (.lst xs)=>some (true,xs)
  |_=>none
 |_=>none
noncomputable def ig(S:cV):D->List (Nat×List D)
 | .ref n=>match S[n]? with
  |some (.lst xs)=>[(n,xs)]
  |_=>[]
 |_=>[]
section
variable{K:Fg1}{H:Hp}{mu:List cG}{S:cV}
theorem dn{d:D}{v:V}{b:Bool}{xs:List D}(r:dP K H mu d v)(s:Sim K H mu S)(h:da S d=Z (b,xs)):∃a vs,v = .ref a/\oS K b H a vs/\c5 K H mu xs vs:=by
 cases d with
 |tup ys=>cases h;cases r with|tup q t=>exact⟨_,_,rfl,q,t⟩
 |rol ys=>cases h;cases r with|rol q t=>exact⟨_,_,rfl,q.sq,t⟩
 |ref n=>
  rw[da]at h;split at h
  ·rename_i ys e;cases h;cases r with
   |ref q=>
    obtain⟨vs,c,f⟩:=s.lst e q;exact⟨_,vs,O,kq.of c,f⟩
  ·cases h
 |_=>cases h
theorem gE{d:D}{a:cG}{b:Bool}{xs:List D}(r:dP K H mu d (.ref a))(s:Sim K H mu S)(h:da S d=some (b,xs)){H1:Hp}{mu1:List cG}{S1:cV}(x:oT mu mu1 H H1)(f:Sim K H1 mu1 S1)(ok:mT S1 (ig S d)=true):
  ∃vs,oS K b H1 a vs/\c5 K H1 mu1 xs vs:=by
 have g:=r.exw x;have h1:da S1 d=Z (b,xs):=by
  cases d with
  |ref n=>
   rw[da]at h;split at h
   ·rename_i ys e;cases h;rw[ig,e]at ok;dsimp only[mT]at ok;rw[bD]at ok;rw[da];split at ok
    ·rename_i zs c
     first|rw[c,D.sames_eq ok] | rw[D.sames_eq ok]
    ·cases ok
   ·cases h
  |_=>exact h
 obtain⟨i,vs,e,q,t⟩:=dn g f h1;cases e;exact⟨vs,q,t⟩
end
noncomputable def gn (m:FE):FI:=λr S=>(m r S).bind λp=>(da p.2 p.1).bind λq=>some (⟨q.2,ig p.2 p.1⟩,p.2)
noncomputable def uP:Nat->List D->List D
 |_,[]=>[]
 |n,d::ds=>.tup [.int n,d]::uP (n+1) ds
noncomputable def ve (m:FA):FI:=λr S=>(m r S).bind λp=>match p.1 with
 |[d]=>(da p.2 d).bind λq=>some (⟨uP 0 q.2,ig p.2 d⟩,p.2)
 |_=>none
noncomputable def sA:List D->List D->List D
 |x::xs,y::ys=>.tup [x,y]::sA xs ys
 |_,_=>[]
noncomputable def AM(m:FA):FI:=λr S=>(m r S).bind λp=>match p.1 with
 |[d,e]=>(da p.2 d).bind λq=>(da p.2 e).bind λt=>Z (⟨sA q.2 t.2,ig p.2 d++ig p.2 e⟩,p.2)
 |_=>Y
noncomputable def fK(lo:Int):Nat->List D
 |0=>[]
 |n+1=>.int lo::fK (lo+1) n
noncomputable def pQ (m:FA):FI:=λr S=>(m r S).bind λp=>match p.1 with
 |[.int j]=>if-(2^62)<=j/\j<2^62 then some (⟨fK 0 j.toNat,[]⟩,p.2)else none
 |_=>none
noncomputable def Di(m:FA):FI:=λr S=>(m r S).bind λp=>match p.1 with
 |[.int i,.int j]=>if-(2^62)<=i/\i<2^62 /\ -(2^62)<=j/\j<2^62 then Z (⟨fK i (j-i).toNat,[]⟩,p.2)else Y
 |_=>Y
theorem kO:∀(ds:List D) (n i:Nat),(uP n ds)[i]?=(ds[i]?).map λd=>.tup [.int ((n+i:Nat):Int),d]
 |[],n,i=>by simp[uP]
 |d::ds,n,0=>by simp[uP]
 |d::ds,n,i+1=>by
  rw[uP,gC1,kO ds (n+1) i,gC1];rw[show n+1+i=n+(i+1) by lia]
theorem kN:∀(ds:List D) (n:Nat),(uP n ds).length=ds.length
 |[],_=>rfl
 |d::ds,n=>by rw[uP,lC1,kN ds,lC1]
theorem sy:∀(xs ys:List D) (i:Nat) (d:D),(sA xs ys)[i]?=Z d -> ∃x y,xs[i]?=Z x/\ys[i]?=Z y/\d = .tup [x,y]
 |[],_,i,d,h=>by simp[sA]at h
 |_::_,[],i,d,h=>by simp[sA]at h
 |x::xs,y::ys,0,d,h=>by simp[sA]at h;exact⟨x,y,O,O,h.symm⟩
 |x::xs,y::ys,i+1,d,h=>by
  rw[sA,gC1]at h;obtain⟨f,c,a,e,b⟩:=sy xs ys i d h;exact⟨f,c,by simpa using a,by simpa using e,b⟩
theorem sx:∀(xs ys:List D) (i:Nat),(sA xs ys).length<=i->xs.length<=i\/ys.length<=i
 |[],_,i,_=>.inl (bd _)
 |_::_,[],i,_=>.inr (bd _)
 |x::xs,y::ys,0,h=>by simp[sA]at h
 |x::xs,y::ys,i+1,h=>by
  rcases sx xs ys i (by simpa[sA]using h)with q|q
  ·exact .inl (by simpa using q)
  ·exact .inr (by simpa using q)
theorem pA:∀(n:Nat) (lo:Int) (i:Nat) (d:D),(fK lo n)[i]?=Z d->i<n/\d = .int (lo+i)
 |0,lo,i,d,h=>by simp[fK]at h
 |n+1,lo,0,d,h=>by simp[fK]at h;exact⟨Nat.succ_pos _,by rw[<- h];simp⟩
 |n+1,lo,i+1,d,h=>by
  rw[fK,gC1]at h;obtain⟨h1,h2⟩:=pA n (lo+1) i d h;refine⟨Nat.succ_lt_succ h1,?_⟩;rw[h2,show lo+1+(i:Int)=lo+((i+1:Nat):Int) by push_cast;lia]
theorem d5:∀(n:Nat) (lo:Int),(fK lo n).length=n
 |0,_=>rfl
 |n+1,lo=>by rw[fK,lC1,d5 n]
theorem sZ{S:cV}:∀{c c':List (Nat×List D)},mT S (c++c')=M->mT S c=M/\mT S c'=M
 |[],_,h=>⟨O,h⟩
 |(n,xs)::c,c',h=>by
  rw[bf,mT,bA1]at h;obtain⟨h1,h2⟩:=sZ h.2;exact⟨by rw[mT,bA1];exact⟨h.1,h1⟩,h2⟩
section
variable{X:Cx}{tg:Expr}
theorem pM(K:Fg1)(lo:Int)(n:Nat)(mu:List cG)(H:Hp):Gj K (EZ lo n) ⟨fK lo n,[]⟩ mu H:=by
 intro i H1 mu1 e x s ok;refine⟨λd a=>?_,λh=>by rw[d5]at h;exact h⟩;obtain⟨h1,h2⟩:=pA n lo i d a;refine⟨h1,λy H2 ⟨b,c⟩=>?_⟩;subst b;subst c;subst h2;exact⟨.refl _ _,s,.int _⟩
theorem Cc{e:Expr}{m:FE}(h:ME X e m):MI X tg e (gn m):=lr (DT (yY h) (Bw h)) <| by
 rintro σ H R ⟨r,mu,S,am,K,D,E,j,hc⟩;obtain⟨⟨d,I⟩,C,j⟩:=oB1.mp j;obtain⟨⟨b,xs⟩,o,j⟩:=oB1.mp j;cases j;cases b with
 |true=>
  left;refine⟨r,mu,S,d,_,D,E,C,λv H1 mu1 B n c=>?_⟩;obtain⟨a,vs,rfl,q,t⟩:=dn n c o;refine⟨a,O,⟨vs,q⟩,hc _ H1 mu1 B (λi H2 x G w k ok=>?_) c⟩;obtain⟨ws,f,l⟩:=gE n c o w k ok;refine⟨λd p=>?_,λu=>⟨ws,f,by rw[<- l.length];exact u⟩⟩;obtain⟨v,g,z⟩:=l.get p;refine⟨⟨ws,v,f,g⟩,λy F ⟨A,s⟩=>?_⟩;subst A;have:=s ws f;rw[g]at this;cases this;exact⟨.refl _ _,k,z⟩
 |false=>
  right;refine⟨r,mu,S,d,_,D,E,C,λv H1 mu1 B n c=>?_⟩;obtain⟨a,vs,rfl,q,t⟩:=dn n c o;refine⟨a,O,⟨vs,q⟩,hc _ H1 mu1 B (λi H2 x G w k ok=>?_) c⟩;obtain⟨ws,f,l⟩:=gE n c o w k ok;refine⟨λd p=>?_,λu=>⟨ws,f,by rw[<- l.length];exact u⟩⟩;obtain⟨v,g,z⟩:=l.get p;refine⟨⟨ws,v,f,g⟩,λy F ⟨A,s⟩=>?_⟩;subst A;have:=s ws f;rw[g]at this;cases this;exact⟨.refl _ _,k,z⟩
theorem i9{K:Fg1}{H:Hp}{mu:List cG}{d:D}{vs:List V}(r:c5 K H mu [d] vs):∃v,vs=[v]/\dP K H mu d v:=by
 cases r with|cons r t=>cases t;exact⟨_,O,r⟩
theorem ph{K:Fg1}{H:Hp}{mu:List cG}{d e:D}{vs:List V}(r:c5 K H mu [d,e] vs):∃v u,vs=[v,u]/\dP K H mu d v/\dP K H mu e u:=by
 cases r with|cons r t=>cases t with|cons q t=>cases t;exact⟨_,_,O,r,q⟩
theorem uw {a:Expr}{m:FA}{p pos:Pos}(hg:Gl X "range")(hm:X.mg "range"=Y)(ha:MA X [a] m)(hs:cM [a] X.env=[(J,eval a X.env)]:=by rfl):MI X tg (.Call (.Name "range" p) [a] [] pos) (pQ m):=
 lr (uq hg hm ha hs) <| by
  rintro σ H R ⟨r,mu,S,am,k,c,hs,hm,hc⟩;obtain⟨⟨ds,i⟩,d,hm⟩:=oB1.mp hm;dsimp only at hm;split at hm
  ·rename_i j;split at hm
   ·rename_i b;cases hm;refine⟨r,mu,S,_,_,c,hs,d,λvs H1 mu1 f g e=>?_⟩;obtain⟨v,rfl,h⟩:=i9 g;cases h;exact⟨j,O,b.1,b.2,hc _ H1 mu1 f (pM _ _ _ _ _) e⟩
   ·cases hm
  ·cases hm
theorem uv {a b:Expr}{m:FA}{p pos:Pos}(hg:Gl X "range")(hm:X.mg "range"=Y)(ha:MA X [a,b] m)(hs:cM [a,b] X.env=[(J,eval a X.env),(J,eval b X.env)]:=by rfl)(hs2:cM [b] X.env=[(J,eval b X.env)]:=by rfl):MI X tg (.Call (.Name "range" p) [a,b] [] pos) (Di m):=
 lr (uo hg hm ha hs hs2) <| by
  rintro σ H R ⟨r,mu,S,am,o,d,hs,hm,hc⟩;obtain⟨⟨ds,n⟩,f,hm⟩:=oB1.mp hm;dsimp only at hm;split at hm
  ·rename_i i j;split at hm
   ·rename_i e;cases hm;refine⟨r,mu,S,_,_,d,hs,f,λvs H1 mu1 h k g=>?_⟩;obtain⟨v,u,rfl,l,c⟩:=ph k;cases l;cases c;exact⟨i,j,O,e,hc _ H1 mu1 h (pM _ _ _ _ _) g⟩
   ·cases hm
  ·cases hm
variable{elts:List Expr}{k:Nat}{tpos:Pos}
theorem zx {a:Expr}{m:FA}{p pos:Pos}(hg:Gl X "enumerate")(hm:X.mg "enumerate"=Y)(ha:MA X [a] m)(hs:cM [a] X.env=[(J,eval a X.env)]:=by rfl):MI X (.Tuple elts k tpos) (.Call (.Name "enumerate" p) [a] [] pos) (ve m):=
 lr (yZ hg hm ha hs) <| by
  rintro σ H R ⟨r,mu,S,am,K,A,hs,hm,hc⟩;obtain⟨⟨ds,I⟩,w,hm⟩:=oB1.mp hm;dsimp only at hm;split at hm
  ·rename_i d;obtain⟨⟨b,xs⟩,n,hm⟩:=oB1.mp hm;cases hm;refine⟨r,mu,S,_,_,A,hs,w,λvs H1 mu1 F G g=>?_⟩;obtain⟨v,rfl,o⟩:=i9 G;obtain⟨a,vs,rfl,q,t⟩:=dn o g n;refine⟨a,b,O,⟨vs,q⟩,hc _ H1 mu1 F (λi H2 C au B s ok=>?_) g⟩;obtain⟨ws,h,u⟩:=gE o g n B s ok;refine⟨λd c=>?_,λl=>⟨ws,h,by rw[kN]at l;rw[<- u.length];exact l⟩⟩;rw[kO]at c;obtain⟨L,x,c⟩:=oM1.mp c;obtain⟨v,j,f⟩:=u.get x;refine⟨⟨ws,v,h,j⟩,λy ao ⟨p,N,e,D,z,E⟩=>?_⟩;have:=E ws h;rw[j]at this;cases this;subst D;subst z;subst c;rw[bE];exact⟨Ext.fresh e,s.fresh e,.tup (iV.of dr) (.cons (.int _) (.cons (f.ext (Ext.fresh e)) .nil))⟩
  ·cases hm
theorem Cb {a b:Expr}{m:FA}{p pos:Pos}(hg:Gl X "zip")(hm:X.mg "zip"=Y)(ha:MA X [a,b] m)(hs:cM [a,b] X.env=[(J,eval a X.env),(J,eval b X.env)]:=by rfl)(hs2:cM [b] X.env=[(J,eval b X.env)]:=by rfl):MI X (.Tuple elts k tpos) (.Call (.Name "zip" p) [a,b] [] pos) (AM m):=
 lr (Bv hg hm ha hs hs2) <| by
  rintro σ H R ⟨r,mu,S,am,S',U,hs,hm,hc⟩;obtain⟨⟨ds,S1⟩,ao,hm⟩:=oB1.mp hm;dsimp only at hm;split at hm
  ·rename_i d e;obtain⟨⟨b1,xs⟩,C,hm⟩:=oB1.mp hm;obtain⟨⟨b2,ys⟩,G,hm⟩:=oB1.mp hm;cases hm;refine⟨r,mu,S,_,_,U,hs,ao,λvs H1 mu1 x1 r1 f=>?_⟩;obtain⟨v,u,rfl,D,E⟩:=ph r1;obtain⟨a1,j,rfl,W,t1⟩:=dn D f C;obtain⟨a2,h,rfl,q2,t2⟩:=dn E f G;refine⟨a1,b1,a2,b2,O,⟨j,W⟩,⟨h,q2⟩,hc _ H1 mu1 x1 (λi H2 V S2 B q ok=>?_) f⟩;obtain⟨s,l⟩:=sZ ok;obtain⟨ws,n,F⟩:=gE D f C B q s;obtain⟨c,w,K⟩:=gE E f G B q l;refine⟨λd au=>?_,λP=>⟨ws,c,n,w,?_⟩⟩
   ·obtain⟨x',y',ex,N,rfl⟩:=sy xs ys i d au;obtain⟨v,x,o⟩:=F.get ex;obtain⟨u,I,t⟩:=K.get N;refine⟨⟨ws,c,v,u,n,w,x,I⟩,λy H3 ⟨p,v',u',g,aq,Q,wq,T⟩=>?_⟩;have L:=wq ws n;have A:=T c w;rw[x]at L;cases L;rw[I]at A;cases A;subst aq;subst Q;exact⟨Ext.fresh g,q.fresh g,.tup (iV.of dr) (.cons (o.ext (Ext.fresh g)) (.cons (t.ext (Ext.fresh g)) .nil))⟩
   ·rcases sx xs ys i P with z|z
    ·exact .inl (by rw[<- F.length];exact z)
    ·exact .inr (by rw[<- K.length];exact z)
  ·cases hm
end
abbrev G1:=D->cV->Option (D×cV)
abbrev G2:=D->D->cV->Option (D×cV)
abbrev G3:=D->D->D->cV->Option (D×cV)
noncomputable def b1 (f:G1):FN:=λds S=>match ds with
 |[a]=>f a S
 |_=>none
noncomputable def b2 (f:G2):FN:=λds S=>match ds with
 |[a,b]=>f a b S
 |_=>none
noncomputable def b3 (f:G3):FN:=λds S=>match ds with
 |[a,b,c]=>f a b c S
 |_=>none
section
variable{X:Cx}{K:Fg1}{H:Hp}{Q:VK}
theorem mO{f:G2}{x y:V}(h:rN K (b2 f) [x,y] H Q):∃mu S d e r a,dP K H mu d x/\dP K H mu e y/\Sim K H mu S/\f d e S=Z (r,a)/\oP K mu H r a Q:=by
 obtain⟨mu,S,ds,r,a,c,g,b,hc⟩:=h;cases c with
 |cons q t=>cases t with
  |cons i t=>cases t;exact⟨mu,S,_,_,r,a,q,i,g,b,hc⟩
theorem yG{f:G1}{xs:List V}(h:rN K (b1 f) xs H Q):∃x mu S d r a,xs=[x]/\dP K H mu d x/\Sim K H mu S/\f d S=Z (r,a)/\oP K mu H r a Q:=by
 obtain⟨mu,S,ds,r,a,c,e,b,hc⟩:=h;cases c with
 |nil=>cases b
 |cons q t=>cases t with
  |nil=>exact⟨_,mu,S,_,r,a,O,q,e,b,hc⟩
  |cons g t=>cases b
theorem yF{f:G2}{xs:List V}(h:rN K (b2 f) xs H Q):∃x y mu S d e r b,xs=[x,y]/\dP K H mu d x/\dP K H mu e y/\Sim K H mu S/\f d e S=Z (r,b)/\oP K mu H r b Q:=by
 obtain⟨mu,S,ds,r,b,c,g,a,hc⟩:=h;cases c with
 |nil=>cases a
 |cons q t=>cases t with
  |nil=>cases a
  |cons i t=>cases t with
   |nil=>exact⟨_,_,mu,S,_,_,r,b,O,q,i,g,a,hc⟩
   |cons j t=>cases a
theorem oP.now{mu:List cG}{S:cV}{d:D}{v:V}(c:oP K mu H d S Q)(r:dP K H mu d v)(s:Sim K H mu S):Q v H:=c v H mu (.refl _ _) r s
end
noncomputable def dN(i j:Int):Bool:=(decide (-(2^64)<i)&&decide (i<2^64))||(decide (-(2^64)<j)&&decide (j<2^64))||(decide (i.natAbs<2^1000)&&decide (j.natAbs<2^1000))
noncomputable def et:G2:=λd e S=>match d,e with
 | .int i,.int j=>Z (.int (i+j),S)
 | .tup xs,.tup ys=>if xs.length+ys.length<=cN then Z (.tup (xs++ys),S)else Y
 | .str x,.str y=>if x.length+y.length<=cN then Z (.str (x++y),S)else Y
 | .ref a,.ref b=>match S[a]?,S[b]? with
  |some (.lst xs),Z (.lst ys)=>if xs.length+ys.length<=cN then Z (.ref S.length,S++[.lst (xs++ys)])else Y
  |_,_=>Y
 |_,_=>Y
noncomputable def gSub:G2:=λd e S=>match d,e with
 | .int i,.int j=>Z (.int (i-j),S)
 |_,_=>Y
noncomputable def ic:G2:=λd e S=>match d,e with
 | .int i,.int j=>if dN i j=M then Z (.int (i*j),S)else Y
 |_,_=>Y
noncomputable def jp:G2:=λd e S=>match d,e with
 | .int i,.int j=>if 0<j then Z (.int (i%j),S)else Y
 |_,_=>Y
noncomputable def pW:G2:=λd e S=>match d,e with
 | .int i,.int j=>if 0<j/\j<1073741824 then Z (.int (i/j),S)else Y
 |_,_=>Y
noncomputable def rX:G2:=λd e S=>match d,e with
 | .int i,.int j=>if 0<=j/\j<=1000000/\i.natAbs<2^64 then Z (.int (i^j.toNat),S)else Y
 |_,_=>Y
noncomputable def CF:G1:=λd S=>match d with
 | .int i=>Z (.int (-i),S)
 |_=>Y
section
variable{X:Cx}
theorem rK{i j:Int}(h:dN i j=M):IntMulOk i j:=by
 unfold dN at h;simp only[bF,bA1,al]at h;rcases h with(⟨h1,h2⟩|⟨h1,h2⟩)|⟨h1,h2⟩
 ·exact .of_left (intBits_le_64 h1 h2)
 ·exact .of_right (intBits_le_64 h1 h2)
 ·exact .of_bits (aC (intBits_le h1) (by decide)) (aC (intBits_le h2) (by decide))
theorem gQ{f:cE->cE->Sem cE}{g:G2}{c:Int->Int->Prop}{v:Int->Int->D}(hg:∀ d e S r a,g d e S=Z (r,a) -> ∃ i j,d = .int i/\e = .int j/\c i j/\r=v i j/\a=S){b:Int->Int->V}(hv:∀i j K H mu,dP K H mu (v i j) (b i j))(ho:e9 X f (rI c b)):e9 X f (r2 X.K (b2 g)):=by
 intro ag s σ H x y u w Q I p m h;obtain⟨mu,S,d,e,r,a,o,r2,n,l,hc⟩:=mO h;obtain⟨i,j,rfl,rfl,k,rfl,rfl⟩:=hg d e S r a l;cases o;cases r2;exact ho ag s σ H _ _ u w Q I p m ⟨i,j,O,O,k,hc.now (hv i j _ _ _) n⟩
theorem jf{f:cE->cE->Sem cE}{g:G2}{v:Int->Int->D}(hg:∀ d e S r a,g d e S=Z (r,a) -> ∃ i j,d = .int i/\e = .int j/\r=v i j/\a=S){b:Int->Int->V}(hv:∀i j K H mu,dP K H mu (v i j) (b i j))(ho:e9 X f (yK b)):e9 X f (r2 X.K (b2 g)):=by
 intro ag s σ H x y u w Q I n k h;obtain⟨mu,S,d,e,r,a,m,r2,l,c,hc⟩:=mO h;obtain⟨i,j,rfl,rfl,rfl,rfl⟩:=hg d e S r a c;cases m;cases r2;exact ho ag s σ H _ _ u w Q I n k ⟨i,j,O,O,hc.now (hv i j _ _ _) l⟩
theorem wE:e9 X (binaryOp .Sub) (r2 X.K (b2 gSub)):=jf (v:=λi j=>.int (i-j)) (λd e S r a h=>by
 unfold gSub at h;split at h
 ·cases h;exact⟨_,_,O,O,O,O⟩
 ·cases h) (λ_ _ _ _ _=>.int _) BH
theorem iI:e9 X (binaryOp .Mult) (r2 X.K (b2 ic)):=gQ (c:=λi j=>IntMulOk i j) (v:=λi j=>.int (i*j)) (λd e S r a h=>by
 unfold ic at h;split at h
 ·split at h
  ·rename_i q;cases h;exact⟨_,_,O,O,rK q,O,O⟩
  ·cases h
 ·cases h) (λ_ _ _ _ _=>.int _) (opI λ_ _ _ _ _ _ _ hc q=>mul_int q hc)
theorem j4:e9 X (binaryOp .Mod) (r2 X.K (b2 jp)):=gQ (c:=λ_ j=>0<j) (v:=λi j=>.int (i%j)) (λd e S r a h=>by
 unfold jp at h;split at h
 ·split at h
  ·rename_i q;cases h;exact⟨_,_,O,O,q,O,O⟩
  ·cases h
 ·cases h) (λ_ _ _ _ _=>.int _) BM
theorem AH:e9 X (binaryOp .FloorDiv) (r2 X.K (b2 pW)):=gQ (c:=E2) (v:=λi j=>.int (i/j)) (λd e S r a h=>by
 unfold pW at h;split at h
 ·split at h
  ·rename_i q;cases h;exact⟨_,_,O,O,q,O,O⟩
  ·cases h
 ·cases h) (λ_ _ _ _ _=>.int _) ze
theorem wF:e9 X (binaryOp .Pow) (r2 X.K (b2 rX)):=gQ (c:=Aw) (v:=λi j=>.int (i^j.toNat)) (λd e S r a h=>by
 unfold rX at h;split at h
 ·split at h
  ·rename_i q;cases h;exact⟨_,_,O,O,q,O,O⟩
  ·cases h
 ·cases h) (λ_ _ _ _ _=>.int _) BK
theorem D6:Dk X (unaryOp .USub) (λx H Q=>rN X.K (b1 CF) [x] H Q):=by
 intro ag s σ H x v Q I f h;obtain⟨g,mu,S,d,r,j,e,c,b,a,hc⟩:=yG h;cases e;cases d with
 |int i=>cases a;cases c;exact A1 ag s σ H _ v Q I f ⟨i,O,hc.now (.int _) b⟩
 |_=>cases a
theorem uV{s:cF}{prog:cH}{w:cJ}{A:cI}{E:cE->cF->Prop}{t b:cG}{ws:List cE}{Q:cE->cF->Prop}(ht:IsTup s.heap t ([]:List cE).toArray)(hb:IsTup s.heap b ws.toArray)(h:Q (.ref b) s):
  cO (model prog w) A (binaryOp .Add (.ref t) (.ref b)) Q E s:=by
 obtain⟨⟨o,q,l,p⟩,j,hc,n,k⟩:=id ht;obtain⟨⟨i,e,g,f⟩,c,d,m,a⟩:=id hb;simp only at hc k d a;subst hc k d a;exact concat_meets ⟨_,j,O⟩ ⟨_,c,O⟩ noFill_tuple_add seq_tuple_add PySem.F.slot_tuple_add PySem.F.entry_tuple_add (PySem.F.args_tuple_add_2 _ _) (tuple_addW0 t b ([]:List cE).toArray ws.toArray n m q e p f (by simp)) ⟨j,c,h⟩
theorem d8:e9 X (binaryOp .Add) (r2 X.K (b2 et)):=by
 intro ag s σ H x y u w Q I q t h;obtain⟨mu,S,d,e,r,R,v,r2,g,c,hc⟩:=mO h;unfold et at c;split at c
 ·cases c;cases v;cases r2;exact BQ ag s σ H _ _ u w Q I q t ⟨_,_,O,O,hc.now (.int _) g⟩
 ·rename_i xs ys;split at c
  ·rename_i o;cases c;cases v with
   |tup C l=>
    cases r2 with
    |tup A m=>
     rename_i f a1 k a2;by_cases D:f=[]
     ·subst D;have:xs=[]:=by cases l;rfl
      subst this;cases q;cases t;obtain⟨B,P,ao,_⟩:=I.tuple C;obtain⟨E,K,p2,_⟩:=I.tuple A;have:B=[]:=P.nil_iff.mpr O;subst this;exact uV ao p2 ⟨.ref a2,H,I,O,hc.now (.tup A m) g⟩
     ·refine zf ag s σ H _ _ u w Q I q t ⟨a1,a2,f,k,O,O,C,A,D,by rw[<- l.length,<- m.length];exact o,λz=>?_,λz p n=>?_⟩
      ·subst z;have:ys=[]:=by cases m;rfl
       subst this;rw[aL]at hc;exact hc.now (.tup C l) g
      ·exact hc _ _ mu (Ext.fresh n) (.tup (iV.of dr) ((l.append m).ext (Ext.fresh n))) (g.fresh n)
  ·cases c
 ·rename_i i j;split at c
  ·rename_i o;cases c;cases v;cases r2;exact rD ag s σ H _ _ u w Q I q t ⟨i,j,O,O,o,hc.now (.str _) g⟩
  ·cases c
 ·rename_i a b;split at c
  ·rename_i xs ys L am;split at c
   ·rename_i o;cases c;cases v with
    |ref N=>
     cases r2 with
     |ref G=>
      obtain⟨f,F,l⟩:=g.lst L N;obtain⟨k,au,m⟩:=g.lst am G;refine BO ag s σ H _ _ u w Q I q t ⟨_,_,f,k,O,O,F,au,by rw[<- l.length,<- m.length];exact o,λp n=>?_⟩;exact hc _ _ (mu++[p]) (Ext.new_ n) (.ref (fC g.len p)) (g.newL (l.append m) n)
   ·cases c
  ·cases c
 ·cases c
end
noncomputable def iR(p:Int->Int->Bool):G2:=λd e S=>match d,e with
 | .int i,.int j=>Z (.bl (p i j),S)
 |_,_=>Y
section
variable{X:Cx}
theorem tL{p:Int->Int->Bool}(d e:D)(S:cV)(r:D)(S':cV)(h:iR p d e S=Z (r,S')):∃i j,d = .int i/\e = .int j/\r = .bl (p i j)/\S'=S:=by
 unfold iR at h;split at h
 ·cases h;exact⟨_,_,O,O,O,O⟩
 ·cases h
theorem BW:e9 X (compareOp .Gt) (r2 X.K (b2 (iR λi j=>decide (j<i)))):=jf tL (λ_ _ _ _ _=>.bl _) D1
theorem Ea:e9 X (compareOp .GtE) (r2 X.K (b2 (iR λi j=>decide (j<=i)))):=jf tL (λ_ _ _ _ _=>.bl _) D2
end
noncomputable def js:D->Bool
 | .non=>M
 | .bl _=>M
 | .int _=>M
 | .str _=>M
 |_=>J
noncomputable def Ff:D->D->Option Bool
 | .non,.non=>some true
 | .bl a,.bl b=>some (a == b)
 | .bl a,.int b=>some ((if a then 1 else 0) == b)
 | .int a,.bl b=>some (a == (if b then 1 else 0))
 | .int a,.int b=>some (a == b)
 | .str a,.str b=>some (a == b)
 |d,e=>if js d&&js e then some false else none
noncomputable def xG(f:D->D->Option Bool):List D->List D->Option Bool
 |x::xs,y::ys=>(f x y).bind λb=>(xG f xs ys).map λc=>b&&c
 |[],[]=>Z M
 |_,_=>Z J
noncomputable def kM(S:cV):Nat->D->D->Option Bool
 |0,_,_=>Y
 |n+1,d,e=>match da S d,da S e with
  |some p,Z q=>if p.1=q.1 then(if p.1=M/\p.2.length≠q.2.length then Z J else xG (kM S n) p.2 q.2)else Z J
  |some _,Y=>if js e=M then Z J else Y
  |none,Z _=>if js d=M then Z J else Y
  |none,Y=>Ff d e
section
variable{X:Cx}{ag:List (cG×Obj)}{σ:L2.St}{H:Hp}{s:cF}{mu:List cG}{S:cV}
theorem ev{K:Fg1}{d:D}{v:V}(r:dP K H mu d v)(h:js d=M):iM v=M /\ ∀e w,dP K H mu e w->js e=M->Ff d e=Z (qL v w):=by
 cases d with
 |non=>cases r;refine⟨O,λe w q f=>?_⟩;cases e with
  |non=>cases q;rfl
  |bl _=>cases q;rfl
  |int _=>cases q;rfl
  |str _=>cases q;rfl
  |_=>cases f
 |bl b=>cases r;refine⟨O,λe w q f=>?_⟩;cases e with
  |non=>cases q;rfl
  |bl _=>cases q;rfl
  |int _=>cases q;rfl
  |str _=>cases q;rfl
  |_=>cases f
 |int i=>cases r;refine⟨O,λe w q f=>?_⟩;cases e with
  |non=>cases q;rfl
  |bl _=>cases q;rfl
  |int _=>cases q;rfl
  |str _=>cases q;rfl
  |_=>cases f
 |str x=>cases r;refine⟨O,λe w q f=>?_⟩;cases e with
  |non=>cases q;rfl
  |bl _=>cases q;rfl
  |int _=>cases q;rfl
  |str _=>cases q;rfl
  |_=>cases f
 |_=>cases h
theorem lR{d e:D}{b:Bool}(h:Ff d e=Z b):js d=M/\js e=M:=by
 cases d<;>cases e<;>first|exact⟨rfl,rfl⟩|(cases h;done)|exact nomatch h|(simp[Ff,js]at h)
theorem xE{v:V}(h:iM v=M):qL v v=M:=by
 cases v<;>first|rfl|(cases h;done)|exact beq_self_eq_true _|(simp[qL];done)
theorem p7(I:Inv X ag σ H s)(hs:Sim X.K H mu S):∀(n:Nat) {d e:D} {v:V} {b:Bool},dP X.K H mu d v->dP X.K H mu e v->kM S n d e=Z b->b=M
 |0,_,_,_,_,_,_,h=>by cases h
 |n + 1,d,e,v,b,u,l,h=>by
  rw[kM]at h;have g:∀{xs ys:List D} {vs:List V} {b:Bool},c5 X.K H mu xs vs->c5 X.K H mu ys vs->xG (kM S n) xs ys=Z b->b=M:=by
   intro xs
   induction xs with
   |nil=>intro ys vs b A w h;cases A;cases w;cases h;rfl
   |cons x xs ih=>
    intro ys vs b A w h;cases A with
    |cons r t=>
     cases w with
     |cons N R=>
      rw[xG]at h;obtain⟨b1,i,h⟩:=oB1.mp h;obtain⟨b2,c,h⟩:=oM1.mp h;subst h;rw[p7 I hs n r N i,ih t R c];rfl
  cases hd:da S d with
  |some p=>
   obtain⟨F,xs⟩:=p;obtain⟨a,vs,rfl,q,t⟩:=dn u hs hd;cases he:da S e with
   |some p2=>
    obtain⟨qb,ys⟩:=p2;obtain⟨a2,m,c,B,z⟩:=dn l hs he;cases c;rw[hd,he]at h;dsimp only at h;obtain⟨Q,U,C,_⟩:=dW I q;obtain⟨E,L,j,_⟩:=dW I B;have T:F=qb:=by
     cases F<;>cases qb
     ·rfl
     ·obtain⟨o,i,y,_⟩:=C;obtain⟨au,c,k,_⟩:=j;rw[i]at c;cases c;rw[y]at k;exact absurd k (by decide)
     ·obtain⟨o,i,y,_⟩:=C;obtain⟨au,c,k,_⟩:=j;rw[i]at c;cases c;rw[y]at k;exact absurd k (by decide)
     ·rfl
    subst T;have K:=kH I q B;subst K;rw[ak O,aj (by rw[t.length,z.length];simp)]at h;exact g t z h
   |none=>
    rw[hd,he]at h;dsimp only at h;split at h
    ·rename_i f;have:=(ev l f).1;cases this
    ·cases h
  |none=>
   cases he:da S e with
   |some p2=>
    obtain⟨qb,ys⟩:=p2;obtain⟨a2,m,c,B,z⟩:=dn l hs he;subst c;rw[hd,he]at h;dsimp only at h;split at h
    ·rename_i f;have:=(ev u f).1;cases this
    ·cases h
   |none=>
    rw[hd,he]at h;dsimp only at h;obtain⟨P,ao⟩:=lR h;obtain⟨G,am⟩:=ev u P;rw[am e v l ao]at h;cases h;exact xE G
theorem d7{A:cI}{b:Bool}{a:cG}{its:Array cE}{v:V}{u:cE}(c:SCo b s.heap a its)(r:de v u)(f:iM v=true)(d:A.units<cLine):
   SeqAt.EqAt A s (.ref a) u J/\SeqAt.EqAt A s u (.ref a) J/\SeqAt.RcAt A s (.ref a) u J/\SeqAt.RcAt A s u (.ref a) J:=by
 cases v with
 | non => cases r;cases b
          · exact⟨.tuple_none c d,.none_tuple c d,.tuple_none c d,.none_tuple c d⟩
          · exact⟨.list_none c d,.none_list c d,.list_none c d,.none_list c d⟩
 | bl k => cases r;cases b
           · exact⟨.tuple_bool k c d,.bool_tuple k c d,.tuple_bool k c d,.bool_tuple k c d⟩
           · exact⟨.list_bool k c d,.bool_list k c d,.list_bool k c d,.bool_list k c d⟩
 | int i => obtain ⟨t,rfl⟩:=r;cases b
            · exact⟨.tuple_int i t c d,.int_tuple i t c d,.tuple_int i t c d,.int_tuple i t c d⟩
            · exact⟨.list_int i t c d,.int_list i t c d,.list_int i t c d,.int_list i t c d⟩
 | str x => obtain ⟨t,rfl⟩:=r;cases b
            · exact⟨.tuple_str x t c d,.str_tuple x t c d,.tuple_str x t c d,.str_tuple x t c d⟩
            · exact⟨.list_str x t c d,.str_list x t c d,.list_str x t c d,.str_list x t c d⟩
 |_=>cases f
theorem yJ{A:cI}{x y:V}{u w:cE}(g:de x u)(a:de y w)(h:iM x=M)(e:iM y=M):SeqAt.RcAt A s u w (qL x y):=by
 cases x with
 |non=>cases g;cases y with
  |non=>cases a;exact .none_none
  |bl k=>cases a;exact .none_bool k
  |int i=>obtain⟨t,rfl⟩:=a;exact .none_int i t
  |str z=>obtain⟨t,rfl⟩:=a;exact .none_str z t
  |_=>cases e
 |bl c=>cases g;cases y with
  |non=>cases a;exact .bool_none c
  |bl k=>cases a;exact .bool_bool c k
  |int i=>obtain⟨t,rfl⟩:=a;exact .bool_int c i t
  |str z=>obtain⟨t,rfl⟩:=a;exact .bool_str c z t
  |_=>cases e
 |int f=>obtain⟨b,rfl⟩:=g;cases y with
  |non=>cases a;exact .int_none f b
  |bl k=>cases a;exact .int_bool f b k
  |int i=>obtain⟨t,rfl⟩:=a;exact .int_int f b i t
  |str z=>obtain⟨t,rfl⟩:=a;exact .int_str f b z t
  |_=>cases e
 |str d=>obtain⟨b,rfl⟩:=g;cases y with
  |non=>cases a;exact .str_none d b
  |bl k=>cases a;exact .str_bool d b k
  |int i=>obtain⟨t,rfl⟩:=a;exact .str_int d b i t
  |str z=>obtain⟨t,rfl⟩:=a;exact .str_str d b z t
  |_=>cases e
 |_=>cases h
theorem r6(f:D->D->Option Bool):∀{xs ys:List D} {b:Bool},xG f xs ys=Z b -> ∃e:Nat->Bool,(∀j x y,xs[j]?=Z x->ys[j]?=Z y->f x y=Z (e j))/\b=((af (min xs.length ys.length)).all e&&xs.length == ys.length)
 |[],[],b,h=>by cases h;exact⟨λ_=>M,λj x y h=>by simp at h,O⟩
 |[],y::ys,b,h=>by cases h;exact⟨λ_=>M,λj x y h=>by simp at h,by simp⟩
 |x::xs,[],b,h=>by cases h;exact⟨λ_=>M,λj x y h h'=>by simp at h',by simp⟩
 |x::xs,y::ys,b,h=>by
  rw[xG]at h;obtain⟨b1,i,h⟩:=oB1.mp h;obtain⟨b2,l,h⟩:=oM1.mp h;obtain⟨e,d,g⟩:=r6 f l;refine⟨λj=>match j with|0=>b1|j+1=>e j,λj m k a c=>?_,?_⟩
  ·cases j with
   |zero=>simp at a c;subst a;subst c;exact i
   |succ j=>exact d j m k (by simpa using a) (by simpa using c)
  ·rw[<- h,g,lC1,lC1,Nat.succ_min_succ,List.range_succ_eq_map,bG,List.all_map];have:((xs.length+1 == ys.length+1):Bool)=(xs.length == ys.length):=by simp
   rw[this,Bool.and_assoc];rfl
theorem lQ(I:Inv X ag σ H s)(hs:Sim X.K H mu S):∀(n:Nat) {A:cI} {d e:D} {v w:V} {u z:cE} {b:Bool},A.units+n<cLine->dP X.K H mu d v->dP X.K H mu e w->de v u->de w z->kM S n d e=Z b->SeqAt.EqAt A s u z b/\SeqAt.RcAt A s u z b
 |0,_,_,_,_,_,_,_,_,_,_,_,_,_,h=>by cases h
 |n + 1,A,d,e,v,w,u,z,b,hu,N,r,P,L,h=>by
  have g:A.units<cLine:=by lia
  have h0:=h;rw[kM]at h;cases hd:da S d with
  |some p=>
   obtain⟨W,xs⟩:=p;obtain⟨a,vs,rfl,q,t⟩:=dn N hs hd;obtain⟨k,au,o,_⟩:=dW I q;cases P;cases he:da S e with
   |some p2=>
    obtain⟨qb,ys⟩:=p2;obtain⟨a2,E,rfl,q2,R⟩:=dn r hs he;obtain⟨c,l,i,_⟩:=dW I q2;cases L;rw[hd,he]at h;dsimp only at h;have m:SeqAt.RcAt A s (.ref a) (.ref a2) b->SeqAt.EqAt A s (.ref a) (.ref a2) b/\SeqAt.RcAt A s (.ref a) (.ref a2) b:=λrc=>by
     refine⟨?_,rc⟩;by_cases ha:a=a2
     ·subst ha;rw[p7 I hs (n+1) N r h0];exact .same _
     ·exact .of_refs ha rc
    split at h
    ·rename_i Q;have aq:W=qb:=Q;subst aq;split at h
     ·rename_i T;cases h;obtain⟨h1,h2⟩:=T;subst h1;refine m (.lists_lengths o i ?_ g);have l1:=t.length;have l2:=R.length;have l3:=au.length;have l4:=l.length
      simp only[sT1,bne_iff_ne,ne_eq];lia
     ·rename_i T;obtain ⟨f,hf,B⟩:=r6 _ h;have elts:∀ j (h1:j<k.toArray.size) (h2:j<c.toArray.size),SeqAt.EqAt A.in1 s k.toArray[j] c.toArray[j] (f j):=fun j h1 h2=>by
       have am:j<k.length:=by simpa using h1
       have F:j<c.length:=by simpa using h2
       have k1:j<vs.length:=by rw[au.length];exact am
       have k2:j<E.length:=by rw[l.length];exact F
       obtain⟨x,ex,rx⟩:=t.getV (gG1 k1);obtain⟨y,ey,ry⟩:=R.getV (gG1 k2);obtain⟨u1,G,ru1⟩:=au.get (gG1 k1);obtain⟨u2,K,wq⟩:=l.get (gG1 k2);have C:k.toArray[j]=u1:=by
        rw[gG1 am]at G;simpa using G
       have U:c.toArray[j]=u2:=by
        rw[gG1 F]at K;simpa using K
       rw[C,U];exact(lQ I hs n (A:=A.in1) (by show A.units+1+n<cLine;lia) rx ry ru1 wq (hf j x y ex ey)).1
      have l1:=t.length;have l2:=R.length;have l3:=au.length;have l4:=l.length
      cases W with
      |false=>
       refine m ?_;have:=SeqAt.RcAt.tuples o i g elts;rw[B];have C:k.toArray.size=xs.length:=by simp;lia
       have U:c.toArray.size=ys.length:=by simp;lia
       rw[C,U]at this;exact this
      |true=>
       refine m ?_;have ao:xs.length=ys.length:=by
        by_cases z:xs.length=ys.length
        ·exact z
        ·exact absurd ⟨O,z⟩ T
       have:=SeqAt.RcAt.lists o i (by simp;lia) g elts;rw[B];have C:k.toArray.size=xs.length:=by simp;lia
       rw[C]at this;rw[ao,Nat.min_self,beq_self_eq_true,bD,<- ao];exact this
    ·rename_i Q;cases h;cases W with
     |true=>
      cases qb with
      |true=>exact absurd O Q
      |false=>exact⟨.list_tuple o i g,.list_tuple o i g⟩
     |false=>
      cases qb with
      |false=>exact absurd O Q
      |true=>exact⟨.tuple_list o i g,.tuple_list o i g⟩
   |none=>
    rw[hd,he]at h;dsimp only at h;split at h
    ·rename_i f;cases h;obtain⟨r1,r2,r3,r4⟩:=d7 o L (ev r f).1 g;exact⟨r1,r3⟩
    ·cases h
  |none=>
   cases he:da S e with
   |some p2=>
    obtain⟨qb,ys⟩:=p2;obtain⟨a2,E,rfl,q2,R⟩:=dn r hs he;obtain⟨c,l,i,_⟩:=dW I q2;cases L;rw[hd,he]at h;dsimp only at h;split at h
    ·rename_i f;cases h;obtain⟨r1,r2,r3,r4⟩:=d7 i P (ev N f).1 g;exact⟨r2,r4⟩
    ·cases h
   |none=>
    rw[hd,he]at h;dsimp only at h;obtain⟨f1,f2⟩:=lR h;obtain⟨g1,g2⟩:=ev N f1;have g3:=(ev r f2).1;rw[g2 e w r f2]at h;cases h;exact⟨iS P L g1 g3,yJ P L g1 g3⟩
end
noncomputable def dU:Nat:=60
noncomputable def oA:G2:=λd e S=>(kM S dU d e).map λb=>(.bl b,S)
section
variable{X:Cx}
theorem lA(k:X.A.units+64<cLine):e9 X (compareOp .Eq) (r2 X.K (b2 oA)):=by
 intro ag s σ H x y u w Q I j g h;obtain⟨mu,S,d,e,r,l,i,r2,c,a,hc⟩:=mO h;obtain⟨b,f,a⟩:=oM1.mp a;cases a;exact(lQ I c dU (by show _+60<cLine;lia) i r2 j g f).2 X.prog X.w X.xe _ ⟨.bl b,H,I,O,hc.now (.bl b) c⟩
end
section
variable{X:Cx}{ag:List (cG×Obj)}{σ:L2.St}{H:Hp}{s:cF}{mu:List cG}{S:cV}
theorem zm{A:cI}{x y:V}{u w:cE}(g:de x u)(a:de y w)(h:iM x=M)(e:iM y=M):SeqAt.RcNeAt A s u w (!qL x y):=by
 cases x with
 |non=>cases g;cases y with
  |non=>cases a;exact .none_none
  |bl k=>cases a;exact .none_bool k
  |int i=>obtain⟨t,rfl⟩:=a;exact .none_int i t
  |str z=>obtain⟨t,rfl⟩:=a;exact .none_str z t
  |_=>cases e
 |bl c=>cases g;cases y with
  |non=>cases a;exact .bool_none c
  |bl k=>cases a;exact .bool_bool c k
  |int i=>obtain⟨t,rfl⟩:=a;exact .bool_int c i t
  |str z=>obtain⟨t,rfl⟩:=a;exact .bool_str c z t
  |_=>cases e
 |int f=>obtain⟨b,rfl⟩:=g;cases y with
  |non=>cases a;exact .int_none f b
  |bl k=>cases a;exact .int_bool f b k
  |int i=>obtain⟨t,rfl⟩:=a;exact .int_int f b i t
  |str z=>obtain⟨t,rfl⟩:=a;exact .int_str f b z t
  |_=>cases e
 |str d=>obtain⟨b,rfl⟩:=g;cases y with
  |non=>cases a;exact .str_none d b
  |bl k=>cases a;exact .str_bool d b k
  |int i=>obtain⟨t,rfl⟩:=a;exact .str_int d b i t
  |str z=>obtain⟨t,rfl⟩:=a;exact .str_str d b z t
  |_=>cases e
 |_=>cases h
theorem j7{A:cI}{b:Bool}{a:cG}{its:Array cE}{v:V}{u:cE}(c:SCo b s.heap a its)(r:de v u)(f:iM v=M)(d:A.units<cLine):SeqAt.RcNeAt A s (.ref a) u M/\SeqAt.RcNeAt A s u (.ref a) M:=by
 cases v with
 | non => cases r;cases b
          · exact⟨.tuple_none c d,.none_tuple c d⟩
          · exact⟨.list_none c d,.none_list c d⟩
 | bl k => cases r;cases b
           · exact⟨.tuple_bool k c d,.bool_tuple k c d⟩
           · exact⟨.list_bool k c d,.bool_list k c d⟩
 | int i => obtain ⟨t,rfl⟩:=r;cases b
            · exact⟨.tuple_int i t c d,.int_tuple i t c d⟩
            · exact⟨.list_int i t c d,.int_list i t c d⟩
 | str x => obtain ⟨t,rfl⟩:=r;cases b
            · exact⟨.tuple_str x t c d,.str_tuple x t c d⟩
            · exact⟨.list_str x t c d,.str_list x t c d⟩
 |_=>cases f
theorem BZ(I:Inv X ag σ H s)(hs:Sim X.K H mu S)(n:Nat){A:cI}{d e:D}{v w:V}{u z:cE}{b:Bool}(hu:A.units+n<cLine)(au:dP X.K H mu d v)(r:dP X.K H mu e w)(R:de v u)(ao:de w z)(h:kM S n d e=Z b):SeqAt.RcNeAt A s u z (!b):=by
 cases n with
 |zero=>cases h
 |succ n=>
  have g:A.units<cLine:=by lia
  rw[kM]at h;cases hd:da S d with
  |some p=>
   obtain⟨T,xs⟩:=p;obtain⟨a,vs,rfl,q,t⟩:=dn au hs hd;obtain⟨k,Q,m,_⟩:=dW I q;cases R;cases he:da S e with
   |some p2=>
    obtain⟨qb,ys⟩:=p2;obtain⟨a2,C,rfl,q2,wq⟩:=dn r hs he;obtain⟨c,l,i,_⟩:=dW I q2;cases ao;rw[hd,he]at h;dsimp only at h;have l1:=t.length;have l2:=wq.length;have l3:=Q.length;have l4:=l.length
    split at h
    ·rename_i L;have U:T=qb:=L;subst U;split at h
     ·rename_i N;cases h;obtain⟨h1,h2⟩:=N;subst h1;refine .lists_lengths m i ?_ g;simp only[sT1,bne_iff_ne,ne_eq];lia
     ·rename_i N;obtain ⟨f,hf,o⟩:=r6 _ h;have elts:∀ j (h1:j<k.toArray.size) (h2:j<c.toArray.size),SeqAt.EqAt A.in1 s k.toArray[j] c.toArray[j] (f j):=fun j h1 h2=>by
       have G:j<k.length:=by simpa using h1
       have E:j<c.length:=by simpa using h2
       have k1:j<vs.length:=by rw[Q.length];exact G
       have k2:j<C.length:=by rw[l.length];exact E
       obtain⟨x,ex,rx⟩:=t.getV (gG1 k1);obtain⟨y,ey,ry⟩:=wq.getV (gG1 k2);obtain⟨u1,F,aq⟩:=Q.get (gG1 k1);obtain⟨u2,am,W⟩:=l.get (gG1 k2);have B:k.toArray[j]=u1:=by
        rw[gG1 G]at F;simpa using F
       have P:c.toArray[j]=u2:=by
        rw[gG1 E]at am;simpa using am
       rw[B,P];exact(lQ I hs n (A:=A.in1) (by show A.units+1+n<cLine;lia) rx ry aq W (hf j x y ex ey)).1
      cases T with
      |false=>
       have:=SeqAt.RcNeAt.tuples m i g elts;rw[o];have B:k.toArray.size=xs.length:=by simp;lia
       have P:c.toArray.size=ys.length:=by simp;lia
       rw[B,P]at this;exact this
      |true=>
       have K:xs.length=ys.length:=by
        by_cases z:xs.length=ys.length
        ·exact z
        ·exact absurd ⟨O,z⟩ N
       have:=SeqAt.RcNeAt.lists m i (by simp;lia) g elts;rw[o];have B:k.toArray.size=xs.length:=by simp;lia
       rw[B]at this;rw[K,Nat.min_self,beq_self_eq_true,bD,<- K];exact this
    ·rename_i L;cases h;cases T with
     |true=>
      cases qb with
      |true=>exact absurd O L
      |false=>exact .list_tuple m i g
     |false=>
      cases qb with
      |false=>exact absurd O L
      |true=>exact .tuple_list m i g
   |none=>
    rw[hd,he]at h;dsimp only at h;split at h
    ·rename_i f;cases h;exact(j7 m ao (ev r f).1 g).1
    ·cases h
  |none=>
   cases he:da S e with
   |some p2=>
    obtain⟨qb,ys⟩:=p2;obtain⟨a2,C,rfl,q2,wq⟩:=dn r hs he;obtain⟨c,l,i,_⟩:=dW I q2;cases ao;rw[hd,he]at h;dsimp only at h;split at h
    ·rename_i f;cases h;exact(j7 i R (ev au f).1 g).2
    ·cases h
   |none=>
    rw[hd,he]at h;dsimp only at h;obtain⟨f1,f2⟩:=lR h;obtain⟨g1,g2⟩:=ev au f1;have g3:=(ev r f2).1;rw[g2 e w r f2]at h;cases h;exact zm R ao g1 g3
end
noncomputable def vf:G2:=λd e S=>(kM S dU d e).map λb=>(.bl (!b),S)
noncomputable def AL(f:D->D->Option Bool)(x:D):List D->Option Bool
 |[]=>Z J
 |y::ys=>(f y x).bind λb=>(AL f x ys).map λc=>b||c
noncomputable def Dj:G2:=λd e S=>(da S e).bind λp=>(AL (kM S dU) d p.2).map λb=>(.bl b,S)
noncomputable def lI:G2:=λd e S=>(da S e).bind λp=>(AL (kM S dU) d p.2).map λb=>(.bl (!b),S)
noncomputable def nf:D->Bool
 | .non=>M
 |_=>J
noncomputable def F3:G2:=λd e S=>match e with
 | .non=>Z (.bl (nf d),S)
 |_=>Y
noncomputable def z0:G2:=λd e S=>match e with
 | .non=>Z (.bl (!nf d),S)
 |_=>Y
section
variable{X:Cx}
theorem ut(k:X.A.units+64<cLine):e9 X (compareOp .NotEq) (r2 X.K (b2 vf)):=by
 intro ag s σ H x y u w Q I j g h;obtain⟨mu,S,d,e,r,l,i,r2,c,a,hc⟩:=mO h;obtain⟨b,f,a⟩:=oM1.mp a;cases a;exact BZ I c dU (by show _+60<cLine;lia) i r2 j g f X.prog X.w X.xe _ ⟨.bl (!b),H,I,O,hc.now (.bl _) c⟩
theorem xj(f:D->D->Option Bool)(x:D):∀{ys:List D} {b:Bool},AL f x ys=Z b -> ∃bs:List Bool,bs.length=ys.length/\(∀(j:Nat) (y:D) (k:Bool),ys[j]?=Z y->bs[j]?=Z k->f y x=Z k)/\b=bs.any id
 |[],b,h=>by cases h;exact⟨[],O,λj y k h=>by simp at h,O⟩
 |y::ys,b,h=>by
  rw[AL]at h;obtain⟨b1,g,h⟩:=oB1.mp h;obtain⟨b2,l,h⟩:=oM1.mp h;obtain⟨bs,m,e,a⟩:=xj f x l;refine⟨b1::bs,by simp[m],λj i k c d=>?_,?_⟩
  ·cases j with
   |zero=>simp at c d;subst c;subst d;exact g
   |succ j=>exact e j i k (by simpa using c) (by simpa using d)
  ·rw[<- h,a];simp
open Classical in
theorem AK{ag:List (cG×Obj)}{σ:L2.St}{H:Hp}{s:cF}{mu:List cG}{S:cV}(I:Inv X ag σ H s)(hs:Sim X.K H mu S){A:cI}(am:A.units+61<cLine){x:D}{v:V}{u:cE}(C:dP X.K H mu x v)(E:de v u){ys:List D}{vs:List V}{a:List cE}{b:Bool}(o:c5 X.K H mu ys vs)(p:dy vs a)(h:AL (kM S dU) x ys=Z b):∃e:cE->Bool,(∀w∈a,SeqAt.EqAt A.in1 s w u (e w))/\a.any e=b:=by
 obtain⟨bs,L,F,rfl⟩:=xj _ x h;have K:=o.length;have N:=p.length;have g:∀(j:Nat) w k,a[j]?=Z w->bs[j]?=Z k->SeqAt.EqAt A.in1 s w u k:=λj w k l d=>by
  have r:j<a.length:=(gE1.mp l).1;obtain⟨y,B,G⟩:=o.getV (i:=j) (v:=vs[j]'(by lia)) (gG1 (by lia));obtain⟨ao,q,r2⟩:=p.get (i:=j) (x:=vs[j]'(by lia)) (gG1 (by lia));rw[l]at q;cases q;exact(lQ I hs dU (A:=A.in1) (by show A.units+1+60<cLine;lia) G C r2 E (F j y k B d)).1
 refine⟨λw=>decide (∃j:Nat,a[j]?=Z w/\bs[j]?=Z M),λw l=>?_,?_⟩
 ·by_cases z:∃j:Nat,a[j]?=Z w/\bs[j]?=Z M
  ·dsimp only;rw[ah z];obtain⟨j,n,c⟩:=z;exact g j w M n c
  ·dsimp only;rw[ai z];obtain⟨j,f⟩:=bj l;have r:j<a.length:=(gE1.mp f).1;have m:j<bs.length:=by lia
   have c:=gG1 m;cases d:bs[j]with
   |true=>rw[d]at c;exact absurd ⟨j,f,c⟩ z
   |false=>rw[d]at c;exact g j w J f c
 ·rw[bH,bI,bI];constructor
  ·rintro⟨w,l,z⟩;obtain⟨j,n,c⟩:=of_decide_eq_true z;exact⟨M,gM1 c,O⟩
  ·rintro⟨k,d,z⟩;obtain⟨j,f⟩:=bj d;have r:j<bs.length:=(gE1.mp f).1;have m:j<a.length:=by lia
   have t:k=M:=z;subst t;exact⟨a[j],bJ m,ah ⟨j,gG1 m,f⟩⟩
theorem FR(E:X.A.units+64<cLine):e9 X (compareOp .In) (r2 X.K (b2 Dj)):=by
 intro ag s σ H x y u w Q I D v h;obtain⟨mu,S,d,e,r,F,C,r2,k,g,hc⟩:=mO h;obtain⟨⟨n,ys⟩,p,g⟩:=oB1.mp g;obtain⟨b,z,g⟩:=oM1.mp g;cases g;obtain⟨a,vs,rfl,q,t⟩:=dn r2 k p;cases v;obtain⟨c,B,m,_⟩:=dW I q;obtain⟨f,l,o⟩:=AK I k (A:=X.A) (by lia) C D t B z;have i:EP X ag σ Q (.bool (c.toArray.any f)) s:=⟨.bl b,H,I,by rw[show c.toArray.any f=c.any f by simp,o];rfl,hc.now (.bl b) k⟩;cases n
 ·exact SeqAt.in_tupleAt f m (λy j=>l y (by simpa using j)) i
 ·exact SeqAt.in_listAt f m (λy j=>l y (by simpa using j)) i
theorem zj(E:X.A.units+64<cLine):e9 X (compareOp .NotIn) (r2 X.K (b2 lI)):=by
 intro ag s σ H x y u w Q I D v h;obtain⟨mu,S,d,e,r,F,C,r2,k,g,hc⟩:=mO h;obtain⟨⟨n,ys⟩,p,g⟩:=oB1.mp g;obtain⟨b,z,g⟩:=oM1.mp g;cases g;obtain⟨a,vs,rfl,q,t⟩:=dn r2 k p;cases v;obtain⟨c,B,m,_⟩:=dW I q;obtain⟨f,l,o⟩:=AK I k (A:=X.A) (by lia) C D t B z;have i:EP X ag σ Q (.bool (!c.toArray.any f)) s:=⟨.bl (!b),H,I,by rw[show c.toArray.any f=c.any f by simp,o];rfl,hc.now (.bl _) k⟩;cases n
 ·exact SeqAt.notIn_tupleAt f m (λy j=>l y (by simpa using j)) i
 ·exact SeqAt.notIn_listAt f m (λy j=>l y (by simpa using j)) i
theorem tf{K:Fg1}{H:Hp}{mu:List cG}{d:D}{v:V}(r:dP K H mu d v):nf d=decide (v = .non):=by
 cases r<;>simp[nf]
theorem D8:e9 X (compareOp .Is) (r2 X.K (b2 F3)):=by
 intro ag s σ H x y u w Q I g b h;obtain⟨mu,S,d,e,r,i,f,r2,c,a,hc⟩:=mO h;cases e with
 |non=>
  cases a;cases r2;refine BN ag s σ H _ _ u w Q I g b ⟨O,?_⟩;rw[<- tf f];exact hc.now (.bl _) c
 |_=>cases a
theorem BV:e9 X (compareOp .IsNot) (r2 X.K (b2 z0)):=by
 intro ag s σ H x y u w Q I g b h;obtain⟨mu,S,d,e,r,i,f,r2,c,a,hc⟩:=mO h;cases e with
 |non=>
  cases a;cases r2;refine zd ag s σ H _ _ u w Q I g b ⟨O,?_⟩;rw[<- tf f];exact hc.now (.bl _) c
 |_=>cases a
end
noncomputable def d9:G1:=λd S=>match d with
 | .str x=>if x.length<=cN then Z (.int x.length,S)else Y
 |_=>(da S d).map λp=>(.int p.2.length,S)
noncomputable def xy:G2:=λd e S=>match e with
 | .int i=>(da S d).bind λp=>(qM p.2 i).map λx=>(x,S)
 |_=>Y
noncomputable def gTup:G1:=λd S=>(da S d).map λp=>(.tup p.2,S)
noncomputable def pV:G1:=λd S=>(da S d).map λp=>(.ref S.length,S++[.lst p.2])
noncomputable def ib:G3:=λo i v S=>match o,i with
 | .ref n,.int k=>match S[n]? with
  |some (.lst xs)=>(rS xs.length k).map λj=>(.non,S.set n (.lst (xs.set j v)))
  |_=>Y
 |_,_=>Y
noncomputable def kC:G1:=λd S=>match d with
 | .int i=>Z (.int i,S)
 | .bl b=>Z (.int (if b then 1 else 0),S)
 |_=>Y
noncomputable def zX:G2:=λd e S=>match d,e with
 | .int i,.int j=>Z (.int (if j>i then j else i),S)
 |_,_=>Y
noncomputable def zW:G2:=λd e S=>match d,e with
 | .int i,.int j=>Z (.int (if j<i then j else i),S)
 |_,_=>Y
section
variable{X:Cx}
theorem eL:dV X (.builtin "len") (rN X.K (b1 d9)):=by
 intro ag s σ H xs f Q I r h;obtain⟨x,mu,S,d,k,l,rfl,g,e,c,hc⟩:=yG h;unfold d9 at c;split at c
 ·split at c
  ·rename_i z j;cases c;cases g;exact oJ ag s σ H _ f Q I r ⟨_,O,j,hc.now (.int _) e⟩
  ·cases c
 ·obtain⟨⟨b,ys⟩,i,c⟩:=oM1.mp c;cases c;obtain⟨a,vs,rfl,q,t⟩:=dn g e i;refine oK ag s σ H _ f Q I r ⟨a,vs,O,?_,?_⟩
  ·cases b
   ·exact .inr q
   ·exact .inl q
  ·rw[<- t.length];exact hc.now (.int _) e
theorem An{K:Fg1}{H:Hp}{mu:List cG}{ds:List D}{vs:List V}{i:Int}{d:D}(t:c5 K H mu ds vs)(h:qM ds i=Z d):∃v,qM vs i=Z v/\dP K H mu d v:=by
 unfold qM at h ⊢;rw[<- t.length];obtain⟨j,b,h⟩:=oB1.mp h;obtain⟨v,a,c⟩:=t.get h;exact⟨v,by rw[b];exact a,c⟩
theorem Fk:AR X (r2 X.K (b2 xy)):=by
 intro value c ag s σ H x y v u Q I o m h g;obtain⟨mu,S,d,e,r,B,A,r2,j,f,hc⟩:=mO h;cases e with
 |int i=>
  obtain⟨⟨b,ys⟩,p,f⟩:=oB1.mp f;obtain⟨z,w,f⟩:=oM1.mp f;cases f;cases r2;obtain⟨a,vs,rfl,q,t⟩:=dn A j p;obtain⟨l,k,n⟩:=An t w;cases b
  ·exact CA value c ag s σ H _ _ v u Q I o m ⟨a,vs,i,l,O,O,q,k,hc.now n j⟩ g
  ·exact zM value c ag s σ H _ _ v u Q I o m ⟨a,vs,i,l,O,O,q,k,hc.now n j⟩ g
 |_=>cases f
theorem eN:dV X (.type "tuple") (rN X.K (b1 gTup)):=by
 intro ag s σ H xs g Q I r h;obtain⟨x,mu,S,d,k,m,rfl,j,e,c,hc⟩:=yG h;obtain⟨⟨b,ys⟩,i,c⟩:=oM1.mp c;cases c;obtain⟨a,vs,rfl,q,t⟩:=dn j e i;refine mq ag s σ H _ g Q I r ⟨a,vs,O,?_⟩;cases b
 ·exact .inr ⟨q,hc.now (.tup q t) e⟩
 ·exact .inl ⟨q,λl f=>hc _ _ mu (Ext.fresh f) (.tup (iV.of dr) (t.ext (Ext.fresh f))) (e.fresh f)⟩
theorem sf:dV X (.type "list") (rN X.K (b1 pV)):=by
 intro ag s σ H xs g Q I r h;obtain⟨x,mu,S,d,k,m,rfl,j,e,c,hc⟩:=yG h;obtain⟨⟨b,ys⟩,i,c⟩:=oM1.mp c;cases c;obtain⟨a,vs,rfl,q,t⟩:=dn j e i;refine oI ag s σ H _ g Q I r ⟨a,vs,O,?_,λl f=>hc _ _ (mu++[l]) (Ext.new_ f) (.ref (fC e.len l)) (e.newL t f)⟩;cases b
 ·exact .inr q
 ·exact .inl q
theorem DK:sv X (rU X.K (b3 ib)):=by
 intro ag s σ H o i v l g u Q I m y p h;obtain⟨mu,S,ds,d,D,A,f,a,hc⟩:=h;cases A with
 |cons x z=>cases z with
  |cons C B=>cases B with
   |cons w q=>
    cases q;rename_i G E F;dsimp only[b3]at a;unfold ib at a;split at a
    ·rename_i n k;split at a
     ·rename_i xs e;obtain⟨j,r,a⟩:=oM1.mp a;cases a;cases x with
      |ref c=>
       cases C;obtain⟨vs,b,t⟩:=f.lst e c;refine v7 ag s σ H _ _ v l g u Q I m y p ⟨_,vs,k,j,O,O,b,by rw[<- t.length];exact r,?_⟩;exact hc _ mu (Ext.put b trivial (gM1 c)) (f.putL (t.set w j) c b)
     ·cases a
    ·cases a
theorem qr:dV X (.type "int") (rN X.K (b1 kC)):=by
 intro ag s σ H xs c Q I r h;obtain⟨x,mu,S,d,g,j,rfl,e,f,a,hc⟩:=yG h;cases d with
 |int i=>cases a;cases e;exact nz ag s σ H _ c Q I r (.inl ⟨i,O,hc.now (.int _) f⟩)
 |bl b=>cases a;cases e;exact nz ag s σ H _ c Q I r (.inr ⟨b,O,hc.now (.int _) f⟩)
 |_=>cases a
theorem EM(hc:X.calm=M):dV X (.builtin "max") (rN X.K (b2 zX)):=by
 intro ag s σ H xs c Q I r h;obtain⟨x,y,mu,S,d,e,i,j,rfl,f,r2,g,a,b⟩:=yF h;unfold zX at a;split at a
 ·cases a;cases f;cases r2;exact u5 hc ag s σ H _ c Q I r ⟨_,_,O,b.now (.int _) g⟩
 ·cases a
theorem EL(hc:X.calm=M):dV X (.builtin "min") (rN X.K (b2 zW)):=by
 intro ag s σ H xs c Q I r h;obtain⟨x,y,mu,S,d,e,i,j,rfl,f,r2,g,a,b⟩:=yF h;unfold zW at a;split at a
 ·cases a;cases f;cases r2;exact u4 hc ag s σ H _ c Q I r ⟨_,_,O,b.now (.int _) g⟩
 ·cases a
end
open PySem.SeqAt
open PySem.AutoSeq1 (wpAny_loadPart')
open PySem.MeetsSeq PySem.MeetsSeq2 PySem.MeetsSeq3
def Ar(A:cI)(s:cF)(y x:cE)(b:Bool):Prop:=∀(prog:cH) (w:cJ) (E:cE->cF->Prop) (Q:cE->cF->Prop),Q (.bool b) s->cO (model prog w) A (richCompare .Lt y x) Q E s
inductive vi (A:cI)(s:cF):List cE->List cE->Bool->Prop
 |nn:vi A s [] [] false
 |nc (y:cE) (ys:List cE):vi A s [] (y::ys) true
 |cn (x:cE) (xs:List cE):vi A s (x::xs) [] false
 |eq {x y:cE} {xs ys:List cE} {k:Bool} (e:EqAt A.in1 s x y true) (t:vi A s xs ys k):vi A s (x::xs) (y::ys) k
 |lt {x y:cE} {xs ys:List cE} {k:Bool} (e:EqAt A.in1 s x y false) (t:Ar A.in1 s x y k):vi A s (x::xs) (y::ys) k
theorem A4(l b:cG)(items items2:Array cE)(n C:Nat)(dd m:Option cG)(sl p:Array (Option cE))(c:Bool):
  Meets (Builtin.«tuple.__lt__» ⟨[.ref l,.ref b],[]⟩) (fun A R s=>s.heap.get? l=some {cls:=.type "tuple",dict:=dd,data:=.seq items n,slots:=sl}/\s.heap.get? b=some {cls:=.type "tuple",dict:=m,data:=.seq items2 C,slots:=p} /\
    vi A s items.toList items2.toList c/\R (.ok (.ret (.bool c))) s):=
 .of_wp λprog w A R s h=>by
  obtain⟨u,g,d,tk,v⟩:=s;obtain⟨B,F,D,h⟩:=h;have G:=AutoSeq1.sub_tuple_tuple
  wp_walk using wpAny_loadPart' B,wpAny_loadPart' F,wpAny_forIn_list _ (λrest b s'=>b.1=Y/\s'=⟨u,g,d,tk,v⟩ /\ ∃vs ws:List cE,rest=vs.zip ws/\vi A ⟨u,g,d,tk,v⟩ vs ws c/\vs.length+items2.size=ws.length+items.size) _
  case turn=>
   rintro⟨y,x⟩ rest b s' ⟨k,rfl,vs,ws,f,q,a⟩;cases q with
   |nn=>cases f
   |nc _ _=>cases f
   |cn _ _=>cases f
   |eq e t=>
    rw[bK]at f;injection f with j i;injection j with o r;subst o r
    simp only[lC1]at a;refine wB1 (e prog w _ _ ?_)
    wp_walk
    exact⟨O,O,_,_,i,t,by lia⟩
   |lt e t=>
    rw[bK]at f;injection f with j i;injection j with o r;subst o r
    refine wB1 (e prog w _ _ ?_);have E:=t prog w
    wp_walk using E
    exact⟨_,O,by simpa using h⟩
  case fin=>
   rintro⟨b1,b2⟩ s' ⟨k,rfl,vs,ws,f,q,a⟩;simp only at k;subst k;have z:c=decide (items.size<items2.size):=by
    cases q with
    |nn=>simp only[aZ]at a;exact(ai (by lia)).symm
    |nc _ _=>simp only[aZ,lC1]at a;exact(ah (by lia)).symm
    |cn _ _=>simp only[aZ,lC1]at a;exact(ai (by lia)).symm
    |eq _ _=>rw[bK]at f;cases f
    |lt _ _=>rw[bK]at f;cases f
   rw[z]at h
   wp_walk
   exact⟨_,O,by simpa[Builtin.Tuple.tupleCompareSizes]using h⟩
  case h=>exact⟨O,O,items.toList,items2.toList,O,D,by simp;lia⟩
theorem w4(l b:cG)(items items2:Array cE)(n G:Nat)(dd r:Option cG)(sl x:Array (Option cE))(c:Bool)(k:Nat):
  ∀i:Nat,items.size-i=k->i<=items.size->i<=items2.size->Meets (Builtin.«list.__eq__.loop» ⟨[.ref l,.ref b,rawInt i,rawInt 0],[]⟩)
   (λA R s=>s.heap.get? l=Z {cls:=.type "list",dict:=dd,data:=.seq items n,slots:=sl}/\s.heap.get? b=Z {cls:=.type "list",dict:=r,data:=.seq items2 G,slots:=x} /\
    vi A s (items.toList.drop i) (items2.toList.drop i) c/\R (.ok (.ret (.bool c))) s):=by
 induction k with
 |zero=>
  intro i F v u prog w A R s h;obtain⟨C,g,d,tk,I⟩:=s;obtain⟨f,m,a,h⟩:=h
  wp_walk using wpAny_loadPart' f,wpAny_loadPart' m
  have o:items[((i:Nat):Int).toNat]?=Y:=by simp;lia
  have B:items.toList.drop i=[]:=by simp;lia
  rw[B]at a;rw[o]
  wp_walk using wpAny_loadPart' f,wpAny_loadPart' m
  have D:c=decide (items.size<items2.size):=by
   cases h2:items2.toList.drop i with
   |nil=>
    rw[h2]at a;cases a;have:=congrArg List.length h2;simp at this;exact(ai (by lia)).symm
   |cons y ys=>
    rw[h2]at a;cases a;have:=congrArg List.length h2;simp at this;exact(ah (by lia)).symm
  show R (.ok (.ret (.bool (decide (items.size<items2.size))))) _;rw[<- D];exact h
 |succ k ih=>
  intro i F v u prog w A R s h;obtain⟨C,g,d,tk,I⟩:=s;obtain⟨f,m,a,h⟩:=h;have p:i<items.size:=by lia
  have B:items.toList.drop i=items[i]::items.toList.drop (i+1):=by simp[List.drop_eq_getElem_cons,p]
  have o:items[((i:Nat):Int).toNat]?=Z items[i]:=by simp[p]
  have hc:((i:Int)+1)=((i+1:Nat):Int):=by push_cast;rfl
  rw[B]at a;rcases bL i items2.size with j|E
  ·have z:items2.toList.drop i=items2[i]::items2.toList.drop (i+1):=by simp[List.drop_eq_getElem_cons,j]
   have q:items2[((i:Nat):Int).toNat]?=Z items2[i]:=by simp[j]
   rw[z]at a
   wp_walk using wpAny_loadPart' f,wpAny_loadPart' m
   rw[o,q];cases a with
   |eq e t=>
    refine wB1 (e prog w _ _ ?_)
    wp_walk
    rw[hc];exact⟨plainId_quiet plain_eq_loop _,wD1 entry_eq_loop (by rw[Around.under_plainId plain_eq_loop _];exact ih (i+1) (by lia) (by lia) (by lia) prog w A R _ ⟨f,m,t,h⟩)⟩
   |lt e t=>
    refine wB1 (e prog w _ _ ?_);have H:=t prog w
    wp_walk using wpAny_loadPart' f,wpAny_loadPart' m
    rw[o,q]
    wp_walk using H
    simpa using h
  ·have q:items2[((i:Nat):Int).toNat]?=Y:=by simp;lia
   have z:items2.toList.drop i=[]:=by simp;lia
   rw[z]at a;cases a
   wp_walk using wpAny_loadPart' f,wpAny_loadPart' m
   rw[o,q]
   wp_walk using wpAny_loadPart' f,wpAny_loadPart' m
   show R (.ok (.ret (.bool (decide (items.size<items2.size))))) _;rw[ai (by lia)];exact h
theorem Cr(l b:cG)(items items2:Array cE)(n f:Nat)(dd a:Option cG)(sl e:Array (Option cE))(c:Bool):
  Meets (Builtin.«list.__lt__» ⟨[.ref l,.ref b],[]⟩) (fun A R s=>s.heap.get? l=some {cls:=.type "list",dict:=dd,data:=.seq items n,slots:=sl}/\s.heap.get? b=some {cls:=.type "list",dict:=a,data:=.seq items2 f,slots:=e} /\
    vi A s items.toList items2.toList c/\R (.ok (.ret (.bool c))) s):=by
 intro prog w A R s h;obtain⟨o,g,d,tk,p⟩:=s;obtain⟨j,i,k,h⟩:=h;have m:=AutoSeq1.sub_list_list
 wp_walk using wpAny_loadPart' j,wpAny_loadPart' i
 exact⟨plainId_quiet plain_eq_loop _,wD1 entry_eq_loop (by rw[Around.under_plainId plain_eq_loop _];exact w4 l b items items2 n f dd a sl e c _ 0 O (bd _) (bd _) prog w A R _ ⟨j,i,by simpa using k,h⟩)⟩
theorem A9{A:cI}{s:cF}{k:Bool}{l b:cG}{xs ys:Array cE}{c:Bool}(z:SCo k s.heap l xs)(B:SCo k s.heap b ys)(y:A.units<cLine)(h:vi A s xs.toList ys.toList c):Ar A s (.ref l) (.ref b) c:=λprog w E Q q=>by
 cases k
 ·obtain⟨⟨t,v,m,u⟩,o,hc,n,p⟩:=id z;obtain⟨⟨j,f,i,g⟩,d,e,r,a⟩:=id B;simp only at hc p e a;subst hc p e a;exact richCompare_meets_room (op:=.Lt) ⟨_,o,O⟩ ⟨_,d,O⟩ PySem.F.slot_tuple_lt PySem.F.entry_tuple_lt (PySem.F.args_tuple_lt_2 _ _) (A4 l b xs ys n r v f u g c) ⟨o,d,h,show Value.bool c≠Value.notImplemented/\Q (.bool c) s from⟨(λx=>nomatch x),q⟩⟩ y
 ·obtain⟨⟨t,v,m,u⟩,o,hc,n,p⟩:=id z;obtain⟨⟨j,f,i,g⟩,d,e,r,a⟩:=id B;simp only at hc p e a;subst hc p e a;exact richCompare_meets_room (op:=.Lt) ⟨_,o,O⟩ ⟨_,d,O⟩ PySem.F.slot_list_lt PySem.F.entry_list_lt (PySem.F.args_list_lt_2 _ _) (Cr l b xs ys n r v f u g c) ⟨o,d,h,show Value.bool c≠Value.notImplemented/\Q (.bool c) s from⟨(λx=>nomatch x),q⟩⟩ y
noncomputable def Fc(f g:D->D->Option Bool):List D->List D->Option Bool
 |[],[]=>Z J
 |[],_::_=>Z M
 |_::_,[]=>Z J
 |x::xs,y::ys=>(f x y).bind λb=>if b=M then Fc f g xs ys else g x y
noncomputable def Gw:D->D->Option Bool
 | .int i,.int j=>Z (decide (i<j))
 | .str x,.str y=>Z (decide (x.cps.toList<y.cps.toList))
 |_,_=>Y
noncomputable def Dh(S:cV):Nat->D->D->Option Bool
 |0,_,_=>Y
 |n+1,d,e=>match Gw d e with
  |some b=>Z b
  |none=>match da S d,da S e with
   |some p,Z q=>if p.1=q.1 then Fc (kM S n) (Dh S n) p.2 q.2 else Y
   |_,_=>Y
noncomputable def vg:G2:=λd e S=>(Dh S dU d e).map λb=>(.bl b,S)
section
variable{X:Cx}{ag:List (cG×Obj)}{σ:L2.St}{H:Hp}{s:cF}{mu:List cG}{S:cV}
theorem Cq(I:Inv X ag σ H s)(hs:Sim X.K H mu S){n:Nat}{A:cI}(m:A.units+1+n<cLine)(ih:∀ {d e:D} {v w:V} {u z:cE} {b:Bool},dP X.K H mu d v->dP X.K H mu e w->de v u->de w z->Dh S n d e=some b->Ar A.in1 s u z b):
  ∀{xs ys:List D} {vs ws:List V} {f zs:List cE} {b:Bool},c5 X.K H mu xs vs->c5 X.K H mu ys ws->dy vs f->dy ws zs->Fc (kM S n) (Dh S n) xs ys=Z b->vi A s f zs b
 :=by
 intro xs
 induction xs with
 |nil=>
  intro ys vs ws f zs b a r2 g c h;cases a;cases g;cases r2 with
  |nil=>cases c;cases h;exact .nn
  |cons _ _=>cases c;cases h;exact .nc _ _
 |cons x xs q=>
  intro ys vs ws f zs b a r2 g c h;cases a with
  |cons a r=>
   cases g with
   |cons i l=>
    cases r2 with
    |nil=>cases c;cases h;exact .cn _ _
    |cons r2 p=>
     cases c with
     |cons j p2=>
      rw[Fc]at h;obtain⟨k,o,h⟩:=oB1.mp h;have eq:=(lQ I hs n (A:=A.in1) m a r2 i j o).1;cases k with
      |true=>exact .eq eq (q r p l p2 h)
      |false=>exact .lt eq (ih a r2 i j h)
theorem w1(I:Inv X ag σ H s)(hs:Sim X.K H mu S):∀(n:Nat) {A:cI} {d e:D} {v w:V} {u z:cE} {b:Bool},A.units+n<cLine->dP X.K H mu d v->dP X.K H mu e w->de v u->de w z->Dh S n d e=Z b->Ar A s u z b
 |0,_,_,_,_,_,_,_,_,_,_,_,_,_,h=>by cases h
 |n + 1,A,d,e,v,w,u,z,b,W,i,f,l,r,h=>by
  rw[Dh]at h;split at h
  ·rename_i k c;cases h;unfold Gw at c;split at c
   ·cases c;cases i;cases f;obtain⟨t,rfl⟩:=l;obtain⟨o,rfl⟩:=r;exact λprog w E Q q=>(PyProof.Rows.lt_int q:cO (model prog w) A (compareOp .Lt (.int _ t) (.int _ o)) Q E s)
   ·cases c;cases i;cases f;obtain⟨t,rfl⟩:=l;obtain⟨o,rfl⟩:=r;exact λprog w E Q q=>(PyProof.Rows.lt_str q:cO (model prog w) A (compareOp .Lt (.str _ t) (.str _ o)) Q E s)
   ·cases c
  ·split at h
   ·rename_i p q y C;split at h
    ·rename_i N;obtain⟨U,xs⟩:=p;obtain⟨qb,ys⟩:=q;have m:U=qb:=N;subst m;obtain⟨a,vs,rfl,K,L⟩:=dn i hs y;obtain⟨a2,F,rfl,T,au⟩:=dn f hs C;cases l;cases r;obtain⟨ao,am,B,_⟩:=dW I K;obtain⟨x,g,j,_⟩:=dW I T;refine A9 B j (by lia) ?_;have:=Cq I hs (A:=A) (n:=n) (by lia) (λP r2 G R h=>w1 I hs n (A:=A.in1) (by show A.units+1+n<cLine;lia) P r2 G R h) L au am g h;simpa using this
    ·cases h
   ·cases h
theorem j5(k:X.A.units+64<cLine):e9 X (compareOp .Lt) (r2 X.K (b2 vg)):=by
 intro ag s σ H x y u w Q I j g h;obtain⟨mu,S,d,e,r,l,i,r2,c,a,hc⟩:=mO h;obtain⟨b,f,a⟩:=oM1.mp a;cases a;exact w1 I c dU (by show _+60<cLine;lia) i r2 j g f X.prog X.w X.xe _ ⟨.bl b,H,I,O,hc.now (.bl b) c⟩
end
inductive Ty where
 |int|bool|str|tuple|list|dict
 deriving DecidableEq
noncomputable def Ty.nm:Ty->String
 | .int=>"int" | .bool=>"bool" | .str=>"str" | .tuple=>"tuple" | .list=>"list" | .dict=>"dict"
noncomputable def Hl (S:cV)(T:Ty):D->Option Bool
 | .non=>some false
 | .bl _=>some (decide (T = .bool)||decide (T = .int))
 | .int _=>some (decide (T = .int))
 | .str _=>some (decide (T = .str))
 | .tup _=>some (decide (T = .tuple))
 | .rol _=>some (decide (T = .list))
 | .ref n=>match S[n]? with
  |some (.lst _)=>some (decide (T = .list))
  |some (.dct _)=>some (decide (T = .dict))
  |some (.dcT _)=>some (decide (T = .dict))
  |_=>none
 | .fn _=>none
section
variable{X:Cx}{ag:List (cG×Obj)}{σ:L2.St}{H:Hp}{s:cF}{mu:List cG}{S:cV}{K:Fg1}
end
abbrev FO:=Ev->cV->Option (Option Int×cV)
noncomputable def GQ(K:Fg1)(m:FO):TO:=fun σ H Q=>∃r mu S o S',ei K H mu r σ/\Sim K H mu S/\m r S=Z (o,S') /\ ∀H' mu',Ext mu mu' H H'->Sim K H' mu' S'->Q o H'
abbrev MO(X:Cx)(e:Option Expr)(m:FO):Prop:=PO X e (GQ X.K m)
noncomputable def pz:FO:=λ_ S=>Z (Y,S)
noncomputable def mU(m:FE):FO:=λr S=>(m r S).bind λp=>match p.1 with
 | .int i=>Z (Z i,p.2)
 |_=>Y
noncomputable def qm(xs:List D)(lo hi:Option Int):List D:=(xs.drop (HT.sIx xs.length 0 lo)).take (HT.sIx xs.length xs.length hi-HT.sIx xs.length 0 lo)
section
variable{X:Cx}
theorem zu:MO X Y pz:=by
 rintro ag s σ H Q I ⟨r,mu,S,o,d,c,b,a,hc⟩;cases a;exact yX ag s σ H Q I (hc H mu (.refl _ _) b)
theorem zt{e:Expr}{m:FE}(h:ME X e m):MO X (Z e) (mU m):=by
 rintro ag s σ H Q I ⟨r,mu,S,o,n,b,j,a,hc⟩;obtain⟨⟨d,l⟩,c,a⟩:=oB1.mp a;cases d with
 |int i=>
  cases a;refine yW h ag s σ H Q I ⟨r,mu,S,_,_,b,j,c,λv H1 mu1 g k f=>?_⟩;cases k;exact⟨i,O,hc H1 mu1 g f⟩
 |_=>cases a
theorem tR{K:Fg1}{H:Hp}{mu:List cG}{ds:List D}{vs:List V}(t:c5 K H mu ds vs)(lo hi:Option Int):c5 K H mu (qm ds lo hi) (ql vs lo hi):=by
 unfold qm ql;rw[<- t.length];exact(t.drop _).take _
noncomputable def Dx(ta:TA):TE:=fun σ H Q=>ta σ H λvs H1=>∃j:Int,vs=[.int j] /\ ∀p,H1 p=Y->Q (.ref p) (upd H1 p (.rng 0 j))
theorem mR {a:Expr}{ta:TA}{p pos:Pos}(hg:Gl X "range")(hm:X.mg "range"=Y)(ha:PA X [a] ta)(hs:cM [a] X.env=[(J,eval a X.env)]:=by rfl):PE X (.Call (.Name "range" p) [a] [] pos) (Dx ta):=by
 intro ag s σ H Q I h;refine Call_ (iP I hg hm boot_range (PyProof.Rows.callWith_type1 (ee (ha pos ag s σ H _ I h) λk d ⟨vs,H1,c,g,i⟩=>?_) hs O));obtain⟨j,e,q⟩:=i;subst e;cases g with
 |cons r f=>
  cases f;obtain⟨t,rfl⟩:=r;refine call_range_1 ⟨.ref d.heap.objs.size,_,c.laid (λb o e=>hP1 _ e) (nR1 _) (o:=.rng 0 j) ?_,O,q _ (c.hok.fresh (nR1 _))⟩;exact⟨_,_,_,hS1 _ O⟩
noncomputable def iC(i:Int):Nat->List V
 |0=>[]
 |n+1=>.int i::iC (i+1) n
theorem hU:∀(n:Nat) (i:Int),(iC i n).length=n
 |0,_=>rfl
 |n+1,i=>by rw[iC,lC1,hU n]
theorem lm:∀(n:Nat) (i:Int) (k:Nat) (v:V),(iC i n)[k]?=Z v->v = .int (i+k)
 |0,i,k,v,h=>by simp[iC]at h
 |n+1,i,0,v,h=>by simp[iC]at h;rw[<- h];simp
 |n+1,i,k+1,v,h=>by
  rw[iC,gC1]at h;rw[lm n (i+1) k v h,show i+1+(k:Int)=i+((k+1:Nat):Int) by push_cast;lia]
theorem ll{K:Fg1}{H:Hp}{mu:List cG}:∀(n:Nat) (i:Int),c5 K H mu (fK i n) (iC i n)
 |0,_=>.nil
 |n+1,i=>.cons (.int i) (ll n (i+1))
theorem nP:∀{xs:List V} {a:List cE},xs.length=a.length->(∀(i:Nat) x u,xs[i]?=Z x->a[i]?=Z u->de x u)->dy xs a
 |[],[],_,_=>.nil
 |x::xs,u::a,h,f=>.cons (f 0 x u O O) (nP (by simpa using h) λi y w h1 h2=>f (i+1) y w (by simpa using h1) (by simpa using h2))
 |[],_::_,h,_=>by simp at h
 |_::_,[],h,_=>by simp at h
theorem Ai(hc:X.calm=M):dV X (.type "list") (λxs H Q=>∃p i j,xs=[.ref p]/\H p=Z (.rng i j)/\(-(2^62)<=i/\i<2^62 /\ -(2^62)<=j/\j<2^62)/\(j-i).toNat<=2^20 /\ ∀l,H l=Y->Q (.ref l) (upd H l (.lst (iC i (j-i).toNat)))):=by
 intro ag s σ H xs F Q I r h;obtain⟨p,i,j,rfl,y,⟨h1,h2,D,A⟩,f,q⟩:=h;obtain⟨u,rfl,m⟩:=gB r;cases m;obtain⟨t,u,v,e⟩:=I.hok p _ y;have w:(((j-i).toNat:Nat):Int)=Builtin.Range.rangeSize i j 1:=by rw[rangeSize_one];split<;>lia
 refine call_list_range (n:=(j-i).toNat) (I.ok.hd hc) e (small_one h1 h2 D A) w.symm (aC f (by decide)) λh' tk c z C E hi=>?_;obtain⟨d,a⟩:=hi;have b:dy (iC i (j-i).toNat) c.toList:=nP (by rw[hU];simpa using d.symm) λk x u B g=>by
  rw[lm _ _ _ _ B];obtain⟨o,rfl⟩:=a k u (by simpa using g);exact⟨o,by rw[Int.mul_one]⟩
 refine⟨.ref s.heap.objs.size,_,I.laid (t':=tk) C (nR1 _) (show dZ X.prog X.w _ h' _ (.lst (iC i (j-i).toNat))from⟨?_,c.toList,z,b,by simpa using E⟩),O,q _ (I.hok.fresh (nR1 _))⟩;rw[hU];exact aC f (by decide)
noncomputable def mM(i j:Int):Bool:=decide (-(2^62)<=i)&&decide (i<2^62)&&decide (-(2^62)<=j)&&decide (j<2^62)&&decide ((j-i).toNat<=2^20)
noncomputable def uA(m:FA):FE:=λr S=>(m r S).bind λp=>match p.1 with
 |[.int j]=>if mM 0 j=M then Z (.ref p.2.length,p.2++[.lst (fK 0 j.toNat)])else Y
 |_=>Y
theorem i8{i j:Int}(h:mM i j=M):(-(2^62)<=i/\i<2^62 /\ -(2^62)<=j/\j<2^62)/\(j-i).toNat<=2^20:=by
 unfold mM at h;simp only[bA1,al]at h;obtain⟨⟨⟨⟨h1,h2⟩,c⟩,a⟩,b⟩:=h;exact⟨⟨h1,h2,c,a⟩,b⟩
theorem Cs{K:Fg1}{mu:List cG}{H H1:Hp}{S1:cV}{i j:Int}{Q:VK}{mu1:List cG}(c:Ext mu mu1 H H1)(a:Sim K H1 mu1 S1)(hc:oP K mu H (.ref S1.length) (S1++[.lst (fK i (j-i).toNat)]) Q){p l:cG}(hp:H1 p=none)(b:upd H1 p (.rng i j) l=none):
  Q (.ref l) (upd (upd H1 p (.rng i j)) l (.lst (iC i (j-i).toNat))):=
 hc _ _ (mu1++[l]) ((c.trans (Ext.fresh hp)).trans (Ext.new_ b)) (.ref (fC a.len l)) ((a.fresh hp).newL (ll _ _) b)
theorem ux {a:Expr}{m:FA}{e p2 b c:Pos}(hc:X.calm=true)(hg:Gl X "range")(hm:X.mg "range"=none)(hg2:Gl X "list")(hm2:X.mg "list"=none)(ha:MA X [a] m)(hs:cM [a] X.env=[(false,eval a X.env)]:=by rfl)
  (hs2:cM [.Call (.Name "range" e) [a] [] b] X.env=[(J,eval (.Call (.Name "range" e) [a] [] b) X.env)]:=by rfl):ME X (.Call (.Name "list" p2) [.Call (.Name "range" e) [a] [] b] [] c) (uA m):=
 dX (ix (Ai hc) hg2 hm2 (by decide+kernel) (jb (mR hg hm ha hs) lv hs2) (by decide) (by decide) hs2) <| by
  rintro σ H Q ⟨r,mu,S,d,w,h,hs,hm,f⟩;obtain⟨⟨ds,u⟩,k,hm⟩:=oB1.mp hm;dsimp only at hm;split at hm
  ·rename_i j;split at hm
   ·rename_i g;cases hm;refine⟨r,mu,S,_,_,h,hs,k,λvs H1 mu1 o q n=>?_⟩;obtain⟨v,rfl,s⟩:=i9 q;cases s;refine⟨j,O,λp i=>⟨p,0,j,O,dr,(i8 g).1,(i8 g).2,λl t=>Cs o n (by rw[Int.sub_zero];exact f) i t⟩⟩
   ·cases hm
  ·cases hm
end
noncomputable def jr:G2:=λo v S=>match o with
 | .ref n=>match S[n]? with
  |some (.lst xs)=>if xs.length<cN then Z (.non,S.set n (.lst (xs++[v])))else Y
  |_=>Y
 |_=>Y
noncomputable def xw:G2:=λo i S=>match o,i with
 | .ref n,.int k=>match S[n]? with
  |some (.lst xs)=>if-(2^63)<=k/\k<2^63 then(rS xs.length k).bind λj=>(xs[j]?).map λy=>(y,S.set n (.lst (xs.eraseIdx j)))else Y
  |_=>Y
 |_,_=>Y
noncomputable def rP (f:FN)(o:FE)(a:FA):FE:=λr S=>(o r S).bind λp=>match p.1 with
 | .ref n=>match p.2[n]? with
  |some (.lst _)=>(a r p.2).bind λq=>f (p.1::q.1) q.2
  |_=>none
 |_=>none
section
variable{X:Cx}
theorem Dv:Dl X "list.append" (λx xs H Q=>rN X.K (b2 jr) (x::xs) H Q):=by
 intro ag s σ H x xs v j Q I k m h;obtain⟨q,y,mu,S,d,e,p,r,i,l,r2,f,a,hc⟩:=yF h;cases i;cases d with
 |ref n=>
  rw[jr]at a;split at a
  ·rename_i ys g;split at a
   ·rename_i o;cases a;cases l with
    |ref c=>
     obtain⟨vs,b,t⟩:=f.lst g c;refine m4 ag s σ H _ [y] v j Q I k m ⟨_,vs,y,O,O,b,by rw[<- t.length];exact o,?_⟩;exact hc _ _ mu (Ext.put b trivial (gM1 c)) .non (f.putL (t.append (.cons r2 .nil)) c b)
   ·cases a
  ·cases a
 |_=>cases a
theorem Du:Dl X "list.pop" (λx xs H Q=>rN X.K (b2 xw) (x::xs) H Q):=by
 intro ag s σ H x xs v q Q I C A h;obtain⟨E,y,mu,S,d,e,D,F,p,r,r2,i,a,hc⟩:=yF h;cases p;unfold xw at a;split at a
 ·rename_i n k;split at a
  ·rename_i ys m;split at a
   ·rename_i g;obtain⟨j,o,a⟩:=oB1.mp a;obtain⟨z,l,a⟩:=oM1.mp a;cases a;cases r with
    |ref f=>
     cases r2;obtain⟨vs,b,t⟩:=i.lst m f;obtain⟨w,B,c⟩:=t.get l;refine wL ag s σ H _ [.int k] v q Q I C A ⟨_,vs,k,j,w,O,O,b,g.1,g.2,?_,B,?_⟩
     ·rw[<- t.length];exact(ou o).1
     ·have x:=Ext.put (u:=.lst (vs.eraseIdx j)) b trivial (gM1 f);exact hc _ _ mu x (c.ext x) (i.putL (t.eraseIdx j) f b)
   ·cases a
  ·cases a
 ·cases a
theorem wS {o e:Expr}{es:List Expr}{m:FE}{a:FA}{f:FN}{name:Str}{apos cpos:Pos}{id:String}(slot:Slot "list" name id)(hty:typeOf (.builtin id)=pure (.type "method_descriptor"))(hm:Dl X id (fun x xs H Q=>rN X.K f (x::xs) H Q))(ho:ME X o m)(ha:MA X (e::es) a)
  (hbase:attributeBase o name X.env (eval o X.env)=eval o X.env:=by rfl)
  (hfew:((backTo cpos (cM (e::es) X.env)).all (λx=> !x.1)&&(backToKw cpos (keywordEach [] X.env)).all (λx=>x.1.isSome)&&decide ((e::es).length+([]:List Keyword).length+(if([]:List Keyword).isEmpty then 0 else 1)<30))=M:=by rfl)
  (hline:(apos.endLine == cpos.line)=M:=by rfl) (hs:cM (e::es) X.env=(J,eval e X.env)::cM es X.env:=by rfl) (hplain:(backTo cpos (cM es X.env)).any (·.1)=J:=by rfl):
  ME X (.Call (.Attribute o name apos) (e::es) [] cpos) (rP f m a):=
 dX (DX PySem.F.plainAttrs_list slot hty hm ho ha hbase hfew hline hs hplain) <| by
  rintro σ H Q ⟨r,mu,S,d,A,h,hs,hm,hc⟩;obtain⟨⟨p,g⟩,w,hm⟩:=oB1.mp hm;refine⟨r,mu,S,p,g,h,hs,w,λv H1 mu1 k l j=>?_⟩;cases p with
  |ref n=>
   dsimp only at hm;split at hm
   ·rename_i xs u;obtain⟨⟨ds,q⟩,z,hm⟩:=oB1.mp hm;refine⟨?_,r,mu1,g,ds,q,h.ext k,j,z,λvs H2 b i r2 B=>?_⟩
    ·cases l with
     |ref y=>
      obtain⟨vs,s,t⟩:=j.lst u y;exact .inl ⟨O,vs,kq.of s⟩
    ·exact⟨b,q,.ref n::ds,d,A,.cons (l.ext i) r2,B,hm,λD E c C=>hc D E c ((k.trans i).trans C)⟩
   ·cases hm
  |_=>cases hm
end
theorem yT{X:Cx}(hc:X.calm=true){elt tg iter:Expr}{ifs:List Expr}{rest:List Comprehension}{scope:cS}{pos n au:Pos}{y:Str}{i:Nat}{T:List Str}{keep:List Nat}{t:List (Str×cG)}{wi:TI}{g:TG}{ti:TT}{tb:cG->TS}{emit:cE->Env->Sem Unit}(V:swapsWith (.ListComp elt (⟨tg,iter,ifs,0⟩::rest) scope pos) (some (.Name y au)) n.line X.env=pure true)(eq:∀it A k,compTurn (.ListComp elt (⟨tg,iter,ifs,0⟩::rest) scope pos) 0 it A k=oX iter.pos tg ifs it k (emit A k) (.compLoop (.ListComp elt (⟨tg,iter,ifs,0⟩::rest) scope pos) 0 it A k))(C:E1 X scope T keep)(F:iE X.env.cells scope.names []=some t)(hi:PI X tg iter wi)(hb:∀s H d p,PG (cxC X scope t T keep s H d) tg g/\mz (cxC X scope t T keep s H d) ifs ti/\PU (cxC X scope t T keep s H d) (emit (.ref p) (cxC X scope t T keep s H d).env) (tb p))(hN:X.N.Nodup)(hy:X.N[i]?=some y)(hx:sw X.env.scope y)(hf:X.fn y=true\/X.env.scope.names.lookup y=some .local)(hs:∀x,foldedSetIterable iter X.env x=pure x:=by intro _;rfl):
  PS X (.Assign [.Name y au] (.ListComp elt (⟨tg,iter,ifs,0⟩::rest) scope pos) n) (vO (vN T.length keep wi g ti tb) (tJ i)):=by
 intro ag s σ H D I h;rw[exec_Assign_Name_used _ _ _ _ V];refine wB1 (wpAny_standAt (wB1 ?_));show cO _ X.A (do let _<-comprehension (.ListComp elt (⟨tg,iter,ifs,0⟩::rest) scope pos) scope X.env _ (newList []) J (eval iter X.env) (Z (assign (.Name y au) X.env))) _ _ s;refine wB1 (wpAny_mono (wpAny_comprehension_free (use:=Z (assign (.Name y au) X.env)) (Q:=λ_ s'=>SP X ag D .next s') O hs (xN F) C.kind C.names ?_) (λ_ s' hq=>wP1 (wP1 hq)) λ_ _ e=>e);refine ee (hi ag s σ H _ I h) λv s1 h1=>ee h1 λitv a h2=>?_;obtain⟨it,d,tn,am,H2,rfl,I2,TT,L,f2,q2⟩:=h2;refine wO1 ?_;have w:Inv X ag σ (upd H2 a.heap.objs.size (.lst [])) {a with heap:=a.heap.push {cls:=.type "list",data:=.seq ([]:List cE).toArray}}:=I2.lnew (t':=a.toks) .nil (bd _);have old:∀b∈d,∃o,a.heap.get? b=Z o:=λb hb=>by
  obtain⟨o,e,_⟩:=TT.obj 0 a.heap L b hb;exact⟨o,e⟩
 have W:∀b∈d,b≠a.heap.objs.size:=λb hb z=>by
  obtain⟨o,e⟩:=old b hb;have:=hL1 e;rw[z]at this;exact az _ this
 have P:∀b∈d,iF X ag (upd H2 a.heap.objs.size (.lst [])) b:=λb hb=>⟨by rw[di (W b hb)];exact(f2 b hb).1,(f2 b hb).2⟩;have o3:∀b∈d,∃o,({a with heap:=a.heap.push {cls:=.type "list",data:=.seq ([]:List cE).toArray}}:cF).heap.get? b=Z o:=λb hb=>by
  obtain⟨o,e⟩:=old b hb;exact⟨o,hP1 _ e⟩
 have R:=pO w C F P o3;obtain⟨hg,aq,he⟩:=hb {a with heap:=a.heap.push {cls:=.type "list",data:=.seq ([]:List cE).toArray}} (upd H2 a.heap.objs.size (.lst [])) d a.heap.objs.size;refine iJ ?_;have f4:∀b∈d,iF (cxC X scope t T keep {a with heap:=a.heap.push {cls:=.type "list",data:=.seq ([]:List cE).toArray}} (upd H2 a.heap.objs.size (.lst [])) d) [] (upd H2 a.heap.objs.size (.lst [])) b:=λb hb=>
  ⟨(P b hb).1,(R.ok.exf b hb).1,R.ok.exfs b hb,.inl hb,(R.ok.exf b hb).2,λp E=>absurd (show p∈([]:List (cG×Obj))from E) (by simp)⟩
 have ao:tn 0 (pushCells ((a.heap.push {cls:=.type "list",data:=.seq ([]:List cE).toArray}).push {cls:=.type "dict",data:=.dict #[]}) scope.names):=
  TT.keep 0 a.heap _ L λb hb o e=>pushCells_keeps scope.names _ b o (hP1 _ (hP1 _ e))
 have l:=nv (X:=cxC X scope t T keep {a with heap:=a.heap.push {cls:=.type "list",data:=.seq ([]:List cE).toArray}} (upd H2 a.heap.objs.size (.lst [])) d) O hc (eq (.ref it) (.ref a.heap.objs.size) _) TT hg aq he R ao f4
  (q2 a.heap.objs.size (I2.hok.fresh (nR1 _)))
 refine codeAny_mono (codeAny_compStart_list l (TT.self X.A 0 _ _ _ ao l)) λr s' hr=>?_;cases r with
 |error e=>exact hr.elim
 |ok f=>
  obtain⟨σ',H',B,q'⟩:=hr;have J1:Inv X ag σ H' s':=w.call' (s':=s') (ch:=d) B.os B.base B.hok B.bare λb hb=>(P b hb).2.2.2 |> λz=>⟨z.1,(P b hb).2.1,z.2.1,z.2.2⟩
  -- the block's own dict is kept aside
  obtain⟨m,hn,_⟩:=id B.loc;obtain⟨N,es,ep,eC,dC,rC⟩:=id hn;have hCz:(a.heap.push {cls:=.type "list",data:=.seq ([]:List cE).toArray}).get? (a.heap.push {cls:=.type "list",data:=.seq ([]:List cE).toArray}).objs.size=Y:=Heap.get?_none_of_le (nR1 _);have G:(a.heap.push {cls:=.type "list",data:=.seq ([]:List cE).toArray}).objs.size≠X.env.locals:=λz=>by
   have:=w.lt;rw[<- z]at this;exact az _ this
  have S:H' (a.heap.push {cls:=.type "list",data:=.seq ([]:List cE).toArray}).objs.size=Y:=B.free;have J2:Inv X (ag++[((a.heap.push {cls:=.type "list",data:=.seq ([]:List cE).toArray}).objs.size,N)]) σ H' s':=J1.pins_of λp E=>by
   rcases aF.mp E with z|z
   ·exact J1.pin p (mA1 _ z)
   ·have z':p=((a.heap.push {cls:=.type "list",data:=.seq ([]:List cE).toArray}).objs.size,N):=by simpa using z
    subst z';exact⟨eC,S,G,w.nofs (nR1 _),λv q=>by rw[dC]at q;cases q⟩
  refine ee (sT hN hy hx hf _ s' σ H' (.ref a.heap.objs.size) (.ref a.heap.objs.size) D.nx J2 O q') λ_ s5 ⟨K,H5,J5,q5⟩=>?_;obtain⟨e5,n5,_⟩:=J5.pin ((a.heap.push {cls:=.type "list",data:=.seq ([]:List cE).toArray}).objs.size,N) (mA1 _ (mA1 _ mS1));refine⟨m,⟨N,es,ep,e5,dC,rC⟩,λh' U=>?_⟩;have J6:Inv X ag K H5 s5:=J5.unpinned;refine⟨K,H5,J6.turned (t':=s5.toks) (λb o hb e=>(U.2 b hb).trans e) n5 G (.inr ?_) (λx c u z=>?_) (λp E z=>?_),q5⟩
  ·exact w.sz
  ·obtain⟨w',zc⟩:=w.cell x c u;have j:=zc.lt;rw[z]at j;exact az _ j
  ·obtain⟨wq,_⟩:=w.pin p E;have j:=hL1 wq;rw[z]at j;exact az _ j
section
variable{X:Cx}
theorem CZ{K:Fg1}{te:TE}{m:FE}{i:Nat}(hm:∀ σ H Q,tM K m σ H Q->te σ H Q){E:im}{σ:L2.St}{H:Hp}(h:sK K (db m (gN i)) E σ H):vO te (tJ i) E σ H:=by
 obtain⟨r,mu,S,d,o,h1,h2,p,g⟩:=oj h;refine hm _ _ _ ⟨r,mu,S,d,o,h1,h2,p,λv H' mu' k l c=>?_⟩;obtain⟨r2,a,u,s,t,q,f,n,b,e,j⟩:=g v H' mu' k l c;cases e;exact j _ H' a (.refl _ _) (f.set b) n
theorem mv (i:Nat){x:Str}{pos:Pos}(hN:X.N[i]? = some x:=by rfl)(hv:Vis X.env.scope x:=by first | exact Or.inl rfl | exact Or.inr (Or.inl rfl) | exact Or.inr (Or.inr rfl))(hd:(x == ("__debug__":Str))=false:=by decide)(hcd:(x == ("__classdict__":Str))=false:=by decide):
  ME X (.Name x pos) (mV i):=Cg i hN hv hd hcd
end
def ew(P:cH)(w:cJ)(K:Fg1)(mg:Str->Option cE)(base:cP)(k:Nat)(x:Str)(n:Nat)(m:FN):Prop:=
 ∃(f:cG) (fd:cQ) (ps:List Str),jS P w K mg base qz k f fd ps (ya K n m)/\jC K fd ps []/\wK1 K (.ref f)=M/\mg x=Z (.ref f)
theorem Cj {X:Cx}{k k' n:Nat}{x:Str}{m:FN}{p pos:Pos}{e:Expr}{es:List Expr}{a:FA}(h:ew X.prog X.w X.K X.mg X.base k x n m)(hr:eM k' X.A)(hk:k<=k')(hg:Gl X x)(ha:MA X (e::es) a)(hdb:(x == ("__debug__":Str))=false:=by decide)
  (he:cM (e::es) X.env=(J,eval e X.env)::cM es X.env:=by rfl) (hpl:(backTo pos (cM es X.env)).any (·.1)=J:=by rfl):ME X (.Call (.Name x p) (e::es) [] pos) (mN (cY n m) a):=by
 obtain⟨f,fd,ps,F,b,c,d⟩:=h;exact zB F (hr.mono hk) hg d c b ha hdb he hpl
theorem BG{P:cH}{w:cJ}{K:Fg1}{mg:Str->Option cE}{base:cP}{x a:Str}{st:cR}{f:cG}{fd:cQ}{N ps:List Str}{k n:Nat}{b:FS}(F:vk K x a st f fd)(hb:jC K fd ps [])(hm:mg x=some (.ref f))(S:fq N ps (dg st))(hn:ps.length=n)(d:∀(e:cE) (A:cI) (c:List Env) (s:cF) (H:Hp) (E:XK),eM k (A.deeper (envOfC a (dg st) s.heap.objs.size f e)) ->
   vb (kE qz P w K mg base N a (dg st) f e A c s H E).nox (ea st) b):ew P w K mg base (k+1) x n (gJ N.length b):=by
 subst hn;exact⟨f,fd,ps,Ez F S d,hb,F.kp,hm⟩
def CGl(K:Fg1)(mg:Str->Option cE)(x:Str)(d:D):Prop:=∃(v:V) (u:cE),mg x=Z u/\de v u /\ ∀H mu,dP K H mu d v
theorem zA {X:Cx}{x:Str}{d:D}{pos:Pos}(h:CGl X.K X.mg x d)(hg:Gl X x)(hd:(x == ("__debug__":Str))=J:=by decide):ME X (.Name x pos) (mC d):=by
 obtain⟨v,u,a,r,q⟩:=h;exact wU d (y1 hg a r hd) q
noncomputable def eI:List Bool->Ev->Ev
 |true::bs,o::r=>o::eI bs r
 |false::bs,_::r=>Y::eI bs r
 |[],_::r=>Y::eI [] r
 |_,[]=>[]
noncomputable def i4:Ev->Bool
 |[]=>M
 |none::r=>i4 r
 |some d::r=>d.und 0&&i4 r
noncomputable def m5 (ki ko:List Bool)(b:FS):FS:=fun r S=>if i4 (eI ki r)=true then
  (b (eI ki r) []).bind λp=>match p.1 with
   | .rt d=>if d.und 0=true then some (.rt d,[],S)else none
   |f=>if i4 (eI ko p.2.1)=true then some (f,eI ko p.2.1,S)else none
 else none
theorem iy:∀(bs:List Bool) (r:Ev),(eI bs r).length=r.length
 |true::bs,o::r=>congrArg (· + 1) (iy bs r)
 |false::bs,o::r=>congrArg (· + 1) (iy bs r)
 |[],o::r=>congrArg (· + 1) (iy [] r)
 |[],[]=>rfl
 |true::_,[]=>rfl
 |false::_,[]=>rfl
theorem iz:∀(bs:List Bool) (r:Ev) (i:Nat) (d:D),(eI bs r)[i]?=Z (Z d)->r[i]?=Z (Z d)
 |true::bs,o::r,0,d,h=>h
 |true::bs,o::r,i+1,d,h=>by
  rw[gC1];exact iz bs r i d (by rw[eI,gC1]at h;exact h)
 |false::bs,o::r,0,d,h=>by simp[eI]at h
 |false::bs,o::r,i+1,d,h=>by
  rw[gC1];exact iz bs r i d (by rw[eI,gC1]at h;exact h)
 |[],o::r,0,d,h=>by simp[eI]at h
 |[],o::r,i+1,d,h=>by
  rw[gC1];exact iz [] r i d (by rw[eI,gC1]at h;exact h)
 |[],[],i,d,h=>by simp[eI]at h
 |true::_,[],i,d,h=>by simp[eI]at h
 |false::_,[],i,d,h=>by simp[eI]at h
theorem jI:∀(r:Ev) (i:Nat) (d:D),i4 r=M->r[i]?=Z (Z d)->d.und 0=M
 |none::r,0,d,_,h=>by simp at h
 |none::r,i+1,d,hs,h=>jI r i d hs (by simpa using h)
 |some e::r,0,d,hs,h=>by
  rw[i4,bA1]at hs;simp at h;subst h;exact hs.1
 |some e::r,i+1,d,hs,h=>by
  rw[i4,bA1]at hs;exact jI r i d hs.2 (by simpa using h)
theorem ei.mask{K:Fg1}{H:Hp}{mu mu':List cG}{r:Ev}{σ:L2.St}{bs:List Bool}(h:ei K H mu r σ)(hs:i4 (eI bs r)=M):ei K H mu' (eI bs r) σ:=
 ⟨by rw[iy];exact h.len,λi d e=>by
  obtain⟨v,a,b⟩:=h.val i d (iz bs r i d e);exact⟨v,a,b.cut (n:=0) (λk c=>absurd c (bp _)) (jI _ i d hs e)⟩⟩
theorem wW{K:Fg1}{m w:List Bool}{b:FS}{E:im}{σ:L2.St}{H:Hp}(h:sK K (m5 m w b) E σ H):sK K b E σ H:=by
 obtain⟨r,mu,S,f,B,C,p,j,c,hc⟩:=h;unfold m5 at c;split at c
 ·rename_i q;obtain⟨⟨l,y,t⟩,u,c⟩:=oB1.mp c;refine⟨eI m r,[],[],l,y,t,p.mask q,.nil,u,?_⟩;have back:∀{H':Hp} {mu':List cG},Ext [] mu' H H'->Ext mu mu H H':=λ{H' mu'} x=>⟨bh,λa o e _=>x.old a o e (by simp),x.tup,x.frz,λ_ z=>.inl z⟩;have keep:∀{H':Hp} {mu':List cG},Ext [] mu' H H'->Sim K H' mu S:=λ{H' mu'} x=>⟨j.len,j.nd,λn o a h1 h2=>(j.ob n o a h1 h2).keep (back x) λo e=>x.old a o e (by simp)⟩;cases l with
  |rt d=>
   dsimp only at c;split at c
   ·rename_i i;cases c;exact λv H' mu' x r s=>hc v H' mu (back x) (r.cut (n:=0) (λk A=>absurd A (bp _)) i) (keep x)
   ·cases c
  |nx=>
   dsimp only at c;split at c
   ·rename_i i;cases c;exact λg H' mu' x r s=>hc g H' mu (back x) (r.mask i) (keep x)
   ·cases c
  |bk=>
   dsimp only at c;split at c
   ·rename_i i;cases c;exact λg H' mu' x r s=>hc g H' mu (back x) (r.mask i) (keep x)
   ·cases c
  |ct=>
   dsimp only at c;split at c
   ·rename_i i;cases c;exact λg H' mu' x r s=>hc g H' mu (back x) (r.mask i) (keep x)
   ·cases c
 ·cases c
theorem wM{X:Cx}{sts:List cR}{b:FS}(c a:List Bool)(h:vb X sts b):vb X sts (m5 c a b):=nU h λ_ _ _=>wW
def CV(K:Fg1)(d:D)(u:cE):Prop:=∃v:V,de v u /\ ∀H mu,dP K H mu d v
def Fj(K:Fg1)(ds:List D)(us:List cE):Prop:=∃vs:List V,dy vs us /\ ∀H mu,c5 K H mu ds vs
section
variable{K:Fg1}
theorem oG{i:Int}{t}:CV K (.int i) (.int i t):=⟨.int i,⟨t,O⟩,λ_ _=>.int i⟩
theorem oF{x:Str}{t}:CV K (.str x) (.str x t):=⟨.str x,⟨t,O⟩,λ_ _=>.str x⟩
theorem ju:Fj K [] []:=⟨[],.nil,λ_ _=>.nil⟩
theorem eg{d:D}{u:cE}{ds:List D}{a:List cE}(h:CV K d u)(t:Fj K ds a):Fj K (d::ds) (u::a):=by
 obtain⟨v,r,q⟩:=h;obtain⟨vs,rs,b⟩:=t;exact⟨v::vs,.cons r rs,λH mu=>.cons (q H mu) (b H mu)⟩
theorem lT {a:cG}{c:Option cG}{b:List cE}{n:Nat}{sl:Array (Option cE)}{ds:List D}(h:K.lookup a=Z ⟨.type "tuple",c,.seq b.toArray n,sl⟩)(hs:b.length<=cN)(t:Fj K ds b):CV K (.tup ds) (.ref a):=by
 obtain⟨vs,rs,d⟩:=t;exact⟨.ref a,O,λH mu=>.tup (.inr ⟨_,b.toArray,n,h,O,O,by simpa using hs,by simpa using rs⟩) (d H mu)⟩
theorem CN{mg:Str->Option cE}{x:Str}{d:D}{u:cE}(hm:mg x=Z u)(h:CV K d u):CGl K mg x d:=by
 obtain⟨v,r,q⟩:=h;exact⟨v,u,hm,r,q⟩
end
theorem iu{K:Fg1}{H:Hp}{mu:List cG}:∀ns:List Int,c5 K H mu (ns.map D.int) (ns.map V.int)
 |[]=>.nil
 |n::ns=>.cons (.int n) (iu ns)
theorem Cu{K:Fg1}{m:FN}(hm:∀ ns:List Int,ns.length<=63 -> ∃ S,m [.rol (ns.map D.int)] []=some (.bl true,S))(H:Hp)(a:cG)(ns:List Int)(c:ns.length<=63)(b:As H)(d:kq K H a (ns.map V.int)):
  ya K 1 m [.ref a] H (λv _=>v = .bl M) λ_ _ _=>False:=by
 refine⟨O,?_⟩;obtain⟨S,e⟩:=hm ns c;have f:RoL K H a (ns.map V.int):=by
  rcases d with h|h
  ·rcases h with h|h
   ·rcases b a with z|⟨o,xs,z⟩
    ·rw[h]at z;cases z
    ·rw[h]at z;cases z
   ·exact .inl h
  ·exact .inr h
 refine⟨[],[],[.rol (ns.map D.int)],.bl M,S,.cons (.rol f (iu ns)) .nil,.nil,e,λv H' mu' x r s=>?_⟩;cases r;rfl
theorem walk_m{l:PySem.W.OpenLaw}{q:cH}{b:List Str}{XP:(Str->Option cE)->cP->Prop}{g:cJ->cP->Prop}{d:DefRec}{K:Params->Fg1}{m:FN}{k:Nat}{x:Str}(hn:l.most=some 63)(c:d.params.defaults=[])(hr:eM k callerA)(j:∀(w:cJ) (h:cP),g w h->(K w.params).In h)(hm:∀ns:List Int,ns.length<=63 -> ∃S,m [.rol (ns.map D.int)] []=some (.bl true,S))(F:∀(w:cJ) (mg:Str->Option cE) (e:cG) (h:cP),(K w.params).In h->h.Ns cK mg->mg d.name=some (.ref e) ->
   ∃fd:cQ,(∀(s:cF) (u:cE),BindsTo s fd ⟨[u],[]⟩ [(x,u)]) /\ ∀base:cP,(K w.params).In base->base.Ns cK mg->jS l.prog w (K w.params) mg base qz k e fd [x] (ya (K w.params) 1 m)):
  PySem.W.WalkO q b XP g l.row.toRowW d [] (λf vs=>PySem.call f vs):=
 L2.yt (n:=63) (k:=k) (x:=x) (CX:=λ_=>qz) (sp:=λw=>ya (K w.params) 1 m) hn (by decide) c hr j F (λ_ H a ns o i p=>Cu hm H a ns o i p) λ_ _ _ _ _ z=>z
structure XE (X:Cx)(e:Expr)(m:FE):Prop where
 h:ME X e m
structure XT (X:Cx)(e:Expr)(m:FT):Prop where
 h:MT X e m
structure XW (X:Cx)(e:Expr)(m:FT):Prop where
 h:MW X e m
structure XA (X:Cx)(e:List Expr)(m:FA):Prop where
 h:MA X e m
structure XS (X:Cx)(e:cR)(m:FS):Prop where
 h:MS X e m
structure sm (X:Cx)(e:List cR)(m:FS):Prop where
 h:vb X e m
structure XI (X:Cx)(tg e:Expr)(m:FI):Prop where
 h:MI X tg e m
structure XG (X:Cx)(e:Expr)(m:FG):Prop where
 h:MG X e m
structure Fh (X:Cx)(e:List Expr)(m:x9):Prop where
 h:EX X e m
structure XO (X:Cx)(e:Option Expr)(m:FO):Prop where
 h:MO X e m
structure XF (X:Cx)(K:Fg1)(ifs:List Expr)(t:FT):Prop where
 h:mz X ifs (yx K t)
theorem ec{X:Cx}:XF X X.K [] eZ:=⟨zw⟩
theorem ft{X:Cx}{c:Expr}{t:FT}(h:XT X c t):XF X X.K [c] t:=⟨zv h.h⟩
theorem t8{X:Cx}{sts:List cR}{b:FS}(c a:List Bool)(h:sm X sts b):sm X sts (m5 c a b):=⟨wM c a h.h⟩
section
variable{X:Cx}{pos:Pos}
theorem qK{i:Int}{j}:XE X (.Constant (.int i) j pos) (mC (.int i)):=⟨Cn⟩
theorem nM{b:Bool}{j}:XE X (.Constant (.bool b) j pos) (mC (.bl b)):=⟨Ei⟩
theorem fH{j}:XE X (.Constant .none j pos) (mC .non):=⟨Ck⟩
theorem c8{x:Str}{j}:XE X (.Constant (.str x) j pos) (mC (.str x)):=⟨Ci⟩
end
section
variable{X:Cx}{pos:Pos}{e:Expr}{es:List Expr}{m:FE}{n:FA}
theorem qN:XA X [] cU:=⟨Cp⟩
theorem qA(h:XE X e m)(ht:XA X es n)(hs:cM (e::es) X.env=(J,eval e X.env)::cM es X.env:=by rfl):XA X (e::es) (cT m n):=⟨zC (h:=h.h) (ht:=ht.h) (hs:=hs)⟩
end
section
variable{X:Cx}{K:Fg1}{f:FN}{a b:FE}{σ:L2.St}{H:Hp}{Q:VK}
theorem qI{op:Operator}{x y:Expr}{pos:Pos}(ho:e9 X (binaryOp op) (r2 X.K f))(hx:XE X x a)(hy:XE X y b):XE X (.BinOp x op y pos) (m2 f a b):=⟨Ef (ho:=ho) (hx:=hx.h) (hy:=hy.h)⟩
theorem AU{op:UnaryOp}{x:Expr}{pos:Pos}(ho:Dk X (unaryOp op) (λx H Q=>rN X.K f [x] H Q))(hx:XE X x a):XE X (.UnaryOp op x pos) (m1 f a):=⟨Ee (ho:=ho) (hx:=hx.h)⟩
theorem yh{op:CmpOp}{x y:Expr}{pos:Pos}(ho:e9 X (compareOp op) (r2 X.K f))(hx:XE X x a)(hy:XE X y b)(hm:behindInMarks op y=J):XE X (.Compare x [op] [y] pos) (m2 f a b):=⟨Co (ho:=ho) (hx:=hx.h) (hy:=hy.h) (hm:=hm)⟩
theorem qJ{x y:Expr}{pos:Pos}(ho:AR X (r2 X.K f))(hx:XE X x a)(hy:XE X y b)(hs:kS y):XE X (.Subscript x y pos) (m2 f a b):=⟨Eg (ho:=ho) (hx:=hx.h) (hy:=hy.h) (hs:=hs)⟩
theorem qD {x:Str}{p pos:Pos}{e:Expr}{es:List Expr}{id:String}{a:FA}(hc:dV X (.builtin id) (rN X.K f))(hg:Gl X x)(hm:X.mg x=Y)(hv:bootBuiltins x=Z (.builtin id))(ha:XA X (e::es) a)(hn:x≠"__name__":=by decide)(hdb:(x == ("__debug__":Str))=J:=by decide)(he:cM (e::es) X.env=(J,eval e X.env)::cM es X.env:=by rfl)(hpl:(backTo pos (cM es X.env)).any (·.1)=J:=by rfl):XE X (.Call (.Name x p) (e::es) [] pos) (mN f a):=⟨wT (hc:=hc) (hg:=hg) (hm:=hm) (hv:=hv) (ha:=ha.h) (hn:=hn) (hdb:=hdb) (he:=he) (hpl:=hpl)⟩
theorem qE {x:Str}{p pos:Pos}{e:Expr}{es:List Expr}{T:String}{a:FA}(hc:dV X (.type T) (rN X.K f))(hg:Gl X x)(hm:X.mg x=Y)(hv:bootBuiltins x=Z (.type T))(ha:XA X (e::es) a)(hn:x≠"__name__":=by decide)(hdb:(x == ("__debug__":Str))=J:=by decide)(he:cM (e::es) X.env=(J,eval e X.env)::cM es X.env:=by rfl)(hpl:(backTo pos (cM es X.env)).any (·.1)=J:=by rfl):XE X (.Call (.Name x p) (e::es) [] pos) (mN f a):=⟨uy (hc:=hc) (hg:=hg) (hm:=hm) (hv:=hv) (ha:=ha.h) (hn:=hn) (hdb:=hdb) (he:=he) (hpl:=hpl)⟩
end
section
variable{X:Cx}{x y c:Expr}{rest:List Expr}{pos:Pos}{a b:FT}{f g:FE}
theorem qX{op:CmpOp}{f:FN}{a b:FE}(ho:e9 X (compareOp op) (r2 X.K f))(hx:XE X x a)(hy:XE X y b)(hm:behindInMarks op y=J):XT X (.Compare x [op] [y] pos) (mB (m2 f a b)):=⟨B2 (ho:=ho) (hx:=hx.h) (hy:=hy.h) (hm:=hm)⟩
theorem gA(ha:XT X x a):XW X (.BoolOp .And [x] pos) a:=⟨zn (ha:=ha.h)⟩
theorem sB(ha:XT X x a):XW X (.BoolOp .Or [x] pos) a:=⟨B0 (ha:=ha.h)⟩
theorem io(ha:XT X x a)(hb:XW X (.BoolOp .And (y::rest) pos) b):XW X (.BoolOp .And (x::y::rest) pos) (ol a b):=⟨B1 (ha:=ha.h) (hb:=hb.h)⟩
theorem vp(ha:XT X x a)(hb:XW X (.BoolOp .Or (y::rest) pos) b):XW X (.BoolOp .Or (x::y::rest) pos) (Ej a b):=⟨Ec (ha:=ha.h) (hb:=hb.h)⟩
theorem jT(h:XW X x a):XT X x a:=⟨FU (h:=h.h)⟩
theorem jE(hc:XT X c a)(hx:XE X x f)(hy:XE X y g):XE X (.IfExp c x y pos) (qC a f g):=⟨Eh (hc:=hc.h) (hx:=hx.h) (hy:=hy.h)⟩
end
section
variable{X:Cx}{x y z:Expr}{pos:Pos}{f g:FN}{a b c:FE}{op op':CmpOp}
end
section
variable{X:Cx}{pos:Pos}{e c:Expr}{st:cR}{rest as bs:List cR}{a b:FS}{m:FE}{t:FT}
theorem qQ:sm X [] oi:=⟨zp⟩
theorem qF(h1:XS X st a)(h2:sm X rest b):sm X (st::rest) (c7 a b):=⟨wN (h1:=h1.h) (h2:=h2.h)⟩
theorem qG(h1:XS X st a):sm X [st] a:=⟨zo (h1:=h1.h)⟩
theorem kU(h:XE X e m)(hs:swapsWith e Y pos.line X.env=pure J:=by rfl):XS X (.Expr e pos) (eF m):=⟨zr (h:=h.h) (hs:=hs)⟩
theorem qU(h:XE X e m):XS X (.Return (Z e) pos) (dY m):=⟨B4 (h:=h.h)⟩
theorem qV(hc:XT X c t)(ha:sm X as a)(hb:sm X bs b):XS X (.If c as bs pos) (fX t a b):=⟨Ed (hc:=hc.h) (ha:=ha.h) (hb:=hb.h)⟩
end
section
variable{X:Cx}{pos:Pos}
theorem qO(i:Nat){x:Str}(hN:X.N.Nodup)(hi:X.N[i]?=Z x)(hx:sw X.env.scope x)(hf:X.fn x=M\/X.env.scope.names.lookup x=Z .local:=by first|exact .inl rfl|exact .inr rfl|assumption):XG X (.Name x pos) (gN i):=⟨zz (i:=i) (hN:=hN) (hi:=hi) (hx:=hx) (hf:=hf)⟩
theorem eT:Fh X [] gNl:=⟨zy⟩
theorem c9{e:Expr}{es:List Expr}{g:FG}{a:x9}(h1:XG X e g)(h2:Fh X es a)(hs:(assignEach (e::es) X.env).map (·.2)=assign e X.env::(assignEach es X.env).map (·.2):=by rfl):Fh X (e::es) (gCs g a):=⟨wP (h1:=h1.h) (h2:=h2.h) (hs:=hs)⟩
theorem fG{es:List Expr}{k:Nat}{a:x9}{n:Nat}(hc:X.calm=M)(h:Fh X es a)(hn:(assignEach es X.env).length=n:=by rfl)(hst:(assignEach es X.env).findIdx? (·.1)=Y:=by rfl):XG X (.Tuple es k pos) (gT n a):=⟨Cd (hc:=hc) (h:=h.h) (hn:=hn) (hst:=hst)⟩
theorem iX{o i:Expr}{a b:FE}{f:FN}(ho:XE X o a)(hi:XE X i b)(hs:sv X (rU X.K f))(ha:∀ v,assign (.Subscript o i pos) X.env v=(do
   let ov<-holding [v] (eval o X.env)
   let iv<-holding [v,ov] (eval i X.env)
   standAt pos
   holding [v,ov,iv] (setItem ov iv v)
   release [v,ov,iv] []):=by intro _;rfl):XG X (.Subscript o i pos) (gS f a b):=⟨Ce (ho:=ho.h) (hi:=hi.h) (hs:=hs) (ha:=ha)⟩
theorem qR{tg e:Expr}{m:FE}{g:FG}(he:XE X e m)(hg:XG X tg g)(hs:swapsWithSole [tg] e pos.line X.env=pure J:=by rfl)(hw:swappedStores [tg] e X.env=pure Y:=by rfl)(h1:(assignEach [tg] X.env).map (·.2)=[assign tg X.env]:=by rfl):XS X (.Assign [tg] e pos) (db m g):=⟨B7 (he:=he.h) (hg:=hg.h) (hs:=hs) (hw:=hw) (h1:=h1)⟩
theorem qY(i:Nat){x:Str}{e:Expr}{m:FE}{pos':Pos}(hN:X.N.Nodup)(hi:X.N[i]?=Z x)(hx:sw X.env.scope x)(he:XE X e m)(hs:swapsWith e (Z (.Name x pos')) pos.line X.env=pure J:=by rfl)(hf:X.fn x=M\/X.env.scope.names.lookup x=Z .local:=by first|exact .inl rfl|exact .inr rfl|assumption):XS X (.Assign [.Name x pos'] e pos) (db m (gN i)):=⟨B3 (i:=i) (hN:=hN) (hi:=hi) (hx:=hx) (he:=he.h) (hs:=hs) (hf:=hf)⟩
theorem yg(i:Nat){x:Str}{e:Expr}{m:FE}{op:Operator}{f:FN}{pos':Pos}(hN:X.N.Nodup)(hi:X.N[i]?=Z x)(hx:sw X.env.scope x)(he:XE X e m)(ho:Fi X op (r2 X.K f))(hf:X.fn x=M\/X.env.scope.names.lookup x=Z .local:=by first|exact .inl rfl|exact .inr rfl|assumption):XS X (.AugAssign (.Name x pos') op e pos) (zG i f m):=⟨B6 (i:=i) (hN:=hN) (hi:=hi) (hx:=hx) (he:=he.h) (ho:=ho) (hf:=hf)⟩
end
section
theorem jD{X:Cx}{pos:Pos}(n:Nat){c:Expr}{a:List cR}{t:FT}{b:FS}(hp:PassesOwn (model X.prog X.w) X.A X.env X.xe)(hc:XT X c t)(hb:sm X a b):XS X (.While c a [] pos) (oQ t b n):=⟨wO (n:=n) (hp:=hp) (hc:=hc.h) (hb:=hb.h)⟩
theorem qW{X:Cx}{pos:Pos}{tg iter:Expr}{a:List cR}{m:FI}{g:FG}{b:FS}(hp:PassesOwn (model X.prog X.w) X.A X.env X.xe)(hc:X.calm=M)(hi:XI X tg iter m)(hg:XG X tg g)(hb:sm X a b)(hs:∀x,foldedSetIterable iter X.env x=pure x:=by intro _;rfl):XS X (.For tg iter a [] pos) (fz m g b):=⟨B5 (hp:=hp) (hc:=hc) (hi:=hi.h) (hg:=hg.h) (hb:=hb.h) (hs:=hs)⟩
end
section
variable{X:Cx}{es:List Expr}{pos:Pos}{a:FA}
theorem c6{x1}(h:XA X es a):XE X (.Tuple es x1 pos) (dL a):=⟨Ch (h:=h.h)⟩
theorem dM(h:XA X es a):XE X (.List es pos) (fe a):=⟨Cm (h:=h.h)⟩
end
section
variable{X:Cx}{tg:Expr}
theorem qd{e:Expr}{m:FE}(h:XE X e m):XI X tg e (gn m):=⟨Cc (h:=h.h)⟩
theorem rd {a:Expr}{m:FA}{p pos:Pos}(hg:Gl X "range")(hm:X.mg "range"=Y)(ha:XA X [a] m)(hs:cM [a] X.env=[(J,eval a X.env)]:=by rfl):XI X tg (.Call (.Name "range" p) [a] [] pos) (pQ m):=⟨uw (hg:=hg) (hm:=hm) (ha:=ha.h) (hs:=hs)⟩
theorem ra {a b:Expr}{m:FA}{p pos:Pos}(hg:Gl X "range")(hm:X.mg "range"=Y)(ha:XA X [a,b] m)(hs:cM [a,b] X.env=[(J,eval a X.env),(J,eval b X.env)]:=by rfl)(hs2:cM [b] X.env=[(J,eval b X.env)]:=by rfl):XI X tg (.Call (.Name "range" p) [a,b] [] pos) (Di m):=⟨uv (hg:=hg) (hm:=hm) (ha:=ha.h) (hs:=hs) (hs2:=hs2)⟩
end
section
variable{X:Cx}{tg:Expr}
variable{elts:List Expr}{k:Nat}{tpos:Pos}
theorem vt {a:Expr}{m:FA}{p pos:Pos}(hg:Gl X "enumerate")(hm:X.mg "enumerate"=Y)(ha:XA X [a] m)(hs:cM [a] X.env=[(J,eval a X.env)]:=by rfl):XI X (.Tuple elts k tpos) (.Call (.Name "enumerate" p) [a] [] pos) (ve m):=⟨zx (hg:=hg) (hm:=hm) (ha:=ha.h) (hs:=hs)⟩
theorem nL {a b:Expr}{m:FA}{p pos:Pos}(hg:Gl X "zip")(hm:X.mg "zip"=Y)(ha:XA X [a,b] m)(hs:cM [a,b] X.env=[(J,eval a X.env),(J,eval b X.env)]:=by rfl)(hs2:cM [b] X.env=[(J,eval b X.env)]:=by rfl):XI X (.Tuple elts k tpos) (.Call (.Name "zip" p) [a,b] [] pos) (AM m):=⟨Cb (hg:=hg) (hm:=hm) (ha:=ha.h) (hs:=hs) (hs2:=hs2)⟩
end
section
variable{X:Cx}{ag:List (cG×Obj)}{σ:L2.St}{H:Hp}{s:cF}{mu:List cG}{S:cV}{K:Fg1}
end
section
variable{X:Cx}
theorem vr:XO X Y pz:=⟨zu⟩
theorem vq{e:Expr}{m:FE}(h:XE X e m):XO X (Z e) (mU m):=⟨zt (h:=h.h)⟩
theorem kW {a:Expr}{m:FA}{d p2 b c:Pos}(hc:X.calm=M)(hg:Gl X "range")(hm:X.mg "range"=Y)(hg2:Gl X "list")(hm2:X.mg "list"=Y)(ha:XA X [a] m)(hs:cM [a] X.env=[(J,eval a X.env)]:=by rfl)(hs2:cM [.Call (.Name "range" d) [a] [] b] X.env=[(J,eval (.Call (.Name "range" d) [a] [] b) X.env)]:=by rfl):XE X (.Call (.Name "list" p2) [.Call (.Name "range" d) [a] [] b] [] c) (uA m):=⟨ux (hc:=hc) (hg:=hg) (hm:=hm) (hg2:=hg2) (hm2:=hm2) (ha:=ha.h) (hs:=hs) (hs2:=hs2)⟩
theorem qe {o e:Expr}{es:List Expr}{m:FE}{a:FA}{f:FN}{name:Str}{apos cpos:Pos}{id:String}(slot:Slot "list" name id)(hty:typeOf (.builtin id)=pure (.type "method_descriptor"))(hm:Dl X id (λx xs H Q=>rN X.K f (x::xs) H Q))(ho:XE X o m)(ha:XA X (e::es) a)(hbase:attributeBase o name X.env (eval o X.env)=eval o X.env:=by rfl)(hfew:((backTo cpos (cM (e::es) X.env)).all (λx=> !x.1)&&(backToKw cpos (keywordEach [] X.env)).all (λx=>x.1.isSome)&&decide ((e::es).length+([]:List Keyword).length+(if([]:List Keyword).isEmpty then 0 else 1)<30))=M:=by rfl)(hline:(apos.endLine == cpos.line)=M:=by rfl)(hs:cM (e::es) X.env=(J,eval e X.env)::cM es X.env:=by rfl)(hplain:(backTo cpos (cM es X.env)).any (·.1)=J:=by rfl):XE X (.Call (.Attribute o name apos) (e::es) [] cpos) (rP f m a):=⟨wS (slot:=slot) (hty:=hty) (hm:=hm) (ho:=ho.h) (ha:=ha.h) (hbase:=hbase) (hfew:=hfew) (hline:=hline) (hs:=hs) (hplain:=hplain)⟩
theorem GM (i:Nat){x:Str}{pos:Pos}(hN:X.N[i]?=Z x:=by rfl)(hv:Vis X.env.scope x:=by first|exact Or.inl rfl|exact Or.inr (Or.inl rfl)|exact Or.inr (Or.inr rfl))(hd:(x == ("__debug__":Str))=J:=by decide)(hcd:(x == ("__classdict__":Str))=J:=by decide):XE X (.Name x pos) (mV i):=⟨mv (i:=i) (hN:=hN) (hv:=hv) (hd:=hd) (hcd:=hcd)⟩
end
section
theorem qH {X:Cx}{k k' n:Nat}{x:Str}{m:FN}{p pos:Pos}{e:Expr}{es:List Expr}{a:FA}(h:ew X.prog X.w X.K X.mg X.base k x n m)(hr:eM k' X.A)(hk:k<=k')(hg:Gl X x)(ha:XA X (e::es) a)(hdb:(x == ("__debug__":Str))=J:=by decide)(he:cM (e::es) X.env=(J,eval e X.env)::cM es X.env:=by rfl)(hpl:(backTo pos (cM es X.env)).any (·.1)=J:=by rfl):XE X (.Call (.Name x p) (e::es) [] pos) (mN (cY n m) a):=⟨Cj (h:=h) (hr:=hr) (hk:=hk) (hg:=hg) (ha:=ha.h) (hdb:=hdb) (he:=he) (hpl:=hpl)⟩
theorem vx {X:Cx}{x:Str}{d:D}{pos:Pos}(h:CGl X.K X.mg x d)(hg:Gl X x)(hd:(x == ("__debug__":Str))=J:=by decide):XE X (.Name x pos) (mC d):=⟨zA (h:=h) (hg:=hg) (hd:=hd)⟩
end
section
variable{X:Cx}
structure Gd (X:Cx)(K:Fg1)(tg:Expr)(ifs:List Expr)(elt:Expr)(g:FG)(t:FT)(e:FE):Prop where
 g:XG X tg g
 t:XF X K ifs t
 e:XE X elt e
end
theorem yf{P:cH}{w:cJ}{K:Fg1}{mg:Str->Option cE}{base:cP}{x c:Str}{st:cR}{f:cG}{fd:cQ}{N ps:List Str}{k n:Nat}{b:FS}(F:vk K x c st f fd)(hb:jC K fd ps [])(hm:mg x=some (.ref f))(S:fq N ps (dg st))(hn:ps.length=n)(e:∀(d:cE) (A:cI) (a:List Env) (s:cF) (H:Hp) (E:XK),eM k (A.deeper (envOfC c (dg st) s.heap.objs.size f d)) ->
   sm (kE qz P w K mg base N c (dg st) f d A a s H E).nox (ea st) b):ew P w K mg base (k+1) x n (gJ N.length b):=
 BG F hb hm S hn λd A a s H E g=>(e d A a s H E g).h
theorem AV{P:cH}{w:cJ}{K:Fg1}{mg:Str->Option cE}{base:cP}{x c:Str}{st:cR}{f:cG}{fd:cQ}{N ps:List Str}{k n:Nat}{b:FS}(F:vk K x c st f fd)(S:fq N ps (dg st))(hn:ps.length=n)(e:∀(d:cE) (A:cI) (a:List Env) (s:cF) (H:Hp) (E:XK),eM k (A.deeper (envOfC c (dg st) s.heap.objs.size f d)) ->
   sm (kE qz P w K mg base N c (dg st) f d A a s H E).nox (ea st) b):jS P w K mg base qz (k+1) f fd ps (ya K n (gJ N.length b)):=by
 subst hn;exact Ez F S λd A a s H E g=>(e d A a s H E g).h
abbrev FV:=Ev->cV->Option (List D×Ev×cV)
noncomputable def e6 (c:List (Nat×List D))(g:FG)(t:FT)(b:FV):List D->FV
 |[]=>λr S=>if mT S c=true then some ([],r,S)else none
 |d::ds=>λr S=>if mT S c=true then(g d r S).bind λp=>(t p.1 p.2).bind λk=>if k.1=true then(b p.1 k.2).bind λq=>(e6 c g t b ds q.2.1 q.2.2).map λz=>(q.1++z.1,z.2)else e6 c g t b ds p.1 k.2 else none
noncomputable def dJ (m:FE):FV:=λr S=>(m r S).map λq=>([q.1],r,q.2)
noncomputable def dQ (k:Nat)(keep:List Nat)(m:FI)(g:FG)(t:FT)(b:FV):FE:=λr S=>(m r S).bind λp=>
 (e6 p.1.chk g t b p.1.items (pP k keep r) p.2).bind λq=>if q.1.length<=cN then some (.ref q.2.2.length,q.2.2++[.lst q.1])else none
section
variable{K:Fg1}{H H' H1:Hp}{mu mu' mu1:List cG}{S:cV}{a:cG}
theorem Ext.aside(x:Ext mu mu' H H'):Ext (a::mu) (a::mu') H H' where
 pre:=bM.mpr ⟨O,x.pre⟩
 old:=λb o h n=>x.old b o h λz=>n (mC1 _ z)
 tup:=x.tup
 frz:=x.frz
 new:=λb h=>by
  rcases aE.mp h with h|h
  ·exact .inl (by rw[h];exact mS1)
  ·rcases x.new b h with q|q
   ·exact .inl (mC1 _ q)
   ·exact .inr q
theorem Ext.inner(x:Ext (a::mu) (a::mu') H H'):oT mu mu' H H':=⟨(bM.mp x.pre).2,x.tup,x.frz⟩
theorem Ext.held{o:HO}(x:Ext mu mu' H H')(ha:H a=Z o)(hn:a∉mu):H' a=Z o/\a∉mu':=by
 refine⟨x.old a o ha hn,λz=>?_⟩;rcases x.new a z with q|q
 ·exact hn q
 ·rw[ha]at q;cases q
theorem ei.exw{r:Ev}{σ:L2.St}(e:oT mu mu' H H')(h:ei K H mu r σ):ei K H' mu' r σ:=⟨h.len,λi d q=>by
 obtain⟨v,a,b⟩:=h.val i d q;exact⟨v,a,b.exw e⟩⟩
theorem l9.exw{b:cG}(e:oT mu mu' H H')(h:∀o,H b=Z o->H' b=Z o):∀{o:Ob},l9 K H mu b o->l9 K H' mu' b o
 | .lst _,⟨vs,q,r⟩=>⟨vs,h _ q,r.exw e⟩
 | .dct _,⟨ws,q,r⟩=>⟨ws,h _ q,Paired.mapP r λ_ _ z=>⟨z.1,z.2.exw e⟩⟩
 | .dcT _,⟨ws,q,r,l⟩=>⟨ws,h _ q,Paired.mapP r λ_ _ ⟨z,d,k,v,a,r⟩=>⟨z,d,k.exw e,v,a,r.exw e⟩,l⟩
 | .iset _,q=>⟨h _ q.1,q.2⟩
 | .dcF _,⟨ws,⟨o,u,c,f⟩,r,l⟩=>⟨ws,⟨o,u,h _ c,f⟩,Paired.mapP r λ_ _ ⟨z,d,k,v,a,r⟩=>⟨z,d,k.exw e,v,a,r.exw e⟩,l⟩
 | .tst _,⟨ws,q,r⟩=>⟨ws,h _ q,Paired.mapP r λ_ _ ⟨z,d,k,v,a,r⟩=>⟨z,d,k.exw e,v,a,r.exw e⟩⟩
theorem Sim.aside{u:HO}(s:Sim K H mu S)(e:oT mu mu H (upd H a u))(hn:a∉mu):Sim K (upd H a u) mu S:=
 ⟨s.len,s.nd,λk o b h1 h2=>(s.ob k o b h1 h2).exw e λo' q=>by rw[di (λz=>hn (by rw[<- z];exact gM1 h2))];exact q⟩
end
inductive E6 (K:Fg1)(a:cG)(m:FV)(E:im)(σ:L2.St)(H:Hp):Prop
 |mk (r:Ev) (mu:List cG) (S:cV) (acc:List D) (vs:List V) (xs:List D) (r':Ev) (S':cV):H a=some (.lst vs)->a∉mu->c5 K H mu acc vs->ei K H mu r σ->Sim K H mu S->m r S=some (xs,r',S')->vs.length+xs.length<=cN ->
 (∀ σ' H' mu' vs',Ext (a::mu) (a::mu') H H'->H' a=some (.lst vs')->a∉mu'->c5 K H' mu' (acc++xs) vs'->ei K H' mu' r' σ'->Sim K H' mu' S'->E.nx σ' H')->E6 K a m E σ H
theorem p9{K:Fg1}{a:cG}{m:FE}{E:im}{σ:L2.St}{H:Hp}(h:E6 K a (dJ m) E σ H):sL a (tM K m) E σ H:=by
 obtain⟨r,mu,S,j,vs,xs,u,w,n,g,p,i,q,f,t,hc⟩:=h;obtain⟨⟨d,k⟩,l,f⟩:=oM1.mp f;cases f;refine⟨r,mu,S,d,k,i,q,l,λv H1 mu1 e s o=>?_⟩;obtain⟨c,b⟩:=e.held n g;have put:Ext (a::mu1) (a::mu1) H1 (upd H1 a (.lst (vs++[v]))):=Ext.put c trivial mS1;refine⟨vs,c,t,?_⟩;exact hc σ _ mu1 (vs++[v]) (e.aside.trans put) dr b (((p.ext e).append (.cons s .nil)).exw put.inner) ((i.ext e).exw put.inner) (o.aside put.inner b)
inductive Gi (K:Fg1)(a:cG)(mu2:List cG)(H:Hp)(c:List (Nat×List D))(g:FG)(t:FT)(b:FV)(r':Ev)(S':cV)(tot:List D)(L:List D)(σ':L2.St)(H':Hp):Prop
 |mk (r3:Ev) (mu3:List cG) (S3:cV) (acc3:List D) (vs3:List V) (xs3:List D):Ext (a::mu2) (a::mu3) H H'->H' a=some (.lst vs3)->a∉mu3->c5 K H' mu3 acc3 vs3->ei K H' mu3 r3 σ'->Sim K H' mu3 S3->e6 c g t b L r3 S3=some (xs3,r',S')->acc3++xs3=tot->vs3.length+xs3.length<=cN->Gi K a mu2 H c g t b r' S' tot L σ' H'
theorem w6{K:Fg1}{a:cG}{j:It}{am:vj}{g:FG}{t:FT}{b:FV}{tb:TS}{D:im}(hb:∀ E σ H,E6 K a b E σ H->tb E σ H){mu1 e:List cG}{H1 H:Hp}{r ao:Ev}{S S':cV}{σ:L2.St}{acc xs:List Mi.D}{vs:List V}(hJ:Gj K j am mu1 H1)(x:oT mu1 e H1 H)(ha:H a=Z (.lst vs))(hna:a∉e)(hr:c5 K H e acc vs)(he:ei K H e r σ)(hs:Sim K H e S)(hm:e6 am.chk g t b am.items r S=Z (xs,ao,S'))(hl:vs.length+xs.length<=cN)(hc:∀h H' mu' s,Ext (a::e) (a::mu') H H'->H' a=Z (.lst s)->a∉mu'->c5 K H' mu' (acc++xs) s->ei K H' mu' ao h->Sim K H' mu' S'->D.nx h H'):AD j (DB K g) (yx K t) tb D σ H:=by
 refine⟨λi k h H'=>k=(am.items.drop i).length/\Gi K a e H am.chk g t b ao S' (acc++xs) (am.items.drop i) h H',
  ⟨_,O,r,e,S,acc,vs,xs,.refl _ _,ha,hna,hr,he,hs,hm,O,hl⟩,?_⟩
 rintro i k σ3 H3 ⟨rfl,r3,m,S3,f,vs3,xs3,I,v,A,C,F,X,c,q,l⟩;cases hd0:am.items.drop i with
 |nil=>
  left;rw[hd0,e6]at c;dsimp only at c;split at c
  ·rename_i ok;cases c;refine⟨(hJ i H3 m _ (x.trans I.inner) X ok).2 (List.drop_eq_nil_iff.mp hd0),hc σ3 H3 m vs3 I v A ?_ F X⟩;rw[<- q,aL];exact C
  ·cases c
 |cons d ds=>
  right;rw[hd0]at c;obtain⟨hi,hd⟩:=kb hd0;rw[e6]at c;dsimp only at c;split at c
  ·rename_i ok;obtain⟨⟨L,S4⟩,e4,c⟩:=oB1.mp c;obtain⟨⟨k5,P⟩,e5,c⟩:=oB1.mp c;obtain⟨go,yl⟩:=(hJ i H3 m _ (x.trans I.inner) X ok).1 d hi;refine⟨go,Gi K a e H am.chk g t b ao S' (acc++xs) ds,?_,λy H4 yy=>?_⟩
   ·intro h H' h6;exact⟨ds.length,bt _,(congrArg List.length hd).symm,hd.symm ▸ h6⟩
   ·obtain⟨G,s4,q4⟩:=yl y H4 yy;obtain⟨ha4,N⟩:=G.held v A;refine⟨r3,m,S3,d,L,S4,F.ext G,s4,q4,e4,fun σ5 H5 R x5 n s5=>?_⟩;obtain⟨W,Q⟩:=x5.held ha4 N;refine⟨L,R,S4,k5,P,n,s5,e5,λH6 p z s6=>?_⟩;obtain⟨u,B⟩:=z.held W Q;have xx:=((I.trans G.aside).trans x5.aside).trans z.aside;have o:c5 K H6 p f vs3:=((C.ext G).ext x5).ext z;cases k5 with
    |true=>
     obtain⟨⟨q1,r7,S7⟩,e7,c⟩:=oB1.mp c;obtain⟨⟨z1,r8,S8⟩,e8,c⟩:=oM1.mp c;cases c;refine hb _ _ _ ⟨L,p,P,f,vs3,q1,r7,S7,u,B,o,n.ext z,s6,e7,?_,fun σ8 H8 au aq x8 wq T w U s8=>⟨r7,au,S7,f++q1,aq,z1,xx.trans x8,wq,T,w,U,s8,e8,?_,?_⟩⟩
     ·rw[lA1]at l;dsimp only at l;lia
     ·rw[<- q,bv]
     ·have:=w.length;have h3:=o.length;rw[lA1]at this l;dsimp only at l;lia
    |false=>exact⟨L,p,P,f,vs3,xs3,xx,u,B,o,n.ext z,s6,c,q,l⟩
  ·cases c
theorem qo{K:Fg1}{k:Nat}{keep:List Nat}{m:FI}{g:FG}{t:FT}{b:FV}{tb:cG->TS}(hb:∀ a E σ H,E6 K a b E σ H->tb a E σ H){σ:L2.St}{H:Hp}{Q:VK}(h:tM K (dQ k keep m g t b) σ H Q):
  vN k keep (Fv K m) (DB K g) (yx K t) tb σ H Q:=by
 obtain⟨r,mu,S,d,aq,F,W,f,hc⟩:=h;obtain⟨⟨am,au⟩,P,f⟩:=oB1.mp f;obtain⟨⟨xs,r2,N⟩,U,f⟩:=oB1.mp f;dsimp only at f;split at f
 ·rename_i R;cases f;refine ⟨r,mu,S,am,au,F,W,P,fun j H1 mu1 ao X L p i=>?_⟩;have w:Ext mu1 mu1 H1 (upd H1 p (.lst [])):=Ext.fresh i;refine w6 (hb p) X w.w dr (L.notin i) .nil ((Ep k keep (F.ext ao)).ext w) (L.fresh i) U (by simpa using R) fun T H' mu' l s A x B V s'=>?_;have y:Ext mu1 (mu'++[p]) H1 H':=by
   refine⟨((bM.mp s.pre).2).trans (bo _ _),λb o e n=>?_,λb ys e=>s.tup b ys (w.tup b ys e),λb o u e=>s.frz b o u (w.frz b o u e),λb D=>?_⟩
   ·have I:b≠p:=dA e i;exact s.old b o (by rw [di I];exact e) fun z=>by
     rcases aE.mp z with z|z
     ·exact I z
     ·exact n z
   ·rcases aF.mp D with z|z
    ·rcases s.new b (mC1 _ z)with q|q
     ·rcases aE.mp q with q|q
      ·exact .inr (by rw[q];exact i)
      ·exact .inl q
     ·by_cases v:b=p
      ·exact .inr (by rw[v];exact i)
      ·rw[di v]at q;exact .inr q
    ·have:b=p:=by simpa using z
     exact .inr (by rw[this];exact i)
  refine hc _ H' (mu'++[p]) (ao.trans y) (.ref (fC s'.len p)) ⟨by rw[lA1,lA1,s'.len];rfl,?_,λn o b h1 h2=>?_⟩
  ·rw[bq];refine⟨s'.nd,by simp,λb hb c hc e=>?_⟩;have:c=p:=by simpa using hc
   subst this;subst e;exact x hb
  ·by_cases G:n<N.length
   ·rw[gL1 G]at h1;rw[gL1 (by rw[s'.len];exact G)]at h2;exact(s'.ob n o b h1 h2).mor [p]
   ·have C:n=N.length:=by
     have:=(gE1.mp h1).1;rw[lA1]at this;simp at this;lia
    subst C;rw[gR1 (nR1 _)]at h1;rw[<- s'.len,gR1 (nR1 _)]at h2;simp at h1 h2;subst h1;subst h2;exact⟨l,A,(by simpa using B:c5 K H' mu' xs l).mor [p]⟩
 ·cases f
section
variable{X:Cx}
theorem qZ{elt tg iter:Expr}{ifs:List Expr}{scope:cS}{pos:Pos}{T:List Str}{keep:List Nat}{i:List (Str×cG)}{m:FI}{g:FG}{t:FT}{e:FE}(hc:X.calm=M)(C:E1 X scope T keep)(f:iE X.env.cells scope.names []=Z i)(hi:XI X tg iter m)(hb:∀s H b,Gd (cxC X scope i T keep s H b) X.K tg ifs elt g t e)(hs:∀x,foldedSetIterable iter X.env x=pure x:=by intro _;rfl):XE X (.ListComp elt [⟨tg,iter,ifs,0⟩] scope pos) (dQ T.length keep m g t (dJ e)):=
 ⟨dX (y3 (emit:=qa elt) (tb:=λp=>sL p (tM X.K e)) hc (λit c d=>vF elt tg iter ifs scope pos it c d) C f hi.h (λs H b p=>⟨(hb s H b).g.h,(hb s H b).t.h,sR (hb s H b).e.h p⟩) hs)
  fun σ H Q h=>qo (λa E σ H q=>p9 q) h⟩
theorem ff{elt tg iter:Expr}{ifs:List Expr}{scope:cS}{pos b n:Pos}{y:Str}(i:Nat){T:List Str}{keep:List Nat}{l:List (Str×cG)}{m:FI}{g:FG}{t:FT}{e:FE}(hc:X.calm=M)(C:E1 X scope T keep)(j:iE X.env.cells scope.names []=Z l)(hi:XI X tg iter m)(hb:∀s H c,Gd (cxC X scope l T keep s H c) X.K tg ifs elt g t e)(hN:X.N.Nodup)(hy:X.N[i]?=Z y)(hx:sw X.env.scope y)(k:swapsWith (.ListComp elt [⟨tg,iter,ifs,0⟩] scope pos) (Z (.Name y n)) b.line X.env=pure M:=by rfl)(hf:X.fn y=M\/X.env.scope.names.lookup y=Z .local:=by first|exact .inl rfl|exact .inr rfl|assumption)(hs:∀x,foldedSetIterable iter X.env x=pure x:=by intro _;rfl):XS X (.Assign [.Name y n] (.ListComp elt [⟨tg,iter,ifs,0⟩] scope pos) b) (db (dQ T.length keep m g t (dJ e)) (gN i)):=
 ⟨gk (yT (emit:=qa elt) (tb:=λp=>sL p (tM X.K e)) hc k (λit d f=>vF elt tg iter ifs scope pos it d f) C j hi.h (λs H c p=>⟨(hb s H c).g.h,(hb s H c).t.h,sR (hb s H c).e.h p⟩) hN hy hx hf hs)
  λE σ H h=>CZ (fun σ H Q q=>qo (λa E σ H q=>p9 q) q) h⟩
end
noncomputable def oo:D->Option Key
 | .int i=>Z (.inl i)
 | .str x=>Z (.inr x)
 |_=>Y
noncomputable def dq{κ:Type}[DecidableEq κ](kvs:List (κ×D))(k:κ):Option D:=(kvs.find? λp=>decide (p.1=k)).map (·.2)
noncomputable def fc{κ:Type}[DecidableEq κ](kvs:List (κ×D))(k:κ)(d:D):List (κ×D):=
 if(kvs.any λp=>decide (p.1=k))=M then kvs.map (λp=>if p.1=k then(p.1,d)else p)else kvs++[(k,d)]
section
variable{K:Fg1}{H:Hp}{mu:List cG}
theorem jj{d:D}{v:V}{k:Key}(r:dP K H mu d v)(h:oo d=Z k):v=kV k:=by
 cases r with
 |int i=>cases h;rfl
 |str x=>cases h;rfl
 |_=>cases h
end
section
variable{κ:Type} [DecidableEq κ] {K:Fg1}{H:Hp}{mu:List cG}
theorem KR.length:∀{ks:List (κ×D)} {ws:List (κ×V)},KR K H mu ks ws->ks.length=ws.length:=λh=>Paired.length h
theorem KR.look{k:κ}:∀ {ks:List (κ×D)} {ws:List (κ×V)},KR K H mu ks ws ->
  (∀d,dq ks k=Z d -> ∃v,gM ws k=Z v/\dP K H mu d v)/\(dq ks k=Y->gM ws k=Y):=by
 intro ks ws h
 induction h with
 |nil=>exact⟨λd h=>by simp[dq]at h,λ_=>rfl⟩
 | @cons p q ks ws r t ih=>
  obtain⟨b,f⟩:=p;obtain⟨j,c⟩:=q;obtain⟨e,r⟩:=r;dsimp only at e r;subst e;obtain⟨h1,h2⟩:=ih;by_cases a:b=k
  ·subst a;refine⟨λd h=>?_,λh=>?_⟩
   ·have:f=d:=by simpa[dq]using h
    subst this;exact⟨c,by simp[gM],r⟩
   ·simp[dq]at h
  ·have g:dq ((b,f)::ks) k=dq ks k:=by simp[dq,aX,a]
   have i:gM ((b,c)::ws) k=gM ws k:=by simp[gM,aX,a]
   rw[g,i];exact⟨h1,h2⟩
theorem KR.any{k:κ}:∀{ks:List (κ×D)} {ws:List (κ×V)},KR K H mu ks ws->(ks.any λp=>decide (p.1=k))=ws.any λp=>decide (p.1=k):=by
 intro ks ws h
 induction h with
 |nil=>rfl
 |cons r t ih=>rw[aY,aY,ih,r.1]
theorem KR.repl{k:κ}{d:D}{v:V}(q:dP K H mu d v):∀ {ks:List (κ×D)} {ws:List (κ×V)},KR K H mu ks ws ->
  KR K H mu (ks.map λp=>if p.1=k then(p.1,d)else p) (ws.map λp=>if p.1=k then(p.1,v)else p):=by
 intro ks ws h
 induction h with
 |nil=>exact .nil
 | @cons a b ks ws r t ih=>
  refine .cons ?_ ih;obtain⟨e,r⟩:=r;dsimp only;by_cases h:a.1=k
  ·rw[ak h,ak (e ▸ h)];exact⟨e,q⟩
  ·rw[aj h,aj (e ▸ h)];exact⟨e,r⟩
theorem KR.snoc{k:κ}{d:D}{v:V}(q:dP K H mu d v):∀{ks:List (κ×D)} {ws:List (κ×V)},KR K H mu ks ws->KR K H mu (ks++[(k,d)]) (ws++[(k,v)]):=by
 intro ks ws h
 induction h with
 |nil=>exact .cons ⟨O,q⟩ .nil
 |cons r t ih=>exact .cons r ih
theorem KR.put{k:κ}{d:D}{v:V}(q:dP K H mu d v){ks:List (κ×D)}{ws:List (κ×V)}(h:KR K H mu ks ws):KR K H mu (fc ks k d) (gG ws k v):=by
 unfold fc gG;rw[h.any];split
 ·exact h.repl q
 ·exact h.snoc q
end
noncomputable def rY:G2:=λd e S=>match e with
 | .ref n=>match S[n]? with
  |some (.dct kvs)=>(oo d).map λk=>(.bl (dq kvs k).isSome,S)
  |_=>Dj d e S
 |_=>Dj d e S
noncomputable def iB:G2:=λd e S=>match e with
 | .ref n=>match S[n]? with
  |some (.dct kvs)=>(oo d).map λk=>(.bl (!(dq kvs k).isSome),S)
  |_=>lI d e S
 |_=>lI d e S
noncomputable def jN:G2:=λd e S=>match d with
 | .ref n=>match S[n]? with
  |some (.dct kvs)=>(oo e).bind λk=>(dq kvs k).map λx=>(x,S)
  |_=>xy d e S
 |_=>xy d e S
noncomputable def jo:G3:=λo i v S=>match o with
 | .ref n=>match S[n]? with
  |some (.dct kvs)=>(oo i).bind λk=>if kvs.length<cN then Z (.non,S.set n (.dct (fc kvs k v)))else Y
  |_=>ib o i v S
 |_=>ib o i v S
section
variable{X:Cx}
theorem lD{K:Fg1}{H:Hp}{mu:List cG}{S:cV}(hs:Sim K H mu S){n:Nat}{a:cG}{kvs:List (Key×D)}{k:Key}{y:V}(hn:mu[n]? = some a)(he:S[n]? = some (.dct kvs))(hy:y=kV k):
  ∃o:Option V,mD H a y o/\(∀d,dq kvs k=Z d -> ∃v,o=Z v/\dP K H mu d v)/\(dq kvs k=Y->o=Y)/\o.isSome=(dq kvs k).isSome:=by
 obtain⟨ws,b,f⟩:=hs.dct he hn;subst hy;obtain⟨h1,h2⟩:=f.look (k:=k);refine⟨gM ws k,mD.k b,h1,h2,?_⟩;cases e:dq kvs k with
 |none=>rw[h2 e];rfl
 |some d=>obtain⟨v,c,_⟩:=h1 d e;rw[c];rfl
theorem D9(m:X.A.units+64<cLine):e9 X (compareOp .In) (r2 X.K (b2 rY)):=by
 intro ag s σ H x y u w Q I j f h;obtain⟨mu,S,d,e,r,l,i,b,c,a,hc⟩:=mO h;have back:Dj d e S=Z (r,l)->cO (model X.prog X.w) X.A (compareOp .In u w) (EP X ag σ Q) X.xe s:=λa=>FR m ag s σ H x y u w Q I j f ⟨mu,S,[d,e],r,l,.cons i (.cons b .nil),c,a,hc⟩;unfold rY at a;split at a
 ·rename_i n;split at a
  ·rename_i kvs p;obtain⟨k,v,a⟩:=oM1.mp a;cases a;cases b with
   |ref q=>
    cases f;obtain⟨o,g,_,_,hi⟩:=lD c q p (jj i v);exact F6 (by lia) I g j λs' t=>⟨.bl o.isSome,H,t,O,by rw[hi];exact hc.now (.bl _) c⟩
  ·exact back a
 ·exact back a
theorem wG(m:X.A.units+64<cLine):e9 X (compareOp .NotIn) (r2 X.K (b2 iB)):=by
 intro ag s σ H x y u w Q I j f h;obtain⟨mu,S,d,e,r,l,i,b,c,a,hc⟩:=mO h;have back:lI d e S=Z (r,l)->cO (model X.prog X.w) X.A (compareOp .NotIn u w) (EP X ag σ Q) X.xe s:=λa=>zj m ag s σ H x y u w Q I j f ⟨mu,S,[d,e],r,l,.cons i (.cons b .nil),c,a,hc⟩;unfold iB at a;split at a
 ·rename_i n;split at a
  ·rename_i kvs p;obtain⟨k,v,a⟩:=oM1.mp a;cases a;cases b with
   |ref q=>
    cases f;obtain⟨o,g,_,_,hi⟩:=lD c q p (jj i v);exact Ad (by lia) I g j λs' t=>⟨.bl (!o.isSome),H,t,O,by rw[hi];exact hc.now (.bl _) c⟩
  ·exact back a
 ·exact back a
theorem Dm(P:X.A.units+64<cLine):AR X (r2 X.K (b2 jN)):=by
 intro value b ag s σ H x y v u Q I t w h m;obtain⟨mu,S,d,e,r,A,C,j,p,c,hc⟩:=mO h;have back:xy d e S=Z (r,A)->cO (model X.prog X.w) X.A (subscriptTail value b v u) (EP X ag σ Q) X.xe s:=λc=>Fk value b ag s σ H x y v u Q I t w ⟨mu,S,[d,e],r,A,.cons C (.cons j .nil),p,c,hc⟩ m;unfold jN at c;split at c
 ·rename_i n;split at c
  ·rename_i kvs F;obtain⟨k,ao,c⟩:=oB1.mp c;obtain⟨z,D,c⟩:=oM1.mp c;cases c;cases C with
   | @ref _ a am=>
    cases t;obtain⟨o,g,h1,_,_⟩:=lD p am F (jj j ao);obtain⟨au,E,L⟩:=h1 _ D;subst E;have B:=qh I g;unfold subscriptTail;refine wB1 ?_;rw[getitemInPython_of_ne B.not_modules];refine wB1 (wpAny_specialOf B PySem.F.slot_dict_getitem.lookup ?_);have i:cO (model X.prog X.w) X.A (subscripted b J (.ref a) u) (λr f=>cO (model X.prog X.w) X.A (letTemporaryGo value (.ref a) r >>= λ_=>pure r) (EP X ag σ Q) X.xe f) X.xe s:=by
     rw[m];exact wpAny_operating (wpAny_mono (uT (by lia) I g w λG K N q=>(⟨au,H,N,q,hc.now L p⟩:EP X ag σ Q G K)) (λr f l=>wB1 (wpAny_letTemporaryGo (wP1 l))) λ_ _ x=>x)
    first
     |exact wP1 (wB1 i)
     |exact wB1 i
     |exact i
  ·exact back c
 ·exact back c
theorem Ba(L:X.A.units+64<cLine):sv X (rU X.K (b3 jo)):=by
 intro ag s σ H o i v g f u Q I j w m h;obtain⟨mu,S,ds,d,p,G,c,a,hc⟩:=id h;cases G with
 |cons t F=>cases F with
  |cons z K=>cases K with
   |cons q D=>
    cases D;rename_i y r x;dsimp only[b3]at a;have back:ib y r x S=Z (d,p)->cO (model X.prog X.w) X.A (setItem g f u) (λ_ s'=>∃H',Inv X ag σ H' s'/\Q H') X.xe s:=λa=>DK ag s σ H o i v g f u Q I j w m ⟨mu,S,[y,r,x],d,p,.cons t (.cons z (.cons q .nil)),c,a,hc⟩;unfold jo at a;split at a
    ·rename_i n;split at a
     ·rename_i kvs A;obtain⟨k,E,a⟩:=oB1.mp a;split at a
      ·rename_i C;cases a;cases t with
       |ref b=>
        cases j;obtain⟨ws,e,l⟩:=c.dct A b;have B:=jj z E;subst B;refine uS (by lia) I (vc.k e (by rw[<- l.length];exact C)) w m λs' am=>⟨_,am,?_⟩;have put:Ext mu mu H (upd H _ (.dK (gG ws k v))):=Ext.put e trivial (gM1 b);exact hc _ mu put (c.put b e trivial ⟨_,dr,(l.put q).ext put⟩)
      ·cases a
     ·exact back a
    ·exact back a
noncomputable def zZ:G2:=λd e S=>match e with
 | .non=>Z (.bl (nf d),S)
 | .bl b=>match d with
  | .bl c=>Z (.bl (c == b),S)
  |_=>Y
 |_=>Y
noncomputable def kJ:G2:=λd e S=>match e with
 | .non=>Z (.bl (!nf d),S)
 | .bl b=>match d with
  | .bl c=>Z (.bl (!(c == b)),S)
  |_=>Y
 |_=>Y
theorem D7:e9 X (compareOp .Is) (r2 X.K (b2 zZ)):=by
 intro ag s σ H x y u w Q I k g h;obtain⟨mu,S,d,e,r,l,j,a,i,f,hc⟩:=mO h;cases e with
 |non=>exact D8 ag s σ H x y u w Q I k g ⟨mu,S,[d,.non],r,l,.cons j (.cons a .nil),i,f,hc⟩
 |bl b=>
  cases d with
  |bl c=>
   cases f;cases j;cases a;cases k;cases g;exact is_bool ⟨.bl (c == b),H,I,O,hc.now (.bl _) i⟩
  |_=>cases f
 |_=>cases f
theorem wH:e9 X (compareOp .IsNot) (r2 X.K (b2 kJ)):=by
 intro ag s σ H x y u w Q I k g h;obtain⟨mu,S,d,e,r,l,j,a,i,f,hc⟩:=mO h;cases e with
 |non=>exact BV ag s σ H x y u w Q I k g ⟨mu,S,[d,.non],r,l,.cons j (.cons a .nil),i,f,hc⟩
 |bl b=>
  cases d with
  |bl c=>
   cases f;cases j;cases a;cases k;cases g;exact isnot_bool ⟨.bl (!(c == b)),H,I,O,hc.now (.bl _) i⟩
  |_=>cases f
 |_=>cases f
noncomputable def wZ:FE:=λ_ S=>Z (.ref S.length,S++[.dct []])
theorem vy{pos:Pos}:XE X (.Dict [] [] pos) wZ:=⟨dX wz <| by
 rintro σ H Q ⟨r,mu,S,d,f,e,b,c,hc⟩ p a;cases c;exact hc _ _ (mu++[p]) (Ext.new_ a) (.ref (fC b.len p)) (b.new a ⟨[],dr,.nil⟩)⟩
noncomputable def wX:List (FE×FE)->Ev->cV->Option (List (D×D)×cV)
 |[],_,S=>Z ([],S)
 |(a,b)::l,r,S=>(a r S).bind λp=>(b r p.2).bind λq=>(wX l r q.2).map λt=>((p.1,q.1)::t.1,t.2)
noncomputable def pL:List (D×D)->Option (List (Key×D))
 |[]=>Z []
 |(k,d)::l=>(oo k).bind λk=>(pL l).map λt=>(k,d)::t
noncomputable def lC(l:List (FE×FE)):FE:=λr S=>(wX l r S).bind λp=>(pL p.1).bind λkvs=>if kvs.length<=15 then Z (.ref p.2.length,p.2++[.dct (kvs.foldl (λacc kv=>fc acc kv.1 kv.2) [])])else Y
structure XP (X:Cx)(pos:Pos)(ks:List (Option Expr))(vs:List Expr)(l:List (FE×FE)):Prop where
 h:EU X pos ks vs (l.map λp=>(tM X.K p.1,tM X.K p.2))
theorem sC{pos:Pos}:XP X pos [] [] []:=⟨yV⟩
theorem fr{pos:Pos}{k v:Expr}{ks:List (Option Expr)}{vs:List Expr}{a b:FE}{l:List (FE×FE)}(hk:XE X k a)(hv:XE X v b)(t:XP X pos ks vs l):XP X pos (Z k::ks) (v::vs) ((a,b)::l):=⟨wm hk.h hv.h t.h⟩
theorem wl{K:Fg1}{σ:L2.St}:∀ {l:List (FE×FE)} {r:Ev} {mu:List cG} {H:Hp} {S S':cV} {ps:List (D×D)} {Q:List (V×V)->Hp->Prop},ei K H mu r σ->Sim K H mu S->wX l r S=some (ps,S') ->
  (∀vs H' mu',Ext mu mu' H H'->Paired (λ(p:D×D) (q:V×V)=>dP K H' mu' p.1 q.1/\dP K H' mu' p.2 q.2) ps vs->Sim K H' mu' S'->Q vs H')->nQ (l.map λp=>(tM K p.1,tM K p.2)) σ H Q
 |[],r,mu,H,S,S',ps,Q,he,hs,c,hc=>by cases c;exact hc [] H mu (.refl _ _) .nil hs
 |(a,b)::l,r,mu,H,S,S',ps,Q,he,hs,c,hc=>by
  obtain⟨⟨d,i⟩,j,c⟩:=oB1.mp c;obtain⟨⟨s,A⟩,m,c⟩:=oB1.mp c;obtain⟨⟨t,C⟩,u,c⟩:=oM1.mp c;cases c;refine⟨r,mu,S,d,i,he,hs,j,λv H1 mu1 h z x=>⟨r,mu1,i,s,A,he.ext h,x,m,λB H2 k e r2 w=>?_⟩⟩;refine wl ((he.ext h).ext e) w u λvs y f g o n=>hc _ y f ((h.trans e).trans g) (.cons ⟨(z.ext e).ext g,r2.ext g⟩ o) n
theorem xa{K:Fg1}{H:Hp}{mu:List cG}:∀ {ps:List (D×D)} {vs:List (V×V)} {kvs:List (Key×D)},Paired (fun (p:D×D) (q:V×V)=>dP K H mu p.1 q.1/\dP K H mu p.2 q.2) ps vs->pL ps=some kvs ->
  ∃ws:List (Key×V),vs=ws.map (λc=>(kV c.1,c.2))/\KR K H mu kvs ws:=by
 intro ps vs kvs i h
 induction i generalizing kvs with
 |nil=>cases h;exact⟨[],O,.nil⟩
 | @cons a b ps vs q t ih=>
  obtain⟨k,d⟩:=a;obtain⟨m,f⟩:=b;obtain⟨l,g,h⟩:=oB1.mp h;obtain⟨rest,j,h⟩:=oM1.mp h;cases h;obtain⟨ws,e,r⟩:=ih j;have:=jj q.1 g;dsimp only at this;subst this;exact⟨(l,f)::ws,by rw[mP1,<- e],.cons ⟨O,q.2⟩ r⟩
theorem wQ{K:Fg1}{H:Hp}{mu:List cG}:∀{kvs:List (Key×D)} {ws:List (Key×V)} {acc:List (Key×D)} {acw:List (Key×V)},KR K H mu kvs ws->KR K H mu acc acw->KR K H mu (kvs.foldl (λacc c=>fc acc c.1 c.2) acc) (gW acw ws):=by
 intro kvs ws acc acw f h
 induction f generalizing acc acw with
 |nil=>exact h
 | @cons a b kvs ws r t ih=>
  obtain⟨k,d⟩:=a;obtain⟨g,v⟩:=b;obtain⟨e,r⟩:=r;dsimp only at e r;subst e;show KR K H mu (kvs.foldl _ (fc acc k d)) (gW (gG acw k v) ws);exact ih (h.put r)
theorem oU{pos:Pos}{ks:List (Option Expr)}{vs:List Expr}{l:List (FE×FE)}(h:XP X pos ks vs l)(v:ks.all (·.isSome)=M:=by rfl)(am:ks.length=vs.length:=by rfl)(h0:ks≠[]:=by(intro z;cases z))(x:ks.length<=15:=by decide):XE X (.Dict ks vs pos) (lC l):=
 ⟨dX (y2 h.h v am h0 x) <| by
  rintro σ H Q ⟨r,mu,S,d,R,K,F,f,hc⟩ p g;obtain⟨⟨ps,D⟩,I,f⟩:=oB1.mp f;obtain⟨kvs,L,f⟩:=oB1.mp f;dsimp only at f;split at f
  ·rename_i k;cases f;have w:Ext mu mu H (upd H p (.dK [])):=Ext.fresh g;refine wl (K.ext w) (F.fresh g) I fun vs H1 mu1 j P i=>?_;obtain ⟨t,s⟩:=j.held (a:=p) (o:=.dK []) dr (F.notin g);obtain ⟨ws,ao,rk⟩:=xa P L;refine ⟨t,ws,ao,by rw [<- rk.length];exact k,?_⟩;have put:Ext (p::mu1) (p::mu1) H1 (upd H1 p (.dK (gW [] ws))):=Ext.put t trivial mS1;have N:=i.aside put.inner s;have y:Ext mu (mu1++[p]) H (upd H1 p (.dK (gW [] ws))):=by
    refine⟨j.pre.trans (bo _ _),λb o e n=>?_,λb ys e=>put.tup b ys (j.tup b ys (w.tup b ys e)),λb o u e=>put.frz b o u (j.frz b o u (w.frz b o u e)),λb C=>?_⟩
    ·have G:b≠p:=dA e g;rw[di G];exact j.old b o (by rw[di G];exact e) n
    ·rcases aF.mp C with z|z
     ·rcases j.new b z with q|q
      ·exact .inl q
      ·by_cases m:b=p
       ·exact .inr (by rw[m];exact g)
       ·rw[di m]at q;exact .inr q
     ·have:b=p:=by simpa using z
      exact .inr (by rw[this];exact g)
   have A:=wQ rk (acc:=[]) (acw:=[]) .nil;refine hc _ _ (mu1++[p]) y (.ref (fC i.len p)) ⟨by rw[lA1,lA1,i.len];rfl,?_,λn o b h1 h2=>?_⟩
   ·rw[bq];refine⟨i.nd,by simp,λb au c hc e=>?_⟩;have:c=p:=by simpa using hc
    subst this;subst e;exact s au
   ·by_cases E:n<D.length
    ·rw[gL1 E]at h1;rw[gL1 (by rw[i.len];exact E)]at h2;exact(N.ob n o b h1 h2).mor [p]
    ·have B:n=D.length:=by
      have:=(gE1.mp h1).1;rw[lA1]at this;simp at this;lia
     subst B;rw[gR1 (nR1 _)]at h1;rw[<- i.len,gR1 (nR1 _)]at h2;simp at h1 h2;subst h1;subst h2;exact⟨_,dr,KR.mor [p] (Paired.mapP A λ_ _ z=>⟨z.1,z.2.exw put.inner⟩)⟩
  ·cases f⟩
end
section
variable{K:Fg1}{H H':Hp}{mu mu':List cG}{S:cV}
end
theorem iW{X:Cx}(i j:Nat){x y:Str}{a b:Expr}{m:FA}{n k pt pos:Pos}{kt k2 pt2}(hc:X.calm=true)(hN:X.N.Nodup)(hi:X.N[i]? = some x)(s:X.N[j]? = some y)(l:i≠j)(hx:X.env.scope.names.lookup x=some .local)(hy:X.env.scope.names.lookup y=some .local)(ha:XA X [a,b] m)(hw:swappedStores [.Tuple [.Name x n,.Name y k] kt pt] (.Tuple [a,b] k2 pt2) X.env=pure (some [x,y]):=by rfl)(hs:swapsWithSole [.Tuple [.Name x n,.Name y k] kt pt] (.Tuple [a,b] k2 pt2) pos.line X.env=pure false:=by rfl):
  XS X (.Assign [.Tuple [.Name x n,.Name y k] kt pt] (.Tuple [a,b] k2 pt2) pos) (db (dL m) (gT 2 (gCs (gN i) (gCs (gN j) gNl)))):=
 ⟨gk (Bp hc hN hi s l hx hy ha.h hw hs) <| by
  rintro E σ H ⟨r,mu,S,f,C,z,o,hs,g,hc⟩;obtain⟨⟨d,w⟩,e,g⟩:=oB1.mp g;obtain⟨⟨r2,B⟩,c,g⟩:=oB1.mp g;cases g;obtain⟨⟨ds,A⟩,t,e⟩:=oB1.mp e;dsimp only at e;split at e
  ·cases e;refine⟨r,mu,S,ds,_,o,hs,t,λvs H1 mu1 p h u=>?_⟩;dsimp only at c;rw[gT]at c;split at c
   ·cases h with
    |nil=>cases c
    |cons v h=>cases h with
     |nil=>cases c
     |cons q h=>cases h with
      |nil=>
       cases c;exact⟨_,_,O,hc _ H1 mu1 p (((o.ext p).set v).set q) u⟩
      |cons _ _=>cases c
   ·cases c
  ·cases e⟩
noncomputable def xz:G2:=λd e S=>match d,e with
 | .int i,.int j=>Z (.int (i+j),S)
 |_,_=>Y
theorem zQ{X:Cx}:Fi X .Add (r2 X.K (b2 xz)):=by
 intro ag s σ H x y v u Q I k c h;obtain⟨mu,S,d,e,r,l,g,b,f,a,hc⟩:=mO h;unfold xz at a;split at a
 ·rename_i i j;cases a;cases g;cases b;exact zR ag s σ H _ _ v u Q I k c ⟨i,j,O,O,hc.now (.int _) f⟩
 ·cases a
end Mi
namespace HT
open PySem PySem.Spec PyProof.Rows
variable{prog:cH}{w:cJ}{A:cI}{E:cE->cF->Prop}{s:cF}
theorem iD{t sl:cG}{items:Array cE}{e f:cE}{lo hi:Option Int}{Q:cE->cF->Prop}(ht:IsTup s.heap t items)(hs:s.heap.IsSliceOf sl e f .none)(pl:IsPart e lo)(g:IsPart f hi)(hw:sIx items.size 0 lo=0/\sIx items.size items.size hi=items.size)(h:Q (.ref t) s):cO (model prog w) A (getItem (.ref t) (.ref sl)) Q E s:=by
 obtain⟨j,b,d,i⟩:=id hs;have c:s.TypeIs (.ref sl) "slice":=⟨j,b,d⟩;unfold getItem
 try with_reducible refine wpAny_holding ?_
 first|refine wB1 (wP1 ?_)|skip
 refine wB1 (wpAny_sequenceKey ht.typeIs (by decide) ?_);refine wB1 (wpAny_callSpecial?_slot (name:=Str.ofString "__getitem__") ht.typeIs PyProof.Rows.slot_tuple_getitem
  (wE1 PyProof.Rows.slot_tuple_getitem ht.typeIs entry_tuple_getitem ?_ (args_tuple_getitem _ _)))
 show cO _ _ (Builtin.Tuple.tupleItemsOf (.ref t) >>= _) _ _ s;refine wB1 (tupleItemsOf_ ht ?_);refine wB1 (wpAny_typeOf c ?_);rw[ak (by decide)];refine wB1 (gD hs pl g ?_);have a:((((sIx items.size 0 lo:Nat):Int) == 0&&(1:Int) == 1&&(sIx items.size items.size hi-sIx items.size 0 lo) == items.size)=M):=by
  rw[hw.1,hw.2];simp
 show cO _ _ (if(((sIx items.size 0 lo:Nat):Int) == 0&&(1:Int) == 1&&(sIx items.size items.size hi-sIx items.size 0 lo) == items.size)=M then _ else _) _ _ s;rw[ak a];refine wB1 ?_;unfold Builtin.Tuple.tupleIsExact;refine wB1 (wpAny_typeOf ht.typeIs (wP1 ?_));rw[ak (by decide)]
 first
  |exact wB1 (wpAny_rule (wP1 ⟨_,rfl,wP1 h⟩))
  |exact wB1 (wpAny_rule (wB1 (wP1 ⟨_,rfl,wP1 h⟩)))
end HT
namespace Mi
open PySem PySem.Spec PyProof.Rows L2
def FJ(K:Fg1):V->Option Int->Option Int->Hp->VK->Prop:=λx lo hi H Q=>∃a xs,x = .ref a/\iV K H a xs/\(HT.sIx xs.length 0 lo=0/\HT.sIx xs.length xs.length hi=xs.length)/\Q (.ref a) H
section
variable{X:Cx}
theorem yA:yc X (FJ X.K):=by
 intro ag s σ H x v k l lo hi n Q I j g pl e h;obtain⟨a,xs,rfl,f,i,q⟩:=h;cases j;obtain⟨c,r,d,m⟩:=I.tuple f;have b:c.toArray.size=xs.length:=by rw[sT1];exact r.length.symm
 refine⟨"tuple",_,PyProof.Rows.slot_tuple_getitem.lookup,d.typeIs,?_⟩;exact HT.iD d g pl e (by rw[b];exact i) ⟨.ref a,H,I,O,q⟩
noncomputable def vX(S:cV)(d:D)(lo hi:Option Int):Option (D×cV):=(da S d).map λp=>if p.1=M then(.ref S.length,S++[.lst (Mi.qm p.2 lo hi)])else(.tup (Mi.qm p.2 lo hi),S)
noncomputable def zE(m:FE)(lo hi:FO):FE:=λr S=>(m r S).bind λp=>(lo r p.2).bind λa=>(hi r a.2).bind λb=>vX b.2 p.1 a.1 b.1
theorem uU{xs:List D}{lo hi:Option Int}(h:HT.sIx xs.length 0 lo=0/\HT.sIx xs.length xs.length hi=xs.length):Mi.qm xs lo hi=xs:=by
 unfold Mi.qm;rw[h.1,h.2,List.drop_zero,Nat.sub_zero,bN]
theorem re{e:Expr}{lo hi:Option Expr}{m:FE}{a b:FO}{pos p2:Pos}(h:XE X e m)(E:XO X lo a)(au:XO X hi b):XE X (.Subscript e (.Slice lo hi Y p2) pos) (zE m a b):=
 ⟨dX (wx (yc.or yA (yc.or A8 yB)) h.h E.h au.h) <| by
  rintro σ H Q ⟨r,mu,S,d,P,o,am,f,hc⟩;obtain⟨⟨N,z⟩,C,f⟩:=oB1.mp f;obtain⟨⟨n,B⟩,F,f⟩:=oB1.mp f;obtain⟨⟨l,G⟩,I,f⟩:=oB1.mp f;refine⟨r,mu,S,N,z,o,am,C,λv H1 mu1 y ao L=>?_⟩;refine⟨r,mu1,z,n,B,o.ext y,L,F,λH2 u s K=>?_⟩;refine⟨r,u,B,l,G,(o.ext y).ext s,K,I,λR g A j=>?_⟩;obtain⟨⟨k,xs⟩,D,f⟩:=oM1.mp f;have w:=(y.trans s).trans A;obtain⟨c,vs,rfl,q,t⟩:=dn ((ao.ext s).ext A) j D;cases k with
  |true=>
   cases f;right;right;exact⟨c,vs,O,q,λp i=>hc _ _ (g++[p]) (w.trans (Ext.new_ i)) (.ref (fC j.len p)) (j.newL (tR t n l) i)⟩
  |false=>
   simp only[bF1,if_false]at f;cases f;by_cases x:HT.sIx xs.length 0 n=0/\HT.sIx xs.length xs.length l=xs.length
   ·left;rw[uU x]at hc;exact⟨c,vs,O,q,by rw[<- t.length];exact x,hc _ _ g w (.tup q t) j⟩
   ·right;left;exact⟨c,vs,O,q,by rw[<- t.length];exact x,λp i=>hc _ _ g (w.trans (Ext.fresh i)) (.tup (iV.of dr) ((tR t n l).ext (Ext.fresh i))) (j.fresh i)⟩⟩
end
mutual
inductive eS (h:cP):TK->cE->Prop
 |non:eS h .non .none
 |int (i t):eS h (.int i) (.int i t)
 |tup {a o items n xs}:h.get? a=some o->o.cls = .type "tuple"->o.data = .seq items n->fF h xs items.toList->eS h (.tup xs) (.ref a)
inductive fF (h:cP):List TK->List cE->Prop
 |nil:fF h [] []
 |cons {k v ks vs}:eS h k v->fF h ks vs->fF h (k::ks) (v::vs)
end
section
variable{prog:cH}{w:cJ}{A:cI}{E:cE->cF->Prop}{s:cF}
theorem pk{Q:Int->cF->Prop}(h:Q 0xFCA86420 {s with toks:=s.toks+1}):cO (model prog w) A (pyHash .none) Q E s:=by
 have a:s.TypeIs .none "NoneType":=rfl;unfold pyHash
 first|unfold pyHashByItsType|skip
 have b:[Value.none].any Value.onHeap=J:=rfl;refine wB1 ?_;rw[cRoomFor,aj (by rw[b];exact aJ)];refine wP1 ?_;refine wB1 (wpAny_specialOf a F.slot_NoneType_hash.lookup ?_);show cO _ _ (if(Z (Value.builtin "NoneType.__hash__") == Z Value.none)=M then _ else _) Q E s;rw[aj (by rw[beq_builtin_none];exact aJ)];refine wB1 (wpAny_specialOf a F.slot_NoneType_hash.lookup ?_);show cO _ _ (callSpecialIfBoundUnlessNone? .none "__hash__" _ >>= _) Q E s;refine wB1 (wpAny_callSpecialIfBoundUnlessNone?_slot a F.slot_NoneType_hash (wE1 F.slot_NoneType_hash a F.entry_NoneType_hash (show cO _ _ (retInt 0xFCA86420) _ _ s from wpAny_ret_mkInt ?_) (F.args_NoneType_hash_1 _)));exact wP1 h
def oO(prog:cH)(w:cJ)(k:TK):Prop:=∀{A:cI} {E:cE->cF->Prop} {s:cF} {v:cE} {Q:Int->cF->Prop},A.units+k.dep<cLine->eS s.heap k v->Q k.hash {s with toks:=s.toks+k.draws}->cO (model prog w) A (pyHash v) Q E s
theorem fF.split{h:cP}:∀{ks:List TK} {vs:List cE},fF h ks vs->ks.length=vs.length:=λa=>a.rec (motive_1:=λ_ _ _=>True) (motive_2:=λks vs _=>ks.length=vs.length) trivial (λ_ _=>trivial) (λ_ _ _ _ _=>trivial) O (λ_ _ _ ih=>congrArg (· + 1) ih)
theorem xm{xs:List TK}(all:∀k∈xs,oO prog w k):oO prog w (.tup xs):=by
 intro A E s v Q r u h;cases u with
 | @tup a o l n _ q hc t hi=>
  have g:s.TypeIs (.ref a) "tuple":=⟨o,q,hc⟩;rw[TK.dep]at r;unfold pyHash
  first|unfold pyHashByItsType|skip
  first|refine wB1 (wpAny_cRoomFor_or (.inr (by lia)) ?_)|skip
  refine wB1 (wpAny_specialOf g F.slot_tuple_hash.lookup ?_);show cO _ _ (if(Z (Value.builtin "tuple.__hash__") == Z Value.none)=M then _ else _) Q E s;rw[aj (by rw[beq_builtin_none];exact aJ)];refine wB1 (wpAny_specialOf g F.slot_tuple_hash.lookup ?_);show cO _ _ (callSpecialIfBoundUnlessNone? (.ref a) "__hash__" _ >>= _) Q E s;refine wB1 (wpAny_callSpecialIfBoundUnlessNone?_slot g F.slot_tuple_hash (wE1 F.slot_tuple_hash g F.entry_tuple_hash ?_ (F.args_tuple_hash_1 _)));show cO _ _ (Builtin.Tuple.tupleItemsOf (.ref a) >>= _) _ _ s;refine wB1 (wpAny_tupleItemsOf q t ?_);refine wB1 ?_;rw[<- Array.forIn_toList];refine wpAny_forIn_list _
   (λrest (b:Array Int) s'=>∃done c,xs=done++c/\fF s.heap c rest/\b.toList=TK.hashes done/\s'={s with toks:=s.toks+TK.drawsAll done})
   _ ?_ ?_ _ _ ⟨[],xs,O,hi,O,O⟩
  ·rintro x rest b s' ⟨done,c,e,m,i,rfl⟩;cases m with
   | @cons k _ d _ h1 f=>
    have p:k∈xs:=by rw[e];simp
    refine wB1 (all k p (show A.in1.units+k.dep<cLine by have:=TK.dep_mem p;rw[show A.in1.units=A.units+1 from rfl];lia) h1 ?_)
    first
     |exact wP1 ⟨done++[k],d,by simp[e],f,by rw[TK.hashes_app];simp[i,TK.hashes],by rw[TK.draws_app];simp[TK.drawsAll,bg]⟩
     |exact wB1 (wP1 (wP1 ⟨done++[k],d,by simp[e],f,by rw[TK.hashes_app];simp[i,TK.hashes],by rw[TK.draws_app];simp[TK.drawsAll,bg]⟩))
  ·rintro b s' ⟨done,c,e,m,i,rfl⟩;cases m;rw[aL]at e;subst e;show cO _ _ (retInt (Builtin.Tuple.tupleHashOf b.toList)) _ _ _;rw[i];refine wpAny_ret_mkInt ?_;show cO _ _ (if(decide (-(2:Int)^63<=Builtin.Tuple.tupleHashOf (TK.hashes xs))&&decide (Builtin.Tuple.tupleHashOf (TK.hashes xs)<2^63))=M then _ else _) Q E _;rw[TK.hash,TK.draws]at h;unfold reduceHash at h;by_cases j:(decide (-(2:Int)^63<=Builtin.Tuple.tupleHashOf (TK.hashes xs))&&decide (Builtin.Tuple.tupleHashOf (TK.hashes xs)<2^63))=M
   ·rw[ak j];rw[ak j]at h;exact wP1 (by simpa[bg]using h)
   ·rw[aj j];rw[aj j]at h;exact wB1 (wpAny_rule (wP1 (by simpa[bg]using h)))
mutual
theorem tG:∀k:TK,oO prog w k
 | .non=>λb a h=>by cases a;exact pk h
 | .int i=>λb a h=>by cases a;exact wpAny_pyHash_int h
 | .tup xs=>xm (pS xs)
theorem pS:∀ks:List TK,∀k∈ks,oO prog w k
 |[],k,h=>by simp at h
 |x::xs,k,h=>by
  by_cases e:k=x
  ·rw[e];exact tG x
  ·exact pS xs k ((aE.mp h).resolve_left e)
end
end
theorem eS.inj{h:cP}:∀ {k k':TK} {v:cE},eS h k v->eS h k' v->k=k':=fun i=>i.rec (motive_1:=fun k v _=>∀ k',eS h k' v->k=k') (motive_2:=fun k v _=>∀ k',fF h k' v->k=k')
  (λk' g=>by cases g;rfl) (λ_ _ k' g=>by cases g;rfl)
  (λe l j m ih k' g=>by
   cases g with
   |tup d n c f=>
    rw[e]at d;cases d;rw[j]at c;cases c;rw[ih _ f])
  (λk' g=>by cases g;rfl) (λ_ _ a b k' g=>by cases g with|cons r' t'=>rw[a _ r',b _ t']) _
theorem eS.keeps{h h':cP}{d:cG}{o:Obj}{es ep}(ho:h.get? d=some o)(hd:o.data = .dict es ep)(hs:Heap.SameBut d h h'):∀ {k:TK} {v:cE},eS h k v->eS h' k v:=fun g=>g.rec (motive_1:=fun k v _=>eS h' k v) (motive_2:=fun k v _=>fF h' k v) .non .int
  (λ{a} _ _ _ _ c f e _ ih=>.tup ((hs.2 a (λz=>by subst z;rw[c]at ho;cases ho;rw[e]at hd;cases hd)).trans c) f e ih) .nil (λ_ _ a b=>.cons a b)
theorem fF.at{h:cP}:∀{ks:List TK} {vs:List cE} (j:Nat) (h1:j<ks.length) (h2:j<vs.length),fF h ks vs->eS h ks[j] vs[j]
 |_::_,_::_,0,_,_,.cons r _=>r
 |_::ks,_::vs,j+1,h1,h2,.cons _ t=>fF.at j (by simpa using h1) (by simpa using h2) t
theorem xW{xs ys:List TK}(b:xs.length=ys.length):((af (min xs.length ys.length)).all λj=>decide (xs[j]?=ys[j]?))=decide (xs=ys):=by
 by_cases h:xs=ys
 ·subst h;simp
 ·rw[ai h,List.all_eq_false];have:∃j,xs[j]? ≠ ys[j]?:=Classical.byContradiction λz=>h (List.ext_getElem? λj=>Classical.byContradiction λq=>z ⟨j,q⟩);obtain⟨j,a⟩:=this;refine⟨j,?_,by simpa using a⟩;rw[aB,b,Nat.min_self];apply Classical.byContradiction;intro c;exact a (by rw[bO (by lia),bO (by lia)])
theorem EB:∀(n:Nat) {k k':TK} {A:cI} {s:cF} {u v:cE},k.dep<=n->A.units+n<cLine->eS s.heap k u->eS s.heap k' v->SeqAt.EqAt A s u v (decide (k=k')):=by
 intro n
 induction n with
 |zero=>
  intro k k' A s u v D Q r g;cases r with
  |tup _ _ _ _=>simp[TK.dep]at D
  |non=>
   cases g with
   |non=>simpa using SeqAt.EqAt.same (A:=A) (s:=s) Value.none
   |int i t=>simpa[qL]using iS (A:=A) (s:=s) (y:=.non) (x:=.int i) O ⟨t,O⟩ O O
   |tup e c d t=>simpa using(d7 (A:=A) (s:=s) (b:=J) (v:=.non) (u:=.none) ⟨_,e,c,_,d⟩ O O (by lia)).2.1
  |int i t=>
   cases g with
   |non=>simpa[qL]using iS (A:=A) (s:=s) (y:=.int i) (x:=.non) ⟨t,O⟩ O O O
   |int j H=>
    have:=iS (A:=A) (s:=s) (y:=.int i) (x:=.int j) ⟨t,O⟩ ⟨H,O⟩ O O;have e:qL (.int i) (.int j)=decide (TK.int i=TK.int j):=by
     by_cases h:i=j
     ·subst h;simp[qL]
     ·rw[ai (λz=>h (by injection z))];simp[qL,h]
    rw[e]at this;exact this
   |tup e c d q=>simpa using(d7 (A:=A) (s:=s) (b:=J) (v:=.int i) (u:=.int i t) ⟨_,e,c,_,d⟩ ⟨t,O⟩ O (by lia)).2.1
 |succ n ih=>
  intro k k' A s u v D Q r g;cases r with
  |non=>
   cases g with
   |non=>simpa using SeqAt.EqAt.same (A:=A) (s:=s) Value.none
   |int i t=>simpa[qL]using iS (A:=A) (s:=s) (y:=.non) (x:=.int i) O ⟨t,O⟩ O O
   |tup e c d t=>simpa using(d7 (A:=A) (s:=s) (b:=J) (v:=.non) (u:=.none) ⟨_,e,c,_,d⟩ O O (by lia)).2.1
  |int i t=>
   cases g with
   |non=>simpa[qL]using iS (A:=A) (s:=s) (y:=.int i) (x:=.non) ⟨t,O⟩ O O O
   |int j H=>
    have:=iS (A:=A) (s:=s) (y:=.int i) (x:=.int j) ⟨t,O⟩ ⟨H,O⟩ O O;have e:qL (.int i) (.int j)=decide (TK.int i=TK.int j):=by
     by_cases h:i=j
     ·subst h;simp[qL]
     ·rw[ai (λz=>h (by injection z))];simp[qL,h]
    rw[e]at this;exact this
   |tup e c d q=>simpa using(d7 (A:=A) (s:=s) (b:=J) (v:=.int i) (u:=.int i t) ⟨_,e,c,_,d⟩ ⟨t,O⟩ O (by lia)).2.1
  | @tup a o f m xs l w B F=>
   cases g with
   |non=>simpa using(d7 (A:=A) (s:=s) (b:=J) (v:=.non) (u:=.none) ⟨_,l,w,_,B⟩ O O (by lia)).1
   |int i t=>simpa using(d7 (A:=A) (s:=s) (b:=J) (v:=.int i) (u:=.int i t) ⟨_,l,w,_,B⟩ ⟨t,O⟩ O (by lia)).1
   | @tup a2 S items2 m2 ys L P ao I=>
    by_cases N:a=a2
    ·subst N;have:TK.tup xs=TK.tup ys:=eS.inj (.tup l w B F) (.tup L P ao I);rw[ah this];exact .same _
    ·refine .of_refs N ?_;have am:=F.split;have au:=I.split;have E:=SeqAt.RcAt.tuples (A:=A) (s:=s) (e:=fun j=>decide (xs[j]? = ys[j]?)) ⟨o,l,w,m,B⟩ ⟨S,L,P,m2,ao⟩ (by lia) (fun j h1 h2=>by
      have C:j<xs.length:=by rw[am];simpa using h1
      have K:j<ys.length:=by rw[au];simpa using h2
      rw[TK.dep]at D;have V:=TK.dep_mem (bJ C);have q:=ih (k:=xs[j]) (k':=ys[j]) (A:=A.in1) (s:=s) (by lia) (by show A.units+1+n<cLine;lia) (F.at j C (by simpa using h1)) (I.at j K (by simpa using h2));have e:decide (xs[j]?=ys[j]?)=decide (xs[j]=ys[j]):=by
       rw[gG1 C,gG1 K];simp
      rw[e];simpa using q)
     have T:f.size=xs.length:=by rw[am];simp
     have R:items2.size=ys.length:=by rw[au];simp
     rw[T,R]at E;have G:((af (min xs.length ys.length)).all (λj=>decide (xs[j]?=ys[j]?))&&xs.length == ys.length)=decide (TK.tup xs=TK.tup ys):=by
      by_cases p:xs.length=ys.length
      ·rw[xW p,p,beq_self_eq_true,bD];by_cases h:xs=ys
       ·subst h;simp
       ·rw[ai h,ai (λz=>h (by injection z))]
      ·have U:(xs.length == ys.length)=J:=by simpa using p
       rw[U,Bool.and_false,ai (λz=>p (by injection z with z;rw[z]))]
     rw[G]at E;exact E
theorem we{prog:cH}{w:cJ}:∀(n:Nat) {k:TK} {A:cI} {E:cE->cF->Prop} {s:cF} {v:cE} {Q:Bool->cF->Prop},k.dep<=n->eS s.heap k v->Q M s->cO (model prog w) A (eqIsQuiet n v) Q E s:=by
 intro n
 induction n with
 |zero=>
  intro k A E s v Q c r h;cases r with
  |non=>rw[eqIsQuiet_byValue 0 O];exact wP1 h
  |int i t=>rw[eqIsQuiet_byValue 0 O];exact wP1 h
  |tup _ _ _ _=>simp[TK.dep]at c
 |succ n ih=>
  intro k A E s v Q c r h;cases r with
  |non=>rw[eqIsQuiet_byValue _ O];exact wP1 h
  |int i t=>rw[eqIsQuiet_byValue _ O];exact wP1 h
  | @tup a o b m xs g j z q=>
   have f:s.TypeIs (.ref a) "tuple":=⟨o,g,j⟩;rw[TK.dep]at c;unfold eqIsQuiet;refine wB1 (wpAny_specialOf f F.slot_tuple_eq.lookup ?_);show cO _ _ (isInstance (.ref a) (.type "tuple") >>= _) _ _ s;refine wB1 (wpAny_isInstance f isSubtype_tuple_tuple ?_);simp only[Bool.not_true,bF1,if_false];refine wB1 (wpAny_seqItems g z ?_);refine wB1 ?_;show cO _ _ (forIn b _ _) _ _ s;rw[<- Array.forIn_toList];refine wpAny_forIn_list _ (λrest r s'=>r.1=Y/\s'=s /\ ∃ks,fF s.heap ks rest/\TK.depAll ks<=n) _ ?_ ?_ _ _ ⟨O,O,xs,q,by lia⟩
   ·rintro v rest r s' ⟨e,rfl,ks,u,l⟩;cases u with
    | @cons y _ d _ p x=>
     rw[TK.depAll]at l;refine wB1 (ih (k:=y) (by lia) p ?_);simp only[Bool.not_true,bF1,if_false];exact wP1 ⟨O,O,d,x,by lia⟩
   ·rintro⟨B,r2⟩ s' ⟨e,rfl,_⟩;simp only at e;subst e;exact wP1 h
noncomputable def eU(prog:cH)(w:cJ):HeapKind prog w TK where
 is:=λh k a=>eS h k (.ref a)/\k.dep<=8
 hash:=TK.hash
 draws:=TK.draws
 room:=λA=>A.units+8<cLine
 inj:=λhx hy=>hx.1.inj hy.1
 keeps:=λx ho hd hs=>⟨x.1.keeps ho hd hs,x.2⟩
 pyHash:=λhu hk h=>tG _ (by have:=hk.2;omega) hk.1 h
 eqBool:=λhu hx hy h=>EB 8 hx.2 hu hx.1 hy.1 _ _ _ _ h
 quiet:=λhk h=>we 8 hk.2 hk.1 h
section
open PySem.MeetsSeq PySem.MeetsSeq2 PySem.MeetsSeq3 PySem.SeqRoads2
end
section
variable{X:Cx}
end
mutual
noncomputable def kD:D->Option TK
 | .non=>Z .non
 | .int i=>Z (.int i)
 | .tup xs=>(En xs).map .tup
 |_=>Y
noncomputable def En:List D->Option (List TK)
 |[]=>Z []
 |x::xs=>(kD x).bind λk=>(En xs).map (k :: ·)
end
noncomputable def keyT:D->Option TK
 | .tup xs=>(En xs).bind λks=>if(TK.tup ks).dep<=8 then Z (.tup ks)else Y
 |_=>Y
mutual
theorem Eo:∀{d:D} {k:TK},kD d=Z k->tkD k=d
 | .non,k,h=>by cases h;rfl
 | .int i,k,h=>by cases h;rfl
 | .tup xs,k,h=>by
  rw[kD]at h;obtain⟨ks,e,h⟩:=oM1.mp h;subst h;rw[tkD,rR e]
 | .bl _,k,h=>by simp[kD]at h
 | .str _,k,h=>by simp[kD]at h
 | .rol _,k,h=>by simp[kD]at h
 | .fn _,k,h=>by simp[kD]at h
 | .ref _,k,h=>by simp[kD]at h
theorem rR:∀{ds:List D} {ks:List TK},En ds=Z ks->iZ ks=ds
 |[],ks,h=>by cases h;rfl
 |x::xs,ks,h=>by
  rw[En]at h;obtain⟨k,a,h⟩:=oB1.mp h;obtain⟨t,b,h⟩:=oM1.mp h;subst h;rw[iZ,Eo a,rR b]
end
theorem tt{d:D}{k:TK}(h:keyT d=Z k):tkD k=d/\k.dep<=8 /\ ∃xs,k = .tup xs:=by
 cases d with
 |tup xs=>
  rw[keyT]at h;obtain⟨ks,e,h⟩:=oB1.mp h;split at h
  ·rename_i a;cases h;exact⟨by rw[tkD,rR e],a,ks,O⟩
  ·cases h
 |_=>cases h
section
variable{X:Cx}{ag:List (cG×Obj)}{σ:L2.St}{H:Hp}{s:cF}{mu:List cG}
mutual
theorem sH(I:Inv X ag σ H s):∀(k:TK) {v:V} {u:cE},dP X.K H mu (tkD k) v->de v u->eS s.heap k u
 | .non,v,u,r,q=>by
  rw[tkD]at r;cases r;cases q;exact .non
 | .int i,v,u,r,q=>by
  rw[tkD]at r;cases r;obtain⟨t,rfl⟩:=q;exact .int i t
 | .tup xs,v,u,r,q=>by
  rw[tkD]at r;cases r with
  |tup h t=>
   cases q;obtain⟨d,e,⟨o,a,c,n,b⟩,_⟩:=I.tuple h;exact .tup a c b (by simpa using vK I xs t e)
theorem vK(I:Inv X ag σ H s):∀(ks:List TK) {vs:List V} {a:List cE},c5 X.K H mu (iZ ks) vs->dy vs a->fF s.heap ks a
 |[],vs,a,r,q=>by rw[iZ]at r;cases r;cases q;exact .nil
 |k::ks,vs,a,r,q=>by
  rw[iZ]at r;cases r with
  |cons r t=>cases q with
   |cons q p=>exact .cons (sH I k r q) (vK I ks t p)
end
theorem rA{α β γ δ:Type}{F:α->β->Prop}{G:γ->δ->Prop}{f:α->γ}{g:β->δ}:∀{l₁:List α} {l₂:List β},Paired F l₁ l₂->(∀a b,F a b->G (f a) (g b))->Paired G (l₁.map f) (l₂.map g):=by
 intro a b h g
 induction h with
 |nil=>exact .nil
 |cons r t ih=>exact .cons (g _ _ r) ih
theorem rB{α β:Type}{F:α->β->Prop}:∀{l₁ f:List α} {l₂ e:List β},Paired F l₁ l₂->Paired F f e->Paired F (l₁++f) (l₂++e):=by
 intro a b c d h g
 induction h with
 |nil=>exact g
 |cons r t ih=>exact .cons r ih
theorem KT.length{K:Fg1}:∀{ks:List (TK×D)} {ws:List (TK×cG×cE)},KT K H mu ks ws->ks.length=ws.length:=λh=>Paired.length h
theorem KT.mem{K:Fg1}:∀{ks:List (TK×D)} {ws:List (TK×cG×cE)},KT K H mu ks ws -> ∀x∈ws,x.1.dep<=8/\dP K H mu (tkD x.1) (.ref x.2.1):=by
 intro ks ws a x h
 induction a with
 |nil=>cases h
 |cons r t ih=>
  rcases aE.mp h with e|e
  ·subst e;rw[<- r.1];exact⟨r.2.1,r.2.2.1⟩
  ·exact ih e
theorem KT.look{K:Fg1}{k:TK}:∀ {ks:List (TK×D)} {ws:List (TK×cG×cE)},KT K H mu ks ws ->
  (∀d,dq ks k=Z d -> ∃p v,atKey ws k=Z p/\de v p.2/\dP K H mu d v)/\(atKey ws k).isSome=(dq ks k).isSome:=by
 intro ks ws h
 induction h with
 |nil=>exact⟨λd h=>by simp[dq]at h,O⟩
 | @cons p j ks ws r t ih=>
  obtain⟨b,e⟩:=p;obtain⟨l,a2,c⟩:=j;obtain⟨z,d,q,v,f,r⟩:=r;dsimp only at z q f r;subst z;obtain⟨h1,h2⟩:=ih;by_cases a:b=k
  ·subst a;refine⟨λd h=>?_,by simp[atKey,dq]⟩;have:e=d:=by simpa[dq]using h
   subst this;exact⟨(a2,c),v,by simp[atKey],f,r⟩
  ·have g:dq ((b,e)::ks) k=dq ks k:=by simp[dq,aX,a]
   have i:atKey ((b,a2,c)::ws) k=atKey ws k:=by simp[atKey,aX,a]
   rw[g,i];exact⟨h1,h2⟩
theorem KT.put{K:Fg1}{k:TK}{d:D}{v:V}{a:cG}{u:cE}(hk:k.dep<=8)(l:dP K H mu (tkD k) (.ref a))(i:de v u)(q:dP K H mu d v){ks:List (TK×D)}{ws:List (TK×cG×cE)}(h:KT K H mu ks ws):KT K H mu (fc ks k d) (storedH ws k a u):=by
 unfold fc storedH;have e:(ks.any λp=>decide (p.1=k))=(atKey ws k).isSome:=by
  rw[h.look.2];unfold dq;rw[a0,bH,List.find?_isSome,bI]
 rw[e];split
 ·clear e;refine rA h λp w ⟨z,f,g,j,c,m⟩=>?_;unfold putAt;by_cases b:p.1=k
  ·rw[ak b,ak (by rw[<- z];exact b)];exact⟨z,f,g,v,i,q⟩
  ·rw[aj b,aj (by rw[<- z];exact b)];exact⟨z,f,g,j,c,m⟩
 ·exact rB h (.cons ⟨O,hk,l,v,i,q⟩ .nil)
theorem qi(I:Inv X ag σ H s){a:cG}{xs:List (TK×cG×cE)}{kvs:List (TK×D)}(e:H a=Z (.ext (gy a xs)))(h:KT X.K H mu kvs xs):(a == sysModules)=J/\s.heap.DictOfH (eU X.prog X.w) a xs:=by
 obtain⟨⟨h1,h2,o,es,ep,g,f,d,c⟩,_⟩:=(show dZ X.prog X.w H s.heap a (.ext (gy a xs))from I.hok a _ e);exact⟨h1,o,es,ep,g,f,d,c,λx b=>⟨sH I _ (h.mem x b).2 O,(h.mem x b).1⟩,h2⟩
theorem oD{h:cP}{a:cG}{xs:List (TK×cG×cE)}(hd:(a == sysModules)=J)(hm:h.DictOfH (eU X.prog X.w) a xs):dZ X.prog X.w H h a (.ext (gy a xs)):=by
 obtain⟨o,es,ep,d,j,g,i,m,e⟩:=hm;refine⟨⟨hd,e,o,es,ep,d,j,g,i⟩,⟨o,d⟩,λn p ⟨a1,a2,o',b,c,b3,k,l,f⟩ st=>⟨a1,a2,o',b,c,st _ b3,k,l,f⟩⟩
end
noncomputable def gt:G2:=λd e S=>match e with
 | .ref n=>match S[n]? with
  |some (.dcT kvs)=>(keyT d).map λk=>(.bl (dq kvs k).isSome,S)
  |_=>rY d e S
 |_=>rY d e S
noncomputable def g9:G2:=λd e S=>match e with
 | .ref n=>match S[n]? with
  |some (.dcT kvs)=>(keyT d).map λk=>(.bl (!(dq kvs k).isSome),S)
  |_=>iB d e S
 |_=>iB d e S
noncomputable def cZ:G2:=λd e S=>match d with
 | .ref n=>match S[n]? with
  |some (.dcT kvs)=>(keyT e).bind λk=>(dq kvs k).map λx=>(x,S)
  |some (.dcF kvs)=>(keyT e).bind λk=>(dq kvs k).map λx=>(x,S)
  |_=>jN d e S
 |_=>jN d e S
noncomputable def gg:G3:=λo i v S=>match o with
 | .ref n=>match S[n]? with
  |some (.dcT kvs)=>(keyT i).bind λk=>if kvs.length<cN then Z (.non,S.set n (.dcT (fc kvs k v)))else Y
  |some (.dct [])=>match keyT i with
   |some k=>Z (.non,S.set n (.dcT [(k,v)]))
   |none=>jo o i v S
  |_=>jo o i v S
 |_=>jo o i v S
section
variable{X:Cx}
theorem j8{κ:Type}[DecidableEq κ](kvs:List (κ×D))(k:κ)(d:D):(fc kvs k d).length<=kvs.length+1:=by
 unfold fc;split
 ·rw[lM1];lia
 ·simp
theorem xJ{h:cP}{a:cG}(dd:h.DictOf (d0 X.prog X.w) a []):h.DictOfH (eU X.prog X.w) a []:=by
 obtain⟨o,es,ep,h1,h2,c,_,b,_⟩:=dd;have e:es.toList=[]:=by
  generalize es.toList=l at b;cases b;rfl
 exact⟨o,es,ep,h1,h2,c,e,(λx d=>by simp at d),bi⟩
theorem iq{A:cI}(a:A.units+64<cLine):(eU X.prog X.w).room A.in1:=by
 show A.units+1+8<cLine;lia
theorem iQ{ag:List (cG×Obj)}{σ:L2.St}{H:Hp}{s:cF}{mu:List cG}(I:Inv X ag σ H s){d:D}{v:V}{u:cE}{k:TK}(r:dP X.K H mu d v)(q:de v u)(h:keyT d=some k):
  ∃a,u = .ref a/\v = .ref a/\dP X.K H mu (tkD k) (.ref a)/\k.dep<=8/\(eU X.prog X.w).is s.heap k a:=by
 obtain⟨e,b,xs,ex⟩:=tt h;subst e;have is:=sH I k r q;subst ex;cases id is with
 | @tup a _ _ _ _ _ _ _ _=>
  rw[tkD]at r;cases r with
  |tup h1 h2=>
   cases q;exact⟨a,O,O,by rw[tkD];exact .tup h1 h2,b,is,b⟩
theorem j6(g:X.A.units+64<cLine):e9 X (compareOp .In) (r2 X.K (b2 gt)):=by
 intro ag s σ H x y u w Q I m i h;obtain⟨mu,S,d,e,r,o,l,c,f,b,hc⟩:=mO h;have back:rY d e S=Z (r,o)->cO (model X.prog X.w) X.A (compareOp .In u w) (EP X ag σ Q) X.xe s:=λb=>D9 g ag s σ H x y u w Q I m i ⟨mu,S,[d,e],r,o,.cons l (.cons c .nil),f,b,hc⟩;unfold gt at b;split at b
 ·rename_i n;split at b
  ·rename_i kvs p;obtain⟨k,t,b⟩:=oM1.mp b;cases b;cases c with
   |ref q=>
    cases i;obtain⟨xs,z,j,_⟩:=f.dcT p q;obtain⟨v,A⟩:=qi I z j;obtain⟨a,rfl,rfl,_,_,hi⟩:=iQ I l m t;refine wpAny_in_heap (iq g) hi v A ?_;exact⟨.bl (atKey xs k).isSome,H,I.tok _,O,by rw[j.look.2];exact hc.now (.bl _) f⟩
  ·exact back b
 ·exact back b
theorem py(g:X.A.units+64<cLine):e9 X (compareOp .NotIn) (r2 X.K (b2 g9)):=by
 intro ag s σ H x y u w Q I m i h;obtain⟨mu,S,d,e,r,o,l,c,f,b,hc⟩:=mO h;have back:iB d e S=Z (r,o)->cO (model X.prog X.w) X.A (compareOp .NotIn u w) (EP X ag σ Q) X.xe s:=λb=>wG g ag s σ H x y u w Q I m i ⟨mu,S,[d,e],r,o,.cons l (.cons c .nil),f,b,hc⟩;unfold g9 at b;split at b
 ·rename_i n;split at b
  ·rename_i kvs p;obtain⟨k,t,b⟩:=oM1.mp b;cases b;cases c with
   |ref q=>
    cases i;obtain⟨xs,z,j,_⟩:=f.dcT p q;obtain⟨v,A⟩:=qi I z j;obtain⟨a,rfl,rfl,_,_,hi⟩:=iQ I l m t;refine wpAny_notIn_heap (iq g) hi v A ?_;exact⟨.bl (!(atKey xs k).isSome),H,I.tok _,O,by rw[j.look.2];exact hc.now (.bl _) f⟩
  ·exact back b
 ·exact back b
theorem CK{ag:List (cG×Obj)}{σ:L2.St}{H:Hp}{s:cF}{mu:List cG}(I:Inv X ag σ H s){a:cG}{xs:List (TK×cG×cE)}{kvs:List (TK×D)}(e:∃o u,H a=Z (.frz o u)/\AT a xs o)(h:KT X.K H mu kvs xs):(a == sysModules)=J/\s.heap.DictOfH (eU X.prog X.w) a xs:=by
 obtain⟨o,u,e,h1,h2,f,es,ep,d,c⟩:=e;obtain⟨g,_⟩:=(show dZ X.prog X.w H s.heap a (.frz o u)from I.hok a _ e);exact⟨h1,o,es,ep,g,f,d,c,λx b=>⟨sH I _ (h.mem x b).2 O,(h.mem x b).1⟩,h2⟩
theorem qP(F:X.A.units+64<cLine):AR X (r2 X.K (b2 cZ)):=by
 intro value c ag s σ H x y v u Q I A G h q;obtain⟨mu,S,d,e,r,C,E,m,t,f,hc⟩:=mO h;have back:jN d e S=Z (r,C)->cO (model X.prog X.w) X.A (subscriptTail value c v u) (EP X ag σ Q) X.xe s:=λf=>Dm F value c ag s σ H x y v u Q I A G ⟨mu,S,[d,e],r,C,.cons E (.cons m .nil),t,f,hc⟩ q;have g:∀kvs a xs,v = .ref a->KT X.K H mu kvs xs->s.heap.DictOfH (eU X.prog X.w) a xs->((keyT e).bind λk=>(dq kvs k).map λx=>(x,S))=Z (r,C)->cO (model X.prog X.w) X.A (subscriptTail value c v u) (EP X ag σ Q) X.xe s:=λkvs a xs L j am f=>by
  obtain⟨k,P,f⟩:=oB1.mp f;obtain⟨z,ao,f⟩:=oM1.mp f;cases f;subst L;obtain⟨b,rfl,rfl,_,_,hi⟩:=iQ I m G P;obtain⟨p,R,ep,au,N⟩:=j.look.1 _ ao;have K:=am.typeIs;unfold subscriptTail;refine wB1 ?_;rw[getitemInPython_of_ne K.not_modules];refine wB1 (wpAny_specialOf K PySem.F.slot_dict_getitem.lookup ?_);have l:cO (model X.prog X.w) X.A (subscripted c J (.ref a) (.ref b)) (λr i=>cO (model X.prog X.w) X.A (letTemporaryGo value (.ref a) r >>= λ_=>pure r) (EP X ag σ Q) X.xe i) X.xe s:=by
   rw[q];exact wpAny_operating (wpAny_mono (wpAny_getItem_heap (iq F) hi am ep (show EP X ag σ Q p.2 _ from⟨R,H,I.tok _,au,hc.now N t⟩)) (λr i o=>wB1 (wpAny_letTemporaryGo (wP1 o))) λ_ _ x=>x)
  first
   |exact wP1 (wB1 l)
   |exact wB1 l
   |exact l
 unfold cZ at f;split at f
 ·rename_i n;split at f
  ·rename_i kvs w;cases E with
   | @ref _ a B=>
    cases A;obtain⟨xs,D,j,_⟩:=t.dcT w B;exact g kvs a xs O j (qi I D j).2 f
  ·rename_i kvs w;cases E with
   | @ref _ a B=>
    cases A;obtain⟨xs,D,j,_⟩:=(show l9 X.K H mu a (.dcF kvs)from t.ob n _ a w B);exact g kvs a xs O j (CK I D j).2 f
  ·exact back f
 ·exact back f
theorem k7(B:X.A.units+64<cLine):sv X (rU X.K (b3 gg)):=by
 intro ag s σ H o i v au N u Q I E am r h;obtain⟨mu,S,ds,d,P,W,l,a,hc⟩:=id h;cases W with
 |cons G V=>cases V with
  |cons ao wq=>cases wq with
   |cons t U=>
    cases U;rename_i T R L;dsimp only[b3]at a;have back:jo T R L S=Z (d,P)->cO (model X.prog X.w) X.A (setItem au N u) (λ_ s'=>∃H',Inv X ag σ H' s'/\Q H') X.xe s:=λa=>Ba B ag s σ H o i v au N u Q I E am r ⟨mu,S,[T,R,L],d,P,.cons G (.cons ao (.cons t .nil)),l,a,hc⟩;unfold gg at a;split at a
    ·rename_i n;split at a
     ·rename_i kvs A;obtain⟨k,F,a⟩:=oB1.mp a;split at a
      ·rename_i hl;cases a;cases G with
       | @ref _ m g=>
        cases E;obtain⟨xs,x,j,aq⟩:=l.dcT A g;obtain⟨D,K⟩:=qi I x j;obtain⟨b,rfl,rfl,rk,p,hi⟩:=iQ I ao am F;refine wpAny_setItem_heap (hsz:=aq) (iq B) hi K λh' e c=>?_;have f:∃q,h'.get? _=Z q:=let ⟨q,_,_,f,_⟩:=e;⟨q,f⟩
        have put:Ext mu mu H (upd H m (.ext (gy m (storedH xs k b u)))):=Ext.put x trivial (gM1 g);refine⟨_,jt I (by rw[x];exact True.intro) c f (oD D e),hc _ mu put (l.put g x trivial ⟨_,dr,((j.put p rk r t).ext put),?_⟩)⟩;rw[<- (j.put p rk r t).length];have:=j8 kvs k L;lia
      ·cases a
     ·rename_i A;split at a
      ·rename_i k F;cases a;cases G with
       | @ref _ m g=>
        cases E;obtain⟨ws,w,j⟩:=l.dct A g;cases j;obtain⟨z,D,vs,C,K⟩:=xL I.hok w;cases C;obtain⟨b,rfl,rfl,rk,p,hi⟩:=iQ I ao am F;have y:s.heap.DictOfH (eU X.prog X.w) _ []:=xJ K;refine wpAny_setItem_heap (hsz:=bd _) (iq B) hi y λh' e c=>?_;have f:∃q,h'.get? _=Z q:=let ⟨q,_,_,f,_⟩:=e;⟨q,f⟩
        have put:Ext mu mu H (upd H m (.ext (gy m (storedH [] k b u)))):=Ext.put w trivial (gM1 g);exact⟨_,jt I (by rw[w];exact True.intro) c f (oD D e),hc _ mu put (l.put g w trivial ⟨_,dr,KT.ext put (.cons ⟨O,p,rk,v,r,t⟩ .nil),(show 1<=cN by decide)⟩)⟩
      ·exact back a
     ·exact back a
    ·exact back a
end
noncomputable def yv(S:cV)(d:D):Option Bool:=match d with
 | .non=>Z J
 | .bl b=>Z b
 | .int i=>Z (i != 0)
 | .str y=>if y.length<=cN then Z ((y.length:Int) != 0)else Y
 | .ref n=>match S[n]? with
  |some (.dct kvs)=>Z (!kvs.isEmpty)
  |_=>(da S d).map λp=> !p.2.isEmpty
 |_=>(da S d).map λp=> !p.2.isEmpty
noncomputable def Hz (m:FE):FT:=λr S=>(m r S).bind λp=>(yv p.2 p.1).map λb=>(b,p.2)
section
variable{K:Fg1}{H:Hp}{mu:List cG}{S:cV}
end
mutual
noncomputable def pyD:D->Option PyData
 | .non=>Z .none
 | .bl b=>Z (.bool b)
 | .int i=>Z (.int i)
 | .str x=>Z (.str x)
 | .tup xs=>(pyDs xs).map .tuple
 | .rol _=>Y
 | .fn _=>Y
 | .ref _=>Y
noncomputable def pyDs:List D->Option (List PyData)
 |[]=>Z []
 |d::ds=>(pyD d).bind λp=>(pyDs ds).map λps=>p::ps
end
mutual
theorem ln:∀{d:D} {p:PyData},pyD d=Z p->p.hasDict=J
 | .non,p,h=>by simp only[pyD]at h;cases h;rfl
 | .bl b,p,h=>by simp only[pyD]at h;cases h;rfl
 | .int i,p,h=>by simp only[pyD]at h;cases h;rfl
 | .str x,p,h=>by simp only[pyD]at h;cases h;rfl
 | .tup xs,p,h=>by
  simp only[pyD]at h;obtain⟨ps,e,h⟩:=oM1.mp h;cases h;simp only[PyData.hasDict];exact j1 e
 | .rol _,p,h=>by simp only[pyD]at h;cases h
 | .fn _,p,h=>by simp only[pyD]at h;cases h
 | .ref _,p,h=>by simp only[pyD]at h;cases h
theorem j1:∀{ds:List D} {ps:List PyData},pyDs ds=Z ps->PyData.hasDictAll ps=J
 |[],ps,h=>by simp only[pyDs]at h;cases h;rfl
 |d::ds,ps,h=>by
  simp only[pyDs]at h;obtain⟨p,a,h⟩:=oB1.mp h;obtain⟨c,b,h⟩:=oM1.mp h;cases h;simp only[PyData.hasDictAll,ln a,j1 b,Bool.or_self]
end
noncomputable def iL:G1:=λd S=>match d with
 | .tup xs=>(pyDs xs).bind λps=>if(PyData.tuple ps).showable=M/\(PyData.tuple ps).shown.length<=cN/\(PyData.tuple ps).depth<=60 then Z (.str (PyData.tuple ps).shown,S)else Y
 |_=>Y
section
variable{X:Cx}{ag:List (cG×Obj)}{σ:L2.St}{H:Hp}{s:cF}{mu:List cG}
theorem wd(I:Inv X ag σ H s):∀ {d:D} {v:V} {u:cE} {p:PyData},dP X.K H mu d v->de v u->pyD d=some p -> ∃ as,Reads s.heap u p as:=fun r=>r.rec (motive_1:=fun d v _=>∀ u p,de v u->pyD d=some p -> ∃ as,Reads s.heap u p as) (motive_2:=fun ds vs _=>∀ f ps,dy vs f->pyDs ds=some ps -> ∃ as,ReadsAll s.heap f ps as)
  (λ_ _ c h=>by simp only[pyD]at h;cases h;cases c;exact⟨[],.none⟩)
  (λb _ _ c h=>by simp only[pyD]at h;cases h;cases c;exact⟨[],.bool b⟩)
  (λi _ _ c h=>by simp only[pyD]at h;cases h;obtain⟨t,rfl⟩:=c;exact⟨[],.int i t⟩)
  (λx _ _ c h=>by simp only[pyD]at h;cases h;obtain⟨t,rfl⟩:=c;exact⟨[],.str x t⟩)
  (λq _ ih _ _ c h=>by
   simp only[pyD]at h;obtain⟨ps,e,h⟩:=oM1.mp h;cases h;cases c;obtain⟨z,j,⟨o,l,hc,n,m⟩,_⟩:=I.tuple q;obtain⟨as,g⟩:=ih _ _ j e;exact⟨as,.tuple l hc m (by simpa using g)⟩)
  (λ_ _ _ _ _ _ h=>by simp only[pyD]at h;cases h) (λ_ _ _ _ h=>by simp only[pyD]at h;cases h) (λ_ _ _ _ h=>by simp only[pyD]at h;cases h)
  (λ_ _ tv h=>by simp only[pyDs]at h;cases h;cases tv;exact⟨[],.nil⟩)
  (λ_ _ a b _ _ tv h=>by
   simp only[pyDs]at h;obtain⟨p,k,h⟩:=oB1.mp h;obtain⟨A,w,h⟩:=oM1.mp h;cases h;cases tv with
   |cons v tv=>
    obtain⟨a1,y⟩:=a _ _ v k;obtain⟨a2,r2⟩:=b _ _ tv w;exact⟨_,.cons y r2⟩) _ _
end
section
variable{X:Cx}
theorem oM{k:Nat}(hr:eM k X.A):dV X (.builtin "repr") (rN X.K (b1 iL)):=by
 intro ag s σ H xs n Q I r h;obtain⟨x,mu,S,d,p,v,rfl,f,j,a,hc⟩:=yG h;unfold iL at a;split at a
 ·rename_i ds;obtain⟨ps,e,a⟩:=oB1.mp a;split at a
  ·rename_i m;obtain⟨h1,h2,w⟩:=m;cases a;cases r with
   |cons g rt=>
    cases rt;have c:pyD (.tup ds)=Z (.tuple ps):=by simp only[pyD,e,oP1]
    obtain⟨as,i⟩:=wd I f g c;cases f with
    |tup q t=>
     cases g;refine repr_of_reads' i h1 (PyData.noDict_hsm (ln c)) hr.gd (by have:=hr.un;lia) (λb o z=>z) (λh' u tk l=>?_) h2;exact⟨.str _,H,I.kept l,⟨u,O⟩,hc.now (.str _) j⟩
  ·cases a
 ·cases a
noncomputable def lH:List D->Option (List Int)
 |[]=>Z []
 | .int i::ds=>(lH ds).map λis=>i::is
 |_=>Y
noncomputable def ddI(ns:List Int):List Int:=ns.foldl step_dedup []
theorem qk:∀(ns acc:List Int),acc.Nodup->(ns.foldl step_dedup acc).Nodup
 |[],acc,h=>h
 |n::ns,acc,h=>by
  rw[bP];refine qk ns _ ?_;unfold step_dedup;split
  ·exact h
  ·rename_i d;rw[bq];refine⟨h,by simp,λa f b c e=>?_⟩;simp at c;apply d;rw[bI];exact⟨a,f,by simp[e,c]⟩
theorem uF{K:Fg1}{H:Hp}{mu:List cG}:∀{ds:List D} {vs:List V} {a:List cE} {ns:List Int},c5 K H mu ds vs->dy vs a->lH ds=Z ns->IntsAre a ns/\ns.length=ds.length:=by
 intro ds vs a ns g b h
 induction g using c5.ind generalizing a ns with
 |hn=>cases h;cases b;exact⟨.nil,O⟩
 | @hc d v ds vs r t ih=>
  cases d with
  |int i=>
   obtain⟨c,e,h⟩:=oM1.mp h;cases h;cases r;cases b with
   |cons r b=>
    obtain⟨f,j⟩:=ih b e;obtain⟨tk,rfl⟩:=r;exact⟨.cons _ _ f,by rw[lC1,lC1,j]⟩
  |_=>cases h
end
@[elab_as_elim] theorem Hi {P:List cE->Prop}{us:List cE}(l:us.length=0)(f:P []):P us:=by
 cases us with
 |nil=>exact f
 |cons _ _=>cases l
@[elab_as_elim] theorem Gz {P:List cE->Prop}{us:List cE}(l:us.length=1)(f:∀a,P [a]):P us:=by
 cases us with
 |nil=>cases l
 |cons a us=>exact Hi (P:=λus=>P (a::us)) (Nat.succ.inj l) (f a)
@[elab_as_elim] theorem Gy {P:List cE->Prop}{us:List cE}(l:us.length=2)(f:∀a b,P [a,b]):P us:=by
 cases us with
 |nil=>cases l
 |cons a us=>exact Gz (P:=λus=>P (a::us)) (Nat.succ.inj l) (f a)
@[elab_as_elim] theorem Gx {P:List cE->Prop}{us:List cE}(l:us.length=3)(f:∀a b c,P [a,b,c]):P us:=by
 cases us with
 |nil=>cases l
 |cons a us=>exact Gy (P:=λus=>P (a::us)) (Nat.succ.inj l) (f a)
@[elab_as_elim] theorem Hh {P:List cE->Prop}{us:List cE}(l:us.length=4)(f:∀a b c d,P [a,b,c,d]):P us:=by
 cases us with
 |nil=>cases l
 |cons a us=>exact Gx (P:=λus=>P (a::us)) (Nat.succ.inj l) (f a)
end Mi
namespace HT
open PySem PySem.Spec PyProof.Rows
variable{prog:cH}{w:cJ}{A:cI}{E:cE->cF->Prop}{s:cF}
end HT
namespace Mi
open PySem PySem.Spec PyProof.Rows L2
section
variable{X:Cx}
end
end Mi
namespace HT
open PySem PySem.Spec PyProof.Rows
section
variable{prog:cH}{w:cJ}{A:cI}{R:Result->cF->Prop}{I ax L:cG}{xs:Array cE}
end
section
variable{prog:cH}{w:cJ}{A:cI}{E:cE->cF->Prop}{s:cF}
end
end HT
namespace Mi
open PySem PySem.Spec PyProof.Rows L2
section
variable{X:Cx}
end
section
variable{elt tg iter tg2 iter2 tg3 iter3:Expr}{ifs ifs2 ifs3:List Expr}{scope:cS}{pos:Pos}
end
section
variable{X:Cx}
end
noncomputable def uH(a:Int):List Int->List Int
 |[]=>[a]
 |b::l=>if a<=b then a::b::l else b::uH a l
noncomputable def fZ:List Int->List Int
 |[]=>[]
 |a::l=>uH a (fZ l)
theorem jM(a:Int):∀l:List Int,(uH a l).Perm (a::l)
 |[]=>.refl _
 |b::l=>by
  rw[uH];split
  ·exact .refl _
  ·exact((jM a l).cons b).trans (.swap _ _ _)
theorem en:∀l:List Int,(fZ l).Perm l
 |[]=>.refl _
 |a::l=>(jM a _).trans ((en l).cons a)
theorem tz{a:Int}:∀{l:List Int},l.Pairwise (· <= ·)->(uH a l).Pairwise (· <= ·)
 |[],_=>List.pairwise_singleton _ _
 |b::l,h=>by
  rw[bQ]at h;rw[uH];split
  ·rename_i d;rw [bQ,bQ];exact ⟨fun x c=>by
    rcases aE.mp c with z|z
    ·lia
    ·have:=h.1 x z;lia,h.1,h.2⟩
  ·rename_i d;rw[bQ];refine⟨λx c=>?_,tz h.2⟩;rcases aE.mp ((jM a l).mem_iff.mp c)with z|z
   ·lia
   ·exact h.1 x z
theorem i0:∀l:List Int,(fZ l).Pairwise (· <= ·)
 |[]=>.nil
 |a::l=>tz (i0 l)
theorem kI:∀{a b:List Int},a.Perm b->a.Pairwise (· <= ·)->b.Pairwise (· <= ·)->a=b
 |[],b,p,_,_=>(List.nil_perm.mp p).symm
 |x::a,[],p,_,_=>absurd p.length_eq (by simp)
 |x::a,y::b,p,h1,h2=>by
  rw[bQ]at h1 h2;have e:x=y:=by
   have d:=p.mem_iff.mp (mS1 (a:=x) (l:=a));have f:=p.mem_iff.mpr (mS1 (a:=y) (l:=b));rcases aE.mp d with z|z
   ·exact z
   ·rcases aE.mp f with c|c
    ·exact c.symm
    ·have:=h2.1 x z;have:=h1.1 y c;lia
  subst e;rw[kI (List.perm_cons x |>.mp p) h1.2 h2.2]
noncomputable def jk:List D->Option (List Int)
 |[]=>Z []
 | .int i::l=>(jk l).map λt=>i::t
 |_=>Y
noncomputable def jn:G1:=λd S=>match d with
 | .ref n=>match S[n]? with
  |some (.lst xs)=>(jk xs).bind λns=>if ns.length<64 then Z (.ref S.length,S++[.lst ((fZ ns).map D.int)])else Y
  |_=>Y
 |_=>Y
section
variable{X:Cx}
theorem ng{K:Fg1}{H:Hp}{mu:List cG}:∀{ds:List D} {vs:List V} {a:List cE} {ns:List Int},c5 K H mu ds vs->dy vs a->jk ds=Z ns->IntsAre a ns:=by
 intro ds
 induction ds with
 |nil=>intro vs a ns r v h;cases r;cases v;cases h;exact .nil
 |cons d ds ih=>
  intro vs a ns r v h;cases r with
  |cons c t=>
   cases v with
   |cons f b=>
    cases c
    case int i=>
     obtain⟨m,e,h⟩:=oM1.mp h;subst h;obtain⟨tk,rfl⟩:=f;exact .cons i tk (ih t b e)
    all_goals cases h
theorem ni:∀{us:List cE} {ns:List Int},IntsAre us ns->dy (ns.map V.int) us:=by
 intro us ns h
 induction h with
 |nil=>exact .nil
 |cons i t _ ih=>exact .cons ⟨t,O⟩ ih
theorem uG:∀{ds:List D} {ns:List Int},jk ds=Z ns->ns.length=ds.length:=by
 intro ds
 induction ds with
 |nil=>intro ns h;cases h;rfl
 |cons d ds ih=>
  intro ns h;cases d with
  |int i=>
   obtain⟨m,e,h⟩:=oM1.mp h;subst h;rw[lC1,lC1,ih e]
  |_=>cases h
theorem xR:dV X (.builtin "sorted") (rN X.K (b1 jn)):=by
 intro ag s σ H xs L Q I r h;obtain⟨x,mu,S,d,F,am,rfl,D,j,c,hc⟩:=yG h;cases d with
 |ref n=>
  dsimp only[jn]at c;split at c
  ·rename_i ds z;obtain⟨ns,v,c⟩:=oB1.mp c;split at c
   ·rename_i E;cases c;have g:da S (.ref n)=Z (M,ds):=by simp only[da,z]
    obtain⟨a,vs,rfl,q,t⟩:=dn D j g;obtain⟨u,rfl,r2⟩:=gB r;cases r2;obtain⟨f,y,C,K⟩:=I.list q;have B:=ng t y v;have w:f.length=ns.length:=by
     rw[<- y.length,<- t.length,uG v]
    refine sorted_ints C.isList B (by lia) λout i m A l=>?_;have k:i=fZ ns:=kI (A.trans (en ns).symm) l (i0 ns);subst k;obtain⟨ep,p⟩:=sortedAll_at s.heap f out;have e:=I.hok.fresh (aV s.heap.objs.size);refine⟨.ref (s.heap.objs.size+1),_,I.laid (t':=s.toks) (o:=.lst ((fZ ns).map V.int)) (λb G q=>sortedAll_old q) (aV _) ?_,O,hc _ _ (mu++[_]) (Ext.new_ e) (.ref (fC j.len _)) (j.newL (iu _) e)⟩;refine⟨?_,out.toList,ep,ni m,by rw[bR];exact p⟩;rw[lM1,(en ns).length_eq,sizeLine_eq];lia
   ·cases c
  ·cases c
 |_=>cases c
end
end Mi
namespace Mi
open PySem PySem.Spec PyProof.Rows L2
section
variable{X:Cx}
end
theorem jF(n:Nat):∀ns:List Int,D.unds n (ns.map D.int)=M
 |[]=>rfl
 |_::ns=>by rw[mP1,D.unds,jF n ns];rfl
theorem tI{n:Nat}{d:D}{S:cV}(h:S.length=n):gc n (d,S)=(d,S):=by
 unfold gc;split
 ·rw[show(d,S).2=S from rfl,<- h,bN]
 ·rfl
theorem uW{n:Nat}{f:FN}{ds:List D}{S S1:cV}{d:D}(h:f ds []=Z (d,S1))(hn:ds.length=n)(a:D.unds 0 ds=M)(hd:d.und 0=M):cY n f ds S=Z (d,S):=by
 unfold cY nA;rw[ak hn,ak a,h,oP1,ak hd]
theorem ii{n:Nat}{f:FN}{ds:List D}{S S1:cV}{d:D}(h:f ds []=Z (d,S1))(hn:ds.length=n)(a:D.unds 0 ds=M)(hd:d.und 0=J):cY n f ds S=Z (d.sh S.length,S++S1.map (Ob.sh S.length)):=by
 unfold cY nA;rw[ak hn,ak a,h,oP1,aj (by dsimp only;rw[hd];decide)]
theorem nw{n:Nat}{f:FN}{ds:List D}{S S1:cV}{d:D}(h:f ds S=Z (d,S1))(hn:ds.length=n)(a:D.unds 0 ds=J):cY n f ds S=Z (gc S.length (d,S1)):=by
 unfold cY nA;rw[ak hn,aj (by rw[a];decide),h,oP1]
theorem uZ{n:Nat}{f:FN}{ds:List D}{S S1:cV}{d:D}(h:f ds S=Z (d,S1))(hn:ds.length=n)(a:D.unds 0 ds=J)(b:S1.length=S.length):cY n f ds S=Z (d,S1):=by
 rw[nw h hn a,tI b]
theorem mZ{i j:Int}(h1: -(2^64)<i)(h2:i<2^64):dN i j=M:=by
 unfold dN;simp only[bF,bA1,al];exact .inl (.inl ⟨h1,h2⟩)
theorem pE{i j:Int}(h1: -(2^64)<j)(h2:j<2^64):dN i j=M:=by
 unfold dN;simp only[bF,bA1,al];exact .inl (.inr ⟨h1,h2⟩)
theorem eV{S:cV}{n:Nat}{xs:List D}(h:S[n]?=Z (.lst xs)):mT S [(n,xs)]=M:=by
 rw[mT,h];simp[D.sames_refl,mT]
noncomputable def gj(n:Nat):Nat->List D
 |0=>[]
 |k+1=>.ref n::gj (n+1) k
theorem pH:∀{n:Nat} {lo:Int} {d:D},d∈fK lo n -> ∃k:Int,d = .int k/\lo<=k/\k<lo+n
 |0,lo,d,h=>by simp[fK]at h
 |n+1,lo,d,h=>by
  rw[fK]at h;rcases aE.mp h with h|h
  ·exact⟨lo,h,Int.le_refl _,by lia⟩
  ·obtain⟨k,e,h1,h2⟩:=pH h;exact⟨k,e,by lia,by lia⟩
open Classical in
noncomputable def Hd(ws:List cE)(x:cE):Nat:=ws.findIdx λy=>decide (y=x)
section
variable{prog:cH}{w:cJ}{A:cI}{E:cE->cF->Prop}{s:cF}{κ:SortKind}{ws:List cE}{a₀:Array Keyed}
end
section
variable{prog:cH}{w:cJ}{A:cI}{E:cE->cF->Prop}{s:cF}
end
section
variable{prog:cH}{w:cJ}{A:cI}{E:cE->cF->Prop}{R:Result->cF->Prop}
end
section
variable{prog:cH}{w:cJ}{A:cI}{E:cE->cF->Prop}{s:cF}
end
mutual
theorem vD{n:Nat}:∀k:TK,(tkD k).und n=M
 | .non=>rfl
 | .int _=>rfl
 | .tup xs=>by rw[tkD,D.und];exact sF xs
theorem sF{n:Nat}:∀ks:List TK,D.unds n (iZ ks)=M
 |[]=>rfl
 |k::ks=>by rw[iZ,D.unds,vD k,sF ks];rfl
end
structure Pr where
 k:TK
 d:D
 ka:cG
 u:cE
 vv:V
 a:cG
def Pr.Ok(K:Fg1)(H:Hp)(mu:List cG)(h:cP)(lo:Nat)(y:Pr):Prop:=lo<=y.a/\dP K H mu (tkD y.k) (.ref y.ka)/\de y.vv y.u/\dP K H mu y.d y.vv/\h.get? y.a=Z {cls:=.type "tuple",data:=.seq #[.ref y.ka,y.u]}
section
variable{X:Cx}
end
def Dg(H:Hp)(a:cG):Prop:=(∃kvs,H a=Z (.dK kvs)) \/ ∃xs,H a=Z (.ext (gy a xs))
section
variable{X:Cx}
theorem zP{ag:List (cG×Obj)}{σ:L2.St}{H:Hp}{s:cF}{a:cG}(I:Inv X ag σ H s)(h:Dg H a):(a == sysModules)=J /\ ∃o,s.heap.get? a=Z o/\o.ExactDict:=by
 rcases h with⟨kvs,e⟩|⟨xs,e⟩
 ·obtain⟨_,b,vs,_,o,es,ep,h1,h2,_⟩:=I.hok a _ e;exact⟨b,o,h1,h2⟩
 ·obtain⟨⟨b,_,o,es,ep,h1,h2,_⟩,_⟩:=(show dZ X.prog X.w H s.heap a (.ext (gy a xs))from I.hok a _ e);exact⟨b,o,h1,h2⟩
end
section
variable{prog:cH}{w:cJ}{A:cI}{E:cE->cF->Prop}{s:cF}
end
section
variable{prog:cH}{w:cJ}{A:cI}{E:cE->cF->Prop}{R:Result->cF->Prop}
end
section
variable{X:Cx}
noncomputable def Fz(X:Cx)(td ty tx:TE):TE:=fun σ H Q=>td σ H λx H1=>∃a,x = .ref a/\Dg H1 a/\ty σ H1 λy H2=>tx σ H2 λz H3=>
 ∀ag s u r,Inv X ag σ H3 s->de y u->de z r->cO (model X.prog X.w) X.A (call (.builtin "dict.get") [.ref a,u,r]) (EP X ag σ Q) X.xe s
theorem BF {o e f:Expr}{apos cpos:Pos}{td ty tx:TE}(ho:PE X o td)(he:PE X e ty)(hf:PE X f tx)(m:M2 X o "get" apos e f cpos):PE X (.Call (.Attribute o "get" apos) [e,f] [] cpos) (Fz X td ty tx):=by
 intro ag s σ H Q I h;refine wpAny_Call_method m.base m.few m.line PySem.F.plainAttrs_dict PySem.F.slot_dict_get PySem.F.type_dict_get (ee (ho ag s σ H _ I h) λu q ⟨x,H1,j,B,a,ex,d,r⟩=>?_);subst ex;obtain rfl:u=Value.ref a:=B;obtain⟨_,o',i,c⟩:=zP j d;refine⟨⟨o',i,c.1⟩,λb v=>by cases v;exact⟨o',i,c.2.1⟩,?_⟩;rw[m.trees];refine Calls.callWith_builtin O (Calls.evalArgs_plain (Calls.spliced_cons (ee (he ag q σ H1 _ j r) λk D ⟨y,H2,C,t,A⟩=>
  Calls.spliced_cons (ee (hf ag D σ H2 _ C A) λp w ⟨z,E,l,n,g⟩=>Calls.spliced_nil ?_))))
 exact g ag w k p l t n
noncomputable def uR(S:cV)(n:Nat):Option (List (TK×D)):=match S[n]? with
 |some (.dcT kvs)=>Z kvs
 |some (.dct [])=>Z []
 |_=>Y
theorem tP{H:Hp}{mu:List cG}{S:cV}{n:Nat}{a:cG}{kvs:List (TK×D)}(hs:Sim X.K H mu S)(hn:mu[n]? = some a)(h:uR S n=some kvs):
  Dg H a /\ ∃xs,KT X.K H mu kvs xs /\ ∀ag σ s,Inv X ag σ H s->(a == sysModules)=J/\s.heap.DictOfH (eU X.prog X.w) a xs:=by
 unfold uR at h;split at h
 ·rename_i ks b;cases h;obtain⟨xs,h1,h2,l⟩:=hs.dcT b hn;exact⟨.inr ⟨xs,h1⟩,xs,h2,λag σ s I=>qi I h1 h2⟩
 ·rename_i b;cases h;obtain⟨ws,h1,h2⟩:=hs.dct b hn;cases h2;refine⟨.inl ⟨[],h1⟩,[],.nil,λag σ s I=>?_⟩;obtain⟨_,c,vs,j,o,es,ep,i,f,g,e⟩:=I.hok a _ h1;cases j;have d:es.toList=[]:=bS.mp (by have:=e.2.1.length;simpa using this);exact⟨c,o,es,ep,i,f,g,d,λx k=>(by cases k),bi⟩
 ·cases h
noncomputable def rQ(m a b:FE):FE:=λr S=>(m r S).bind λp=>match p.1 with
 | .ref n=>(uR p.2 n).bind λ_=>(a r p.2).bind λq=>(b r q.2).bind λt=>(uR t.2 n).bind λkvs=>(keyT q.1).map λk=>((dq kvs k).getD t.1,t.2)
 |_=>Y
theorem ub {o e f:Expr}{apos cpos:Pos}{m a b:FE}(L:X.A.units+64<cLine)(ho:XE X o m)(he:XE X e a)(hf:XE X f b)(hm:M2 X o "get" apos e f cpos:=by exact⟨O,O,O,O⟩):XE X (.Call (.Attribute o "get" apos) [e,f] [] cpos) (rQ m a b):=
 ⟨dX (BF ho.h he.h hf.h hm) <| by
  rintro σ H Q ⟨r,mu,S,d,S',he,hs,hm,hc⟩;obtain⟨⟨d1,C⟩,N,hm⟩:=oB1.mp hm;refine⟨r,mu,S,d1,C,he,hs,N,λv1 H1 mu1 l r1 G=>?_⟩;dsimp only at hm;split at hm
  ·rename_i n;obtain⟨P,y,hm⟩:=oB1.mp hm;cases r1 with
   | @ref _ K D=>
    refine⟨K,O,(tP G D y).1,?_⟩;obtain⟨⟨d2,am⟩,V,hm⟩:=oB1.mp hm;obtain⟨⟨d3,wq⟩,e3,hm⟩:=oB1.mp hm;refine⟨r,mu1,C,d2,am,he.ext l,G,V,λv2 H2 q h r2 s2=>?_⟩;refine⟨r,q,am,d3,wq,(he.ext l).ext h,s2,e3,λv3 j g i U x=>?_⟩;obtain⟨kvs,ao,hm⟩:=oB1.mp hm;obtain⟨k,ek,hm⟩:=oM1.mp hm;cases hm;intro ag s u w I aq B;obtain⟨_,xs,E,au⟩:=tP x (i.at (h.at D)) ao;obtain⟨t,F⟩:=au ag σ s I;obtain⟨b,rfl,rfl,_,_,hi⟩:=iQ I (r2.ext i) aq ek;refine call_meetsIn PySem.F.slot_dict_get F.typeIs PySem.F.entry_dict_get (PySem.F.args_dict_get_3 _ _ _) (meetsH_dict_get_default (eU X.prog X.w) K b t w) ⟨iq L,k,xs,hi,F,?_⟩;show EP X ag σ Q (((atKey xs k).map (·.2)).getD w) _;cases ez:dq kvs k with
    |none=>
     have c:=(E.look (k:=k)).2;rw[ez]at c hc;have A:atKey xs k=Y:=by
      cases A:atKey xs k with
      |none=>rfl
      |some _=>rw[A]at c;cases c
     rw[A];exact⟨v3,j,I.tok _,B,hc _ j g ((l.trans h).trans i) U x⟩
    |some z=>
     obtain⟨p,v,R,W,T⟩:=E.look.1 z ez;rw[ez]at hc;rw[R];exact⟨v,j,I.tok _,W,hc _ j g ((l.trans h).trans i) T x⟩
  ·cases hm⟩
end
section
variable{X:Cx}{ag:List (cG×Obj)}{σ:L2.St}{H:Hp}{s:cF}{a:cG}{u v:HO}
end
section
variable{K:Fg1}{H H':Hp}{mu mu':List cG}{S:cV}{n:Nat}{a:cG}{o:Obj}{u:HO}
end
theorem ss.lt{xs:Array Nat}(h:ss xs){a b u v:Nat}(e:a<b)(d:xs[a]?=Z u)(c:xs[b]?=Z v):u<v:=by
 rw[<- aT1]at d c;obtain⟨f,d⟩:=gE1.mp d;obtain⟨g,c⟩:=gE1.mp c;have:=List.pairwise_iff_getElem.mp h a b f g e;rw[d,c]at this;exact this
structure Bs (xs:Array Nat)(j i:Nat):Prop where
 le:i<=xs.size
 lo:∀k v,xs[k]?=some v->k<i->v<j
 hi:∀k v,xs[k]?=some v->i<=k->j<=v
theorem Bs.uniq{xs:Array Nat}{j i i':Nat}(h:Bs xs j i)(h':Bs xs j i'):i=i':=by
 rcases Nat.lt_trichotomy i i' with z|z|z
 ·have a:i<xs.size:=nL1 z h'.le;have e:=aG1 a;have:=h.hi _ _ e (nR1 _);have:=h'.lo _ _ e z;lia
 ·exact z
 ·have a:i'<xs.size:=nL1 z h.le;have e:=aG1 a;have:=h'.hi _ _ e (nR1 _);have:=h.lo _ _ e z;lia
theorem xT{xs:Array Nat}{j:Nat}(hr:ss xs):∀n lo hi:Nat,lo<=hi->hi<=xs.size->hi-lo<=n->(∀k v,xs[k]?=Z v->k<lo->v<j)->(∀k v,xs[k]?=Z v->hi<=k->j<=v)->Bs xs j (SetTable.below.go xs j n lo hi)
 |0,lo,hi,h1,h2,i,c,b=>by
  have:lo=hi:=by lia
  subst this;exact⟨h2,c,b⟩
 |n + 1,lo,hi,h1,h2,i,c,b=>by
  rw[SetTable.below.go];by_cases f:lo<hi
  ·rw[ak f];have d:(lo+hi)/2<xs.size:=by lia
   have a:=aG1 d;have g:xs.getD ((lo+hi)/2) j=xs[(lo+hi)/2]:=by simp[Array.getD,d]
   dsimp only;rw[g];by_cases hc:xs[(lo+hi)/2]<j
   ·rw[ak hc];refine xT hr n _ _ (by lia) h2 (by lia) (λk v e h=>?_) b;rcases bL k ((lo+hi)/2)with z|z
    ·have:=hr.lt z e a;lia
    ·have:k=(lo+hi)/2:=by lia
     subst this;rw[a]at e;cases e;exact hc
   ·rw[aj hc];refine xT hr n _ _ (by lia) (by lia) (by lia) c λk v e h=>?_;rcases bL ((lo+hi)/2) k with z|z
    ·have:=hr.lt z a e;lia
    ·have:k=(lo+hi)/2:=by lia
     subst this;rw[a]at e;cases e;lia
  ·rw[aj f];have:lo=hi:=by lia
   subst this;exact⟨h2,c,b⟩
theorem lX{xs:Array Nat}(hr:ss xs)(j:Nat):Bs xs j (SetTable.below xs j):=
 xT hr _ 0 _ (bd _) (nR1 _) (by lia) (λ_ _ _ h=>absurd h (bp _)) λk v e h=>by
  have:=(Array.getElem?_eq_some_iff.mp e).1;lia
theorem xg{α:Type}(xs:Array α)(p:Nat)(x:α):(SetTable.insertAt xs p x).toList=xs.toList.take p++x::xs.toList.drop p:=by
 unfold SetTable.insertAt;rw[Array.toList_append,bT,Array.toList_extract,Array.toList_extract];simp[List.extract_eq_drop_take];rw[bU (by simp)]
theorem yH{xs:Array Nat}(hr:ss xs){j:Nat}(hn:xs[SetTable.below xs j]? ≠ Z j):ss (SetTable.insertAt xs (SetTable.below xs j) j):=by
 have b:=lX hr j;unfold ss;rw[xg,List.pairwise_append,bQ];have lo:∀v∈xs.toList.take (SetTable.below xs j),v<j:=λv g=>by
  obtain⟨k,d⟩:=bj g;rw[List.getElem?_take]at d;split at d
  ·rename_i h;exact b.lo k v (by rw[<- aT1];exact d) h
  ·cases d
 have hi:∀v∈xs.toList.drop (SetTable.below xs j),j<v:=λv g=>by
  obtain⟨k,d⟩:=bj g;rw[List.getElem?_drop,aT1]at d;have h1:=b.hi _ v d (bm _ _);rcases bL j v with z|z
  ·exact z
  ·exfalso;have f:v=j:=by lia
   subst f;cases k with
   |zero=>exact hn d
   |succ k=>
    have l:SetTable.below xs v<xs.size:=by have:=(Array.getElem?_eq_some_iff.mp d).1;lia
    have e:=aG1 l;have:=b.hi _ _ e (nR1 _);have:=hr.lt (by lia) e d;lia
 refine⟨hr.sublist (aS _ _),⟨hi,hr.sublist (List.drop_sublist _ _)⟩,λa i c hc=>?_⟩;rcases aE.mp hc with z|z
 ·rw[z];exact lo a i
 ·exact bc (lo a i) (hi c z)
structure TS (l:Bool)(t:SetTable):Prop where
 up:ss t.place
 du:t.dummies = #[]
 ld:t.led=l
theorem pC{t:SetTable}(hd:t.dummies = #[])(j:Nat):SetTable.has t.dummies j=J:=by rw[hd];rfl
theorem mG{t:SetTable}(hd:t.dummies = #[]){f:Nat->Int}{h:Int}:∀(n:Nat) (p:SetTable.Probe) (j:Nat) (d:Option Nat),p.dummy=Y->SetTable.probe.go t f h n p=Z (.empty j d)->d=Y/\t.place[SetTable.below t.place j]? ≠ Z j
 |0,p,j,d,_,e=>by rw[SetTable.probe.go]at e;cases e
 |n+1,p,j,d,hp,e=>by
  have a:(t.advance p).dummy=Y:=by
   unfold SetTable.advance;split
   ·exact hp
   ·dsimp only;exact hp
  rw[SetTable.probe.go]at e;unfold SetTable.slot at e;dsimp only at e;rw[pC hd]at e;by_cases hc:(t.place[SetTable.below t.place p.j]? == Z p.j)=M
  ·rw[ak hc]at e;dsimp only at e;split at e
   ·cases e
   ·exact mG hd n _ j d a e
  ·rw[aj hc,aj (by decide)]at e;dsimp only at e;cases e;refine⟨hp,λz=>hc ?_⟩;rw[z];simp
theorem z5{t:SetTable}(hd:t.dummies = #[]){h:Int}{j:Nat}{b:Bool}(e:t.freeSlot h=Z (j,b)):t.place[SetTable.below t.place j]? ≠ Z j:=by
 unfold SetTable.freeSlot at e;split at e
 ·rename_i c d ep;obtain⟨rfl,a⟩:=mG hd _ _ _ _ O ep;cases e;exact a
 ·cases e
theorem iY{l:Bool}{t:SetTable}(h:TS l t)(n:Nat):TS l (t.standIn n):=by
 refine⟨?_,O,h.ld⟩;show(Array.range n).toList.Pairwise (· < ·);rw[Array.toList_range];exact bV
theorem Dt{l:Bool}{t:SetTable}(h:TS l t)(n:Nat):TS l (t.orStandIn n):=by
 unfold SetTable.orStandIn;split
 ·exact h
 ·exact iY h n
theorem A5{l:Bool}{t:SetTable}(ht:TS l t)(es:Array (Int×cE))(h:Int)(x:cE):TS l (layNew t es h x).2.1:=by
 unfold layNew;split
 ·rename_i j b e;show TS l ((t.put j).1.orStandIn _);refine Dt (t:=(t.put j).1) ⟨?_,?_,ht.ld⟩ _
  ·exact yH ht.up (z5 ht.du e)
  ·show(if SetTable.has t.dummies j=M then _ else t.dummies) = #[];rw[pC ht.du,aj (by decide)];exact ht.du
 ·exact iY ht _
theorem oB{α:Type}(f:Nat->Option α):∀l:List Nat,((l.filterMap λj=>(f j).map (j,·)).map (·.1)).Sublist l
 |[]=>.slnil
 |a::l=>by
  rw[aD];cases f a with
  |none=>exact(oB f l).cons a
  |some x=>exact(oB f l).cons₂ a
theorem yu{l p:Bool}{m c d:Nat}{hs:Array Int}{t:SetTable}{a:Array Nat}(e:SetTable.laid m c d l p hs=Z (t,a)):TS l t:=by
 unfold SetTable.laid at e;obtain⟨b,_,e⟩:=oB1.mp e;cases e;refine⟨?_,O,O⟩;unfold ss;dsimp only;exact List.pairwise_lt_range.sublist (by simpa using oB (λj=>b.getD j Y) (af (m+1)))
theorem vG{l:Bool}{t:SetTable}(ht:TS l t)(es:Array (Int×cE))(n:Nat):TS l (relayAll t es n).2.1:=by
 unfold relayAll;split
 ·rename_i b a e;dsimp only;split
  ·have:=yu e;rw[ht.ld]at this;exact this
  ·exact iY ht _
 ·exact iY ht _
theorem vH(l:Bool):TS l (SetTable.fresh 0 0 l):=⟨List.Pairwise.nil,O,O⟩
theorem Ak{xs:Array Nat}(hr:ss xs){i:Nat}(hi:i<xs.size):SetTable.below xs (xs[i]+1)=i+1:=by
 refine(lX hr _).uniq ⟨hi,λk v e a=>?_,λk v e a=>?_⟩
 ·rcases bL k i with z|z
  ·have:=hr.lt z e (aG1 hi);lia
  ·have:k=i:=by lia
   subst this;rw[aG1 hi]at e;cases e;lia
 ·have:=hr.lt (show i<k by lia) (aG1 hi) e;lia
theorem xS{xs:Array Nat}(hr:ss xs):SetTable.below xs 0=0:=
 (lX hr _).uniq ⟨bd _,λk v e a=>absurd a (bp _),λk v e a=>bd _⟩
noncomputable def FX(e:Int×cE):Int:=match e.2 with
 | .int k _=>k
 |_=>0
structure Els (es:Array (Int×cE))(ns:List Int):Prop where
 el:∀e∈es.toList,∃k t,e=(hashInt k,Value.int k t)
 pm:(es.toList.map FX).Perm ns
theorem Els.of{P:cH}{w:cJ}{es:Array (Int×cE)}{ns:List Int}(h:Els es ns):ElemsOf (intKind P w) es.toList:=λe a=>by
 obtain⟨k,t,rfl⟩:=h.el e a;exact⟨⟨k,intKind_is _ _ _ _,O⟩,O⟩
theorem Els.size{es:Array (Int×cE)}{ns:List Int}(h:Els es ns):es.size=ns.length:=by
 have:=h.pm.length_eq;rw[lM1,aI]at this;exact this
theorem Els.perm{es fs:Array (Int×cE)}{ns:List Int}(h:Els es ns)(p:fs.toList.Perm es.toList):Els fs ns:=
 ⟨λe a=>h.el e (p.mem_iff.mp a),(p.map _).trans h.pm⟩
theorem Els.add{es fs:Array (Int×cE)}{ns:List Int}(h:Els es ns){k:Int}{t:Tok}(p:fs.toList.Perm (es.push (hashInt k,.int k t)).toList):Els fs (ns++[k]):=by
 rw[bT]at p;refine⟨λe a=>?_,?_⟩
 ·rcases aF.mp (p.mem_iff.mp a)with z|z
  ·exact h.el e z
  ·simp at z;exact⟨k,t,z⟩
 ·refine(p.map _).trans ?_;rw[bW];exact h.pm.append (.refl _)
def il(b:Bool)(p:cG)(ns:List Int)(h:cP):Prop:=∃es ep t l,h.get? p=Z (stO es ep t)/\Els es ns/\es.size<scanBound/\t.fits es.size=M/\TS l t/\(b=J->l=M)
section
variable{P:cH}{w:cJ}{A:cI}{E:cE->cF->Prop}{s:cF}{b:Bool}{p:cG}{ns:List Int}
theorem wg{es fs:Array (Int×cE)}{ep:Nat}{t u:SetTable}{h:cP}(e:h.get? p=Z (stO es ep t)):(h.update p (Obj.putSet fs u)).get? p=Z (stO fs (ep+1) u):=by
 have:=hW1 (Obj.putSet fs u) e (by rw[putSet_of fs u O];rfl);rw[putSet_of fs u O]at this;exact this
theorem gw{c:Bool}{Q:Unit->cF->Prop}(q:Q () s):cO (model P w) A (match c with
  |true=>rule "set.scan.the-table-gave-way"
  |false=>pure ()) Q E s:=by cases c<;>first|exact wP1 q|exact wpAny_rule q
theorem Ga{k:Int}{tk:Tok}{Q:Bool->cF->Prop}(W:il b p ns s.heap)(hr:ns.length+1<scanBound)(q:∀c h',Heap.SameBut p s.heap h'->il b p (step_dedup ns k) h'->Q c {s with heap:=h'}):cO (model P w) A (setAddHashed p (.int k tk) (hashInt k)) Q E s:=by
 obtain⟨es,ep,t,l,h,a,S,G,ao,D⟩:=W;have hz:=a.size;have el:ElemsOf (intKind P w) es.toList:=a.of;unfold setAddHashed setAddHashedIn;refine wpAny_holding (wB1 (wpAny_setState_of h O G ?_));dsimp only;rw[byScan_of (knd:=intKind P w) O S el,ak O];unfold setAddByScan;refine wB1 (wB1 (wpAny_rule (wB1 (wpAny_setScan_of (knd:=intKind P w) (k:=k) (intKind_is _ _ _ _) h O G el ?_))));cases hx:List.findIdx? (λe=>(intKind P w).is k e.2) es.toList with
 |some j=>
  obtain⟨T,g,_⟩:=List.findIdx?_eq_some_iff_getElem.mp hx;have H:k∈ns:=by
   refine a.pm.mem_iff.mp (bX.mpr ⟨_,bJ T,?_⟩);obtain⟨k',aq,e⟩:=a.el _ (bJ T);rw[e]at g ⊢;exact((intKind P w).inj _ _ _ g (intKind_is P w k' aq)).symm
  have B:step_dedup ns k=ns:=by unfold step_dedup;rw[ak (bI.mpr ⟨k,H,by simp⟩)]
  rw[B]at q;exact wP1 (wP1 (q _ s.heap (Heap.SameBut.refl p s.heap) ⟨es,ep,t,l,h,a,S,G,ao,D⟩))
 |none=>
  have B:step_dedup ns k=ns++[k]:=by
   unfold step_dedup;rw[aj λz=>?_];obtain⟨k',H,e⟩:=bI.mp z;have e:=beq_iff_eq.mp e;subst e;obtain⟨x,i,d⟩:=bX.mp (a.pm.mem_iff.mpr H);obtain⟨o,m,rfl⟩:=a.el x i;have d:o=k':=d;subst d;have:=List.findIdx?_eq_none_iff.mp hx _ i;rw[show(intKind P w).is o (hashInt o,Value.int o m).2=M from intKind_is _ _ _ _]at this;cases this
  rw[B]at q;have F:=layNew_perm t es (hashInt k) (.int k tk);have I:=layNew_fits t es (hashInt k) (.int k tk);have y:=A5 ao es (hashInt k) (.int k tk);dsimp only;generalize layNew t es (hashInt k) (.int k tk)=L at F I y ⊢;obtain⟨fs,u,X,wq⟩:=L;dsimp only at F I y ⊢;have n:Els fs (ns++[k]):=a.add F;have am:fs.size<scanBound:=by rw[n.size,lA1];exact hr
  refine wB1 (gw ?_);have tail:∀ (c:Bool),cO (model P w) A (do
    storeSet p fs u
    if (!X&&u.tooFull)=true then do
      (match (relayAll u fs (SetTable.grown fs.size)).2.2 with
       |true=>rule "set.scan.the-table-gave-way"
       |false=>pure ())
      storeSet p (relayAll u fs (SetTable.grown fs.size)).1 (relayAll u fs (SetTable.grown fs.size)).2.1
      pure (Z M)
     else pure (Z M)) (λr s'=>cO (model P w) A (match r with
      |some f=>pure f
      |none=>setAddHashedIn p (.int k tk) (hashInt k) 99999) Q E s') E s:=λ_=>by
   refine wB1 (wpAny_storeSet_of h O ?_ (fits_of_scanBound am));have K:=wg (fs:=fs) (u:=u) h;have au:=Heap.SameBut.update s.heap p (Obj.putSet fs u);split
   ·have p2:=relayAll_perm u fs (SetTable.grown fs.size);have C:=relayAll_fits u fs (SetTable.grown fs.size);have m:=vG y fs (SetTable.grown fs.size);generalize relayAll u fs (SetTable.grown fs.size)=L2 at p2 C m ⊢;obtain⟨U,v,V⟩:=L2;dsimp only at p2 C m ⊢;have R:=n.perm p2;have N:U.size<scanBound:=by rw[R.size,<- n.size];exact am
    refine wB1 (gw (wB1 (wpAny_storeSet_of K O ?_ (fits_of_scanBound N))));exact wP1 (wP1 (q _ _ (au.trans (Heap.SameBut.update _ p _)) ⟨U,_,v,l,wg K,R,N,C,m,D⟩))
   ·exact wP1 (wP1 (q _ _ au ⟨fs,_,u,l,K,n,am,I,y,D⟩))
  split
  ·refine wB1 (wP1 ?_);exact tail M
  ·refine wB1 (wP1 ?_);exact tail M
end
section
variable{P:cH}{w:cJ}{A:cI}{E:cE->cF->Prop}{s:cF}
noncomputable def byT(w:cJ):Bool:=w.params.followText "set-order"
theorem zl(x:cE){G:cE->cF->Prop}(q:G (.ref s.heap.objs.size) {s with heap:=s.heap.push (stO #[] 0 (.fresh 0 0 (!byT w)))}):
  codeAny (model P w) A (.call (.builtin "set.__new__") ⟨[.type "set",x],[]⟩) (wants G E) s:=by
 refine codeAny_of_tree (?_:cO _ A.in1 (do checkBuiltinCall "set.__new__" ⟨[.type "set",x],[]⟩;again (.builtin "set.__new__" ⟨[.type "set",x],[]⟩)) _ _ s);refine wB1 (wpAny_of_eq (PySem.F.newCall_set_1 x) (wP1 ⟨plainId_quiet PySem.F.plain_set_new _,wD1 PySem.F.entry_set_new (?_:_)⟩));rw[Around.under_plainId PySem.F.plain_set_new _];unfold Builtin.«set.__new__» Builtin.Frozenset.newClass;have a:=sub_set_self;obtain⟨b,g,d,tk,c⟩:=s;dsimp only
 wp_walk
 refine wpAny_askSetting (wP1 (?_:_));dsimp only;simp only[newObj];exact wB1 (wpAny_alloc (wP1 (wP1 q)))
set_option maxHeartbeats 3200000 in
theorem sd {l:cG}{its:Array cE}{Q:cE->cF->Prop}(y:s.heap.IsList l its)
  (d:∀h:cI,h.handled=A.handled->h.units<=A.units+2 -> ∀R:Result->cF->Prop,(∀s',Q (.ref s.heap.objs.size) s'->R (.ok (.ret .none)) s') ->
   codeAny (model P w) h (.builtin "set.update.loop" ⟨[.ref s.heap.objs.size,.ref (s.heap.objs.size+1)],[]⟩) R {s with heap:=(s.heap.push (stO #[] 0 (.fresh 0 0 (!byT w)))).push {cls:=.type "list_iterator",data:=.fields #[.ref l,.int 0 0]}}):
  cO (model P w) A (call (.type "set") [.ref l]) Q E s:=by
 obtain⟨L,W,m⟩:=PySem.F.called_set.mro;have g:=PySem.F.called_set.made;have n:=PySem.F.called_set.sub
 refine wpAny_call (codeAny_of_tree (?_:cO _ _ (callAny (.type "set") _) _ _ _));refine wP1 ⟨Code.quiet_builtin _ (by decide+kernel),wD1 PySem.F.entry_type_call (?_:_)⟩;rw[Around.under_plain (weight_type_call_type "set" [.ref l] []) O];have ao:=PySem.F.called_set.notType;have U:=PySem.F.called_set.canCreate;have V:=PySem.F.typeCall_set_1 (.ref l)
 repeat(any_goals (first|wp_step|assumption))
 refine codeAny_mono (zl (.ref l) (E:=E) (G:=λx t=>x = .ref s.heap.objs.size/\t={s with heap:=s.heap.push (stO #[] 0 (.fresh 0 0 (!byT w)))}) ⟨O,O⟩) λr t i=>?_;cases r with
 |error e=>exact i
 |ok z=>
  cases z with
  |ret x=>
   obtain⟨rfl,rfl⟩:=i;have o:(s.heap.push (stO #[] 0 (.fresh 0 0 (!byT w)))).get? s.heap.objs.size=Z (stO #[] 0 (.fresh 0 0 (!byT w))):=hS1 _ O;have D:Shared.TypeIs {s with heap:=s.heap.push (stO #[] 0 (.fresh 0 0 (!byT w)))} (.ref s.heap.objs.size) "set":=⟨_,o,O⟩;have T:=PySem.F.called_set.init.lookup;have au:=PySem.F.called_set.init.bind (.ref s.heap.objs.size)
   repeat(any_goals (first|wp_step|assumption))
   refine codeAny_mono (codeAny_call_builtin (R:=wants (λr p=>r = .none/\Q (.ref s.heap.objs.size) p) E) PySem.F.called_set.init.plain PySem.F.entry_set_init (check_set_init_1 D (?_:_))) λr2 p a=>?_
   ·obtain⟨u,f,c,k,b⟩:=y;obtain⟨am,F,X,I⟩:=u;simp only at c b;subst c;subst b;have C:(s.heap.push (stO #[] 0 (.fresh 0 0 (!byT w)))).get? l=Z {cls:=.type "list",dict:=F,data:=.seq its k,slots:=I}:=hP1 _ f;have N:=PySem.F.sub_list_set;have K:=PySem.F.sub_list_frozenset;have S:(Value.type "list" == Value.type "dict")=J:=by decide
    have B:(s.heap.push (stO #[] 0 (.fresh 0 0 (!byT w)))).IsList l its:=⟨_,C,O,k,O⟩;have H:(s.heap.push (stO #[] 0 (.fresh 0 0 (!byT w)))).get? s.heap.objs.size=Z {cls:=.type "set",dict:=Y,data:=.set #[] 0 (.fresh 0 0 (!byT w)),slots:= #[]}:=o;unfold Builtin.«set.__init__» noKeywords Builtin.Frozenset.updateFrom;generalize j:pyIter=PI
    wp_walk
    subst j;refine wpAny_pyIter_list B (wB1 (wpAny_runValue (?_:_)));dsimp only;rw[show(s.heap.push (stO #[] 0 (.fresh 0 0 (!byT w)))).objs.size=s.heap.objs.size+1 from by rw[hZ1]];refine d A.in1.in1 (by simp) (nR1 _) _ λs' q=>?_;exact wP1 (wP1 ⟨O,q⟩)
   ·cases r2 with
    |error e=>exact a
    |ok v=>
     cases v with
     |ret r=>
      obtain⟨rfl,q⟩:=a
      repeat(any_goals (first|wp_step|assumption))
     |_=>exact a.elim
  |_=>exact i.elim
theorem uX {l:cG}{its:Array cE}{Q:cE->cF->Prop}(c:s.heap.IsList l its)
  (b:∀a:cI,a.handled=A.handled -> ∀R:Result->cF->Prop,(∀s',Q (.ref s.heap.objs.size) s'->R (.ok (.ret .none)) s') ->
   codeAny (model P w) a (.builtin "set.update.loop" ⟨[.ref s.heap.objs.size,.ref (s.heap.objs.size+1)],[]⟩) R {s with heap:=(s.heap.push (stO #[] 0 (.fresh 0 0 (!byT w)))).push {cls:=.type "list_iterator",data:=.fields #[.ref l,.int 0 0]}}):
  cO (model P w) A (call (.type "set") [.ref l]) Q E s:=sd c λa h _=>b a h
end
section
variable{P:cH}{w:cJ}{A:cI}{E:cE->cF->Prop}{b:Bool}
theorem il.old{p:cG}{ns:List Int}{h h':cP}(x:il b p ns h)(k:∀o,h.get? p=Z o->h'.get? p=Z o):il b p ns h':=by
 obtain⟨es,ep,t,l,e,r⟩:=x;exact⟨es,ep,t,l,k _ e,r⟩
theorem lM:∀(ns acc:List Int),(ns.foldl step_dedup acc).length<=acc.length+ns.length
 |[],acc=>by simp
 |n::ns,acc=>by
  rw[bP];have h1:=lM ns (step_dedup acc n);have h2:(step_dedup acc n).length<=acc.length+1:=by unfold step_dedup;split<;>simp
  rw[lC1];lia
theorem v6{p l it:cG}{its:Array cE}{ns:List Int}{R:Result->cF->Prop}(ao:A.handled=none)(C:IntsAre its.toList ns)(hb:ns.length+1<scanBound)(G:p≠l)(n:p≠it)(K:it≠l):
  ∀(k i:Nat) (s:cF),its.size-i=k->i<=its.size->s.heap.IsListIter it l i->s.heap.IsList l its->il b p ((ns.take i).foldl step_dedup []) s.heap ->
  (∀h' tk,(∀c o,c≠p->c≠it->s.heap.get? c=Z o->h'.get? c=Z o)->il b p (ddI ns) h'->R (.ok (.ret .none)) {s with heap:=h',toks:=tk})->codeAny (model P w) A (.builtin "set.update.loop" ⟨[.ref p,.ref it],[]⟩) R s:=by
 have d:its.size=ns.length:=by rw[<- aI];exact C.length
 intro k
 induction k with
 |zero=>
  intro i s I hi st h m q;have e:i=its.size:=by lia
  subst e;refine wD1 PyProof.Rows.F.entry_set_update_loop (?_:_);rw[Around.under_plainId PyProof.Rows.F.plain_set_update_loop _];show cO _ A.in1 (pyNext (.ref it) >>= _) _ _ s;refine wB1 (wpAny_pyNext_list_end (by simpa using ao) st h (by simp) λh' y=>wP1 ?_);refine q h' s.toks (λc o _ hc e=>y c o hc e) ?_;have:=m.old (h':=h') λo e=>y p o n e;rw[d,bN]at this;exact this
 |succ k ih=>
  intro i s I hi st h m q;have g:i<its.size:=by lia
  have D:=aG1 g;obtain⟨t,F⟩:=PyProof.Rows.IntsAre.int_at C i its[i] (by rw[aT1];exact D);refine wD1 PyProof.Rows.F.entry_set_update_loop (?_:_);rw[Around.under_plainId PyProof.Rows.F.plain_set_update_loop _];show cO _ A.in1 (pyNext (.ref it) >>= _) _ _ s;refine wB1 (wpAny_pyNext_list_item st h D λh' st' z=>?_);rw[F];show cO _ A.in1 (holding [Value.int (ns.getD i 0) t] (setAdd p (.int (ns.getD i 0) t)) >>= _) _ _ _;refine wB1 (wpAny_holding ?_);unfold setAdd;refine wpAny_holding (wB1 (wpAny_pyHash_int ?_));have v:il b p ((ns.take i).foldl step_dedup []) h':=m.old λo e=>by rw[z.2 p n];exact e
  have u:=lM (ns.take i) [];refine Ga (s:={s with heap:=h',toks:=s.toks+1}) (k:=ns.getD i 0) v (by rw[aP,aZ]at u;lia) λc h2 a f=>?_;have H:ns[i]?=Z (ns.getD i 0):=by rw[gG1 (by lia)];simp[List.getD,show i<ns.length by lia]
  have am:step_dedup ((ns.take i).foldl step_dedup []) (ns.getD i 0)=(ns.take (i+1)).foldl step_dedup []:=by
   rw[bY,H,List.foldl_append];rfl
  rw[am]at f;have B:∀c o,c≠p->c≠it->s.heap.get? c=Z o->h2.get? c=Z o:=λc o h1 j e=>by rw[a.2 c h1];show h'.get? c=_;rw[z.2 c j];exact e
  have keepIt:∀o,h'.get? it=Z o->h2.get? it=Z o:=λo e=>by rw[a.2 it (Ne.symm n)];exact e
  refine wP1 ⟨plainId_quiet PyProof.Rows.F.plain_set_update_loop _,ih (i+1) {s with heap:=h2,toks:=s.toks+1} (by lia) g (st'.at keepIt) ?_ f λj tk E L=>?_⟩
  ·obtain⟨o,e,r⟩:=h;exact⟨o,B l o (Ne.symm G) (Ne.symm K) e,r⟩
  ·exact q j tk (λc o h1 x e=>E c o h1 x (B c o h1 x e)) L
theorem uY{s:cF}{l:cG}{its:Array cE}{ns:List Int}{Q:cE->cF->Prop}(n:A.handled=Y)(d:s.heap.IsList l its)(j:IntsAre its.toList ns)(hb:ns.length+1<scanBound)(q:∀h' tk,(∀c o,s.heap.get? c=Z o->h'.get? c=Z o)->il (byT w) s.heap.objs.size (ddI ns) h'->Q (.ref s.heap.objs.size) {s with heap:=h',toks:=tk}):cO (model P w) A (call (.type "set") [.ref l]) Q E s:=by
 have a:l<s.heap.objs.size:=by obtain⟨o,e,_⟩:=d;exact hL1 e
 refine uX d λt m R p=>?_;have g:(s.heap.push (stO #[] 0 (.fresh 0 0 (!byT w)))).objs.size=s.heap.objs.size+1:=by rw[hZ1]
 have i:(s.heap.push (stO #[] 0 (.fresh 0 0 (!byT w)))).get? s.heap.objs.size=Z (stO #[] 0 (.fresh 0 0 (!byT w))):=hS1 _ O;refine v6 (its:=its) (ns:=ns) (b:=byT w) (m.trans n) j hb (nG1 a) (nN1 (bt _)) (nG1 (Nat.lt_succ_of_lt a)) _ 0 _ O (bd _) ?_ ?_ ?_ λh' tk k x=>p _ (q h' tk (λc o e=>k c o (nN1 (hL1 e)) (nN1 (Nat.lt_succ_of_lt (hL1 e))) (hP1 _ (hP1 _ e))) x)
 ·refine⟨{cls:=.type "list_iterator",data:=.fields #[.ref l,.int 0 0]},?_,O,O⟩;have this:((s.heap.push (stO #[] 0 (.fresh 0 0 (!byT w)))).push {cls:=.type "list_iterator",data:=.fields #[.ref l,.int 0 0]}).get? (s.heap.push (stO #[] 0 (.fresh 0 0 (!byT w)))).objs.size=Z {cls:=.type "list_iterator",data:=.fields #[.ref l,.int 0 0]}:=hS1 _ O;rw[g]at this;exact this
 ·obtain⟨o,e,r⟩:=d;exact⟨o,hP1 _ (hP1 _ e),r⟩
 ·refine⟨#[],0,_,!byT w,hP1 _ i,⟨λe f=>by simp at f,.refl _⟩,by decide,O,vH _,λh=>by rw[h];rfl⟩
end
theorem hK:Slot "set_iterator" "__next__" "set_iterator.__next__":=
 .of (owner:="set_iterator") (n:="__next__") (by rw[typeLookup_type,builtinLookup_eq_fast];kernel_rfl) (by decide+kernel) (by decide+kernel) (by decide+kernel) (by first|exact .inl (by decide+kernel)|exact .inr (by decide+kernel)) (by rw[isSubtype_type];kernel_rfl)
theorem nr:entryFor table "set_iterator.__next__"=Z Builtin.«set_iterator.__next__» :=entryFor_of_tree (by kernel_rfl)
theorem qs(x:cE):argsOk "set_iterator.__next__" ⟨[x],[]⟩:=by unfold argsOk;kernel_rfl
theorem p8:entryFor table "set.__iter__"=Z Builtin.«frozenset.__iter__» :=entryFor_alias (id':="frozenset.__iter__") (by kernel_rfl) O (by decide+kernel) (by kernel_rfl)
abbrev Db(h:cP)(it a:cG)(f:cE)(i n ep:Nat):Prop:=h.get? it=Z {cls:=.type "set_iterator",dict:=Y,data:=.fields #[f,.int i 0,.ref a,.int n 0,.int ep 0],slots:= #[]}
noncomputable def jH(t:SetTable)(i:Nat):Nat:=match i with
 |0=>0
 |i+1=>t.place.getD i 0+1
inductive qu (w:cJ)(h:cP)(a:cG)(es:Array (Int×cE))(ep:Nat)(t:SetTable):cE->Nat->List cE->Prop
 |txt (b:byT w=true) (i:Nat) (sl:Nat):qu w h a es ep t (.int sl 0) i ((pickOrder (w.params.setOrder a ep) es).toList.map (·.2))
 |drw (b:byT w=false) (d:(!t.plain&&decide (es.size>1))=true) (i:Nat) (tp:cG) (ps:List Nat) (e:h.get? tp=some {cls:=.type "tuple",data:=.seq (ps.map λj=>Value.int (j:Nat) 0).toArray}) (pm:ps.Perm (af es.size)):qu w h a es ep t (.ref tp) i (ps.map λj=>(es[j]?.map (·.2)).getD .none)
 |plc (b:byT w=false) (d:(!t.plain&&decide (es.size>1))=false) (ld:t.led=true) (up:ss t.place) (i:Nat):qu w h a es ep t (.int (jH t i) 0) i (es.toList.map (·.2))
theorem mQ{α:Type}(f:Nat->Nat):∀(n k:Nat) (l:List α) (out:Array α),l.length=n->(pickOrder.go f n k l out).toList.Perm (out.toList++l)
 |0,k,l,out,h=>by
  rw[pickOrder.go,bS.mp h,aL]
 |n+1,k,l,out,h=>by
  have b:f k%l.length<l.length:=Nat.mod_lt _ (by lia);rw[pickOrder.go,gG1 b];refine(mQ f n (k+1) _ _ (by rw[bZ b];lia)).trans ?_;rw[bT,bv];refine List.Perm.append_left _ ?_;have c:l=l.take (f k%l.length)++l[f k%l.length]::l.drop (f k%l.length+1):=by rw[List.getElem_cons_drop,List.take_append_drop]
  rw[List.eraseIdx_eq_take_drop_succ];refine List.Perm.trans ?_ (List.Perm.of_eq c.symm);exact(b0 (l₁:=l.take (f k%l.length)) (l₂:=l.drop (f k%l.length+1)) (a:=l[f k%l.length])).symm
theorem qu.perm{w:cJ}{h:cP}{a:cG}{es:Array (Int×cE)}{ep:Nat}{t:SetTable}{f:cE}{i:Nat}{pl:List cE}(y:qu w h a es ep t f i pl):pl.Perm (es.toList.map (·.2)):=by
 cases y with
 |txt=>exact(mQ _ _ _ _ _ O).map _
 |drw _ _ _ d ps e c=>
  refine(c.map _).trans ?_;have:(af es.size).map (λj=>(es[j]?.map (·.2)).getD .none)=es.toList.map (·.2):=by
   apply List.ext_getElem?;intro j;rw[gP1,gP1,aT1 (xs:=es)];by_cases b:j<es.size
   ·rw[b4 b,oP1,aG1 b];rfl
   ·rw[bO (by simpa using b),b5 (by lia)];rfl
  rw[this]
 |plc=>exact .refl _
theorem qu.len{w:cJ}{h:cP}{a:cG}{es:Array (Int×cE)}{ep:Nat}{t:SetTable}{f:cE}{i:Nat}{pl:List cE}(y:qu w h a es ep t f i pl):pl.length=es.size:=by
 rw[y.perm.length_eq,lM1,aI]
section
variable{P:cH}{w:cJ}{A:cI}{E:cE->cF->Prop}{s:cF}{it a:cG}{f:cE}{i ep:Nat}{es:Array (Int×cE)}{t:SetTable}{pl:List cE}
theorem nN{Q:Bool->cF->Prop}(q:Q (byT w) s):cO (model P w) A setsByText Q E s:=by unfold setsByText;exact wB1 (wpAny_askSetting (wP1 q))
theorem vS{sl:Nat}{Q:Option (cE×Nat)->cF->Prop}(b:byT w=M)(ho:s.heap.get? a=Z (stO es ep t))(hf:t.fits es.size=M)(q:Q (((pickOrder (w.params.setOrder a ep) es)[i]?).map λe=>(e.2,sl)) s):cO (model P w) A (setNext a sl i ep) Q E s:=by
 unfold setNext;refine wB1 (wpAny_setState_of ho O hf (wB1 (nN ?_)));rw[b,ak O,aj (by simp)];refine wB1 ?_;unfold setWalk;refine wB1 (wpAny_setState_of ho O hf (wB1 (nN ?_)));rw[b,ak O];exact wB1 (wpAny_askSetting (wP1 (wP1 q)))
theorem Al(a:ss t.place)(hi:i<=t.place.size):SetTable.below t.place (jH t i)=i:=by
 cases i with
 |zero=>exact xS a
 |succ j=>
  have b:j<t.place.size:=hi;show SetTable.below t.place (t.place.getD j 0+1)=j+1;rw[show t.place.getD j 0=t.place[j]from by simp[Array.getD,b]];exact Ak a b
theorem vT{Q:Option (cE×Nat)->cF->Prop}(b:byT w=J)(d:(!t.plain&&decide (es.size>1))=J)(g:t.led=M)(h:ss t.place)(ho:s.heap.get? a=Z (stO es ep t))(hf:t.fits es.size=M)(hi:i<=es.size)(q:Q ((es[i]?).map λe=>(e.2,jH t (i+1))) s):cO (model P w) A (setNext a (jH t i) i ep) Q E s:=by
 have k:t.place.size=es.size:=by
  unfold SetTable.fits at hf;rw[bA1,beq_iff_eq]at hf;exact hf.1
 unfold setNext;refine wB1 (wpAny_setState_of ho O hf (wB1 (nN ?_)));rw[b,aj (by decide)];rw[aj (λz=>by have f:(!t.plain&&decide (es.size>1))=M:=z;rw[d]at f;cases f)];refine wB1 ?_;show cO _ _ (if(!t.led && !es.isEmpty)=M then _ else _) _ _ _;rw[aj (by rw[g];simp)];refine wP1 ?_;dsimp only;rw[Al h (by omega)];by_cases c:i<es.size
 ·rw [aG1 c] at q ⊢;rw [aG1 (show i<t.place.size by omega)];have j:jH t (i+1)=t.place[i]+1:=by
   show t.place.getD i 0+1=_;rw[show t.place.getD i 0=t.place[i]from by simp[Array.getD,show i<t.place.size by omega]]
  rw[j]at q;exact wP1 q
 ·rw[b5 (by omega)]at q ⊢;exact wP1 q
theorem yi{Q:Option cE->cF->Prop}(k:Db s.heap it a f i es.size ep)(ho:s.heap.get? a=Z (stO es ep t))(hf:t.fits es.size=M)(y:qu w s.heap a es ep t f i pl){x:cE}(hx:pl[i]? = Z x)(S:∀ g,f = .ref g->g≠it)(q:∀h' h,Db h' it a h (i+1) es.size ep->(∀c o,c≠it->s.heap.get? c=Z o->h'.get? c=Z o)->qu w h' a es ep t h (i+1) pl->(∀g,h = .ref g->f = .ref g)->Q (Z x) {s with heap:=h'}):cO (model P w) A (pyNext (.ref it)) Q E s:=by
 have K:s.TypeIs (.ref it) "set_iterator":=⟨_,k,O⟩;unfold pyNext;refine wB1 (wpAny_attempt (wpAny_callSpecial?_slot (name:=Str.ofString "__next__") K hK (wE1 hK K nr ?_ (qs _))));refine wB1 (wP1 (wB1 (wpAny_fieldsOf k O ?_)));dsimp only;refine wB1 (wpAny_setEntries_of ho O hf ?_);rw[aj (by simp)];have R:i<es.size:=by have:=(gE1.mp hx).1;rw[y.len]at this;exact this
 have p:∀ (h:cE),(∀ g,h = .ref g->f = .ref g)->(∀ h',(∀ c o,c≠it->s.heap.get? c=some o->h'.get? c=some o)->qu w h' a es ep t h (i+1) pl) ->
   cO (model P w) A.in1 (setField (.ref it) 0 h >>= fun _=>setField (.ref it) 1 (rawInt ((i:Int)+1)) >>= fun _=>ret x) (fun F s'=>∃ v,F=Fin.done (Flow.ret v)/\cO (model P w) A (pure (some v)) Q E s') (fun e s'=>cO (model P w) A (do
     let y<-isInstance e (.type "StopIteration")
     if y=M then pure Y else throw e) Q E s') s:=λh N au=>by
  refine wB1 (wS1 k (by simp) λh1 ao D=>wB1 (wS1 (s:={s with heap:=h1}) ao (by simp) λh2 r l=>wP1 ⟨_,O,wP1 ?_⟩));have n:∀c o,c≠it->s.heap.get? c=Z o->h2.get? c=Z o:=λc o hc e=>l.extBut c o hc (D.extBut c o hc e);refine q h2 h ?_ n (au h2 n) N;have e:((i+1:Nat):Int)=(i:Int)+1:=by lia
  unfold Db;rw[e];simpa[rawInt]using r
 cases y with
 |txt b _ B=>
  refine wB1 (vS (i:=i) (sl:=B) (ep:=ep) b ho hf ?_);rw[gP1,aT1]at hx;obtain⟨e,u,rfl⟩:=oM1.mp hx;rw[u];exact p (.int B 0) (λg z=>by cases z) λh' _=>.txt b _ B
 |plc b d I am _=>
  refine wB1 (vT (i:=i) b d I am ho hf (by lia) ?_);rw[gP1,aT1]at hx;obtain⟨e,u,rfl⟩:=oM1.mp hx;rw[u];exact p (.int (jH t (i+1)) 0) (λg z=>by cases z) λh' _=>.plc b d I am _
 |drw b d _ g ps e G=>
  rw[gP1]at hx;obtain⟨j,L,rfl⟩:=oM1.mp hx;have m:j<es.size:=by have:=G.mem_iff.mp (gM1 L);simpa using this
  refine wB1 (wpAny_seqItems e O ?_);have C:((ps.map λj=>Value.int (j:Nat) 0).toArray)[((i:Int)).toNat]?=Z (.int (j:Nat) 0):=by
   rw[Int.toNat_natCast,b6,gP1,L];rfl
  dsimp only;rw[C];dsimp only;refine wB1 ?_;unfold setNextDrawn;refine wB1 (wpAny_setState_of ho O hf ?_);dsimp only;rw[aj (by simp),Int.toNat_natCast,aG1 m];refine wP1 (wB1 (wS1 k (by simp) λh2 r l=>wP1 ⟨_,O,wP1 ?_⟩));have n:∀c o,c≠it->s.heap.get? c=Z o->h2.get? c=Z o:=λc o hc e=>l.extBut c o hc e;have H:=q h2 (.ref g) ?_ n (.drw b d _ g ps (n g _ (S g O) e) G) λ_ z=>z
  ·rw[aG1 m]at H;exact H
  ·have e:((i+1:Nat):Int)=(i:Int)+1:=by lia
   unfold Db;rw[e];simpa[rawInt]using r
theorem rn{Q:Option cE->cF->Prop}{G:Fin->cF->Prop}(d:A.handled=none)(q:∀ h',(∀ c o,s.heap.get? c=some o->h'.get? c=some o)->Q none {s with heap:=h'}):
  cO (model P w) A.in1 (newExc (.type "StopIteration") [] >>= fun e=>raiseNew e) G (fun e s'=>cO (model P w) A (do
     let y<-isInstance e (.type "StopIteration")
     if y=M then pure Y else throw e) Q E s') s:=by
 refine wB1 ?_;simp only[newExc,newTuple];refine wB1 (wO1 ?_ (by size_fits));refine wB1 (m:=firstArgMember _ _) (wpAny_of_eq (a:=Value.none) (by first|rfl|(simp only[firstArgMember];rfl)) ?_);refine wO1 ?_ (by size_fits);simp only[raiseNew];refine wB1 (wpAny_handled ?_);rw[show A.in1.handled=Y from d];refine wB1 (wP1 (wpAny_throw (?_:_)));refine wB1 (wpAny_isInstance (b:=M) (T:="StopIteration") ⟨_,hS1 _ O,O⟩ isSubtype_stop (?_:_));exact wP1 (q _ λb o e=>hP1 _ (hP1 _ e))
theorem AW{Q:Option cE->cF->Prop}(p:A.handled=Y)(g:Db s.heap it a f es.size es.size ep)(ho:s.heap.get? a=Z (stO es ep t))(hf:t.fits es.size=M)(y:qu w s.heap a es ep t f es.size pl)(q:∀h',(∀c o,c≠it->s.heap.get? c=Z o->h'.get? c=Z o)->Q Y {s with heap:=h'}):cO (model P w) A (pyNext (.ref it)) Q E s:=by
 have u:s.TypeIs (.ref it) "set_iterator":=⟨_,g,O⟩;unfold pyNext;refine wB1 (wpAny_attempt (wpAny_callSpecial?_slot (name:=Str.ofString "__next__") u hK (wE1 hK u nr ?_ (qs _))));refine wB1 (wP1 (wB1 (wpAny_fieldsOf g O ?_)));dsimp only;refine wB1 (wpAny_setEntries_of ho O hf ?_);rw[aj (by simp)];have l:=y.len;cases y with
 |txt b _ z=>
  refine wB1 (vS (i:=es.size) (sl:=z) (ep:=ep) b ho hf ?_);rw[b5 (by rw[lM1,aI]at l;lia)];refine wB1 (wS1 g (by simp) λh1 m h=>?_);exact rn (s:={s with heap:=h1}) p λh' k=>q h' λc o hc e=>k c o (h.extBut c o hc e)
 |plc b d v x _=>
  refine wB1 (vT (i:=es.size) (ep:=ep) b d v x ho hf (nR1 _) ?_);rw[b5 (nR1 _)];refine wB1 (wS1 g (by simp) λh1 m h=>?_);exact rn (s:={s with heap:=h1}) p λh' k=>q h' λc o hc e=>k c o (h.extBut c o hc e)
 |drw b d _ C ps e D=>
  refine wB1 (wpAny_seqItems e O ?_);have n:((ps.map λj=>Value.int (j:Nat) 0).toArray)[((es.size:Int)).toNat]?=Y:=by
   rw[Int.toNat_natCast,b6,bO (by rw[lM1]at l ⊢;lia)]
  dsimp only;rw[n];dsimp only;refine wB1 (wS1 g (by simp) λh1 m h=>?_);refine wB1 (wS1 (s:={s with heap:=h1}) m (by simp) λh2 B r=>?_);exact rn (s:={s with heap:=h2}) p λh' k=>q h' λc o hc e=>k c o (r.extBut c o hc (h.extBut c o hc e))
theorem xO{b:Source}{n:Nat}{Q:Nat->cF->Prop}(hn:n≠0)(q:∀i c,i<n->Q i {s with drawn:=c}):cO (model P w) A (choose b n) Q E s:=fun Γ p a=>by
 unfold choose;rw[Sem.wp_choose];refine⟨hn,?_⟩;exact wP1 (A:=A) (E:=E) (q _ _ (Nat.mod_lt _ (Nat.pos_of_ne_zero hn))) Γ p a
theorem draw_W{α:Type}:∀(n:Nat) (xs:List α) (s:cF) (Q:List α->cF->Prop),xs.length=n->(∀ys b,ys.Perm xs->Q ys {s with drawn:=b})->cO (model P w) A (drawOrder n xs) Q E s
 |0,xs,s,Q,h,q=>by
  have:=bS.mp h;subst this;exact wP1 (q [] s.drawn (.refl _))
 |n+1,[],s,Q,h,q=>by simp at h
 |n+1,x::xs,s,Q,h,q=>by
  rw[drawOrder];refine wB1 (xO (by simp) λi b hi=>?_);rw[gG1 hi];dsimp only;refine wB1 (draw_W n _ _ _ (by rw[bZ hi];lia) λys a d=>wP1 (q _ a ?_));refine(d.cons _).trans ?_;have c:x::xs=(x::xs).take i++(x::xs)[i]::(x::xs).drop (i+1):=by rw[List.getElem_cons_drop,List.take_append_drop]
  rw[List.eraseIdx_eq_take_drop_succ];refine List.Perm.trans ?_ (List.Perm.of_eq c.symm);exact b0.symm
  all_goals simp
theorem yk{l:Bool}{Q:cE->cF->Prop}(ho:s.heap.get? a=some (stO es ep t))(hf:t.fits es.size=true)(F:es.size<scanBound)(B:TS l t)(H:byT w=false->l=true)(q:∀it h' n f pl,(∀c o,s.heap.get? c=some o->h'.get? c=some o)->s.heap.objs.size<=it->Db h' it a f 0 es.size ep->qu w h' a es ep t f 0 pl->(∀b,f = .ref b->b≠it/\s.heap.objs.size<=b)->Q (.ref it) {s with heap:=h',drawn:=n}):
  cO (model P w) A (pyIter (.ref a)) Q E s:=by
 have y:s.TypeIs (.ref a) "set":=⟨_,ho,rfl⟩;refine wpAny_pyIter_slot y PySem.F.slot_set_iter (wE1 PySem.F.slot_set_iter y p8 ?_ (PySem.F.args_set_iter_1 _));unfold Builtin.«frozenset.__iter__»;refine wB1 (m:=Builtin.Frozenset.slot0 _ _) (wP1 ?_);unfold Builtin.Frozenset.sizeOf;refine wB1 (wB1 (wpAny_setEntries_of ho rfl hf (wP1 ?_)));unfold setDrawn;refine wB1 (wB1 (wpAny_setState_of ho rfl hf (wB1 (nN (wP1 ?_)))));show cO _ _ (if (!byT w&&(!t.plain&&decide (es.size>1)))=true then _ else _) _ _ _;have d:∀ (h1:cP) (n:Drawn) (f:cE) (pl:List cE),(∀ c o,s.heap.get? c=some o->h1.get? c=some o)->s.heap.objs.size<=h1.objs.size->(∀ b,f = .ref b->b<h1.objs.size/\s.heap.objs.size<=b)->(∀ h',(∀ c o,h1.get? c=some o->h'.get? c=some o)->qu w h' a es ep t f 0 pl) ->
   cO (model P w) A.in1 (setEpoch a >>= λe=>newFields "set_iterator" [f,rawInt 0,.ref a,rawInt es.size,rawInt e] >>= λr=>ret r) (λd s'=>∃r,d=Fin.done (Flow.ret r) /\ ∃T g,s'.TypeIs r T/\typeLookup (.type T) "__next__"=pure (Z g)/\Q r s') E {s with heap:=h1,drawn:=n}:=by
  intro h1 n f pl C x u G;refine wB1 (wpAny_setEpoch_of (C a _ ho) O hf (wB1 (wO1 (wP1 ⟨_,O,"set_iterator",_,⟨_,hS1 _ O,O⟩,hK.lookup,?_⟩) (by size_fits))));refine q h1.objs.size _ n f pl (λc o e=>hP1 _ (C c o e)) x ?_ (G _ λc o e=>hP1 _ e) λb e=>⟨nN1 (u b e).1,(u b e).2⟩;have:=hS1 h1 (o:={cls:=.type "set_iterator",data:=.fields #[f,.int 0 0,.ref a,.int es.size 0,.int ep 0]}) O;exact this
 by_cases h:byT w=M
 ·rw[aj (by rw[h];simp)];refine wB1 (wP1 ?_);exact d s.heap s.drawn _ _ (λ_ _ e=>e) (nR1 _) (λb z=>by cases z) λh' _=>.txt h 0 0
 ·have h:byT w=J:=by simpa using h
  by_cases p:(!t.plain&&decide (es.size>1))=M
  ·rw[ak (by rw[h,p];rfl)];refine wB1 (draw_W es.size (af es.size) s _ (by simp) λys n D=>?_);refine wB1 (m:=newTuple _) (wO1 (s:={s with drawn:=n}) ?_ ?_)
   ·refine d (s.heap.push {cls:=.type "tuple",data:=.seq (ys.map λ(i:Nat)=>rawInt i).toArray}) n (.ref s.heap.objs.size) (ys.map λj=>(es[j]?.map (·.2)).getD .none) (λc o e=>hP1 _ e) (by rw[hZ1];exact aV _) (λb z=>by cases z;exact⟨by rw[hZ1];exact bt _,nR1 _⟩) λh' k=>?_;exact .drw h p 0 _ ys (k _ _ (hS1 _ O)) D
   ·have:=D.length_eq;have v:=fits_of_scanBound F;simp[sizeOk,this,v]
  ·have p:(!t.plain&&decide (es.size>1))=J:=by simpa using p
   rw[aj (by rw[p];simp)];refine wB1 (wP1 ?_);exact d s.heap s.drawn _ _ (λ_ _ e=>e) (nR1 _) (λb z=>by cases z) λh' _=>.plc h p (by rw[B.ld];exact H h) B.up 0
end
theorem qu.keep{w:cJ}{h h':cP}{a:cG}{es:Array (Int×cE)}{ep:Nat}{t:SetTable}{f:cE}{i:Nat}{pl:List cE}(y:qu w h a es ep t f i pl)(k:∀c o,f = .ref c->h.get? c=Z o->h'.get? c=Z o):qu w h' a es ep t f i pl:=by
 cases y with
 |txt b _ l=>exact .txt b _ l
 |drw b d _ c ps e m=>exact .drw b d _ c ps (k c _ O e) m
 |plc b d g j _=>exact .plc b d g j _
section
variable{P:cH}{w:cJ}{A:cI}{E:cE->cF->Prop}
theorem yj{it a S:cG}{ep:Nat}{es:Array (Int×cE)}{t:SetTable}{pl:List cE}{p:cE}{R:Result->cF->Prop}(V:A.handled=none)(hf:t.fits es.size=true)(h1:it≠a)(h2:S≠a)(H:S≠it)(hn:es.size<=cN):
  ∀(k i:Nat) (s:cF) (f:cE) (acc:Array cE) (c:Nat),es.size-i=k->i<=es.size->Db s.heap it a f i es.size ep->s.heap.get? a=Z (stO es ep t)->qu w s.heap a es ep t f i pl->(∀g,f = .ref g->g≠it/\g≠S) ->
  s.heap.get? S=Z {cls:=.type "list",dict:=Y,data:=.seq acc c,slots:= #[]}->acc.toList=pl.take i ->
  (∀h' d am,(∀b u,b≠it->b≠S->s.heap.get? b=Z u->h'.get? b=Z u)->h'.get? S=Z {cls:=.type "list",dict:=Y,data:=.seq d am,slots:= #[]}->d.toList=pl->R (.ok (.ret p)) {s with heap:=h'}) ->
  codeAny (model P w) A (.builtin "list.extend.loop" ⟨[.ref S,.ref it,p],[]⟩) R s:=by
 intro k
 induction k with
 |zero=>
  intro i s f acc c U hi l D y E I C G;have e:i=es.size:=by lia
  subst e;have j:=y.len;refine wD1 PySem.F.entry_extend_loop (?_:_);rw[Around.under_plainId PySem.F.plain_extend_loop _];show cO _ A.in1 (pyNext (.ref it) >>= _) _ _ s;refine wB1 (AW V l D hf y λh' keep=>wP1 ?_);exact G h' acc c (λb u n _ e=>keep b u n e) (keep S _ H I) (by rw[C,<- j,bN])
 |succ k ih=>
  intro i s f acc c U hi l D y E I C G;have L:i<es.size:=by lia
  have j:=y.len;obtain⟨x,au⟩:∃x,pl[i]?=some x:=⟨_,gG1 (by lia)⟩;have v:acc.size=i:=by rw[<- aI,C,aP];lia
  refine wD1 PySem.F.entry_extend_loop (?_:_);rw[Around.under_plainId PySem.F.plain_extend_loop _];show cO _ A.in1 (pyNext (.ref it) >>= _) _ _ s;refine wB1 (yi l D hf y au (λg e=>(E g e).1) λh' Q r keep T N=>?_);have B:=keep S _ H I;show cO _ A.in1 (updateSeq S (·.push x) >>= _) _ _ _;refine wB1 (wpAny_updateSeq (s:={s with heap:=h'}) B O ?_ (by rw[v];lia) (by show(acc.push _).size<=cN+1;rw[Array.size_push,v];lia));have h:∀b u,b≠S->h'.get? b=Z u->(h'.update S (Obj.mapSeq (·.push x))).get? b=Z u:=λb u n e=>by rw[hU1 _ _ _ _ n];exact e
  refine wP1 ⟨plainId_quiet PySem.F.plain_extend_loop _,ih (i+1) {s with heap:=h'.update S (Obj.mapSeq (·.push x))} Q (acc.push x) _ (by lia) L (h it _ (Ne.symm H) r) (h a _ (Ne.symm h2) (keep a _ (Ne.symm h1) D)) (T.keep λg o e q=>h g o (E g (N g e)).2 q) (λg e=>E g (N g e)) (hW1 _ B O) ?_ ?_⟩
  ·rw[bT,C,bY,au];rfl
  ·intro ao d am m K F;exact G ao d am (λb u n z e=>m b u n z (h b u z (keep b u n e))) K F
theorem v8:typeLookup (.type "set") "__len__"=pure (Z (.builtin "set.__len__")):=by rw[typeLookup_type,builtinLookup_eq_fast];kernel_rfl
theorem ym {s:cF}{v:cG}{Q:Bool->cF->Prop}(c:s.TypeIs (.ref v) "set")(q:Q J s):cO (model P w) A (Builtin.List.listLengthHint (.ref v)) Q E s:=by
 unfold Builtin.List.listLengthHint;refine wB1 (wpAny_specialOf c v8 (?_:_));generalize a:("set.__len__":String)=id0
 wp_delta
 rw[show splitId id0=Z ("set","__len__")from by subst a;decide+kernel];subst a;refine wB1 (wpAny_isInstance (b:=M) c (by rw[isSubtype_type];kernel_rfl) (?_:_));rw[aj (by decide)];dsimp only;rw[ak (by decide+kernel)];exact wB1 (wpAny_typeOf c (wP1 q))
theorem rf{s:cF}{a:cG}{ns:List Int}{Q:List cE->cF->Prop}(hh:A.handled=Y)(hx:il (byT w) a ns s.heap)(q:∀h' p vs ao,(∀b u,s.heap.get? b=Z u->h'.get? b=Z u)->s.heap.objs.size<=h'.objs.size->IntsAre vs ao->ao.Perm ns->Q vs {s with heap:=h',drawn:=p}):cO (model P w) A (collect (.ref a)) Q E s:=by
 obtain⟨es,ep,t,l,D,R,S,au,X,W⟩:=hx;have n:a<s.heap.objs.size:=hL1 D;unfold collect;refine wB1 (wpAny_runValue (wD1 PySem.F.entry_proto_collect (?_:_)));rw[Around.under_plainId PySem.F.plain_proto_collect _];show cO _ A.in1 (newList [] >>= λl=>again (.builtin "list.__iadd__" ⟨[l,.ref a],[]⟩)) _ _ s;refine wB1 (wO1 (?_:_));refine wP1 ⟨plainId_quiet PySem.F.plain_list_iadd _,wD1 PySem.F.entry_list_iadd (?_:_)⟩;rw[Around.under_plainId PySem.F.plain_list_iadd _];have r:(s.heap.push {cls:=.type "list",data:=.seq ([]:List cE).toArray}).get? s.heap.objs.size=Z {cls:=.type "list",data:=.seq ([]:List cE).toArray}:=hS1 _ O;have h:∀b u,s.heap.get? b=Z u->(s.heap.push {cls:=.type "list",data:=.seq ([]:List cE).toArray}).get? b=Z u:=λb u e=>hP1 _ e;have z:(s.heap.push {cls:=.type "list",data:=.seq ([]:List cE).toArray}).objs.size=s.heap.objs.size+1:=by rw[hZ1]
 have K:s.heap.objs.size≠a:=nG1 n;have h1:Builtin.List.listSameRef (.ref s.heap.objs.size) (.ref a)=J:=by simp[Builtin.List.listSameRef,K]
 show cO _ A.in1 (Builtin.List.listExtendWith (.ref s.heap.objs.size) (.ref a) (.ref s.heap.objs.size)) _ _ {s with heap:=s.heap.push {cls:=.type "list",data:=.seq ([]:List cE).toArray}};generalize s.heap.push {cls:=.type "list",data:=.seq ([]:List cE).toArray}=h₁ at *
 unfold Builtin.List.listExtendWith;refine wB1 (wpAny_typeOf (T:="set") ⟨_,h a _ D,O⟩ ?_);rw[aj (by rw[h1];decide)];refine wB1 (yk (s:={s with heap:=h₁}) (h a _ D) au S X W λit c p f pl g d L y I=>?_);dsimp only at g d I;have j:=g _ _ r;have B:Shared.TypeIs {s with heap:=c,drawn:=p} (.ref a) "set":=⟨_,g _ _ (h a _ D),O⟩;refine wB1 (wpAny_holding (ym B ?_));rw[ak (by decide+kernel)];refine wB1 (wpAny_rule (wB1 ?_));show cO _ A.in1 (updateSeq s.heap.objs.size (·.push .none) >>= λ_=>updateSeq s.heap.objs.size (·.pop)) _ _ _;refine wB1 (wpAny_updateSeq (s:={s with heap:=c,drawn:=p}) j O ?_);have i:=hW1 (Obj.mapSeq (·.push Value.none)) j O;refine wpAny_updateSeq (s:={s with heap:=c.update s.heap.objs.size (Obj.mapSeq (·.push Value.none)),drawn:=p}) i O ?_;have x:=hW1 (Obj.mapSeq (·.pop)) i O;have m:∀b u,b≠s.heap.objs.size->c.get? b=Z u->((c.update s.heap.objs.size (Obj.mapSeq (·.push Value.none))).update s.heap.objs.size (Obj.mapSeq (·.pop))).get? b=Z u:=λb u C e=>by
  rw[hU1 _ _ _ _ C,hU1 _ _ _ _ C];exact e
 rw[z]at d I;have N:=y.perm;refine wP1 ⟨plainId_quiet PySem.F.plain_extend_loop _,yj (it:=it) (pl:=pl) hh au (nG1 (bc n d)) (nG1 n) (nN1 d) (fits_of_scanBound S) es.size 0
  {s with heap:=(c.update s.heap.objs.size (Obj.mapSeq (·.push Value.none))).update s.heap.objs.size (Obj.mapSeq (·.pop)),drawn:=p} f _ _ O (bd _) (m _ _ (nG1 d) L) (m a _ (nN1 n) (g _ _ (h a _ D))) (y.keep λF o e q=>m F o (nG1 (I F e).2) q) (λF e=>⟨(I F e).1,nG1 (I F e).2⟩) x O λh' G c' keep H V=>?_⟩
 show cO _ A (load s.heap.objs.size >>= _) _ _ {s with heap:=h',drawn:=p};refine wB1 (wpAny_load H ?_);have wq:∀v∈pl,∃k t,v=Value.int k t:=λv am=>by
  obtain⟨e,aq,rfl⟩:=bX.mp (N.mem_iff.mp am);obtain⟨k,t,rfl⟩:=R.el e aq;exact⟨k,t,O⟩
 have all:∀vs:List cE,(∀v∈vs,∃k t,v=Value.int k t)->IntsAre vs (vs.map λv=>FX (0,v)):=by
  intro vs
  induction vs with
  |nil=>intro _;exact .nil
  |cons v vs ih=>
   intro am;obtain⟨k,t,rfl⟩:=am v mS1;exact .cons k t (ih λu U=>am u (mC1 _ U))
 refine wP1 (q h' p G.toList (pl.map λv=>FX (0,v)) (λb u e=>?_) (Nat.le_of_lt (hL1 H)) (by rw[V];exact all pl wq) ?_)
 ·have C:=hL1 e;exact keep b u (nN1 (bc C d)) (nN1 C) (m b u (nN1 C) (g _ _ (h b u e)))
 ·refine(N.map _).trans ?_;rw[bn];exact R.pm
theorem pc {s:cF}{a:cG}{ns:List Int}{Q:cE->cF->Prop}(r:A.handled=none)(hx:il (byT w) a ns s.heap)(i:ns.length<64)
  (q:∀h' f L n out,(∀b u,s.heap.get? b=Z u->h'.get? b=Z u)->s.heap.objs.size<=L->h'.get? L=Z (seqObj "list" out n)->IntsAre out.toList (fZ ns)->Q (.ref L) {s with heap:=h',drawn:=f}):
  cO (model P w) A (call (.builtin "sorted") [.ref a]) Q E s:=by
 refine Calls.call_function_entry kind_sorted plain_sorted entry_sorted (args_sorted1 _) (?_:_);unfold Builtin.«sorted»;refine wB1 (m:=checkCount "sorted" 1 1 _) (wP1 (wB1 (rf r hx λh' f vs t keep p k l=>?_)));have d:vs.length<64:=by rw[k.length,l.length_eq];exact i
 refine wB1 (wpAny_newList (hsz:=by rw[sizeLine_eq];lia) ?_);have c:(h'.push (seqObj "list" vs.toArray 0)).get? h'.objs.size=Z (seqObj "list" vs.toArray 0):=hS1 _ O;show cO _ _ _ _ _ {s with heap:=h'.push (seqObj "list" vs.toArray 0),drawn:=f};refine wB1 (wpAny_holding (wE1 slot_list_sort ⟨_,c,O⟩ entry_list_sort (list_sort_tree (s:={s with heap:=h'.push (seqObj "list" vs.toArray 0),drawn:=f}) c k d λout g a1 a2 a3=>⟨_,O,?_⟩) (args_list_sort _)));have o:g=fZ ns:=kI (a2.trans (l.trans (en ns).symm)) a3 (i0 ns);subst o;obtain⟨n,j⟩:=sortedHeap_at (out:=out) c;refine wP1 ⟨_,O,q _ f h'.objs.size n out (λb u e=>?_) p j a1⟩;have h:=keep b u e;show(sortedHeap (h'.push (seqObj "list" vs.toArray 0)) h'.objs.size vs out).get? b=Z u;rw[sortedHeap_old (nN1 (hL1 h)) (by rw[hZ1];exact Nat.lt_succ_of_lt (hL1 h))];exact hP1 _ h
end
noncomputable def ia:G1:=λd S=>match da S d with
 |some (M,xs)=>(lH xs).bind λns=>if ns.length<64 then Z (.ref S.length,S++[.lst ((fZ (ddI ns)).map D.int)])else Y
 |_=>Y
section
variable{X:Cx}
def DO(X:Cx)(vs:List V)(H:Hp)(Q:VK):Prop:=∃a xs ns,vs=[.ref a]/\kq X.K H a xs/\(∀us,dy xs us->IntsAre us ns)/\ns.length+1<scanBound /\ ∀p,H p=Y->Q (.ref p) (upd H p (.ext (il (byT X.w) p (ddI ns))))
def Bg(X:Cx)(vs:List V)(H:Hp)(Q:VK):Prop:=∃a ns,vs=[.ref a]/\H a=Z (.ext (il (byT X.w) a ns))/\ns.length<64 /\ ∀p,H p=Y->Q (.ref p) (upd H p (.lst ((fZ ns).map V.int)))
theorem uE{ag:List (cG×Obj)}{σ:L2.St}{H:Hp}{s:cF}(I:Inv X ag σ H s)(d:Drawn):Inv X ag σ H {s with drawn:=d}:=⟨I.ok,I.os,I.bare,I.base,I.loc,I.cell,I.free,I.freeC,I.pin,I.hok,I.len⟩
theorem CT(hc:X.calm=M):dV X (.type "set") (DO X):=by
 intro ag s σ H xs n Q I r h;obtain⟨a,vs,ns,rfl,i,hi,f,q⟩:=h;obtain⟨u,rfl,r2⟩:=gB r;cases r2;obtain⟨c,j,p,m⟩:=I.list i;have g:=hi c j;refine uY (I.ok.hd hc) p.isList (by simpa using g) f λh' tk keep d=>?_;have b:=I.hok.fresh (nR1 s.heap.objs.size);refine⟨.ref s.heap.objs.size,_,I.laid (t':=tk) (o:=.ext (il (byT X.w) s.heap.objs.size (ddI ns))) keep (nR1 _) ⟨d,?_,λh1 h2 x k=>x.old k⟩,O,q _ b⟩;obtain⟨es,ep,t,l,e,_⟩:=d;exact⟨_,e⟩
theorem Ah(hc:X.calm=M):dV X (.builtin "sorted") (Bg X):=by
 intro ag s σ H xs k Q I r h;obtain⟨a,ns,rfl,e,j,q⟩:=h;obtain⟨u,rfl,r2⟩:=gB r;cases r2;obtain⟨g,_⟩:=(show dZ X.prog X.w H s.heap a (.ext (il (byT X.w) a ns))from I.hok a _ e);refine pc (I.ok.hd hc) g j λh' i L n out keep d c f=>?_;have b:=I.hok.fresh d;refine⟨.ref L,_,uE (I.laid (t':=s.toks) (o:=.lst ((fZ ns).map V.int)) keep d ⟨?_,out.toList,n,ni f,by rw[bR];exact c⟩) i,O,q _ b⟩;rw[lM1,(en ns).length_eq,sizeLine_eq];lia
theorem EG(ns:List Int):(ddI ns).length<=ns.length:=by
 have:=lM ns [];unfold ddI;simpa using this
theorem ua (hc:X.calm=true){o:Expr}{m:FE}{p p2 pos b:Pos}(hg:Gl X "sorted")(hm:X.mg "sorted"=none)(hg2:Gl X "set")(hm2:X.mg "set"=none)(ho:XE X o m)
  (he:cM [.Call (.Name "set" p2) [o] [] b] X.env=[(J,eval (.Call (.Name "set" p2) [o] [] b) X.env)]:=by rfl) (e:cM [o] X.env=[(J,eval o X.env)]:=by rfl):XE X (.Call (.Name "sorted" p) [.Call (.Name "set" p2) [o] [] b] [] pos) (mN (b1 ia) (cT m cU)):=
 ⟨dX (po (Ah hc) hg hm (by decide+kernel) (jb (ix (CT hc) hg2 hm2 (by decide+kernel) (jb ho.h lv e) (he:=e)) lv he) (he:=he)) <| by
  rintro σ H Q ⟨r,mu,S,d,D,he,y,hm,g⟩;obtain⟨⟨ds,C⟩,f,hm⟩:=oB1.mp hm;obtain⟨⟨B,F⟩,w,f⟩:=oB1.mp f;cases f;dsimp only[b1,ia]at hm;split at hm
  ·rename_i xs l;obtain⟨ns,s,hm⟩:=oB1.mp hm;split at hm
   ·rename_i i;cases hm;refine⟨r,mu,S,B,_,he,y,w,λv H1 mu1 z A k=>?_⟩;obtain⟨a,vs,rfl,q,t⟩:=dn A k l;refine⟨a,vs,ns,O,q,λE n=>(uF t n s).1,bc (Nat.succ_lt_succ i) (by decide),λp h=>?_⟩;refine⟨p,ddI ns,O,dr,bw (EG ns) i,λp2 c=>?_⟩;have x:Ext mu1 mu1 H1 (upd H1 p (.ext (il (byT X.w) p (ddI ns)))):=Ext.fresh h;have j:=k.fresh (u:=.ext (il (byT X.w) p (ddI ns))) h;exact g _ _ (mu1++[p2]) (z.trans (x.trans (Ext.new_ c))) (.ref (fC j.len _)) (j.newL (iu _) c)
   ·cases hm
  ·cases hm⟩
end
section
variable{X:Cx}{ag:List (cG×Obj)}{σ:L2.St}{H:Hp}{s:cF}{a:cG}{kvs:List (Key×V)}{k:Key}{v:V}{u r:cE}{A:cI}{E:cE->cF->Prop}
end
section
variable{X:Cx}
end
open AutoSeq1 (wpAny_loadPart')
section
variable{prog:cH}{w:cJ}{A:cI}{E:cE->cF->Prop}{s:cF}
theorem qp{Q:List cE->cF->Prop}{r:cG}{a b c:Int}{t u v:Tok}{n:Nat}(C:A.handled=none)(hr:IsRange s.heap r a b c t u v)(hsmall:Builtin.Range.small a b c=true)(hn:Builtin.Range.rangeSize a b c=n)(m:n<=2^24)(z:∀h' tk d,(∀b o',s.heap.get? b=some o'->h'.get? b=some o')->ItemsOf (fun i v=>∃t,v = .int (a+i*c) t) d n->Q d.toList {s with heap:=h',toks:=tk}):
  cO (model prog w) A (collect (.ref r)) Q E s:=by
 unfold collect;refine wB1 (wpAny_runValue (wD1 F.entry_proto_collect (?_:_)));rw [Around.under_plainId F.plain_proto_collect _];show cO _ A.in1 (newList [] >>= fun l=>again (.builtin "list.__iadd__" ⟨[l,.ref r],[]⟩)) _ _ s;refine wB1 (wO1 (?_:_));refine wP1 ⟨plainId_quiet F.plain_list_iadd _,wD1 F.entry_list_iadd (?_:_)⟩;rw [Around.under_plainId F.plain_list_iadd _];show cO _ A.in1 (Builtin.List.listExtendWith (.ref s.heap.objs.size) (.ref r) (.ref s.heap.objs.size)) _ _ _;have G:(s.heap.push {cls:=.type "list",data:=.seq ([]:List cE).toArray}).get? s.heap.objs.size=some {cls:=.type "list",data:=.seq #[] 0}:=hS1 _ rfl;have j:∀ h' tk d g,(∀ b o',s.heap.get? b=some o'->h'.get? b=some o')->h'.get? s.heap.objs.size=some {cls:=.type "list",dict:=none,data:=.seq d g,slots:= #[]}->ItemsOf (fun i v=>∃ t,v = .int (a+i*c) t) d n ->
   cO (model prog w) A (match Value.ref s.heap.objs.size with
   |Value.ref a=>do
    match (<- load a).data with
     |Data.seq xs _=>pure xs.toList
     |_=>unsupported "internal:collect"
   |_=>unsupported "internal:collect") Q E {s with heap:=h',toks:=tk}:=by
  intro h' tk d g x k p;show cO _ A (load s.heap.objs.size >>= _) _ _ _;refine wB1 (wpAny_load k (?_:_));refine wP1 (?_:_);exact z h' tk d x p
 refine wpAny_mono (wpAny_extend_range (A:=A) (R:=λD s'=>∃h' tk d g,D = .ok (.ret (.ref s.heap.objs.size))/\s'={s with heap:=h',toks:=tk}/\(∀b o',s.heap.get? b=Z o'->h'.get? b=Z o')/\h'.get? s.heap.objs.size=Z {cls:=.type "list",dict:=Y,data:=.seq d g,slots:= #[]}/\ItemsOf (λi v=>∃t,v = .int (a+i*c) t) d n)
  (s:={s with heap:=s.heap.push {cls:=.type "list",data:=.seq ([]:List cE).toArray}}) C (hP1 _ hr) hsmall hn m _ _ 0 G λh' tk d g x k p=>
   ⟨h',tk,d,g,O,O,λb o e=>x b o (nN1 (hL1 e)) (hP1 _ e),k,p⟩) (λy s' h=>?_) (λe s' h=>?_)
 ·cases y with
  |done f=>
   obtain⟨h',tk,d,g,e,rfl,q⟩:=h;cases e;exact j h' tk d g q.1 q.2.1 q.2.2
  |again g=>exact⟨h.1,codeAny_mono h.2 λr B hr=>by obtain⟨h',tk,d,g,rfl,rfl,q⟩:=hr;exact j h' tk d g q.1 q.2.1 q.2.2⟩
 ·obtain⟨_,_,_,_,e,_⟩:=h;cases e
end
theorem rM(r:cG)(a b c:Int)(t u v:Tok)(n:Nat)(hsmall:Builtin.Range.small a b c=true)(hn:Builtin.Range.rangeSize a b c=n)(f:n<=2^20):
  Meets (Builtin.«tuple.__new__» ⟨[.type "tuple",.ref r],[]⟩)
   (λA R s=>A.handled=Y/\IsRange s.heap r a b c t u v /\ ∀(h':cP) (tk:Nat) (acc:Array cE),(∀b o',s.heap.get? b=Z o'->h'.get? b=Z o')->ItemsOf (λi v=>∃t,v = .int (a+i*c) t) acc n ->
    R (.ok (.ret (.ref h'.objs.size))) {s with heap:=h'.push {cls:=.type "tuple",data:=.seq acc},toks:=tk}):=
 .of_wp λprog w A R s h=>by
  obtain⟨q,g,d,k,D⟩:=s;obtain⟨C,m,h⟩:=h;have p:=sub_tuple_self;have j:=init_tuple_lookup;have z:=madeHere_tuple;have x:Shared.TypeIs ⟨q,g,d,k,D⟩ (.ref r) "range":=⟨_,m,O⟩;have l:A.in1.handled=Y:=C
  wp_walk using wpAny_loadPart' m,wpAny_typeOf x,qp l m hsmall hn (aC f (by decide))
  intro h' tk acc B o;show cO _ _ (Builtin.Tuple.tupleExact acc.toList.toArray >>= λv=>ret v) _ _ _;unfold Builtin.Tuple.tupleExact;have y:n<=cN:=aC f (by decide);refine wB1 (wO1 (?_:_) (show acc.toList.toArray.size<=cN by simp only[bR];rw[o.1];exact y));refine wP1 ⟨_,O,(?_:_)⟩;have e:acc.toList.toArray=acc:=by simp
  rw[e];exact h h' tk acc B o
section
variable{X:Cx}
theorem CQ(hc:X.calm=M):dV X (.type "tuple") (λxs H Q=>∃p i j,xs=[.ref p]/\H p=Z (.rng i j)/\(-(2^62)<=i/\i<2^62 /\ -(2^62)<=j/\j<2^62)/\(j-i).toNat<=2^20 /\ ∀l,H l=Y->Q (.ref l) (upd H l (.tup (iC i (j-i).toNat)))):=by
 intro ag s σ H xs K Q I r h;obtain⟨p,i,j,rfl,B,⟨h1,h2,am,D⟩,n,q⟩:=h;obtain⟨u,rfl,y⟩:=gB r;cases y;obtain⟨t,u,v,e⟩:=I.hok p _ B;have A:(((j-i).toNat:Nat):Int)=Builtin.Range.rangeSize i j 1:=by rw[rangeSize_one];split<;>lia
 refine callType_new F.called_tuple (by decide) (F.typeCall_tuple_1 _) (F.newCall_tuple_1 _) (λf=>F.args_object_init_2 f _) F.entry_tuple_new
  (rM p i j 1 t u v (j-i).toNat (small_one h1 h2 am D) A.symm n) ⟨I.ok.hd hc,e,λh' tk a G hi=>⟨⟨_,hS1 _ O,O⟩,(?_:_)⟩⟩
 obtain⟨g,c⟩:=hi;have d:dy (iC i (j-i).toNat) a.toList:=nP (by rw[hU];simpa using g.symm) λk x u E w=>by
  rw[lm _ _ _ _ E];obtain⟨z,rfl⟩:=c k u (by simpa using w);exact⟨z,by rw[Int.mul_one]⟩
 have m:Inv X ag σ H {s with heap:=h',toks:=tk}:=I.kept (t':=tk) G;have C:Inv X ag σ (upd H h'.objs.size (.tup (iC i (j-i).toNat))) {s with heap:=h'.push {cls:=.type "tuple",data:=.seq a},toks:=tk}:=
  m.laid (t':=tk) (λb o e=>hP1 _ e) (nR1 _) (show dZ X.prog X.w _ _ _ (.tup _)from⟨by rw[hU];exact aC n (by decide),a.toList,d,by simpa using IsTup.new _ _⟩)
 exact⟨.ref h'.objs.size,_,C,O,q _ (m.hok.fresh (nR1 _))⟩
noncomputable def zD(m:FA):FE:=λr S=>(m r S).bind λp=>match p.1 with
 |[.int j]=>if mM 0 j=M then Z (.tup (fK 0 j.toNat),p.2)else Y
 |_=>Y
theorem vw {a:Expr}{m:FA}{e p2 b c:Pos}(hc:X.calm=true)(hg:Gl X "range")(hm:X.mg "range"=none)(hg2:Gl X "tuple")(hm2:X.mg "tuple"=none)(ha:XA X [a] m)(hs:cM [a] X.env=[(false,eval a X.env)]:=by rfl)
  (hs2:cM [.Call (.Name "range" e) [a] [] b] X.env=[(J,eval (.Call (.Name "range" e) [a] [] b) X.env)]:=by rfl):XE X (.Call (.Name "tuple" p2) [.Call (.Name "range" e) [a] [] b] [] c) (zD m):=
 ⟨dX (ix (CQ hc) hg2 hm2 (by decide+kernel) (jb (mR hg hm ha.h hs) lv hs2) (by decide) (by decide) hs2) <| by
  rintro σ H Q ⟨r,mu,S,d,y,k,hs,hm,f⟩;obtain⟨⟨ds,x⟩,o,hm⟩:=oB1.mp hm;dsimp only at hm;split at hm
  ·rename_i j;split at hm
   ·rename_i h;cases hm;refine⟨r,mu,S,_,_,k,hs,o,λvs H1 mu1 s t q=>?_⟩;obtain⟨v,rfl,w⟩:=i9 t;cases w;refine⟨j,O,λp g=>⟨p,0,j,O,dr,(i8 h).1,(i8 h).2,λl i=>?_⟩⟩;have n:=(s.trans (Ext.fresh (u:=.rng 0 j) g)).trans (Ext.fresh (u:=.tup (iC 0 (j-0).toNat)) i);exact f _ _ mu1 n (.tup (iV.of dr) (by rw[Int.sub_zero];exact ll _ _)) ((q.fresh g).fresh i)
   ·cases hm
  ·cases hm⟩
end
section
variable{P:cH}{w:cJ}{A:cI}{E:cE->cF->Prop}{s:cF}
end
section
variable{X:Cx}
end
section
variable{X:Cx}{a b:Expr}{rest:List Expr}{pos:Pos}{ta tb:TE}{f g:FE}
end
section
variable{X:Cx}
theorem KR.len{K:Fg1}{H:Hp}{mu:List cG}{ks:List (Key×D)}{ws:List (Key×V)}(h:KR K H mu ks ws):ws.length=ks.length:=by
 induction h with
 |nil=>rfl
 |cons _ _ ih=>rw[lC1,lC1,ih]
end
section
variable{P:cH}{w:cJ}{A:cI}{E:cE->cF->Prop}{b:Bool}
end
section
variable{X:Cx}
end
theorem rV:∀{b:List cE} {ns:List Int},IntsAre b ns -> ∃xs:Array (Int×Tok),b.toArray=intItems xs/\xs.toList.map (·.1)=ns:=by
 intro b ns h
 induction h with
 |nil=>exact⟨#[],by simp[intItems],O⟩
 |cons n t _ ih=>
  obtain⟨xs,c,d⟩:=ih;refine⟨((n,t)::xs.toList).toArray,?_,by rw[mP1,d]⟩;have a:=congrArg Array.toList c;unfold intItems at a ⊢;rw[Array.toList_map]at a;rw[List.map_toArray,mP1]
  congr 1
  rw[<- a]
section
variable{X:Cx}
end
section
variable{prog:cH}{w:cJ}{A:cI}{E:cE->cF->Prop}{s:cF}
end
section
variable{X:Cx}{ag:List (cG×Obj)}{σ:L2.St}{H:Hp}{s:cF}{mu:List cG}
end
section
variable{X:Cx}
end
section
variable{X:Cx}{f:cG}{fd:cQ}{ps:List Str}{k n:Nat}{sp:Sp}{dvs:List V}{ds:List cE}{CX:vm}{E:XK}{t:TA}{e:Expr}{es:List Expr}{p pos:Pos}{i:Nat}{v x:Str}
end
section
variable{prog:cH}{w:cJ}{K:Type} [DecidableEq K] {knd:HeapKind prog w K}{A:cI}{E:cE->cF->Prop}{s:cF}
end
section
variable{X:Cx}
end
theorem FF.fits{es:Array (Int×cE)}{t:SetTable}(h:FF es t):t.fits es.size=M:=by
 unfold SetTable.fits SetTable.fill;rw[h.du,h.sz];have:=h.fl;simp;exact this
def E8(h:cP)(k:TK)(e:Int×cE):Prop:=∃a,e=(k.hash,.ref a)/\eS h k (.ref a)/\k.dep<=8
section
variable{prog:cH}{w:cJ}{A:cI}{E:cE->cF->Prop}{s:cF}
end
theorem eS.keepsS{h h':cP}{p:cG}{es:Array (Int×cE)}{ep:Nat}{t:SetTable}(ho:h.get? p=some (stO es ep t))(hs:∀ a o,a≠p->h.get? a=some o->h'.get? a=some o):∀ {k:TK} {v:cE},eS h k v->eS h' k v:=fun f=>f.rec (motive_1:=fun k v _=>eS h' k v) (motive_2:=fun k v _=>fF h' k v) .non .int
  (λ{a} _ _ _ _ c e d _ ih=>.tup (hs a _ (λz=>by subst z;rw[c]at ho;cases ho;cases d) c) e d ih) .nil (λ_ _ a b=>.cons a b)
theorem eS.grows{h h':cP}(hs:∀ a o,h.get? a=some o->h'.get? a=some o):∀ {k:TK} {v:cE},eS h k v->eS h' k v:=fun e=>e.rec (motive_1:=fun k v _=>eS h' k v) (motive_2:=fun k v _=>fF h' k v) .non .int
  (λ{a} _ _ _ _ d c f _ ih=>.tup (hs a _ d) c f ih) .nil (λ_ _ a b=>.cons a b)
theorem E8.keep{h h':cP}{p:cG}{es:Array (Int×cE)}{ep:Nat}{t:SetTable}(ho:h.get? p=Z (stO es ep t))(hs:∀a o,a≠p->h.get? a=Z o->h'.get? a=Z o){k:TK}{e:Int×cE}(x:E8 h k e):E8 h' k e:=by
 obtain⟨a,b,c,d⟩:=x;exact⟨a,b,c.keepsS ho hs,d⟩
def EY(h:cP)(xs:List (TK×cG×cE)):Prop:=∀z∈xs,eS h z.1 (.ref z.2.1)/\z.1.dep<=8
theorem EY.el{h:cP}{xs:List (TK×cG×cE)}{es:Array (Int×cE)}(c:EY h xs)(a:∀e∈es.toList,∃z∈xs,e=(z.1.hash,.ref z.2.1)):∀e∈es.toList,∃f,E8 h f e:=λe d=>by
 obtain⟨z,b,rfl⟩:=a e d;exact⟨z.1,z.2.1,O,(c z b).1,(c z b).2⟩
section
variable{P:cH}{w:cJ}{A:cI}{E:cE->cF->Prop}{s:cF}{p:cG}{xs:List (TK×cG×cE)}
end
section
variable{P:cH}{w:cJ}{A:cI}{E:cE->cF->Prop}
end
section
variable{X:Cx}
end
section
variable{X:Cx}{pos:Pos}
theorem ce{op:CmpOp}{x y:Expr}{f:FN}{a b:FE}(ho:e9 X (compareOp op) (r2 X.K f))(hx:XE X x a)(hy:XE X y b)(hm:behindInMarks op y=J:=by exact wI _):XE X (.Compare x [op] [y] pos) (m2 f a b):=yh ho hx hy hm
theorem ct{op:CmpOp}{x y:Expr}{f:FN}{a b:FE}(ho:e9 X (compareOp op) (r2 X.K f))(hx:XE X x a)(hy:XE X y b)(hm:behindInMarks op y=J:=by exact wI _):XT X (.Compare x [op] [y] pos) (mB (m2 f a b)):=qX ho hx hy hm
theorem kc{a:cS}{i:Nat}{l:List Nat}(x:Str)(r:∀i∈l,∃x,X.N[i]?=Z x/\a.names.lookup x=Z .free/\(X.env.kindOf x=Z .cell\/X.env.kindOf x=Z .free)/\(x,NameKind.cell)∉a.names)(h1:X.N[i]?=Z x:=by rfl)(h2:a.names.lookup x=Z .free:=by rfl)(c:X.env.kindOf x=Z .cell\/X.env.kindOf x=Z .free:=by first|exact Or.inl rfl|exact Or.inr rfl)(b:(x,NameKind.cell)∉a.names:=by decide+kernel):∀j∈i::l,∃x,X.N[j]?=Z x/\a.names.lookup x=Z .free/\(X.env.kindOf x=Z .cell\/X.env.kindOf x=Z .free)/\(x,NameKind.cell)∉a.names:=List.forall_mem_cons.mpr ⟨⟨x,h1,h2,c,b⟩,r⟩
end
structure dH (K:Fg1)(x:Str)(st:cR)(f:cG):Prop where
 ns:wN1 K cK x=some (some (.ref f))
 fn:∃fd,vk K x x st f fd
theorem EA{K:Fg1}{x:Str}{st:cR}{f:cG}{i:cE}{h g:Option cG}{e:Array (Option cE)}{kV d j b ct:cE}(a:wN1 K cK x=Z (Z (.ref f)))(l:K.lookup f=Z ⟨i,h,.func (wF1 x x (gi st) (ea st) (dg st) .none kV d j g b ct),e⟩)(c:wC1 K b x=M)(k:wK1 K (.ref f)=M):dH K x st f:=⟨a,_,xA l c k⟩
theorem xo{P:cH}{w:cJ}{K:Fg1}{mg:Str->Option cE}{base h:cP}{x:Str}{st:cR}{f:cG}{N ps:List Str}{k n:Nat}{b:FS}(X:K.In h)(G:h.Ns cK mg)(F:dH K x st f)(S:fq N ps (dg st))(hb:∀(kV e l:cE) (j:Option cG) (a ct:cE) (g:List cE),g.length=ps.length->bindArgs (wF1 x x (gi st) (ea st) (dg st) .none kV e l j a ct) ⟨g,[]⟩=pure (ps.zip g))(d:∀(f:cG) (a:cE) (A:cI) (c:List Env) (s:cF) (H:Hp) (E:XK),eM k (A.deeper (envOfC x (dg st) s.heap.objs.size f a)) ->
   sm (kE qz P w K mg base N x (dg st) f a A c s H E).nox (ea st) b)(hn:ps.length=n:=by rfl):ew P w K mg base (k+1) x n (gJ N.length b):=by
 obtain⟨fd,i⟩:=F.fn;exact yf i (i.binds hb) (wM1 X G F.ns) S hn (d f)
section
variable{X:Cx}{ag:List (cG×Obj)}{σ:L2.St}{H:Hp}{s:cF}{mu:List cG}
end
section
variable{P:cH}{w:cJ}{A:cI}{E:cE->cF->Prop}{s:cF}{a x:cG}{xs:List (TK×cG×cE)}{k:TK}
end
section
variable{X:Cx}
end
section
variable{X:Cx}{o e:Expr}{es:List Expr}{to:TE}{t:TA}{name:Str}{apos cpos:Pos}{id:String}{r:V->List V->Hp->VK->Prop}
end
section
variable{X:Cx}
end
section
variable{X:Cx}{x y z u:Expr}{pos:Pos}{f g k:FN}{a b c d:FE}{op op' op'':CmpOp}{ta tb tc td:TE}
end
structure Blt (L:List Str)(mg:Str->Option cE):Prop where
 h:∀x∈L,mg x=none
theorem bz{L:List Str}{mg:Str->Option cE}{x:Str}(B:Blt L mg)(h:x∈L:=by decide):mg x=Y:=B.h x h
theorem sk{N P:List Str}{sc:cS}(h1:sc.kind = .function:=by rfl)(h2:sc.isCoroutine=J:=by rfl)(e:sc.isGenerator=J:=by rfl)(d:N.Nodup:=by decide+kernel)(c:N.take P.length=P:=by rfl)(b:∀x∈P,sc.names.lookup x=Z .local\/sc.names.lookup x=Z .cell:=by decide+kernel)(a:∀y∈sc.names,y.2 ≠ .free:=by decide+kernel):fq N P sc:=⟨h1,h2,e,d,c,b,a⟩
def EV(K:Fg1):List Str->Prop
 |[]=>True
 |x::l=>wN1 K cK x=Z Y/\EV K l
theorem EV.blt{K:Fg1}{mg:Str->Option cE}{h:cP}(X:K.In h)(G:h.Ns cK mg):∀{L:List Str},EV K L->Blt L mg
 |[],_=>⟨λ_ m=>nomatch m⟩
 |_::_,z=>⟨λ_ m=>match m with
  | .head _=>PySem.W.mg_none_of X G z.1
  | .tail _ m=>(EV.blt X G z.2).h _ m⟩
noncomputable def Fa:List Str->Bool
 |[]=>M
 |x::l=> !l.contains x&&Fa l
theorem fD:∀{l:List Str},Fa l=M->l.Nodup
 |[],_=>bi
 |x::l,h=>by
  obtain⟨a,b⟩:=(bA1 _ _).mp h;exact aM.mpr ⟨λm=>(by rw[b7.mpr m]at a;cases a),fD b⟩
section
variable{X:Cx}{pos:Pos}{k:Nat}{x:Str}{i:Nat}{e y:Expr}{es:List Expr}{m b:FE}{a:FA}{p:Pos}
theorem xv (hN:X.N[i]?=Z x:=by rfl)(hv:Vis X.env.scope x:=by first|exact Or.inl rfl|exact Or.inr (Or.inl rfl)|exact Or.inr (Or.inr rfl))(hd:(x == ("__debug__":Str))=J:=by decide)(hcd:(x == ("__classdict__":Str))=J:=by decide):XE X (.Name x pos) (mV i):=GM i hN hv hd hcd
theorem gq(hN:Fa X.N=M:=by rfl)(hi:X.N[i]?=Z x:=by rfl)(hx:sw X.env.scope x:=by first|exact Or.inl rfl|exact Or.inr rfl)(hf:X.fn x=M\/X.env.scope.names.lookup x=Z .local:=by first|exact .inl rfl|exact .inr rfl|assumption):XG X (.Name x pos) (gN i):=qO i (fD hN) hi hx hf
theorem sq(he:XE X e m)(hN:Fa X.N=M:=by rfl)(hi:X.N[i]?=Z x:=by rfl)(hx:sw X.env.scope x:=by first|exact Or.inl rfl|exact Or.inr rfl)(hs:swapsWith e (Z (.Name x p)) pos.line X.env=pure J:=by rfl)(hf:X.fn x=M\/X.env.scope.names.lookup x=Z .local:=by first|exact .inl rfl|exact .inr rfl|assumption):XS X (.Assign [.Name x p] e pos) (db m (gN i)):=qY i (fD hN) hi hx he hs hf
theorem jq(hx:XE X e m)(hy:XE X y b)(hr:eM k X.A:=by assumption)(hs:kS y:=by intro _ _;rfl):XE X (.Subscript e y pos) (m2 (b2 cZ) m b):=qJ (qP hr.units) hx hy hs
theorem oq{au:Prop}(o:X.A.units+64<cLine->au)(hr:eM k X.A:=by assumption):au:=o hr.units
theorem wn {k' n:Nat}{f:FN}(h:ew X.prog X.w X.K X.mg X.base k x n f)(ha:XA X (e::es) a)(hr:eM k' X.A:=by assumption)(hk:k<=k':=by first|decide|omega)(hg:Gl X x:=by rfl)(hdb:(x == ("__debug__":Str))=J:=by decide)(he:cM (e::es) X.env=(J,eval e X.env)::cM es X.env:=by rfl)(hpl:(backTo pos (cM es X.env)).any (·.1)=J:=by rfl):XE X (.Call (.Name x p) (e::es) [] pos) (mN (cY n f) a):=qH h hr hk hg ha hdb he hpl
theorem cn {id:String}{f:FN}(hc:dV X (.builtin id) (rN X.K f))(ha:XA X (e::es) a)(hm:X.mg x=Y:=by exact bz (by assumption))(hg:Gl X x:=by rfl)(hv:bootBuiltins x=Z (.builtin id):=by decide+kernel)(hn:x≠"__name__":=by decide)(hdb:(x == ("__debug__":Str))=J:=by decide)(he:cM (e::es) X.env=(J,eval e X.env)::cM es X.env:=by rfl)(hpl:(backTo pos (cM es X.env)).any (·.1)=J:=by rfl):XE X (.Call (.Name x p) (e::es) [] pos) (mN f a):=qD hc hg hm hv ha hn hdb he hpl
theorem cz {T:String}{f:FN}(hc:dV X (.type T) (rN X.K f))(ha:XA X (e::es) a)(hm:X.mg x=Y:=by exact bz (by assumption))(hg:Gl X x:=by rfl)(hv:bootBuiltins x=Z (.type T):=by decide+kernel)(hn:x≠"__name__":=by decide)(hdb:(x == ("__debug__":Str))=J:=by decide)(he:cM (e::es) X.env=(J,eval e X.env)::cM es X.env:=by rfl)(hpl:(backTo pos (cM es X.env)).any (·.1)=J:=by rfl):XE X (.Call (.Name x p) (e::es) [] pos) (mN f a):=qE hc hg hm hv ha hn hdb he hpl
theorem a1(h:XE X e m)(hs:cM [e] X.env=(J,eval e X.env)::cM [] X.env:=by rfl):XA X [e] (cT m cU):=qA h qN hs
theorem a2(h:XE X e m)(g:XE X y b)(hs:cM [e,y] X.env=(J,eval e X.env)::cM [y] X.env:=by rfl)(hs2:cM [y] X.env=(J,eval y X.env)::cM [] X.env:=by rfl):XA X [e,y] (cT m (cT b cU)):=qA h (a1 g hs2) hs
theorem a3{z:Expr}{c:FE}(h:XE X e m)(g:XE X y b)(l:XE X z c)(hs:cM [e,y,z] X.env=(J,eval e X.env)::cM [y,z] X.env:=by rfl)(hs2:cM [y,z] X.env=(J,eval y X.env)::cM [z] X.env:=by rfl)(a:cM [z] X.env=(J,eval z X.env)::cM [] X.env:=by rfl):XA X [e,y,z] (cT m (cT b (cT c cU))):=qA h (a2 g l hs2 a) hs
theorem ir (ha:XA X [e] a)(hm:X.mg "range"=Y:=by exact bz (by assumption))(hg:Gl X "range":=by rfl)(hs:cM [e] X.env=[(J,eval e X.env)]:=by rfl):XI X y (.Call (.Name "range" p) [e] [] pos) (pQ a):=rd hg hm ha hs
theorem ie {elts:List Expr}{b:Nat}{tpos:Pos}(ha:XA X [e] a)(hm:X.mg "enumerate"=Y:=by exact bz (by assumption))(hg:Gl X "enumerate":=by rfl)(hs:cM [e] X.env=[(J,eval e X.env)]:=by rfl):XI X (.Tuple elts b tpos) (.Call (.Name "enumerate" p) [e] [] pos) (ve a):=vt hg hm ha hs
structure Lm (X:Cx)(name:Str)(id:String)(f:FN):Prop where
 s:Slot "list" name id
 t:typeOf (.builtin id)=pure (.type "method_descriptor")
 m:Dl X id (λx xs H Q=>rN X.K f (x::xs) H Q)
theorem ap:Lm X "append" "list.append" (b2 jr):=⟨PySem.F.slot_list_append,PySem.F.type_list_append,Dv⟩
theorem lq{f:FN}{name:Str}{apos:Pos}{id:String}(s:Lm X name id f)(ho:XE X y m)(ha:XA X (e::es) a)(hbase:attributeBase y name X.env (eval y X.env)=eval y X.env:=by rfl)(hfew:((backTo pos (cM (e::es) X.env)).all (λx=> !x.1)&&(backToKw pos (keywordEach [] X.env)).all (λx=>x.1.isSome)&&decide ((e::es).length+([]:List Keyword).length+(if([]:List Keyword).isEmpty then 0 else 1)<30))=M:=by rfl)(hline:(apos.endLine == pos.line)=M:=by rfl)(hs:cM (e::es) X.env=(J,eval e X.env)::cM es X.env:=by rfl)(hplain:(backTo pos (cM es X.env)).any (·.1)=J:=by rfl):XS X (.Expr (.Call (.Attribute y name apos) (e::es) [] pos) p) (eF (rP f m a)):=kU (qe s.s s.t s.m ho ha hbase hfew hline hs hplain)
theorem fo{tg iter:Expr}{a:List cR}{m:FI}{g:FG}{b:FS}(hi:XI X tg iter m)(hg:XG X tg g)(hb:sm X a b)(hp:PassesOwn (model X.prog X.w) X.A X.env X.xe:=by exact PassesOwn.never)(hc:X.calm=M:=by rfl)(hs:∀x,foldedSetIterable iter X.env x=pure x:=by intro _;rfl):XS X (.For tg iter a [] pos) (fz m g b):=qW hp hc hi hg hb hs
theorem tg2{d:Expr}{g h:FG}{a:Nat}(h1:XG X e g)(h2:XG X d h)(hc:X.calm=M:=by rfl)(hs:(assignEach [e,d] X.env).map (·.2)=assign e X.env::(assignEach [d] X.env).map (·.2):=by rfl)(hs2:(assignEach [d] X.env).map (·.2)=assign d X.env::(assignEach [] X.env).map (·.2):=by rfl)(hn:(assignEach [e,d] X.env).length=2:=by rfl)(hst:(assignEach [e,d] X.env).findIdx? (·.1)=Y:=by rfl):XG X (.Tuple [e,d] a pos) (gT 2 (gCs g (gCs h gNl))):=fG hc (c9 h1 (c9 h2 eT hs2) hs) hn hst
noncomputable def Fb(x:Str):List (Str×NameKind)->Bool
 |[]=>M
 |(y,.cell)::l=> !(y == x)&&Fb x l
 |_::l=>Fb x l
omit k i in
theorem wK:∀{l:List (Str×NameKind)},Fb x l=M->(x,NameKind.cell)∉l
 |[],_,m=>nomatch m
 |(y,c)::l,h,m=>by
  rcases aE.mp m with e|a
  ·cases e;have h:=((bA1 _ _).mp h).1;rw[beq_self_eq_true]at h;cases h
  ·cases c with
   |cell=>exact wK ((bA1 _ _).mp h).2 a
   |_=>exact wK (l:=l) h a
theorem kz{a:cS}{l:List Nat}(r:∀i∈l,∃x,X.N[i]?=Z x/\a.names.lookup x=Z .free/\(X.env.kindOf x=Z .cell\/X.env.kindOf x=Z .free)/\(x,NameKind.cell)∉a.names)(h1:X.N[i]?=Z x:=by rfl)(h2:a.names.lookup x=Z .free:=by rfl)(c:X.env.kindOf x=Z .cell\/X.env.kindOf x=Z .free:=by first|exact Or.inl rfl|exact Or.inr rfl)(b:Fb x a.names=M:=by rfl):∀j∈i::l,∃x,X.N[j]?=Z x/\a.names.lookup x=Z .free/\(X.env.kindOf x=Z .cell\/X.env.kindOf x=Z .free)/\(x,NameKind.cell)∉a.names:=kc x r h1 h2 c (wK b)
noncomputable def GF(X:Cx)(sc:cS):List (Str×cG):=(iE X.env.cells sc.names []).getD []
theorem fk{elt tg iter:Expr}{ifs:List Expr}{scope:cS}(T:List Str){keep:List Nat}{m:FI}{g:FG}{t:FT}{e:FE}(hi:XI X tg iter m)(hb:∀ {s H d},Gd (cxC X scope (GF X scope) T keep s H d) X.K tg ifs elt g t e)(free:∀i∈keep,∃x,X.N[i]?=Z x/\scope.names.lookup x=Z .free/\(X.env.kindOf x=Z .cell\/X.env.kindOf x=Z .free)/\(x,NameKind.cell)∉scope.names:=by first|exact b8 _|exact kz (b8 _)|exact kz (kz (b8 _))|exact kz (kz (kz (b8 _)))|exact kz (kz (kz (kz (b8 _)))))(hc:X.calm=M:=by rfl)(b:scope.kind = .function:=by rfl)(a:∀x∈scope.names,x.2 = .local->scope.names.lookup x.1=Z .local:=by decide+kernel)(c:iE X.env.cells scope.names []=Z (GF X scope):=by rfl)(hs:∀x,foldedSetIterable iter X.env x=pure x:=by intro _;rfl):XE X (.ListComp elt [⟨tg,iter,ifs,0⟩] scope pos) (dQ T.length keep m g t (dJ e)):=qZ hc ⟨b,a,free⟩ c hi (λ_ _ _=>hb) hs
end
theorem xq{P:cH}{w:cJ}{K:Fg1}{mg:Str->Option cE}{base h:cP}{x:Str}{st:cR}{f:cG}{k n:Nat}{b:FS}(N:List Str)(X:K.In h)(G:h.Ns cK mg)(F:dH K x st f)(d:∀{f:cG} {a:cE} {A:cI} {c:List Env} {s:cF} {H:Hp} {E:XK},eM k (A.deeper (envOfC x (dg st) s.heap.objs.size f a)) ->
   sm (kE qz P w K mg base N x (dg st) f a A c s H E).nox (ea st) b)(S:fq N (N.take n) (dg st):=by exact sk)(hb:∀(kV i m:cE) (j:Option cG) (a ct:cE) (e:List cE),e.length=(N.take n).length->bindArgs (wF1 x x (gi st) (ea st) (dg st) .none kV i m j a ct) ⟨e,[]⟩=pure ((N.take n).zip e):=by
   intro _ _ _ _ _ _ e g;first|exact Gz g λ_=>rfl|exact Gy g λ_ _=>rfl|exact Gx g λ_ _ _=>rfl|exact Hh g λ_ _ _ _=>rfl)(hn:(N.take n).length=n:=by rfl):ew P w K mg base (k+1) x n (gJ N.length b):=xo X G F S hb (λ_ _ _ _ _ _ _ l=>d l) hn
open AutoSeq1 (wpAny_loadPart')
section
variable{X:Cx}
end
mutual
noncomputable def pl:D->Bool
 | .non=>M
 | .bl _=>M
 | .int _=>M
 | .str _=>M
 | .tup xs=>Gr xs
 |_=>J
noncomputable def Gr:List D->Bool
 |[]=>M
 |x::xs=>pl x&&Gr xs
end
section
variable{X:Cx}{ag:List (cG×Obj)}{σ:L2.St}{H:Hp}{s:cF}{mu:List cG}{S:cV}
end
section
variable{prog:cH}{w:cJ}{A:cI}{E:cE->cF->Prop}{s:cF}
end
section
variable{X:Cx}{ag:List (cG×Obj)}{σ:L2.St}{H:Hp}{s:cF}{mu:List cG}{S:cV}
end
section
variable{prog:cH}{w:cJ}{A:cI}{E:cE->cF->Prop}{s:cF}
end
section
variable{X:Cx}
end
abbrev rk(ws:List cE)(p:Keyed):Nat:=Hd ws p.1
section
variable{prog:cH}{w:cJ}{A:cI}{E:cE->cF->Prop}{s:cF}{κ:SortKind}{ws:List cE}{a₀:Array Keyed}
end
structure Sm (st st':SortSt):Prop where
 k:kindOf st'=kindOf st
 a:arrOf st'=arrOf st
 p:pendingOf st'=pendingOf st
 f:failedOf st'=failedOf st
theorem Sm.rfl{st:SortSt}:Sm st st:=⟨_root_.rfl,_root_.rfl,_root_.rfl,_root_.rfl⟩
theorem Sm.g{st st':SortSt}(h:Sm st st')(g:Nat):Sm st (SortSt.mk' (kindOf st') (arrOf st') (pendingOf st') g (failedOf st')):=⟨h.k,h.a,h.p,h.f⟩
def yb(ws:List cE)(xs:List Keyed):Prop:=xs.Pairwise λp q=>rk ws p<rk ws q
def vd(ws:List cE)(xs ys:List Keyed):Prop:=∀x∈xs,∀y∈ys,rk ws x<rk ws y
section
variable{ws:List cE}{a b out xs ys zs:List Keyed}{i j k:Nat}
theorem yb.app(h1:yb ws xs)(h2:yb ws ys)(h:vd ws xs ys):yb ws (xs++ys):=List.pairwise_append.mpr ⟨h1,h2,h⟩
theorem vd.app(h1:vd ws xs zs)(h2:vd ws ys zs):vd ws (xs++ys) zs:=λx b y a=>(aF.mp b).elim (λh=>h1 x h y a) λh=>h2 x h y a
def Hv(ws:List cE)(a b r:List Keyed):Prop:=r.Perm (a++b)/\yb ws r
end
section
variable{prog:cH}{w:cJ}{A:cI}{E:cE->cF->Prop}{s:cF}{κ:SortKind}{ws:List cE}{a₀:Array Keyed}
end
section
variable{ws:List cE}{a b out xs ys zs:List Keyed}{i j k t:Nat}
theorem vd.to(h1:vd ws xs ys)(h2:vd ws xs zs):vd ws xs (ys++zs):=λx a y b=>(aF.mp b).elim (λh=>h1 x a y h) λh=>h2 x a y h
structure K0 (ws:List cE)(a b out:List Keyed)(i j:Nat):Prop where
 la:i<=a.length
 lb:j<=b.length
 len:out.length+(i+j)=a.length+b.length
 pm:(a.take i++b.take j++out.reverse).Perm (a++b)
 so:yb ws out.reverse
 ba:vd ws (a.take i) out
 bb:vd ws (b.take j) out
theorem K0.fs(h:K0 ws a b out i j)(e:yb ws a)(f:yb ws b)(hb:vd ws (b.take j) (a.take i)):Hv ws a b (b.take j++a.take i++out.reverse):=by
 refine⟨(List.perm_append_comm.append_right _).trans h.pm,?_⟩;exact(yb.app (f.sublist (aS _ _)) (e.sublist (aS _ _)) hb).app h.so (vd.app (λx c y d=>h.bb x c y (List.mem_reverse.mp d)) λx c y d=>h.ba x c y (List.mem_reverse.mp d))
end
section
variable{prog:cH}{w:cJ}{A:cI}{E:cE->cF->Prop}{s:cF}{κ:SortKind}{ws:List cE}{a₀:Array Keyed}
end
def ww:Nat->List (List Keyed)->List (Nat×Nat×Nat)->Prop
 |_,[],[]=>True
 |s,r::rs,(t,n,_)::p=>t=s/\n=r.length/\ww (s+r.length) rs p
 |_,_,_=>False
structure SR (ws:List cE)(κ:SortKind)(a₀:Array Keyed)(rs:List (List Keyed))(rest:List Keyed)(st:SortSt):Prop where
 k:kindOf st=κ
 f:failedOf st=none
 pm:(arrOf st).Perm a₀
 ar:(arrOf st).toList=rs.flatten++rest
 so:∀r∈rs,yb ws r/\r≠[]
 pe:ww 0 rs (pendingOf st).toList
section
variable{prog:cH}{w:cJ}{A:cI}{E:cE->cF->Prop}{s:cF}{κ:SortKind}{ws:List cE}{a₀:Array Keyed}
end
section
variable{prog:cH}{w:cJ}{A:cI}{E:cE->cF->Prop}{s:cF}{κ:SortKind}{ws:List cE}{a₀:Array Keyed}{lo:Nat}{st0:SortSt}
end
section
variable{prog:cH}{w:cJ}{A:cI}{E:cE->cF->Prop}{s:cF}{κ:SortKind}{ws:List cE}{a₀:Array Keyed}{rs:List (List Keyed)}{rest:List Keyed}{st st':SortSt}
theorem SR.size(h:SR ws κ a₀ rs rest st):rs.flatten.length+rest.length=a₀.size:=by
 have:=congrArg List.length h.ar;rw[aI,h.pm.size_eq,lA1]at this;exact this.symm
end
section
variable{prog:cH}{w:cJ}{A:cI}{E:cE->cF->Prop}{s:cF}
end
section
variable{X:Cx}
end
theorem nt:entryFor table "dict.update.loop"=Z Builtin.«dict.update.loop» :=entryFor_of_tree (by kernel_rfl)
theorem iw:plainId "dict.update.loop"=M:=by decide+kernel
theorem uu:typeLookup (.type "list") (Str.ofString "keys")=pure Y:=by rw[typeLookup_type,builtinLookup_eq_fast];kernel_rfl
section
variable{P:cH}{w:cJ}{A:cI}{E:cE->cF->Prop}{s:cF}
theorem u6 {a:cG}{xs:Array cE}{k:Nat}{sl:Array (Option cE)}{Q:Option cE->cF->Prop}(hx:s.heap.get? a=some {cls:=.type "list",dict:=none,data:=.seq xs k,slots:=sl})(l:A.handled=none)
  (h:∀h' tk,(∀b o,s.heap.get? b=Z o->h'.get? b=Z o)->Q Y {s with heap:=h',toks:=tk}):cO (model P w) A (getAttr? (.ref a) (Str.ofString "keys")) Q E s:=by
 obtain⟨j,g,d,tk,m⟩:=s;have i:∀f,(⟨j,g,d,f,m⟩:cF).TypeIs (.ref a) "list":=λ_=>⟨_,hx,O⟩;have t:=sub_AttributeError;have q:=PySem.F.slot_list_getattribute.lookup;have v:=PySem.F.slot_list_getattribute.bind (.ref a);have u:=am_list_getattr_none;unfold getAttr? getAttrBy? getAttrBy
 repeat(any_goals (first|assumption|exact i _|((with_reducible show cO _ _ (call (Value.builtin "list.__getattribute__") _ _) _ _ _);refine call_meets PySem.F.slot_list_getattribute (i _) am_entry_list_getattribute (PySem.F.args_list_getattribute_2 _ _) (meets_getattribute_miss_list a xs k sl _ _ uu (by decide) (by decide)) ⟨hx,l,λh' f e c=>?_⟩)|wp_step))
 obtain⟨p,n,r⟩:=c.there;show cO _ _ (getattributeRaised _ _ _ _ _ _ _) _ _ _;unfold getattributeRaised
 repeat(any_goals (first|assumption|wp_step))
 exact h _ _ c.keeps
variable{K:Type} [DecidableEq K] {knd:HeapKind P w K}
abbrev qS(K:Type):=K×cG×cE
noncomputable def fE(ps:List (qS K)):List (qS K):=ps.foldl (λa q=>storedH a q.1 q.2.1 q.2.2) []
theorem o4(xs:List (qS K))(k:K)(a:cG)(v:cE):(storedH xs k a v).length<=xs.length+1:=by
 unfold storedH;split
 ·rw[lM1];exact aV _
 ·rw[lA1];exact nR1 _
theorem nk:∀(ps acc:List (qS K)),(ps.foldl (λa q=>storedH a q.1 q.2.1 q.2.2) acc).length<=acc.length+ps.length
 |[],acc=>nR1 _
 |p::ps,acc=>by
  rw[bP,lC1];have h1:=nk ps (storedH acc p.1 p.2.1 p.2.2);have h2:=o4 acc p.1 p.2.1 p.2.2;lia
theorem rZ{ps:List (qS K)}{i:Nat}{q:qS K}(h:ps[i]?=Z q):fE (ps.take (i+1))=storedH (fE (ps.take i)) q.1 q.2.1 q.2.2:=by
 unfold fE;rw[bY,h,List.foldl_append];rfl
theorem pX{F:qS K->Prop}(c:∀(k:K) (a:cG) (v e:cE),F (k,a,v)->F (k,a,e)):∀(ps acc:List (qS K)),(∀x∈ps,F x)->(∀x∈acc,F x) -> ∀x∈ps.foldl (λa q=>storedH a q.1 q.2.1 q.2.2) acc,F x
 |[],acc,_,h=>h
 |p::ps,acc,hp,h=>by
  rw[bP];refine pX c ps _ (λx b=>hp x (mC1 _ b)) λx b=>?_;unfold storedH at b;split at b
  ·obtain⟨y,d,rfl⟩:=bX.mp b;unfold putAt;split
   ·exact c _ _ y.2.2 _ (h y d)
   ·exact h y d
  ·rcases aF.mp b with z|z
   ·exact h x z
   ·simp at z;subst z;exact hp p mS1
theorem xB{h:cP}{ps:List (qS K)}(hp:∀x∈ps,knd.is h x.1 x.2.1):∀x∈fE ps,knd.is h x.1 x.2.1:=
 pX (F:=λx=>knd.is h x.1 x.2.1) (λ_ _ _ _ z=>z) ps [] hp λx a=>by cases a
theorem uQ{d l it:cG}{h0:cP}{its:Array cE}{ps:List (qS K)}{R:Result->cF->Prop}(hh:A.handled=none)(X:knd.room A.in1)(v:its.size=ps.length)(hps:ps.length<=cN)(S:h0.IsList l its)(nd:h0.get? d=none)(aq:h0.get? it=none)(g:d≠it)(f:∀(h:cP) (k:K) (a:cG),(∀c o,h0.get? c=some o->h.get? c=some o)->knd.is h0 k a->knd.is h k a)(W:∀(i:Nat) (q:qS K),ps[i]?=some q -> ∃C:cG,its[i]?=some (Value.ref C)/\h0.IsTuple C #[Value.ref q.2.1,q.2.2]/\knd.is h0 q.1 q.2.1):
  ∀(n i:Nat) (s:cF),its.size-i=n->i<=its.size->(∀c o,h0.get? c=Z o->s.heap.get? c=Z o)->s.heap.IsListIter it l i->s.heap.DictOfH knd d (fE (ps.take i)) ->
  (∀h' tk,(∀c o,h0.get? c=Z o->h'.get? c=Z o)->h'.DictOfH knd d (fE ps)->R (.ok (.ret .none)) {s with heap:=h',toks:=tk})->codeAny (model P w) A (.builtin "dict.update.loop" ⟨[.ref d,.ref it,.int i 0,.none],[]⟩) R s:=by
 have D:∀{c:cG} {o:Obj},h0.get? c=Z o->c≠d/\c≠it:=λ{c o} e=>⟨λz=>(by rw[z,nd]at e;cases e),λz=>(by rw[z,aq]at e;cases e)⟩;have y:∀i,∀x∈fE (ps.take i),knd.is h0 x.1 x.2.1:=λi=>xB λx p=>by
  obtain⟨j,hj⟩:=bj (List.mem_of_mem_take p);obtain⟨_,_,_,h⟩:=W j x hj;exact h
 intro n
 induction n with
 |zero=>
  intro i s hk hi keep st N q;have e:i=its.size:=by lia
  subst e;have m:s.heap.IsList l its:=by obtain⟨o,e,r⟩:=S;exact⟨o,keep _ _ e,r⟩
  refine wD1 nt (?_:_);rw[Around.under_plainId iw _];show cO _ A.in1 (pyNext (.ref it) >>= _) _ _ s;refine wB1 (wpAny_pyNext_list_end (by simpa using hh) st m (by simp) λh' H=>?_);refine wB1 (wP1 (wP1 ?_));refine q h' s.toks (λc o e=>H c o (D e).2 (keep c o e)) ?_;have t:h'.DictOfH knd d (fE (ps.take its.size)):=by
   obtain⟨o,es,ep,F,E,L,G,g5,ao⟩:=N;have k2:∀x∈fE (ps.take its.size),knd.is h' x.1 x.2.1:=λx p=>f _ _ _ (λc o e=>H c o (D e).2 (keep c o e)) (y _ x p);exact⟨o,es,ep,H d o g F,E,L,G,k2,ao⟩
  rw[v,bN]at t;exact t
 |succ n ih=>
  intro i s hk hi keep st N q;have Q:i<its.size:=by lia
  have m:s.heap.IsList l its:=by obtain⟨o,e,r⟩:=S;exact⟨o,keep _ _ e,r⟩
  obtain⟨pr,B⟩:∃pr,ps[i]?=some pr:=⟨_,gG1 (by lia)⟩;obtain⟨C,p,⟨op,V,hc,np,hd⟩,I⟩:=W i pr B;refine wD1 nt (?_:_);rw[Around.under_plainId iw _];show cO _ A.in1 (pyNext (.ref it) >>= _) _ _ s;refine wB1 (wpAny_pyNext_list_item st m p λh' st' U=>?_);have b:∀c o,h0.get? c=Z o->h'.get? c=Z o:=λc o e=>by rw[U.2 c (D e).2];exact keep c o e
  have au:h'.DictOfH knd d (fE (ps.take i)):=by
   obtain⟨o,es,ep,F,E,L,G,g5,ao⟩:=N;exact⟨o,es,ep,by rw[U.2 d g];exact F,E,L,G,λx p=>f _ _ _ b (y _ x p),ao⟩
  show cO _ A.in1 (holding [Value.ref C] _ >>= _) _ _ _;refine wB1 (wpAny_holding (wB1 (wpAny_tryCatch ?_)));unfold Builtin.Dict.pairItems;refine wB1 (wpAny_typeOf (T:="tuple") ⟨op,b _ _ V,hc⟩ ?_);rw[ak (by decide)];refine wB1 (wpAny_seqItems (b _ _ V) hd (wP1 ?_));dsimp only[b9];refine wpAny_holding (wpAny_dictSet_heap (s:={s with heap:=h'}) X (f _ _ _ b I) au (λh2 am u=>?_) ?_)
  ·refine wP1 ⟨plainId_quiet iw _,?_⟩;have hq:=ih (i+1) {s with heap:=h2,toks:=s.toks+knd.draws pr.1} (by lia) Q (fun c o e=>by rw [u.2 c (D e).1];exact b c o e) (by
    obtain⟨o,wq,e2⟩:=st';exact⟨o,by rw[u.2 it (Ne.symm g)];exact wq,e2⟩) (by rw[rZ B];exact am) λh3 tk k3 x3=>q h3 tk k3 x3
   exact hq
  ·have:=nk (ps.take i) [];unfold fE;rw[aP]at this;simp at this;lia
theorem se {l:cG}{xs:Array cE}{j:Nat}{sl:Array (Option cE)}{Q:cE->cF->Prop}(p:A.handled=none)(hx:s.heap.get? l=some {cls:=.type "list",dict:=none,data:=.seq xs j,slots:=sl})
  (i:∀(k:cI) (h1:cP) (tk:Nat) (it:cG),k.handled=Y->k.units<=A.units+2->(∀b o,s.heap.get? b=Z o->h1.get? b=Z o)->s.heap.get? it=Y->s.heap.objs.size≠it->h1.IsListIter it l 0->h1.DictOfH knd s.heap.objs.size [] ->
   ∀R:Result->cF->Prop,(∀s',Q (.ref s.heap.objs.size) s'->R (.ok (.ret .none)) s')->codeAny (model P w) k (.builtin "dict.update.loop" ⟨[.ref s.heap.objs.size,.ref it,.int 0 0,.none],[]⟩) R {s with heap:=h1,toks:=tk}):
  cO (model P w) A (call (.type "dict") [.ref l]) Q E s:=by
 refine callType_codes (Q₁:=λh d=>h = .ref s.heap.objs.size/\d={s with heap:=s.heap.push {cls:=.type "dict",data:=.dict #[]}}) PySem.F.kt_called_dict (PySem.F.kt_typeCall_dict_1 _) PySem.F.entry_dict_init (kt_code_dict_new _ ⟨O,O⟩) ?_;rintro h d ⟨rfl,rfl⟩;have c:(s.heap.push {cls:=.type "dict",data:=.dict #[]}).DictOfH knd s.heap.objs.size []:=Heap.DictOfH.new s.heap;have n:Shared.TypeIs {s with heap:=s.heap.push {cls:=.type "dict",data:=.dict #[]}} (.ref s.heap.objs.size) "dict":=c.typeIs;have g:(s.heap.push {cls:=.type "dict",data:=.dict #[]}).get? l=Z {cls:=.type "list",dict:=Y,data:=.seq xs j,slots:=sl}:=hP1 _ hx;refine⟨n,PySem.F.args_dict_init_2 _ _,?_⟩;unfold Builtin.«dict.__init__»;refine wB1 ?_;unfold Builtin.Dict.selfAndRest;refine wB1 (wpAny_notOrdered_dict n ?_);show cO _ _ (pure (s.heap.objs.size,[Value.ref l])) _ _ _;refine wP1 ?_;show cO _ _ (Builtin.Dict.updateFrom "dict.__init__" s.heap.objs.size (.ref l) [] .none) _ _ _;unfold Builtin.Dict.updateFrom;refine wB1 (wpAny_typeOf (T:="list") ⟨_,g,O⟩ ?_);rw[ak (by decide)];refine wB1 (u6 (s:={s with heap:=s.heap.push {cls:=.type "dict",data:=.dict #[]}}) g (by simpa using p) λh1 tk keep=>?_);rw[ak (show(Y:Option cE).isNone=M from rfl)];have a:∀b o,s.heap.get? b=Z o->h1.get? b=Z o:=λb o e=>keep b o (hP1 _ e);have y:h1.IsList l xs:=⟨_,a _ _ hx,O,j,O⟩;refine wB1 (wpAny_rule (wB1 (wpAny_pyIter_list (s:={s with heap:=h1,toks:=tk}) y ?_)));obtain⟨C,es,ep,t,u,z,v,D,B⟩:=c;have r:=keep _ _ t;have m:=hL1 r;have f:h1.get? h1.objs.size=Y:=Heap.get?_none_of_le (nR1 _);refine wB1 (wP1 (wP1 ⟨plainId_quiet iw _,?_⟩));refine i A.in1 _ tk h1.objs.size (by simpa using p) (aV _) (λb o e=>hP1 _ (a b o e)) ?_ (nN1 m) ?_ ?_ _ λs' q=>⟨O,q⟩
 ·cases e:s.heap.get? h1.objs.size with
  |none=>rfl
  |some o=>rw[a _ _ e]at f;cases f
 ·exact⟨_,hS1 _ O,O,O⟩
 ·exact⟨C,es,ep,hP1 _ r,u,z,v,(λx hx=>by cases hx),B⟩
end
noncomputable def GE(F:List (TK×D)):Ob:=match F with
 |[]=>.dct []
 |_=>.dcT F
noncomputable def sX:D->Option (TK×D)
 | .tup [k,v]=>(keyT k).map λk=>(k,v)
 |_=>Y
noncomputable def hW:List D->Option (List (TK×D))
 |[]=>Z []
 |x::xs=>(sX x).bind λp=>(hW xs).map (p :: ·)
noncomputable def j9(ps:List (TK×D)):List (TK×D):=ps.foldl (λF p=>fc F p.1 p.2) []
noncomputable def lK:G1:=λd S=>match da S d with
 |some (M,xs)=>(hW xs).bind λps=>if xs.length<=100000 then Z (.ref S.length,S++[GE (j9 ps)])else Y
 |_=>Y
section
variable{X:Cx}{ag:List (cG×Obj)}{σ:L2.St}{H:Hp}{s:cF}{mu:List cG}
theorem wA(I:Inv X ag σ H s){d:D}{v:V}{u:cE}{p:TK×D}(r:dP X.K H mu d v)(q:de v u)(h:sX d=some p):
  ∃w:qS TK,(p.1=w.1/\p.1.dep<=8/\dP X.K H mu (tkD p.1) (.ref w.2.1) /\ ∃v,de v w.2.2/\dP X.K H mu p.2 v) /\ ∃g:cG,u = .ref g/\s.heap.IsTuple g #[Value.ref w.2.1,w.2.2]/\(eU X.prog X.w).is s.heap w.1 w.2.1:=by
 unfold sX at h;split at h
 ·rename_i k x;obtain⟨z,m,e⟩:=oM1.mp h;subst e;cases r with
  | @tup _ a vs h1 h2=>
   cases q;obtain⟨o,y,t,_⟩:=I.tuple h1;cases h2 with
   |cons n f=>cases f with
    |cons r2 c=>
     cases c;cases y with
     |cons i f=>cases f with
      |cons j c=>
       cases c;obtain⟨b,rfl,rfl,rk,l,hi⟩:=iQ I n i m;exact⟨(z,b,_),⟨O,l,rk,_,j,r2⟩,_,O,t,hi⟩
 ·cases h
theorem mS(I:Inv X ag σ H s):∀ {ds:List D} {vs:List V} {b:List cE} {ps:List (TK×D)},c5 X.K H mu ds vs->dy vs b->hW ds=some ps ->
  ∃ws:List (qS TK),KT X.K H mu ps ws/\ws.length=b.length /\ ∀(i:Nat) (q:qS TK),ws[i]?=Z q -> ∃a:cG,b[i]?=Z (Value.ref a)/\s.heap.IsTuple a #[Value.ref q.2.1,q.2.2]/\(eU X.prog X.w).is s.heap q.1 q.2.1
 |[],_,_,ps,.nil,.nil,h=>by cases h;exact⟨[],.nil,O,λi q h=>by simp at h⟩
 |d::ds,_,_,ps,.cons r t,.cons q c,h=>by
  rw[hW]at h;obtain⟨p,f,h⟩:=oB1.mp h;obtain⟨e,j,h⟩:=oM1.mp h;subst h;obtain⟨w,k,a,n,l,g⟩:=wA I r q f;obtain⟨ws,h1,h2,m⟩:=mS I t c j;refine⟨w::ws,.cons k h1,by rw[lC1,lC1,h2],λi q h=>?_⟩;cases i with
  |zero=>simp at h;subst h;exact⟨a,by rw[n];rfl,l,g⟩
  |succ i=>exact m i q (by simpa using h)
theorem KT.fold{K:Fg1}:∀{ps:List (TK×D)} {ws:List (qS TK)} {as:List (TK×D)} {bs:List (qS TK)},KT K H mu ps ws->KT K H mu as bs->KT K H mu (ps.foldl (λF p=>fc F p.1 p.2) as) (ws.foldl (λa q=>storedH a q.1 q.2.1 q.2.2) bs):=by
 intro ps ws as bs h
 induction h generalizing as bs with
 |nil=>exact λg=>g
 | @cons p q ps ws r t ih=>
  intro g;obtain⟨e,b,rk,v,c,r2⟩:=r;rw[bP,bP,<- e];exact ih (g.put b rk c r2)
theorem uL(ps:List (TK×D)):(j9 ps).length<=ps.length:=by
 have:∀(ps a:List (TK×D)),(ps.foldl (λF p=>fc F p.1 p.2) a).length<=a.length+ps.length:=by
  intro ps
  induction ps with
  |nil=>intro a;exact nR1 _
  |cons p ps ih=>
   intro a;rw[bP,lC1];have h1:=ih (fc a p.1 p.2);have h2:=j8 a p.1 p.2;lia
 have:=this ps [];simpa[j9]using this
theorem lu:∀{ds:List D} {ps:List (TK×D)},hW ds=Z ps->ps.length=ds.length
 |[],ps,h=>by cases h;rfl
 |d::ds,ps,h=>by
  rw[hW]at h;obtain⟨p,c,h⟩:=oB1.mp h;obtain⟨a,b,h⟩:=oM1.mp h;subst h;rw[lC1,lC1,lu b]
theorem Aj{k:Nat}(hr:eM k X.A):dV X (.type "dict") (rN X.K (b1 lK)):=by
 intro ag s σ H xs us Q I r h;obtain⟨x,mu,S,d,r',S',rfl,r1,D,c,hc⟩:=yG h;unfold lK at c;split at c
 ·rename_i ds au;obtain⟨ps,ep,c⟩:=oB1.mp c;split at c
  ·rename_i wq;cases c;obtain⟨a,vs,rfl,q,t⟩:=dn r1 D au;obtain⟨u,rfl,r2⟩:=gB r;cases r2;obtain⟨E,ao,ht,hz⟩:=I.list q;obtain⟨ws,kt,v,hP⟩:=mS I t ao ep;have w:E.length=ds.length:=by rw[<- ao.length,<- t.length]
   obtain⟨aq,n,N,B,A,f⟩:=ht;obtain⟨oc,od,oa,os⟩:=aq;dsimp only at B A f
   subst B A f
   have hu:=hr.un;refine se (knd:=eU X.prog X.w) hr.hd N λA' h1 tk it L hAu keep V ne st hD R hR=>?_;have am:ws.length<=100000:=by rw[v,w];exact wq
   have big:ws.length<=cN:=aC am (by decide);refine uQ (knd:=eU X.prog X.w) (h0:=s.heap) (its:=E.toArray) (ps:=ws) L (by show A'.units+1+8<cLine;lia) (by rw[sT1];exact v.symm) big ⟨_,N,O,n,O⟩ (Heap.get?_none_of_le (nR1 _)) V ne
    (λh k a e z=>⟨z.1.grows e,z.2⟩) (λi q e=>?_) _ 0 _ O (bd _) keep st (by simpa[fE]using hD) λh' m b g=>hR _ ?_
   ·obtain⟨pa,U,e2,e3⟩:=hP i q e;exact⟨pa,by rw[b6];exact U,e2,e3⟩
   ·have y:H s.heap.objs.size=none:=I.fresh;have j:KT X.K H mu (j9 ps) (fE ws):=KT.fold kt .nil;have C:(s.heap.objs.size == sysModules)=false:=beq_eq_false_iff_ne.mpr (Ne.symm (nN1 I.big));have l:(fE ws).length<=cN:=by
     rw[<- j.length];have h1:=uL ps;have h2:=lu ep;exact aC (by lia:(j9 ps).length<=100000) (by decide)
    cases ef:j9 ps with
    |nil=>
     rw[ef]at j hc;generalize fE ws=fw at j g l;cases j;obtain⟨o,es,G,P,T,g3,W,g5,g6⟩:=g;have K:es = #[]:=Array.toList_inj.mp (by simpa using W);subst K;refine⟨.ref s.heap.objs.size,upd H s.heap.objs.size (.dK []),I.laid (t':=m) (o:=.dK []) b (nR1 _) ⟨bd _,C,[],.nil,o,#[],G,P,T,g3,?_,?_,bi⟩,O,hc _ _ (mu++[s.heap.objs.size]) (Ext.new_ y) (.ref (fC D.len _)) (D.new y ⟨[],dr,.nil⟩)⟩
     ·intro e K;simp at K
     ·exact .nil
    |cons p F=>
     rw[ef]at j hc;refine⟨.ref s.heap.objs.size,upd H s.heap.objs.size (.ext (gy s.heap.objs.size (fE ws))),I.laid (t':=m) b (nR1 _) (oD C g),O,hc _ _ (mu++[s.heap.objs.size]) (Ext.new_ y) (.ref (fC D.len _)) (D.new y ⟨_,dr,j.ext (Ext.new_ y),l⟩)⟩
  ·cases c
 ·cases c
end
section
variable{K:Fg1}{H:Hp}{mu nu:List cG}{a:cG}{h:Nat}
end
noncomputable def xu:G2:=λd e S=>match d,e with
 | .int i,.int j=>if 0<=j/\j<=1000000/\i.natAbs<2^64 then Z (.int (i*2^j.toNat),S)else Y
 |_,_=>Y
noncomputable def xt:G2:=λd e S=>match d,e with
 | .int i,.int j=>if 0<=j then Z (.int (i/2^j.toNat),S)else Y
 |_,_=>Y
noncomputable def tN:G2:=λd e S=>match d,e with
 | .int i,.int j=>Z (.int (Builtin.bitAnd i j),S)
 |_,_=>Y
noncomputable def lJ:G2:=λd e S=>match d,e with
 | .int i,.int j=>if 0<j/\j<2^64 then Z (.int (i/j),S)else Y
 |_,_=>Y
noncomputable def pU:G1:=λd S=>match da S d with
 |some (M,xs)=>(jk xs).bind λns=>Z (.int ns.sum,S)
 |_=>Y
theorem yU:∀(l:List (Int×Tok)),preSum (numAt l.toArray) l.length=(l.map (·.1)).sum:=by
 intro l;have h:∀k,k<=l.length->preSum (numAt l.toArray) k=((l.map (·.1)).take k).sum:=by
  intro k
  induction k with
  |zero=>intro _;rfl
  |succ k ih=>
   intro a;rw[preSum,ih (by lia),List.take_add_one,List.sum_append,numAt_eq]
   congr 1
   have:k<(l.map (·.1)).length:=by rw[lM1];lia
   rw[bA,gG1 this];simp
 rw[h _ (nR1 _),bU (by simp)]
section
variable{X:Cx}
theorem D5:e9 X (binaryOp .LShift) (r2 X.K (b2 xu)):=gQ (c:=Aw) (v:=λi j=>.int (i*2^j.toNat)) (λd e S r a h=>by
 unfold xu at h;split at h
 ·split at h
  ·rename_i q;cases h;exact⟨_,_,O,O,q,O,O⟩
  ·cases h
 ·cases h) (λ_ _ _ _ _=>.int _) BJ
theorem D4:e9 X (binaryOp .RShift) (r2 X.K (b2 xt)):=gQ (c:=λ_ j=>0<=j) (v:=λi j=>.int (i/2^j.toNat)) (λd e S r a h=>by
 unfold xt at h;split at h
 ·split at h
  ·rename_i q;cases h;exact⟨_,_,O,O,q,O,O⟩
  ·cases h
 ·cases h) (λ_ _ _ _ _=>.int _) BI
theorem BX:e9 X (binaryOp .BitAnd) (r2 X.K (b2 tN)):=jf (v:=λi j=>.int (Builtin.bitAnd i j)) (λd e S r a h=>by
 unfold tN at h;split at h
 ·cases h;exact⟨_,_,O,O,O,O⟩
 ·cases h) (λ_ _ _ _ _=>.int _) BP
theorem rJ:e9 X (binaryOp .FloorDiv) (r2 X.K (b2 lJ)):=gQ (c:=λ_ j=>0<j/\j<2^64) (v:=λi j=>.int (i/j)) (λd e S r b h=>by
 unfold lJ at h;split at h
 ·split at h
  ·rename_i q;cases h;exact⟨_,_,O,O,q,O,O⟩
  ·cases h
 ·cases h) (λ_ _ _ _ _=>.int _) (opI λi j _ _ _ _ _ hc q=>by
  have h1:(0:Int)<j:=hc.1;refine floordiv_int (by lia) (by rw[Int.fdiv_eq_ediv_of_nonneg i (by lia)];exact q) (.inl (PyProof.noPylong_of_log2 ?_));have h2:j.natAbs<2^64:=by have:=hc.2;lia
  have a:j.natAbs≠0:=by lia
  have:=(Nat.log2_lt a).mpr h2;lia)
theorem CS(c:X.calm=M):dV X (.builtin "sum") (rN X.K (b1 pU)):=by
 intro ag s σ H xs y Q I r h;obtain⟨x,mu,S,d,z,A,rfl,p,e,b,hc⟩:=yG h;unfold pU at b;split at b
 ·rename_i ds f;obtain⟨ns,i,b⟩:=oB1.mp b;cases b;obtain⟨a,vs,rfl,q,t⟩:=dn p e f;obtain⟨u,rfl,r2⟩:=gB r;cases r2;obtain⟨m,n,o,w⟩:=I.list q;have k:=ng t n i;obtain⟨xs,l,j⟩:=rV k;refine sum_intListG (I.ok.hd c) (by rw[<- l];exact o.isList) λh' tk v keep=>?_;have g:preSum (numAt xs) xs.size=ns.sum:=by rw[<- j];exact yU xs.toList
  rw[g];exact⟨.int ns.sum,H,I.kept keep,⟨_,O⟩,hc.now (.int _) e⟩
 ·cases b
end
def W{α:Type}(o:Option α)(Q:α->Prop):Prop:=∃x,o=Z x/\Q x
section
variable{α β:Type}{Q:α->Prop}
theorem dv{x:α}:W (Z x) Q↔Q x:=⟨λ⟨_,e,h⟩=>(by cases e;exact h),λh=>⟨x,O,h⟩⟩
theorem iU:W (Y:Option α) Q↔False:=⟨λ⟨_,e,_⟩=>(by cases e),False.elim⟩
theorem c4{o:Option β}{f:β->Option α}:W (o.bind f) Q↔W o λx=>W (f x) Q:=by
 cases o with
 |none=>exact⟨λ⟨_,e,_⟩=>(by cases e),λ⟨_,e,_⟩=>(by cases e)⟩
 |some x=>exact⟨λh=>⟨x,O,h⟩,λ⟨_,e,h⟩=>by cases e;exact h⟩
theorem jz{o:Option β}{f:β->α}:W (o.map f) Q↔W o λx=>Q (f x):=by
 cases o with
 |none=>exact⟨λ⟨_,e,_⟩=>(by cases e),λ⟨_,e,_⟩=>(by cases e)⟩
 |some x=>exact⟨λ⟨_,e,h⟩=>(by cases e;exact⟨x,O,h⟩),λ⟨_,e,h⟩=>(by cases e;exact⟨_,O,h⟩)⟩
theorem qx{c:Prop}[Decidable c]{a b:Option α}:W (if c then a else b) Q↔if c then W a Q else W b Q:=by split<;>exact Iff.rfl
theorem W.mono{o:Option α}{Q':α->Prop}(h:W o Q)(k:∀x,Q x->Q' x):W o Q':=let ⟨x,e,q⟩:=h;⟨x,e,k x q⟩
theorem W.of{o:Option α}{x:α}(e:o=Z x)(h:Q x):W o Q:=⟨x,e,h⟩
end
theorem dD{a b:FS}{r:Ev}{S:cV}{Q:Fl×Ev×cV->Prop}(R:Ev->cV->Prop)(h1:W (a r S) λp=>p.1 = .nx/\R p.2.1 p.2.2)(h2:∀r S,R r S->W (b r S) Q):W (c7 a b r S) Q:=by
 obtain⟨⟨f,h,g⟩,e,c,d⟩:=h1;dsimp only at c d;subst c;unfold c7;rw[e];exact h2 h g d
theorem kK{n:Nat}{b:FS}{ds:List D}{S:cV}{Q:D×cV->Prop}(h:W (b (fB n ds) S) fun p=>match p.1 with
  | .rt d=>Q (d,p.2.2)
  | .nx=>Q (.non,p.2.2)
  |_=>False):W (gJ n b ds S) Q:=by
 obtain⟨⟨f,c,a⟩,e,q⟩:=h;unfold gJ;rw[e];cases f with
 |rt d=>exact⟨_,O,q⟩
 |nx=>exact⟨_,O,q⟩
 |bk=>exact q.elim
 |ct=>exact q.elim
theorem ke{n:Nat}{f:FN}{ds:List D}{S:cV}{Q:D×cV->Prop}(hn:ds.length=n)(a:D.unds 0 ds=J)(h:W (f ds S) λp=>Q (gc S.length p)):W (cY n f ds S) Q:=by
 obtain⟨⟨d,b⟩,e,q⟩:=h;exact⟨_,nw e hn a,q⟩
theorem lW{n:Nat}{f:FN}{ds:List D}{S:cV}{Q:D×cV->Prop}(hn:ds.length=n)(a:D.unds 0 ds=M)(h:W (f ds []) λp=>p.1.und 0=M/\Q (p.1,S)):W (cY n f ds S) Q:=by
 obtain⟨⟨d,g⟩,e,b,c⟩:=h;exact⟨_,uW e hn a b,c⟩
mutual
theorem ed{n:Nat}:∀{d:D},d.und 0=M->d.und n=M
 | .non,_=>rfl
 | .bl _,_=>rfl
 | .int _,_=>rfl
 | .str _,_=>rfl
 | .tup xs,h=>by rw[D.und]at h ⊢;exact eh h
 | .rol xs,h=>by rw[D.und]at h ⊢;exact eh h
 | .fn _,_=>rfl
 | .ref k,h=>by simp[D.und]at h
theorem eh{n:Nat}:∀{ds:List D},D.unds 0 ds=M->D.unds n ds=M
 |[],_=>rfl
 |d::ds,h=>by
  rw[D.unds,bA1]at h ⊢;exact⟨ed h.1,eh h.2⟩
end
theorem eD{c:List (Nat×List D)}{g:FG}{b:FS}{Q:Fl×Ev×cV->Prop}(I:Nat->Ev->cV->Prop):∀ (items:List D) (k:Nat) (r:Ev) (S:cV),I k r S ->
  (∀i r S,I i r S->mT S c=M) ->
  (∀i d,items[i]?=Z d -> ∀r S,I (k+i) r S->W (g d r S) λp=>W (b p.1 p.2) λq=>q.1 = .nx/\I (k+i+1) q.2.1 q.2.2) ->
  (∀r S,I (k+items.length) r S->Q (.nx,r,S))->W (ji c g b items r S) Q
 |[],k,r,S,hi,hok,_,hq=>by rw[ji];dsimp only;rw[ak (hok _ _ _ hi),dv];exact hq r S (by simpa using hi)
 |d::ds,k,r,S,hi,hok,hs,hq=>by
  rw[ji];dsimp only;rw[ak (hok _ _ _ hi),c4];obtain⟨p,l,h1⟩:=hs 0 d O r S (by simpa using hi);refine⟨p,l,?_⟩;dsimp only;rw[c4];obtain⟨⟨f,o,j⟩,n,h2,e⟩:=h1;refine⟨_,n,?_⟩;dsimp only at h2 e ⊢;subst h2;refine eD I ds (k+1) o j (by simpa using e) hok (λi h m r S a=>?_) λr S a=>hq r S (by rw[lC1,show k+(ds.length+1)=k+1+ds.length by lia];exact a);have:=hs (i+1) h (by simpa using m) r S (by rw[show k+(i+1)=k+1+i by lia];exact a);rw[show k+(i+1)+1=k+1+i+1 by lia]at this;exact this
theorem iA{c:List (Nat×List D)}{g:FG}{t:FT}{e:FE}{Q:List D×Ev×cV->Prop}(I:Nat->List D->Ev->cV->Prop):∀ (items:List D) (k:Nat) (acc:List D) (r:Ev) (S:cV),I k acc r S ->
  (∀i acc r S,I i acc r S->mT S c=M) ->
  (∀i d,items[i]?=Z d -> ∀acc r S,I (k+i) acc r S->W (g d r S) λp=>W (t p.1 p.2) λb=>if b.1=M then W (e p.1 b.2) λx=>I (k+i+1) (acc++[x.1]) p.1 x.2 else I (k+i+1) acc p.1 b.2) ->
  (∀xs r S,I (k+items.length) (acc++xs) r S->Q (xs,r,S))->W (e6 c g t (dJ e) items r S) Q
 |[],k,acc,r,S,hi,hok,_,hq=>by rw[e6];dsimp only;rw[ak (hok _ _ _ _ hi),dv];exact hq [] r S (by simpa using hi)
 |d::ds,k,acc,r,S,hi,hok,hs,hq=>by
  rw[e6];dsimp only;rw[ak (hok _ _ _ _ hi),c4];obtain⟨p,l,h1⟩:=hs 0 d O acc r S (by simpa using hi);refine⟨p,l,?_⟩;dsimp only;rw[c4];obtain⟨⟨b,j⟩,o,h2⟩:=h1;refine⟨_,o,?_⟩;have step:∀i f,ds[i]?=Z f -> ∀acc r S,I (k+1+i) acc r S->W (g f r S) λp=>W (t p.1 p.2) λb=>if b.1=M then W (e p.1 b.2) λx=>I (k+1+i+1) (acc++[x.1]) p.1 x.2 else I (k+1+i+1) acc p.1 b.2:=λi f n acc r S a=>by
   have:=hs (i+1) f (by simpa using n) acc r S (by rw[show k+(i+1)=k+1+i by lia];exact a);rw[show k+(i+1)+1=k+1+i+1 by lia]at this;exact this
  dsimp only at h2 ⊢;cases b with
  |true=>
   rw[ak O]at h2 ⊢;rw[c4,dJ,jz];obtain⟨⟨x,q⟩,m,h⟩:=h2;refine⟨_,m,?_⟩;dsimp only at h ⊢;rw[jz];refine iA I ds (k+1) (acc++[x]) p.1 q (by simpa using h) hok step λxs r S a=>?_;refine hq _ r S ?_;rw[lC1,show k+(ds.length+1)=k+1+ds.length by lia];simpa using a
  |false=>
   rw[aj (by decide)]at h2 ⊢;refine iA I ds (k+1) acc p.1 j (by simpa using h2) hok step λxs r S a=>?_;refine hq _ r S ?_;rw[lC1,show k+(ds.length+1)=k+1+ds.length by lia];exact a
theorem Fm{S:cV}{b:Bool}:yv S (.bl b)=Z b:=rfl
theorem E3{S:cV}:yv S .non=Z J:=rfl
theorem E5{S:cV}{i:Int}:yv S (.int i)=Z (i != 0):=rfl
theorem z3{x y:Int}{S:cV}:oA (.int x) (.int y) S=Z (.bl (x == y),S):=rfl
theorem zV{x y:Int}{S:cV}:vf (.int x) (.int y) S=Z (.bl (!(x == y)),S):=rfl
theorem zY{x y:Int}{S:cV}:vg (.int x) (.int y) S=Z (.bl (decide (x<y)),S):=rfl
theorem tK{x y:Str}{S:cV}:oA (.str x) (.str y) S=Z (.bl (x == y),S):=rfl
theorem zU{x y:Str}{S:cV}:vf (.str x) (.str y) S=Z (.bl (!(x == y)),S):=rfl
theorem ite_and'{c p:Prop}[Decidable c]:(if c then p else False)↔c/\p:=by split<;>simp[*]
noncomputable def vh(j:Int):Bool:=decide (-(2^62)<=j)&&decide (j<2^62)
theorem fN{n:Nat}(h:n<2^60):vh n=M:=by
 unfold vh;rw[bA1,al,al];lia
theorem si{j:Int}(h: -(2^60)<=j)(h':j<2^60):vh j=M:=by
 unfold vh;rw[bA1,al,al];lia
def Bf(p:List D×cV)(Q:vj×cV->Prop):Prop:=match p.1 with
 |[.int j]=>vh j=M/\Q (⟨fK 0 j.toNat,[]⟩,p.2)
 |_=>False
def E9(p:List D×cV)(Q:vj×cV->Prop):Prop:=match p.1 with
 |[.int i,.int j]=>vh i=M/\vh j=M/\Q (⟨fK i (j-i).toNat,[]⟩,p.2)
 |_=>False
theorem tZ{m:FA}{r:Ev}{S:cV}{Q:vj×cV->Prop}:W (pQ m r S) Q↔W (m r S) λp=>Bf p Q:=by
 unfold pQ;rw[c4];constructor
 ·refine λh=>h.mono λp q=>?_;unfold Bf;split at q
  ·rename_i j e
   try rw[e]
   rw[qx]at q;split at q
   ·rename_i hc;exact⟨by unfold vh;rw[bA1,al,al];exact hc,dv.mp q⟩
   ·exact(iU.mp q).elim
  ·exact(iU.mp q).elim
 ·refine λh=>h.mono λp q=>?_;unfold Bf at q;split at q
  ·rename_i j e;obtain⟨a,b⟩:=q;unfold vh at a;rw[bA1,al,al]at a
   try rw[e]
   try dsimp only
   rw[ak a];exact dv.mpr b
  ·exact q.elim
theorem ER{m:FA}{r:Ev}{S:cV}{Q:vj×cV->Prop}:W (Di m r S) Q↔W (m r S) λp=>E9 p Q:=by
 unfold Di;rw[c4];constructor
 ·refine λh=>h.mono λp q=>?_;unfold E9;split at q
  ·rename_i i j e
   try rw[e]
   rw[qx]at q;split at q
   ·rename_i hc;refine⟨?_,?_,dv.mp q⟩
    ·unfold vh;rw[bA1,al,al];exact⟨hc.1,hc.2.1⟩
    ·unfold vh;rw[bA1,al,al];exact hc.2.2
   ·exact(iU.mp q).elim
  ·exact(iU.mp q).elim
 ·refine λh=>h.mono λp q=>?_;unfold E9 at q;split at q
  ·rename_i i j e;obtain⟨a,b,c⟩:=q;unfold vh at a b;rw[bA1,al,al]at a b
   try rw[e]
   try dsimp only
   rw[ak ⟨a.1,a.2,b⟩];exact dv.mpr c
  ·exact q.elim
noncomputable def fits(n:Nat):Bool:=decide (n<=cN)
theorem df{n:Nat}(h:n<=100000):fits n=M:=by unfold fits;rw[al];exact aC h (by decide)
theorem pY{n:Nat}:fits n=M↔n<=cN:=by unfold fits;rw[al]
theorem GC:fits 0=M:=df (by decide)
theorem Hr:fits 1=M:=df (by decide)
theorem F5:fits 2=M:=df (by decide)
theorem F4:fits 3=M:=df (by decide)
theorem Hq:fits 4=M:=df (by decide)
theorem Ho:fits 5=M:=df (by decide)
theorem HA:fits 6=M:=df (by decide)
theorem Hn:fits 7=M:=df (by decide)
theorem Hm:fits 8=M:=df (by decide)
theorem gx{α:Type}{n:Nat}{o:Option α}{Q:α->Prop}:W (if n<=cN then o else Y) Q↔fits n=M/\W o Q:=by
 rw[pY,qx];split
 ·rename_i h;exact⟨λq=>⟨h,q⟩,λq=>q.2⟩
 ·rename_i h;exact⟨λq=>(iU.mp q).elim,λq=>absurd q.1 h⟩
theorem sn{a:FA}{r:Ev}{S:cV}{Q:D×cV->Prop}:W (dL a r S) Q↔W (a r S) λp=>fits p.1.length=M/\Q (.tup p.1,p.2):=by
 unfold dL;rw[c4];exact⟨λh=>h.mono λp q=>(gx.mp q).imp_right dv.mp,λh=>h.mono λp q=>gx.mpr (q.imp_right dv.mpr)⟩
theorem xZ{a:FA}{r:Ev}{S:cV}{Q:D×cV->Prop}:W (fe a r S) Q↔W (a r S) λp=>fits p.1.length=M/\Q (.ref p.2.length,p.2++[.lst p.1]):=by
 unfold fe;rw[c4];exact⟨λh=>h.mono λp q=>(gx.mp q).imp_right dv.mp,λh=>h.mono λp q=>gx.mpr (q.imp_right dv.mpr)⟩
theorem hC{k:Nat}{keep:List Nat}{m:FI}{g:FG}{t:FT}{b:FV}{r:Ev}{S:cV}{Q:D×cV->Prop}:W (dQ k keep m g t b r S) Q↔W (m r S) λp=>W (e6 p.1.chk g t b p.1.items (pP k keep r) p.2) λq=>fits q.1.length=M/\Q (.ref q.2.2.length,q.2.2++[.lst q.1]):=by
 unfold dQ;rw[c4];refine⟨λh=>h.mono λp q=>?_,λh=>h.mono λp q=>?_⟩
 ·rw[c4]at q;exact q.mono λz w=>(gx.mp w).imp_right dv.mp
 ·rw[c4];exact q.mono λz w=>gx.mpr (w.imp_right dv.mpr)
theorem Ge{xs ys:List D}{S:cV}{Q:D×cV->Prop}:W (et (.tup xs) (.tup ys) S) Q↔fits (xs.length+ys.length)=M/\Q (.tup (xs++ys),S):=
 ⟨λq=>(gx.mp q).imp_right dv.mp,λq=>gx.mpr (q.imp_right dv.mpr)⟩
theorem C9{x y:Int}{S:cV}{Q:D×cV->Prop}:W (et (.int x) (.int y) S) Q↔Q (.int (x+y),S):=dv
theorem x4{a b:Nat}{xs ys:List D}{S:cV}{Q:D×cV->Prop}(h1:S[a]?=Z (.lst xs))(h2:S[b]?=Z (.lst ys)):W (et (.ref a) (.ref b) S) Q↔fits (xs.length+ys.length)=M/\Q (.ref S.length,S++[.lst (xs++ys)]):=by
 rw[et];simp only[h1,h2];exact⟨λq=>(gx.mp q).imp_right dv.mp,λq=>gx.mpr (q.imp_right dv.mpr)⟩
theorem kn{n:Nat}{v:D}{xs:List D}{S:cV}{Q:D×cV->Prop}(h:S[n]?=Z (.lst xs)):W (jr (.ref n) v S) Q↔fits (xs.length+1)=M/\Q (.non,S.set n (.lst (xs++[v]))):=by
 rw[jr];simp only[h];rw[qx,pY];split
 ·rename_i a;exact⟨λq=>⟨a,dv.mp q⟩,λq=>dv.mpr q.2⟩
 ·rename_i a;exact⟨λq=>(iU.mp q).elim,λq=>absurd q.1 a⟩
theorem qw{n:Nat}{i:Nat}{xs:List D}{x:D}{S:cV}{Q:D×cV->Prop}(h:S[n]?=Z (.lst xs))(hx:xs[i]?=Z x)(q:Q (x,S)):W (cZ (.ref n) (.int i) S) Q:=by
 refine W.of (x:=(x,S)) ?_ q;have a:=(gE1.mp hx).1;simp only[cZ,jN,xy,h,da,qM,rS,oS1,ak (show(0:Int)<=i by lia)];rw[ak (by lia)];simp[hx]
theorem km{i:Nat}{xs:List D}{x:D}{S:cV}{Q:D×cV->Prop}(hx:xs[i]?=Z x)(q:Q (x,S)):W (cZ (.tup xs) (.int i) S) Q:=by
 refine W.of (x:=(x,S)) ?_ q;have a:=(gE1.mp hx).1;simp only[cZ,jN,xy,da,qM,rS,oS1,ak (show(0:Int)<=i by lia)];rw[ak (by lia)];simp[hx]
theorem C3{n:Nat}{i:Nat}{xs:List D}{v:D}{S:cV}{Q:D×cV->Prop}(h:S[n]?=Z (.lst xs))(hx:i<xs.length)(q:Q (.non,S.set n (.lst (xs.set i v)))):W (gg (.ref n) (.int i) v S) Q:=by
 refine W.of (x:=(.non,S.set n (.lst (xs.set i v)))) ?_ q;simp only[gg,jo,ib,h,rS,ak (show(0:Int)<=i by lia)];rw[ak (by lia)];simp
theorem Hc:aN 0 (Y:Option D)=[]:=rfl
theorem Gq:aN 1 (Y:Option D)=[Y]:=rfl
theorem GZ:aN 2 (Y:Option D)=[Y,Y]:=rfl
theorem GX:aN 3 (Y:Option D)=[Y,Y,Y]:=rfl
theorem Hy:aN 4 (Y:Option D)=[Y,Y,Y,Y]:=rfl
theorem GW:aN 5 (Y:Option D)=[Y,Y,Y,Y,Y]:=rfl
theorem Hx:aN 6 (Y:Option D)=[Y,Y,Y,Y,Y,Y]:=rfl
theorem GV:aN 7 (Y:Option D)=[Y,Y,Y,Y,Y,Y,Y]:=rfl
theorem GU:aN 8 (Y:Option D)=[Y,Y,Y,Y,Y,Y,Y,Y]:=rfl
theorem Hw:aN 9 (Y:Option D)=[Y,Y,Y,Y,Y,Y,Y,Y,Y]:=rfl
theorem Hb:aN 10 (Y:Option D)=[Y,Y,Y,Y,Y,Y,Y,Y,Y,Y]:=rfl
theorem DL:aN 11 (Y:Option D)=[Y,Y,Y,Y,Y,Y,Y,Y,Y,Y,Y]:=rfl
theorem Ha:aN 12 (Y:Option D)=[Y,Y,Y,Y,Y,Y,Y,Y,Y,Y,Y,Y]:=rfl
theorem G9:aN 13 (Y:Option D)=[Y,Y,Y,Y,Y,Y,Y,Y,Y,Y,Y,Y,Y]:=rfl
theorem G8:aN 14 (Y:Option D)=[Y,Y,Y,Y,Y,Y,Y,Y,Y,Y,Y,Y,Y,Y]:=rfl
theorem G7:aN 15 (Y:Option D)=[Y,Y,Y,Y,Y,Y,Y,Y,Y,Y,Y,Y,Y,Y,Y]:=rfl
theorem G6:aN 16 (Y:Option D)=[Y,Y,Y,Y,Y,Y,Y,Y,Y,Y,Y,Y,Y,Y,Y,Y]:=rfl
theorem G5:aN 17 (Y:Option D)=[Y,Y,Y,Y,Y,Y,Y,Y,Y,Y,Y,Y,Y,Y,Y,Y,Y]:=rfl
theorem G4:aN 18 (Y:Option D)=[Y,Y,Y,Y,Y,Y,Y,Y,Y,Y,Y,Y,Y,Y,Y,Y,Y,Y]:=rfl
theorem G0:aN 19 (Y:Option D)=[Y,Y,Y,Y,Y,Y,Y,Y,Y,Y,Y,Y,Y,Y,Y,Y,Y,Y,Y]:=rfl
theorem GY:aN 20 (Y:Option D)=[Y,Y,Y,Y,Y,Y,Y,Y,Y,Y,Y,Y,Y,Y,Y,Y,Y,Y,Y,Y]:=rfl
theorem fL{α:Type}{T G:List α}{k:Nat}:(T++G)[T.length+k]?=G[k]?:=by rw[gR1 (by lia)];congr 1;lia
theorem dF{α:Type}{T G:List α}:(T++G)[T.length]?=G[0]?:=by rw[gR1 (by lia)];congr 1;lia
theorem oz{S:cV}{i j:Nat}{xs:List D}(h:S[i]?=Z (.lst xs))(h':S[j]?=Z (.lst [])):vf (.ref i) (.ref j) S=Z (.bl (!xs.isEmpty),S):=by
 unfold vf dU;rw[show(60:Nat)=59+1 from rfl,kM];simp only[da,h,h'];cases xs with
 |nil=>simp[xG]
 |cons x xs=>simp
mutual
noncomputable def qB:D->Bool
 | .non=>M
 | .bl _=>M
 | .int i=>decide (i.natAbs<10^6)
 | .str x=>(PyData.str x).leavesShort 13&&decide ((PyData.str x).weight<=20)
 | .tup xs=>ma xs
 | .rol _=>J
 | .fn _=>J
 | .ref _=>J
noncomputable def ma:List D->Bool
 |[]=>M
 |d::ds=>qB d&&ma ds
end
mutual
noncomputable def lU:D->Nat
 | .tup xs=>jv xs
 | .non=>0 | .bl _=>0 | .int _=>0 | .str _=>0 | .rol _=>0 | .fn _=>0 | .ref _=>0
noncomputable def jv:List D->Nat
 |[]=>0
 |d::ds=>lU d+1+jv ds
end
mutual
noncomputable def xK:D->Nat
 | .tup xs=>mi xs+1
 | .non=>0 | .bl _=>0 | .int _=>0 | .str _=>0 | .rol _=>0 | .fn _=>0 | .ref _=>0
noncomputable def mi:List D->Nat
 |[]=>0
 |d::ds=>max (xK d) (mi ds)
end
mutual
theorem DH:∀{d:D},qB d=M -> ∃p,pyD d=Z p/\p.showable=M/\p.leavesShort 13=M/\p.weight+1<=21*(lU d+1)/\p.depth=xK d
 | .non,_=>⟨.none,by simp only[pyD],by simp only[PyData.showable],by simp only[PyData.leavesShort],by simp only[PyData.weight,lU];lia,by simp only[PyData.depth,xK]⟩
 | .bl b,_=>⟨.bool b,by simp only[pyD],by simp only[PyData.showable],by simp only[PyData.leavesShort],by simp only[PyData.weight,lU];lia,by simp only[PyData.depth,xK]⟩
 | .int i,h=>by
  have h':i.natAbs<10^6:=by simpa only[qB,al]using h
  have c:i.natAbs.log2<20:=by
   by_cases z:i.natAbs=0
   ·rw[z];decide
   ·exact(Nat.log2_lt z).mpr (by lia)
  refine⟨.int i,by simp only[pyD],by simp only[PyData.showable,al];lia,?_,?_,by simp only[PyData.depth,xK]⟩
  ·simp only[PyData.leavesShort,al];exact PyData.shown_int_le (by lia)
  ·simp only[PyData.weight,lU];split<;>lia
 | .str x,h=>by
  have h':(PyData.str x).leavesShort 13=M/\(PyData.str x).weight<=20:=by simpa only[qB,bA1,al]using h
  exact⟨.str x,by simp only[pyD],by simp only[PyData.showable],h'.1,by simp only[lU];have:=h'.2;lia,by simp only[PyData.depth,xK]⟩
 | .tup xs,h=>by
  obtain⟨ps,e,h1,h2,f,a⟩:=rp (ds:=xs) (by simpa only[qB]using h);exact⟨.tuple ps,by simp only[pyD,e,oP1],by simpa only[PyData.showable]using h1,by simpa only[PyData.leavesShort]using h2,by simp only[PyData.weight,lU];lia,by simp only[PyData.depth,xK,a]⟩
 | .rol _,h=>by simp only[qB]at h;cases h
 | .fn _,h=>by simp only[qB]at h;cases h
 | .ref _,h=>by simp only[qB]at h;cases h
theorem rp:∀{ds:List D},ma ds=M -> ∃ps,pyDs ds=Z ps/\PyData.showableAll ps=M/\PyData.leavesShortAll 13 ps=M/\PyData.weightAll ps<=21*jv ds/\PyData.depthAll ps=mi ds
 |[],_=>⟨[],by simp only[pyDs],by simp only[PyData.showableAll],by simp only[PyData.leavesShortAll],by simp only[PyData.weightAll];lia,by simp only[PyData.depthAll,mi]⟩
 |d::ds,h=>by
  simp only[ma,bA1]at h;obtain⟨p,e,h1,h2,j,i⟩:=DH h.1;obtain⟨ps,f,c,b,g,a⟩:=rp h.2;refine⟨p::ps,by simp only[pyDs,e,f,oS1,oP1],by simp only[PyData.showableAll,h1,c,ca],by simp only[PyData.leavesShortAll,h2,b,ca],?_,by simp only[PyData.depthAll,mi,i,a]⟩;simp only[PyData.weightAll,jv];lia
end
theorem yI{xs:List D}(h:ma xs=M)(hc:jv xs<=40000)(hd:mi xs<=50):∃t,∀S,iL (.tup xs) S=Z (.str t,S):=by
 obtain⟨ps,e,h1,h2,c,b⟩:=rp h;refine⟨(PyData.tuple ps).shown,λS=>?_⟩;have a:(PyData.tuple ps).showable=M/\(PyData.tuple ps).shown.length<=cN/\(PyData.tuple ps).depth<=60:=
  ⟨by simpa only[PyData.showable]using h1,PyData.shown_fits (B:=13) (by decide) (by decide) (by simpa only[PyData.leavesShort]using h2) (by simp only[PyData.weight];lia),by simp only[PyData.depth];lia⟩
 simp only[iL,e,oS1,ak a]
theorem kZ{α:Type}{f:α->D}:∀{l:List α},(∀x∈l,qB (f x)=M)->ma (l.map f)=M
 |[],_=>by simp only[aW,ma]
 |x::xs,h=>by simp only[mP1,ma,h x mS1,kZ λy a=>h y (mC1 _ a),ca]
theorem jR{α:Type}{f:α->D}{k:Nat}:∀{l:List α},(∀x∈l,lU (f x)<=k)->jv (l.map f)<=(k+1)*l.length
 |[],_=>by simp only[aW,jv];lia
 |x::xs,h=>by
  have h1:=h x mS1;have h2:=jR (l:=xs) λy a=>h y (mC1 _ a);simp only[mP1,jv,lC1,Nat.mul_add];lia
theorem lS{α:Type}{f:α->D}{k:Nat}:∀{l:List α},(∀x∈l,xK (f x)<=k)->mi (l.map f)<=k
 |[],_=>by simp only[aW,mi];lia
 |x::xs,h=>by
  have h1:=h x mS1;have h2:=lS (l:=xs) λy a=>h y (mC1 _ a);simp only[mP1,mi];lia
theorem oe:∀(n:Nat) (lo:Int),fK lo n=(af n).map λi:Nat=>D.int (lo+i)
 |0,lo=>rfl
 |n+1,lo=>by
  rw[fK,oe n (lo+1),List.range_succ_eq_map,mP1,bn]
  congr 1
  ·simp
  ·apply cb;intro i _;simp only[Function.comp_apply,Nat.succ_eq_add_one]
   congr 1
   push_cast
   lia
theorem mW(n:Nat):fK 0 n=(af n).map λi:Nat=>D.int i:=by
 rw[oe];apply cb;intro i _;simp
theorem pI{α:Type}{c:List (Nat×List D)}{g:FG}{t:FT}{e:FE}{S:cV}{f:α->D}{Q:List D×Ev×cV->Prop}(F:α->D)(P:Ev->Prop)(d:mT S c=true):∀ (xs:List α) (r:Ev),P r ->
  (∀a∈xs,∀r,P r->W (g (f a) r S) λp=>W (t p.1 p.2) λb=>b.1=M/\W (e p.1 b.2) λx=>x.1=F a/\x.2=S/\P p.1) ->
  (∀i,P i->Q (xs.map F,i,S))->W (e6 c g t (dJ e) (xs.map f) r S) Q
 |[],r,hr,_,h=>by rw[aW,e6];dsimp only;rw[ak d,dv];exact h r hr
 |a::xs,r,hr,hs,h=>by
  rw[mP1,e6];dsimp only;rw[ak d,c4];obtain⟨p,m,⟨b,s,k,⟨x,o,q,u,l⟩⟩⟩:=hs a mS1 r hr;refine⟨p,m,?_⟩;dsimp only;rw[c4];refine⟨b,s,?_⟩;dsimp only;rw[ak k,c4,dJ,jz];refine⟨x,o,?_⟩;dsimp only;rw[u,jz];refine pI F P d xs p.1 l (λa n=>hs a (mC1 _ n)) λi j=>?_;have:=h i j;rw[mP1,<- q]at this;exact this
theorem fM{α:Type}{c:List (Nat×List D)}{g:FG}{t:FT}{e:FE}{S:cV}{f:α->D}{Q:List D×Ev×cV->Prop}(k:α->Bool)(F:α->D)(P:Ev->Prop)(d:mT S c=true):∀ (xs:List α) (r:Ev),P r ->
  (∀a∈xs,∀r,P r->W (g (f a) r S) λp=>W (t p.1 p.2) λb=>b.1=k a/\b.2=S/\P p.1/\(k a=M->W (e p.1 S) λx=>x.1=F a/\x.2=S)) ->
  (∀j,P j->Q ((xs.filter k).map F,j,S))->W (e6 c g t (dJ e) (xs.map f) r S) Q
 |[],r,hr,_,h=>by rw[aW,e6];dsimp only;rw[ak d,dv];exact h r hr
 |a::xs,r,hr,hs,h=>by
  rw[mP1,e6];dsimp only;rw[ak d,c4];obtain⟨p,u,⟨b,w,q,s,o,n⟩⟩:=hs a mS1 r hr;refine⟨p,u,?_⟩;dsimp only;rw[c4];refine⟨b,w,?_⟩;dsimp only;cases hk:k a with
  |true=>
   rw[q,hk,ak O,c4,dJ,jz,s];obtain⟨x,v,n,m⟩:=n hk;refine⟨x,v,?_⟩;dsimp only;rw[m,jz];refine fM k F P d xs p.1 o (λa l=>hs a (mC1 _ l)) λj i=>?_;have:=h j i;rw[cc,hk,ak O,mP1,<- n]at this;exact this
  |false=>
   rw[q,hk,aj (by decide),s];refine fM k F P d xs p.1 o (λa l=>hs a (mC1 _ l)) λj i=>?_;have:=h j i;rw[cc,hk,aj (by decide)]at this;exact this
mutual
theorem A0{n m:Nat}(h:n<=m):∀{d:D},d.und n=M->d.und m=M
 | .non,_=>rfl
 | .bl _,_=>rfl
 | .int _,_=>rfl
 | .str _,_=>rfl
 | .tup xs,q=>by rw[D.und]at q ⊢;exact gO h q
 | .rol xs,q=>by rw[D.und]at q ⊢;exact gO h q
 | .fn _,_=>rfl
 | .ref k,q=>by simp[D.und]at q ⊢;lia
theorem gO{n m:Nat}(h:n<=m):∀{ds:List D},D.unds n ds=M->D.unds m ds=M
 |[],_=>rfl
 |d::ds,q=>by
  rw[D.unds,bA1]at q ⊢;exact⟨A0 h q.1,gO h q.2⟩
end
theorem fS{n m:Nat}(h:n<=m):∀{o:Ob},o.und n=M->o.und m=M
 | .lst xs,q=>by rw[Ob.und]at q ⊢;exact gO h q
 | .dct xs,q=>by rw[Ob.und]at q ⊢;exact gO h q
 | .dcT xs,q=>by rw[Ob.und]at q ⊢;exact gO h q
 | .dcF xs,q=>by rw[Ob.und]at q ⊢;exact gO h q
 | .iset _,_=>rfl
 | .tst _,_=>rfl
theorem dk{α:Type}{n:Nat}{f:α->D}:∀{xs:List α},(∀x∈xs,(f x).und n=M)->D.unds n (xs.map f)=M
 |[],_=>rfl
 |x::xs,h=>by rw[mP1,D.unds,h x mS1,dk λy a=>h y (mC1 _ a)];rfl
theorem Hu{x:Nat}:x+1+1=x+2:=rfl
theorem HG{x:Nat}:x+2+1=x+3:=rfl
theorem HF{x:Nat}:x+3+1=x+4:=rfl
theorem HE{x:Nat}:x+4+1=x+5:=rfl
theorem HD{x:Nat}:x+5+1=x+6:=rfl
theorem HC{x:Nat}:x+6+1=x+7:=rfl
theorem Ht{x:Nat}:x+1+2=x+3:=rfl
theorem fj{xs:List D}{S:cV}:d9 (.tup xs) S=Z (.int xs.length,S):=rfl
theorem Fd{xs:List D}{S:cV}:d9 (.rol xs) S=Z (.int xs.length,S):=rfl
theorem Em{S:cV}:d9 (.str "") S=Z (.int 0,S):=rfl
theorem sM{xs:List D}{S:cV}:da S (.tup xs)=Z (J,xs):=rfl
theorem E7{xs:List D}{S:cV}:da S (.rol xs)=Z (M,xs):=rfl
theorem tT{xs:List D}{S:cV}:ig S (.tup xs)=[]:=rfl
theorem Fg{xs:List D}{S:cV}:ig S (.rol xs)=[]:=rfl
theorem ga{n:Nat}{xs:List D}{S:cV}(h:S[n]?=Z (.lst xs)):da S (.ref n)=Z (M,xs):=by simp only[da,h]
theorem tU{n:Nat}{xs:List D}{S:cV}(h:S[n]?=Z (.lst xs)):ig S (.ref n)=[(n,xs)]:=by simp only[ig,h]
def sW(S:cV)(d:D)(Q:List D×List (Nat×List D)->Prop):Prop:=W (da S d) λq=>Q (q.2,ig S d)
theorem lh{xs:List D}{S:cV}{Q:List D×List (Nat×List D)->Prop}:sW S (.tup xs) Q↔Q (xs,[]):=dv
theorem dI{n:Nat}{xs:List D}{S:cV}{Q:List D×List (Nat×List D)->Prop}(h:S[n]?=Z (.lst xs))(q:Q (xs,[(n,xs)])):sW S (.ref n) Q:=by
 unfold sW;rw[ga h,tU h,dv];exact q
theorem C6{m:FE}{r:Ev}{S:cV}{Q:vj×cV->Prop}:W (gn m r S) Q↔W (m r S) λp=>sW p.2 p.1 λq=>Q (⟨q.1,q.2⟩,p.2):=by
 unfold gn;rw[c4];refine⟨λh=>h.mono λp q=>?_,λh=>h.mono λp q=>?_⟩
 ·rw[c4]at q;exact q.mono λz w=>dv.mp w
 ·rw[c4];exact W.mono (show W (da p.2 p.1) _ from q) λz w=>dv.mpr w
theorem C8{d:D}{S:cV}{Q:D×cV->Prop}:W (Mi.gTup d S) Q↔sW S d λq=>Q (.tup q.1,S):=by
 unfold Mi.gTup;rw[jz];exact Iff.rfl
theorem EQ{n:Nat}{S:cV}{Q:D×cV->Prop}:W (d9 (.ref n) S) Q↔sW S (.ref n) λq=>Q (.int q.1.length,S):=by
 unfold d9 sW;rw[jz]
noncomputable def pD(e:Nat×Nat):D:=.tup [.int e.1,.int e.2]
theorem kl{f:FN}{o:FE}{a:FA}{r:Ev}{S:cV}{Q:D×cV->Prop}(h:W (o r S) λp=>∃n xs,p.1 = .ref n/\p.2[n]?=Z (.lst xs)/\W (a r p.2) λq=>W (f (.ref n::q.1) q.2) Q):W (rP f o a r S) Q:=by
 unfold rP;rw[c4];refine h.mono ?_;rintro⟨d,b⟩ ⟨n,xs,rfl,e,q⟩;dsimp only at e q ⊢;rw[e];dsimp only;rw[c4];exact q
noncomputable def d4(row:List (Nat×Nat)):Ob:=.lst (row.map pD)
theorem fO{n:Nat}{row:List (Nat×Nat)}:(d4 row).und n=M:=by
 unfold d4;rw[Ob.und];exact dk λ_ _=>rfl
structure WS (t m:Nat)(T:cV)(E:List (List (Nat×Nat)))(P:List (Nat×Nat))(U:cV):Prop where
 tl:T.length=t
 low:U.take t=T
 el:E.length=m
 row:∀i row,E[i]?=some row->U[t+i]?=some (d4 row)
 ends:U[t+m]?=some (.lst (gj (t+1) m))
 prs:U[t+m+1]?=some (.lst (P.map pD))
theorem WS.app{t m:Nat}{T:cV}{E:List (List (Nat×Nat))}{P:List (Nat×Nat)}{U G:cV}(w:WS t m T E P U):WS t m T E P (U++G):=by
 have b:t+m+1<U.length:=(gE1.mp w.prs).1;refine⟨w.tl,?_,w.el,λi a h=>?_,?_,?_⟩
 ·rw[List.take_append_of_le_length (by omega)];exact w.low
 ·have:=w.row i a h;rw[gL1 (gE1.mp this).1];exact this
 ·rw[gL1 (by omega)];exact w.ends
 ·rw[gL1 (by omega)];exact w.prs
theorem ja:∀{k n i:Nat},i<k->(gj n k)[i]?=Z (.ref (n+i))
 |k+1,n,0,_=>rfl
 |k+1,n,i+1,h=>by rw[gj,gC1,ja (Nat.lt_of_succ_lt_succ h),show n+1+i=n+(i+1) by lia]
theorem gF:∀k n:Nat,(gj n k).length=k
 |0,_=>rfl
 |k+1,n=>by rw[gj,lC1,gF]
noncomputable def tot(E:List (List (Nat×Nat))):Nat:=(E.map List.length).sum
theorem vI:∀{E:List (List (Nat×Nat))} {k:Nat},k<=E.length->(∀i b,i<k->E[i]?=Z b->4<=b.length)->4*k<=tot E
 |E,0,_,_=>by lia
 |[],k+1,h,_=>by simp at h
 |a::E,k+1,h,q=>by
  have h1:=q 0 a (by lia) O;have h2:=vI (E:=E) (k:=k) (by simpa using h) λi b hi c=>q (i+1) b (by lia) (by simpa using c);simp[tot]at h2 ⊢;lia
noncomputable def dw(rs:List Nat):List D:=rs.map λi:Nat=>D.int i
theorem gR(rs:List Nat):(dw rs).length=rs.length:=by simp[dw]
theorem gm(rs:List Nat):D.unds 0 (dw rs)=M:=dk λ_ _=>rfl
abbrev Wk:=Nat×Nat×Nat
noncomputable def ej(w:Wk):D:=.tup [.int w.1,.int w.2.1,.int w.2.2]
noncomputable def dj(ws:List Wk):List D:=ws.map ej
theorem ip(ws:List Wk):(dj ws).length=ws.length:=by simp[dj]
theorem kG(ws:List Wk):D.unds 0 (dj ws)=M:=dk λ_ _=>rfl
noncomputable def cX(ws:List Wk)(cs:List Nat):D:=.tup [.tup (dj ws),.tup (dw cs)]
theorem eP{ws:List Wk}{cs:List Nat}:(cX ws cs).und 0=M:=by simp[cX,D.und,D.unds,kG,gm]
noncomputable def eG(a b c d:Bool):List D:=(if a then[.str "came"]else[])++(if b then[.str "chalk"]else[])++(if c then[.str "doors"]else[])++(if d then[.str "others"]else[])
theorem lO(a b c d:Bool):D.unds 0 (eG a b c d)=M:=by cases a<;>cases b<;>cases c<;>cases d<;>rfl
theorem zT{a b c d:Bool}{S:cV}:gt (.str "came") (.tup (eG a b c d)) S=Z (.bl a,S):=by cases a<;>cases b<;>cases c<;>cases d<;>rfl
theorem xi{a b c d:Bool}{S:cV}:gt (.str "chalk") (.tup (eG a b c d)) S=Z (.bl b,S):=by cases a<;>cases b<;>cases c<;>cases d<;>rfl
theorem xh{a b c d:Bool}{S:cV}:gt (.str "doors") (.tup (eG a b c d)) S=Z (.bl c,S):=by cases a<;>cases b<;>cases c<;>cases d<;>rfl
theorem uI{a b c d:Bool}{S:cV}:gt (.str "others") (.tup (eG a b c d)) S=Z (.bl d,S):=by cases a<;>cases b<;>cases c<;>cases d<;>rfl
theorem ox{S:cV}{n:Nat}{x:Nat}:∀a:List Nat,AL (kM S (n+1)) (.int x) (dw a)=Z (a.contains x)
 |[]=>rfl
 |c::a=>by
  have b:kM S (n+1) (.int c) (.int x)=Z ((c:Int) == (x:Int)):=rfl;have d:((c:Int) == (x:Int))=(x == c):=by
   rw[bH,beq_iff_eq,beq_iff_eq];lia
  have ih:=ox (S:=S) (n:=n) (x:=x) a;rw[dw,mP1,AL,b,d];rw[dw]at ih;rw[ih,List.contains_cons];rfl
theorem tE{S:cV}{x:Nat}{cs:List Nat}:gt (.int x) (.tup (dw cs)) S=Z (.bl (cs.contains x),S):=by
 simp only[gt,rY,Dj,da,oS1,dU,show(60:Nat)=59+1 from rfl,ox,oP1]
noncomputable def rq(a b c d:Bool)(came chalk doors others:Int):D:=.tup [if a then .int came else .non,if b then .int chalk else .non,if c then .int doors else .non,if d then .int others else .non]
theorem mH{a b c d:Bool}{w x y z:Int}:(rq a b c d w x y z).und 0=M:=by cases a<;>cases b<;>cases c<;>cases d<;>rfl
theorem w8{κ:Type}[DecidableEq κ]{k:κ}:dq ([]:List (κ×D)) k=Y:=rfl
theorem eE{κ:Type}[DecidableEq κ]{k a:κ}{d:D}{r:List (κ×D)}:dq ((a,d)::r) k=if a=k then Z d else dq r k:=by
 unfold dq;rw[aX];by_cases h:a=k
 ·simp[h]
 ·simp[h]
theorem pK{κ:Type}[DecidableEq κ]{k:κ}{b:List (κ×D)}:∀{a:List (κ×D)},dq (a++b) k=(dq a k).or (dq b k)
 |[]=>rfl
 |(x,d)::a=>by
  rw[bf,eE,eE,pK (a:=a)];split<;>rfl
theorem m6{κ:Type}[DecidableEq κ]{k:κ}:∀{a:List (κ×D)},(a.any λp=>decide (p.1=k))=J->dq a k=Y
 |[],_=>rfl
 |(x,d)::a,h=>by
  simp only[aY,Bool.or_eq_false_iff,decide_eq_false_iff_not]at h;rw[eE,aj h.1];exact m6 h.2
theorem jL{κ:Type}[DecidableEq κ]{k k':κ}{v:D}:∀{a:List (κ×D)},(a.any λp=>decide (p.1=k))=M->dq (a.map λp=>if p.1=k then(p.1,v)else p) k'=if k'=k then Z v else dq a k'
 |[],h=>by simp at h
 |(x,d)::a,h=>by
  rw[mP1];by_cases f:x=k
  ·subst f;rw[ak (show(x,d).1=x from rfl)];rw[eE,eE];by_cases e:k'=x
   ·subst e;simp
   ·rw[aj (Ne.symm e),aj (Ne.symm e),aj e];by_cases g:(a.any λp=>decide (p.1=x))=M
    ·rw[jL g,aj e]
    ·have:(a.map fun p=>if p.1=x then (p.1,v) else p)=a:=by
      have c:(a.any λp=>decide (p.1=x))=J:=Bool.eq_false_iff.mpr g;rw[List.any_eq_false]at c
      conv=>rhs;rw[<- cf a]
      apply cb;intro p i;have:=c p i;simp at this;simp[this]
     rw[this]
  ·simp only[aY,ai f,Bool.false_or]at h;rw[aj (show¬ (x,d).1=k from f)];rw[eE,eE,jL h];by_cases b:x=k'
   ·subst b;simp[f]
   ·simp[b]
theorem pJ{κ:Type}[DecidableEq κ]{k k':κ}{v:D}{a:List (κ×D)}:dq (fc a k v) k'=if k'=k then Z v else dq a k':=by
 unfold fc;split
 ·rename_i h;exact jL h
 ·rename_i h;have h':(a.any λp=>decide (p.1=k))=J:=Bool.eq_false_iff.mpr h;rw[pK,eE,w8];by_cases b:k'=k
  ·subst b;rw[m6 h',ak O];rfl
  ·rw[aj (Ne.symm b),aj b];cases dq a k'<;>rfl
theorem yO{κ:Type}[DecidableEq κ]{k:κ}{v:D}{a:List (κ×D)}:(fc a k v).length<=a.length+1:=by
 unfold fc;split
 ·rw[lM1];lia
 ·rw[lA1];simp
theorem Bk{κ:Type}[DecidableEq κ]{k:κ}{v:D}{a:List (κ×D)}:fc a k v≠[]:=by
 unfold fc;split
 ·rename_i h;intro z;cases a with
  |nil=>simp at h
  |cons x xs=>simp at z
 ·simp
noncomputable def dO(F:List (TK×D)):Ob:=if F=[]then .dct []else .dcT F
theorem C4{U:cV}{n:Nat}{F:List (TK×D)}{a v:D}{k:TK}{Q:D×cV->Prop}(h:U[n]?=Z (dO F))(hk:keyT a=Z k)(c:F.length<1000)(q:Q (.non,U.set n (dO (fc F k v)))):W (gg (.ref n) a v U) Q:=by
 refine W.of ?_ q;unfold dO at h ⊢;rw[aj Bk];by_cases b:F=[]
 ·subst b;rw[ak O]at h;simp only[gg,h,hk];rfl
 ·rw[aj b]at h;simp only[gg,h,hk,oS1];rw[ak (nL1 c (by decide))]
theorem C7{U:cV}{n:Nat}{F:List (TK×D)}{a v:D}{k:TK}{Q:D×cV->Prop}(h:U[n]?=Z (dO F))(hk:keyT a=Z k)(hv:dq F k=Z v)(q:Q (v,U)):W (cZ (.ref n) a U) Q:=by
 refine W.of ?_ q;unfold dO at h;by_cases b:F=[]
 ·subst b;cases hv
 ·rw[aj b]at h;simp only[cZ,h,hk,oS1,hv,oP1]
noncomputable def oY(e:Nat×Nat):TK:=.tup [.int e.1,.int e.2]
theorem sJ{a b:Nat×Nat}(h:oY a=oY b):a=b:=by
 obtain⟨a1,a2⟩:=a;obtain⟨b1,b2⟩:=b;simp[oY]at h
 ext<;>simp<;>lia
theorem tu{e:Nat×Nat}:keyT (pD e)=Z (oY e):=rfl
theorem C5{U:cV}{n i:Nat}{xs:List D}{x:D}{Q:D×cV->Prop}(h:U[n]?=Z (.lst xs))(hx:xs[i]?=Z x)(hb:i<1000)(q:Q (x,U.set n (.lst (xs.eraseIdx i)))):W (xw (.ref n) (.int i) U) Q:=by
 have a:=(gE1.mp hx).1;refine W.of ?_ q;simp only[xw,h];rw[ak ⟨by lia,by lia⟩];simp only[rS,ak (show(0:Int)<=i by lia)];rw[ak (by lia)];simp[hx]
theorem xr{d:D}{S G:cV}(hd:d.und 0=M)(a:S.all (Ob.und S.length)=M):gc S.length (d,S++G)=(d,S):=by
 unfold gc;dsimp only;rw[List.take_left,ak (by rw[ed hd,a];rfl)]
theorem rW{d:D}{S V:cV}(hd:d.und 0=M)(a:S.all (Ob.und S.length)=M)(hp:S <+: V):gc S.length (d,V)=(d,S):=by
 obtain⟨G,rfl⟩:=hp;exact xr hd a
theorem xY{m:FA}{r:Ev}{S:cV}{xs ys:List D}{n:Nat}{Q:vj×cV->Prop}(hm:m r S=Z ([.tup xs,.ref n],S))(hn:S[n]?=Z (.lst ys))(q:Q (⟨sA xs ys,[(n,ys)]⟩,S)):W (AM m r S) Q:=by
 refine W.of (x:=(⟨sA xs ys,[(n,ys)]⟩,S)) ?_ q;simp only[AM,hm,oS1,sM,ga hn,tT,tU hn,cg]
theorem q9{α:Type}{f g:α->D}:∀l:List α,sA (l.map f) (l.map g)=l.map λx=>D.tup [f x,g x]
 |[]=>rfl
 |a::l=>by rw[mP1,mP1,sA,q9 l];rfl
theorem x0{m:FA}{r:Ev}{S:cV}{xs:List D}{Q:vj×cV->Prop}(hm:m r S=Z ([.tup xs],S))(q:Q (⟨uP 0 xs,[]⟩,S)):W (ve m r S) Q:=by
 refine W.of (x:=(⟨uP 0 xs,[]⟩,S)) ?_ q;simp only[ve,hm,oS1,sM,tT]
theorem oE{α:Type}{f:α->D}:∀(l:List α) (k:Nat),uP k (l.map f)=(l.zipIdx k).map λp=>D.tup [.int (p.2:Nat),f p.1]
 |[],_=>rfl
 |a::l,k=>by rw[mP1,uP,oE l (k+1),bB];rfl
theorem gz{α:Type}{l:List α}{p:α×Nat}(h:p∈l.zipIdx):l[p.2]?=Z p.1:=by
 have:=List.mem_zipIdx_iff_getElem?.mp h;exact this
theorem gL{α β:Type}(f:α->β)(l:List α):(l.zipIdx.map λp=>f p.1)=l.map f:=by
 have:(λp:α×Nat=>f p.1)=f∘Prod.fst:=rfl;rw[this,<- bn,List.zipIdx_map_fst]
mutual
theorem rr{n:Nat}:∀{d:D},d.und 0=M->d.sh n=d
 | .non,_=>rfl
 | .bl _,_=>rfl
 | .int _,_=>rfl
 | .str _,_=>rfl
 | .tup xs,h=>by rw[D.und]at h;rw[D.sh,f0 h]
 | .rol xs,h=>by rw[D.und]at h;rw[D.sh,f0 h]
 | .fn _,_=>rfl
 | .ref k,h=>by simp[D.und]at h
theorem f0{n:Nat}:∀{ds:List D},D.unds 0 ds=M->D.shs n ds=ds
 |[],_=>rfl
 |d::ds,h=>by
  rw[D.unds,bA1]at h;rw[D.shs,rr h.1,f0 h.2]
end
theorem EK{n:Nat}{f:FN}{ds:List D}{S:cV}{Q:D×cV->Prop}(hn:ds.length=n)(a:D.unds 0 ds=M)(h:W (f ds []) λp=>∃xs,p=(.ref 0,[.lst xs])/\D.unds 0 xs=M/\Q (.ref S.length,S++[.lst xs])):W (cY n f ds S) Q:=by
 obtain⟨p,e,xs,rfl,d,q⟩:=h;refine⟨_,ii e hn a O,?_⟩;have b:(D.ref 0).sh S.length = .ref S.length:=rfl;have c:[Ob.lst xs].map (Ob.sh S.length)=[Ob.lst xs]:=by rw[mP1,aW,Ob.sh,f0 d]
 rw[b,c];exact q
theorem Cf{ns:List Int}{k:Int}:k∈ddI ns↔k∈ns:=by
 have b:∀(ns a:List Int),k∈ns.foldl step_dedup a↔k∈a\/k∈ns:=by
  intro ns
  induction ns with
  |nil=>intro a;simp
  |cons n ns ih=>
   intro a;rw[bP,ih];have:k∈step_dedup a n↔k∈a\/k=n:=by
    unfold step_dedup;split
    ·rename_i h;obtain⟨x,c,e⟩:=bI.mp h;have e:=beq_iff_eq.mp e;subst e;constructor
     ·exact .inl
     ·rintro(z|z)
      ·exact z
      ·rw[z];exact c
    ·simp
   rw[this,aE,or_assoc]
 unfold ddI;rw[b];simp
theorem yz{xs:List Nat}{m:Nat}{f:Nat->Bool}(h:∀r,r∈xs↔r<m/\f r=M):fZ (ddI (xs.map λ(r:Nat)=>(r:Int)))=((af m).filter f).map λ(r:Nat)=>(r:Int):=by
 refine kI ?_ (i0 _) ?_
 ·refine(en _).trans ?_;refine(List.perm_ext_iff_of_nodup (qk _ [] bi) ?_).mpr λk=>?_
  ·refine ci.mpr ((List.nodup_range.filter f).imp λb z=>b (by lia))
  ·show k∈ddI _↔_;rw[Cf,bX,bX];constructor
   ·rintro⟨r,a,rfl⟩;exact⟨r,aA.mpr ⟨aB.mpr ((h r).mp a).1,((h r).mp a).2⟩,O⟩
   ·rintro⟨r,a,rfl⟩;obtain⟨h1,h2⟩:=aA.mp a;exact⟨r,(h r).mpr ⟨aB.mp h1,h2⟩,O⟩
 ·refine ci.mpr ((List.pairwise_lt_range.sublist List.filter_sublist).imp λc=>by lia)
theorem zS(xs:List Nat):lH (dw xs)=Z (xs.map λ(r:Nat)=>(r:Int)):=by
 induction xs with
 |nil=>rfl
 |cons x xs ih=>
  show(lH (dw xs)).map _=_;rw[ih];rfl
theorem va{S:cV}{n:Nat}{xs:List Nat}{m:Nat}{f:Nat->Bool}{Q:D×cV->Prop}(hn:S[n]?=Z (.lst (dw xs)))(h:∀r,r∈xs↔r<m/\f r=M)(a:xs.length<64)(q:Q (.ref S.length,S++[.lst (dw ((af m).filter f))])):W (ia (.ref n) S) Q:=by
 refine W.of (x:=(.ref S.length,S++[.lst (dw ((af m).filter f))])) ?_ q;simp only[ia,ga hn,zS,oS1];rw[ak (by rw[lM1];exact a),yz h,bn];rfl
end Mi
end
local macro_rules | `(tactic| walk_at"w") => `(tactic| simp only[Mi.dv, Mi.iU, Mi.ite_and', Mi.c4, Mi.jz, Mi.qx, Mi.c7, Mi.db, Mi.fX, Mi.dY, Mi.eF, Mi.oi, Mi.mN, Mi.cT, Mi.cU, Mi.m2, Mi.m1, Mi.mV, Mi.mC, Mi.sn, Mi.xZ, Mi.mB, Mi.ol, Mi.Ej, Mi.qC, Mi.eZ, Mi.gN, Mi.gT, Mi.gCs, Mi.gNl, Mi.gS, Mi.b1, Mi.b2, Mi.b3, Mi.gJ, Mi.fB, Mi.hC, Mi.tZ, Mi.ER, Mi.Bf, Mi.E9, Mi.fz, Mi.pP, Mi.C9, Mi.gSub, Mi.iR, Mi.kC, Mi.z3, Mi.zV, Mi.zY, Mi.tK, Mi.zU, Mi.GC, Mi.Hr, Mi.F5, Mi.F4, Mi.Hq, Mi.Ho, Mi.Hn, Mi.Hm, true_and, Mi.fL, Mi.dF, bv, lA1, cj, gC1, List.getElem?_nil, ck, cm, lC1, aZ, mP1, aW, Mi.Hc, Mi.Gq, Mi.GZ, Mi.GX, Mi.GW, Mi.GV, Mi.GU, Mi.DL, cg, bf, aL, Nat.reduceAdd, Nat.reduceSub, Option.join_some, Option.join_none, oP1, Option.map_none, oS1, Option.bind_none, if_true, if_false, bF1, Bool.not_true, Bool.not_false, ite_true, ite_false, reduceIte, decide_true, decide_false, Mi.Hu, Mi.Ht, Mi.fj, Mi.C6, Mi.C8, Mi.EQ])
noncomputable section
namespace Law
open PySem PySem.Spec PyProof.Rows L2 Mi
noncomputable def jG (i:Nat):cR:=PySem.Challenge.pw_ringmeet_k66_slow_beats.main.body.getD i (.Pass ⟨0,0,0,0⟩)
abbrev BL:List Str:=["dict","enumerate","int","len","list","max","min","range","repr","set","sorted","sum","tuple","zip"]
noncomputable def kP:D:=(D.tup [(D.tup [(D.str "came"),(D.int 5)]),(D.tup [(D.str "chalk"),(D.int 2)]),(D.tup [(D.str "doors"),(D.int 5)]),(D.tup [(D.str "others"),(D.int 2)])])
section
variable{P:cH}{w:cJ}{K:Fg1}{mg:Str->Option cE}{base h:cP}(X:K.In h) (G:h.Ns cK mg) (B:Blt BL mg)
include X G B
abbrev k8:cR:=jG 3
noncomputable def jd:FT:=(mB (m2 (b2 vg) (mV 2) (mV 3)))
noncomputable def jc:FS:=(c7 (db (m2 (b2 pW) (m2 (b2 et) (mV 2) (mV 3)) (mC (D.int 2))) (gN 4))
  (fX (mB (m2 (b2 vg) (m2 (b2 cZ) (m2 (b2 cZ) (m2 (b2 cZ) (mV 0) (mV 4)) (mC (D.int 0))) (mC (D.int 0))) (mV 1))) (db (m2 (b2 et) (mV 4) (mC (D.int 1))) (gN 2)) (db (mV 4) (gN 3))))
noncomputable def lZ:FS:=(c7 (db (mC (D.int 0)) (gN 2))
  (c7 (db (mN (b1 d9) (cT (mV 0) cU)) (gN 3))
  (c7 (oQ jd jc 100000)
  (dY (mV 2)))))
noncomputable def fU:FN:=gJ 5 lZ
theorem pq {f:cG}(F:dH K "first_of" k8 f):
  ew P w K mg base 1 "first_of" 2 fU:=xq ["rows","mood","low","high","middle"] X G F λa=>
 (qF (sq qK) (qF (sq (cn eL (a1 xv))) (qF (jD 100000 PassesOwn.never (ct (oq j5) xv xv) (qF (sq (qI AH (qI d8 xv xv) qK)) (qG (qV (ct (oq j5) (jq (jq (jq xv xv) qK) qK) xv) (qG (sq (qI d8 xv qK))) (qG (sq xv)))))) (qG (qU xv)))))
abbrev k6:cR:=jG 5
noncomputable def lY:FS:=(c7 (db (mV 2) (gT 2 (gCs (gN 4) (gCs (gN 5) gNl))))
  (c7 (db (m2 (b2 cZ) (mV 4) (mV 3)) (gT 3 (gCs (gN 6) (gCs (gN 7) (gCs (gN 8) gNl)))))
  (c7 (db (dQ 1 [6] (gn (mV 4)) (gN 0) (mB (m2 (b2 oA) (m2 (b2 cZ) (mV 0) (mC (D.int 0))) (mV 1))) (dJ (mV 0))) (gN 9))
  (c7 (db (lC [((mC (D.str "came")),(mV 7)),((mC (D.str "chalk")),(qC (mB (m2 (b2 gt) (mV 6) (mV 5))) (mC (D.int 1)) (mC (D.int 0)))),((mC (D.str "doors")),(mN (b1 d9) (cT (m2 (b2 cZ) (mV 0) (mV 6)) cU))),((mC (D.str "others")),(qC (mB (m2 (b2 (iR λi j=>decide (j<i))) (mN (b1 d9) (cT (mV 9) cU)) (mC (D.int 1)))) (mC (D.int 1)) (mC (D.int 0))))]) (gN 10))
  (dY (mN (b1 gTup) (cT (dQ 2 [1,10] (gn (mC kP)) (gT 2 (gCs (gN 0) (gCs (gN 1) gNl))) eZ (dJ (qC (mB (m2 (b2 gt) (mV 0) (mV 2))) (m2 (b2 cZ) (mV 3) (mV 0)) (mC D.non)))) cU)))))))
noncomputable def fT:FN:=gJ 11 lY
theorem pp {f:cG}(F:dH K "sight_of" k6 f)(a:CGl K mg "PARTS" kP):
  ew P w K mg base 1 "sight_of" 4 fT:=xq ["web","eyes","whole","k","walkers","chalk","room","came","mood","here","parts"] X G F λb=>
 (qF (qR xv (tg2 gq gq)) (qF (qR (jq xv xv) (fG O (c9 gq (c9 gq (c9 gq eT))))) (qF (ff 9 O (T:=["other"]) (keep:=[6]) ⟨O,by decide+kernel,(kc "room" (b8 _))⟩ O (qd xv) (λ_ _ _=>⟨gq,(ft (ct (oq lA) (jq xv qK) xv)),xv⟩) (fD O) O (by first|exact Or.inl rfl|exact Or.inr rfl)) (qF (sq (oU (fr c8 xv (fr c8 (jE (ct (oq j6) xv xv (by with_unfolding_all rfl)) qK qK) (fr c8 (cn eL (a1 (jq xv xv))) (fr c8 (jE (ct BW (cn eL (a1 xv)) qK) qK qK) sC)))))) (qG (qU (cz eN (a1 (fk ["eye","many"] (qd (vx a rfl)) ⟨(tg2 gq gq),ec,(jE (ct (oq j6) xv xv (by with_unfolding_all rfl)) (jq xv xv) fH)⟩)))))))))
abbrev mJ:cR:=jG 9
noncomputable def nH:FS:=(c7 (db (mV 0) (gT 2 (gCs (gN 2) (gCs (gN 3) gNl))))
  (c7 (db (dQ 2 [] (AM (cT (mV 2) (cT (mV 1) cU))) (gT 2 (gCs (gN 0) (gCs (gN 1) gNl))) (mB (m2 (b2 oA) (m2 (b2 cZ) (mV 1) (mC (D.int 1))) (mC (D.str "mark")))) (dJ (m2 (b2 cZ) (mV 0) (mC (D.int 0))))) (gN 4))
  (c7 (db (dQ 2 [] (AM (cT (mV 2) (cT (mV 1) cU))) (gT 2 (gCs (gN 0) (gCs (gN 1) gNl))) (mB (m2 (b2 oA) (m2 (b2 cZ) (mV 1) (mC (D.int 1))) (mC (D.str "wipe")))) (dJ (m2 (b2 cZ) (mV 0) (mC (D.int 0))))) (gN 5))
  (c7 (db (dQ 1 [5] (gn (mV 3)) (gN 0) (mB (m2 (b2 g9) (mV 0) (mV 1))) (dJ (mV 0))) (gN 6))
  (dY (mN (b1 gTup) (cT (mN (b1 ia) (cT (m2 (b2 et) (mV 6) (mV 4)) cU)) cU)))))))
noncomputable def gI:FN:=gJ 7 nH
theorem rF {f:cG}(F:dH K "handled" mJ f):
  ew P w K mg base 1 "handled" 2 gI:=xq ["whole","deeds","walkers","chalk","marked","wiped","left"] X G F λa=>
 (qF (qR xv (tg2 gq gq)) (qF (ff 4 O (T:=["walker","deed"]) (keep:=[]) ⟨O,by decide+kernel,(b8 _)⟩ O (nL O (bz B) (a2 xv xv)) (λ_ _ _=>⟨(tg2 gq gq),(ft (ct (oq lA) (jq xv qK) c8)),(jq xv qK)⟩) (fD O) O (by first|exact Or.inl rfl|exact Or.inr rfl)) (qF (sq (fk ["walker","deed"] (nL rfl (bz B) (a2 xv xv)) ⟨(tg2 gq gq),(ft (ct (oq lA) (jq xv qK) c8)),(jq xv qK)⟩)) (qF (ff 6 rfl (T:=["room"]) (keep:=[5]) ⟨rfl,by decide+kernel,(kc "wiped" (b8 _))⟩ rfl (qd xv) (λ_ _ _=>⟨gq,(ft (ct (oq py) xv xv (by with_unfolding_all rfl))),xv⟩) (fD O) O (by first|exact Or.inl rfl|exact Or.inr rfl)) (qG (qU (cz eN (a1 (ua rfl rfl (bz B) rfl (bz B) (qI d8 xv xv))))))))))
abbrev mI:cR:=jG 10
noncomputable def nG:FS:=(c7 (db (mV 1) (gT 3 (gCs (gN 3) (gCs (gN 4) (gCs (gN 5) gNl)))))
  (c7 (db (mV 2) (gT 3 (gCs (gN 6) (gCs (gN 7) (gCs (gN 8) gNl)))))
  (c7 (fX (Ej (mB (m2 (b2 zZ) (mV 8) (mC D.non))) (mB (m2 (b2 (iR λi j=>decide (j<=i))) (mV 8) (mN (b1 d9) (cT (m2 (b2 cZ) (mV 0) (mV 3)) cU))))) (dY (dL (cT (mV 3) (cT (mV 4) (cT (mV 6) cU))))) oi)
  (c7 (db (m2 (b2 cZ) (m2 (b2 cZ) (mV 0) (mV 3)) (mV 8)) (gT 2 (gCs (gN 9) (gCs (gN 10) gNl))))
  (dY (dL (cT (mV 9) (cT (m2 (b2 et) (mC (D.int 1)) (mV 10)) (cT (mV 6) cU)))))))))
noncomputable def gH:FN:=gJ 11 nG
theorem rE {f:cG}(F:dH K "stepped" mI f):
  ew P w K mg base 1 "stepped" 3 gH:=xq ["web","walker","deed","room","came","past","mood","hand","step","there","back"] X G F λa=>
 (qF (qR xv (fG O (c9 gq (c9 gq (c9 gq eT))))) (qF (qR xv (fG O (c9 gq (c9 gq (c9 gq eT))))) (qF (qV (jT (vp (ct D7 xv fH) (sB (ct Ea xv (cn eL (a1 (jq xv xv))))))) (qG (qU (c6 (a3 xv xv xv)))) qQ) (qF (qR (jq (jq xv xv) xv) (tg2 gq gq)) (qG (qU (c6 (a3 xv (qI d8 qK xv) xv))))))))
abbrev lg:cR:=jG 16
noncomputable def iT:FS:=(c7 (db (mC (D.int 0)) (gN 2))
  (c7 (fX (mB (m2 (b2 vg) (mV 1) (mN (b1 d9) (cT (mV 0) cU)))) (db (m2 (b2 cZ) (mV 0) (mV 1)) (gN 2)) oi)
  (c7 (db (m2 (b2 ic) (m2 (b2 jp) (mV 2) (m2 (b2 ic) (m2 (b2 rX) (mC (D.int 10)) (mC (D.int 45))) (m2 (b2 rX) (mC (D.int 10)) (mC (D.int 45))))) (mN (b1 kC) (cT (m2 (b2 (iR λi j=>decide (j<=i))) (mV 2) (m2 (b2 rX) (mC (D.int 10)) (mC (D.int 18)))) cU))) (gN 3))
  (dY (fe (cT (mV 3) (cT (m2 (b2 jp) (m2 (b2 et) (m2 (b2 et) (m2 (b2 et) (m2 (b2 jp) (mV 2) (mC (D.int 2305843009213693951))) (m2 (b2 ic) (m2 (b2 ic) (mC (D.int 9973)) (mV 1)) (mV 1))) (m2 (b2 ic) (mC (D.int 17)) (mV 1))) (mC (D.int 5))) (mC (D.int 2305843009213693951))) (cT (mC (D.int 0)) cU))))))))
noncomputable def eO:FN:=gJ 4 iT
theorem px {f:cG}(F:dH K "_law_box" lg f):
  ew P w K mg base 1 "_law_box" 2 eO:=xq ["_law_script","_law_k","_law_cell","_law_own_here"] X G F λa=>
 (qF (sq qK) (qF (qV (ct (oq j5) xv (cn eL (a1 xv))) (qG (sq (jq xv xv))) qQ) (qF (sq (qI iI (qI j4 xv (qI iI (qI wF qK qK) (qI wF qK qK))) (cz qr (a1 (ce Ea xv (qI wF qK qK)))))) (qG (qU (dM (a3 xv (qI j4 (qI d8 (qI d8 (qI d8 (qI j4 xv qK) (qI iI (qI iI qK xv) xv)) (qI iI qK xv)) qK) qK) qK)))))))
abbrev jY:cR:=jG 17
noncomputable def ik:FS:=(c7 (fX (mB (m2 (b2 (iR fun i j=>decide (j<i))) (m2 (b2 cZ) (mV 0) (mC (D.int 0))) (mC (D.int 0)))) (c7 (db (m2 (b2 jp) (m2 (b2 cZ) (mV 0) (mC (D.int 0))) (mV 1)) (gN 2))
  (c7 (db (m2 (b2 lJ) (m2 (b2 cZ) (mV 0) (mC (D.int 0))) (mV 1)) (gS (b3 gg) (mV 0) (mC (D.int 0))))
  (dY (mV 2)))) oi)
  (c7 (db (m2 (b2 et) (m2 (b2 cZ) (mV 0) (mC (D.int 2))) (mC (D.int 1))) (gS (b3 gg) (mV 0) (mC (D.int 2))))
  (c7 (db (m2 (b2 jp) (m2 (b2 et) (m2 (b2 et) (m2 (b2 ic) (m2 (b2 cZ) (mV 0) (mC (D.int 1))) (mC (D.int 40009))) (m2 (b2 ic) (mC (D.int 7368787)) (m2 (b2 cZ) (mV 0) (mC (D.int 2))))) (mC (D.int 12345))) (mC (D.int 2305843009213693951))) (gN 3))
  (c7 (db (m2 (b2 jp) (m2 (b2 et) (m2 (b2 ic) (mV 3) (m2 (b2 et) (m2 (b2 jp) (mV 3) (mC (D.int 65537))) (m2 (b2 ic) (mC (D.int 101)) (m2 (b2 cZ) (mV 0) (mC (D.int 2)))))) (mC (D.int 9973))) (mC (D.int 2305843009213693921))) (gS (b3 gg) (mV 0) (mC (D.int 1))))
  (dY (m2 (b2 jp) (m2 (b2 et) (m2 (b2 lJ) (m2 (b2 cZ) (mV 0) (mC (D.int 1))) (mC (D.int 4099))) (m2 (b2 lJ) (m2 (b2 cZ) (mV 0) (mC (D.int 1))) (mC (D.int 2147483659)))) (mV 1)))))))
noncomputable def cW:FN:=gJ 4 ik
theorem n4 {f:cG}(F:dH K "_law_draw" jY f):
  ew P w K mg base 1 "_law_draw" 2 cW:=xq ["_law_box_here","_law_many","_law_drawn","_law_once"] X G F λa=>
 (qF (qV (ct BW (jq xv qK) qK) (qF (sq (qI j4 (jq xv qK) xv)) (qF (qR (qI rJ (jq xv qK) xv) (iX xv qK (k7 a.units))) (qG (qU xv)))) qQ) (qF (qR (qI d8 (jq xv qK) qK) (iX xv qK (k7 a.units))) (qF (sq (qI j4 (qI d8 (qI d8 (qI iI (jq xv qK) qK) (qI iI qK (jq xv qK))) qK) qK)) (qF (qR (qI j4 (qI d8 (qI iI xv (qI d8 (qI j4 xv qK) (qI iI qK (jq xv qK)))) qK) qK) (iX xv qK (k7 a.units))) (qG (qU (qI j4 (qI d8 (qI rJ (jq xv qK) qK) (qI rJ (jq xv qK) qK)) xv)))))))
abbrev jX:cR:=jG 20
noncomputable def kh:FS:=(c7 (db (m2 (b2 pW) (mN (b1 pU) (cT (dQ 1 [] (gn (mV 0)) (gN 0) eZ (dJ (mN (b1 d9) (cT (mV 0) cU)))) cU)) (mC (D.int 2))) (gN 3))
  (c7 (eF (rP (b2 jr) (m2 (b2 cZ) (mV 0) (mV 1)) (cT (dL (cT (mV 3) (cT (mC (D.int 0)) cU))) cU)))
  (eF (rP (b2 jr) (m2 (b2 cZ) (mV 0) (mV 2)) (cT (dL (cT (mV 3) (cT (mC (D.int 1)) cU))) cU)))))
noncomputable def eR:FN:=gJ 4 kh
theorem n3 {f:cG}(F:dH K "_law_join" jX f):
  ew P w K mg base 1 "_law_join" 3 eR:=xq ["_law_ends","_law_one","_law_other","_law_number"] X G F λa=>
 (qF (sq (qI AH (cn (CS O) (a1 (fk ["_law_row"] (qd xv) ⟨gq,ec,(cn eL (a1 xv))⟩))) qK)) (qF (lq ap (jq xv xv) (a1 (c6 (a2 xv qK)))) (qG (lq ap (jq xv xv) (a1 (c6 (a2 xv qK)))))))
abbrev iG:cR:=jG 22
noncomputable def kx:FS:=(db (m2 (b2 et) (mV 5) (dQ 1 [6] (gn (mV 4)) (gN 0) eZ (dJ (m2 (b2 et) (mV 1) (dL (cT (mV 0) cU)))))) (gN 5))
noncomputable def ku:FS:=(c7 (db (qC (mB (m2 (b2 gt) (mV 2) (mV 0))) (uA (cT (m2 (b2 et) (mV 3) (mC (D.int 1))) cU)) (fe (cT (mC D.non) cU))) (gN 4))
  (c7 (db (fe cU) (gN 5))
  (c7 (fz (gn (mV 1)) (gN 6) kx)
  (db (mV 5) (gN 1)))))
noncomputable def mr:FS:=(c7 (db (fe (cT (dL cU) cU)) (gN 1))
  (c7 (fz (gn (dL (cT (dL (cT (mC (D.str "came")) (cT (mC (D.int 4)) cU))) (cT (dL (cT (mC (D.str "chalk")) (cT (mC (D.int 1)) cU))) (cT (dL (cT (mC (D.str "doors")) (cT (mC (D.int 4)) cU))) (cT (dL (cT (mC (D.str "others")) (cT (mC (D.int 1)) cU))) cU)))))) (gT 2 (gCs (gN 2) (gCs (gN 3) gNl))) ku)
  (dY (mV 1))))
noncomputable def eJ:FN:=gJ 7 mr
theorem ly {f:cG}(F:dH K "_law_sights" iG f):
  ew P w K mg base 1 "_law_sights" 1 eJ:=xq ["_law_eyes","_law_found","_law_eye","_law_most","_law_parts","_law_longer","_law_one"] X G F λa=>
 (qF (sq (dM (a1 (c6 qN)))) (qF (fo (qd (c6 (qA (c6 (a2 c8 qK)) (a3 (c6 (a2 c8 qK)) (c6 (a2 c8 qK)) (c6 (a2 c8 qK)))))) (tg2 gq gq) (qF (sq (jE (ct (oq j6) xv xv (by with_unfolding_all rfl)) (kW O O (bz B) O (bz B) (a1 (qI d8 xv qK))) (dM (a1 fH)))) (qF (sq (dM qN)) (qF (fo (qd xv) gq (qG (sq (qI d8 xv (fk ["_law_part"] (qd xv) ⟨gq,ec,(qI d8 xv (c6 (a1 xv)))⟩))))) (qG (sq xv)))))) (qG (qU xv))))
abbrev i7:cR:=jG 27
noncomputable def jy:FS:=(c7 (db (m2 (b2 cZ) (m2 (b2 cZ) (mV 2) (mC (D.int 0))) (mV 3)) (gT 3 (gCs (gN 4) (gCs (gN 5) (gCs (gN 6) gNl)))))
  (c7 (db (dQ 2 [3,4] (ve (cT (m2 (b2 cZ) (mV 2) (mC (D.int 0))) cU)) (gT 2 (gCs (gN 0) (gCs (gN 1) gNl))) (ol (mB (m2 (b2 vf) (mV 0) (mV 2))) (mB (m2 (b2 oA) (m2 (b2 cZ) (mV 1) (mC (D.int 0))) (mV 3)))) (dJ (mV 1))) (gN 7))
  (c7 (db (lC [((mC (D.str "came")),(mV 5)),((mC (D.str "chalk")),(mN (b1 kC) (cT (m2 (b2 gt) (mV 4) (m2 (b2 cZ) (mV 2) (mC (D.int 1)))) cU))),((mC (D.str "doors")),(mN (b1 d9) (cT (m2 (b2 cZ) (mV 0) (mV 4)) cU))),((mC (D.str "others")),(mN (b1 kC) (cT (m2 (b2 vf) (mV 7) (fe cU)) cU)))]) (gN 8))
  (dY (mN (b1 gTup) (cT (dQ 1 [1,8] (gn (dL (cT (mC (D.str "came")) (cT (mC (D.str "chalk")) (cT (mC (D.str "doors")) (cT (mC (D.str "others")) cU)))))) (gN 0) eZ (dJ (qC (mB (m2 (b2 gt) (mV 0) (mV 1))) (m2 (b2 cZ) (mV 2) (mV 0)) (mC D.non)))) cU))))))
noncomputable def eY:FN:=gJ 9 jy
theorem mh {f:cG}(F:dH K "_law_sight" i7 f):
  ew P w K mg base 1 "_law_sight" 4 eY:=xq ["_law_web_here","_law_eyes","_law_whole_here","_law_k","_law_room","_law_came","_law_mood","_law_others","_law_parts"] X G F λa=>
 (qF (qR (jq (jq xv qK) xv) (fG O (c9 gq (c9 gq (c9 gq eT))))) (qF (ff 7 O (T:=["_law_j","_law_walker"]) (keep:=[3,4]) ⟨O,by decide+kernel,(kc "_law_k" (kc "_law_room" (b8 _)))⟩ O (ie (a1 (jq xv qK))) (λ_ _ _=>⟨(tg2 gq gq),(ft (jT (io (ct (oq ut) xv xv) (gA (ct (oq lA) (jq xv qK) xv))))),xv⟩) (fD O) O (by first|exact Or.inl rfl|exact Or.inr rfl)) (qF (sq (oU (fr c8 xv (fr c8 (cz qr (a1 (ce (oq j6) xv (jq xv qK) (by with_unfolding_all rfl)))) (fr c8 (cn eL (a1 (jq xv xv))) (fr c8 (cz qr (a1 (ce (oq ut) xv (dM qN)))) sC)))))) (qG (qU (cz eN (a1 (fk ["_law_eye"] (qd (c6 (qA c8 (a3 c8 c8 c8)))) ⟨gq,ec,(jE (ct (oq j6) xv xv (by with_unfolding_all rfl)) (jq xv xv) fH)⟩))))))))
abbrev lf:cR:=jG 28
noncomputable def l6:FS:=(dY (dL (cT (m2 (b2 cZ) (mV 0) (mC (D.int 0))) (cT (mN (b1 lK) (cT (mN (b1 pV) (cT (m2 (b2 cZ) (mV 0) (mC (D.int 1))) cU)) cU)) cU))))
noncomputable def fi:FN:=gJ 1 l6
theorem pw {f:cG}(F:dH K "_law_own" lf f):
  ew P w K mg base 1 "_law_own" 1 fi:=xq ["_law_machine_here"] X G F λa=>
 (qG (qU (c6 (a2 (jq xv qK) (cz (Aj a) (a1 (cz sf (a1 (jq xv qK)))))))))
abbrev jZ:cR:=jG 29
noncomputable def kj:FS:=(dY (rQ (m2 (b2 cZ) (mV 0) (mC (D.int 1))) (dL (cT (mV 1) (cT (mV 2) cU))) (dL (cT (mV 1) (cT (mC (D.str "leave")) (cT (mC D.non) cU))))))
noncomputable def fx:FN:=gJ 3 kj
theorem n6 {f:cG}(F:dH K "_law_deed" jZ f):
  ew P w K mg base 1 "_law_deed" 3 fx:=xq ["_law_own_here","_law_mood","_law_sight_here"] X G F λa=>
 (qG (qU (ub a.units (jq xv qK) (c6 (a2 xv xv)) (c6 (a3 xv c8 fH)))))
abbrev mK:cR:=jG 2
noncomputable def j3:FT:=(ol (mB (m2 (b2 vg) (mV 4) (mN (b1 d9) (cT (mV 3) cU)))) (mB (m2 (b2 oA) (m2 (b2 cZ) (m2 (b2 cZ) (m2 (b2 cZ) (mV 3) (mV 4)) (mC (D.int 0))) (mC (D.int 0))) (mV 1))))
noncomputable def j2:FS:=(c7 (fX (mB (m2 (b2 oA) (m2 (b2 cZ) (m2 (b2 cZ) (m2 (b2 cZ) (mV 3) (mV 4)) (mC (D.int 0))) (mC (D.int 1))) (mV 2))) (dY (m2 (b2 cZ) (m2 (b2 cZ) (mV 3) (mV 4)) (mC (D.int 1)))) oi)
  (zG 4 (b2 xz) (mC (D.int 1))))
noncomputable def nI:FS:=(c7 (db (m2 (b2 cZ) (mV 0) (mC (D.int 1))) (gN 3))
  (c7 (db (mN (cY 2 fU) (cT (mV 3) (cT (mV 1) cU))) (gN 4))
  (c7 (oQ j3 j2 100000)
  (dY (dL (cT (mV 1) (cT (mC (D.str "leave")) (cT (mC D.non) cU))))))))
noncomputable def eA:FN:=gJ 5 nI
theorem rG {f:cG}(F:dH K "deed_of" mK f)(a:ew P w K mg base 1 "first_of" 2 fU):
  ew P w K mg base 2 "deed_of" 3 eA:=xq ["machine","mood","sight","rows","at"] X G F λb=>
 (qF (sq (jq xv qK)) (qF (sq (wn a (a2 xv xv))) (qF (jD 100000 PassesOwn.never (jT (io (ct (oq j5) xv (cn eL (a1 xv))) (gA (ct (oq lA) (jq (jq (jq xv xv) qK) qK) xv)))) (qF (qV (ct (oq lA) (jq (jq (jq xv xv) qK) qK) xv) (qG (qU (jq (jq xv xv) qK))) qQ) (qG (yg 4 (fD O) O (by first|exact Or.inl rfl|exact Or.inr rfl) qK zQ)))) (qG (qU (c6 (a3 xv c8 fH)))))))
abbrev sP:cR:=jG 6
noncomputable def tV:FS:=(dY (dQ 2 [0,1,2] (ve (cT (m2 (b2 cZ) (mV 2) (mC (D.int 0))) cU)) (gT 2 (gCs (gN 0) (gCs (gN 1) gNl))) eZ (dJ (dL (cT (m2 (b2 cZ) (mV 1) (mC (D.int 2))) (cT (mN (cY 4 fT) (cT (mV 2) (cT (mV 3) (cT (mV 4) (cT (mV 0) cU))))) cU))))))
noncomputable def gY:FN:=gJ 3 tV
theorem wC {f:cG}(F:dH K "wants" sP f)(a:ew P w K mg base 1 "sight_of" 4 fT):
  ew P w K mg base 2 "wants" 3 gY:=xq ["web","eyes","whole"] X G F λb=>
 (qG (qU (fk ["k","walker"] (ie (a1 (jq xv qK))) ⟨(tg2 gq gq),ec,(c6 (a2 (jq xv qK) (wn a (qA xv (a3 xv xv xv)))))⟩)))
abbrev sQ:cR:=jG 8
noncomputable def tW:FS:=(c7 (db (mV 1) (gT 2 (gCs (gN 3) (gCs (gN 4) gNl))))
  (c7 (db (dQ 2 [0] (AM (cT (mV 3) (cT (mV 2) cU))) (gT 2 (gCs (gN 0) (gCs (gN 1) gNl))) eZ (dJ (mN (cY 3 gH) (cT (mV 2) (cT (mV 0) (cT (mV 1) cU)))))) (gN 5))
  (dY (dL (cT (mN (b1 gTup) (cT (mV 5) cU)) (cT (mN (cY 2 gI) (cT (mV 1) (cT (mV 2) cU))) cU))))))
noncomputable def gZ:FN:=gJ 6 tW
theorem wD {f:cG}(F:dH K "moved" sQ f)(a:ew P w K mg base 1 "handled" 2 gI)(b:ew P w K mg base 1 "stepped" 3 gH):
  ew P w K mg base 2 "moved" 3 gZ:=xq ["web","whole","deeds","walkers","chalk","behind"] X G F λc=>
 (qF (qR xv (tg2 gq gq)) (qF (ff 5 O (T:=["walker","deed"]) (keep:=[0]) ⟨O,by decide+kernel,(kc "web" (b8 _))⟩ O (nL O (bz B) (a2 xv xv)) (λ_ _ _=>⟨(tg2 gq gq),ec,(wn b (a3 xv xv xv))⟩) (fD O) O (by first|exact Or.inl rfl|exact Or.inr rfl)) (qG (qU (c6 (a2 (cz eN (a1 xv)) (wn a (a2 xv xv))))))))
abbrev mL:cR:=jG 18
noncomputable def nJ:FS:=(dY (m2 (b2 cZ) (mV 1) (mN (cY 2 cW) (cT (mV 0) (cT (mN (b1 d9) (cT (mV 1) cU)) cU)))))
noncomputable def eB:FN:=gJ 2 nJ
theorem rH {f:cG}(F:dH K "_law_of" mL f)(a:ew P w K mg base 1 "_law_draw" 2 cW):
  ew P w K mg base 2 "_law_of" 2 eB:=xq ["_law_box_here","_law_some_here"] X G F λb=>
 (qG (qU (jq xv (wn a (a2 xv (cn eL (a1 xv)))))))
abbrev hE:cR:=jG 19
noncomputable def ge:FT:=(mB (m2 (b2 vf) (mV 2) (fe cU)))
noncomputable def gb:FS:=(eF (rP (b2 jr) (mV 3) (cT (rP (b2 xw) (mV 2) (cT (mN (cY 2 cW) (cT (mV 0) (cT (mN (b1 d9) (cT (mV 2) cU)) cU))) cU)) cU)))
noncomputable def hH:FS:=(c7 (db (dL (cT (mN (b1 pV) (cT (mV 1) cU)) (cT (fe cU) cU))) (gT 2 (gCs (gN 2) (gCs (gN 3) gNl))))
  (c7 (oQ ge gb 100000)
  (dY (mV 3))))
noncomputable def dG:FN:=gJ 4 hH
theorem jJ {f:cG}(F:dH K "_law_shuffled" hE f)(a:ew P w K mg base 1 "_law_draw" 2 cW):
  ew P w K mg base 2 "_law_shuffled" 2 dG:=xq ["_law_box_here","_law_some_here","_law_left","_law_found"] X G F λb=>
 (qF (iW 2 3 O (fD O) O O (by decide) O O (a2 (cz sf (a1 xv)) (dM qN))) (qF (jD 100000 PassesOwn.never (ct (oq ut) xv (dM qN)) (qG (lq ap xv (a1 (qe PySem.F.slot_list_pop PySem.F.type_list_pop Du xv (a1 (wn a (a2 xv (cn eL (a1 xv)))))))))) (qG (qU xv))))
abbrev iH:cR:=jG 26
noncomputable def iN:FS:=(c7 (db (m2 (b2 et) (mC (D.int 1)) (mN (cY 2 cW) (cT (mV 0) (cT (m2 (b2 gSub) (m2 (b2 xu) (mC (D.int 1)) (mV 1)) (mC (D.int 1))) cU)))) (gN 2))
  (dY (mN (b1 gTup) (cT (dQ 1 [2] (pQ (cT (mV 1) cU)) (gN 0) (mB (m2 (b2 oA) (m2 (b2 tN) (m2 (b2 xt) (mV 1) (mV 0)) (mC (D.int 1))) (mC (D.int 1)))) (dJ (mV 0))) cU))))
noncomputable def eK:FN:=gJ 3 iN
theorem lz {f:cG}(F:dH K "_law_choice" iH f)(a:ew P w K mg base 1 "_law_draw" 2 cW):
  ew P w K mg base 2 "_law_choice" 2 eK:=xq ["_law_box_here","_law_many","_law_bits"] X G F λb=>
 (qF (sq (qI d8 qK (wn a (a2 xv (qI wE (qI D5 qK xv) qK))))) (qG (qU (cz eN (a1 (fk ["_law_k"] (ir (a1 xv)) ⟨gq,(ft (ct (oq lA) (qI BX (qI D4 xv xv) qK) qK)),xv⟩))))))
abbrev j0:cR:=jG 30
noncomputable def gl:FS:=(c7 (db (m2 (b2 cZ) (m2 (b2 cZ) (mV 2) (mC (D.int 0))) (mV 7)) (gT 3 (gCs (gN 8) (gCs (gN 9) (gCs (gN 10) gNl)))))
  (c7 (db (mN (cY 3 fx) (cT (mV 1) (cT (mV 10) (cT (mN (cY 4 eY) (cT (mV 0) (cT (m2 (b2 cZ) (mV 1) (mC (D.int 0))) (cT (mV 2) (cT (mV 7) cU))))) cU)))) (gT 3 (gCs (gN 11) (gCs (gN 12) (gCs (gN 13) gNl)))))
  (c7 (fX (mB (m2 (b2 oA) (mV 12) (mC (D.str "mark")))) (eF (rP (b2 jr) (mV 5) (cT (mV 8) cU))) oi)
  (c7 (fX (mB (m2 (b2 oA) (mV 12) (mC (D.str "wipe")))) (eF (rP (b2 jr) (mV 6) (cT (mV 8) cU))) oi)
  (c7 (fX (ol (mB (m2 (b2 kJ) (mV 13) (mC D.non))) (mB (m2 (b2 vg) (mV 13) (mN (b1 d9) (cT (m2 (b2 cZ) (mV 0) (mV 8)) cU))))) (db (dL (cT (m2 (b2 cZ) (m2 (b2 cZ) (m2 (b2 cZ) (mV 0) (mV 8)) (mV 13)) (mC (D.int 0))) (cT (m2 (b2 et) (mC (D.int 1)) (m2 (b2 cZ) (m2 (b2 cZ) (m2 (b2 cZ) (mV 0) (mV 8)) (mV 13)) (mC (D.int 1)))) cU))) (gT 2 (gCs (gN 8) (gCs (gN 9) gNl)))) oi)
  (db (dL (cT (mV 8) (cT (mV 9) (cT (mV 11) cU)))) (gS (b3 gg) (mV 4) (mV 7))))))))
noncomputable def kk:FS:=(c7 (db (dL (cT (mN (b1 pV) (cT (m2 (b2 cZ) (mV 2) (mC (D.int 0))) cU)) (cT (fe cU) (cT (fe cU) cU)))) (gT 3 (gCs (gN 4) (gCs (gN 5) (gCs (gN 6) gNl)))))
  (c7 (fz (gn (mV 3)) (gN 7) gl)
  (c7 (db (dQ 1 [5,2,6] (pQ (cT (mN (b1 d9) (cT (mV 0) cU)) cU)) (gN 0) (Ej (mB (m2 (b2 gt) (mV 0) (mV 1))) (ol (mB (m2 (b2 gt) (mV 0) (m2 (b2 cZ) (mV 2) (mC (D.int 1))))) (mB (m2 (b2 g9) (mV 0) (mV 3))))) (dJ (mV 0))) (gN 14))
  (dY (dL (cT (mN (b1 gTup) (cT (mV 4) cU)) (cT (mN (b1 gTup) (cT (mV 14) cU)) cU)))))))
noncomputable def fy:FN:=gJ 15 kk
theorem n9 {f:cG}(F:dH K "_law_beat" j0 f)(a:ew P w K mg base 1 "_law_deed" 3 fx)(c:ew P w K mg base 1 "_law_sight" 4 eY):
  ew P w K mg base 2 "_law_beat" 4 fy:=xq ["_law_web_here","_law_own_here","_law_whole_here","_law_choice_here","_law_walkers","_law_marked","_law_wiped","_law_k","_law_room","_law_came","_law_mood","_law_later","_law_hand","_law_step","_law_chalk"] X G F λb=>
 (qF (qR (c6 (a3 (cz sf (a1 (jq xv qK))) (dM qN) (dM qN))) (fG O (c9 gq (c9 gq (c9 gq eT))))) (qF (fo (qd xv) gq (qF (qR (jq (jq xv qK) xv) (fG O (c9 gq (c9 gq (c9 gq eT))))) (qF (qR (wn a (a3 xv xv (wn c (qA xv (a3 (jq xv qK) xv xv))))) (fG O (c9 gq (c9 gq (c9 gq eT))))) (qF (qV (ct (oq lA) xv c8) (qG (lq ap xv (a1 xv))) qQ) (qF (qV (ct (oq lA) xv c8) (qG (lq ap xv (a1 xv))) qQ) (qF (qV (jT (io (ct wH xv fH) (gA (ct (oq j5) xv (cn eL (a1 (jq xv xv))))))) (qG (iW 8 9 O (fD O) O O (by decide) O O (a2 (jq (jq (jq xv xv) xv) qK) (qI d8 qK (jq (jq (jq xv xv) xv) qK))))) qQ) (qG (qR (c6 (a3 xv xv xv)) (iX xv xv (k7 b.units)))))))))) (qF (ff 14 O (T:=["_law_room"]) (keep:=[5,2,6]) ⟨O,by decide+kernel,(kc "_law_marked" (kc "_law_whole_here" (kc "_law_wiped" (b8 _))))⟩ O (ir (a1 (cn eL (a1 xv)))) (λ_ _ _=>⟨gq,(ft (jT (vp (ct (oq j6) xv xv (by with_unfolding_all rfl)) (sB (jT (io (ct (oq j6) xv (jq xv qK) (by with_unfolding_all rfl)) (gA (ct (oq py) xv xv (by with_unfolding_all rfl))))))))),xv⟩) (fD O) O (by first|exact Or.inl rfl|exact Or.inr rfl)) (qG (qU (c6 (a2 (cz eN (a1 xv)) (cz eN (a1 xv)))))))))
abbrev v9:cR:=jG 7
noncomputable def xV:FS:=(c7 (db (mN (cY 3 gY) (cT (mV 0) (cT (m2 (b2 cZ) (mV 1) (mC (D.int 0))) (cT (mV 2) cU)))) (gN 3))
  (dY (mN (cY 3 gZ) (cT (mV 0) (cT (mV 2) (cT (dQ 2 [1] (gn (mV 3)) (gT 2 (gCs (gN 0) (gCs (gN 1) gNl))) eZ (dJ (mN (cY 3 eA) (cT (mV 2) (cT (mV 0) (cT (mV 1) cU)))))) cU))))))
noncomputable def lB:FN:=gJ 4 xV
theorem zh {f:cG}(F:dH K "beat" v9 f)(b:ew P w K mg base 2 "deed_of" 3 eA)(c:ew P w K mg base 2 "moved" 3 gZ)(a:ew P w K mg base 2 "wants" 3 gY):
  ew P w K mg base 3 "beat" 3 lB:=xq ["web","machine","whole","wanted"] X G F λd=>
 (qF (sq (wn a (a3 xv (jq xv qK) xv))) (qG (qU (wn c (a3 xv xv (fk ["mood","sight"] (qd xv) ⟨(tg2 gq gq),ec,(wn b (a3 xv xv xv))⟩))))))
abbrev k9:cR:=jG 13
noncomputable def l0:FS:=(dY (dQ 2 [1] (gn (mN (cY 3 gY) (cT (mV 0) (cT (m2 (b2 cZ) (mV 1) (mC (D.int 0))) (cT (mV 2) cU))))) (gT 2 (gCs (gN 0) (gCs (gN 1) gNl))) eZ (dJ (mN (cY 3 eA) (cT (mV 2) (cT (mV 0) (cT (mV 1) cU)))))))
noncomputable def fV:FN:=gJ 3 l0
theorem pu {f:cG}(F:dH K "deeds_of" k9 f)(b:ew P w K mg base 2 "deed_of" 3 eA)(a:ew P w K mg base 2 "wants" 3 gY):
  ew P w K mg base 3 "deeds_of" 3 fV:=xq ["web","machine","whole"] X G F λc=>
 (qG (qU (fk ["mood","sight"] (qd (wn a (a3 xv (jq xv qK) xv))) ⟨(tg2 gq gq),ec,(wn b (a3 xv xv xv))⟩)))
abbrev i5:cR:=jG 14
noncomputable def hY:FS:=(eF (rP (b2 jr) (mV 4) (cT (qC (mB (m2 (b2 gt) (mV 5) (mV 3))) (m2 (b2 cZ) (mV 2) (mV 5)) (dL (cT (mV 8) (cT (mC (D.str "leave")) (cT (mC D.non) cU))))) cU)))
noncomputable def jw:FS:=(c7 (db (fe cU) (gN 4))
  (c7 (fz (ve (cT (m2 (b2 cZ) (mV 1) (mC (D.int 0))) cU)) (gT 2 (gCs (gN 5) (gCs (gT 3 (gCs (gN 6) (gCs (gN 7) (gCs (gN 8) gNl)))) gNl))) hY)
  (dY (mN (cY 3 gZ) (cT (mV 0) (cT (mV 1) (cT (mV 4) cU)))))))
noncomputable def eW:FN:=gJ 9 jw
theorem me {f:cG}(F:dH K "moved_some" i5 f)(a:ew P w K mg base 2 "moved" 3 gZ):
  ew P w K mg base 3 "moved_some" 4 eW:=xq ["web","whole","all_deeds","choice","done","k","room","came","mood"] X G F λb=>
 (qF (sq (dM qN)) (qF (fo (ie (a1 (jq xv qK))) (tg2 gq (fG O (c9 gq (c9 gq (c9 gq eT))))) (qG (lq ap xv (a1 (jE (ct (oq j6) xv xv (by with_unfolding_all rfl)) (jq xv xv) (c6 (a3 xv c8 fH))))))) (qG (qU (wn a (a3 xv xv xv))))))
abbrev lc:cR:=jG 21
noncomputable def fJ:FS:=(eF (mN (cY 3 eR) (cT (mV 3) (cT (mN (cY 2 eB) (cT (mV 0) (cT (dQ 1 [3] (pQ (cT (mV 4) cU)) (gN 0) (mB (m2 (b2 vg) (mN (b1 d9) (cT (m2 (b2 cZ) (mV 1) (mV 0)) cU)) (mC (D.int 4)))) (dJ (mV 0))) cU))) (cT (mV 4) cU)))))
noncomputable def fI:FS:=(c7 (db (dL (cT (mN (cY 2 cW) (cT (mV 0) (cT (mV 2) cU))) (cT (mN (cY 2 cW) (cT (mV 0) (cT (mV 2) cU))) cU))) (gT 2 (gCs (gN 6) (gCs (gN 7) gNl))))
  (fX (ol (mB (m2 (b2 vg) (m2 (b2 et) (mN (b1 d9) (cT (m2 (b2 cZ) (mV 3) (mV 6)) cU)) (mN (b1 kC) (cT (m2 (b2 oA) (mV 6) (mV 7)) cU))) (mC (D.int 4)))) (mB (m2 (b2 vg) (mN (b1 d9) (cT (m2 (b2 cZ) (mV 3) (mV 7)) cU)) (mC (D.int 4))))) (eF (mN (cY 3 eR) (cT (mV 3) (cT (mV 6) (cT (mV 7) cU))))) oi))
noncomputable def je:FS:=(db (dL (cT (mV 4) (cT (mV 11) cU))) (gS (b3 gg) (mV 9) (mV 12)))
noncomputable def gP:FS:=(fz (ve (cT (mV 10) cU)) (gT 2 (gCs (gN 11) (gCs (gN 12) gNl))) je)
noncomputable def l5:FS:=(c7 (db (m2 (b2 et) (mC (D.int 1)) (mN (cY 2 cW) (cT (mV 0) (cT (mV 1) cU)))) (gN 2))
  (c7 (db (dQ 1 [] (pQ (cT (mV 2) cU)) (gN 0) eZ (dJ (fe cU))) (gN 3))
  (c7 (fz (Di (cT (mC (D.int 1)) (cT (mV 2) cU))) (gN 4) fJ)
  (c7 (fz (pQ (cT (mN (cY 2 cW) (cT (mV 0) (cT (mC (D.int 4)) cU))) cU)) (gN 5) fI)
  (c7 (db (dQ 1 [0] (gn (mV 3)) (gN 0) eZ (dJ (mN (cY 2 dG) (cT (mV 1) (cT (mV 0) cU))))) (gN 8))
  (c7 (db wZ (gN 9))
  (c7 (fz (ve (cT (mV 8) cU)) (gT 2 (gCs (gN 4) (gCs (gN 10) gNl))) gP)
  (dY (mN (b1 gTup) (cT (dQ 1 [9] (gn (mV 8)) (gN 0) eZ (dJ (mN (b1 gTup) (cT (dQ 2 [1] (gn (mV 0)) (gT 2 (gCs (gN 0) (gCs (gN 1) gNl))) eZ (dJ (m2 (b2 cZ) (mV 2) (dL (cT (mV 0) (cT (m2 (b2 gSub) (mC (D.int 1)) (mV 1)) cU)))))) cU)))) cU))))))))))
noncomputable def fW:FN:=gJ 13 l5
theorem pv {f:cG}(F:dH K "_law_web" lc f)(b:ew P w K mg base 1 "_law_draw" 2 cW)(a:ew P w K mg base 1 "_law_join" 3 eR)(d:ew P w K mg base 2 "_law_of" 2 eB)(c:ew P w K mg base 2 "_law_shuffled" 2 dG):
  ew P w K mg base 3 "_law_web" 2 fW:=xq ["_law_box_here","_law_most","_law_many","_law_ends","_law_room","_law_turn","_law_one","_law_other","_law_rows","_law_places","_law_row","_law_door","_law_end"] X G F λe=>
 (qF (sq (qI d8 qK (wn b (a2 xv xv)))) (qF (sq (fk ["_law_room"] (ir (a1 xv)) ⟨gq,ec,(dM qN)⟩)) (qF (fo (ra O (bz B) (a2 qK xv)) gq (qG (kU (wn a (a3 xv (wn d (a2 xv (fk ["_law_one"] (ir (a1 xv)) ⟨gq,(ft (ct (oq j5) (cn eL (a1 (jq xv xv))) qK)),xv⟩))) xv))))) (qF (fo (ir (a1 (wn b (a2 xv qK)))) gq (qF (iW 6 7 O (fD O) O O (by decide) O O (a2 (wn b (a2 xv xv)) (wn b (a2 xv xv)))) (qG (qV (jT (io (ct (oq j5) (qI d8 (cn eL (a1 (jq xv xv))) (cz qr (a1 (ce (oq lA) xv xv)))) qK) (gA (ct (oq j5) (cn eL (a1 (jq xv xv))) qK)))) (qG (kU (wn a (a3 xv xv xv)))) qQ)))) (qF (ff 8 O (T:=["_law_row"]) (keep:=[0]) ⟨O,by decide+kernel,(kc "_law_box_here" (b8 _))⟩ O (qd xv) (λ_ _ _=>⟨gq,ec,(wn c (a2 xv xv))⟩) (fD O) O (by first|exact Or.inl rfl|exact Or.inr rfl)) (qF (sq vy) (qF (fo (ie (a1 xv)) (tg2 gq gq) (qG (fo (ie (a1 xv)) (tg2 gq gq) (qG (qR (c6 (a2 xv xv)) (iX xv xv (k7 e.units))))))) (qG (qU (cz eN (a1 (fk ["_law_row"] (qd xv) ⟨gq,ec,(cz eN (a1 (fk ["_law_number","_law_side"] (qd xv) ⟨(tg2 gq gq),ec,(jq xv (c6 (a2 xv (qI wE qK xv))))⟩)))⟩))))))))))))
abbrev hO:cR:=jG 23
noncomputable def fh:FS:=(c7 (db (m2 (b2 cZ) (fe (cT (mC (D.str "leave")) (cT (mC (D.str "leave")) (cT (mC (D.str "mark")) (cT (mC (D.str "wipe")) cU))))) (m2 (b2 ic) (mN (cY 2 cW) (cT (mV 0) (cT (mC (D.int 4)) cU))) (mN (b1 kC) (cT (mV 1) cU)))) (gN 8))
  (c7 (db (dL (cT (mN (cY 2 cW) (cT (mV 0) (cT (mV 4) cU))) (cT (mV 8) (cT (m2 (b2 cZ) (fe (cT (mC D.non) (cT (mC (D.int 0)) (cT (mC (D.int 1)) (cT (mC (D.int 0)) (cT (mC (D.int 2)) (cT (mC (D.int 1)) (cT (mC (D.int 3)) (cT (mC (D.int 0)) cU))))))))) (mN (cY 2 cW) (cT (mV 0) (cT (mC (D.int 8)) cU)))) cU)))) (gN 9))
  (fX (mB (m2 (b2 (iR λi j=>decide (j<i))) (mN (cY 2 cW) (cT (mV 0) (cT (mC (D.int 12)) cU))) (mC (D.int 0)))) (eF (rP (b2 jr) (mV 5) (cT (dL (cT (dL (cT (mV 6) (cT (mV 7) cU))) (cT (mV 9) cU))) cU))) oi)))
noncomputable def fg:FS:=(fz (gn (mN (cY 1 eJ) (cT (mV 3) cU))) (gN 7) fh)
noncomputable def ij:FS:=(c7 (db (fe (cT (dL cU) (cT (dL (cT (mC (D.str "came")) cU)) (cT (dL (cT (mC (D.str "doors")) cU)) (cT (dL (cT (mC (D.str "chalk")) cU)) (cT (dL (cT (mC (D.str "others")) cU)) (cT (dL (cT (mC (D.str "came")) (cT (mC (D.str "doors")) cU))) (cT (dL (cT (mC (D.str "chalk")) (cT (mC (D.str "others")) cU))) cU)))))))) (gN 2))
  (c7 (db (dL (cT (mN (cY 2 eB) (cT (mV 0) (cT (m2 (b2 et) (mV 2) (fe (cT (dL (cT (mC (D.str "doors")) (cT (mC (D.str "others")) cU))) cU))) cU))) (cT (m2 (b2 et) (mC (D.int 1)) (mN (cY 2 cW) (cT (mV 0) (cT (mC (D.int 3)) cU)))) cU))) (gT 2 (gCs (gN 3) (gCs (gN 4) gNl))))
  (c7 (db (fe cU) (gN 5))
  (c7 (fz (pQ (cT (mV 4) cU)) (gN 6) fg)
  (dY (dL (cT (mV 3) (cT (mN (b1 gTup) (cT (mV 5) cU)) cU))))))))
noncomputable def er:FN:=gJ 10 ij
theorem kA {f:cG}(F:dH K "_law_machine" hO f)(a:ew P w K mg base 1 "_law_draw" 2 cW)(c:ew P w K mg base 2 "_law_of" 2 eB)(b:ew P w K mg base 1 "_law_sights" 1 eJ):
  ew P w K mg base 3 "_law_machine" 2 er:=xq ["_law_box_here","_law_loud","_law_some_here","_law_eyes","_law_moods","_law_rows","_law_mood","_law_sight_here","_law_hand","_law_deed_here"] X G F λd=>
 (qF (sq (dM (qA (c6 qN) (qA (c6 (a1 c8)) (qA (c6 (a1 c8)) (qA (c6 (a1 c8)) (a3 (c6 (a1 c8)) (c6 (a2 c8 c8)) (c6 (a2 c8 c8))))))))) (qF (iW 3 4 O (fD O) O O (by decide) O O (a2 (wn c (a2 xv (qI d8 xv (dM (a1 (c6 (a2 c8 c8))))))) (qI d8 qK (wn a (a2 xv qK))))) (qF (sq (dM qN)) (qF (fo (ir (a1 xv)) gq (qG (fo (qd (wn b (a1 xv))) gq (qF (sq (jq (dM (qA c8 (a3 c8 c8 c8))) (qI iI (wn a (a2 xv qK)) (cz qr (a1 xv))))) (qF (sq (c6 (a3 (wn a (a2 xv xv)) xv (jq (dM (qA fH (qA qK (qA qK (qA qK (qA qK (a3 qK qK qK))))))) (wn a (a2 xv qK)))))) (qG (qV (ct BW (wn a (a2 xv qK)) qK) (qG (lq ap xv (a1 (c6 (a2 (c6 (a2 xv xv)) xv))))) qQ))))))) (qG (qU (c6 (a2 xv (cz eN (a1 xv))))))))))
abbrev jW:cR:=jG 24
noncomputable def kg:FS:=(c7 (db (zE (mN (cY 2 dG) (cT (mV 0) (cT (uA (cT (mV 1) cU)) cU))) pz (mU (m2 (b2 et) (mV 2) (mN (cY 2 cW) (cT (mV 0) (cT (m2 (b2 et) (m2 (b2 gSub) (mV 1) (mV 2)) (mC (D.int 1))) cU)))))) (gN 3))
  (dY (mN (b1 gTup) (cT (mN (b1 jn) (cT (mV 3) cU)) cU))))
noncomputable def fv:FN:=gJ 4 kg
theorem n0 {f:cG}(F:dH K "_law_some" jW f)(b:ew P w K mg base 1 "_law_draw" 2 cW)(a:ew P w K mg base 2 "_law_shuffled" 2 dG):
  ew P w K mg base 3 "_law_some" 3 fv:=xq ["_law_box_here","_law_many","_law_least","_law_bits"] X G F λc=>
 (qF (sq (re (wn a (a2 xv (kW O O (bz B) O (bz B) (a1 xv)))) vr (vq (qI d8 xv (wn b (a2 xv (qI d8 (qI wE xv xv) qK))))))) (qG (qU (cz eN (a1 (cn xR (a1 xv)))))))
abbrev jV:cR:=jG 12
noncomputable def kf:FS:=(dY (mN (cY 4 eW) (cT (mV 0) (cT (mV 2) (cT (mN (cY 3 fV) (cT (mV 0) (cT (mV 1) (cT (mV 2) cU)))) (cT (mV 3) cU))))))
noncomputable def eQ:FN:=gJ 4 kf
theorem nZ {f:cG}(F:dH K "slow_beat" jV f)(b:ew P w K mg base 3 "deeds_of" 3 fV)(a:ew P w K mg base 3 "moved_some" 4 eW):
  ew P w K mg base 4 "slow_beat" 4 eQ:=xq ["web","machine","whole","choice"] X G F λc=>
 (qG (qU (wn a (qA xv (a3 xv (wn b (a3 xv xv xv)) xv)))))
abbrev i6:cR:=jG 25
noncomputable def fR:FS:=(c7 (db (mN (cY 2 cW) (cT (mV 0) (cT (mN (b1 d9) (cT (mV 1) cU)) cU))) (gN 4))
  (c7 (fX (ol (mB (m2 (b2 vf) (mV 2) (fe cU))) (mB (m2 (b2 oA) (mN (cY 2 cW) (cT (mV 0) (cT (mC (D.int 3)) cU))) (mC (D.int 0))))) (db (m2 (b2 cZ) (m2 (b2 cZ) (mV 2) (m1 (b1 CF) (mC (D.int 1)))) (mC (D.int 0))) (gN 4)) oi)
  (eF (rP (b2 jr) (mV 2) (cT (dL (cT (mV 4) (cT (mN (cY 2 cW) (cT (mV 0) (cT (m2 (b2 et) (mN (b1 d9) (cT (m2 (b2 cZ) (mV 1) (mV 4)) cU)) (mC (D.int 1))) cU))) (cT (mN (cY 2 eB) (cT (mV 0) (cT (fe (cT (mC (D.int 0)) (cT (mC (D.int 0)) (cT (mC (D.int 1)) (cT (mC (D.int 2)) (cT (mC (D.int 3)) cU)))))) cU))) cU)))) cU)))))
noncomputable def jx:FS:=(c7 (db (fe cU) (gN 2))
  (c7 (fz (pQ (cT (m2 (b2 et) (mC (D.int 1)) (mN (cY 2 cW) (cT (mV 0) (cT (mC (D.int 4)) cU)))) cU)) (gN 3) fR)
  (dY (dL (cT (mN (b1 gTup) (cT (mV 2) cU)) (cT (mN (cY 3 fv) (cT (mV 0) (cT (mN (b1 d9) (cT (mV 1) cU)) (cT (mC (D.int 0)) cU)))) cU))))))
noncomputable def eX:FN:=gJ 5 jx
theorem mf {f:cG}(F:dH K "_law_whole" i6 f)(a:ew P w K mg base 1 "_law_draw" 2 cW)(c:ew P w K mg base 2 "_law_of" 2 eB)(b:ew P w K mg base 3 "_law_some" 3 fv):
  ew P w K mg base 4 "_law_whole" 2 eX:=xq ["_law_box_here","_law_web_here","_law_walkers","_law_k","_law_room"] X G F λd=>
 (qF (sq (dM qN)) (qF (fo (ir (a1 (qI d8 qK (wn a (a2 xv qK))))) gq (qF (sq (wn a (a2 xv (cn eL (a1 xv))))) (qF (qV (jT (io (ct (oq ut) xv (dM qN)) (gA (ct (oq lA) (wn a (a2 xv qK)) qK)))) (qG (sq (jq (jq xv (AU D6 qK)) qK))) qQ) (qG (lq ap xv (a1 (c6 (a3 xv (wn a (a2 xv (qI d8 (cn eL (a1 (jq xv xv))) qK))) (wn c (a2 xv (dM (qA qK (qA qK (a3 qK qK qK)))))))))))))) (qG (qU (c6 (a2 (cz eN (a1 xv)) (wn b (a3 xv (cn eL (a1 xv)) qK))))))))
abbrev pg:cR:=jG 31
noncomputable def nY:FS:=(fX (mB (m2 (b2 vf) (mN (b1 iL) (cT (mN (cY 4 eQ) (cT (mV 3) (cT (mV 4) (cT (mV 7) (cT (mV 8) cU))))) cU)) (mN (b1 iL) (cT (mV 9) cU)))) (dY (mC (D.bl J))) oi)
noncomputable def nX:FS:=(c7 (db (mN (cY 2 eX) (cT (mV 2) (cT (mV 3) cU))) (gN 7))
  (c7 (db (mN (cY 2 eK) (cT (mV 2) (cT (mN (b1 d9) (cT (m2 (b2 cZ) (mV 7) (mC (D.int 0))) cU)) cU))) (gN 8))
  (c7 (db (mN (cY 4 fy) (cT (mV 3) (cT (mV 5) (cT (mV 7) (cT (mV 8) cU))))) (gN 9))
  (c7 (fz (pQ (cT (mC (D.int 2)) cU)) (gN 10) nY)
  (c7 (db (zD (cT (mN (b1 d9) (cT (m2 (b2 cZ) (mV 7) (mC (D.int 0))) cU)) cU)) (gN 11))
  (fX (mB (m2 (b2 vf) (mN (b1 iL) (cT (mN (cY 4 eQ) (cT (mV 3) (cT (mV 4) (cT (mV 7) (cT (mV 11) cU))))) cU)) (mN (b1 iL) (cT (mN (cY 3 lB) (cT (mV 3) (cT (mV 4) (cT (mV 7) cU)))) cU)))) (dY (mC (D.bl J))) oi))))))
noncomputable def nW:FS:=(c7 (db (mN (cY 2 eO) (cT (mV 0) (cT (mV 1) cU))) (gN 2))
  (c7 (db (dL (cT (mN (cY 2 fW) (cT (mV 2) (cT (mC (D.int 8)) cU))) (cT (mN (cY 2 er) (cT (mV 2) (cT (mC (D.bl M)) cU))) cU))) (gT 2 (gCs (gN 3) (gCs (gN 4) gNl))))
  (c7 (db (mN (cY 1 fi) (cT (mV 4) cU)) (gN 5))
  (fz (pQ (cT (mC (D.int 4)) cU)) (gN 6) nX))))
noncomputable def sY:FS:=(m5 [M,M,J,J,J,J,J,J,J,J,J,J] [M,J,J,J,J,J,J,J,J,J,J,J] nW)
noncomputable def xU:FS:=(c7 (fz (pQ (cT (mN (b2 zX) (cT (mC (D.int 1)) (cT (mN (b2 zW) (cT (mC (D.int 16)) (cT (mN (b1 d9) (cT (mV 0) cU)) cU))) cU))) cU)) (gN 1) sY)
  (dY (mC (D.bl M))))
noncomputable def m_law:FN:=gJ 12 xU
theorem BS {f:cG}{fd:cQ}(F:vk K "law" "law" pg f fd)(j:ew P w K mg base 2 "_law_beat" 4 fy)(i:ew P w K mg base 1 "_law_box" 2 eO)(l:ew P w K mg base 2 "_law_choice" 2 eK)(o:ew P w K mg base 3 "_law_machine" 2 er)(h:ew P w K mg base 1 "_law_own" 1 fi)(g:ew P w K mg base 3 "_law_web" 2 fW)(m:ew P w K mg base 4 "_law_whole" 2 eX)(e:ew P w K mg base 3 "beat" 3 lB)(a:ew P w K mg base 4 "slow_beat" 4 eQ):
  jS P w K mg base qz 5 f fd ["_law_script"] (ya K 1 m_law):=AV (k:=4) (n:=1) (N:=["_law_script","_law_k","_law_box_here","_law_web_here","_law_machine_here","_law_own_here","_law_turn","_law_whole_here","_law_choice_here","_law_due","_law_again","_law_every"]) (ps:=["_law_script"]) (b:=xU) F sk O λp A d s H E c=>
 (qF (fo (ir (a1 (cn (EM O) (a2 qK (cn (EL O) (a2 qK (cn eL (a1 xv)))))))) gq (t8 [M,M,J,J,J,J,J,J,J,J,J,J] [M,J,J,J,J,J,J,J,J,J,J,J] (qF (sq (wn i (a2 xv xv))) (qF (iW 3 4 O (fD O) O O (by decide) O O (a2 (wn g (a2 xv qK)) (wn o (a2 xv nM)))) (qF (sq (wn h (a1 xv))) (qG (fo (ir (a1 qK)) gq (qF (sq (wn m (a2 xv xv))) (qF (sq (wn l (a2 xv (cn eL (a1 (jq xv qK)))))) (qF (sq (wn j (qA xv (a3 xv xv xv)))) (qF (fo (ir (a1 qK)) gq (qG (qV (ct (oq ut) (cn (oM c) (a1 (wn a (qA xv (a3 xv xv xv))))) (cn (oM c) (a1 xv))) (qG (qU nM)) qQ))) (qF (sq (vw O O (bz B) O (bz B) (a1 (cn eL (a1 (jq xv qK)))))) (qG (qV (ct (oq ut) (cn (oM c) (a1 (wn a (qA xv (a3 xv xv xv))))) (cn (oM c) (a1 (wn e (a3 xv xv xv))))) (qG (qU nM)) qQ)))))))))))))) (qG (qU nM)))
end
theorem all_mk {l:PySem.W.OpenLaw}{w:cJ}{K:Fg1}{h:cP}{mg:Str->Option cE}{fa f1 f2 f3 f4 f5 f6 f7 f8 f9 R f11 f12 f13 t j y au F W f20 f21 f22 f23 U o f26 f27:cG}(X:K.In h)(G:h.Ns cK mg)(hfa:mg "law"=some (.ref fa))
  {g1 g2 g5 g8 i:cG}
  {t3 t4 t6 t7 t9 aq t12 H:Tok}
  {od2 od5 od8 c ao:Option cG} {n2 n5 n8 n11 n1:Nat} {sl2 sl5 E f sl1:Array (Option cE)}
  (a1:dH K "first_of" k8 f1)
  (a2:dH K "sight_of" k6 f2)
  (a3:dH K "handled" mJ f3)
  (a4:dH K "stepped" mI f4)
  (a5:dH K "_law_box" lg f5)
  (a6:dH K "_law_draw" jY f6)
  (a7:dH K "_law_join" jX f7)
  (a8:dH K "_law_sights" iG f8)
  (a9:dH K "_law_sight" i7 f9)
  (S:dH K "_law_own" lf R)
  (a11:dH K "_law_deed" jZ f11)
  (I:dH K "deed_of" mK f12)
  (a13:dH K "wants" sP f13)
  (k:dH K "moved" sQ t)
  (a15:dH K "_law_of" mL j)
  (a16:dH K "_law_shuffled" hE y)
  (u:dH K "_law_choice" iH au)
  (T:dH K "_law_beat" j0 F)
  (N:dH K "beat" v9 W)
  (am:dH K "deeds_of" k9 f20)
  (wq:dH K "moved_some" i5 f21)
  (a22:dH K "_law_web" lc f22)
  (a23:dH K "_law_machine" hO f23)
  (x:dH K "_law_some" jW U)
  (a25:dH K "slow_beat" jV o)
  (D:dH K "_law_whole" i6 f26)
  (g:dH K "law" pg f27)
  (e_PARTS:wN1 K cK "PARTS"=Z (Z (Value.ref g1)))
  (h1:K.lookup g1=Z ⟨.type "tuple",ao,.seq ([(Value.ref g2),(Value.ref g5),(Value.ref g8),(Value.ref i)]:List cE).toArray n1,sl1⟩)
  (h2:K.lookup g2=Z ⟨.type "tuple",od2,.seq ([(Value.str "came" t3),(Value.int (5) t4)]:List cE).toArray n2,sl2⟩)
  (h5:K.lookup g5=Z ⟨.type "tuple",od5,.seq ([(Value.str "chalk" t6),(Value.int (2) t7)]:List cE).toArray n5,sl5⟩)
  (h8:K.lookup g8=Z ⟨.type "tuple",od8,.seq ([(Value.str "doors" t9),(Value.int (5) aq)]:List cE).toArray n8,E⟩)
  (L:K.lookup i=Z ⟨.type "tuple",c,.seq ([(Value.str "others" t12),(Value.int (2) H)]:List cE).toArray n11,f⟩)
  (z:EV K BL):∃fd:cQ,(∀(s:cF) (v:cE),BindsTo s fd ⟨[v],[]⟩ [("_law_script",v)]) /\ ∀base:cP,K.In base->base.Ns cK mg->jS l.prog w K mg base qz 5 fa fd ["_law_script"] (ya K 1 m_law):=by
 have e:=hfa.symm.trans (wM1 X G g.ns);cases e;have B:Blt BL mg:=z.blt X G;have c0:CGl K mg "PARTS" kP:=CN (wM1 X G e_PARTS) (lT h1 (by show 4<=cN;decide) (eg (lT h2 (by show 2<=cN;decide) (eg oF (eg oG ju))) (eg (lT h5 (by show 2<=cN;decide) (eg oF (eg oG ju))) (eg (lT h8 (by show 2<=cN;decide) (eg oF (eg oG ju))) (eg (lT L (by show 2<=cN;decide) (eg oF (eg oG ju))) ju)))));obtain⟨_,⟨⟨_,_,kV,dc,pm,an,cd,ct,_,rfl,lL,cL⟩,kL⟩⟩:=g.fn;refine⟨wF1 "law" "law" (gi pg) (ea pg) (dg pg) .none kV dc pm an cd ct,λs v=>.of_eq O,λbase _ _=>?_⟩;have o0:=pq (P:=l.prog) (w:=w) (base:=base) X G B a1;have o1:=pp (P:=l.prog) (w:=w) (base:=base) X G B a2 c0;have o2:=rF (P:=l.prog) (w:=w) (base:=base) X G B a3;have o3:=rE (P:=l.prog) (w:=w) (base:=base) X G B a4;have m:=px (P:=l.prog) (w:=w) (base:=base) X G B a5;have b:=n4 (P:=l.prog) (w:=w) (base:=base) X G B a6;have o10:=n3 (P:=l.prog) (w:=w) (base:=base) X G B a7;have V:=ly (P:=l.prog) (w:=w) (base:=base) X G B a8;have o6:=mh (P:=l.prog) (w:=w) (base:=base) X G B a9;have A:=pw (P:=l.prog) (w:=w) (base:=base) X G B S;have o5:=n6 (P:=l.prog) (w:=w) (base:=base) X G B a11;have o7:=rG X G B I o0;have o9:=wC X G B a13 o1;have o8:=wD X G B k o2 o3;have a:=rH X G B a15 b;have d:=jJ X G B a16 b;have n:=lz X G B u b;have o17:=n9 X G B T o5 o6;have o24:=zh X G B N o7 o8 o9;have r:=pu X G B am o7 o9;have p:=me X G B wq o8;have o22:=pv X G B a22 b o10 a d;have o20:=kA X G B a23 b a V;have q:=n0 X G B x b d;have Q:=nZ X G B a25 r p;have C:=mf X G B D b a q;exact BS (P:=l.prog) (w:=w) (base:=base) X G B (xA lL cL kL) o17 m n o20 A o22 C o24 Q
noncomputable def hnd(g m c:Int):Ob:=.lst [.int g,.int m,.int c]
noncomputable def Ca(m c:Int):Int:=(m*40009+7368787*c+12345)%2305843009213693951
noncomputable def rL(m c:Int):Int:=(Ca m c*(Ca m c%65537+101*c)+9973)%2305843009213693921
theorem EN{a b c:D}:qM [a,b,c] 0=Z a:=by rfl
theorem F9{a b c:D}:qM [a,b,c] 1=Z b:=by rfl
theorem F8{a b c:D}:qM [a,b,c] 2=Z c:=by rfl
theorem CI{T:cV}{g m c k:Int}(hg:0<g)(hk:0<k)(d:k<2^62):
  cW [.ref 0,.int k] (hnd g m c::T)=Z (.int (g%k),hnd (g/k) m c::T):=by
 have a:k<2^64:=by lia
 have b:k<18446744073709551616:=a;simp[cW,gJ,fB,ik,c7,fX,mB,m2,b2,iR,mV,mC,cZ,jN,xy,da,hnd,hg,hk,b,db,gN,jp,lJ,gS,b3,gg,jo,ib,dY,EN,rS]
theorem CH{T:cV}{g m c k:Int}(hg:¬ 0<g)(hk:0<k)(hc:0<=c)(f:c<2^60):
  cW [.ref 0,.int k] (hnd g m c::T)=Z (.int ((rL m (c+1)/4099+rL m (c+1)/2147483659)%k),hnd g (rL m (c+1)) (c+1)::T):=by
 have b:dN m 40009=M:=pE (by decide) (by decide);have e:dN 7368787 (c+1)=M:=mZ (by decide) (by decide);have a:dN 101 (c+1)=M:=mZ (by decide) (by decide);have q:=Int.emod_lt_of_pos (m*40009+7368787*(c+1)+12345) (show(0:Int)<2305843009213693951 by decide);have h:=Int.emod_nonneg (m*40009+7368787*(c+1)+12345) (show(2305843009213693951:Int)≠0 by decide);have d:dN ((m*40009+7368787*(c+1)+12345)%2305843009213693951) ((m*40009+7368787*(c+1)+12345)%2305843009213693951%65537+101*(c+1))=M:=mZ (by omega) (by omega);simp[cW,gJ,fB,ik,c7,fX,mB,m2,b2,iR,mV,mC,cZ,jN,xy,da,hnd,hg,hk,db,gN,jp,lJ,gS,b3,gg,jo,ib,dY,EN,F9,F8,rS,oi,et,ic,b,e,a,d,Ca,rL]
def Hnd(o:Ob)(n:Nat):Prop:=∃g m c:Int,o=hnd g m c/\0<=c/\c<=n
theorem Hnd.und{o:Ob}{n k:Nat}(h:Hnd o n):o.und k=M:=by
 obtain⟨g,m,c,rfl,_⟩:=h;rfl
theorem Hnd.more{o:Ob}{n k:Nat}(h:Hnd o n)(hk:n<=k):Hnd o k:=by
 obtain⟨g,m,c,e,a,h1⟩:=h;exact⟨g,m,c,e,a,by lia⟩
theorem Am(ns:List Int)(k:Int)(h0:0<=k)(hk:k<64):∃g m,eO [.rol (ns.map D.int),.int k] []=Z (.ref 0,[hnd g m 0]):=by
 have j:dN (10^45) (10^45)=M:=by decide+kernel
 have e:dN 9973 k=M:=mZ (by decide) (by decide);have f:dN (9973*k) k=M:=pE (by omega) (by omega);have d:dN 17 k=M:=mZ (by decide) (by decide);have h:dN 0 0=M:=mZ (by decide) (by decide);have c:∀(x:Int) (b:Prop) [Decidable b],dN x (if b then 1 else 0)=M:=λx b _=>by
  split
  ·exact pE (by decide) (by decide)
  ·exact pE (by decide) (by decide)
 have lt:vg (.int k) (.int ns.length) []=Z (.bl (decide (k<ns.length)),[]):=by rfl
 by_cases i:k<ns.length
 ·have a:qM (ns.map D.int) k=some (.int (ns[k.toNat]'(by lia))):=by
   unfold qM rS;rw[ak h0,ak (by simpa using i)];simp[show k.toNat<ns.length by lia]
  generalize l:ns[k.toNat]'(by lia)=x at a
  simp[eO,gJ,fB,iT,c7,fX,mB,m2,b2,b1,mN,cT,cU,iR,mV,mC,cZ,jN,xy,d9,da,db,gN,jp,ic,et,rX,kC,dY,fe,lt,i,a,e,f,d,c,cN,hnd,oi];simp[show dN 1000000000000000000000000000000000000000000000 1000000000000000000000000000000000000000000000=M from j,e,f,d,c]
 ·simp[eO,gJ,fB,iT,c7,fX,mB,m2,b2,b1,mN,cT,cU,iR,mV,mC,cZ,jN,xy,d9,da,db,gN,jp,ic,et,rX,kC,dY,fe,lt,i,e,f,d,c,cN,hnd,oi];simp[show dN 1000000000000000000000000000000000000000000000 1000000000000000000000000000000000000000000000=M from j,h,e,f,d,c]
theorem CU(ns:List Int)(k:Int)(h0:0<=k)(hk:k<64):∃o,cY 2 eO [.rol (ns.map D.int),.int k] []=Z (.ref 0,[o])/\Hnd o 0:=by
 have a:=Am ns k h0 hk;obtain⟨g,m,e⟩:=a;refine⟨hnd g m 0,?_,_,_,_,O,Int.le_refl _,Int.le_refl _⟩;rw[ii (n:=2) e O (by rw[D.unds,D.und,jF];rfl) (by simp[D.und])];simp[D.sh,Ob.sh,D.shs,hnd]
def jA(U:cV):Prop:=U.all (Ob.und U.length)=M
structure HS (n:Nat)(B U:cV):Prop where
 len:B.length<=U.length
 pos:0<B.length
 same:∀i,i<B.length->0<i->U[i]?=B[i]?
 hand:∃o,U[0]?=some o/\Hnd o n
 shut:jA U
theorem HS.more{n n':Nat}{B U:cV}(s:HS n B U)(hn:n<=n'):HS n' B U:=by
 obtain⟨o,e,h⟩:=s.hand;exact⟨s.len,s.pos,s.same,⟨o,e,h.more hn⟩,s.shut⟩
theorem HS.self{n:Nat}{U:cV}{o:Ob}(e:U[0]?=Z o)(h:Hnd o n)(a:jA U):HS n U U:=
 ⟨nR1 _,(gE1.mp e).1,λ_ _ _=>rfl,⟨o,e,h⟩,a⟩
theorem HS.here{n:Nat}{B U:cV}(s:HS n B U):HS n U U:=by
 obtain⟨o,e,h⟩:=s.hand;exact .self e h s.shut
theorem HS.trans{n n':Nat}{B U V:cV}(a:HS n B U)(b:HS n' U V):HS n' B V:=
 ⟨aC a.len b.len,a.pos,λi hi h1=>(b.same i (nL1 hi a.len) h1).trans (a.same i hi h1),b.hand,b.shut⟩
theorem HS.at{n:Nat}{B U:cV}(s:HS n B U){i:Nat}{o:Ob}(e:B[i]?=Z o)(h1:0<i):U[i]?=Z o:=by
 rw[s.same i (gE1.mp e).1 h1];exact e
theorem vZ{U:cV}{G:cV}(s:jA U)(hg:∀o∈G,o.und (U++G).length=M):jA (U++G):=by
 unfold jA at *
 rw[List.all_append,bA1];rw[br]at s;refine⟨br.mpr λo a=>fS (by rw[lA1];lia) (s o a),br.mpr hg⟩
theorem k4{U:cV}{i:Nat}{o:Ob}(s:jA U)(ho:o.und U.length=M):jA (U.set i o):=by
 unfold jA at *
 rw[aT,br]at *
 intro x a;rcases List.mem_or_eq_of_mem_set a with z|z
 ·exact s x z
 ·rw[z];exact ho
theorem HS.app{n:Nat}{B U G:cV}(s:HS n B U)(hg:∀o∈G,o.und (U++G).length=M):HS n B (U++G):=by
 obtain⟨o,e,h⟩:=s.hand;have a:=s.len;refine⟨by rw[lA1];lia,s.pos,λi hi h1=>?_,⟨o,?_,h⟩,vZ s.shut hg⟩
 ·rw[gL1 (by lia)];exact s.same i hi h1
 ·rw[gL1 (gE1.mp e).1];exact e
theorem HS.app1{n:Nat}{B U:cV}{o:Ob}(s:HS n B U)(hg:o.und 0=M):HS n B (U++[o]):=
 s.app λx a=>by rw[cp.mp a];exact fS (bd _) hg
theorem HS.set{n i:Nat}{B U:cV}{o:Ob}(s:HS n B U)(hi:B.length<=i)(ho:o.und U.length=M):HS n B (U.set i o):=by
 obtain⟨o',e,h⟩:=s.hand;have h1:=s.pos;refine⟨by rw[aT];exact s.len,s.pos,λj b a=>?_,⟨o',?_,h⟩,k4 s.shut ho⟩
 ·rw[gS1 (by lia)];exact s.same j b a
 ·rw[gS1 (by lia)];exact e
theorem draw_W{n:Nat}{B U:cV}{k:Int}{Q:D×cV->Prop}(s:HS n B U)(hn:n<=2^50)(hk:0<k)(f:k<2^62)(q:∀(d:Nat) U',HS (n+1) B U'->HS (n+1) U U'->U'.length=U.length->(d:Int)<k->Q (.int d,U')):W (cY 2 cW [.ref 0,.int k] U) Q:=by
 obtain⟨o,e,g,m,c,rfl,p,h1⟩:=s.hand;obtain⟨T,rfl⟩:∃T,U=hnd g m c::T:=by
  cases U with
  |nil=>cases e
  |cons a T=>cases e;exact⟨T,O⟩
 have call:∀d o',cW [.ref 0,.int k] (hnd g m c::T)=Z (d,o'::T)->cY 2 cW [.ref 0,.int k] (hnd g m c::T)=Z (d,o'::T):=λd o e=>uZ e O (by simp[D.unds,D.und]) (by simp);have h:∀o':Ob,Hnd o' (n+1)->HS (n+1) (hnd g m c::T) (o'::T):=λo' j=>by
  refine⟨nR1 _,by simp,λi hi r=>?_,⟨o',O,j⟩,?_⟩
  ·cases i with
   |zero=>lia
   |succ i=>rfl
  ·have:=s.shut;unfold jA at *
   rw[bG,bA1]at *
   exact⟨j.und,this.2⟩
 by_cases l:0<g
 ·have b:=Int.emod_nonneg g (show k≠0 by lia);obtain⟨d,e⟩:=Int.eq_ofNat_of_zero_le b;refine⟨_,call _ _ (CI l hk f),?_⟩;rw[e];have u:=h (hnd (g/k) m c) ⟨_,_,_,O,p,by lia⟩;exact q d _ (s.trans u) u O (by rw[<- e];exact Int.emod_lt_of_pos _ hk)
 ·have b:=Int.emod_nonneg (rL m (c+1)/4099+rL m (c+1)/2147483659) (show k≠0 by lia);obtain⟨d,e⟩:=Int.eq_ofNat_of_zero_le b;refine⟨_,call _ _ (CH l hk p (by lia)),?_⟩;rw[e];have u:=h (hnd g (rL m (c+1)) (c+1)) ⟨_,_,_,O,by lia,by push_cast;lia⟩;exact q d _ (s.trans u) u O (by rw[<- e];exact Int.emod_lt_of_pos _ hk)
theorem nB{n c c':Nat}{f:FN}{ds:List D}{B U:cV}{Q:D×cV->Prop}(hn:ds.length=n)(k:D.unds 0 ds=J)(s:HS c B U)(q:W (f ds U) λp=>HS c' U p.2/\p.1.und 0=M /\ ∀g,HS c' B g->HS c' U g->g.length=U.length->Q (p.1,g)):W (cY n f ds U) Q:=by
 refine ke hn k (q.mono ?_);rintro⟨d,V⟩ ⟨v,j,q⟩;dsimp only at v j q;have r:=v.len;have m:=v.pos;have tl:(V.take U.length).length=U.length:=by rw[aP];lia
 obtain⟨o,e,h⟩:=v.hand;have get:∀i,i<U.length->(V.take U.length)[i]?=V[i]?:=λi hi=>by rw[aR hi]
 have sh:(V.take U.length).all (Ob.und U.length)=M:=by
  rw[br];intro x l;obtain⟨i,hi⟩:=bj l;have b:i<U.length:=by rw[<- tl];exact(gE1.mp hi).1
  rw[get i b]at hi;by_cases a:i=0
  ·subst a;rw[e]at hi;cases hi;exact h.und
  ·rw[v.same i b (by lia)]at hi;have:=s.shut;unfold jA at this;rw[br]at this;exact this x (gM1 hi)
 have u:HS c' U (V.take U.length):=by
  refine⟨by rw[tl];lia,v.pos,λi hi a=>by rw[get i hi];exact v.same i hi a,⟨o,by rw[get 0 (by lia)];exact e,h⟩,?_⟩;unfold jA;rw[tl];exact sh
 have e:gc U.length (d,V)=(d,V.take U.length):=by
  unfold gc;dsimp only;rw[ak (by rw[ed j,sh];rfl)]
 rw[e];exact q _ (s.trans u) u tl
theorem BU{c r:Nat}{B U:cV}{xs:List D}{Q:D×cV->Prop}(s:HS c B U)(hc:c<=2^45)(hr:U[r]? = Z (.lst xs))(h:0<r)(m:xs.length<=100000)(k:0<xs.length)(hx:∀ x∈xs,x.und 0=M)(q:∀x f,x∈xs->HS (c+1) B f->HS (c+1) U f->f.length=U.length->Q (x,f)):W (cY 2 eB [.ref 0,.ref r] U) Q:=by
 refine nB (c':=c+1) O O s ?_;unfold eB;refine kK ?_;unfold nJ;walk_at"w";refine dI hr ?_;dsimp only;refine draw_W s.here (by lia) (by lia) (by lia) λj f h1 h2 n l=>?_;have d:j<xs.length:=by lia
 refine qw (i:=j) (h2.at hr h) (gG1 d) ?_;exact⟨h2,hx _ (bJ d),λg a b e=>q _ g (bJ d) a b e⟩
theorem lP:∀{xs:List D} {i:Nat} (h:i<xs.length),(xs[i]::xs.eraseIdx i).Perm xs
 |x::xs,0,h=>List.Perm.refl _
 |x::xs,i+1,h=>by
  have:=lP (xs:=xs) (i:=i) (by simpa using h);rw[List.eraseIdx_cons_succ,List.getElem_cons_succ];exact(List.Perm.swap _ _ _).trans (this.cons x)
theorem vA{c:FT}{b:FS}{Q:Fl×Ev×cV->Prop}(I:Nat->Ev->cV->Prop)(step:∀k r S,I k r S->W (c r S) fun p=>if p.1=true then 0<k/\W (b r p.2) fun q=>q.1 = .nx/\I (k-1) q.2.1 q.2.2 else Q (.nx,r,p.2)):
  ∀(a k:Nat) (r:Ev) (S:cV),k<a->I k r S->W (oQ c b a r S) Q
 |0,k,r,S,hf,_=>by lia
 |a+1,k,r,S,hf,hi=>by
  rw[oQ];dsimp only;rw[c4];obtain⟨⟨t,m⟩,e,h⟩:=step k r S hi;refine⟨_,e,?_⟩;dsimp only at h ⊢;cases t with
  |true=>
   rw[ak O]at h ⊢;obtain⟨n,⟨f,j,l⟩,i,d,g⟩:=h;dsimp only at d g;subst d;rw[i,oS1];exact vA I step a (k-1) j l (by lia) g
  |false=>
   rw[aj (by decide)]at h ⊢;exact dv.mpr h
inductive SH (c n:Nat)(xs:List D)(U:cV)(r0:Nat)(k:Nat)(r:Ev)(S:cV):Prop where
 |mk (left found:List D) (h1:HS (c+(n-k)) U S) (h2:S[U.length]?=some (.lst left)) (h3:S[U.length+1]?=some (.lst found)) (h4:(found++left).Perm xs) (h5:left.length=k)
  (h6:r=[some (.ref 0),some (.ref r0),some (.ref U.length),some (.ref (U.length+1))]):SH c n xs U r0 k r S
theorem gC{n:Nat}:∀{xs:List D},D.unds n xs=M ↔ ∀x∈xs,x.und n=M
 |[]=>by simp[D.unds]
 |x::xs=>by rw[D.unds,bA1,gC (xs:=xs)];simp
theorem v4{c r:Nat}{B U:cV}{xs:List D}{Q:D×cV->Prop}(s:HS c B U)(hc:c<=2^45)(hr:U[r]? = Z (.lst xs))(R:xs.length<=100)(hx:D.unds 0 xs=M)(q:∀k ys i,HS (c+xs.length) B i->HS (c+xs.length) U i->U.length<=k->i[k]?=Z (.lst ys)->ys.Perm xs->Q (.ref k,i)):W (cY 2 dG [.ref 0,.ref r] U) Q:=by
 refine ke O O ?_;unfold dG;refine kK ?_;unfold hH;have I:=s.here;refine dD (λl S=>S=U++[.lst xs,.lst []]/\l=[Z (.ref 0),Z (.ref r),Z (.ref U.length),Z (.ref (U.length+1))]) ?_ ?_
 ·((try walk_at"w");repeat(simp only[pV,ga hr];try walk_at"w"))
 rintro l S ⟨rfl,rfl⟩;have nd:∀{ys zs:List D},(ys++zs).Perm xs->D.unds 0 ys=M/\D.unds 0 zs=M:=λ{ys zs} p=>by
  have h:=gC.mp hx;exact⟨gC.mpr λx h1=>h x (p.mem_iff.mp (aG _ h1)),gC.mpr λx h1=>h x (p.mem_iff.mp (mA1 _ h1))⟩
 refine dD (λl S=>SH c xs.length xs U r 0 l S) ?_ ?_
 ·refine vA (SH c xs.length xs U r) ?_ 100000 xs.length _ _ (by lia) ⟨xs,[],?_,by rw[dF];rfl,by rw[fL];rfl,.refl _,O,O⟩
  ·rintro k l S ⟨a,b,h1,h2,n,e,t,rfl⟩;obtain ⟨au,ao⟩:=nd e;have P:a.length<=xs.length/\b.length+a.length=xs.length:=by
    have:=e.length_eq;rw[lA1]at this;lia
   have K:=h1.len;have u:=(gE1.mp n).1;have d:∀o,(S++[o])[U.length]?=Z (.lst a):=λo=>by rw[gL1 (by lia)];exact h2
   have g:∀o,(S++[o])[U.length+1]?=Z (.lst b):=λo=>by rw[gL1 u];exact n
   unfold ge;walk_at"w";rw[oz (d _) (by rw[cq])];walk_at"w";have H:(!a.isEmpty)=decide (0<k):=by
    rw[<- t];cases a<;>simp
   rw[H];by_cases y:0<k
   ·rw[ak (by rw[al];exact y)];refine⟨y,?_⟩;unfold gb eF;rw[c4];refine kl ?_;walk_at"w";refine⟨_,_,O,g _,?_⟩;refine kl ?_;walk_at"w";refine⟨_,_,O,d _,?_⟩
    try walk_at"w"
    refine dI (d _) ?_;dsimp only;refine draw_W (h1.app1 (o:=.lst []) O) (by lia) (by lia) (by lia) λj i a1 a2 a3 T=>?_;have f:j<a.length:=by lia
    try walk_at"w"
    have G:=s.pos;have w:0<U.length:=by have:=s.len;lia
    refine C5 (a2.at (d _) w) (gG1 f) (by lia) ?_;have b3:(i.set U.length (.lst (a.eraseIdx j)))[U.length+1]?=Z (.lst b):=by
     rw[gS1 (by lia)];exact a2.at (g _) (by lia)
    have E:U.length+1<i.length:=by rw[a3,lA1];lia
    have L:=lP f;have m:(b++[a[j]]++a.eraseIdx j).Perm xs:=by
     rw[bv];exact(List.Perm.append_left b L).trans e
    obtain⟨A,C⟩:=nd m;refine(kn b3).mpr ⟨df (by lia),?_⟩;refine SH.mk (a.eraseIdx j) (b++[a[j]]) ?_ ?_ ?_ m (by rw[bZ f];lia) O
    ·refine((HS.more (n':=c+(xs.length-(k-1))) a1 (by lia)).set (nR1 _) (by rw[Ob.und];exact eh C)).set (by lia) (by rw[Ob.und];exact eh A)
    ·rw[gS1 (by lia),aH (by lia)]
    ·rw[aH (by rw[aT];exact E)]
   ·rw[aj (by rw[al];exact y)];have v:k=0:=by lia
    subst v;exact⟨a,b,h1.app1 O,d _,g _,e,t,O⟩
  ·rw[Nat.sub_self,Nat.add_zero];refine I.app λo N=>?_;rcases aE.mp N with z|z
   ·rw[z,Ob.und];exact eh hx
   ·rw[cp.mp z];rfl
 rintro l S ⟨a,b,h1,h2,n,e,t,rfl⟩;walk_at"w";have F:a=[]:=List.eq_nil_of_length_eq_zero t;subst F;rw[aL]at e;have am:gc U.length (.ref (U.length+1),S)=(.ref (U.length+1),S):=by
  unfold gc;rw[aj];simp[D.und];intro z;lia
 rw[am];exact q _ b S ((s.trans h1).more (by lia)) (h1.more (by lia)) (by lia) n e
abbrev c3:=List (List (Nat×Nat))
structure EW (b m:Nat)(E:c3)(U:cV):Prop where
 el:E.length=m
 row:∀(i:Nat) (row:List (Nat×Nat)),E[i]?=some row->U[b+i]?=some (d4 row)
 ends:U[b+m]?=some (.lst (gj b m))
theorem EW.over{n b m:Nat}{E:c3}{U V:cV}(e:EW b m E U)(s:HS n U V)(d:0<b):EW b m E V:=
 ⟨e.el,λi a c=>s.at (e.row i a c) (by lia),s.at e.ends (by lia)⟩
theorem EW.setRow{b m i:Nat}{E:c3}{U:cV}{row:List (Nat×Nat)}(w:EW b m E U)(hi:i<m):EW b m (E.set i row) (U.set (b+i) (d4 row)):=by
 have c:b+m<U.length:=(gE1.mp w.ends).1;refine⟨by rw[aT];exact w.el,λj a h=>?_,by rw[gS1 (by lia)];exact w.ends⟩;by_cases e:i=j
 ·subst e;rw[aH (by rw[w.el];exact hi)]at h;cases h;rw[aH (by lia)]
 ·rw[gS1 e]at h;rw[gS1 (by lia)];exact w.row j a h
theorem oN{b m i:Nat}{E:c3}{U:cV}{Q:D×cV->Prop}(w:EW b m E U)(hi:i<m)(q:Q (.ref (b+i),U)):W (cZ (.ref (b+m)) (.int i) U) Q:=
 qw (xs:=gj b m) (x:=.ref (b+i)) w.ends (ja hi) q
theorem nh:∀E:c3,jk (E.map λa=>D.int (a.length:Nat))=Z (E.map λa=>((a.length:Nat):Int))
 |[]=>rfl
 |r::E=>by rw[mP1,mP1,jk,nh E];rfl
theorem oZ:∀E:c3,(E.map λa=>((a.length:Nat):Int)).sum=((Mi.tot E:Nat):Int)
 |[]=>rfl
 |r::E=>by
  have:=oZ E;unfold Mi.tot at *
  rw[mP1,mP1,List.sum_cons,List.sum_cons,this]
  push_cast;rfl
theorem C1{E:c3}{S:cV}{n:Nat}{Q:D×cV->Prop}(h:S[n]?=Z (.lst (E.map λa=>D.int (a.length:Nat))))(q:Q (.int (Mi.tot E:Nat),S)):W (pU (.ref n) S) Q:=by
 refine W.of ?_ q;unfold pU;rw[ga h];dsimp only;rw[nh,oS1,oZ]
theorem t0{b m i:Nat}{E:c3}{U G:cV}{Q:D×cV->Prop}(w:EW b m E U)(hi:i<m)(q:Q (.ref (b+i),U++G)):W (cZ (.ref (b+m)) (.int i) (U++G)) Q:=
 qw (xs:=gj b m) (x:=.ref (b+i)) (by rw[gL1 (gE1.mp w.ends).1];exact w.ends) (ja hi) q
theorem xb{b m a c e:Nat}{E:c3}{U:cV}{Q:D×cV->Prop}(I:jA U)(w:EW b m E U)(ht:Mi.tot E=2*e)(ha:a<m)(hc:c<m)(hm:m<=8){f:List (Nat×Nat)}(l:E[a]? = some f)(N:f.length<=8)(L:∀ rb,E[c]? = some rb->rb.length<=8)(q:∀rb,(E.set a (f++[(e,0)]))[c]?=some rb->Q (.non,(U.set (b+a) (d4 (f++[(e,0)]))).set (b+c) (d4 (rb++[(e,1)])))):
  W (cY 3 eR [.ref (b+m),.int a,.int c] U) Q:=by
 have K:b+m<U.length:=(gE1.mp w.ends).1;refine ke O O ?_;unfold eR;refine kK ?_;unfold kh;have v:∀S,pW (.int ((Mi.tot E:Nat):Int)) (.int 2) S=Z (.int (e:Nat),S):=λS=>by
  simp only[pW];rw[ak ⟨by lia,by lia⟩,ht]
  congr 3
  push_cast;lia
 refine dD (λr S=>S=U++[.lst (E.map λrow=>D.int (row.length:Nat))]/\r=[Z (.ref (b+m)),Z (.int a),Z (.int c),Z (.int (e:Nat))]) ?_ ?_
 ·walk_at"w";refine dI w.ends ?_;refine iA (λi p r S=>S=U/\p=(E.take i).map (λrow=>D.int (row.length:Nat)) /\ ∃x,r=[x]) (gj b m) 0 [] _ _ ⟨O,by simp,_,O⟩ (λi p r S h=>by rw[h.1];exact eV w.ends) ?_ ?_
  ·rintro i d t p r S ⟨rfl,rfl,x,rfl⟩;have n:=(gE1.mp t).1;rw[gF]at n;rw[ja n]at t;cases t;rw[bE];obtain⟨row,k⟩:∃row,E[i]?=some row:=⟨_,gG1 (by rw[w.el];exact n)⟩;walk_at"w";refine dI (xs:=row.map pD) (w.row i row k) ?_;rw[bY,k];simp
  ·rintro xs r S ⟨rfl,F,x,rfl⟩;rw[cg,bE,gF,<- w.el,bN]at F;subst F;walk_at"w";refine⟨df (by rw[lM1,w.el];lia),?_⟩;refine C1 (E:=E) (by rw[dF];rfl) ?_
   ((try walk_at"w");repeat(simp only[v];try walk_at"w"))
 rintro r S ⟨rfl,rfl⟩;generalize ao:Ob.lst (E.map λrow=>D.int (row.length:Nat))=lens;have am:lens.und U.length=M:=by rw[<- ao,Ob.und];exact dk λ_ _=>rfl
 have s:=w.setRow (row:=f++[(e,0)]) ha;have j:∀(V:cV) (i:Nat) (o:Ob),V[i]?=Z o->(V++[lens])[i]?=Z o:=λV i o h=>by rw[gL1 (gE1.mp h).1];exact h
 have st:∀(V:cV) (i:Nat) (o:Ob),i<V.length->(V++[lens]).set i o=V.set i o++[lens]:=λV i o h=>by rw[List.set_append_left _ _ h]
 have A:b+a<U.length:=(gE1.mp (w.row a f l)).1;refine dD (λr S=>S=U.set (b+a) (d4 (f++[(e,0)]))++[lens]/\r=[Z (.ref (b+m)),Z (.int a),Z (.int c),Z (.int (e:Nat))]) ?_ ?_
 ·unfold eF;rw[c4];refine kl ?_;walk_at"w";refine t0 w ha ?_;refine⟨b+a,f.map pD,O,j _ _ _ (w.row a f l),?_⟩;walk_at"w";refine(kn (xs:=f.map pD) (j _ _ _ (w.row a f l))).mpr ⟨df (by rw[lM1];lia),?_⟩;have u:(f.map pD++[D.tup [D.int ↑e,D.int 0]])=(f++[(e,0)]).map pD:=by simp[pD]
  rw[u,st _ _ _ A];trivial
 rintro r S ⟨rfl,rfl⟩;obtain⟨rb,g⟩:∃rb,(E.set a (f++[(e,0)]))[c]?=some rb:=⟨_,gG1 (by rw[s.el];exact hc)⟩;have au:rb.length<=10:=by
  by_cases z:a=c
  ·subst z;rw[aH (by rw[w.el];exact ha)]at g;cases g;simp;lia
  ·rw[gS1 z]at g;have:=L rb g;lia
 have B:b+c<(U.set (b+a) (d4 (f++[(e,0)]))).length:=(gE1.mp (s.row c rb g)).1;unfold eF;rw[c4];refine kl ?_;walk_at"w";refine t0 s hc ?_;refine⟨b+c,rb.map pD,O,j _ _ _ (s.row c rb g),?_⟩;walk_at"w";refine(kn (xs:=rb.map pD) (j _ _ _ (s.row c rb g))).mpr ⟨df (by rw[lM1];lia),?_⟩;have u:(rb.map pD++[D.tup [D.int ↑e,D.int 1]])=(rb++[(e,1)]).map pD:=by simp[pD]
 rw[u,st _ _ _ B];have C:((U.set (b+a) (d4 (f++[(e,0)]))).set (b+c) (d4 (rb++[(e,1)]))).all (Ob.und U.length)=M:=by
  have:=k4 (i:=b+c) (o:=d4 (rb++[(e,1)])) (k4 (i:=b+a) (o:=d4 (f++[(e,0)])) I fO) fO;unfold jA at this;rw[aT,aT]at this;exact this
 have H:gc U.length (.non,(U.set (b+a) (d4 (f++[(e,0)]))).set (b+c) (d4 (rb++[(e,1)]))++[lens])=(.non,(U.set (b+a) (d4 (f++[(e,0)]))).set (b+c) (d4 (rb++[(e,1)]))):=by
  have y:((U.set (b+a) (d4 (f++[(e,0)]))).set (b+c) (d4 (rb++[(e,1)]))++[lens]).take U.length=(U.set (b+a) (d4 (f++[(e,0)]))).set (b+c) (d4 (rb++[(e,1)])):=by
   rw[List.take_append_of_le_length (by simp),bU (by simp)]
  unfold gc;dsimp only;rw[y,ak (by rw[C];rfl)]
 have G:=q rb g;rw[<- H]at G;exact G
noncomputable def mx:Nat->List (Nat×Nat)
 |0=>[]
 |e+1=>(e,1)::(e,0)::mx e
theorem qt:∀e,(mx e).length=2*e
 |0=>rfl
 |e+1=>by rw[mx,lC1,lC1,qt e];lia
theorem fu:∀{e:Nat} {x:Nat×Nat},x∈mx e↔x.1<e/\x.2<=1
 |0,x=>by simp[mx]
 |e+1,x=>by
  rw[mx,aE,aE,fu (e:=e)];obtain⟨a,b⟩:=x;simp only[Prod.mk.injEq];lia
theorem iO:∀e,(mx e).Nodup
 |0=>bi
 |e+1=>by
  rw[mx,aM,aM];refine⟨λh=>?_,λh=>?_,iO e⟩
  ·rcases aE.mp h with h|h
   ·simp at h
   ·have:=(fu.mp h).1;simp at this
  ·have:=(fu.mp h).1;simp at this
theorem lN:∀{E:c3} {i:Nat} {row:List (Nat×Nat)} {x:Nat×Nat},E[i]?=Z row->(E.set i (row++[x])).flatten.Perm (x::E.flatten)
 |[],i,_,_,h=>by simp at h
 |a::E,0,row,x,h=>by
  simp at h;subst h;rw[ck,cr,cr,bv];exact b0
 |a::E,i+1,row,x,h=>by
  have:=lN (E:=E) (i:=i) (row:=row) (x:=x) (by simpa using h);rw[cm,cr,cr];exact(List.Perm.append_left a this).trans b0
structure DI (m:Nat)(E:c3)(e:Nat):Prop where
 len:E.length=m
 all:E.flatten.Perm (mx e)
 le:∀(i:Nat) (row:List (Nat×Nat)),E[i]?=some row->row.length<=4
theorem DI.start(m:Nat):DI m (aN m []) 0:=by
 refine⟨by simp,by simp[mx],λi a h=>?_⟩;rw[aQ]at h;split at h
 ·cases h;simp
 ·cases h
theorem DI.tot{m:Nat}{E:c3}{e:Nat}(d:DI m E e):Mi.tot E=2*e:=by
 unfold Mi.tot;rw[<- List.length_flatten,d.all.length_eq,qt]
theorem DI.join{m a c e:Nat}{E:c3}{f g:List (Nat×Nat)}(d:DI m E e)(ha:E[a]? = some f)(k:f.length<4)(hb:(E.set a (f++[(e,0)]))[c]? = some g)(l:g.length<4):
  DI m ((E.set a (f++[(e,0)])).set c (g++[(e,1)])) (e+1):=by
 refine⟨by rw[aT,aT];exact d.len,?_,λj h b=>?_⟩
 ·exact(lN hb).trans (((lN ha).trans (d.all.cons _)).cons _)
 ·by_cases z:c=j
  ·subst z;rw[aH (gE1.mp hb).1]at b;cases b;simp;lia
  ·rw[gS1 z]at b;by_cases i:a=j
   ·subst i;rw[aH (gE1.mp ha).1]at b;cases b;simp;lia
   ·rw[gS1 i]at b;exact d.le j h b
theorem A6{n b m i:Nat}{t:Int}{K U:cV}{E:c3}{Q:Fl×Ev×cV->Prop}(s:HS n K U)(hb:K.length=b)(hn:n<=2^44)(w:EW b m E U)(d:DI m E i)(hi:i+1<m)(hm:m<=8)(he:∀(j:Nat) (row:List (Nat×Nat)),i+1<=j->E[j]?=some row->row=[])(q:∀ao V,HS (n+1) K V->EW b m ao V->DI m ao (i+1)->(∀(j:Nat) (row:List (Nat×Nat)),i+2<=j->ao[j]?=some row->row=[]) ->
   Q (.nx,[Z (.ref 0),Z (.int t),Z (.int m),Z (.ref (b+m)),Z (.int ((i+1:Nat):Int)),Y,Y,Y,Y,Y,Y,Y,Y],V)):
  W (fJ [Z (.ref 0),Z (.int t),Z (.int m),Z (.ref (b+m)),Z (.int ((i+1:Nat):Int)),Y,Y,Y,Y,Y,Y,Y,Y] U) Q:=by
 have hbl:=s.len;have hp:=s.pos;have g:∀j,j<m -> ∃row,E[j]?=Z row:=λj p=>⟨_,gG1 (by rw[d.len];exact p)⟩
 let k:Nat->Bool:=λj=>decide ((E.getD j []).length<4)
 unfold fJ eF;rw[c4];simp(implicitDefEqProofs:=J) only[mN,cT,mV,gC1,cj,cU,oS1,dv,c4,hC,pP,Gq,mP1,Option.join_some,aW,bf,cg,tZ,Bf];rw[mW,Int.toNat_natCast];refine⟨fN (by lia),?_⟩;refine fM k (λj:Nat=>.int j) (λr=>∃x,r=[x,Z (.ref (b+m))]) O (af (i+1)) _ ⟨_,O⟩ ?_ ?_
 ·rintro j p r ⟨x,rfl⟩;have u:j<m:=by have:=aB.mp p;lia
  obtain⟨row,f⟩:=g j u;walk_at"w";refine oN w u ?_;walk_at"w";refine dI (xs:=row.map pD) (w.row j row f) ?_;walk_at"w";refine⟨?_,⟨_,O⟩,λ_=>trivial⟩;simp only[k,bA,f,b9,lM1];rw[bH,al,al];lia
 ·rintro r' _;walk_at"w";have G:(List.range (i+1)).filter k≠[]:=by
   intro z;have v:∀(j:Nat) (row:List (Nat×Nat)),j<i+1->E[j]?=Z row->4<=row.length:=λj row p hr=>by
    have:=List.filter_eq_nil_iff.mp z j (aB.mpr p);simp only[k,bA,hr,b9,al]at this;lia
   have:=vI (E:=E) (k:=i+1) (by rw[d.len];lia) v;have:=d.tot;lia
  generalize hL:(af (i+1)).filter k=L at G;have S:∀j∈L,j<i+1/\k j=M:=λj p=>by
   rw[<- hL,aA]at p;exact⟨aB.mp p.1,p.2⟩
  have hLl:L.length<=8:=by
   rw[<- hL];have:=cu k (af (i+1));simp at this;lia
  refine⟨df (by rw[lM1];lia),?_⟩;have aq:(Ob.lst (L.map λj:Nat=>D.int j)).und 0=M:=by rw[Ob.und];exact Mi.dk λ_ _=>rfl
  have s1:HS n K (U++[.lst (L.map λj:Nat=>D.int j)]):=s.app1 aq;have R:HS n U (U++[.lst (L.map λj:Nat=>D.int j)]):=s.here.app1 aq;refine BU s1 (by lia) (xs:=L.map λj:Nat=>D.int j) (by rw[dF];rfl) (by lia) (by rw[lM1];lia) (by rw[lM1];exact List.length_pos_iff.mpr G) (λx T=>by obtain⟨y,_,rfl⟩:=bX.mp T;rfl) λx U2 T s2 N l2=>?_;obtain⟨j,p,rfl⟩:=bX.mp T;obtain⟨hj1,I⟩:=S j p;obtain⟨row,f⟩:=g j (by lia);have X:row.length<4:=by
   simp only[k,bA,f,b9,al]at I;exact I
  obtain⟨P,B⟩:=g (i+1) hi;have C:=he (i+1) P (nR1 _) B;subst C;have wq:EW b m E U2:=(w.over R (by lia)).over N (by lia);have A:j≠i+1:=by lia
  walk_at"w";refine xb (a:=j) (c:=i+1) (e:=i) s2.shut wq d.tot (by lia) hi hm f (by lia) (λP h=>by have:=d.le _ P h;lia) λau l=>?_;have am:au=[]:=by
   rw[gS1 A,B]at l;cases l;rfl
  subst am;have w3:=(wq.setRow (row:=row++[(i,0)]) (show j<m by lia)).setRow (row:=[]++[(i,1)]) hi;have s3:=(s2.set (i:=b+j) (o:=d4 (row++[(i,0)])) (by lia) fO).set (i:=b+(i+1)) (o:=d4 ([]++[(i,1)])) (by lia) fO;refine q _ _ s3 w3 (d.join f X l (by simp)) λj' F u H=>?_;rw[gS1 (by lia),gS1 (by lia)]at H;exact he j' F (by lia) H
theorem B8{n b m e:Nat}{f:Int}{A U:cV}{E:c3}{C F aq T:Option D}{Q:Fl×Ev×cV->Prop}(s:HS n A U)(hb:A.length=b)(hn:n<=2^44)(w:EW b m E U)(d:DI m E e)(he:e<=100)(hm0:0<m)(hm:m<=8)(q:∀ao K N L am,HS (n+2) A K->EW b m ao K->DI m ao N->N<=e+1 ->
   Q (.nx,[Z (.ref 0),Z (.int f),Z (.int m),Z (.ref (b+m)),C,F,L,am,Y,Y,Y,Y,Y],K)):
  W (fI [Z (.ref 0),Z (.int f),Z (.int m),Z (.ref (b+m)),C,F,aq,T,Y,Y,Y,Y,Y] U) Q:=by
 have hbl:=s.len;have hp:=s.pos;have k:∀j,j<m -> ∃row,E[j]?=Z row:=λj hj=>⟨_,gG1 (by rw[d.len];exact hj)⟩;unfold fI;refine dD (λr V=>∃(a c:Nat),a<m/\c<m/\HS (n+2) A V/\EW b m E V/\r=[Z (.ref 0),Z (.int f),Z (.int m),Z (.ref (b+m)),C,F,Z (.int (a:Nat)),Z (.int (c:Nat)),Y,Y,Y,Y,Y]) ?_ ?_
 ·walk_at"w";refine draw_W s (by lia) (by lia) (by lia) λa U1 s1 I l1 B=>?_;walk_at"w";refine draw_W s1 (by lia) (by lia) (by lia) λc U2 y G l2 hc=>?_;walk_at"w";exact⟨a,c,by lia,by lia,y,(w.over I (by lia)).over G (by lia),O⟩
 rintro r V ⟨a,c,B,hc,y,u,rfl⟩;obtain⟨t,l⟩:=k a B;obtain⟨H,v⟩:=k c hc;have P:((a:Int) == (c:Int))=decide (a=c):=by
  rw[bH,beq_iff_eq,al];lia
 have S:(if decide (a=c)=M then(1:Int)else 0)=((if a=c then 1 else 0:Nat):Int):=by
  by_cases z:a=c<;>simp[z]
 have p:Q (.nx,[Z (.ref 0),Z (.int f),Z (.int m),Z (.ref (b+m)),C,F,Z (.int (a:Nat)),Z (.int (c:Nat)),Y,Y,Y,Y,Y],V):=q E V e _ _ y u d (by lia);walk_at"w";refine oN u B ?_;walk_at"w";refine dI (xs:=t.map pD) (u.row a t l) ?_
 ((try walk_at"w");repeat(simp only[P];try walk_at"w"))
 rw[S,lM1];by_cases au:t.length+(if a=c then 1 else 0)<4
 ·rw[ak (by rw[al];lia)];refine oN u hc ?_;walk_at"w";refine dI (xs:=H.map pD) (u.row c H v) ?_;walk_at"w";rw[lM1];by_cases c2:H.length<4
  ·rw [if_pos (by rw [decide_eq_true_eq];lia)];refine xb (a:=a) (c:=c) (e:=e) y.shut u d.tot B hc hm l (by have:=d.le a t l;lia) (fun x h=>by have:=d.le _ x h;lia) fun x g=>?_;have wq:x.length<4:=by
    by_cases z:a=c
    ·subst z;rw[aH (by rw[d.len];lia)]at g;cases g;rw[ak O]at au;simp;lia
    ·rw[gS1 z,v]at g;cases g;lia
   have R:t.length<4:=by split at au<;>lia
   have w3:=(u.setRow (row:=t++[(e,0)]) (show a<m by lia)).setRow (row:=x++[(e,1)]) (show c<m by lia);have X:=(y.set (i:=b+a) (o:=d4 (t++[(e,0)])) (by lia) fO).set (i:=b+c) (o:=d4 (x++[(e,1)])) (by lia) fO;exact q _ _ (e+1) _ _ X w3 (d.join l R g wq) (by lia)
  ·rw[aj (by rw[al];lia)];exact p
 ·rw[aj (by rw[al];lia)]
  try walk_at"w"
  exact p
def At(R:c3)(r d:Nat)(x:Nat×Nat):Prop:=∃row,R[r]?=Z row/\row[d]?=Z x
theorem At.mem{R:c3}{r d:Nat}{x:Nat×Nat}(h:At R r d x):x∈R.flatten:=by
 obtain⟨a,h1,h2⟩:=h;exact cv.mpr ⟨a,gM1 h1,gM1 h2⟩
theorem u7{R:c3}{x:Nat×Nat}(h:x∈R.flatten):∃p:Nat×Nat,At R p.1 p.2 x:=by
 obtain⟨a,h1,h2⟩:=cv.mp h;obtain⟨r,c⟩:=bj h1;obtain⟨d,b⟩:=bj h2;exact⟨(r,d),a,c,b⟩
theorem mY{α:Type}:∀{l:List α} {i j:Nat} {x:α},l.Nodup->l[i]?=Z x->l[j]?=Z x->i=j
 |[],i,j,x,_,h,_=>by simp at h
 |a::l,0,0,x,_,_,_=>rfl
 |a::l,0,j+1,x,n,h1,h2=>by
  simp at h1 h2;subst h1;exact absurd (gM1 h2) (aM.mp n).1
 |a::l,i+1,0,x,n,h1,h2=>by
  simp at h1 h2;subst h2;exact absurd (gM1 h1) (aM.mp n).1
 |a::l,i+1,j+1,x,n,h1,h2=>by
  exact congrArg (· + 1) (mY (i:=i) (j:=j) (x:=x) (aM.mp n).2 (by simpa using h1) (by simpa using h2))
theorem kR:∀{R:c3} {r d b d':Nat} {x:Nat×Nat},R.flatten.Nodup->At R r d x->At R b d' x->r=b/\d=d'
 |[],r,d,b,d',x,_,⟨_,h,_⟩,_=>by simp at h
 |a::R,r,d,b,d',x,n,⟨row,h1,h2⟩,⟨row',h1',h2'⟩=>by
  rw[cr,bq]at n;cases r with
  |zero=>
   simp at h1;subst h1;cases b with
   |zero=>
    simp at h1';subst h1';exact⟨O,mY n.1 h2 h2'⟩
   |succ b=>
    have m1:x∈R.flatten:=cv.mpr ⟨row',gM1 (by simpa using h1'),gM1 h2'⟩;exact absurd O (n.2.2 x (gM1 h2) x m1)
  |succ r=>
   cases b with
   |zero=>
    simp at h1';subst h1';have m1:x∈R.flatten:=cv.mpr ⟨row,gM1 (by simpa using h1),gM1 h2⟩;exact absurd O (n.2.2 x (gM1 h2') x m1)
   |succ b=>
    obtain⟨c,e⟩:=kR (R:=R) n.2.1 ⟨row,by simpa using h1,h2⟩ ⟨row',by simpa using h1',h2'⟩;exact⟨by rw[c],e⟩
open Classical in
noncomputable def plc(R:c3)(x:Nat×Nat):Nat×Nat:=if h:∃p:Nat×Nat,At R p.1 p.2 x then Classical.choose h else(0,0)
theorem nV{R:c3}{x:Nat×Nat}(h:x∈R.flatten):At R (plc R x).1 (plc R x).2 x:=by
 have h':=u7 h;unfold plc;rw[dif_pos h'];exact Classical.choose_spec h'
theorem Bu{R:c3}{r d:Nat}{x:Nat×Nat}(n:R.flatten.Nodup)(h:At R r d x):plc R x=(r,d):=by
 obtain⟨a,b⟩:=kR n (nV h.mem) h;exact Prod.ext a b
noncomputable def opp(x:Nat×Nat):Nat×Nat:=(x.1,1-x.2)
noncomputable def uc(R:c3):c3:=R.map λrow=>row.map λx=>plc R (opp x)
structure C0 (m:Nat)(w:c3):Prop where
 len:w.length=m
 le:∀row∈w,row.length<=4
 back:∀r d p,At w r d p->At w p.1 p.2 (r,d)
 ne:∀r d p,At w r d p->p≠(r,d)
theorem nO{R:c3}{r d:Nat}{p:Nat×Nat}:At (uc R) r d p ↔ ∃x,At R r d x/\p=plc R (opp x):=by
 unfold At uc;constructor
 ·rintro⟨a,h1,h2⟩;rw[gP1]at h1;obtain⟨b,c,rfl⟩:=oM1.mp h1;rw[gP1]at h2;obtain⟨x,e,rfl⟩:=oM1.mp h2;exact⟨x,⟨b,c,e⟩,O⟩
 ·rintro⟨x,⟨a,h1,h2⟩,rfl⟩;exact⟨a.map λx=>plc R (opp x),by rw[gP1,h1];rfl,by rw[gP1,h2];rfl⟩
theorem yr{m e:Nat}{R:c3}(d:DI m R e):C0 m (uc R):=by
 have n:R.flatten.Nodup:=d.all.nodup_iff.mpr (iO e);have opp_mem:∀x,x∈R.flatten->opp x∈R.flatten/\opp (opp x)=x/\opp x≠x:=λx c=>by
  have:=fu.mp (d.all.mem_iff.mp c);obtain⟨a,b⟩:=x;simp at this;refine⟨d.all.mem_iff.mpr (fu.mpr ⟨this.1,by simp[opp]⟩),?_,?_⟩
  ·simp[opp];lia
  ·simp[opp];lia
 refine⟨by unfold uc;rw[lM1];exact d.len,?_,?_,?_⟩
 ·intro g l;obtain⟨r,h,rfl⟩:=bX.mp l;obtain⟨i,hi⟩:=bj h;rw[lM1];exact d.le i r hi
 ·intro r o p f;obtain⟨x,c,rfl⟩:=nO.mp f;obtain⟨h1,h2,_⟩:=opp_mem x c.mem;exact nO.mpr ⟨opp x,nV h1,by rw[h2,Bu n c]⟩
 ·intro r o p f z;obtain⟨x,c,rfl⟩:=nO.mp f;obtain⟨h1,_,q⟩:=opp_mem x c.mem;have j:=nV h1;rw[z]at j;obtain⟨g,a1,a2⟩:=c;obtain⟨k,b1,b2⟩:=j;rw[a1]at b1;cases b1;rw[a2]at b2;exact q (Option.some.inj b2).symm
theorem wv{f:Nat×Nat->D}:∀{a b:List D},a.Perm b -> ∀l:List (Nat×Nat),b=l.map f -> ∃c:List (Nat×Nat),a=c.map f/\c.Perm l:=by
 intro a b h
 induction h with
 |nil=>intro l e;exact⟨[],O,by cases l with|nil=>exact .refl _|cons _ _=>simp at e⟩
 |cons x _ ih=>
  intro l e;cases l with
  |nil=>simp at e
  |cons y l=>
   simp at e;obtain⟨c,i,p⟩:=ih l e.2;exact⟨y::c,by rw[mP1,e.1,i],p.cons y⟩
 |swap x y o=>
  intro l e
  match l,e with
  |a::b::l,e=>
   simp at e;exact⟨b::a::l,by rw[mP1,mP1,e.1,e.2.1,e.2.2],List.Perm.swap _ _ _⟩
 |trans _ _ g d=>
  intro l e;obtain⟨k,i,j⟩:=d l e;obtain⟨m,n,p2⟩:=g k i;exact⟨m,n,p2.trans j⟩
theorem mP:∀(k n:Nat),gj n (k+1)=gj n k++[.ref (n+k)]
 |0,n=>rfl
 |k+1,n=>by
  rw[gj,mP k (n+1),gj,bf,show n+1+k=n+(k+1) by lia]
theorem wc{n k m:Nat}(h:n+k<=m):D.unds m (gj n k)=M:=by
 induction k generalizing n with
 |zero=>rfl
 |succ k ih=>rw[gj,D.unds,ih (by lia),D.und];simp;lia
theorem xD{U:cV}{m:Nat}:EW U.length m (aN m []) (U++(aN m (.lst [])++[.lst (gj U.length m)])):=by
 refine⟨by simp,λi a h=>?_,?_⟩
 ·have hi:i<m:=by have:=(gE1.mp h).1;simpa using this
  rw[aQ,ak hi]at h;cases h;rw[fL,gL1 (by simpa using hi),aQ,ak hi];rfl
 ·rw[fL,gR1 (by simp)];simp
structure nK (b:Nat)(ks:List Nat)(R:c3)(V:cV):Prop where
 len:ks.length=R.length
 at_:∀(i k:Nat) (row:List (Nat×Nat)),ks[i]?=some k->R[i]?=some row->V[k]?=some (d4 row)
 low:∀k∈ks,b<=k
theorem nK.over{n b:Nat}{ks:List Nat}{R:c3}{U V:cV}(e:nK b ks R U)(s:HS n U V)(c:0<b):nK b ks R V:=
 ⟨e.len,λi k a h1 h2=>s.at (e.at_ i k a h1 h2) (by have:=e.low k (gM1 h1);lia),e.low⟩
noncomputable def pi(k:Nat):D:=.ref k
theorem nl:∀{R E:c3},R.length=E.length->(∀(i:Nat) (r e:List (Nat×Nat)),R[i]?=Z r->E[i]?=Z e->r.Perm e)->R.flatten.Perm E.flatten
 |[],[],_,_=>.refl _
 |[],_::_,h,_=>by simp at h
 |_::_,[],h,_=>by simp at h
 |r::R,e::E,h,q=>by
  rw[cr,cr];exact(q 0 r e O O).append (nl (by simpa using h) λi b a h1 h2=>q (i+1) b a (by simpa using h1) (by simpa using h2))
theorem Aa{n b m e:Nat}{K U:cV}{E:c3}{Q:List D×Ev×cV->Prop}(s:HS n K U)(hb:K.length=b)(hn:n<=2^44)(w:EW b m E U)(d:DI m E e)(hm:m<=8)(q:∀ks R V x,HS (n+40) K V->nK b ks R V->DI m R e->(∀k∈ks,k<V.length)->Q (ks.map pi,[x,some (.ref 0)],V)):
  W (e6 [(b+m,gj b m)] (gN 0) eZ (dJ (mN (cY 2 dG) (cT (mV 1) (cT (mV 0) cU)))) (gj b m) [Y,Z (.ref 0)] U) Q:=by
 have X:=s.pos;have hbl:=s.len;have g:∀j,j<m -> ∃row,E[j]?=Z row:=λj o=>⟨_,gG1 (by rw[d.len];exact o)⟩;refine iA (λi p r S=>∃ks R x,i<=m/\HS (n+5*i) K S/\EW b m E S/\p=ks.map pi/\r=[x,Z (.ref 0)]/\ks.length=i/\nK b ks R S/\(∀(j:Nat) (r e:List (Nat×Nat)),R[j]?=Z r->E[j]?=Z e->r.Perm e)/\(∀k∈ks,k<S.length)) (gj b m) 0 [] _ _ ⟨[],[],Y,by lia,s,w,O,O,O,⟨O,λi k row h1=>by simp at h1,λk l=>by simp at l⟩,λj r e h1=>by simp at h1,λk l=>by simp at l⟩ ?_ ?_ ?_
 ·rintro i p r S ⟨ks,R,x,_,_,H,_⟩;exact eV H.ends
 ·rintro i dd L p r S ⟨ks,R,x,hi,G,H,rfl,rfl,l,a,am,u⟩;have A:=(gE1.mp L).1;rw[gF]at A;rw[ja A]at L;cases L;rw[bE]at *
  obtain⟨row,f⟩:=g i A;have hrl:=d.le i row f;walk_at"w";refine v4 G (by lia) (H.row i row f) (by rw[lM1];lia) (Mi.dk λ_ _=>rfl) λk ys V T h aq F ao=>?_;rw[lM1]at T h;obtain⟨c,rfl,N⟩:=wv ao row O;have wq:=G.len;have I:=a.over h (by lia);refine⟨ks++[k],R++[c],_,by lia,T.more (by lia),H.over h (by lia),by simp[pi],O,by simp[l],⟨by simp[a.len],λj B au h1 h2=>?_,λB v=>?_⟩,λj au e' h1 h2=>?_,λB v=>?_⟩
  ·by_cases o:j<ks.length
   ·rw[gL1 o]at h1;rw[gL1 (by rw[<- a.len];exact o)]at h2;exact I.at_ j B au h1 h2
   ·have y:j=ks.length:=by have:=(gE1.mp h1).1;simp at this;lia
    subst y;rw[cq]at h1;rw[a.len,cq]at h2;cases h1;cases h2;exact F
  ·rcases aF.mp v with z|z
   ·exact a.low B z
   ·simp at z;lia
  ·by_cases o:j<R.length
   ·rw[gL1 o]at h1;exact am j au e' h1 h2
   ·have y:j=R.length:=by have:=(gE1.mp h1).1;simp at this;lia
    subst y;rw[cq]at h1;cases h1;rw[<- a.len,l,f]at h2;cases h2;exact N
  ·have hv2:=h.len;show B<V.length;rcases aF.mp v with z|z
   ·have:=u B z;lia
   ·simp at z;subst z;exact(gE1.mp F).1
 ·rintro xs r S ⟨ks,R,x,hi,G,H,P,rfl,l,a,am,u⟩;rw[cg]at P;subst P;rw[bE,gF]at G l;have t:R.length=E.length:=by rw[<- a.len,l,d.len]
  have dR:DI m R e:=⟨by rw[t];exact d.len,(nl t am).trans d.all,λj row o=>by
   obtain⟨c,C⟩:=g j (by rw[<- d.len,<- t];exact(gE1.mp o).1);rw[(am j row c o C).length_eq];exact d.le j c C⟩
  exact q ks R S x (G.more (by lia)) a dR u
theorem AN{m:FA}{r:Ev}{S:cV}{Q:vj×cV->Prop}{d:D}{S1:cV}(h:m r S=Z ([d],S1))(q:sW S1 d λp=>Q (⟨uP 0 p.1,p.2⟩,S1)):W (ve m r S) Q:=by
 unfold ve;rw[h,oS1];dsimp only;rw[c4];exact W.mono (show W (da S1 d) _ from q) λz w=>dv.mpr w
theorem yN{F:List (TK×D)}{k:TK}{v:D}{n:Nat}(h:∀p∈F,p.2.und n=M)(hv:v.und n=M):∀p∈fc F k v,p.2.und n=M:=by
 intro p a;unfold fc at a;split at a
 ·obtain⟨q,b,rfl⟩:=bX.mp a;split
  ·exact hv
  ·exact h q b
 ·rcases aF.mp a with z|z
  ·exact h p z
  ·simp at z;subst z;exact hv
theorem Be{V:cV}{pl k r:Nat}{F:List (TK×D)}{R:c3}{row:List (Nat×Nat)}{A ao w G am H B E L C:Option D}{Q:Fl×Ev×cV->Prop}(nd:R.flatten.Nodup)(hr:R[r]? = some row)(hpl:pl<V.length)(hk:V[k]? = some (d4 row))(m:k≠pl)(wq:F.length+row.length<500)(T:∀p∈F,p.2.und 0=true)(n:∀b d x,b<r->At R b d x->dq F (oY x)=some (pD (b,d)))(q:∀c g f,c.length<=F.length+row.length->(∀p∈c,p.2.und 0=true)->(∀b d x,b<r+1->At R b d x->dq c (oY x)=some (pD (b,d))) ->
   Q (.nx,[A,ao,w,G,Z (.int (r:Nat)),am,H,B,E,Z (.ref pl),Z (.ref k),g,f],V.set pl (dO c))):
  W (gP [A,ao,w,G,Z (.int (r:Nat)),am,H,B,E,Z (.ref pl),Z (.ref k),L,C] (V.set pl (dO F))) Q:=by
 unfold gP fz;rw[c4];refine AN (d:=.ref k) (S1:=V.set pl (dO F)) O ?_;refine dI (xs:=row.map pD) (by rw[gS1 m.symm];exact hk) ?_;refine eD (λi b S=>∃c g f,i<=row.length/\c.length<=F.length+i/\(∀p∈c,p.2.und 0=M)/\S=V.set pl (dO c)/\b=[A,ao,w,G,Z (.int (r:Nat)),am,H,B,E,Z (.ref pl),Z (.ref k),g,f]/\(∀b d x,b<r->At R b d x->dq c (oY x)=Z (pD (b,d)))/\(∀d x,d<i->row[d]?=Z x->dq c (oY x)=Z (pD (r,d)))) _ 0 _ _ ⟨F,_,_,by lia,by lia,T,O,O,n,λd x t=>by lia⟩ ?_ ?_ ?_
 ·rintro i b S ⟨c,_,_,_,_,_,rfl,_⟩;exact eV (by rw[gS1 m.symm];exact hk)
 ·rintro i dd t b S ⟨c,K,I,hi,u,j,rfl,rfl,h1,h2⟩;dsimp only at t;rw[kO,gP1]at t;obtain⟨z,X,rfl⟩:=oM1.mp t;obtain⟨x,l,rfl⟩:=oM1.mp X;have aq:=(gE1.mp l).1;rw[bE]at *
  walk_at"w";unfold je;walk_at"w";refine C4 (F:=c) (by rw[aH hpl]) tu (by lia) ?_;have o:At R r i x:=⟨row,hr,l⟩;refine⟨fc c (oY x) (pD (r,i)),_,_,by lia,by have:=yO (k:=oY x) (v:=pD (r,i)) (a:=c);lia,yN j O,by rw[List.set_set];rfl,O,λb d y s h=>?_,λd y U h=>?_⟩
  ·rw[pJ];by_cases e:oY y=oY x
   ·have:=sJ e;subst this;have:=(kR nd h o).1;lia
   ·rw[aj e];exact h1 b d y s h
  ·rw[pJ];by_cases e:oY y=oY x
   ·have:=sJ e;subst this;have:=(kR nd ⟨row,hr,h⟩ o).2;subst this;rw[ak O]
   ·rw[aj e];by_cases z:d<i
    ·exact h2 d y z h
    ·have:d=i:=by lia
     subst this;rw[l]at h;cases h;exact absurd O e
 ·rintro b S ⟨c,K,I,hi,u,j,rfl,rfl,h1,h2⟩;rw[kN,lM1,bE]at u h2;refine q c _ _ u j λb d x s l=>?_;by_cases z:b<r
  ·exact h1 b d x z l
  ·have:b=r:=by lia
   subst this;obtain⟨P,N,au⟩:=l;rw[hr]at N;cases N;exact h2 d x (gE1.mp au).1 au
noncomputable def dz(w:c3):D:=.tup (w.map λrow=>.tup (row.map pD))
structure l7 (m:Nat)(w:c3):Prop where
 len:w.length=m
 le:∀row∈w,row.length<=4
 to:∀row∈w,∀e∈row,∃r,w[e.1]?=some r/\e.2<r.length
theorem fP(w:c3):(dz w).und 0=M:=by
 unfold dz;rw[D.und];exact dk λa _=>by rw[D.und];exact dk λ_ _=>rfl
theorem C0.ok{m:Nat}{w:c3}(g:C0 m w):l7 m w:=by
 refine⟨g.len,g.le,λb i e c=>?_⟩;obtain⟨r,h1⟩:=bj i;obtain⟨d,h2⟩:=bj c;obtain⟨a,f,h⟩:=g.back r d e ⟨b,h1,h2⟩;exact⟨a,f,(gE1.mp h).1⟩
theorem CM{F:List (TK×D)}{n:Nat}(h:∀p∈F,p.2.und n=M):(Mi.dO F).und n=M:=by
 unfold Mi.dO;split
 ·rfl
 ·rw[Ob.und];exact Mi.dk λp a=>h p a
theorem Hg{R:c3}:dz (uc R) = .tup (R.map λa=>.tup (a.map λx=>pD (plc R (opp x)))):=by
 unfold dz uc;simp only[bn]
 congr 1
 apply cb;intro a _;simp only[Function.comp_apply,bn];rfl
theorem CG{c m:Nat}{a:Int}{U S:cV}{Q:Fl×Ev×cV->Prop}(C:HS c U S)(hc:c<=2^41)(u:S.length=U.length)(ao:0<m)(m8:m<=8)(k:FS)(q:∀E e b p n l V,HS (c+40) U V->EW U.length m E V->DI m E e->W (k [some (.ref 0),some (.int a),some (.int (m:Nat)),some (.ref (U.length+m)),b,p,n,l,none,none,none,none,none] V) Q):
  W (c7 (db (dQ 1 [] (pQ (cT (mV 2) cU)) (gN 0) eZ (dJ (fe cU))) (gN 3))
   (c7 (fz (Di (cT (mC (D.int 1)) (cT (mV 2) cU))) (gN 4) fJ)
   (c7 (fz (pQ (cT (mN (cY 2 cW) (cT (mV 0) (cT (mC (D.int 4)) cU))) cU)) (gN 5) fI) k))
   [Z (.ref 0),Z (.int a),Z (.int (m:Nat)),Y,Y,Y,Y,Y,Y,Y,Y,Y,Y] S) Q:=by
 have wq:=C.pos;refine dD (λr V=>HS c U V/\EW U.length m (aN m []) V/\r=[Z (.ref 0),Z (.int a),Z (.int (m:Nat)),Z (.ref (U.length+m)),Y,Y,Y,Y,Y,Y,Y,Y,Y]) ?_ ?_
 ·walk_at"w";refine⟨fN (by lia),?_⟩;rw[Int.toNat_natCast];refine iA (λi y r V=>y=gj U.length i/\V=S++aN i (.lst []) /\ ∃x,r=[x]) (fK 0 m) 0 [] _ _ ⟨O,by simp,_,O⟩ (λ_ _ _ _ _=>rfl) ?_ ?_
  ·rintro i d t y r V ⟨rfl,rfl,x,rfl⟩;walk_at"w";rw[bE];refine⟨?_,?_,_,O⟩
   ·rw[mP,u,lR1]
   ·rw[List.replicate_succ']
  ·rintro xs r V ⟨e,rfl,_⟩;rw[cg,bE,d5]at e;subst e;rw[bE,d5];walk_at"w";rw[gF];refine⟨df (by lia),C.app λo R=>?_,?_,?_⟩
   ·rcases aF.mp R with z|z
    ·rw[List.eq_of_mem_replicate z];rfl
    ·simp at z;subst z;rw[Ob.und];exact wc (by simp[u])
   ·have:=xD (U:=S) (m:=m);rw[u]at this;exact this
   ·simp[u]
 rintro r V ⟨X,L,rfl⟩;refine dD (λr V=>∃E b,HS (c+20) U V/\EW U.length m E V/\DI m E (m-1)/\r=[Z (.ref 0),Z (.int a),Z (.int (m:Nat)),Z (.ref (U.length+m)),b,Y,Y,Y,Y,Y,Y,Y,Y]) ?_ ?_
 ·walk_at"w";refine⟨si (by decide) (by decide),fN (by lia),?_⟩;refine eD (λi r V=>i<=m-1 /\ ∃E b,HS (c+i) U V/\EW U.length m E V/\DI m E i/\(∀(j:Nat) (s:List (Nat×Nat)),i+1<=j->E[j]?=Z s->s=[])/\r=[Z (.ref 0),Z (.int a),Z (.int (m:Nat)),Z (.ref (U.length+m)),b,Y,Y,Y,Y,Y,Y,Y,Y]) _ 0 _ _ ?_ (λ_ _ _ _=>rfl) ?_ ?_
  ·refine⟨by lia,_,Y,X,L,DI.start m,λj s _ B=>?_,O⟩;rw[aQ]at B;split at B
   ·cases B;rfl
   ·cases B
  ·rintro i d t r V ⟨hi,E,b,g,w,h,A,rfl⟩;have f:=(gE1.mp t).1;rw [d5] at f;have F:d = .int ((i+1:Nat):Int):=by
    rw[oe,gP1,b4 f]at t;simp at t;rw[<- t]
    push_cast
    congr 1
    lia
   subst F;rw[bE]at *
   walk_at"w";refine A6 g O (by lia) w h (by lia) (by lia) A λG N s' H am v=>?_;exact⟨O,by lia,G,_,s',H,am,v,O⟩
  ·rintro r V ⟨hi,E,b,g,w,h,A,rfl⟩;rw[d5]at *
   have K:0+((m:Int)-1).toNat=m-1:=by lia
   rw[K]at g h;exact⟨O,E,_,g.more (by lia),w,h,O⟩
 rintro r V ⟨E,b,g,w,h,rfl⟩;refine dD (λr V=>∃E e b p n l,HS (c+40) U V/\EW U.length m E V/\DI m E e/\r=[Z (.ref 0),Z (.int a),Z (.int (m:Nat)),Z (.ref (U.length+m)),b,p,n,l,Y,Y,Y,Y,Y]) ?_ ?_
 ·walk_at"w";refine draw_W g (by lia) (by lia) (by lia) λk V1 C I u hk=>?_;walk_at"w";have au:=g.len;refine⟨fN (by lia),?_⟩;rw[Int.toNat_natCast];refine eD (λi r V=>i<=k /\ ∃E e b p n l,HS (c+21+2*i) U V/\EW U.length m E V/\DI m E e/\e<=8+i/\r=[Z (.ref 0),Z (.int a),Z (.int (m:Nat)),Z (.ref (U.length+m)),b,p,n,l,Y,Y,Y,Y,Y]) _ 0 _ _ ⟨by lia,E,m-1,_,_,_,_,C,w.over I (by lia),h,by lia,O⟩ (λ_ _ _ _=>rfl) ?_ ?_
  ·rintro i d t r V ⟨hi,E,e,b,p,n,l,g,w,h,A,rfl⟩;have f:=(gE1.mp t).1;rw[d5]at f;rw[bE]at *
   walk_at"w";refine B8 g O (by lia) w h (by lia) ao (by lia) λG N P aq T s' H am v=>?_;exact⟨O,by lia,G,P,_,_,_,_,s',H,am,by lia,O⟩
  ·rintro r V ⟨hi,E,e,b,p,n,l,g,w,h,A,rfl⟩;rw[d5,bE]at *
   exact⟨O,E,e,_,_,_,_,g.more (by lia),w,h,O⟩
 rintro r V ⟨E,e,b,p,n,l,g,w,h,rfl⟩;exact q E e b p n l V g w h
theorem Do{c f:Nat}{B U:cV}{Q:D×cV->Prop}(s:HS c B U)(hc:c<=2^40)(hm0:0<f)(hm8:f<=8)(q:∀m w U',0<m->m<=f->l7 m w->HS (c+200) B U'->HS (c+200) U U'->U'.length=U.length->Q (dz w,U')):W (cY 2 fW [.ref 0,.int f] U) Q:=by
 have hp:=s.pos;have hbl:=s.len;refine nB (c':=c+200) O O s ?_;have s0:HS c U U:=s.here;unfold fW;refine kK ?_;unfold l5;refine dD (λr S=>∃m,0<m/\m<=f/\HS (c+1) U S/\S.length=U.length/\r=[Z (.ref 0),Z (.int f),Z (.int (m:Nat)),Y,Y,Y,Y,Y,Y,Y,Y,Y,Y]) ?_ ?_
 ·walk_at"w";refine draw_W s0 (by lia) (by lia) (by lia) λk U1 s1 _ l1 C=>?_;walk_at"w";exact⟨k+1,by lia,by lia,s1,l1,by simp[Int.add_comm]⟩
 rintro r S ⟨m,m0,mm,s1,l1,rfl⟩;refine CG s1 (by lia) l1 m0 (by lia) _ λE e au x5 x6 x7 V sE w dE=>?_;refine dD (λr V=>∃ks R au x5 x6 x7 j,HS (c+100) U V/\nK U.length ks R V/\DI m R e/\(∀k∈ks,k<j)/\U.length<=j/\V.length=j+1/\V[j]?=Z (.lst (ks.map pi))/\r=[Z (.ref 0),Z (.int f),Z (.int (m:Nat)),Z (.ref (U.length+m)),au,x5,x6,x7,Z (.ref j),Y,Y,Y,Y]) ?_ ?_
 ·walk_at"w";refine dI w.ends ?_;refine Aa sE O (by lia) w dE (by lia) λks R V2 x s2 h v am=>?_;walk_at"w";have hl2:=s2.len;refine⟨df (by rw[lM1,h.len,v.len];lia),ks,R,_,_,_,_,V2.length,(s2.more (by lia)).app λo ao=>?_,⟨h.len,λi k row h1 h2=>?_,h.low⟩,v,am,hl2,by simp,by rw[cq],O⟩
  ·simp at ao;subst ao;rw[Ob.und];refine Mi.dk λk C=>?_;have:=am k C;simp[pi,D.und];lia
  ·have:=h.at_ i k row h1 h2;rw[gL1 (gE1.mp this).1];exact this
 rintro r V ⟨ks,R,au,x5,x6,x7,j,sV,C,v,am,hdp,hVl,A,rfl⟩;have nd:R.flatten.Nodup:=v.all.nodup_iff.mpr (iO e);refine dD (λr V1=>V1=V++[.dct []]/\r=[Z (.ref 0),Z (.int f),Z (.int (m:Nat)),Z (.ref (U.length+m)),au,x5,x6,x7,Z (.ref j),Z (.ref V.length),Y,Y,Y]) ?_ ?_
 ·((try walk_at"w");repeat(simp only[wZ];try walk_at"w"))
 rintro r V1 ⟨rfl,rfl⟩;generalize I:V++[Ob.dct []]=V1;have hpl:V.length<V1.length:=by rw[<- I];simp
 have sV1:HS (c+100) U V1:=by rw[<- I];exact sV.app1 O
 have t:∀(i:Nat) (o:Ob),V[i]?=Z o->V1[i]?=Z o:=λi o hi=>by rw[<- I,gL1 (gE1.mp hi).1];exact hi
 have hset0:V1=V1.set V.length (Mi.dO []):=by
  have:V1[V.length]?=Z (Mi.dO []):=by rw[<- I,cq];rfl
  obtain⟨hl,hx⟩:=gE1.mp this;rw[<- hx,List.set_getElem_self]
 refine dD (λr V2=>∃F au P T x12,V2=V1.set V.length (Mi.dO F)/\(∀H d x,At R H d x->dq F (oY x)=Z (pD (H,d)))/\(∀p∈F,p.2.und 0=M)/\r=[Z (.ref 0),Z (.int f),Z (.int (m:Nat)),Z (.ref (U.length+m)),au,x5,x6,x7,Z (.ref j),Z (.ref V.length),P,T,x12]) ?_ ?_
 ·unfold fz;rw[c4];refine AN (d:=.ref j) (S1:=V1) O ?_;refine dI (t j _ A) ?_;refine eD (λi r V2=>∃F au P T x12,i<=m/\F.length<=4*i/\V2=V1.set V.length (Mi.dO F)/\(∀H d x,H<i->At R H d x->dq F (oY x)=Z (pD (H,d)))/\(∀p∈F,p.2.und 0=M)/\r=[Z (.ref 0),Z (.int f),Z (.int (m:Nat)),Z (.ref (U.length+m)),au,x5,x6,x7,Z (.ref j),Z (.ref V.length),P,T,x12]) _ 0 _ _ ⟨[],_,_,_,_,by lia,by simp,hset0,λH d x hr=>by lia,λp hp=>by simp at hp,O⟩ ?_ ?_ ?_
  ·rintro i r V2 ⟨F,_,_,_,_,_,_,rfl,_⟩;exact eV (by rw[gS1 (by lia)];exact t j _ A)
  ·rintro i dd hd r V2 ⟨F,y4,y10,y11,y12,hi,hF,rfl,h1,hu,rfl⟩;dsimp only at hd;rw[kO,gP1]at hd;obtain⟨z,hz,rfl⟩:=oM1.mp hd;obtain⟨k,u,rfl⟩:=oM1.mp hz;have K:=(gE1.mp u).1;rw[bE]at *
   obtain⟨row,g⟩:∃row,R[i]?=some row:=⟨_,gG1 (by rw[<- C.len];exact K)⟩;have him:i<m:=by rw[<- v.len,<- C.len];exact K
   have hkd:=am k (gM1 u);have hrl:=v.le i row g
   ((try walk_at"w");repeat(simp only[pi];try walk_at"w"))
   refine Be (r:=i) nd g hpl (t k _ (C.at_ i k row u g)) (by lia) (by lia) hu h1 λF' o12 o13 hl hu' h1'=>?_;exact⟨O,F',_,_,_,_,by lia,by lia,O,h1',hu',O⟩
  ·rintro r V2 ⟨F,y4,y10,y11,y12,hi,hF,rfl,h1,hu,rfl⟩;rw[kN,lM1,bE]at h1;refine⟨O,F,_,_,_,_,O,λH d x hx=>h1 H d x ?_ hx,hu,O⟩;obtain⟨row,e1,_⟩:=hx;rw[C.len];exact(gE1.mp e1).1
 rintro r V2 ⟨F,y4,y10,y11,y12,rfl,hF,hu,rfl⟩;generalize wq:V1.set V.length (Mi.dO F)=V2;have sV2:HS (c+100) U V2:=by rw[<- wq];exact sV1.set (by lia) (CM λp hp=>ed (hu p hp))
 have n:∀(i:Nat) (o:Ob),V[i]?=Z o->V2[i]?=Z o:=λi o hi=>by
  rw[<- wq,gS1 (by have:=(gE1.mp hi).1;lia)];exact t i o hi
 have N:V2[V.length]?=Z (Mi.dO F):=by rw[<- wq,aH hpl]
 have hmem:∀x∈R.flatten,opp x∈R.flatten:=λx hx=>by
  have:=fu.mp (v.all.mem_iff.mp hx);exact v.all.mem_iff.mpr (fu.mpr ⟨this.1,by simp[opp]⟩)
 walk_at"w";refine dI (S:=V2) (n j _ A) ?_;refine iA (λi aq r S=>∃G x,S=V2++G/\(∀o∈G,o.und 0=M)/\r=[x,Z (.ref V.length)]/\aq=(R.take i).map λrow=>D.tup (row.map λx=>pD (plc R (opp x)))) (ks.map pi) 0 [] _ _ ⟨[],Y,by simp,λo ao=>by simp at ao,O,O⟩ ?_ ?_ ?_
 ·rintro i aq r S ⟨G,x,rfl,_⟩;exact eV (by rw[gL1 (gE1.mp (n j _ A)).1];exact n j _ A)
 ·rintro i d hd aq r S ⟨G,x,rfl,hG,rfl,rfl⟩;rw[gP1]at hd;obtain⟨k,u,rfl⟩:=oM1.mp hd;have K:=(gE1.mp u).1;obtain⟨row,g⟩:∃row,R[i]?=some row:=⟨_,gG1 (by rw[<- C.len];exact K)⟩;have hrl:=v.le i row g;have h:=n k _ (C.at_ i k row u g);have hk3:(V2++G)[k]?=Z (.lst (row.map pD)):=by rw[gL1 (gE1.mp h).1];exact h
  ((try walk_at"w");repeat(simp only[pi];try walk_at"w"))
  refine dI hk3 ?_;refine pI (λx=>pD (plc R (opp x))) (λr=>∃x y,r=[x,y,Z (.ref V.length)]) (eV hk3) row _ ⟨_,_,O⟩ ?_ ?_
  ·rintro y hy r ⟨a,b,rfl⟩;rw[pD];walk_at"w";have hy2:=(fu.mp (v.all.mem_iff.mp (cv.mpr ⟨row,gM1 g,hy⟩)));rw[show((1:Int)-(y.2:Int))=((1-y.2:Nat):Int) by lia];have hopp:=hmem y (cv.mpr ⟨row,gM1 g,hy⟩);have X:=hF _ _ _ (nV hopp);refine C7 (F:=F) (k:=oY (opp y)) (by rw[gL1 (gE1.mp N).1];exact N) (tu (e:=opp y)) X ?_;exact⟨O,O,_,_,O⟩
  ·rintro H _;walk_at"w";refine⟨df (by rw[lM1];lia),?_⟩;refine dI (xs:=row.map λx=>pD (plc R (opp x))) (by rw[<- bv,<- lA1,dF];rfl) ?_;refine⟨G++[Ob.lst (row.map λx=>pD (plc R (opp x)))],_,O,λo ao=>?_,O,?_⟩
   ·rcases aF.mp ao with z|z
    ·exact hG o z
    ·simp at z;subst z;rw[Ob.und];exact Mi.dk λ_ _=>rfl
   ·rw[bE,bY,g];simp
 ·rintro xs r S ⟨G,x,rfl,hG,rfl,e1⟩;rw[cg,bE,lM1,C.len,bN]at e1;subst e1;walk_at"w";have hRl:=v.len;refine⟨df (by rw[lM1];lia),?_⟩;refine dI (xs:=R.map λrow=>D.tup (row.map λx=>pD (plc R (opp x)))) (by rw[<- bv,<- lA1,dF];rfl) ?_;have e2:=Hg (R:=R);have L:D.unds 0 (R.map λrow=>D.tup (row.map λx=>pD (plc R (opp x))))=M:=Mi.dk λrow _=>by rw[D.und];exact Mi.dk λ_ _=>rfl
  refine⟨(sV2.app λo ao=>?_).more (by lia),by rw[D.und];exact L,λU' a b l=>?_⟩
  ·rcases aF.mp ao with z|z
   ·exact fS (bd _) (hG o z)
   ·simp at z;subst z;rw[Ob.und];exact eh L
  ·rw[<- e2];exact q m _ U' m0 mm (yr v).ok a b l
theorem qv{w:c3}{i:Nat}{row:List (Nat×Nat)}{S:cV}{Q:D×cV->Prop}(h:w[i]?=Z row)(q:Q (.tup (row.map pD),S)):W (cZ (dz w) (.int i) S) Q:=
 km (x:=.tup (row.map pD)) (by rw[gP1,h];rfl) q
theorem om{w:c3}{S:cV}:d9 (dz w) S=Z (.int w.length,S):=by simp[dz,d9,da]
noncomputable def crowd(ws:List Wk)(rm:Nat):Nat:=(ws.filter λu=>u.1 == rm).length
noncomputable def sO(a b c d:Bool)(ws:List Wk)(cs:List Nat)(u:Wk)(row:List (Nat×Nat)):D:=
 rq a b c d u.2.1 (if cs.contains u.1 then 1 else 0) row.length (if 1<crowd ws u.1 then 1 else 0)
theorem uM{ws:List Wk}{rm:Nat}{S:cV}{b:Option D}{Q:List D×Ev×cV->Prop}(h:∀ a,Q ((ws.filter fun u=>u.1 == rm).map ej,a,S)):
  W (e6 [] (gN 0) (mB (m2 (b2 oA) (m2 (b2 cZ) (mV 0) (mC (D.int (0)))) (mV 1))) (dJ (mV 0)) (dj ws) [b,Z (.int rm)] S) Q:=by
 refine fM (λu:Wk=>u.1 == rm) ej (λr=>∃x,r=[x,Z (.int rm)]) O ws _ ⟨_,O⟩ ?_ λa _=>h a;rintro u c r ⟨x,rfl⟩;walk_at"w";refine km (i:=0) O ?_;walk_at"w";refine⟨?_,⟨_,O⟩,λ_=>trivial⟩;rw[bH,beq_iff_eq,beq_iff_eq];lia
theorem EF {w x y z:D}{S:cV}{r:Ev}{m1 m2 a b:FE}{Q:D×cV->Prop}(h1:m1 r S=some (w,S))(h2:m2 r S=some (x,S))(d:a r S=some (y,S))(c:b r S=some (z,S))
  (q:Q (.ref S.length,S++[.dct [(.inr "came",w),(.inr "chalk",x),(.inr "doors",y),(.inr "others",z)]])):
  W (lC [(mC (.str "came"),m1),(mC (.str "chalk"),m2),(mC (.str "doors"),a),(mC (.str "others"),b)] r S) Q:=by
 refine W.of ?_ q;simp only[lC,wX,mC,h1,h2,d,c,oS1,oP1,pL,oo];rfl
theorem zO {w x y z:D}{S:cV}{n:Nat}(h:S[n]? = some (.dct [(.inr "came",w),(.inr "chalk",x),(.inr "doors",y),(.inr "others",z)])):
  cZ (.ref n) (.str "came") S=Z (w,S)/\cZ (.ref n) (.str "chalk") S=Z (x,S)/\cZ (.ref n) (.str "doors") S=Z (y,S)/\cZ (.ref n) (.str "others") S=Z (z,S):=by
 refine⟨?_,?_,?_,?_⟩<;>(simp only[cZ,h,jN,oo,oS1];rfl)
noncomputable def oC:Nat->D
 |0=>.str "came" |1=>.str "chalk" |2=>.str "doors" |_=>.str "others"
noncomputable def AJ:Nat->D
 |0=>.int 5|1=>.int 2|2=>.int 5|_=>.int 2
noncomputable def fQ(a b c d:Bool)(w x y z:Int):Nat->D
 |0=>if a then .int w else .non
 |1=>if b then .int x else .non
 |2=>if c then .int y else .non
 |_=>if d then .int z else .non
theorem sU {a b c d:Bool}{w x y z:Int}{S:cV}{n:Nat}(h:S[n]? = some (.dct [(.inr "came",.int w),(.inr "chalk",.int x),(.inr "doors",.int y),(.inr "others",.int z)])){i:Nat}(hi:i∈[0,1,2,3]){r:Ev}{f g j:Nat}
  (h1:r[f]?=Z (Z (oC i))) (h2:r[g]?=Z (Z (.tup (eG a b c d)))) (e:r[j]?=Z (Z (.ref n))):
  qC (mB (m2 (b2 gt) (mV f) (mV g))) (m2 (b2 cZ) (mV j) (mV f)) (mC D.non) r S=Z (fQ a b c d w x y z i,S):=by
 obtain⟨o,l,k,m⟩:=zO h;simp only[aE,bC,or_false]at hi;rcases hi with rfl|rfl|rfl|rfl
 ·cases a<;>simp only[qC,mB,m2,b2,mV,h1,h2,e,oC,oS1,zT,o,fQ,mC]<;>rfl
 ·cases b<;>simp only[qC,mB,m2,b2,mV,h1,h2,e,oC,oS1,xi,l,fQ,mC]<;>rfl
 ·cases c<;>simp only[qC,mB,m2,b2,mV,h1,h2,e,oC,oS1,xh,k,fQ,mC]<;>rfl
 ·cases d<;>simp only[qC,mB,m2,b2,mV,h1,h2,e,oC,oS1,uI,m,fQ,mC]<;>rfl
theorem yC{w:c3}{ws:List Wk}{cs:List Nat}{a b c d:Bool}{k:Nat}{u:Wk}{row:List (Nat×Nat)}{S:cV}{Q:D×cV->Prop}(g:ws[k]? = Z u)(hr:w[u.1]? = Z row)(o:ws.length<=1000)(q:Q (sO a b c d ws cs u row,S)):W (cY 4 fT [dz w,.tup (eG a b c d),cX ws cs,.int k] S) Q:=by
 refine lW O (by simp[D.unds,fP,eP];rw[D.und];exact⟨lO a b c d,O⟩) ?_;unfold fT;refine kK ?_;unfold lY;refine dD (λr S=>S=[]/\r=[Z (dz w),Z (.tup (eG a b c d)),Z (cX ws cs),Z (.int k),Z (.tup (dj ws)),Z (.tup (dw cs)),Y,Y,Y,Y,Y]) ?_ ?_
 ·rw[cX];walk_at"w"
 rintro r S ⟨rfl,rfl⟩;refine dD (λr S=>S=[]/\r=[Z (dz w),Z (.tup (eG a b c d)),Z (cX ws cs),Z (.int k),Z (.tup (dj ws)),Z (.tup (dw cs)),Z (.int u.1),Z (.int u.2.1),Z (.int u.2.2),Y,Y]) ?_ ?_
 ·walk_at"w";refine km (i:=k) (x:=ej u) (by rw[dj,gP1,g];rfl) ?_;rw[ej];walk_at"w"
 rintro r S ⟨rfl,rfl⟩;refine dD (λr S=>S=[.lst ((ws.filter λv=>v.1 == u.1).map ej)]/\r=[Z (dz w),Z (.tup (eG a b c d)),Z (cX ws cs),Z (.int k),Z (.tup (dj ws)),Z (.tup (dw cs)),Z (.int u.1),Z (.int u.2.1),Z (.int u.2.2),Z (.ref 0),Y]) ?_ ?_
 ·walk_at"w";rw[lh];refine uM λm=>?_;walk_at"w";have:=cu (λv:Wk=>v.1 == u.1) ws;have h2:((ws.filter λv:Wk=>v.1 == u.1).map ej).length<=100000:=by rw[lM1];lia
  exact⟨df h2,trivial⟩
 rintro r S ⟨rfl,rfl⟩;generalize n:[Ob.lst ((ws.filter λv=>v.1 == u.1).map ej)]=S1;have f:S1[0]?=Z (Ob.lst ((ws.filter λv=>v.1 == u.1).map ej)):=by rw[<- n];rfl
 refine dD (λr S=>S=S1++[.dct [(.inr "came",.int u.2.1),(.inr "chalk",.int (if cs.contains u.1 then 1 else 0)),(.inr "doors",.int row.length),(.inr "others",.int (if 1<crowd ws u.1 then 1 else 0))]]/\r=[Z (dz w),Z (.tup (eG a b c d)),Z (cX ws cs),Z (.int k),Z (.tup (dj ws)),Z (.tup (dw cs)),Z (.int u.1),Z (.int u.2.1),Z (.int u.2.2),Z (.ref 0),Z (.ref S1.length)]) ?_ ?_
 ·unfold db;rw[c4];have hc:(List.map ej (ws.filter λv=>v.1 == u.1)).length=crowd ws u.1:=by rw[lM1];rfl
  refine EF (w:=.int u.2.1) (x:=.int (if cs.contains u.1 then 1 else 0)) (y:=.int row.length) (z:=.int (if 1<crowd ws u.1 then 1 else 0)) O ?_ ?_ ?_ ?_
  ·simp only[qC,mB,m2,b2,mV,gC1,cj,oS1,tE,mC];split<;>rfl
  ·have:W (cZ (dz w) (.int u.1) S1) λp=>p=(.tup (row.map pD),S1):=qv hr O;obtain⟨p,e,rfl⟩:=this;simp only[mN,cT,cU,m2,b1,b2,mV,gC1,cj,oS1,e,fj,lM1]
  ·simp only[qC,mB,mN,cT,cU,m2,b1,b2,mV,mC,gC1,cj,oS1,d9,ga f,oP1,iR,hc];by_cases h1:1<crowd ws u.1
   ·rw[ak h1,ak (by rw[al];lia)]
   ·rw[aj h1,aj (by rw[al];lia)]
  ·walk_at"w"
 rintro r S ⟨rfl,rfl⟩;generalize h:S1++[Ob.dct [(.inr "came",.int u.2.1),(.inr "chalk",.int (if cs.contains u.1 then 1 else 0)),(.inr "doors",.int row.length),(.inr "others",.int (if 1<crowd ws u.1 then 1 else 0))]]=S2;have j:S2[S1.length]?=Z (Ob.dct [(.inr "came",.int u.2.1),(.inr "chalk",.int (if cs.contains u.1 then 1 else 0)),(.inr "doors",.int row.length),(.inr "others",.int (if 1<crowd ws u.1 then 1 else 0))]):=by rw[<- h,dF];rfl
 walk_at"w";have l:kP = .tup ([0,1,2,3].map λi:Nat=>D.tup [oC i,AJ i]):=rfl;rw[l,lh];refine pI (fQ a b c d u.2.1 (if cs.contains u.1 then 1 else 0) row.length (if 1<crowd ws u.1 then 1 else 0)) (λr=>∃x y,r=[x,y,Z (.tup (eG a b c d)),Z (.ref S1.length)]) O _ _ ⟨_,_,O⟩ ?_ ?_
 ·rintro i hi r ⟨x,y,rfl⟩;refine⟨([Z (oC i),Z (AJ i),Z (.tup (eG a b c d)),Z (.ref S1.length)],S2),O,?_⟩;refine⟨(M,S2),O,O,?_⟩;exact⟨_,sU j hi O O O,O,O,_,_,O⟩
 ·rintro m _;walk_at"w";refine dI (xs:=[fQ a b c d u.2.1 (if cs.contains u.1 then 1 else 0) row.length (if 1<crowd ws u.1 then 1 else 0) 0,fQ a b c d u.2.1 (if cs.contains u.1 then 1 else 0) row.length (if 1<crowd ws u.1 then 1 else 0) 1,fQ a b c d u.2.1 (if cs.contains u.1 then 1 else 0) row.length (if 1<crowd ws u.1 then 1 else 0) 2,fQ a b c d u.2.1 (if cs.contains u.1 then 1 else 0) row.length (if 1<crowd ws u.1 then 1 else 0) 3]) (by rw[dF];rfl) ?_;exact⟨mH,q⟩
noncomputable def pt(b:Bool)(x:Nat):D:=if b=M then .int x else .non
noncomputable def Gp(a b c d:Bool)(x y z w:Nat):D:=.tup [pt a x,pt b y,pt c z,pt d w]
noncomputable def nj:List D:=[.str "leave",.str "mark",.str "wipe"]
noncomputable def pb:List D:=[.non,.int 0,.int 1,.int 2,.int 3]
structure fb (x:D):Prop where
 is:∃m h t,x = .tup [.int (m:Nat),h,t]/\m<4000/\h∈nj/\t∈pb
theorem fb.und{x:D}(h:fb x):x.und 0=M:=by
 obtain⟨m,x,t,rfl,_,h1,h2⟩:=h.is;have a:x.und 0=M:=by simp[nj]at h1;rcases h1 with z|z|z<;>subst z<;>rfl
 have b:t.und 0=M:=by simp[pb]at h2;rcases h2 with z|z|z|z|z<;>subst z<;>rfl
 simp[D.und,D.unds,a,b]
noncomputable def cx(b:Bool)(x:Nat):Nat:=if b=M then x else 0
noncomputable def mn:List Bool->List Nat->Nat
 |b::bs,x::xs=>cx b x*8^bs.length+mn bs xs
 |_,_=>0
theorem oH:∀{bs:List Bool} {xs:List Nat},(∀x∈xs,x<=7)->mn bs xs<8^bs.length
 |[],_,_=>by rw[mn];simp;simp
 |b::bs,[],_=>by
  rw[mn]
  ·exact Nat.pos_of_ne_zero (by simp)
  ·simp
 |b::bs,x::xs,h=>by
  have h1:=oH (bs:=bs) λy a=>h y (mC1 _ a);have h2:cx b x<=7:=by unfold cx;split;exact h x mS1;lia
  rw[mn,lC1,Nat.pow_succ];have c:cx b x*8^bs.length<=7*8^bs.length:=cw _ h2;lia
theorem Hs{S:cV}{n:Nat}{xs ys:List D}:kM S (n+1) (.tup xs) (.tup ys)=xG (kM S n) xs ys:=by
 rw[kM];simp[da]
theorem ED{S:cV}{n:Nat}{b:Bool}{x y:Nat}:kM S (n+1) (pt b x) (pt b y)=Z (decide (cx b x=cx b y)):=by
 cases b with
 |false=>rfl
 |true=>
  show Z ((x:Int) == (y:Int))=Z (decide (x=y))
  congr 1
  rw[bH,beq_iff_eq,al];lia
theorem GD{A B P u v:Nat}(a:u<P)(hv:v<P):(A*P+u=B*P+v↔A=B/\u=v)/\(A*P+u<B*P+v↔A<B\/(A=B/\u<v)):=by
 rcases Nat.lt_trichotomy A B with h|h|h
 ·have:=cw P (show A+1<=B from h);rw[Nat.succ_mul]at this;constructor<;>lia
 ·subst h;constructor<;>lia
 ·have:=cw P (show B+1<=A from h);rw[Nat.succ_mul]at this;constructor<;>lia
theorem xF{S:cV}{n:Nat}:∀ {bs:List Bool} {xs ys:List Nat},xs.length=bs.length->ys.length=bs.length->(∀ x∈xs,x<=7)->(∀ y∈ys,y<=7) ->
  xG (kM S (n+1)) (List.zipWith pt bs xs) (List.zipWith pt bs ys)=Z (decide (mn bs xs=mn bs ys))
 |[],xs,ys,_,_,_,_=>by simp[xG,mn]
 |b::bs,[],ys,h,_,_,_=>by simp at h
 |b::bs,x::xs,[],_,h,_,_=>by simp at h
 |b::bs,x::xs,y::ys,h1,h2,hx,hy=>by
  have ih:=xF (S:=S) (n:=n) (bs:=bs) (xs:=xs) (ys:=ys) (by simpa using h1) (by simpa using h2) (λz a=>hx z (mC1 _ a)) (λz a=>hy z (mC1 _ a));have b1:=oH (bs:=bs) (xs:=xs) λz a=>hx z (mC1 _ a);have b2:=oH (bs:=bs) (xs:=ys) λz a=>hy z (mC1 _ a);rw[List.zipWith_cons_cons,List.zipWith_cons_cons,xG,ED,ih,mn,mn];have c:=(GD (A:=cx b x) (B:=cx b y) b1 b2).1;rw[oS1,oP1]
  congr 1
  rw[bH,bA1,al,al,al];exact c.symm
structure Ky where
 m:Nat
 x:Nat
 y:Nat
 z:Nat
 w:Nat
structure Ky.Ok (k:Ky):Prop where
 m:k.m<4000
 x:k.x<=4
 y:k.y<=4
 z:k.z<=4
 w:k.w<=4
abbrev E4:=Bool×Bool×Bool×Bool
noncomputable def E4.bs(e:E4):List Bool:=[e.1,e.2.1,e.2.2.1,e.2.2.2]
noncomputable def Ky.xs(k:Ky):List Nat:=[k.x,k.y,k.z,k.w]
noncomputable def AG(b:Bool)(x:Nat):TK:=if b=M then .int x else .non
noncomputable def Ky.sg(k:Ky)(e:E4):D:=Gp e.1 e.2.1 e.2.2.1 e.2.2.2 k.x k.y k.z k.w
noncomputable def Ky.d(k:Ky)(e:E4):D:=.tup [.int k.m,k.sg e]
noncomputable def Ky.tk(k:Ky)(e:E4):TK:=.tup [.int k.m,.tup [AG e.1 k.x,AG e.2.1 k.y,AG e.2.2.1 k.z,AG e.2.2.2 k.w]]
noncomputable def Ky.code(k:Ky)(e:E4):Nat:=k.m*4096+mn e.bs k.xs
theorem Ky.keyT(k:Ky)(e:E4):Mi.keyT (k.d e)=Z (k.tk e):=by
 obtain⟨a,b,c,d⟩:=e;cases a<;>cases b<;>cases c<;>cases d<;>rfl
theorem Ky.tkD(k:Ky)(e:E4):Mi.tkD (k.tk e)=k.d e:=(tt (k.keyT e)).1
theorem Ky.sg_zip(k:Ky)(e:E4):k.sg e = .tup (List.zipWith pt e.bs k.xs):=rfl
theorem Ky.Ok.all{k:Ky}(h:k.Ok):∀x∈k.xs,x<=7:=by
 intro x a;have:=h.x;have:=h.y;have:=h.z;have:=h.w
 simp[Ky.xs]at a;lia
theorem gK{k:Ky}(h:k.Ok)(e:E4):mn e.bs k.xs<4096:=oH (bs:=e.bs) h.all
theorem Ky.und(k:Ky)(e:E4)(n:Nat):(k.d e).und n=M:=by
 rw[<- k.tkD e];exact vD _
theorem Ky.sgu(k:Ky)(e:E4)(n:Nat):(k.sg e).und n=M:=by
 have:=k.und e n;unfold Ky.d at this;simp only[D.und,D.unds,bD,Bool.true_and]at this;exact this
noncomputable def dO(F:List (TK×D)):Ob:=match F with
 |[]=>.dct []
 |_=>.dcT F
structure RW (e:E4)(F:List (TK×D)):Prop where
 row:∀p∈F,∃k:Ky,k.Ok/\p.1=k.tk e/\fb p.2
 nd:(F.map (·.1)).Nodup
abbrev Rw:=Ky×D
noncomputable def d6(e:E4)(p:Rw):D:=.tup [p.1.d e,p.2]
def fY(p:Rw):Prop:=p.1.Ok/\fb p.2
theorem RW.list{e:E4}:∀{F:List (TK×D)},(∀p∈F,∃k:Ky,k.Ok/\p.1=k.tk e/\fb p.2) -> ∃L:List Rw,L.map (λp=>(p.1.tk e,p.2))=F /\ ∀p∈L,fY p
 |[],_=>⟨[],O,λp a=>by cases a⟩
 |x::F,h=>by
  obtain⟨L,h1,h2⟩:=RW.list (F:=F) λp a=>h p (mC1 _ a);obtain⟨k,c,d,b⟩:=h x mS1;refine⟨(k,x.2)::L,by rw[mP1,h1,<- d],λp a=>?_⟩;rcases aE.mp a with z|z
  ·subst z;exact⟨c,b⟩
  ·exact h2 p z
theorem Bm(b:Bool)(x:Nat):AG b x=if b=M then .int (cx b x)else .non:=by unfold AG cx;cases b<;>rfl
theorem tQ{b:Bool}{x y:Nat}(h:AG b x=AG b y):cx b x=cx b y:=by
 cases b with
 |false=>rfl
 |true=>
  have h':TK.int (x:Int)=TK.int (y:Int):=h;injection h' with h';exact(by lia:x=y)
theorem EJ(a b c d x y z w:_):mn [a,b,c,d] [x,y,z,w]=((cx a x*8+cx b y)*8+cx c z)*8+cx d w:=by
 simp only[mn,lC1,aZ];lia
theorem sI{k l:Ky}{e:E4}(hk:k.Ok)(f:l.Ok):k.tk e=l.tk e↔k.code e=l.code e:=by
 obtain⟨a,b,c,d⟩:=e;have n:k.code (a,b,c,d)=k.m*4096+(((cx a k.x*8+cx b k.y)*8+cx c k.z)*8+cx d k.w):=by unfold Ky.code;rw[<- EJ];rfl
 have q:l.code (a,b,c,d)=l.m*4096+(((cx a l.x*8+cx b l.y)*8+cx c l.z)*8+cx d l.w):=by unfold Ky.code;rw[<- EJ];rfl
 have le:∀(b:Bool) (x:Nat),x<=4->cx b x<=4:=λb x h=>by unfold cx;split<;>lia
 rw[n,q];constructor
 ·intro h;unfold Ky.tk at h;injection h with h;injection h with h1 h2;injection h1 with h1;injection h2 with h2 _;injection h2 with h2;injection h2 with g h2;injection h2 with p2 h2;injection h2 with i h2;injection h2 with r _;rw[tQ g,tQ p2,tQ i,tQ r,show k.m=l.m by lia]
 ·intro h;have A:=le a _ hk.x;have u:=le b _ hk.y;have t:=le c _ hk.z;have v:=le d _ hk.w
  have y:=le a _ f.x;have r2:=le b _ f.y;have w:=le c _ f.z;have z:=le d _ f.w
  have o:k.m=l.m:=by lia
  have s:cx a k.x=cx a l.x:=by lia
  have j:cx b k.y=cx b l.y:=by lia
  have m:cx c k.z=cx c l.z:=by lia
  have p:cx d k.w=cx d l.w:=by lia
  unfold Ky.tk;simp only[Bm,o,s,j,m,p]
def Inc(e:E4)(L:List Rw):Prop:=L.Pairwise λp q=>p.1.code e<q.1.code e
theorem pZ{α:Type}{f:α->Nat}{c:Nat}{a:α}:∀{l:List α},(l.map f).Nodup->((l.find? λx=>decide (f x=c))=Z a↔a∈l/\f a=c)
 |[],_=>by simp
 |b::l,nd=>by
  rw[mP1,aM]at nd;rw[aX];by_cases z:f b=c
  ·rw[ah z];constructor
   ·intro h;cases h;exact⟨mS1,z⟩
   ·rintro⟨h1,h2⟩;rcases aE.mp h1 with y|y
    ·rw[y]
    ·exact absurd (bX.mpr ⟨a,y,h2.trans z.symm⟩) nd.1
  ·rw[ai z];show(l.find? λx=>decide (f x=c))=Z a↔_;rw[pZ nd.2];constructor
   ·rintro⟨h1,h2⟩;exact⟨mC1 _ h1,h2⟩
   ·rintro⟨h1,h2⟩;rcases aE.mp h1 with y|y
    ·rw[y]at h2;exact absurd h2 z
    ·exact⟨y,h2⟩
theorem Inc.le{e:E4}{L:List Rw}(h:Inc e L)(ok:∀p∈L,fY p){i j:Nat}{p q:Rw}(hi:L[i]?=Z p)(a:L[j]?=Z q)(g:i<=j):p.1.m<=q.1.m/\(i<j->p.1.code e<q.1.code e):=by
 have b:=(ok p (gM1 hi)).1;have d:=(ok q (gM1 a)).1;by_cases z:i=j
 ·subst z;rw[hi]at a;cases a;exact⟨nR1 _,λz=>by lia⟩
 ·obtain⟨h1,c⟩:=gE1.mp hi;obtain⟨h2,f⟩:=gE1.mp a;have:=List.pairwise_iff_getElem.mp h i j h1 h2 (by lia);rw[c,f]at this;refine⟨?_,λ_=>this⟩;have k:=gK b e;have l:=gK d e;unfold Ky.code at this;lia
theorem FY{e:E4}{L:List Rw}{i:Nat}{p:Rw}{S:cV}(h:L[i]?=Z p):cZ (.tup (L.map (d6 e))) (.int (i:Nat)) S=Z (d6 e p,S):=by
 obtain⟨x,a,b⟩:=(km (i:=i) (xs:=L.map (d6 e)) (x:=d6 e p) (S:=S) (Q:=λx=>x=(d6 e p,S)) (by rw[gP1,h];rfl) O);rw[a,b]
theorem FZ{e:E4}{p:Rw}{S:cV}:cZ (d6 e p) (.int 0) S=Z (p.1.d e,S):=rfl
theorem Hk{e:E4}{p:Rw}{S:cV}:cZ (d6 e p) (.int 1) S=Z (p.2,S):=rfl
theorem GA{e:E4}{k:Ky}{S:cV}:cZ (k.d e) (.int 0) S=Z (.int k.m,S):=rfl
theorem Hj{e:E4}{k:Ky}{S:cV}:cZ (k.d e) (.int 1) S=Z (k.sg e,S):=rfl
theorem li{e:E4}{L:List Rw}(ok:∀p∈L,fY p)(n:Nat):(D.tup (L.map (d6 e))).und n=M:=by
 rw[D.und];refine Mi.dk λp a=>?_;have h1:=p.1.und e n;have h2:=ed (n:=n) (ok p a).2.und;simp[d6,D.und,D.unds,h1,h2]
theorem Ct{e:E4}{L:List Rw}{S:cV}:d9 (.tup (L.map (d6 e))) S=Z (.int L.length,S):=by simp[d9,da]
theorem Ay{c:FT}{b:FS}{Q:Fl×Ev×cV->Prop}(I:Nat->Ev->cV->Prop)(N:Nat)(step:∀k r S,I k r S->W (c r S) fun p=>if p.1=true then k<N/\W (b r p.2) fun q=>q.1 = .nx/\I (k+1) q.2.1 q.2.2 else Q (.nx,r,p.2)):
  ∀(a k:Nat) (r:Ev) (S:cV),N-k<a->I k r S->W (oQ c b a r S) Q
 |0,k,r,S,hf,_=>by lia
 |a+1,k,r,S,hf,hi=>by
  rw[oQ];dsimp only;rw[c4];obtain⟨⟨t,m⟩,e,h⟩:=step k r S hi;refine⟨_,e,?_⟩;dsimp only at h ⊢;cases t with
  |true=>
   rw[ak O]at h ⊢;obtain⟨n,⟨f,j,l⟩,i,d,g⟩:=h;dsimp only at d g;subst d;rw[i,oS1];exact Ay I N step a (k+1) j l (by lia) g
  |false=>
   rw[aj (by decide)]at h ⊢;exact dv.mpr h
theorem z6{e:E4}{L:List Rw}{q:Nat}{S:cV}{Q:D×cV->Prop}(g:Inc e L)(ok:∀ p∈L,fY p)(v:L.length<=4000)(h:∀a:Nat,a<=L.length->(∀i p,L[i]?=Z p->i<a->p.1.m<q)->(∀i p,L[i]?=Z p->a<=i->q<=p.1.m)->Q (.int a,S)):W (cY 2 fU [.tup (L.map (d6 e)),.int (q:Nat)] S) Q:=by
 refine lW O (by rw[D.unds,li ok,D.unds,D.und];rfl) ?_;unfold fU;refine kK ?_;unfold lZ;generalize n:D.tup (L.map (d6 e))=R;refine dD (λr S=>S=[]/\r=[Z R,Z (.int (q:Nat)),Z (.int ((0:Nat):Int)),Y,Y]) ?_ ?_
 ·walk_at"w";rfl
 rintro r o ⟨rfl,rfl⟩;refine dD (λr S=>S=[]/\r=[Z R,Z (.int (q:Nat)),Z (.int ((0:Nat):Int)),Z (.int (L.length:Nat)),Y]) ?_ ?_
 ·subst n
  ((try walk_at"w");repeat(simp only[Ct];try walk_at"w"))
  rw[lM1]
 rintro r o ⟨rfl,rfl⟩;refine dD (λr S=>∃(a:Nat) (c:Option D),S=[]/\a<=L.length/\(∀i p,L[i]?=Z p->i<a->p.1.m<q)/\(∀i p,L[i]?=Z p->a<=i->q<=p.1.m)/\r=[Z R,Z (.int (q:Nat)),Z (.int (a:Nat)),Z (.int (a:Nat)),c]) ?_ ?_
 ·refine Ay (λk r S=>∃(a high:Nat) (c:Option D),S=[]/\a<=high/\high<=L.length/\high-a+k<=L.length/\(∀i p,L[i]?=Z p->i<a->p.1.m<q)/\(∀i p,L[i]?=Z p->high<=i->q<=p.1.m)/\r=[Z R,Z (.int (q:Nat)),Z (.int (a:Nat)),Z (.int (high:Nat)),c]) L.length ?_ 100000 0 _ _ (by lia) ⟨0,L.length,_,O,by lia,by lia,by lia,λi p _ z=>by lia,λi p f z=>?_,O⟩
  ·rintro k r S ⟨a,high,c,rfl,h1,h2,s,m,l,rfl⟩;unfold jd;walk_at"w";by_cases z:a<high
   ·rw[ak (by rw[al];lia)];refine⟨by lia,?_⟩;unfold jc;have d:(a+high)/2<L.length:=by lia
    obtain⟨p,f⟩:∃p,L[(a+high)/2]?=some p:=⟨_,gG1 d⟩;have j:pW (.int ((a:Int)+(high:Int))) (.int 2) []=Z (.int (((a+high)/2:Nat):Int),[]):=by
     simp only[pW];rw[ak ⟨by lia,by lia⟩]
     push_cast
     rfl
    subst n
    ((try walk_at"w");repeat(simp only[j,FY f,FZ,GA];try walk_at"w"))
    by_cases u:p.1.m<q
    ·rw[ak (by rw[al];lia)];refine⟨(a+high)/2+1,high,_,by lia,h2,by lia,λi t b hi=>?_,l,by push_cast;rfl⟩;exact bw (g.le ok b f (by lia)).1 u
    ·rw[aj (by rw[al];lia)];refine⟨a,(a+high)/2,_,by lia,by lia,by lia,m,λi t b hi=>?_,O⟩;exact aC (by lia) (g.le ok f b hi).1
   ·rw[aj (by rw[al];lia)];have:a=high:=by lia
    subst this;exact⟨a,_,h2,m,l,O⟩
  ·have:=(gE1.mp f).1;lia
 rintro r o ⟨a,c,rfl,h1,h2,s,rfl⟩;walk_at"w";exact⟨O,h a h1 h2 s⟩
theorem vB{c:FT}{b:FS}{Q:Fl×Ev×cV->Prop}(I:Nat->Ev->cV->Prop)(N:Nat)(step:∀k r S,I k r S->W (c r S) fun p=>if p.1=true then k<N/\W (b r p.2) fun q=>(q.1 = .nx/\I (k+1) q.2.1 q.2.2) \/ ∃d,q.1 = .rt d/\Q q else Q (.nx,r,p.2)):
  ∀(a k:Nat) (r:Ev) (S:cV),N-k<a->I k r S->W (oQ c b a r S) Q
 |0,k,r,S,hf,_=>by lia
 |a+1,k,r,S,hf,hi=>by
  rw[oQ];dsimp only;rw[c4];obtain⟨⟨t,s⟩,e,h⟩:=step k r S hi;refine⟨_,e,?_⟩;dsimp only at h ⊢;cases t with
  |true=>
   rw[ak O]at h ⊢;obtain⟨u,⟨f,n,o⟩,m,j⟩:=h;rw[m,oS1];rcases j with⟨g,i⟩|⟨d,g,l⟩
   ·dsimp only at g i;subst g;exact vB I N step a (k+1) n o (by lia) i
   ·dsimp only at g;subst g;exact dv.mpr l
  |false=>
   rw[aj (by decide)]at h ⊢;exact dv.mpr h
theorem EC{k l:Ky}{e:E4}{S:cV}(hk:k.Ok)(a:l.Ok):oA (k.sg e) (l.sg e) S=Z (.bl (decide (mn e.bs k.xs=mn e.bs l.xs)),S):=by
 show(kM S (58+1+1) (k.sg e) (l.sg e)).map _=_;rw[Ky.sg_zip,Ky.sg_zip,Hs,xF O O hk.all a.all];rfl
theorem Inc.nd{e:E4}:∀{L:List Rw},Inc e L->(L.map λp=>p.1.code e).Nodup:=λh=>
 ci.mpr (List.Pairwise.imp (λz=>nN1 z) h)
noncomputable def mj(k:Ky):D:=.tup [.int k.m,.str "leave",.non]
noncomputable def jP(e:E4)(L:List Rw)(k:Ky):D:=((L.find? λp=>decide (p.1.code e=k.code e)).map (·.2)).getD (mj k)
theorem qj{e:E4}{L:List Rw}{k:Ky}{E:D}{S:cV}{Q:D×cV->Prop}(m:Inc e L)(ok:∀ p∈L,fY p)(H:L.length<=4000)(hk:k.Ok)(au:E.und 0=M)(q:Q (jP e L k,S)):W (cY 3 eA [.tup [E,.tup (L.map (d6 e))],.int k.m,k.sg e] S) Q:=by
 refine lW O (by
  have C:=li (e:=e) ok 0;have r2:=k.sgu e 0;rw[D.und]at C;simp[D.unds,D.und,au,C,r2]) ?_
 unfold eA;refine kK ?_;unfold nI;generalize I:D.tup [E,.tup (L.map (d6 e))]=ao;refine dD (λr S=>S=[]/\r=[Z ao,Z (.int k.m),Z (k.sg e),Z (.tup (L.map (d6 e))),Y]) ?_ ?_
 ·subst I;have F:cZ (.tup [E,.tup (L.map (d6 e))]) (.int 1) []=Z (.tup (L.map (d6 e)),[]):=rfl
  ((try walk_at"w");repeat(simp only[F];try walk_at"w"))
 rintro r N ⟨rfl,rfl⟩;refine dD (λr S=>∃a:Nat,S=[]/\a<=L.length/\(∀i p,L[i]?=Z p->i<a->p.1.m<k.m)/\(∀i p,L[i]?=Z p->a<=i->k.m<=p.1.m)/\r=[Z ao,Z (.int k.m),Z (k.sg e),Z (.tup (L.map (d6 e))),Z (.int (a:Nat))]) ?_ ?_
 ·walk_at"w";refine z6 m ok H λa h1 h2 u=>?_;exact⟨a,O,h1,h2,u,O⟩
 rintro r N ⟨a,rfl,h1,h2,u,rfl⟩;have hnd:=m.nd;have g:(∀(i:Nat) (p:Rw),L[i]?=Z p->p.1.code e≠k.code e)->jP e L k=mj k:=λh=>by
  unfold jP;rw[List.find?_eq_none.mpr λp c=>?_]
  ·rfl
  ·obtain⟨i,hi⟩:=bj c;rw[al];exact h i p hi
 have o:∀p,p∈L->p.1.m≠k.m->p.1.code e≠k.code e:=λp c t z=>by
  have:=(GD (A:=p.1.m) (B:=k.m) (gK (ok p c).1 e) (gK hk e)).1.mp z;exact t this.1
 unfold c7;refine c4.mpr ?_;refine vB (λj r S=>S=[]/\a+j<=L.length/\(∀i p,L[i]?=Z p->i<a+j->p.1.code e≠k.code e)/\r=[Z ao,Z (.int k.m),Z (k.sg e),Z (.tup (L.map (d6 e))),Z (.int ((a+j:Nat):Int))]) L.length ?_ 100000 0 _ _ (by lia) ⟨O,by lia,λi p c hi=>o p (gM1 c) (by have:=h2 i p c (by lia);lia),O⟩;rintro j r S ⟨rfl,P,v,rfl⟩;unfold j3;by_cases y:a+j<L.length
 ·obtain⟨p,c⟩:∃p,L[a+j]?=some p:=⟨_,gG1 y⟩;have l:=gM1 c
  ((try walk_at"w");repeat(simp only[Ct,FY c,FZ,GA,lM1];try walk_at"w"))
  rw[ak (by rw[al];lia)];by_cases am:p.1.m=k.m
  ·rw[ak (by rw[beq_iff_eq];lia)];refine⟨by lia,?_⟩;unfold j2
   ((try walk_at"w");repeat(simp only[FY c,FZ,Hj,Hk,EC (ok p l).1 hk];try walk_at"w"))
   have d:p.1.code e=k.code e↔mn e.bs p.1.xs=mn e.bs k.xs:=by unfold Ky.code;rw[am];lia
   by_cases hc:mn e.bs p.1.xs=mn e.bs k.xs
   ·rw[ak (ah hc)];right;have K:(L.find? λp=>decide (p.1.code e=k.code e))=Z p:=(pZ (f:=λp:Rw=>p.1.code e) hnd).mpr ⟨l,d.mpr hc⟩;have G:jP e L k=p.2:=by unfold jP;rw[K];rfl
    rw[G]at q;exact⟨_,O,(ok p l).2.und,q⟩
   ·rw[aj (by rw[al];exact hc)];refine W.of (x:=(.nx,[Z ao,Z (.int k.m),Z (k.sg e),Z (.tup (L.map (d6 e))),Z (.int (((a+j:Nat):Int)+1))],[])) O ?_;left;refine⟨O,O,by lia,λi n b hi=>?_,by push_cast;rfl⟩;by_cases w:i=a+j
    ·subst w;rw[c]at b;cases b;exact λz=>hc (d.mp z)
    ·exact v i n b (by lia)
  ·rw [if_neg (by rw [beq_iff_eq];lia)];have s:jP e L k=mj k:=g fun i n b=>by
    by_cases hi:i<a+j
    ·exact v i n b hi
    ·have b1:=u (a+j) p c (by lia);have b2:=(m.le ok c b (by lia)).1;exact o n (gM1 b) (by lia)
   rw[s]at q;exact⟨O,q⟩
 ·((try walk_at"w");repeat(simp only[Ct,lM1];try walk_at"w"))
  rw[aj (by rw[al];lia)];have s:jP e L k=mj k:=g λi n b=>by
   have:=(gE1.mp b).1;exact v i n b (by lia)
  rw[s]at q;exact⟨O,q⟩
noncomputable def dm:D->Nat
 | .tup [.int m,_,_]=>m.toNat
 |_=>0
noncomputable def dh:D->Str
 | .tup [_,.str h,_]=>h
 |_=>""
noncomputable def dt:D->Option Nat
 | .tup [_,_,.int t]=>Z t.toNat
 |_=>Y
noncomputable def tD:Option Nat->D
 |none=>.non
 |some t=>.int (t:Nat)
theorem fb.eta{x:D}(h:fb x):x = .tup [.int (dm x:Nat),.str (dh x),tD (dt x)]/\dm x<4000:=by
 obtain⟨m,y,t,rfl,a,h1,h2⟩:=h.is;simp only[nj,aE,bC,or_false]at h1;simp only[pb,aE,bC,or_false]at h2;rcases h1 with e|e|e<;>subst e<;>rcases h2 with e|e|e|e|e<;>subst e<;>exact⟨O,a⟩
noncomputable def eH(w:c3)(u:Wk)(x:D):Wk:=match dt x with
 |some t=>match (w[u.1]?).bind (·[t]?)with
  |some p=>(p.1,p.2+1,dm x)
  |none=>(u.1,u.2.1,dm x)
 |none=>(u.1,u.2.1,dm x)
theorem xc{t:Nat}{S:cV}:zZ (.int (t:Nat)) .non S=Z (.bl J,S):=rfl
theorem CB{S:cV}:zZ .non .non S=Z (.bl M,S):=rfl
theorem ui{w:c3}{u:Wk}{row:List (Nat×Nat)}{x:D}{S:cV}{Q:D×cV->Prop}(hr:w[u.1]?=Z row)(hx:fb x)(q:Q (ej (eH w u x),S)):W (cY 3 gH [dz w,ej u,x] S) Q:=by
 refine lW O (by simp[D.unds,fP,hx.und];rfl) ?_;unfold gH;refine kK ?_;unfold nG;have ex:=hx.eta.1;unfold eH at q;simp only[hr,oS1]at q;generalize l:dm x=m at *
 generalize o:dh x=h at *
 generalize n:dt x=t at *
 refine dD (λr V=>V=[]/\r=[Z (dz w),Z (ej u),Z x,Z (.int u.1),Z (.int u.2.1),Z (.int u.2.2),Y,Y,Y,Y,Y]) ?_ ?_
 ·generalize g:ej u=U;have d:U = .tup [.int u.1,.int u.2.1,.int u.2.2]:=g.symm;subst d;walk_at"w"
 rintro r V ⟨rfl,rfl⟩;refine dD (λr V=>V=[]/\r=[Z (dz w),Z (ej u),Z x,Z (.int u.1),Z (.int u.2.1),Z (.int u.2.2),Z (.int (m:Nat)),Z (.str h),Z (tD t),Y,Y]) ?_ ?_
 ·subst ex;walk_at"w"
 rintro r V ⟨rfl,rfl⟩;cases t with
 |none=>
  have b:tD Y = .non:=rfl;rw[b]
  ((try walk_at"w");repeat(simp only[CB];try walk_at"w"))
  exact⟨O,q⟩
 |some t=>
  have b:tD (Z t) = .int (t:Nat):=rfl;rw[b];have c:∀a,cZ (dz w) (.int (u.1:Nat)) a=Z (.tup (row.map pD),a):=λa=>by
   obtain⟨p,e,h⟩:W (cZ (dz w) (.int (u.1:Nat)) a) λp=>p=(.tup (row.map pD),a):=qv hr O;rw[e,h]
  dsimp only at q;by_cases k:t<row.length
  ·have f:=gG1 k;rw[f]at q;refine dD (λr V=>V=[]/\r=[Z (dz w),Z (ej u),Z x,Z (.int u.1),Z (.int u.2.1),Z (.int u.2.2),Z (.int (m:Nat)),Z (.str h),Z (.int (t:Nat)),Y,Y]) ?_ ?_
   ·((try walk_at"w");repeat(simp only[xc,c,fj,lM1];try walk_at"w"))
    rw[aj (by rw[al];lia)];trivial
   rintro r V ⟨rfl,rfl⟩;have j:∀a,cZ (.tup (row.map pD)) (.int (t:Nat)) a=Z (pD row[t],a):=λa=>by
    obtain⟨p,e,h⟩:W (cZ (.tup (row.map pD)) (.int (t:Nat)) a) λp=>p=(pD row[t],a):=km (by rw[gP1,f];rfl) O;rw[e,h]
   generalize row[t]=p at *
   refine dD (λr V=>V=[]/\r=[Z (dz w),Z (ej u),Z x,Z (.int u.1),Z (.int u.2.1),Z (.int u.2.2),Z (.int (m:Nat)),Z (.str h),Z (.int (t:Nat)),Z (.int p.1),Z (.int p.2)]) ?_ ?_
   ·((try walk_at"w");repeat(simp only[c,j,pD];try walk_at"w"))
   rintro r V ⟨rfl,rfl⟩;walk_at"w";have i:(1:Int)+(p.2:Int)=((p.2+1:Nat):Int):=by lia
   rw[i];exact⟨O,q⟩
  ·rw[bO (by lia)]at q
   ((try walk_at"w");repeat(simp only[xc,c,fj,lM1];try walk_at"w"))
   rw[ak (by rw[al];lia)];exact⟨O,q⟩
abbrev Pr:=Wk×D
noncomputable def jU(ps:List Pr):List Wk:=ps.map (·.1)
noncomputable def r9(ps:List Pr):List D:=ps.map (·.2)
theorem Ax(ps:List Pr):dj (jU ps)=ps.map λp=>ej p.1:=by unfold dj jU;rw[bn];rfl
theorem mX{S:cV}{x n:Nat}{cs:List Nat}(h:S[n]?=Z (.lst (dw cs))):g9 (.int x) (.ref n) S=Z (.bl (!cs.contains x),S):=by
 simp only[g9,iB,lI,h,da,oS1,dU,show(60:Nat)=59+1 from rfl,ox,oP1]
theorem CD{S:cV}{x n:Nat}{cs:List Nat}(h:S[n]?=Z (.lst (dw cs))):gt (.int x) (.ref n) S=Z (.bl (cs.contains x),S):=by
 simp only[gt,rY,Dj,h,da,oS1,dU,show(60:Nat)=59+1 from rfl,ox,oP1]
theorem zN{x:D}(h:fb x)(S:cV):cZ x (.int 1) S=Z (.str (dh x),S):=by
 have e:=h.eta.1;generalize dm x=a at e;generalize dt x=c at e;generalize dh x=b at *
 subst e;rfl
theorem ot{u:Wk}{S:cV}:cZ (ej u) (.int 0) S=Z (.int u.1,S):=rfl
theorem zL{u:Wk}{S:cV}:cZ (ej u) (.int 2) S=Z (.int u.2.2,S):=rfl
noncomputable def oh(ps:List Pr)(h:Str)(r:Nat):Bool:=ps.any λp=>p.1.1 == r&&dh p.2 == h
noncomputable def gu(m:Nat)(ps:List Pr)(cs:List Nat):List Nat:=(af m).filter λr=>oh ps "mark" r||(cs.contains r && !oh ps "wipe" r)
theorem BY(a b:List Nat):dw a++dw b=dw (a++b):=by simp[dw]
noncomputable def l8(ps:List Pr)(h:Str):List Nat:=(ps.filter λp=>dh p.2 == h).map (·.1.1)
theorem tX{ps:List Pr}{h:Str}{r:Nat}:r∈l8 ps h↔oh ps h r=M:=by
 unfold l8 oh;rw[bX,bI];constructor
 ·rintro⟨u,a,rfl⟩;obtain⟨h1,h2⟩:=aA.mp a;exact⟨u,h1,by simp[h2]⟩
 ·rintro⟨u,a,e⟩;rw[bA1,beq_iff_eq]at e;exact⟨u,aA.mpr ⟨a,e.2⟩,e.1⟩
theorem xn{h:Str}{ps:List Pr}{n:Nat}{S:cV}{Q:D×cV->Prop}{m:FA}{r:Ev}(hd:∀ p∈ps,fb p.2)(d:ps.length<=8)(a:S[n]? = Z (.lst (r9 ps)))(hm:m r S=Z ([.tup (dj (jU ps)),.ref n],S))(hr:pP 2 [] r=[Y,Y])(q:Q (.ref S.length,S++[.lst (dw (l8 ps h))])):W (dQ 2 [] (AM m) (gT 2 (gCs (gN 0) (gCs (gN 1) gNl))) (mB (m2 (b2 oA) (m2 (b2 cZ) (mV 1) (mC (D.int (1)))) (mC (D.str h)))) (dJ (m2 (b2 cZ) (mV 0) (mC (D.int (0))))) r S) Q:=by
 rw[hC];refine xY hm a ?_;dsimp only;rw[hr,Ax,r9,q9];refine fM (λp:Pr=>dh p.2 == h) (λp:Pr=>D.int p.1.1) (λr=>∃x y,r=[x,y]) (eV a) ps _ ⟨_,_,O⟩ ?_ λf _=>?_
 ·rintro u b r ⟨x,y,rfl⟩
  ((try walk_at"w");repeat(simp only[zN (hd u b)];try walk_at"w"))
  refine⟨⟨_,_,O⟩,λ_=>?_⟩
  ((try walk_at"w");repeat(simp only[ot];try walk_at"w"))
 ·have e:(ps.filter λp:Pr=>dh p.2 == h).map (λp:Pr=>D.int (p.1.1:Nat))=dw (l8 ps h):=by unfold dw l8;rw[bn];rfl
  rw[e];have c:=cu (λp:Pr=>dh p.2 == h) ps;refine⟨df ?_,q⟩;dsimp only;rw[gR];unfold l8;rw[lM1];lia
theorem uK{m:Nat}{ps:List Pr}{cs:List Nat}{n:Nat}{S:cV}{Q:D×cV->Prop}(hd:∀ p∈ps,fb p.2)(w:ps.length<=8)(hc:cs.length<=8)(hw:∀ p∈ps,p.1.1<m)(o:∀ r∈cs,r<m)(l:S[n]? = Z (.lst (r9 ps)))(j:S.all (Ob.und S.length)=M)(q:Q (.tup (dw (gu m ps cs)),S)):W (cY 2 gI [cX (jU ps) cs,.ref n] S) Q:=by
 refine ke O (by simp[D.unds,D.und]) ?_;unfold gI;refine kK ?_;unfold nH;have E:=(gE1.mp l).1;refine dD (λr V=>V=S/\r=[Z (cX (jU ps) cs),Z (.ref n),Z (.tup (dj (jU ps))),Z (.tup (dw cs)),Y,Y,Y]) ?_ ?_
 ·generalize C:cX (jU ps) cs=ao;have k:ao = .tup [.tup (dj (jU ps)),.tup (dw cs)]:=C.symm;subst k;walk_at"w"
 rintro r V ⟨G,rfl⟩;subst G;refine dD (λr g=>g=V++[.lst (dw (l8 ps "mark"))]/\r=[Z (cX (jU ps) cs),Z (.ref n),Z (.tup (dj (jU ps))),Z (.tup (dw cs)),Z (.ref V.length),Y,Y]) ?_ ?_
 ·unfold db;refine c4.mpr (xn hd w l O O ?_);walk_at"w"
 rintro r d ⟨a,rfl⟩;have z:d[n]?=Z (.lst (r9 ps)):=by rw[a,gL1 E];exact l
 have v:d[V.length]?=Z (.lst (dw (l8 ps "mark"))):=by rw[a,dF];rfl
 refine dD (λr g=>g=d++[.lst (dw (l8 ps "wipe"))]/\r=[Z (cX (jU ps) cs),Z (.ref n),Z (.tup (dj (jU ps))),Z (.tup (dw cs)),Z (.ref V.length),Z (.ref d.length),Y]) ?_ ?_
 ·unfold db;refine c4.mpr (xn hd w z O O ?_);walk_at"w"
 rintro r i ⟨b,rfl⟩;have t:i[V.length]?=Z (.lst (dw (l8 ps "mark"))):=by rw[b,gL1 (gE1.mp v).1];exact v
 have F:i[d.length]?=Z (.lst (dw (l8 ps "wipe"))):=by rw[b,dF];rfl
 refine dD (λr g=>g=i++[.lst (dw (cs.filter λr=> !(l8 ps "wipe").contains r))]/\r=[Z (cX (jU ps) cs),Z (.ref n),Z (.tup (dj (jU ps))),Z (.tup (dw cs)),Z (.ref V.length),Z (.ref d.length),Z (.ref i.length)]) ?_ ?_
 ·walk_at"w";rw[lh];refine fM (f:=λr:Nat=>D.int r) (λr:Nat=> !(l8 ps "wipe").contains r) (λr:Nat=>D.int r) (λr=>∃x,r=[x,Z (.ref d.length)]) O cs _ ⟨_,O⟩ ?_ λam _=>?_
  ·rintro u s r ⟨x,rfl⟩
   ((try walk_at"w");repeat(simp only[mX F];try walk_at"w"))
   exact⟨⟨_,O⟩,λ_=>trivial⟩
  ·walk_at"w";have y:=cu (λr:Nat=> !(l8 ps "wipe").contains r) cs;exact⟨df (by rw[lM1];lia),O,trivial⟩
 rintro r V3 ⟨c,rfl⟩;have A:V3[V.length]?=Z (.lst (dw (l8 ps "mark"))):=by rw[c,gL1 (gE1.mp t).1];exact t
 have H:V3[i.length]?=Z (.lst (dw (cs.filter λr=> !(l8 ps "wipe").contains r))):=by rw[c,dF];rfl
 have y:=cu (λr:Nat=> !(l8 ps "wipe").contains r) cs;have I:(l8 ps "mark").length<=ps.length:=by unfold l8;rw[lM1];exact cu _ _
 walk_at"w";refine(x4 H A).mpr ⟨df (by rw[gR,gR];lia),?_⟩;rw[BY];refine va (xs:=cs.filter (λr=> !(l8 ps "wipe").contains r)++l8 ps "mark") (m:=m) (f:=λr=>oh ps "mark" r||(cs.contains r && !oh ps "wipe" r)) (by rw[dF];rfl) (λr=>?_) (by rw[lA1];lia) ?_
 ·have B:(l8 ps "wipe").contains r=oh ps "wipe" r:=by
   rw[bH,b7,tX]
  rw[aF,aA,tX,B];constructor
  ·rintro(⟨h1,h2⟩|h1)
   ·exact⟨o r h1,by rw[b7.mpr h1,h2];simp⟩
   ·refine⟨?_,by rw[h1];rfl⟩;unfold oh at h1;obtain⟨u,s,e⟩:=bI.mp h1;rw[bA1,beq_iff_eq]at e;rw[<- e.1];exact hw u s
  ·rintro⟨_,h⟩;rw[bF,bA1]at h;rcases h with h|⟨h1,h2⟩
   ·exact .inr h
   ·exact .inl ⟨b7.mp h1,h2⟩
 ·walk_at"w";refine dI (xs:=dw (gu m ps cs)) (by rw[fL];rfl) ?_;rw[rW (by rw[D.und];exact gm _) j (by rw[c,b,a];simp only[bv];exact bo _ _)];exact q
noncomputable def pT(m:Nat)(w:c3)(ps:List Pr)(cs:List Nat):D:=cX (ps.map λp=>eH w p.1 p.2) (gu m ps cs)
theorem jl{m:Nat}{w:c3}{ps:List Pr}{cs:List Nat}:(pT m w ps cs).und 0=M:=eP
theorem tj{m:Nat}{w:c3}{ps:List Pr}{cs:List Nat}{n:Nat}{S:cV}{Q:D×cV->Prop}(g:w.length=m)(hd:∀ p∈ps,fb p.2)(s:ps.length<=8)(hc:cs.length<=8)(hw:∀ p∈ps,p.1.1<m)(i:∀ r∈cs,r<m)(d:S[n]? = Z (.lst (r9 ps)))(b:S.all (Ob.und S.length)=M)(q:Q (pT m w ps cs,S)):W (cY 3 gZ [dz w,cX (jU ps) cs,.ref n] S) Q:=by
 refine ke O (by simp[D.unds,D.und]) ?_;unfold gZ;refine kK ?_;unfold tW;have z:=(gE1.mp d).1;refine dD (λr V=>V=S/\r=[Z (dz w),Z (cX (jU ps) cs),Z (.ref n),Z (.tup (dj (jU ps))),Z (.tup (dw cs)),Y]) ?_ ?_
 ·generalize t:cX (jU ps) cs=ao;have h:ao = .tup [.tup (dj (jU ps)),.tup (dw cs)]:=t.symm;subst h;walk_at"w"
 rintro r V ⟨B,rfl⟩;subst B;refine dD (λr v=>v=V++[.lst (dj (ps.map λp=>eH w p.1 p.2))]/\r=[Z (dz w),Z (cX (jU ps) cs),Z (.ref n),Z (.tup (dj (jU ps))),Z (.tup (dw cs)),Z (.ref V.length)]) ?_ ?_
 ·unfold db;refine c4.mpr ?_;rw[hC];refine xY (xs:=dj (jU ps)) (ys:=r9 ps) (n:=n) O d ?_;dsimp only;rw[Ax,r9,q9];refine pI (λp:Pr=>ej (eH w p.1 p.2)) (λr=>∃x y,r=[x,y,Z (dz w)]) (eV d) ps _ ⟨_,_,O⟩ ?_ λF _=>?_
  ·rintro u j r ⟨x,y,rfl⟩;obtain⟨row,c⟩:∃row,w[u.1.1]?=some row:=⟨_,gG1 (by rw[g];exact hw u j)⟩;walk_at"w";refine ui c (hd u j) ?_;exact⟨O,O,_,_,O⟩
  ·have e:ps.map (λp:Pr=>ej (eH w p.1 p.2))=dj (ps.map λp=>eH w p.1 p.2):=by unfold dj;rw[bn];rfl
   rw[e];refine⟨df (by dsimp only;rw[ip,lM1];lia),?_⟩;walk_at"w"
 rintro r f ⟨a,rfl⟩;have k:f[n]?=Z (.lst (r9 ps)):=by rw[a,gL1 z];exact d
 have l:f[V.length]?=Z (.lst (dj (ps.map λp=>eH w p.1 p.2))):=by rw[a,dF];rfl
 have E:f.all (Ob.und f.length)=M:=by
  rw[a,List.all_append,bA1,lA1];rw[br]at b;refine⟨br.mpr λo C=>fS (bm _ _) (b o C),?_⟩;rw[bG,Ob.und,eh (kG _)];rfl
 walk_at"w";refine dI l ?_;refine uK hd s hc hw i k E ?_;walk_at"w";have A:D.tup [.tup (dj (ps.map λp=>eH w p.1 p.2)),.tup (dw (gu m ps cs))]=pT m w ps cs:=rfl;rw[A,rW jl b (by rw[a];exact bo _ _)];exact q
noncomputable def no(e:E4):D:=.tup (eG e.1 e.2.1 e.2.2.1 e.2.2.2)
theorem gh(e:E4):(no e).und 0=M:=by unfold no;rw[D.und];exact lO _ _ _ _
noncomputable def mcD(e:E4)(L:List Rw):D:=.tup [no e,.tup (L.map (d6 e))]
theorem jh{e:E4}{L:List Rw}(ok:∀p∈L,fY p):(mcD e L).und 0=M:=by
 have h1:=gh e;have h2:=li (e:=e) ok 0;unfold mcD;rw[D.und,D.unds,D.unds,h1,h2];rfl
theorem jQ{k:Ky}(hk:k.Ok):fb (mj k):=⟨k.m,_,_,O,hk.m,by simp[nj],by simp[pb]⟩
theorem jO{e:E4}{L:List Rw}{k:Ky}(ok:∀p∈L,fY p)(hk:k.Ok):fb (jP e L k):=by
 unfold jP;cases h:L.find? λp=>decide (p.1.code e=k.code e)with
 |none=>exact jQ hk
 |some p=>exact(ok p (List.mem_of_find?_eq_some h)).2
noncomputable def ky(w:c3)(ws:List Wk)(cs:List Nat)(u:Wk):Ky:=⟨u.2.2,u.2.1,if cs.contains u.1 then 1 else 0,((w[u.1]?).getD []).length,if 1<crowd ws u.1 then 1 else 0⟩
theorem sN{w:c3}{ws:List Wk}{cs:List Nat}{u:Wk}{row:List (Nat×Nat)}{e:E4}(h:w[u.1]?=Z row):sO e.1 e.2.1 e.2.2.1 e.2.2.2 ws cs u row=(ky w ws cs u).sg e:=by
 have a:∀b:Bool,((if b=M then 1 else 0:Nat):Int)=if b=M then(1:Int)else 0:=λb=>by cases b<;>rfl
 have c:((if 1<crowd ws u.1 then 1 else 0:Nat):Int)=if 1<crowd ws u.1 then(1:Int)else 0:=by split<;>rfl
 unfold sO rq Ky.sg Gp ky pt;rw[h];dsimp only;rw[a,c];rfl
structure gv (m:Nat)(w:c3)(ws:List Wk)(cs:List Nat):Prop where
 web:l7 m w
 m8:m<=8
 few:ws.length<=8
 cl:cs.length<=8
 wk:∀u∈ws,∃row,w[u.1]?=some row/\u.2.1<=row.length/\u.2.2<4000
 ch:∀r∈cs,r<m
theorem gv.lt{m:Nat}{w:c3}{ws:List Wk}{cs:List Nat}(h:gv m w ws cs):∀u∈ws,u.1<m:=λu b=>by
 obtain⟨a,e,_⟩:=h.wk u b;have:=(gE1.mp e).1;rw[h.web.len]at this;exact this
theorem gv.ky{m:Nat}{w:c3}{ws:List Wk}{cs:List Nat}(h:gv m w ws cs):∀u∈ws,(ky w ws cs u).Ok:=λu b=>by
 obtain⟨a,e,h1,h2⟩:=h.wk u b;have c:=h.web.le a (gM1 e);refine⟨h2,?_,?_,?_,?_⟩
 ·show u.2.1<=4;lia
 ·show(if cs.contains u.1 then 1 else 0)<=4;split<;>lia
 ·show((w[u.1]?).getD []).length<=4;rw[e];exact c
 ·show(if 1<crowd ws u.1 then 1 else 0)<=4;split<;>lia
theorem sD{m:Nat}{w:c3}{ws:List Wk}{cs:List Nat}{e:E4}{S:cV}{Q:D×cV->Prop}(h:gv m w ws cs)(q:Q (.ref S.length,S++[.lst (ws.map λu=>(ky w ws cs u).d e)])):W (cY 3 gY [dz w,no e,cX ws cs] S) Q:=by
 refine EK O (by simp[D.unds,fP,eP,gh]) ?_;unfold gY;refine kK ?_;unfold tV dY;rw[c4,hC];refine x0 (xs:=dj ws) O ?_;dsimp only;have g:=h.few;rw[dj,oE];refine pI (λp:Wk×Nat=>(Law.ky w ws cs p.1).d e) (λr=>∃x y,r=[x,y,Z (dz w),Z (no e),Z (cX ws cs)]) O ws.zipIdx _ ⟨_,_,O⟩ ?_ λi _=>?_
 ·rintro⟨u,k⟩ d r ⟨x,y,rfl⟩;have b:ws[k]?=Z u:=gz d;obtain⟨f,a,_⟩:=h.wk u (gM1 b)
  ((try walk_at"w");repeat(simp only[zL];try walk_at"w"))
  refine yC b a (by lia) ?_;walk_at"w";rw[sN a];exact⟨O,_,_,O⟩
 ·have c:(ws.zipIdx.map λp:Wk×Nat=>(Law.ky w ws cs p.1).d e)=ws.map λu=>(Law.ky w ws cs u).d e:=gL (λu=>(Law.ky w ws cs u).d e) ws;rw[c];refine⟨df (by dsimp only;rw[lM1];lia),?_⟩;walk_at"w";exact⟨_,O,Mi.dk λu _=>Ky.und _ e 0,q⟩
noncomputable def ddW(w:c3)(ws:List Wk)(cs:List Nat)(e:E4)(L:List Rw)(u:Wk):D:=jP e L (ky w ws cs u)
noncomputable def mw(w:c3)(ws:List Wk)(cs:List Nat)(e:E4)(L:List Rw):List Pr:=ws.map λu=>(u,ddW w ws cs e L u)
noncomputable def hV(w:c3)(ws:List Wk)(cs:List Nat)(e:E4)(L:List Rw)(ch:List Nat)(q:Wk×Nat):D:=if ch.contains q.2 then ddW w ws cs e L q.1 else mj (ky w ws cs q.1)
noncomputable def dB(w:c3)(ws:List Wk)(cs:List Nat)(e:E4)(L:List Rw)(ch:List Nat):List Pr:=ws.zipIdx.map λq=>(q.1,hV w ws cs e L ch q)
theorem Ao{w:c3}{ws:List Wk}{cs:List Nat}{e:E4}{L:List Rw}:jU (mw w ws cs e L)=ws:=by unfold jU mw;rw[bn];exact cf _
theorem vW{w:c3}{ws:List Wk}{cs:List Nat}{e:E4}{L:List Rw}{ch:List Nat}:jU (dB w ws cs e L ch)=ws:=by
 unfold jU dB;rw[bn];exact(gL (λu:Wk=>u) ws).trans (cf _)
theorem kT{α:Type}{l:List α}{p:α×Nat}(h:p∈l.zipIdx):p.1∈l:=gM1 (gz h)
theorem CY{m:Nat}{w:c3}{ws:List Wk}{cs:List Nat}{e:E4}{L:List Rw}{S:cV}{Q:D×cV->Prop}(h:gv m w ws cs)(c:Inc e L)(ok:∀p∈L,fY p)(k:L.length<=4000)(q:Q (pT m w (mw w ws cs e L) cs,S)):W (cY 3 lB [dz w,mcD e L,cX ws cs] S) Q:=by
 refine lW O (by simp[D.unds,fP,eP,jh ok]) ?_;unfold lB
 refine kK ?_;unfold xV
 have i:=h.few;have f:∀u∈ws,fb (ddW w ws cs e L u):=λu a=>jO ok (h.ky u a);refine dD (λr V=>V=[.lst (ws.map λu=>(ky w ws cs u).d e)]/\r=[Z (dz w),Z (mcD e L),Z (cX ws cs),Z (.ref 0)]) ?_ ?_
 ·have g:∀S,cZ (mcD e L) (.int 0) S=Z (no e,S):=λS=>rfl
  ((try walk_at"w");repeat(simp only[g];try walk_at"w"))
  refine sD h ?_;walk_at"w"
 rintro r V ⟨rfl,rfl⟩;unfold dY;rw[c4];have d:W (dQ 2 [1] (gn (mV 3)) (gT 2 (gCs (gN 0) (gCs (gN 1) gNl))) eZ (dJ (mN (cY 3 eA) (cT (mV 2) (cT (mV 0) (cT (mV 1) cU))))) [Z (dz w),Z (mcD e L),Z (cX ws cs),Z (.ref 0)] [.lst (ws.map λu=>(ky w ws cs u).d e)]) λp=>p=(.ref 1,[.lst (ws.map λu=>(ky w ws cs u).d e),.lst (ws.map (ddW w ws cs e L))]):=by
  walk_at"w";refine dI (xs:=ws.map λu=>(ky w ws cs u).d e) O ?_;refine pI (ddW w ws cs e L) (λr=>∃x y,r=[x,y,Z (mcD e L)]) (eV O) ws _ ⟨_,_,O⟩ ?_ λl _=>?_
  ·rintro u a r ⟨x,y,rfl⟩;unfold Ky.d;walk_at"w";refine qj c ok k (h.ky u a) (gh e) ?_;exact⟨O,O,_,_,O⟩
  ·refine⟨df (by dsimp only;rw[lM1];lia),?_⟩;walk_at"w"
 obtain⟨p,j,rfl⟩:=d;generalize dQ 2 [1] (gn (mV 3)) (gT 2 (gCs (gN 0) (gCs (gN 1) gNl))) eZ (dJ (mN (cY 3 eA) (cT (mV 2) (cT (mV 0) (cT (mV 1) cU)))))=G at *
 ((try walk_at"w");repeat(simp only[j];try walk_at"w"))
 have mv:=λQ q=>tj (m:=m) (w:=w) (ps:=mw w ws cs e L) (cs:=cs) (n:=1) (S:=[.lst (ws.map λu=>(ky w ws cs u).d e),.lst (ws.map (ddW w ws cs e L))]) (Q:=Q) h.web.len (λp b=>by
  obtain⟨u,a,rfl⟩:=bX.mp b;exact f u a) (by unfold mw;rw[lM1];exact i) h.cl (λp b=>by
  obtain⟨u,a,rfl⟩:=bX.mp b;exact h.lt u a) h.ch (by unfold r9 mw;rw[bn];rfl) (by
  rw[bG,bG,Ob.und,Ob.und,Mi.dk λu _=>Ky.und _ e _,Mi.dk λu a=>ed (f u a).und];rfl) q
 rw[Ao]at mv;exact mv _ ⟨jl,q⟩
theorem CP{n:Nat}{f:FN}{ds:List D}{S:cV}{Q:D×cV->Prop}(hn:ds.length=n)(a:D.unds 0 ds=M)(h:W (f ds []) λp=>∃xs ys,p=(.ref 1,[.lst xs,.lst ys])/\D.unds 0 xs=M/\D.unds 0 ys=M/\Q (.ref (S.length+1),S++[.lst xs,.lst ys])):W (cY n f ds S) Q:=by
 obtain⟨p,e,xs,ys,rfl,b,c,q⟩:=h;refine⟨_,ii e hn a O,?_⟩;simp only[D.sh,mP1,aW,Ob.sh,f0 b,f0 c];exact q
theorem Ab{m:Nat}{w:c3}{ws:List Wk}{cs:List Nat}{e:E4}{L:List Rw}{S:cV}{Q:D×cV->Prop}(h:gv m w ws cs)(b:Inc e L)(ok:∀ p∈L,fY p)(g:L.length<=4000)(q:∀c,c.und 0=M->Q (.ref (S.length+1),S++[c,.lst (ws.map (ddW w ws cs e L))])):W (cY 3 fV [dz w,mcD e L,cX ws cs] S) Q:=by
 refine CP O (by simp[D.unds,fP,eP,jh ok]) ?_;unfold fV;refine kK ?_;unfold l0 dY;have i:=h.few;have f:∀u∈ws,fb (ddW w ws cs e L u):=λu a=>jO ok (h.ky u a);have d:∀S,cZ (mcD e L) (.int 0) S=Z (no e,S):=λS=>rfl;rw[c4,hC]
 ((try walk_at"w");repeat(simp only[d];try walk_at"w"))
 refine sD h ?_;refine dI (xs:=ws.map λu=>(ky w ws cs u).d e) O ?_;refine pI (ddW w ws cs e L) (λr=>∃x y,r=[x,y,Z (mcD e L)]) (eV O) ws _ ⟨_,_,O⟩ ?_ λj _=>?_
 ·rintro u a r ⟨x,y,rfl⟩;unfold Ky.d;walk_at"w";refine qj b ok g (h.ky u a) (gh e) ?_;exact⟨O,O,_,_,O⟩
 ·refine⟨df (by dsimp only;rw[lM1];lia),?_⟩;walk_at"w";exact⟨_,_,O,Mi.dk λu _=>Ky.und _ e 0,Mi.dk λu a=>(f u a).und,q _ (by rw[Ob.und];exact Mi.dk λu _=>Ky.und _ e 0)⟩
theorem CC{S:cV}{x:Nat}{cs:List Nat}:gt (.int x) (.tup (dw cs)) S=Z (.bl (cs.contains x),S):=tE
theorem zq{m:Nat}{w:c3}{ws:List Wk}{cs ch:List Nat}{e:E4}{L:List Rw}{n:Nat}{S:cV}{Q:D×cV->Prop}(h:gv m w ws cs)(ok:∀ p∈L,fY p)(G:S[n]? = Z (.lst (ws.map (ddW w ws cs e L))))(g:S.all (Ob.und S.length)=M)(q:Q (pT m w (dB w ws cs e L ch) cs,S)):W (cY 4 eW [dz w,cX ws cs,.ref n,.tup (dw ch)] S) Q:=by
 refine ke O (by simp[D.unds,D.und]) ?_;unfold eW;refine kK ?_;unfold jw;have ao:=(gE1.mp G).1;have N:=h.few;have I:∀u∈ws,fb (ddW w ws cs e L u):=λu H=>jO ok (h.ky u H);have K:∀S,cZ (cX ws cs) (.int 0) S=Z (.tup (dj ws),S):=λS=>rfl;have C:∀o,(S++[o])[n]?=Z (.lst (ws.map (ddW w ws cs e L))):=λo=>by rw[gL1 ao];exact G
 have y:∀p∈dB w ws cs e L ch,fb p.2/\p.1∈ws:=λp y=>by
  obtain⟨x,T,rfl⟩:=bX.mp y;have j:=kT T;refine⟨?_,j⟩;unfold hV;dsimp only;split
  ·exact I _ j
  ·exact jQ (h.ky _ j)
 refine dD (λr V=>V=S++[.lst []]/\r=[Z (dz w),Z (cX ws cs),Z (.ref n),Z (.tup (dw ch)),Z (.ref S.length),Y,Y,Y,Y]) ?_ ?_
 ·walk_at"w"
 rintro r V ⟨rfl,rfl⟩;refine dD (λr V=>V=S++[.lst (r9 (dB w ws cs e L ch))] /\ ∃s t v l,r=[Z (dz w),Z (cX ws cs),Z (.ref n),Z (.tup (dw ch)),Z (.ref S.length),s,t,v,l]) ?_ ?_
 ·unfold fz;rw[c4];refine x0 (xs:=dj ws) (by simp only[cT,m2,b2,mV,mC,cU,gC1,cj,oS1,K]) ?_;dsimp only;rw[dj,oE];refine eD (λi r V=>V=S++[.lst ((ws.zipIdx.take i).map (hV w ws cs e L ch))] /\ ∃s t v l,r=[Z (dz w),Z (cX ws cs),Z (.ref n),Z (.tup (dw ch)),Z (.ref S.length),s,t,v,l]) _ 0 _ _ ⟨by simp,_,_,_,_,O⟩ (λ_ _ _ _=>rfl) ?_ ?_
  ·rintro i d z r V ⟨rfl,s,t,v,l,rfl⟩;rw[gP1]at z;obtain⟨⟨u,k⟩,A,rfl⟩:=oM1.mp z;have au:ws[k]?=Z u:=gz (gM1 A);have E:=(gE1.mp A).1;rw[cy]at E;rw[bE];have F:((ws.zipIdx.take i).map (hV w ws cs e L ch)).length<=8:=by rw[lM1,aP,cy];lia
   have c:(S++[Ob.lst ((ws.zipIdx.take i).map (hV w ws cs e L ch))])[S.length]?=Z (.lst ((ws.zipIdx.take i).map (hV w ws cs e L ch))):=by rw[dF];rfl
   have st:∀a b:Ob,(S++[a]).set S.length b=S++[b]:=λa b=>by rw[cA _ _ (nR1 _),Nat.sub_self];rfl
   have more:(ws.zipIdx.take (i+1)).map (hV w ws cs e L ch)=(ws.zipIdx.take i).map (hV w ws cs e L ch)++[hV w ws cs e L ch (u,k)]:=by rw[bY,A,bW];rfl
   have am:mj (ky w ws cs u) = .tup [.int u.2.2,.str "leave",.non]:=rfl;unfold ej;walk_at"w";unfold hY eF;rw[c4];refine kl ?_;walk_at"w";refine⟨S.length,_,O,c,?_⟩
   ((try walk_at"w");repeat(simp only[CC];try walk_at"w"))
   rw[more];unfold hV;dsimp only;split
   ·refine qw (C _) (i:=k) (x:=ddW w ws cs e L u) (by rw[gP1,au];rfl) ?_;refine(kn c).mpr ⟨df (by lia),?_⟩;rw[st];exact⟨O,_,_,_,_,O⟩
   ·skip
    refine(kn c).mpr ⟨df (by lia),?_⟩;rw[st,am];exact⟨O,_,_,_,_,O⟩
  ·rintro r V ⟨rfl,s,t,v,l,rfl⟩;refine⟨O,?_,_,_,_,_,O⟩;rw[lM1,bE,bN];unfold r9 dB;rw[bn];rfl
 rintro r V ⟨rfl,s,t,v,l,rfl⟩;have B:D.unds 0 (r9 (dB w ws cs e L ch))=M:=Mi.dk λp f=>(y p f).1.und;have R:(S++[Ob.lst (r9 (dB w ws cs e L ch))]).all (Ob.und (S++[Ob.lst (r9 (dB w ws cs e L ch))]).length)=M:=by
  rw[List.all_append,bA1,lA1];rw[br]at g;refine⟨br.mpr λo P=>fS (bm _ _) (g o P),?_⟩;rw[bG,Ob.und,eh B];rfl
 have mv:=λQ q=>tj (m:=m) (w:=w) (ps:=dB w ws cs e L ch) (cs:=cs) (n:=S.length) (S:=S++[Ob.lst (r9 (dB w ws cs e L ch))]) (Q:=Q) h.web.len (λp f=>(y p f).1) (by unfold dB;rw[lM1,cy];exact N) h.cl (λp f=>h.lt _ (y p f).2) h.ch (by rw[dF];rfl) R q;rw[vW]at mv;walk_at"w";refine mv _ ?_;walk_at"w";rw[xr jl g];exact q
theorem vV{m:Nat}{w:c3}{ws:List Wk}{cs ch:List Nat}{e:E4}{L:List Rw}{S:cV}{Q:D×cV->Prop}(h:gv m w ws cs)(b:Inc e L)(ok:∀p∈L,fY p)(f:L.length<=4000)(q:Q (pT m w (dB w ws cs e L ch) cs,S)):W (cY 4 eQ [dz w,mcD e L,cX ws cs,.tup (dw ch)] S) Q:=by
 refine lW O (by simp[D.unds,fP,eP,jh ok,D.und,gm]) ?_;unfold eQ
 refine kK ?_;unfold kf
 have c:∀u∈ws,fb (ddW w ws cs e L u):=λu a=>jO ok (h.ky u a);walk_at"w";refine Ab h b ok f λg d=>?_;walk_at"w";refine zq h ok O ?_ ?_
 ·rw[bG,bG,fS (bd _) d,Ob.und,Mi.dk λu a=>ed (c u a).und];rfl
 ·walk_at"w";exact⟨jl,q⟩
theorem lx{rm:Nat}:∀ {ws:List Wk} {n k:Nat},(k<n->((ws.zipIdx n).filter fun p=> !(p.2 == k)&&p.1.1 == rm).length=crowd ws rm) /\
  (∀u,n<=k->ws[k-n]?=Z u->u.1=rm->((ws.zipIdx n).filter λp=> !(p.2 == k)&&p.1.1 == rm).length+1=crowd ws rm)
 |[],n,k=>⟨λ_=>rfl,λu _ h=>by simp at h⟩
 |x::ws,n,k=>by
  obtain⟨h1,h2⟩:=lx (rm:=rm) (ws:=ws) (n:=n+1) (k:=k);have c:crowd (x::ws) rm=(if x.1 == rm then 1 else 0)+crowd ws rm:=by
   unfold crowd;rw[cc];split<;>simp<;>lia
  rw[bB,cc,c];constructor
  ·intro d;have:=h1 (by lia);have e:(n == k)=J:=by rw[beq_eq_false_iff_ne];lia
   rw[e];cases hx:(x.1 == rm)with
   |true=>simp[this];lia
   |false=>simp[this]
  ·intro u d a b;by_cases z:k=n
   ·subst z;rw[Nat.sub_self]at a;cases a;rw[b];have:=h1 (by lia);simp[this];lia
   ·have e:(n == k)=J:=by rw[beq_eq_false_iff_ne];lia
    have:=h2 u (by lia) (by rw[show k-n=(k-(n+1))+1 by lia,gC1]at a;exact a) b;rw[e];cases hx:(x.1 == rm)with
    |true=>simp;lia
    |false=>simp;lia
theorem CJ {w x y z:D}{S S':cV}{r:Ev}{m1 m2 a b:FE}{Q:D×cV->Prop}(h1:m1 r S=some (w,S))(h2:m2 r S=some (x,S))(d:a r S=some (y,S))(c:b r S=some (z,S'))
  (q:Q (.ref S'.length,S'++[.dct [(.inr "came",w),(.inr "chalk",x),(.inr "doors",y),(.inr "others",z)]])):
  W (lC [(mC (.str "came"),m1),(mC (.str "chalk"),m2),(mC (.str "doors"),a),(mC (.str "others"),b)] r S) Q:=by
 refine W.of ?_ q;simp only[lC,wX,mC,h1,h2,d,c,oS1,oP1,pL,oo];rfl
theorem w5{w:c3}{ws:List Wk}{cs:List Nat}{a b c d:Bool}{k:Nat}{u:Wk}{row:List (Nat×Nat)}{S:cV}{Q:D×cV->Prop}(g:ws[k]? = Z u)(hr:w[u.1]? = Z row)(I:ws.length<=1000)(q:Q (sO a b c d ws cs u row,S)):W (cY 4 eY [dz w,.tup (eG a b c d),cX ws cs,.int k] S) Q:=by
 refine lW O (by simp[D.unds,fP,eP];rw[D.und];exact⟨lO a b c d,O⟩) ?_;unfold eY;refine kK ?_;unfold jy;have h:∀(S:cV),cZ (cX ws cs) (.int 0) S=Z (.tup (dj ws),S):=λS=>rfl;have l:∀(S:cV),cZ (cX ws cs) (.int 1) S=Z (.tup (dw cs),S):=λS=>rfl;refine dD (λr S=>S=[]/\r=[Z (dz w),Z (.tup (eG a b c d)),Z (cX ws cs),Z (.int k),Z (.int u.1),Z (.int u.2.1),Z (.int u.2.2),Y,Y]) ?_ ?_
 ·((try walk_at"w");repeat(simp only[h];try walk_at"w"))
  refine km (i:=k) (x:=ej u) (by rw[dj,gP1,g];rfl) ?_;rw[ej];walk_at"w"
 rintro r S ⟨rfl,rfl⟩;refine dD (λr S=>∃xs,S=[.lst xs]/\(!xs.isEmpty)=decide (1<crowd ws u.1)/\r=[Z (dz w),Z (.tup (eG a b c d)),Z (cX ws cs),Z (.int k),Z (.int u.1),Z (.int u.2.1),Z (.int u.2.2),Z (.ref 0),Y]) ?_ ?_
 ·unfold db;rw[c4,hC];refine x0 (xs:=dj ws) (by simp only[cT,m2,b2,mV,mC,cU,gC1,cj,oS1,h]) ?_;dsimp only;rw[dj,oE];refine fM (λp:Wk×Nat=> !(p.2 == k)&&p.1.1 == u.1) (λp:Wk×Nat=>ej p.1) (λr=>∃x y,r=[x,y,Z (.int k),Z (.int u.1)]) O ws.zipIdx _ ⟨_,_,O⟩ ?_ λG _=>?_
  ·rintro⟨v,j⟩ H r ⟨x,y,rfl⟩;have A:((j:Int) == (k:Int))=(j == k):=by rw[bH,beq_iff_eq,beq_iff_eq];lia
   have E:((v.1:Int) == (u.1:Int))=(v.1 == u.1):=by rw[bH,beq_iff_eq,beq_iff_eq];lia
   ((try walk_at"w");repeat(simp only[A,ot,E];try walk_at"w"))
   cases(j == k)with
   |true=>exact⟨O,⟨_,_,O⟩,λz=>by cases z⟩
   |false=>
    cases hh:(v.1 == u.1)with
    |true=>exact⟨O,⟨_,_,O⟩,λ_=>trivial⟩
    |false=>exact⟨O,⟨_,_,O⟩,λz=>by cases z⟩
  ·have s:=cu (λp:Wk×Nat=> !(p.2 == k)&&p.1.1 == u.1) ws.zipIdx;rw[cy]at s;have B:=(lx (rm:=u.1) (ws:=ws) (n:=0) (k:=k)).2 u (by lia) g O;walk_at"w";refine⟨df (by rw[lM1];lia),_,O,?_,trivial⟩;rw[<- B];generalize List.filter (λp:Wk×Nat=> !(p.2 == k)&&p.1.1 == u.1) ws.zipIdx=zs;cases zs<;>simp
 rintro r S ⟨xs,rfl,f,rfl⟩;refine dD (λr S=>S=[.lst xs,.lst []]++[.dct [(.inr "came",.int u.2.1),(.inr "chalk",.int (if cs.contains u.1 then 1 else 0)),(.inr "doors",.int row.length),(.inr "others",.int (if 1<crowd ws u.1 then 1 else 0))]]/\r=[Z (dz w),Z (.tup (eG a b c d)),Z (cX ws cs),Z (.int k),Z (.int u.1),Z (.int u.2.1),Z (.int u.2.2),Z (.ref 0),Z (.ref 2)]) ?_ ?_
 ·unfold db;rw[c4];refine CJ (S':=[.lst xs,.lst []]) (w:=.int u.2.1) (x:=.int (if cs.contains u.1 then 1 else 0)) (y:=.int row.length) (z:=.int (if 1<crowd ws u.1 then 1 else 0)) O ?_ ?_ ?_ ?_
  ·simp only[mN,cT,cU,b1,m2,b2,mV,gC1,cj,oS1,l,tE,mC,kC]
  ·obtain⟨p,e,rfl⟩:W (cZ (dz w) (.int u.1) [.lst xs]) λp=>p=(.tup (row.map pD),[.lst xs]):=qv hr O;simp only[mN,cT,cU,m2,b1,b2,mV,gC1,cj,oS1,e,fj,lM1]
  ·have m:vf (.ref 0) (.ref 1) [.lst xs,.lst []]=some (.bl (!xs.isEmpty),[.lst xs,.lst []]):=oz rfl rfl;have o:fe cU [some (dz w),some (.tup (eG a b c d)),some (cX ws cs),some (.int k),some (.int u.1),some (.int u.2.1),some (.int u.2.2),some (.ref 0),none] [.lst xs]=some (.ref 1,[.lst xs,.lst []]):=by
    obtain⟨p,e,rfl⟩:W (fe cU [some (dz w),some (.tup (eG a b c d)),some (cX ws cs),some (.int k),some (.int u.1),some (.int u.2.1),some (.int u.2.2),some (.ref 0),none] [.lst xs]) λp=>p=(.ref 1,[.lst xs,.lst []]):=by
     rw[xZ];exact⟨_,O,GC,O⟩
    exact e
   simp only[mN,cT,cU,m2,b1,b2,mV,gC1,cj,oS1,o,m,kC,f];by_cases h1:1<crowd ws u.1
   ·rw[ak h1,ak (by rw[al];lia)]
   ·rw[aj h1,aj (by rw[al];lia)]
  ·walk_at"w"
 rintro r S ⟨rfl,rfl⟩;generalize t:[Ob.lst xs,.lst []]++[Ob.dct [(.inr "came",.int u.2.1),(.inr "chalk",.int (if cs.contains u.1 then 1 else 0)),(.inr "doors",.int row.length),(.inr "others",.int (if 1<crowd ws u.1 then 1 else 0))]]=S2;have C:S2[2]?=Z (Ob.dct [(.inr "came",.int u.2.1),(.inr "chalk",.int (if cs.contains u.1 then 1 else 0)),(.inr "doors",.int row.length),(.inr "others",.int (if 1<crowd ws u.1 then 1 else 0))]):=by rw[<- t];rfl
 walk_at"w";have F:([D.str "came",D.str "chalk",D.str "doors",D.str "others"]:List D)=[0,1,2,3].map oC:=rfl;rw[lh,F];refine pI (fQ a b c d u.2.1 (if cs.contains u.1 then 1 else 0) row.length (if 1<crowd ws u.1 then 1 else 0)) (λr=>∃x,r=[x,Z (.tup (eG a b c d)),Z (.ref 2)]) O _ _ ⟨_,O⟩ ?_ ?_
 ·rintro i hi r ⟨x,rfl⟩;refine⟨([Z (oC i),Z (.tup (eG a b c d)),Z (.ref 2)],S2),O,?_⟩;refine⟨(M,S2),O,O,?_⟩;exact⟨_,sU C hi O O O,O,O,_,O⟩
 ·rintro G _;walk_at"w";refine dI (xs:=[fQ a b c d u.2.1 (if cs.contains u.1 then 1 else 0) row.length (if 1<crowd ws u.1 then 1 else 0) 0,fQ a b c d u.2.1 (if cs.contains u.1 then 1 else 0) row.length (if 1<crowd ws u.1 then 1 else 0) 1,fQ a b c d u.2.1 (if cs.contains u.1 then 1 else 0) row.length (if 1<crowd ws u.1 then 1 else 0) 2,fQ a b c d u.2.1 (if cs.contains u.1 then 1 else 0) row.length (if 1<crowd ws u.1 then 1 else 0) 3]) (by rw[dF];rfl) ?_;exact⟨mH,q⟩
theorem Ac{F:List (TK×D)}{n:Nat}{S:cV}(h:S[n]?=Z (dO F)):uR S n=Z F:=by
 unfold uR;rw[h];cases F<;>rfl
structure RL (e:E4)(F:List (TK×D))(L:List Rw):Prop where
 inc:Inc e L
 ok:∀p∈L,fY p
 len:L.length<=4000
 lk:∀k:Ky,k.Ok->dq F (k.tk e)=(L.find? λp=>decide (p.1.code e=k.code e)).map (·.2)
noncomputable def owD(e:E4)(n:Nat):D:=.tup [no e,.ref n]
theorem zI{e:E4}{F:List (TK×D)}{L:List Rw}{k:Ky}{n:Nat}{S:cV}{Q:D×cV->Prop}(c:RL e F L)(hk:k.Ok)(f:S[n]?=Z (dO F))(q:Q (jP e L k,S)):W (cY 3 fx [owD e n,.int k.m,k.sg e] S) Q:=by
 refine ke O (by simp[owD,D.unds,D.und]) ?_;unfold fx;refine kK ?_;unfold kj;have d:m2 (b2 cZ) (mV 0) (mC (D.int 1)) [Z (owD e n),Z (.int k.m),Z (k.sg e)] S=Z (.ref n,S):=rfl;have g:fits 2=M/\fits 3=M:=⟨F5,F4⟩;have b:dL (cT (mV 1) (cT (mV 2) cU)) [Z (owD e n),Z (.int k.m),Z (k.sg e)] S=Z (k.d e,S):=by
  obtain⟨p,e,rfl⟩:W (dL (cT (mV 1) (cT (mV 2) cU)) [some (owD e n),some (.int k.m),some (k.sg e)] S) λp=>p=(k.d e,S):=by
   rw[sn];exact⟨_,O,F5,O⟩
  exact e
 have hc:dL (cT (mV 1) (cT (mC (D.str "leave")) (cT (mC D.non) cU))) [Z (owD e n),Z (.int k.m),Z (k.sg e)] S=Z (mj k,S):=by
  obtain⟨p,e,rfl⟩:W (dL (cT (mV 1) (cT (mC (D.str "leave")) (cT (mC D.non) cU))) [some (owD e n),some (.int k.m),some (k.sg e)] S) λp=>p=(mj k,S):=by
   rw[sn];exact⟨_,O,F4,O⟩
  exact e
 have a:fB 3 [owD e n,.int k.m,k.sg e]=[Z (owD e n),Z (.int k.m),Z (k.sg e)]:=rfl;rw[a];refine W.of (x:=(.rt (jP e L k),[Z (owD e n),Z (.int k.m),Z (k.sg e)],S)) ?_ ?_
 ·simp only[dY,rQ,d,b,hc,oS1,Ac f,k.keyT e];rw[oP1,c.lk k hk];rfl
 ·dsimp only;rw[tI O];exact q
noncomputable def gr(ws:List Wk)(dd:Wk->D)(h:Str)(ch:List Nat):List Nat:=ch.filterMap λk=>(ws[k]?).bind λu=>if dh (dd u) == h then Z u.1 else Y
theorem pR{ws:List Wk}{dd:Wk->D}{h:Str}{ch:List Nat}{k:Nat}{u:Wk}(hk:ws[k]?=Z u):gr ws dd h (ch++[k])=gr ws dd h ch++(if dh (dd u) == h then[u.1]else[]):=by
 unfold gr;rw[List.filterMap_append]
 congr 1
 rw[aD,hk];dsimp only[oS1];cases(dh (dd u) == h)<;>rfl
theorem tF(ws:List Wk)(dd:Wk->D)(h:Str)(ch:List Nat):(gr ws dd h ch).length<=ch.length:=List.length_filterMap_le ..
theorem xk {w:c3}{ws:List Wk}{cs ch:List Nat}{e:E4}{L:List Rw}{h:Str}(l:h≠"leave"){r:Nat}:(gr ws (ddW w ws cs e L) h ch).contains r=oh (dB w ws cs e L ch) h r:=by
 unfold gr oh dB;rw[bH,b7,aK,bI];constructor
 ·rintro⟨k,j,c⟩;obtain⟨u,d,b⟩:=oB1.mp c;split at b
  ·rename_i i;cases b;refine⟨(u,hV w ws cs e L ch (u,k)),bX.mpr ⟨(u,k),?_,O⟩,?_⟩
   ·exact List.mem_iff_getElem?.mpr ⟨k,by rw[cB,d];simp⟩
   ·unfold hV;dsimp only;rw[ak (b7.mpr j),i];simp
  ·cases b
 ·rintro⟨p,g,c⟩;obtain⟨⟨u,k⟩,f,rfl⟩:=bX.mp g;rw[bA1,beq_iff_eq]at c;obtain⟨b,a⟩:=c;unfold hV at a;dsimp only at b a;split at a
  ·rename_i hc;refine⟨k,b7.mp hc,?_⟩;rw[gz f];dsimp only[oS1];rw[ak a,b]
  ·exfalso;rw[beq_iff_eq]at a;exact l a.symm
noncomputable def rg(w:c3)(ws:List Wk)(dd:Wk->D)(ch:List Nat):List Wk:=ws.zipIdx.map λq=>if ch.contains q.2 then eH w q.1 (dd q.1)else q.1
theorem yn{w:c3}{ws:List Wk}{dd:Wk->D}:rg w ws dd []=ws:=(gL (λu:Wk=>u) ws).trans (cf _)
theorem vz{w:c3}{ws:List Wk}{dd:Wk->D}{ch:List Nat}{k:Nat}{u:Wk}(hk:ws[k]?=Z u):(rg w ws dd ch).set k (eH w u (dd u))=rg w ws dd (ch++[k]):=by
 have a:=(gE1.mp hk).1;apply List.ext_getElem?;intro j;unfold rg;by_cases z:k=j
 ·subst z;rw[aH (by rw[lM1,cy];exact a),gP1,cB,hk];simp
 ·rw[gS1 z,gP1,gP1,cB];cases ws[j]? with
  |none=>rfl
  |some v=>
   have:(ch++[k]).contains (0+j)=ch.contains (0+j):=by
    rw[bH,b7,b7,aF,cp];constructor
    ·rintro(h|h)
     ·exact h
     ·lia
    ·exact .inl
   simp only[oP1,this]
theorem yo{w:c3}{ws:List Wk}{dd:Wk->D}{ch:List Nat}:(rg w ws dd ch).length=ws.length:=by unfold rg;rw[lM1,cy]
theorem uj{w:c3}{ws:List Wk}{cs:List Nat}{u:Wk}:eH w u (mj (ky w ws cs u))=u:=by
 obtain⟨a,b,c⟩:=u;rfl
theorem AX{w:c3}{ws:List Wk}{cs ch:List Nat}{e:E4}{L:List Rw}:rg w ws (ddW w ws cs e L) ch=(dB w ws cs e L ch).map λp=>eH w p.1 p.2:=by
 unfold rg dB;rw[bn];apply cb;rintro⟨u,k⟩ _;show _=eH w u (hV w ws cs e L ch (u,k));unfold hV;dsimp only;split
 ·rfl
 ·rw[uj]
noncomputable def V3(S:cV)(a b c:List D):cV:=S++[.lst a,.lst b,.lst c]
theorem AZ{S:cV}{a b c:List D}:(V3 S a b c)[S.length]?=Z (.lst a):=by unfold V3;rw[dF];rfl
theorem Ds{S:cV}{a b c:List D}:(V3 S a b c)[S.length+1]?=Z (.lst b):=by unfold V3;rw[fL];rfl
theorem Dr{S:cV}{a b c:List D}:(V3 S a b c)[S.length+2]?=Z (.lst c):=by unfold V3;rw[fL];rfl
theorem Dp{S:cV}{a b c x:List D}:(V3 S a b c).set S.length (.lst x)=V3 S x b c:=by unfold V3;rw[cA _ _ (nR1 _),Nat.sub_self];rfl
theorem AB{S:cV}{a b c x:List D}:(V3 S a b c).set (S.length+1) (.lst x)=V3 S a x c:=by unfold V3;rw[cA _ _ (by lia),show S.length+1-S.length=1 by lia];rfl
theorem AA{S:cV}{a b c x:List D}:(V3 S a b c).set (S.length+2) (.lst x)=V3 S a b x:=by unfold V3;rw[cA _ _ (by lia),show S.length+2-S.length=2 by lia];rfl
theorem Dq{S:cV}{a b c:List D}{n:Nat}{o:Ob}(h:S[n]?=Z o):(V3 S a b c)[n]?=Z o:=by unfold V3;rw[gL1 (gE1.mp h).1];exact h
theorem wV{S:cV}{a b c:List D}{x:Str}{h:Str}{rm i n:Nat}{xs:List Nat}{r:Ev}{T f:cV}{Q:Fl×Ev×cV->Prop}(d:r[12]? = some (some (.str x)))(j:r[8]? = some (some (.int (rm:Nat))))(hi:r[i]? = some (some (.ref n)))(hn:T[n]?=some (.lst (dw xs)))(p:xs.length<=1000)(ht:f=T.set n (.lst (dw (xs++if x == h then[rm]else[]))))(g:T.set n (.lst (dw xs))=T)(q:Q (.nx,r,f)):
  W (fX (mB (m2 (b2 oA) (mV 12) (mC (D.str h)))) (eF (rP (b2 jr) (mV i) (cT (mV 8) cU))) oi r T) Q:=by
 have e:mV 12 r T=Z (.str x,T):=by simp[mV,d]
 have l:mV 8 r T=Z (.int (rm:Nat),T):=by simp[mV,j]
 have m:mV i r T=Z (.ref n,T):=by simp[mV,hi]
 unfold fX;rw[c4];have k:mB (m2 (b2 oA) (mV 12) (mC (D.str h))) r T=Z (x == h,T):=by
  simp only[mB,m2,b2,e,mC,oS1,tK]
 refine⟨_,k,?_⟩;dsimp only;cases hx:(x == h)with
 |true=>
  rw[ak O];rw[hx,ak O]at ht;unfold eF;rw[c4];refine kl ?_;refine⟨_,m,n,dw xs,O,hn,?_⟩;have o:cT (mV 8) cU r T=Z ([.int (rm:Nat)],T):=by simp only[cT,l,cU,oS1]
  refine⟨_,o,?_⟩;refine(kn hn).mpr ⟨df (by rw[gR];lia),?_⟩;dsimp only;have:dw xs++[D.int (rm:Nat)]=dw (xs++[rm]):=by simp[dw]
  rw[this,<- ht];exact dv.mpr q
 |false=>
  rw[aj (by decide)];rw[hx,aj (by decide),aL,g]at ht;rw[<- ht];exact dv.mpr q
theorem zJ {m:Nat}{w:c3}{ws:List Wk}{cs ch:List Nat}{e:E4}{F:List (TK×D)}{L:List Rw}{n k:Nat}{u:Wk}{S:cV}{i:List Nat}{y8 y9 y10 y11 o s:Option D}{Q:Fl×Ev×cV->Prop}(h:gv m w ws cs)(au:RL e F L)(hS:S[n]? = some (dO F))(hk:ws[k]? = some u)(hcl:ch.length<=100)
  (q:∀T z9 H E G z,Q (.nx,[Z (dz w),Z (owD e n),Z (cX ws cs),Z (.tup (dw i)),Z (.ref S.length),Z (.ref (S.length+1)),Z (.ref (S.length+2)),Z (.int (k:Nat)),T,z9,H,E,G,z,Y],
   V3 S (dj (rg w ws (ddW w ws cs e L) (ch++[k]))) (dw (gr ws (ddW w ws cs e L) "mark" (ch++[k]))) (dw (gr ws (ddW w ws cs e L) "wipe" (ch++[k]))))):
  W (gl [Z (dz w),Z (owD e n),Z (cX ws cs),Z (.tup (dw i)),Z (.ref S.length),Z (.ref (S.length+1)),Z (.ref (S.length+2)),Z (.int (k:Nat)),y8,y9,y10,y11,o,s,Y]
   (V3 S (dj (rg w ws (ddW w ws cs e L) ch)) (dw (gr ws (ddW w ws cs e L) "mark" ch)) (dw (gr ws (ddW w ws cs e L) "wipe" ch)))) Q:=by
 have hf:=h.few;have j:=gM1 hk;obtain⟨f,x,_⟩:=h.wk u j;have U:fb (ddW w ws cs e L u):=jO au.ok (h.ky u j);have e0:∀S,cZ (cX ws cs) (.int 0) S=Z (.tup (dj ws),S):=λS=>rfl;have o0:∀S,cZ (owD e n) (.int 0) S=Z (no e,S):=λS=>rfl;have eu:∀d,cZ (.tup (dj ws)) (.int (k:Nat)) d=Z (ej u,d):=λd=>by
  obtain⟨p,e,h⟩:W (cZ (.tup (dj ws)) (.int (k:Nat)) d) λp=>p=(ej u,d):=km (by rw[dj,gP1,hk];rfl) O;rw[e,h]
 have C:=vz (w:=w) (dd:=ddW w ws cs e L) (ch:=ch) hk;have am:=pR (dd:=ddW w ws cs e L) (h:="mark") (ch:=ch) hk;have y:=pR (dd:=ddW w ws cs e L) (h:="wipe") (ch:=ch) hk;have l1:=tF ws (ddW w ws cs e L) "mark" ch;have l2:=tF ws (ddW w ws cs e L) "wipe" ch;have lw:=yo (w:=w) (ws:=ws) (dd:=ddW w ws cs e L) (ch:=ch);have K:=(gE1.mp hk).1;rw[am,y,<- C]at q;unfold gl;generalize hA:rg w ws (ddW w ws cs e L) ch=A at *
 generalize hM:gr ws (ddW w ws cs e L) "mark" ch=ao at *
 generalize hP:gr ws (ddW w ws cs e L) "wipe" ch=P at *
 generalize hB:D.tup (dw i)=B at *
 refine dD (λr V=>V=V3 S (dj A) (dw ao) (dw P)/\r=[Z (dz w),Z (owD e n),Z (cX ws cs),Z B,Z (.ref S.length),Z (.ref (S.length+1)),Z (.ref (S.length+2)),Z (.int (k:Nat)),Z (.int u.1),Z (.int u.2.1),Z (.int u.2.2),y11,o,s,Y]) ?_ ?_
 ·((try walk_at"w");repeat(simp only[e0,eu];try walk_at"w"))
  unfold ej;walk_at"w"
 rintro r V ⟨rfl,rfl⟩;have ex:=U.eta.1;refine dD (λr V=>V=V3 S (dj A) (dw ao) (dw P)/\r=[Z (dz w),Z (owD e n),Z (cX ws cs),Z B,Z (.ref S.length),Z (.ref (S.length+1)),Z (.ref (S.length+2)),Z (.int (k:Nat)),Z (.int u.1),Z (.int u.2.1),Z (.int u.2.2),Z (.int (dm (ddW w ws cs e L u):Nat)),Z (.str (dh (ddW w ws cs e L u))),Z (tD (dt (ddW w ws cs e L u))),Y]) ?_ ?_
 ·((try walk_at"w");repeat(simp only[o0];try walk_at"w"))
  refine w5 hk x (by lia) ?_;rw[sN x];have ld:=λQ q=>zI (k:=ky w ws cs u) (S:=V3 S (dj A) (dw ao) (dw P)) (Q:=Q) au (h.ky u j) (Dq hS) q;walk_at"w";refine ld _ ?_;show W _ _;have I:jP e L (ky w ws cs u) = .tup [.int (dm (ddW w ws cs e L u):Nat),.str (dh (ddW w ws cs e L u)),tD (dt (ddW w ws cs e L u))]:=ex;rw[I];walk_at"w"
 rintro r V ⟨rfl,rfl⟩;have l:eH w u (ddW w ws cs e L u)=match dt (ddW w ws cs e L u) with
   |some t=>match f[t]? with
    |some p=>(p.1,p.2+1,dm (ddW w ws cs e L u))
    |none=>(u.1,u.2.1,dm (ddW w ws cs e L u))
   |none=>(u.1,u.2.1,dm (ddW w ws cs e L u)):=by
  unfold eH;rw[x];rfl
 generalize hX:ddW w ws cs e L u=X at *
 generalize hm:dm X=dmx at *
 generalize hh:dh X=dhx at *
 generalize ht:dt X=dtx at *
 refine dD (λr V=>V=V3 S (dj A) (dw (ao++if dhx == "mark" then[u.1]else[])) (dw P)/\r=[Z (dz w),Z (owD e n),Z (cX ws cs),Z B,Z (.ref S.length),Z (.ref (S.length+1)),Z (.ref (S.length+2)),Z (.int (k:Nat)),Z (.int u.1),Z (.int u.2.1),Z (.int u.2.2),Z (.int (dmx:Nat)),Z (.str dhx),Z (tD dtx),Y]) ?_ ?_
 ·refine wV (S:=S) (a:=[]) (b:=[]) (c:=[]) O O O Ds (by lia) AB.symm AB ?_;exact⟨O,O,O⟩
 rintro r V ⟨rfl,rfl⟩;generalize hM2:(ao++if dhx == "mark" then[u.1]else[])=M2 at *
 refine dD (λr V=>V=V3 S (dj A) (dw M2) (dw (P++if dhx == "wipe" then[u.1]else[]))/\r=[Z (dz w),Z (owD e n),Z (cX ws cs),Z B,Z (.ref S.length),Z (.ref (S.length+1)),Z (.ref (S.length+2)),Z (.int (k:Nat)),Z (.int u.1),Z (.int u.2.1),Z (.int u.2.2),Z (.int (dmx:Nat)),Z (.str dhx),Z (tD dtx),Y]) ?_ ?_
 ·refine wV (S:=S) (a:=[]) (b:=[]) (c:=[]) O O O Dr (by lia) AA.symm AA ?_;exact⟨O,O,O⟩
 rintro r V ⟨rfl,rfl⟩;generalize hP2:(P++if dhx == "wipe" then[u.1]else[])=P2 at *
 have g:∀d,cZ (dz w) (.int (u.1:Nat)) d=Z (.tup (f.map pD),d):=λd=>by
  obtain⟨p,e,h⟩:W (cZ (dz w) (.int (u.1:Nat)) d) λp=>p=(.tup (f.map pD),d):=qv x O;rw[e,h]
 refine dD (λr V=>V=V3 S (dj A) (dw M2) (dw P2) /\ ∃a b:Nat,eH w u X=(a,b,dmx)/\r=[Z (dz w),Z (owD e n),Z (cX ws cs),Z B,Z (.ref S.length),Z (.ref (S.length+1)),Z (.ref (S.length+2)),Z (.int (k:Nat)),Z (.int (a:Nat)),Z (.int (b:Nat)),Z (.int u.2.2),Z (.int (dmx:Nat)),Z (.str dhx),Z (tD dtx),Y]) ?_ ?_
 ·generalize V3 S (dj A) (dw M2) (dw P2)=V at *
  cases dtx with
  |none=>
   dsimp only at l;have v:kJ (tD Y) .non V=Z (.bl J,V):=rfl
   ((try walk_at"w");repeat(simp only[v];try walk_at"w"))
   exact⟨_,_,l,O⟩
  |some t=>
   dsimp only at l;have v:∀d,kJ (tD (Z t)) .non d=Z (.bl M,d):=λd=>rfl;have el:∀d,vg (tD (Z t)) (.int (f.length:Nat)) d=Z (.bl (decide ((t:Int)<(f.length:Int))),d):=λd=>rfl;by_cases aq:t<f.length
   ·have R:=gG1 aq;rw [R] at l;have e2:∀ d,cZ (.tup (f.map pD)) (tD (some t)) d=some (pD f[t],d):=fun d=>by
     obtain⟨p,e,h⟩:W (cZ (.tup (f.map pD)) (.int (t:Nat)) d) λp=>p=(pD f[t],d):=km (by rw[gP1,R];rfl) O;show cZ (.tup (f.map pD)) (.int (t:Nat)) d=_;rw[e,h]
    generalize f[t]=p at *
    have p0:∀d,cZ (pD p) (.int 0) d=Z (.int p.1,d):=λd=>rfl;have wq:∀d,cZ (pD p) (.int 1) d=Z (.int p.2,d):=λd=>rfl
    ((try walk_at"w");repeat(simp only[v,g,fj,lM1,el];try walk_at"w"))
    rw[ak (by rw[al];lia)]
    ((try walk_at"w");repeat(simp only[g,e2,p0,wq];try walk_at"w"))
    rw[show(1:Int)+(p.2:Int)=((p.2+1:Nat):Int) by lia];exact⟨_,_,l,O⟩
   ·rw[bO (by lia)]at l
    ((try walk_at"w");repeat(simp only[v,g,fj,lM1,el];try walk_at"w"))
    rw[aj (by rw[al];lia)];exact⟨_,_,l,O⟩
 rintro r V ⟨rfl,a,b,N,rfl⟩;walk_at"w";refine C3 AZ (by rw[ip,lw];exact K) ?_;rw[Dp];have e3:(dj A).set k (D.tup [.int (a:Nat),.int (b:Nat),.int (dmx:Nat)])=dj (A.set k (eH w u X)):=by
  rw[N];unfold dj;rw[List.map_set];rfl
 rw[e3];exact q _ _ _ _ _ _
theorem zK{m:Nat}{w:c3}{ws:List Wk}{cs ch:List Nat}{e:E4}{F:List (TK×D)}{L:List Rw}{n:Nat}{S:cV}{Q:D×cV->Prop}(h:gv m w ws cs)(rl:RL e F L)(hS:S[n]? = Z (dO F))(H:S.all (Ob.und S.length)=M)(E:∀ k∈ch,k<ws.length)(au:ch.length<=8)(q:Q (pT m w (dB w ws cs e L ch) cs,S)):W (cY 4 fy [dz w,owD e n,cX ws cs,.tup (dw ch)] S) Q:=by
 have z:D.unds 0 [dz w,owD e n,cX ws cs,.tup (dw ch)]=J:=by
  have:(owD e n).und 0=J:=by simp[owD,D.und,D.unds]
  simp[D.unds,this]
 refine ke O z ?_;unfold fy
 refine kK ?_;unfold kk
 have hf:=h.few;have I:=h.web.len;have hm8:=h.m8;have X:∀S,cZ (cX ws cs) (.int 0) S=Z (.tup (dj ws),S):=λS=>rfl;have U:∀S,cZ (cX ws cs) (.int 1) S=Z (.tup (dw cs),S):=λS=>rfl;refine dD (λr V=>V=V3 S (dj (rg w ws (ddW w ws cs e L) [])) (dw (gr ws (ddW w ws cs e L) "mark" [])) (dw (gr ws (ddW w ws cs e L) "wipe" []))/\r=[Z (dz w),Z (owD e n),Z (cX ws cs),Z (.tup (dw ch)),Z (.ref S.length),Z (.ref (S.length+1)),Z (.ref (S.length+2)),Y,Y,Y,Y,Y,Y,Y,Y]) ?_ ?_
 ·rw[yn]
  ((try walk_at"w");repeat(simp only[X];try walk_at"w"))
  simp[pV,da,V3,gr,dw];exact dv.mpr ⟨by simp,O,by simp⟩
 rintro r V ⟨rfl,rfl⟩;refine dD (λr V=>V=V3 S (dj (rg w ws (ddW w ws cs e L) ch)) (dw (gr ws (ddW w ws cs e L) "mark" ch)) (dw (gr ws (ddW w ws cs e L) "wipe" ch)) /\ ∃t p s o j l g,r=[Z (dz w),Z (owD e n),Z (cX ws cs),Z (.tup (dw ch)),Z (.ref S.length),Z (.ref (S.length+1)),Z (.ref (S.length+2)),t,p,s,o,j,l,g,Y]) ?_ ?_
 ·walk_at"w";rw[lh];refine eD (λi r V=>V=V3 S (dj (rg w ws (ddW w ws cs e L) (ch.take i))) (dw (gr ws (ddW w ws cs e L) "mark" (ch.take i))) (dw (gr ws (ddW w ws cs e L) "wipe" (ch.take i))) /\ ∃t p s o j l g,r=[Z (dz w),Z (owD e n),Z (cX ws cs),Z (.tup (dw ch)),Z (.ref S.length),Z (.ref (S.length+1)),Z (.ref (S.length+2)),t,p,s,o,j,l,g,Y]) (dw ch) 0 _ _ ⟨O,_,_,_,_,_,_,_,O⟩ (λ_ _ _ _=>rfl) ?_ ?_
  ·rintro i d v r V ⟨rfl,t,p,s,o,j,l,g,rfl⟩;unfold dw at v;rw[gP1]at v;obtain⟨k,N,rfl⟩:=oM1.mp v;have am:=gM1 N;obtain⟨u,z⟩:∃u,ws[k]?=some u:=⟨_,gG1 (E k am)⟩;have ht:ch.take (i+1)=ch.take i++[k]:=by rw[bY,N];rfl
   rw[bE]at *
   rw[ht];walk_at"w";refine zJ h rl hS z (by rw[aP];lia) λp s o j l g=>?_;exact⟨O,O,_,_,_,_,_,_,_,O⟩
  ·rintro r V ⟨rfl,t,p,s,o,j,l,g,rfl⟩;rw[gR,bE,bN];exact⟨O,O,_,_,_,_,_,_,_,O⟩
 rintro r V ⟨rfl,t,p,s,o,j,l,g,rfl⟩;have K:=λr=>xk (w:=w) (ws:=ws) (cs:=cs) (ch:=ch) (e:=e) (L:=L) (h:="mark") (by decide) (r:=r);have C:=λr=>xk (w:=w) (ws:=ws) (cs:=cs) (ch:=ch) (e:=e) (L:=L) (h:="wipe") (by decide) (r:=r);have G:=AX (w:=w) (ws:=ws) (cs:=cs) (ch:=ch) (e:=e) (L:=L);generalize gr ws (ddW w ws cs e L) "mark" ch=ao at *
 generalize gr ws (ddW w ws cs e L) "wipe" ch=P at *
 generalize rg w ws (ddW w ws cs e L) ch=A at *
 have aq:∀x:Nat,gt (.int x) (.ref (S.length+1)) (V3 S (dj A) (dw ao) (dw P))=Z (.bl (oh (dB w ws cs e L ch) "mark" x),V3 S (dj A) (dw ao) (dw P)):=λx=>by rw[CD Ds,K]
 have gp:∀x:Nat,g9 (.int x) (.ref (S.length+2)) (V3 S (dj A) (dw ao) (dw P))=Z (.bl (!oh (dB w ws cs e L ch) "wipe" x),V3 S (dj A) (dw ao) (dw P)):=λx=>by rw[mX Dr,C]
 refine dD (λr V=>V=V3 S (dj A) (dw ao) (dw P)++[.lst (dw (gu m (dB w ws cs e L ch) cs))] /\ ∃t p s o j l g,r=[Z (dz w),Z (owD e n),Z (cX ws cs),Z (.tup (dw ch)),Z (.ref S.length),Z (.ref (S.length+1)),Z (.ref (S.length+2)),t,p,s,o,j,l,g,Z (.ref (V3 S (dj A) (dw ao) (dw P)).length)]) ?_ ?_
 ·((try walk_at"w");repeat(simp only[om];try walk_at"w"))
  rw[mW,Int.toNat_natCast,I];refine⟨fN (by lia),?_⟩;refine fM (f:=λx:Nat=>D.int x) (λx:Nat=>oh (dB w ws cs e L ch) "mark" x||(cs.contains x && !oh (dB w ws cs e L ch) "wipe" x)) (λx:Nat=>D.int x) (λr=>∃x,r=[x,Z (.ref (S.length+1)),Z (cX ws cs),Z (.ref (S.length+2))]) O (af m) _ ⟨_,O⟩ ?_ λr' _=>?_
  ·rintro x hx r ⟨y,rfl⟩
   ((try walk_at"w");repeat(simp only[aq,U,tE,gp];try walk_at"w"))
   cases oh (dB w ws cs e L ch) "mark" x with
   |true=>exact⟨O,⟨_,O⟩,λ_=>trivial⟩
   |false=>
    cases cs.contains x with
    |true=>exact⟨O,⟨_,O⟩,λ_=>trivial⟩
    |false=>exact⟨O,⟨_,O⟩,λ_=>trivial⟩
  ·have R:=cu (λx:Nat=>oh (dB w ws cs e L ch) "mark" x||(cs.contains x && !oh (dB w ws cs e L ch) "wipe" x)) (af m);rw[cC]at R;walk_at"w";exact⟨df (by rw[lM1];lia),O,_,_,_,_,_,_,_,O⟩
 rintro r V ⟨rfl,t,p,s,o,j,l,g,rfl⟩;generalize B:V3 S (dj A) (dw ao) (dw P)++[.lst (dw (gu m (dB w ws cs e L ch) cs))]=V;have g0:V[S.length]?=Z (.lst (dj A)):=by rw[<- B,gL1 (gE1.mp (AZ (S:=S) (a:=dj A) (b:=dw ao) (c:=dw P))).1];exact AZ
 have T:V[(V3 S (dj A) (dw ao) (dw P)).length]?=Z (.lst (dw (gu m (dB w ws cs e L ch) cs))):=by rw[<- B,cq]
 walk_at"w";refine dI g0 ?_;refine dI T ?_;have wq:D.tup [.tup (dj A),.tup (dw (gu m (dB w ws cs e L ch) cs))]=pT m w (dB w ws cs e L ch) cs:=by rw[G];rfl
 rw[wq,rW jl H (by rw[<- B];unfold V3;rw[bv];exact bo _ _)];exact q
noncomputable def jK:List E4:=[(J,J,J,J),(M,J,J,J),(J,J,M,J),(J,M,J,J),(J,J,J,M),(M,J,M,J),(J,M,J,M),(J,J,M,M)]
noncomputable def ue(b:Bool)(n:Nat):List Nat:=if b then af (n+1)else[0]
noncomputable def KS(e:E4)(m:Nat):List Ky:=(ue e.1 4).flatMap λx=>(ue e.2.1 1).flatMap λy=>(ue e.2.2.1 4).flatMap λz=>(ue e.2.2.2 1).map λw=>⟨m,x,y,z,w⟩
noncomputable def Fe:Ob->Bool
 | .lst xs=>D.unds 0 xs
 |_=>J
theorem tw{o:Ob}(h:Fe o=M):o.und 0=M /\ ∀n,o.sh n=o:=by
 unfold Fe at h;split at h
 ·rename_i xs;exact⟨by rw[Ob.und];exact h,λn=>by rw[Ob.sh,f0 h]⟩
 ·cases h
noncomputable def EI(e:E4):Bool:=match eJ [no e] []with
 |some (.ref j,G)=>(match G[j]? with
  |some (.lst xs)=>D.sames xs ((KS e 0).map λk=>k.sg e)
  |_=>J)&&G.all Fe
 |_=>J
theorem Af:∀e∈jK,EI e=M:=by
 intro e a;simp only[jK,aE,bC,or_false]at a;rcases a with rfl|rfl|rfl|rfl|rfl|rfl|rfl|rfl<;>kernel_rfl!
theorem DJ{e:E4}(m a:Nat):(KS e m).map (λk=>k.sg e)=(KS e a).map λk=>k.sg e:=by
 unfold KS;simp only[List.map_flatMap,bn];rfl
theorem vY{e:E4}{S:cV}{Q:D×cV->Prop}(he:e∈jK)(q:∀j G,(∀o∈G,o.und 0=M)->(S++G)[S.length+j]?=Z (.lst ((KS e 0).map λk=>k.sg e))->Q (.ref (S.length+j),S++G)):W (cY 1 eJ [no e] S) Q:=by
 have hc:=Af e he;unfold EI at hc;split at hc
 ·rename_i j G c;rw[bA1]at hc;obtain⟨h1,h2⟩:=hc;split at h1
  ·rename_i xs f;have ex:=D.sames_eq h1;subst ex;have b:∀o∈G,Fe o=M:=br.mp h2;refine⟨_,ii c O (by rw[D.unds,gh];rfl) (by simp[D.und]),?_⟩;have d:G.map (Ob.sh S.length)=G:=(cb λo a=>(tw (b o a)).2 _).trans (cf _);rw[d];exact q j G (λo a=>(tw (b o a)).1) (by rw[fL];exact f)
  ·cases h1
 ·cases hc
theorem t5{e:E4}{m:Nat}(hm:m<4000):∀k∈KS e m,k.Ok/\k.m=m:=by
 intro k c;unfold KS at c;obtain⟨x,h,c⟩:=cD.mp c;obtain⟨y,i,c⟩:=cD.mp c;obtain⟨z,g,c⟩:=cD.mp c;obtain⟨w,j,rfl⟩:=bX.mp c;have d:∀b n (a:Nat),a∈ue b n->a<=n:=λb n a f=>by
  unfold ue at f;split at f
  ·have:=aB.mp f;lia
  ·rw[cp.mp f];exact bd _
 have h1:=d _ _ _ h;have h2:=d _ _ _ i;have l:=d _ _ _ g;have o:=d _ _ _ j;exact⟨⟨hm,h1,by show y<=4;lia,l,by show w<=4;lia⟩,O⟩
theorem Au:∀e∈jK,((KS e 0).map λk=>mn e.bs k.xs).Pairwise (· < ·):=by decide+kernel
theorem De:∀e∈jK,(KS e 0).length<=25:=by decide+kernel
theorem AQ(e:E4)(m:Nat):KS e m=(KS e 0).map λk=>{k with m:=m}:=by
 unfold KS;simp only[List.map_flatMap,bn];rfl
theorem Df{e:E4}(he:e∈jK){m:Nat}:(KS e m).Pairwise λa b=>a.code e<b.code e:=by
 have h:=ci.mp (Au e he);rw[AQ,ci];refine h.imp ?_;intro a b c;unfold Ky.code;exact Nat.add_lt_add_left c _
noncomputable def kF(e:E4)(n:Nat):List Ky:=(af n).flatMap (KS e)
theorem xX{e:E4}(he:e∈jK){n:Nat}(hn:n<=4000):(kF e n).Pairwise λa b=>a.code e<b.code e:=by
 unfold kF;rw[List.pairwise_flatMap];refine⟨λm _=>Df he,?_⟩;refine List.Pairwise.imp_of_mem ?_ bV;intro m d g c i a h b f;have h1:=aB.mp g;have h2:=aB.mp c;obtain⟨a1,a2⟩:=t5 (e:=e) (m:=m) (by lia) a h;obtain⟨b1,b2⟩:=t5 (e:=e) (m:=d) (by lia) b f;have j:=gK a1 e;have k:=gK b1 e;unfold Ky.code;rw[a2,b2];lia
theorem gf{V G:cV}{i:Nat}{o:Ob}(h:V[i]?=Z o):(V++G)[i]?=Z o:=by
 rw[gL1 (gE1.mp h).1];exact h
theorem wR{c n k:Nat}{U V:cV}{xs:List D}{Q:D×cV->Prop}(s:HS c U V)(h:V[n]?=Z (.lst xs))(hk:k<xs.length)(q:∀x,x∈xs->Q (x,V)):W (cZ (.ref n) (.int (k:Nat)) V) Q:=
 qw h (gG1 hk) (q _ (bJ hk))
theorem DM{c i b j m:Nat}{U V:cV}{xs:List D}{o:Ob}{E sg u:D}{y8 y9:Option D}{Q:Fl×Ev×cV->Prop}(s:HS c U V)(hc:c<=2^45)(hk:V[b]? = some (.lst xs))(K:D.unds 0 xs=true)(R:xs.length<=1000)(F:U.length<=b)(hs:V[j]? = some o)(f:0<j)(hjk:j≠b)(m0:0<m)(m3:m<=3)(N:sg.und 0=true)(q0:∀a C I,HS (c+4) U a->a[j]?=some o->a[b]?=some (.lst xs)->Q (.nx,[some (.ref 0),some (.bl true),some u,some E,some (.int (m:Nat)),some (.ref b),some (.int (i:Nat)),some sg,C,I],a))(q1:∀a C I x,fb x->HS (c+4) U a->a[j]?=some o->a[b]?=some (.lst (xs++[.tup [.tup [.int (i:Nat),sg],x]]))->Q (.nx,[some (.ref 0),some (.bl true),some u,some E,some (.int (m:Nat)),some (.ref b),some (.int (i:Nat)),some sg,C,I],a)):
  W (fh [Z (.ref 0),Z (.bl M),Z u,Z E,Z (.int (m:Nat)),Z (.ref b),Z (.int (i:Nat)),Z sg,y8,y9] V) Q:=by
 have hp:=s.pos;unfold fh;refine dD (λr a=>∃q,q∈nj/\HS (c+1) U a/\a[j]?=Z o/\a[b]?=Z (.lst xs)/\r=[Z (.ref 0),Z (.bl M),Z u,Z E,Z (.int (m:Nat)),Z (.ref b),Z (.int (i:Nat)),Z sg,Z q,y9]) ?_ ?_
 ·walk_at"w";refine draw_W (s.app1 (o:=.lst [.str "leave",.str "leave",.str "mark",.str "wipe"]) rfl) (by lia) (by lia) (by lia) fun d aq B k l1 q=>?_;have em:∀ S,ic (.int (d:Nat)) (.int 1) S=some (.int (d:Nat),S):=fun S=>by
   simp only[ic];rw[ak (pE (by decide) (by decide)),Int.mul_one]
  have P:∀S,kC (.bl M) S=Z (.int 1,S):=λS=>rfl
  ((try walk_at"w");repeat(simp only[P,em];try walk_at"w"))
  refine wR (xs:=[.str "leave",.str "leave",.str "mark",.str "wipe"]) B (k.at (by rw[dF];rfl) (by have:=s.len;lia)) (by show d<4;lia) λx h=>?_;refine⟨x,?_,B,k.at (gf hs) f,k.at (gf hk) (by have:=s.len;lia),O⟩;simp only[aE,bC,or_false]at h;rcases h with rfl|rfl|rfl|rfl<;>simp[nj]
 rintro r aq ⟨q,am,B,H,G,rfl⟩;refine dD (λr a=>∃x,fb x/\HS (c+3) U a/\a[j]?=Z o/\a[b]?=Z (.lst xs)/\r=[Z (.ref 0),Z (.bl M),Z u,Z E,Z (.int (m:Nat)),Z (.ref b),Z (.int (i:Nat)),Z sg,Z q,Z x]) ?_ ?_
 ·walk_at"w";refine draw_W B (by lia) (by lia) (by lia) λd wq A t l2 ao=>?_;have l:=t.at H f;have p:=t.at G (by have:=B.len;lia);walk_at"w";refine draw_W (A.app1 (o:=.lst [.non,.int 0,.int 1,.int 0,.int 2,.int 1,.int 3,.int 0]) O) (by lia) (by lia) (by lia) λX V3 w e au T=>?_;walk_at"w";refine wR (xs:=[.non,.int 0,.int 1,.int 0,.int 2,.int 1,.int 3,.int 0]) w (e.at (by rw[dF];rfl) (by have:=A.len;lia)) (by show X<8;lia) λx h=>?_;refine⟨_,⟨d,q,x,O,by lia,am,?_⟩,w,e.at (gf l) f,e.at (gf p) (by have:=s.len;lia),O⟩;simp only[aE,bC,or_false]at h;rcases h with rfl|rfl|rfl|rfl|rfl|rfl|rfl|rfl<;>simp[pb]
 rintro r wq ⟨x,h,A,l,p,rfl⟩;walk_at"w";refine draw_W A (by lia) (by lia) (by lia) λd V3 w e au ao=>?_;have z:=e.at l f;have g:=e.at p (by have:=A.len;lia);walk_at"w";split
 ·refine kl ?_;walk_at"w";refine⟨b,xs,O,g,?_⟩;refine(kn g).mpr ⟨df (by lia),?_⟩;have L:=(gE1.mp g).1;refine q1 _ _ _ x h (w.set F ?_) (by rw[gS1 (by lia)];exact z) (by rw[aH L]);rw[Ob.und];refine gC.mpr λy v=>?_;rcases aF.mp v with v|v
  ·exact ed (gC.mp K y v)
  ·rw[cp.mp v];have h1:=ed (n:=V3.length) N;have h2:=ed (n:=V3.length) h.und;simp[D.und,D.unds,h1,h2]
 ·exact q0 _ _ _ w z g
inductive MI (c:Nat)(U:cV)(e:E4)(mo kr b:Nat)(ks:List Ky)(x2:D)(r:Ev)(V:cV):Prop where
 |mk (L:List Rw) (y6 y7 y8 y9:Option D) (h1:HS c U V) (h2:V[kr]?=some (.lst (L.map (d6 e)))) (h3:(L.map (·.1)).Sublist ks) (h4:∀p∈L,fb p.2) (h5:L.length<=b)
  (h6:r=[some (.ref 0),some (.bl true),some x2,some (no e),some (.int (mo:Nat)),some (.ref kr),y6,y7,y8,y9]):MI c U e mo kr b ks x2 r V
theorem yE{e:E4}{L:List Rw}{n:Nat}(hn:n<=4000)(f:(L.map (·.1)).Sublist (kF e n))(c:∀p∈L,fb p.2):∀p∈L,fY p:=λp a=>by
 have:=f.subset (bX.mpr ⟨p,a,O⟩);obtain⟨m,b,d⟩:=cD.mp this;exact⟨(t5 (m:=m) (by have:=aB.mp b;lia) _ d).1,c p a⟩
theorem u8(e:E4)(n:Nat):kF e (n+1)=kF e n++KS e n:=by
 unfold kF;rw[List.range_succ,List.flatMap_append];simp
theorem lj{e:E4}{p:Rw}(h:fb p.2):(d6 e p).und 0=M:=by
 simp[d6,D.und,D.unds,Ky.und p.1 e 0,h.und]
theorem B9{c i f g:Nat}{U V:cV}{e:E4}{q:D}{r:Ev}(he:e∈jK)(hc:c<=2^44)(hi:i<f)(R:f<=3)(z:U.length<=g)(h:MI c U e f g (25*i) (kF e i) q r V)(hr:r[6]? = some (some (.int (i:Nat)))):
  W (fg r V) λp=>p.1 = .nx/\MI (c+100) U e f g (25*(i+1)) (kF e (i+1)) q p.2.1 p.2.2:=by
 obtain⟨L,ao,y7,S,y9,h1,h2,X,P,h5,rfl⟩:=h;rw[show([Z (.ref 0),Z (.bl M),Z q,Z (no e),Z (.int (f:Nat)),Z (.ref g),ao,y7,S,y9]:Ev)[6]?=Z ao from rfl]at hr;cases hr;have b:=h1.pos;have n:=De e he;have T:(KS e i).length<=25:=by rw[AQ,lM1];exact n
 unfold fg;walk_at"w";refine vY he λj G aq F=>?_;have hlt:=(gE1.mp h2).1;refine dI F ?_;dsimp only;rw[DJ 0 i];rw[DJ 0 i]at F;refine eD (λt r s=>s[V.length+j]?=Z (.lst ((KS e i).map λk=>k.sg e))/\t<=25/\MI (c+4*t) U e f g (25*i+t) (kF e i++(KS e i).take t) q r s/\r[6]?=Z (Z (.int (i:Nat)))) _ 0 _ _ ⟨F,by lia,⟨L,_,_,_,_,h1.app λo wq=>fS (bd _) (aq o wq),gf h2,by simpa using X,P,by lia,O⟩,O⟩ ?_ ?_ ?_
 ·rintro t r s ⟨a,_⟩;exact eV a
 ·rintro t d I r s ⟨a,ht,⟨w,C,N,H,K,y,A,u,l,g5,rfl⟩,hr⟩;rw[show([Z (.ref 0),Z (.bl M),Z q,Z (no e),Z (.int (f:Nat)),Z (.ref g),C,N,H,K]:Ev)[6]?=Z C from rfl]at hr;cases hr;rw[gP1]at I;obtain⟨k,B,rfl⟩:=oM1.mp I;have am:=(gE1.mp B).1;have E:k.m=i:=(t5 (e:=e) (m:=i) (by lia) k (gM1 B)).2;have v:(KS e i).take (t+1)=(KS e i).take t++[k]:=by rw[bY,B];rfl
  rw[bE]at *
  walk_at"w";refine DM y (by lia) A (Mi.dk λp b=>lj (l p b)) (by rw[lM1];lia) z a (by lia) (by lia) (by lia) R (k.sgu e 0) (λV2 a8 au b1 b2 b3=>?_) λV2 a8 au x hx b1 b2 b3=>?_
  ·refine⟨O,b2,by lia,⟨w,_,_,_,_,b1.more (by lia),b3,?_,l,by lia,O⟩,O⟩;rw[v,<- bv];exact u.trans (List.sublist_append_left _ _)
  ·have Q:D.tup [.tup [.int (i:Nat),k.sg e],x]=d6 e (k,x):=by rw[<- E];rfl
   rw[Q]at b3;refine⟨O,b2,by lia,⟨w++[(k,x)],_,_,_,_,b1.more (by lia),by rw[bW];exact b3,?_,λp b=>?_,by rw[lA1];simp;lia,O⟩,O⟩
   ·rw[v,<- bv,bW];exact u.append (List.Sublist.refl _)
   ·rcases aF.mp b with b|b
    ·exact l p b
    ·rw[cp.mp b];exact hx
 ·rintro r s ⟨a,ht,⟨w,C,N,H,K,y,A,u,l,g5,rfl⟩,hr⟩;rw[lM1,bE]at *
  rw[bN,<- u8]at u;exact⟨O,w,_,_,_,_,y.more (by lia),A,u,l,by lia,O⟩
theorem uz{c:Nat}{B U:cV}{Q:D×cV->Prop}(s:HS c B U)(hc:c<=2^40)(q:∀e L m,Inc e L->(∀p∈L,fY p)->L.length<=75->HS (c+400) B m->HS (c+400) U m->m.length=U.length->Q (mcD e L,m)):W (cY 2 er [.ref 0,.bl M] U) Q:=by
 refine nB (c':=c+400) O O s ?_;have I:=s.pos;have hbl:=s.len;unfold er;refine kK ?_;unfold ij;refine dD (λr V=>V=U++[.lst [D.tup [],.tup [.str "came"],.tup [.str "doors"],.tup [.str "chalk"],.tup [.str "others"],.tup [.str "came",.str "doors"],.tup [.str "chalk",.str "others"]]]/\r=[Z (.ref 0),Z (.bl M),Z (.ref U.length),Y,Y,Y,Y,Y,Y,Y]) ?_ ?_
 ·walk_at"w"
 rintro r V ⟨rfl,rfl⟩;generalize au:[D.tup [],.tup [.str "came"],.tup [.str "doors"],.tup [.str "chalk"],.tup [.str "others"],.tup [.str "came",.str "doors"],.tup [.str "chalk",.str "others"]]=ms;have F:D.unds 0 ms=M/\ms.length=7/\ms++[D.tup [.str "doors",.str "others"]]=jK.map no:=by rw[<- au];exact⟨O,O,O⟩
 obtain⟨u1,u2,u3⟩:=F;clear au;refine dD (λr V=>∃e g,e∈jK/\0<g/\g<=3/\HS (c+2) U V/\r=[Z (.ref 0),Z (.bl M),Z (.ref U.length),Z (no e),Z (.int (g:Nat)),Y,Y,Y,Y,Y]) ?_ ?_
 ·have aq:D.unds 0 (jK.map no)=M:=Mi.dk λe _=>gh e;walk_at"w";have am:(U++[Ob.lst ms]++[Ob.lst [D.tup [.str "doors",.str "others"]]])[U.length]?=Z (.lst ms):=gf (by rw[dF];rfl);have K:(U++[Ob.lst ms]++[Ob.lst [D.tup [.str "doors",.str "others"]]])[(U++[Ob.lst ms]).length]?=Z (.lst [D.tup [.str "doors",.str "others"]]):=by rw[cq]
  have N:=(s.here.app1 (o:=.lst ms) (by rw[Ob.und];exact u1)).app1 (o:=.lst [D.tup [.str "doors",.str "others"]]) O;simp only[bv,lA1,lC1,aZ]at am K N ⊢;refine(x4 am K).mpr ⟨df (by rw[u2];decide),?_⟩;rw[u3];have s2:=N.app1 (o:=.lst (jK.map no)) (by rw[Ob.und];exact aq);refine BU s2 (by lia) (xs:=jK.map no) (by rw[cq]) (by simp) (by decide) (by decide) (λx H=>by obtain⟨e,_,rfl⟩:=bX.mp H;exact gh e) λx V2 H s3 s3' l3=>?_;obtain⟨e,v,rfl⟩:=bX.mp H;walk_at"w";refine draw_W s3 (by lia) (by lia) (by lia) λd V3 wq s4' l4 u=>?_;walk_at"w";exact⟨e,d+1,v,by lia,by lia,wq,by simp[Int.add_comm]⟩
 rintro r V ⟨e,g,v,m0,T,P,rfl⟩;have C:=P.len;refine dD (λr V=>∃t,U.length<=t/\MI (c+2) U e g t (25*0) (kF e 0) (.ref U.length) r V) ?_ ?_
 ·walk_at"w";exact⟨V.length,C,[],_,_,_,_,P.app1 O,by rw[cq];rfl,List.Sublist.refl _,λp I=>(by cases I),by simp,O⟩
 rintro r V ⟨t,y,j⟩;refine dD (λr V=>MI (c+2+100*g) U e g t (25*g) (kF e g) (.ref U.length) r V) ?_ ?_
 ·have R:r[4]? = some (some (.int (g:Nat))):=by
   obtain⟨_,_,_,_,_,_,_,_,_,_,rfl⟩:=j;rfl
  unfold fz;rw[c4,tZ];refine W.of (x:=([.int (g:Nat)],V)) (by simp only[cT,cU,mV,R,oS1]) ?_;unfold Bf;dsimp only;rw[Int.toNat_natCast];refine⟨fN (by lia),?_⟩;refine eD (λi r V=>i<=g/\MI (c+2+100*i) U e g t (25*i) (kF e i) (.ref U.length) r V) _ 0 _ _ ⟨bd _,j⟩ (λ_ _ _ _=>rfl) ?_ ?_
  ·rintro i d u r V ⟨hi,j⟩;have k:=(gE1.mp u).1;rw [d5] at k;have z:d = .int (i:Nat):=by
    rw[mW,gP1,b4 k]at u;exact(Option.some.inj u).symm
   subst z;rw[bE]at *
   obtain⟨L,y6,y7,X,y9,h1,h2,w,A,ao,rfl⟩:=j;walk_at"w";refine(B9 v (by lia) k T y ⟨L,_,_,_,_,h1,h2,w,A,ao,O⟩ O).mono ?_;rintro⟨f,r2,V2⟩ ⟨hf,G⟩;exact⟨hf,by lia,G⟩
  ·rintro r V ⟨hi,j⟩;rw[d5,bE]at j;exact⟨O,j⟩
 rintro r V ⟨L,y6,y7,X,y9,h1,h2,w,A,ao,rfl⟩;have ok:=yE (by lia) w A;have E:Inc e L:=by
  have:=(xX v (n:=g) (by lia)).sublist w;exact List.Pairwise.of_map (S:=λa b:Ky=>a.code e<b.code e) (·.1) (λa b h=>h) this
 walk_at"w";refine dI h2 ?_;exact⟨h1.more (by lia),jh ok,λm a b l=>q e L m E ok (by lia) a b l⟩
noncomputable def oR(e:E4)(L:List Rw):List (TK×D):=L.map λp=>(p.1.tk e,p.2)
theorem wb{e:E4}{L:List Rw}(ok:∀p∈L,fY p){k:Ky}(hk:k.Ok):dq (oR e L) (k.tk e)=(L.find? λp=>decide (p.1.code e=k.code e)).map (·.2):=by
 unfold oR
 induction L with
 |nil=>rfl
 |cons p L ih=>
  have ih:=ih λq b=>ok q (mC1 _ b);rw[mP1,eE,aX];have a:=sI (e:=e) (ok p mS1).1 hk;by_cases z:p.1.code e=k.code e
  ·rw[ak (a.mpr z),ah z];rfl
  ·rw[aj (λy=>z (a.mp y)),ai z];exact ih
theorem Bc{e:E4}{L:List Rw}(c:Inc e L)(ok:∀p∈L,fY p):((oR e L).map (·.1)).Nodup:=by
 unfold oR;rw[bn];refine ci.mpr (List.Pairwise.imp_of_mem ?_ c);intro a b f g d z;have:=(sI (e:=e) (ok a f).1 (ok b g).1).mp z;lia
theorem tO:∀(ps acc:List (TK×D)),((acc++ps).map (·.1)).Nodup->ps.foldl (λF p=>fc F p.1 p.2) acc=acc++ps
 |[],acc,_=>by simp
 |p::ps,acc,nd=>by
  have e:fc acc p.1 p.2=acc++[p]:=by
   unfold fc;rw[aj];intro y;obtain⟨q,a,e⟩:=bI.mp y;rw[bW,bq]at nd;exact nd.2.2 _ (bX.mpr ⟨q,a,O⟩) _ (bX.mpr ⟨p,mS1,O⟩) (of_decide_eq_true e)
  rw[bP,e,tO ps (acc++[p]) (by rw[bv];exact nd),bv];rfl
theorem ls{e:E4}:∀L:List Rw,hW (L.map (d6 e))=Z (oR e L)
 |[]=>rfl
 |p::L=>by
  rw[mP1,hW,ls L];have:=p.1.keyT e;simp only[d6,sX,this,oP1,oS1];rfl
theorem CL(F:List (TK×D)):GE F=dO F:=by cases F<;>rfl
theorem EH{F:List (TK×D)}{n:Nat}(h:∀p∈F,p.2.und 0=M):(dO F).sh n=dO F:=by
 have e:(F.map λp=>(p.1,p.2.sh n))=F:=(cb (g:=id) λp b=>by rw[rr (h p b)];rfl).trans (cf _);cases F with
 |nil=>rfl
 |cons a F=>show Ob.dcT _=Ob.dcT _;rw[e]
theorem Ae{F:List (TK×D)}{n:Nat}(h:∀p∈F,p.2.und 0=M):(dO F).und n=M:=by
 cases F with
 |nil=>rfl
 |cons a F=>show Ob.und n (.dcT _)=M;rw[Ob.und];exact Mi.dk λp b=>ed (h p b)
theorem DN{e:E4}{L:List Rw}(a:Inc e L)(ok:∀p∈L,fY p)(b:L.length<=4000):RL e (oR e L) L:=⟨a,ok,b,λk c=>wb ok c⟩
theorem D0{e:E4}{L:List Rw}{S:cV}{Q:D×cV->Prop}(b:Inc e L)(ok:∀p∈L,fY p)(r:L.length<=4000)(q:Q (owD e (S.length+1),S++[.lst (L.map (d6 e)),dO (oR e L)])):W (cY 1 fi [mcD e L] S) Q:=by
 have d:D.unds 0 (L.map (d6 e))=M:=Mi.dk λp a=>lj (ok p a).2;have k:∀p∈oR e L,p.2.und 0=M:=λp a=>by
  obtain⟨x,m,rfl⟩:=bX.mp a;exact(ok x m).2.und
 have c:W (fi [mcD e L] []) λp=>p=(owD e 1,[.lst (L.map (d6 e)),dO (oR e L)]):=by
  unfold fi;refine kK ?_;unfold l6;have f:∀S,cZ (mcD e L) (.int 0) S=Z (no e,S):=λS=>rfl;have g:∀S,cZ (mcD e L) (.int 1) S=Z (.tup (L.map (d6 e)),S):=λS=>rfl;have l:pV (.tup (L.map (d6 e))) []=Z (.ref 0,[.lst (L.map (d6 e))]):=by simp[pV,da]
  have i:lK (.ref 0) [.lst (L.map (d6 e))]=Z (.ref 1,[.lst (L.map (d6 e)),dO (oR e L)]):=by
   unfold lK;rw[ga (S:=[.lst (L.map (d6 e))]) (n:=0) O];dsimp only;rw[ls,oS1,lM1,ak (by lia)];have:j9 (oR e L)=oR e L:=by
    unfold j9;rw[tO _ _ (by rw[cg];exact Bc b ok),cg]
   rw[this,CL];rfl
  ((try walk_at"w");repeat(simp only[f,g,l,i];try walk_at"w"))
  rfl
 obtain⟨p,j,rfl⟩:=c;refine⟨_,ii j O (by rw[D.unds,jh ok];rfl) (by simp[owD,D.und,D.unds]),?_⟩;have h:(owD e 1).sh S.length=owD e (S.length+1):=by simp[owD,D.sh,D.shs,rr (gh e)]
 have o:[Ob.lst (L.map (d6 e)),dO (oR e L)].map (Ob.sh S.length)=[Ob.lst (L.map (d6 e)),dO (oR e L)]:=by
  rw[mP1,mP1,aW,Ob.sh,f0 d,EH k]
 rw[h,o];exact q
theorem F7(xs:List D)(k:Nat):Mi.qm xs Y (Z (k:Int))=xs.take k:=by
 unfold Mi.qm;rw[HT.wa,HT.yD,List.drop_zero,Nat.sub_zero];by_cases h:k<=xs.length
 ·rw[Nat.min_eq_left h]
 ·rw[Nat.min_eq_right (by lia),bN,bU (by lia)]
theorem EO{m hm:FE}{r:Ev}{S:cV}{Q:D×cV->Prop}(h:W (m r S) λp=>∃n,p.1 = .ref n/\W (hm r p.2) λb=>∃(k:Nat) (xs:List D),b.1 = .int (k:Nat)/\b.2[n]?=Z (.lst xs)/\Q (.ref b.2.length,b.2++[.lst (xs.take k)])):W (zE m pz (mU hm) r S) Q:=by
 obtain⟨⟨d,c⟩,i,n,e,⟨⟨l,j⟩,g,k,xs,a,f,q⟩⟩:=h;dsimp only at e g a f q;subst e a;rw[<- F7]at q;refine W.of ?_ q;unfold zE;rw[i,oS1];dsimp only;rw[show pz r c=Z (Y,c)from rfl,oS1];dsimp only;rw[show mU hm r c=Z (Z (k:Int),j) by unfold mU;rw[g];rfl,oS1];simp only[vX,ga f,oP1,if_true]
theorem ES{m:FA}{k:Nat}{r:Ev}{S S1:cV}{Q:D×cV->Prop}(hm:m r S=Z ([.int (k:Nat)],S1))(hk:k<=1000)(q:Q (.ref S1.length,S1++[.lst (dw (af k))])):W (uA m r S) Q:=by
 have e:fK 0 k=dw (af k):=by rw[mW];rfl
 rw[<- e]at q;refine W.of ?_ q;unfold uA;rw[hm,oS1];dsimp only;rw[ak (by
  unfold mM;simp only[bA1,al];lia),Int.toNat_natCast]
theorem AI{m:Nat}:∀{ys:List D},(∀y∈ys,y∈dw (af m)) -> ∃rs:List Nat,ys=dw rs /\ ∀r∈rs,r<m
 |[],_=>⟨[],O,λr b=>by cases b⟩
 |y::ys,h=>by
  obtain⟨rs,e,b⟩:=AI λz c=>h z (mC1 _ c);obtain⟨r,h1,rfl⟩:=bX.mp (h y mS1);refine⟨r::rs,by rw[e];rfl,λx a=>?_⟩;rcases aE.mp a with rfl|a
  ·exact aB.mp h1
  ·exact b x a
theorem zk(rs:List Nat)(k:Nat):(dw rs).take k=dw (rs.take k):=by unfold dw;rw[List.map_take]
noncomputable def mE(xs:List Nat):List Nat:=(fZ (xs.map λ(r:Nat)=>(r:Int))).map Int.toNat
theorem ro(xs:List Nat):(mE xs).Perm xs:=by
 have:=(en (xs.map λ(r:Nat)=>(r:Int))).map Int.toNat
 rw[bn]at this;have e:(Int.toNat∘λ(r:Nat)=>(r:Int))=id:=by funext x;simp
 rw[e,cf]at this;exact this
theorem vQ(xs:List Nat):(fZ (xs.map λ(r:Nat)=>(r:Int))).map D.int=dw (mE xs):=by
 unfold dw mE;rw[bn];refine cb λi hi=>?_;obtain⟨x,_,rfl⟩:=bX.mp ((en _).mem_iff.mp hi);rfl
theorem xf(xs:List Nat):jk (dw xs)=Z (xs.map λ(r:Nat)=>(r:Int)):=by
 induction xs with
 |nil=>rfl
 |cons x xs ih=>
  show(jk (dw xs)).map _=_;rw[ih];rfl
theorem C2{S:cV}{n:Nat}{xs:List Nat}{Q:D×cV->Prop}(h:S[n]?=Z (.lst (dw xs)))(a:xs.length<64)(q:Q (.ref S.length,S++[.lst (dw (mE xs))])):W (jn (.ref n) S) Q:=by
 refine W.of ?_ q;unfold jn;simp only[h];rw[xf,oS1,ak (by rw[lM1];exact a),vQ]
theorem vR{c m lo:Nat}{B U:cV}{Q:D×cV->Prop}(s:HS c B U)(hc:c<=2^44)(hm:m<=8)(F:lo<=m)(q:∀e f,(∀r∈e,r<m)->e.length<=m->lo<=e.length->HS (c+9) B f->HS (c+9) U f->f.length=U.length->Q (.tup (dw e),f)):W (cY 3 fv [.ref 0,.int m,.int lo] U) Q:=by
 refine nB (c':=c+9) O O s ?_;have I:=s.pos;have C:=s.len;unfold fv;refine kK ?_;unfold kg;refine dD (λr V=>∃e,(∀r∈e,r<m)/\e.length<=m/\lo<=e.length/\HS (c+9) U V/\V[V.length-1]?=Z (.lst (dw e))/\r=[Z (.ref 0),Z (.int (m:Nat)),Z (.int (lo:Nat)),Z (.ref (V.length-1))]) ?_ ?_
 ·unfold db;rw [c4];refine EO ?_;unfold mN cT;rw [c4,c4];refine W.of (x:=(.ref 0,U)) rfl ?_;rw [c4,c4];refine ES (k:=m) (S1:=U) rfl (by lia) ?_;walk_at"w";have A:=s.here.app1 (o:=.lst (dw (List.range m))) (by rw [Ob.und];exact gm _);refine v4 A (by lia) (xs:=dw (List.range m)) (by rw [cq]) (by rw [gR,cC];lia) (gm _) fun k ys V u v w j g=>?_;obtain ⟨rs,rfl,h⟩:=AI (m:=m) fun y j=>g.mem_iff.mp j;have H:rs.length=m:=by
   have:=g.length_eq;rw[gR,gR,cC]at this;exact this
  rw[gR,cC]at u;walk_at"w";refine⟨k,O,?_⟩;refine draw_W u (by lia) (by lia) (by lia) λd N E i ao K=>?_;have p:=i.at j (by rw[lA1]at w;lia);walk_at"w";refine⟨lo+d,dw rs,by push_cast;rfl,p,?_⟩;rw[zk];refine⟨rs.take (lo+d),λr n=>h r (List.mem_of_mem_take n),by rw[aP];lia,by rw[aP];lia,(E.more (by lia)).app1 (by rw[Ob.und];exact gm _),?_,?_⟩
  ·rw[Nat.add_sub_cancel,cq]
  ·rw[Nat.add_sub_cancel]
 rintro r V ⟨e,h1,h2,L,G,z,rfl⟩;have t:=ro e;walk_at"w";refine C2 z (by lia) ?_;refine dI (xs:=dw (mE e)) (by rw[cq]) ?_;have am:=t.length_eq;exact⟨G.app1 (by rw[Ob.und];exact gm _),by rw[D.und];exact gm _,λf a b l=>q (mE e) f (λr n=>h1 r (t.mem_iff.mp n)) (by lia) (by lia) a b l⟩
theorem xP{c n:Nat}{B U:cV}{Q:D×cV->Prop}(s:HS c B U)(hc:c<=2^44)(h0:0<n)(u:n<=8)(q:∀g e,(∀k∈g,k<n)->g.length<=n->HS (c+1) B e->HS (c+1) U e->e.length=U.length->Q (.tup (dw g),e)):W (cY 2 eK [.ref 0,.int n] U) Q:=by
 refine nB (c':=c+1) O O s ?_;unfold eK;refine kK ?_;unfold iN;have h:∀S,xu (.int 1) (.int (n:Nat)) S=Z (.int ((2^n:Nat):Int),S):=λS=>by
  simp only[xu];rw[ak ⟨by lia,by lia,by decide⟩,Int.toNat_natCast,Int.one_mul]
  push_cast;rfl
 have h2:2^1<=2^n:=Nat.pow_le_pow_right (by decide) h0;have H:2^n<=2^8:=Nat.pow_le_pow_right (by decide) u;refine dD (λr V=>∃b:Nat,HS (c+1) U V/\r=[Z (.ref 0),Z (.int (n:Nat)),Z (.int (b:Nat))]) ?_ ?_
 ·((try walk_at"w");repeat(simp only[h];try walk_at"w"))
  generalize 2^n=t at *
  refine draw_W s.here (by lia) (by lia) (by lia) λd F A p C E=>?_;walk_at"w";exact⟨d+1,A,by simp[Int.add_comm]⟩
 rintro r V ⟨b,z,rfl⟩;walk_at"w";rw[mW,Int.toNat_natCast];refine⟨fN (by lia),?_⟩;refine fM (f:=λx:Nat=>D.int x) (λk:Nat=>Builtin.bitAnd ((b:Int)/2^k) 1 == 1) (λx:Nat=>D.int x) (λr=>∃x,r=[x,Z (.int (b:Nat))]) O (af n) _ ⟨_,O⟩ ?_ λG _=>?_
 ·rintro k o r ⟨y,rfl⟩;have j:∀ S,xt (.int (b:Nat)) (.int (k:Nat)) S=some (.int ((b:Int)/2^k),S):=fun S=>by
   simp only[xt];rw[ak (by lia),Int.toNat_natCast]
  have w:∀(i:Int) S,tN (.int i) (.int 1) S=Z (.int (Builtin.bitAnd i 1),S):=λi S=>rfl
  ((try walk_at"w");repeat(simp only[j,w];try walk_at"w"))
  exact⟨⟨_,O⟩,λ_=>trivial⟩
 ·have m:=cu (λk:Nat=>Builtin.bitAnd ((b:Int)/2^k) 1 == 1) (af n);rw[cC]at m;have v:∀k∈(af n).filter λk:Nat=>Builtin.bitAnd ((b:Int)/2^k) 1 == 1,k<n:=λk o=>aB.mp (aA.mp o).1;generalize (af n).filter (λk:Nat=>Builtin.bitAnd ((b:Int)/2^k) 1 == 1)=g at *
  walk_at"w";refine⟨df (by rw[lM1];lia),?_⟩;refine dI (xs:=dw g) (by rw[cq];rfl) ?_;exact⟨z.app1 (by rw[Ob.und];exact gm _),by rw[D.und];exact gm _,λe a b l=>q g e v m a b l⟩
def u9(w:c3)(u:Wk):Prop:=∃row,w[u.1]?=Z row/\u.2.1<=row.length/\u.2.2<4000
theorem Aq{n k:Nat}{xs:List D}{x:D}{S:cV}{Q:D×cV->Prop}(h:S[n]?=Z (.lst xs))(b:xs.length=k+1)(hx:xs[k]?=Z x)(q:Q (x,S)):W (cZ (.ref n) (.int (-1)) S) Q:=by
 refine W.of (x:=(x,S)) ?_ q;simp only[cZ,jN,xy,h,da,qM,rS,oS1];rw[aj (show¬ (0:Int) <= -1 by decide)];have e:((-1:Int)+(xs.length:Int)).toNat=k:=by lia
 have a:((xs.length:Int)+(-1:Int)).toNat=k:=by lia
 rw[ak (by lia)]
 first
  |rw[e,oS1,hx];rfl
  |rw[a,oS1,hx];rfl
  |simp[e,a,hx]
theorem vC{c m kw:Nat}{w:c3}{ws:List Wk}{U V:cV}{y X:Option D}{Q:Fl×Ev×cV->Prop}(hw:l7 m w)(m0:0<m)(m8:m<=8)(s:HS c U V)(hc:c<=2^44)(hk:V[kw]? = some (.lst (dj ws)))(am:U.length<=kw)(E:∀ u∈ws,u9 w u)(hl:ws.length<=100)(q:∀u l wq,u9 w u->HS (c+4) U l->l[kw]?=some (.lst (dj (ws++[u])))->Q (.nx,[some (.ref 0),some (dz w),some (.ref kw),y,wq],l)):
  W (fR [Z (.ref 0),Z (dz w),Z (.ref kw),y,X] V) Q:=by
 have hp:=s.pos;have hml:=hw.len;have j:0<kw:=by lia
 unfold fR;refine dD (λr l=>∃a:Nat,a<m/\HS (c+1) U l/\l[kw]?=Z (.lst (dj ws))/\r=[Z (.ref 0),Z (dz w),Z (.ref kw),y,Z (.int (a:Nat))]) ?_ ?_
 ·((try walk_at"w");repeat(simp only[om];try walk_at"w"))
  refine draw_W s (by lia) (by lia) (by lia) λd S A G l1 P=>?_;exact⟨d,by lia,A,G.at hk j,O⟩
 rintro r S ⟨a,H,A,F,rfl⟩;refine dD (λr l=>∃a:Nat,a<m/\HS (c+2) U l/\l[kw]?=Z (.lst (dj ws))/\r=[Z (.ref 0),Z (dz w),Z (.ref kw),y,Z (.int (a:Nat))]) ?_ ?_
 ·have i:∀o,(S++[o])[kw]?=Z (.lst (dj ws)):=λo=>gf F;walk_at"w";rw[oz (i _) (by rw[cq])];walk_at"w";cases ws with
  |nil=>
   rw[aj (by decide)];exact⟨a,H,(A.more (by lia)).app1 O,i _,O⟩
  |cons u0 K=>
   rw[ak (by rfl)];refine draw_W (A.app1 (o:=.lst []) O) (by lia) (by lia) (by lia) λd V2 z C l2 P=>?_;have f:=C.at (i _) j;walk_at"w";split
   ·obtain⟨u,au⟩:∃u,(u0::K)[K.length]?=some u:=⟨_,gG1 (by simp)⟩;have I:=gM1 au;obtain⟨row,B,_⟩:=E u I;have v:=(gE1.mp B).1
    ((try walk_at"w");repeat(simp only[CF];try walk_at"w"))
    refine Aq (k:=K.length) f (by rw[ip];rfl) (x:=ej u) (by rw[dj,gP1,au];rfl) ?_
    ((try walk_at"w");repeat(simp only[ot];try walk_at"w"))
    exact⟨u.1,by lia,z,f,O⟩
   ·exact⟨a,H,z,f,O⟩
 rintro r V2 ⟨a,H,z,f,rfl⟩;obtain⟨row,g⟩:∃row,w[a]?=some row:=⟨_,gG1 (by lia)⟩;have hr4:=hw.le row (gM1 g);have B:∀t,cZ (dz w) (.int (a:Nat)) t=Z (.tup (row.map pD),t):=λt=>by
  obtain⟨p,e,h⟩:W (cZ (dz w) (.int (a:Nat)) t) λp=>p=(.tup (row.map pD),t):=qv g O;rw[e,h]
 unfold eF;rw[c4];refine kl ?_;walk_at"w";refine⟨kw,_,O,f,?_⟩
 ((try walk_at"w");repeat(simp only[B,fj,lM1];try walk_at"w"))
 refine draw_W z (by lia) (by lia) (by lia) λd V3 R N l3 P=>?_;have ao:=N.at f j;walk_at"w";refine BU (R.app1 (o:=.lst [.int 0,.int 0,.int 1,.int 2,.int 3]) O) (by lia) (xs:=[.int 0,.int 0,.int 1,.int 2,.int 3]) (by rw[cq]) (by have:=R.len;lia) (by decide) (by decide) (by decide) λx V4 T s4 L l4=>?_;have n:=L.at (gf ao) j;obtain⟨b,hb,rfl⟩:∃b:Nat,b<=3/\x = .int (b:Nat):=by
  simp only[aE,bC,or_false]at T;rcases T with rfl|rfl|rfl|rfl|rfl
  ·exact⟨0,by lia,O⟩
  ·exact⟨0,by lia,O⟩
  ·exact⟨1,by lia,O⟩
  ·exact⟨2,by lia,O⟩
  ·exact⟨3,by lia,O⟩
 walk_at"w";refine(kn n).mpr ⟨df (by rw[ip];lia),?_⟩;have aq:dj ws++[D.tup [.int (a:Nat),.int (d:Nat),.int (b:Nat)]]=dj (ws++[(a,d,b)]):=by unfold dj;rw[bW];rfl
 rw[aq];have v:=(gE1.mp n).1;exact q (a,d,b) _ _ ⟨row,g,by show d<=row.length;lia,by show b<4000;lia⟩ (s4.set am (by rw[Ob.und];exact eh (kG _))) (by rw[aH v])
theorem yp{c m:Nat}{w:c3}{B U:cV}{Q:D×cV->Prop}(hw:l7 m w)(K:0<m)(p:m<=8)(s:HS c B U)(hc:c<=2^40)(q:∀ws cs h,0<ws.length->ws.length<=4->gv m w ws cs->HS (c+50) B h->HS (c+50) U h->h.length=U.length->Q (cX ws cs,h)):W (cY 2 eX [.ref 0,dz w] U) Q:=by
 refine nB (c':=c+50) O O s ?_;have X:=s.pos;have N:=s.len;have C:=hw.len;unfold eX;refine kK ?_;unfold jx;refine dD (λr V=>V=U++[.lst (dj [])]/\r=[Z (.ref 0),Z (dz w),Z (.ref U.length),Y,Y]) ?_ ?_
 ·walk_at"w";exact⟨O,trivial⟩
 rintro r V ⟨rfl,rfl⟩;have H:=s.here.app1 (o:=.lst (dj [])) (by rw[Ob.und];exact kG _);refine dD (λr V=>∃ws g f,0<ws.length/\ws.length<=4/\(∀u∈ws,u9 w u)/\HS (c+30) U V/\V[U.length]?=Z (.lst (dj ws))/\r=[Z (.ref 0),Z (dz w),Z (.ref U.length),g,f]) ?_ ?_
 ·walk_at"w";refine draw_W H (by lia) (by lia) (by lia) λd V1 P z aq wq=>?_;have y:=z.at (i:=U.length) (o:=.lst (dj [])) (by rw[cq]) (by lia);walk_at"w";rw[show(1:Int)+(d:Int)=((d+1:Nat):Int) by push_cast;lia,Int.toNat_natCast];refine⟨fN (by lia),?_⟩;refine eD (λi r V=>∃ws g f,ws.length=i/\i<=d+1/\(∀u∈ws,u9 w u)/\HS (c+1+4*i) U V/\V[U.length]?=Z (.lst (dj ws))/\r=[Z (.ref 0),Z (dz w),Z (.ref U.length),g,f]) _ 0 _ _ ⟨[],_,_,O,by lia,λu t=>(by cases t),P,y,O⟩ (λ_ _ _ _=>rfl) ?_ ?_
  ·rintro i x S r V ⟨ws,g,f,G,hi,e,j,n,rfl⟩;have F:=(gE1.mp S).1;rw[d5]at F;rw[bE]at *
   walk_at"w";refine vC hw K p j (by lia) n (nR1 _) e (by lia) λu V' z4 t s' A=>?_;refine⟨O,ws++[u],_,_,by simp[G],by lia,λv k=>?_,s'.more (by lia),A,O⟩;rcases aF.mp k with k|k
   ·exact e v k
   ·rw[cp.mp k];exact t
  ·rintro r V ⟨ws,g,f,G,hi,e,j,n,rfl⟩;rw[d5,bE]at *
   exact⟨O,ws,_,_,by lia,by lia,e,j.more (by lia),n,O⟩
 rintro r V ⟨ws,g,f,R,I,e,j,n,rfl⟩;walk_at"w";refine dI n ?_
 ((try walk_at"w");repeat(simp only[om];try walk_at"w"))
 rw[C];have T:=λQ q=>vR (lo:=0) (Q:=Q) (j.app1 (o:=.lst []) O) (by lia:c+30<=2^44) p (bd _) q;refine vR (lo:=0) j (by lia) p (bd _) λcs V2 E ao _ au am l2=>?_;walk_at"w";have L:D.tup [.tup (dj ws),.tup (dw cs)]=cX ws cs:=rfl;rw[L];exact⟨au.more (by lia),eP,λh a b l=>q ws cs h R I ⟨hw,p,by lia,by lia,e,E⟩ a b l⟩
theorem vP{m:Nat}{w:c3}{ws:List Wk}{cs:List Nat}(h:gv m w ws cs){u:Wk}(d:u∈ws){x:D}(hx:fb x):u9 w (eH w u x):=by
 have c:=hx.eta.2;obtain⟨a,b,h1,h2⟩:=h.wk u d;unfold eH u9;rw[b];have base:∃a,w[(u.1,u.2.1,dm x).1]?=Z a/\(u.1,u.2.1,dm x).2.1<=a.length/\(u.1,u.2.1,dm x).2.2<4000:=⟨a,b,h1,c⟩;cases dt x with
 |none=>exact base
 |some t=>
  dsimp only[oS1];cases ep:a[t]? with
  |none=>exact base
  |some p=>
   obtain⟨r,e,f⟩:=h.web.to a (gM1 b) p (gM1 ep);exact⟨r,e,f,c⟩
theorem mF{m:Nat}{w:c3}{ws:List Wk}{cs ch:List Nat}{e:E4}{L:List Rw}(h:gv m w ws cs)(ok:∀p∈L,fY p):∀p∈dB w ws cs e L ch,fb p.2/\p.1∈ws:=λp c=>by
 obtain⟨x,b,rfl⟩:=bX.mp c;have a:=kT b;refine⟨?_,a⟩;unfold hV;dsimp only;split
 ·exact jO ok (h.ky _ a)
 ·exact jQ (h.ky _ a)
noncomputable def GB(w:c3)(ps:List Pr):List Wk:=ps.map λp=>eH w p.1 p.2
theorem Ew{m:Nat}{w:c3}{ws:List Wk}{cs:List Nat}{ps:List Pr}(h:gv m w ws cs)(hp:∀p∈ps,fb p.2/\p.1∈ws)(e:ps.length<=8):gv m w (GB w ps) (gu m ps cs):=by
 have b:=h.m8;refine⟨h.web,h.m8,by unfold GB;rw[lM1];exact e,?_,λv d=>?_,λr c=>aB.mp (aA.mp c).1⟩
 ·unfold gu;have:=cu (λr=>oh ps "mark" r||(cs.contains r && !oh ps "wipe" r)) (af m);rw[cC]at this;exact aC this b
 ·obtain⟨p,a,rfl⟩:=bX.mp d;exact vP h (hp p a).2 (hp p a).1
theorem Dn{m:Nat}{w:c3}{ws:List Wk}{cs:List Nat}(h:gv m w ws cs):qB (cX ws cs)=M/\lU (cX ws cs)<=60/\xK (cX ws cs)<=9:=by
 have n:=h.few;have j:=h.m8;have i:=h.cl;have b:∀x:Nat,x<4000->qB (.int (x:Nat))=M:=λx p=>by unfold qB;rw[al];lia
 have e:∀u∈ws,qB (ej u)=M:=λu d=>by
  obtain⟨c,g,h1,h2⟩:=h.wk u d;have q:=h.web.le c (gM1 g);have o:=h.lt u d;unfold ej;rw[qB];simp only[ma,bD,bA1];exact⟨b _ (by lia),b _ (by lia),b _ h2⟩
 have a1:=kZ (f:=ej) (l:=ws) e;have a2:=jR (f:=ej) (k:=3) (l:=ws) λv a=>nR1 _;have a3:=lS (f:=ej) (k:=3) (l:=ws) λv a=>(by decide:1<=3);have b1:=kZ (f:=λr:Nat=>D.int r) (l:=cs) λv a=>b v (by have:=h.ch v a;lia);have b2:=jR (f:=λr:Nat=>D.int r) (k:=0) (l:=cs) λv a=>nR1 _;have b3:=lS (f:=λr:Nat=>D.int r) (k:=0) (l:=cs) λv a=>nR1 _;unfold cX;refine⟨?_,?_,?_⟩
 ·simp only[ma,qB,dj,dw,a1,b1,ca]
 ·simp only[jv,lU,dj,dw];lia
 ·simp only[mi,xK,dj,dw];lia
theorem yq{m:Nat}{w:c3}{ws:List Wk}{cs:List Nat}(h:gv m w ws cs):∃t,∀S,iL (cX ws cs) S=Z (.str t,S):=by
 obtain⟨h1,h2,a⟩:=Dn h;unfold cX at *
 rw[qB]at h1;rw[lU]at h2;rw[xK]at a;exact yI h1 (by lia) (by lia)
theorem tH{m:Nat}{w:c3}{ws:List Wk}{cs:List Nat}{ps:List Pr}(h:gv m w ws cs)(hp:∀p∈ps,fb p.2/\p.1∈ws)(a:ps.length<=8):∃t,∀S,iL (pT m w ps cs) S=Z (.str t,S):=yq (Ew h hp a)
theorem pd{w:c3}{ws:List Wk}{cs:List Nat}{e:E4}{L:List Rw}:dB w ws cs e L (af ws.length)=mw w ws cs e L:=by
 unfold dB mw;rw[<- gL (λu=>(u,ddW w ws cs e L u)) ws];refine cb λq b=>?_;have a:=(gE1.mp (gz b)).1;unfold hV;rw[ak (b7.mpr (aB.mpr a))]
theorem vU{w:c3}{ws:List Wk}{cs ch:List Nat}{e:E4}{L:List Rw}:(dB w ws cs e L ch).length=ws.length:=by unfold dB;rw[lM1,cy]
theorem pf(t:Str):(t == t)=M:=by simp
noncomputable def rT(N:D)(k:Int)(w:c3)(e:E4)(L:List Rw)(y6 y7 y8 y9 y10 y11:Option D):Ev:=[Z N,Z (.int k),Z (.ref 0),Z (dz w),Z (mcD e L),Z (owD e 2),y6,y7,y8,y9,y10,y11]
theorem BR{N:D}{k:Int}{m:Nat}{w:c3}{ws:List Wk}{cs ch:List Nat}{e:E4}{L:List Rw}{V:cV}{y6 y10 y11:Option D}{Q:Fl×Ev×cV->Prop}(h:gv m w ws cs)(a:Inc e L)(ok:∀ p∈L,fY p)(c:L.length<=75)(q:Q (.nx,rT N k w e L y6 (some (cX ws cs)) (some (.tup (dw ch))) (some (pT m w (dB w ws cs e L ch) cs)) y10 y11,V)):
  W (nY (rT N k w e L y6 (Z (cX ws cs)) (Z (.tup (dw ch))) (Z (pT m w (dB w ws cs e L ch) cs)) y10 y11) V) Q:=by
 obtain⟨t,b⟩:=tH (ps:=dB w ws cs e L ch) h (mF h ok) (by rw[vU];exact h.few);unfold nY rT;walk_at"w";refine vV h a ok (by lia) ?_
 ((try walk_at"w");repeat(simp only[b,pf];try walk_at"w"))
 exact q
theorem A3{N:D}{k:Int}{c m:Nat}{w:c3}{e:E4}{L:List Rw}{U V:cV}{y6 y7 y8 y9 y10 y11:Option D}{Q:Fl×Ev×cV->Prop}(hw:l7 m w)(am:0<m)(au:m<=8)(n:Inc e L)(ok:∀ p∈L,fY p)(I:L.length<=75)(s:HS c U V)(hc:c<=2^40)(hd:U[2]? = Z (dO (oR e L)))(q:∀h R F P a x,HS (c+51) U h->Q (.nx,rT N k w e L y6 R F P a x,h)):W (nX (rT N k w e L y6 y7 y8 y9 y10 y11) V) Q:=by
 unfold nX;refine dD (λr h=>∃ws b,0<ws.length/\ws.length<=4/\gv m w ws b/\HS (c+50) U h/\r=rT N k w e L y6 (Z (cX ws b)) y8 y9 y10 y11) ?_ ?_
 ·unfold rT;walk_at"w";refine yp hw am au s hc λws b ao z A f y _ _=>?_;exact⟨ws,b,z,A,f,y,O⟩
 rintro r ao ⟨ws,b,z,A,f,y,rfl⟩;have C:∀S,cZ (cX ws b) (.int 0) S=Z (.tup (dj ws),S):=λS=>rfl;refine dD (λr h=>∃g,(∀k∈g,k<ws.length)/\g.length<=8/\HS (c+51) U h/\r=rT N k w e L y6 (Z (cX ws b)) (Z (.tup (dw g))) y9 y10 y11) ?_ ?_
 ·unfold rT
  ((try walk_at"w");repeat(simp only[C,fj,ip];try walk_at"w"))
  refine xP y (by lia) z (by lia) λg j o u v _ _=>?_;exact⟨g,o,by lia,v,O⟩
 rintro r j ⟨g,o,u,v,rfl⟩;refine dD (λr h=>h=j/\r=rT N k w e L y6 (Z (cX ws b)) (Z (.tup (dw g))) (Z (pT m w (dB w ws b e L g) b)) y10 y11) ?_ ?_
 ·unfold rT;walk_at"w";refine zK f (DN n ok (by lia)) (v.at hd (by lia)) v.shut o u ?_;walk_at"w"
 rintro r h ⟨rfl,rfl⟩;refine dD (λr j=>j=h /\ ∃a,r=rT N k w e L y6 (Z (cX ws b)) (Z (.tup (dw g))) (Z (pT m w (dB w ws b e L g) b)) a y11) ?_ ?_
 ·have K:=λa Q q=>BR (N:=N) (k:=k) (y6:=y6) (y10:=a) (y11:=y11) (ch:=g) (V:=h) (Q:=Q) f n ok I q;unfold rT at *
  walk_at"w";refine⟨si (by decide) (by decide),?_⟩;refine eD (λi r j=>j=h /\ ∃a,r=[Z N,Z (.int k),Z (.ref 0),Z (dz w),Z (mcD e L),Z (owD e 2),y6,Z (cX ws b),Z (.tup (dw g)),Z (pT m w (dB w ws b e L g) b),a,y11]) _ 0 _ _ ⟨O,_,O⟩ (λ_ _ _ _=>rfl) ?_ ?_
  ·rintro i d hd r j ⟨rfl,a,rfl⟩;walk_at"w";refine K _ _ ?_;exact⟨O,O,_,O⟩
  ·rintro r j ⟨rfl,a,rfl⟩;exact⟨O,O,_,O⟩
 rintro r l ⟨rfl,a,rfl⟩;refine dD (λr j=>j=l/\r=rT N k w e L y6 (Z (cX ws b)) (Z (.tup (dw g))) (Z (pT m w (dB w ws b e L g) b)) a (Z (.tup (dw (af ws.length))))) ?_ ?_
 ·have H:zD (cT (mN (b1 d9) (cT (m2 (b2 cZ) (mV 7) (mC (D.int 0))) cU)) cU) (rT N k w e L y6 (some (cX ws b)) (some (.tup (dw g))) (some (pT m w (dB w ws b e L g) b)) a y11) l=some (.tup (dw (List.range ws.length)),l):=by
   have G:cT (mN (b1 d9) (cT (m2 (b2 cZ) (mV 7) (mC (D.int 0))) cU)) cU (rT N k w e L y6 (Z (cX ws b)) (Z (.tup (dw g))) (Z (pT m w (dB w ws b e L g) b)) a y11) l=Z ([.int (ws.length:Nat)],l):=by
    simp only[rT,cT,cU,mN,mV,mC,b1,m2,b2,gC1,cj,oS1,C,fj,ip]
   unfold zD;rw[G,oS1];dsimp only;rw[ak (by
    unfold mM;simp only[bA1,al];lia),Int.toNat_natCast,mW]
   rfl
  unfold db;rw[c4];refine W.of H ?_;unfold rT;walk_at"w"
 rintro r j ⟨rfl,rfl⟩;obtain⟨t,E⟩:=tH (ps:=mw w ws b e L) f (by rw[<- pd];exact mF f ok) (by unfold mw;rw[lM1];exact f.few);have B:=λQ q=>vV (ch:=af ws.length) (S:=j) (Q:=Q) f n ok (by lia) q;rw[pd]at B;unfold rT at *
 walk_at"w";refine B _ ?_
 ((try walk_at"w");repeat(simp only[E];try walk_at"w"))
 refine CY f n ok (by lia) ?_
 ((try walk_at"w");repeat(simp only[E,pf];try walk_at"w"))
 exact q _ _ _ _ _ _ v
theorem CO(ns:List Int)(k:Int)(h0:0<=k)(hk:k<64):W (nW [Z (.rol (ns.map D.int)),Z (.int k),Y,Y,Y,Y,Y,Y,Y,Y,Y,Y] []) λp=>p.1 = .nx /\ ∃I,p.2.1=Z (.rol (ns.map D.int))::I/\I.length=11:=by
 unfold nW;obtain⟨o,au,K⟩:=CU ns k h0 hk;generalize hN:D.rol (ns.map D.int)=N at *
 refine dD (λr S=>S=[o]/\r=[Z N,Z (.int k),Z (.ref 0),Y,Y,Y,Y,Y,Y,Y,Y,Y]) ?_ ?_
 ·((try walk_at"w");repeat(simp only[au];try walk_at"w"))
 rintro r S ⟨rfl,rfl⟩;have P:HS 0 [o] [o]:=.self O K (by unfold jA;rw[bG,K.und];rfl);refine dD (λr S=>∃(m:Nat) (w:c3) (e:E4) (L:List Rw),0<m/\m<=8/\l7 m w/\Inc e L/\(∀p∈L,fY p)/\L.length<=75/\HS 600 [o] S/\S.length=1/\r=[Z N,Z (.int k),Z (.ref 0),Z (dz w),Z (mcD e L),Y,Y,Y,Y,Y,Y,Y]) ?_ ?_
 ·walk_at"w";refine Do P (by lia) (by lia) (by lia) λm w V1 y B C s1 _ ao=>?_;walk_at"w";refine uz s1 (by lia) λe L V2 f ok v E _ A=>?_;walk_at"w";exact⟨m,w,e,L,y,B,C,f,ok,v,E,by rw[A,ao];rfl,O⟩
 rintro r S ⟨m,w,e,L,y,B,C,f,ok,v,E,A,rfl⟩;refine dD (λr V=>V=S++[.lst (L.map (d6 e)),dO (oR e L)]/\r=rT N k w e L Y Y Y Y Y Y) ?_ ?_
 ·walk_at"w";refine D0 f ok (by lia) ?_;rw[A];walk_at"w";rfl
 rintro r V ⟨am,rfl⟩;have sV:HS 600 V V:=by
  have:=E.here.app (G:=[.lst (L.map (d6 e)),dO (oR e L)]) λx F=>by
   rcases aE.mp F with z|z
   ·rw[z,Ob.und];exact Mi.dk λp u=>ed (lj (ok p u).2)
   ·rw [cp.mp z];exact Ae fun p u=>by
     obtain⟨x,F,rfl⟩:=bX.mp u;exact(ok x F).2.und
  rw[<- am]at this;exact this.here
 have R:V[2]?=Z (dO (oR e L)):=by rw[am,show 2=S.length+1 by lia,fL];rfl
 have wq:=λc h j l g t a b Q (s:HS c V h) hc q=>A3 (N:=N) (k:=k) (y6:=j) (y7:=l) (y8:=g) (y9:=t) (y10:=a) (y11:=b) (Q:=Q) C y B f ok v s hc R q;unfold rT at *
 walk_at"w";refine⟨si (by decide) (by decide),?_⟩;refine eD (λi r h=>i<=4/\HS (600+51*i) V h /\ ∃j l g t a b,r=[Z N,Z (.int k),Z (.ref 0),Z (dz w),Z (mcD e L),Z (owD e 2),j,l,g,t,a,b]) _ 0 _ _ ⟨by lia,sV,_,_,_,_,_,_,O⟩ (λ_ _ _ _=>rfl) ?_ ?_
 ·rintro i d H r h ⟨hi,s',j,l,g,t,a,b,rfl⟩;have n:=(gE1.mp H).1;rw[d5]at n;rw[bE]at *
  have T:((4:Int)).toNat=4:=rfl;rw[T]at n;walk_at"w";refine wq _ _ _ _ _ _ _ _ _ s' (by lia) λV2 z7 z8 z9 aq U X=>?_;exact⟨O,by lia,X.more (by lia),_,_,_,_,_,_,O⟩
 ·rintro r h ⟨hi,s',j,l,g,t,a,b,rfl⟩;exact⟨O,_,O,O⟩
theorem truth(ns:List Int)(ao:ns.length<=63):∃S,m_law [.rol (ns.map D.int)] []=Z (.bl M,S):=by
 have m:W (m_law [.rol (ns.map D.int)] []) λp=>p.1 = .bl M:=by
  unfold m_law;refine kK ?_;unfold xU;have B:(D.rol (ns.map D.int)).und 0=M:=by simp[D.und,jF]
  have I:=λk L G=>CO ns k L G;generalize E:D.rol (ns.map D.int)=N at *
  have c:d9 N []=Z (.int ns.length,[]):=by rw[<- E];simp[d9,da]
  refine dD (λr S=>S=[]/\r=[Z N,Y,Y,Y,Y,Y,Y,Y,Y,Y,Y,Y]) ?_ ?_
  ·simp only [fB,mP1,aW,lC1,aZ,Nat.reduceAdd,Nat.reduceSub,DL,bf,cg,fz,c4,tZ,cT,mN,mC,mV,cU,b1,b2,zX,zW,c,dv,oS1,cj,Bf];have K:∃ t:Nat,t<=16/\(if (if (ns.length:Int)<16 then (ns.length:Int) else 16)>1 then (if (ns.length:Int)<16 then (ns.length:Int) else 16) else 1)=(t:Int):=by
    by_cases h1:(ns.length:Int)<16
    ·rw[ak h1];by_cases h2:(ns.length:Int)>1
     ·rw[ak h2];exact⟨ns.length,by lia,O⟩
     ·rw[aj h2];exact⟨1,by lia,O⟩
    ·rw[aj h1];exact⟨16,by lia,by decide⟩
   obtain⟨t,au,te⟩:=K;rw[te,Int.toNat_natCast];refine⟨fN (by lia),?_⟩;refine eD (λ_ r S=>S=[]/\r=[Z N,Y,Y,Y,Y,Y,Y,Y,Y,Y,Y,Y]) _ 0 _ _ ⟨O,O⟩ (λ_ _ _ _=>rfl) ?_ ?_
   ·rintro i d C r S ⟨rfl,rfl⟩;obtain ⟨k,e,H,P⟩:=pH (gM1 C);subst e;simp only [gN,cm,ck,dv];obtain ⟨⟨f,r2,Q⟩,F,A,z,g,y⟩:=I k H (by lia);dsimp only at A g;subst A;subst g;obtain ⟨u,n,w,o,l,s,v,j,q,b,a,am⟩:∃ u n w o l s v j q b a,z=[u,n,w,o,l,s,v,j,q,b,a]:=by
     match z,y with
     |[u,n,w,o,l,s,v,j,q,b,a],_=>exact⟨_,_,_,_,_,_,_,_,_,_,_,O⟩
    subst am;refine W.of (x:=(.nx,[Z N,Y,Y,Y,Y,Y,Y,Y,Y,Y,Y,Y],[])) ?_ ⟨O,O,O⟩;unfold sY m5;simp[eI,i4,D.und,B,F]
   ·rintro r S ⟨rfl,rfl⟩;exact⟨O,O,O⟩
  ·rintro r S ⟨rfl,rfl⟩;simp only[dY,mC,oS1,dv]
 obtain⟨⟨d,S⟩,e,h⟩:=m;dsimp only at h;exact⟨S,by rw[e,h]⟩
end Law
end
open PySem PySem.W PyProof.Rows
def PySem.W.Fast.tw17457788642453116048 := ()
def PySem.W.Fast.tw17133158825954582457 := ()
def PySem.W.Fast.tw9989549091279322546 := ()
def PySem.W.Fast.tw16124002557862713657 := ()
def PySem.W.Fast.tw10894786114879624106 := ()
def PySem.W.Fast.tw5215101809445833546 := ()
def PySem.W.Fast.tw10384309842792182374 := ()
def PySem.W.Fast.tw13072382284282393244 := ()
def PySem.W.Fast.tw16167921241442835324 := ()
def PySem.W.Fast.tw15306531748828097293 := ()
def PySem.W.Fast.tw13394391027395629924 := ()
def PySem.W.Fast.tw12815408901532030916 := ()
def PySem.W.Fast.tw17263980029269980718 := ()
def PySem.W.Fast.tw5755219044608647546 := ()
def PySem.W.Fast.tw15359317203058428462 := ()
def PySem.W.Fast.tw7622231969875189456 := ()
def PySem.W.Fast.tw10110439808449013196 := ()
def PySem.W.Fast.tw4214171948664549115 := ()
def PySem.W.Fast.tw5510920723176587621 := ()
def PySem.W.Fast.tw9576421355557916052 := ()
def PySem.W.Fast.tw14166672841203611429 := ()
def PySem.W.Fast.tw13254499689285734537 := ()
def PySem.W.Fast.tw14029451637112718471 := ()
def PySem.W.Fast.tw12586253897856645278 := ()
def PySem.W.Fast.tw13237808090434977854 := ()
def PySem.W.Fast.tw11925737178939926501 := ()
def PySem.W.Fast.tw17948709095351022835 := ()
def PySem.W.Fast.tw18405254494493572802 := ()
def PySem.W.Fast.tw2132229065386061653 := ()
def PySem.W.Fast.tw13390445343688698002 := ()
def PySem.W.Fast.tw1967175366413861906 := ()
def PySem.W.Fast.tw1185325491096621238 := ()
def PySem.W.Fast.tw432415364949205574 := ()
def PySem.W.Fast.tw13947039648236099601 := ()
def PySem.W.Fast.tw15426228471259447744 := ()
def PySem.W.Fast.tw5130161096269990009 := ()
def PySem.W.Fast.tw13981056931693764318 := ()
def PySem.W.Fast.tw7704517414657762958 := ()
def PySem.W.Fast.tw3527594443542755928 := ()
def PySem.W.Fast.tw16795756520939337530 := ()
def PySem.W.Fast.tw6125475835190515072 := ()
def PySem.W.Fast.tw13465767452378198802 := ()
def PySem.W.Fast.tw18163946121982253177 := ()
def PySem.W.Fast.tw16572605606403506695 := ()
def PySem.W.Fast.tw2646445546951202483 := ()
def PySem.W.Fast.tw1377857539291870081 := ()
def PySem.W.Fast.tw4620123471077694576 := ()
def PySem.W.Fast.tw10761019043123375163 := ()
def PySem.W.Fast.tw9129430985618305729 := ()
def PySem.W.Fast.tw16476698170014009679 := ()
def PySem.W.Fast.tw8258539557367524074 := ()
def PySem.W.Fast.tw2983949429807317287 := ()
def PySem.W.Fast.tw934072711612674293 := ()
def PySem.W.Fast.tw9442850177530103305 := ()
def PySem.W.Fast.tw3904885589751481588 := ()
def PySem.W.Fast.tw16073237740267989162 := ()
def PySem.W.Fast.tw15472795933443689073 := ()
def PySem.W.Fast.tw18053580666643060297 := ()
def PySem.W.Fast.tw15651435158761367143 := ()
def PySem.W.Fast.tw9361889790888601420 := ()
def PySem.W.Fast.tw9357529560944434689 := ()
def PySem.W.Fast.tw8310074269002029321 := ()
def PySem.W.Fast.tw7130735040723178484 := ()
def PySem.W.Fast.tw16533816945802356892 := ()
def PySem.W.Fast.tw7580961364825769348 := ()
def PySem.W.Fast.tw4313462518482008409 := ()
def PySem.W.Fast.tw5321411807213796009 := ()
def PySem.W.Fast.tw5171393724415658334 := ()
def PySem.W.Fast.tw14781890245617386525 := ()
def PySem.W.Fast.tw2387636202588830092 := ()
def PySem.W.Fast.tw8533790518485978112 := ()
def PySem.W.Fast.tw1752561696332185521 := ()
def PySem.W.Fast.tw6250063418650699123 := ()
def PySem.W.Fast.tw17739774537574323047 := ()
def PySem.W.Fast.tw1939122983269548685 := ()
def PySem.W.Fast.tw10305287146811213092 := ()
def PySem.W.Fast.tw14087190141999830184 := ()
def PySem.W.Fast.tw10608314030739726788 := ()
def PySem.W.Fast.tw11383622060089004112 := ()
def PySem.W.Fast.tw15272753102865861695 := ()
def PySem.W.Fast.tw5630448264809104409 := ()
def PySem.W.Fast.tw13507695008831474861 := ()
def PySem.W.Fast.tw2620035675898153872 := ()
def PySem.W.Fast.tw12865103650679817529 := ()
def PySem.W.Fast.tw15077733064039488983 := ()
def PySem.W.Fast.tw11692539386356084263 := ()
def PySem.W.Fast.tw6739673297780131578 := ()
def PySem.W.Fast.tw14591207197460226686 := ()
def PySem.W.Fast.tw2800765900424600945 := ()
def PySem.W.Fast.tw6742319471865133863 := ()
def PySem.W.Fast.tw8989597529970210350 := ()
def PySem.W.Fast.tw13663417417336969907 := ()
def PySem.W.Fast.tw17632369330961121680 := ()
def PySem.W.Fast.tw10185989696807517791 := ()
def PySem.W.Fast.tw18126738563834093600 := ()
def PySem.W.Fast.tw1787716217652639186 := ()
def PySem.W.Fast.tw17272610827950368713 := ()
def PySem.W.Fast.tw15629384494424479875 := ()
def PySem.W.Fast.tw14887755428138124539 := ()
def PySem.W.Fast.tw7282534216498658786 := ()
def PySem.W.Fast.tw17466333583544581909 := ()
def PySem.W.Fast.tw4691241218516973683 := ()
def PySem.W.Fast.tw12932836976631121310 := ()
def PySem.W.Fast.tw6593067143300198567 := ()
def PySem.W.Fast.tw4870095780228171866 := ()
def PySem.W.Fast.tw17287789472400562425 := ()
def PySem.W.Fast.tw8117011135076672063 := ()
def PySem.W.Fast.tw2309126839820285144 := ()
def PySem.W.Fast.tw9940480173124010234 := ()
def PySem.W.Fast.tw17653253480347105299 := ()
set_option maxRecDepth 100000 in
set_option maxHeartbeats 0 in
theorem PySem.Challenge.cw_ringmeet_k66_slow_beats_holds : PySem.Challenge.rw_ringmeet_k66_slow_beats.Holds := by
 w_on;refine PySem.W.holds_law (by decide+kernel) fun d=>?_;k_head;(case hw=>w_witness2)
 k_fill
 refine Mi.walk_m (l:=PySem.Challenge.rw_ringmeet_k66_slow_beats) (m:=Law.m_law) (k:=5) (x:="_law_script") rfl rfl ⟨rfl,by decide,by decide,rfl⟩ (fun w h Y=>PySem.W.kIn_of Y) Law.truth ?F
 case F=>
  intro w mg f h e G b;refine' Law.all_mk e G b ?a1 ?a2 ?a3 ?a4 ?a5 ?a6 ?a7 ?a8 ?a9 ?a10 ?a11 ?a12 ?a13 ?a14 ?a15 ?a16 ?a17 ?a18 ?a19 ?a20 ?a21 ?a22 ?a23 ?a24 ?a25 ?a26 ?a27 ?e_PARTS ?h1 ?h2 ?h5 ?h8 ?h11 ?z
  all_goals try (refine' Mi.EA ?a ?l ?c ?k;(case a=>k_is);(case l=>k_is);(case c=>k_is);(case k=>k_is))
  (case e_PARTS=>k_is)
  (case h1=>k_is)
  (case h2=>k_is)
  (case h5=>k_is)
  (case h8=>k_is)
  (case h11=>k_is)
  (case z=>exact ⟨by k_is,by k_is,by k_is,by k_is,by k_is,by k_is,by k_is,by k_is,by k_is,by k_is,by k_is,by k_is,by k_is,by k_is,trivial⟩)

