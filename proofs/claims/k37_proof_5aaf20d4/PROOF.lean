import PyProof.Rows.All
import Wide.All
import OpenK.AllK
import Wide.FinOn
import Lean
import PyProof.EqAt
import PyProof.EqKinds
import PyProof.TupleCall
import PySem.Challenge.RW_ringmeet_k37_papers_of_anything
set_option Elab.async false
set_option compiler.extract_closed false
set_option linter.all false
set_option maxRecDepth 100000
set_option maxHeartbeats 4000000
open List renaming getElem?_eq_some_iff → gE1, getElem?_append_left → gL1, getElem?_eq_getElem → gG1, mem_of_getElem? → gM1, getElem?_set_ne → gS1, length_append → lA1, length_map → lM1, getElem?_cons_succ → gC1, mem_cons_of_mem → mC1, mem_cons_self → mS1, getElem?_map → gP1, getElem?_append_right → gR1, size_toArray → sT1, map_cons → mP1, length_cons → lC1, length_replicate → lR1, mem_append_right → mA1
open Option renaming bind_eq_some_iff → oB1, map_eq_some_iff → oM1, bind_some → oS1, map_some → oP1
open Nat renaming le_refl → nR1, lt_of_lt_of_le → nL1, ne_of_lt → nN1, ne_of_gt → nG1
open Bool renaming and_eq_true → bA1, false_eq_true → bF1
open Array renaming getElem?_eq_getElem → aG1, getElem?_toList → aT1
open PySem.W renaming Frag → Fg1, nsIn → wN1, keepIn → wK1, codeIn → wC1, fnOf → wF1, mg_of → wM1
open PySem.Heap renaming get?_push_of_some → hP1, get?_push_size → hS1, lt_size → hL1, size_push → hZ1, get?_update_ne → hU1, get?_update_self → hW1
open PySem renaming wpAny_bind → wB1, wpAny_pure → wP1, wpAny_setField_rec → wS1, wpAny_newObj_type → wO1, codeAny_builtin → wD1, wpAny_call_entry → wE1
open List renaming take_nil → ak, drop_nil → am, mem_filter → aq, mem_range → ar, filterMap_cons → av, mem_cons → aw, mem_append → ay, mem_append_left → az, getElem?_set_self → aA, mem_filterMap → aE, append_nil → aF, nodup_cons → aG, of_mem_zip → aH, replicate → aI, length_take → aK, getElem?_replicate → aL, getElem?_take_of_lt → aM, filterMap_map → aN, length_drop → aO, length_set → aP, length_singleton → aR, map_nil → aS, find?_cons → aT, any_cons → aU, length_nil → aV, filter_cons → aW, cons_append → a0, range' → bb, prefix_rfl → bc, reverse_cons → bf, nodup_nil → bg, getElem?_of_mem → bh, map_map → bj, prefix_append → bm, nodup_append → bo, all_eq_true → bq, mem_replicate → bt, forIn_cons → bu, lookup_cons → bv, append_assoc → bw, getD_eq_getElem?_getD → bB, zipIdx_cons → bC, not_mem_nil → bD, all_cons → bH, any_eq_true → bJ, getElem_mem → bK, zip_cons_cons → bL, cons_prefix_cons → bN, take_length → bO, ext_getElem? → bQ, getElem?_eq_none → bR, findIdx?_eq_some_iff_getElem → bU, foldl_cons → bW, contains_cons → bX, take_of_length_le → bY, length_reverse → bZ, pairwise_cons → b0, mem_map → b5, take_append_drop → b7, eraseIdx_eq_take_drop_succ → b8, getElem?_range → b9, mem_singleton → cb, length_range → cg, mem_of_mem_take → ci, mem_of_mem_drop → cj, set_cons_succ → ck, map_append → cv, take_succ → cx, forall_mem_nil → cy, map_congr_left → cA, all_append → cC, mem_zipIdx_iff_getElem? → cE, getElem?_cons_zero → cF, set_cons_zero → cG, nil_append → cH, flatten_cons → cK, length_filter_le → cM, take_succ_cons → cN, filter_append → cO, set_append_right → cP, getElem?_concat_length → cQ, getElem?_zipIdx → cR, range_succ → cT, filter_cons_of_pos → cU, filter_cons_of_neg → cV
open Option renaming some → ao, isSome_iff_exists → aJ, isSome_map → aX, getD_some → bV, join_some → cJ
open Nat renaming lt_irrefl → ap, le_trans → au, le_succ → aQ, lt_trans → aY, zero_le → aZ, add_assoc → ba, le_add_right → bi, not_lt_zero → bn, min_eq_left → bp, lt_succ_self → br, lt_of_le_of_lt → bx, le_of_succ_le → bA, succ_pos → bF, zero_add → bG, lt_or_ge → bM, lt_succ_of_lt → cc, sub_self → cq, lt_trichotomy → cu, succ_eq_add_one → cB, reduceAdd → cI, lt_succ_iff_lt_or_eq → cS
open Array renaming length_toList → aB, forIn_toList → bP, perm_iff_toList_perm → b4, size_map → b6, toArray_toList → ca, getD_eq_getD_getElem? → cm
open Bool renaming false_ne_true → aC, false_and → aD, and_true → bE, eq_iff_iff → bI, and_false → bS, not_true → bT, not_false → cf, not_eq_true → cr, eq_false_iff → cD, true_and → cW
open PySem renaming Value → cX, Shared → cY, Addr → cZ, Program → c0, Around → c5, World → c6, mainGlobals → c7, starEach → c8, sizeLine → c9, wpAny → da, Heap → db, FuncData → de, Stmt → df, Scope → dg
open Option renaming some → wq, none → aj
open Bool renaming true → ai, false → ah
theorem Mi.ag{α}{a:α}:a=a:=rfl
open Mi (ag)
noncomputable section
namespace L2
open PySem PySem.Spec PyProof.Rows
abbrev Key:=Sum Int Str
def pC:Key->cX->Bool
 | .inl k,v=>Value.isInt k v
 | .inr x,v=>Value.isStrOf x v
def K2(w:c6):Key->Int
 | .inl k=>hashInt k
 | .inr x=>hashStr w x
def eU:∀{k:Key} {v:cX},pC k v=ai->(∃i t,k=Sum.inl i/\v=Value.int i t)\/(∃x t,k=Sum.inr x/\v=Value.str x t)
 | .inl i,v,h=>by
  obtain⟨t,e⟩:=Value.isInt_shape (k:=i) (v:=v) h;exact .inl ⟨i,t,ag,e⟩
 | .inr x,v,h=>by
  obtain⟨t,e⟩:=Value.isStrOf_shape (x:=x) (v:=v) h;exact .inr ⟨x,t,ag,e⟩
def xT(i:Int)(t:Tok):pC (.inl i) (.int i t)=ai:=by simp[pC,Value.isInt]
def xS(x:Str)(t:Tok):pC (.inr x) (.str x t)=ai:=by simp[pC,Value.isStrOf]
def GY(a b:Int):decide ((Sum.inl a:Key)=Sum.inl b)=(a == b):=by
 by_cases e:a=b
 ·subst e;simp
 ·have h:¬ (Sum.inl a:Key)=Sum.inl b:=λq=>e (Sum.inl.inj q);rw[decide_eq_false h];exact(beq_eq_false_iff_ne.mpr e).symm
def GV(a b:Str):decide ((Sum.inr a:Key)=Sum.inr b)=decide (a=b):=by
 by_cases e:a=b
 ·subst e;simp
 ·have h:¬ (Sum.inr a:Key)=Sum.inr b:=λq=>e (Sum.inr.inj q);rw[decide_eq_false h,decide_eq_false e]
def GX(a:Int)(b:Str):decide ((Sum.inl a:Key)=Sum.inr b)=ah:=decide_eq_false (λq=>nomatch q)
def GW(a:Str)(b:Int):decide ((Sum.inr a:Key)=Sum.inl b)=ah:=decide_eq_false (λq=>nomatch q)
def e6(prog:c0)(w:c6):PySem.KeyKind prog w Key where
 is:=pC
 hash:=K2 w
 inj:=λv a b ha hb=>by
  rcases eU ha with⟨i,t,rfl,rfl⟩|⟨x,t,rfl,rfl⟩
  ·rcases eU hb with⟨j,u,rfl,e⟩|⟨y,u,rfl,e⟩
   ·injection e with e1 _;rw[e1]
   ·exact nomatch e
  ·rcases eU hb with⟨j,u,rfl,e⟩|⟨y,u,rfl,e⟩
   ·exact nomatch e
   ·injection e with e1 _;rw[e1]
 byValue:=λk v h=>by
  rcases eU h with⟨i,t,rfl,rfl⟩|⟨x,t,rfl,rfl⟩<;>rfl
 pyHash:=λhv h=>by
  rcases eU hv with⟨i,t,rfl,rfl⟩|⟨x,t,rfl,rfl⟩
  ·exact wpAny_pyHash_int h
  ·exact wpAny_pyHash_str h
 eqBool:=λhu hv h=>by
  rcases eU hu with⟨i,t,rfl,rfl⟩|⟨x,t,rfl,rfl⟩
  ·rcases eU hv with⟨j,u,rfl,rfl⟩|⟨y,u,rfl,rfl⟩
   ·rw[GY]at h;exact wpAny_eqBool_int h
   ·rw[GX]at h;exact SeqAt.EqAt.int_str i t y u _ _ _ _ h
  ·rcases eU hv with⟨j,u,rfl,rfl⟩|⟨y,u,rfl,rfl⟩
   ·rw[GW]at h;exact SeqAt.EqAt.str_int x t j u _ _ _ _ h
   ·rw[GV]at h;exact wpAny_eqBool_str h
 «strs» :=λk x t v h=>by
  rcases eU h with⟨i,u,rfl,e⟩|⟨y,u,rfl,e⟩
  ·exact nomatch e
  ·injection e with e1 _;subst e1;cases v<;>rfl
def tE(prog:c0)(w:c6)(i:Int)(t:Tok):(e6 prog w).is (.inl i) (.int i t)=ai:=xT i t
def tD(prog:c0)(w:c6)(x:Str)(t:Tok):(e6 prog w).is (.inr x) (.str x t)=ai:=xS x t
end L2
namespace L2
open PySem PySem.Spec PyProof.Rows
inductive V where
 |non|bl (b:Bool)|int (i:Int)|str (x:Str)|byt (b:Array UInt8)|flt (b:UInt64)|ref (a:cZ)|ty (n:String)
 deriving DecidableEq
def dF:V->cX->Prop
 | .non,u=>u=Value.none
 | .bl b,u=>u=Value.bool b
 | .int i,u=>∃t,u=Value.int i t
 | .str x,u=>∃t,u=Value.str x t
 | .byt b,u=>∃t,u=Value.bytes b t
 | .flt b,u=>∃t,u=Value.float b t
 | .ref a,u=>u=Value.ref a
 | .ty n,u=>u=Value.type n
abbrev dQ:List V->List cX->Prop:=Paired dF
def dQ.length{xs:List V}{a:List cX}(r:dQ xs a):xs.length=a.length:=Paired.length r
def dQ.get:∀{xs:List V} {a:List cX} {i:Nat} {x:V},dQ xs a->xs[i]?=wq x -> ∃u,a[i]?=wq u/\dF x u:=by
 intro xs a i x h e
 induction h generalizing i with
 |nil=>cases e
 |cons r t ih=>cases i with
  |zero=>cases e;exact⟨_,ag,r⟩
  |succ i=>exact ih (i:=i) e
def dQ.set{x:V}{u:cX}(r:dF x u):∀{xs:List V} {a:List cX} (i:Nat),dQ xs a->dQ (xs.set i x) (a.set i u):=by
 intro xs a i h
 induction h generalizing i with
 |nil=>exact .nil
 |cons q t ih=>cases i with
  |zero=>exact .cons r t
  |succ i=>exact .cons q (ih i)
def dQ.append:∀{xs ys:List V} {a ws:List cX},dQ xs a->dQ ys ws->dQ (xs++ys) (a++ws):=by
 intro xs ys a ws h s
 induction h with
 |nil=>exact s
 |cons r t ih=>exact .cons r ih
def dQ.take:∀{xs:List V} {a:List cX} (n:Nat),dQ xs a->dQ (xs.take n) (a.take n):=by
 intro xs a n h
 induction h generalizing n with
 |nil=>rw[ak,ak];exact .nil
 |cons r t ih=>cases n with
  |zero=>exact .nil
  |succ n=>exact .cons r (ih n)
def dQ.drop:∀{xs:List V} {a:List cX} (n:Nat),dQ xs a->dQ (xs.drop n) (a.drop n):=by
 intro xs a n h
 induction h generalizing n with
 |nil=>rw[am,am];exact .nil
 |cons r t ih=>cases n with
  |zero=>exact .cons r t
  |succ n=>exact ih n
def kF:Option V->Option cX->Prop
 |some v,wq u=>dF v u
 |none,aj=>True
 |_,_=>False
def KV{κ:Type}:List (κ×V)->List (κ×cX)->Prop:=Paired λ(p:κ×V) (q:κ×cX)=>p.1=q.1/\dF p.2 q.2
def kV:Key->V
 | .inl i=>.int i
 | .inr x=>.str x
inductive HO where
 /-- a list -/
 |lst (xs:List V)
 /-- a tuple (never changes) -/
 |tup (xs:List V)
 /-- a dict whose keys are ints and texts; one whose keys are tuples of ints and texts (the empty one is both) -/
 |dK (kvs:List (Key×V))|dT (kvs:List (List Key×V))
 /-- a set of ints: its members, its size -/
 |set (S:Int->Bool) (n:Nat)
 /-- an instance of the class at C, its dict at dx, its attributes -/
 |ins (C dx:cZ) (fs:List (Str×V))
 /-- the dict of the instance at x -/
 |own (x:cZ)
 /-- the dict of an exception -/
 |xd (fs:List (Str×V))
 /-- a bound method, f of x -/
 |met (f x:cZ)
 /-- a range object lo, lo + 1, .. below hi -/
 |rng (lo hi:Int)
 /-- a thing that is known to the object (the script; a dict while a loop walks it): read, never written while it is so -/
 |frz (o:Obj) (u:HO)
 /-- a code object's table -/
 |tbl (ps:Array cX)
 /-- any other thing, by what is true of its one object (a def of one's own: SetO a S n := HO.ext λh => ..) -/
 |ext (φ:db->Prop)
abbrev Hp:=cZ->Option HO
def upd(H:Hp)(a:cZ)(o:HO):Hp:=λb=>if b=a then wq o else H b
def dP{H:Hp}{a:cZ}{o:HO}:upd H a o a=wq o:=by unfold upd;rw[if_pos ag]
def dL{H:Hp}{a b:cZ}{o:HO}(h:b≠a):upd H a o b=H b:=by unfold upd;rw[if_neg h]
def IW{H:Hp}{a b:cZ}{o u:HO}(h:H a=wq o)(h':H b=wq u)(d:o≠u):a≠b:=by
 intro e;subst e;rw[h]at h';exact d (Option.some.inj h')
def dY{H:Hp}{a b:cZ}{o:HO}(h:H a=wq o)(h':H b=aj):a≠b:=by
 intro e;subst e;rw[h]at h';cases h'
section
variable(P:c0) (w:c6)
def eB(H:Hp)(h:db)(a:cZ):HO->Prop
 | .lst xs=>xs.length<=c9 /\ ∃(its:List cX) (n:Nat),dQ xs its/\h.get? a=wq {cls:=.type "list",data:=.seq its.toArray n}
 | .tup xs=>xs.length<=c9 /\ ∃its:List cX,dQ xs its/\IsTup h a its.toArray
 | .dK kvs=>kvs.length<=c9/\(a == sysModules)=ah /\ ∃vs,KV kvs vs/\h.DictOf (e6 P w) a vs
 | .dT kvs=>kvs.length<=c9/\(a == sysModules)=false /\ ∃ xs:List (List Key×cZ×cX),
   Paired (λ(p:List Key×V) (q:List Key×cZ×cX)=>p.1=q.1/\H q.2.1=wq (.tup (p.1.map kV))/\dF p.2 q.2.2) kvs xs /\
   ∃o es ep,h.get? a=wq o/\o.ExactDict/\o.data = .dict es ep/\es.toList=xs.map (entryOfKey (tupleKind (e6 P w)))/\(xs.map (·.1)).Nodup
 | .set S n=>h.SetOf (intKind P w) a S n
 | .ins C dx fs=>H dx=some (.own a)/\fs.length<=1000/\dx≠a/\h.get? a=some (PySem.W.instObj C dx) /\
   ∃mA,h.Ns1 dx mA/\(∀f,kF (fs.lookup f) (mA f))/\PySem.Within mA (fs.map (·.1))
 | .own _=>∃o,h.get? a=wq o
 | .xd fs=>∃mA,h.Ns1 a mA /\ ∀f,kF (fs.lookup f) (mA f)
 | .rng lo hi=>∃t u v,h.get? a=wq {cls:=.type "range",data:=.fields #[.int lo t,.int hi u,.int 1 v]}
 | .frz o u=>h.get? a=wq o/\eB H h a u
 | .tbl ps=>h.get? a=wq {cls:=.none,data:=.fields ps}
 | .met f x=>h.get? a=wq (PySem.W.methodObj (.ref f) (.ref x))
 | .ext φ=>φ h/\(∃o,h.get? a=wq o) /\ ∀h1 h2:db,φ h1->(∀o,h1.get? a=wq o->h2.get? a=wq o)->φ h2
def kG(H:Hp)(h:db):Prop:=∀a o,H a=wq o->eB P w H h a o
end
section
variable{P:c0}{w:c6}{H H':Hp}{h h':db}{a:cZ}{o:HO}
def eB.lt(x:eB P w H h a o):a<h.objs.size:=by
 cases o with
 |lst xs=>obtain⟨_,_,_,_,e⟩:=x;exact hL1 e
 |tup xs=>obtain⟨_,_,_,p⟩:=x;exact p.lt
 |dK kvs=>obtain⟨_,_,_,_,o,_,_,e,_⟩:=x;exact hL1 e
 |dT kvs=>obtain⟨_,_,_,_,o,_,_,e,_⟩:=x;exact hL1 e
 |set S n=>obtain⟨o,_,_,_,e,_⟩:=x;exact hL1 e
 |ins C dx fs=>obtain⟨_,_,_,e,_⟩:=x;exact hL1 e
 |own y=>obtain⟨_,e⟩:=x;exact hL1 e
 |xd fs=>obtain⟨_,⟨_,_,_,e,_⟩,_⟩:=x;exact hL1 e
 |rng lo hi=>obtain⟨_,_,_,e⟩:=x;exact hL1 e
 |frz b u=>obtain⟨e,_⟩:=x;exact hL1 e
 |tbl ps=>exact hL1 (show h.get? a=wq _ from x)
 |met f y=>exact hL1 (show h.get? a=wq _ from x)
 |ext φ=>obtain⟨_,⟨_,e⟩,_⟩:=x;exact hL1 e
def Paired.mapP{α β:Type}{F G:α->β->Prop}:∀{l₁:List α} {l₂:List β},Paired F l₁ l₂->(∀a b,F a b->G a b)->Paired G l₁ l₂:=by
 intro a b h f
 induction h with
 |nil=>exact .nil
 |cons r t ih=>exact .cons (f _ _ r) ih
def eB.stay(x:eB P w H h a o)(k:∀ b u,(b=a\/H b=wq (.own a))->h.get? b=wq u->h'.get? b=wq u)(ho:∀b,H b=wq (.own a)->H' b=wq (.own a))(ht:∀b xs,H b=wq (.tup xs)->H' b=wq (.tup xs)):eB P w H' h' a o:=by
 induction o with
 |lst xs=>obtain⟨z,i,n,r,e⟩:=x;exact⟨z,i,n,r,k _ _ (.inl ag) e⟩
 |tup xs=>obtain⟨z,i,r,g,e,c⟩:=x;exact⟨z,i,r,g,k _ _ (.inl ag) e,c⟩
 |dK kvs=>obtain⟨z,y,vs,r,g,es,ep,e,c⟩:=x;exact⟨z,y,vs,r,g,es,ep,k _ _ (.inl ag) e,c⟩
 |dT kvs=>
  obtain⟨z,y,xs,r,g,es,ep,e,c⟩:=x;exact⟨z,y,xs,Paired.mapP r λp q z=>⟨z.1,ht _ _ z.2.1,z.2.2⟩,g,es,ep,k _ _ (.inl ag) e,c⟩
 |set S n=>obtain⟨g,es,ep,t,e,c⟩:=x;exact⟨g,es,ep,t,k _ _ (.inl ag) e,c⟩
 |ins C dx fs=>
  obtain⟨d,z,ne,e,mA,⟨j,es,ep,l,c⟩,r⟩:=x;exact⟨ho _ d,z,ne,k _ _ (.inl ag) e,mA,⟨j,es,ep,k _ _ (.inr d) l,c⟩,r⟩
 |own y=>obtain⟨g,e⟩:=x;exact⟨g,k _ _ (.inl ag) e⟩
 |xd fs=>obtain⟨mA,⟨j,es,ep,e,c⟩,r⟩:=x;exact⟨mA,⟨j,es,ep,k _ _ (.inl ag) e,c⟩,r⟩
 |rng lo hi=>obtain⟨t,u,v,e⟩:=x;exact⟨t,u,v,k _ _ (.inl ag) e⟩
 |frz g u ih=>obtain⟨e,q⟩:=x;exact⟨k _ _ (.inl ag) e,ih q⟩
 |tbl ps=>
  have e:h.get? a=wq {cls:=.none,data:=.fields ps}:=x;show h'.get? a=wq {cls:=.none,data:=.fields ps};exact k a _ (.inl ag) e
 |met f y=>
  have e:h.get? a=wq (PySem.W.methodObj (.ref f) (.ref y)):=x;show h'.get? a=wq (PySem.W.methodObj (.ref f) (.ref y));exact k a _ (.inl ag) e
 |ext φ=>obtain⟨p,⟨o,e⟩,st⟩:=x;exact⟨st _ _ p λo q=>k _ _ (.inl ag) q,⟨o,k _ _ (.inl ag) e⟩,st⟩
def kG.lt(x:kG P w H h)(e:H a=wq o):a<h.objs.size:=(x a o e).lt
def kG.fresh(x:kG P w H h)(e:h.objs.size<=a):H a=aj:=by
 cases q:H a with
 |none=>rfl
 |some u=>exact absurd (nL1 (x.lt q) e) (ap _)
def kG.kept(x:kG P w H h)(k:∀b u,h.get? b=wq u->h'.get? b=wq u):kG P w H h':=λa o e=>
 (x a o e).stay (λb u _ q=>k b u q) (λ_ q=>q) λ_ _ q=>q
def kG.laid(x:kG P w H h)(k:∀b u,h.get? b=wq u->h'.get? b=wq u)(hp:h.objs.size<=a)(new:eB P w (upd H a o) h' a o):kG P w (upd H a o) h':=λb u e=>by
 have f:=x.fresh hp;by_cases d:b=a
 ·subst d;rw[dP]at e;cases e;exact new
 ·rw[dL d]at e;exact(x b u e).stay (λc v _ q=>k c v q) (λc q=>by rw[dL (dY q f)];exact q) λc xs q=>by rw[dL (dY q f)];exact q
end
def Rd(H:Hp)(a:cZ)(u:HO):Prop:=H a=wq u \/ ∃o,H a=wq (.frz o u)
def Rd.of{H:Hp}{a:cZ}{u:HO}(h:H a=wq u):Rd H a u:=.inl h
def Rd.ok{P:c0}{w:c6}{H:Hp}{h:db}{a:cZ}{u:HO}(r:Rd H a u)(x:kG P w H h):eB P w H h a u:=by
 rcases r with r|⟨o,r⟩
 ·exact x a u r
 ·obtain⟨_,q⟩:=x a _ r;exact q
def HJ:Option HO->Prop
 |some (.lst _)=>True
 |some (.dK _)=>True
 |some (.dT _)=>True
 |some (.set _ _)=>True
 |some (.ins _ _ _)=>True
 |some (.ext _)=>True
 |_=>False
section
variable{P:c0}{w:c6}{H:Hp}{h h':db}{x e:cZ}{o':HO}
def kG.write(ok:kG P w H h)(mu:HJ (H x))(he:e=x\/H e=wq (.own x))(k:∀ b u,b≠e->h.get? b=wq u->h'.get? b=wq u)(i:∃ u,h'.get? e=wq u)(new:eB P w (upd H x o') h' x o'):kG P w (upd H x o') h':=λb u q=>by
 have d:∀c y,H c=wq (.own y)->c≠x:=λc y r z=>by subst z;rw[r]at mu;exact mu
 have f:∀c xs,H c=wq (.tup xs)->c≠x:=λc xs r z=>by subst z;rw[r]at mu;exact mu
 by_cases g:b=x
 ·subst g;rw[dP]at q;cases q;exact new
 ·rw[dL g]at q;by_cases a:b=e
  ·have j:H b=some (.own x):=by
    rcases he with z|z
    ·exact absurd (a.trans z) g
    ·rw[a];exact z
   rw[q]at j;cases j;obtain⟨v,l⟩:=i;exact⟨v,by rw[a];exact l⟩
  ·refine(ok b u q).stay (λc v hc r=>k c v ?_ r) (λc r=>by rw[dL (d c b r)];exact r) λc xs r=>by rw[dL (f c xs r)];exact r
   rcases hc with rfl|hc
   ·exact a
   ·rintro rfl;rcases he with z|z
    ·exact d c b hc z
    ·rw[hc]at z;cases z;exact g ag
end
structure Un (fs ex:List cZ)(H H':Hp)(h h':db):Prop where
 keep:∀b o,h.get? b=some o->H b=none->b∉fs->b∉ex->h'.get? b=some o
 slot:∀b o,h.get? b=some o->H b=none->b∈fs->b∉ex -> ∃sl,h'.get? b=some {o with slots:=sl}
 free:∀b o,h.get? b=some o->H b=none->b∉ex->H' b=none
 there:∀b o,h.get? b=some o->b∉ex -> ∃o',h'.get? b=some o'
 tups:∀b xs,H b=some (.tup xs)->H' b=some (.tup xs)
 frzs:∀b o u,H b=some (.frz o u)->H' b=some (.frz o u)
 tbls:∀b ps,H b=some (.tbl ps) -> ∃more,H' b=some (.tbl (ps++more))
section
variable{fs fs' ex ex':List cZ}{H H1 H2:Hp}{h h1 h2 h':db}{a x e:cZ}{o:HO}
def Un.any(u:Un fs ex H H1 h h1){b:cZ}{a:Obj}(q:h.get? b=wq a)(n:H b=aj)(hx:b∉ex):∃d,h1.get? b=wq {a with slots:=d}:=by
 by_cases c:b∈fs
 ·exact u.slot b a q n c hx
 ·exact⟨a.slots,u.keep b a q n c hx⟩
def Un.trans(a:Un fs ex H H1 h h1)(b:Un fs ex H1 H2 h1 h2):Un fs ex H H2 h h2 where
 keep:=λc e q n hc d=>b.keep c e (a.keep c e q n hc d) (a.free c e q n d) hc d
 slot:=λc e q n hc d=>by
  obtain⟨j,f⟩:=a.slot c e q n hc d;obtain⟨g,i⟩:=b.slot c _ f (a.free c e q n d) hc d;exact⟨g,i⟩
 free:=λc e q n d=>by
  obtain⟨o',f⟩:=a.there c e q d;exact b.free c o' f (a.free c e q n d) d
 there:=λc e q d=>by
  obtain⟨o',f⟩:=a.there c e q d;exact b.there c o' f d
 tups:=λc xs q=>b.tups c xs (a.tups c xs q)
 frzs:=λc e xs q=>b.frzs c e xs (a.frzs c e xs q)
 tbls:=λc ps q=>by
  obtain⟨m1,f⟩:=a.tbls c ps q;obtain⟨m2,i⟩:=b.tbls c _ f;exact⟨m1++m2,by rw[i,Array.append_assoc]⟩
def Un.kept(k:∀b u,h.get? b=wq u->h'.get? b=wq u):Un fs ex H H h h':=
 ⟨λb a q _ _ _=>k b a q,λb a q _ _ _=>⟨a.slots,k b a q⟩,λ_ _ _ n _=>n,λb a q _=>⟨a,k b a q⟩,λ_ _ q=>q,λ_ _ _ q=>q,λ_ ps q=>⟨#[],by rw[q];simp⟩⟩
def Un.refl:Un fs ex H H h h:=Un.kept λ_ _ q=>q
def Un.laid(k:∀b u,h.get? b=wq u->h'.get? b=wq u)(hp:h.objs.size<=a)(hn:H a=aj):Un fs ex H (upd H a o) h h' where
 keep:=λb u q _ _ _=>k b u q
 slot:=λb u q _ _ _=>⟨u.slots,k b u q⟩
 free:=λb u q n _=>by rw[dL (nN1 (nL1 (hL1 q) hp))];exact n
 there:=λb u q _=>⟨u,k b u q⟩
 tups:=λb xs q=>by rw[dL (dY q hn)];exact q
 frzs:=λb u xs q=>by rw[dL (dY q hn)];exact q
 tbls:=λb ps q=>⟨#[],by rw[dL (dY q hn),q];simp⟩
def Un.write(mu:HJ (H x))(he:e=x\/H e=wq (.own x))(k:∀b u,b≠e->h.get? b=wq u->h'.get? b=wq u)(c:∃u,h'.get? e=wq u):Un fs ex H (upd H x o) h h':=by
 have g:∀b,H b=aj->b≠x:=λb n z=>by subst z;rw[n]at mu;exact mu
 have f:∀b,H b=aj->b≠e:=λb n z=>by
  subst z;rcases he with r|r
  ·exact g b n r
  ·rw[n]at r;cases r
 have d:∀b u,H b=wq u -> ¬ HJ (wq u)->b≠x:=λb u q nm z=>by subst z;rw[q]at mu;exact nm mu
 refine⟨λb u q n _ _=>k b u (f b n) q,λb u q n _ _=>⟨u.slots,k b u (f b n) q⟩,λb u q n _=>by rw[dL (g b n)];exact n,λb u q _=>?_,
  λb xs q=>by rw[dL (d b _ q λz=>z)];exact q,λb u xs q=>by rw[dL (d b _ q λz=>z)];exact q,λb ps q=>⟨#[],by rw[dL (d b _ q λz=>z),q];simp⟩⟩
 by_cases a:b=e
 ·subst a;exact c
 ·exact⟨u,k b u a q⟩
end
def trk(h:db)(H:Hp):List cZ:=(List.range h.objs.size).filter λa=>(H a).isSome
def rz(h:db)(H:Hp):db:=PySem.W.hideAll h (trk h H)
def xY(h:db)(H:Hp):(rz h H).objs.size=h.objs.size:=PySem.W.hideAll_size _ _
def AV{h:db}{H:Hp}{b:cZ}{o:Obj}(e:h.get? b=wq o)(n:H b=aj):(rz h H).get? b=wq o:=
 PySem.W.hideAll_get _ e λa=>by
  have q:(H b).isSome=ai:=(aq.mp a).2;rw[n]at q;simp at q
def CQ{h:db}{H:Hp}{b:cZ}{o:Obj}(e:(rz h H).get? b=wq o):h.get? b=wq o/\H b=aj:=by
 have a:h.get? b=wq o:=PySem.W.of_hideAll (trk h H) e;refine⟨a,?_⟩;cases q:H b with
 |none=>rfl
 |some x=>
  have c:b∈trk h H:=aq.mpr ⟨ar.mpr (hL1 a),by simp[q]⟩;have z:(rz h H).get? b=aj:=PySem.W.hideAll_none (trk h H) c;rw[z]at e;cases e
def D5(g h:db)(L:cZ):List (cZ×Obj):=(List.range h.objs.size).filterMap λa=>if a=L\/(g.get? a).isSome=ai then aj else(h.get? a).map λo=>(a,o)
def rest(g h:db)(L d:cZ):List (cZ×Obj):=(D5 g h L).filter λp=>decide (p.1≠d)
end L2
namespace L2
open PySem PySem.Spec PyProof.Rows
structure Mod (K:Fg1)(mg:Str->Option cX)(base:db):Prop where
 kin:K.In base
 glob:base.Ns c7 mg
 blt:∃mb,base.Ns builtinsNs mb /\ ∀x:Str,x≠"__name__"->mb x=bootBuiltins x
 nolimit:base.NoLimit
structure Cx where
 prog:c0
 w:c6
 K:Fg1
 mg:Str->Option cX
 base:db
 A:c5
 N:List Str
 s₀:cY
 H₀:Hp
 env:Env
 outer:List Env
 stack:List Env
 ex:List cZ
 fn:Str->Bool
 calm:Bool
 pn:List (cZ×Obj)
 xe:cX->cY->Prop
def frs(l:List Env):List cZ:=l.filterMap (·.frame)
abbrev Cx.fs(X:Cx):List cZ:=frs X.outer
def D9(sc:dg)(x:Str):Prop:=sc.names.lookup x=wq .local\/sc.names.lookup x=wq .cell\/sc.names.lookup x=wq .free
def yr(sc:dg)(x:Str):Prop:=sc.names.lookup x=wq .local\/sc.names.lookup x=wq .cell
def Lp(env:Env)(h:db)(m:Str->Option cX)(x:Str)(u:cX):Prop:=
 (env.kindOf x=wq .local/\m x=wq u)\/((env.kindOf x=wq .cell\/env.kindOf x=wq .free) /\ ∃c,env.cells.lookup x=wq c/\h.IsCell c (wq u))
structure Cx.Ok (X:Cx):Prop where
 mod:Mod X.K X.mg X.base
 kind:X.env.scope.kind = .function
 glob:X.env.globals=c7
 blt:X.env.builtins=builtinsNs
 above:X.s₀.heap.objs.size<=X.env.locals
 inj:∀x y c,X.env.cells.lookup x=some c->X.env.cells.lookup y=some c->x=y
 has:∀x,(X.env.kindOf x=some .cell\/X.env.kindOf x=some .free) -> ∃c,X.env.cells.lookup x=some c
 cab:∀x c,X.fn x=true->X.env.cells.lookup x=some c->X.s₀.heap.objs.size<=c
 hd:X.calm=true->X.A.handled=none
 frames:X.A.frames=some X.stack
 stk:X.stack=X.outer\/(X.stack=X.env::X.outer/\X.env.frame=some X.env.locals)
 exf:∀b∈X.ex,b≠X.env.locals /\ ∀x c,X.env.cells.lookup x=some c->c≠b
 bs:∀b o,X.base.get? b=some o->X.s₀.heap.get? b=some o/\X.H₀ b=none
 bsz:X.base.objs.size<=X.s₀.heap.objs.size
 noex:∀b o,X.base.get? b=some o->b∉X.ex
 exfs:∀b∈X.ex,b∉X.fs
 funs:X.s₀.heap.FunFrames X.base X.outer
 frf:∀b∈X.fs,X.H₀ b=none
structure Inv (X:Cx)(pins:List (cZ×Obj))(σ:List (Option V))(H:Hp)(s:cY):Prop where
 ok:X.Ok
 os:s.os=X.s₀.os
 bare:AllBare s.gens
 base:Un X.fs X.ex X.H₀ H X.s₀.heap s.heap
 loc:∃m,s.heap.Ns X.env.locals m /\ ∀(i:Nat) (x:Str) (v:V),X.N[i]?=some x->σ[i]?=some (some v)->D9 X.env.scope x -> ∃u,dF v u/\Lp X.env s.heap m x u
 cell:∀x c,X.env.cells.lookup x=some c -> ∃v,s.heap.IsCell c v
 free:H X.env.locals=none
 freeC:∀x c,X.env.cells.lookup x=some c->H c=none
 pin:∀p∈X.pn++pins,s.heap.get? p.1=some p.2/\H p.1=none/\p.1≠X.env.locals/\p.1∉X.fs /\ ∀v,p.2.data ≠ .cell v
 hok:kG X.prog X.w H s.heap
 len:σ.length=X.N.length
section
variable{X:Cx}{pins:List (cZ×Obj)}{σ:List (Option V)}{H H':Hp}{s:cY}{h':db}
def Cx.Ok.nofr(ok:X.Ok){b:cZ}{o:Obj}(e:X.base.get? b=wq o):b∉X.fs:=λa=>by
 have:=(ok.funs.mem a).1;rw[e]at this;cases this
def Inv.bs(I:Inv X pins σ H s):∀b o,X.base.get? b=wq o->s.heap.get? b=wq o/\H b=aj:=λb o e=>
 ⟨I.base.keep b o (I.ok.bs b o e).1 (I.ok.bs b o e).2 (I.ok.nofr e) (I.ok.noex b o e),I.base.free b o (I.ok.bs b o e).1 (I.ok.bs b o e).2 (I.ok.noex b o e)⟩
def Inv.bk(I:Inv X pins σ H s):∀b o,X.base.get? b=wq o->s.heap.get? b=wq o:=λb o e=>(I.bs b o e).1
def Inv.mod(I:Inv X pins σ H s):Mod X.K X.mg X.base:=I.ok.mod
def Inv.kIn(I:Inv X pins σ H s):X.K.In s.heap:=I.ok.mod.kin.keeps I.bk
def Inv.lt(I:Inv X pins σ H s):X.env.locals<s.heap.objs.size:=let ⟨_,hn,_⟩:=I.loc;hn.lt
def Inv.sz(I:Inv X pins σ H s):X.s₀.heap.objs.size<=s.heap.objs.size:=au I.ok.above (Nat.le_of_lt I.lt)
def Inv.nofs(I:Inv X pins σ H s){a:cZ}(h:s.heap.objs.size<=a):a∉X.fs:=λb=>by
 obtain⟨_,o,c,_⟩:=I.ok.funs.mem b;exact absurd (nL1 (hL1 c) (au I.sz h)) (ap _)
def Inv.cne(I:Inv X pins σ H s):∀x c,X.env.cells.lookup x=wq c->c≠X.env.locals:=λx c e z=>by
 obtain⟨v,o,f,d⟩:=I.cell x c e;obtain⟨m,⟨o',es,ep,a,b,_⟩,_⟩:=I.loc;rw[z,a]at f;cases f;rw[b]at d;cases d
def Inv.funs(I:Inv X pins σ H s):s.heap.FunFrames X.base X.outer:=by
 have all:∀(l:List Env),(∀b∈frs l,b∈X.fs)->X.s₀.heap.FunFrames X.base l->s.heap.FunFrames X.base l:=by
  intro l
  induction l with
  |nil=>intro _ _;trivial
  |cons k r ih=>
   intro f i;obtain⟨n,⟨L,o,c,g,m,j⟩,h⟩:=i;have d:L∈X.fs:=f L (by unfold frs;rw[av,c];exact mS1);obtain⟨p,e⟩:=I.base.slot L o m (I.ok.frf L d) d λz=>I.ok.exfs L z d;exact⟨n,⟨L,_,c,g,e,j⟩,ih (λb a=>f b (by unfold frs;rw[av,c];exact mC1 _ a)) h⟩
 exact all X.outer (λ_ a=>a) I.ok.funs
def Inv.stack(I:Inv X pins σ H s):s.heap.FunFrames X.base X.stack:=by
 rcases I.ok.stk with e|⟨e,a⟩
 ·rw[e];exact I.funs
 ·rw[e];obtain⟨m,b,_⟩:=I.loc;refine .cons (by rw[I.ok.kind];decide) a b ?_ I.funs;exact Heap.get?_none_of_le (au I.ok.bsz I.ok.above)
def Inv.stkSub(I:Inv X pins σ H s):∀b∈frs X.stack,b∈X.env.locals::X.fs:=λb a=>by
 rcases I.ok.stk with e|⟨e,c⟩
 ·rw[e]at a;exact mC1 _ a
 ·rw[e]at a;unfold frs at a;rw[av,c]at a;exact a
def Inv.stkFree(I:Inv X pins σ H s):∀b∈frs X.stack,H b=aj:=λb a=>by
 rcases aw.mp (I.stkSub b a)with e|a
 ·rw[e];exact I.free
 ·obtain⟨_,o,c,_⟩:=I.ok.funs.mem a;exact I.base.free b o c (I.ok.frf b a) λz=>I.ok.exfs b z a
def Inv.step{g':Array GenState}{t':Nat}{d':Drawn}{ch:List cZ}(I:Inv X pins σ H s)(g:∀b∈ch,(b∈X.ex\/X.s₀.heap.objs.size<=b)/\b≠X.env.locals/\(∀x c,X.env.cells.lookup x=some c->c≠b) /\ ∀p∈X.pn++pins,p.1≠b)(keep:∀b o,b≠X.env.locals->b∉X.fs->b∉ch->s.heap.get? b=some o->H b=none->h'.get? b=some o)(slot:∀b o,b≠X.env.locals->b∈X.fs->b∉ch->s.heap.get? b=some o->H b=none -> ∃L,h'.get? b=some {o with slots:=L})(free:∀b o,b∉ch->s.heap.get? b=some o->H b=none->H' b=none)(w:∀b o,b∉ch->s.heap.get? b=some o -> ∃o',h'.get? b=some o')(F:∀b xs,H b=some (.tup xs)->H' b=some (.tup xs))(B:∀b o u,H b=some (.frz o u)->H' b=some (.frz o u))(C:∀b ps,H b=some (.tbl ps) -> ∃more,H' b=some (.tbl (ps++more)))(ns:∀m,s.heap.Ns X.env.locals m->h'.Ns X.env.locals m)(K:kG X.prog X.w H' h')(hg:AllBare g'):
  Inv X pins σ H' {s with heap:=h',gens:=g',drawn:=d',toks:=t'}:=by
 have D:∀b o,X.s₀.heap.get? b=wq o->b≠X.env.locals:=λb o e=>nN1 (nL1 (hL1 e) I.ok.above);have t:∀b o,X.s₀.heap.get? b=wq o->b∉X.ex->b∉ch:=λb o e a y=>by
  rcases(g b y).1 with z|z
  ·exact a z
  ·exact absurd (nL1 (hL1 e) z) (ap _)
 have f:∀x c,X.env.cells.lookup x=wq c -> ∀v,s.heap.IsCell c v->h'.IsCell c v:=λx c e v ⟨o,A,J⟩=>by
  have h:c∉ch:=λz=>(g c z).2.2.1 x c e ag;by_cases hc:c∈X.fs
  ·obtain⟨L,q⟩:=slot c o (I.cne x c e) hc h A (I.freeC x c e);exact⟨_,q,J⟩
  ·exact⟨o,keep c o (I.cne x c e) hc h A (I.freeC x c e),J⟩
 refine⟨I.ok,I.os,hg,⟨λb o e n y a=>?_,λb o e n y a=>?_,λb o e n a=>?_,λb o e a=>?_,λb xs e=>F b xs (I.base.tups b xs e),λb o xs e=>B b o xs (I.base.frzs b o xs e),λb ps e=>?_⟩,?_,λx c e=>?_,?_,λx c e=>?_,λp N=>?_,K,I.len⟩
 ·exact keep b o (D b o e) y (t b o e a) (I.base.keep b o e n y a) (I.base.free b o e n a)
 ·obtain⟨L,j⟩:=I.base.slot b o e n y a;obtain⟨G,E⟩:=slot b _ (D b o e) y (t b o e a) j (I.base.free b o e n a);exact⟨G,E⟩
 ·obtain⟨o',j⟩:=I.base.there b o e a;exact free b o' (t b o e a) j (I.base.free b o e n a)
 ·obtain⟨o',j⟩:=I.base.there b o e a;exact w b o' (t b o e a) j
 ·obtain⟨m1,j⟩:=I.base.tbls b ps e;obtain⟨m2,E⟩:=C b _ j;exact⟨m1++m2,by rw[E,Array.append_assoc]⟩
 ·obtain⟨m,Q,O⟩:=I.loc;refine⟨m,ns m Q,λi x v j E P=>?_⟩;obtain⟨u,r,l⟩:=O i x v j E P;refine⟨u,r,?_⟩;rcases l with l|⟨k,c,e,z⟩
  ·exact .inl l
  ·exact .inr ⟨k,c,e,f x c e _ z⟩
 ·obtain⟨v,z⟩:=I.cell x c e;exact⟨v,f x c e v z⟩
 ·obtain⟨m,⟨o,_,_,A,_⟩,_⟩:=I.loc;exact free _ o (λz=>(g _ z).2.1 ag) A I.free
 ·obtain⟨v,o,A,J⟩:=I.cell x c e;exact free c o (λz=>(g c z).2.2.1 x c e ag) A (I.freeC x c e)
 ·obtain⟨e,n,ne,M,d⟩:=I.pin p N;have h:p.1∉ch:=λz=>(g p.1 z).2.2.2 p N ag;exact⟨keep p.1 p.2 ne M h e n,free p.1 p.2 h e n,ne,M,d⟩
def Inv.un{t':Nat}(I:Inv X pins σ H s)(u:Un X.fs [] H H' s.heap h')(d:kG X.prog X.w H' h'):Inv X pins σ H' {s with heap:=h',toks:=t'}:=by
 obtain⟨m,⟨o,es,ep,h,r⟩,_⟩:=id I.loc;obtain⟨l,j⟩:=u.any h I.free (by simp);exact I.step (g':=s.gens) (d':=s.drawn) (ch:=[]) (λ_ z=>nomatch z) (λb o _ c _ e n=>u.keep b o e n c (by simp)) (λb o _ c _ e n=>u.slot b o e n c (by simp)) (λb o _ e n=>u.free b o e n (by simp)) (λb o _ e=>u.there b o e (by simp)) u.tups u.frzs u.tbls (λp k=>by
  obtain⟨o',g,f,a,i⟩:=k;rw[h]at a;cases a;exact⟨_,g,f,j,i⟩) d I.bare
def Inv.call{g':Array GenState}{t':Nat}{d':Drawn}{ch:List cZ}(I:Inv X pins σ H s)(u:Un (frs X.stack) ch H H' s.heap h')(f:kG X.prog X.w H' h')(hg:AllBare g')(a:∀b∈ch,(b∈X.ex\/X.s₀.heap.objs.size<=b)/\b≠X.env.locals/\(∀x c,X.env.cells.lookup x=some c->c≠b) /\ ∀p∈X.pn++pins,p.1≠b):
  Inv X pins σ H' {s with heap:=h',gens:=g',drawn:=d',toks:=t'}:=by
 obtain⟨m,⟨o,es,ep,j,r⟩,_⟩:=id I.loc;obtain⟨t,g⟩:=u.any j I.free λz=>(a _ z).2.1 ag;exact I.step (ch:=ch) a (λb o g k hc e n=>u.keep b o e n (λz=>(aw.mp (I.stkSub b z)).elim g k) hc) (λb o _ _ hc e n=>u.any e n hc) (λb o hc e n=>u.free b o e n hc) (λb o hc e=>u.there b o e hc) u.tups u.frzs u.tbls (λv q=>by
  obtain⟨o',i,h,d,l⟩:=q;rw[j]at d;cases d;exact⟨_,i,h,g,l⟩) f hg
def Inv.turned{t':Nat}{it:cZ}(I:Inv X pins σ H s)(k:∀ b o,b≠it->s.heap.get? b=wq o->h'.get? b=wq o)(hn:H it=aj)(d:it≠X.env.locals)(h1:it∈X.ex\/X.s₀.heap.objs.size<=it)(h2:∀x c,X.env.cells.lookup x=wq c->c≠it)(g:∀p∈X.pn++pins,p.1≠it):Inv X pins σ H {s with heap:=h',toks:=t'}:=by
 have a:∀b u,H b=wq u->b≠it:=λb u e z=>by rw[z,hn]at e;cases e
 refine I.step (g':=s.gens) (d':=s.drawn) (ch:=[it]) (λb f=>?_) (λb o _ _ hc e _=>k b o (λz=>hc (by simp[z])) e) (λb o _ _ hc e _=>⟨o.slots,k b o (λz=>hc (by simp[z])) e⟩) (λ_ _ _ _ n=>n)
  (λb o hc e=>⟨o,k b o (λz=>hc (by simp[z])) e⟩) (λ_ _ e=>e) (λ_ _ _ e=>e) (λb ps e=>⟨#[],by rw[e];simp⟩) (λm i=>?_) (λb u e=>?_) I.bare
 ·have e:b=it:=by simpa using f
  subst e;exact⟨h1,d,h2,g⟩
 ·obtain⟨o,es,ep,h,r⟩:=i;exact⟨o,es,ep,k _ o (Ne.symm d) h,r⟩
 ·refine(I.hok b u e).stay (λc v hc q=>k c v ?_ q) (λ_ q=>q) λ_ _ q=>q;rcases hc with z|z
  ·rw[z];exact a b u e
  ·exact a c _ z
def Inv.tok(I:Inv X pins σ H s)(t:Nat):Inv X pins σ H {s with toks:=t}:=I.un (h':=s.heap) (t':=t) Un.refl I.hok
def Inv.kept{t':Nat}(I:Inv X pins σ H s)(k:∀b u,s.heap.get? b=wq u->h'.get? b=wq u):Inv X pins σ H {s with heap:=h',toks:=t'}:=I.un (Un.kept k) (I.hok.kept k)
def Inv.laid{a:cZ}{o:HO}{t':Nat}(I:Inv X pins σ H s)(k:∀ b u,s.heap.get? b=some u->h'.get? b=some u)(hp:s.heap.objs.size<=a)(new:eB X.prog X.w (upd H a o) h' a o):
  Inv X pins σ (upd H a o) {s with heap:=h',toks:=t'}:=I.un (Un.laid k hp (I.hok.fresh hp)) (I.hok.laid k hp new)
def Inv.write{x e:cZ}{o:HO}{t':Nat}(I:Inv X pins σ H s)(mu:HJ (H x))(he:e=x\/H e=wq (.own x))(k:∀ b u,b≠e->s.heap.get? b=wq u->h'.get? b=wq u)(a:∃ u,h'.get? e=wq u)(new:eB X.prog X.w (upd H x o) h' x o):Inv X pins σ (upd H x o) {s with heap:=h',toks:=t'}:=I.un (Un.write mu he k a) (I.hok.write mu he k a new)
def Inv.pins_of{a:List (cZ×Obj)}(I:Inv X pins σ H s)(h:∀p∈a,s.heap.get? p.1=wq p.2/\H p.1=aj/\p.1≠X.env.locals/\p.1∉X.fs /\ ∀v,p.2.data ≠ .cell v):Inv X a σ H s:=
 ⟨I.ok,I.os,I.bare,I.base,I.loc,I.cell,I.free,I.freeC,λp b=>(ay.mp b).elim (λz=>I.pin p (az _ z)) (h p),I.hok,I.len⟩
def tq{N:List Str}(hN:N.Nodup){i j:Nat}{x:Str}(a:N[i]?=wq x)(b:N[j]?=wq x):i=j:=by
 obtain⟨h1,d⟩:=gE1.mp a;obtain⟨h2,c⟩:=gE1.mp b;exact(List.getElem_inj hN).mp (d.trans c.symm)
def xn{M:Model}{A:c5}{E:cX->cY->Prop}{i:Nat}{x:Str}{v:V}{u:cX}{Q:Unit->cY->Prop}(I:Inv X pins σ H s)(hN:X.N.Nodup)(hi:X.N[i]? = wq x)(hx:yr X.env.scope x)(r:dF v u)(h:∀s',Inv X pins (σ.set i (wq v)) H s'->(∃a,Heap.SameBut a s.heap s'.heap/\(a=X.env.locals\/X.env.cells.lookup x=wq a))->Q () s')(hf:X.fn x=ai\/X.env.scope.names.lookup x=wq .local:=by first|exact .inl rfl|exact .inr rfl|assumption):da M A (storeName X.env x u) Q E s:=by
 obtain⟨m,hn,hl⟩:=id I.loc;have N:(X.env.scope.kind == .class||(X.env.scope.kind == .module&&X.env.locals != X.env.globals))=ah:=by rw[I.ok.kind];rfl
 have w:i<σ.length:=by rw[I.len];exact(gE1.mp hi).1
 have cne:=I.cne;have tracked:∀{a:cZ} {h':db},(∃o,s.heap.get? a=wq o/\H a=aj)->Heap.SameBut a s.heap h'->kG X.prog X.w H h':=λ{a h'} ha f b ob e=>by
  obtain⟨_,_,l⟩:=ha;refine(I.hok b ob e).stay (λc P hc q=>(f.2 c ?_).trans q) (λ_ q=>q) λ_ _ q=>q;rintro rfl;rcases hc with rfl|hc
  ·rw[l]at e;cases e
  ·rw[l]at hc;cases hc
 rcases hx with B|B
 ·refine wpAny_storeName_local B hn (λh' S f=>?_) N;obtain⟨oL,_,_,Z,_⟩:=id hn;refine h _ ⟨I.ok,I.os,I.bare,⟨λb o e n C hx=>?_,λb o e n C hx=>?_,I.base.free,λb o e hx=>?_,I.base.tups,I.base.frzs,I.base.tbls⟩,⟨_,S,λj y T g t Y=>?_⟩,λy c e=>?_,I.free,I.freeC,λp U=>?_,tracked ⟨oL,Z,I.free⟩ f,by simpa using I.len⟩ ⟨_,f,.inl ag⟩
  ·exact(f.2 b (nN1 (nL1 (hL1 e) I.ok.above))).trans (I.base.keep b o e n C hx)
  ·obtain⟨sl,g⟩:=I.base.slot b o e n C hx;exact⟨sl,(f.2 b (nN1 (nL1 (hL1 e) I.ok.above))).trans g⟩
  ·obtain⟨o',g⟩:=I.base.there b o e hx;exact⟨o',(f.2 b (nN1 (nL1 (hL1 e) I.ok.above))).trans g⟩
  ·by_cases D:j=i
   ·subst D;rw[hi]at g;cases g;rw[aA w]at t;cases t;exact⟨u,r,.inl ⟨B,by simp⟩⟩
   ·rw[gS1 (Ne.symm D)]at t;obtain⟨u',W,q⟩:=hl j y T g t Y;refine⟨u',W,?_⟩;rcases q with⟨k,e⟩|⟨k,c,e,z⟩
    ·refine .inl ⟨k,?_⟩;have:y≠x:=λe=>D (tq hN g (e ▸ hi));simp[this,e]
    ·exact .inr ⟨k,c,e,z.sameBut f (cne y c e)⟩
  ·obtain⟨P,z⟩:=I.cell y c e;exact⟨P,z.sameBut f (cne y c e)⟩
  ·obtain⟨e,n,ne,R,d⟩:=I.pin p U;exact⟨(f.2 p.1 ne).trans e,n,ne,R,d⟩
 ·have F:X.fn x=true:=by
   rcases hf with z|z
   ·exact z
   ·rw[z]at B;cases B
  obtain⟨c,hc⟩:=I.ok.has x (.inl B);obtain⟨P,z⟩:=I.cell x c hc;refine wpAny_storeName_cell I.ok.kind B hc z (λh' K f=>?_);obtain⟨oc,L,G⟩:=id z;refine h {s with heap:=h'} ⟨I.ok,I.os,I.bare,⟨λb o e n C hx=>?_,λb o e n C hx=>?_,I.base.free,λb o e hx=>?_,I.base.tups,I.base.frzs,I.base.tbls⟩,⟨m,hn.sameBut f (Ne.symm (cne x c hc)),λj y T g t Y=>?_⟩,λy O e=>?_,I.free,I.freeC,λp U=>?_,tracked ⟨oc,L,I.freeC x c hc⟩ f,by simpa using I.len⟩ ⟨c,f,.inr hc⟩
  ·exact(f.2 b (nN1 (nL1 (hL1 e) (I.ok.cab x c F hc)))).trans (I.base.keep b o e n C hx)
  ·obtain⟨sl,g⟩:=I.base.slot b o e n C hx;exact⟨sl,(f.2 b (nN1 (nL1 (hL1 e) (I.ok.cab x c F hc)))).trans g⟩
  ·obtain⟨o',g⟩:=I.base.there b o e hx;exact⟨o',(f.2 b (nN1 (nL1 (hL1 e) (I.ok.cab x c F hc)))).trans g⟩
  ·by_cases D:j=i
   ·subst D;rw[hi]at g;cases g;rw[aA w]at t;cases t;exact⟨u,r,.inr ⟨.inl B,c,hc,K⟩⟩
   ·rw[gS1 (Ne.symm D)]at t;obtain⟨u',W,q⟩:=hl j y T g t Y;refine⟨u',W,?_⟩;rcases q with q|⟨k,O,e,z'⟩
    ·exact .inl q
    ·refine .inr ⟨k,O,e,z'.sameBut f ?_⟩;rintro rfl;exact D (tq hN g (I.ok.inj _ _ _ e hc ▸ hi))
  ·by_cases J:O=c
   ·subst J;exact⟨_,K⟩
   ·obtain⟨w2,z2⟩:=I.cell y O e;exact⟨w2,z2.sameBut f J⟩
  ·obtain⟨e,n,ne,R,d⟩:=I.pin p U;refine⟨(f.2 p.1 ?_).trans e,n,ne,R,d⟩;intro q;rw[q,L]at e;have q':oc=p.2:=Option.some.inj e;exact d P (by rw[<- q'];exact G)
def kN{M:Model}{A:c5}{E:cX->cY->Prop}{i:Nat}{x:Str}{v:V}{u:cX}{Q:Unit->cY->Prop}(I:Inv X pins σ H s)(hN:X.N.Nodup)(hi:X.N[i]? = wq x)(hx:yr X.env.scope x)(r:dF v u)(h:∀s',Inv X pins (σ.set i (wq v)) H s'->Q () s')(hf:X.fn x=ai\/X.env.scope.names.lookup x=wq .local:=by first|exact .inl rfl|exact .inr rfl|assumption):da M A (storeName X.env x u) Q E s:=
 xn I hN hi hx r (λs' a _=>h s' a) hf
def Inv.call'{s':cY}{ch:List cZ}(I:Inv X pins σ H s)(ho:s'.os=s.os)(u:Un (frs X.stack) ch H H' s.heap s'.heap)(d:kG X.prog X.w H' s'.heap)(hg:AllBare s'.gens)(a:∀b∈ch,(b∈X.ex\/X.s₀.heap.objs.size<=b)/\b≠X.env.locals/\(∀x c,X.env.cells.lookup x=wq c->c≠b) /\ ∀p∈X.pn++pins,p.1≠b):Inv X pins σ H' s':=by
 obtain⟨h',g,f,h,o'⟩:=s';have e:o'=s.os:=ho;subst e;exact I.call (g':=g) (t':=h) (d':=f) u d hg a
end
abbrev XK:=cX->Option cZ->Hp->Prop
abbrev St:=List (Option V)
abbrev VK:=V->Hp->Prop
abbrev TE:=St->Hp->VK->Prop
abbrev TT:=St->Hp->(Bool->Hp->Prop)->Prop
abbrev TA:=St->Hp->(List V->Hp->Prop)->Prop
structure jN where
 nx:St->Hp->Prop
 rt:VK
 bk:St->Hp->Prop:=λ_ _=>False
 ct:St->Hp->Prop:=λ_ _=>False
abbrev TS:=jN->St->Hp->Prop
def EP(X:Cx)(pins:List (cZ×Obj))(σ:St)(Q:VK)(u:cX)(s':cY):Prop:=∃v H',Inv X pins σ H' s'/\dF v u/\Q v H'
def TP(X:Cx)(pins:List (cZ×Obj))(σ:St)(Q:Bool->Hp->Prop)(b:Bool)(s':cY):Prop:=∃H',Inv X pins σ H' s'/\Q b H'
def AP(X:Cx)(pins:List (cZ×Obj))(σ:St)(Q:List V->Hp->Prop)(us:List cX)(s':cY):Prop:=∃vs H',Inv X pins σ H' s'/\dQ vs us/\Q vs H'
def SP(X:Cx)(pins:List (cZ×Obj))(D:jN)(f:Flow)(s':cY):Prop:=
 match f with
 | .next=>∃ σ' H',Inv X pins σ' H' s'/\D.nx σ' H'
 | .brk=>∃ σ' H',Inv X pins σ' H' s'/\D.bk σ' H'
 | .cont=>∃ σ' H',Inv X pins σ' H' s'/\D.ct σ' H'
 | .ret u=>∃v σ' H',Inv X pins σ' H' s'/\dF v u/\D.rt v H'
def PE(X:Cx)(e:Expr)(t:TE):Prop:=
 ∀(pins:List (cZ×Obj)) (s:cY) (σ:St) (H:Hp) (Q:VK),Inv X pins σ H s->t σ H Q->da (model X.prog X.w) X.A (eval e X.env) (EP X pins σ Q) X.xe s
def PT(X:Cx)(e:Expr)(t:TT):Prop:=
 ∀(pins:List (cZ×Obj)) (s:cY) (σ:St) (H:Hp) (Q:Bool->Hp->Prop),Inv X pins σ H s->t σ H Q->da (model X.prog X.w) X.A (isTrue e X.env (eval e X.env)) (TP X pins σ Q) X.xe s
def PW(X:Cx)(e:Expr)(t:TT):Prop:=
 ∀(whole:Sem cX) (pins:List (cZ×Obj)) (s:cY) (σ:St) (H:Hp) (Q:Bool->Hp->Prop),Inv X pins σ H s->t σ H Q->da (model X.prog X.w) X.A (isTrue e X.env whole) (TP X pins σ Q) X.xe s
def PW.pt{X:Cx}{e:Expr}{t:TT}(h:PW X e t):PT X e t:=h _
def PA(X:Cx)(es:List Expr)(t:TA):Prop:=
 ∀(pos:Pos) (pins:List (cZ×Obj)) (s:cY) (σ:St) (H:Hp) (Q:List V->Hp->Prop),Inv X pins σ H s->t σ H Q->da (model X.prog X.w) X.A (spliced (backTo pos (c8 es X.env))) (AP X pins σ Q) X.xe s
def PS(X:Cx)(st:df)(t:TS):Prop:=
 ∀(pins:List (cZ×Obj)) (s:cY) (σ:St) (H:Hp) (D:jN),Inv X pins σ H s->t D σ H->da (model X.prog X.w) X.A (exec st X.env) (SP X pins D) X.xe s
def uy(X:Cx)(st:List df)(t:TS):Prop:=
 ∀(pins:List (cZ×Obj)) (s:cY) (σ:St) (H:Hp) (D:jN),Inv X pins σ H s->t D σ H->da (model X.prog X.w) X.A (execs st X.env) (SP X pins D) X.xe s
def eR{α:Type}{t:Sem α}{Q b:α->cY->Prop}{M:Model}{A:c5}{E:cX->cY->Prop}{s:cY}(h:da M A t Q E s)(c:∀a s,Q a s->b a s):da M A t b E s:=wpAny_mono h c λ_ _ x=>x
end L2
namespace L2
open PySem PySem.Spec PyProof.Rows
section
variable{X:Cx}
def MF{a b:Expr}{ta tb:TE}(ha:PE X a ta)(hb:PE X b tb){pins:List (cZ×Obj)}{s:cY}{σ:St}{H:Hp}{R:V->V->Hp->Prop}(I:Inv X pins σ H s)(h:ta σ H fun x H1=>tb σ H1 fun y H2=>R x y H2){α:Type}{Q:α->cY->Prop}{f:cX->cX->Sem α}(hf:∀v u e x y H2,Inv X pins σ H2 e->dF x v->dF y u->R x y H2->da (model X.prog X.w) X.A (f v u) Q X.xe e):
  da (model X.prog X.w) X.A (eval a X.env) (λv d=>da (model X.prog X.w) X.A (eval b X.env) (λu c=>da (model X.prog X.w) X.A (f v u) Q X.xe c) X.xe d) X.xe s:=by
 refine eR (ha pins s σ H _ I h) λv l ⟨x,H1,g,i,k⟩=>?_;refine eR (hb pins l σ H1 _ g k) λu e ⟨y,H2,j,r2,m⟩=>?_;exact hf v u e x y H2 j i r2 m
def Ks(i:Nat):TE:=fun σ H Q=>∃v,σ[i]?=wq (wq v)/\Q v H
def tC(v:V):TE:=λ_ H Q=>Q v H
def FP {i:Nat}{x:Str}{pos:Pos}(hN:X.N[i]?=wq x)(hv:D9 X.env.scope x)(hd:(x == ("__debug__":Str))=ah:=by decide)(hcd:(x == ("__classdict__":Str))=ah:=by decide):PE X (.Name x pos) (Ks i):=by
 intro pins s σ H Q I h;obtain⟨v,e,h⟩:=h;obtain⟨m,f,g⟩:=I.loc;obtain⟨u,r,l⟩:=g i x v hN e hv;have d:EP X pins σ Q u s:=⟨v,H,I,r,h⟩;rcases l with⟨b,j⟩|⟨b,c,hc,a⟩
 ·exact wpAny_Name (wpAny_loadName_local I.ok.kind b f j d) hd
 ·rcases b with b|b
  ·exact wpAny_Name (wpAny_loadName_cell I.ok.kind b hc a d) hd
  ·exact wpAny_Name (wpAny_loadName_free I.ok.kind b hc a d hcd) hd
def F0{i j pos}:PE X (.Constant (.int i) j pos) (tC (.int i)):=λ_ _ _ H _ I h=>wpAny_Constant_int ⟨.int i,H,I.tok _,⟨_,ag⟩,h⟩
def IL{b j pos}:PE X (.Constant (.bool b) j pos) (tC (.bl b)):=λ_ _ _ H _ I h=>Constant_bool ⟨.bl b,H,I,ag,h⟩
def FY{j pos}:PE X (.Constant .none j pos) (tC .non):=λ_ _ _ H _ I h=>Constant_none ⟨.non,H,I,ag,h⟩
def FR{x j pos}:PE X (.Constant (.str x) j pos) (tC (.str x)):=λ_ _ _ H _ I h=>Calls.Constant_str ⟨.str x,H,I.tok _,⟨_,ag⟩,h⟩
def Gl(X:Cx)(x:Str):Prop:=X.env.kindOf x=wq .globalImplicit
def wB {E:cX->cY->Prop}{pins:List (cZ×Obj)}{s:cY}{σ:St}{H:Hp}{x:Str}{u:cX}{pos:Pos}{Q:cX->cY->Prop}(I:Inv X pins σ H s)(hg:Gl X x)(hm:X.mg x=some u)(h:Q u s)
  (hd:(x == ("__debug__":Str))=ah:=by decide):da (model X.prog X.w) X.A (eval (.Name x pos) X.env) Q E s:=
 Calls.Name_function_global I.ok.kind hg (Calls.loadGlobal_global (by rw[I.ok.glob];exact I.mod.glob.keeps I.bk) hm h) hd
def jz {E:cX->cY->Prop}{pins:List (cZ×Obj)}{s:cY}{σ:St}{H:Hp}{x:Str}{u:cX}{pos:Pos}{Q:cX->cY->Prop}(I:Inv X pins σ H s)(hg:Gl X x)(hm:X.mg x=none)(hv:bootBuiltins x=some u)(h:Q u s)
  (hn:x≠"__name__":=by decide) (hd:(x == ("__debug__":Str))=ah:=by decide):da (model X.prog X.w) X.A (eval (.Name x pos) X.env) Q E s:=by
 obtain⟨a,h1,h2⟩:=I.mod.blt;exact Calls.Name_function_global I.ok.kind hg (Calls.loadGlobal_builtin (by rw[I.ok.glob];exact I.mod.glob.keeps I.bk) hm (by rw[I.ok.blt];exact h1.keeps I.bk) ((h2 x hn).trans hv) h) hd
def CG {x:Str}{v:V}{u:cX}{pos:Pos}(hg:Gl X x)(hm:X.mg x=wq u)(r:dF v u)(hd:(x == ("__debug__":Str))=ah:=by decide):PE X (.Name x pos) (tC v):=
 λ_ _ _ H _ I h=>wB I hg hm ⟨v,H,I,r,h⟩ hd
def CM {x:Str}{v:V}{u:cX}{pos:Pos}(hg:Gl X x)(hm:X.mg x=aj)(hv:bootBuiltins x=wq u)(r:dF v u)(hn:x≠"__name__":=by decide)(hd:(x == ("__debug__":Str))=ah:=by decide):PE X (.Name x pos) (tC v):=
 λ_ _ _ H _ I h=>jz I hg hm hv ⟨v,H,I,r,h⟩ hn hd
variable{a b:Expr}{ta tb:TE}{pos:Pos}
def tB(t:TE):TT:=fun σ H Q=>t σ H λx H1=>∃c,x = .bl c/\Q c H1
variable{tA tB':TT}{rest:List Expr}
def KF(t u:TT):TT:=fun σ H Q=>t σ H λc H1=>if c=ai then u σ H1 Q else Q ah H1
def LV(t u:TT):TT:=fun σ H Q=>t σ H λc H1=>if c=ai then Q ai H1 else u σ H1 Q
def Kx(t:TT):TT:=fun σ H Q=>t σ H λc H1=>Q (!c) H1
def Cp(ha:PT X a tA):PW X (.BoolOp .And [a] pos) tA:=by
 intro b pins s σ H Q I h;refine isTrue_and (eR (ha pins s σ H Q I h) λc d e=>?_);cases c with
 |true=>exact isTrue_and_nil e
 |false=>exact e
def Ft(ha:PT X a tA):PW X (.BoolOp .Or [a] pos) tA:=by
 intro b pins s σ H Q I h;refine isTrue_or (eR (ha pins s σ H Q I h) λc d e=>?_);cases c with
 |false=>exact isTrue_or_nil e
 |true=>exact e
def Fu(ha:PT X a tA)(hb:PW X (.BoolOp .And (b::rest) pos) tB'):PW X (.BoolOp .And (a::b::rest) pos) (KF tA tB'):=by
 intro f pins s σ H Q I h;refine isTrue_and (eR (ha pins s σ H _ I h) λc g ⟨H1,d,e⟩=>?_);cases c with
 |true=>exact hb f pins g σ H1 Q d e
 |false=>exact⟨H1,d,e⟩
def IC(ha:PT X a tA)(hb:PW X (.BoolOp .Or (b::rest) pos) tB'):PW X (.BoolOp .Or (a::b::rest) pos) (LV tA tB'):=by
 intro f pins s σ H Q I h;refine isTrue_or (eR (ha pins s σ H _ I h) λc g ⟨H1,d,e⟩=>?_);cases c with
 |true=>exact⟨H1,d,e⟩
 |false=>exact hb f pins g σ H1 Q d e
def Fw(ha:PT X a tA):PT X (.UnaryOp .Not a pos) (Kx tA):=by
 intro pins s σ H Q I h;exact isTrue_not (ha pins s σ H (λc H1=>Q (!c) H1) I h)
def Ij(ta tb:TE):TE:=fun σ H Q=>ta σ H λx H1=>∃c,x = .bl c/\if c=ai then tb σ H1 Q else Q (.bl ah) H1
def Ib(ta:TE):TE:=fun σ H Q=>ta σ H λx H1=>∃c,x = .bl c/\Q (.bl (!c)) H1
def FW{op}{t:TE}(h:PE X a t):PE X (.BoolOp op [a] pos) t:=λpins s σ H Q I b=>BoolOp_one (h pins s σ H Q I b)
def F2(ha:PE X a ta)(hb:PE X (.BoolOp .And (b::rest) pos) tb):PE X (.BoolOp .And (a::b::rest) pos) (Ij ta tb):=by
 intro pins s σ H Q I h;refine BoolOp_and (eR (ha pins s σ H _ I h) λv f ⟨x,H1,e,g,d⟩=>?_);obtain⟨c,rfl,d⟩:=d;cases g;refine wpAny_truthy_bool ?_;cases c with
 |true=>exact hb pins f σ H1 Q e d
 |false=>exact⟨.bl ah,H1,e,ag,d⟩
def FX(ha:PE X a ta):PE X (.UnaryOp .Not a pos) (Ib ta):=by
 intro pins s σ H Q I h;refine UnaryOp_ (eR (ha pins s σ H _ I h) λv f ⟨x,H1,d,e,b⟩=>?_);obtain⟨c,rfl,b⟩:=b;cases e;exact not_of (wpAny_truthy_bool ⟨.bl (!c),H1,d,ag,b⟩)
def LX(t:TT)(ta tb:TE):TE:=fun σ H Q=>t σ H λc H1=>if c=ai then ta σ H1 Q else tb σ H1 Q
def zO{c:Expr}(hc:PT X c tA)(ha:PE X a ta)(hb:PE X b tb):PE X (.IfExp c a b pos) (LX tA ta tb):=by
 intro pins s σ H Q I h;refine wpAny_IfExp (eR (hc pins s σ H _ I h) λd g ⟨H1,e,f⟩=>?_);cases d with
 |true=>exact ha pins g σ H1 Q e f
 |false=>exact hb pins g σ H1 Q e f
end
end L2
namespace L2
open PySem PySem.Spec PyProof.Rows
def lJ(K:Fg1)(H:Hp)(a:cZ)(xs:List V):Prop:=
 Rd H a (.lst xs) \/
  ∃(o:Obj) (its:Array cX) (n:Nat),K.lookup a=wq o/\o.cls = .type "list"/\o.dict=aj/\o.data = .seq its n/\its.size<=c9/\dQ xs its.toList
def jL(K:Fg1)(H:Hp)(a:cZ)(xs:List V):Prop:=
 Rd H a (.tup xs) \/
  ∃(o:Obj) (its:Array cX) (n:Nat),K.lookup a=wq o/\o.cls = .type "tuple"/\o.data = .seq its n/\its.size<=c9/\dQ xs its.toList
def Li:cX->Option V
 | .none=>wq .non
 | .bool b=>wq (.bl b)
 | .int i _=>wq (.int i)
 | .str x _=>wq (.str x)
 | .bytes b _=>wq (.byt b)
 | .float b _=>wq (.flt b)
 | .ref a=>wq (.ref a)
 | .type n=>wq (.ty n)
 |_=>aj
def dF.abs{x:V}{u:cX}(r:dF x u):Li u=wq x:=by
 cases x with
 |non=>cases r;rfl
 |bl _=>cases r;rfl
 |int _=>obtain⟨t,rfl⟩:=r;rfl
 |str _=>obtain⟨t,rfl⟩:=r;rfl
 |byt _=>obtain⟨t,rfl⟩:=r;rfl
 |flt _=>obtain⟨t,rfl⟩:=r;rfl
 |ref _=>cases r;rfl
 |ty _=>cases r;rfl
def dF.inj{x y:V}{u:cX}(r:dF x u)(q:dF y u):x=y:=Option.some.inj (r.abs.symm.trans q.abs)
def dQ.inj:∀{xs ys:List V} {a:List cX},dQ xs a->dQ ys a->xs=ys:=by
 intro xs ys a h g
 induction h generalizing ys with
 |nil=>cases g;rfl
 |cons r t ih=>cases g with
  |cons c b=>rw[r.inj c,ih b]
section
variable{X:Cx}{pins:List (cZ×Obj)}{σ:St}{H:Hp}{s:cY}{a:cZ}{xs ys:List V}
def lJ.of{K:Fg1}(h:H a=wq (.lst xs)):lJ K H a xs:=.inl (.inl h)
def jL.of{K:Fg1}(h:H a=wq (.tup xs)):jL K H a xs:=.inl (.inl h)
def Inv.list(I:Inv X pins σ H s)(h:lJ X.K H a xs):∃b:List cX,dQ xs b/\PlainL s.heap a b.toArray/\xs.length<=c9:=by
 rcases h with h|⟨o,b,n,f,hc,d,c,g,r⟩
 ·obtain⟨z,b,n,r,e⟩:=h.ok I.hok;exact⟨b,r,⟨_,n,e,ag,ag,ag⟩,z⟩
 ·refine⟨b.toList,r,⟨o,n,I.kIn a o f,hc,d,by simpa using c⟩,?_⟩;have e:=r.length;simp only[aB]at e;lia
def Inv.tuple(I:Inv X pins σ H s)(h:jL X.K H a xs):∃b:List cX,dQ xs b/\IsTup s.heap a b.toArray/\xs.length<=c9:=by
 rcases h with h|⟨o,b,n,d,hc,c,f,r⟩
 ·obtain⟨z,b,r,p⟩:=h.ok I.hok;exact⟨b,r,p,z⟩
 ·refine⟨b.toList,r,⟨o,I.kIn a o d,hc,n,by simpa using c⟩,?_⟩;have e:=r.length;simp only[aB]at e;lia
def Inv.list_inj(I:Inv X pins σ H s)(h:lJ X.K H a xs)(h':lJ X.K H a ys):xs=ys:=by
 obtain⟨b,r,⟨o,n,e,_,_,d⟩,_⟩:=I.list h;obtain⟨its',g,⟨o',j,f,_,_,c⟩,_⟩:=I.list h';rw[e]at f;cases f;rw[d]at c;injection c with i _;have:b=its':=by simpa using congrArg Array.toList i
 subst this;exact r.inj g
def Inv.tuple_inj(I:Inv X pins σ H s)(h:jL X.K H a xs)(h':jL X.K H a ys):xs=ys:=by
 obtain⟨b,r,⟨o,e,_,n,d⟩,_⟩:=I.tuple h;obtain⟨its',g,⟨o',f,_,j,c⟩,_⟩:=I.tuple h';rw[e]at f;cases f;rw[d]at c;injection c with i _;have:b=its':=by simpa using congrArg Array.toList i
 subst this;exact r.inj g
end
abbrev Cx.wish(X:Cx)(E:cX->cY->Prop):Cx:={X with xe:=E}
abbrev Cx.nox(X:Cx):Cx:=X.wish λ_ _=>False
def Cx.Ok.wish{X:Cx}(ok:X.Ok)(E:cX->cY->Prop):(X.wish E).Ok:=
 ⟨ok.mod,ok.kind,ok.glob,ok.blt,ok.above,ok.inj,ok.has,ok.cab,ok.hd,ok.frames,ok.stk,ok.exf,ok.bs,ok.bsz,ok.noex,ok.exfs,ok.funs,ok.frf⟩
def Cx.Ok.unwish{X:Cx}{E:cX->cY->Prop}(ok:(X.wish E).Ok):X.Ok:=
 ⟨ok.mod,ok.kind,ok.glob,ok.blt,ok.above,ok.inj,ok.has,ok.cab,ok.hd,ok.frames,ok.stk,ok.exf,ok.bs,ok.bsz,ok.noex,ok.exfs,ok.funs,ok.frf⟩
section
variable{X:Cx}{pins:List (cZ×Obj)}{σ:St}{H:Hp}{s:cY}{E:cX->cY->Prop}
def Inv.wish(I:Inv X pins σ H s)(E:cX->cY->Prop):Inv (X.wish E) pins σ H s:=⟨I.ok.wish E,I.os,I.bare,I.base,I.loc,I.cell,I.free,I.freeC,I.pin,I.hok,I.len⟩
def Inv.unwish(I:Inv (X.wish E) pins σ H s):Inv X pins σ H s:=⟨I.ok.unwish,I.os,I.bare,I.base,I.loc,I.cell,I.free,I.freeC,I.pin,I.hok,I.len⟩
def SP.unwish{D:jN}{f:Flow}{s':cY}(h:SP (X.wish E) pins D f s'):SP X pins D f s':=by
 cases f with
 |next=>obtain⟨a,H',I,q⟩:=h;exact⟨a,H',I.unwish,q⟩
 |brk=>obtain⟨a,H',I,q⟩:=h;exact⟨a,H',I.unwish,q⟩
 |cont=>obtain⟨a,H',I,q⟩:=h;exact⟨a,H',I.unwish,q⟩
 |ret u=>obtain⟨v,a,H',I,r,q⟩:=h;exact⟨v,a,H',I.unwish,r,q⟩
def uy.nox{st:List df}{t:TS}(h:uy X.nox st t):uy X st t:=λpins s σ H D I a=>
 wpAny_mono (h pins s σ H D (I.wish _) a) (λ_ _ q=>q.unwish) λ_ _ z=>False.elim z
end
section
variable{X:Cx}{st:df}{rest:List df}{t u:TS}{e:Expr}{te:TE}{pos:Pos}
def Ic:TS:=λD σ H=>D.nx σ H
def Ku(t u:TS):TS:=λD σ H=>t {D with nx:=u D} σ H
def Cs:uy X [] Ic:=λ_ _ σ H _ I h=>wpAny_execs_nil ⟨σ,H,I,h⟩
def zE(h1:PS X st t)(h2:uy X rest u):uy X (st::rest) (Ku t u):=by
 intro pins s σ H D I h;refine wpAny_execs_cons (eR (h1 pins s σ H {D with nx:=u D} I h) λf c q=>?_);cases f with
 |next=>
  obtain⟨a,H',b,q⟩:=q;exact h2 pins c a H' D b q
 |ret v=>exact q
 |brk=>exact q
 |cont=>exact q
def Cr(h1:PS X st t):uy X [st] t:=by
 intro pins s σ H D I h;refine wpAny_execs_cons (eR (h1 pins s σ H D I h) λf a q=>?_);cases f with
 |next=>exact wpAny_execs_nil q
 |ret v=>exact q
 |brk=>exact q
 |cont=>exact q
def Inv.quiet{pins:List (cZ×Obj)}{σ:St}{H:Hp}{s:cY}(I:Inv X pins σ H s):interactive X.env=ah:=by simp[interactive,I.ok.kind]
def Ih(te:TE):TS:=λD σ H=>te σ H λ_ H1=>D.nx σ H1
def Ct(he:PE X e te)(hs:swapsWith e aj pos.line X.env=pure ah:=by rfl):PS X (.Expr e pos) (Ih te):=by
 intro pins s σ H D I h;exact wpAny_Expr_any (eR (he pins s σ H _ I h) λv c ⟨x,H1,a,d,b⟩=>⟨σ,H1,a,b⟩) I.quiet hs
def Kv(te:TE):TS:=λD σ H=>te σ H D.rt
def Fy(he:PE X e te):PS X (.Return (wq e) pos) (Kv te):=by
 intro pins s σ H D I h;exact wpAny_Return_some (eR (he pins s σ H _ I h) λv d ⟨x,H1,a,c,b⟩=>⟨x,σ,H1,a,c,b⟩)
def KD(c:TT)(t u:TS):TS:=λD σ H=>c σ H λb H1=>if b=ai then t D σ H1 else u D σ H1
def IE{c:Expr}{a b:List df}{tc:TT}(hc:PT X c tc)(ha:uy X a t)(hb:uy X b u):PS X (.If c a b pos) (KD tc t u):=by
 intro pins s σ H D I h;refine wpAny_If (eR (hc pins s σ H _ I h) λd g ⟨H1,e,f⟩=>?_);cases d with
 |true=>exact ha pins g σ H1 D e f
 |false=>exact hb pins g σ H1 D e f
end
abbrev TG:=V->St->Hp->(St->Hp->Prop)->Prop
abbrev EU:=List V->St->Hp->(St->Hp->Prop)->Prop
def PG(X:Cx)(target:Expr)(t:TG):Prop:=
 ∀(pins:List (cZ×Obj)) (s:cY) (σ:St) (H:Hp) (v:V) (u:cX) (Q:St->Hp->Prop),Inv X pins σ H s->dF v u->t v σ H Q ->
  da (model X.prog X.w) X.A (assign target X.env u) (λ_ s'=>∃ σ' H',Inv X pins σ' H' s'/\Q σ' H') X.xe s
def HH(X:Cx)(ts:List Expr)(t:EU):Prop:=
 ∀(pins:List (cZ×Obj)) (s:cY) (σ:St) (H:Hp) (vs:List V) (us:List cX) (Q:St->Hp->Prop),Inv X pins σ H s->dQ vs us->t vs σ H Q ->
  da (model X.prog X.w) X.A (assignInOrder ((assignEach ts X.env).map (·.2)) us) (λ_ s'=>∃ σ' H',Inv X pins σ' H' s'/\Q σ' H') X.xe s
abbrev HG:=V->V->V->Hp->(Hp->Prop)->Prop
def vz(X:Cx)(t:HG):Prop:=
 ∀(pins:List (cZ×Obj)) (s:cY) (σ:St) (H:Hp) (o i v:V) (ov iv u:cX) (Q:Hp->Prop),Inv X pins σ H s->dF o ov->dF i iv->dF v u->t o i v H Q ->
  da (model X.prog X.w) X.A (setItem ov iv u) (λ_ s'=>∃H',Inv X pins σ H' s'/\Q H') X.xe s
section
variable{X:Cx}{pos:Pos}
def wK(i:Nat):TG:=λv σ H Q=>Q (σ.set i (wq v)) H
def wc{i:Nat}{x:Str}(hN:X.N.Nodup)(hi:X.N[i]?=wq x)(hx:yr X.env.scope x)(hf:X.fn x=ai\/X.env.scope.names.lookup x=wq .local:=by first|exact .inl rfl|exact .inr rfl|assumption):PG X (.Name x pos) (wK i):=by
 intro pins s σ H v u Q I r h;exact wpAny_assign_Name (kN I hN hi hx r (λs' a=>⟨_,H,a,h⟩) hf)
def K5:EU:=λvs σ H Q=>vs=[]/\Q σ H
def JA(t:TG)(u:EU):EU:=λvs σ H Q=>∃v r,vs=v::r/\t v σ H fun σ' H'=>u r σ' H' Q
def CF:HH X [] K5:=by
 intro pins s σ H vs a Q I r h;obtain⟨e,h⟩:=h;subst e;cases r;exact assignInOrder_nil ⟨σ,H,I,h⟩
def zM{e:Expr}{es:List Expr}{t:TG}{u:EU}(h1:PG X e t)(h2:HH X es u)(hs:(assignEach (e::es) X.env).map (·.2)=assign e X.env::(assignEach es X.env).map (·.2):=by rfl):HH X (e::es) (JA t u):=by
 intro pins s σ H vs j Q I r h;obtain⟨v,i,f,h⟩:=h;subst f;cases r with
 |cons r b=>
  rw[hs];refine assignInOrder_cons (eR (h1 pins s σ H _ _ _ I r h) λ_ g ⟨a,H1,c,d⟩=>?_);exact h2 pins g a H1 _ _ Q c b d
def gTup(K:Fg1)(n:Nat)(t:EU):TG:=λv σ H Q=>∃a xs,v = .ref a/\jL K H a xs/\xs.length=n/\t xs σ H Q
def FL{es:List Expr}{k:Nat}{t:EU}{n:Nat}(hc:X.calm=ai)(h:HH X es t)(hn:(assignEach es X.env).length=n:=by rfl)(hst:(assignEach es X.env).findIdx? (·.1)=aj:=by rfl):PG X (.Tuple es k pos) (gTup X.K n t):=by
 intro pins s σ H v u Q I r c;obtain⟨a,xs,j,p,l,c⟩:=c;subst j;cases r;obtain⟨m,d,g,q⟩:=I.tuple p;refine assign_Tuple_tuple (I.ok.hd hc) g (by simp[hn,<- l,d.length]) hst λh' i=>?_;have f:Inv X pins σ H {s with heap:=h'}:=I.kept (t':=s.toks) λb o e=>i b o (nN1 (hL1 e)) e;exact h pins _ σ H xs _ Q f (by simpa using d) c
def gSub(to ti:TE)(t:HG):TG:=λv σ H Q=>to σ H λo H1=>ti σ H1 λi H2=>t o i v H2 λH3=>Q σ H3
def FM{o i:Expr}{to c:TE}{t:HG}(ho:PE X o to)(hi:PE X i c)(hs:vz X t)(ha:∀v,assign (.Subscript o i pos) X.env v=(do
   let a<-holding [v] (eval o X.env)
   let b<-holding [v,a] (eval i X.env)
   standAt pos
   holding [v,a,b] (setItem a b v)
   release [v,a,b] []):=by intro _;rfl):PG X (.Subscript o i pos) (gSub to c t):=by
 intro pins s σ H v u Q I r h;rw[ha];refine wB1 (wpAny_holding (eR (ho pins s σ H _ I h) λa n ⟨x,H1,d,j,m⟩=>?_));refine wB1 (wpAny_holding (eR (hi pins n σ H1 _ d m) λb e ⟨y,H2,k,r2,p⟩=>?_));refine wB1 (wpAny_standAt (wB1 (wpAny_holding (eR (hs pins e σ H2 x y v a b u _ k j r2 r p) λ_ q ⟨l,g,f⟩=>?_))));exact wpAny_release ⟨σ,l,g,f⟩
def zh(te:TE)(g:TG):TS:=λD σ H=>te σ H λx H1=>g x σ H1 D.nx
def FD{tg e:Expr}{te:TE}{g:TG}(he:PE X e te)(hg:PG X tg g)(hs:swapsWithSole [tg] e pos.line X.env=pure ah:=by rfl)(hw:swappedStores [tg] e X.env=pure aj:=by rfl)(h1:(assignEach [tg] X.env).map (·.2)=[assign tg X.env]:=by rfl):PS X (.Assign [tg] e pos) (zh te g):=by
 intro pins s σ H D I h;refine wpAny_Assign_stores (eR (he pins s σ H _ I h) λv d ⟨x,H1,a,b,c⟩=>?_) hs hw;rw[h1];exact eR (hg pins d σ H1 x v _ a b c) λ_ f q=>q
def Fx{i:Nat}{x:Str}{e:Expr}{te:TE}{pos':Pos}(hN:X.N.Nodup)(hi:X.N[i]? = some x)(hx:yr X.env.scope x)(he:PE X e te)(hs:swapsWith e (some (.Name x pos')) pos.line X.env=pure false:=by rfl)(hf:X.fn x=true\/X.env.scope.names.lookup x=some .local:=by first | exact .inl rfl | exact .inr rfl | assumption):
  PS X (.Assign [.Name x pos'] e pos) (zh te (wK i)):=by
 intro pins s σ H D I h;refine wpAny_Assign_Name (eR (he pins s σ H _ I h) λv g ⟨y,H1,a,b,d⟩=>?_) hs;exact kN a hN hi hx b (λf c=>⟨_,H1,c,d⟩) hf
def Kw(i j:Nat)(ta:TA):TS:=λD σ H=>ta σ H λvs H1=>∃v w,vs=[v,w]/\D.nx ((σ.set i (wq v)).set j (wq w)) H1
def Fz{i j:Nat}{x y:Str}{a b:Expr}{ta:TA}{k g pt:Pos}{kt k2 pt2}(hc:X.calm=true)(hN:X.N.Nodup)(hi:X.N[i]? = some x)(E:X.N[j]? = some y)(f:i≠j)(hx:X.env.scope.names.lookup x=some .local)(hy:X.env.scope.names.lookup y=some .local)(ha:PA X [a,b] ta)(hw:swappedStores [.Tuple [.Name x k,.Name y g] kt pt] (.Tuple [a,b] k2 pt2) X.env=pure (some [x,y]))(hs:swapsWithSole [.Tuple [.Name x k,.Name y g] kt pt] (.Tuple [a,b] k2 pt2) pos.line X.env=pure false:=by rfl):
  PS X (.Assign [.Tuple [.Name x k,.Name y g] kt pt] (.Tuple [a,b] k2 pt2) pos) (Kw i j ta):=by
 intro pins s σ H D I h;rw[exec_Assign_arm];refine wB1 (wpAny_standAt ?_);rw[hs];refine wB1 (wP1 ?_);rw[if_neg (by decide)];refine wB1 (Tuple_ (eR (ha _ pins s σ H _ I h) λA c ⟨vs,H1,F,z,m⟩=>?_));obtain⟨v,w,K,m⟩:=m;subst K;obtain⟨d,u2,rfl,C,n⟩:∃d u2,A=[d,u2]/\dF v d/\dF w u2:=by
  cases z with
  |cons p q=>
   cases q with
   |cons u B=>
    cases B;exact⟨_,_,ag,p,u⟩
 refine wO1 ?_ (by show 2<=c9;decide);have J:Inv X pins σ H1 {c with heap:=c.heap.push {cls:=.type "tuple",data:=.seq [d,u2].toArray}}:=F.kept (t':=c.toks) λb o e=>hP1 _ e;rw[hw];refine wB1 (wP1 ?_);show da (model X.prog X.w) X.A (do rule "assign.swapped-stores";let items<-unpackItems (.ref c.heap.objs.size) 2 aj;assignInOrder [λv=>bindName X.env y v,λv=>bindName X.env x v] items.reverse;pure Flow.next) _ _ _;refine wB1 (wpAny_rule (wB1 (unpackItems_tuple (items:= #[d,u2]) (I.ok.hd hc) (IsTup.new c.heap _) λh' l=>?_)));have G:=J.kept (h':=h') (t':=c.toks) λb o e=>l b o (nN1 (hL1 e)) e;show da _ _ (assignInOrder [λv=>bindName X.env y v,λv=>bindName X.env x v] [u2,d] >>= λ_=>pure Flow.next) _ _ _;refine wB1 (assignInOrder_cons (wpAny_bindName (kN G hN E (.inl hy) n (λL t=>?_) (.inr hy))));refine assignInOrder_cons (wpAny_bindName (kN t hN hi (.inl hx) C (λM r=>assignInOrder_nil (wP1 ?_)) (.inr hx)));rw[List.set_comm _ _ (Ne.symm f)]at r;exact⟨_,H1,r,m⟩
def zd(c:TT)(tb:TS):TS:=λD σ H=>∃W:Nat->St->Hp->Prop,(∃m,W m σ H) /\ ∀m σ H,W m σ H ->
 c σ H λb H1=>if b=ai then∃N:St->Hp->Prop,(∀ σ' H',N σ' H' -> ∃m',m'<m/\W m' σ' H')/\tb {D with nx:=N,ct:=N,bk:=D.nx} σ H1 else D.nx σ H1
def zF{c:Expr}{e:List df}{tc:TT}{tb:TS}(hp:PassesOwn (model X.prog X.w) X.A X.env X.xe)(hc:PT X c tc)(hb:uy X e tb):PS X (.While c e [] pos) (zd tc tb):=by
 intro pins s σ H D I h;obtain⟨W,⟨A,w⟩,i⟩:=h;refine wpAny_While (codeAny_whileLoop (λn s'=>∃j H',Inv X pins j H' s'/\W n j H') ?_ A ⟨σ,H,I,w⟩);rintro n y ⟨d,H1,B,z⟩;refine wpAny_passesOwn hp (eR (hc pins y d H1 _ B (i n d H1 z)) λb x ⟨H2,u,k⟩=>?_);cases b with
 |true=>
  obtain⟨N,t,k⟩:=k;rw[if_pos ag];refine wpAny_passesOwn hp (eR (hb pins x d H2 _ u k) λf C l=>?_);cases f with
  |next=>
   obtain⟨a,g,q,p⟩:=l;obtain⟨r,m,o⟩:=t a g p;exact⟨r,m,a,g,q,o⟩
  |cont=>
   obtain⟨a,g,q,p⟩:=l;obtain⟨r,m,o⟩:=t a g p;exact⟨r,m,a,g,q,o⟩
  |brk=>exact l
  |ret v=>exact l
 |false=>
  rw[if_neg aC];exact wpAny_execs_nil ⟨d,H2,u,k⟩
end
structure It where
 go:Nat->Hp->Prop
 yld:Nat->Hp->V->Hp->Prop
 stop:Nat->Hp->Prop
def j7(X:Cx)(pins:List (cZ×Obj))(H:Hp)(b:cZ):Prop:=
 H b=aj/\b≠X.env.locals/\b∉X.fs/\(b∈X.ex\/X.s₀.heap.objs.size<=b)/\(∀x c,X.env.cells.lookup x=wq c->c≠b) /\ ∀p∈X.pn++pins,p.1≠b
def Inv.fpOk{X:Cx}{pins:List (cZ×Obj)}{σ:St}{H H':Hp}{s:cY}{b:cZ}(I:Inv X pins σ H s)(hb:s.heap.objs.size<=b)(hn:H' b=aj):j7 X pins H' b:=by
 refine⟨hn,nG1 (nL1 I.lt hb),I.nofs hb,.inr (au I.sz hb),λx c e z=>?_,λp a z=>?_⟩
 ·obtain⟨v,q⟩:=I.cell x c e;exact absurd (nL1 q.lt (by rw[z];exact hb)) (ap _)
 ·exact absurd (nL1 (hL1 (I.pin p a).1) (by rw[z];exact hb)) (ap _)
structure vx (P:c0)(w:c6)(K:Fg1)(tg:Expr)(J:It)(fp:List cZ)(it:cZ)(tn:Nat->db->Prop):Prop where
 mem:it∈fp
 obj:∀i h,tn i h -> ∀b∈fp,∃o,h.get? b=some o /\ ∀v,o.data ≠ .cell v
 keep:∀i h h',tn i h->(∀b∈fp,∀o,h.get? b=some o->h'.get? b=some o)->tn i h'
 item:∀(X:Cx),X.prog=P->X.w=w->X.K=K->X.calm=true -> ∀(i:Nat) (pins:List (cZ×Obj)) (s:cY) (σ:St) (H:Hp) (E:cX->cY->Prop),Inv X pins σ H s->(∀b∈fp,j7 X pins H b)->tn i s.heap->J.go i H ->
  da (model P w) X.A (pyNext (.ref it)) (λr s1=>∃u,r=some u /\
   da (model P w) X.A (letOwnedTupleGo tg (.ref it) u) (λ_ s2=>∃x H',Inv X pins σ H' s2/\dF x u/\J.yld i H x H'/\tn (i+1) s2.heap /\ ∀b∈fp,H' b=none) E s1) E s
 done:∀(X:Cx),X.prog=P->X.w=w->X.K=K->X.calm=true -> ∀(i:Nat) (pins:List (cZ×Obj)) (s:cY) (σ:St) (H:Hp) (E:cX->cY->Prop),Inv X pins σ H s->(∀b∈fp,j7 X pins H b)->tn i s.heap->J.stop i H ->
  da (model P w) X.A (pyNext (.ref it)) (λr s1=>r=none/\Inv X pins σ H s1) E s
 self:∀(A:c5) (i:Nat) (s:cY) (Q:cX->cY->Prop) (E:cX->cY->Prop),tn i s.heap->Q (.ref it) s->da (model P w) A (pyIter (.ref it)) Q E s
abbrev TI:=St->Hp->(It->Hp->Prop)->Prop
def LK(X:Cx)(pins:List (cZ×Obj))(σ:St)(tg:Expr)(R:It->Hp->Prop)(itv:cX)(s2:cY):Prop:=
 ∃(it:cZ) (fp:List cZ) (tn:Nat->db->Prop) (J:It) (H':Hp),itv = .ref it/\Inv X pins σ H' s2/\vx X.prog X.w X.K tg J fp it tn/\tn 0 s2.heap/\(∀b∈fp,j7 X pins H' b)/\R J H'
def PI(X:Cx)(tg iter:Expr)(wi:TI):Prop:=
 ∀(pins:List (cZ×Obj)) (s:cY) (σ:St) (H:Hp) (R:It->Hp->Prop),Inv X pins σ H s->wi σ H R ->
  da (model X.prog X.w) X.A (eval iter X.env) (λv s1=>da (model X.prog X.w) X.A (pyIter v) (LK X pins σ tg R) X.xe s1) X.xe s
def AX {M:Model}{A:c5}{E:cX->cY->Prop}{s:cY}{tg:Expr}{it:cZ}{u:cX}{o:Obj}{n:String}{vs:Array cX}{Q:Unit->cY->Prop}(ho:s.heap.get? it=some o)(hc:o.cls = .type n)(hd:o.data = .fields vs)
   (hn:["enumerate","zip","dict_itemiterator","dict_reverseitemiterator","odict_iterator","itertools.zip_longest","itertools.pairwise"].contains n=ah) (a:Q () s):da M A (letOwnedTupleGo tg (.ref it) u) Q E s:=by
 unfold letOwnedTupleGo;cases tg <;> first
   |exact wP1 a
   | (cases u<;>first
       |exact wP1 a
       | (refine wB1 (wpAny_load ho ?_)
          rw[hc,hd];show da M A (if(["enumerate","zip","dict_itemiterator","dict_reverseitemiterator","odict_iterator","itertools.zip_longest","itertools.pairwise"].contains n&&vs[0]? == wq (rawInt _))=ai then _ else _) Q E s;rw[if_neg (by intro h;rw[hn,aD]at h;cases h)];exact wP1 a))
def LP(K:Fg1)(a:cZ):It:=
 ⟨λi H=>∃xs x,lJ K H a xs/\xs[i]?=wq x,λi H x H'=>H'=H /\ ∀xs,lJ K H a xs->xs[i]?=wq x,λi H=>∃xs,lJ K H a xs/\xs.length<=i⟩
def LO(K:Fg1)(a:cZ):It:=
 ⟨λi H=>∃xs x,jL K H a xs/\xs[i]?=wq x,λi H x H'=>H'=H /\ ∀xs,jL K H a xs->xs[i]?=wq x,λi H=>∃xs,jL K H a xs/\xs.length<=i⟩
def J4(lo:Int)(n:Nat):It:=⟨λi _=>i<n,λi H x H'=>H'=H/\x = .int (lo+i),λi _=>n<=i⟩
def xj{P:c0}{w:c6}{K:Fg1}{tg:Expr}(a it:cZ):vx P w K tg (LP K a) [it] it (λi h=>h.IsListIter it a i) where
 mem:=by simp
 obj:=λi h st b f=>by
  have e:b=it:=by simpa using f
  subst e;obtain⟨o,e,c,d⟩:=st;exact⟨o,e,λv z=>by rw[d]at z;cases z⟩
 keep:=λi h h' st k=>st.at λo e=>k it (by simp) o e
 item:=by
  intro X m G F hc i pins s σ H E I j st B;subst m G F;obtain⟨xs,x,l,D⟩:=B;obtain⟨y,r,p,N⟩:=I.list l;obtain⟨u,M,J⟩:=r.get D;obtain⟨n,A,O,t,C,q⟩:=j it (by simp);refine wpAny_pyNext_list_item st p.isList (x:=u) (by simpa using M) λh' g L=>?_;have Q:Inv X pins σ H {s with heap:=h'}:=I.turned (t':=s.toks) (λb o f e=>(L.2 b f).trans e) n A t C q;obtain⟨o,e,c,d⟩:=id g;exact⟨u,ag,AX (s:={s with heap:=h'}) e c d (by decide) ⟨x,H,Q,J,⟨ag,λys R=>by rw[I.list_inj R l];exact D⟩,g,λb f=>(j b f).1⟩⟩
 done:=by
  intro X m G F hc i pins s σ H E I j st B;subst m G F;obtain⟨xs,l,D⟩:=B;obtain⟨y,r,p,N⟩:=I.list l;obtain⟨n,A,O,t,C,q⟩:=j it (by simp);have S:=r.length;exact wpAny_pyNext_list_end (I.ok.hd hc) st p.isList (by simp;lia) λh' eb=>⟨ag,I.turned (t':=s.toks) (λb o f e=>eb b o f e) n A t C q⟩
 self:=λ_ _ _ _ _ st h=>wpAny_pyIter_listiter st h
def uG{P:c0}{w:c6}{K:Fg1}{tg:Expr}(a it:cZ):vx P w K tg (LO K a) [it] it (λi h=>h.IsTupleIter it a i) where
 mem:=by simp
 obj:=λi h st b f=>by
  have e:b=it:=by simpa using f
  subst e;obtain⟨o,e,c,d⟩:=st;exact⟨o,e,λv z=>by rw[d]at z;cases z⟩
 keep:=λi h h' st k=>st.at λo e=>k it (by simp) o e
 item:=by
  intro X n G F hc i pins s σ H E I l st B;subst n G F;obtain⟨xs,x,m,D⟩:=B;obtain⟨g,t,p,N⟩:=I.tuple m;obtain⟨u,M,J⟩:=t.get D;obtain⟨q,A,O,y,C,r⟩:=l it (by simp);refine wpAny_pyNext_tuple_item st (show s.heap.IsTuple a g.toArray from p) (x:=u) (by simpa using M) λh' j L=>?_;have Q:Inv X pins σ H {s with heap:=h'}:=I.turned (t':=s.toks) (λb o f e=>(L.2 b f).trans e) q A y C r;obtain⟨o,e,c,d⟩:=id j;exact⟨u,ag,AX (s:={s with heap:=h'}) e c d (by decide) ⟨x,H,Q,J,⟨ag,λys R=>by rw[I.tuple_inj R m];exact D⟩,j,λb f=>(l b f).1⟩⟩
 done:=by
  intro X n G F hc i pins s σ H E I l st B;subst n G F;obtain⟨xs,m,D⟩:=B;obtain⟨g,t,p,N⟩:=I.tuple m;obtain⟨q,A,O,y,C,r⟩:=l it (by simp);have S:=t.length;exact wpAny_pyNext_tuple_end (I.ok.hd hc) st (show s.heap.IsTuple a g.toArray from p) (by simp;lia) λh' eb=>⟨ag,I.turned (t':=s.toks) (λb o f e=>eb b o f e) q A y C r⟩
 self:=λ_ _ _ _ _ st h=>wpAny_pyIter_tupleiter st h
def uH{P:c0}{w:c6}{K:Fg1}{tg:Expr}(it:cZ)(lo:Int)(n:Nat):vx P w K tg (J4 lo n) [it] it (λi h=>IsRangeIter h it (lo+(i:Nat)*1) ((n:Int)-(i:Nat)) 1) where
 mem:=by simp
 obj:=λi h st b a=>by
  have e:b=it:=by simpa using a
  subst e;exact⟨_,st,λv z=>by
   have C:Data.fields _=Data.cell v:=z;cases C⟩
 keep:=λi h h' st k=>k it (by simp) _ st
 item:=by
  intro X m r p hc i pins s σ H E I d st f;subst m r p;obtain⟨u,q,B,g,l,j⟩:=d it (by simp);have W:=Walks.range (prog:=X.prog) (w:=X.w) (I.ok.hd hc) it lo 1 n;refine W.item i s _ _ f st λv h' tk y c A=>?_;obtain⟨t,rfl⟩:=y;have x:Inv X pins σ H {s with heap:=h',toks:=tk}:=I.turned (λb o a e=>A b o (by simpa using a) e) u q g l j;refine⟨_,ag,AX (s:={s with heap:=h',toks:=tk}) (n:="range_iterator") c ag ag (by decide) ⟨.int (lo+i),H,x,⟨t,?_⟩,⟨ag,ag⟩,c,λb a=>(d b a).1⟩⟩;rw[Int.mul_one]
 done:=by
  intro X m r p hc i pins s σ H E I d st f;subst m r p;obtain⟨u,q,B,g,l,j⟩:=d it (by simp);exact wpAny_pyNext_range_end (I.ok.hd hc) st (by have:n<=i:=f;lia) λh' eb=>⟨ag,I.turned (t':=s.toks) (λb o a e=>eb b o a e) u q g l j⟩
 self:=λ_ _ _ _ _ st h=>wpAny_pyIter_rangeiter st h
end L2
namespace L2
open PySem PySem.Spec PyProof.Rows
section
variable{X:Cx}{tg:Expr}
def Jx(K:Fg1)(tl:TE):TI:=fun σ H R=>tl σ H λx H1=>∃a,x = .ref a/\(∃xs,lJ K H1 a xs)/\R (LP K a) H1
def K4(K:Fg1)(tl:TE):TI:=fun σ H R=>tl σ H λx H1=>∃a,x = .ref a/\(∃xs,jL K H1 a xs)/\R (LO K a) H1
def CC{l:Expr}{tl:TE}(j:PE X l tl):PI X tg l (Jx X.K tl):=by
 intro pins s σ H R I h;refine eR (j pins s σ H _ I h) λv d ⟨x,H1,c,g,i⟩=>?_;obtain⟨a,e,⟨xs,m⟩,q⟩:=i;subst e;cases g;obtain⟨k,n,p,r⟩:=c.list m;refine wpAny_pyIter_list p.isList ?_;refine⟨d.heap.objs.size,[d.heap.objs.size],_,_,H1,ag,c.kept (t':=d.toks) λb o e=>hP1 _ e,xj a _,⟨_,hS1 _ ag,ag,ag⟩,λb f=>?_,q⟩;have e:b=d.heap.objs.size:=by simpa using f
 subst e;exact c.fpOk (nR1 _) (c.hok.fresh (nR1 _))
def FK{l:Expr}{tl:TE}(k:PE X l tl):PI X tg l (K4 X.K tl):=by
 intro pins s σ H R I h;refine eR (k pins s σ H _ I h) λv c ⟨x,H1,d,i,j⟩=>?_;obtain⟨a,e,⟨xs,m⟩,q⟩:=j;subst e;cases i;obtain⟨f,n,p,r⟩:=d.tuple m;refine wpAny_pyIter_tuple (show c.heap.IsTuple a f.toArray from p) ?_;refine⟨c.heap.objs.size,[c.heap.objs.size],_,_,H1,ag,d.kept (t':=c.toks) λb o e=>hP1 _ e,uG a _,⟨_,hS1 _ ag,ag,ag⟩,λb g=>?_,q⟩;have e:b=c.heap.objs.size:=by simpa using g
 subst e;exact d.fpOk (nR1 _) (d.hok.fresh (nR1 _))
def sO{pins:List (cZ×Obj)}{σ:St}{H:Hp}{s:cY}{R:It->Hp->Prop}{E:cX->cY->Prop}{lo hi:Int}{t u v:Tok}{tk:Nat}(I:Inv X pins σ H s)(h1: -(2^62)<=lo)(h2:lo<2^62)(d: -(2^62)<=hi)(f:hi<2^62)(q:R (J4 lo (hi-lo).toNat) H):da (model X.prog X.w) X.A (pyIter (.ref s.heap.objs.size)) (LK X pins σ tg R) E {s with heap:=s.heap.push {cls:=.type "range",data:=.fields #[.int lo t,.int hi u,.int 1 v]},toks:=tk}:=by
 refine wpAny_pyIter_range (IsRange.new ..) (small_one h1 h2 d f) ?_;have a:Inv X pins σ H {s with heap:=s.heap.push {cls:=.type "range",data:=.fields #[.int lo t,.int hi u,.int 1 v]},toks:=tk}:=I.kept λb o e=>hP1 _ e;refine⟨(s.heap.push {cls:=.type "range",data:=.fields #[.int lo t,.int hi u,.int 1 v]}).objs.size,[(s.heap.push {cls:=.type "range",data:=.fields #[.int lo t,.int hi u,.int 1 v]}).objs.size],_,_,H,ag,
  a.kept (t':=tk) λb o e=>hP1 _ e,uH _ lo (hi-lo).toNat,?_,λb c=>?_,q⟩
 ·have g:lo+((0:Nat):Int)*1=lo:=by simp
  have h:(((hi-lo).toNat:Nat):Int)-((0:Nat):Int)=Builtin.Range.rangeSize lo hi 1:=by rw[rangeSize_one];split<;>lia
  show IsRangeIter _ _ (lo+((0:Nat):Int)*1) ((((hi-lo).toNat:Nat):Int)-((0:Nat):Int)) 1;rw[g,h];exact hS1 _ ag
 ·have e:b=(s.heap.push {cls:=.type "range",data:=.fields #[.int lo t,.int hi u,.int 1 v]}).objs.size:=by simpa using c
  subst e;exact a.fpOk (nR1 _) (a.hok.fresh (nR1 _))
def Jw(ta:TA):TI:=fun σ H R=>ta σ H λvs H1=>∃j:Int,vs=[.int j] /\ -(2^62)<=j/\j<2^62/\R (J4 0 j.toNat) H1
def Jv(ta:TA):TI:=fun σ H R=>ta σ H λvs H1=>∃i j:Int,vs=[.int i,.int j]/\(-(2^62)<=i/\i<2^62 /\ -(2^62)<=j/\j<2^62)/\R (J4 i (j-i).toNat) H1
def xG {a:Expr}{ta:TA}{p pos:Pos}(hg:Gl X "range")(hm:X.mg "range"=aj)(ha:PA X [a] ta)(hs:c8 [a] X.env=[(ah,eval a X.env)]:=by rfl):PI X tg (.Call (.Name "range" p) [a] [] pos) (Jw ta):=by
 intro pins s σ H R I h;refine Call_ (jz I hg hm boot_range (PyProof.Rows.callWith_type1 (eR (ha pos pins s σ H _ I h) λk i ⟨vs,H1,d,f,b⟩=>?_) hs ag));obtain⟨j,e,b,g,q⟩:=b;subst e;cases f with
 |cons r c=>
  cases c;obtain⟨t,rfl⟩:=r;exact call_range_1 (sO d (by lia) (by lia) b g (by simpa using q))
def xF {a b:Expr}{ta:TA}{p pos:Pos}(hg:Gl X "range")(hm:X.mg "range"=none)(ha:PA X [a,b] ta)(hs:c8 [a,b] X.env=[(false,eval a X.env),(false,eval b X.env)]:=by rfl)(hs2:c8 [b] X.env=[(false,eval b X.env)]:=by rfl):
  PI X tg (.Call (.Name "range" p) [a,b] [] pos) (Jv ta):=by
 intro pins s σ H R I h;refine Call_ (jz I hg hm boot_range (PyProof.Rows.callWith_type1 (eR (ha pos pins s σ H _ I h) λu o ⟨vs,H1,f,k,d⟩=>?_) (by rw[hs,hs2]) (by rw[hs2];rfl)));obtain⟨i,j,e,⟨d,l,g,n⟩,q⟩:=d;subst e;cases k with
 |cons r c=>
  cases c with
  |cons m c=>
   cases c;obtain⟨t,rfl⟩:=r;obtain⟨v,rfl⟩:=m;exact call_range_2 (sO f d l g n q)
def Ig(wi:TI)(g:TG)(tb:TS):TS:=λD σ H=>wi σ H λJ H1=>∃W:Nat->Nat->St->Hp->Prop,(∃m,W 0 m σ H1) /\ ∀i m σ H,W i m σ H ->
 (J.stop i H/\D.nx σ H)\/(J.go i H /\ ∃N:St->Hp->Prop,(∀ σ' H',N σ' H' -> ∃m',m'<m/\W (i+1) m' σ' H') /\ ∀x H',J.yld i H x H'->g x σ H' fun σ2 H2=>tb {D with nx:=N,ct:=N,bk:=D.nx} σ2 H2)
def nO(fp:List cZ)(h:db):List (cZ×Obj):=fp.filterMap λb=>(h.get? b).map λo=>(b,o)
def iV{a:List cZ}{h:db}{b:cZ}{o:Obj}(hb:b∈a)(e:h.get? b=wq o):(b,o)∈nO a h:=aE.mpr ⟨b,hb,by rw[e];rfl⟩
def xH{a:List cZ}{h:db}{p:cZ×Obj}(hp:p∈nO a h):p.1∈a/\h.get? p.1=wq p.2:=by
 obtain⟨b,c,e⟩:=aE.mp hp;cases q:h.get? b with
 |none=>rw[q]at e;cases e
 |some o=>
  rw[q]at e;have d:(b,o)=p:=Option.some.inj e;subst d;exact⟨c,q⟩
def Inv.pinned{pins:List (cZ×Obj)}{σ:St}{H:Hp}{s:cY}{a:List cZ}(I:Inv X pins σ H s)(hf:∀b∈a,j7 X pins H b)(ho:∀b∈a,∃o,s.heap.get? b=wq o /\ ∀v,o.data ≠ .cell v):Inv X (pins++nO a s.heap) σ H s:=
 I.pins_of λp h=>(ay.mp h).elim (λz=>I.pin p (mA1 _ z)) λz=>by
  obtain⟨c,e⟩:=xH z;obtain⟨j,i,g,_⟩:=hf p.1 c;obtain⟨o,f,d⟩:=ho p.1 c;rw[e]at f;cases f;exact⟨e,j,i,g,d⟩
def Inv.unpinned{pins pl:List (cZ×Obj)}{σ:St}{H:Hp}{s:cY}(I:Inv X (pins++pl) σ H s):Inv X pins σ H s:=I.pins_of λp a=>I.pin p (mA1 _ (az _ a))
def FC{iter:Expr}{t:List df}{R:TI}{g:TG}{tb:TS}{pos:Pos}(hp:PassesOwn (model X.prog X.w) X.A X.env X.xe)(hc:X.calm=ai)(hi:PI X tg iter R)(hg:PG X tg g)(hb:uy X t tb)(hs:∀x,foldedSetIterable iter X.env x=pure x:=by intro _;rfl):PS X (.For tg iter t [] pos) (Ig R g tb):=by
 intro pins s σ H D I h;refine wpAny_For (eR (hi pins s σ H _ I h) λv s1 h1=>eR h1 λitv s2 h2=>?_) hs;obtain⟨it,E,Y,J,H2,e,I2,T,O,Q,W,⟨m0,w0⟩,B⟩:=h2;subst e
 -- what stays ai of the iterator's objects through the loop
 have p:∀{H':Hp},(∀b∈E,H' b=aj) -> ∀b∈E,j7 X pins H' b:=λhn b hb=>⟨hn b hb,(Q b hb).2⟩;refine codeAny_forLoop_any (λn s'=>∃i k H',Inv X pins k H' s'/\Y i s'.heap/\(∀b∈E,H' b=aj)/\W i n k H') ?_ m0 ⟨0,σ,H2,I2,O,λb hb=>(Q b hb).1,w0⟩;rintro n S ⟨i,c,F,U,C,z,w3⟩;rcases B i n c F w3 with⟨y,qn⟩|⟨go,N,hN,step⟩
 ·refine wpAny_passesOwn hp (eR (T.done X ag ag ag hc i pins S c F X.xe U (p z) C y) λr s4 ⟨P,I4⟩=>?_);subst P;exact wpAny_execs_nil ⟨c,F,I4,qn⟩
 ·refine wpAny_passesOwn hp (eR (T.item X rfl rfl rfl hc i pins S c F X.xe U (p z) C go) fun r s4 ⟨u,P,h4⟩=>?_);subst P;refine wpAny_passesOwn hp (eR h4 fun _ Z ⟨x,V,I5,r5,y5,w,G⟩=>?_);have L:=I5.pinned (p G) (T.obj _ _ w);refine wpAny_passesOwn hp (eR (hg _ Z c V x u _ L r5 (step x V y5)) fun _ s6 ⟨K,H6,I6,q6⟩=>?_);refine wpAny_passesOwn hp (eR (hb _ s6 K H6 _ I6 q6) fun f M q=>?_);have again:∀ {a:St} {l:Hp},Inv X (pins++nO E Z.heap) a l M->N a l -> ∃ m,m<n /\ ∃ i k H',Inv X pins k H' M/\Y i M.heap/\(∀ b∈E,H' b=none)/\W i m k H':=fun {a l} j A=>by
   obtain⟨m',hm,w7⟩:=hN a l A;refine⟨m',hm,i+1,a,l,j.unpinned,T.keep _ _ _ w λb hb o e=>(j.pin (b,o) (mA1 _ (mA1 _ (iV hb e)))).1,λb hb=>?_,w7⟩;obtain⟨o,e,d⟩:=T.obj _ _ w b hb;exact(j.pin (b,o) (mA1 _ (mA1 _ (iV hb e)))).2.1
  cases f with
  |next=>obtain⟨a,l,j,A⟩:=q;exact again j A
  |cont=>obtain⟨a,l,j,A⟩:=q;exact again j A
  |brk=>obtain⟨a,l,j,q⟩:=q;exact⟨a,l,j.unpinned,q⟩
  |ret v=>obtain⟨x7,a,l,j,r7,q⟩:=q;exact⟨x7,a,l,j.unpinned,r7,q⟩
end
end L2
namespace L2
open PySem PySem.Spec PyProof.Rows
abbrev R2:=V->V->Hp->VK->Prop
def fZ(X:Cx)(f:cX->cX->Sem cX)(r:R2):Prop:=
 ∀(pins:List (cZ×Obj)) (s:cY) (σ:St) (H:Hp) (x y:V) (v u:cX) (Q:VK),Inv X pins σ H s->dF x v->dF y u->r x y H Q ->
  da (model X.prog X.w) X.A (f v u) (EP X pins σ Q) X.xe s
def HR(X:Cx)(f:cX->Sem cX)(r:V->Hp->VK->Prop):Prop:=
 ∀(pins:List (cZ×Obj)) (s:cY) (σ:St) (H:Hp) (x:V) (v:cX) (Q:VK),Inv X pins σ H s->dF x v->r x H Q ->
  da (model X.prog X.w) X.A (f v) (EP X pins σ Q) X.xe s
def eg(X:Cx)(f:cX)(r:List V->Hp->VK->Prop):Prop:=
 ∀(pins:List (cZ×Obj)) (s:cY) (σ:St) (H:Hp) (xs:List V) (us:List cX) (Q:VK),Inv X pins σ H s->dQ xs us->r xs H Q ->
  da (model X.prog X.w) X.A (call f us) (EP X pins σ Q) X.xe s
def Lm(X:Cx)(r:V->Hp->(Bool->Hp->Prop)->Prop):Prop:=
 ∀(pins:List (cZ×Obj)) (s:cY) (σ:St) (H:Hp) (x:V) (v:cX) (Q:Bool->Hp->Prop),Inv X pins σ H s->dF x v->r x H Q ->
  da (model X.prog X.w) X.A (truthy v) (TP X pins σ Q) X.xe s
def Ia(r:R2)(ta tb:TE):TE:=fun σ H Q=>ta σ H λx H1=>tb σ H1 λy H2=>r x y H2 Q
def Lz(r:V->Hp->VK->Prop)(ta:TE):TE:=fun σ H Q=>ta σ H λx H1=>r x H1 Q
def rI(C:Int->Int->Prop)(g:Int->Int->V):R2:=λx y H Q=>∃i j,x = .int i/\y = .int j/\C i j/\Q (g i j) H
def Eo(g:Int->Int->V):R2:=λx y H Q=>∃i j,x = .int i/\y = .int j/\Q (g i j) H
def rU(g:Int->V):V->Hp->VK->Prop:=λx H Q=>∃i,x = .int i/\Q (g i) H
section
variable{X:Cx}{a b c:Expr}{ta tb tc:TE}{pos:Pos}
def Hv(ha:PE X a ta)(hb:PE X b tb){pins:List (cZ×Obj)}{s:cY}{σ:St}{H:Hp}{R:V->V->Hp->Prop}(I:Inv X pins σ H s)(h:ta σ H fun x H1=>tb σ H1 fun y H2=>R x y H2){Q:cX->cY->Prop}{f:cX->cX->Sem cX}(hf:∀v u e x y H2,Inv X pins σ H2 e->dF x v->dF y u->R x y H2->da (model X.prog X.w) X.A (f v u) Q X.xe e):
  da (model X.prog X.w) X.A (eval a X.env) (λv d=>da (model X.prog X.w) X.A (eval b X.env) (λu c=>da (model X.prog X.w) X.A (f v u) Q X.xe c) X.xe d) X.xe s:=by
 refine eR (ha pins s σ H _ I h) λv l ⟨x,H1,g,i,k⟩=>?_;refine eR (hb pins l σ H1 _ g k) λu e ⟨y,H2,j,r2,m⟩=>?_;exact hf v u e x y H2 j i r2 m
def II{op:Operator}{r:R2}(ho:fZ X (binaryOp op) r)(ha:PE X a ta)(hb:PE X b tb):PE X (.BinOp a op b pos) (Ia r ta tb):=by
 intro pins s σ H Q I h;exact wpAny_BinOp (Hv ha hb I h λv u d x y H2 c f e q=>ho pins d σ H2 x y v u Q c f e q)
def IH{op:UnaryOp}{r:V->Hp->VK->Prop}(ho:HR X (unaryOp op) r)(ha:PE X a ta):PE X (.UnaryOp op a pos) (Lz r ta):=by
 intro pins s σ H Q I h;exact UnaryOp_ (eR (ha pins s σ H _ I h) λv d ⟨x,H1,b,e,c⟩=>ho pins d σ H1 x v Q b e c)
def Ki{f:cX->cX->Sem cX}{C:Int->Int->Prop}{g:Int->Int->Int}(a:∀(i j:Int) (t u:Tok) (s:cY) (Q:cX->cY->Prop) (E:cX->cY->Prop),C i j->Q (.int (g i j) s.toks) {s with toks:=s.toks+1}->da (model X.prog X.w) X.A (f (.int i t) (.int j u)) Q E s):
  fZ X f (rI C λi j=>.int (g i j)):=by
 intro pins s σ H x y v u Q I d c h;obtain⟨i,j,rfl,rfl,hc,q⟩:=h;obtain⟨t,rfl⟩:=d;obtain⟨b,rfl⟩:=c;exact a i j t b s _ _ hc ⟨.int (g i j),H,I.tok _,⟨_,ag⟩,q⟩
def IQ{f:cX->cX->Sem cX}{g:Int->Int->Int}(a:∀(i j:Int) (t u:Tok) (s:cY) (Q:cX->cY->Prop) (E:cX->cY->Prop),Q (.int (g i j) s.toks) {s with toks:=s.toks+1}->da (model X.prog X.w) X.A (f (.int i t) (.int j u)) Q E s):
  fZ X f (Eo λi j=>.int (g i j)):=by
 intro pins s σ H x y v u Q I d c h;obtain⟨i,j,rfl,rfl,q⟩:=h;obtain⟨t,rfl⟩:=d;obtain⟨b,rfl⟩:=c;exact a i j t b s _ _ ⟨.int (g i j),H,I.tok _,⟨_,ag⟩,q⟩
def F9{f:cX->cX->Sem cX}{g:Int->Int->Bool}(a:∀(i j:Int) (t u:Tok) (s:cY) (Q:cX->cY->Prop) (E:cX->cY->Prop),Q (.bool (g i j)) s->da (model X.prog X.w) X.A (f (.int i t) (.int j u)) Q E s):
  fZ X f (Eo λi j=>.bl (g i j)):=by
 intro pins s σ H x y v u Q I d c h;obtain⟨i,j,rfl,rfl,q⟩:=h;obtain⟨t,rfl⟩:=d;obtain⟨b,rfl⟩:=c;exact a i j t b s _ _ ⟨.bl (g i j),H,I,ag,q⟩
def Kb(i j:Int):Prop:=0<j/\j<1073741824
def Ka(i j:Int):Prop:=0<=j/\j<=1000000/\i.natAbs<2^64
def F8:fZ X (binaryOp .Add) (Eo λi j=>.int (i+j)):=IQ λ_ _ _ _ _ _ _ q=>add_int q
def F4:fZ X (binaryOp .Sub) (Eo λi j=>.int (i-j)):=IQ λ_ _ _ _ _ _ _ q=>sub_int q
def CO:fZ X (binaryOp .FloorDiv) (rI Kb λi j=>.int (i/j)):=Ki λi j _ _ _ _ _ hc q=>by
 have h1:(0:Int)<j:=hc.1;have h2:j<1073741824:=hc.2;exact floordiv_int (by lia) (by rw[Int.fdiv_eq_ediv_of_nonneg i (by lia)];exact q) (.inl (PyProof.noPylong_small (by lia)))
def F6:fZ X (binaryOp .Mod) (rI (λ_ j=>0<j) λi j=>.int (i%j)):=Ki λi j _ _ _ _ _ hc q=>by
 have h1:(0:Int)<j:=hc;exact mod_int' (by lia) (by rw[Int.fmod_eq_emod_of_nonneg i (by lia)];exact q)
def F5:fZ X (binaryOp .Pow) (rI Ka λi j=>.int (i^j.toNat)):=Ki λ_ _ _ _ _ _ _ hc q=>pow_int_small hc.1 hc.2.1 hc.2.2 q
def LS{f:cX->Sem cX}{g:Int->Int}(a:∀(i:Int) (t:Tok) (s:cY) (Q:cX->cY->Prop) (E:cX->cY->Prop),Q (.int (g i) s.toks) {s with toks:=s.toks+1}->da (model X.prog X.w) X.A (f (.int i t)) Q E s):
  HR X f (rU λi=>.int (g i)):=by
 intro pins s σ H x v Q I b h;obtain⟨i,rfl,q⟩:=h;obtain⟨t,rfl⟩:=b;exact a i t s _ _ ⟨.int (g i),H,I.tok _,⟨_,ag⟩,q⟩
def E3:HR X (unaryOp .USub) (rU λi=>.int (-i)):=LS λ_ _ _ _ _ q=>neg_int q
def IM:fZ X (compareOp .LtE) (Eo λi j=>.bl (decide (i<=j))):=F9 λ_ _ _ _ _ _ _ q=>le_int q
def IN:fZ X (compareOp .Gt) (Eo λi j=>.bl (decide (j<i))):=F9 λ_ _ _ _ _ _ _ q=>gt_int q
def IP:fZ X (compareOp .GtE) (Eo λi j=>.bl (decide (j<=i))):=F9 λ_ _ _ _ _ _ _ q=>ge_int q
def Ac(b:Expr){op:CmpOp}(h:op ≠ .In:=by decide)(h2:op ≠ .NotIn:=by decide):behindInMarks op b=ah:=by
 have c:(op == CmpOp.In)=ah:=by cases op<;>first|rfl|exact absurd rfl h
 have a:(op == CmpOp.NotIn)=ah:=by cases op<;>first|rfl|exact absurd rfl h2
 cases b<;>simp[behindInMarks,c,a]
def CK{op:CmpOp}{r:R2}(ho:fZ X (compareOp op) r)(ha:PE X a ta)(hb:PE X b tb)(hm:behindInMarks op b=ah):PE X (.Compare a [op] [b] pos) (Ia r ta tb):=by
 intro pins s σ H Q I h;exact wpAny_Compare1 (Hv ha hb I h λv u d x y H2 c f e q=>ho pins d σ H2 x y v u Q c f e q) hm
def Eh(t:TE):TT:=fun σ H Q=>t σ H λx H'=>∃k,x = .bl k/\Q k H'
def Cq{op:CmpOp}{r:R2}(ho:fZ X (compareOp op) r)(ha:PE X a ta)(hb:PE X b tb)(hm:behindInMarks op b=ah):PT X (.Compare a [op] [b] pos) (Eh (Ia r ta tb)):=by
 intro pins s σ H Q I h;refine wpAny_isTrue_Compare1 (eR (ha pins s σ H _ I h) λv o ⟨x,H1,d,j,n⟩=>eR (hb pins o σ H1 _ d n) λu f ⟨y,H2,l,r2,p⟩=>
  eR (ho pins f σ H2 x y v u _ l j r2 p) λc t ⟨z,m,i,q,k,e,g⟩=>?_) hm
 subst e;cases q;exact wpAny_truthy_bool ⟨m,i,g⟩
def zg(r r':R2)(ta tb tc:TE):TE:=fun σ H Q=>ta σ H λx H1=>tb σ H1 λy H2=>r x y H2 λz H3=>∃k,z = .bl k /\
 (if k=ai then tc σ H3 λw' H4=>r' y w' H4 Q else Q (.bl ah) H3)
def zQ{op op':CmpOp}{r i:R2}(ho:fZ X (compareOp op) r)(ho':fZ X (compareOp op') i)(ha:PE X a ta)(hb:PE X b tb)(hc:PE X c tc)(hm:lastMarks [op,op'] [b,c]=ah:=by with_unfolding_all rfl):PE X (.Compare a [op,op'] [b,c] pos) (zg r i ta tb tc):=by
 intro pins s σ H Q I h;refine Compare_chain (eR (ha pins s σ H _ I h) λv q ⟨x,H1,D,p,F⟩=>chain_link (eR (hb pins q σ H1 _ D F) λu n ⟨y,H2,E,r2,m⟩=>
  eR (ho pins n σ H2 x y v u _ E p r2 m) λd B ⟨z,g,j,w,k,e,f⟩=>?_)) hm
 subst e;cases w;refine wpAny_truthy_bool ?_;cases k with
 |false=>exact ite_ff ⟨.bl ah,g,j,ag,f⟩
 |true=>exact ite_tt (chain_last (eR (hc pins B σ g _ j f) λG o ⟨C,t,l,A,J⟩=>ho' pins o σ t y C u G Q l r2 A J))
def BI(K:Fg1)(x:V)(H:Hp)(k:Bool):Prop:=
 match x with
 | .non=>k=ah
 | .bl b=>k=b
 | .int i=>k=(i != 0)
 | .str y=>y.length<=c9/\k=((y.length:Int) != 0)
 | .byt y=>y.size<=c9/\k=((y.size:Int) != 0)
 | .ref p=>(∃xs,lJ K H p xs/\k = !xs.isEmpty)\/(∃xs,jL K H p xs/\k = !xs.isEmpty) \/ ∃kvs,H p=wq (.dK kvs)/\k = !kvs.isEmpty
 |_=>False
def u6{κ:Type}{kvs:List (κ×V)}{vs:List (κ×cX)}(r:KV kvs vs):(!vs.isEmpty) = !kvs.isEmpty:=by
 cases r<;>rfl
def n9{xs:List V}{its:List cX}(r:dQ xs its):(!its.toArray.isEmpty) = !xs.isEmpty:=by
 cases r<;>simp
def lX:(c9:Nat)<2^63:=by rw[sizeLine_eq];decide
def y7:Lm X (λx H Q=>∃k,BI X.K x H k/\Q k H):=by
 intro pins s σ H x v Q I d h;obtain⟨k,e,q⟩:=h;have u:=lX;have o:c9=16777216:=sizeLine_eq;cases x with
 |non=>
  cases d;have a:k=ah:=e;subst a;exact truthy_none ⟨H,I,q⟩
 |bl b=>
  cases d;have a:k=b:=e;subst a;exact wpAny_truthy_bool ⟨H,I,q⟩
 |int i=>
  obtain⟨t,rfl⟩:=d;have a:k=(i != 0):=e;subst a;exact PySem.P.truthy_int ⟨H,I,q⟩
 |str y=>
  obtain⟨t,rfl⟩:=d;obtain⟨l,a⟩:y.length<=c9/\k=((y.length:Int) != 0):=e;subst a;exact PySem.P.truthy_str (by lia) ⟨H,I.tok _,q⟩
 |byt y=>
  obtain⟨t,rfl⟩:=d;obtain⟨l,a⟩:y.size<=c9/\k=((y.size:Int) != 0):=e;subst a;exact PySem.W.truthy_bytes (by lia) ⟨H,I.tok _,q⟩
 |ref p=>
  cases d;have a:(∃xs,lJ X.K H p xs/\k = !xs.isEmpty)\/(∃xs,jL X.K H p xs/\k = !xs.isEmpty) \/ ∃kvs,H p=wq (.dK kvs)/\k = !kvs.isEmpty:=e;rcases a with⟨xs,f,a⟩|⟨xs,f,a⟩|⟨kvs,f,a⟩
  ·subst a;obtain⟨g,r,pl,j⟩:=I.list f;have c:=r.length;exact wpAny_truthy_list pl.isList (by simp only[sT1];lia) ⟨H,I.tok _,by rw[n9 r];exact q⟩
  ·subst a;obtain⟨g,r,pl,j⟩:=I.tuple f;have c:=r.length;exact truthy_tuple pl (by simp only[sT1];lia) ⟨H,I.tok _,by rw[n9 r];exact q⟩
  ·subst a;obtain⟨j,n,vs,r,m⟩:kvs.length<=c9/\(p == sysModules)=false /\ ∃vs,KV kvs vs/\s.heap.DictOf (e6 X.prog X.w) p vs:=I.hok p _ f;have c:kvs.length=vs.length:=Paired.length r;exact wpAny_truthy_dict n m (by lia) ⟨H,I.tok _,by rw[u6 r];exact q⟩
 |_=>exact(show False from e).elim
def zC(ha:PE X a ta)(he:∀ b,isTrue a X.env b=(do let v<-b;standAt a.pos;holding [v] (truthy v))):
  PT X a (fun σ H Q=>ta σ H λx H'=>∃k,BI X.K x H' k/\Q k H'):=by
 intro pins s σ H Q I h;exact isTrue_plain (eR (ha pins s σ H _ I h) λv f ⟨x,H1,c,d,e⟩=>y7 pins f σ H1 x v Q c d e) (he _)
def uU:fZ X (binaryOp .Add) (λx y H Q=>∃i j,x = .str i/\y = .str j/\i.length+j.length<=c9/\Q (.str (i++j)) H):=by
 intro pins s σ H x y v u Q I d c h;obtain⟨i,j,rfl,rfl,a,q⟩:=h;obtain⟨t,rfl⟩:=d;obtain⟨b,rfl⟩:=c;exact add_str (λb tk=>⟨.str (i++j),H,I.tok _,⟨_,ag⟩,q⟩) a
def gX{x:V}{a:List cX}(r:dQ [x] a):∃u,a=[u]/\dF x u:=by
 cases r with
 |cons b r2=>cases r2;exact⟨_,ag,b⟩
def yP{x y:V}{a:List cX}(r:dQ [x,y] a):∃u w',a=[u,w']/\dF x u/\dF y w':=by
 cases r with
 |cons d r2=>
  cases r2 with
  |cons c b=>cases b;exact⟨_,_,ag,d,c⟩
def yo(hc:X.calm=ai):eg X (.builtin "max") (λxs H Q=>∃i j,xs=[.int i,.int j]/\Q (.int (if j>i then j else i)) H):=by
 intro pins s σ H xs b Q I r h;obtain⟨i,j,rfl,q⟩:=h;obtain⟨u,d,rfl,⟨t,rfl⟩,⟨c,rfl⟩⟩:=yP r;refine max_two_ints (I.ok.hd hc) λh' tk k=>⟨_,H,I.kept k,?_,q⟩;by_cases a:j>i
 ·rw[if_pos a,if_pos a];exact⟨_,ag⟩
 ·rw[if_neg a,if_neg a];exact⟨_,ag⟩
def yn(hc:X.calm=ai):eg X (.builtin "min") (λxs H Q=>∃i j,xs=[.int i,.int j]/\Q (.int (if j<i then j else i)) H):=by
 intro pins s σ H xs b Q I r h;obtain⟨i,j,rfl,q⟩:=h;obtain⟨u,d,rfl,⟨t,rfl⟩,⟨c,rfl⟩⟩:=yP r;refine min_two_ints (I.ok.hd hc) λh' tk k=>⟨_,H,I.kept k,?_,q⟩;by_cases a:j<i
 ·rw[if_pos a,if_pos a];exact⟨_,ag⟩
 ·rw[if_neg a,if_neg a];exact⟨_,ag⟩
def pU:eg X (.type "int") (λxs H Q=>(∃i,xs=[.int i]/\Q (.int i) H) \/ ∃k,xs=[.bl k]/\Q (.int (if k then 1 else 0)) H):=by
 intro pins s σ H xs b Q I r h;rcases h with⟨i,rfl,q⟩|⟨k,rfl,q⟩
 ·obtain⟨u,rfl,t,rfl⟩:=gX r;exact call_int_int ⟨.int i,H,I,⟨_,ag⟩,q⟩
 ·obtain⟨u,rfl,a⟩:=gX r;cases a;exact call_int_bool ⟨.int (if k then 1 else 0),H,I.tok _,⟨_,ag⟩,q⟩
def rX:eg X (.type "str") (λxs H Q=>∃i,xs=[.int i]/\i.natAbs.log2<1920/\Q (.str (toString i)) H):=by
 intro pins s σ H xs b Q I r h;obtain⟨i,rfl,a,q⟩:=h;obtain⟨u,rfl,t,rfl⟩:=gX r;exact PySem.P.str_of_int a ⟨.str _,H,I.tok _,⟨_,ag⟩,q⟩
end
end L2
namespace L2
open PySem PySem.Spec PyProof.Rows
structure HI (h:db)(x dx C:cZ)(mA:Str->Option cX):Prop where
 obj:h.get? x=some (PySem.W.instObj C dx)
 ns:h.Ns1 dx mA
 ne:dx≠x
def xR{h:db}{dx:cZ}{mA:Str->Option cX}(n:h.Ns1 dx mA):∃c,h.get? dx=wq c /\ ∀name,PySem.W.lookIn name c=wq (mA name):=by
 obtain⟨o,es,ep,i,f,j,_,k⟩:=n;refine⟨o,i,λname=>?_⟩;have e:=k name;unfold nsFind findBy at e;rw[<- Array.find?_toList]at e;unfold PySem.W.lookIn;rw[f];dsimp only;split
 ·rename_i y q;rw[q]at e;exact congrArg wq e
 ·rename_i q;rw [q] at e;have a:es.toList.any (·.refKey)=false:=by
   rw[List.any_eq_false];intro y d;obtain⟨z,t,b⟩:=j y (Array.mem_toList_iff.mp d);simp[DictEntry.refKey,b]
  have g:¬ es.toList.any (·.refKey)=ai:=by rw[a];exact aC
  rw[if_neg g];exact congrArg wq e
def HI.look{h:db}{x dx C:cZ}{mA:Str->Option cX}(I:HI h x dx C mA):∃a,PySem.W.InstAt h x (PySem.W.instObj C dx) C (wq a) /\ ∀name,PySem.W.lookIn name a=wq (mA name):=
 let ⟨a,ho,hl⟩:=xR I.ns
 ⟨a,⟨I.obj,ag,ag,ho⟩,hl⟩
section
variable{prog:c0}{w:c6}{A:c5}{E:cX->cY->Prop}{s:cY}{K:Fg1}{x dx C f:cZ}{mA:Str->Option cX}{name:Str}{v:cX}
end
def kF.some_of{v:V}{o:Option cX}(r:kF (wq v) o):∃u,o=wq u/\dF v u:=by
 cases o with
 |none=>exact(show False from r).elim
 |some u=>exact⟨u,ag,r⟩
section
variable{P:c0}{w:c6}{H H':Hp}{h h':db}{a C dx:cZ}{fs fs':List (Str×V)}
def Dy(b:kG P w H h)(e:H a=wq (.ins C dx fs)):∃mA,HI h a dx C mA/\(∀f,kF (fs.lookup f) (mA f))/\PySem.Within mA (fs.map (·.1))/\fs.length<=1000/\H dx=wq (.own a):=by
 obtain⟨d,z,ne,c,mA,n,r,q⟩:=(show eB P w H h a (.ins C dx fs)from b a _ e);exact⟨mA,⟨c,n,ne⟩,r,q,z,d⟩
end
structure Lv (K:Fg1)(C:cZ):Prop where
 pg:PySem.W.plainGet K C Str.empty=true
 hd:PySem.W.hasDictIn K C=true
 po:PySem.W.plainOver K C=true
 sa:PySem.W.findIn K (.ref C) "__setattr__"=some (some (.builtin "object.__setattr__"))
def Lv.get{K:Fg1}{C:cZ}(c:Lv K C)(f:Str):PySem.W.plainGet K C f=ai:=c.pg
section
variable{X:Cx}{pins:List (cZ×Obj)}{σ:St}{H:Hp}{s:cY}{a C dx:cZ}{fs:List (Str×V)}{f:Str}{v:V}{A:c5}{E:cX->cY->Prop}
end
section
variable{X:Cx}{o e value:Expr}{f:Str}{pos pos' tpos:Pos}{ta tv:TE}
end
section
variable{X:Cx}{pins:List (cZ×Obj)}{σ:St}{H:Hp}{s:cY}{A:c5}{E:cX->cY->Prop}{Q:cX->cY->Prop}{c:cX}{b:Bool}
inductive mY (K:Fg1)(H:Hp):V->cX->Prop where
 |non:mY K H .non (.type "NoneType")
 |bl (x:Bool):mY K H (.bl x) (.type "bool")
 |int (i:Int):mY K H (.int i) (.type "int")
 |str (x:Str):mY K H (.str x) (.type "str")
 |flt (x:UInt64):mY K H (.flt x) (.type "float")
 |lst {a:cZ} {xs:List V} (e:H a=some (.lst xs)):mY K H (.ref a) (.type "list")
 |frz {a:cZ} {o:Obj} {xs:List V} (e:H a=some (.frz o (.lst xs))):mY K H (.ref a) (.type "list")
 |tup {a:cZ} {xs:List V} (e:H a=some (.tup xs)):mY K H (.ref a) (.type "tuple")
 |dK {a:cZ} {kvs:List (Key×V)} (e:H a=some (.dK kvs)):mY K H (.ref a) (.type "dict")
 |dT {a:cZ} {kvs:List (List Key×V)} (e:H a=some (.dT kvs)):mY K H (.ref a) (.type "dict")
 | ins {a C dx:cZ} {fs:List (Str×V)} (e:H a=some (.ins C dx fs)) (cl:Lv K C) (ha:PySem.W.findIn K (.ref C) "__class__"=some (some (.builtin "object.__class__")))
   (hn:PySem.W.specialIn K (.builtin "object.__class__") "__get__"=some (some (.builtin "getset_descriptor.__get__"))) (htk:PySem.W.takesIn K (.builtin "object.__class__")=some true)
   (hm:PySem.W.mroIn K C (.type "object")=some true):mY K H (.ref a) (.ref C)
def iJ{x:V}{u t:cX}(I:Inv X pins σ H s)(f:dF x u)(ty:mY X.K H x t)(e:PySem.W.kitOne X.K t c=some b)(h:∀ tk,Q (.bool b) {s with toks:=tk}):
  da (model X.prog X.w) A (call (.builtin "isinstance") [u,c]) Q E s:=by
 cases ty with
 |non=>cases(show u=Value.none from f);exact PySem.W.kia_one PySem.W.kitx_none I.kIn True.intro e (λz=>nomatch z) h
 |bl y=>cases(show u=Value.bool y from f);exact PySem.W.kia_one PySem.W.kitx_bool I.kIn True.intro e (λz=>nomatch z) h
 |int i=>obtain⟨t,q⟩:=(show∃t,u=Value.int i t from f);cases q;exact PySem.W.kia_one PySem.W.kitx_int I.kIn True.intro e (λz=>nomatch z) h
 |str y=>obtain⟨t,q⟩:=(show∃t,u=Value.str y t from f);cases q;exact PySem.W.kia_one PySem.W.kitx_str I.kIn True.intro e (λz=>nomatch z) h
 |flt y=>obtain⟨t,q⟩:=(show∃t,u=Value.float y t from f);cases q;exact PySem.W.kia_one PySem.W.kitx_float I.kIn True.intro e (λz=>nomatch z) h
 | @lst a xs d=>
  cases(show u=Value.ref a from f);obtain⟨_,_,n,_,h1⟩:=(show eB X.prog X.w H s.heap a (.lst xs)from I.hok a _ d);exact PySem.W.kia_one PySem.W.kitx_list I.kIn ⟨_,h1,ag⟩ e (λz=>nomatch z) h
 | @frz a r xs d=>
  cases(show u=Value.ref a from f);obtain⟨_,_,_,n,_,h1⟩:=(show eB X.prog X.w H s.heap a (.frz r (.lst xs))from I.hok a _ d);exact PySem.W.kia_one PySem.W.kitx_list I.kIn ⟨_,h1,ag⟩ e (λz=>nomatch z) h
 | @tup a xs d=>
  cases(show u=Value.ref a from f);obtain⟨_,_,_,p⟩:=(show eB X.prog X.w H s.heap a (.tup xs)from I.hok a _ d);obtain⟨o,h1,h2,_⟩:=p;exact PySem.W.kia_one PySem.W.kitx_tuple I.kIn ⟨o,h1,h2⟩ e (λz=>nomatch z) h
 | @dK a kvs d=>
  cases(show u=Value.ref a from f);obtain⟨_,_,vs,_,p⟩:=(show eB X.prog X.w H s.heap a (.dK kvs)from I.hok a _ d);obtain⟨o,es,ep,h1,h2,_⟩:=p;exact PySem.W.kia_one PySem.W.kitx_dict I.kIn ⟨o,h1,h2.1⟩ e (λz=>nomatch z) h
 | @dT a kvs d=>
  cases(show u=Value.ref a from f);obtain⟨_,_,xs,_,o,es,ep,h1,h2,_⟩:=(show eB X.prog X.w H s.heap a (.dT kvs)from I.hok a _ d);exact PySem.W.kia_one PySem.W.kitx_dict I.kIn ⟨o,h1,h2.1⟩ e (λz=>nomatch z) h
 | @ins a C dx fs d j m l g k=>
  cases(show u=Value.ref a from f);obtain⟨mA,O,_⟩:=Dy I.hok d;obtain⟨v,J,_⟩:=O.look;exact PySem.W.kia_one (PySem.W.kitx_own (j.get _) j.hd m l g k) I.kIn J e (λz=>nomatch z) h
end
end L2
namespace L2
open PySem PySem.Spec PyProof.Rows
structure fC (k:Nat)(A:c5):Prop where
 hd:A.handled=none
 dp:A.depth+3*k+5<recursionLimit
 un:A.units+16*k+200<cLine
 gd:A.guards=some []
def fC.mono{j k:Nat}{A:c5}(r:fC k A)(h:j<=k):fC j A:=⟨r.hd,by have:=r.dp;lia,by have:=r.un;lia,r.gd⟩
def fC.deeper{k:Nat}{A:c5}(r:fC (k+1) A)(env:Env):fC k (A.deeper env):=
 ⟨r.hd,by have:=r.dp;show A.depth+1+3*k+5<_;lia,by have:=r.un;show A.units+3+16*k+200<_;lia,r.gd⟩
def fC.depth{k:Nat}{A:c5}(r:fC k A):A.depth<recursionLimit:=by have:=r.dp;lia
def fC.units{k:Nat}{A:c5}(r:fC k A):A.units+64<cLine:=by have:=r.un;lia
def Ky:TA:=λ_ H Q=>Q [] H
def Ii(ta:TE)(tr:TA):TA:=fun σ H Q=>ta σ H λx H1=>tr σ H1 λxs H2=>Q (x::xs) H2
section
variable{X:Cx}{e:Expr}{es:List Expr}{te:TE}{t:TA}{pos:Pos}
def lR:PA X [] Ky:=λ_ _ _ _ H Q I h=>Calls.spliced_nil ⟨[],H,I,.nil,h⟩
def iT(ha:PE X e te)(hr:PA X es t)(hs:c8 (e::es) X.env=(ah,eval e X.env)::c8 es X.env:=by rfl):PA X (e::es) (Ii te t):=by
 intro pos pins s σ H Q I h;rw[hs];show da _ _ (spliced ((ah,eval e X.env)::backTo pos (c8 es X.env))) _ _ s;refine Calls.spliced_cons (eR (ha pins s σ H _ I h) λu f ⟨x,H1,a,b,d⟩=>?_);exact eR (hr pos pins f σ H1 _ a d) λj i ⟨xs,H2,c,r2,g⟩=>⟨x::xs,H2,c,.cons b r2,g⟩
def Kt(t:TA):TE:=fun σ H Q=>t σ H λxs H1=>xs.length<=c9 /\ ∀p,H1 p=aj->Q (.ref p) (upd H1 p (.tup xs))
def KC(t:TA):TE:=fun σ H Q=>t σ H λxs H1=>xs.length<=c9 /\ ∀p,H1 p=aj->Q (.ref p) (upd H1 p (.lst xs))
def FQ{x1}(h:PA X es t):PE X (.Tuple es x1 pos) (Kt t):=by
 intro pins s σ H Q I g;refine wpAny_Tuple_spliced (eR (h pos pins s σ H _ I g) λf a ⟨xs,H1,c,r,z,q⟩=>⟨by rw[<- r.length];exact z,?_⟩);have d:H1 a.heap.objs.size=aj:=c.hok.fresh (nR1 _);refine⟨.ref a.heap.objs.size,upd H1 a.heap.objs.size (.tup xs),c.laid (t':=a.toks) (λb u e=>hP1 _ e) (nR1 _) ?_,ag,q _ d⟩;exact⟨z,f,r,⟨_,hS1 _ ag,ag,_,ag⟩⟩
def FZ(h:PA X es t):PE X (.List es pos) (KC t):=by
 intro pins s σ H Q I g;refine wpAny_List_spliced (eR (h pos pins s σ H _ I g) λf a ⟨xs,H1,c,r,z,q⟩=>⟨by rw[<- r.length];exact z,?_⟩);have d:H1 a.heap.objs.size=aj:=c.hok.fresh (nR1 _);refine⟨.ref a.heap.objs.size,upd H1 a.heap.objs.size (.lst xs),c.laid (t':=a.toks) (λb u e=>hP1 _ e) (nR1 _) ?_,ag,q _ d⟩;exact⟨z,f,0,r,hS1 _ ag⟩
end
abbrev Sp:=List V->Hp->VK->XK->Prop
abbrev yv:=List Env->Hp->cY->XK->cX->cY->Prop
structure Ed (P:c0)(w:c6)(K:Fg1)(mg:Str->Option cX)(base:db)(A:c5)(outer:List Env)(s:cY)(H:Hp):Prop where
 frames:A.frames=some outer
 mod:Mod K mg base
 bs:∀b o,base.get? b=some o->s.heap.get? b=some o/\H b=none
 bsz:base.objs.size<=s.heap.objs.size
 funs:s.heap.FunFrames base outer
 frf:∀b∈frs outer,H b=none
 hok:kG P w H s.heap
 bare:AllBare s.gens
def CE(outer:List Env)(P:c0)(w:c6)(H:Hp)(s:cY)(Q:VK)(u:cX)(s':cY):Prop:=
 ∃v H',s'.os=s.os/\AllBare s'.gens/\Un (frs outer) [] H H' s.heap s'.heap/\kG P w H' s'.heap/\dF v u/\Q v H'
def CR(CX:yv)(outer:List Env)(P:c0)(w:c6)(H:Hp)(s:cY)(Q:VK)(E:XK)(r:Result)(s':cY):Prop:=
 match r with
 | .ok (.ret u)=>CE outer P w H s Q u s'
 | .ok _=>False
 | .error e=>CX outer H s E e s'
structure jM (P:c0)(w:c6)(K:Fg1)(mg:Str->Option cX)(base:db)(CX:yv)(k:Nat)(f:cZ)(fd:de)(ps:List Str)(sp:Sp):Prop where
 len:∀vs H Q E,sp vs H Q E->vs.length=ps.length
 run:∀(A:c5) (outer:List Env) (s:cY) (H:Hp) (args:Args) (us:List cX) (vs:List V) (Q:VK) (E:XK),fC k A->Ed P w K mg base A outer s H->BindsTo s fd args (ps.zip us)->dQ vs us->sp vs H Q E ->
  codeAny (model P w) A (.call (.ref f) args) (CR CX outer P w H s Q E) s
def jM.imp{P:c0}{w:c6}{K:Fg1}{mg:Str->Option cX}{base:db}{CX:yv}{k:Nat}{f:cZ}{fd:de}{ps:List Str}{sp sp':Sp}(F:jM P w K mg base CX k f fd ps sp)(h:∀vs H Q E,sp' vs H Q E->sp vs H Q E):jM P w K mg base CX k f fd ps sp':=
 ⟨λvs H Q E q=>F.len vs H Q E (h _ _ _ _ q),λA a s H b i vs Q E g j c d e=>F.run A a s H b i vs Q E g j c d (h _ _ _ _ e)⟩
section
variable{X:Cx}{pins:List (cZ×Obj)}{σ:St}{H:Hp}{s s':cY}
def Inv.env0(I:Inv X pins σ H s):Ed X.prog X.w X.K X.mg X.base X.A X.stack s H:=
 ⟨I.ok.frames,I.ok.mod,I.bs,au I.ok.bsz I.sz,I.stack,I.stkFree,I.hok,I.bare⟩
def Inv.after{Q:VK}{u:cX}(I:Inv X pins σ H s)(h:CE X.stack X.prog X.w H s Q u s'):EP X pins σ Q u s':=by
 obtain⟨v,H',f,a,un,e,r,q⟩:=h;obtain⟨i,g,d,t,c⟩:=s';obtain rfl:c=s.os:=f;exact⟨v,H',I.call (h':=i) (g':=g) (d':=d) (t':=t) (ch:=[]) un e a (λb z=>absurd z (by simp)),r,q⟩
end
def Ej(sp:Sp)(dvs:List V)(E:XK)(t:TA):TE:=fun σ H Q=>t σ H λvs H1=>sp (vs++dvs) H1 Q E
def jf(K:Fg1)(fd:de)(ps:List Str)(ds:List cX):Prop:=
 ∀(s:cY) (us:List cX),K.In s.heap->(us++ds).length=ps.length->BindsTo s fd ⟨us,[]⟩ (ps.zip (us++ds))
def jf.all{K:Fg1}{fd:de}{ps:List Str}(h:∀a:List cX,a.length=ps.length->bindArgs fd ⟨a,[]⟩=pure (ps.zip a)):jf K fd ps []:=λs a _ b=>by
 rw[aF]at b ⊢;exact .of_eq (h a b)
def sr(CX:yv)(X:Cx)(E:XK):Prop:=∀(pins:List (cZ×Obj)) (σ:St) (H:Hp) (s:cY) (e:cX) (s':cY),Inv X pins σ H s->CX X.stack H s E e s'->X.xe e s'
section
variable{X:Cx}{CX:yv}{k:Nat}{f C:cZ}{fd:de}{ps:List Str}{sp:Sp}{dvs:List V}{ds:List cX}{E:XK}{x m:Str}{p pos apos:Pos}{e o:Expr}{es:List Expr}{ta:TE}{t:TA}
def zw{pins:List (cZ×Obj)}{σ:St}{H:Hp}{s:cY}{Q:VK}{a:List cX}{vs:List V}(F:jM X.prog X.w X.K X.mg X.base CX k f fd ps sp)(hr:fC k X.A)(hb:jf X.K fd ps ds)(hd:dQ dvs ds)(hx:sr CX X E)(I:Inv X pins σ H s)(r:dQ vs a)(h:sp (vs++dvs) H Q E):da (model X.prog X.w) X.A (call (.ref f) a) (EP X pins σ Q) X.xe s:=by
 have r2:dQ (vs++dvs) (a++ds):=r.append hd;have c:(a++ds).length=ps.length:=by rw[<- r2.length];exact F.len _ _ _ _ h
 refine wpAny_call (codeAny_mono (F.run X.A X.stack s H ⟨a,[]⟩ (a++ds) (vs++dvs) Q E hr I.env0 (hb s a I.kIn c) r2 h) λr s' b=>?_);cases r with
 |error e=>exact hx pins σ H s e s' I b
 |ok d=>
  cases d with
  |ret u=>exact I.after b
  |next=>exact False.elim b
  |brk=>exact False.elim b
  |cont=>exact False.elim b
def CL (F:jM X.prog X.w X.K X.mg X.base CX k f fd ps sp)(hr:fC k X.A)(hg:Gl X x)(hm:X.mg x=some (.ref f))(hk:wK1 X.K (.ref f)=true)(hb:jf X.K fd ps ds)(hd:dQ dvs ds)(hx:sr CX X E)
  (ha:PA X (e::es) t) (hdb:(x == ("__debug__":Str))=ah:=by decide) (he:c8 (e::es) X.env=(ah,eval e X.env)::c8 es X.env:=by rfl) (hpl:(backTo pos (c8 es X.env)).any (·.1)=ah:=by rfl):
  PE X (.Call (.Name x p) (e::es) [] pos) (Ej sp dvs E t):=by
 intro pins s σ H Q I h;refine wpAny_Call_Name_kw (wB I hg hm ?_ hdb);refine PySem.W.callWith_K (h₀:=X.base) I.ok.mod.kin hk (eR (ha pos pins s σ H _ I h) λb c ⟨vs,H1,a,r,q⟩=>⟨a.kIn,?_⟩) he hpl;exact zw F hr hb hd hx a r q
end
section
variable{X:Cx}{CX:yv}{k:Nat}{f C:cZ}{fd:de}{ps ks:List Str}{sp:Sp}{E:XK}{x m:Str}{p pos apos kpos:Pos}{e o:Expr}{es:List Expr}{kws:List Keyword}{te ta:TE}{t tk:TA}{nm:Option Str}
variable{g:List cX->List cX->List cX}{gV:List V->List V->List V}
end
structure gw (N P:List Str)(sc:dg):Prop where
 kind:sc.kind = .function
 co:sc.isCoroutine=false
 gen:sc.isGenerator=false
 nd:N.Nodup
 pre:N.take P.length=P
 par:∀x∈P,sc.names.lookup x=some .local\/sc.names.lookup x=some .cell
 nofree:∀y∈sc.names,y.2 ≠ .free
def pW{kindOf:Str->Option NameKind}{x:Str}:∀{binds:List (Str×cX)} {m:Str->Option cX},(∀v,(x,v)∉binds)->bindL kindOf binds m x=m x
 |[],_,_=>rfl
 |(n,v)::r,m,h=>by
  unfold bindL;rw[pW λw a=>h w (mC1 _ a)];split
  ·have:x≠n:=by rintro rfl;exact h v mS1
   simp[this]
  ·rfl
def pY{kindOf:Str->Option NameKind}{x:Str}:∀{binds:List (Str×cX)} {m:Str->Option cX},(∀v,(x,v)∉binds)->bindC kindOf binds m x=m x
 |[],_,_=>rfl
 |(n,v)::r,m,h=>by
  unfold bindC;rw[pY λw a=>h w (mC1 _ a)];split
  ·rfl
  ·have:x≠n:=by rintro rfl;exact h v mS1
   simp[this]
def pX{kindOf:Str->Option NameKind}{x:Str}{v:cX}:∀ {P:List Str} {vs:List cX} {i:Nat} {m:Str->Option cX},P.Nodup->P[i]? = some x->vs[i]? = some v->kindOf x=some .local ->
  bindL kindOf (P.zip vs) m x=wq v
 |[],_,_,_,_,h,_,_=>by simp at h
 |_::_,[],_,_,_,_,h,_=>by simp at h
 |p::P,w::vs,0,m,nd,h1,h2,hk=>by
  simp at h1 h2;subst h1;subst h2;show bindL kindOf ((p,w)::P.zip vs) m p=_;unfold bindL;rw[pW λv a=>(aG.mp nd).1 (aH a).1,if_pos hk];simp
 |p::P,w::vs,i+1,m,nd,h1,h2,hk=>by
  show bindL kindOf ((p,w)::P.zip vs) m x=_;unfold bindL;exact pX (i:=i) (aG.mp nd).2 (by simpa using h1) (by simpa using h2) hk
def pZ{kindOf:Str->Option NameKind}{x:Str}{v:cX}:∀ {P:List Str} {vs:List cX} {i:Nat} {m:Str->Option cX},P.Nodup->P[i]? = some x->vs[i]? = some v->kindOf x≠some .local ->
  bindC kindOf (P.zip vs) m x=wq v
 |[],_,_,_,_,h,_,_=>by simp at h
 |_::_,[],_,_,_,_,h,_=>by simp at h
 |p::P,w::vs,0,m,nd,h1,h2,hk=>by
  simp at h1 h2;subst h1;subst h2;show bindC kindOf ((p,w)::P.zip vs) m p=_;unfold bindC;rw[pY λv a=>(aG.mp nd).1 (aH a).1,if_neg hk];simp
 |p::P,w::vs,i+1,m,nd,h1,h2,hk=>by
  show bindC kindOf ((p,w)::P.zip vs) m x=_;unfold bindC;exact pZ (i:=i) (aG.mp nd).2 (by simpa using h1) (by simpa using h2) hk
def jl(N:List Str)(vs:List V):St:=vs.map wq++aI (N.length-vs.length) aj
def mX(CX:yv)(P:c0)(w:c6)(K:Fg1)(mg:Str->Option cX)(base:db)(N:List Str)(qual:Str)(scope:dg)(f:cZ)(cd:cX)(A:c5)(outer:List Env)(s:cY)(H:Hp)(E:XK):Cx where
 prog:=P
 w:=w
 K:=K
 mg:=mg
 base:=base
 A:=A.deeper (envOfC qual scope s.heap.objs.size f cd)
 N:=N
 s₀:=s
 H₀:=H
 env:=envOfC qual scope s.heap.objs.size f cd
 outer:=outer
 stack:=envOfC qual scope s.heap.objs.size f cd::outer
 ex:=[]
 calm:=ai
 fn:=λ_=>ai
 pn:=[]
 xe:=λe s'=>da (model P w) (A.deeper (envOfC qual scope s.heap.objs.size f cd)) (leaving (envOfC qual scope s.heap.objs.size f cd) e) (λ_ s''=>CX outer H s E e s'') (λe' s''=>CX outer H s E e' s'') s'
def uf{a:dg}{n:Nat}{x:Str}(h:a.names.lookup x=wq .cell):∃c,(cellsFrom n a.names []).lookup x=wq c:=by
 have q:=PySem.W.cellsFrom_some a.names n [] (.inl h);exact aJ.mp q
def xW{CX:yv}{P:c0}{w:c6}{K:Fg1}{mg:Str->Option cX}{base:db}{N ps:List Str}{g:Str}{scope:dg}{f:cZ}{t:cX}{A:c5}{d:List Env}{s s1:cY}{H:Hp}{E:XK}{B:List cX}{vs:List V}(S:gw N ps scope)(hd:A.handled=none)(e0:Ed P w K mg base A d s H)(L:vs.length=ps.length)(r:dQ vs B)(x:InCallC s s.heap.objs.size (bindL (envOfC g scope s.heap.objs.size f t).kindOf (ps.zip B) fun _=>none) (cellsFrom (s.heap.objs.size+1) scope.names []) (bindC (envOfC g scope s.heap.objs.size f t).kindOf (ps.zip B) fun _=>none) s1):
  Inv (mX CX P w K mg base N g scope f t A d s H E) [] (jl N vs) H s1:=by
 have I:ps.length<=N.length:=by have:=congrArg List.length S.pre;rw[aK]at this;lia
 obtain⟨h1,tk,rfl,D⟩:=x.done;have l:∀b:cZ,b∉(mX CX P w K mg base N g scope f t A d s H E).ex:=λb z=>absurd (show b∈([]:List cZ)from z) (by simp);refine⟨⟨e0.mod,S.kind,ag,ag,nR1 _,λy z c h1 h2=>?_,λy j=>?_,λy c _ h=>?_,λ_=>hd,Around.frames_deeper e0.frames,.inr ⟨ag,ag⟩,λb z=>absurd z (l b),e0.bs,e0.bsz,λb _ _=>l b,λb z=>absurd z (l b),e0.funs,e0.frf⟩,
  rfl,e0.bare,Un.kept D,⟨_,x.toInCall.ns,λi y v h1 h2 J=>?_⟩,λy c h=>⟨_,x.cell y c h⟩,e0.hok.fresh (nR1 _),λy c h=>?_,λp m=>absurd (show p∈([]:List (cZ×Obj))from m) (by simp),e0.hok.kept D,?_⟩
 ·exact name_of_addr x.apart (PySem.mem_of_lookup h1) (PySem.mem_of_lookup h2)
 ·have j:scope.names.lookup y=wq .cell\/scope.names.lookup y=wq .free:=j;rcases j with j|j
  ·exact uf j
  ·exact absurd ag (S.nofree _ (PySem.mem_of_lookup j))
 ·exact Nat.le_of_lt (x.above y c (PySem.mem_of_lookup h))
 ·have hi:i<vs.length:=by
   unfold jl at h2;by_cases hi:i<vs.length
   ·exact hi
   ·rw[gR1 (by simpa using hi)]at h2;rw[aL]at h2;split at h2<;>cases h2
  have G:vs[i]?=wq v:=by
   unfold jl at h2;rw[gL1 (by simpa using hi),gP1]at h2;cases e:vs[i]? with
   |none=>rw[e]at h2;cases h2
   |some a=>rw[e]at h2;cases h2;rfl
  obtain⟨u,C,F⟩:=r.get G;have m:ps[i]?=wq y:=by
   rw[<- S.pre,aM (by lia)];exact h1
  have o:ps.Nodup:=by rw[<- S.pre];exact S.nd.sublist (List.take_sublist _ _)
  refine⟨u,F,?_⟩;rcases S.par y (gM1 m)with k|k
  ·exact .inl ⟨k,pX o m C k⟩
  ·obtain⟨c,e⟩:=uf (n:=s.heap.objs.size+1) k;refine .inr ⟨.inl k,c,e,?_⟩;have q:=x.cell y c e;rw[pZ o m C (by show scope.names.lookup y≠_;rw[k];decide)]at q;exact q
 ·exact e0.hok.fresh (Nat.le_of_lt (x.above y c (PySem.mem_of_lookup h)))
 ·unfold jl;show _=N.length;rw[lA1,lM1,lR1];lia
def JB{CX:yv}{P:c0}{w:c6}{K:Fg1}{mg:Str->Option cX}{base:db}{k:Nat}{f:cZ}{name c:Str}{params:Arguments}{g:List df}{scope:dg}{L kV B M d ct oc:cX}{T Y:Option cZ}{C:Array (Option cX)}{N ps:List Str}{sp:Sp}(lk:K.lookup f=some ⟨oc,Y,.func (wF1 name c params g scope L kV B M T d ct),C⟩)(hcd:wC1 K d c=true)(S:gw N ps scope)(len:∀vs H Q E,sp vs H Q E->vs.length=ps.length)(i:∀(A:c5) (a:List Env) (s:cY) (H:Hp) (vs:List V) (Q:VK) (E:XK),fC k (A.deeper (envOfC c scope s.heap.objs.size f d))->sp vs H Q E ->
   ∃t,uy (mX CX P w K mg base N c scope f d A a s H E) g t/\t {nx:=λ_ H'=>Q .non H',rt:=Q} (jl N vs) H):
  jM P w K mg base CX (k+1) f (wF1 name c params g scope L kV B M T d ct) ps sp:=by
 refine⟨len,λA a s H R Z vs Q E G p hb r z=>?_⟩;have W:=len _ _ _ _ z;have O:K.In s.heap:=p.mod.kin.keeps λb o e=>(p.bs b o e).1;have D:s.heap.NoLimit:=p.mod.nolimit.keeps λb o e=>(p.bs b o e).1;have j:∀y∈ps.zip Z,scope.names.lookup y.1=wq .local\/(scope.names.lookup y.1=wq .cell/\((cellsFrom (s.heap.objs.size+1) scope.names []).lookup y.1).isSome=ai):=λ⟨n,v⟩ hy=>by
  rcases S.par n (aH hy).1 with q|q
  ·exact .inl q
  ·exact .inr ⟨q,PySem.W.cellsFrom_some _ _ _ (.inl q)⟩
 refine codeAny_call_function G.depth (O _ _ lk) ag S.co S.gen ag (PySem.W.codeRec_of O hcd) (hb _ _ _ _ ?_);refine wpAny_newFunctionEnv_cells S.kind j λenv he s1 x=>?_;subst he;refine⟨D.keeps x.toInCall.keep,codeAny_func ?_⟩;obtain⟨t,X,hq⟩:=i A a s H vs Q E (G.deeper _) z;have I:Inv (mX CX P w K mg base N c scope f d A a s H E) [] (jl N vs) H s1:=xW S G.hd p W r x;refine wpAny_mono (X [] s1 (jl N vs) H _ I hq) (λU s' l=>?_) λe s' l=>l;have m:∀{h:St} {H':Hp} {v:V} {u:cX},Inv (mX CX P w K mg base N c scope f d A a s H E) [] h H' s'->dF v u->Q v H'->CE a P w H s Q u s':=
  λ{h H' v u} J F q=>⟨v,H',J.os,J.bare,J.base,J.hok,F,q⟩
 cases U with
 |ret u=>
  obtain⟨v,h,H',J,F,q⟩:=l;exact m J F q
 |next=>
  obtain⟨h,H',J,q⟩:=l;exact m (v:=V.non) (u:=Value.none) J ag q
 |brk=>
  obtain⟨_,_,_,q⟩:=l;exact False.elim q
 |cont=>
  obtain⟨_,_,_,q⟩:=l;exact False.elim q
end L2
namespace L2
open PySem PySem.Spec PyProof.Rows
section
variable{X:Cx}{x:Str}{p pos:Pos}{e:Expr}{es:List Expr}{t:TA}{id T:String}{r:List V->Hp->VK->Prop}
def LB(r:List V->Hp->VK->Prop)(t:TA):TE:=fun σ H Q=>t σ H λvs H1=>r vs H1 Q
def nQ (hc:eg X (.builtin id) r)(hg:Gl X x)(hm:X.mg x=none)(hv:bootBuiltins x=some (.builtin id))(ha:PA X (e::es) t)(hn:x≠"__name__":=by decide)(hdb:(x == ("__debug__":Str))=false:=by decide)
  (he:c8 (e::es) X.env=(ah,eval e X.env)::c8 es X.env:=by rfl) (hpl:(backTo pos (c8 es X.env)).any (·.1)=ah:=by rfl):PE X (.Call (.Name x p) (e::es) [] pos) (LB r t):=by
 intro pins s σ H Q I h;refine wpAny_Call_Name_kw (jz I hg hm hv ?_ hn hdb);exact PyProof.Rows.callWith_builtin1 (eR (ha pos pins s σ H _ I h) λf d ⟨vs,H1,a,b,c⟩=>hc pins d σ H1 vs f Q a b c) he hpl
def jT (hc:eg X (.type T) r)(hg:Gl X x)(hm:X.mg x=none)(hv:bootBuiltins x=some (.type T))(ha:PA X (e::es) t)(hn:x≠"__name__":=by decide)(hdb:(x == ("__debug__":Str))=false:=by decide)
  (he:c8 (e::es) X.env=(ah,eval e X.env)::c8 es X.env:=by rfl) (hpl:(backTo pos (c8 es X.env)).any (·.1)=ah:=by rfl):PE X (.Call (.Name x p) (e::es) [] pos) (LB r t):=by
 intro pins s σ H Q I h;refine wpAny_Call_Name_kw (jz I hg hm hv ?_ hn hdb);exact PyProof.Rows.callWith_type1 (eR (ha pos pins s σ H _ I h) λf d ⟨vs,H1,a,b,c⟩=>hc pins d σ H1 vs f Q a b c) he hpl
end
end L2
namespace HT
open PySem PyProof.Rows
section
open PySem.SeqAt
open PySem.AutoSeq1 (wpAny_loadPart')
open PySem.MeetsSeq PySem.MeetsSeq2 PySem.MeetsSeq3
end
section
variable{prog:c0}{w:c6}{A:c5}{E:cX->cY->Prop}{s:cY}
def DX {t b:cZ}{vs ws:List cX}{Q:cX->cY->Prop}(ht:IsTup s.heap t vs.toArray)(hb:IsTup s.heap b ws.toArray)(hv:vs≠[])
  (h1:ws=[]->Q (.ref t) s) (h2:ws≠[]->Q (.ref s.heap.objs.size) {s with heap:=s.heap.push {cls:=.type "tuple",data:=.seq (vs++ws).toArray}})
  (hsz:vs.length+ws.length<=c9):da (model prog w) A (binaryOp .Add (.ref t) (.ref b)) Q E s:=by
 obtain⟨⟨cls,p,data,k⟩,i,hc,n,m⟩:=id ht;obtain⟨⟨l,g,j,f⟩,a,c,o,d⟩:=id hb;simp only at hc m c d;subst hc m c d;have e:vs.toArray++ws.toArray=(vs++ws).toArray:=by simp
 by_cases h:ws=[]
 ·exact concat_meets ⟨_,i,rfl⟩ ⟨_,a,rfl⟩ noFill_tuple_add seq_tuple_add PySem.F.slot_tuple_add PySem.F.entry_tuple_add (PySem.F.args_tuple_add_2 _ _)
   (tuple_addW1 t b vs.toArray ws.toArray n o p g k f (by simpa using hv) (by simp[h])) ⟨i,a,h1 h⟩
 ·refine concat_meets ⟨_,i,rfl⟩ ⟨_,a,rfl⟩ noFill_tuple_add seq_tuple_add PySem.F.slot_tuple_add PySem.F.entry_tuple_add (PySem.F.args_tuple_add_2 _ _)
   (tuple_addW2 t b vs.toArray ws.toArray n o p g k f (by simpa using hv) (by simpa using h) (by rw[sT1,sT1];exact hsz)) ⟨i,a,?_⟩
  rw[e];exact h2 h
def sIx(n d:Nat):Option Int->Nat
 |none=>d
 |some v=>if v<0 then(v+(n:Int)).toNat else min v.toNat n
def sJ(n d:Nat):sIx n d aj=d:=rfl
def vY(n d k:Nat):sIx n d (wq (k:Int))=min k n:=by
 show(if(k:Int)<0 then((k:Int)+(n:Int)).toNat else min (k:Int).toNat n)=min k n;rw[if_neg (by lia),Int.toNat_natCast]
def Fn(n d:Nat)(hd:d<=n)(o:Option Int):sIx n d o<=n:=by
 cases o with
 |none=>exact hd
 |some v=>
  show(if v<0 then(v+(n:Int)).toNat else min v.toNat n)<=n;by_cases a:v<0
  ·rw[if_pos a];lia
  ·rw[if_neg a];exact Nat.min_le_right _ _
def wY(v:Int)(n d:Nat):(if v<0 then max (v+(n:Int)) 0 else min v (n:Int))=((sIx n d (wq v):Nat):Int):=by
 show(if v<0 then max (v+(n:Int)) 0 else min v (n:Int))=(((if v<0 then(v+(n:Int)).toNat else min v.toNat n):Nat):Int);by_cases a:v<0
 ·simp only[if_pos a];lia
 ·simp only[if_neg a];lia
def vt(lo hi:Option Int)(n:Nat):Builtin.Slice.sliceAdjust lo hi 1 (n:Int)=(((sIx n 0 lo:Nat):Int),((sIx n n hi:Nat):Int)):=by
 have h1:¬ ((1:Int)<0):=by lia
 unfold Builtin.Slice.sliceAdjust;simp only[h1,if_false];refine Prod.ext ?_ ?_
 ·cases lo with
  |none=>rfl
  |some v=>exact wY v n 0
 ·cases hi with
  |none=>rfl
  |some v=>exact wY v n n
def uP(i j:Nat):Builtin.Slice.slicePlaces (i:Int) (j:Int) 1=j-i:=by
 unfold Builtin.Slice.slicePlaces;have h1:(1:Int)>0:=by lia
 simp only[h1,if_true,Int.ediv_one];split<;>lia
def g6{v:cX}{o:Option Int}{Q:Option Int->cY->Prop}(p:IsPart v o)(h:Q o s):da (model prog w) A (Builtin.Slice.slicePartIndex v) Q E s:=by
 cases p with
 |none=>exact slicePart_none h
 |int i t=>exact slicePart_int h
def iA{e:cZ}{d c:cX}{lo hi:Option Int}{n:Nat}{Q:Int×Int×Nat->cY->Prop}(hs:s.heap.IsSliceOf e d c .none)(pl:IsPart d lo)(f:IsPart c hi)(h:Q (((sIx n 0 lo:Nat):Int),1,sIx n n hi-sIx n 0 lo) s):da (model prog w) A (Builtin.Slice.sliceApplied (.ref e) (pure (n:Int))) Q E s:=by
 obtain⟨i,b,g,a⟩:=id hs;unfold Builtin.Slice.sliceApplied Builtin.Slice.sliceFields;refine wB1 (wB1 (wpAny_field b a (x:=d) ag (wB1 (wpAny_field b a (x:=c) ag (wB1 (wpAny_field b a (x:=.none) ag (wP1 ?_)))))));refine wB1 (slicePart_none ?_);show da _ _ (if((1:Int) == 0)=ai then _ else _) _ _ s;rw[if_neg (by decide)];refine wB1 (g6 pl (wB1 (g6 f (wB1 (wP1 ?_)))));show da _ _ (match Builtin.Slice.sliceAdjust lo hi 1 (n:Int)with|(lo,hi)=>pure (lo,(1:Int),Builtin.Slice.slicePlaces lo hi 1)) _ _ s;rw[vt lo hi n];show da _ _ (pure (((sIx n 0 lo:Nat):Int),(1:Int),Builtin.Slice.slicePlaces ((sIx n 0 lo:Nat):Int) ((sIx n n hi:Nat):Int) 1)) _ _ s;rw[uP];exact wP1 h
def zL(xs:Array cX)(i k:Nat):((List.range k).filterMap λ(m:Nat)=>xs[((i:Int)+(m:Int)*1).toNat]?).toArray=((xs.toList.drop i).take k).toArray:=by
 have e:(λ(m:Nat)=>xs[((i:Int)+(m:Int)*1).toNat]?)=λm=>xs[i+m]?:=by
  funext m
  have:((i:Int)+(m:Int)*1).toNat=i+m:=by lia
  rw[this]
 rw[e];have:=pick_run xs i k;rw[aN]at this;have a:((λx=>xs[x]?)∘λx=>i+x)=λm=>xs[i+m]?:=rfl;rw[a]at this;rw[this]
def lu {t b:cZ}{items:Array cX}{i g:cX}{lo hi:Option Int}{Q:cX->cY->Prop}(ht:IsTup s.heap t items)(hs:s.heap.IsSliceOf b i g .none)(pl:IsPart i lo)(j:IsPart g hi)
  (hw:¬ (sIx items.size 0 lo=0/\sIx items.size items.size hi=items.size))
  (h:Q (.ref s.heap.objs.size) {s with heap:=s.heap.push {cls:=.type "tuple",data:=.seq ((items.toList.drop (sIx items.size 0 lo)).take (sIx items.size items.size hi-sIx items.size 0 lo)).toArray}})
  (hsz:items.size<=c9):da (model prog w) A (getItem (.ref t) (.ref b)) Q E s:=by
 have a:sizeOk (.seq ((items.toList.drop (sIx items.size 0 lo)).take (sIx items.size items.size hi-sIx items.size 0 lo)).toArray):=by
  show((items.toList.drop (sIx items.size 0 lo)).take (sIx items.size items.size hi-sIx items.size 0 lo)).toArray.size<=c9;rw[sT1,aK,aO,aB];omega
 have p:sIx items.size items.size hi<=items.size:=Fn _ _ (nR1 _) hi;obtain⟨l,c,e,k⟩:=id hs;have f:s.TypeIs (.ref b) "slice":=⟨l,c,e⟩;unfold getItem
 try with_reducible refine wpAny_holding ?_
 first|refine wB1 (wP1 ?_)|skip
 refine wB1 (wpAny_sequenceKey ht.typeIs (by decide) ?_);refine wB1 (wpAny_callSpecial?_slot (name:=Str.ofString "__getitem__") ht.typeIs PyProof.Rows.slot_tuple_getitem
  (wE1 PyProof.Rows.slot_tuple_getitem ht.typeIs entry_tuple_getitem ?_ (args_tuple_getitem _ _)))
 show da _ _ (Builtin.Tuple.tupleItemsOf (.ref t) >>= _) _ _ s;refine wB1 (tupleItemsOf_ ht ?_);refine wB1 (wpAny_typeOf f ?_);rw[if_pos (by decide)];refine wB1 (iA hs pl j ?_);have d:¬ ((((sIx items.size 0 lo:Nat):Int) == 0&&(1:Int) == 1&&(sIx items.size items.size hi-sIx items.size 0 lo) == items.size)=ai):=by
  intro q;rw[bA1,bA1]at q;have n:((sIx items.size 0 lo:Nat):Int)=0:=eq_of_beq q.1.1;have o:sIx items.size items.size hi-sIx items.size 0 lo=items.size:=eq_of_beq q.2;exact hw ⟨by omega,by omega⟩
 show da _ _ (if(((sIx items.size 0 lo:Nat):Int) == 0&&(1:Int) == 1&&(sIx items.size items.size hi-sIx items.size 0 lo) == items.size)=ai then _ else _) _ _ s;rw[if_neg d,zL]
 first
  |exact wB1 (m:=Builtin.Tuple.tupleExact _) (wO1 (wP1 ⟨_,rfl,wP1 h⟩) a)
  |exact wB1 (m:=Builtin.Tuple.tupleExact _) (wO1 (wB1 (wP1 (wP1 ⟨_,rfl,wP1 h⟩))) a)
  |exact wB1 (wB1 (m:=Builtin.Tuple.tupleExact _) (wO1 (wP1 (wP1 ⟨_,rfl,wP1 h⟩)) a))
  |exact wB1 (wB1 (m:=Builtin.Tuple.tupleExact _) (wO1 (wP1 ⟨_,rfl,wP1 h⟩) a))
end
end HT
namespace L2
open PySem PySem.Spec PyProof.Rows
abbrev TO:=St->Hp->(Option Int->Hp->Prop)->Prop
def PO(X:Cx)(e:Option Expr)(t:TO):Prop:=
 ∀(pins:List (cZ×Obj)) (s:cY) (σ:St) (H:Hp) (Q:Option Int->Hp->Prop),Inv X pins σ H s->t σ H Q ->
  da (model X.prog X.w) X.A (evalPart e X.env) (λu s'=>∃o H',Inv X pins σ H' s'/\IsPart u o/\Q o H') X.xe s
def B3:TO:=λ_ H Q=>Q aj H
def H9(t:TE):TO:=fun σ H Q=>t σ H λx H1=>∃i,x = .int i/\Q (wq i) H1
section
variable{X:Cx}{e:Expr}{te:TE}{lo hi:Option Expr}{tl th:TO}{pos p2:Pos}
def Cz:PO X aj B3:=by
 intro pins s σ H Q I h;rw[evalPart_none];exact wP1 ⟨aj,H,I,.none,h⟩
def Cy(h:PE X e te):PO X (wq e) (H9 te):=by
 intro pins s σ H Q I d;rw[evalPart_some];refine eR (h pins s σ H _ I d) λu f ⟨x,H1,a,b,c⟩=>?_;obtain⟨i,rfl,q⟩:=c;obtain⟨t,rfl⟩:=b;exact⟨wq i,H1,a,.int i t,q⟩
def BQ(X:Cx)(r:V->Option Int->Option Int->Hp->VK->Prop):Prop:=
 ∀(pins:List (cZ×Obj)) (s:cY) (σ:St) (H:Hp) (x:V) (v vl vu:cX) (lo hi:Option Int) (sl:cZ) (Q:VK),Inv X pins σ H s->dF x v->s.heap.IsSliceOf sl vl vu .none->IsPart vl lo->IsPart vu hi->r x lo hi H Q ->
  ∃T id,typeLookup (.type T) "__getitem__"=pure (wq (.builtin id))/\s.TypeIs v T/\da (model X.prog X.w) X.A (getItem v (.ref sl)) (EP X pins σ Q) X.xe s
def BQ.or{r g:V->Option Int->Option Int->Hp->VK->Prop}(h:BQ X r)(h':BQ X g):BQ X (λx lo hi H Q=>r x lo hi H Q\/g x lo hi H Q):=by
 intro pins s σ H x v d b lo hi a Q I f e pl c q;rcases q with q|q
 ·exact h pins s σ H x v d b lo hi a Q I f e pl c q
 ·exact h' pins s σ H x v d b lo hi a Q I f e pl c q
def LU(r:V->Option Int->Option Int->Hp->VK->Prop)(te:TE)(tl th:TO):TE:=fun σ H Q=>te σ H λx H1=>tl σ H1 λl H2=>th σ H2 λu H3=>r x l u H3 Q
def zN{r:V->Option Int->Option Int->Hp->VK->Prop}(hr:BQ X r)(he:PE X e te)(i:PO X lo tl)(p:PO X hi th):PE X (.Subscript e (.Slice lo hi aj p2) pos) (LU r te tl th):=by
 intro pins s σ H Q I h;refine Subscript_ (eR (he pins s σ H _ I h) λv t ⟨x,H1,A,o,D⟩=>?_);refine wpAny_Slice (eR (i pins t σ H1 _ A D) λd k ⟨l,H2,C,pl,j⟩=>eR (p pins k σ H2 _ C j) λc a ⟨u,f,B,w,m⟩=>?_);rw[evalPart_none];refine wP1 ?_;have g:Inv X pins σ f {a with heap:=a.heap.push {cls:=.type "slice",data:=.fields #[d,c,.none]}}:=B.kept (t':=a.toks) λb E q=>hP1 _ q;obtain⟨T,id,y,n,z⟩:=hr pins {a with heap:=a.heap.push {cls:=.type "slice",data:=.fields #[d,c,.none]}} σ f x v d c l u a.heap.objs.size Q g o (Heap.IsSliceOf.new ..) pl w m;show da (model X.prog X.w) X.A (subscriptTail e (.Slice lo hi aj p2) v (.ref a.heap.objs.size)) (EP X pins σ Q) X.xe {a with heap:=a.heap.push {cls:=.type "slice",data:=.fields #[d,c,.none]}};exact tail_any (ops:=[.ref a.heap.objs.size,v]) n y z (by with_unfolding_all rfl)
def t7(xs:List V)(lo hi:Option Int):List V:=(xs.drop (HT.sIx xs.length 0 lo)).take (HT.sIx xs.length xs.length hi-HT.sIx xs.length 0 lo)
def mI(xs:List V)(lo hi:Option Int):(t7 xs lo hi).length<=xs.length:=by
 unfold t7;rw[aK,aO];lia
def KL(K:Fg1):V->Option Int->Option Int->Hp->VK->Prop:=λx lo hi H Q=>∃a xs,x = .ref a/\jL K H a xs /\
 ¬ (HT.sIx xs.length 0 lo=0/\HT.sIx xs.length xs.length hi=xs.length) /\ ∀p,H p=aj->Q (.ref p) (upd H p (.tup (t7 xs lo hi)))
def Fi:BQ X (KL X.K):=by
 intro pins s σ H x v p n lo hi m Q I k j pl g h;obtain⟨a,xs,rfl,i,l,q⟩:=h;cases k;obtain⟨d,r,f,e⟩:=I.tuple i;have c:d.toArray.size=xs.length:=by rw[sT1];exact r.length.symm
 refine⟨"tuple",_,PyProof.Rows.slot_tuple_getitem.lookup,f.typeIs,?_⟩;refine HT.lu f j pl g (by rw[c];exact l) ?_ (by rw[c];exact e);rw[c];refine⟨.ref s.heap.objs.size,_,I.laid (t':=s.toks) (o:=.tup (t7 xs lo hi)) (λb t q=>hP1 _ q) (nR1 _) ?_,ag,q _ (I.hok.fresh (nR1 _))⟩;exact⟨au (mI xs lo hi) e,_,(r.drop (HT.sIx xs.length 0 lo)).take (HT.sIx xs.length xs.length hi-HT.sIx xs.length 0 lo),IsTup.new _ _⟩
def IB(K:Fg1):R2:=λx y H Q=>∃a b xs ys,x = .ref a/\y = .ref b/\jL K H a xs/\jL K H b ys/\xs≠[]/\xs.length+ys.length<=c9 /\
 (ys=[]->Q (.ref a) H)/\(ys≠[] -> ∀p,H p=aj->Q (.ref p) (upd H p (.tup (xs++ys))))
def dQ.nil_iff{xs:List V}{a:List cX}(r:dQ xs a):a=[]↔xs=[]:=by
 cases r with
 |nil=>simp
 |cons _ _=>simp
def CP:fZ X (binaryOp .Add) (IB X.K):=by
 intro pins s σ H x y v u Q I l p h;obtain⟨a,b,xs,ys,rfl,rfl,k,g,i,d,j,n⟩:=h;cases l;cases p;obtain⟨m,c,f,_⟩:=I.tuple k;obtain⟨e,r2,p2,_⟩:=I.tuple g;refine HT.DX f p2 (λz=>i (c.nil_iff.mp z)) (λz=>⟨.ref a,H,I,ag,j (r2.nil_iff.mp z)⟩) (λz=>?_) (by rw[<- c.length,<- r2.length];exact d);refine⟨.ref s.heap.objs.size,_,I.laid (t':=s.toks) (o:=.tup (xs++ys)) (λb r q=>hP1 _ q) (nR1 _) ?_,ag,n (λw=>z (r2.nil_iff.mpr w)) _ (I.hok.fresh (nR1 _))⟩;exact⟨by rw[lA1];exact d,_,c.append r2,IsTup.new _ _⟩
end
end L2
namespace L2
open PySem PySem.Spec PyProof.Rows
def xV(n:Nat)(i:Int):Option Nat:=if 0<=i then(if i<n then wq i.toNat else aj)else if-(n:Int)<=i then wq (i+n).toNat else aj
def vq{α:Type}(xs:List α)(i:Int):Option α:=(xV xs.length i).bind λj=>xs[j]?
def rn{n:Nat}{i:Int}{j:Nat}(h:xV n i=wq j):seqIndex? i n=wq j/\j<n /\ -(n:Int)<=i/\i<n:=by
 unfold xV at h;by_cases a:0<=i
 ·rw[if_pos a]at h;by_cases h1:i<n
  ·rw[if_pos h1]at h;have e:i.toNat=j:=Option.some.inj h;exact⟨by rw[seqIndex_of a h1,e],by lia,by lia,h1⟩
  ·rw[if_neg h1]at h;cases h
 ·rw[if_neg a]at h;by_cases h1: -(n:Int)<=i
  ·rw[if_pos h1]at h;have e:(i+n).toNat=j:=Option.some.inj h;exact⟨by rw[seqIndex_neg (by lia) h1,e],by lia,h1,by lia⟩
  ·rw[if_neg h1]at h;cases h
def w5{α:Type}{xs:List α}{i:Int}{v:α}(h:vq xs i=wq v):∃j,seqIndex? i xs.length=wq j/\xs[j]?=wq v/\j<xs.length /\ -(xs.length:Int)<=i/\i<xs.length:=by
 unfold vq at h;cases e:xV xs.length i with
 |none=>rw[e]at h;cases h
 |some j=>
  rw[e]at h;obtain⟨h1,h2,a,b⟩:=rn e;exact⟨j,h1,h,h2,a,b⟩
def nj(b:Expr):Prop:=∀o i,subscripted b ah o i=operate [o,i] (getItem o i)
def EW(X:Cx)(r:R2):Prop:=
 ∀(value slice:Expr) (pins:List (cZ×Obj)) (s:cY) (σ:St) (H:Hp) (x y:V) (v u:cX) (Q:VK),Inv X pins σ H s->dF x v->dF y u->r x y H Q ->
  subscripted slice ah v u=operate [v,u] (getItem v u)->da (model X.prog X.w) X.A (subscriptTail value slice v u) (EP X pins σ Q) X.xe s
def HK(X:Cx)(id:String)(r:V->List V->Hp->VK->Prop):Prop:=
 ∀(pins:List (cZ×Obj)) (s:cY) (σ:St) (H:Hp) (x:V) (xs:List V) (v:cX) (us:List cX) (Q:VK),Inv X pins σ H s->dF x v->dQ xs us->r x xs H Q ->
  da (model X.prog X.w) X.A (call (.builtin id) (v::us)) (EP X pins σ Q) X.xe s
section
variable{X:Cx}{a b:Expr}{ta tb:TE}{pos:Pos}
def IJ{r:R2}(hr:EW X r)(ha:PE X a ta)(hb:PE X b tb)(hs:nj b):PE X (.Subscript a b pos) (Ia r ta tb):=by
 intro pins s σ H Q I h;exact Subscript_ (Hv ha hb I h λv u d x y H2 c f e q=>hr a b pins d σ H2 x y v u Q c f e q (hs _ _))
def KO(K:Fg1):R2:=λx y H Q=>∃p xs i v,x = .ref p/\y = .int i/\lJ K H p xs/\vq xs i=wq v/\Q v H
def KN(K:Fg1):R2:=λx y H Q=>∃p xs i v,x = .ref p/\y = .int i/\jL K H p xs/\vq xs i=wq v/\Q v H
def Dt:EW X (KO X.K):=by
 intro value e pins s σ H x y v u Q I m B h f;obtain⟨p,xs,i,z,rfl,rfl,C,A,q⟩:=h;cases m;obtain⟨t,rfl⟩:=B;obtain⟨c,r,pl,E⟩:=I.list C;obtain⟨j,h1,h2,D,l,o⟩:=w5 A;obtain⟨w,g,d⟩:=r.get h2;have n:=r.length;have F:=lX;have a:EP X pins σ Q w s:=⟨z,H,I,d,q⟩;by_cases k:0<=i
 ·have b:i.toNat=j:=by
   rw[seqIndex_of k o]at h1;exact Option.some.inj h1
  exact item_listR pl.isList k (by lia) (by rw[b];simpa using g) a f
 ·have b:(i+(c.toArray.size:Int)).toNat=j:=by
   rw[seqIndex_neg (by lia) l]at h1;rw[sT1,<- n];exact Option.some.inj h1
  exact subscriptTail_builtinR (x:=w) pl.isList.typeIs slot_list_getitem.lookup
   (wpAny_getItem_list_neg (Q:=λr s'=>r=w/\EP X pins σ Q r s') pl.isList (by lia) (by rw[sT1]<;>lia) (by lia) (by rw[b];simpa using g) ⟨ag,a⟩) f
def G0:EW X (KN X.K):=by
 intro value a pins s σ H x y v u Q I e l h d;obtain⟨p,xs,i,z,rfl,rfl,n,k,q⟩:=h;cases e;obtain⟨t,rfl⟩:=l;obtain⟨g,r,pl,A⟩:=I.tuple n;obtain⟨j,h1,h2,o,C,D⟩:=w5 k;obtain⟨w,m,b⟩:=r.get h2;have f:=r.length;have B:=lX;have c:EP X pins σ Q w s:=⟨z,H,I,b,q⟩;exact subscriptTail_builtinR (x:=w) pl.typeIs slot_tuple_getitem.lookup
  (getItem_tuple (j:=j) (Q:=λr s'=>r=w/\EP X pins σ Q r s') pl (by lia) (by lia) (by rw[sT1,<- f];exact h1) (by simpa using m) ⟨ag,c⟩) d
def u4(its:List cX)(n j:Nat)(u:cX):Obj.mapSeq (·.setIfInBounds j u) {cls:=.type "list",data:=.seq its.toArray n}={cls:=.type "list",data:=.seq (its.set j u).toArray n}:=by
 simp[Obj.mapSeq]
def Inv.lst{pins:List (cZ×Obj)}{σ:St}{H:Hp}{s:cY}{p:cZ}{xs:List V}(I:Inv X pins σ H s)(h:H p=some (.lst xs)):
  ∃(its:List cX) (n:Nat),dQ xs its/\s.heap.get? p=wq {cls:=.type "list",data:=.seq its.toArray n}/\xs.length<=c9:=by
 obtain⟨z,its,n,r,e⟩:=I.hok p _ h;exact⟨its,n,r,e,z⟩
def Inv.lstUpd {pins:List (cZ×Obj)}{σ:St}{H:Hp}{s:cY}{p:cZ}{xs ys:List V}{its its':List cX}{n n':Nat}{f:Obj->Obj}(I:Inv X pins σ H s)(h:H p=some (.lst xs))
  (ho:s.heap.get? p=wq {cls:=.type "list",data:=.seq its.toArray n}) (hf:f {cls:=.type "list",data:=.seq its.toArray n}={cls:=.type "list",data:=.seq its'.toArray n'}) (r:dQ ys its') (hz:ys.length<=c9) (t:Nat):
  Inv X pins σ (upd H p (.lst ys)) {s with heap:=s.heap.update p f,toks:=t}:=by
 have e:(s.heap.update p f).get? p=wq {cls:=.type "list",data:=.seq its'.toArray n'}:=by
  rw[hW1 f ho (by rw[hf]<;>rfl),hf]
 refine I.write (x:=p) (e:=p) (by rw[h];trivial) (.inl ag) (λb u a q=>(Heap.get?_update_other _ _ (Ne.symm a)).trans q) ⟨_,e⟩ ?_;exact⟨hz,its',n',r,e⟩
def Iy:V->V->V->Hp->(Hp->Prop)->Prop:=λo i v H Q=>∃p xs k j,o = .ref p/\i = .int k/\H p=wq (.lst xs)/\xV xs.length k=wq j/\Q (upd H p (.lst (xs.set j v)))
def zr:vz X Iy:=by
 intro pins s σ H o i v C D u Q I y z w h;obtain⟨p,xs,k,j,rfl,rfl,l,A,q⟩:=h;cases y;obtain⟨t,rfl⟩:=z;obtain⟨a,n,r,d,x⟩:=I.lst l;obtain⟨h1,h2,f,g⟩:=rn A;have b:=r.length;have B:=lX;have m:Inv X pins σ (upd H p (.lst (xs.set j v))) {s with heap:=s.heap.update p (Obj.mapSeq (·.setIfInBounds j u))}:=
  I.lstUpd l d (u4 a n j u) (r.set w j) (by rw[aP];exact x) s.toks
 by_cases e:0<=k
 ·have c:k.toNat=j:=by
   rw[seqIndex_of e g]at h1;exact Option.some.inj h1
  exact PySem.W.ki_setAt d e (by lia) (by rw[sT1,<- b];exact g) (by rw[c];exact⟨_,m,q⟩)
 ·have c:(k+(a.toArray.size:Int)).toNat=j:=by
   rw[seqIndex_neg (by lia) f]at h1;rw[sT1,<- b];exact Option.some.inj h1
  exact PySem.W.ki_setBack d (by lia) (by rw[sT1,<- b];exact f) (by lia) (by rw[c];exact⟨_,m,q⟩)
def qm(lo hi:Option Int)(n:Nat):(sliceBounds lo hi aj n).1=((HT.sIx n 0 lo:Nat):Int)/\(sliceBounds lo hi aj n).2.1=((HT.sIx n n hi:Nat):Int)/\(sliceBounds lo hi aj n).2.2=1:=by
 refine⟨?_,?_,ag⟩
 ·cases lo with
  |none=>simp[sliceBounds,HT.sIx]
  |some i=>
   simp only[sliceBounds,HT.sIx,Option.getD_none,show(1:Int)>0 by decide,if_true];by_cases h:i<0
   ·simp only[h,if_true]<;>lia
   ·simp only[h,if_false]<;>lia
 ·cases hi with
  |none=>simp[sliceBounds,HT.sIx]
  |some i=>
   simp only[sliceBounds,HT.sIx,Option.getD_none,show(1:Int)>0 by decide,if_true];by_cases h:i<0
   ·simp only[h,if_true]<;>lia
   ·simp only[h,if_false]<;>lia
def oS(its:List cX)(lo hi:Option Int):slicePick its.toArray lo hi aj=((its.drop (HT.sIx its.length 0 lo)).take (HT.sIx its.length its.length hi-HT.sIx its.length 0 lo)).toArray:=by
 obtain⟨h1,h2,a⟩:=qm lo hi its.toArray.size;unfold slicePick;rw[h1,h2,a];simp only[sliceRange_one,pick_run,sT1]<;>rfl
def KM(K:Fg1):V->Option Int->Option Int->Hp->VK->Prop:=λx lo hi H Q=>∃a xs,x = .ref a/\lJ K H a xs /\ ∀p,H p=aj->Q (.ref p) (upd H p (.lst (t7 xs lo hi)))
def Ce:BQ X (KM X.K):=by
 intro pins s σ H x v n m lo hi l Q I j i pl f h;obtain⟨a,xs,rfl,g,q⟩:=h;cases j;obtain⟨k,r,d,e⟩:=I.list g;have c:=r.length;refine⟨"list",_,slot_list_getitem.lookup,d.isList.typeIs,?_⟩;refine wpAny_getItem_list_slice d.isList i pl f .none (by simp) ?_ (by rw[sT1]<;>lia);rw[oS,<- c];refine⟨.ref s.heap.objs.size,_,I.laid (t':=s.toks) (o:=.lst (t7 xs lo hi)) (λb p q=>hP1 _ q) (nR1 _) ?_,ag,q _ (I.hok.fresh (nR1 _))⟩;exact⟨au (mI xs lo hi) e,_,0,(r.drop (HT.sIx xs.length 0 lo)).take (HT.sIx xs.length xs.length hi-HT.sIx xs.length 0 lo),hS1 _ ag⟩
def kg:V->Bool
 | .non=>ai
 | .bl _=>ai
 | .int _=>ai
 | .str _=>ai
 |_=>ah
def uw:V->V->Bool
 | .non,.non=>ai
 | .bl a,.bl b=>a == b
 | .bl a,.int b=>(if a then 1 else 0) == b
 | .int a,.bl b=>a == (if b then 1 else 0)
 | .int a,.int b=>a == b
 | .str a,.str b=>a == b
 |_,_=>ah
def kB{A:c5}{s:cY}{y x:V}{u v:cX}(f:dF y u)(c:dF x v)(g:kg y=ai)(e:kg x=ai):SeqAt.EqAt A s u v (uw y x):=by
 cases y with
 |non=>
  cases f;cases x with
  |non=>cases c;exact SeqAt.EqAt.same _
  |bl b=>cases c;exact SeqAt.EqAt.none_bool b
  |int b=>obtain⟨t,rfl⟩:=c;exact SeqAt.EqAt.none_int b t
  |str b=>obtain⟨t,rfl⟩:=c;exact SeqAt.EqAt.none_str b t
  |_=>exact absurd (show ah=ai from e) aC
 |bl a=>
  cases f;cases x with
  |non=>cases c;exact SeqAt.EqAt.bool_none a
  |bl b=>cases c;exact SeqAt.EqAt.bool_bool a b
  |int b=>obtain⟨t,rfl⟩:=c;exact SeqAt.EqAt.bool_int a b t
  |str b=>obtain⟨t,rfl⟩:=c;exact SeqAt.EqAt.bool_str a b t
  |_=>exact absurd (show ah=ai from e) aC
 |int a=>
  obtain⟨d,rfl⟩:=f;cases x with
  |non=>cases c;exact SeqAt.EqAt.int_none a d
  |bl b=>cases c;exact SeqAt.EqAt.int_bool a d b
  |int b=>obtain⟨t,rfl⟩:=c;exact SeqAt.EqAt.int_int a d b t
  |str b=>obtain⟨t,rfl⟩:=c;exact SeqAt.EqAt.int_str a d b t
  |_=>exact absurd (show ah=ai from e) aC
 |str a=>
  obtain⟨d,rfl⟩:=f;cases x with
  |non=>cases c;exact SeqAt.EqAt.str_none a d
  |bl b=>cases c;exact SeqAt.EqAt.str_bool a d b
  |int b=>obtain⟨t,rfl⟩:=c;exact SeqAt.EqAt.str_int a d b t
  |str b=>obtain⟨t,rfl⟩:=c;exact SeqAt.EqAt.str_str a d b t
  |_=>exact absurd (show ah=ai from e) aC
 |_=>exact absurd (show ah=ai from g) aC
def r0:eg X (.builtin "len") (λxs H Q=>∃p ys,xs=[.ref p]/\(lJ X.K H p ys\/jL X.K H p ys)/\Q (.int ys.length) H):=by
 intro pins s σ H xs i Q I r h;obtain⟨p,ys,rfl,b,q⟩:=h;obtain⟨u,rfl,f⟩:=gX r;cases f;have g:=lX;rcases b with b|b
 ·obtain⟨c,d,pl,e⟩:=I.list b;have a:=d.length;exact Calls.call_len_list pl.isList (by simp only[sT1]<;>lia) ⟨.int ys.length,H,I.tok _,⟨s.toks+1,by rw[sT1,a]⟩,q⟩
 ·obtain⟨c,d,pl,e⟩:=I.tuple b;have a:=d.length;exact len_tuple pl (by simp only[sT1]<;>lia) ⟨.int ys.length,H,I.tok _,⟨s.toks+1,by rw[sT1,a]⟩,q⟩
def rZ:eg X (.builtin "len") (λxs H Q=>∃z,xs=[.str z]/\z.length<=c9/\Q (.int z.length) H):=by
 intro pins s σ H xs c Q I r h;obtain⟨z,rfl,a,q⟩:=h;obtain⟨u,rfl,t,rfl⟩:=gX r;have b:=lX;exact len_str (by lia) ⟨.int z.length,H,I.tok _,⟨_,ag⟩,q⟩
def rY:eg X (.type "list") (λxs H Q=>∃p ys,xs=[.ref p]/\(lJ X.K H p ys\/jL X.K H p ys) /\ ∀l,H l=aj->Q (.ref l) (upd H l (.lst ys))):=by
 intro pins s σ H xs w Q I r h;obtain ⟨p,ys,rfl,j,q⟩:=h;obtain ⟨u,rfl,v⟩:=gX r;cases v;have k:∀ (a:List cX),dQ ys a->ys.length<=c9 -> ∀ (h':db) (c:Nat),(∀ b o',s.heap.get? b=some o'->h'.get? b=some o') ->
   h'.get? s.heap.objs.size=wq {cls:=.type "list",dict:=aj,data:=.seq a.toArray c,slots:= #[]}->EP X pins σ Q (.ref s.heap.objs.size) {s with heap:=h'}:=λa d f h' c i e=>
  ⟨.ref s.heap.objs.size,_,I.laid (t':=s.toks) i (nR1 _) (show eB X.prog X.w _ h' _ (.lst ys)from⟨f,a,c,d,e⟩),ag,q _ (I.hok.fresh (nR1 _))⟩
 rcases j with j|j
 ·obtain⟨a,d,pl,f⟩:=I.list j;have g:=d.length;obtain⟨o,t,hc,n,m⟩:=pl.isList;exact call_list_seq p (.inl ag) t hc m (λh' c i e=>k a d f h' c i e) (by simp only[sT1]<;>lia)
 ·obtain⟨a,d,pl,f⟩:=I.tuple j;have g:=d.length;obtain⟨o,t,hc,n,m⟩:=pl;exact call_list_seq p (.inr ag) t hc m (λh' c i e=>k a d f h' c i e) (by simp only[sT1]<;>lia)
def pb:eg X (.type "tuple") (λxs H Q=>∃p ys,xs=[.ref p]/\((lJ X.K H p ys /\ ∀l,H l=aj->Q (.ref l) (upd H l (.tup ys)))\/(jL X.K H p ys/\Q (.ref p) H))):=by
 intro pins s σ H xs n Q I r h;obtain⟨p,ys,rfl,h⟩:=h;obtain⟨u,rfl,m⟩:=gX r;cases m;rcases h with⟨d,q⟩|⟨d,q⟩
 ·obtain ⟨a,c,pl,f⟩:=I.list d;have i:=c.length;refine call_tuple_list pl.isList (fun h' j=>?_) (by simp only [sT1]<;>lia);have g:Inv X pins σ H {s with heap:=h'}:=I.kept (t':=s.toks) j;have k:Inv X pins σ (upd H h'.objs.size (.tup ys)) {s with heap:=h'.push {cls:=.type "tuple",data:=.seq a.toArray}}:=
   g.laid (t':=s.toks) (λb o e=>hP1 _ e) (nR1 _) (show eB X.prog X.w _ _ _ (.tup ys)from⟨f,a,c,IsTup.new _ _⟩)
  exact⟨.ref h'.objs.size,_,k,ag,q _ (g.hok.fresh (nR1 _))⟩
 ·obtain⟨a,c,pl,f⟩:=I.tuple d;exact call_tuple_same pl ⟨.ref p,H,I,ag,q⟩
def Lx(K:Fg1)(T:String)(x:V)(H:Hp):Prop:=match x with
 | .str _=>T="str"
 | .int _=>T="int"
 | .ref p=>(T="list" /\ ∃ xs,lJ K H p xs)\/(T="tuple" /\ ∃ o,K.lookup p=some o/\o.cls = .type "tuple"/\o.dict=none) \/
   (T="dict"/\((∃kvs,H p=wq (.dK kvs)) \/ ∃kvs,H p=wq (.dT kvs)))\/(T="set" /\ ∃S n,H p=wq (.set S n))
 |_=>False
def E4{pins:List (cZ×Obj)}{σ:St}{H:Hp}{s:cY}{T:String}{x:V}{v:cX}(I:Inv X pins σ H s)(r:dF x v)(ty:Lx X.K T x H):
  s.TypeIs v T /\ ∀a,v = .ref a -> ∃g,s.heap.get? a=wq g/\g.dict=aj:=by
 cases x with
 |str z=>
  obtain⟨t,rfl⟩:=r;cases(show T="str" from ty);exact⟨typeIs_str s z t,λ_ e=>nomatch e⟩
 |int i=>
  obtain⟨t,rfl⟩:=r;cases(show T="int" from ty);exact⟨typeIs_int s i t,λ_ e=>nomatch e⟩
 |ref p=>
  cases r;rcases ty with⟨rfl,xs,j⟩|⟨rfl,o,b,hc,d⟩|⟨rfl,b⟩|⟨rfl,S,n,b⟩
  ·obtain⟨h,_,pl,_⟩:=I.list j;refine⟨pl.isList.typeIs,λa e=>?_⟩;cases e;obtain⟨o,n,e,c,d,_⟩:=pl;exact⟨o,e,d⟩
  ·refine⟨⟨o,I.kIn p o b,hc⟩,λa e=>?_⟩;cases e;exact⟨o,I.kIn _ o b,d⟩
  ·have z:∃ o,s.heap.get? p=some o/\o.ExactDict:=by
    rcases b with⟨kvs,b⟩|⟨kvs,b⟩
    ·obtain⟨_,_,_,_,o,_,_,e,ex,_⟩:=I.hok p _ b;exact⟨o,e,ex⟩
    ·obtain⟨_,_,_,_,o,_,_,e,ex,_⟩:=I.hok p _ b;exact⟨o,e,ex⟩
   obtain⟨o,e,ex⟩:=z;refine⟨⟨o,e,ex.1⟩,λa f=>?_⟩;cases f;exact⟨o,e,ex.2.1⟩
  ·obtain⟨o,_,_,_,e,ex,_⟩:=I.hok p _ b;refine⟨⟨o,e,ex.1⟩,λa f=>?_⟩;cases f;exact⟨o,e,ex.2.1⟩
 |_=>exact False.elim ty
def LY(K:Fg1)(T:String)(r:V->List V->Hp->VK->Prop)(to:TE)(t:TA):TE:=fun σ H Q=>to σ H λx H1=>Lx K T x H1/\t σ H1 λxs H2=>r x xs H2 Q
variable{o e:Expr}{es:List Expr}{to:TE}{t:TA}{name:Str}{apos cpos:Pos}{T id:String}{r:V->List V->Hp->VK->Prop}
def IK (j:PlainAttrs T)(slot:Slot T name id)(hty:typeOf (.builtin id)=pure (.type "method_descriptor"))(hm:HK X id r)(ho:PE X o to)(ha:PA X (e::es) t)
  (hbase:attributeBase o name X.env (eval o X.env)=eval o X.env:=by rfl)
  (hfew:((backTo cpos (c8 (e::es) X.env)).all (λx=> !x.1)&&(backToKw cpos (keywordEach [] X.env)).all (λx=>x.1.isSome)
   && decide ((e::es).length+([]:List Keyword).length+(if([]:List Keyword).isEmpty then 0 else 1)<30))=ai:=by rfl)
  (hline:(apos.endLine == cpos.line)=ai:=by rfl) (hs:c8 (e::es) X.env=(ah,eval e X.env)::c8 es X.env:=by rfl) (hplain:(backTo cpos (c8 es X.env)).any (·.1)=ah:=by rfl):
  PE X (.Call (.Attribute o name apos) (e::es) [] cpos) (LY X.K T r to t):=by
 intro pins s σ H Q I h;refine wpAny_Call_method_late hbase hfew hline ag (eR (ho pins s σ H _ I h) λv i ⟨x,H1,a,b,ty,g⟩=>?_);obtain⟨h1,h2⟩:=E4 a b ty;refine⟨T,id,j,slot,hty,h1,h2,?_⟩;have c:=ha cpos pins i σ H1 _ a g;rw[hs]at c ⊢;refine Calls.callWith_builtin (by show(ah||(backTo cpos (c8 es X.env)).any (·.1))=ah;rw[hplain]<;>rfl) (Calls.evalArgs_plain ?_);exact eR c λk d ⟨vs,H2,f,r2,l⟩=>hm pins d σ H2 x vs v k Q f b r2 l
end
end L2
namespace L2
open PySem PySem.Spec PyProof.Rows
def LM(X:Cx)(id:String)(r:V->List V->Hp->VK->Prop):Prop:=
 ∀(pins:List (cZ×Obj)) (s:cY) (σ:St) (H:Hp) (x:V) (xs:List V) (v:cX) (us:List cX) (Q:VK),Inv X pins σ H s->dF x v->dQ xs us->r x xs H Q ->
  da (model X.prog X.w) X.A (call (.builtin id) (v::us)) (EP X pins σ Q) X.xe s
def dQ.one:∀{x:V} {a:List cX},dQ [x] a -> ∃u,a=[u]/\dF x u:=by
 intro x a h;cases h with
 |cons r t=>cases t;exact⟨_,ag,r⟩
def dQ.eraseIdx:∀{xs:List V} {a:List cX} (i:Nat),dQ xs a->dQ (xs.eraseIdx i) (a.eraseIdx i)
 |_,_,_,.nil=>.nil
 |_,_,0,.cons _ t=>t
 |_,_,i+1,.cons r t=>.cons r (dQ.eraseIdx i t)
def pA{α:Type}:∀(l:List α) (i:Nat),(l.eraseIdx i).length<=l.length
 |[],_=>nR1 _
 |_::_,0=>aQ _
 |_::r,i+1=>Nat.succ_le_succ (pA r i)
section
variable{X:Cx}{pins:List (cZ×Obj)}{σ:St}{H:Hp}{s:cY}{l b:cZ}{xs ys zs:List V}
def Inv.lset {its its':List cX}{n:Nat}{f:Array cX->Array cX}{t':Nat}(I:Inv X pins σ H s)(b:H l=some (.lst xs))
  (e:s.heap.get? l=wq {cls:=.type "list",data:=.seq its.toArray n}) (hf:f its.toArray=its'.toArray) (hv:dQ ys its') (hz:ys.length<=c9):
  Inv X pins σ (upd H l (.lst ys)) {s with heap:=s.heap.update l (Obj.mapSeq f),toks:=t'}:=by
 have q:=PySem.IsL.update e f;rw[hf]at q;refine I.write (x:=l) (e:=l) (by rw[b];exact trivial) (.inl ag) (λd u a c=>(Heap.get?_update_other s.heap (Obj.mapSeq f) (Ne.symm a)).trans c) ⟨_,q⟩ ?_;exact⟨hz,its',_,hv,q⟩
def Inv.lnew{its:List cX}{t':Nat}(I:Inv X pins σ H s)(hv:dQ ys its)(hz:ys.length<=c9):
  Inv X pins σ (upd H s.heap.objs.size (.lst ys)) {s with heap:=s.heap.push {cls:=.type "list",data:=.seq its.toArray},toks:=t'}:=
 I.laid (λ_ _ q=>hP1 _ q) (nR1 _) ⟨hz,its,0,hv,hS1 _ ag⟩
def Inv.fresh(I:Inv X pins σ H s):H s.heap.objs.size=aj:=I.hok.fresh (nR1 _)
def Inv.lstM(I:Inv X pins σ H s)(a:H l=wq (.lst xs)):xs.length<=c9 /\ ∃(its:List cX) (n:Nat),dQ xs its/\xs.length=its.length/\s.heap.get? l=wq {cls:=.type "list",data:=.seq its.toArray n}:=by
 obtain⟨z,its,n,r,e⟩:=I.hok l _ a;exact⟨z,its,n,r,r.length,e⟩
end
section
variable{X:Cx}
def Co:V->List V->Hp->VK->Prop:=λx vs H Q=>∃l xs y,x = .ref l/\vs=[y]/\H l=wq (.lst xs)/\xs.length<c9/\Q .non (upd H l (.lst (xs++[y])))
def px:LM X "list.append" Co:=by
 intro pins s σ H x vs v j Q I f c h;obtain⟨l,xs,y,rfl,rfl,b,g,q⟩:=h;cases f;obtain⟨u,rfl,d⟩:=c.one;obtain⟨z,a,n,r,i,e⟩:=I.lstM b;refine call_meets F.slot_list_append ⟨_,e,ag⟩ F.entry_list_append (F.args_list_append_2 _ _) (PySem.list_append l a.toArray n u (by rw[sT1];lia)) ⟨e,?_⟩;refine⟨.non,_,I.lset (its':=a++[u]) b e (by simp) (r.append (.cons d .nil)) ?_,ag,q⟩;rw[lA1,aR];lia
def Fs:V->List V->Hp->VK->Prop:=λx vs H Q=>∃l xs i k y,x = .ref l/\vs=[.int i]/\H l=wq (.lst xs) /\ -(2^63)<=i/\i<2^63/\seqIndex? i xs.length=wq k/\xs[k]?=wq y/\Q y (upd H l (.lst (xs.eraseIdx k)))
def Ai:LM X "list.pop" Fs:=by
 intro pins s σ H x vs v A Q I j d h;obtain⟨l,xs,i,k,y,rfl,rfl,c,h1,h2,o,g,q⟩:=h;cases j;obtain⟨u,rfl,f⟩:=d.one;obtain⟨t,rfl⟩:=f;obtain⟨z,a,n,r,m,e⟩:=I.lstM c;obtain⟨w,p,b⟩:=r.get g;refine call_meets F.slot_list_pop ⟨_,e,ag⟩ F.entry_list_pop (F.args_list_pop_2 _ _)
  (MeetsSeq.list_pop_at l a.toArray n i t k w (fitsIndex_both h1 h2) (by rw[sT1,<- m];exact o) (by rw[<- aT1];exact p) (by rw[sT1];lia)) ⟨e,?_⟩
 refine⟨y,_,I.lset (its':=a.eraseIdx k) c e ?_ (r.eraseIdx k) ?_,b,q⟩
 ·show a.toArray.eraseIdxIfInBounds k=(a.eraseIdx k).toArray;rw[List.eraseIdxIfInBounds_toArray]
 ·have:=pA xs k;lia
def KP:R2:=λx y H Q=>∃l b xs zs,x = .ref l/\y = .ref b/\H l=wq (.lst xs)/\H b=wq (.lst zs)/\xs.length+zs.length<=c9 /\ ∀p,H p=aj->Q (.ref p) (upd H p (.lst (xs++zs)))
def F7:fZ X (binaryOp .Add) KP:=by
 intro pins s σ H x y v u Q I i j h;obtain⟨l,b,xs,zs,rfl,rfl,d,m,p,q⟩:=h;cases i;cases j;obtain⟨z,c,n,r,t,e⟩:=I.lstM d;obtain⟨o,a,w,r2,f,k⟩:=I.lstM m;refine PySem.P.add_list e k ?_ (by rw[sT1,sT1];lia);have g:c.toArray++a.toArray=(c++a).toArray:=by simp
 rw[g];exact⟨.ref _,_,I.lnew (t':=s.toks) (r.append r2) (by rw[lA1];lia),ag,q _ I.fresh⟩
end
section
variable{prog:c0}{w:c6}{A:c5}{E:cX->cY->Prop}{s:cY}
end
section
variable{X:Cx}
end
end L2
namespace Att
open PySem PySem.W PySem.Calls PyProof.Rows
def mT{P:Params}{h:db}:∀(ns:List Int) (vs:List cX),WellAll P h vs (ns.map WData.int)->IntsAre vs ns:=by
 intro ns
 induction ns with
 |nil=>
  intro vs w;rw[aS]at w;cases w;exact .nil
 |cons n ns ih=>
  intro vs w;rw[mP1]at w;cases w with
  |cons a b=>
   cases a;exact .cons _ _ (ih _ b)
def xw{l:OpenLaw}{n:Nat}(hn:l.most=some n){P:Params}{h:db}{args:List WData}{c:List cX}(b:l.row.toRowW.claim.pre args=true)(k:WellAll P h c args):
  ∃a vs ns,c=[Value.ref a]/\args=[WData.list (ns.map WData.int)]/\h.get? a=wq {cls:=.type "list",data:=.seq vs.toArray}/\IntsAre vs ns/\ns.length<=n:=by
 have j:WShape.hasAll [] args [.list .int]=ai:=(pre_splitW b).1;have hc:l.pre.holds [] {args:=args}=ai:=(pre_splitW b).2;obtain⟨d,r,rfl,h1,h2⟩:=hasAllW_cons j;obtain rfl:=hasAllW_nil h2;obtain⟨xs,rfl,o⟩:=hasW_list h1;obtain⟨ns,rfl⟩:=items_int o;have e:ns.length<=n:=by
  unfold OpenLaw.pre at hc;have g:(WTm.not (.lt (.lit (.int (n:Int))) (.len (.arg 0)))).holds [] {args:=[.list (ns.map .int)]}=ai:=by
   have g:=(holds_andW hc).1;rw[hn]at g;exact g
  have i:=condW_of g (w_not (w_lt w_lit (w_len_list (w_arg ag))));rw[lM1]at i;refine Nat.le_of_not_lt λq=>?_;have t:(n:Int)<((ns.length:Nat):Int):=by omega
  first
   |(rw[decide_eq_true t]at i;exact absurd i (by decide))
   |(simp at i;omega)
 cases k with
 |cons m p=>
  cases p;cases m with
  |list s f=>exact⟨_,_,ns,ag,ag,s,mT ns _ f,e⟩
def xD(l:OpenLaw)(args:List WData):l.row.toRowW.claim.post args (.bool ai) args=ai:=
 postW_of (r:=l.row.toRowW) (X:=(ai == ai))
  (show WShape.has [] (.bool ai) .bool=ai by first|rfl|decide|simp[WShape.has,WShape.arms,WShape.armsAll])
  (show(WTm.eq .res (.lit (.bool ai))).value [] {args:=args,res:=wq (.bool ai),after:=args}=wq (.bool (ai == ai))from w_eq_bool (w_res ag) w_lit) ag
def attach_call {l:OpenLaw}{n:Nat}{q:c0}{e:List Str}{XP:(Str->Option cX)->db->Prop}{z:c6->db->Prop}{d:DefRec}
  (hn:l.most=wq n) (x:d.params.defaults=[])
  (call:∀(w:c6) (c b:cY) (mg t:Str->Option cX) (i:cZ) (o:Obj) (s p h:cX) (a:cZ) (vs:List cX) (ns:List Int),
   Ground q e [] XP w c mg t b.heap->z w b.heap ->
   b.heap.get? i=wq o->o.data = .func (docDef d.name d.params d.body d.scope s p h)->b.heap.CodeRec p d.name->mg d.name=wq (.ref i) ->
   b.heap.get? a=wq {cls:=.type "list",data:=.seq vs.toArray}->IntsAre vs ns->ns.length<=n->b.gens = #[] ->
   codeAny (model l.prog w) callerA (.call (.ref i) ⟨[.ref a],[]⟩) (λr s'=>r = .ok (.ret (.bool ai))/\OldK b.heap s'.heap/\s'.os=b.os/\AllBare s'.gens) b):
  WalkO q e XP z l.row.toRowW d [] (λf vs=>PySem.call f vs):=by
 intro w c b mg t G Y i o s p h E kV M I v A u N D C as m B L y J;obtain rfl:E = .none:=Dflts.none A x;obtain rfl:kV = .none:=Dflts.noKw A;obtain⟨a,vs,ns,rfl,rfl,k,g,j⟩:=xw hn m y;refine enter_call (codeAny_mono (call w c b mg t i o s p h a vs ns G Y M (fd_plain I) v u k g j N) λr s' O=>?_);obtain⟨rfl,h2,F,H⟩:=O;exact⟨.inl ⟨.bool ai,.bool ai,[],ag,λ_=>rfl,.bool ai,xD l _,λ_=>⟨List.Pairwise.nil,λ_ K=>(nomatch K)⟩⟩,h2,F,H⟩
section
variable{prog:c0}{w:c6}{A:c5}{E:cX->cY->Prop}{s:cY}{K:Frag}
end
end Att
namespace L2
open PySem PySem.Spec PyProof.Rows
def xi:∀{vs:List cX} {ns:List Int},IntsAre vs ns->dQ (ns.map V.int) vs:=by
 intro vs ns h
 induction h with
 |nil=>exact .nil
 |cons n t h ih=>exact .cons ⟨t,ag⟩ ih
def Eb(H:Hp):Prop:=∀b,H b=aj \/ ∃o xs,H b=wq (.frz o (.lst xs))
def AO {P:c0}{w:c6}{K:Fg1}{mg E:Str->Option cX}{CX:yv}{k:Nat}{C a:cZ}{fd:de}{x:Str}{sp:Sp}{s₁:cY}{vs:List cX}{ns:List Int}
  (O:K.In s₁.heap) (j:s₁.heap.Ns c7 mg) (hb:s₁.heap.Ns builtinsNs E) (D:∀x:Str,x≠"__name__"->E x=bootBuiltins x) (i:s₁.heap.NoLimit) (hg:s₁.gens = #[])
  (ha:s₁.heap.get? a=wq {cls:=.type "list",data:=.seq vs.toArray}) (hi:IntsAre vs ns) (M:ns.length<=c9) (hr:fC k callerA)
  (F:∀base:db,K.In base->base.Ns c7 mg->jM P w K mg base CX k C fd [x] sp) (g:∀(s:cY) (u:cX),BindsTo s fd ⟨[u],[]⟩ [(x,u)])
  (J:∀H:Hp,Eb H->lJ K H a (ns.map V.int)->sp [.ref a] H (λv _=>v = .bl ai) λ_ _ _=>False)
  (G:∀H e s',CX [] H s₁ (λ_ _ _=>False) e s'->False):
  codeAny (model P w) callerA (.call (.ref C) ⟨[.ref a],[]⟩) (λr s'=>r = .ok (.ret (.bool ai))/\OldK s₁.heap s'.heap/\s'.os=s₁.os/\AllBare s'.gens) s₁:=by
 have Q:=xi hi;have t:=hi.length
 -- from an abstract heap in which nothing but the script may be tracked
 have f:∀ H:Hp,Eb H->lJ K H a (ns.map V.int)->kG P w H s₁.heap->(∀ b,H b≠none->b=a)->(H a≠none->K.lookup a=none) ->
   codeAny (model P w) callerA (.call (.ref C) ⟨[.ref a],[]⟩) (λr s'=>r = .ok (.ret (.bool ai))/\OldK s₁.heap s'.heap/\s'.os=s₁.os/\AllBare s'.gens) s₁:=by
  intro H N W l S hK;have base_of:∀{b:cZ} {o:Obj},s₁.heap.get? b=wq o->H b=aj->(rz s₁.heap H).get? b=wq o:=λe n=>AV e n;have I:∀{b:cZ} {o:Obj} {es:Array DictEntry} {ep:Nat},s₁.heap.get? b=wq o->o.data = .dict es ep->H b=aj:=λ{b o es ep} e d=>by
   cases q:H b with
   |none=>rfl
   |some u=>
    have L:b=a:=S b (by rw[q];simp);subst L;rw[ha]at e;cases e;have T:Data.seq vs.toArray _=Data.dict es ep:=d;cases T
  have c:∀{b:cZ} {m:Str->Option cX},s₁.heap.Ns b m->(rz s₁.heap H).Ns b m:=λ{b m} ⟨o,es,ep,e,d,r⟩=>⟨o,es,ep,base_of e (I e d),d,r⟩;have y:K.In (rz s₁.heap H):=λb o e=>base_of (O b o e) (by
   cases q:H b with
   |none=>rfl
   |some u=>
    have L:b=a:=S b (by rw[q];simp);subst L;rw[hK (by rw[q];simp)]at e;cases e)
  have hM:Mod K mg (rz s₁.heap H):=⟨y,c j,⟨E,c hb,D⟩,let ⟨mc,h1,h2⟩:=i;⟨mc,c h1,h2⟩⟩;have e0:Ed P w K mg (rz s₁.heap H) callerA [] s₁ H:=⟨ag,hM,λb o e=>CQ e,Nat.le_of_eq (xY _ _),trivial,λb hb=>absurd (show b∈([]:List cZ)from hb) (by simp),l,.of_eq hg⟩;refine codeAny_mono ((F _ y (c j)).run callerA [] s₁ H ⟨[.ref a],[]⟩ [.ref a] [.ref a] _ _ hr e0 (g s₁ (.ref a)) (.cons ag .nil) (J H N W)) λr s' h=>?_;cases r with
  |error e=>exact(G H e s' h).elim
  |ok U=>
   cases U with
   |next=>exact False.elim h
   |brk=>exact False.elim h
   |cont=>exact False.elim h
   |ret u=>
    obtain⟨v,H',os,B,un,p,Y,q⟩:=h;have Z:v = .bl ai:=q;subst Z;obtain rfl:u=Value.bool true:=Y;refine⟨ag,OldK.of_keep λb o e=>?_,os,B⟩;cases q:H b with
    |none=>exact un.keep b o e q (by intro z;exact absurd (show b∈([]:List cZ)from z) (by simp)) (by simp)
    |some u=>
     rcases N b with z|⟨X,xs,z⟩
     ·rw[q]at z;cases z
     ·have z2:=un.frzs b X _ z;obtain⟨R,_⟩:=l b _ z;obtain⟨e2,_⟩:=p b _ z2;rw[e]at R;cases R;exact e2
 cases hk:K.lookup a with
 |some o=>
  -- the script is one of the module's own objects
  have e:=O a o hk;rw[ha]at e;cases e;refine f (λ_=>aj) (λ_=>.inl ag) (.inr ⟨_,vs.toArray,_,hk,ag,ag,ag,by rw[sT1,t];exact M,by simpa using Q⟩) (λb u z=>by have A:(aj:Option HO)=wq u:=z;cases A) (λb z=>absurd ag z) λz=>absurd ag z
 |none=>
  refine f (λb=>if b=a then wq (.frz {cls:=.type "list",data:=.seq vs.toArray} (.lst (ns.map V.int)))else aj) (λb=>?_) (.inl (.inr ⟨{cls:=.type "list",data:=.seq vs.toArray},if_pos ag⟩)) (λb u z=>?_) (λb z=>?_) λ_=>hk
  ·by_cases hb:b=a
   ·exact .inr ⟨_,_,if_pos hb⟩
   ·exact .inl (if_neg hb)
  ·by_cases hb:b=a
   ·have A:=(if_pos hb).symm.trans z;cases A;subst hb;exact⟨ha,by rw[lM1];exact M,vs,_,Q,ha⟩
   ·have A:=(if_neg hb).symm.trans z;cases A
  ·by_cases hb:b=a
   ·exact hb
   ·exact absurd (if_neg hb) z
end L2
namespace L2
open PySem PySem.Spec PyProof.Rows
def BZ{l:PySem.W.OpenLaw}{n k:Nat}{q:c0}{c:List Str}{XP:(Str->Option cX)->db->Prop}{B:c6->db->Prop}{d:DefRec}{K:Params->Fg1}{CX:c6->yv}{sp:c6->Sp}{x:Str}(hn:l.most=some n)(y:n<=c9)(z:d.params.defaults=[])(hr:fC k callerA)(O:∀(w:c6) (h:db),B w h->(K w.params).In h)(F:∀(w:c6) (mg:Str->Option cX) (m:cZ) (h:db),(K w.params).In h->h.Ns c7 mg->mg d.name=some (.ref m) ->
   ∃fd:de,(∀(s:cY) (u:cX),BindsTo s fd ⟨[u],[]⟩ [(x,u)]) /\
    ∀base:db,(K w.params).In base->base.Ns c7 mg->jM l.prog w (K w.params) mg base (CX w) k m fd [x] (sp w))(t:∀(w:c6) (H:Hp) (a:cZ) (ns:List Int),ns.length<=n->Eb H->lJ (K w.params) H a (ns.map V.int)->sp w [.ref a] H (λv _=>v = .bl ai) λ_ _ _=>False)(p:∀(w:c6) (H:Hp) (s:cY) (e:cX) (s':cY),CX w [] H s (λ_ _ _=>False) e s'->False):
  PySem.W.WalkO q c XP B l.row.toRowW d [] (λf vs=>PySem.call f vs):=by
 refine Att.attach_call hn z λw A i mg R m o Q S M a vs ns G Y T P N r j g b L=>?_;have C:=O w _ Y;obtain⟨fd,I,J⟩:=F w mg m _ C G.T.g r;exact AO C G.T.g G.T.b G.T.builtins G.T.nolimit L j g (au b y) hr J I (λH E D=>t w H a ns b E D) λH e s'=>p w H i e s'
end L2
namespace L2
open PySem PySem.Spec PyProof.Rows
def ip(s:df):Arguments:=match s with
 | .FunctionDef _ a _ _ _ _ _ _ _ _=>a
 |_=>{posonlyargs:=[],args:=[],vararg:=aj,kwonlyargs:=[],kw_defaults:=[],kwarg:=aj,defaults:=[]}
def ff(s:df):List df:=match s with
 | .FunctionDef _ _ b _ _ _ _ _ _ _=>b
 |_=>[]
def dH(s:df):dg:=match s with
 | .FunctionDef _ _ _ _ _ _ sc _ _ _=>sc
 |_=>{kind:=.function,names:=[],isGenerator:=ah,isCoroutine:=ah}
abbrev ur:yv:=λ_ _ _ _ _ _=>False
abbrev E0:XK:=λ_ _ _=>False
def Ep{X:Cx}:sr ur X E0:=λ_ _ _ _ _ _ _ h=>h.elim
structure xc (K:Fg1)(x qual:Str)(st:df)(f:cZ)(fd:de):Prop where
 ex:∃(oc:cX) (od:Option cZ) (kV doc pm:cX) (an:Option cZ) (cdv ct:cX) (osl:Array (Option cX)),
  fd=wF1 x qual (ip st) (ff st) (dH st) .none kV doc pm an cdv ct/\K.lookup f=some ⟨oc,od,.func fd,osl⟩/\wC1 K cdv qual=true
 kp:wK1 K (.ref f)=true
section
variable{P:c0}{w:c6}{K:Fg1}{mg:Str->Option cX}{base:db}
def xc.ok{x b:Str}{st:df}{f:cZ}{fd:de}{N ps:List Str}{k:Nat}{sp:Sp}(F:xc K x b st f fd)(S:gw N ps (dH st))(len:∀ vs H Q E,sp vs H Q E->vs.length=ps.length)(d:∀(c:cX) (A:c5) (a:List Env) (s:cY) (H:Hp) (vs:List V) (Q:VK) (E:XK),fC k (A.deeper (envOfC b (dH st) s.heap.objs.size f c))->sp vs H Q E ->
   ∃t,uy (mX ur P w K mg base N b (dH st) f c A a s H E).nox (ff st) t/\t {nx:=λ_ H'=>Q .non H',rt:=Q} (jl N vs) H):jM P w K mg base ur (k+1) f fd ps sp:=by
 obtain⟨o,p,kV,i,m,n,c,ct,l,rfl,lk,g⟩:=F.ex;refine JB lk g S len λA a s H vs Q E j e=>?_;obtain⟨t,h,q⟩:=d c A a s H vs Q E j e;exact⟨t,h.nox,q⟩
def xc.binds{x a:Str}{st:df}{f:cZ}{fd:de}{ps:List Str}(F:xc K x a st f fd)(h:∀(kV b d:cX) (e:Option cZ) (c ct:cX) (g:List cX),g.length=ps.length->bindArgs (wF1 x a (ip st) (ff st) (dH st) .none kV b d e c ct) ⟨g,[]⟩=pure (ps.zip g)):jf K fd ps []:=by
 obtain⟨k,l,kV,b,d,e,c,ct,j,rfl,lk,i⟩:=F.ex;exact .all (h kV b d e c ct)
def AZ{x a:Str}{st:df}{f:cZ}{i:cX}{j h:Option cZ}{e:Array (Option cX)}{kV d g b ct:cX}(l:K.lookup f=wq ⟨i,j,.func (wF1 x a (ip st) (ff st) (dH st) .none kV d g h b ct),e⟩)(c:wC1 K b a=ai)(k:wK1 K (.ref f)=ai):xc K x a st f (wF1 x a (ip st) (ff st) (dH st) .none kV d g h b ct):=⟨⟨i,j,kV,d,g,h,b,ct,e,ag,l,c⟩,k⟩
end
section
variable{X:Cx}
end
def pc(H H':Hp):Prop:=∀b o,H b=wq o->H' b=wq o
def pc.refl(H:Hp):pc H H:=λ_ _ h=>h
def pc.trans{H H1 H2:Hp}(a:pc H H1)(b:pc H1 H2):pc H H2:=λc o h=>b c o (a c o h)
def pc.free{H H':Hp}(e:pc H H'){l:cZ}(h:H' l=Option.none):H l=Option.none:=by
 cases q:H l with
 |none=>rfl
 |some o=>
  rw[e l o q]at h;cases h
def pc.seq{K:Fg1}{H H':Hp}{a:cZ}{xs:List V}(e:pc H H')(h:lJ K H a xs):lJ K H' a xs:=by
 rcases h with(h|⟨o,h⟩)|h
 ·exact .inl (.inl (e _ _ h))
 ·exact .inl (.inr ⟨o,e _ _ h⟩)
 ·exact .inr h
end L2
namespace L2
open PySem PySem.Spec PyProof.Rows
section
variable{κ:Type} [DecidableEq κ]
def gD(kvs:List (κ×V))(k:κ):Option V:=(kvs.find? λkv=>decide (kv.1=k)).map (·.2)
def iR(kvs:List (κ×V))(k:κ)(v:V):List (κ×V):=
 if(kvs.any λkv=>decide (kv.1=k))=ai then kvs.map (λkv=>if kv.1=k then(kv.1,v)else kv)else kvs++[(k,v)]
def EH(kvs:List (κ×V))(k:κ):List (κ×V):=kvs.filter λkv=>decide (kv.1≠k)
def nr{p:κ×V}{r:List (κ×V)}{k:κ}(e:p.1=k):gD (p::r) k=wq p.2:=by simp[gD,aT,e]
def nt{p:κ×V}{r:List (κ×V)}{k:κ}(e:¬ p.1=k):gD (p::r) k=gD r k:=by simp[gD,aT,e]
def sF(k:κ):∀kvs:List (κ×V),(kvs.any λa=>decide (a.1=k))=(gD kvs k).isSome
 |[]=>rfl
 |p::r=>by
  rw[aU];by_cases e:p.1=k
  ·simp only[nr e,decide_eq_true e,Bool.true_or,Option.isSome_some]
  ·rw[nt e,decide_eq_false e,Bool.false_or];exact sF k r
def jy(kvs:List (κ×V))(k:κ)(v:V):(iR kvs k v).length<=kvs.length+1:=by
 unfold iR;split
 ·rw[lM1];lia
 ·rw[lA1,lC1,aV];lia
def kF.isSome_eq{o:Option V}{u:Option cX}(r:kF o u):o.isSome=u.isSome:=by
 cases o with
 |none=>cases u with
  |none=>rfl
  |some _=>exact(show False from r).elim
 |some _=>cases u with
  |none=>exact(show False from r).elim
  |some _=>rfl
def kF.getD{o:Option V}{u:Option cX}{d:V}{d':cX}(r:kF o u)(a:dF d d'):dF (o.getD d) (u.getD d'):=by
 cases o with
 |none=>cases u with
  |none=>exact a
  |some _=>exact(show False from r).elim
 |some _=>cases u with
  |none=>exact(show False from r).elim
  |some _=>exact r
def KV.val{kvs:List (κ×V)}{vs:List (κ×cX)}(r:KV kvs vs)(k:κ):kF (gD kvs k) (valueAt vs k):=by
 unfold KV at r
 induction r with
 |nil=>exact True.intro
 | @cons p q ps c h t ih=>
  obtain⟨h1,h2⟩:=h;by_cases e:p.1=k
  ·have a:q.1=k:=h1.symm.trans e;have b:valueAt (q::c) k=wq q.2:=by simp[valueAt,aT,a]
   rw[nr e,b];exact h2
  ·have a:¬ q.1=k:=λz=>e (h1.trans z);have b:valueAt (q::c) k=valueAt c k:=by simp[valueAt,aT,a]
   rw[nt e,b];exact ih
def KV.any{kvs:List (κ×V)}{vs:List (κ×cX)}(r:KV kvs vs)(k:κ):(kvs.any λa=>decide (a.1=k))=vs.any λa=>decide (a.1=k):=by
 unfold KV at r
 induction r with
 |nil=>rfl
 |cons h t ih=>rw[aU,aU,ih,h.1]
def KV.repl{kvs:List (κ×V)}{vs:List (κ×cX)}(r:KV kvs vs)(k:κ){y:V}{u:cX}(b:dF y u):
  KV (kvs.map λa=>if a.1=k then(a.1,y)else a) (vs.map λa=>if a.1=k then(a.1,u)else a):=by
 unfold KV at r ⊢
 induction r with
 |nil=>exact .nil
 | @cons p q ps c h t ih=>
  rw[mP1,mP1];refine .cons ?_ ih;obtain⟨h1,h2⟩:=h;by_cases e:p.1=k
  ·rw[if_pos e,if_pos (h1.symm.trans e)];exact⟨h1,b⟩
  ·rw[if_neg e,if_neg (λz=>e (h1.trans z))];exact⟨h1,h2⟩
def KV.put{kvs:List (κ×V)}{vs:List (κ×cX)}(r:KV kvs vs)(k:κ){y:V}{u:cX}(a:dF y u):KV (iR kvs k y) (stored vs k u):=by
 unfold iR stored;rw[r.any k];by_cases e:(vs.any λb=>decide (b.1=k))=ai
 ·rw[if_pos e,if_pos e];exact r.repl k a
 ·rw[if_neg e,if_neg e];exact Paired.snoc r ⟨ag,a⟩
def KV.drop{kvs:List (κ×V)}{vs:List (κ×cX)}(r:KV kvs vs)(k:κ):KV (EH kvs k) (without vs k):=by
 unfold KV at r ⊢;unfold EH without
 induction r with
 |nil=>exact .nil
 | @cons p q ps d h t ih=>
  obtain⟨h1,h2⟩:=h;rw[aW,aW];by_cases e:p.1=k
  ·have a:¬ decide (p.1≠k)=ai:=by simp[e]
   have b:¬ decide (q.1≠k)=ai:=by simp[h1.symm.trans e]
   rw[if_neg a,if_neg b];exact ih
  ·have c:¬ q.1=k:=λz=>e (h1.trans z);have a:decide (p.1≠k)=ai:=by simp[e]
   have b:decide (q.1≠k)=ai:=by simp[c]
   rw[if_pos a,if_pos b];exact .cons ⟨h1,h2⟩ ih
def KV.keys{kvs:List (κ×V)}{vs:List (κ×cX)}(r:KV kvs vs):kvs.map (·.1)=vs.map (·.1):=by
 unfold KV at r
 induction r with
 |nil=>rfl
 |cons h t ih=>rw[mP1,mP1,ih,h.1]
def KV.length{kvs:List (κ×V)}{vs:List (κ×cX)}(r:KV kvs vs):kvs.length=vs.length:=Paired.length r
end
def pE{P:c0}{w:c6}{k:Key}{u:cX}(r:dF (kV k) u):(e6 P w).is k u=ai:=by
 cases k with
 |inl i=>obtain⟨t,e⟩:=(show∃t,u=Value.int i t from r);subst e;exact tE P w i t
 |inr x=>obtain⟨t,e⟩:=(show∃t,u=Value.str x t from r);subst e;exact tD P w x t
def pF{P:c0}{w:c6}:∀{ks:List Key} {a:List cX},dQ (ks.map kV) a->ItemsAre (e6 P w) ks a
 |[],_,r=>by rw[aS]at r;cases r;exact .nil
 |k::ks,_,r=>by
  rw[mP1]at r;cases r with
  |cons h t=>exact .cons (pE h) (pF t)
abbrev KT(H:Hp):List (List Key×V)->List (List Key×cZ×cX)->Prop:=Paired λp q=>p.1=q.1/\H q.2.1=wq (.tup (p.1.map kV))/\dF p.2 q.2.2
def KT.val{H:Hp}{kvs:List (List Key×V)}{xs:List (List Key×cZ×cX)}(r:KT H kvs xs)(k:List Key):kF (gD kvs k) ((atKey xs k).map (·.2)):=by
 induction r with
 |nil=>exact True.intro
 | @cons p q ps c h t ih=>
  obtain⟨h1,_,h2⟩:=h;by_cases e:p.1=k
  ·have a:q.1=k:=h1.symm.trans e;have b:atKey (q::c) k=wq q.2:=by simp[atKey,aT,a]
   rw[nr e,b];exact h2
  ·have a:¬ q.1=k:=λz=>e (h1.trans z);have b:atKey (q::c) k=atKey c k:=by simp[atKey,aT,a]
   rw[nt e,b];exact ih
def KT.repl{H:Hp}{kvs:List (List Key×V)}{xs:List (List Key×cZ×cX)}(r:KT H kvs xs)(k:List Key){y:V}{u:cX}(c:dF y u):
  KT H (kvs.map λa=>if a.1=k then(a.1,y)else a) (xs.map (putAt k u)):=by
 induction r with
 |nil=>exact .nil
 | @cons p q ps d h t ih=>
  rw[mP1,mP1];refine .cons ?_ ih;obtain⟨h1,h2,b⟩:=h;unfold putAt;by_cases e:p.1=k
  ·rw[if_pos e,if_pos (h1.symm.trans e)];exact⟨h1,h2,c⟩
  ·rw[if_neg e,if_neg (λz=>e (h1.trans z))];exact⟨h1,h2,b⟩
def KT.put{H:Hp}{kvs:List (List Key×V)}{xs:List (List Key×cZ×cX)}(r:KT H kvs xs)(k:List Key){b:cZ}{y:V}{u:cX}(hb:H b=some (.tup (k.map kV)))(a:dF y u):
  KT H (iR kvs k y) (storedH xs k b u):=by
 have e:(kvs.any λc=>decide (c.1=k))=(atKey xs k).isSome:=by
  rw[sF,(r.val k).isSome_eq,aX]
 unfold iR storedH;rw[e];by_cases q:(atKey xs k).isSome=ai
 ·rw[if_pos q,if_pos q];exact r.repl k a
 ·rw[if_neg q,if_neg q];exact Paired.snoc r ⟨ag,hb,a⟩
def KT.keeps{H H':Hp}{kvs:List (List Key×V)}{xs:List (List Key×cZ×cX)}(r:KT H kvs xs)(ht:∀b ys,H b=wq (.tup ys)->H' b=wq (.tup ys)):KT H' kvs xs:=
 Paired.mapP r λ_ _ z=>⟨z.1,ht _ _ z.2.1,z.2.2⟩
section
variable{P:c0}{w:c6}{H:Hp}{h:db}{a:cZ}
def En{u:HO}(ok:kG P w H h)(e:Rd H a u):eB P w H h a u:=e.ok ok
def oA{kvs:List (Key×V)}(ok:kG P w H h)(e:Rd H a (.dK kvs)):kvs.length<=c9/\(a == sysModules)=ah /\ ∃vs,KV kvs vs/\h.DictOf (e6 P w) a vs:=
 show eB P w H h a (.dK kvs)from En ok e
def wU{kvs:List (Key×V)}(ok:kG P w H h)(e:H a=wq (.dK kvs)):kvs.length<=c9/\(a == sysModules)=ah /\ ∃vs,KV kvs vs/\h.DictOf (e6 P w) a vs:=oA ok (.inl e)
def n4{ks:List Key}(ok:kG P w H h)(e:H a=wq (.tup (ks.map kV))):(tupleKind (e6 P w)).is h ks a:=by
 obtain⟨_,b,r,o,h1,h2,n,c⟩:=(show eB P w H h a (.tup (ks.map kV))from ok a _ e);exact⟨o,b.toArray,n,h1,h2,c,by simpa using pF r⟩
def pQ{kvs:List (List Key×V)}(ok:kG P w H h)(e:Rd H a (.dT kvs)):kvs.length<=c9/\(a == sysModules)=false /\
  ∃xs,KT H kvs xs/\h.DictOfH (tupleKind (e6 P w)) a xs:=by
 obtain⟨z,y,xs,r,o,es,ep,h1,h2,d,f,g⟩:=(show eB P w H h a (.dT kvs)from En ok e);refine⟨z,y,xs,r,o,es,ep,h1,h2,d,f,λx b=>?_,g⟩;have all:∀{l:List (List Key×V)} {m:List (List Key×cZ×cX)},KT H l m -> ∀x∈m,(tupleKind (e6 P w)).is h x.1 x.2.1:=by
  intro l m q
  induction q with
  |nil=>intro x b;exact nomatch b
  | @cons p q ps i c t ih=>
   intro x b;rcases aw.mp b with e|b
   ·subst e;exact n4 ok (by rw[<- c.1];exact c.2.1)
   ·exact ih x b
 exact all r x b
def JF{kvs:List (List Key×V)}(ok:kG P w H h)(e:H a=some (.dT kvs)):kvs.length<=c9/\(a == sysModules)=false /\
  ∃xs,KT H kvs xs/\h.DictOfH (tupleKind (e6 P w)) a xs:=pQ ok (.inl e)
end
def pe(H:Hp)(a:cZ)(y:V)(r:Option V):Prop:=
 (∃kvs k,Rd H a (.dK kvs)/\y=kV k/\r=gD kvs k) \/ ∃kvs k b,Rd H a (.dT kvs)/\y = .ref b/\H b=wq (.tup (k.map kV))/\r=gD kvs k
def yu(H:Hp)(a:cZ)(y v:V)(H':Hp):Prop:=
 (∃kvs k,H a=wq (.dK kvs)/\y=kV k/\kvs.length<c9/\H'=upd H a (.dK (iR kvs k v))) \/
 ∃kvs k b,H a=wq (.dT kvs)/\y = .ref b/\H b=wq (.tup (k.map kV))/\kvs.length<c9/\H'=upd H a (.dT (iR kvs k v))
def pe.k{H:Hp}{a:cZ}{kvs:List (Key×V)}{k:Key}(e:H a=wq (.dK kvs)):pe H a (kV k) (gD kvs k):=.inl ⟨kvs,k,.inl e,ag,ag⟩
def pe.t{H:Hp}{a b:cZ}{kvs:List (List Key×V)}{k:List Key}(e:H a=wq (.dT kvs))(eb:H b=wq (.tup (k.map kV))):pe H a (.ref b) (gD kvs k):=.inr ⟨kvs,k,b,.inl e,ag,eb,ag⟩
def yu.k{H:Hp}{a:cZ}{kvs:List (Key×V)}{k:Key}{v:V}(e:H a=wq (.dK kvs))(b:kvs.length<c9):yu H a (kV k) v (upd H a (.dK (iR kvs k v))):=.inl ⟨kvs,k,e,ag,b,ag⟩
def yu.t{H:Hp}{a b:cZ}{kvs:List (List Key×V)}{k:List Key}{v:V}(e:H a=some (.dT kvs))(eb:H b=some (.tup (k.map kV)))(c:kvs.length<c9):
  yu H a (.ref b) v (upd H a (.dT (iR kvs k v))):=.inr ⟨kvs,k,b,e,ag,eb,c,ag⟩
section
variable{X:Cx}{pins:List (cZ×Obj)}{σ:St}{H:Hp}{s:cY}{a:cZ}{y v:V}{u r:cX}{o:Option V}{A:c5}{E:cX->cY->Prop}
def Inv.big(I:Inv X pins σ H s):sysModules<s.heap.objs.size:=by
 have h:c7<s.heap.objs.size:=(I.mod.glob.keeps I.bk).lt;exact aY (by decide) h
def ye{Q:cX->cY->Prop}(r:A.units+1<cLine)(I:Inv X pins σ H s)(g:pe H a y (some v))(q:dF y u)(h:∀ f s',Inv X pins σ H s'->dF v f->Q f s'):
  da (model X.prog X.w) A (getItem (.ref a) u) Q E s:=by
 rcases g with⟨kvs,k,e,j,l⟩|⟨kvs,k,b,e,j,eb,l⟩
 ·subst j;obtain⟨z,t,vs,c,n⟩:=oA I.hok e;obtain⟨f,m,d⟩:=kF.some_of (v:=v) (o:=valueAt vs k) (by rw[l];exact c.val k);exact wpAny_getItem_of (pE q) n.mapOf m (h f _ (I.tok _) d)
 ·subst j;cases(show u=Value.ref b from q);obtain⟨z,t,xs,c,n⟩:=pQ I.hok e;obtain⟨f,m,d⟩:=kF.some_of (v:=v) (o:=(atKey xs k).map (·.2)) (by rw[l];exact c.val k);obtain⟨p,w,i⟩:=oM1.mp m;refine wpAny_getItem_heap (tupleKind_room_in1 r) (n4 I.hok eb) n w ?_;rw[i];exact h f _ (I.tok _) d
def K8{Q:cX->cY->Prop}(m:A.units+1<cLine)(I:Inv X pins σ H s)(g:pe H a y o)(j:dF y u)(h:∀ s',Inv X pins σ H s'->Q (.bool o.isSome) s'):
  da (model X.prog X.w) A (compareOp .In u (.ref a)) Q E s:=by
 rcases g with⟨kvs,k,e,d,l⟩|⟨kvs,k,b,e,d,eb,l⟩
 ·subst d;obtain⟨z,f,vs,c,i⟩:=oA I.hok e;refine wpAny_in_of (pE j) f i.mapOf ?_;rw[<- (c.val k).isSome_eq,<- l];exact h _ (I.tok _)
 ·subst d;cases(show u=Value.ref b from j);obtain⟨z,f,xs,c,i⟩:=pQ I.hok e;refine wpAny_in_heap (tupleKind_room_in1 m) (n4 I.hok eb) f i ?_;have q:=(c.val k).isSome_eq;rw[aX]at q;rw[<- q,<- l];exact h _ (I.tok _)
def DT{Q:cX->cY->Prop}(m:A.units+1<cLine)(I:Inv X pins σ H s)(g:pe H a y o)(j:dF y u)(h:∀ s',Inv X pins σ H s'->Q (.bool (!o.isSome)) s'):
  da (model X.prog X.w) A (compareOp .NotIn u (.ref a)) Q E s:=by
 rcases g with⟨kvs,k,e,d,l⟩|⟨kvs,k,b,e,d,eb,l⟩
 ·subst d;obtain⟨z,f,vs,c,i⟩:=oA I.hok e;refine wpAny_notIn_of (pE j) f i.mapOf ?_;rw[<- (c.val k).isSome_eq,<- l];exact h _ (I.tok _)
 ·subst d;cases(show u=Value.ref b from j);obtain⟨z,f,xs,c,i⟩:=pQ I.hok e;refine wpAny_notIn_heap (tupleKind_room_in1 m) (n4 I.hok eb) f i ?_;have q:=(c.val k).isSome_eq;rw[aX]at q;rw[<- q,<- l];exact h _ (I.tok _)
def ly{h':db}{t':Nat}{c:HO}(I:Inv X pins σ H s)(mu:HJ (H a))(hs:Heap.SameBut a s.heap h')(he:∃ q,h'.get? a=some q)(new:eB X.prog X.w (upd H a c) h' a c):
  Inv X pins σ (upd H a c) {s with heap:=h',toks:=t'}:=
 I.write (x:=a) (e:=a) mu (.inl ag) (λb q d z=>(hs.2 b d).trans z) he new
def Ba{P:c0}{w:c6}{H':Hp}{h':db}{kvs:List (Key×V)}{vs:List (Key×cX)}(z:kvs.length<=c9)(hd:(a == sysModules)=false)(b:KV kvs vs)(c:h'.DictOf (e6 P w) a vs):
  eB P w H' h' a (.dK kvs):=⟨z,hd,vs,b,c⟩
def yd{H':Hp}{Q:Unit->cY->Prop}(G:A.units+1<cLine)(I:Inv X pins σ H s)(g:yu H a y v H')(C:dF y u)(x:dF v r)(h:∀ s',Inv X pins σ H' s'->Q () s'):
  da (model X.prog X.w) A (setItem (.ref a) u r) Q E s:=by
 rcases g with⟨kvs,k,e,m,l,w⟩|⟨kvs,k,b,e,m,eb,l,w⟩
 ·subst m w;obtain⟨z,o,vs,d,t⟩:=wU I.hok e;have j:vs.length<=c9:=by rw[<- d.length];exact z
  have p:(iR kvs k v).length<=c9:=by have:=jy kvs k v;lia
  refine wpAny_setItem_pairs (hsz:=j) (pE C) t λh' f n=>h _ ?_;have K:∃q,h'.get? a=wq q:=let ⟨q,_,_,i,_⟩:=f;⟨q,i⟩
  exact ly I (by rw[e];exact True.intro) n K (Ba p o (d.put k x) f)
 ·subst m w;cases(show u=Value.ref b from C);obtain⟨z,o,xs,d,t⟩:=JF I.hok e;have j:xs.length<=c9:=by rw[<- Paired.length d];exact z
  have p:(iR kvs k v).length<=c9:=by have:=jy kvs k v;lia
  refine wpAny_setItem_heap (hsz:=j) (tupleKind_room_in1 G) (n4 I.hok eb) t λh' f n=>h _ ?_;obtain⟨q,es,ep,i,h2,D,F,_,J⟩:=f;refine ly I (by rw[e];exact True.intro) n ⟨q,i⟩ ⟨p,o,_,(d.put k eb x).keeps λc ys B=>?_,q,es,ep,i,h2,D,F,J⟩;rw[dL (IW B e (λz=>nomatch z))];exact B
end
section
variable{X:Cx}{pins:List (cZ×Obj)}{σ:St}{H:Hp}{s:cY}{a:cZ}{kvs:List (Key×V)}{k:Key}{u:cX}{A:c5}{E:cX->cY->Prop}
def JG{Q:cX->cY->Prop}(I:Inv X pins σ H s)(e:Rd H a (.dK kvs))(h:∀t s',Inv X pins σ H s'->Q (.int kvs.length t) s'):da (model X.prog X.w) A (call (.builtin "len") [.ref a]) Q E s:=by
 obtain⟨z,c,vs,b,d⟩:=oA I.hok e;refine call_len_dict c d (by rw[<- b.length];rw[sizeLine_eq]at z;lia) ?_;rw[<- b.length];exact h _ _ (I.tok _)
end
def t4{X:Cx}{pins:List (cZ×Obj)}{σ:St}{H:Hp}{s:cY}{a:cZ}{y:V}{o:Option V}(I:Inv X pins σ H s)(g:pe H a y o):s.TypeIs (.ref a) "dict":=by
 rcases g with⟨kvs,k,e,_,_⟩|⟨kvs,k,b,e,_,_,_⟩
 ·obtain⟨_,_,vs,_,c⟩:=oA I.hok e;exact c.typeIs
 ·obtain⟨_,_,xs,_,c⟩:=pQ I.hok e;exact c.typeIs
section
variable{X:Cx}{o i e value:Expr}{pos pos' tpos:Pos}{td ty tv:TE}
end
def Bb{P:c0}{w:c6}{H:Hp}(h:db)(hb:sysModules<h.objs.size):eB P w H (h.push {cls:=.type "dict",data:=.dict #[]}) h.objs.size (.dK []):=
 ⟨aZ _,beq_eq_false_iff_ne.mpr (Ne.symm (nN1 hb)),[],.nil,Heap.DictOf.new h⟩
def Fc:TE:=λ_ H Q=>∀p,H p=aj->Q (.ref p) (upd H p (.dK []))
section
variable{X:Cx}{pos:Pos}
def zP:PE X (.Dict [] [] pos) Fc:=λpins s σ H Q I h=>
 wpAny_Dict_empty ⟨.ref s.heap.objs.size,_,I.laid (a:=s.heap.objs.size) (o:=.dK []) (t':=s.toks) (λ_ _ q=>hP1 _ q) (nR1 _) (Bb s.heap I.big),ag,h _ (I.hok.fresh (nR1 _))⟩
end
def ze:List (TE×TE)->St->Hp->(List (V×V)->Hp->Prop)->Prop
 |[],_,H,Q=>Q [] H
 |(tk,tv)::r,σ,H,Q=>tk σ H λx H1=>tv σ H1 λy H2=>ze r σ H2 λps H3=>Q ((x,y)::ps) H3
abbrev VV:List (V×V)->List (cX×cX)->Prop:=Paired λp q=>dF p.1 q.1/\dF p.2 q.2
def My(X:Cx)(pos:Pos)(keys:List (Option Expr))(values:List Expr)(trs:List (TE×TE)):Prop:=
 ∀(pins:List (cZ×Obj)) (s:cY) (σ:St) (H:Hp) (Q:List (V×V)->Hp->Prop),Inv X pins σ H s->ze trs σ H Q ->
  da (model X.prog X.w) X.A (evalPairs (pairTrees keys values X.env pos)) (λvs s'=>∃ps H',Inv X pins σ H' s'/\VV ps vs/\Q ps H') X.xe s
structure M2 (X:Cx)(o:Expr)(m:Str)(apos:Pos)(e f:Expr)(cpos:Pos):Prop where
 base:attributeBase o m X.env (eval o X.env)=eval o X.env
 few:((backTo cpos (c8 [e,f] X.env)).all (λx=> !x.1)&&(backToKw cpos (keywordEach [] X.env)).all (λx=>x.1.isSome)
  && decide (([e,f]:List Expr).length+([]:List Keyword).length+(if([]:List Keyword).isEmpty then 0 else 1)<30))=true
 line:(apos.endLine == cpos.line)=true
 trees:backTo cpos (c8 [e,f] X.env)=[(false,eval e X.env),(false,eval f X.env)]
def Ls(H:Hp)(a:cZ):Prop:=(∃kvs,Rd H a (.dK kvs)) \/ ∃kvs,Rd H a (.dT kvs)
def G6{X:Cx}{pins:List (cZ×Obj)}{σ:St}{H:Hp}{s:cY}{a:cZ}(I:Inv X pins σ H s)(d:Ls H a):
  s.TypeIs (.ref a) "dict"/\(∀b,Value.ref a = .ref b -> ∃c,s.heap.get? b=wq c/\c.dict=aj)/\(a == sysModules)=ah:=by
 rcases d with⟨kvs,e⟩|⟨kvs,e⟩
 ·obtain⟨_,g,vs,_,f⟩:=oA I.hok e;refine⟨f.typeIs,λb q=>?_,g⟩;cases q;obtain⟨c,_,_,h1,h2,_⟩:=f;exact⟨c,h1,h2.2.1⟩
 ·obtain⟨_,g,xs,_,f⟩:=pQ I.hok e;refine⟨f.typeIs,λb q=>?_,g⟩;cases q;obtain⟨c,_,_,h1,h2,_⟩:=f;exact⟨c,h1,h2.2.1⟩
section
variable{X:Cx}{pins:List (cZ×Obj)}{σ:St}{H:Hp}{s:cY}{a:cZ}{y d:V}{u r:cX}{o:Option V}{A:c5}{E:cX->cY->Prop}
end
section
variable{X:Cx}{o e f:Expr}{apos cpos:Pos}{td ty tx:TE}
end
section
variable{X:Cx}{pins:List (cZ×Obj)}{σ:St}{H:Hp}{s:cY}{a:cZ}{kvs:List (Key×V)}{A:c5}{E:cX->cY->Prop}
end
section
variable{X:Cx}{pins:List (cZ×Obj)}{σ:St}{H:Hp}{s:cY}{a:cZ}{y:V}{u:cX}{A:c5}{E:cX->cY->Prop}
end
end L2
namespace Mi
open PySem PySem.Spec PyProof.Rows L2
inductive TK where
 |non|int (i:Int)|tup (xs:List TK)
instance:DecidableEq TK:=λ_ _=>Classical.propDecidable _
mutual
def TK.hash:TK->Int
 | .non=>0xFCA86420
 | .int i=>hashInt i
 | .tup xs=>reduceHash (Builtin.Tuple.tupleHashOf (TK.hashes xs))
def TK.hashes:List TK->List Int
 |[]=>[]
 |x::xs=>TK.hash x::TK.hashes xs
end
mutual
def TK.draws:TK->Nat
 | .non=>1
 | .int _=>1
 | .tup xs=>TK.drawsAll xs+1
def TK.drawsAll:List TK->Nat
 |[]=>0
 |x::xs=>TK.draws x+TK.drawsAll xs
end
mutual
def TK.dep:TK->Nat
 | .non=>0
 | .int _=>0
 | .tup xs=>TK.depAll xs+1
def TK.depAll:List TK->Nat
 |[]=>0
 |x::xs=>max (TK.dep x) (TK.depAll xs)
end
def TK.dep_mem:∀{xs:List TK} {x:TK},x∈xs->x.dep<=TK.depAll xs
 |y::ys,x,h=>by
  rw[TK.depAll];rcases aw.mp h with e|e
  ·rw[e];exact Nat.le_max_left _ _
  ·exact au (TK.dep_mem e) (Nat.le_max_right _ _)
def TK.hashes_app:∀a b:List TK,TK.hashes (a++b)=TK.hashes a++TK.hashes b
 |[],_=>rfl
 |x::xs,b=>by rw[a0,TK.hashes,TK.hashes,TK.hashes_app xs b];rfl
def TK.draws_app:∀a b:List TK,TK.drawsAll (a++b)=TK.drawsAll a+TK.drawsAll b
 |[],_=>by simp[TK.drawsAll]
 |x::xs,b=>by rw[a0,TK.drawsAll,TK.drawsAll,TK.draws_app xs b,ba]
def vy(xs:Array Nat):Prop:=xs.toList.Pairwise (· < ·)
def fX(m:Nat):Nat->Nat->Nat->List Nat
 |0,_,_=>[]
 |n+1,i,b=>bb i (SetTable.runEnd m i-i+1)++fX m n (SetTable.leap m i b).1 (SetTable.leap m i b).2
def xA(m:Nat):Prop:=m=7\/m=31\/m=127
def mQ(m:Nat)(h:Int):List Nat:=fX m (SetTable.turns m) (SetTable.bits h%(m+1)) (SetTable.bits h)
def xz(m:Nat)(occ:List Nat)(h:Int)(j:Nat):Prop:=∃pre post,mQ m h=pre++j::post /\ ∀y∈pre,y∈occ
structure sTT (es:Array (Int×cX))(t:SetTable):Prop where
 mks:xA t.mask
 up:vy t.place
 du:t.dummies = #[]
 sz:t.place.size=es.size
 le:∀j∈t.place.toList,j<=t.mask
 fl:es.size<=t.mask
 rc:∀z∈t.place.toList.zip es.toList,xz t.mask t.place.toList z.2.1 z.1
def stO(es:Array (Int×cX))(ep:Nat)(t:SetTable):Obj:={cls:=.type "set",dict:=aj,data:=.set es ep t,slots:= #[]}
def uo(a:cZ)(xs:List (TK×cZ×cX))(h:db):Prop:=(xs.map (·.1)).Nodup /\ ∃es ep t,h.get? a=wq (stO es ep t)/\sTT es t/\t.tooFull=ah/\(∀e∈es.toList,∃z∈xs,e=(z.1.hash,.ref z.2.1))/\(∀z∈xs,(z.1.hash,Value.ref z.2.1)∈es.toList)/\es.size=xs.length
inductive D where
 |non|bl (b:Bool)|int (i:Int)|str (x:Str)|tup (xs:List D)|rol (xs:List D)|ref (n:Nat)|fn (x:Str)
inductive Ob where
 |lst (xs:List D)|dct (kvs:List (Key×D))|dcT (kvs:List (TK×D))|iset (xs:List Int)|dcF (kvs:List (TK×D))|tst (ks:List TK)
abbrev Sto:=List Ob
abbrev Ev:=List (Option D)
abbrev FE:=Ev->Sto->Option (D×Sto)
abbrev FT:=Ev->Sto->Option (Bool×Sto)
abbrev FA:=Ev->Sto->Option (List D×Sto)
abbrev FN:=List D->Sto->Option (D×Sto)
inductive Fl where
 |nx|rt (d:D)|bk|ct
abbrev FS:=Ev->Sto->Option (Fl×Ev×Sto)
def RoL(K:Fg1)(H:Hp)(a:cZ)(xs:List V):Prop:=(∃o,H a=wq (.frz o (.lst xs))) \/
 ∃(o:Obj) (its:Array cX) (n:Nat),K.lookup a=wq o/\o.cls = .type "list"/\o.dict=aj/\o.data = .seq its n/\its.size<=c9/\dQ xs its.toList
def RoL.sq{K:Fg1}{H:Hp}{a:cZ}{xs:List V}(h:RoL K H a xs):lJ K H a xs:=h.elim (λ⟨o,q⟩=>.inl (.inr ⟨o,q⟩)) .inr
mutual
inductive eQ (K:Fg1)(H:Hp)(mu:List cZ):D->V->Prop
 |non:eQ K H mu .non .non
 |bl (b:Bool):eQ K H mu (.bl b) (.bl b)
 |int (i:Int):eQ K H mu (.int i) (.int i)
 |str (x:Str):eQ K H mu (.str x) (.str x)
 |tup {ds:List D} {vs:List V} {a:cZ} (h:jL K H a vs) (r:dB K H mu ds vs):eQ K H mu (.tup ds) (.ref a)
 |rol {ds:List D} {vs:List V} {a:cZ} (h:RoL K H a vs) (r:dB K H mu ds vs):eQ K H mu (.rol ds) (.ref a)
 |ref {n:Nat} {a:cZ} (h:mu[n]?=some a):eQ K H mu (.ref n) (.ref a)
 |fn {x:Str} {a:cZ} (h:wN1 K c7 x=some (some (.ref a))):eQ K H mu (.fn x) (.ref a)
inductive dB (K:Fg1)(H:Hp)(mu:List cZ):List D->List V->Prop
 |nil:dB K H mu [] []
 |cons {d:D} {v:V} {ds:List D} {vs:List V} (r:eQ K H mu d v) (t:dB K H mu ds vs):dB K H mu (d::ds) (v::vs)
end
structure Ext (mu mu':List cZ)(H H':Hp):Prop where
 pre:mu <+: mu'
 old:∀a o,H a=some o->a∉mu->H' a=some o
 tup:∀a xs,Rd H a (.tup xs)->Rd H' a (.tup xs)
 frz:∀a o u,H a=some (.frz o u)->H' a=some (.frz o u)
 new:∀a∈mu',a∈mu\/H a=none
def Ext.refl(mu:List cZ)(H:Hp):Ext mu mu H H:=⟨bc,λ_ _ h _=>h,λ_ _ h=>h,λ_ _ _ h=>h,λ_ h=>.inl h⟩
def Ext.trans{mu m1 m2:List cZ}{H H1 H2:Hp}(a:Ext mu m1 H H1)(b:Ext m1 m2 H1 H2):Ext mu m2 H H2 where
 pre:=a.pre.trans b.pre
 old:=λc o h n=>b.old c o (a.old c o h n) λz=>by
  rcases a.new c z with q|q
  ·exact n q
  ·rw[h]at q;cases q
 tup:=λc xs h=>b.tup c xs (a.tup c xs h)
 frz:=λc o u h=>b.frz c o u (a.frz c o u h)
 new:=λc h=>by
  rcases b.new c h with q|q
  ·exact a.new c q
  ·by_cases z:c∈mu
   ·exact .inl z
   ·right;cases e:H c with
    |none=>rfl
    |some o=>rw[a.old c o e z]at q;cases q
def Ext.at{mu mu':List cZ}{H H':Hp}(e:Ext mu mu' H H'){n:Nat}{a:cZ}(h:mu[n]?=wq a):mu'[n]?=wq a:=by
 obtain⟨t,rfl⟩:=e.pre;have b:n<mu.length:=(gE1.mp h).1;rw[gL1 b];exact h
def Ext.back{mu mu':List cZ}{H H':Hp}(e:Ext mu mu' H H'):Ext mu mu H H':=⟨bc,e.old,e.tup,e.frz,λ_ h=>.inl h⟩
structure sy (mu mu':List cZ)(H H':Hp):Prop where
 pre:mu <+: mu'
 tup:∀a xs,Rd H a (.tup xs)->Rd H' a (.tup xs)
 frz:∀a o u,H a=some (.frz o u)->H' a=some (.frz o u)
def Ext.w{mu mu':List cZ}{H H':Hp}(e:Ext mu mu' H H'):sy mu mu' H H':=⟨e.pre,e.tup,e.frz⟩
def sy.trans{mu m1 m2:List cZ}{H H1 H2:Hp}(a:sy mu m1 H H1)(b:sy m1 m2 H1 H2):sy mu m2 H H2:=⟨a.pre.trans b.pre,λc xs h=>b.tup c xs (a.tup c xs h),λc o u h=>b.frz c o u (a.frz c o u h)⟩
def sy.at{mu mu':List cZ}{H H':Hp}(e:sy mu mu' H H'){n:Nat}{a:cZ}(h:mu[n]?=wq a):mu'[n]?=wq a:=by
 obtain⟨t,rfl⟩:=e.pre;have b:n<mu.length:=(gE1.mp h).1;rw[gL1 b];exact h
structure EX (mu mu':List cZ)(H H':Hp):Prop where
 pre:mu <+: mu'
 tup:∀a xs,Rd H a (.tup xs)->Rd H' a (.tup xs)
 frl:∀a o xs,H a=some (.frz o (.lst xs))->H' a=some (.frz o (.lst xs))
def sy.v{mu mu':List cZ}{H H':Hp}(e:sy mu mu' H H'):EX mu mu' H H':=⟨e.pre,e.tup,λa o xs h=>e.frz a o _ h⟩
def Ext.v{mu mu':List cZ}{H H':Hp}(e:Ext mu mu' H H'):EX mu mu' H H':=e.w.v
def EX.at{mu mu':List cZ}{H H':Hp}(e:EX mu mu' H H'){n:Nat}{a:cZ}(h:mu[n]?=wq a):mu'[n]?=wq a:=by
 obtain⟨t,rfl⟩:=e.pre;have b:n<mu.length:=(gE1.mp h).1;rw[gL1 b];exact h
def jL.exv{K:Fg1}{mu mu':List cZ}{H H':Hp}{a:cZ}{vs:List V}(e:EX mu mu' H H')(h:jL K H a vs):jL K H' a vs:=by
 rcases h with h|h
 ·exact .inl (e.tup a vs h)
 ·exact .inr h
def RoL.exv{K:Fg1}{mu mu':List cZ}{H H':Hp}{a:cZ}{vs:List V}(e:EX mu mu' H H')(h:RoL K H a vs):RoL K H' a vs:=by
 rcases h with⟨o,h⟩|h
 ·exact .inl ⟨o,e.frl a o _ h⟩
 ·exact .inr h
def eQ.exv{K:Fg1}{mu mu':List cZ}{H H':Hp}(e:EX mu mu' H H'):∀ {d:D} {v:V},eQ K H mu d v->eQ K H' mu' d v:=fun h=>h.rec (motive_1:=fun d v _=>eQ K H' mu' d v) (motive_2:=fun ds vs _=>dB K H' mu' ds vs)
  .non .bl .int .str (λh _ ih=>.tup (jL.exv e h) ih) (λh _ ih=>.rol (RoL.exv e h) ih) (λh=>.ref (e.at h)) (λh=>.fn h) .nil (λ_ _ a b=>.cons a b)
def dB.ind{K:Fg1}{mu:List cZ}{H:Hp}{P:(ds:List D)->(vs:List V)->dB K H mu ds vs->Prop}(hn:P [] [] .nil)(hc:∀{d v ds vs} (r:eQ K H mu d v) (t:dB K H mu ds vs),P ds vs t->P (d::ds) (v::vs) (.cons r t)){ds:List D}{vs:List V}(h:dB K H mu ds vs):P ds vs h:=
 h.rec (motive_1:=λ_ _ _=>True) (motive_2:=P) trivial (λ_=>trivial) (λ_=>trivial) (λ_=>trivial) (λ_ _ _=>trivial) (λ_ _ _=>trivial) (λ_=>trivial) (λ_=>trivial) hn (λr t _ ih=>hc r t ih)
def dB.exv{K:Fg1}{mu mu':List cZ}{H H':Hp}(e:EX mu mu' H H'):∀{ds:List D} {vs:List V},dB K H mu ds vs->dB K H' mu' ds vs:=λh=>h.ind (P:=λds vs _=>dB K H' mu' ds vs) .nil λr _ ih=>.cons (eQ.exv e r) ih
section
variable{K:Fg1}{mu mu':List cZ}{H H':Hp}{a:cZ}{vs:List V}
def eQ.exw(e:sy mu mu' H H'){d:D}{v:V}(h:eQ K H mu d v):eQ K H' mu' d v:=h.exv e.v
def dB.exw(e:sy mu mu' H H'){ds:List D}(h:dB K H mu ds vs):dB K H' mu' ds vs:=h.exv e.v
def eQ.ext(e:Ext mu mu' H H'){d:D}{v:V}(h:eQ K H mu d v):eQ K H' mu' d v:=h.exv e.v
def dB.ext(e:Ext mu mu' H H'){ds:List D}(h:dB K H mu ds vs):dB K H' mu' ds vs:=h.exv e.v
end
section
variable{K:Fg1}{H:Hp}{mu:List cZ}
def dB.length:∀{ds:List D} {vs:List V},dB K H mu ds vs->ds.length=vs.length:=λh=>h.ind (P:=λds vs _=>ds.length=vs.length) ag λ_ _ ih=>congrArg (· + 1) ih
def dB.get:∀{ds:List D} {vs:List V} {i:Nat} {d:D},dB K H mu ds vs->ds[i]?=wq d -> ∃v,vs[i]?=wq v/\eQ K H mu d v:=by
 intro ds vs i d h e
 induction h using dB.ind generalizing i with
 |hn=>cases e
 |hc r t ih=>cases i with
  |zero=>cases e;exact⟨_,ag,r⟩
  |succ i=>exact ih (i:=i) e
def dB.getV:∀{ds:List D} {vs:List V} {i:Nat} {v:V},dB K H mu ds vs->vs[i]?=wq v -> ∃d,ds[i]?=wq d/\eQ K H mu d v:=by
 intro ds vs i d h e
 induction h using dB.ind generalizing i with
 |hn=>cases e
 |hc r t ih=>cases i with
  |zero=>cases e;exact⟨_,ag,r⟩
  |succ i=>exact ih (i:=i) e
def dB.append:∀{ds es:List D} {vs ws:List V},dB K H mu ds vs->dB K H mu es ws->dB K H mu (ds++es) (vs++ws):=λh s=>h.ind (P:=λds vs _=>dB K H mu (ds++_) (vs++_)) s λr _ ih=>.cons r ih
def dB.take:∀{ds:List D} {vs:List V} (n:Nat),dB K H mu ds vs->dB K H mu (ds.take n) (vs.take n):=by
 intro ds vs n h
 induction h using dB.ind generalizing n with
 |hn=>rw[ak,ak];exact .nil
 |hc r t ih=>cases n with
  |zero=>exact .nil
  |succ n=>exact .cons r (ih n)
def dB.drop:∀{ds:List D} {vs:List V} (n:Nat),dB K H mu ds vs->dB K H mu (ds.drop n) (vs.drop n):=by
 intro ds vs n h
 induction h using dB.ind generalizing n with
 |hn=>rw[am,am];exact .nil
 |hc r t ih=>cases n with
  |zero=>exact .cons r t
  |succ n=>exact ih n
def dB.set{d:D}{v:V}(r:eQ K H mu d v):∀{ds:List D} {vs:List V} (i:Nat),dB K H mu ds vs->dB K H mu (ds.set i d) (vs.set i v):=by
 intro ds vs i h
 induction h using dB.ind generalizing i with
 |hn=>exact .nil
 |hc q t ih=>cases i with
  |zero=>exact .cons r t
  |succ i=>exact .cons q (ih i)
def dB.eraseIdx:∀{ds:List D} {vs:List V} (i:Nat),dB K H mu ds vs->dB K H mu (ds.eraseIdx i) (vs.eraseIdx i):=by
 intro ds vs i h
 induction h using dB.ind generalizing i with
 |hn=>exact .nil
 |hc q t ih=>cases i with
  |zero=>exact t
  |succ i=>exact .cons q (ih i)
def dB.reverse:∀{ds:List D} {vs:List V},dB K H mu ds vs->dB K H mu ds.reverse vs.reverse:=by
 intro ds vs h
 induction h using dB.ind with
 |hn=>exact .nil
 |hc r t ih=>rw[bf,bf];exact dB.append ih (.cons r .nil)
end
def KR{κ:Type}(K:Fg1)(H:Hp)(mu:List cZ):List (κ×D)->List (κ×V)->Prop:=Paired λp q=>p.1=q.1/\eQ K H mu p.2 q.2
mutual
def oQ:TK->D
 | .non=>.non
 | .int i=>.int i
 | .tup xs=>.tup (kr xs)
def kr:List TK->List D
 |[]=>[]
 |x::xs=>oQ x::kr xs
end
def jO(a:cZ)(xs:List (TK×cZ×cX))(h:db):Prop:=(a == sysModules)=ah/\(xs.map (·.1)).Nodup /\ ∃o es ep,h.get? a=wq o/\o.ExactDict/\o.data = .dict es ep/\es.toList=xs.map λx=>(⟨x.1.hash,.ref x.2.1,x.2.2⟩:DictEntry)
def EY(a:cZ)(xs:List (TK×cZ×cX))(o:Obj):Prop:=(a == sysModules)=ah/\(xs.map (·.1)).Nodup/\o.ExactDict /\ ∃es ep,o.data = .dict es ep/\es.toList=xs.map λx=>(⟨x.1.hash,.ref x.2.1,x.2.2⟩:DictEntry)
def KT(K:Fg1)(H:Hp)(mu:List cZ):List (TK×D)->List (TK×cZ×cX)->Prop:=Paired λp q=>p.1=q.1/\p.1.dep<=8/\eQ K H mu (oQ p.1) (.ref q.2.1) /\ ∃v,dF v q.2.2/\eQ K H mu p.2 v
def oP(K:Fg1)(H:Hp)(mu:List cZ)(a:cZ):Ob->Prop
 | .lst ds=>∃vs,H a=wq (.lst vs)/\dB K H mu ds vs
 | .dct kvs=>∃ws,H a=wq (.dK ws)/\KR K H mu kvs ws
 | .dcT kvs=>∃xs,H a=wq (.ext (jO a xs))/\KT K H mu kvs xs/\xs.length<=c9
 | .iset xs=>H a=wq (.set (λk=>xs.contains k) xs.length)/\xs.Nodup
 | .dcF kvs=>∃xs,(∃o u,H a=wq (.frz o u)/\EY a xs o)/\KT K H mu kvs xs/\xs.length<=c9
 | .tst ks=>∃xs,H a=wq (.ext (uo a xs))/\KT K H mu (ks.map λk=>(k,D.non)) xs
structure Sim (K:Fg1)(H:Hp)(mu:List cZ)(S:Sto):Prop where
 len:mu.length=S.length
 nd:mu.Nodup
 ob:∀(n:Nat) (o:Ob) (a:cZ),S[n]?=some o->mu[n]?=some a->oP K H mu a o
structure fD (K:Fg1)(H:Hp)(mu:List cZ)(r:Ev)(σ:L2.St):Prop where
 len:r.length=σ.length
 val:∀(i:Nat) (d:D),r[i]?=some (some d) -> ∃v,σ[i]?=some (some v)/\eQ K H mu d v
def fD.ext{K:Fg1}{mu mu':List cZ}{H H':Hp}{r:Ev}{σ:L2.St}(e:Ext mu mu' H H')(h:fD K H mu r σ):fD K H' mu' r σ:=⟨h.len,λi d q=>by
 obtain⟨v,a,b⟩:=h.val i d q;exact⟨v,a,b.ext e⟩⟩
def KR.ext{κ:Type}{K:Fg1}{mu mu':List cZ}{H H':Hp}{ks:List (κ×D)}{ws:List (κ×V)}(e:Ext mu mu' H H')(h:KR K H mu ks ws):KR K H' mu' ks ws:=
 Paired.mapP h λ_ _ z=>⟨z.1,z.2.ext e⟩
def KT.ext{K:Fg1}{mu mu':List cZ}{H H':Hp}{ks:List (TK×D)}{ws:List (TK×cZ×cX)}(e:Ext mu mu' H H')(h:KT K H mu ks ws):KT K H' mu' ks ws:=
 Paired.mapP h λ_ _ ⟨z,d,k,v,a,r⟩=>⟨z,d,k.ext e,v,a,r.ext e⟩
def Sim.nil{K:Fg1}{H:Hp}:Sim K H [] []:=⟨ag,bg,λn o a h=>by simp at h⟩
def Sim.here{K:Fg1}{H:Hp}{mu:List cZ}{S:Sto}(s:Sim K H mu S){a:cZ}(h:a∈mu):∃o,H a=wq o:=by
 obtain⟨n,b⟩:=bh h;have c:n<S.length:=by rw[<- s.len];exact(gE1.mp b).1
 have q:=s.ob n _ a (gG1 c) b;cases e:S[n]with
 |lst ds=>rw[e]at q;obtain⟨vs,z,_⟩:=q;exact⟨_,z⟩
 |dct ks=>rw[e]at q;obtain⟨vs,z,_⟩:=q;exact⟨_,z⟩
 |dcT ks=>rw[e]at q;obtain⟨vs,z,_⟩:=q;exact⟨_,z⟩
 |iset xs=>rw[e]at q;exact⟨_,q.1⟩
 |dcF ks=>rw[e]at q;obtain⟨vs,⟨_,_,z,_⟩,_⟩:=q;exact⟨_,z⟩
 |tst ks=>rw[e]at q;obtain⟨vs,z,_⟩:=q;exact⟨_,z⟩
def su(K:Fg1)(mu:List cZ)(H:Hp)(d:D)(S':Sto)(Q:VK):Prop:=∀v H' mu',Ext mu mu' H H'->eQ K H' mu' d v->Sim K H' mu' S'->Q v H'
inductive tM (K:Fg1)(m:FE)(σ:L2.St)(H:Hp)(Q:VK):Prop
 |mk (r:Ev) (mu:List cZ) (S:Sto) (d:D) (S':Sto) (he:fD K H mu r σ) (hs:Sim K H mu S) (hm:m r S=some (d,S')) (hc:su K mu H d S' Q)
inductive B4 (K:Fg1)(m:FT)(σ:L2.St)(H:Hp)(Q:Bool->Hp->Prop):Prop
 |mk (r:Ev) (mu:List cZ) (S:Sto) (b:Bool) (S':Sto) (he:fD K H mu r σ) (hs:Sim K H mu S) (hm:m r S=some (b,S')) (hc:∀H' mu',Ext mu mu' H H'->Sim K H' mu' S'->Q b H')
inductive LA (K:Fg1)(m:FA)(σ:L2.St)(H:Hp)(Q:List V->Hp->Prop):Prop
 |mk (r:Ev) (mu:List cZ) (S:Sto) (ds:List D) (S':Sto) (he:fD K H mu r σ) (hs:Sim K H mu S) (hm:m r S=some (ds,S')) (hc:∀vs H' mu',Ext mu mu' H H'->dB K H' mu' ds vs->Sim K H' mu' S'->Q vs H')
def Kz(K:Fg1)(mu:List cZ)(H:Hp)(r':Ev)(S':Sto)(E:jN)(f:Fl):Prop:=match f with
 | .nx=>∀ σ' H' mu',Ext mu mu' H H'->fD K H' mu' r' σ'->Sim K H' mu' S'->E.nx σ' H'
 | .bk=>∀ σ' H' mu',Ext mu mu' H H'->fD K H' mu' r' σ'->Sim K H' mu' S'->E.bk σ' H'
 | .ct=>∀ σ' H' mu',Ext mu mu' H H'->fD K H' mu' r' σ'->Sim K H' mu' S'->E.ct σ' H'
 | .rt d=>su K mu H d S' E.rt
inductive vR (K:Fg1)(m:FS)(E:jN)(σ:L2.St)(H:Hp):Prop
 |mk (r:Ev) (mu:List cZ) (S:Sto) (f:Fl) (r':Ev) (S':Sto) (he:fD K H mu r σ) (hs:Sim K H mu S) (hm:m r S=some (f,r',S')) (hc:Kz K mu H r' S' E f)
inductive rN (K:Fg1)(f:FN)(vs:List V)(H:Hp)(Q:VK):Prop
 |mk (mu:List cZ) (S:Sto) (ds:List D) (d:D) (S':Sto) (hr:dB K H mu ds vs) (hs:Sim K H mu S) (hm:f ds S=some (d,S')) (hc:su K mu H d S' Q)
abbrev ME(X:Cx)(e:Expr)(m:FE):Prop:=PE X e (tM X.K m)
abbrev MT(X:Cx)(e:Expr)(m:FT):Prop:=PT X e (B4 X.K m)
abbrev MW(X:Cx)(e:Expr)(m:FT):Prop:=PW X e (B4 X.K m)
abbrev MA(X:Cx)(es:List Expr)(m:FA):Prop:=PA X es (LA X.K m)
abbrev MS(X:Cx)(st:df)(m:FS):Prop:=PS X st (vR X.K m)
abbrev yq(X:Cx)(st:List df)(m:FS):Prop:=uy X st (vR X.K m)
section
variable{X:Cx}{e:Expr}{es:List Expr}{st:df}{sts:List df}
def ee{t t':TE}(h:PE X e t)(i:∀ σ H Q,t' σ H Q->t σ H Q):PE X e t':=λpins s σ H Q I q=>h pins s σ H Q I (i σ H Q q)
def qw{t t':TT}(h:PT X e t)(i:∀ σ H Q,t' σ H Q->t σ H Q):PT X e t':=λpins s σ H Q I q=>h pins s σ H Q I (i σ H Q q)
def zA{t t':TT}(h:PW X e t)(i:∀ σ H Q,t' σ H Q->t σ H Q):PW X e t':=λa pins s σ H Q I q=>h a pins s σ H Q I (i σ H Q q)
def zS{t t':TA}(h:PA X es t)(i:∀ σ H Q,t' σ H Q->t σ H Q):PA X es t':=λpos pins s σ H Q I q=>h pos pins s σ H Q I (i σ H Q q)
def iS{t t':TS}(h:PS X st t)(i:∀E σ H,t' E σ H->t E σ H):PS X st t':=λpins s σ H E I q=>h pins s σ H E I (i E σ H q)
def qx{t t':TS}(h:uy X sts t)(i:∀E σ H,t' E σ H->t E σ H):uy X sts t':=λpins s σ H E I q=>h pins s σ H E I (i E σ H q)
end
def mV(i:Nat):FE:=λr S=>match r[i]? with
 |some (wq d)=>wq (d,S)
 |_=>aj
def mC(d:D):FE:=λ_ S=>wq (d,S)
section
variable{X:Cx}{pos:Pos}
def Gy (i:Nat){x:Str}(hN:X.N[i]?=wq x)(hv:D9 X.env.scope x)(hd:(x == ("__debug__":Str))=ah:=by decide)(hcd:(x == ("__classdict__":Str))=ah:=by decide):ME X (.Name x pos) (mV i):=
 ee (FP hN hv hd hcd) <| by
  rintro σ H Q ⟨r,mu,S,d,j,g,f,a,hc⟩;unfold mV at a;split at a
  ·rename_i h e;cases a;obtain⟨v,c,b⟩:=g.val i _ e;exact⟨v,c,hc v H mu (.refl _ _) b f⟩
  ·cases a
def Au{e:Expr}{v:V}(d:D)(h:PE X e (tC v))(hr:∀H mu,eQ X.K H mu d v):ME X e (mC d):=
 ee h <| by
  rintro σ H Q ⟨r,mu,S,c,g,f,a,b,hc⟩;cases b;exact hc v H mu (.refl _ _) (hr H mu) a
def GG{i:Int}{j}:ME X (.Constant (.int i) j pos) (mC (.int i)):=Au _ F0 λ_ _=>.int i
def Ji{b:Bool}{j}:ME X (.Constant (.bool b) j pos) (mC (.bl b)):=Au _ IL λ_ _=>.bl b
def GE{j}:ME X (.Constant .none j pos) (mC .non):=Au _ FY λ_ _=>.non
def GA{x:Str}{j}:ME X (.Constant (.str x) j pos) (mC (.str x)):=Au _ FR λ_ _=>.str x
end
def di:FA:=λ_ S=>wq ([],S)
def dh(m:FE)(n:FA):FA:=λr S=>(m r S).bind λp=>(n r p.2).bind λq=>wq (p.1::q.1,q.2)
section
variable{X:Cx}{pos:Pos}{e:Expr}{es:List Expr}{m:FE}{n:FA}
def GK:MA X [] di:=zS lR <| by
 rintro σ H Q ⟨r,mu,S,ds,d,c,b,a,hc⟩;cases a;exact hc [] H mu (.refl _ _) .nil b
def Db(h:ME X e m)(ht:MA X es n)(hs:c8 (e::es) X.env=(ah,eval e X.env)::c8 es X.env:=by rfl):MA X (e::es) (dh m n):=
 zS (iT h ht hs) <| by
  rintro σ H Q ⟨r,mu,S,ds,s,g,hs,a,hc⟩;unfold dh at a;obtain⟨⟨d,i⟩,o,a⟩:=oB1.mp a;obtain⟨⟨c,q⟩,l,a⟩:=oB1.mp a;cases a;refine⟨r,mu,S,d,i,g,hs,o,λv H1 mu1 f k p=>?_⟩;refine⟨r,mu1,i,c,_,g.ext f,p,l,λvs H2 b x2 r2 j=>?_⟩;exact hc _ H2 b (f.trans x2) (.cons (k.ext x2) r2) j
end
def m2(f:FN)(a b:FE):FE:=λr S=>(a r S).bind λp=>(b r p.2).bind λq=>f [p.1,q.1] q.2
def m1(f:FN)(a:FE):FE:=λr S=>(a r S).bind λp=>f [p.1] p.2
def mN(f:FN)(a:FA):FE:=λr S=>(a r S).bind λp=>f p.1 p.2
abbrev r2(K:Fg1)(f:FN):R2:=λx y H Q=>rN K f [x,y] H Q
section
variable{X:Cx}{K:Fg1}{f:FN}{a b:FE}{σ:L2.St}{H:Hp}{Q:VK}
def wv(h:tM K (m2 f a b) σ H Q):Ia (r2 K f) (tM K a) (tM K b) σ H Q:=by
 obtain⟨r,mu,S,d,B,m,o,c,hc⟩:=h;obtain⟨⟨n,j⟩,A,c⟩:=oB1.mp c;obtain⟨⟨k,l⟩,x,c⟩:=oB1.mp c;refine⟨r,mu,S,n,j,m,o,A,λv H1 mu1 i q t=>?_⟩;refine⟨r,mu1,j,k,l,m.ext i,t,x,λu H2 e x2 r2 p=>?_⟩;exact⟨e,l,[n,k],d,B,.cons (q.ext x2) (.cons r2 .nil),p,c,λv s g z w y=>hc v s g ((i.trans x2).trans z) w y⟩
def Jj(h:tM K (m1 f a) σ H Q):Lz (λx H Q=>rN K f [x] H Q) (tM K a) σ H Q:=by
 obtain⟨r,mu,S,d,t,p,m,b,hc⟩:=h;obtain⟨⟨e,g⟩,o,b⟩:=oB1.mp b;refine⟨r,mu,S,e,g,p,m,o,λv H1 mu1 k i n=>?_⟩;exact⟨mu1,g,[e],d,t,.cons i .nil,n,b,λv j c l q s=>hc v j c (k.trans l) q s⟩
def wu{a:FA}(h:tM K (mN f a) σ H Q):LA K a σ H λvs H1=>rN K f vs H1 Q:=by
 obtain⟨r,mu,S,d,t,p,m,b,hc⟩:=h;obtain⟨⟨e,g⟩,o,b⟩:=oB1.mp b;refine⟨r,mu,S,e,g,p,m,o,λv H1 mu1 k i n=>?_⟩;exact⟨mu1,g,e,d,t,i,n,b,λv j c l q s=>hc v j c (k.trans l) q s⟩
def Jf{op:Operator}{x y:Expr}{pos:Pos}(ho:fZ X (binaryOp op) (r2 X.K f))(hx:ME X x a)(hy:ME X y b):ME X (.BinOp x op y pos) (m2 f a b):=ee (II ho hx hy) λ_ _ _=>wv
def Je{op:UnaryOp}{x:Expr}{pos:Pos}(ho:HR X (unaryOp op) (λx H Q=>rN X.K f [x] H Q))(hx:ME X x a):ME X (.UnaryOp op x pos) (m1 f a):=ee (IH ho hx) λ_ _ _=>Jj
def GH{op:CmpOp}{x y:Expr}{pos:Pos}(ho:fZ X (compareOp op) (r2 X.K f))(hx:ME X x a)(hy:ME X y b)(hm:behindInMarks op y=ah):ME X (.Compare x [op] [y] pos) (m2 f a b):=ee (CK ho hx hy hm) λ_ _ _=>wv
def Jg{x y:Expr}{pos:Pos}(ho:EW X (r2 X.K f))(hx:ME X x a)(hy:ME X y b)(hs:nj y):ME X (.Subscript x y pos) (m2 f a b):=ee (IJ ho hx hy hs) λ_ _ _=>wv
def As {x:Str}{p pos:Pos}{e:Expr}{es:List Expr}{id:String}{a:FA}(hc:eg X (.builtin id) (rN X.K f))(hg:Gl X x)(hm:X.mg x=none)(hv:bootBuiltins x=some (.builtin id))(ha:MA X (e::es) a)(hn:x≠"__name__":=by decide)(hdb:(x == ("__debug__":Str))=false:=by decide)
  (he:c8 (e::es) X.env=(ah,eval e X.env)::c8 es X.env:=by rfl) (hpl:(backTo pos (c8 es X.env)).any (·.1)=ah:=by rfl):ME X (.Call (.Name x p) (e::es) [] pos) (mN f a):=
 ee (nQ hc hg hm hv ha hn hdb he hpl) λ_ _ _=>wu
def xN {x:Str}{p pos:Pos}{e:Expr}{es:List Expr}{T:String}{a:FA}(hc:eg X (.type T) (rN X.K f))(hg:Gl X x)(hm:X.mg x=none)(hv:bootBuiltins x=some (.type T))(ha:MA X (e::es) a)(hn:x≠"__name__":=by decide)(hdb:(x == ("__debug__":Str))=false:=by decide)
  (he:c8 (e::es) X.env=(ah,eval e X.env)::c8 es X.env:=by rfl) (hpl:(backTo pos (c8 es X.env)).any (·.1)=ah:=by rfl):ME X (.Call (.Name x p) (e::es) [] pos) (mN f a):=
 ee (jT hc hg hm hv ha hn hdb he hpl) λ_ _ _=>wu
end
def mB(m:FE):FT:=λr S=>(m r S).bind λp=>match p.1 with
 | .bl b=>wq (b,p.2)
 |_=>aj
def Eu{K:Fg1}{m:FE}{σ:L2.St}{H:Hp}{Q:Bool->Hp->Prop}(h:B4 K (mB m) σ H Q):tB (tM K m) σ H Q:=by
 obtain⟨r,mu,S,b,n,i,e,a,hc⟩:=h;obtain⟨⟨j,l⟩,g,a⟩:=oB1.mp a;cases j with
 |bl k=>
  cases a;refine⟨r,mu,S,_,_,i,e,g,λv H1 mu1 d c f=>?_⟩;cases c;exact⟨_,ag,hc H1 mu1 d f⟩
 |_=>cases a
def rh(a b:FT):FT:=λr S=>(a r S).bind λp=>if p.1=ai then b r p.2 else wq (ah,p.2)
def mOr(a b:FT):FT:=λr S=>(a r S).bind λp=>if p.1=ai then wq (ai,p.2)else b r p.2
def gB(a:FT):FT:=λr S=>(a r S).bind λp=>wq (!p.1,p.2)
def iH(a b:FE):FE:=λr S=>(a r S).bind λp=>match p.1 with
 | .bl c=>if c=ai then b r p.2 else wq (.bl ah,p.2)
 |_=>aj
def Mk(a b:FE):FE:=λr S=>(a r S).bind λp=>match p.1 with
 | .bl c=>if c=ai then wq (.bl ai,p.2)else b r p.2
 |_=>aj
def pz(a:FE):FE:=λr S=>(a r S).bind λp=>match p.1 with
 | .bl c=>wq (.bl (!c),p.2)
 |_=>aj
def HN(c:FT)(a b:FE):FE:=λr S=>(c r S).bind λp=>if p.1=ai then a r p.2 else b r p.2
section
variable{X:Cx}{x y c:Expr}{rest:List Expr}{pos:Pos}{a b:FT}{f g:FE}
def Gk{op:CmpOp}{f:FN}{a b:FE}(ho:fZ X (compareOp op) (r2 X.K f))(hx:ME X x a)(hy:ME X y b)(hm:behindInMarks op y=ah):MT X (.Compare x [op] [y] pos) (mB (m2 f a b)):=
 qw (Cq ho hx hy hm) fun σ H Q h=>by
  obtain⟨r,mu,S,d,k,j,g,hm,hc⟩:=Eu h;exact wv ⟨r,mu,S,d,k,j,g,hm,λv H' mu' e c i=>hc v H' mu' e c i⟩
def CY(ha:MT X x a):MW X (.BoolOp .And [x] pos) a:=Cp ha
def Gg(ha:MT X x a):MW X (.BoolOp .Or [x] pos) a:=Ft ha
def Gh(ha:MT X x a)(hb:MW X (.BoolOp .And (y::rest) pos) b):MW X (.BoolOp .And (x::y::rest) pos) (rh a b):=
 zA (Fu ha hb) <| by
  rintro σ H Q ⟨r,mu,S,k,m,g,j,c,hc⟩;obtain⟨⟨b1,h⟩,l,c⟩:=oB1.mp c;refine⟨r,mu,S,b1,h,g,j,l,λH1 mu1 e f=>?_⟩;cases b1 with
  |true=>exact⟨r,mu1,h,k,m,g.ext e,f,c,λH2 d x2 i=>hc H2 d (e.trans x2) i⟩
  |false=>cases c;exact hc H1 mu1 e f
def IZ(ha:MT X x a)(hb:MW X (.BoolOp .Or (y::rest) pos) b):MW X (.BoolOp .Or (x::y::rest) pos) (mOr a b):=
 zA (IC ha hb) <| by
  rintro σ H Q ⟨r,mu,S,k,m,g,j,c,hc⟩;obtain⟨⟨b1,h⟩,l,c⟩:=oB1.mp c;refine⟨r,mu,S,b1,h,g,j,l,λH1 mu1 e f=>?_⟩;cases b1 with
  |false=>exact⟨r,mu1,h,k,m,g.ext e,f,c,λH2 d x2 i=>hc H2 d (e.trans x2) i⟩
  |true=>cases c;exact hc H1 mu1 e f
def KX(h:MW X x a):MT X x a:=PW.pt h
def Gj(ha:MT X x a):MT X (.UnaryOp .Not x pos) (gB a):=
 qw (Fw ha) <| by
  rintro σ H Q ⟨r,mu,S,k,i,h,d,b,hc⟩;obtain⟨⟨b1,g⟩,f,b⟩:=oB1.mp b;cases b;exact⟨r,mu,S,b1,g,h,d,f,λH1 mu1 c e=>hc H1 mu1 c e⟩
def GC{op}(h:ME X x f):ME X (.BoolOp op [x] pos) f:=FW h
def GI(ha:ME X x f)(hb:ME X (.BoolOp .And (y::rest) pos) g):ME X (.BoolOp .And (x::y::rest) pos) (iH f g):=
 ee (F2 ha hb) <| by
  rintro σ H Q ⟨r,mu,S,k,p,e,m,a,hc⟩;obtain⟨⟨i,h⟩,o,a⟩:=oB1.mp a;refine⟨r,mu,S,i,h,e,m,o,λv H1 mu1 c l d=>?_⟩;cases i with
  |bl b1=>
   cases l;refine⟨b1,ag,?_⟩;cases b1 with
   |true=>exact⟨r,mu1,h,k,p,e.ext c,d,a,λn H2 b x2 r2 j=>hc n H2 b (c.trans x2) r2 j⟩
   |false=>cases a;exact hc _ H1 mu1 c (.bl ah) d
  |_=>cases a
def GD(ha:ME X x f):ME X (.UnaryOp .Not x pos) (pz f):=
 ee (FX ha) <| by
  rintro σ H Q ⟨r,mu,S,k,l,i,e,a,hc⟩;obtain⟨⟨b,j⟩,h,a⟩:=oB1.mp a;refine⟨r,mu,S,b,j,i,e,h,λv H1 mu1 d c g=>?_⟩;cases b with
  |bl b1=>
   cases c;cases a;exact⟨b1,ag,hc _ H1 mu1 d (.bl _) g⟩
  |_=>cases a
def Jh(hc:MT X c a)(hx:ME X x f)(hy:ME X y g):ME X (.IfExp c x y pos) (HN a f g):=
 ee (zO hc hx hy) <| by
  rintro σ H Q ⟨r,mu,S,k,n,j,o,d,hc⟩;obtain⟨⟨b1,l⟩,p,d⟩:=oB1.mp d;refine⟨r,mu,S,b1,l,j,o,p,λH1 mu1 e m=>?_⟩;cases b1 with
  |true=>exact⟨r,mu1,l,k,n,j.ext e,m,d,λi H2 b x2 r2 h=>hc i H2 b (e.trans x2) r2 h⟩
  |false=>exact⟨r,mu1,l,k,n,j.ext e,m,d,λi H2 b x2 r2 h=>hc i H2 b (e.trans x2) r2 h⟩
end
def GM(f g:FN)(a b c:FE):FE:=λr S=>(a r S).bind λp=>(b r p.2).bind λq=>(f [p.1,q.1] q.2).bind λt=>match t.1 with
 | .bl k=>if k=ai then(c r t.2).bind λz=>g [q.1,z.1] z.2 else wq (.bl ah,t.2)
 |_=>aj
section
variable{X:Cx}{x y z:Expr}{pos:Pos}{f g:FN}{a b c:FE}{op op':CmpOp}
def GL{K:Fg1}{σ:L2.St}{H:Hp}{Q:VK}(h:tM K (GM f g a b c) σ H Q):zg (r2 K f) (r2 K g) (tM K a) (tM K b) (tM K c) σ H Q:=by
 obtain⟨r,mu,S,d,V,q,B,e,hc⟩:=h;obtain⟨⟨A,w⟩,T,e⟩:=oB1.mp e;obtain⟨⟨n,z⟩,P,e⟩:=oB1.mp e;obtain⟨⟨x,u⟩,M,e⟩:=oB1.mp e;refine⟨r,mu,S,A,w,q,B,T,λX H1 mu1 j F J=>?_⟩;refine⟨r,mu1,w,n,z,q.ext j,J,P,λY H2 o x2 r2 D=>?_⟩;refine⟨o,z,[A,n],x,u,.cons (F.ext x2) (.cons r2 .nil),D,M,λv3 G i l N y=>?_⟩;cases x with
 |bl k=>
  cases N;refine⟨k,ag,?_⟩;cases k with
  |false=>cases e;exact hc _ G i ((j.trans x2).trans l) (.bl ah) y
  |true=>
   obtain⟨⟨v,s⟩,C,e⟩:=oB1.mp e;refine⟨r,i,u,v,s,q.ext ((j.trans x2).trans l),y,C,λZ H4 p t O E=>?_⟩;exact⟨p,s,[n,v],d,V,.cons ((r2.ext l).ext t) (.cons O .nil),E,e,λL U m R I W=>hc L U m ((((j.trans x2).trans l).trans t).trans R) I W⟩
 |_=>cases e
def Aq(ho:fZ X (compareOp op) (r2 X.K f))(ho':fZ X (compareOp op') (r2 X.K g))(hx:ME X x a)(hy:ME X y b)(hz:ME X z c)(hm:lastMarks [op,op'] [y,z]=false:=by with_unfolding_all rfl):
  ME X (.Compare x [op,op'] [y,z] pos) (GM f g a b c):=ee (zQ ho ho' hx hy hz hm) λ_ _ _=>GL
end
mutual
def D.und(n:Nat):D->Bool
 | .tup xs=>D.unds n xs
 | .rol xs=>D.unds n xs
 | .ref k=>decide (k<n)
 | .non=>ai
 | .bl _=>ai
 | .int _=>ai
 | .str _=>ai
 | .fn _=>ai
def D.unds(n:Nat):List D->Bool
 |[]=>ai
 |d::ds=>D.und n d&&D.unds n ds
end
def D.sames(a b:List D):Bool:=@decide (a=b) (Classical.propDecidable _)
def D.sames_eq{a b:List D}(h:D.sames a b=ai):a=b:=@of_decide_eq_true _ (Classical.propDecidable _) h
def D.sames_refl(a:List D):D.sames a a=ai:=@decide_eq_true _ (Classical.propDecidable _) ag
section
variable{K:Fg1}{H:Hp}{mu mu':List cZ}
def eQ.cut{n:Nat}(h:∀ k,k<n->mu[k]? = mu'[k]?):∀ {d:D} {v:V},eQ K H mu d v->d.und n=true->eQ K H mu' d v:=fun c=>c.rec (motive_1:=fun d v _=>d.und n=true->eQ K H mu' d v) (motive_2:=fun ds vs _=>D.unds n ds=true->dB K H mu' ds vs)
  (λ_=>.non) (λb _=>.bl b) (λi _=>.int i) (λx _=>.str x) (λq _ ih e=>.tup q (ih (by rw[D.und]at e;exact e))) (λq _ ih e=>.rol q (ih (by rw[D.und]at e;exact e)))
  (λq e=>.ref (by rw[D.und]at e;rw[<- h _ (of_decide_eq_true e)];exact q)) (λq _=>.fn q) (λ_=>.nil) (λ_ _ a b e=>by rw[D.unds,bA1]at e;exact .cons (a e.1) (b e.2))
def dB.cut{n:Nat}(h:∀k,k<n->mu[k]?=mu'[k]?):∀{ds:List D} {vs:List V},dB K H mu ds vs->D.unds n ds=ai->dB K H mu' ds vs:=λa=>a.ind (P:=λds vs _=>D.unds n ds=ai->dB K H mu' ds vs) (λ_=>.nil) λr _ b e=>by rw[D.unds,bA1]at e;exact .cons (eQ.cut h r e.1) (b e.2)
end
def Ob.und(n:Nat):Ob->Bool
 | .lst xs=>D.unds n xs
 | .dct kvs=>D.unds n (kvs.map (·.2))
 | .dcT kvs=>D.unds n (kvs.map (·.2))
 | .iset _=>ai
 | .dcF kvs=>D.unds n (kvs.map (·.2))
 | .tst _=>ai
def KR.cut{κ:Type}{K:Fg1}{H:Hp}{mu mu':List cZ}{n:Nat}(h:∀k,k<n->mu[k]?=mu'[k]?):∀{ks:List (κ×D)} {ws:List (κ×V)},KR K H mu ks ws->D.unds n (ks.map (·.2))=ai->KR K H mu' ks ws:=by
 intro ks ws a e
 induction a with
 |nil=>exact .nil
 |cons r t ih=>
  rw[mP1,D.unds,bA1]at e;exact .cons ⟨r.1,r.2.cut h e.1⟩ (ih e.2)
mutual
def zb(n:Nat):∀k:TK,(oQ k).und n=ai
 | .non=>rfl
 | .int _=>rfl
 | .tup xs=>by rw[oQ,D.und];exact vO n xs
def vO(n:Nat):∀ks:List TK,D.unds n (kr ks)=ai
 |[]=>rfl
 |x::xs=>by rw[kr,D.unds,zb n x,vO n xs];rfl
end
def KT.cut{K:Fg1}{H:Hp}{mu mu':List cZ}{n:Nat}(h:∀k,k<n->mu[k]?=mu'[k]?):∀{ks:List (TK×D)} {ws:List (TK×cZ×cX)},KT K H mu ks ws->D.unds n (ks.map (·.2))=ai->KT K H mu' ks ws:=by
 intro ks ws b e
 induction b with
 |nil=>exact .nil
 |cons r t ih=>
  rw[mP1,D.unds,bA1]at e;obtain⟨z,d,k,v,a,r⟩:=r;exact .cons ⟨z,d,k.cut h (zb n _),v,a,r.cut h e.1⟩ (ih e.2)
def wm(n:Nat):∀ks:List TK,D.unds n ((ks.map λk=>(k,D.non)).map (·.2))=ai
 |[]=>rfl
 |_::ks=>by rw[mP1,mP1,D.unds,wm n ks];rfl
def oP.cut{K:Fg1}{H:Hp}{mu mu':List cZ}{n:Nat}{a:cZ}(h:∀k,k<n->mu[k]?=mu'[k]?):∀{o:Ob},oP K H mu a o->o.und n=ai->oP K H mu' a o
 | .lst _,⟨vs,e,r⟩,b=>⟨vs,e,r.cut h b⟩
 | .dct _,⟨ws,e,r⟩,b=>⟨ws,e,KR.cut h r b⟩
 | .dcT _,⟨ws,e,r,l⟩,b=>⟨ws,e,KT.cut h r b,l⟩
 | .iset _,q,_=>q
 | .dcF _,⟨ws,e,r,l⟩,b=>⟨ws,e,KT.cut h r b,l⟩
 | .tst ks,⟨ws,e,r⟩,_=>⟨ws,e,KT.cut h r (wm n ks)⟩
def gc(n:Nat)(p:D×Sto):D×Sto:=if p.1.und n&&(p.2.take n).all (Ob.und n)then(p.1,p.2.take n)else p
mutual
def D.sh(n:Nat):D->D
 | .tup xs=>.tup (D.shs n xs)
 | .rol xs=>.rol (D.shs n xs)
 | .ref k=>.ref (n+k)
 | .fn x=>.fn x
 | .non=>.non
 | .bl b=>.bl b
 | .int i=>.int i
 | .str x=>.str x
def D.shs(n:Nat):List D->List D
 |[]=>[]
 |d::ds=>D.sh n d::D.shs n ds
end
def Ob.sh(n:Nat):Ob->Ob
 | .lst xs=>.lst (D.shs n xs)
 | .dct kvs=>.dct (kvs.map λp=>(p.1,p.2.sh n))
 | .dcT kvs=>.dcT (kvs.map λp=>(p.1,p.2.sh n))
 | .iset xs=>.iset xs
 | .dcF kvs=>.dcF (kvs.map λp=>(p.1,p.2.sh n))
 | .tst ks=>.tst ks
def eQ.sh{K:Fg1}{H:Hp}{mu mu':List cZ}:∀ {d:D} {v:V},eQ K H mu' d v->eQ K H (mu++mu') (d.sh mu.length) v:=fun c=>c.rec (motive_1:=fun d v _=>eQ K H (mu++mu') (d.sh mu.length) v) (motive_2:=fun ds vs _=>dB K H (mu++mu') (D.shs mu.length ds) vs)
  .non .bl .int .str (λh _ ih=>.tup h ih) (λh _ ih=>.rol h ih) (λh=>.ref (by rw[gR1 (bi _ _),Nat.add_sub_cancel_left];exact h)) (λh=>.fn h) .nil (λ_ _ a b=>.cons a b)
def dB.sh{K:Fg1}{H:Hp}{mu mu':List cZ}:∀{ds:List D} {vs:List V},dB K H mu' ds vs->dB K H (mu++mu') (D.shs mu.length ds) vs:=λh=>h.ind (P:=λds vs _=>dB K H (mu++mu') (D.shs mu.length ds) vs) .nil λr _ ih=>.cons (eQ.sh r) ih
def KR.sh{κ:Type}{K:Fg1}{H:Hp}{mu mu':List cZ}:∀{ks:List (κ×D)} {ws:List (κ×V)},KR K H mu' ks ws->KR K H (mu++mu') (ks.map λp=>(p.1,p.2.sh mu.length)) ws:=by
 intro ks ws h
 induction h with
 |nil=>exact .nil
 |cons r t ih=>exact .cons ⟨r.1,r.2.sh⟩ ih
mutual
def Ee(n:Nat):∀k:TK,(oQ k).sh n=oQ k
 | .non=>rfl
 | .int _=>rfl
 | .tup xs=>by rw[oQ,D.sh,za n xs]
def za(n:Nat):∀ks:List TK,D.shs n (kr ks)=kr ks
 |[]=>rfl
 |x::xs=>by rw[kr,D.shs,Ee n x,za n xs]
end
def KT.sh{K:Fg1}{H:Hp}{mu mu':List cZ}:∀{ks:List (TK×D)} {ws:List (TK×cZ×cX)},KT K H mu' ks ws->KT K H (mu++mu') (ks.map λp=>(p.1,p.2.sh mu.length)) ws:=by
 intro ks ws h
 induction h with
 |nil=>exact .nil
 |cons r t ih=>
  obtain⟨z,d,k,v,a,r⟩:=r;exact .cons ⟨z,d,by have:=k.sh (mu:=mu);rw[Ee]at this;exact this,v,a,r.sh⟩ ih
def oP.sh{K:Fg1}{H:Hp}{mu mu':List cZ}{a:cZ}:∀{o:Ob},oP K H mu' a o->oP K H (mu++mu') a (o.sh mu.length)
 | .lst _,⟨vs,e,r⟩=>⟨vs,e,r.sh⟩
 | .dct _,⟨ws,e,r⟩=>⟨ws,e,KR.sh r⟩
 | .dcT _,⟨ws,e,r,l⟩=>⟨ws,e,KT.sh r,l⟩
 | .iset _,q=>q
 | .dcF _,⟨ws,e,r,l⟩=>⟨ws,e,KT.sh r,l⟩
 | .tst ks,⟨ws,e,r⟩=>⟨ws,e,by have:=KT.sh (mu:=mu) r;rw[bj]at this;exact this⟩
def eQ.mor{K:Fg1}{H:Hp}{mu:List cZ}(mu':List cZ):∀{d:D} {v:V},eQ K H mu d v->eQ K H (mu++mu') d v:=λh=>h.exv ⟨bm _ _,λ_ _ h=>h,λ_ _ _ h=>h⟩
def dB.mor{K:Fg1}{H:Hp}{mu:List cZ}(mu':List cZ):∀{ds:List D} {vs:List V},dB K H mu ds vs->dB K H (mu++mu') ds vs:=λh=>h.exv ⟨bm _ _,λ_ _ h=>h,λ_ _ _ h=>h⟩
def KR.mor{κ:Type}{K:Fg1}{H:Hp}{mu:List cZ}(mu':List cZ){ks:List (κ×D)}{ws:List (κ×V)}(h:KR K H mu ks ws):KR K H (mu++mu') ks ws:=Paired.mapP h λ_ _ z=>⟨z.1,z.2.mor mu'⟩
def oP.mor{K:Fg1}{H:Hp}{mu:List cZ}{a:cZ}(mu':List cZ):∀{o:Ob},oP K H mu a o->oP K H (mu++mu') a o
 | .lst _,⟨vs,e,r⟩=>⟨vs,e,r.mor mu'⟩
 | .dct _,⟨ws,e,r⟩=>⟨ws,e,KR.mor mu' r⟩
 | .dcT _,⟨ws,e,r,l⟩=>⟨ws,e,Paired.mapP r λ_ _ ⟨z,d,k,v,b,r⟩=>⟨z,d,k.mor mu',v,b,r.mor mu'⟩,l⟩
 | .iset _,q=>q
 | .dcF _,⟨ws,e,r,l⟩=>⟨ws,e,Paired.mapP r λ_ _ ⟨z,d,k,v,b,r⟩=>⟨z,d,k.mor mu',v,b,r.mor mu'⟩,l⟩
 | .tst _,⟨ws,e,r⟩=>⟨ws,e,Paired.mapP r λ_ _ ⟨z,d,k,v,b,r⟩=>⟨z,d,k.mor mu',v,b,r.mor mu'⟩⟩
def pV(f:FN):FN:=λds S=>if D.unds 0 ds=ai then(f ds []).map λp=>if p.1.und 0=ai then(p.1,S)else(p.1.sh S.length,S++p.2.map (Ob.sh S.length))else(f ds S).map (gc S.length)
def oP.keep{K:Fg1}{H H':Hp}{mu:List cZ}{a:cZ}(e:Ext mu mu H H')(h:∀o,H a=wq o->H' a=wq o):∀{o:Ob},oP K H mu a o->oP K H' mu a o
 | .lst _,⟨vs,q,r⟩=>⟨vs,h _ q,r.ext e⟩
 | .dct _,⟨ws,q,r⟩=>⟨ws,h _ q,KR.ext e r⟩
 | .dcT _,⟨ws,q,r,l⟩=>⟨ws,h _ q,KT.ext e r,l⟩
 | .iset _,q=>⟨h _ q.1,q.2⟩
 | .dcF _,⟨ws,⟨o,u,c,b⟩,r,l⟩=>⟨ws,⟨o,u,h _ c,b⟩,KT.ext e r,l⟩
 | .tst _,⟨ws,q,r⟩=>⟨ws,h _ q,KT.ext e r⟩
def uh{K:Fg1}{f:FN}{vs:List V}{H:Hp}{Q:VK}(h:rN K (pV f) vs H Q):rN K f vs H Q:=by
 obtain⟨mu,S,ds,d,L,D,c,g,hc⟩:=h;unfold pV at g;split at g
 ·rename_i j;obtain⟨⟨B,p⟩,y,g⟩:=oM1.mp g;refine⟨[],[],ds,B,p,D.cut (n:=0) (λk i=>absurd i (bn _)) j,.nil,y,λv H' mu' x r s=>?_⟩;have A:Ext mu mu H H':=⟨bc,λa o e _=>x.old a o e (by simp),x.tup,x.frz,λ_ z=>.inl z⟩;dsimp only at g;split at g
  ·rename_i F;cases g;refine hc v H' mu A (r.cut (n:=0) (λk i=>absurd i (bn _)) F) ⟨c.len,c.nd,λn o a h1 h2=>?_⟩;exact(c.ob n o a h1 h2).keep A λo e=>x.old a o e (by simp)
  ·cases g;have E:∀ a∈mu',H a=none:=fun a u=>(x.new a u).resolve_left (by simp);have x2:Ext mu (mu++mu') H H':=⟨bm _ _,fun a o e _=>x.old a o e (by simp),x.tup,x.frz,fun a z=>by
    rcases ay.mp z with z|z
    ·exact .inl z
    ·exact .inr (E a z)⟩
   refine hc v H' (mu++mu') x2 (by rw[<- c.len];exact r.sh) ⟨by rw[lA1,lA1,lM1,c.len,s.len],?_,λn o a h1 h2=>?_⟩
   ·refine bo.mpr ⟨c.nd,s.nd,λa u b j z=>?_⟩;subst z;obtain⟨o,e⟩:=c.here u;rw[E a j]at e;cases e
   ·by_cases l:n<S.length
    ·rw[gL1 l]at h1;rw[gL1 (by rw[c.len];exact l)]at h2;exact((c.ob n o a h1 h2).keep A λo e=>x.old a o e (by simp)).mor mu'
    ·have m:=Nat.le_of_not_lt l;rw[gR1 m]at h1;rw[gR1 (by rw[c.len];exact m)]at h2;rw[gP1]at h1;obtain⟨G,J,I⟩:=oM1.mp h1;subst I;have q:=s.ob (n-S.length) G a J (by rw[c.len]at h2;exact h2);rw[<- c.len];exact q.sh
 ·obtain⟨⟨B,p⟩,y,g⟩:=oM1.mp g;refine⟨mu,S,ds,B,p,D,c,y,λv H' mu' x r s=>?_⟩;unfold gc at g;split at g
  ·rename_i j;cases g;rw [bA1] at j;have i:∀ k,k<S.length->mu'[k]? = mu[k]?:=fun k i=>by
    obtain⟨t,rfl⟩:=x.pre;rw[gL1 (by rw[c.len];exact i)]
   refine hc v H' mu x.back (r.cut i j.1) ⟨?_,c.nd,λn o a h1 h2=>?_⟩
   ·have:=s.len;have C:=x.pre.length_le;rw[aK,<- s.len];rw[c.len]at C ⊢;exact(bp C).symm
   ·have l:n<S.length:=by rw[<- c.len];exact(gE1.mp h2).1
    have w:p[n]?=wq o:=by rw[aM l]at h1;exact h1
    refine(s.ob n o a w ((i n l).trans h2)).cut i ?_;exact bq.mp j.2 o (gM1 h1)
  ·cases g;exact hc v H' mu' x r s
def spM(K:Fg1)(n:Nat)(f:FN):Sp:=λvs H Q _=>vs.length=n/\rN K f vs H Q
section
variable{X:Cx}{k n:Nat}{f:cZ}{fd:de}{ps:List Str}{x:Str}{p pos:Pos}{e:Expr}{es:List Expr}{m:FN}{a:FA}
def dm(n:Nat)(f:FN):FN:=λds S=>if ds.length=n then pV f ds S else aj
def Da (F:jM X.prog X.w X.K X.mg X.base ur k f fd ps (spM X.K n m))(hr:fC k X.A)(hg:Gl X x)(hm:X.mg x=some (.ref f))(hk:wK1 X.K (.ref f)=true)(hb:jf X.K fd ps [])
  (ha:MA X (e::es) a) (hdb:(x == ("__debug__":Str))=ah:=by decide) (he:c8 (e::es) X.env=(ah,eval e X.env)::c8 es X.env:=by rfl) (hpl:(backTo pos (c8 es X.env)).any (·.1)=ah:=by rfl):
  ME X (.Call (.Name x p) (e::es) [] pos) (mN (dm n m) a):=
 ee (CL (E:=E0) F hr hg hm hk hb .nil Ep ha hdb he hpl) fun σ H Q h=>by
  obtain⟨r,mu,S,ds,w,he,t,hm,hc⟩:=wu h;refine⟨r,mu,S,ds,w,he,t,hm,λvs H' mu' s l u=>?_⟩;have q:=hc vs H' mu' s l u;show spM X.K n m (vs++[]) H' Q E0;rw[aF];obtain⟨c,j,d,i,g,h1,h2,b,o⟩:=q;unfold dm at b;split at b
  ·rename_i v;exact⟨by rw[<- h1.length];exact v,uh ⟨c,j,d,i,g,h1,h2,b,o⟩⟩
  ·cases b
end
def jg:FS:=λr S=>wq (.nx,r,S)
def dv(a b:FS):FS:=λr S=>(a r S).bind λp=>match p.1 with
 | .nx=>b p.2.1 p.2.2
 |f=>wq (f,p.2.1,p.2.2)
def dW(m:FE):FS:=λr S=>(m r S).bind λp=>wq (.rt p.1,r,p.2)
def LC:FS:=λr S=>wq (.rt .non,r,S)
def eN(m:FE):FS:=λr S=>(m r S).bind λp=>wq (.nx,r,p.2)
def eD(c:FT)(a b:FS):FS:=λr S=>(c r S).bind λp=>if p.1=ai then a r p.2 else b r p.2
section
variable{X:Cx}{pos:Pos}{e c:Expr}{st:df}{rest as bs:List df}{a b:FS}{m:FE}{t:FT}
def C0:yq X [] jg:=qx Cs <| by
 rintro E σ H ⟨r,mu,S,f,d,e,b,a,c,hc⟩;cases c;exact hc σ H mu (.refl _ _) b a
def Ak(h1:MS X st a)(h2:yq X rest b):yq X (st::rest) (dv a b):=qx (zE h1 h2) <| by
 rintro E σ H ⟨r,mu,S,f,q,t,s,o,g,hc⟩;obtain⟨⟨l,k,m⟩,p,g⟩:=oB1.mp g;refine⟨r,mu,S,l,k,m,s,o,p,?_⟩;cases l with
 |nx=>
  intro n H1 mu1 h i j;refine⟨k,mu1,m,f,q,t,i,j,g,?_⟩;cases f with
  |nx=>exact λe H2 c x2=>hc e H2 c (h.trans x2)
  |bk=>exact λe H2 c x2=>hc e H2 c (h.trans x2)
  |ct=>exact λe H2 c x2=>hc e H2 c (h.trans x2)
  |rt d=>exact λv H2 c x2=>hc v H2 c (h.trans x2)
 |bk=>cases g;exact hc
 |ct=>cases g;exact hc
 |rt d=>cases g;exact hc
def CZ(h1:MS X st a):yq X [st] a:=Cr h1
def C1(h:ME X e m)(hs:swapsWith e aj pos.line X.env=pure ah:=by rfl):MS X (.Expr e pos) (eN m):=iS (Ct h hs) <| by
 rintro E σ H ⟨r,mu,S,f,j,l,b,hs,a,hc⟩;obtain⟨⟨d,k⟩,c,a⟩:=oB1.mp a;cases a;exact⟨r,mu,S,d,_,b,hs,c,λv H' mu' x i g=>hc σ H' mu' x (b.ext x) g⟩
def Gn(h:ME X e m):MS X (.Return (wq e) pos) (dW m):=iS (Fy h) <| by
 rintro E σ H ⟨r,mu,S,f,i,k,g,c,a,hc⟩;obtain⟨⟨d,j⟩,b,a⟩:=oB1.mp a;cases a;exact⟨r,mu,S,d,_,g,c,b,hc⟩
def I0(hc:MT X c t)(ha:yq X as a)(hb:yq X bs b):MS X (.If c as bs pos) (eD t a b):=iS (IE hc ha hb) <| by
 rintro E σ H ⟨r,mu,S,f,m,o,n,p,h,hc⟩;obtain⟨⟨k,j⟩,s,h⟩:=oB1.mp h;refine⟨r,mu,S,k,j,n,p,s,λH1 mu1 i q=>?_⟩;have l:∀c:FS,c r j=wq (f,m,o)->vR X.K c E σ H1:=λc h=>by
  refine⟨r,mu1,j,f,m,o,n.ext i,q,h,?_⟩;cases f with
  |nx=>exact λg H2 e x2=>hc g H2 e (i.trans x2)
  |bk=>exact λg H2 e x2=>hc g H2 e (i.trans x2)
  |ct=>exact λg H2 e x2=>hc g H2 e (i.trans x2)
  |rt d=>exact λv H2 e x2=>hc v H2 e (i.trans x2)
 cases k with
 |true=>exact l a h
 |false=>exact l b h
end
abbrev FG:=D->Ev->Sto->Option (Ev×Sto)
abbrev BJ:=List D->Ev->Sto->Option (Ev×Sto)
inductive Ie (K:Fg1)(g:FG)(v:V)(σ:L2.St)(H:Hp)(Q:L2.St->Hp->Prop):Prop
 |mk (r:Ev) (mu:List cZ) (S:Sto) (d:D) (r':Ev) (S':Sto) (he:fD K H mu r σ) (hs:Sim K H mu S) (hr:eQ K H mu d v) (hm:g d r S=some (r',S')) (hc:∀ σ' H' mu',Ext mu mu' H H'->fD K H' mu' r' σ'->Sim K H' mu' S'->Q σ' H')
inductive KB (K:Fg1)(g:BJ)(vs:List V)(σ:L2.St)(H:Hp)(Q:L2.St->Hp->Prop):Prop
 |mk (r:Ev) (mu:List cZ) (S:Sto) (ds:List D) (r':Ev) (S':Sto) (he:fD K H mu r σ) (hs:Sim K H mu S) (hr:dB K H mu ds vs) (hm:g ds r S=some (r',S')) (hc:∀ σ' H' mu',Ext mu mu' H H'->fD K H' mu' r' σ'->Sim K H' mu' S'->Q σ' H')
abbrev MG(X:Cx)(e:Expr)(g:FG):Prop:=PG X e (Ie X.K g)
abbrev J3(X:Cx)(es:List Expr)(g:BJ):Prop:=HH X es (KB X.K g)
def gN(i:Nat):FG:=λd r S=>wq (r.set i (wq d),S)
def jh:BJ:=λds r S=>match ds with
 |[]=>wq (r,S)
 |_=>aj
def fv(g:FG)(gs:BJ):BJ:=λds r S=>match ds with
 |d::ds=>(g d r S).bind λp=>gs ds p.1 p.2
 |[]=>aj
def gT(n:Nat)(gs:BJ):FG:=λd r S=>match d with
 | .tup ds=>if ds.length=n then gs ds r S else aj
 |_=>aj
def fD.set{K:Fg1}{H:Hp}{mu:List cZ}{r:Ev}{σ:L2.St}{i:Nat}{d:D}{v:V}(h:fD K H mu r σ)(q:eQ K H mu d v):fD K H mu (r.set i (wq d)) (σ.set i (wq v)):=by
 refine⟨by rw[aP,aP];exact h.len,λj c e=>?_⟩;by_cases a:i=j
 ·subst a;have b:i<r.length:=by
   have:=(gE1.mp e).1
   rwa [aP]at this
  rw[aA b]at e;cases e;exact⟨v,aA (by rw[<- h.len];exact b),q⟩
 ·rw[gS1 a]at e;obtain⟨f,k,g⟩:=h.val j c e;exact⟨f,by rw[gS1 a];exact k,g⟩
section
variable{X:Cx}{pos:Pos}
def uQ{e:Expr}{t t':TG}(h:PG X e t)(i:∀v σ H Q,t' v σ H Q->t v σ H Q):PG X e t':=λpins s σ H v u Q I r q=>h pins s σ H v u Q I r (i v σ H Q q)
def wb{e:List Expr}{t t':EU}(h:HH X e t)(i:∀v σ H Q,t' v σ H Q->t v σ H Q):HH X e t':=λpins s σ H v u Q I r q=>h pins s σ H v u Q I r (i v σ H Q q)
def C8(i:Nat){x:Str}(hN:X.N.Nodup)(hi:X.N[i]?=wq x)(hx:yr X.env.scope x)(hf:X.fn x=ai\/X.env.scope.names.lookup x=wq .local:=by first|exact .inl rfl|exact .inr rfl|assumption):MG X (.Name x pos) (gN i):=
 uQ (wc hN hi hx hf) <| by
  rintro v σ H Q ⟨r,mu,S,d,f,g,c,a,b,e,hc⟩;cases e;exact hc _ H mu (.refl _ _) (c.set b) a
def C7:J3 X [] jh:=wb CF <| by
 rintro vs σ H Q ⟨r,mu,S,ds,e,f,d,b,c,a,hc⟩;unfold jh at a;split at a
 ·cases a;cases c;exact⟨ag,hc σ H mu (.refl _ _) d b⟩
 ·cases a
def Ao{e:Expr}{es:List Expr}{g:FG}{i:BJ}(h1:MG X e g)(h2:J3 X es i)(hs:(assignEach (e::es) X.env).map (·.2)=assign e X.env::(assignEach es X.env).map (·.2):=by rfl):J3 X (e::es) (fv g i):=
 wb (zM h1 h2 hs) <| by
  rintro vs σ H Q ⟨r,mu,S,ds,o,s,p,hs,n,a,hc⟩;unfold fv at a;split at a
  ·obtain⟨⟨f,j⟩,l,a⟩:=oB1.mp a;cases n with
   |cons q t=>
    exact⟨_,_,ag,r,mu,S,_,f,j,p,hs,q,l,λk H1 mu1 h d m=>⟨f,mu1,j,_,o,s,d,m,t.ext h,a,λc H2 b x2=>hc c H2 b (h.trans x2)⟩⟩
  ·cases a
def Gv{es:List Expr}{k:Nat}{b:BJ}{n:Nat}(hc:X.calm=ai)(h:J3 X es b)(hn:(assignEach es X.env).length=n:=by rfl)(hst:(assignEach es X.env).findIdx? (·.1)=aj:=by rfl):MG X (.Tuple es k pos) (gT n b):=
 uQ (FL hc h hn hst) <| by
  rintro v σ H Q ⟨r,mu,S,d,g,j,i,c,e,a,hc⟩;cases d with
  |tup ds=>
   rw[gT]at a;split at a
   ·rename_i f;cases e with
    |tup q t=>exact⟨_,_,ag,q,by rw[<- t.length];exact f,r,mu,S,ds,g,j,i,c,t,a,hc⟩
   ·cases a
  |_=>cases a
inductive rU (K:Fg1)(f:FN)(o i v:V)(H:Hp)(Q:Hp->Prop):Prop
 |mk (mu:List cZ) (S:Sto) (ds:List D) (d:D) (S':Sto) (hr:dB K H mu ds [o,i,v]) (hs:Sim K H mu S) (hm:f ds S=some (d,S')) (hc:∀H' mu',Ext mu mu' H H'->Sim K H' mu' S'->Q H')
def gS(f:FN)(a b:FE):FG:=λd r S=>(a r S).bind λp=>(b r p.2).bind λq=>(f [p.1,q.1,d] q.2).bind λt=>wq (r,t.2)
def Gw{o i:Expr}{a b:FE}{f:FN}(ho:ME X o a)(hi:ME X i b)(hs:vz X (rU X.K f))(ha:∀v,assign (.Subscript o i pos) X.env v=(do
   let ov<-holding [v] (eval o X.env)
   let iv<-holding [v,ov] (eval i X.env)
   standAt pos
   holding [v,ov,iv] (setItem ov iv v)
   release [v,ov,iv] []):=by intro _;rfl):MG X (.Subscript o i pos) (gS f a b):=
 uQ (FM ho hi hs ha) <| by
  rintro v σ H Q ⟨r,mu,S,d,F,G,j,hs,B,c,hc⟩;obtain⟨⟨p,k⟩,A,c⟩:=oB1.mp c;obtain⟨⟨l,m⟩,y,c⟩:=oB1.mp c;obtain⟨⟨w,D⟩,x,c⟩:=oB1.mp c;cases c;refine⟨r,mu,S,p,k,j,hs,A,λC H1 mu1 e s u=>?_⟩;refine⟨r,mu1,k,l,m,j.ext e,u,y,λE H2 g x2 r2 q=>?_⟩;exact⟨g,m,[p,l,d],w,_,.cons (s.ext x2) (.cons r2 (.cons ((B.ext e).ext x2) .nil)),q,x,λt h n z=>hc σ t h ((e.trans x2).trans n) (((j.ext e).ext x2).ext n) z⟩
def dD(m:FE)(g:FG):FS:=λr S=>(m r S).bind λp=>(g p.1 r p.2).bind λq=>wq (.nx,q.1,q.2)
def rg{K:Fg1}{m:FE}{g:FG}{E:jN}{σ:L2.St}{H:Hp}(h:vR K (dD m g) E σ H):zh (tM K m) (Ie K g) E σ H:=by
 obtain⟨r,mu,S,f,s,t,e,n,a,hc⟩:=h;obtain⟨⟨j,i⟩,p,a⟩:=oB1.mp a;obtain⟨⟨r2,q⟩,l,a⟩:=oB1.mp a;cases a;refine⟨r,mu,S,j,i,e,n,p,λu H1 mu1 d k o=>?_⟩;exact⟨r,mu1,i,j,_,_,e.ext d,o,k,l,λc H2 b x2=>hc c H2 b (d.trans x2)⟩
def Gp{tg e:Expr}{m:FE}{g:FG}(he:ME X e m)(hg:MG X tg g)(hs:swapsWithSole [tg] e pos.line X.env=pure ah:=by rfl)(hw:swappedStores [tg] e X.env=pure aj:=by rfl)(h1:(assignEach [tg] X.env).map (·.2)=[assign tg X.env]:=by rfl):MS X (.Assign [tg] e pos) (dD m g):=iS (FD he hg hs hw h1) λ_ _ _=>rg
def Gm(i:Nat){x:Str}{e:Expr}{m:FE}{pos':Pos}(hN:X.N.Nodup)(hi:X.N[i]? = some x)(hx:yr X.env.scope x)(he:ME X e m)(hs:swapsWith e (some (.Name x pos')) pos.line X.env=pure false:=by rfl)(hf:X.fn x=true\/X.env.scope.names.lookup x=some .local:=by first | exact .inl rfl | exact .inr rfl | assumption):
  MS X (.Assign [.Name x pos'] e pos) (dD m (gN i)):=iS (Fx hN hi hx he hs hf) λE σ H h=>by
 obtain⟨r,mu,S,d,q,h1,h2,b,j⟩:=rg h;refine⟨r,mu,S,d,q,h1,h2,b,λv H' mu' k g n=>?_⟩;obtain⟨r2,a,u,t,w,s,l,o,c,p,f⟩:=j v H' mu' k g n;cases p;exact f _ H' a (.refl _ _) (l.set c) o
def Ml(i:Nat)(f:FN)(m:FE):FS:=λr S=>match r[i]? with
 |some (wq d)=>(m r S).bind λp=>(f [d,p.1] p.2).bind λq=>wq (.nx,r.set i (wq q.1),q.2)
 |_=>aj
end
def ut(c:FT)(b:FS):Nat->FS
 |0=>λ_ _=>aj
 | n+1=>fun r S=>(c r S).bind fun p=>if p.1=true then (b r p.2).bind fun q=>match q.1 with
   | .nx=>ut c b n q.2.1 q.2.2
   | .ct=>ut c b n q.2.1 q.2.2
   | .bk=>wq (.nx,q.2.1,q.2.2)
   | .rt d=>wq (.rt d,q.2.1,q.2.2)
  else wq (.nx,r,p.2)
def E1{K:Fg1}{c:FT}{b:FS}{n:Nat}{E:jN}{σ:L2.St}{H:Hp}(h:vR K (ut c b n) E σ H):zd (B4 K c) (vR K b) E σ H:=by
 refine⟨λm a H'=>vR K (ut c b m) E a H',⟨n,h⟩,λm s H1 q=>?_⟩;obtain⟨r,mu,S,f,w,C,t,D,i,hc⟩:=q;cases m with
 |zero=>cases i
 |succ m=>
  obtain⟨⟨k,z⟩,G,i⟩:=oB1.mp i;refine⟨r,mu,S,k,z,t,D,G,λH2 e x2 u=>?_⟩;cases k with
  |false=>
   cases i;exact hc s H2 e x2 (t.ext x2) u
  |true=>
   obtain⟨⟨A,o,p⟩,F,i⟩:=oB1.mp i;have B:∀{a H' mu'},Ext e mu' H2 H'->fD K H' mu' o a->Sim K H' mu' p->ut c b m o p=wq (f,w,C)->vR K (ut c b m) E a H':=λ{a H' mu'} x g l i=>by
    refine⟨o,mu',p,f,w,C,g,l,i,?_⟩;cases f with
    |nx=>exact λj H2 e y=>hc j H2 e ((x2.trans x).trans y)
    |bk=>exact λj H2 e y=>hc j H2 e ((x2.trans x).trans y)
    |ct=>exact λj H2 e y=>hc j H2 e ((x2.trans x).trans y)
    |rt d=>exact λv H2 e y=>hc v H2 e ((x2.trans x).trans y)
   refine⟨λa H'=>vR K (ut c b m) E a H',λa H' q=>⟨m,br _,q⟩,r,e,z,A,o,p,t.ext x2,u,F,?_⟩;cases A with
   |nx=>exact λa H' mu' x g l=>B x g l i
   |ct=>exact λa H' mu' x g l=>B x g l i
   |bk=>cases i;exact λa H' mu' x g l=>hc a H' mu' (x2.trans x) g l
   |rt d=>cases i;exact λv H' mu' x o l=>hc v H' mu' (x2.trans x) o l
def Am{X:Cx}{pos:Pos}(n:Nat){c:Expr}{a:List df}{t:FT}{b:FS}(hp:PassesOwn (model X.prog X.w) X.A X.env X.xe)(hc:MT X c t)(hb:yq X a b):MS X (.While c a [] pos) (ut t b n):=
 iS (zF hp hc hb) λ_ _ _=>E1
structure yt where
 items:List D
 chk:List (Nat×List D)
def oY(S:Sto):List (Nat×List D)->Bool
 |[]=>ai
 | (n,xs)::c=>(match S[n]? with
   |some (.lst ys)=>D.sames ys xs
   |_=>ah)&&oY S c
def Lr(K:Fg1)(j:It)(J:yt)(mu:List cZ)(H:Hp):Prop:=∀i H1 mu1 S1,sy mu mu1 H H1->Sim K H1 mu1 S1->oY S1 J.chk=ai ->
 (∀d,J.items[i]?=wq d->j.go i H1 /\ ∀x H2,j.yld i H1 x H2->Ext mu1 mu1 H1 H2/\Sim K H2 mu1 S1/\eQ K H2 mu1 d x)/\(J.items.length<=i->j.stop i H1)
abbrev FI:=Ev->Sto->Option (yt×Sto)
inductive KA (K:Fg1)(m:FI)(σ:L2.St)(H:Hp)(R:It->Hp->Prop):Prop
 |mk (r:Ev) (mu:List cZ) (S:Sto) (J:yt) (S':Sto) (he:fD K H mu r σ) (hs:Sim K H mu S) (hm:m r S=some (J,S')) (hc:∀j H' mu',Ext mu mu' H H'->Lr K j J mu' H'->Sim K H' mu' S'->R j H')
abbrev MI(X:Cx)(tg iter:Expr)(m:FI):Prop:=PI X tg iter (KA X.K m)
def nP{X:Cx}{tg e:Expr}{t t':TI}(h:PI X tg e t)(i:∀ σ H R,t' σ H R->t σ H R):PI X tg e t':=λpins s σ H R I q=>h pins s σ H R I (i σ H R q)
def IG{X:Cx}{tg e:Expr}{t t':TI}(h:PI X tg e t)(h':PI X tg e t'):PI X tg e (fun σ H R=>t σ H R\/t' σ H R):=λpins s σ H R I q=>q.elim (h pins s σ H R I) (h' pins s σ H R I)
def jb(c:List (Nat×List D))(g:FG)(b:FS):List D->FS
 |[]=>λr S=>if oY S c=ai then wq (.nx,r,S)else aj
 | d::ds=>fun r S=>if oY S c=true then (g d r S).bind fun p=>(b p.1 p.2).bind fun q=>match q.1 with
   | .nx=>jb c g b ds q.2.1 q.2.2
   | .ct=>jb c g b ds q.2.1 q.2.2
   | .bk=>wq (.nx,q.2.1,q.2.2)
   | .rt v=>wq (.rt v,q.2.1,q.2.2)
  else aj
def eT(m:FI)(g:FG)(b:FS):FS:=λr S=>(m r S).bind λp=>jb p.1.chk g b p.1.items r p.2
def mH{α:Type}{l:List α}{i:Nat}{d:α}{ds:List α}(h:l.drop i=d::ds):l[i]?=wq d/\l.drop (i+1)=ds:=by
 have h1:l[i]?=wq d:=by
  have:=congrArg (·[0]?) h;simpa using this
 refine⟨h1,?_⟩;rw[<- List.drop_drop,h];rfl
inductive Ln (K:Fg1)(mu1:List cZ)(H1:Hp)(c:List (Nat×List D))(g:FG)(b:FS)(f:Fl)(r':Ev)(S':Sto)(L:List D)(σ':L2.St)(H':Hp):Prop
 |mk (r2:Ev) (mu2:List cZ) (S2:Sto):Ext mu1 mu2 H1 H'->fD K H' mu2 r2 σ'->Sim K H' mu2 S2->jb c g b L r2 S2=some (f,r',S')->Ln K mu1 H1 c g b f r' S' L σ' H'
def Dc{K:Fg1}{m:FI}{g:FG}{b:FS}{E:jN}{σ:L2.St}{H:Hp}(h:vR K (eT m g b) E σ H):Ig (KA K m) (Ie K g) (vR K b) E σ H:=by
 obtain⟨r,mu,S,f,N,U,R,V,D,hc⟩:=h;obtain⟨⟨J,O⟩,e1,D⟩:=oB1.mp D;refine⟨r,mu,S,J,O,R,V,e1,λj H1 mu1 z T s1=>?_⟩;refine⟨λi k s H'=>k=(J.items.drop i).length/\Ln K mu1 H1 J.chk g b f N U (J.items.drop i) s H',⟨_,ag,r,mu1,O,.refl _ _,R.ext z,s1,D⟩,?_⟩;rintro i k F H2 ⟨rfl,r2,l,S2,x2,q,C,a⟩;cases hl:J.items.drop i with
 |nil=>
  left;rw[hl]at a;rw[jb]at a;dsimp only at a;split at a
  ·rename_i ok;cases a;refine⟨(T i H2 l _ x2.w C ok).2 (List.drop_eq_nil_iff.mp hl),?_⟩;exact hc F H2 l (z.trans x2) q C
  ·cases a
 |cons d ds=>
  right;rw[hl]at a;obtain⟨hi,L⟩:=mH hl;rw[jb]at a;dsimp only at a;split at a
  ·rename_i ok;obtain⟨⟨P,M⟩,e3,a⟩:=oB1.mp a;obtain⟨⟨Q,G,A⟩,W,a⟩:=oB1.mp a;obtain⟨go,yl⟩:=(T i H2 l _ x2.w C ok).1 d hi;refine⟨go,Ln K mu1 H1 J.chk g b f N U ds,?_,λx Z y=>?_⟩
   ·intro s H' h5;exact⟨ds.length,br _,(congrArg List.length L).symm,L.symm ▸ h5⟩
   ·obtain⟨t,s3,X⟩:=yl x Z y;refine⟨r2,l,S2,d,P,M,q.ext t,s3,X,e3,fun σ4 H4 I w B Y=>?_⟩;refine⟨P,I,M,Q,G,A,B,Y,W,?_⟩;cases Q with
    |nx=>exact λn u c o e p=>⟨G,c,A,(x2.trans t).trans (w.trans o),e,p,a⟩
    |ct=>exact λn u c o e p=>⟨G,c,A,(x2.trans t).trans (w.trans o),e,p,a⟩
    |bk=>cases a;exact λn u c o e p=>hc n u c ((z.trans x2).trans (t.trans (w.trans o))) e p
    |rt v=>cases a;exact λv5 u c o r5 p=>hc v5 u c ((z.trans x2).trans (t.trans (w.trans o))) r5 p
  ·cases a
def Go{X:Cx}{pos:Pos}{tg iter:Expr}{a:List df}{m:FI}{g:FG}{b:FS}(hp:PassesOwn (model X.prog X.w) X.A X.env X.xe)(hc:X.calm=ai)(hi:MI X tg iter m)(hg:MG X tg g)(hb:yq X a b)(hs:∀x,foldedSetIterable iter X.env x=pure x:=by intro _;rfl):MS X (.For tg iter a [] pos) (eT m g b):=iS (FC hp hc hi hg hb hs) λ_ _ _=>Dc
def e9(n:Nat)(ds:List D):Ev:=ds.map wq++aI (n-ds.length) aj
def hZ(n:Nat)(b:FS):FN:=λds S=>(b (e9 n ds) S).bind λp=>match p.1 with
 | .rt d=>wq (d,p.2.2)
 | .nx=>wq (.non,p.2.2)
 |_=>aj
def xr{K:Fg1}{H:Hp}{mu:List cZ}{ds:List D}{vs:List V}(N:List Str)(h:dB K H mu ds vs):fD K H mu (e9 N.length ds) (L2.jl N vs):=by
 refine⟨?_,λi d e=>?_⟩
 ·unfold e9 L2.jl;rw[lA1,lA1,lM1,lM1,lR1,lR1,h.length]
 ·unfold e9 at e;unfold L2.jl;by_cases hi:i<ds.length
  ·rw[gL1 (by rw[lM1];exact hi),gP1]at e;obtain⟨f,c,a⟩:=oM1.mp e;cases a;obtain⟨v,b,r⟩:=h.get c;refine⟨v,?_,r⟩;rw[gL1 (by rw[lM1,<- h.length];exact hi),gP1,b];rfl
  ·rw[gR1 (by rw[lM1];lia)]at e;have:=gM1 e;rw[bt]at this;cases this.2
def JC{P:c0}{w:c6}{K:Fg1}{mg:Str->Option cX}{base:db}{x c:Str}{st:df}{f:cZ}{fd:de}{N ps:List Str}{k:Nat}{b:FS}(F:xc K x c st f fd)(S:gw N ps (dH st))(i:∀(e:cX) (A:c5) (a:List Env) (s:cY) (H:Hp) (E:XK),fC k (A.deeper (envOfC c (dH st) s.heap.objs.size f e)) ->
   yq (mX ur P w K mg base N c (dH st) f e A a s H E).nox (ff st) b):jM P w K mg base ur (k+1) f fd ps (spM K ps.length (hZ N.length b)):=by
 refine xc.ok F S (λvs H Q E h=>h.1) λe A a s H vs Q E o j=>⟨_,i e A a s H E o,?_⟩;obtain⟨_,mu,St,ds,d,u,h1,h2,g,m⟩:=j;unfold hZ at g;obtain⟨⟨l,q,r⟩,p,g⟩:=oB1.mp g;refine⟨_,mu,St,l,q,r,xr N h1,h2,p,?_⟩;cases l with
 |nx=>cases g;exact λn H' mu' x t s=>m .non H' mu' x .non s
 |rt d=>cases g;exact m
 |bk=>cases g
 |ct=>cases g
def j6(cells:List (Str×cZ)):List (Str×NameKind)->List (Str×cZ)->Option (List (Str×cZ))
 |[],acc=>wq acc
 |(n,k)::r,acc=>if k == .free then(cells.lookup n).bind λc=>j6 cells r ((n,c)::acc)else j6 cells r acc
def vj{env:Env}(f:Str×NameKind->List (Str×cZ)->Sem (ForInStep (List (Str×cZ))))(hf:∀n k cs,f (n,k) cs=if k == .free then(do let c<-cellOf env n;pure (.yield ((n,c)::cs)))else pure (.yield cs)):
  ∀(a:List (Str×NameKind)) (b d:List (Str×cZ)),j6 env.cells a b=wq d->forIn a b f=(pure d:Sem (List (Str×cZ)))
 |[],b,d,h=>by cases h;rfl
 |(n,k)::r,b,d,h=>by
  rw[bu,hf];unfold j6 at h;split at h
  ·rename_i g;rw[if_pos g];obtain⟨c,e,h⟩:=oB1.mp h;have:cellOf env n=pure c:=by unfold cellOf;rw[e]
   rw[this,pure_bind,pure_bind];exact vj f hf r _ d h
  ·rename_i g;rw[if_neg g,pure_bind];exact vj f hf r _ d h
def Bk{scope:dg}{env:Env}{cl:List (Str×cZ)}(h:j6 env.cells scope.names []=wq cl):closureFor scope env=pure cl:=by
 simp only[closureFor];rw[vj (env:=env) _ (λn k cs=>by cases hk:k == NameKind.free<;>simp[hk]) scope.names [] cl h];rfl
def vi{a:List (Str×cZ)}:∀{d:List (Str×NameKind)} {b f:List (Str×cZ)},j6 a d b=wq f->(∀x c,b.lookup x=wq c->a.lookup x=wq c) -> ∀x c,f.lookup x=wq c->a.lookup x=wq c
 |[],b,f,h,ha=>by cases h;exact ha
 |(n,k)::r,b,f,h,ha=>by
  unfold j6 at h;split at h
  ·obtain⟨c,e,h⟩:=oB1.mp h;refine vi h λx i q=>?_;rw[bv]at q;split at q
   ·rename_i g;cases q;rw[beq_iff_eq.mp g];exact e
   ·exact ha x i q
  ·exact vi h ha
def nh{d:List (Str×cZ)}{x:Str}:∀{a:List (Str×NameKind)} {b f:List (Str×cZ)},j6 d a b=wq f->(a.lookup x=wq .free\/(b.lookup x).isSome=ai)->(f.lookup x).isSome=ai
 |[],b,f,h,ha=>by
  cases h;rcases ha with q|q
  ·cases q
  ·exact q
 |(n,k)::r,b,f,h,ha=>by
  unfold j6 at h;split at h
  ·obtain⟨c,e,h⟩:=oB1.mp h;refine nh h ?_;rcases ha with q|q
   ·rw[bv]at q;split at q
    ·rename_i g;right;rw[bv,g];rfl
    ·exact .inl q
   ·right;rw[bv];split
    ·rfl
    ·exact q
  ·rename_i i;refine nh h ?_;rcases ha with q|q
   ·rw[bv]at q;split at q
    ·cases q;exact absurd ag i
    ·exact .inl q
   ·exact .inr q
def gv{x:Str}{c:cZ}:∀{a:List (Str×NameKind)} {n:Nat} {acc:List (Str×cZ)},(cellsFrom n a acc).lookup x=wq c->(n<=c/\(x,c)∈cellsFrom n a [])\/acc.lookup x=wq c
 |[],_,_,h=>.inr h
 |(y,k)::r,n,acc,h=>by
  unfold cellsFrom at h ⊢;split at h
  ·rename_i b;rw [if_pos b];have app:∀ (a:List (Str×NameKind)) (m:Nat) (acc:List (Str×cZ)),cellsFrom m a acc=cellsFrom m a []++acc:=by
    intro a
    induction a with
    |nil=>intro m acc;rfl
    |cons p r ih=>
     obtain⟨z,q⟩:=p;intro m acc;unfold cellsFrom;split
     ·rw[ih _ ((z,m)::acc),ih _ [(z,m)],bw];rfl
     ·exact ih m acc
   rcases gv h with⟨h1,h2⟩|h1
   ·refine .inl ⟨by lia,?_⟩;rw[app];exact az _ h2
   ·rw[bv]at h1;split at h1
    ·rename_i d;cases h1;refine .inl ⟨nR1 _,?_⟩;rw[app,beq_iff_eq.mp d];exact mA1 _ mS1
    ·exact .inr h1
  ·rename_i b;rw[if_neg b];exact gv h
def pa{x:Str}{c:cZ}{n:Nat}{acc:List (Str×cZ)}{a:List (Str×NameKind)}(hx:a.lookup x=wq .cell)(h:(cellsFrom n a acc).lookup x=wq c):n<=c:=by
 have app:∀(a:List (Str×NameKind)) (m:Nat) (acc:List (Str×cZ)),cellsFrom m a acc=cellsFrom m a []++acc:=by
  intro a
  induction a with
  |nil=>intro m acc;rfl
  |cons p r ih=>
   obtain⟨z,q⟩:=p;intro m acc;unfold cellsFrom;split
   ·rw[ih _ ((z,m)::acc),ih _ [(z,m)],bw];rfl
   ·exact ih m acc
 rw[app,List.lookup_append]at h;have q:=PySem.W.cellsFrom_some a n [] (.inl hx);obtain⟨b,e⟩:=aJ.mp q;rw[e]at h;cases h;rcases gv e with⟨h1,_⟩|h1
 ·exact h1
 ·cases h1
def ke {M:Model}{A:c5}{E:cX->cY->Prop}{s:cY}{scope:dg}{globals:cZ}{c:List (Str×cZ)}{qual:Str}{func:Option cZ}{code:cX}{env:Env}{b:cZ}{Q:Env->cY->Prop}
  (d:Q {scope,locals:=s.heap.objs.size,globals,cells:=cellsFrom (s.heap.objs.size+1) scope.names c,qual,func,code:=env.code,frame:=env.frame,builtins:=env.builtins}
   {s with heap:=pushCells (s.heap.push {cls:=.type "dict",data:=.dict #[]}) scope.names}):
  da M A (newFunctionEnv scope globals c [] qual func code (wq env) b) Q E s:=by
 simp only[newFunctionEnv,Option.isSome_some,if_true];refine wB1 (wpAny_alloc ?_);refine wB1 (wpAny_layCells _ (λname a cells=>by cases hkc:a == NameKind.cell<;>simp[hkc]) _ _ _ _ ?_);rw[show({s with heap:=s.heap.push {cls:=.type "dict",data:=.dict #[]}}:cY).heap.objs.size=s.heap.objs.size+1 from hZ1 ..];refine wB1 ?_;rw[List.forIn_nil];exact wP1 (wP1 d)
def cxC(X:Cx)(scope:dg)(cl:List (Str×cZ))(T:List Str)(keep:List Nat)(s:cY)(H:Hp)(fp:List cZ):Cx where
 prog:=X.prog
 w:=X.w
 K:=X.K
 mg:=X.mg
 base:=X.base
 A:=X.A
 N:=T++keep.map λi=>X.N.getD i (Str.ofString "")
 s₀:=s
 H₀:=H
 env:=compEnvC scope (cellsFrom (s.heap.objs.size+1) scope.names cl) s.heap.objs.size X.env
 outer:=X.stack
 stack:=X.stack
 ex:=fp
 fn:=λx=>scope.names.lookup x == wq .cell
 calm:=X.calm
 pn:=[]
 xe:=λ_ _=>False
def rq(k:Nat)(keep:List Nat)(σ:L2.St):L2.St:=aI k aj++keep.map λi=>(σ[i]?).join
def jw{env:Env}{x:Str}:∀ {a:List (Str×NameKind)},
  (a.map λ(n,k)=>if(k == NameKind.free&&env.scope.kind == .function&&env.kindOf n == wq .cell)then(n,NameKind.cell)else(n,k)).lookup x =
   (a.lookup x).map λk=>if(k == NameKind.free&&env.scope.kind == .function&&env.kindOf x == wq .cell)then NameKind.cell else k
 |[]=>rfl
 |(n,k)::r=>by
  show List.lookup x ((if(k == NameKind.free&&env.scope.kind == .function&&env.kindOf n == wq .cell)=ai then(n,NameKind.cell)else(n,k))::_)=_;cases hx:x == n with
  |true=>
   have e:=beq_iff_eq.mp hx;subst e;by_cases hc:(k == NameKind.free&&env.scope.kind == .function&&env.kindOf x == wq .cell)=ai
   ·rw[if_pos hc,bv,hx,bv,hx];simp only[oP1,if_pos hc]
   ·rw[if_neg hc,bv,hx,bv,hx];simp only[oP1,if_neg hc]
  |false=>
   have ih:=@jw env x r;by_cases hc:(k == NameKind.free&&env.scope.kind == .function&&env.kindOf n == wq .cell)=ai
   ·rw[if_pos hc,bv,hx,bv,hx];exact ih
   ·rw[if_neg hc,bv,hx,bv,hx];exact ih
structure J9 (X:Cx)(scope:dg)(T:List Str)(keep:List Nat):Prop where
 kind:scope.kind = .function
 names:∀x∈scope.names,x.2 = .local->scope.names.lookup x.1=some .local
 free:∀i∈keep,∃x,X.N[i]?=some x/\scope.names.lookup x=some .free/\(X.env.kindOf x=some .cell\/X.env.kindOf x=some .free)/\(x,NameKind.cell)∉scope.names
def tQ{X:Cx}{pins:List (cZ×Obj)}{σ:L2.St}{H:Hp}{s:cY}{scope:dg}{w:List (Str×cZ)}{T:List Str}{keep:List Nat}{D:List cZ}(I:Inv X pins σ H s)(C:J9 X scope T keep)(A:j6 X.env.cells scope.names []=some w)(hf:∀b∈D,j7 X pins H b)(M:∀b∈D,∃o,s.heap.get? b=some o):
  Inv (cxC X scope w T keep s H D) [] (rq T.length keep σ) H {s with heap:=pushCells (s.heap.push {cls:=.type "dict",data:=.dict #[]}) scope.names}:=by
 have kept:∀b o,s.heap.get? b=wq o->(pushCells (s.heap.push {cls:=.type "dict",data:=.dict #[]}) scope.names).get? b=wq o:=λb o e=>pushCells_keeps _ _ b o (hP1 _ e);have B:=cellsFrom_ok scope.names (s.heap.push {cls:=.type "dict",data:=.dict #[]}) (s.heap.objs.size+1) [] ⟨λ_ _ Z=>(nomatch Z),List.Pairwise.nil⟩ (by rw[hZ1];exact nR1 _);rw[hZ1]at B;have G:=vi A (λx c q=>by cases q)
 -- a cell of the block: its own or an elder one
 have d:∀x c,(cellsFrom (s.heap.objs.size+1) scope.names w).lookup x=wq c->(s.heap.objs.size+1<=c/\(x,c)∈cellsFrom (s.heap.objs.size+1) scope.names [])\/X.env.cells.lookup x=wq c:=λx c h=>by
  rcases gv h with h1|h1
  ·exact .inl h1
  ·exact .inr (G x c h1)
 have g:∀x c,X.env.cells.lookup x=wq c->c<s.heap.objs.size:=λx c e=>by
  obtain⟨v,z⟩:=I.cell x c e;exact z.lt
 have t:∀b∈D,b<s.heap.objs.size:=λb l=>by
  obtain⟨o,e⟩:=M b l;exact hL1 e
 have fst:∀b∈D,b∉frs X.stack:=λb l z=>by
  rcases aw.mp (I.stkSub b z)with q|q
  ·exact(hf b l).2.1 q
  ·exact(hf b l).2.2.1 q
 have kindOf:∀x,(cxC X scope w T keep s H D).env.kindOf x=(scope.names.lookup x).map λk=>if(k == NameKind.free&&X.env.scope.kind == .function&&X.env.kindOf x == wq .cell)then NameKind.cell else k:=λx=>jw
 refine⟨⟨I.ok.mod,C.kind,I.ok.glob,I.ok.blt,nR1 _,λx y c h1 h2=>?_,λx E=>?_,λx c h1 h2=>?_,I.ok.hd,I.ok.frames,.inl ag,λb l=>⟨nN1 (t b l),λx c h z=>?_⟩,λb o e=>I.bs b o e,au I.ok.bsz I.sz,λb o e l=>?_,fst,I.stack,I.stkFree⟩,
  rfl,I.bare,Un.kept kept,⟨λ_=>aj,(Heap.Ns.new s.heap (.type "dict")).keeps (pushCells_keeps _ _),λi x v h1 h2 h3=>?_⟩,λx c h=>?_,I.hok.fresh (nR1 _),λx c h=>?_,λp Y=>absurd (show p∈([]:List (cZ×Obj))from Y) (by simp),I.hok.kept kept,?_⟩
 ·rcases d x c h1 with⟨a1,a2⟩|a1<;>rcases d y c h2 with⟨b1,b2⟩|b1
  ·exact name_of_addr B.apart a2 b2
  ·exact absurd (bx (bA a1) (g y c b1)) (ap _)
  ·exact absurd (bx (bA b1) (g x c a1)) (ap _)
  ·exact I.ok.inj x y c a1 b1
 ·have L:scope.names.lookup x=some .cell\/scope.names.lookup x=some .free:=by
   rw[kindOf x]at E;cases e:scope.names.lookup x with
   |none=>rw[e]at E;rcases E with z|z<;>cases z
   |some k=>
    rw[e]at E;simp only[oP1]at E;cases k<;>simp_all
  have:((cellsFrom (s.heap.objs.size+1) scope.names w).lookup x).isSome=ai:=by
   rcases L with z|z
   ·exact PySem.W.cellsFrom_some _ _ _ (.inl z)
   ·exact PySem.W.cellsFrom_some _ _ _ (.inr (nh A (.inl z)))
  exact aJ.mp this
 ·have f:scope.names.lookup x=wq .cell:=by simpa[cxC]using h1
  have:=pa f h2;exact au (aQ _) this
 ·subst z;rcases d x c h with⟨a1,_⟩|a1
  ·exact absurd (bx (bA a1) (t c l)) (ap _)
  ·exact(hf c l).2.2.2.2.1 x c a1 ag
 ·rcases(hf b l).2.2.2.1 with z|z
  ·exact I.ok.noex b o e z
  ·exact absurd (nL1 (hL1 e) (au I.ok.bsz z)) (ap _)
 ·-- a name of the block that has a value:one of the outer text's
  have hi:T.length<=i:=by
   refine Nat.le_of_not_lt λhi=>?_;unfold rq at h2;rw[gL1 (by rw[lR1];exact hi),aL]at h2;split at h2<;>cases h2
  unfold rq at h2;rw[gR1 (by rw[lR1];exact hi),lR1,gP1]at h2;obtain⟨j,P,h2⟩:=oM1.mp h2;have f:X.N.getD j (Str.ofString "")=x:=by
   have f:(T++keep.map λi=>X.N.getD i (Str.ofString ""))[i]?=wq x:=h1;rw[gR1 hi,gP1,P]at f;exact Option.some.inj f
  obtain⟨y,N,R,O,ny⟩:=C.free j (gM1 P);have K:y=x:=by rw[<- f,bB,N];rfl
  subst K;have J:σ[j]?=wq (wq v):=by
   cases e:σ[j]? with
   |none=>rw[e]at h2;cases h2
   |some o=>rw[e]at h2;cases h2;rfl
  obtain⟨m,hn,V⟩:=I.loc;obtain⟨u,U,W⟩:=V j y v N J (by
   rcases O with z|z
   ·exact .inr (.inl z)
   ·exact .inr (.inr z))
  refine⟨u,U,?_⟩;rcases W with⟨z,_⟩|⟨_,c,ec,S⟩
  ·rcases O with q|q<;>(rw[z]at q;cases q)
  ·right;refine⟨?_,c,?_,S.keeps kept⟩
   ·rw[kindOf,R];simp only[oP1];split
    ·exact .inl ag
    ·exact .inr ag
   ·obtain⟨c',e'⟩:=aJ.mp (PySem.W.cellsFrom_some scope.names (s.heap.objs.size+1) w (.inr (nh A (.inl R))):((cellsFrom (s.heap.objs.size+1) scope.names w).lookup y).isSome=ai);have Q:(cellsFrom (s.heap.objs.size+1) scope.names w).lookup y=wq c':=e';rcases d y c' Q with⟨a1,a2⟩|a1
    ·-- an own cell of that name:its kind would be cell
     exfalso;have:∀(names:List (Str×NameKind)) (n:Nat),(y,c')∈cellsFrom n names []->(y,NameKind.cell)∈names:=by
      have app:∀(names:List (Str×NameKind)) (m:Nat) (acc:List (Str×cZ)),cellsFrom m names acc=cellsFrom m names []++acc:=by
       intro names
       induction names with
       |nil=>intro m acc;rfl
       |cons p r ih=>
        obtain⟨z,q⟩:=p;intro m acc;unfold cellsFrom;split
        ·rw[ih _ ((z,m)::acc),ih _ [(z,m)],bw];rfl
        ·exact ih m acc
      intro names
      induction names with
      |nil=>intro n h;cases h
      |cons p r ih=>
       obtain⟨z,q⟩:=p;intro n h;unfold cellsFrom at h;split at h
       ·rename_i hq;rw[app]at h;rcases ay.mp h with h|h
        ·exact mC1 _ (ih _ h)
        ·have:(y,c')=(z,n):=by simpa using h
         cases this;have F:q=NameKind.cell:=by simpa using hq
         subst F;exact mS1
       ·exact mC1 _ (ih _ h)
     exact ny (this _ _ a2)
    ·rw[ec]at a1;cases a1;exact Q
 ·rcases d x c h with⟨a1,a2⟩|a1
  ·exact⟨_,(B.empty x c a2).1⟩
  ·obtain⟨v,z⟩:=I.cell x c a1;exact⟨v,z.keeps kept⟩
 ·rcases d x c h with⟨a1,a2⟩|a1
  ·exact I.hok.fresh (bA a1)
  ·exact I.freeC x c a1
 ·show(rq T.length keep σ).length=(T++keep.map λi=>X.N.getD i (Str.ofString "")).length;unfold rq;rw[lA1,lA1,lR1,lM1,lM1]
def sH(p:Pos)(tg:Expr)(ifs:List Expr)(it:cX)(env:Env)(emit:Sem Unit)(c:Code):Sem PySem.Fin:=do
 standAt p
 match<-pyNext it with
 |none=>pure (.done .next)
 |some v=>
  letOwnedTupleGo tg it v
  assign tg env v
  let mut ok:=ai
  for c in ifs do
   if ok then ok<-isTrue c env (eval c env)
  if ok then emit
  again c
def t3(elt:Expr)(acc:cX)(env:Env):Sem Unit:=do let _<-call (.builtin "list.append") [acc,<- eval elt env]
def yZ(elt tg iter:Expr)(ifs:List Expr)(scope:dg)(pos:Pos)(it a:cX)(env:Env):
  compTurn (.ListComp elt [⟨tg,iter,ifs,0⟩] scope pos) 0 it a env=sH iter.pos tg ifs it env (t3 elt a env) (.compLoop (.ListComp elt [⟨tg,iter,ifs,0⟩] scope pos) 0 it a env):=by rfl
def pd(X:Cx)(ifs:List Expr)(t:TT):Prop:=
 ∀(pins:List (cZ×Obj)) (s:cY) (σ:L2.St) (H:Hp) (Q:Bool->Hp->Prop),Inv X pins σ H s->t σ H Q ->
  da (model X.prog X.w) X.A (forIn ifs ai λc r=>if r=ai then do let ok<-isTrue c X.env (eval c X.env);pure (ForInStep.yield ok)else pure (ForInStep.yield r)) (TP X pins σ Q) X.xe s
def zJ{X:Cx}:pd X [] (fun σ H Q=>Q ai H):=λpins s σ H Q I h=>wpAny_tests_nil ⟨H,I,h⟩
def zI{X:Cx}{c:Expr}{t:TT}(h:PT X c t):pd X [c] t:=λpins s σ H Q I q=>wpAny_tests_one (h pins s σ H Q I q)
def PU(X:Cx)(m:Sem Unit)(t:TS):Prop:=
 ∀(pins:List (cZ×Obj)) (s:cY) (σ:L2.St) (H:Hp) (E:jN),Inv X pins σ H s->t E σ H->da (model X.prog X.w) X.A m (λ_ s'=>∃ σ' H',Inv X pins σ' H' s'/\E.nx σ' H') X.xe s
def pS{X:Cx}(hx:X.xe=fun _ _=>False)(hc:X.calm=true){elt:Expr}{c:List Comprehension}{scope:dg}{pos p:Pos}{d:Nat}{tg:Expr}{ifs:List Expr}{l:cX}{emit:Sem Unit}{J:It}{A:List cZ}{it:cZ}{O:Nat->db->Prop}{g:TG}{Z:TT}{tb:TS}(eq:compTurn (.ListComp elt c scope pos) d (.ref it) l X.env=sH p tg ifs (.ref it) X.env emit (.compLoop (.ListComp elt c scope pos) d (.ref it) l X.env))(T:vx X.prog X.w X.K tg J A it O)(hg:PG X tg g)(hi:pd X ifs Z)(he:PU X emit tb){pins:List (cZ×Obj)}{s:cY}{σ:L2.St}{H:Hp}{D:jN}(I:Inv X pins σ H s)(st:O 0 s.heap)(Y:∀b∈A,j7 X pins H b)(h:∃W:Nat->Nat->L2.St->Hp->Prop,(∃m,W 0 m σ H) /\ ∀i m σ H,W i m σ H ->
   (J.stop i H/\D.nx σ H)\/(J.go i H /\ ∃N:L2.St->Hp->Prop,(∀a H',N a H' -> ∃P,P<m/\W (i+1) P a H') /\ ∀x H',J.yld i H x H'->g x σ H' λz H2=>Z z H2 λb v=>if b=ai then tb {D with nx:=N} z v else N z v)):
  codeAny (model X.prog X.w) X.A (.compLoop (.ListComp elt c scope pos) d (.ref it) l X.env) (λr s'=>match r with | .ok _=>∃a H',Inv X pins a H' s'/\D.nx a H' | .error _=>False) s:=by
 obtain⟨W,⟨m0,w0⟩,L⟩:=h;have j:∀{H':Hp},(∀b∈A,H' b=aj) -> ∀b∈A,j7 X pins H' b:=λhn b t=>⟨hn b t,(Y b t).2⟩;refine codeAny_loop ag (λn s'=>∃i a H',Inv X pins a H' s'/\O i s'.heap/\(∀b∈A,H' b=aj)/\W i n a H') ?_ m0 ⟨0,σ,H,I,st,λb t=>(Y b t).1,w0⟩;rintro n U ⟨i,f,v,I3,M,G,w3⟩;show da _ _ ((compTurn (.ListComp elt c scope pos) d (.ref it) l X.env).onRaise (λx=>do noteFrame x X.env;theTreesLotGoes x)) _ _ U;refine wpAny_noted ?_;rw[eq];have no:∀{α:Type} {m:Sem α} {Q:α->cY->Prop} {s:cY} {E:cX->cY->Prop},da (model X.prog X.w) X.A m Q X.xe s->da (model X.prog X.w) X.A m Q E s:=λh=>by
  rw[hx]at h;exact wpAny_mono h (λ_ _ q=>q) λ_ _ q=>q.elim
 unfold sH;refine wB1 (wpAny_standAt (wB1 ?_));rcases L i n f v w3 with⟨F,qn⟩|⟨go,N,hN,step⟩
 ·refine no (eR (T.done X ag ag ag hc i pins U f v X.xe I3 (j G) M F) λr s4 ⟨V,I4⟩=>?_);subst V;exact wP1 ⟨f,v,I4,qn⟩
 ·refine no (eR (T.item X rfl rfl rfl hc i pins U f v X.xe I3 (j G) M go) fun r s4 ⟨u,V,h4⟩=>?_);subst V;refine wB1 (no (eR h4 fun _ s5 ⟨x,H5,I5,r5,y5,w,R⟩=>?_));have S:=I5.pinned (j R) (T.obj _ _ w);refine wB1 (no (eR (hg _ s5 f H5 x u _ S r5 (step x H5 y5)) fun _ s6 ⟨K,H6,I6,q6⟩=>?_));refine wB1 (no (eR (hi _ s6 K H6 _ I6 q6) fun ok C ⟨y,B,q7⟩=>?_));have again':∀ {k:L2.St} {y:Hp} {C:cY},Inv X (pins++nO A s5.heap) k y C->N k y -> ∃ m,m<n /\ ∃ i a H',Inv X pins a H' C/\O i C.heap/\(∀ b∈A,H' b=none)/\W i m a H':=fun {k y C} B n7=>by
   obtain⟨P,hm,w7⟩:=hN k y n7;refine⟨P,hm,i+1,k,y,B.unpinned,T.keep _ _ _ w λb t o e=>(B.pin (b,o) (mA1 _ (mA1 _ (iV t e)))).1,λb t=>?_,w7⟩;obtain⟨o,e,d⟩:=T.obj _ _ w b t;exact(B.pin (b,o) (mA1 _ (mA1 _ (iV t e)))).2.1
  cases ok with
  |false=>exact wP1 ⟨ag,again' B q7⟩
  |true=>exact wB1 (no (eR (he _ C K y _ B q7) λ_ s8 ⟨σ8,H8,I8,q8⟩=>wP1 ⟨ag,again' I8 q8⟩))
def vS(p:cZ)(te:TE):TS:=λD σ H=>te σ H λx H1=>∃xs,H1 p=wq (.lst xs)/\xs.length<c9/\D.nx σ (upd H1 p (.lst (xs++[x])))
def wa{X:Cx}{elt:Expr}{te:TE}(h:PE X elt te)(p:cZ):PU X (t3 elt (.ref p) X.env) (vS p te):=by
 intro pins s σ H E I q;unfold t3;refine wB1 (eR (h pins s σ H _ I q) λu f ⟨x,H1,a,b,xs,e,g,d⟩=>?_);refine wB1 (eR (px pins f σ H1 (.ref p) [x] (.ref p) [u] (λ_ H'=>E.nx σ H') a ag (.cons b .nil) ⟨p,xs,x,ag,ag,e,g,d⟩) λ_ j ⟨_,H2,c,_,i⟩=>?_);exact wP1 ⟨σ,H2,c,i⟩
def Ei(J:It)(g:TG)(ti:TT)(tb:TS):TS:=λD σ H=>∃W:Nat->Nat->L2.St->Hp->Prop,(∃m,W 0 m σ H) /\ ∀i m σ H,W i m σ H ->
 (J.stop i H/\D.nx σ H)\/(J.go i H /\ ∃N:L2.St->Hp->Prop,(∀ σ' H',N σ' H' -> ∃m',m'<m/\W (i+1) m' σ' H') /\ ∀x H',J.yld i H x H'->g x σ H' fun σ2 H2=>ti σ2 H2 λb H3=>if b=ai then tb {D with nx:=N} σ2 H3 else N σ2 H3)
def Un.sameBut{fs ex:List cZ}{H H':Hp}{h h1 h2:db}{c:cZ}(u:Un fs ex H H' h h1)(hs:Heap.SameBut c h1 h2)(hc:h.get? c=aj):Un fs ex H H' h h2:=by
 have ne:∀{b o},h.get? b=wq o->b≠c:=λe z=>by rw[z,hc]at e;cases e
 refine⟨λb o e n d a=>(hs.2 b (ne e)).trans (u.keep b o e n d a),λb o e n d a=>?_,u.free,λb o e a=>?_,u.tups,u.frzs,u.tbls⟩
 ·obtain⟨f,q⟩:=u.slot b o e n d a;exact⟨f,(hs.2 b (ne e)).trans q⟩
 ·obtain⟨o',q⟩:=u.there b o e a;exact⟨o',(hs.2 b (ne e)).trans q⟩
def zf(k:Nat)(keep:List Nat)(wi:TI)(g:TG)(ti:TT)(tb:cZ->TS):TE:=fun σ H Q=>wi σ H λJ H1=>∀p,H1 p=aj ->
 Ei J g ti (tb p) {nx:=λ_ H'=>Q (.ref p) H',rt:=λ_ _=>False} (rq k keep σ) (upd H1 p (.lst []))
def CH{X:Cx}(hc:X.calm=true){elt tg iter:Expr}{ifs:List Expr}{rest:List Comprehension}{scope:dg}{pos:Pos}{T:List Str}{keep:List Nat}{l:List (Str×cZ)}{F:TI}{g:TG}{G:TT}{tb:cZ->TS}{emit:cX->Env->Sem Unit}(eq:∀it k i,compTurn (.ListComp elt (⟨tg,iter,ifs,0⟩::rest) scope pos) 0 it k i=sH iter.pos tg ifs it i (emit k i) (.compLoop (.ListComp elt (⟨tg,iter,ifs,0⟩::rest) scope pos) 0 it k i))(C:J9 X scope T keep)(t:j6 X.env.cells scope.names []=some l)(hi:PI X tg iter F)(hb:∀s H d p,PG (cxC X scope l T keep s H d) tg g/\pd (cxC X scope l T keep s H d) ifs G/\PU (cxC X scope l T keep s H d) (emit (.ref p) (cxC X scope l T keep s H d).env) (tb p))(hs:∀x,foldedSetIterable iter X.env x=pure x:=by intro _;rfl):
  PE X (.ListComp elt (⟨tg,iter,ifs,0⟩::rest) scope pos) (zf T.length keep F g G tb):=by
 intro pins s σ H Q I h;rw[eval_ListComp];refine wpAny_comprehension_free (use:=aj) ag hs (Bk t) C.kind C.names ?_;refine eR (hi pins s σ H _ I h) λv s1 h1=>eR h1 λO a h2=>?_;obtain⟨it,d,tn,J,H2,rfl,L,TT,y,E,R⟩:=h2;refine wO1 ?_;have K:Inv X pins σ (upd H2 a.heap.objs.size (.lst [])) {a with heap:=a.heap.push {cls:=.type "list",data:=.seq ([]:List cX).toArray}}:=L.lnew (t':=a.toks) .nil (aZ _);have old:∀b∈d,∃o,a.heap.get? b=wq o:=λb hb=>by
  obtain⟨o,e,_⟩:=TT.obj 0 a.heap y b hb;exact⟨o,e⟩
 have D:∀b∈d,b≠a.heap.objs.size:=λb hb z=>by
  obtain⟨o,e⟩:=old b hb;have:=hL1 e;rw[z]at this;exact ap _ this
 have B:∀b∈d,j7 X pins (upd H2 a.heap.objs.size (.lst [])) b:=λb hb=>⟨by rw[dL (D b hb)];exact(E b hb).1,(E b hb).2⟩;have o3:∀b∈d,∃o,({a with heap:=a.heap.push {cls:=.type "list",data:=.seq ([]:List cX).toArray}}:cY).heap.get? b=wq o:=λb hb=>by
  obtain⟨o,e⟩:=old b hb;exact⟨o,hP1 _ e⟩
 have A:=tQ K C t B o3;obtain⟨Y,P,he⟩:=hb {a with heap:=a.heap.push {cls:=.type "list",data:=.seq ([]:List cX).toArray}} (upd H2 a.heap.objs.size (.lst [])) d a.heap.objs.size;refine ke ?_;have f4:∀b∈d,j7 (cxC X scope l T keep {a with heap:=a.heap.push {cls:=.type "list",data:=.seq ([]:List cX).toArray}} (upd H2 a.heap.objs.size (.lst [])) d) [] (upd H2 a.heap.objs.size (.lst [])) b:=λb hb=>
  ⟨(B b hb).1,(A.ok.exf b hb).1,A.ok.exfs b hb,.inl hb,(A.ok.exf b hb).2,λp S=>absurd (show p∈([]:List (cZ×Obj))from S) (by simp)⟩
 have w:tn 0 (pushCells ((a.heap.push {cls:=.type "list",data:=.seq ([]:List cX).toArray}).push {cls:=.type "dict",data:=.dict #[]}) scope.names):=
  TT.keep 0 a.heap _ y λb hb o e=>pushCells_keeps scope.names _ b o (hP1 _ (hP1 _ e))
 have j:=pS (X:=cxC X scope l T keep {a with heap:=a.heap.push {cls:=.type "list",data:=.seq ([]:List cX).toArray}} (upd H2 a.heap.objs.size (.lst [])) d) ag hc (eq (.ref it) (.ref a.heap.objs.size) _) TT Y P he A w f4
  (R a.heap.objs.size (L.hok.fresh (nR1 _)))
 refine codeAny_mono (codeAny_compStart_list j (TT.self X.A 0 _ _ _ w j)) λr s' M=>?_;cases r with
 |error e=>exact M.elim
 |ok f=>
  obtain⟨W,H',n,V⟩:=M;obtain⟨m,Z,_⟩:=id n.loc;refine⟨m,Z,λh' u=>⟨.ref a.heap.objs.size,H',?_,ag,V⟩⟩;refine K.call' (s':={s' with heap:=h'}) (ch:=d) n.os (Un.sameBut n.base u (Heap.get?_none_of_le (nR1 _))) (λb U e=>?_) n.bare λb hb=>(B b hb).2.2.2 |> λz=>⟨z.1,(B b hb).2.1,z.2.1,z.2.2⟩
  refine(n.hok b U e).stay (λc w' hc q=>(u.2 c ?_).trans q) (λ_ q=>q) λ_ _ q=>q;rintro rfl;have N:=n.free;rcases hc with rfl|hc
  ·exact nomatch N.symm.trans e
  ·exact nomatch N.symm.trans hc
section
variable{K:Fg1}{H:Hp}{mu:List cZ}{S:Sto}{p:cZ}{u:HO}{o:Ob}{n:Nat}
def Rd.ne{a:cZ}{x:HO}(h:H p=aj)(q:Rd H a x):a≠p:=by
 rintro rfl;rcases q with q|⟨_,q⟩<;>(rw[h]at q;cases q)
def Ext.fresh(hp:H p=aj):Ext mu mu H (upd H p u) where
 pre:=bc
 old:=λa o h _=>by rw[dL (dY h hp)];exact h
 tup:=λa xs h=>by
  have ne:=Rd.ne hp h;rcases h with h|⟨b,h⟩
  ·exact .inl (by rw[dL ne];exact h)
  ·exact .inr ⟨b,by rw[dL ne];exact h⟩
 frz:=λa o x h=>by rw[dL (dY h hp)];exact h
 new:=λ_ h=>.inl h
def Ext.new_(hp:H p=aj):Ext mu (mu++[p]) H (upd H p u) where
 pre:=bm _ _
 old:=(Ext.fresh (mu:=mu) hp).old
 tup:=(Ext.fresh (mu:=mu) hp).tup
 frz:=(Ext.fresh (mu:=mu) hp).frz
 new:=λa h=>by
  rcases ay.mp h with h|h
  ·exact .inl h
  ·have:a=p:=by simpa using h
   subst this;exact .inr hp
def Sim.fresh(s:Sim K H mu S)(hp:H p=aj):Sim K (upd H p u) mu S:=
 ⟨s.len,s.nd,λk o a h1 h2=>(s.ob k o a h1 h2).keep (Ext.fresh hp) λb e=>by rw[dL (dY e hp)];exact e⟩
def Sim.notin(s:Sim K H mu S)(hp:H p=aj):p∉mu:=λh=>by
 obtain⟨o,e⟩:=s.here h;rw[hp]at e;cases e
def oP.more{a:cZ}{mu':List cZ}{H':Hp}(e:Ext mu mu' H H')(h:∀o,H a=wq o->H' a=wq o):∀{o:Ob},oP K H mu a o->oP K H' mu' a o
 | .lst _,⟨vs,q,r⟩=>⟨vs,h _ q,r.ext e⟩
 | .dct _,⟨ws,q,r⟩=>⟨ws,h _ q,KR.ext e r⟩
 | .dcT _,⟨ws,q,r,l⟩=>⟨ws,h _ q,KT.ext e r,l⟩
 | .iset _,q=>⟨h _ q.1,q.2⟩
 | .dcF _,⟨ws,⟨o,u,c,b⟩,r,l⟩=>⟨ws,⟨o,u,h _ c,b⟩,KT.ext e r,l⟩
 | .tst _,⟨ws,q,r⟩=>⟨ws,h _ q,KT.ext e r⟩
def Sim.new(s:Sim K H mu S)(hp:H p=aj)(ho:oP K (upd H p u) (mu++[p]) p o):Sim K (upd H p u) (mu++[p]) (S++[o]):=by
 refine⟨by rw[lA1,lA1,s.len];rfl,?_,λk o' a h1 h2=>?_⟩
 ·rw[bo];refine⟨s.nd,by simp,λa g b f e=>?_⟩;have:b=p:=by simpa using f
  subst this;subst e;exact s.notin hp g
 ·by_cases d:k<S.length
  ·rw[gL1 d]at h1;rw[gL1 (by rw[s.len];exact d)]at h2;exact(s.ob k o' a h1 h2).more (Ext.new_ hp) λh e=>by rw[dL (dY e hp)];exact e
  ·have c:k=S.length:=by
    have:=(gE1.mp h1).1;rw[lA1]at this;simp at this;lia
   subst c;rw[gR1 (nR1 _)]at h1;rw[<- s.len,gR1 (nR1 _)]at h2;simp at h1 h2;subst h1;subst h2;exact ho
def Ext.put{x:HO}(hp:H p=wq x)(hm:HJ (wq x))(b:p∈mu):Ext mu mu H (upd H p u) where
 pre:=bc
 old:=λa o h n=>by rw[dL (λe=>n (by rw[e];exact b))];exact h
 tup:=λa xs h=>by
  have ne:a≠p:=by
   rintro rfl;rcases h with h|⟨_,h⟩<;>(rw[hp]at h;cases h;exact hm)
  rcases h with h|⟨c,h⟩
  ·exact .inl (by rw[dL ne];exact h)
  ·exact .inr ⟨c,by rw[dL ne];exact h⟩
 frz:=λa o y h=>by
  rw[dL (λe=>?_)]
  ·exact h
  ·subst e;rw[hp]at h;cases h;exact hm
 new:=λ_ h=>.inl h
def Sim.put(s:Sim K H mu S){x:HO}(hn:mu[n]?=wq p)(hp:H p=wq x)(hm:HJ (wq x))(ho:oP K (upd H p u) mu p o):Sim K (upd H p u) mu (S.set n o):=by
 refine⟨by rw[aP];exact s.len,s.nd,λk o' a h1 h2=>?_⟩;by_cases b:n=k
 ·subst b;have d:n<S.length:=by
   have:=(gE1.mp h1).1
   rwa [aP]at this
  rw[aA d]at h1;cases h1;rw[hn]at h2;cases h2;exact ho
 ·rw [gS1 b] at h1;have ne:a≠p:=fun e=>by
   subst e;obtain⟨h,c⟩:=gE1.mp hn;obtain⟨g,f⟩:=gE1.mp h2;exact b ((List.getElem_inj s.nd).mp (c.trans f.symm))
  exact(s.ob k o' a h1 h2).keep (Ext.put hp hm (gM1 hn)) λi e=>by rw[dL ne];exact e
def Sim.lst(s:Sim K H mu S){ds:List D}{a:cZ}(h:S[n]?=wq (.lst ds))(hn:mu[n]?=wq a):∃vs,H a=wq (.lst vs)/\dB K H mu ds vs:=s.ob n _ a h hn
def Sim.dcT(s:Sim K H mu S){ks:List (TK×D)}{a:cZ}(h:S[n]?=wq (.dcT ks))(hn:mu[n]?=wq a):∃ws,H a=wq (.ext (jO a ws))/\KT K H mu ks ws/\ws.length<=c9:=s.ob n _ a h hn
def Sim.iset(s:Sim K H mu S){xs:List Int}{a:cZ}(h:S[n]?=wq (.iset xs))(hn:mu[n]?=wq a):H a=wq (.set (λk=>xs.contains k) xs.length)/\xs.Nodup:=s.ob n _ a h hn
def Sim.dct(s:Sim K H mu S){ks:List (Key×D)}{a:cZ}(h:S[n]?=wq (.dct ks))(hn:mu[n]?=wq a):∃ws,H a=wq (.dK ws)/\KR K H mu ks ws:=s.ob n _ a h hn
def Sim.newL(s:Sim K H mu S){ds:List D}{vs:List V}(r:dB K H mu ds vs)(hp:H p=aj):Sim K (upd H p (.lst vs)) (mu++[p]) (S++[.lst ds]):=s.new hp ⟨vs,dP,r.ext (Ext.new_ hp)⟩
def Sim.putL(s:Sim K H mu S){ds:List D}{vs ws:List V}(r:dB K H mu ds vs)(hn:mu[n]?=wq p)(hp:H p=wq (.lst ws)):Sim K (upd H p (.lst vs)) mu (S.set n (.lst ds)):=
 s.put hn hp trivial ⟨vs,dP,r.ext (Ext.put hp trivial (gM1 hn))⟩
end
def gp{mu:List cZ}{S:Sto}(h:mu.length=S.length)(p:cZ):(mu++[p])[S.length]?=wq p:=by
 rw[<- h,gR1 (nR1 _)];simp
def dI(a:FA):FE:=λr S=>(a r S).bind λp=>if p.1.length<=c9 then wq (.tup p.1,p.2)else aj
def eH(a:FA):FE:=λr S=>(a r S).bind λp=>if p.1.length<=c9 then wq (.ref p.2.length,p.2++[.lst p.1])else aj
section
variable{X:Cx}{es:List Expr}{pos:Pos}{a:FA}
def Gz{x1}(h:MA X es a):ME X (.Tuple es x1 pos) (dI a):=ee (FQ h) <| by
 rintro σ H Q ⟨r,mu,S,d,m,k,f,b,hc⟩;obtain⟨⟨ds,l⟩,j,b⟩:=oB1.mp b;dsimp only at b;split at b
 ·rename_i i;cases b;refine⟨r,mu,S,ds,_,k,f,j,λvs H1 mu1 x1 e g=>⟨by rw[<- e.length];exact i,λp c=>?_⟩⟩;exact hc _ _ mu1 (x1.trans (Ext.fresh c)) (.tup (jL.of dP) (e.ext (Ext.fresh c))) (g.fresh c)
 ·cases b
def GF(h:MA X es a):ME X (.List es pos) (eH a):=ee (FZ h) <| by
 rintro σ H Q ⟨r,mu,S,d,n,l,i,b,hc⟩;obtain⟨⟨ds,m⟩,k,b⟩:=oB1.mp b;dsimp only at b;split at b
 ·rename_i j;cases b;refine⟨r,mu,S,ds,_,l,i,k,λvs H1 mu1 g c e=>⟨by rw[<- c.length];exact j,λp f=>?_⟩⟩;exact hc _ _ (mu1++[p]) (g.trans (Ext.new_ f)) (.ref (gp e.len p)) (e.newL c f)
 ·cases b
end
def l0(k:Nat)(keep:List Nat)(r:Ev):Ev:=aI k aj++keep.map λi=>(r[i]?).join
def fq:FT:=λ_ S=>wq (ai,S)
def Jt{K:Fg1}{H:Hp}{mu:List cZ}{r:Ev}{σ:L2.St}(k:Nat)(keep:List Nat)(h:fD K H mu r σ):fD K H mu (l0 k keep r) (rq k keep σ):=by
 refine⟨by unfold l0 rq;rw[lA1,lA1,lM1,lM1,lR1,lR1],λi d e=>?_⟩;unfold l0 at e;unfold rq;by_cases hi:i<k
 ·rw[gL1 (by rw[lR1];exact hi),aL]at e;split at e<;>cases e
 ·rw [gR1 (by rw [lR1];lia),lR1,gP1] at e;rw [gR1 (by rw [lR1];lia),lR1,gP1];obtain ⟨j,b,e⟩:=oM1.mp e;rw [b];have a:r[j]? = some (some d):=by
   cases q:r[j]? with
   |none=>rw[q]at e;cases e
   |some o=>rw[q]at e;cases e;rfl
  obtain⟨v,f,c⟩:=h.val j d a;exact⟨v,by rw[oP1,f];rfl,c⟩
section
variable{X:Cx}
def zK{ifs:List Expr}{t t':L2.TT}(h:pd X ifs t)(i:∀ σ H Q,t' σ H Q->t σ H Q):pd X ifs t':=λpins s σ H Q I q=>h pins s σ H Q I (i σ H Q q)
def C5:pd X [] (B4 X.K fq):=zK zJ fun σ H Q ⟨r,mu,S,b,e,d,c,a,hc⟩=>by cases a;exact hc H mu (.refl _ _) c
def C4{c:Expr}{t:FT}(h:MT X c t):pd X [c] (B4 X.K t):=zI h
end
open PySem.AutoSeq1 (wpAny_loadPart')
def SIt(b:Bool)(h:db)(it a:cZ)(i:Nat):Prop:=match b with
 |true=>h.IsListIter it a i
 |false=>h.IsTupleIter it a i
def SCo(b:Bool)(h:db)(a:cZ)(xs:Array cX):Prop:=match b with
 |true=>h.IsList a xs
 |false=>h.IsTuple a xs
def SIt.to{b:Bool}{h h':db}{it a:cZ}{i:Nat}(x:SIt b h it a i)(k:∀o,h.get? it=wq o->h'.get? it=wq o):SIt b h' it a i:=by
 cases b<;>(obtain⟨o,e,r⟩:=x;exact⟨o,k o e,r⟩)
def SIt.rec_{b:Bool}{h:db}{it a:cZ}{i:Nat}(x:SIt b h it a i):∃o,h.get? it=wq o /\ ∀v,o.data ≠ .cell v:=by
 cases b<;>(obtain⟨o,e,c,d⟩:=x;exact⟨o,e,λv z=>by rw[d]at z;cases z⟩)
def SCo.to{b:Bool}{h h':db}{a:cZ}{xs:Array cX}(x:SCo b h a xs)(k:∀o,h.get? a=wq o->h'.get? a=wq o):SCo b h' a xs:=by
 cases b<;>(obtain⟨o,e,r⟩:=x;exact⟨o,k o e,r⟩)
def fA(b:Bool)(a:cZ):Obj:=match b with
 |true=>{cls:=.type "list_iterator",data:=.fields #[.ref a,.int 0 0]}
 |false=>{cls:=.type "tuple_iterator",data:=.fields #[.ref a,.int 0 0]}
section
variable{prog:c0}{w:c6}{A:c5}{E:cX->cY->Prop}{s:cY}
def qo{b:Bool}{h:db}{it a:cZ}(e:h.get? it=wq (fA b a)):SIt b h it a 0:=by
 cases b<;>exact⟨_,e,ag,ag⟩
def iB{b:Bool}{a:cZ}{xs:Array cX}{Q:cX->cY->Prop}(x:SCo b s.heap a xs)(h:Q (.ref s.heap.objs.size) {s with heap:=s.heap.push (fA b a)}):da (model prog w) A (pyIter (.ref a)) Q E s:=by
 cases b
 ·exact wpAny_pyIter_tuple x h
 ·exact wpAny_pyIter_list x h
def Af{it l:cZ}{i:Nat}{xs:Array cX}{x:cX}{Q:cX->cY->Prop}(e:s.heap.IsTupleIter it l i)(tl:s.heap.IsTuple l xs)(hx:xs[i]? = wq x)(f:∀h',h'.IsTupleIter it l (i+1)->Heap.SameBut it s.heap h'->Q x {s with heap:=h'}):da (model prog w) A (Builtin.SmallTypes.nextOf (.ref it)) Q E s:=by
 obtain⟨o,b,hc,a⟩:=id e;obtain⟨h,d,_,g,c⟩:=tl;unfold Builtin.SmallTypes.nextOf;refine wB1 (wpAny_callSpecial?_slot (name:=Str.ofString "__next__") e.typeIs F.slot_tuple_iterator_next (wE1 F.slot_tuple_iterator_next e.typeIs F.entry_tuple_iterator_next ?_ (F.args_tuple_iterator_next_1 _)));show da _ _ (field (.ref it) 0 >>= _) _ _ s;refine wB1 (wpAny_field b a (x:=.ref l) ag ?_);show da _ _ (if(Value.ref l == Value.none)=ai then _ else _) _ _ s;rw[if_neg (show¬ ((Value.ref l == Value.none)=ai)from aC)];show da _ _ (field (.ref it) 1 >>= _) _ _ s;refine wB1 (wpAny_field b a (x:=.int i 0) ag ?_);show da _ _ (seqItems? (.ref l) >>= _) _ _ s;refine wB1 (wpAny_seqItems d c ?_);simp only[Int.toNat_natCast,hx];refine wB1 (wpAny_setField b a (by simp) (wP1 ⟨x,ag,wP1 (f _ ⟨_,hW1 _ b (Obj.isFreed_of_fields (Obj.data_mapFields a _)),(Obj.cls_mapFields ..).trans hc,by rw[Obj.data_mapFields a];simp[rawInt]⟩ (Heap.SameBut.update ..))⟩))
def q9 {it l:cZ}{i:Nat}{xs:Array cX}{Q:cX->cY->Prop}(h:A.handled=none)(g:s.heap.IsTupleIter it l i)(tl:s.heap.IsTuple l xs)(hx:xs[i]? = none)
  (j:∀h' e,Heap.ExtBut it s.heap h'->(∃o,h'.get? e=wq o/\o.cls = .type "StopIteration")->E (.ref e) {s with heap:=h'}):da (model prog w) A (Builtin.SmallTypes.nextOf (.ref it)) Q E s:=by
 obtain⟨o,d,hc,c⟩:=id g;obtain⟨n,f,_,k,b⟩:=tl;unfold Builtin.SmallTypes.nextOf;refine wB1 (wpAny_callSpecial?_slot (name:=Str.ofString "__next__") g.typeIs F.slot_tuple_iterator_next (wE1 F.slot_tuple_iterator_next g.typeIs F.entry_tuple_iterator_next ?_ (F.args_tuple_iterator_next_1 _)));show da _ _ (field (.ref it) 0 >>= _) _ _ s;refine wB1 (wpAny_field d c (x:=.ref l) ag ?_);show da _ _ (if(Value.ref l == Value.none)=ai then _ else _) _ _ s;rw[if_neg (show¬ ((Value.ref l == Value.none)=ai)from aC)];show da _ _ (field (.ref it) 1 >>= _) _ _ s;refine wB1 (wpAny_field d c (x:=.int i 0) ag ?_);show da _ _ (seqItems? (.ref l) >>= _) _ _ s;refine wB1 (wpAny_seqItems f b ?_);simp only[Int.toNat_natCast,hx];refine wB1 (wpAny_rule (wB1 (wpAny_setField d c (by simp) ?_)));show da _ _ (newExc (.type "StopIteration") [] >>= _) _ _ _;refine wB1 ?_;simp only[newExc,newTuple];refine wB1 (wO1 ?_ (by size_fits));refine wB1 (m:=firstArgMember _ _) (wpAny_of_eq (a:=Value.none) (by first|rfl|(simp only[firstArgMember];rfl)) ?_);refine wO1 ?_ (by size_fits);simp only[raiseNew];refine wB1 (wpAny_handled ?_)
 first|rw[show A.in1.handled=aj from h] | rw[h]
 refine wB1 (wP1 (wpAny_throw ?_));exact j _ _ (((Heap.SameBut.update ..).extBut.push _).push _) ⟨_,hS1 _ ag,ag⟩
def lg{b:Bool}{it l:cZ}{i:Nat}{xs:Array cX}{x:cX}{Q:cX->cY->Prop}(a:SIt b s.heap it l i)(tl:SCo b s.heap l xs)(hx:xs[i]? = wq x)(c:∀h',SIt b h' it l (i+1)->Heap.SameBut it s.heap h'->Q x {s with heap:=h'}):da (model prog w) A (Builtin.SmallTypes.nextOf (.ref it)) Q E s:=by
 cases b
 ·exact Af a tl hx c
 ·exact wpAny_nextOf_list_item a tl hx c
def iU {b:Bool}{it l:cZ}{i:Nat}{xs:Array cX}{Q:cX->cY->Prop}(c:A.handled=none)(a:SIt b s.heap it l i)(tl:SCo b s.heap l xs)(hx:xs[i]? = none)
  (d:∀h' e,Heap.ExtBut it s.heap h'->(∃o,h'.get? e=wq o/\o.cls = .type "StopIteration")->E (.ref e) {s with heap:=h'}):da (model prog w) A (Builtin.SmallTypes.nextOf (.ref it)) Q E s:=by
 cases b
 ·exact q9 c a tl hx d
 ·exact wpAny_nextOf_list_end c a tl hx d
def A6{b:Bool}(l:cZ)(xs:Array cX):
  Meets (Builtin.«enumerate.__new__» ⟨[.type "enumerate",.ref l],[]⟩) (λ_ R s=>SCo b s.heap l xs /\
   R (.ok (.ret (.ref (s.heap.push (fA b l)).objs.size))) {s with heap:=(s.heap.push (fA b l)).push {cls:=.type "enumerate",data:=.fields #[.none,.bool ah,.ref s.heap.objs.size,rawInt 0,.none,.none]}}):=
 .of_wp λprog w A R s h=>by
  obtain⟨f,g,d,tk,k⟩:=s;obtain⟨a,h⟩:=h;have i:=sub_enumerate
  have j:SCo b (Shared.heap ⟨f,g,d,tk,k⟩) l xs:=a;obtain⟨m,el⟩:∃o,f.get? l=some o:=by cases b<;>(obtain⟨o,e,_⟩:=a;exact⟨o,e⟩)
  wp_walk using wpAny_loadPart' el
  refine wpAny_stack_any λst=>wP1 ?_;split
  ·rename_i c _ _ _ _ _;cases(c == Value.type "enumerate")<;>(wp_walk using wpAny_loadPart' el,iB j;exact⟨_,ag,h⟩)
  ·wp_walk using wpAny_loadPart' el,iB j
   exact⟨_,ag,h⟩
def yc{b:Bool}{l:cZ}{xs:Array cX}{Q:cX->cY->Prop}(f:SCo b s.heap l xs)(h:∀h',IsEnum h' (s.heap.objs.size+1) s.heap.objs.size 0 .none->SIt b h' s.heap.objs.size l 0->h'.objs.size=s.heap.objs.size+2->(∀b o,s.heap.get? b=some o->h'.get? b=some o)->Q (.ref (s.heap.objs.size+1)) {s with heap:=h'}):
  da (model prog w) A (call (.type "enumerate") [.ref l]) Q E s:=by
 refine callType_new F.called_enumerate (by decide) (F.typeCall_enumerate_1 _) (F.newCall_enumerate_1 _) (λd=>F.args_object_init_2 d _) F.entry_enumerate_new (A6 (b:=b) l xs) ⟨f,?_⟩;have a:(s.heap.push (fA b l)).objs.size=s.heap.objs.size+1:=hZ1 ..
 show _/\_;rw[a];have e:IsEnum ((s.heap.push (fA b l)).push {cls:=.type "enumerate",data:=.fields #[.none,.bool ah,.ref s.heap.objs.size,rawInt 0,.none,.none]}) (s.heap.objs.size+1) s.heap.objs.size 0 .none:=by
  have q:=hS1 (s.heap.push (fA b l)) (o:={cls:=.type "enumerate",data:=.fields #[.none,.bool ah,.ref s.heap.objs.size,rawInt 0,.none,.none]}) ag;rw[a]at q;exact q
 have hi:(s.heap.push (fA b l)).get? s.heap.objs.size=wq (fA b l):=hS1 _ (by cases b<;>rfl);refine⟨⟨_,e,ag⟩,h _ e (qo (hP1 _ hi)) (by rw[hZ1,a]) λc o x=>hP1 _ (hP1 _ x)⟩
def yb {b:Bool}{e it l:cZ}{i:Nat}{xs:Array cX}{x old:cX}{Q:Option cX->cY->Prop}(he:IsEnum s.heap e it i old)(U:SIt b s.heap it l i)(tl:SCo b s.heap l xs)(hx:xs[i]? = some x)(h:e≠it)
  (T:∀h',IsEnumOut h' e it ((i:Int)+1) x s.heap.objs.size->SIt b h' it l (i+1)->h'.get? s.heap.objs.size=wq {cls:=.type "tuple",data:=.seq #[.int i s.toks,x]}->h'.objs.size=s.heap.objs.size+1 ->
   (∀b o,b≠e->b≠it->s.heap.get? b=wq o->h'.get? b=wq o)->Q (wq (.ref s.heap.objs.size)) {s with heap:=h',toks:=s.toks+1}):da (model prog w) A (pyNext (.ref e)) Q E s:=by
 have S:s.TypeIs (.ref e) "enumerate":=⟨_,he,ag⟩;unfold pyNext;refine wB1 (wpAny_attempt (wpAny_callSpecial?_slot (name:=Str.ofString "__next__") S F.slot_enumerate_next (wE1 F.slot_enumerate_next S F.entry_enumerate_next ?_ (F.args_enumerate_next_1 _))));obtain⟨m,g,d,tk,t⟩:=s;show da _ _ (field (.ref e) 2 >>= _) _ _ _;refine wB1 (wpAny_field he ag (x:=.ref it) ag ?_);refine wB1 (lg U tl hx λh1 H D=>?_);replace D:Heap.SameBut it m h1:=D;have r:IsEnum h1 e it i old:=(D.2 e h).trans he;show da _ _ (field (.ref e) 3 >>= _) _ _ ⟨h1,g,d,tk,t⟩;refine wB1 (wpAny_field r ag (x:=rawInt i) ag ?_);show da _ _ (field (.ref e) 4 >>= _) _ _ ⟨h1,g,d,tk,t⟩;refine wB1 (wpAny_field r ag (x:=.none) ag ?_);show da _ _ (mkInt i >>= _) _ _ ⟨h1,g,d,tk,t⟩;refine wB1 (wpAny_mkInt ?_);show da _ _ (setField (.ref e) 3 (rawInt ((i:Int)+1)) >>= _) _ _ ⟨h1,g,d,tk+1,t⟩;refine wB1 (wS1 r (by simp) λh2 k C=>?_);replace C:Heap.SameBut e h1 h2:=C;replace k:IsEnum h2 e it ((i:Int)+1) old:=k;show da _ _ (setField (.ref e) 4 .none >>= _) _ _ ⟨h2,g,d,tk+1,t⟩;refine wB1 (wS1 k (by simp) λh3 n G=>?_);replace G:Heap.SameBut e h2 h3:=G;replace n:IsEnum h3 e it ((i:Int)+1) old:=n;show da _ _ (newTuple [.int i tk,x] >>= _) _ _ ⟨h3,g,d,tk+1,t⟩;refine wB1 (wpAny_newTuple ?_);have j:IsEnum (h3.push {cls:=.type "tuple",data:=.seq #[.int i tk,x]}) e it ((i:Int)+1) old:=hP1 _ n;generalize a:h3.push {cls:=.type "tuple",data:=.seq #[.int i tk,x]}=h4 at j;have p:h3.objs.size=m.objs.size:=by rw[G.1,C.1,D.1]
 have N:e<m.objs.size:=hL1 he;have L:h4.get? m.objs.size=wq {cls:=.type "tuple",data:=.seq #[.int i tk,x]}:=by rw[<- a,<- p];exact hS1 _ ag
 have M:h4.objs.size=m.objs.size+1:=by rw[<- a,hZ1,p]
 have O:∀b o,b≠e->b≠it->m.get? b=wq o->h4.get? b=wq o:=λb o f B P=>by
  rw[<- a];exact hP1 _ (G.extBut b o f (C.extBut b o f (D.extBut b o B P)))
 have R:SIt b h4 it l (i+1):=H.to λo q=>by rw[<- a];exact hP1 _ (G.extBut _ _ (Ne.symm h) (C.extBut _ _ (Ne.symm h) q))
 show da _ _ (Builtin.SmallTypes.ownedTupleIsFree (.ref e) >>= _) _ _ ⟨h4,g,d,tk+1,t⟩;rw[p];clear a n G k C r D H p h3 h2 h1;refine wB1 ?_;unfold Builtin.SmallTypes.ownedTupleIsFree;refine wB1 (wpAny_field j ag (x:=.none) ag (wP1 ?_));simp only[if_true];refine wB1 (wpAny_rule ?_);refine wB1 (wpAny_field j ag (x:=old) ag ?_);refine wB1 (wS1 j (by simp) λh5 y K=>?_);replace K:Heap.SameBut e h4 h5:=K;replace y:IsEnum h5 e it ((i:Int)+1) x:=y;show da _ _ (Builtin.SmallTypes.ownedTupleHandOut (.ref e) (.ref m.objs.size) >>= _) _ _ ⟨h5,g,d,tk+1,t⟩;refine wB1 ?_;unfold Builtin.SmallTypes.ownedTupleHandOut;refine wB1 (wS1 y (by simp) λh6 v I=>?_);replace I:Heap.SameBut e h5 h6:=I;replace v:IsEnumOut h6 e it ((i:Int)+1) x m.objs.size:=v;refine wS1 v (by simp) λh7 u J=>?_;replace J:Heap.SameBut e h6 h7:=J;replace u:IsEnumOut h7 e it ((i:Int)+1) x m.objs.size:=u;have up:∀c o,c≠e->h4.get? c=wq o->h7.get? c=wq o:=λc o z q=>J.extBut _ _ z (I.extBut _ _ z (K.extBut _ _ z q));refine wB1 (wpAny_letGo (wP1 ⟨_,ag,wP1 (T h7 u (R.to λo q=>up _ o (Ne.symm h) q) (up _ _ (nG1 N) L) (by rw[J.1,I.1,K.1,M]) λc o f B P=>up c o f (O c o f B P))⟩))
def A7{b:Bool}{e it l:cZ}{i:Nat}{xs:Array cX}{old:cX}{Q:Option cX->cY->Prop}(g:A.handled=aj)(he:IsEnum s.heap e it i old)(j:SIt b s.heap it l i)(tl:SCo b s.heap l xs)(hx:xs[i]? = aj)(f:∀h',Heap.ExtBut it s.heap h'->Q aj {s with heap:=h'}):da (model prog w) A (pyNext (.ref e)) Q E s:=by
 have d:s.TypeIs (.ref e) "enumerate":=⟨_,he,ag⟩;unfold pyNext;refine wB1 (wpAny_attempt (wpAny_callSpecial?_slot (name:=Str.ofString "__next__") d F.slot_enumerate_next (wE1 F.slot_enumerate_next d F.entry_enumerate_next ?_ (F.args_enumerate_next_1 _))));show da _ _ (field (.ref e) 2 >>= _) _ _ _;refine wB1 (wpAny_field he ag (x:=.ref it) ag ?_);refine wB1 (iU g j tl hx λh' x c a=>?_);obtain⟨o,h,hc⟩:=a;refine wB1 (wpAny_isInstance (T:="StopIteration") (b:=ai) ⟨o,h,hc⟩ isSubtype_stop ?_);exact wP1 (f _ c)
def pP{e it:cZ}{i:Int}{old:cX}{Q:cX->cY->Prop}(he:IsEnum s.heap e it i old)(h:Q (.ref e) s):da (model prog w) A (pyIter (.ref e)) Q E s:=by
 have a:s.TypeIs (.ref e) "enumerate":=⟨_,he,ag⟩;refine wpAny_pyIter_slot a F.slot_enumerate_iter (wE1 F.slot_enumerate_iter a F.entry_enumerate_iter ?_ (F.args_enumerate_iter_1 _));show da _ _ (ret (.ref e)) _ _ s;exact wP1 ⟨_,ag,"enumerate",_,a,F.slot_enumerate_next.lookup,h⟩
end
open PySem.AutoSeq1 (wpAny_loadPart')
structure Lj (z ti to i1 i2:cZ):Prop where
 a1:ti≠z
 a2:to≠z
 a3:i1≠z
 a4:i2≠z
 a5:ti≠to
 a6:ti≠i1
 a7:ti≠i2
 a8:to≠i1
 a9:to≠i2
 a10:i1≠i2
section
variable{prog:c0}{w:c6}{A:c5}{E:cX->cY->Prop}{s:cY}{b1 b2:Bool}
def SCo.ne{b:Bool}{h:db}{a c:cZ}{xs:Array cX}{o:Obj}(x:SCo b h a xs)(e:h.get? c=wq o)(n:∀ys k,o.data ≠ .seq ys k):a≠c:=by
 rintro rfl;cases b<;>(obtain⟨o',f,g,k,d⟩:=x;rw[e]at f;cases f;exact n _ _ d)
def SCo.ne_it{b f:Bool}{h:db}{a it l:cZ}{xs:Array cX}{i:Nat}(x:SCo b h a xs)(y:SIt f h it l i):a≠it:=by
 cases f<;>(obtain⟨o,e,c,d⟩:=y;exact x.ne e λys k z=>by rw[d]at z;cases z)
def yA{z g to i1 l B n:cZ}{k1 O:Nat}{xs ys:Array cX}{x y a b:cX}{Q:Option cX->cY->Prop}(D:Lj z g to i1 l)(hz:IsZip s.heap z g to .none)(R:IsPair s.heap g (.ref i1) (.ref l))(V:IsPair s.heap to a b)(n1:B≠to)(n2:n≠to)(h1:SIt b1 s.heap i1 B k1)(h2:SIt b2 s.heap l n O)(c1:SCo b1 s.heap B xs)(X:SCo b2 s.heap n ys)(hx:xs[k1]?=some x)(hy:ys[O]?=some y)(hQ:∀h',IsZip h' z g to (rawInt s.heap.objs.size)->IsPair h' to x y->SIt b1 h' i1 B (k1+1)->SIt b2 h' l n (O+1)->IsPair h' s.heap.objs.size x y->h'.objs.size=s.heap.objs.size+1 ->
   (∀c o,c≠z->c≠to->c≠i1->c≠l->s.heap.get? c=wq o->h'.get? c=wq o)->Q (wq (.ref s.heap.objs.size)) {s with heap:=h'}):da (model prog w) A (pyNext (.ref z)) Q E s:=by
 have hT:s.TypeIs (.ref z) "zip":=⟨_,hz,ag⟩;have Z:B≠z:=c1.ne hz λ_ _ q=>by cases q
 have T:n≠z:=X.ne hz λ_ _ q=>by cases q
 have L:n≠i1:=X.ne_it h1;unfold pyNext;refine wB1 (wpAny_attempt (wpAny_callSpecial?_slot (name:=Str.ofString "__next__") hT F.slot_zip_next (wE1 F.slot_zip_next hT F.entry_zip_next ?_ (F.args_zip_next_1 _))));show da _ _ (field (.ref z) 2 >>= _) _ _ _;refine wB1 (wpAny_field hz ag (x:=.bool ah) ag ?_);show da _ _ (field (.ref z) 3 >>= _) _ _ _;refine wB1 (wpAny_field hz ag (x:=.ref g) ag ?_);refine wB1 (wpAny_seqItems R ag ?_);show da _ _ (Builtin.SmallTypes.ownedTupleIsFree (.ref z) >>= _) _ _ _;refine wB1 ?_;unfold Builtin.SmallTypes.ownedTupleIsFree;refine wB1 (wpAny_field hz ag (x:=.none) ag (wP1 ?_));simp only[if_true];refine wB1 (wpAny_rule ?_);refine wB1 (wpAny_field hz ag (x:=.ref to) ag ?_);refine wB1 (wS1 hz (by simp) λg1 m p=>?_);replace m:IsZip g1 z g to .ellipsis:=m;refine wB1 ?_;simp only[bC,List.zipIdx_nil,bu,List.forIn_nil];refine wB1 (wB1 (wpAny_onRaise ?_));show da _ _ (Builtin.SmallTypes.nextOf (.ref i1) >>= _) _ _ _
 refine wB1 (lg (h1.to λo q=>p.extBut _ _ D.a3 q) (c1.to λo q=>p.extBut _ _ Z q) hx λg2 Y u=>wP1 ?_);have i:IsPair g2 to a b:=u.extBut _ _ D.a8 (p.extBut _ _ D.a2 V);refine wB1 (wpAny_seqItems i ag ?_);refine wB1 (wpAny_updateSeq_pair i λg3 f v=>?_);replace f:IsPair g3 to x b:=f;refine wB1 (wpAny_letGo (wP1 ?_));refine wB1 (wB1 (wpAny_onRaise ?_));show da _ _ (Builtin.SmallTypes.nextOf (.ref l) >>= _) _ _ _
 refine wB1 (lg (h2.to λo q=>v.extBut _ _ D.a9.symm (u.extBut _ _ D.a10.symm (p.extBut _ _ D.a4 q))) (X.to λo q=>v.extBut _ _ n2 (u.extBut _ _ L (p.extBut _ _ T q))) hy λg4 h24 H=>wP1 ?_);have j:IsPair g4 to x b:=H.extBut _ _ D.a9 f;refine wB1 (wpAny_seqItems j ag ?_);refine wB1 (wpAny_updateSeq_pair j λd e M=>?_);replace e:IsPair d to x y:=e;refine wB1 (wpAny_letGo (wP1 (wP1 ?_)));refine wB1 (wpAny_seqItems e ag ?_);refine wB1 (wpAny_newTuple ?_);have K:d.objs.size=s.heap.objs.size:=by rw[M.1,H.1,v.1,u.1,p.1]
 have I:IsZip d z g to .ellipsis:=M.extBut _ _ D.a2.symm (H.extBut _ _ D.a4.symm (v.extBut _ _ D.a2.symm (u.extBut _ _ D.a3.symm m)));have S:∀c o,c≠z->c≠to->c≠i1->c≠l->s.heap.get? c=wq o->d.get? c=wq o:=λc o t N W q4 q=>M.extBut _ _ N (H.extBut _ _ q4 (v.extBut _ _ N (u.extBut _ _ W (p.extBut _ _ t q))));have h15:SIt b1 d i1 B (k1+1):=Y.to λo q=>M.extBut _ _ D.a8.symm (H.extBut _ _ D.a10 (v.extBut _ _ D.a8.symm q));have h25:SIt b2 d l n (O+1):=h24.to λo q=>M.extBut _ _ D.a9.symm q;have k:z<d.objs.size:=hL1 I;show da _ _ (Builtin.SmallTypes.ownedTupleHandOut (.ref z) (.ref d.objs.size) >>= _) _ _ _;refine wB1 ?_;unfold Builtin.SmallTypes.ownedTupleHandOut;have U:IsZip (d.push {cls:=.type "tuple",data:=.seq #[x,y]}) z g to .ellipsis:=hP1 _ I;refine wB1 (wS1 U (by simp) λg7 r s7=>?_);replace r:IsZip g7 z g to (rawInt d.objs.size):=r;refine wS1 r (by simp) λG h P=>?_;replace h:IsZip G z g to (rawInt d.objs.size):=h;have up:∀c o,c≠z->d.get? c=wq o->G.get? c=wq o:=λc o t q=>P.extBut _ _ t (s7.extBut _ _ t (hP1 _ q));have J:IsPair G d.objs.size x y:=P.extBut _ _ (nG1 k) (s7.extBut _ _ (nG1 k) (hS1 _ ag));have C:G.objs.size=d.objs.size+1:=by rw[P.1,s7.1,hZ1]
 rw[K]at h J C;refine wP1 ⟨_,ag,wP1 ?_⟩;show Q (wq (.ref d.objs.size)) _;rw[K]
 exact hQ G h (up _ _ D.a2 e) (h15.to λo q=>up _ o D.a3 q) (h25.to λo q=>up _ o D.a4 q) J C λc o t N W q4 q=>up c o t (S c o t N W q4 q)
def BU{z n to i1 y G t:cZ}{k1 J:Nat}{xs ys:Array cX}{a b:cX}{Q:Option cX->cY->Prop}(X:A.handled=aj)(D:Lj z n to i1 y)(hz:IsZip s.heap z n to .none)(H:IsPair s.heap n (.ref i1) (.ref y))(K:IsPair s.heap to a b)(n1:G≠to)(n2:t≠to)(h1:SIt b1 s.heap i1 G k1)(h2:SIt b2 s.heap y t J)(P:SCo b1 s.heap G xs)(M:SCo b2 s.heap t ys)(u:xs[k1]?=aj\/ys[J]?=aj)(S:∀h',(∀c o,c≠z->c≠to->c≠i1->c≠y->s.heap.get? c=wq o->h'.get? c=wq o)->Q aj {s with heap:=h'}):da (model prog w) A (pyNext (.ref z)) Q E s:=by
 have V:s.TypeIs (.ref z) "zip":=⟨_,hz,ag⟩;have v:G≠z:=P.ne hz λ_ _ q=>by cases q
 have I:t≠z:=M.ne hz λ_ _ q=>by cases q
 have C:t≠i1:=M.ne_it h1;unfold pyNext;refine wB1 (wpAny_attempt (wpAny_callSpecial?_slot (name:=Str.ofString "__next__") V F.slot_zip_next (wE1 F.slot_zip_next V F.entry_zip_next ?_ (F.args_zip_next_1 _))));show da _ _ (field (.ref z) 2 >>= _) _ _ _;refine wB1 (wpAny_field hz ag (x:=.bool ah) ag ?_);show da _ _ (field (.ref z) 3 >>= _) _ _ _;refine wB1 (wpAny_field hz ag (x:=.ref n) ag ?_);refine wB1 (wpAny_seqItems H ag ?_);show da _ _ (Builtin.SmallTypes.ownedTupleIsFree (.ref z) >>= _) _ _ _;refine wB1 ?_;unfold Builtin.SmallTypes.ownedTupleIsFree;refine wB1 (wpAny_field hz ag (x:=.none) ag (wP1 ?_));simp only[if_true];refine wB1 (wpAny_rule ?_);refine wB1 (wpAny_field hz ag (x:=.ref to) ag ?_);refine wB1 (wS1 hz (by simp) λg1 g i=>?_);replace g:IsZip g1 z n to .ellipsis:=g;refine wB1 ?_;simp only[bC,List.zipIdx_nil,bu,List.forIn_nil];refine wB1 (wB1 (wpAny_onRaise ?_));show da _ _ (Builtin.SmallTypes.nextOf (.ref i1) >>= _) _ _ _
 cases hx:xs[k1]? with
 |none=>
  refine wB1 (iU X (h1.to λo q=>i.extBut _ _ D.a3 q) (P.to λo q=>i.extBut _ _ v q) hx λN e k R=>?_);obtain⟨O,d,f⟩:=R;have r:IsZip N z n to .ellipsis:=k _ _ D.a3.symm g;have l:e≠z:=λq=>by subst q;rw[r]at d;cases d;simp at f
  refine wS1 r (by simp) λW _ m=>?_;refine wB1 (wpAny_isInstance (T:="StopIteration") (b:=ai) ⟨O,m.extBut _ _ l d,f⟩ isSubtype_stop ?_);exact wP1 (S W λc o B _ L _ q=>m.extBut _ _ B (k _ _ L (i.extBut _ _ B q)))
 |some x=>
  have hy:ys[J]?=aj:=by rcases u with h|h;rw[hx]at h;cases h;exact h
  refine wB1 (lg (h1.to λo q=>i.extBut _ _ D.a3 q) (P.to λo q=>i.extBut _ _ v q) hx λN h12 k=>wP1 ?_);have j:IsPair N to a b:=k.extBut _ _ D.a8 (i.extBut _ _ D.a2 K);refine wB1 (wpAny_seqItems j ag ?_);refine wB1 (wpAny_updateSeq_pair j λW Y m=>?_);refine wB1 (wpAny_letGo (wP1 ?_));refine wB1 (wB1 (wpAny_onRaise ?_));show da _ _ (Builtin.SmallTypes.nextOf (.ref y) >>= _) _ _ _
  refine wB1 (iU X (h2.to λo q=>m.extBut _ _ D.a9.symm (k.extBut _ _ D.a10.symm (i.extBut _ _ D.a4 q))) (M.to λo q=>m.extBut _ _ n2 (k.extBut _ _ C (i.extBut _ _ I q))) hy λg4 e U R=>?_);obtain⟨O,d,f⟩:=R;have p:IsZip g4 z n to .ellipsis:=U _ _ D.a4.symm (m.extBut _ _ D.a2.symm (k.extBut _ _ D.a3.symm g));have l:e≠z:=λq=>by subst q;rw[p]at d;cases d;simp at f
  refine wS1 p (by simp) λg5 _ Z=>?_;refine wB1 (wpAny_isInstance (T:="StopIteration") (b:=ai) ⟨O,Z.extBut _ _ l d,f⟩ isSubtype_stop ?_);exact wP1 (S g5 λc o B q2 L q4 q=>Z.extBut _ _ B (U _ _ q4 (m.extBut _ _ q2 (k.extBut _ _ L (i.extBut _ _ B q)))))
def zH(b1 b2:Bool)(h:db)(l1 l2:cZ):db:=((((h.push (fA b1 l1)).push (fA b2 l2)).push {cls:=.type "tuple",data:=.seq #[.ref h.objs.size,.ref (h.objs.size+1)]}).push {cls:=.type "tuple",data:=.seq #[.none,.none]}).push
 {cls:=.type "zip",data:=.fields #[.none,.bool ah,.bool ah,.ref (h.objs.size+2),.ref (h.objs.size+3)]}
def BR(a c:cZ)(xs ys:Array cX):Meets (Builtin.«zip.__new__» ⟨[.type "zip",.ref a,.ref c],[]⟩) (λ_ R s=>SCo b1 s.heap a xs/\SCo b2 s.heap c ys/\R (.ok (.ret (.ref (s.heap.objs.size+4)))) {s with heap:=zH b1 b2 s.heap a c}):=
 .of_wp λprog w A R s h=>by
  obtain⟨b,g,d,tk,f⟩:=s;obtain⟨k,j,h⟩:=h;have e:=sub_zip
  have i:SCo b1 (Shared.heap ⟨b,g,d,tk,f⟩) a xs:=k;have l:SCo b2 (Shared.heap ⟨b.push (fA b1 a),g,d,tk,f⟩) c ys:=j.to λo q=>hP1 _ q
  wp_walk using iB i,iB l
  refine⟨_,ag,?_⟩;have m:(b.push (fA b1 a)).objs.size=b.objs.size+1:=hZ1 ..
  simp only[hZ1,zH]at h ⊢;exact h
def yB{a b:cZ}{xs ys:Array cX}{Q:cX->cY->Prop}(m:SCo b1 s.heap a xs)(k:SCo b2 s.heap b ys)(h:∀h',IsZip h' (s.heap.objs.size+4) (s.heap.objs.size+2) (s.heap.objs.size+3) .none->IsPair h' (s.heap.objs.size+2) (.ref s.heap.objs.size) (.ref (s.heap.objs.size+1))->IsPair h' (s.heap.objs.size+3) .none .none ->
   SIt b1 h' s.heap.objs.size a 0->SIt b2 h' (s.heap.objs.size+1) b 0->h'.objs.size=s.heap.objs.size+5->(∀c o,s.heap.get? c=wq o->h'.get? c=wq o)->Q (.ref (s.heap.objs.size+4)) {s with heap:=h'}):
  da (model prog w) A (call (.type "zip") [.ref a,.ref b]) Q E s:=by
 refine callType_new F.called_zip (by decide) (F.typeCall_zip_2 _ _) (F.newCall_zip_2 _ _) (λd=>F.args_object_init_3 d _ _) F.entry_zip_new (BR (b1:=b1) (b2:=b2) a b xs ys) ⟨m,k,?_⟩;have up:∀{h:db} {o:Obj} {c:cZ} {u:Obj},h.get? c=wq u->(h.push o).get? c=wq u:=λq=>hP1 _ q;have at_:∀{h:db} {o:Obj} {n:Nat},h.objs.size=n->o.isFreed=ah->(h.push o).get? n=wq o:=λe f=>by rw[<- e];exact hS1 _ f
 have t:(fA b1 a).isFreed=ah:=by cases b1<;>rfl
 have l:(fA b2 b).isFreed=ah:=by cases b2<;>rfl
 have j:(zH b1 b2 s.heap a b).get? s.heap.objs.size=wq (fA b1 a):=up (up (up (up (at_ ag t))));have r:(zH b1 b2 s.heap a b).get? (s.heap.objs.size+1)=wq (fA b2 b):=up (up (up (at_ (by simp only[hZ1]) l)));have p:IsPair (zH b1 b2 s.heap a b) (s.heap.objs.size+2) (.ref s.heap.objs.size) (.ref (s.heap.objs.size+1)):=up (up (at_ (by simp only[hZ1]) ag));have i:IsPair (zH b1 b2 s.heap a b) (s.heap.objs.size+3) .none .none:=up (at_ (by simp only[hZ1]) ag);have g:IsZip (zH b1 b2 s.heap a b) (s.heap.objs.size+4) (s.heap.objs.size+2) (s.heap.objs.size+3) .none:=at_ (by simp only[hZ1]) ag;exact⟨⟨_,g,ag⟩,h _ g p i (qo j) (qo r) (by simp only[zH,hZ1]) λc o q=>up (up (up (up (up q))))⟩
end
def sn(K:Fg1)(b:Bool)(H:Hp)(a:cZ)(xs:List V):Prop:=match b with
 |true=>lJ K H a xs
 |false=>jL K H a xs
section
variable{X:Cx}{pins:List (cZ×Obj)}{σ:L2.St}{H:Hp}{s:cY}
def eE{b:Bool}{a:cZ}{xs:List V}(I:Inv X pins σ H s)(h:sn X.K b H a xs):∃c:List cX,dQ xs c/\SCo b s.heap a c.toArray/\xs.length<=c9:=by
 cases b
 ·obtain⟨c,r,p,z⟩:=I.tuple h;exact⟨c,r,p,z⟩
 ·obtain⟨c,r,p,z⟩:=I.list h;exact⟨c,r,p.isList,z⟩
def m4{b:Bool}{a:cZ}{xs ys:List V}(I:Inv X pins σ H s)(h:sn X.K b H a xs)(h':sn X.K b H a ys):xs=ys:=by
 cases b
 ·exact I.tuple_inj h h'
 ·exact I.list_inj h h'
def qk{b:Bool}{a c:cZ}{xs:List V}(I:Inv X pins σ H s)(h:sn X.K b H a xs)(f:j7 X pins H c):a≠c:=by
 rintro rfl;have d:∀{o},X.K.lookup a=wq o->False:=λ{o} e=>by
  have g:=I.ok.mod.kin _ _ e;rcases f.2.2.2.1 with z|z
  ·exact I.ok.noex _ _ g z
  ·exact absurd (nL1 (hL1 g) (au I.ok.bsz z)) (ap _)
 cases b
 ·rcases h with(h|⟨_,h⟩)|⟨_,_,_,h,_⟩
  ·rw[f.1]at h;cases h
  ·rw[f.1]at h;cases h
  ·exact d h
 ·rcases h with(h|⟨_,h⟩)|⟨_,_,_,h,_⟩
  ·rw[f.1]at h;cases h
  ·rw[f.1]at h;cases h
  ·exact d h
def tP(I:Inv X pins σ H s){fp:List cZ}(hf:∀ b∈fp,j7 X pins H b){h':db}{p:cZ}{xs:List V}{its:List cX}{t':Nat}(hp:s.heap.objs.size<=p)(f:∀ b o,b∉fp->s.heap.get? b=wq o->h'.get? b=wq o)(j:IsTup h' p its.toArray)(i:dQ xs its)(hz:xs.length<=c9):Inv X pins σ (upd H p (.tup xs)) {s with heap:=h',toks:=t'}:=by
 have d:H p=aj:=I.hok.fresh hp;have g:∀{b o},s.heap.get? b=wq o->b≠p:=λe=>nN1 (nL1 (hL1 e) hp);have h:∀{b u},H b=wq u->b∉fp:=λe z=>by rw[(hf _ z).1]at e;cases e
 refine I.step (g':=s.gens) (d':=s.drawn) (ch:=fp) (λb a=>⟨(hf b a).2.2.2.1,(hf b a).2.1,(hf b a).2.2.2.2.1,(hf b a).2.2.2.2.2⟩) (λb o _ _ hc e _=>f b o hc e) (λb o _ _ hc e _=>⟨o.slots,f b o hc e⟩) (λb o _ e n=>?_)
  (λb o hc e=>⟨o,f b o hc e⟩) (λb ys e=>?_) (λb o u e=>?_) (λb ps e=>⟨#[],?_⟩) (λm l=>?_) (λb u e=>?_) I.bare
 ·rw[dL (g e)];exact n
 ·rw[dL (dY e d)];exact e
 ·rw[dL (dY e d)];exact e
 ·rw[dL (dY e d),e];simp
 ·obtain⟨o,es,ep,k,r⟩:=l;exact⟨o,es,ep,f _ o (λz=>(hf _ z).2.1 ag) k,r⟩
 ·by_cases a:b=p
  ·subst a;rw[dP]at e;cases e;exact⟨hz,its,i,j⟩
  ·rw[dL a]at e;refine(I.hok b u e).stay (λc v hc q=>f c v ?_ q) (λc q=>by rw[dL (dY q d)];exact q) λc ys q=>by rw[dL (dY q d)];exact q
   rcases hc with z|z
   ·rw[z];exact h e
   ·exact h z
def oa(I:Inv X pins σ H s){fp:List cZ}(hf:∀b∈fp,j7 X pins H b){h':db}{t':Nat}(a:∀b o,b∉fp->s.heap.get? b=wq o->h'.get? b=wq o):Inv X pins σ H {s with heap:=h',toks:=t'}:=by
 have f:∀{b u},H b=wq u->b∉fp:=λe z=>by rw[(hf _ z).1]at e;cases e
 refine I.step (g':=s.gens) (d':=s.drawn) (ch:=fp) (λb d=>⟨(hf b d).2.2.2.1,(hf b d).2.1,(hf b d).2.2.2.2.1,(hf b d).2.2.2.2.2⟩) (λb o _ _ hc e _=>a b o hc e) (λb o _ _ hc e _=>⟨o.slots,a b o hc e⟩) (λb o _ e n=>n)
  (λb o hc e=>⟨o,a b o hc e⟩) (λb ys e=>e) (λb o u e=>e) (λb ps e=>⟨#[],by rw[e];simp⟩) (λm h=>?_) (λb u e=>?_) I.bare
 ·obtain⟨o,es,ep,g,r⟩:=h;exact⟨o,es,ep,a _ o (λz=>(hf _ z).2.1 ag) g,r⟩
 ·refine(I.hok b u e).stay (λc v hc q=>a c v ?_ q) (λc q=>q) λc ys q=>q;rcases hc with z|z
  ·rw[z];exact f e
  ·exact f z
end
def sG:(2:Nat)<=c9:=by decide
def LQ(K:Fg1)(b:Bool)(a:cZ):It:=
 ⟨λi H=>∃xs x,sn K b H a xs/\xs[i]?=wq x,λi H x H'=>∃p v,H p=aj/\x = .ref p/\H'=upd H p (.tup [.int i,v]) /\ ∀xs,sn K b H a xs->xs[i]?=wq v,λi H=>∃xs,sn K b H a xs/\xs.length<=i⟩
def xk{P:c0}{w:c6}{K:Fg1}{elts:List Expr}{k:Nat}{pos:Pos}(b:Bool)(a e it:cZ)(ne:e≠it):vx P w K (.Tuple elts k pos) (LQ K b a) [e,it] e (λi h=>(∃old,IsEnum h e it (i:Nat) old)/\SIt b h it a i) where
 mem:=by simp
 obj:=by
  rintro i h ⟨⟨old,st⟩,C⟩ c hc;rcases aw.mp hc with z|z
  ·subst z;exact⟨_,st,λv q=>by cases q⟩
  ·have Z:c=it:=by simpa using z
   subst Z;exact C.rec_
 keep:=λi h h' ⟨⟨old,st⟩,C⟩ O=>⟨⟨old,O e (by simp) _ st⟩,C.to λo q=>O it (by simp) o q⟩
 item:=by
  intro X r p M hc i pins s σ H E I f st J;subst r p M;obtain⟨⟨old,l⟩,g⟩:=st;obtain⟨xs,x,m,L⟩:=J;obtain⟨G,F,co,W⟩:=eE I m;obtain⟨u,U,R⟩:=F.get L;refine yb l g co (x:=u) (by simpa using U) ne λh1 t y A S n=>?_;refine⟨.ref s.heap.objs.size,ag,?_⟩;refine wpAny_letOwnedTupleGo_enum t λh2 B d=>?_;have N:s.heap.objs.size≠e:=nG1 (hL1 l);have D:∀c o,c∉[e,it]->s.heap.get? c=wq o->h2.get? c=wq o:=λc o hc q=>by
   have j:c≠e:=λz=>hc (by simp[z]);have T:c≠it:=λz=>hc (by simp[z]);exact d.extBut _ _ j (n c o j T q)
  have Y:IsTup h2 s.heap.objs.size [.int (i:Nat) s.toks,u].toArray:=⟨_,d.extBut _ _ N A,ag,_,ag⟩;have I2:=tP I f (t':=s.toks+1) (nR1 _) D Y (xs:=[.int i,x]) (.cons ⟨_,ag⟩ (.cons R .nil)) sG;have hn:H s.heap.objs.size=aj:=I.hok.fresh (nR1 _);refine⟨.ref s.heap.objs.size,_,I2,ag,⟨_,x,hn,ag,ag,λys hy=>by rw[m4 I hy m];exact L⟩,⟨⟨u,?_⟩,y.to λo q=>d.extBut _ _ (Ne.symm ne) q⟩,λc hc=>?_⟩
  ·have:((i+1:Nat):Int)=(i:Int)+1:=by push_cast;rfl
   rw[this];exact B
  ·have j:c≠s.heap.objs.size:=fun z=>by
    rcases aw.mp hc with q|q
    ·exact N (z.symm.trans q)
    ·have V:c=it:=by simpa using q
     obtain⟨o,Q,_⟩:=g.rec_;rw[<- V,z]at Q;exact ap _ (hL1 Q)
   rw[dL j];exact(f c hc).1
 done:=by
  intro X r p M hc i pins s σ H E I f st J;subst r p M;obtain⟨⟨old,l⟩,g⟩:=st;obtain⟨xs,m,L⟩:=J;obtain⟨G,F,co,W⟩:=eE I m;have hl:=F.length;refine A7 (I.ok.hd hc) l g co (by simp;lia) λh' eb=>⟨ag,oa I (t':=s.toks) f λc o hc q=>eb c o (λz=>hc (by simp[z])) q⟩
 self:=λ_ _ _ _ _ ⟨⟨_,st⟩,_⟩ h=>pP st h
def LN(K:Fg1)(b1 b2:Bool)(a1 a2:cZ):It:=
 ⟨λi H=>∃xs ys x y,sn K b1 H a1 xs/\sn K b2 H a2 ys/\xs[i]?=wq x/\ys[i]?=wq y,λi H x H'=>∃p v u,H p=aj/\x = .ref p/\H'=upd H p (.tup [v,u])/\(∀xs,sn K b1 H a1 xs->xs[i]?=wq v) /\ ∀ys,sn K b2 H a2 ys->ys[i]?=wq u,
  λi H=>∃xs ys,sn K b1 H a1 xs/\sn K b2 H a2 ys/\(xs.length<=i\/ys.length<=i)⟩
def yY{P:c0}{w:c6}{K:Fg1}{elts:List Expr}{k:Nat}{pos:Pos}(b1 b2:Bool)(a1 a2 z A to t r:cZ)(D:Lj z A to t r):vx P w K (.Tuple elts k pos) (LN K b1 b2 a1 a2) [z,A,to,t,r] z
  (λi h=>IsZip h z A to .none/\IsPair h A (.ref t) (.ref r)/\(∃u v,IsPair h to u v)/\SIt b1 h t a1 i/\SIt b2 h r a2 i) where
 mem:=by simp
 obj:=by
  rintro i h ⟨j,b,⟨u,v,f⟩,l,g⟩ c hc;simp only[aw,bD,or_false]at hc;rcases hc with rfl|rfl|rfl|rfl|rfl
  ·exact⟨_,j,λv q=>by cases q⟩
  ·exact⟨_,b,λv q=>by cases q⟩
  ·exact⟨_,f,λv q=>by cases q⟩
  ·exact l.rec_
  ·exact g.rec_
 keep:=λi h h' ⟨j,b,⟨u,v,f⟩,l,g⟩ F=>⟨F z (by simp) _ j,F A (by simp) _ b,⟨u,v,F to (by simp) _ f⟩,l.to λo q=>F t (by simp) o q,g.to λo q=>F r (by simp) o q⟩
 item:=by
  intro X M Y W hc i pins s σ H E I d st V;subst M Y W;obtain⟨j,b,⟨u0,v0,f⟩,l,g⟩:=st;obtain⟨xs,ys,x,y,B,C,ex,Z⟩:=V;obtain⟨T,S,co,hz⟩:=eE I B;obtain⟨J,n,p,R⟩:=eE I C;obtain⟨u,hu,ru⟩:=S.get ex;obtain⟨L,O,U⟩:=n.get Z;refine yA D j b f (qk I B (d to (by simp))) (qk I C (d to (by simp))) l g co p (x:=u) (y:=L) (by simpa using hu) (by simpa using O) λh1 p1 p2 p3 p4 p5 p6 G=>?_;refine⟨.ref s.heap.objs.size,ag,?_⟩;refine wpAny_letOwnedTupleGo_zip p1 λh2 z2 a=>?_;have lt:∀c∈[z,A,to,t,r],c≠s.heap.objs.size:=λc hc e=>by
   obtain⟨o,eo⟩:∃o,s.heap.get? c=some o:=by
    simp only[aw,bD,or_false]at hc;rcases hc with rfl|rfl|rfl|rfl|rfl
    ·exact⟨_,j⟩
    ·exact⟨_,b⟩
    ·exact⟨_,f⟩
    ·obtain⟨o,e,_⟩:=l.rec_;exact⟨o,e⟩
    ·obtain⟨o,e,_⟩:=g.rec_;exact⟨o,e⟩
   rw[e]at eo;exact ap _ (hL1 eo)
  have Q:∀c o,c∉[z,A,to,t,r]->s.heap.get? c=wq o->h2.get? c=wq o:=λc o hc q=>by
   simp only[aw,bD,or_false,not_or]at hc;exact a.extBut _ _ hc.1 (G c o hc.1 hc.2.2.1 hc.2.2.2.1 hc.2.2.2.2 q)
  have tp:IsTup h2 s.heap.objs.size [u,L].toArray:=⟨_,a.extBut _ _ (Ne.symm (lt z (by simp))) p5,ag,_,ag⟩;have I2:=tP I d (t':=s.toks) (nR1 _) Q tp (xs:=[x,y]) (.cons ru (.cons U .nil)) sG;have hn:H s.heap.objs.size=aj:=I.hok.fresh (nR1 _);refine⟨.ref s.heap.objs.size,_,I2,ag,⟨_,x,y,hn,ag,ag,λN m=>by rw[m4 I m B];exact ex,λN m=>by rw[m4 I m C];exact Z⟩,
   ⟨z2,a.extBut _ _ D.a1 (G _ _ D.a1 D.a5 D.a6 D.a7 b),⟨u,L,a.extBut _ _ D.a2 p2⟩,p3.to λo q=>a.extBut _ _ D.a3 q,p4.to λo q=>a.extBut _ _ D.a4 q⟩,λc hc=>?_⟩
  rw[dL (lt c hc)];exact(d c hc).1
 done:=by
  intro X M Y W hc i pins s σ H E I d st V;subst M Y W;obtain⟨j,b,⟨u0,v0,f⟩,l,g⟩:=st;obtain⟨xs,ys,B,C,hl⟩:=V;obtain⟨T,S,co,hz⟩:=eE I B;obtain⟨J,n,p,R⟩:=eE I C;have l1:=S.length;have l2:=n.length;refine BU (I.ok.hd hc) D j b f (qk I B (d to (by simp))) (qk I C (d to (by simp))) l g co p (by simp;lia) λh' eb=>⟨ag,oa I (t':=s.toks) d λc o hc q=>?_⟩;simp only[aw,bD,or_false,not_or]at hc;exact eb c o hc.1 hc.2.2.1 hc.2.2.2.1 hc.2.2.2.2 q
 self:=λ_ _ _ _ _ ⟨st,_⟩ h=>wpAny_pyIter_zip st h
section
variable{X:Cx}{elts:List Expr}{k:Nat}{tpos:Pos}
def Jy(K:Fg1)(ta:TA):TI:=fun σ H R=>ta σ H λvs H1=>∃a b,vs=[.ref a]/\(∃xs,sn K b H1 a xs)/\R (LQ K b a) H1
def CD {a:Expr}{ta:TA}{p pos:Pos}(hg:Gl X "enumerate")(hm:X.mg "enumerate"=aj)(ha:PA X [a] ta)(hs:c8 [a] X.env=[(ah,eval a X.env)]:=by rfl):PI X (.Tuple elts k tpos) (.Call (.Name "enumerate" p) [a] [] pos) (Jy X.K ta):=by
 intro pins s σ H R I h;refine Call_ (jz I hg hm boot_enumerate (PyProof.Rows.callWith_type1 (eR (ha pos pins s σ H _ I h) λC g ⟨vs,H1,f,l,n⟩=>?_) hs ag));obtain⟨c,b,e,⟨xs,x⟩,q⟩:=n;subst e;cases l with
 |cons r j=>
  cases j;cases r;obtain⟨t,A,co,B⟩:=eE f x;refine yc co λh' i y v u=>pP i ?_;have m:Inv X pins σ H1 {g with heap:=h'}:=f.kept (t':=g.toks) u;refine⟨g.heap.objs.size+1,[g.heap.objs.size+1,g.heap.objs.size],_,_,H1,ag,m,xk b c _ _ (Nat.succ_ne_self _),⟨⟨.none,i⟩,y⟩,λd o=>?_,q⟩;rcases aw.mp o with z|z
  ·subst z;exact f.fpOk (aQ _) (f.hok.fresh (aQ _))
  ·have w:d=g.heap.objs.size:=by simpa using z
   subst w;exact f.fpOk (nR1 _) (f.hok.fresh (nR1 _))
def K3(K:Fg1)(ta:TA):TI:=fun σ H R=>ta σ H λvs H1=>∃a1 b1 a2 b2,vs=[.ref a1,.ref a2]/\(∃xs,sn K b1 H1 a1 xs)/\(∃xs,sn K b2 H1 a2 xs)/\R (LN K b1 b2 a1 a2) H1
def FJ {a b:Expr}{ta:TA}{p pos:Pos}(hg:Gl X "zip")(hm:X.mg "zip"=none)(ha:PA X [a,b] ta)(hs:c8 [a,b] X.env=[(false,eval a X.env),(false,eval b X.env)]:=by rfl)(hs2:c8 [b] X.env=[(false,eval b X.env)]:=by rfl):
  PI X (.Tuple elts k tpos) (.Call (.Name "zip" p) [a,b] [] pos) (K3 X.K ta):=by
 intro pins s σ H R I h;refine Call_ (jz I hg hm boot_zip (PyProof.Rows.callWith_type1 (eR (ha pos pins s σ H _ I h) λM c ⟨vs,H1,f,u,E⟩=>?_) (by rw[hs,hs2]) (by rw[hs2];rfl)));obtain⟨G,b1,w,b2,e,⟨xs,D⟩,⟨ys,F⟩,q⟩:=E;subst e;cases u with
 |cons r i=>
  cases i with
  |cons x i=>
   cases i;cases r;cases x;obtain⟨y,N,co,O⟩:=eE f D;obtain⟨m,t,j,v⟩:=eE f F;refine yB co j λh' n J o B A L K=>wpAny_pyIter_zip n ?_;have C:Inv X pins σ H1 {c with heap:=h'}:=f.kept (t':=c.toks) K;refine⟨c.heap.objs.size+4,[c.heap.objs.size+4,c.heap.objs.size+2,c.heap.objs.size+3,c.heap.objs.size,c.heap.objs.size+1],_,_,H1,ag,C,yY b1 b2 G w _ _ _ _ _ ?_,⟨n,J,⟨_,_,o⟩,B,A⟩,λd l=>?_,q⟩
   ·constructor<;>(intro z;have P:((_:Nat)=_):=z;lia)
   ·have g:c.heap.objs.size<=d:=by
     simp only[aw,bD,or_false]at l;rcases l with rfl|rfl|rfl|rfl|rfl
     ·exact bi _ _
     ·exact bi _ _
     ·exact bi _ _
     ·exact nR1 _
     ·exact bi _ _
    exact f.fpOk g (f.hok.fresh g)
end
def dG(S:Sto):D->Option (Bool×List D)
 | .tup xs=>wq (ah,xs)
 | .rol xs=>wq (ai,xs)
 | .ref n=>match S[n]? with
  |some (.lst xs)=>wq (ai,xs)
  |_=>aj
 |_=>aj
def jG(S:Sto):D->List (Nat×List D)
 | .ref n=>match S[n]? with
  |some (.lst xs)=>[(n,xs)]
  |_=>[]
 |_=>[]
section
variable{K:Fg1}{H:Hp}{mu:List cZ}{S:Sto}
def dA{d:D}{v:V}{b:Bool}{xs:List D}(r:eQ K H mu d v)(s:Sim K H mu S)(h:dG S d=wq (b,xs)):∃a vs,v = .ref a/\sn K b H a vs/\dB K H mu xs vs:=by
 cases d with
 |tup ys=>cases h;cases r with|tup q t=>exact⟨_,_,rfl,q,t⟩
 |rol ys=>cases h;cases r with|rol q t=>exact⟨_,_,rfl,q.sq,t⟩
 |ref n=>
  rw[dG]at h;split at h
  ·rename_i ys e;cases h;cases r with
   |ref q=>
    obtain⟨vs,c,f⟩:=s.lst e q;exact⟨_,vs,ag,lJ.of c,f⟩
  ·cases h
 |_=>cases h
def iC{d:D}{a:cZ}{b:Bool}{xs:List D}(r:eQ K H mu d (.ref a))(s:Sim K H mu S)(h:dG S d=some (b,xs)){H1:Hp}{mu1:List cZ}{S1:Sto}(x:sy mu mu1 H H1)(c:Sim K H1 mu1 S1)(ok:oY S1 (jG S d)=true):
  ∃vs,sn K b H1 a vs/\dB K H1 mu1 xs vs:=by
 have g:=r.exw x;have h1:dG S1 d=wq (b,xs):=by
  cases d with
  |ref n=>
   rw[dG]at h;split at h
   ·rename_i ys e;cases h;rw[jG,e]at ok;dsimp only[oY]at ok;rw[bE]at ok;rw[dG];split at ok
    ·rename_i zs f
     first|rw[f,D.sames_eq ok] | rw[D.sames_eq ok]
    ·cases ok
   ·cases h
  |_=>exact h
 obtain⟨i,vs,e,q,t⟩:=dA g c h1;cases e;exact⟨vs,q,t⟩
end
def gJ(m:FE):FI:=λr S=>(m r S).bind λp=>(dG p.2 p.1).bind λq=>wq (⟨q.2,jG p.2 p.1⟩,p.2)
def sx:Nat->List D->List D
 |_,[]=>[]
 |n,d::ds=>.tup [.int n,d]::sx (n+1) ds
def og(m:FA):FI:=λr S=>(m r S).bind λp=>match p.1 with
 |[d]=>(dG p.2 d).bind λq=>wq (⟨sx 0 q.2,jG p.2 d⟩,p.2)
 |_=>aj
def uz:List D->List D->List D
 |x::xs,y::ys=>.tup [x,y]::uz xs ys
 |_,_=>[]
def Ju(m:FA):FI:=λr S=>(m r S).bind λp=>match p.1 with
 |[d,e]=>(dG p.2 d).bind λq=>(dG p.2 e).bind λt=>wq (⟨uz q.2 t.2,jG p.2 d++jG p.2 e⟩,p.2)
 |_=>aj
def gz(lo:Int):Nat->List D
 |0=>[]
 |n+1=>.int lo::gz (lo+1) n
def sv(m:FA):FI:=λr S=>(m r S).bind λp=>match p.1 with
 |[.int j]=>if-(2^62)<=j/\j<2^62 then wq (⟨gz 0 j.toNat,[]⟩,p.2)else aj
 |_=>aj
def HP(m:FA):FI:=λr S=>(m r S).bind λp=>match p.1 with
 |[.int i,.int j]=>if-(2^62)<=i/\i<2^62 /\ -(2^62)<=j/\j<2^62 then wq (⟨gz i (j-i).toNat,[]⟩,p.2)else aj
 |_=>aj
def fP:∀(ds:List D) (n i:Nat),(sx n ds)[i]?=(ds[i]?).map λd=>.tup [.int ((n+i:Nat):Int),d]
 |[],n,i=>by simp[sx]
 |d::ds,n,0=>by simp[sx]
 |d::ds,n,i+1=>by
  rw[sx,gC1,fP ds (n+1) i,gC1];rw[show n+1+i=n+(i+1) by lia]
def fO:∀(ds:List D) (n:Nat),(sx n ds).length=ds.length
 |[],_=>rfl
 |d::ds,n=>by rw[sx,lC1,fO ds,lC1]
def vE:∀(xs ys:List D) (i:Nat) (d:D),(uz xs ys)[i]?=wq d -> ∃x y,xs[i]?=wq x/\ys[i]?=wq y/\d = .tup [x,y]
 |[],_,i,d,h=>by simp[uz]at h
 |_::_,[],i,d,h=>by simp[uz]at h
 |x::xs,y::ys,0,d,h=>by simp[uz]at h;exact⟨x,y,ag,ag,h.symm⟩
 |x::xs,y::ys,i+1,d,h=>by
  rw[uz,gC1]at h;obtain⟨a,b,c,f,e⟩:=vE xs ys i d h;exact⟨a,b,by simpa using c,by simpa using f,e⟩
def vD:∀(xs ys:List D) (i:Nat),(uz xs ys).length<=i->xs.length<=i\/ys.length<=i
 |[],_,i,_=>.inl (aZ _)
 |_::_,[],i,_=>.inr (aZ _)
 |x::xs,y::ys,0,h=>by simp[uz]at h
 |x::xs,y::ys,i+1,h=>by
  rcases vD xs ys i (by simpa[uz]using h)with q|q
  ·exact .inl (by simpa using q)
  ·exact .inr (by simpa using q)
def tm:∀(n:Nat) (lo:Int) (i:Nat) (d:D),(gz lo n)[i]?=wq d->i<n/\d = .int (lo+i)
 |0,lo,i,d,h=>by simp[gz]at h
 |n+1,lo,0,d,h=>by simp[gz]at h;exact⟨bF _,by rw[<- h];simp⟩
 |n+1,lo,i+1,d,h=>by
  rw[gz,gC1]at h;obtain⟨h1,h2⟩:=tm n (lo+1) i d h;refine⟨Nat.succ_lt_succ h1,?_⟩;rw[h2,show lo+1+(i:Int)=lo+((i+1:Nat):Int) by push_cast;lia]
def eK:∀(n:Nat) (lo:Int),(gz lo n).length=n
 |0,_=>rfl
 |n+1,lo=>by rw[gz,lC1,eK n]
def wh{S:Sto}:∀{c c':List (Nat×List D)},oY S (c++c')=ai->oY S c=ai/\oY S c'=ai
 |[],_,h=>⟨ag,h⟩
 |(n,xs)::c,c',h=>by
  rw[a0,oY,bA1]at h;obtain⟨h1,h2⟩:=wh h.2;exact⟨by rw[oY,bA1];exact⟨h.1,h1⟩,h2⟩
section
variable{X:Cx}{tg:Expr}
def tN(K:Fg1)(lo:Int)(n:Nat)(mu:List cZ)(H:Hp):Lr K (J4 lo n) ⟨gz lo n,[]⟩ mu H:=by
 intro i H1 mu1 e x s ok;refine⟨λd a=>?_,λh=>by rw[eK]at h;exact h⟩;obtain⟨h1,h2⟩:=tm n lo i d a;refine⟨h1,λy H2 ⟨c,b⟩=>?_⟩;subst c;subst b;subst h2;exact⟨.refl _ _,s,.int _⟩
def Gu{e:Expr}{m:FE}(h:ME X e m):MI X tg e (gJ m):=nP (IG (CC h) (FK h)) <| by
 rintro σ H R ⟨r,mu,S,J,I,D,B,l,hc⟩;obtain⟨⟨d,G⟩,C,l⟩:=oB1.mp l;obtain⟨⟨b,xs⟩,o,l⟩:=oB1.mp l;cases l;cases b with
 |true=>
  left;refine⟨r,mu,S,d,_,D,B,C,λv H1 mu1 p k f=>?_⟩;obtain⟨a,vs,rfl,q,t⟩:=dA k f o;refine⟨a,ag,⟨vs,q⟩,hc _ H1 mu1 p (λi H2 z F x2 j ok=>?_) f⟩;obtain⟨ws,c,n⟩:=iC k f o x2 j ok;refine⟨λd s=>?_,λu=>⟨ws,c,by rw[<- n.length];exact u⟩⟩;obtain⟨v,g,x⟩:=n.get s;refine⟨⟨ws,v,c,g⟩,λy E ⟨A,w⟩=>?_⟩;subst A;have:=w ws c;rw[g]at this;cases this;exact⟨.refl _ _,j,x⟩
 |false=>
  right;refine⟨r,mu,S,d,_,D,B,C,λv H1 mu1 p k f=>?_⟩;obtain⟨a,vs,rfl,q,t⟩:=dA k f o;refine⟨a,ag,⟨vs,q⟩,hc _ H1 mu1 p (λi H2 z F x2 j ok=>?_) f⟩;obtain⟨ws,c,n⟩:=iC k f o x2 j ok;refine⟨λd s=>?_,λu=>⟨ws,c,by rw[<- n.length];exact u⟩⟩;obtain⟨v,g,x⟩:=n.get s;refine⟨⟨ws,v,c,g⟩,λy E ⟨A,w⟩=>?_⟩;subst A;have:=w ws c;rw[g]at this;cases this;exact⟨.refl _ _,j,x⟩
def k4{K:Fg1}{H:Hp}{mu:List cZ}{d:D}{vs:List V}(r:dB K H mu [d] vs):∃v,vs=[v]/\eQ K H mu d v:=by
 cases r with|cons r t=>cases t;exact⟨_,ag,r⟩
def sM{K:Fg1}{H:Hp}{mu:List cZ}{d e:D}{vs:List V}(r:dB K H mu [d,e] vs):∃v u,vs=[v,u]/\eQ K H mu d v/\eQ K H mu e u:=by
 cases r with|cons r t=>cases t with|cons q t=>cases t;exact⟨_,_,ag,r,q⟩
def xK {a:Expr}{m:FA}{p pos:Pos}(hg:Gl X "range")(hm:X.mg "range"=aj)(ha:MA X [a] m)(hs:c8 [a] X.env=[(ah,eval a X.env)]:=by rfl):MI X tg (.Call (.Name "range" p) [a] [] pos) (sv m):=
 nP (xG hg hm ha hs) <| by
  rintro σ H R ⟨r,mu,S,J,k,h,hs,hm,hc⟩;obtain⟨⟨ds,i⟩,f,hm⟩:=oB1.mp hm;dsimp only at hm;split at hm
  ·rename_i j;split at hm
   ·rename_i b;cases hm;refine⟨r,mu,S,_,_,h,hs,f,λvs H1 mu1 e d g=>?_⟩;obtain⟨v,rfl,c⟩:=k4 d;cases c;exact⟨j,ag,b.1,b.2,hc _ H1 mu1 e (tN _ _ _ _ _) g⟩
   ·cases hm
  ·cases hm
def xJ {a b:Expr}{m:FA}{p pos:Pos}(hg:Gl X "range")(hm:X.mg "range"=aj)(ha:MA X [a,b] m)(hs:c8 [a,b] X.env=[(ah,eval a X.env),(ah,eval b X.env)]:=by rfl)(hs2:c8 [b] X.env=[(ah,eval b X.env)]:=by rfl):MI X tg (.Call (.Name "range" p) [a,b] [] pos) (HP m):=
 nP (xF hg hm ha hs hs2) <| by
  rintro σ H R ⟨r,mu,S,J,o,l,hs,hm,hc⟩;obtain⟨⟨ds,n⟩,h,hm⟩:=oB1.mp hm;dsimp only at hm;split at hm
  ·rename_i i j;split at hm
   ·rename_i c;cases hm;refine⟨r,mu,S,_,_,l,hs,h,λvs H1 mu1 g e k=>?_⟩;obtain⟨v,u,rfl,d,f⟩:=sM e;cases d;cases f;exact⟨i,j,ag,c,hc _ H1 mu1 g (tN _ _ _ _ _) k⟩
   ·cases hm
  ·cases hm
variable{elts:List Expr}{k:Nat}{tpos:Pos}
def C6 {a:Expr}{m:FA}{p pos:Pos}(hg:Gl X "enumerate")(hm:X.mg "enumerate"=aj)(ha:MA X [a] m)(hs:c8 [a] X.env=[(ah,eval a X.env)]:=by rfl):MI X (.Tuple elts k tpos) (.Call (.Name "enumerate" p) [a] [] pos) (og m):=
 nP (CD hg hm ha hs) <| by
  rintro σ H R ⟨r,mu,S,J,N,E,hs,hm,hc⟩;obtain⟨⟨ds,L⟩,D,hm⟩:=oB1.mp hm;dsimp only at hm;split at hm
  ·rename_i d;obtain⟨⟨b,xs⟩,u,hm⟩:=oB1.mp hm;cases hm;refine⟨r,mu,S,_,_,E,hs,D,λvs H1 mu1 w x f=>?_⟩;obtain⟨v,rfl,o⟩:=k4 x;obtain⟨a,vs,rfl,q,t⟩:=dA o f u;refine⟨a,b,ag,⟨vs,q⟩,hc _ H1 mu1 w (λi H2 A M x2 n ok=>?_) f⟩;obtain⟨ws,e,s⟩:=iC o f u x2 n ok;refine⟨λd c=>?_,λj=>⟨ws,e,by rw[fO]at j;rw[<- s.length];exact j⟩⟩;rw[fP]at c;obtain⟨G,F,c⟩:=oM1.mp c;obtain⟨v,l,h⟩:=s.get F;refine⟨⟨ws,v,e,l⟩,λy K ⟨p,I,g,B,z,C⟩=>?_⟩;have:=C ws e;rw[l]at this;cases this;subst B;subst z;subst c;rw[bG];exact⟨Ext.fresh g,n.fresh g,.tup (jL.of dP) (.cons (.int _) (.cons (h.ext (Ext.fresh g)) .nil))⟩
  ·cases hm
def Gs {a b:Expr}{m:FA}{p pos:Pos}(hg:Gl X "zip")(hm:X.mg "zip"=aj)(ha:MA X [a,b] m)(hs:c8 [a,b] X.env=[(ah,eval a X.env),(ah,eval b X.env)]:=by rfl)(hs2:c8 [b] X.env=[(ah,eval b X.env)]:=by rfl):MI X (.Tuple elts k tpos) (.Call (.Name "zip" p) [a,b] [] pos) (Ju m):=
 nP (FJ hg hm ha hs hs2) <| by
  rintro σ H R ⟨r,mu,S,J,S',he,hs,hm,hc⟩;obtain⟨⟨ds,S1⟩,e1,hm⟩:=oB1.mp hm;dsimp only at hm;split at hm
  ·rename_i d e;obtain⟨⟨b1,xs⟩,G,hm⟩:=oB1.mp hm;obtain⟨⟨b2,ys⟩,F,hm⟩:=oB1.mp hm;cases hm;refine⟨r,mu,S,_,_,he,hs,e1,λvs H1 mu1 L Q f=>?_⟩;obtain⟨v,u,rfl,E,x⟩:=sM Q;obtain⟨a1,t,rfl,Z,t1⟩:=dA E f G;obtain⟨a2,h,rfl,P,t2⟩:=dA x f F;refine⟨a1,b1,a2,b2,ag,⟨t,Z⟩,⟨h,P⟩,hc _ H1 mu1 L (λi H2 V S2 x2 l ok=>?_) f⟩;obtain⟨o,j⟩:=wh ok;obtain⟨ws,n,K⟩:=iC E f G x2 l o;obtain⟨c,w,C⟩:=iC x f F x2 l j;refine⟨λd O=>?_,λN=>⟨ws,c,n,w,?_⟩⟩
   ·obtain⟨x',y',ex,M,rfl⟩:=vE xs ys i d O;obtain⟨v,B,q⟩:=K.get ex;obtain⟨u,I,s⟩:=C.get M;refine⟨⟨ws,c,v,u,n,w,B,I⟩,λy H3 ⟨p,v',u',g,W,U,Y,T⟩=>?_⟩;have D:=Y ws n;have A:=T c w;rw[B]at D;cases D;rw[I]at A;cases A;subst W;subst U;exact⟨Ext.fresh g,l.fresh g,.tup (jL.of dP) (.cons (q.ext (Ext.fresh g)) (.cons (s.ext (Ext.fresh g)) .nil))⟩
   ·rcases vD xs ys i N with z|z
    ·exact .inl (by rw[<- K.length];exact z)
    ·exact .inr (by rw[<- C.length];exact z)
  ·cases hm
end
abbrev G1:=D->Sto->Option (D×Sto)
abbrev G2:=D->D->Sto->Option (D×Sto)
abbrev G3:=D->D->D->Sto->Option (D×Sto)
def b1(f:G1):FN:=λds S=>match ds with
 |[a]=>f a S
 |_=>aj
def b2(f:G2):FN:=λds S=>match ds with
 |[a,b]=>f a b S
 |_=>aj
def b3(f:G3):FN:=λds S=>match ds with
 |[a,b,c]=>f a b c S
 |_=>aj
section
variable{X:Cx}{K:Fg1}{H:Hp}{Q:VK}
def uv{f:G2}{x y:V}(h:rN K (b2 f) [x,y] H Q):∃mu S d e r a,eQ K H mu d x/\eQ K H mu e y/\Sim K H mu S/\f d e S=wq (r,a)/\su K mu H r a Q:=by
 obtain⟨mu,S,ds,r,a,c,b,i,hc⟩:=h;cases c with
 |cons q t=>cases t with
  |cons g t=>cases t;exact⟨mu,S,_,_,r,a,q,g,b,i,hc⟩
def v9{f:G1}{xs:List V}(h:rN K (b1 f) xs H Q):∃x mu S d r a,xs=[x]/\eQ K H mu d x/\Sim K H mu S/\f d S=wq (r,a)/\su K mu H r a Q:=by
 obtain⟨mu,S,ds,r,a,e,c,b,hc⟩:=h;cases e with
 |nil=>cases b
 |cons q t=>cases t with
  |nil=>exact⟨_,mu,S,_,r,a,ag,q,c,b,hc⟩
  |cons g t=>cases b
def zz{f:G2}{xs:List V}(h:rN K (b2 f) xs H Q):∃x y mu S d e r b,xs=[x,y]/\eQ K H mu d x/\eQ K H mu e y/\Sim K H mu S/\f d e S=wq (r,b)/\su K mu H r b Q:=by
 obtain⟨mu,S,ds,r,b,g,c,a,hc⟩:=h;cases g with
 |nil=>cases a
 |cons q t=>cases t with
  |nil=>cases a
  |cons i t=>cases t with
   |nil=>exact⟨_,_,mu,S,_,_,r,b,ag,q,i,c,a,hc⟩
   |cons j t=>cases a
def su.now{mu:List cZ}{S:Sto}{d:D}{v:V}(c:su K mu H d S Q)(r:eQ K H mu d v)(s:Sim K H mu S):Q v H:=c v H mu (.refl _ _) r s
end
def eP(i j:Int):Bool:=(decide (-(2^64)<i)&&decide (i<2^64))||(decide (-(2^64)<j)&&decide (j<2^64))||(decide (i.natAbs<2^1000)&&decide (j.natAbs<2^1000))
def ed:G2:=λd e S=>match d,e with
 | .int i,.int j=>wq (.int (i+j),S)
 | .tup xs,.tup ys=>if xs.length+ys.length<=c9 then wq (.tup (xs++ys),S)else aj
 | .str x,.str y=>if x.length+y.length<=c9 then wq (.str (x++y),S)else aj
 | .ref a,.ref b=>match S[a]?,S[b]? with
  |some (.lst xs),wq (.lst ys)=>if xs.length+ys.length<=c9 then wq (.ref S.length,S++[.lst (xs++ys)])else aj
  |_,_=>aj
 |_,_=>aj
def gSub:G2:=λd e S=>match d,e with
 | .int i,.int j=>wq (.int (i-j),S)
 |_,_=>aj
def j4:G2:=λd e S=>match d,e with
 | .int i,.int j=>if eP i j=ai then wq (.int (i*j),S)else aj
 |_,_=>aj
def lv:G2:=λd e S=>match d,e with
 | .int i,.int j=>if 0<j then wq (.int (i%j),S)else aj
 |_,_=>aj
def rG:G2:=λd e S=>match d,e with
 | .int i,.int j=>if 0<j/\j<1073741824 then wq (.int (i/j),S)else aj
 |_,_=>aj
def oh:G2:=λd e S=>match d,e with
 | .int i,.int j=>if 0<=j/\j<=1000000/\i.natAbs<2^64 then wq (.int (i^j.toNat),S)else aj
 |_,_=>aj
def oi:G1:=λd S=>match d with
 | .int i=>wq (.int (-i),S)
 |_=>aj
section
variable{X:Cx}
def uY{i j:Int}(h:eP i j=ai):IntMulOk i j:=by
 unfold eP at h;simp only[Bool.or_eq_true,bA1,decide_eq_true_eq]at h;rcases h with(⟨h1,h2⟩|⟨h1,h2⟩)|⟨h1,h2⟩
 ·exact .of_left (intBits_le_64 h1 h2)
 ·exact .of_right (intBits_le_64 h1 h2)
 ·exact .of_bits (au (intBits_le h1) (by decide)) (au (intBits_le h2) (by decide))
def m6{f:cX->cX->Sem cX}{g:G2}{c:Int->Int->Prop}{v:Int->Int->D}(hg:∀ d e S r a,g d e S=wq (r,a) -> ∃ i j,d = .int i/\e = .int j/\c i j/\r=v i j/\a=S){b:Int->Int->V}(hv:∀i j K H mu,eQ K H mu (v i j) (b i j))(ho:fZ X f (rI c b)):fZ X f (r2 X.K (b2 g)):=by
 intro pins s σ H x y u w Q I n o h;obtain⟨mu,S,d,e,r,a,k,r2,m,p,hc⟩:=uv h;obtain⟨i,j,rfl,rfl,l,rfl,rfl⟩:=hg d e S r a p;cases k;cases r2;exact ho pins s σ H _ _ u w Q I n o ⟨i,j,ag,ag,l,hc.now (hv i j _ _ _) m⟩
def k9{f:cX->cX->Sem cX}{g:G2}{v:Int->Int->D}(hg:∀ d e S r a,g d e S=wq (r,a) -> ∃ i j,d = .int i/\e = .int j/\r=v i j/\a=S){b:Int->Int->V}(hv:∀i j K H mu,eQ K H mu (v i j) (b i j))(ho:fZ X f (Eo b)):fZ X f (r2 X.K (b2 g)):=by
 intro pins s σ H x y u w Q I l m h;obtain⟨mu,S,d,e,r,a,c,r2,k,n,hc⟩:=uv h;obtain⟨i,j,rfl,rfl,rfl,rfl⟩:=hg d e S r a n;cases c;cases r2;exact ho pins s σ H _ _ u w Q I l m ⟨i,j,ag,ag,hc.now (hv i j _ _ _) k⟩
def Er:fZ X (binaryOp .Sub) (r2 X.K (b2 gSub)):=k9 (v:=λi j=>.int (i-j)) (λd e S r a h=>by
 unfold gSub at h;split at h
 ·cases h;exact⟨_,_,ag,ag,ag,ag⟩
 ·cases h) (λ_ _ _ _ _=>.int _) F4
def lb:fZ X (binaryOp .Mult) (r2 X.K (b2 j4)):=m6 (c:=λi j=>IntMulOk i j) (v:=λi j=>.int (i*j)) (λd e S r a h=>by
 unfold j4 at h;split at h
 ·split at h
  ·rename_i q;cases h;exact⟨_,_,ag,ag,uY q,ag,ag⟩
  ·cases h
 ·cases h) (λ_ _ _ _ _=>.int _) (Ki λ_ _ _ _ _ _ _ hc q=>mul_int q hc)
def mx:fZ X (binaryOp .Mod) (r2 X.K (b2 lv)):=m6 (c:=λ_ j=>0<j) (v:=λi j=>.int (i%j)) (λd e S r a h=>by
 unfold lv at h;split at h
 ·split at h
  ·rename_i q;cases h;exact⟨_,_,ag,ag,q,ag,ag⟩
  ·cases h
 ·cases h) (λ_ _ _ _ _=>.int _) F6
def wl:fZ X (binaryOp .FloorDiv) (r2 X.K (b2 rG)):=m6 (c:=Kb) (v:=λi j=>.int (i/j)) (λd e S r a h=>by
 unfold rG at h;split at h
 ·split at h
  ·rename_i q;cases h;exact⟨_,_,ag,ag,q,ag,ag⟩
  ·cases h
 ·cases h) (λ_ _ _ _ _=>.int _) CO
def wk:fZ X (binaryOp .Pow) (r2 X.K (b2 oh)):=m6 (c:=Ka) (v:=λi j=>.int (i^j.toNat)) (λd e S r a h=>by
 unfold oh at h;split at h
 ·split at h
  ·rename_i q;cases h;exact⟨_,_,ag,ag,q,ag,ag⟩
  ·cases h
 ·cases h) (λ_ _ _ _ _=>.int _) F5
def s9:HR X (unaryOp .USub) (λx H Q=>rN X.K (b1 oi) [x] H Q):=by
 intro pins s σ H x v Q I f h;obtain⟨g,mu,S,d,r,j,e,b,c,a,hc⟩:=v9 h;cases e;cases d with
 |int i=>cases a;cases b;exact E3 pins s σ H _ v Q I f ⟨i,ag,hc.now (.int _) c⟩
 |_=>cases a
def yh{s:cY}{prog:c0}{w:c6}{A:c5}{E:cX->cY->Prop}{t b:cZ}{ws:List cX}{Q:cX->cY->Prop}(ht:IsTup s.heap t ([]:List cX).toArray)(hb:IsTup s.heap b ws.toArray)(h:Q (.ref b) s):
  da (model prog w) A (binaryOp .Add (.ref t) (.ref b)) Q E s:=by
 obtain⟨⟨o,q,l,m⟩,k,hc,n,j⟩:=id ht;obtain⟨⟨i,g,f,e⟩,a,c,p,d⟩:=id hb;simp only at hc j c d;subst hc j c d;exact concat_meets ⟨_,k,ag⟩ ⟨_,a,ag⟩ noFill_tuple_add seq_tuple_add PySem.F.slot_tuple_add PySem.F.entry_tuple_add (PySem.F.args_tuple_add_2 _ _) (tuple_addW0 t b ([]:List cX).toArray ws.toArray n p q g m e (by simp)) ⟨k,a,h⟩
def ez:fZ X (binaryOp .Add) (r2 X.K (b2 ed)):=by
 intro pins s σ H x y u w Q I o t h;obtain⟨mu,S,d,e,r,P,v,r2,f,c,hc⟩:=uv h;unfold ed at c;split at c
 ·cases c;cases v;cases r2;exact F8 pins s σ H _ _ u w Q I o t ⟨_,_,ag,ag,hc.now (.int _) f⟩
 ·rename_i xs ys;split at c
  ·rename_i q;cases c;cases v with
   |tup C l=>
    cases r2 with
    |tup A m=>
     rename_i g a1 k a2;by_cases E:g=[]
     ·subst E;have:xs=[]:=by cases l;rfl
      subst this;cases o;cases t;obtain⟨B,J,F,_⟩:=I.tuple C;obtain⟨D,G,p2,_⟩:=I.tuple A;have:B=[]:=J.nil_iff.mpr ag;subst this;exact yh F p2 ⟨.ref a2,H,I,ag,hc.now (.tup A m) f⟩
     ·refine CP pins s σ H _ _ u w Q I o t ⟨a1,a2,g,k,ag,ag,C,A,E,by rw[<- l.length,<- m.length];exact q,λz=>?_,λz p n=>?_⟩
      ·subst z;have:ys=[]:=by cases m;rfl
       subst this;rw[aF]at hc;exact hc.now (.tup C l) f
      ·exact hc _ _ mu (Ext.fresh n) (.tup (jL.of dP) ((l.append m).ext (Ext.fresh n))) (f.fresh n)
  ·cases c
 ·rename_i i j;split at c
  ·rename_i q;cases c;cases v;cases r2;exact uU pins s σ H _ _ u w Q I o t ⟨i,j,ag,ag,q,hc.now (.str _) f⟩
  ·cases c
 ·rename_i a b;split at c
  ·rename_i xs ys L eb;split at c
   ·rename_i q;cases c;cases v with
    |ref M=>
     cases r2 with
     |ref O=>
      obtain⟨g,N,l⟩:=f.lst L M;obtain⟨k,K,m⟩:=f.lst eb O;refine F7 pins s σ H _ _ u w Q I o t ⟨_,_,g,k,ag,ag,N,K,by rw[<- l.length,<- m.length];exact q,λp n=>?_⟩;exact hc _ _ (mu++[p]) (Ext.new_ n) (.ref (gp f.len p)) (f.newL (l.append m) n)
   ·cases c
  ·cases c
 ·cases c
end
def iX(p:Int->Int->Bool):G2:=λd e S=>match d,e with
 | .int i,.int j=>wq (.bl (p i j),S)
 |_,_=>aj
section
variable{X:Cx}
def rH{p:Int->Int->Bool}(d e:D)(S:Sto)(r:D)(a:Sto)(h:iX p d e S=wq (r,a)):∃i j,d = .int i/\e = .int j/\r = .bl (p i j)/\a=S:=by
 unfold iX at h;split at h
 ·cases h;exact⟨_,_,ag,ag,ag,ag⟩
 ·cases h
def IT:fZ X (compareOp .LtE) (r2 X.K (b2 (iX λi j=>decide (i<=j)))):=k9 rH (λ_ _ _ _ _=>.bl _) IM
def KS:fZ X (compareOp .Gt) (r2 X.K (b2 (iX λi j=>decide (j<i)))):=k9 rH (λ_ _ _ _ _=>.bl _) IN
def KU:fZ X (compareOp .GtE) (r2 X.K (b2 (iX λi j=>decide (j<=i)))):=k9 rH (λ_ _ _ _ _=>.bl _) IP
end
def lw:D->Bool
 | .non=>ai
 | .bl _=>ai
 | .int _=>ai
 | .str _=>ai
 |_=>ah
def Kn:D->D->Option Bool
 | .non,.non=>wq ai
 | .bl a,.bl b=>wq (a == b)
 | .bl a,.int b=>wq ((if a then 1 else 0) == b)
 | .int a,.bl b=>wq (a == (if b then 1 else 0))
 | .int a,.int b=>wq (a == b)
 | .str a,.str b=>wq (a == b)
 |d,e=>if lw d&&lw e then wq ah else aj
def A5(f:D->D->Option Bool):List D->List D->Option Bool
 |x::xs,y::ys=>(f x y).bind λb=>(A5 f xs ys).map λc=>b&&c
 |[],[]=>wq ai
 |_,_=>wq ah
def kA(S:Sto):Nat->D->D->Option Bool
 |0,_,_=>aj
 |n+1,d,e=>match dG S d,dG S e with
  |some p,wq q=>if p.1=q.1 then(if p.1=ai/\p.2.length≠q.2.length then wq ah else A5 (kA S n) p.2 q.2)else wq ah
  |some _,aj=>if lw e=ai then wq ah else aj
  |none,wq _=>if lw d=ai then wq ah else aj
  |none,aj=>Kn d e
section
variable{X:Cx}{pins:List (cZ×Obj)}{σ:L2.St}{H:Hp}{s:cY}{mu:List cZ}{S:Sto}
def fB{K:Fg1}{d:D}{v:V}(r:eQ K H mu d v)(h:lw d=ai):kg v=ai /\ ∀e w,eQ K H mu e w->lw e=ai->Kn d e=wq (uw v w):=by
 cases d with
 |non=>cases r;refine⟨ag,λe w q f=>?_⟩;cases e with
  |non=>cases q;rfl
  |bl _=>cases q;rfl
  |int _=>cases q;rfl
  |str _=>cases q;rfl
  |_=>cases f
 |bl b=>cases r;refine⟨ag,λe w q f=>?_⟩;cases e with
  |non=>cases q;rfl
  |bl _=>cases q;rfl
  |int _=>cases q;rfl
  |str _=>cases q;rfl
  |_=>cases f
 |int i=>cases r;refine⟨ag,λe w q f=>?_⟩;cases e with
  |non=>cases q;rfl
  |bl _=>cases q;rfl
  |int _=>cases q;rfl
  |str _=>cases q;rfl
  |_=>cases f
 |str x=>cases r;refine⟨ag,λe w q f=>?_⟩;cases e with
  |non=>cases q;rfl
  |bl _=>cases q;rfl
  |int _=>cases q;rfl
  |str _=>cases q;rfl
  |_=>cases f
 |_=>cases h
def oy{d e:D}{b:Bool}(h:Kn d e=wq b):lw d=ai/\lw e=ai:=by
 cases d<;>cases e<;>first|exact⟨rfl,rfl⟩|(cases h;done)|exact nomatch h|(simp[Kn,lw]at h)
def A3{v:V}(h:kg v=ai):uw v v=ai:=by
 cases v<;>first|rfl|(cases h;done)|exact beq_self_eq_true _|(simp[uw];done)
def tY(I:Inv X pins σ H s)(hs:Sim X.K H mu S):∀(n:Nat) {d e:D} {v:V} {b:Bool},eQ X.K H mu d v->eQ X.K H mu e v->kA S n d e=wq b->b=ai
 |0,_,_,_,_,_,_,h=>by cases h
 |n + 1,d,e,v,b,B,l,h=>by
  rw[kA]at h;have g:∀{xs ys:List D} {vs:List V} {b:Bool},dB X.K H mu xs vs->dB X.K H mu ys vs->A5 (kA S n) xs ys=wq b->b=ai:=by
   intro xs
   induction xs with
   |nil=>intro ys vs b y z h;cases y;cases z;cases h;rfl
   |cons x xs ih=>
    intro ys vs b y z h;cases y with
    |cons r t=>
     cases z with
     |cons G Q=>
      rw[A5]at h;obtain⟨b1,k,h⟩:=oB1.mp h;obtain⟨b2,c,h⟩:=oM1.mp h;subst h;rw[tY I hs n r G k,ih t Q c];rfl
  cases hd:dG S d with
  |some p=>
   obtain⟨E,xs⟩:=p;obtain⟨a,vs,rfl,q,t⟩:=dA B hs hd;cases he:dG S e with
   |some p2=>
    obtain⟨qb,ys⟩:=p2;obtain⟨a2,m,c,u,w⟩:=dA l hs he;cases c;rw[hd,he]at h;dsimp only at h;obtain⟨M,T,co,_⟩:=eE I q;obtain⟨C,F,j,_⟩:=eE I u;have J:E=qb:=by
     cases E<;>cases qb
     ·rfl
     ·obtain⟨o,k,A,_⟩:=co;obtain⟨R,c,i,_⟩:=j;rw[k]at c;cases c;rw[A]at i;exact absurd i (by decide)
     ·obtain⟨o,k,A,_⟩:=co;obtain⟨R,c,i,_⟩:=j;rw[k]at c;cases c;rw[A]at i;exact absurd i (by decide)
     ·rfl
    subst J;have K:=m4 I q u;subst K;rw[if_pos ag,if_neg (by rw[t.length,w.length];simp)]at h;exact g t w h
   |none=>
    rw[hd,he]at h;dsimp only at h;split at h
    ·rename_i f;have:=(fB l f).1;cases this
    ·cases h
  |none=>
   cases he:dG S e with
   |some p2=>
    obtain⟨qb,ys⟩:=p2;obtain⟨a2,m,c,u,w⟩:=dA l hs he;subst c;rw[hd,he]at h;dsimp only at h;split at h
    ·rename_i f;have:=(fB B f).1;cases this
    ·cases h
   |none=>
    rw[hd,he]at h;dsimp only at h;obtain⟨O,L⟩:=oy h;obtain⟨P,N⟩:=fB B O;rw[N e v l L]at h;cases h;exact A3 P
def fc{A:c5}{b:Bool}{a:cZ}{its:Array cX}{v:V}{u:cX}(c:SCo b s.heap a its)(r:dF v u)(f:kg v=true)(d:A.units<cLine):
   SeqAt.EqAt A s (.ref a) u ah/\SeqAt.EqAt A s u (.ref a) ah/\SeqAt.RcAt A s (.ref a) u ah/\SeqAt.RcAt A s u (.ref a) ah:=by
 cases v with
 | non => cases r;cases b
          · exact⟨.tuple_none c d,.none_tuple c d,.tuple_none c d,.none_tuple c d⟩
          · exact⟨.list_none c d,.none_list c d,.list_none c d,.none_list c d⟩
 | bl k => cases r;cases b
           · exact⟨.tuple_bool k c d,.bool_tuple k c d,.tuple_bool k c d,.bool_tuple k c d⟩
           · exact⟨.list_bool k c d,.bool_list k c d,.list_bool k c d,.bool_list k c d⟩
 | int i => obtain ⟨t,rfl⟩:=r;cases b
            · exact⟨.tuple_int i t c d,.int_tuple i t c d,.tuple_int i t c d,.int_tuple i t c d⟩
            · exact⟨.list_int i t c d,.int_list i t c d,.list_int i t c d,.int_list i t c d⟩
 | str x => obtain ⟨t,rfl⟩:=r;cases b
            · exact⟨.tuple_str x t c d,.str_tuple x t c d,.tuple_str x t c d,.str_tuple x t c d⟩
            · exact⟨.list_str x t c d,.str_list x t c d,.list_str x t c d,.str_list x t c d⟩
 |_=>cases f
def Cn{A:c5}{x y:V}{u w:cX}(e:dF x u)(a:dF y w)(h:kg x=ai)(f:kg y=ai):SeqAt.RcAt A s u w (uw x y):=by
 cases x with
 |non=>cases e;cases y with
  |non=>cases a;exact .none_none
  |bl k=>cases a;exact .none_bool k
  |int i=>obtain⟨t,rfl⟩:=a;exact .none_int i t
  |str z=>obtain⟨t,rfl⟩:=a;exact .none_str z t
  |_=>cases f
 |bl c=>cases e;cases y with
  |non=>cases a;exact .bool_none c
  |bl k=>cases a;exact .bool_bool c k
  |int i=>obtain⟨t,rfl⟩:=a;exact .bool_int c i t
  |str z=>obtain⟨t,rfl⟩:=a;exact .bool_str c z t
  |_=>cases f
 |int d=>obtain⟨b,rfl⟩:=e;cases y with
  |non=>cases a;exact .int_none d b
  |bl k=>cases a;exact .int_bool d b k
  |int i=>obtain⟨t,rfl⟩:=a;exact .int_int d b i t
  |str z=>obtain⟨t,rfl⟩:=a;exact .int_str d b z t
  |_=>cases f
 |str g=>obtain⟨b,rfl⟩:=e;cases y with
  |non=>cases a;exact .str_none g b
  |bl k=>cases a;exact .str_bool g b k
  |int i=>obtain⟨t,rfl⟩:=a;exact .str_int g b i t
  |str z=>obtain⟨t,rfl⟩:=a;exact .str_str g b z t
  |_=>cases f
 |_=>cases h
def vf(f:D->D->Option Bool):∀{xs ys:List D} {b:Bool},A5 f xs ys=wq b -> ∃e:Nat->Bool,(∀j x y,xs[j]?=wq x->ys[j]?=wq y->f x y=wq (e j))/\b=((List.range (min xs.length ys.length)).all e&&xs.length == ys.length)
 |[],[],b,h=>by cases h;exact⟨λ_=>ai,λj x y h=>by simp at h,ag⟩
 |[],y::ys,b,h=>by cases h;exact⟨λ_=>ai,λj x y h=>by simp at h,by simp⟩
 |x::xs,[],b,h=>by cases h;exact⟨λ_=>ai,λj x y h h'=>by simp at h',by simp⟩
 |x::xs,y::ys,b,h=>by
  rw[A5]at h;obtain⟨b1,k,h⟩:=oB1.mp h;obtain⟨b2,m,h⟩:=oM1.mp h;obtain⟨e,l,d⟩:=vf f m;refine⟨λj=>match j with|0=>b1|j+1=>e j,λj g i a c=>?_,?_⟩
  ·cases j with
   |zero=>simp at a c;subst a;subst c;exact k
   |succ j=>exact l j g i (by simpa using a) (by simpa using c)
  ·rw[<- h,d,lC1,lC1,Nat.succ_min_succ,List.range_succ_eq_map,bH,List.all_map];have:((xs.length+1 == ys.length+1):Bool)=(xs.length == ys.length):=by simp
   rw[this,Bool.and_assoc];rfl
def l8(I:Inv X pins σ H s)(hs:Sim X.K H mu S):∀(n:Nat) {A:c5} {d e:D} {v w:V} {u z:cX} {b:Bool},A.units+n<cLine->eQ X.K H mu d v->eQ X.K H mu e w->dF v u->dF w z->kA S n d e=wq b->SeqAt.EqAt A s u z b/\SeqAt.RcAt A s u z b
 |0,_,_,_,_,_,_,_,_,_,_,_,_,_,h=>by cases h
 |n + 1,A,d,e,v,w,u,z,b,hu,Q,o,M,L,h=>by
  have g:A.units<cLine:=by lia
  have h0:=h;rw[kA]at h;cases hd:dG S d with
  |some p=>
   obtain⟨Y,xs⟩:=p;obtain⟨a,vs,rfl,q,t⟩:=dA Q hs hd;obtain⟨k,O,co,_⟩:=eE I q;cases M;cases he:dG S e with
   |some p2=>
    obtain⟨qb,ys⟩:=p2;obtain⟨a2,r,rfl,T,P⟩:=dA o hs he;obtain⟨c,m,i,_⟩:=eE I T;cases L;rw[hd,he]at h;dsimp only at h;have l:SeqAt.RcAt A s (.ref a) (.ref a2) b->SeqAt.EqAt A s (.ref a) (.ref a2) b/\SeqAt.RcAt A s (.ref a) (.ref a2) b:=λrc=>by
     refine⟨?_,rc⟩;by_cases ha:a=a2
     ·subst ha;rw[tY I hs (n+1) Q o h0];exact .same _
     ·exact .of_refs ha rc
    split at h
    ·rename_i N;have hb':Y=qb:=N;subst hb';split at h
     ·rename_i R;cases h;obtain⟨h1,h2⟩:=R;subst h1;refine l (.lists_lengths co i ?_ g);have l1:=t.length;have l2:=P.length;have l3:=O.length;have l4:=m.length
      simp only[sT1,bne_iff_ne,ne_eq];lia
     ·rename_i R;obtain ⟨f,hf,B⟩:=vf _ h;have elts:∀ j (h1:j<k.toArray.size) (h2:j<c.toArray.size),SeqAt.EqAt A.in1 s k.toArray[j] c.toArray[j] (f j):=fun j h1 h2=>by
       have G:j<k.length:=by simpa using h1
       have E:j<c.length:=by simpa using h2
       have k1:j<vs.length:=by rw[O.length];exact G
       have k2:j<r.length:=by rw[m.length];exact E
       obtain⟨x,ex,rx⟩:=t.getV (gG1 k1);obtain⟨y,ey,ry⟩:=P.getV (gG1 k2);obtain⟨u1,C,Z⟩:=O.get (gG1 k1);obtain⟨u2,K,U⟩:=m.get (gG1 k2);have J:k.toArray[j]=u1:=by
        rw[gG1 G]at C;simpa using C
       have W:c.toArray[j]=u2:=by
        rw[gG1 E]at K;simpa using K
       rw[J,W];exact(l8 I hs n (A:=A.in1) (by show A.units+1+n<cLine;lia) rx ry Z U (hf j x y ex ey)).1
      have l1:=t.length;have l2:=P.length;have l3:=O.length;have l4:=m.length
      cases Y with
      |false=>
       refine l ?_;have:=SeqAt.RcAt.tuples co i g elts;rw[B];have J:k.toArray.size=xs.length:=by simp;lia
       have W:c.toArray.size=ys.length:=by simp;lia
       rw[J,W]at this;exact this
      |true=>
       refine l ?_;have F:xs.length=ys.length:=by
        by_cases z:xs.length=ys.length
        ·exact z
        ·exact absurd ⟨ag,z⟩ R
       have:=SeqAt.RcAt.lists co i (by simp;lia) g elts;rw[B];have J:k.toArray.size=xs.length:=by simp;lia
       rw[J]at this;rw[F,Nat.min_self,beq_self_eq_true,bE,<- F];exact this
    ·rename_i N;cases h;cases Y with
     |true=>
      cases qb with
      |true=>exact absurd ag N
      |false=>exact⟨.list_tuple co i g,.list_tuple co i g⟩
     |false=>
      cases qb with
      |false=>exact absurd ag N
      |true=>exact⟨.tuple_list co i g,.tuple_list co i g⟩
   |none=>
    rw[hd,he]at h;dsimp only at h;split at h
    ·rename_i f;cases h;obtain⟨r1,r2,r3,r4⟩:=fc co L (fB o f).1 g;exact⟨r1,r3⟩
    ·cases h
  |none=>
   cases he:dG S e with
   |some p2=>
    obtain⟨qb,ys⟩:=p2;obtain⟨a2,r,rfl,T,P⟩:=dA o hs he;obtain⟨c,m,i,_⟩:=eE I T;cases L;rw[hd,he]at h;dsimp only at h;split at h
    ·rename_i f;cases h;obtain⟨r1,r2,r3,r4⟩:=fc i M (fB Q f).1 g;exact⟨r2,r4⟩
    ·cases h
   |none=>
    rw[hd,he]at h;dsimp only at h;obtain⟨f1,f2⟩:=oy h;obtain⟨g1,g2⟩:=fB Q f1;have g3:=(fB o f2).1;rw[g2 e w o f2]at h;cases h;exact⟨kB M L g1 g3,Cn M L g1 g3⟩
end
def dU:Nat:=60
def gEq:G2:=λd e S=>(kA S dU d e).map λb=>(.bl b,S)
section
variable{X:Cx}
def iE(k:X.A.units+64<cLine):fZ X (compareOp .Eq) (r2 X.K (b2 gEq)):=by
 intro pins s σ H x y u w Q I g j h;obtain⟨mu,S,d,e,r,l,f,r2,c,a,hc⟩:=uv h;obtain⟨b,i,a⟩:=oM1.mp a;cases a;exact(l8 I c dU (by show _+60<cLine;lia) f r2 g j i).2 X.prog X.w X.xe _ ⟨.bl b,H,I,ag,hc.now (.bl b) c⟩
end
section
variable{X:Cx}{pins:List (cZ×Obj)}{σ:L2.St}{H:Hp}{s:cY}{mu:List cZ}{S:Sto}
def CU{A:c5}{x y:V}{u w:cX}(e:dF x u)(a:dF y w)(h:kg x=ai)(f:kg y=ai):SeqAt.RcNeAt A s u w (!uw x y):=by
 cases x with
 |non=>cases e;cases y with
  |non=>cases a;exact .none_none
  |bl k=>cases a;exact .none_bool k
  |int i=>obtain⟨t,rfl⟩:=a;exact .none_int i t
  |str z=>obtain⟨t,rfl⟩:=a;exact .none_str z t
  |_=>cases f
 |bl c=>cases e;cases y with
  |non=>cases a;exact .bool_none c
  |bl k=>cases a;exact .bool_bool c k
  |int i=>obtain⟨t,rfl⟩:=a;exact .bool_int c i t
  |str z=>obtain⟨t,rfl⟩:=a;exact .bool_str c z t
  |_=>cases f
 |int d=>obtain⟨b,rfl⟩:=e;cases y with
  |non=>cases a;exact .int_none d b
  |bl k=>cases a;exact .int_bool d b k
  |int i=>obtain⟨t,rfl⟩:=a;exact .int_int d b i t
  |str z=>obtain⟨t,rfl⟩:=a;exact .int_str d b z t
  |_=>cases f
 |str g=>obtain⟨b,rfl⟩:=e;cases y with
  |non=>cases a;exact .str_none g b
  |bl k=>cases a;exact .str_bool g b k
  |int i=>obtain⟨t,rfl⟩:=a;exact .str_int g b i t
  |str z=>obtain⟨t,rfl⟩:=a;exact .str_str g b z t
  |_=>cases f
 |_=>cases h
def my{A:c5}{b:Bool}{a:cZ}{its:Array cX}{v:V}{u:cX}(c:SCo b s.heap a its)(r:dF v u)(f:kg v=ai)(d:A.units<cLine):SeqAt.RcNeAt A s (.ref a) u ai/\SeqAt.RcNeAt A s u (.ref a) ai:=by
 cases v with
 | non => cases r;cases b
          · exact⟨.tuple_none c d,.none_tuple c d⟩
          · exact⟨.list_none c d,.none_list c d⟩
 | bl k => cases r;cases b
           · exact⟨.tuple_bool k c d,.bool_tuple k c d⟩
           · exact⟨.list_bool k c d,.bool_list k c d⟩
 | int i => obtain ⟨t,rfl⟩:=r;cases b
            · exact⟨.tuple_int i t c d,.int_tuple i t c d⟩
            · exact⟨.list_int i t c d,.int_list i t c d⟩
 | str x => obtain ⟨t,rfl⟩:=r;cases b
            · exact⟨.tuple_str x t c d,.str_tuple x t c d⟩
            · exact⟨.list_str x t c d,.str_list x t c d⟩
 |_=>cases f
def Gf(I:Inv X pins σ H s)(hs:Sim X.K H mu S)(n:Nat){A:c5}{d e:D}{v w:V}{u z:cX}{b:Bool}(hu:A.units+n<cLine)(Z:eQ X.K H mu d v)(F:eQ X.K H mu e w)(M:dF v u)(L:dF w z)(h:kA S n d e=wq b):SeqAt.RcNeAt A s u z (!b):=by
 cases n with
 |zero=>cases h
 |succ n=>
  have g:A.units<cLine:=by lia
  rw[kA]at h;cases hd:dG S d with
  |some p=>
   obtain⟨U,xs⟩:=p;obtain⟨a,vs,rfl,q,t⟩:=dA Z hs hd;obtain⟨k,P,co,_⟩:=eE I q;cases M;cases he:dG S e with
   |some p2=>
    obtain⟨qb,ys⟩:=p2;obtain⟨a2,m,rfl,O,R⟩:=dA F hs he;obtain⟨c,l,i,_⟩:=eE I O;cases L;rw[hd,he]at h;dsimp only at h;have l1:=t.length;have l2:=R.length;have l3:=P.length;have l4:=l.length
    split at h
    ·rename_i K;have W:U=qb:=K;subst W;split at h
     ·rename_i N;cases h;obtain⟨h1,h2⟩:=N;subst h1;refine .lists_lengths co i ?_ g;simp only[sT1,bne_iff_ne,ne_eq];lia
     ·rename_i N;obtain ⟨f,hf,o⟩:=vf _ h;have elts:∀ j (h1:j<k.toArray.size) (h2:j<c.toArray.size),SeqAt.EqAt A.in1 s k.toArray[j] c.toArray[j] (f j):=fun j h1 h2=>by
       have E:j<k.length:=by simpa using h1
       have B:j<c.length:=by simpa using h2
       have k1:j<vs.length:=by rw[P.length];exact E
       have k2:j<m.length:=by rw[l.length];exact B
       obtain⟨x,ex,rx⟩:=t.getV (gG1 k1);obtain⟨y,ey,ry⟩:=R.getV (gG1 k2);obtain⟨u1,r,Y⟩:=P.get (gG1 k1);obtain⟨u2,G,Q⟩:=l.get (gG1 k2);have J:k.toArray[j]=u1:=by
        rw[gG1 E]at r;simpa using r
       have T:c.toArray[j]=u2:=by
        rw[gG1 B]at G;simpa using G
       rw[J,T];exact(l8 I hs n (A:=A.in1) (by show A.units+1+n<cLine;lia) rx ry Y Q (hf j x y ex ey)).1
      cases U with
      |false=>
       have:=SeqAt.RcNeAt.tuples co i g elts;rw[o];have J:k.toArray.size=xs.length:=by simp;lia
       have T:c.toArray.size=ys.length:=by simp;lia
       rw[J,T]at this;exact this
      |true=>
       have C:xs.length=ys.length:=by
        by_cases z:xs.length=ys.length
        ·exact z
        ·exact absurd ⟨ag,z⟩ N
       have:=SeqAt.RcNeAt.lists co i (by simp;lia) g elts;rw[o];have J:k.toArray.size=xs.length:=by simp;lia
       rw[J]at this;rw[C,Nat.min_self,beq_self_eq_true,bE,<- C];exact this
    ·rename_i K;cases h;cases U with
     |true=>
      cases qb with
      |true=>exact absurd ag K
      |false=>exact .list_tuple co i g
     |false=>
      cases qb with
      |false=>exact absurd ag K
      |true=>exact .tuple_list co i g
   |none=>
    rw[hd,he]at h;dsimp only at h;split at h
    ·rename_i f;cases h;exact(my co L (fB F f).1 g).1
    ·cases h
  |none=>
   cases he:dG S e with
   |some p2=>
    obtain⟨qb,ys⟩:=p2;obtain⟨a2,m,rfl,O,R⟩:=dA F hs he;obtain⟨c,l,i,_⟩:=eE I O;cases L;rw[hd,he]at h;dsimp only at h;split at h
    ·rename_i f;cases h;exact(my i M (fB Z f).1 g).2
    ·cases h
   |none=>
    rw[hd,he]at h;dsimp only at h;obtain⟨f1,f2⟩:=oy h;obtain⟨g1,g2⟩:=fB Z f1;have g3:=(fB F f2).1;rw[g2 e w F f2]at h;cases h;exact CU M L g1 g3
end
def gNe:G2:=λd e S=>(kA S dU d e).map λb=>(.bl (!b),S)
def BM(f:D->D->Option Bool)(x:D):List D->Option Bool
 |[]=>wq ah
 |y::ys=>(f y x).bind λb=>(BM f x ys).map λc=>b||c
def HQ:G2:=λd e S=>(dG S e).bind λp=>(BM (kA S dU) d p.2).map λb=>(.bl b,S)
def l5:G2:=λd e S=>(dG S e).bind λp=>(BM (kA S dU) d p.2).map λb=>(.bl (!b),S)
section
variable{X:Cx}
def oZ(k:X.A.units+64<cLine):fZ X (compareOp .NotEq) (r2 X.K (b2 gNe)):=by
 intro pins s σ H x y u w Q I g j h;obtain⟨mu,S,d,e,r,l,f,r2,c,a,hc⟩:=uv h;obtain⟨b,i,a⟩:=oM1.mp a;cases a;exact Gf I c dU (by show _+60<cLine;lia) f r2 g j i X.prog X.w X.xe _ ⟨.bl (!b),H,I,ag,hc.now (.bl _) c⟩
def AT(f:D->D->Option Bool)(x:D):∀{ys:List D} {b:Bool},BM f x ys=wq b -> ∃bs:List Bool,bs.length=ys.length/\(∀(j:Nat) (y:D) (k:Bool),ys[j]?=wq y->bs[j]?=wq k->f y x=wq k)/\b=bs.any id
 |[],b,h=>by cases h;exact⟨[],ag,λj y k h=>by simp at h,ag⟩
 |y::ys,b,h=>by
  rw[BM]at h;obtain⟨b1,g,h⟩:=oB1.mp h;obtain⟨b2,m,h⟩:=oM1.mp h;obtain⟨bs,l,e,a⟩:=AT f x m;refine⟨b1::bs,by simp[l],λj i k c d=>?_,?_⟩
  ·cases j with
   |zero=>simp at c d;subst c;subst d;exact g
   |succ j=>exact e j i k (by simpa using c) (by simpa using d)
  ·rw[<- h,a];simp
open Classical in
def ED{pins:List (cZ×Obj)}{σ:L2.St}{H:Hp}{s:cY}{mu:List cZ}{S:Sto}(I:Inv X pins σ H s)(hs:Sim X.K H mu S){A:c5}(J:A.units+61<cLine){x:D}{v:V}{u:cX}(B:eQ X.K H mu x v)(r:dF v u){ys:List D}{vs:List V}{a:List cX}{b:Bool}(p:dB X.K H mu ys vs)(o:dQ vs a)(h:BM (kA S dU) x ys=wq b):∃e:cX->Bool,(∀w∈a,SeqAt.EqAt A.in1 s w u (e w))/\a.any e=b:=by
 obtain⟨bs,G,E,rfl⟩:=AT _ x h;have K:=p.length;have M:=o.length;have at_:∀(j:Nat) w k,a[j]?=wq w->bs[j]?=wq k->SeqAt.EqAt A.in1 s w u k:=λj w k g f=>by
  have m:j<a.length:=(gE1.mp g).1;obtain⟨y,t,C⟩:=p.getV (i:=j) (v:=vs[j]'(by lia)) (gG1 (by lia));obtain⟨L,n,r2⟩:=o.get (i:=j) (x:=vs[j]'(by lia)) (gG1 (by lia));rw[g]at n;cases n;exact(l8 I hs dU (A:=A.in1) (by show A.units+1+60<cLine;lia) C B r2 r (E j y k t f)).1
 refine⟨λw=>decide (∃j:Nat,a[j]?=wq w/\bs[j]?=wq ai),λw g=>?_,?_⟩
 ·by_cases z:∃j:Nat,a[j]?=wq w/\bs[j]?=wq ai
  ·dsimp only;rw[decide_eq_true z];obtain⟨j,q,c⟩:=z;exact at_ j w ai q c
  ·dsimp only;rw[decide_eq_false z];obtain⟨j,d⟩:=bh g;have m:j<a.length:=(gE1.mp d).1;have l:j<bs.length:=by lia
   have c:=gG1 l;cases f:bs[j]with
   |true=>rw[f]at c;exact absurd ⟨j,d,c⟩ z
   |false=>rw[f]at c;exact at_ j w ah d c
 ·rw[bI,bJ,bJ];constructor
  ·rintro⟨w,g,z⟩;obtain⟨j,q,c⟩:=of_decide_eq_true z;exact⟨ai,gM1 c,ag⟩
  ·rintro⟨k,f,z⟩;obtain⟨j,d⟩:=bh f;have m:j<bs.length:=(gE1.mp d).1;have l:j<a.length:=by lia
   have F:k=ai:=z;subst F;exact⟨a[j],bK l,decide_eq_true ⟨j,gG1 l,d⟩⟩
def KQ(D:X.A.units+64<cLine):fZ X (compareOp .In) (r2 X.K (b2 HQ)):=by
 intro pins s σ H x y u w Q I z C h;obtain⟨mu,S,d,e,r,E,o,r2,k,g,hc⟩:=uv h;obtain⟨⟨v,ys⟩,B,g⟩:=oB1.mp g;obtain⟨b,p,g⟩:=oM1.mp g;cases g;obtain⟨a,vs,rfl,q,t⟩:=dA r2 k B;cases C;obtain⟨c,n,co,_⟩:=eE I q;obtain⟨f,l,m⟩:=ED I k (A:=X.A) (by lia) o z t n p;have i:EP X pins σ Q (.bool (c.toArray.any f)) s:=⟨.bl b,H,I,by rw[show c.toArray.any f=c.any f by simp,m];rfl,hc.now (.bl b) k⟩;cases v
 ·exact SeqAt.in_tupleAt f co (λy j=>l y (by simpa using j)) i
 ·exact SeqAt.in_listAt f co (λy j=>l y (by simpa using j)) i
def CS(D:X.A.units+64<cLine):fZ X (compareOp .NotIn) (r2 X.K (b2 l5)):=by
 intro pins s σ H x y u w Q I z C h;obtain⟨mu,S,d,e,r,E,o,r2,k,g,hc⟩:=uv h;obtain⟨⟨v,ys⟩,B,g⟩:=oB1.mp g;obtain⟨b,p,g⟩:=oM1.mp g;cases g;obtain⟨a,vs,rfl,q,t⟩:=dA r2 k B;cases C;obtain⟨c,n,co,_⟩:=eE I q;obtain⟨f,l,m⟩:=ED I k (A:=X.A) (by lia) o z t n p;have i:EP X pins σ Q (.bool (!c.toArray.any f)) s:=⟨.bl (!b),H,I,by rw[show c.toArray.any f=c.any f by simp,m];rfl,hc.now (.bl _) k⟩;cases v
 ·exact SeqAt.notIn_tupleAt f co (λy j=>l y (by simpa using j)) i
 ·exact SeqAt.notIn_listAt f co (λy j=>l y (by simpa using j)) i
end
def dM:G1:=λd S=>match d with
 | .str x=>if x.length<=c9 then wq (.int x.length,S)else aj
 |_=>(dG S d).map λp=>(.int p.2.length,S)
def BO:G2:=λd e S=>match e with
 | .int i=>(dG S d).bind λp=>(vq p.2 i).map λx=>(x,S)
 |_=>aj
def gTup:G1:=λd S=>(dG S d).map λp=>(.tup p.2,S)
def rF:G1:=λd S=>(dG S d).map λp=>(.ref S.length,S++[.lst p.2])
def kx:G3:=λo i v S=>match o,i with
 | .ref n,.int k=>match S[n]? with
  |some (.lst xs)=>(xV xs.length k).map λj=>(.non,S.set n (.lst (xs.set j v)))
  |_=>aj
 |_,_=>aj
def By:List D->Option Bool
 |[]=>wq ai
 | .bl b::r=>(By r).map λc=>b&&c
 |_=>aj
def Bu:List D->Option Bool
 |[]=>wq ah
 | .bl b::r=>(Bu r).map λc=>b||c
 |_=>aj
def rJ:G1:=λd S=>(dG S d).bind λp=>(By p.2).map λb=>(.bl b,S)
def DN:G1:=λd S=>(dG S d).bind λp=>(Bu p.2).map λb=>(.bl b,S)
def o5:G1:=λd S=>match d with
 | .int i=>wq (.int i,S)
 | .bl b=>wq (.int (if b then 1 else 0),S)
 |_=>aj
def DG:G2:=λd e S=>match d,e with
 | .int i,.int j=>wq (.int (if j>i then j else i),S)
 |_,_=>aj
def u8:G2:=λd e S=>match d,e with
 | .int i,.int j=>wq (.int (if j<i then j else i),S)
 |_,_=>aj
section
variable{X:Cx}
def d8:eg X (.builtin "len") (rN X.K (b1 dM)):=by
 intro pins s σ H xs g Q I r h;obtain⟨x,mu,S,d,k,l,rfl,f,e,c,hc⟩:=v9 h;unfold dM at c;split at c
 ·split at c
  ·rename_i z j;cases c;cases f;exact rZ pins s σ H _ g Q I r ⟨_,ag,j,hc.now (.int _) e⟩
  ·cases c
 ·obtain⟨⟨b,ys⟩,i,c⟩:=oM1.mp c;cases c;obtain⟨a,vs,rfl,q,t⟩:=dA f e i;refine r0 pins s σ H _ g Q I r ⟨a,vs,ag,?_,?_⟩
  ·cases b
   ·exact .inr q
   ·exact .inl q
  ·rw[<- t.length];exact hc.now (.int _) e
def D3{K:Fg1}{H:Hp}{mu:List cZ}{ds:List D}{vs:List V}{i:Int}{d:D}(t:dB K H mu ds vs)(h:vq ds i=wq d):∃v,vq vs i=wq v/\eQ K H mu d v:=by
 unfold vq at h ⊢;rw[<- t.length];obtain⟨j,b,h⟩:=oB1.mp h;obtain⟨v,c,a⟩:=t.get h;exact⟨v,by rw[b];exact c,a⟩
def Kq:EW X (r2 X.K (b2 BO)):=by
 intro value c pins s σ H x y v u Q I m n h g;obtain⟨mu,S,d,e,r,B,p,r2,j,f,hc⟩:=uv h;cases e with
 |int i=>
  obtain⟨⟨b,ys⟩,A,f⟩:=oB1.mp f;obtain⟨z,w,f⟩:=oM1.mp f;cases f;cases r2;obtain⟨a,vs,rfl,q,t⟩:=dA p j A;obtain⟨l,o,k⟩:=D3 t w;cases b
  ·exact G0 value c pins s σ H _ _ v u Q I m n ⟨a,vs,i,l,ag,ag,q,o,hc.now k j⟩ g
  ·exact Dt value c pins s σ H _ _ v u Q I m n ⟨a,vs,i,l,ag,ag,q,o,hc.now k j⟩ g
 |_=>cases f
def fQ:eg X (.type "tuple") (rN X.K (b1 gTup)):=by
 intro pins s σ H xs j Q I r h;obtain⟨x,mu,S,d,k,m,rfl,g,c,f,hc⟩:=v9 h;obtain⟨⟨b,ys⟩,i,f⟩:=oM1.mp f;cases f;obtain⟨a,vs,rfl,q,t⟩:=dA g c i;refine pb pins s σ H _ j Q I r ⟨a,vs,ag,?_⟩;cases b
 ·exact .inr ⟨q,hc.now (.tup q t) c⟩
 ·exact .inl ⟨q,λl e=>hc _ _ mu (Ext.fresh e) (.tup (jL.of dP) (t.ext (Ext.fresh e))) (c.fresh e)⟩
def vo:eg X (.type "list") (rN X.K (b1 rF)):=by
 intro pins s σ H xs j Q I r h;obtain⟨x,mu,S,d,k,m,rfl,g,c,e,hc⟩:=v9 h;obtain⟨⟨b,ys⟩,i,e⟩:=oM1.mp e;cases e;obtain⟨a,vs,rfl,q,t⟩:=dA g c i;refine rY pins s σ H _ j Q I r ⟨a,vs,ag,?_,λl f=>hc _ _ (mu++[l]) (Ext.new_ f) (.ref (gp c.len l)) (c.newL t f)⟩;cases b
 ·exact .inr q
 ·exact .inl q
def Ir:vz X (rU X.K (b3 kx)):=by
 intro pins s σ H o i v l r u Q I m q x h;obtain⟨mu,S,ds,d,G,B,f,a,hc⟩:=h;cases B with
 |cons A g=>cases g with
  |cons p z=>cases z with
   |cons w C=>
    cases C;rename_i F E D;dsimp only[b3]at a;unfold kx at a;split at a
    ·rename_i n k;split at a
     ·rename_i xs e;obtain⟨j,y,a⟩:=oM1.mp a;cases a;cases A with
      |ref c=>
       cases p;obtain⟨vs,b,t⟩:=f.lst e c;refine zr pins s σ H _ _ v l r u Q I m q x ⟨_,vs,k,j,ag,ag,b,by rw[<- t.length];exact y,?_⟩;exact hc _ mu (Ext.put b trivial (gM1 c)) (f.putL (t.set w j) c b)
     ·cases a
    ·cases a
def D6{K:Fg1}{H:Hp}{mu:List cZ}:∀{ds:List D} {vs:List V} {a:List cX} {b:Bool},dB K H mu ds vs->dQ vs a->By ds=wq b -> ∃bs:List Bool,a=bs.map Value.bool/\b=bs.all id:=by
 intro ds
 induction ds with
 |nil=>intro vs a b r v h;cases r;cases v;cases h;exact⟨[],ag,ag⟩
 |cons d ds ih=>
  intro vs a b r v h;cases r with
  |cons f t=>
   cases v with
   |cons r i=>
    cases f
    case bl k=>
     obtain⟨c,e,h⟩:=oM1.mp h;obtain⟨bs,g,j⟩:=ih t i e;cases r;exact⟨k::bs,by rw[g];rfl,by rw[<- h,j];rfl⟩
    all_goals cases h
def D4{K:Fg1}{H:Hp}{mu:List cZ}:∀{ds:List D} {vs:List V} {a:List cX} {b:Bool},dB K H mu ds vs->dQ vs a->Bu ds=wq b -> ∃bs:List Bool,a=bs.map Value.bool/\b=bs.any id:=by
 intro ds
 induction ds with
 |nil=>intro vs a b r v h;cases r;cases v;cases h;exact⟨[],ag,ag⟩
 |cons d ds ih=>
  intro vs a b r v h;cases r with
  |cons f t=>
   cases v with
   |cons r i=>
    cases f
    case bl k=>
     obtain⟨c,e,h⟩:=oM1.mp h;obtain⟨bs,g,j⟩:=ih t i e;cases r;exact⟨k::bs,by rw[g];rfl,by rw[<- h,j];rfl⟩
    all_goals cases h
def pp(bs:List Bool):(List.range bs.length).all (λi=>bs.getD i ai)=bs.all id:=by
 rw[bI,bq,bq];constructor
 ·intro h b c;obtain⟨i,hi,rfl⟩:=List.mem_iff_getElem.mp c;have:=h i (ar.mpr hi);simpa[bB,hi]using this
 ·intro h i hi;have a:=ar.mp hi;have:=h _ (bK a);simpa[bB,a]using this
def pk(bs:List Bool):(List.range bs.length).any (λi=>bs.getD i ai)=bs.any id:=by
 rw[bI,bJ,bJ];constructor
 ·rintro⟨i,hi,h⟩;have a:=ar.mp hi;exact⟨bs[i],bK a,by simpa[bB,a]using h⟩
 ·rintro⟨b,c,h⟩;obtain⟨i,hi,rfl⟩:=List.mem_iff_getElem.mp c;exact⟨i,ar.mpr hi,by simpa[bB,hi]using h⟩
def uE{s:cY}{b:Bool}{a:cZ}{bs:List Bool}(hc:X.A.handled=aj)(co:SCo b s.heap a (bs.map Value.bool).toArray){Q:cX->cY->Prop}(all:∀h' tk,(∀c o,s.heap.get? c=wq o->h'.get? c=wq o)->Q (.bool (bs.all id)) {s with heap:=h',toks:=tk}):da (model X.prog X.w) X.A (call (.builtin "all") [.ref a]) Q X.xe s:=by
 refine call_all_walk (iB co ?_);have g:a<s.heap.objs.size:=by cases b<;>(obtain⟨o,e,_⟩:=co;exact hL1 e)
 have ne:a≠s.heap.objs.size:=nN1 g;have j:TruthOf X.prog X.w X.A.in1 (λi v=>(bs.map Value.bool).toArray[i]?=wq v) (λi=>bs.getD i ai):=λi v s' p n m h=>by
  have f:(bs.map Value.bool)[i]?=wq v:=by simpa using m
  rw[gP1]at f;obtain⟨k,l,rfl⟩:=oM1.mp f;dsimp only at h;rw[bB,l]at h;exact wpAny_truthy_bool h
 have keep:∀(h':db),(∀c o,c∉[s.heap.objs.size]->(s.heap.push (fA b a)).get? c=wq o->h'.get? c=wq o) -> ∀c o,s.heap.get? c=wq o->h'.get? c=wq o:=λh' d c o e=>
  d c o (by simpa using nN1 (hL1 e)) (hP1 _ e)
 have hi:(s.heap.push (fA b a)).get? s.heap.objs.size=wq (fA b a):=hS1 _ (by cases b<;>rfl);cases b with
 |true=>
  refine⟨s.heap.objs.size,_,_,_,_,_,_,ag,Walks.list (A:=X.A.in1) hc s.heap.objs.size a ne (bs.map Value.bool).toArray,⟨⟨_,hi,ag,ag⟩,SCo.to (b:=ai) co λo e=>hP1 _ e⟩,j,λh' tk d=>?_⟩;have e:(bs.map Value.bool).toArray.size=bs.length:=by simp
  rw[e,pp];exact all h' tk (keep h' d)
 |false=>
  refine⟨s.heap.objs.size,_,_,_,_,_,_,ag,Walks.tuple (A:=X.A.in1) hc s.heap.objs.size a ne (bs.map Value.bool).toArray,⟨⟨_,hi,ag,ag⟩,SCo.to (b:=ah) co λo e=>hP1 _ e⟩,j,λh' tk d=>?_⟩;have e:(bs.map Value.bool).toArray.size=bs.length:=by simp
  rw[e,pp];exact all h' tk (keep h' d)
def walk_bools'{s:cY}{b:Bool}{a:cZ}{bs:List Bool}(hc:X.A.handled=aj)(co:SCo b s.heap a (bs.map Value.bool).toArray){Q:cX->cY->Prop}(all:∀h' tk,(∀c o,s.heap.get? c=wq o->h'.get? c=wq o)->Q (.bool (bs.any id)) {s with heap:=h',toks:=tk}):da (model X.prog X.w) X.A (call (.builtin "any") [.ref a]) Q X.xe s:=by
 refine call_any_walk (iB co ?_);have g:a<s.heap.objs.size:=by cases b<;>(obtain⟨o,e,_⟩:=co;exact hL1 e)
 have ne:a≠s.heap.objs.size:=nN1 g;have j:TruthOf X.prog X.w X.A.in1 (λi v=>(bs.map Value.bool).toArray[i]?=wq v) (λi=>bs.getD i ai):=λi v s' p n m h=>by
  have f:(bs.map Value.bool)[i]?=wq v:=by simpa using m
  rw[gP1]at f;obtain⟨k,l,rfl⟩:=oM1.mp f;dsimp only at h;rw[bB,l]at h;exact wpAny_truthy_bool h
 have keep:∀(h':db),(∀c o,c∉[s.heap.objs.size]->(s.heap.push (fA b a)).get? c=wq o->h'.get? c=wq o) -> ∀c o,s.heap.get? c=wq o->h'.get? c=wq o:=λh' d c o e=>
  d c o (by simpa using nN1 (hL1 e)) (hP1 _ e)
 have hi:(s.heap.push (fA b a)).get? s.heap.objs.size=wq (fA b a):=hS1 _ (by cases b<;>rfl);cases b with
 |true=>
  refine⟨s.heap.objs.size,_,_,_,_,_,_,ag,Walks.list (A:=X.A.in1) hc s.heap.objs.size a ne (bs.map Value.bool).toArray,⟨⟨_,hi,ag,ag⟩,SCo.to (b:=ai) co λo e=>hP1 _ e⟩,j,λh' tk d=>?_⟩;have e:(bs.map Value.bool).toArray.size=bs.length:=by simp
  rw[e,pk];exact all h' tk (keep h' d)
 |false=>
  refine⟨s.heap.objs.size,_,_,_,_,_,_,ag,Walks.tuple (A:=X.A.in1) hc s.heap.objs.size a ne (bs.map Value.bool).toArray,⟨⟨_,hi,ag,ag⟩,SCo.to (b:=ah) co λo e=>hP1 _ e⟩,j,λh' tk d=>?_⟩;have e:(bs.map Value.bool).toArray.size=bs.length:=by simp
  rw[e,pk];exact all h' tk (keep h' d)
def EO(hc:X.calm=ai):eg X (.builtin "all") (rN X.K (b1 rJ)):=by
 intro pins s σ H xs p Q I r h;obtain⟨x,mu,S,d,v,w,rfl,i,f,c,e⟩:=v9 h;obtain⟨⟨b,ys⟩,m,c⟩:=oB1.mp c;obtain⟨k,l,c⟩:=oM1.mp c;cases c;obtain⟨a,vs,rfl,q,t⟩:=dA i f m;obtain⟨u,rfl,j⟩:=gX r;cases j;obtain⟨n,g,co,_⟩:=eE I q;obtain⟨bs,rfl,rfl⟩:=D6 t g l;exact uE (I.ok.hd hc) co λh' tk o=>⟨.bl _,H,I.kept o,ag,e.now (.bl _) f⟩
def JO(hc:X.calm=ai):eg X (.builtin "any") (rN X.K (b1 DN)):=by
 intro pins s σ H xs p Q I r h;obtain⟨x,mu,S,d,v,w,rfl,i,f,c,e⟩:=v9 h;obtain⟨⟨b,ys⟩,m,c⟩:=oB1.mp c;obtain⟨k,l,c⟩:=oM1.mp c;cases c;obtain⟨a,vs,rfl,q,t⟩:=dA i f m;obtain⟨u,rfl,j⟩:=gX r;cases j;obtain⟨n,g,co,_⟩:=eE I q;obtain⟨bs,rfl,rfl⟩:=D4 t g l;exact walk_bools' (I.ok.hd hc) co λh' tk o=>⟨.bl _,H,I.kept o,ag,e.now (.bl _) f⟩
def ui:eg X (.type "int") (rN X.K (b1 o5)):=by
 intro pins s σ H xs f Q I r h;obtain⟨x,mu,S,d,g,j,rfl,c,e,a,hc⟩:=v9 h;cases d with
 |int i=>cases a;cases c;exact pU pins s σ H _ f Q I r (.inl ⟨i,ag,hc.now (.int _) e⟩)
 |bl b=>cases a;cases c;exact pU pins s σ H _ f Q I r (.inr ⟨b,ag,hc.now (.int _) e⟩)
 |_=>cases a
def JN(hc:X.calm=ai):eg X (.builtin "max") (rN X.K (b2 DG)):=by
 intro pins s σ H xs g Q I r h;obtain⟨x,y,mu,S,d,e,i,j,rfl,c,r2,f,a,b⟩:=zz h;unfold DG at a;split at a
 ·cases a;cases c;cases r2;exact yo hc pins s σ H _ g Q I r ⟨_,_,ag,b.now (.int _) f⟩
 ·cases a
def EN(hc:X.calm=ai):eg X (.builtin "min") (rN X.K (b2 u8)):=by
 intro pins s σ H xs g Q I r h;obtain⟨x,y,mu,S,d,e,i,j,rfl,c,r2,f,a,b⟩:=zz h;unfold u8 at a;split at a
 ·cases a;cases c;cases r2;exact yn hc pins s σ H _ g Q I r ⟨_,_,ag,b.now (.int _) f⟩
 ·cases a
end
open PySem.SeqAt
open PySem.AutoSeq1 (wpAny_loadPart')
open PySem.MeetsSeq PySem.MeetsSeq2 PySem.MeetsSeq3
def Ea(A:c5)(s:cY)(y x:cX)(b:Bool):Prop:=∀(prog:c0) (w:c6) (E:cX->cY->Prop) (Q:cX->cY->Prop),Q (.bool b) s->da (model prog w) A (richCompare .Lt y x) Q E s
inductive yz (A:c5)(s:cY):List cX->List cX->Bool->Prop
 |nn:yz A s [] [] false
 |nc (y:cX) (ys:List cX):yz A s [] (y::ys) true
 |cn (x:cX) (xs:List cX):yz A s (x::xs) [] false
 |eq {x y:cX} {xs ys:List cX} {k:Bool} (e:EqAt A.in1 s x y true) (t:yz A s xs ys k):yz A s (x::xs) (y::ys) k
 |lt {x y:cX} {xs ys:List cX} {k:Bool} (e:EqAt A.in1 s x y false) (t:Ea A.in1 s x y k):yz A s (x::xs) (y::ys) k
def E6(l b:cZ)(items items2:Array cX)(n C:Nat)(D m:Option cZ)(G o:Array (Option cX))(c:Bool):
  Meets (Builtin.«tuple.__lt__» ⟨[.ref l,.ref b],[]⟩) (fun A R s=>s.heap.get? l=some {cls:=.type "tuple",dict:=D,data:=.seq items n,slots:=G}/\s.heap.get? b=some {cls:=.type "tuple",dict:=m,data:=.seq items2 C,slots:=o} /\
    yz A s items.toList items2.toList c/\R (.ok (.ret (.bool c))) s):=
 .of_wp λprog w A R s h=>by
  obtain⟨u,g,d,tk,v⟩:=s;obtain⟨B,E,z,h⟩:=h;have I:=AutoSeq1.sub_tuple_tuple
  wp_walk using wpAny_loadPart' B,wpAny_loadPart' E,wpAny_forIn_list _ (λrest b s'=>b.1=aj/\s'=⟨u,g,d,tk,v⟩ /\ ∃vs ws:List cX,rest=vs.zip ws/\yz A ⟨u,g,d,tk,v⟩ vs ws c/\vs.length+items2.size=ws.length+items.size) _
  case turn=>
   rintro⟨y,x⟩ rest b s' ⟨k,rfl,vs,ws,f,r,a⟩;cases r with
   |nn=>cases f
   |nc _ _=>cases f
   |cn _ _=>cases f
   |eq e t=>
    rw[bL]at f;injection f with j i;injection j with q p;subst q p
    simp only[lC1]at a;refine wB1 (e prog w _ _ ?_)
    wp_walk
    exact⟨ag,ag,_,_,i,t,by lia⟩
   |lt e t=>
    rw[bL]at f;injection f with j i;injection j with q p;subst q p
    refine wB1 (e prog w _ _ ?_);have H:=t prog w
    wp_walk using H
    exact⟨_,ag,by simpa using h⟩
  case fin=>
   rintro⟨b1,b2⟩ s' ⟨k,rfl,vs,ws,f,r,a⟩;simp only at k;subst k;have F:c=decide (items.size<items2.size):=by
    cases r with
    |nn=>simp only[aV]at a;exact(decide_eq_false (by lia)).symm
    |nc _ _=>simp only[aV,lC1]at a;exact(decide_eq_true (by lia)).symm
    |cn _ _=>simp only[aV,lC1]at a;exact(decide_eq_false (by lia)).symm
    |eq _ _=>rw[bL]at f;cases f
    |lt _ _=>rw[bL]at f;cases f
   rw[F]at h
   wp_walk
   exact⟨_,ag,by simpa[Builtin.Tuple.tupleCompareSizes]using h⟩
  case h=>exact⟨ag,ag,items.toList,items2.toList,ag,z,by simp;lia⟩
def AA(l b:cZ)(items items2:Array cX)(n C:Nat)(F u:Option cZ)(H z:Array (Option cX))(c:Bool)(k:Nat):
  ∀i:Nat,items.size-i=k->i<=items.size->i<=items2.size->Meets (Builtin.«list.__eq__.loop» ⟨[.ref l,.ref b,rawInt i,rawInt 0],[]⟩)
   (λA R s=>s.heap.get? l=wq {cls:=.type "list",dict:=F,data:=.seq items n,slots:=H}/\s.heap.get? b=wq {cls:=.type "list",dict:=u,data:=.seq items2 C,slots:=z} /\
    yz A s (items.toList.drop i) (items2.toList.drop i) c/\R (.ok (.ret (.bool c))) s):=by
 induction k with
 |zero=>
  intro i K v r prog w A R s h;obtain⟨E,g,d,tk,I⟩:=s;obtain⟨f,j,a,h⟩:=h
  wp_walk using wpAny_loadPart' f,wpAny_loadPart' j
  have p:items[((i:Nat):Int).toNat]?=aj:=by simp;lia
  have B:items.toList.drop i=[]:=by simp;lia
  rw[B]at a;rw[p]
  wp_walk using wpAny_loadPart' f,wpAny_loadPart' j
  have G:c=decide (items.size<items2.size):=by
   cases h2:items2.toList.drop i with
   |nil=>
    rw[h2]at a;cases a;have:=congrArg List.length h2;simp at this;exact(decide_eq_false (by lia)).symm
   |cons y ys=>
    rw[h2]at a;cases a;have:=congrArg List.length h2;simp at this;exact(decide_eq_true (by lia)).symm
  show R (.ok (.ret (.bool (decide (items.size<items2.size))))) _;rw[<- G];exact h
 |succ k ih=>
  intro i K v r prog w A R s h;obtain⟨E,g,d,tk,I⟩:=s;obtain⟨f,j,a,h⟩:=h;have o:i<items.size:=by lia
  have B:items.toList.drop i=items[i]::items.toList.drop (i+1):=by simp[List.drop_eq_getElem_cons,o]
  have p:items[((i:Nat):Int).toNat]?=wq items[i]:=by simp[o]
  have hc:((i:Int)+1)=((i+1:Nat):Int):=by push_cast;rfl
  rw[B]at a;rcases bM i items2.size with m|D
  ·have x:items2.toList.drop i=items2[i]::items2.toList.drop (i+1):=by simp[List.drop_eq_getElem_cons,m]
   have q:items2[((i:Nat):Int).toNat]?=wq items2[i]:=by simp[m]
   rw[x]at a
   wp_walk using wpAny_loadPart' f,wpAny_loadPart' j
   rw[p,q];cases a with
   |eq e t=>
    refine wB1 (e prog w _ _ ?_)
    wp_walk
    rw[hc];exact⟨plainId_quiet plain_eq_loop _,wD1 entry_eq_loop (by rw[Around.under_plainId plain_eq_loop _];exact ih (i+1) (by lia) (by lia) (by lia) prog w A R _ ⟨f,j,t,h⟩)⟩
   |lt e t=>
    refine wB1 (e prog w _ _ ?_);have J:=t prog w
    wp_walk using wpAny_loadPart' f,wpAny_loadPart' j
    rw[p,q]
    wp_walk using J
    simpa using h
  ·have q:items2[((i:Nat):Int).toNat]?=aj:=by simp;lia
   have x:items2.toList.drop i=[]:=by simp;lia
   rw[x]at a;cases a
   wp_walk using wpAny_loadPart' f,wpAny_loadPart' j
   rw[p,q]
   wp_walk using wpAny_loadPart' f,wpAny_loadPart' j
   show R (.ok (.ret (.bool (decide (items.size<items2.size))))) _;rw[decide_eq_false (by lia)];exact h
def GO(l b:cZ)(items items2:Array cX)(n k:Nat)(m e:Option cZ)(f a:Array (Option cX))(c:Bool):
  Meets (Builtin.«list.__lt__» ⟨[.ref l,.ref b],[]⟩) (fun A R s=>s.heap.get? l=some {cls:=.type "list",dict:=m,data:=.seq items n,slots:=f}/\s.heap.get? b=some {cls:=.type "list",dict:=e,data:=.seq items2 k,slots:=a} /\
    yz A s items.toList items2.toList c/\R (.ok (.ret (.bool c))) s):=by
 intro prog w A R s h;obtain⟨r,g,d,tk,q⟩:=s;obtain⟨j,i,o,h⟩:=h;have p:=AutoSeq1.sub_list_list
 wp_walk using wpAny_loadPart' j,wpAny_loadPart' i
 exact⟨plainId_quiet plain_eq_loop _,wD1 entry_eq_loop (by rw[Around.under_plainId plain_eq_loop _];exact AA l b items items2 n k m e f a c _ 0 ag (aZ _) (aZ _) prog w A R _ ⟨j,i,by simpa using o,h⟩)⟩
def Fk{A:c5}{s:cY}{k:Bool}{l b:cZ}{xs ys:Array cX}{c:Bool}(B:SCo k s.heap l xs)(y:SCo k s.heap b ys)(z:A.units<cLine)(h:yz A s xs.toList ys.toList c):Ea A s (.ref l) (.ref b) c:=λprog w E Q q=>by
 cases k
 ·obtain⟨⟨t,v,p,r⟩,o,hc,n,m⟩:=id B;obtain⟨⟨j,f,i,g⟩,a,d,u,e⟩:=id y;simp only at hc m d e;subst hc m d e;exact richCompare_meets_room (op:=.Lt) ⟨_,o,ag⟩ ⟨_,a,ag⟩ PySem.F.slot_tuple_lt PySem.F.entry_tuple_lt (PySem.F.args_tuple_lt_2 _ _) (E6 l b xs ys n u v f r g c) ⟨o,a,h,show Value.bool c≠Value.notImplemented/\Q (.bool c) s from⟨(λx=>nomatch x),q⟩⟩ z
 ·obtain⟨⟨t,v,p,r⟩,o,hc,n,m⟩:=id B;obtain⟨⟨j,f,i,g⟩,a,d,u,e⟩:=id y;simp only at hc m d e;subst hc m d e;exact richCompare_meets_room (op:=.Lt) ⟨_,o,ag⟩ ⟨_,a,ag⟩ PySem.F.slot_list_lt PySem.F.entry_list_lt (PySem.F.args_list_lt_2 _ _) (GO l b xs ys n u v f r g c) ⟨o,a,h,show Value.bool c≠Value.notImplemented/\Q (.bool c) s from⟨(λx=>nomatch x),q⟩⟩ z
def Jk(f g:D->D->Option Bool):List D->List D->Option Bool
 |[],[]=>wq ah
 |[],_::_=>wq ai
 |_::_,[]=>wq ah
 |x::xs,y::ys=>(f x y).bind λb=>if b=ai then Jk f g xs ys else g x y
def KY:D->D->Option Bool
 | .int i,.int j=>wq (decide (i<j))
 | .str x,.str y=>wq (decide (x.cps.toList<y.cps.toList))
 |_,_=>aj
def Ew(S:Sto):Nat->D->D->Option Bool
 |0,_,_=>aj
 |n+1,d,e=>match KY d e with
  |some b=>wq b
  |none=>match dG S d,dG S e with
   |some p,wq q=>if p.1=q.1 then Jk (kA S n) (Ew S n) p.2 q.2 else aj
   |_,_=>aj
def gLt:G2:=λd e S=>(Ew S dU d e).map λb=>(.bl b,S)
section
variable{X:Cx}{pins:List (cZ×Obj)}{σ:L2.St}{H:Hp}{s:cY}{mu:List cZ}{S:Sto}
def GN(I:Inv X pins σ H s)(hs:Sim X.K H mu S){n:Nat}{A:c5}(p:A.units+1+n<cLine)(ih:∀ {d e:D} {v w:V} {u z:cX} {b:Bool},eQ X.K H mu d v->eQ X.K H mu e w->dF v u->dF w z->Ew S n d e=some b->Ea A.in1 s u z b):
  ∀{xs ys:List D} {vs ws:List V} {f zs:List cX} {b:Bool},dB X.K H mu xs vs->dB X.K H mu ys ws->dQ vs f->dQ ws zs->Jk (kA S n) (Ew S n) xs ys=wq b->yz A s f zs b
 :=by
 intro xs
 induction xs with
 |nil=>
  intro ys vs ws f zs b a r2 g c h;cases a;cases g;cases r2 with
  |nil=>cases c;cases h;exact .nn
  |cons _ _=>cases c;cases h;exact .nc _ _
 |cons x xs o=>
  intro ys vs ws f zs b a r2 g c h;cases a with
  |cons a m=>
   cases g with
   |cons i l=>
    cases r2 with
    |nil=>cases c;cases h;exact .cn _ _
    |cons r2 r=>
     cases c with
     |cons j p2=>
      rw[Jk]at h;obtain⟨k,q,h⟩:=oB1.mp h;have eq:=(l8 I hs n (A:=A.in1) p a r2 i j q).1;cases k with
      |true=>exact .eq eq (o m r l p2 h)
      |false=>exact .lt eq (ih a r2 i j h)
def Az(I:Inv X pins σ H s)(hs:Sim X.K H mu S):∀(n:Nat) {A:c5} {d e:D} {v w:V} {u z:cX} {b:Bool},A.units+n<cLine->eQ X.K H mu d v->eQ X.K H mu e w->dF v u->dF w z->Ew S n d e=wq b->Ea A s u z b
 |0,_,_,_,_,_,_,_,_,_,_,_,_,_,h=>by cases h
 |n + 1,A,d,e,v,w,u,z,b,U,o,j,f,r,h=>by
  rw[Ew]at h;split at h
  ·rename_i k c;cases h;unfold KY at c;split at c
   ·cases c;cases o;cases j;obtain⟨t,rfl⟩:=f;obtain⟨m,rfl⟩:=r;exact λprog w E Q q=>(PyProof.Rows.lt_int q:da (model prog w) A (compareOp .Lt (.int _ t) (.int _ m)) Q E s)
   ·cases c;cases o;cases j;obtain⟨t,rfl⟩:=f;obtain⟨m,rfl⟩:=r;exact λprog w E Q q=>(PyProof.Rows.lt_str q:da (model prog w) A (compareOp .Lt (.str _ t) (.str _ m)) Q E s)
   ·cases c
  ·split at h
   ·rename_i p q C T;split at h
    ·rename_i J;obtain⟨P,xs⟩:=p;obtain⟨qb,ys⟩:=q;have l:P=qb:=J;subst l;obtain⟨a,vs,rfl,R,B⟩:=dA o hs C;obtain⟨a2,y,rfl,F,M⟩:=dA j hs T;cases f;cases r;obtain⟨L,K,co,_⟩:=eE I R;obtain⟨x,g,i,_⟩:=eE I F;refine Fk co i (by lia) ?_;have:=GN I hs (A:=A) (n:=n) (by lia) (λG r2 N O h=>Az I hs n (A:=A.in1) (by show A.units+1+n<cLine;lia) G r2 N O h) B M K g h;simpa using this
    ·cases h
   ·cases h
def ja(k:X.A.units+64<cLine):fZ X (compareOp .Lt) (r2 X.K (b2 gLt)):=by
 intro pins s σ H x y u w Q I g j h;obtain⟨mu,S,d,e,r,l,f,r2,c,a,hc⟩:=uv h;obtain⟨b,i,a⟩:=oM1.mp a;cases a;exact Az I c dU (by show _+60<cLine;lia) f r2 g j i X.prog X.w X.xe _ ⟨.bl b,H,I,ag,hc.now (.bl b) c⟩
end
inductive Ty where
 |int|bool|str|tuple|list|dict
 deriving DecidableEq
def Ty.nm:Ty->String
 | .int=>"int" | .bool=>"bool" | .str=>"str" | .tuple=>"tuple" | .list=>"list" | .dict=>"dict"
def jB(S:Sto)(T:Ty):D->Option Bool
 | .non=>wq ah
 | .bl _=>wq (decide (T = .bool)||decide (T = .int))
 | .int _=>wq (decide (T = .int))
 | .str _=>wq (decide (T = .str))
 | .tup _=>wq (decide (T = .tuple))
 | .rol _=>wq (decide (T = .list))
 | .ref n=>match S[n]? with
  |some (.lst _)=>wq (decide (T = .list))
  |some (.dct _)=>wq (decide (T = .dict))
  |some (.dcT _)=>wq (decide (T = .dict))
  |_=>aj
 | .fn _=>aj
def iG(T:Ty)(m:FE):FE:=λr S=>(m r S).bind λp=>(jB p.2 T p.1).map λb=>(.bl b,p.2)
section
variable{X:Cx}{pins:List (cZ×Obj)}{σ:L2.St}{H:Hp}{s:cY}{mu:List cZ}{S:Sto}{K:Fg1}
def Dp(T:Ty):PySem.W.kitOne K (.type "NoneType") (.type T.nm)=wq ah:=by cases T<;>rfl
def GU(T:Ty):PySem.W.kitOne K (.type "bool") (.type T.nm)=wq (decide (T = .bool)||decide (T = .int)):=by cases T<;>rfl
def Ds(T:Ty):PySem.W.kitOne K (.type "int") (.type T.nm)=wq (decide (T = .int)):=by cases T<;>rfl
def Do(T:Ty):PySem.W.kitOne K (.type "str") (.type T.nm)=wq (decide (T = .str)):=by cases T<;>rfl
def Dm(T:Ty):PySem.W.kitOne K (.type "tuple") (.type T.nm)=wq (decide (T = .tuple)):=by cases T<;>rfl
def Dq(T:Ty):PySem.W.kitOne K (.type "list") (.type T.nm)=wq (decide (T = .list)):=by cases T<;>rfl
def wC(T:Ty):PySem.W.kitOne K (.type "dict") (.type T.nm)=wq (decide (T = .dict)):=by cases T<;>rfl
def Dv{T:Ty}{d:D}{v:V}{u:cX}{b:Bool}{Q:cX->cY->Prop}{E:cX->cY->Prop}(I:Inv X pins σ H s)(hs:Sim X.K H mu S)(r:eQ X.K H mu d v)(f:dF v u)(h:jB S T d=some b)(q:∀ tk,Q (.bool b) {s with toks:=tk}):
  da (model X.prog X.w) X.A (call (.builtin "isinstance") [u,.type T.nm]) Q E s:=by
 have seq:∀{k:Bool} {a:cZ} {vs:List V},sn X.K k H a vs->b=(match k with|true=>decide (T = .list)|false=>decide (T = .tuple))->da (model X.prog X.w) X.A (call (.builtin "isinstance") [.ref a,.type T.nm]) Q E s:=λ{k a vs} g m=>by
  obtain⟨y,A,co,_⟩:=eE I g;cases k
  ·obtain⟨o,e,c,_⟩:=co;subst m;exact PySem.W.kia_one PySem.W.kitx_tuple I.kIn ⟨o,e,c⟩ (Dm T) (λz=>nomatch z) q
  ·obtain⟨o,e,c,_⟩:=co;subst m;exact PySem.W.kia_one PySem.W.kitx_list I.kIn ⟨o,e,c⟩ (Dq T) (λz=>nomatch z) q
 cases d with
 |non=>cases h;cases r;exact iJ I f .non (Dp T) q
 |bl k=>cases h;cases r;exact iJ I f (.bl k) (GU T) q
 |int i=>cases h;cases r;exact iJ I f (.int i) (Ds T) q
 |str x=>cases h;cases r;exact iJ I f (.str x) (Do T) q
 |tup xs=>
  cases h;obtain⟨a,vs,rfl,g,t⟩:=dA (S:=S) r hs ag;cases f;exact seq g ag
 |fn x=>cases h
 |rol xs=>
  cases h;obtain⟨a,vs,rfl,g,t⟩:=dA (S:=S) r hs ag;cases f;exact seq g ag
 |ref n=>
  rw[jB]at h;split at h
  ·rename_i xs e;cases h;obtain⟨a,vs,rfl,g,t⟩:=dA (S:=S) r hs (by rw[dG,e]);cases f;exact seq g ag
  ·rename_i ks e;cases h;cases r with
   |ref l=>
    obtain⟨ws,j,_⟩:=hs.dct e l;exact iJ I f (.dK j) (wC T) q
  ·rename_i ks e;cases h;cases r with
   | @ref _ a l=>
    cases(show u=Value.ref a from f);obtain⟨ws,j,_⟩:=hs.dcT e l;obtain⟨⟨_,_,o,_,_,p,w,_⟩,_⟩:=(show eB X.prog X.w H s.heap a (.ext (jO a ws))from I.hok a _ j);exact PySem.W.kia_one PySem.W.kitx_dict I.kIn ⟨o,p,w.1⟩ (wC T) (λz=>nomatch z) q
  ·cases h
def Bo(T:Ty):eg X (.builtin "isinstance") (λxs H Q=>∃x mu S d b,xs=[x,.ty T.nm]/\eQ X.K H mu d x/\Sim X.K H mu S/\jB S T d=wq b/\Q (.bl b) H):=by
 intro pins s σ H xs i Q I r h;obtain⟨x,mu,S,d,b,rfl,a,e,f,hc⟩:=h;obtain⟨u,g,rfl,c,rt⟩:=yP r;cases rt;exact Dv I e a c f λtk=>⟨.bl b,H,I.tok tk,ag,hc⟩
def xM (T:Ty){e:Expr}{m:FE}{nm:Str}{p p2 pos:Pos}(hg:Gl X "isinstance")(hm:X.mg "isinstance"=none)(hg2:Gl X nm)(hm2:X.mg nm=none)(hv2:bootBuiltins nm=some (.type T.nm))(h:ME X e m)
  (hn:nm≠"__name__":=by decide) (hd:(nm == ("__debug__":Str))=ah:=by decide)
  (hs1:c8 [e,.Name nm p2] X.env=(ah,eval e X.env)::c8 [.Name nm p2] X.env:=by rfl) (hs2:c8 [.Name nm p2] X.env=(ah,eval (.Name nm p2) X.env)::c8 [] X.env:=by rfl)
  (hpl:(backTo pos (c8 [.Name nm p2] X.env)).any (·.1)=ah:=by rfl):ME X (.Call (.Name "isinstance" p) [e,.Name nm p2] [] pos) (iG T m):=
 ee (nQ (Bo T) hg hm (by decide+kernel) (iT h (iT (CM (v:=.ty T.nm) hg2 hm2 hv2 ag hn hd) lR hs2) hs1) (by decide) (by decide) hs1 hpl) <| by
  rintro σ H Q ⟨r,mu,S,d,o,l,j,hm,hc⟩;obtain⟨⟨c,n⟩,k,hm⟩:=oB1.mp hm;obtain⟨b,g,hm⟩:=oM1.mp hm;cases hm;refine⟨r,mu,S,c,_,l,j,k,λv H1 mu1 i f a=>?_⟩;exact⟨v,mu1,_,c,b,ag,f,a,g,hc _ H1 mu1 i (.bl b) a⟩
end
abbrev FO:=Ev->Sto->Option (Option Int×Sto)
def LW(K:Fg1)(m:FO):TO:=fun σ H Q=>∃r mu S o S',fD K H mu r σ/\Sim K H mu S/\m r S=wq (o,S') /\ ∀H' mu',Ext mu mu' H H'->Sim K H' mu' S'->Q o H'
abbrev MO(X:Cx)(e:Option Expr)(m:FO):Prop:=PO X e (LW X.K m)
def ik:FO:=λ_ S=>wq (aj,S)
def ij(m:FE):FO:=λr S=>(m r S).bind λp=>match p.1 with
 | .int i=>wq (wq i,p.2)
 |_=>aj
def iK(xs:List D)(lo hi:Option Int):List D:=(xs.drop (HT.sIx xs.length 0 lo)).take (HT.sIx xs.length xs.length hi-HT.sIx xs.length 0 lo)
section
variable{X:Cx}
def C3:MO X aj ik:=by
 rintro pins s σ H Q I ⟨r,mu,S,o,d,c,b,a,hc⟩;cases a;exact Cz pins s σ H Q I (hc H mu (.refl _ _) b)
def C2{e:Expr}{m:FE}(h:ME X e m):MO X (wq e) (ij m):=by
 rintro pins s σ H Q I ⟨r,mu,S,o,n,k,f,a,hc⟩;obtain⟨⟨d,l⟩,j,a⟩:=oB1.mp a;cases d with
 |int i=>
  cases a;refine Cy h pins s σ H Q I ⟨r,mu,S,_,_,k,f,j,λv H1 mu1 c b g=>?_⟩;cases b;exact⟨i,ag,hc H1 mu1 c g⟩
 |_=>cases a
def wX{K:Fg1}{H:Hp}{mu:List cZ}{ds:List D}{vs:List V}(t:dB K H mu ds vs)(lo hi:Option Int):dB K H mu (iK ds lo hi) (t7 vs lo hi):=by
 unfold iK t7;rw[<- t.length];exact(t.drop _).take _
def H0(ta:TA):TE:=fun σ H Q=>ta σ H λvs H1=>∃j:Int,vs=[.int j] /\ ∀p,H1 p=aj->Q (.ref p) (upd H1 p (.rng 0 j))
def pr {a:Expr}{ta:TA}{p pos:Pos}(hg:Gl X "range")(hm:X.mg "range"=aj)(ha:PA X [a] ta)(hs:c8 [a] X.env=[(ah,eval a X.env)]:=by rfl):PE X (.Call (.Name "range" p) [a] [] pos) (H0 ta):=by
 intro pins s σ H Q I h;refine Call_ (jz I hg hm boot_range (PyProof.Rows.callWith_type1 (eR (ha pos pins s σ H _ I h) λk i ⟨vs,H1,c,f,g⟩=>?_) hs ag));obtain⟨j,e,q⟩:=g;subst e;cases f with
 |cons r d=>
  cases d;obtain⟨t,rfl⟩:=r;refine call_range_1 ⟨.ref i.heap.objs.size,_,c.laid (λb o e=>hP1 _ e) (nR1 _) (o:=.rng 0 j) ?_,ag,q _ (c.hok.fresh (nR1 _))⟩;exact⟨_,_,_,hS1 _ ag⟩
def jZ(i:Int):Nat->List V
 |0=>[]
 |n+1=>.int i::jZ (i+1) n
def jr:∀(n:Nat) (i:Int),(jZ i n).length=n
 |0,_=>rfl
 |n+1,i=>by rw[jZ,lC1,jr n]
def nM:∀(n:Nat) (i:Int) (k:Nat) (v:V),(jZ i n)[k]?=wq v->v = .int (i+k)
 |0,i,k,v,h=>by simp[jZ]at h
 |n+1,i,0,v,h=>by simp[jZ]at h;rw[<- h];simp
 |n+1,i,k+1,v,h=>by
  rw[jZ,gC1]at h;rw[nM n (i+1) k v h,show i+1+(k:Int)=i+((k+1:Nat):Int) by push_cast;lia]
def nL{K:Fg1}{H:Hp}{mu:List cZ}:∀(n:Nat) (i:Int),dB K H mu (gz i n) (jZ i n)
 |0,_=>.nil
 |n+1,i=>.cons (.int i) (nL n (i+1))
def qh:∀{xs:List V} {a:List cX},xs.length=a.length->(∀(i:Nat) x u,xs[i]?=wq x->a[i]?=wq u->dF x u)->dQ xs a
 |[],[],_,_=>.nil
 |x::xs,u::a,h,f=>.cons (f 0 x u ag ag) (qh (by simpa using h) λi y w h1 h2=>f (i+1) y w (by simpa using h1) (by simpa using h2))
 |[],_::_,h,_=>by simp at h
 |_::_,[],h,_=>by simp at h
def DZ(hc:X.calm=ai):eg X (.type "list") (λxs H Q=>∃p i j,xs=[.ref p]/\H p=wq (.rng i j)/\(-(2^62)<=i/\i<2^62 /\ -(2^62)<=j/\j<2^62)/\(j-i).toNat<=2^20 /\ ∀l,H l=aj->Q (.ref l) (upd H l (.lst (jZ i (j-i).toNat)))):=by
 intro pins s σ H xs F Q I r h;obtain⟨p,i,j,rfl,C,⟨h1,h2,g,w⟩,f,q⟩:=h;obtain⟨u,rfl,o⟩:=gX r;cases o;obtain⟨t,u,v,e⟩:=I.hok p _ C;have m:(((j-i).toNat:Nat):Int)=Builtin.Range.rangeSize i j 1:=by rw[rangeSize_one];split<;>lia
 refine call_list_range (n:=(j-i).toNat) (I.ok.hd hc) e (small_one h1 h2 g w) m.symm (au f (by decide)) λh' tk b B E z hi=>?_;obtain⟨d,a⟩:=hi;have c:dQ (jZ i (j-i).toNat) b.toList:=qh (by rw[jr];simpa using d.symm) λk x u y A=>by
  rw[nM _ _ _ _ y];obtain⟨D,rfl⟩:=a k u (by simpa using A);exact⟨D,by rw[Int.mul_one]⟩
 refine⟨.ref s.heap.objs.size,_,I.laid (t':=tk) E (nR1 _) (show eB X.prog X.w _ h' _ (.lst (jZ i (j-i).toNat))from⟨?_,b.toList,B,c,by simpa using z⟩),ag,q _ (I.hok.fresh (nR1 _))⟩;rw[jr];exact au f (by decide)
def mq(i j:Int):Bool:=decide (-(2^62)<=i)&&decide (i<2^62)&&decide (-(2^62)<=j)&&decide (j<2^62)&&decide ((j-i).toNat<=2^20)
def xO(m:FA):FE:=λr S=>(m r S).bind λp=>match p.1 with
 |[.int j]=>if mq 0 j=ai then wq (.ref p.2.length,p.2++[.lst (gz 0 j.toNat)])else aj
 |_=>aj
def kZ{i j:Int}(h:mq i j=ai):(-(2^62)<=i/\i<2^62 /\ -(2^62)<=j/\j<2^62)/\(j-i).toNat<=2^20:=by
 unfold mq at h;simp only[bA1,decide_eq_true_eq]at h;obtain⟨⟨⟨⟨h1,h2⟩,b⟩,c⟩,a⟩:=h;exact⟨⟨h1,h2,b,c⟩,a⟩
def GP{K:Fg1}{mu:List cZ}{H H1:Hp}{S1:Sto}{i j:Int}{Q:VK}{mu1:List cZ}(c:Ext mu mu1 H H1)(b:Sim K H1 mu1 S1)(hc:su K mu H (.ref S1.length) (S1++[.lst (gz i (j-i).toNat)]) Q){p l:cZ}(hp:H1 p=none)(a:upd H1 p (.rng i j) l=none):
  Q (.ref l) (upd (upd H1 p (.rng i j)) l (.lst (jZ i (j-i).toNat))):=
 hc _ _ (mu1++[l]) ((c.trans (Ext.fresh hp)).trans (Ext.new_ a)) (.ref (gp b.len l)) ((b.fresh hp).newL (nL _ _) a)
def xL {a:Expr}{m:FA}{e p2 b c:Pos}(hc:X.calm=true)(hg:Gl X "range")(hm:X.mg "range"=none)(hg2:Gl X "list")(hm2:X.mg "list"=none)(ha:MA X [a] m)(hs:c8 [a] X.env=[(false,eval a X.env)]:=by rfl)
  (hs2:c8 [.Call (.Name "range" e) [a] [] b] X.env=[(ah,eval (.Call (.Name "range" e) [a] [] b) X.env)]:=by rfl):ME X (.Call (.Name "list" p2) [.Call (.Name "range" e) [a] [] b] [] c) (xO m):=
 ee (jT (DZ hc) hg2 hm2 (by decide+kernel) (iT (pr hg hm ha hs) lR hs2) (by decide) (by decide) hs2) <| by
  rintro σ H Q ⟨r,mu,S,d,w,t,hs,hm,f⟩;obtain⟨⟨ds,u⟩,n,hm⟩:=oB1.mp hm;dsimp only at hm;split at hm
  ·rename_i j;split at hm
   ·rename_i g;cases hm;refine⟨r,mu,S,_,_,t,hs,n,λvs H1 mu1 k i o=>?_⟩;obtain⟨v,rfl,h⟩:=k4 i;cases h;refine⟨j,ag,λp s=>⟨p,0,j,ag,dP,(kZ g).1,(kZ g).2,λl q=>GP k o (by rw[Int.sub_zero];exact f) s q⟩⟩
   ·cases hm
  ·cases hm
end
def gK:G2:=λo v S=>match o with
 | .ref n=>match S[n]? with
  |some (.lst xs)=>if xs.length<c9 then wq (.non,S.set n (.lst (xs++[v])))else aj
  |_=>aj
 |_=>aj
def xZ:G2:=λo i S=>match o,i with
 | .ref n,.int k=>match S[n]? with
  |some (.lst xs)=>if-(2^63)<=k/\k<2^63 then(xV xs.length k).bind λj=>(xs[j]?).map λy=>(y,S.set n (.lst (xs.eraseIdx j)))else aj
  |_=>aj
 |_,_=>aj
def mz(f:FN)(o:FE)(a:FA):FE:=λr S=>(o r S).bind λp=>match p.1 with
 | .ref n=>match p.2[n]? with
  |some (.lst _)=>(a r p.2).bind λq=>f (p.1::q.1) q.2
  |_=>aj
 |_=>aj
section
variable{X:Cx}
def gZ:HK X "list.append" (λx xs H Q=>rN X.K (b2 gK) (x::xs) H Q):=by
 intro pins s σ H x xs v o Q I k i h;obtain⟨p,y,mu,S,d,e,q,r,g,j,r2,f,a,hc⟩:=zz h;cases g;cases d with
 |ref n=>
  rw[gK]at a;split at a
  ·rename_i ys m;split at a
   ·rename_i l;cases a;cases j with
    |ref b=>
     obtain⟨vs,c,t⟩:=f.lst m b;refine px pins s σ H _ [y] v o Q I k i ⟨_,vs,y,ag,ag,c,by rw[<- t.length];exact l,?_⟩;exact hc _ _ mu (Ext.put c trivial (gM1 b)) .non (f.putL (t.append (.cons r2 .nil)) b c)
   ·cases a
  ·cases a
 |_=>cases a
def Eg:HK X "list.pop" (λx xs H Q=>rN X.K (b2 xZ) (x::xs) H Q):=by
 intro pins s σ H x xs v A Q I q m h;obtain⟨D,y,mu,S,d,e,F,E,l,p,r2,i,a,hc⟩:=zz h;cases l;unfold xZ at a;split at a
 ·rename_i n k;split at a
  ·rename_i ys r;split at a
   ·rename_i g;obtain⟨j,o,a⟩:=oB1.mp a;obtain⟨z,C,a⟩:=oM1.mp a;cases a;cases p with
    |ref b=>
     cases r2;obtain⟨vs,f,t⟩:=i.lst r b;obtain⟨w,B,c⟩:=t.get C;refine Ai pins s σ H _ [.int k] v A Q I q m ⟨_,vs,k,j,w,ag,ag,f,g.1,g.2,?_,B,?_⟩
     ·rw[<- t.length];exact(rn o).1
     ·have x:=Ext.put (u:=.lst (vs.eraseIdx j)) f trivial (gM1 b);exact hc _ _ mu x (c.ext x) (i.putL (t.eraseIdx j) b f)
   ·cases a
  ·cases a
 ·cases a
def Ap {o e:Expr}{es:List Expr}{m:FE}{a:FA}{f:FN}{name:Str}{apos cpos:Pos}{id:String}(slot:Slot "list" name id)(hty:typeOf (.builtin id)=pure (.type "method_descriptor"))(hm:HK X id (fun x xs H Q=>rN X.K f (x::xs) H Q))(ho:ME X o m)(ha:MA X (e::es) a)
  (hbase:attributeBase o name X.env (eval o X.env)=eval o X.env:=by rfl)
  (hfew:((backTo cpos (c8 (e::es) X.env)).all (λx=> !x.1)&&(backToKw cpos (keywordEach [] X.env)).all (λx=>x.1.isSome)&&decide ((e::es).length+([]:List Keyword).length+(if([]:List Keyword).isEmpty then 0 else 1)<30))=ai:=by rfl)
  (hline:(apos.endLine == cpos.line)=ai:=by rfl) (hs:c8 (e::es) X.env=(ah,eval e X.env)::c8 es X.env:=by rfl) (hplain:(backTo cpos (c8 es X.env)).any (·.1)=ah:=by rfl):
  ME X (.Call (.Attribute o name apos) (e::es) [] cpos) (mz f m a):=
 ee (IK PySem.F.plainAttrs_list slot hty hm ho ha hbase hfew hline hs hplain) <| by
  rintro σ H Q ⟨r,mu,S,d,D,l,hs,hm,hc⟩;obtain⟨⟨p,j⟩,B,hm⟩:=oB1.mp hm;refine⟨r,mu,S,p,j,l,hs,B,λv H1 mu1 g h i=>?_⟩;cases p with
  |ref n=>
   dsimp only at hm;split at hm
   ·rename_i xs C;obtain⟨⟨ds,k⟩,y,hm⟩:=oB1.mp hm;refine⟨?_,r,mu1,j,ds,k,l.ext g,i,y,λvs H2 b x2 r2 s=>?_⟩
    ·cases h with
     |ref w=>
      obtain⟨vs,q,t⟩:=i.lst C w;exact .inl ⟨ag,vs,lJ.of q⟩
    ·exact⟨b,k,.ref n::ds,d,D,.cons (h.ext x2) r2,s,hm,λA u c z=>hc A u c ((g.trans x2).trans z)⟩
   ·cases hm
  |_=>cases hm
end
def Cu{X:Cx}(hc:X.calm=true){elt tg iter:Expr}{ifs:List Expr}{rest:List Comprehension}{scope:dg}{pos l O:Pos}{y:Str}{i:Nat}{T:List Str}{keep:List Nat}{w:List (Str×cZ)}{wi:TI}{g:TG}{ti:TT}{tb:cZ->TS}{emit:cX->Env->Sem Unit}(Z:swapsWith (.ListComp elt (⟨tg,iter,ifs,0⟩::rest) scope pos) (some (.Name y O)) l.line X.env=pure true)(eq:∀it u k,compTurn (.ListComp elt (⟨tg,iter,ifs,0⟩::rest) scope pos) 0 it u k=sH iter.pos tg ifs it k (emit u k) (.compLoop (.ListComp elt (⟨tg,iter,ifs,0⟩::rest) scope pos) 0 it u k))(C:J9 X scope T keep)(E:j6 X.env.cells scope.names []=some w)(hi:PI X tg iter wi)(hb:∀s H d p,PG (cxC X scope w T keep s H d) tg g/\pd (cxC X scope w T keep s H d) ifs ti/\PU (cxC X scope w T keep s H d) (emit (.ref p) (cxC X scope w T keep s H d).env) (tb p))(hN:X.N.Nodup)(hy:X.N[i]?=some y)(hx:yr X.env.scope y)(hf:X.fn y=true\/X.env.scope.names.lookup y=some .local)(hs:∀x,foldedSetIterable iter X.env x=pure x:=by intro _;rfl):
  PS X (.Assign [.Name y O] (.ListComp elt (⟨tg,iter,ifs,0⟩::rest) scope pos) l) (zh (zf T.length keep wi g ti tb) (wK i)):=by
 intro pins s σ H D I h;rw[exec_Assign_Name_used _ _ _ _ Z];refine wB1 (wpAny_standAt (wB1 ?_));show da _ X.A (do let _<-comprehension (.ListComp elt (⟨tg,iter,ifs,0⟩::rest) scope pos) scope X.env _ (newList []) ah (eval iter X.env) (wq (assign (.Name y O) X.env))) _ _ s;refine wB1 (wpAny_mono (wpAny_comprehension_free (use:=wq (assign (.Name y O) X.env)) (Q:=λ_ s'=>SP X pins D .next s') ag hs (Bk E) C.kind C.names ?_) (λ_ s' hq=>wP1 (wP1 hq)) λ_ _ e=>e);refine eR (hi pins s σ H _ I h) λv s1 h1=>eR h1 λitv a h2=>?_;obtain⟨it,d,tn,J,H2,rfl,I2,TT,M,f2,q2⟩:=h2;refine wO1 ?_;have A:Inv X pins σ (upd H2 a.heap.objs.size (.lst [])) {a with heap:=a.heap.push {cls:=.type "list",data:=.seq ([]:List cX).toArray}}:=I2.lnew (t':=a.toks) .nil (aZ _);have old:∀b∈d,∃o,a.heap.get? b=wq o:=λb hb=>by
  obtain⟨o,e,_⟩:=TT.obj 0 a.heap M b hb;exact⟨o,e⟩
 have V:∀b∈d,b≠a.heap.objs.size:=λb hb z=>by
  obtain⟨o,e⟩:=old b hb;have:=hL1 e;rw[z]at this;exact ap _ this
 have P:∀b∈d,j7 X pins (upd H2 a.heap.objs.size (.lst [])) b:=λb hb=>⟨by rw[dL (V b hb)];exact(f2 b hb).1,(f2 b hb).2⟩;have o3:∀b∈d,∃o,({a with heap:=a.heap.push {cls:=.type "list",data:=.seq ([]:List cX).toArray}}:cY).heap.get? b=wq o:=λb hb=>by
  obtain⟨o,e⟩:=old b hb;exact⟨o,hP1 _ e⟩
 have N:=tQ A C E P o3;obtain⟨hg,S,he⟩:=hb {a with heap:=a.heap.push {cls:=.type "list",data:=.seq ([]:List cX).toArray}} (upd H2 a.heap.objs.size (.lst [])) d a.heap.objs.size;refine ke ?_;have f4:∀b∈d,j7 (cxC X scope w T keep {a with heap:=a.heap.push {cls:=.type "list",data:=.seq ([]:List cX).toArray}} (upd H2 a.heap.objs.size (.lst [])) d) [] (upd H2 a.heap.objs.size (.lst [])) b:=λb hb=>
  ⟨(P b hb).1,(N.ok.exf b hb).1,N.ok.exfs b hb,.inl hb,(N.ok.exf b hb).2,λp K=>absurd (show p∈([]:List (cZ×Obj))from K) (by simp)⟩
 have L:tn 0 (pushCells ((a.heap.push {cls:=.type "list",data:=.seq ([]:List cX).toArray}).push {cls:=.type "dict",data:=.dict #[]}) scope.names):=
  TT.keep 0 a.heap _ M λb hb o e=>pushCells_keeps scope.names _ b o (hP1 _ (hP1 _ e))
 have n:=pS (X:=cxC X scope w T keep {a with heap:=a.heap.push {cls:=.type "list",data:=.seq ([]:List cX).toArray}} (upd H2 a.heap.objs.size (.lst [])) d) ag hc (eq (.ref it) (.ref a.heap.objs.size) _) TT hg S he N L f4
  (q2 a.heap.objs.size (I2.hok.fresh (nR1 _)))
 refine codeAny_mono (codeAny_compStart_list n (TT.self X.A 0 _ _ _ L n)) λr s' hr=>?_;cases r with
 |error e=>exact hr.elim
 |ok f=>
  obtain⟨σ',H',B,q'⟩:=hr;have J1:Inv X pins σ H' s':=A.call' (s':=s') (ch:=d) B.os B.base B.hok B.bare λb hb=>(P b hb).2.2.2 |> λz=>⟨z.1,(P b hb).2.1,z.2.1,z.2.2⟩
  -- the block's own dict is kept aside
  obtain⟨m,hn,_⟩:=id B.loc;obtain⟨R,es,ep,eC,dC,rC⟩:=id hn;have hCz:(a.heap.push {cls:=.type "list",data:=.seq ([]:List cX).toArray}).get? (a.heap.push {cls:=.type "list",data:=.seq ([]:List cX).toArray}).objs.size=aj:=Heap.get?_none_of_le (nR1 _);have G:(a.heap.push {cls:=.type "list",data:=.seq ([]:List cX).toArray}).objs.size≠X.env.locals:=λz=>by
   have:=A.lt;rw[<- z]at this;exact ap _ this
  have Y:H' (a.heap.push {cls:=.type "list",data:=.seq ([]:List cX).toArray}).objs.size=aj:=B.free;have J2:Inv X (pins++[((a.heap.push {cls:=.type "list",data:=.seq ([]:List cX).toArray}).objs.size,R)]) σ H' s':=J1.pins_of λp K=>by
   rcases ay.mp K with z|z
   ·exact J1.pin p (mA1 _ z)
   ·have z':p=((a.heap.push {cls:=.type "list",data:=.seq ([]:List cX).toArray}).objs.size,R):=by simpa using z
    subst z';exact⟨eC,Y,G,A.nofs (nR1 _),λv q=>by rw[dC]at q;cases q⟩
  refine eR (wc hN hy hx hf _ s' σ H' (.ref a.heap.objs.size) (.ref a.heap.objs.size) D.nx J2 ag q') λ_ s5 ⟨F,H5,J5,q5⟩=>?_;obtain⟨e5,n5,_⟩:=J5.pin ((a.heap.push {cls:=.type "list",data:=.seq ([]:List cX).toArray}).objs.size,R) (mA1 _ (mA1 _ mS1));refine⟨m,⟨R,es,ep,e5,dC,rC⟩,λh' W=>?_⟩;have J6:Inv X pins F H5 s5:=J5.unpinned;refine⟨F,H5,J6.turned (t':=s5.toks) (λb o hb e=>(W.2 b hb).trans e) n5 G (.inr ?_) (λx c t z=>?_) (λp K z=>?_),q5⟩
  ·exact A.sz
  ·obtain⟨w',zc⟩:=A.cell x c t;have j:=zc.lt;rw[z]at j;exact ap _ j
  ·obtain⟨U,_⟩:=A.pin p K;have j:=hL1 U;rw[z]at j;exact ap _ j
section
variable{X:Cx}
def HA{K:Fg1}{te:TE}{m:FE}{i:Nat}(hm:∀ σ H Q,tM K m σ H Q->te σ H Q){E:jN}{σ:L2.St}{H:Hp}(h:vR K (dD m (gN i)) E σ H):zh te (wK i) E σ H:=by
 obtain⟨r,mu,S,d,p,h1,h2,b,g⟩:=rg h;refine hm _ _ _ ⟨r,mu,S,d,p,h1,h2,b,λv H' mu' j f l=>?_⟩;obtain⟨r2,a,t,s,u,q,k,n,c,o,e⟩:=g v H' mu' j f l;cases o;exact e _ H' a (.refl _ _) (k.set c) n
def mv (i:Nat){x:Str}{pos:Pos}(hN:X.N[i]? = some x:=by rfl)(hv:D9 X.env.scope x:=by first | exact Or.inl rfl | exact Or.inr (Or.inl rfl) | exact Or.inr (Or.inr rfl))(hd:(x == ("__debug__":Str))=false:=by decide)(hcd:(x == ("__classdict__":Str))=false:=by decide):
  ME X (.Name x pos) (mV i):=Gy i hN hv hd hcd
end
def Own(P:c0)(w:c6)(K:Fg1)(mg:Str->Option cX)(base:db)(k:Nat)(x:Str)(n:Nat)(m:FN):Prop:=
 ∃(f:cZ) (fd:de) (ps:List Str),jM P w K mg base ur k f fd ps (spM K n m)/\jf K fd ps []/\wK1 K (.ref f)=ai/\mg x=wq (.ref f)
def GB {X:Cx}{k k' n:Nat}{x:Str}{m:FN}{p pos:Pos}{e:Expr}{es:List Expr}{a:FA}(h:Own X.prog X.w X.K X.mg X.base k x n m)(hr:fC k' X.A)(hk:k<=k')(hg:Gl X x)(ha:MA X (e::es) a)(hdb:(x == ("__debug__":Str))=false:=by decide)
  (he:c8 (e::es) X.env=(ah,eval e X.env)::c8 es X.env:=by rfl) (hpl:(backTo pos (c8 es X.env)).any (·.1)=ah:=by rfl):ME X (.Call (.Name x p) (e::es) [] pos) (mN (dm n m) a):=by
 obtain⟨f,fd,ps,F,b,c,d⟩:=h;exact Da F (hr.mono hk) hg d c b ha hdb he hpl
def F3{P:c0}{w:c6}{K:Fg1}{mg:Str->Option cX}{base:db}{x a:Str}{st:df}{f:cZ}{fd:de}{N ps:List Str}{k n:Nat}{b:FS}(F:xc K x a st f fd)(hb:jf K fd ps [])(hm:mg x=some (.ref f))(S:gw N ps (dH st))(hn:ps.length=n)(d:∀(e:cX) (A:c5) (c:List Env) (s:cY) (H:Hp) (E:XK),fC k (A.deeper (envOfC a (dH st) s.heap.objs.size f e)) ->
   yq (mX ur P w K mg base N a (dH st) f e A c s H E).nox (ff st) b):Own P w K mg base (k+1) x n (hZ N.length b):=by
 subst hn;exact⟨f,fd,ps,JC F S d,hb,F.kp,hm⟩
def CGl(K:Fg1)(mg:Str->Option cX)(x:Str)(d:D):Prop:=∃(v:V) (u:cX),mg x=wq u/\dF v u /\ ∀H mu,eQ K H mu d v
def C9 {X:Cx}{x:Str}{d:D}{pos:Pos}(h:CGl X.K X.mg x d)(hg:Gl X x)(hd:(x == ("__debug__":Str))=ah:=by decide):ME X (.Name x pos) (mC d):=by
 obtain⟨v,u,a,r,q⟩:=h;exact Au d (CG hg a r hd) q
def fK:List Bool->Ev->Ev
 |true::bs,o::r=>o::fK bs r
 |false::bs,_::r=>aj::fK bs r
 |[],_::r=>aj::fK [] r
 |_,[]=>[]
def kO:Ev->Bool
 |[]=>ai
 |none::r=>kO r
 |some d::r=>d.und 0&&kO r
def py(ki ko:List Bool)(b:FS):FS:=fun r S=>if kO (fK ki r)=true then
  (b (fK ki r) []).bind λp=>match p.1 with
   | .rt d=>if d.und 0=ai then wq (.rt d,[],S)else aj
   |f=>if kO (fK ko p.2.1)=ai then wq (f,fK ko p.2.1,S)else aj
 else aj
def jU:∀(bs:List Bool) (r:Ev),(fK bs r).length=r.length
 |true::bs,o::r=>congrArg (· + 1) (jU bs r)
 |false::bs,o::r=>congrArg (· + 1) (jU bs r)
 |[],o::r=>congrArg (· + 1) (jU [] r)
 |[],[]=>rfl
 |true::_,[]=>rfl
 |false::_,[]=>rfl
def jV:∀(bs:List Bool) (r:Ev) (i:Nat) (d:D),(fK bs r)[i]?=wq (wq d)->r[i]?=wq (wq d)
 |true::bs,o::r,0,d,h=>h
 |true::bs,o::r,i+1,d,h=>by
  rw[gC1];exact jV bs r i d (by rw[fK,gC1]at h;exact h)
 |false::bs,o::r,0,d,h=>by simp[fK]at h
 |false::bs,o::r,i+1,d,h=>by
  rw[gC1];exact jV bs r i d (by rw[fK,gC1]at h;exact h)
 |[],o::r,0,d,h=>by simp[fK]at h
 |[],o::r,i+1,d,h=>by
  rw[gC1];exact jV [] r i d (by rw[fK,gC1]at h;exact h)
 |[],[],i,d,h=>by simp[fK]at h
 |true::_,[],i,d,h=>by simp[fK]at h
 |false::_,[],i,d,h=>by simp[fK]at h
def lP:∀(r:Ev) (i:Nat) (d:D),kO r=ai->r[i]?=wq (wq d)->d.und 0=ai
 |none::r,0,d,_,h=>by simp at h
 |none::r,i+1,d,hs,h=>lP r i d hs (by simpa using h)
 |some e::r,0,d,hs,h=>by
  rw[kO,bA1]at hs;simp at h;subst h;exact hs.1
 |some e::r,i+1,d,hs,h=>by
  rw[kO,bA1]at hs;exact lP r i d hs.2 (by simpa using h)
def fD.mask{K:Fg1}{H:Hp}{mu mu':List cZ}{r:Ev}{σ:L2.St}{bs:List Bool}(h:fD K H mu r σ)(hs:kO (fK bs r)=ai):fD K H mu' (fK bs r) σ:=
 ⟨by rw[jU];exact h.len,λi d e=>by
  obtain⟨v,b,c⟩:=h.val i d (jV bs r i d e);exact⟨v,b,c.cut (n:=0) (λk a=>absurd a (bn _)) (lP _ i d hs e)⟩⟩
def Ax{K:Fg1}{l t:List Bool}{b:FS}{E:jN}{σ:L2.St}{H:Hp}(h:vR K (py l t b) E σ H):vR K b E σ H:=by
 obtain⟨r,mu,S,f,B,C,w,j,c,hc⟩:=h;unfold py at c;split at c
 ·rename_i p;obtain⟨⟨m,q,A⟩,u,c⟩:=oB1.mp c;refine⟨fK l r,[],[],m,q,A,w.mask p,.nil,u,?_⟩;have back:∀{H':Hp} {mu':List cZ},Ext [] mu' H H'->Ext mu mu H H':=λ{H' mu'} x=>⟨bc,λa o e _=>x.old a o e (by simp),x.tup,x.frz,λ_ z=>.inl z⟩;have keep:∀{H':Hp} {mu':List cZ},Ext [] mu' H H'->Sim K H' mu S:=λ{H' mu'} x=>⟨j.len,j.nd,λn o a h1 h2=>(j.ob n o a h1 h2).keep (back x) λo e=>x.old a o e (by simp)⟩;cases m with
  |rt d=>
   dsimp only at c;split at c
   ·rename_i i;cases c;exact λv H' mu' x r s=>hc v H' mu (back x) (r.cut (n:=0) (λk y=>absurd y (bn _)) i) (keep x)
   ·cases c
  |nx=>
   dsimp only at c;split at c
   ·rename_i i;cases c;exact λg H' mu' x r s=>hc g H' mu (back x) (r.mask i) (keep x)
   ·cases c
  |bk=>
   dsimp only at c;split at c
   ·rename_i i;cases c;exact λg H' mu' x r s=>hc g H' mu (back x) (r.mask i) (keep x)
   ·cases c
  |ct=>
   dsimp only at c;split at c
   ·rename_i i;cases c;exact λg H' mu' x r s=>hc g H' mu (back x) (r.mask i) (keep x)
   ·cases c
 ·cases c
def Aj{X:Cx}{sts:List df}{b:FS}(a c:List Bool)(h:yq X sts b):yq X sts (py a c b):=qx h λ_ _ _=>Ax
def CV(K:Fg1)(d:D)(u:cX):Prop:=∃v:V,dF v u /\ ∀H mu,eQ K H mu d v
section
variable{K:Fg1}
def Hn{mg:Str->Option cX}{x:Str}{d:D}{u:cX}(hm:mg x=wq u)(h:CV K d u):CGl K mg x d:=by
 obtain⟨v,r,q⟩:=h;exact⟨v,u,hm,r,q⟩
end
def jS{K:Fg1}{H:Hp}{mu:List cZ}:∀ns:List Int,dB K H mu (ns.map D.int) (ns.map V.int)
 |[]=>.nil
 |n::ns=>.cons (.int n) (jS ns)
def GR{K:Fg1}{m:FN}(hm:∀ ns:List Int,ns.length<=63 -> ∃ S,m [.rol (ns.map D.int)] []=some (.bl true,S))(H:Hp)(a:cZ)(ns:List Int)(b:ns.length<=63)(f:Eb H)(d:lJ K H a (ns.map V.int)):
  spM K 1 m [.ref a] H (λv _=>v = .bl ai) λ_ _ _=>False:=by
 refine⟨ag,?_⟩;obtain⟨S,e⟩:=hm ns b;have c:RoL K H a (ns.map V.int):=by
  rcases d with h|h
  ·rcases h with h|h
   ·rcases f a with z|⟨o,xs,z⟩
    ·rw[h]at z;cases z
    ·rw[h]at z;cases z
   ·exact .inl h
  ·exact .inr h
 refine⟨[],[],[.rol (ns.map D.int)],.bl ai,S,.cons (.rol c (jS ns)) .nil,.nil,e,λv H' mu' x r s=>?_⟩;cases r;rfl
def walk_m{l:PySem.W.OpenLaw}{q:c0}{b:List Str}{XP:(Str->Option cX)->db->Prop}{g:c6->db->Prop}{d:DefRec}{K:Params->Fg1}{m:FN}{k:Nat}{x:Str}(hn:l.most=some 63)(c:d.params.defaults=[])(hr:fC k callerA)(p:∀(w:c6) (h:db),g w h->(K w.params).In h)(hm:∀ns:List Int,ns.length<=63 -> ∃S,m [.rol (ns.map D.int)] []=some (.bl true,S))(F:∀(w:c6) (mg:Str->Option cX) (e:cZ) (h:db),(K w.params).In h->h.Ns c7 mg->mg d.name=some (.ref e) ->
   ∃fd:de,(∀(s:cY) (u:cX),BindsTo s fd ⟨[u],[]⟩ [(x,u)]) /\ ∀base:db,(K w.params).In base->base.Ns c7 mg->jM l.prog w (K w.params) mg base ur k e fd [x] (spM (K w.params) 1 m)):
  PySem.W.WalkO q b XP g l.row.toRowW d [] (λf vs=>PySem.call f vs):=
 L2.BZ (n:=63) (k:=k) (x:=x) (CX:=λ_=>ur) (sp:=λw=>spM (K w.params) 1 m) hn (by decide) c hr p F (λ_ H a ns o j i=>GR hm H a ns o j i) λ_ _ _ _ _ z=>z
structure XE (X:Cx)(e:Expr)(m:FE):Prop where
 h:ME X e m
structure XT (X:Cx)(e:Expr)(m:FT):Prop where
 h:MT X e m
structure XW (X:Cx)(e:Expr)(m:FT):Prop where
 h:MW X e m
structure XA (X:Cx)(e:List Expr)(m:FA):Prop where
 h:MA X e m
structure XS (X:Cx)(e:df)(m:FS):Prop where
 h:MS X e m
structure vv (X:Cx)(e:List df)(m:FS):Prop where
 h:yq X e m
structure XI (X:Cx)(tg e:Expr)(m:FI):Prop where
 h:MI X tg e m
structure XG (X:Cx)(e:Expr)(m:FG):Prop where
 h:MG X e m
structure Kp (X:Cx)(e:List Expr)(m:BJ):Prop where
 h:J3 X e m
structure XO (X:Cx)(e:Option Expr)(m:FO):Prop where
 h:MO X e m
structure XF (X:Cx)(K:Fg1)(ifs:List Expr)(t:FT):Prop where
 h:pd X ifs (B4 K t)
def et{X:Cx}:XF X X.K [] fq:=⟨C5⟩
def kJ{X:Cx}{c:Expr}{t:FT}(h:XT X c t):XF X X.K [c] t:=⟨C4 h.h⟩
def xg{X:Cx}{sts:List df}{b:FS}(a c:List Bool)(h:vv X sts b):vv X sts (py a c b):=⟨Aj a c h.h⟩
section
variable{X:Cx}{pos:Pos}
def qK{i:Int}{j}:XE X (.Constant (.int i) j pos) (mC (.int i)):=⟨GG⟩
def eI{b:Bool}{j}:XE X (.Constant (.bool b) j pos) (mC (.bl b)):=⟨Ji⟩
def ib{j}:XE X (.Constant .none j pos) (mC .non):=⟨GE⟩
def dS{x:Str}{j}:XE X (.Constant (.str x) j pos) (mC (.str x)):=⟨GA⟩
end
section
variable{X:Cx}{pos:Pos}{e:Expr}{es:List Expr}{m:FE}{n:FA}
def qN:XA X [] di:=⟨GK⟩
def qA(h:XE X e m)(ht:XA X es n)(hs:c8 (e::es) X.env=(ah,eval e X.env)::c8 es X.env:=by rfl):XA X (e::es) (dh m n):=⟨Db (h:=h.h) (ht:=ht.h) (hs:=hs)⟩
end
section
variable{X:Cx}{K:Fg1}{f:FN}{a b:FE}{σ:L2.St}{H:Hp}{Q:VK}
def qI{op:Operator}{x y:Expr}{pos:Pos}(ho:fZ X (binaryOp op) (r2 X.K f))(hx:XE X x a)(hy:XE X y b):XE X (.BinOp x op y pos) (m2 f a b):=⟨Jf (ho:=ho) (hx:=hx.h) (hy:=hy.h)⟩
def nl{op:UnaryOp}{x:Expr}{pos:Pos}(ho:HR X (unaryOp op) (λx H Q=>rN X.K f [x] H Q))(hx:XE X x a):XE X (.UnaryOp op x pos) (m1 f a):=⟨Je (ho:=ho) (hx:=hx.h)⟩
def BX{op:CmpOp}{x y:Expr}{pos:Pos}(ho:fZ X (compareOp op) (r2 X.K f))(hx:XE X x a)(hy:XE X y b)(hm:behindInMarks op y=ah):XE X (.Compare x [op] [y] pos) (m2 f a b):=⟨GH (ho:=ho) (hx:=hx.h) (hy:=hy.h) (hm:=hm)⟩
def qJ{x y:Expr}{pos:Pos}(ho:EW X (r2 X.K f))(hx:XE X x a)(hy:XE X y b)(hs:nj y):XE X (.Subscript x y pos) (m2 f a b):=⟨Jg (ho:=ho) (hx:=hx.h) (hy:=hy.h) (hs:=hs)⟩
def qD {x:Str}{p pos:Pos}{e:Expr}{es:List Expr}{id:String}{a:FA}(hc:eg X (.builtin id) (rN X.K f))(hg:Gl X x)(hm:X.mg x=aj)(hv:bootBuiltins x=wq (.builtin id))(ha:XA X (e::es) a)(hn:x≠"__name__":=by decide)(hdb:(x == ("__debug__":Str))=ah:=by decide)(he:c8 (e::es) X.env=(ah,eval e X.env)::c8 es X.env:=by rfl)(hpl:(backTo pos (c8 es X.env)).any (·.1)=ah:=by rfl):XE X (.Call (.Name x p) (e::es) [] pos) (mN f a):=⟨As (hc:=hc) (hg:=hg) (hm:=hm) (hv:=hv) (ha:=ha.h) (hn:=hn) (hdb:=hdb) (he:=he) (hpl:=hpl)⟩
def qE {x:Str}{p pos:Pos}{e:Expr}{es:List Expr}{T:String}{a:FA}(hc:eg X (.type T) (rN X.K f))(hg:Gl X x)(hm:X.mg x=aj)(hv:bootBuiltins x=wq (.type T))(ha:XA X (e::es) a)(hn:x≠"__name__":=by decide)(hdb:(x == ("__debug__":Str))=ah:=by decide)(he:c8 (e::es) X.env=(ah,eval e X.env)::c8 es X.env:=by rfl)(hpl:(backTo pos (c8 es X.env)).any (·.1)=ah:=by rfl):XE X (.Call (.Name x p) (e::es) [] pos) (mN f a):=⟨xN (hc:=hc) (hg:=hg) (hm:=hm) (hv:=hv) (ha:=ha.h) (hn:=hn) (hdb:=hdb) (he:=he) (hpl:=hpl)⟩
end
section
variable{X:Cx}{x y c:Expr}{rest:List Expr}{pos:Pos}{a b:FT}{f g:FE}
def qX{op:CmpOp}{f:FN}{a b:FE}(ho:fZ X (compareOp op) (r2 X.K f))(hx:XE X x a)(hy:XE X y b)(hm:behindInMarks op y=ah):XT X (.Compare x [op] [y] pos) (mB (m2 f a b)):=⟨Gk (ho:=ho) (hx:=hx.h) (hy:=hy.h) (hm:=hm)⟩
def kH(ha:XT X x a):XW X (.BoolOp .And [x] pos) a:=⟨CY (ha:=ha.h)⟩
def gO(ha:XT X x a):XW X (.BoolOp .Or [x] pos) a:=⟨Gg (ha:=ha.h)⟩
def mZ(ha:XT X x a)(hb:XW X (.BoolOp .And (y::rest) pos) b):XW X (.BoolOp .And (x::y::rest) pos) (rh a b):=⟨Gh (ha:=ha.h) (hb:=hb.h)⟩
def gj(ha:XT X x a)(hb:XW X (.BoolOp .Or (y::rest) pos) b):XW X (.BoolOp .Or (x::y::rest) pos) (mOr a b):=⟨IZ (ha:=ha.h) (hb:=hb.h)⟩
def iy(h:XW X x a):XT X x a:=⟨KX (h:=h.h)⟩
def eY(ha:XT X x a):XT X (.UnaryOp .Not x pos) (gB a):=⟨Gj (ha:=ha.h)⟩
def f0{op}(h:XE X x f):XE X (.BoolOp op [x] pos) f:=⟨GC (h:=h.h)⟩
def gt(ha:XE X x f)(hb:XE X (.BoolOp .And (y::rest) pos) g):XE X (.BoolOp .And (x::y::rest) pos) (iH f g):=⟨GI (ha:=ha.h) (hb:=hb.h)⟩
def p8(ha:XE X x f):XE X (.UnaryOp .Not x pos) (pz f):=⟨GD (ha:=ha.h)⟩
def uD(hc:XT X c a)(hx:XE X x f)(hy:XE X y g):XE X (.IfExp c x y pos) (HN a f g):=⟨Jh (hc:=hc.h) (hx:=hx.h) (hy:=hy.h)⟩
end
section
variable{X:Cx}{x y z:Expr}{pos:Pos}{f g:FN}{a b c:FE}{op op':CmpOp}
def xh(ho:fZ X (compareOp op) (r2 X.K f))(ho':fZ X (compareOp op') (r2 X.K g))(hx:XE X x a)(hy:XE X y b)(hz:XE X z c)(hm:lastMarks [op,op'] [y,z]=ah:=by with_unfolding_all rfl):XE X (.Compare x [op,op'] [y,z] pos) (GM f g a b c):=⟨Aq (ho:=ho) (ho':=ho') (hx:=hx.h) (hy:=hy.h) (hz:=hz.h) (hm:=hm)⟩
end
section
variable{X:Cx}{pos:Pos}{e c:Expr}{st:df}{rest as bs:List df}{a b:FS}{m:FE}{t:FT}
def qQ:vv X [] jg:=⟨C0⟩
def qF(h1:XS X st a)(h2:vv X rest b):vv X (st::rest) (dv a b):=⟨Ak (h1:=h1.h) (h2:=h2.h)⟩
def qG(h1:XS X st a):vv X [st] a:=⟨CZ (h1:=h1.h)⟩
def yD(h:XE X e m)(hs:swapsWith e aj pos.line X.env=pure ah:=by rfl):XS X (.Expr e pos) (eN m):=⟨C1 (h:=h.h) (hs:=hs)⟩
def qU(h:XE X e m):XS X (.Return (wq e) pos) (dW m):=⟨Gn (h:=h.h)⟩
def qV(hc:XT X c t)(ha:vv X as a)(hb:vv X bs b):XS X (.If c as bs pos) (eD t a b):=⟨I0 (hc:=hc.h) (ha:=ha.h) (hb:=hb.h)⟩
end
section
variable{X:Cx}{pos:Pos}
def qO(i:Nat){x:Str}(hN:X.N.Nodup)(hi:X.N[i]?=wq x)(hx:yr X.env.scope x)(hf:X.fn x=ai\/X.env.scope.names.lookup x=wq .local:=by first|exact .inl rfl|exact .inr rfl|assumption):XG X (.Name x pos) (gN i):=⟨C8 (i:=i) (hN:=hN) (hi:=hi) (hx:=hx) (hf:=hf)⟩
def sA:Kp X [] jh:=⟨C7⟩
def gR{e:Expr}{es:List Expr}{g:FG}{a:BJ}(h1:XG X e g)(h2:Kp X es a)(hs:(assignEach (e::es) X.env).map (·.2)=assign e X.env::(assignEach es X.env).map (·.2):=by rfl):Kp X (e::es) (fv g a):=⟨Ao (h1:=h1.h) (h2:=h2.h) (hs:=hs)⟩
def vH{es:List Expr}{k:Nat}{a:BJ}{n:Nat}(hc:X.calm=ai)(h:Kp X es a)(hn:(assignEach es X.env).length=n:=by rfl)(hst:(assignEach es X.env).findIdx? (·.1)=aj:=by rfl):XG X (.Tuple es k pos) (gT n a):=⟨Gv (hc:=hc) (h:=h.h) (hn:=hn) (hst:=hst)⟩
def kK{o i:Expr}{a b:FE}{f:FN}(ho:XE X o a)(hi:XE X i b)(hs:vz X (rU X.K f))(ha:∀ v,assign (.Subscript o i pos) X.env v=(do
   let ov<-holding [v] (eval o X.env)
   let iv<-holding [v,ov] (eval i X.env)
   standAt pos
   holding [v,ov,iv] (setItem ov iv v)
   release [v,ov,iv] []):=by intro _;rfl):XG X (.Subscript o i pos) (gS f a b):=⟨Gw (ho:=ho.h) (hi:=hi.h) (hs:=hs) (ha:=ha)⟩
def qR{tg e:Expr}{m:FE}{g:FG}(he:XE X e m)(hg:XG X tg g)(hs:swapsWithSole [tg] e pos.line X.env=pure ah:=by rfl)(hw:swappedStores [tg] e X.env=pure aj:=by rfl)(h1:(assignEach [tg] X.env).map (·.2)=[assign tg X.env]:=by rfl):XS X (.Assign [tg] e pos) (dD m g):=⟨Gp (he:=he.h) (hg:=hg.h) (hs:=hs) (hw:=hw) (h1:=h1)⟩
def qY(i:Nat){x:Str}{e:Expr}{m:FE}{pos':Pos}(hN:X.N.Nodup)(hi:X.N[i]?=wq x)(hx:yr X.env.scope x)(he:XE X e m)(hs:swapsWith e (wq (.Name x pos')) pos.line X.env=pure ah:=by rfl)(hf:X.fn x=ai\/X.env.scope.names.lookup x=wq .local:=by first|exact .inl rfl|exact .inr rfl|assumption):XS X (.Assign [.Name x pos'] e pos) (dD m (gN i)):=⟨Gm (i:=i) (hN:=hN) (hi:=hi) (hx:=hx) (he:=he.h) (hs:=hs) (hf:=hf)⟩
end
section
def lM{X:Cx}{pos:Pos}(n:Nat){c:Expr}{a:List df}{t:FT}{b:FS}(hp:PassesOwn (model X.prog X.w) X.A X.env X.xe)(hc:XT X c t)(hb:vv X a b):XS X (.While c a [] pos) (ut t b n):=⟨Am (n:=n) (hp:=hp) (hc:=hc.h) (hb:=hb.h)⟩
def qW{X:Cx}{pos:Pos}{tg iter:Expr}{a:List df}{m:FI}{g:FG}{b:FS}(hp:PassesOwn (model X.prog X.w) X.A X.env X.xe)(hc:X.calm=ai)(hi:XI X tg iter m)(hg:XG X tg g)(hb:vv X a b)(hs:∀x,foldedSetIterable iter X.env x=pure x:=by intro _;rfl):XS X (.For tg iter a [] pos) (eT m g b):=⟨Go (hp:=hp) (hc:=hc) (hi:=hi.h) (hg:=hg.h) (hb:=hb.h) (hs:=hs)⟩
end
section
variable{X:Cx}{es:List Expr}{pos:Pos}{a:FA}
def dw{x1}(h:XA X es a):XE X (.Tuple es x1 pos) (dI a):=⟨Gz (h:=h.h)⟩
def dR(h:XA X es a):XE X (.List es pos) (eH a):=⟨GF (h:=h.h)⟩
end
section
variable{X:Cx}{tg:Expr}
def qd{e:Expr}{m:FE}(h:XE X e m):XI X tg e (gJ m):=⟨Gu (h:=h.h)⟩
def uB {a:Expr}{m:FA}{p pos:Pos}(hg:Gl X "range")(hm:X.mg "range"=aj)(ha:XA X [a] m)(hs:c8 [a] X.env=[(ah,eval a X.env)]:=by rfl):XI X tg (.Call (.Name "range" p) [a] [] pos) (sv m):=⟨xK (hg:=hg) (hm:=hm) (ha:=ha.h) (hs:=hs)⟩
def nk {a b:Expr}{m:FA}{p pos:Pos}(hg:Gl X "range")(hm:X.mg "range"=aj)(ha:XA X [a,b] m)(hs:c8 [a,b] X.env=[(ah,eval a X.env),(ah,eval b X.env)]:=by rfl)(hs2:c8 [b] X.env=[(ah,eval b X.env)]:=by rfl):XI X tg (.Call (.Name "range" p) [a,b] [] pos) (HP m):=⟨xJ (hg:=hg) (hm:=hm) (ha:=ha.h) (hs:=hs) (hs2:=hs2)⟩
end
section
variable{X:Cx}{tg:Expr}
variable{elts:List Expr}{k:Nat}{tpos:Pos}
def yE {a:Expr}{m:FA}{p pos:Pos}(hg:Gl X "enumerate")(hm:X.mg "enumerate"=aj)(ha:XA X [a] m)(hs:c8 [a] X.env=[(ah,eval a X.env)]:=by rfl):XI X (.Tuple elts k tpos) (.Call (.Name "enumerate" p) [a] [] pos) (og m):=⟨C6 (hg:=hg) (hm:=hm) (ha:=ha.h) (hs:=hs)⟩
def BV {a b:Expr}{m:FA}{p pos:Pos}(hg:Gl X "zip")(hm:X.mg "zip"=aj)(ha:XA X [a,b] m)(hs:c8 [a,b] X.env=[(ah,eval a X.env),(ah,eval b X.env)]:=by rfl)(hs2:c8 [b] X.env=[(ah,eval b X.env)]:=by rfl):XI X (.Tuple elts k tpos) (.Call (.Name "zip" p) [a,b] [] pos) (Ju m):=⟨Gs (hg:=hg) (hm:=hm) (ha:=ha.h) (hs:=hs) (hs2:=hs2)⟩
end
section
variable{X:Cx}{pins:List (cZ×Obj)}{σ:L2.St}{H:Hp}{s:cY}{mu:List cZ}{S:Sto}{K:Fg1}
def uC (T:Ty){e:Expr}{m:FE}{nm:Str}{p p2 pos:Pos}(hg:Gl X "isinstance")(hm:X.mg "isinstance"=aj)(hg2:Gl X nm)(hm2:X.mg nm=aj)(hv2:bootBuiltins nm=wq (.type T.nm))(h:XE X e m)(hn:nm≠"__name__":=by decide)(hd:(nm == ("__debug__":Str))=ah:=by decide)(hs1:c8 [e,.Name nm p2] X.env=(ah,eval e X.env)::c8 [.Name nm p2] X.env:=by rfl)(hs2:c8 [.Name nm p2] X.env=(ah,eval (.Name nm p2) X.env)::c8 [] X.env:=by rfl)(hpl:(backTo pos (c8 [.Name nm p2] X.env)).any (·.1)=ah:=by rfl):XE X (.Call (.Name "isinstance" p) [e,.Name nm p2] [] pos) (iG T m):=⟨xM (T:=T) (hg:=hg) (hm:=hm) (hg2:=hg2) (hm2:=hm2) (hv2:=hv2) (h:=h.h) (hn:=hn) (hd:=hd) (hs1:=hs1) (hs2:=hs2) (hpl:=hpl)⟩
end
section
variable{X:Cx}
def gy:XO X aj ik:=⟨C3⟩
def gx{e:Expr}{m:FE}(h:XE X e m):XO X (wq e) (ij m):=⟨C2 (h:=h.h)⟩
def np {a:Expr}{m:FA}{d p2 b c:Pos}(hc:X.calm=ai)(hg:Gl X "range")(hm:X.mg "range"=aj)(hg2:Gl X "list")(hm2:X.mg "list"=aj)(ha:XA X [a] m)(hs:c8 [a] X.env=[(ah,eval a X.env)]:=by rfl)(hs2:c8 [.Call (.Name "range" d) [a] [] b] X.env=[(ah,eval (.Call (.Name "range" d) [a] [] b) X.env)]:=by rfl):XE X (.Call (.Name "list" p2) [.Call (.Name "range" d) [a] [] b] [] c) (xO m):=⟨xL (hc:=hc) (hg:=hg) (hm:=hm) (hg2:=hg2) (hm2:=hm2) (ha:=ha.h) (hs:=hs) (hs2:=hs2)⟩
def qe {o e:Expr}{es:List Expr}{m:FE}{a:FA}{f:FN}{name:Str}{apos cpos:Pos}{id:String}(slot:Slot "list" name id)(hty:typeOf (.builtin id)=pure (.type "method_descriptor"))(hm:HK X id (λx xs H Q=>rN X.K f (x::xs) H Q))(ho:XE X o m)(ha:XA X (e::es) a)(hbase:attributeBase o name X.env (eval o X.env)=eval o X.env:=by rfl)(hfew:((backTo cpos (c8 (e::es) X.env)).all (λx=> !x.1)&&(backToKw cpos (keywordEach [] X.env)).all (λx=>x.1.isSome)&&decide ((e::es).length+([]:List Keyword).length+(if([]:List Keyword).isEmpty then 0 else 1)<30))=ai:=by rfl)(hline:(apos.endLine == cpos.line)=ai:=by rfl)(hs:c8 (e::es) X.env=(ah,eval e X.env)::c8 es X.env:=by rfl)(hplain:(backTo cpos (c8 es X.env)).any (·.1)=ah:=by rfl):XE X (.Call (.Attribute o name apos) (e::es) [] cpos) (mz f m a):=⟨Ap (slot:=slot) (hty:=hty) (hm:=hm) (ho:=ho.h) (ha:=ha.h) (hbase:=hbase) (hfew:=hfew) (hline:=hline) (hs:=hs) (hplain:=hplain)⟩
def LR (i:Nat){x:Str}{pos:Pos}(hN:X.N[i]?=wq x:=by rfl)(hv:D9 X.env.scope x:=by first|exact Or.inl rfl|exact Or.inr (Or.inl rfl)|exact Or.inr (Or.inr rfl))(hd:(x == ("__debug__":Str))=ah:=by decide)(hcd:(x == ("__classdict__":Str))=ah:=by decide):XE X (.Name x pos) (mV i):=⟨mv (i:=i) (hN:=hN) (hv:=hv) (hd:=hd) (hcd:=hcd)⟩
end
section
def qH {X:Cx}{k k' n:Nat}{x:Str}{m:FN}{p pos:Pos}{e:Expr}{es:List Expr}{a:FA}(h:Own X.prog X.w X.K X.mg X.base k x n m)(hr:fC k' X.A)(hk:k<=k')(hg:Gl X x)(ha:XA X (e::es) a)(hdb:(x == ("__debug__":Str))=ah:=by decide)(he:c8 (e::es) X.env=(ah,eval e X.env)::c8 es X.env:=by rfl)(hpl:(backTo pos (c8 es X.env)).any (·.1)=ah:=by rfl):XE X (.Call (.Name x p) (e::es) [] pos) (mN (dm n m) a):=⟨GB (h:=h) (hr:=hr) (hk:=hk) (hg:=hg) (ha:=ha.h) (hdb:=hdb) (he:=he) (hpl:=hpl)⟩
def yG {X:Cx}{x:Str}{d:D}{pos:Pos}(h:CGl X.K X.mg x d)(hg:Gl X x)(hd:(x == ("__debug__":Str))=ah:=by decide):XE X (.Name x pos) (mC d):=⟨C9 (h:=h) (hg:=hg) (hd:=hd)⟩
end
section
variable{X:Cx}
structure Ll (X:Cx)(K:Fg1)(tg:Expr)(ifs:List Expr)(elt:Expr)(g:FG)(t:FT)(e:FE):Prop where
 g:XG X tg g
 t:XF X K ifs t
 e:XE X elt e
end
def vG{P:c0}{w:c6}{K:Fg1}{mg:Str->Option cX}{base:db}{x c:Str}{st:df}{f:cZ}{fd:de}{N ps:List Str}{k n:Nat}{b:FS}(F:xc K x c st f fd)(hb:jf K fd ps [])(hm:mg x=some (.ref f))(S:gw N ps (dH st))(hn:ps.length=n)(e:∀(d:cX) (A:c5) (a:List Env) (s:cY) (H:Hp) (E:XK),fC k (A.deeper (envOfC c (dH st) s.heap.objs.size f d)) ->
   vv (mX ur P w K mg base N c (dH st) f d A a s H E).nox (ff st) b):Own P w K mg base (k+1) x n (hZ N.length b):=
 F3 F hb hm S hn λd A a s H E g=>(e d A a s H E g).h
def EZ{P:c0}{w:c6}{K:Fg1}{mg:Str->Option cX}{base:db}{x c:Str}{st:df}{f:cZ}{fd:de}{N ps:List Str}{k n:Nat}{b:FS}(F:xc K x c st f fd)(S:gw N ps (dH st))(hn:ps.length=n)(e:∀(d:cX) (A:c5) (a:List Env) (s:cY) (H:Hp) (E:XK),fC k (A.deeper (envOfC c (dH st) s.heap.objs.size f d)) ->
   vv (mX ur P w K mg base N c (dH st) f d A a s H E).nox (ff st) b):jM P w K mg base ur (k+1) f fd ps (spM K n (hZ N.length b)):=by
 subst hn;exact JC F S λd A a s H E g=>(e d A a s H E g).h
abbrev FV:=Ev->Sto->Option (List D×Ev×Sto)
def gh(c:List (Nat×List D))(g:FG)(t:FT)(b:FV):List D->FV
 |[]=>λr S=>if oY S c=ai then wq ([],r,S)else aj
 |d::ds=>λr S=>if oY S c=ai then(g d r S).bind λp=>(t p.1 p.2).bind λk=>if k.1=ai then(b p.1 k.2).bind λq=>(gh c g t b ds q.2.1 q.2.2).map λz=>(q.1++z.1,z.2)else gh c g t b ds p.1 k.2 else aj
def d9(m:FE):FV:=λr S=>(m r S).map λq=>([q.1],r,q.2)
def eG(k:Nat)(keep:List Nat)(m:FI)(g:FG)(t:FT)(b:FV):FE:=λr S=>(m r S).bind λp=>
 (gh p.1.chk g t b p.1.items (l0 k keep r) p.2).bind λq=>if q.1.length<=c9 then wq (.ref q.2.2.length,q.2.2++[.lst q.1])else aj
section
variable{K:Fg1}{H H' H1:Hp}{mu mu' mu1:List cZ}{S:Sto}{a:cZ}
def Ext.aside(x:Ext mu mu' H H'):Ext (a::mu) (a::mu') H H' where
 pre:=bN.mpr ⟨ag,x.pre⟩
 old:=λb o h n=>x.old b o h λz=>n (mC1 _ z)
 tup:=x.tup
 frz:=x.frz
 new:=λb h=>by
  rcases aw.mp h with h|h
  ·exact .inl (by rw[h];exact mS1)
  ·rcases x.new b h with q|q
   ·exact .inl (mC1 _ q)
   ·exact .inr q
def Ext.inner(x:Ext (a::mu) (a::mu') H H'):sy mu mu' H H':=⟨(bN.mp x.pre).2,x.tup,x.frz⟩
def Ext.held{o:HO}(x:Ext mu mu' H H')(ha:H a=wq o)(hn:a∉mu):H' a=wq o/\a∉mu':=by
 refine⟨x.old a o ha hn,λz=>?_⟩;rcases x.new a z with q|q
 ·exact hn q
 ·rw[ha]at q;cases q
def fD.exw{r:Ev}{σ:L2.St}(e:sy mu mu' H H')(h:fD K H mu r σ):fD K H' mu' r σ:=⟨h.len,λi d q=>by
 obtain⟨v,a,b⟩:=h.val i d q;exact⟨v,a,b.exw e⟩⟩
def oP.exw{b:cZ}(e:sy mu mu' H H')(h:∀o,H b=wq o->H' b=wq o):∀{o:Ob},oP K H mu b o->oP K H' mu' b o
 | .lst _,⟨vs,q,r⟩=>⟨vs,h _ q,r.exw e⟩
 | .dct _,⟨ws,q,r⟩=>⟨ws,h _ q,Paired.mapP r λ_ _ z=>⟨z.1,z.2.exw e⟩⟩
 | .dcT _,⟨ws,q,r,l⟩=>⟨ws,h _ q,Paired.mapP r λ_ _ ⟨z,d,k,v,a,r⟩=>⟨z,d,k.exw e,v,a,r.exw e⟩,l⟩
 | .iset _,q=>⟨h _ q.1,q.2⟩
 | .dcF _,⟨ws,⟨o,u,f,c⟩,r,l⟩=>⟨ws,⟨o,u,h _ f,c⟩,Paired.mapP r λ_ _ ⟨z,d,k,v,a,r⟩=>⟨z,d,k.exw e,v,a,r.exw e⟩,l⟩
 | .tst _,⟨ws,q,r⟩=>⟨ws,h _ q,Paired.mapP r λ_ _ ⟨z,d,k,v,a,r⟩=>⟨z,d,k.exw e,v,a,r.exw e⟩⟩
def Sim.aside{u:HO}(s:Sim K H mu S)(e:sy mu mu H (upd H a u))(hn:a∉mu):Sim K (upd H a u) mu S:=
 ⟨s.len,s.nd,λk o b h1 h2=>(s.ob k o b h1 h2).exw e λo' q=>by rw[dL (λz=>hn (by rw[<- z];exact gM1 h2))];exact q⟩
end
inductive Ke (K:Fg1)(a:cZ)(m:FV)(E:jN)(σ:L2.St)(H:Hp):Prop
 |mk (r:Ev) (mu:List cZ) (S:Sto) (acc:List D) (vs:List V) (xs:List D) (r':Ev) (S':Sto):H a=some (.lst vs)->a∉mu->dB K H mu acc vs->fD K H mu r σ->Sim K H mu S->m r S=some (xs,r',S')->vs.length+xs.length<=c9 ->
 (∀ σ' H' mu' vs',Ext (a::mu) (a::mu') H H'->H' a=some (.lst vs')->a∉mu'->dB K H' mu' (acc++xs) vs'->fD K H' mu' r' σ'->Sim K H' mu' S'->E.nx σ' H')->Ke K a m E σ H
def t0{K:Fg1}{a:cZ}{m:FE}{E:jN}{σ:L2.St}{H:Hp}(h:Ke K a (d9 m) E σ H):vS a (tM K m) E σ H:=by
 obtain⟨r,mu,S,k,vs,xs,u,w,l,f,s,i,n,g,p,hc⟩:=h;obtain⟨⟨d,t⟩,q,g⟩:=oM1.mp g;cases g;refine⟨r,mu,S,d,t,i,n,q,λv H1 mu1 e j o=>?_⟩;obtain⟨c,b⟩:=e.held l f;have put:Ext (a::mu1) (a::mu1) H1 (upd H1 a (.lst (vs++[v]))):=Ext.put c trivial mS1;refine⟨vs,c,p,?_⟩;exact hc σ _ mu1 (vs++[v]) (e.aside.trans put) dP b (((s.ext e).append (.cons j .nil)).exw put.inner) ((i.ext e).exw put.inner) (o.aside put.inner b)
inductive Lq (K:Fg1)(a:cZ)(mu2:List cZ)(H:Hp)(c:List (Nat×List D))(g:FG)(t:FT)(b:FV)(r':Ev)(S':Sto)(tot:List D)(L:List D)(σ':L2.St)(H':Hp):Prop
 |mk (r3:Ev) (mu3:List cZ) (S3:Sto) (acc3:List D) (vs3:List V) (xs3:List D):Ext (a::mu2) (a::mu3) H H'->H' a=some (.lst vs3)->a∉mu3->dB K H' mu3 acc3 vs3->fD K H' mu3 r3 σ'->Sim K H' mu3 S3->gh c g t b L r3 S3=some (xs3,r',S')->acc3++xs3=tot->vs3.length+xs3.length<=c9->Lq K a mu2 H c g t b r' S' tot L σ' H'
def AF{K:Fg1}{a:cZ}{j:It}{J:yt}{g:FG}{t:FT}{b:FV}{tb:TS}{D:jN}(hb:∀ E σ H,Ke K a b E σ H->tb E σ H){mu1 e:List cZ}{H1 H:Hp}{r G:Ev}{S M:Sto}{σ:L2.St}{h xs:List Mi.D}{vs:List V}(hJ:Lr K j J mu1 H1)(x:sy mu1 e H1 H)(ha:H a=wq (.lst vs))(hna:a∉e)(hr:dB K H e h vs)(he:fD K H e r σ)(hs:Sim K H e S)(hm:gh J.chk g t b J.items r S=wq (xs,G,M))(hl:vs.length+xs.length<=c9)(hc:∀m H' mu' B,Ext (a::e) (a::mu') H H'->H' a=wq (.lst B)->a∉mu'->dB K H' mu' (h++xs) B->fD K H' mu' G m->Sim K H' mu' M->D.nx m H'):Ei j (Ie K g) (B4 K t) tb D σ H:=by
 refine⟨λi k m H'=>k=(J.items.drop i).length/\Lq K a e H J.chk g t b G M (h++xs) (J.items.drop i) m H',
  ⟨_,ag,r,e,S,h,vs,xs,.refl _ _,ha,hna,hr,he,hs,hm,ag,hl⟩,?_⟩
 rintro i k R U ⟨rfl,r3,n,S3,f,vs3,Y,L,u,v,z,C,Z,c,o,l⟩;cases hd0:J.items.drop i with
 |nil=>
  left;rw[hd0,gh]at c;dsimp only at c;split at c
  ·rename_i ok;cases c;refine⟨(hJ i U n _ (x.trans L.inner) Z ok).2 (List.drop_eq_nil_iff.mp hd0),hc R U n vs3 L u v ?_ C Z⟩;rw[<- o,aF];exact z
  ·cases c
 |cons d ds=>
  right;rw[hd0]at c;obtain⟨hi,hd⟩:=mH hd0;rw[gh]at c;dsimp only at c;split at c
  ·rename_i ok;obtain⟨⟨I,S4⟩,e4,c⟩:=oB1.mp c;obtain⟨⟨k5,S5⟩,e5,c⟩:=oB1.mp c;obtain⟨go,yl⟩:=(hJ i U n _ (x.trans L.inner) Z ok).1 d hi;refine⟨go,Lq K a e H J.chk g t b G M (h++xs) ds,?_,λy H4 yy=>?_⟩
   ·intro m H' h6;exact⟨ds.length,br _,(congrArg List.length hd).symm,hd.symm ▸ h6⟩
   ·obtain⟨N,s4,q4⟩:=yl y H4 yy;obtain⟨O,Q⟩:=N.held u v;refine⟨r3,n,S3,d,I,S4,C.ext N,s4,q4,e4,fun σ5 H5 W x5 q s5=>?_⟩;obtain⟨ha5,hn5⟩:=x5.held O Q;refine⟨I,W,S4,k5,S5,q,s5,e5,λH6 p x6 s6=>?_⟩;obtain⟨A,w⟩:=x6.held ha5 hn5;have xx:=((L.trans N.aside).trans x5.aside).trans x6.aside;have s:dB K H6 p f vs3:=((z.ext N).ext x5).ext x6;cases k5 with
    |true=>
     obtain⟨⟨q1,r7,S7⟩,e7,c⟩:=oB1.mp c;obtain⟨⟨z1,r8,S8⟩,e8,c⟩:=oM1.mp c;cases c;refine hb _ _ _ ⟨I,p,S5,f,vs3,q1,r7,S7,A,w,s,q.ext x6,s6,e7,?_,fun σ8 H8 mu8 vs8 x8 T P F X s8=>⟨r7,mu8,S7,f++q1,vs8,z1,xx.trans x8,T,P,F,X,s8,e8,?_,?_⟩⟩
     ·rw[lA1]at l;dsimp only at l;lia
     ·rw[<- o,bw]
     ·have:=F.length;have h3:=s.length;rw[lA1]at this l;dsimp only at l;lia
    |false=>exact⟨I,p,S5,f,vs3,Y,xx,A,w,s,q.ext x6,s6,c,o,l⟩
  ·cases c
def t8{K:Fg1}{k:Nat}{keep:List Nat}{m:FI}{g:FG}{t:FT}{b:FV}{tb:cZ->TS}(hb:∀ a E σ H,Ke K a b E σ H->tb a E σ H){σ:L2.St}{H:Hp}{Q:VK}(h:tM K (eG k keep m g t b) σ H Q):
  zf k keep (KA K m) (Ie K g) (B4 K t) tb σ H Q:=by
 obtain⟨r,mu,S,d,Y,M,O,f,hc⟩:=h;obtain⟨⟨J,T⟩,W,f⟩:=oB1.mp f;obtain⟨⟨xs,r2,L⟩,V,f⟩:=oB1.mp f;dsimp only at f;split at f
 ·rename_i P;cases f;refine ⟨r,mu,S,J,T,M,O,W,fun j H1 mu1 F X I p i=>?_⟩;have w:Ext mu1 mu1 H1 (upd H1 p (.lst [])):=Ext.fresh i;refine AF (hb p) X w.w dP (I.notin i) .nil ((Jt k keep (M.ext F)).ext w) (I.fresh i) V (by simpa using P) fun U H' mu' l v x A D R s'=>?_;have y:Ext mu1 (mu'++[p]) H1 H':=by
   refine⟨((bN.mp v.pre).2).trans (bm _ _),λb o e n=>?_,λb ys e=>v.tup b ys (w.tup b ys e),λb o u e=>v.frz b o u (w.frz b o u e),λb C=>?_⟩
   ·have G:b≠p:=dY e i;exact v.old b o (by rw [dL G];exact e) fun z=>by
     rcases aw.mp z with z|z
     ·exact G z
     ·exact n z
   ·rcases ay.mp C with z|z
    ·rcases v.new b (mC1 _ z)with q|q
     ·rcases aw.mp q with q|q
      ·exact .inr (by rw[q];exact i)
      ·exact .inl q
     ·by_cases s:b=p
      ·exact .inr (by rw[s];exact i)
      ·rw[dL s]at q;exact .inr q
    ·have:b=p:=by simpa using z
     exact .inr (by rw[this];exact i)
  refine hc _ H' (mu'++[p]) (F.trans y) (.ref (gp s'.len p)) ⟨by rw[lA1,lA1,s'.len];rfl,?_,λn o b h1 h2=>?_⟩
  ·rw[bo];refine⟨s'.nd,by simp,λb hb c hc e=>?_⟩;have:c=p:=by simpa using hc
   subst this;subst e;exact A hb
  ·by_cases N:n<L.length
   ·rw[gL1 N]at h1;rw[gL1 (by rw[s'.len];exact N)]at h2;exact(s'.ob n o b h1 h2).mor [p]
   ·have B:n=L.length:=by
     have:=(gE1.mp h1).1;rw[lA1]at this;simp at this;lia
    subst B;rw[gR1 (nR1 _)]at h1;rw[<- s'.len,gR1 (nR1 _)]at h2;simp at h1 h2;subst h1;subst h2;exact⟨l,x,(by simpa using D:dB K H' mu' xs l).mor [p]⟩
 ·cases f
section
variable{X:Cx}
def qZ{elt tg iter:Expr}{ifs:List Expr}{scope:dg}{pos:Pos}{T:List Str}{keep:List Nat}{i:List (Str×cZ)}{m:FI}{g:FG}{t:FT}{e:FE}(hc:X.calm=ai)(C:J9 X scope T keep)(c:j6 X.env.cells scope.names []=wq i)(hi:XI X tg iter m)(hb:∀s H b,Ll (cxC X scope i T keep s H b) X.K tg ifs elt g t e)(hs:∀x,foldedSetIterable iter X.env x=pure x:=by intro _;rfl):XE X (.ListComp elt [⟨tg,iter,ifs,0⟩] scope pos) (eG T.length keep m g t (d9 e)):=
 ⟨ee (CH (emit:=t3 elt) (tb:=λp=>vS p (tM X.K e)) hc (λit d f=>yZ elt tg iter ifs scope pos it d f) C c hi.h (λs H b p=>⟨(hb s H b).g.h,(hb s H b).t.h,wa (hb s H b).e.h p⟩) hs)
  fun σ H Q h=>t8 (λa E σ H q=>t0 q) h⟩
def ph{elt tg iter:Expr}{ifs:List Expr}{scope:dg}{pos b n:Pos}{y:Str}(i:Nat){T:List Str}{keep:List Nat}{l:List (Str×cZ)}{m:FI}{g:FG}{t:FT}{e:FE}(hc:X.calm=ai)(C:J9 X scope T keep)(d:j6 X.env.cells scope.names []=wq l)(hi:XI X tg iter m)(hb:∀s H c,Ll (cxC X scope l T keep s H c) X.K tg ifs elt g t e)(hN:X.N.Nodup)(hy:X.N[i]?=wq y)(hx:yr X.env.scope y)(k:swapsWith (.ListComp elt [⟨tg,iter,ifs,0⟩] scope pos) (wq (.Name y n)) b.line X.env=pure ai:=by rfl)(hf:X.fn y=ai\/X.env.scope.names.lookup y=wq .local:=by first|exact .inl rfl|exact .inr rfl|assumption)(hs:∀x,foldedSetIterable iter X.env x=pure x:=by intro _;rfl):XS X (.Assign [.Name y n] (.ListComp elt [⟨tg,iter,ifs,0⟩] scope pos) b) (dD (eG T.length keep m g t (d9 e)) (gN i)):=
 ⟨iS (Cu (emit:=t3 elt) (tb:=λp=>vS p (tM X.K e)) hc k (λit f j=>yZ elt tg iter ifs scope pos it f j) C d hi.h (λs H c p=>⟨(hb s H c).g.h,(hb s H c).t.h,wa (hb s H c).e.h p⟩) hN hy hx hf hs)
  λE σ H h=>HA (fun σ H Q q=>t8 (λa E σ H q=>t0 q) q) h⟩
end
def rm:D->Option Key
 | .int i=>wq (.inl i)
 | .str x=>wq (.inr x)
 |_=>aj
def dE{κ:Type}[DecidableEq κ](kvs:List (κ×D))(k:κ):Option D:=(kvs.find? λp=>decide (p.1=k)).map (·.2)
def gP{κ:Type}[DecidableEq κ](kvs:List (κ×D))(k:κ)(d:D):List (κ×D):=
 if(kvs.any λp=>decide (p.1=k))=ai then kvs.map (λp=>if p.1=k then(p.1,d)else p)else kvs++[(k,d)]
section
variable{K:Fg1}{H:Hp}{mu:List cZ}
def lp{d:D}{v:V}{k:Key}(r:eQ K H mu d v)(h:rm d=wq k):v=kV k:=by
 cases r with
 |int i=>cases h;rfl
 |str x=>cases h;rfl
 |_=>cases h
end
section
variable{κ:Type} [DecidableEq κ] {K:Fg1}{H:Hp}{mu:List cZ}
def KR.length:∀{ks:List (κ×D)} {ws:List (κ×V)},KR K H mu ks ws->ks.length=ws.length:=λh=>Paired.length h
def KR.look{k:κ}:∀ {ks:List (κ×D)} {ws:List (κ×V)},KR K H mu ks ws ->
  (∀d,dE ks k=wq d -> ∃v,gD ws k=wq v/\eQ K H mu d v)/\(dE ks k=aj->gD ws k=aj):=by
 intro ks ws h
 induction h with
 |nil=>exact⟨λd h=>by simp[dE]at h,λ_=>rfl⟩
 | @cons p q ks ws r t ih=>
  obtain⟨b,f⟩:=p;obtain⟨j,c⟩:=q;obtain⟨e,r⟩:=r;dsimp only at e r;subst e;obtain⟨h1,h2⟩:=ih;by_cases a:b=k
  ·subst a;refine⟨λd h=>?_,λh=>?_⟩
   ·have:f=d:=by simpa[dE]using h
    subst this;exact⟨c,by simp[gD],r⟩
   ·simp[dE]at h
  ·have g:dE ((b,f)::ks) k=dE ks k:=by simp[dE,aT,a]
   have i:gD ((b,c)::ws) k=gD ws k:=by simp[gD,aT,a]
   rw[g,i];exact⟨h1,h2⟩
def KR.any{k:κ}:∀{ks:List (κ×D)} {ws:List (κ×V)},KR K H mu ks ws->(ks.any λp=>decide (p.1=k))=ws.any λp=>decide (p.1=k):=by
 intro ks ws h
 induction h with
 |nil=>rfl
 |cons r t ih=>rw[aU,aU,ih,r.1]
def KR.repl{k:κ}{d:D}{v:V}(q:eQ K H mu d v):∀ {ks:List (κ×D)} {ws:List (κ×V)},KR K H mu ks ws ->
  KR K H mu (ks.map λp=>if p.1=k then(p.1,d)else p) (ws.map λp=>if p.1=k then(p.1,v)else p):=by
 intro ks ws h
 induction h with
 |nil=>exact .nil
 | @cons a b ks ws r t ih=>
  refine .cons ?_ ih;obtain⟨e,r⟩:=r;dsimp only;by_cases h:a.1=k
  ·rw[if_pos h,if_pos (e ▸ h)];exact⟨e,q⟩
  ·rw[if_neg h,if_neg (e ▸ h)];exact⟨e,r⟩
def KR.snoc{k:κ}{d:D}{v:V}(q:eQ K H mu d v):∀{ks:List (κ×D)} {ws:List (κ×V)},KR K H mu ks ws->KR K H mu (ks++[(k,d)]) (ws++[(k,v)]):=by
 intro ks ws h
 induction h with
 |nil=>exact .cons ⟨ag,q⟩ .nil
 |cons r t ih=>exact .cons r ih
def KR.put{k:κ}{d:D}{v:V}(q:eQ K H mu d v){ks:List (κ×D)}{ws:List (κ×V)}(h:KR K H mu ks ws):KR K H mu (gP ks k d) (iR ws k v):=by
 unfold gP iR;rw[h.any];split
 ·exact h.repl q
 ·exact h.snoc q
end
def u9:G2:=λd e S=>match e with
 | .ref n=>match S[n]? with
  |some (.dct kvs)=>(rm d).map λk=>(.bl (dE kvs k).isSome,S)
  |_=>HQ d e S
 |_=>HQ d e S
def iW:G2:=λd e S=>match e with
 | .ref n=>match S[n]? with
  |some (.dct kvs)=>(rm d).map λk=>(.bl (!(dE kvs k).isSome),S)
  |_=>l5 d e S
 |_=>l5 d e S
def mU:G2:=λd e S=>match d with
 | .ref n=>match S[n]? with
  |some (.dct kvs)=>(rm e).bind λk=>(dE kvs k).map λx=>(x,S)
  |_=>BO d e S
 |_=>BO d e S
def mF:G3:=λo i v S=>match o with
 | .ref n=>match S[n]? with
  |some (.dct kvs)=>(rm i).bind λk=>if kvs.length<c9 then wq (.non,S.set n (.dct (gP kvs k v)))else aj
  |_=>kx o i v S
 |_=>kx o i v S
section
variable{X:Cx}
def nZ{K:Fg1}{H:Hp}{mu:List cZ}{S:Sto}(hs:Sim K H mu S){n:Nat}{a:cZ}{kvs:List (Key×D)}{k:Key}{y:V}(hn:mu[n]? = some a)(he:S[n]? = some (.dct kvs))(hy:y=kV k):
  ∃o:Option V,pe H a y o/\(∀d,dE kvs k=wq d -> ∃v,o=wq v/\eQ K H mu d v)/\(dE kvs k=aj->o=aj)/\o.isSome=(dE kvs k).isSome:=by
 obtain⟨ws,b,f⟩:=hs.dct he hn;subst hy;obtain⟨h1,h2⟩:=f.look (k:=k);refine⟨gD ws k,pe.k b,h1,h2,?_⟩;cases e:dE kvs k with
 |none=>rw[h2 e];rfl
 |some d=>obtain⟨v,c,_⟩:=h1 d e;rw[c];rfl
def IU(q:X.A.units+64<cLine):fZ X (compareOp .In) (r2 X.K (b2 u9)):=by
 intro pins s σ H x y u w Q I i j h;obtain⟨mu,S,d,e,r,l,f,b,c,a,hc⟩:=uv h;have back:HQ d e S=wq (r,l)->da (model X.prog X.w) X.A (compareOp .In u w) (EP X pins σ Q) X.xe s:=λa=>KQ q pins s σ H x y u w Q I i j ⟨mu,S,[d,e],r,l,.cons f (.cons b .nil),c,a,hc⟩;unfold u9 at a;split at a
 ·rename_i n;split at a
  ·rename_i kvs t;obtain⟨k,p,a⟩:=oM1.mp a;cases a;cases b with
   |ref m=>
    cases j;obtain⟨o,g,_,_,hi⟩:=nZ c m t (lp f p);exact K8 (by lia) I g i λs' v=>⟨.bl o.isSome,H,v,ag,by rw[hi];exact hc.now (.bl _) c⟩
  ·exact back a
 ·exact back a
def Aa(q:X.A.units+64<cLine):fZ X (compareOp .NotIn) (r2 X.K (b2 iW)):=by
 intro pins s σ H x y u w Q I i j h;obtain⟨mu,S,d,e,r,l,f,b,c,a,hc⟩:=uv h;have back:l5 d e S=wq (r,l)->da (model X.prog X.w) X.A (compareOp .NotIn u w) (EP X pins σ Q) X.xe s:=λa=>CS q pins s σ H x y u w Q I i j ⟨mu,S,[d,e],r,l,.cons f (.cons b .nil),c,a,hc⟩;unfold iW at a;split at a
 ·rename_i n;split at a
  ·rename_i kvs t;obtain⟨k,p,a⟩:=oM1.mp a;cases a;cases b with
   |ref m=>
    cases j;obtain⟨o,g,_,_,hi⟩:=nZ c m t (lp f p);exact DT (by lia) I g i λs' v=>⟨.bl (!o.isSome),H,v,ag,by rw[hi];exact hc.now (.bl _) c⟩
  ·exact back a
 ·exact back a
def HU(P:X.A.units+64<cLine):EW X (r2 X.K (b2 mU)):=by
 intro value b pins s σ H x y v u Q I t B h m;obtain⟨mu,S,d,e,r,A,w,l,p,c,hc⟩:=uv h;have back:BO d e S=wq (r,A)->da (model X.prog X.w) X.A (subscriptTail value b v u) (EP X pins σ Q) X.xe s:=λc=>Kq value b pins s σ H x y v u Q I t B ⟨mu,S,[d,e],r,A,.cons w (.cons l .nil),p,c,hc⟩ m;unfold mU at c;split at c
 ·rename_i n;split at c
  ·rename_i kvs O;obtain⟨k,D,c⟩:=oB1.mp c;obtain⟨z,E,c⟩:=oM1.mp c;cases c;cases w with
   | @ref _ a L=>
    cases t;obtain⟨o,g,h1,_,_⟩:=nZ p L O (lp l D);obtain⟨G,F,J⟩:=h1 _ E;subst F;have C:=t4 I g;unfold subscriptTail;refine wB1 ?_;rw[getitemInPython_of_ne C.not_modules];refine wB1 (wpAny_specialOf C PySem.F.slot_dict_getitem.lookup ?_);have i:da (model X.prog X.w) X.A (subscripted b ah (.ref a) u) (λr f=>da (model X.prog X.w) X.A (letTemporaryGo value (.ref a) r >>= λ_=>pure r) (EP X pins σ Q) X.xe f) X.xe s:=by
     rw[m];exact wpAny_operating (wpAny_mono (ye (by lia) I g B λN K M q=>(⟨G,H,M,q,hc.now J p⟩:EP X pins σ Q N K)) (λr f j=>wB1 (wpAny_letTemporaryGo (wP1 j))) λ_ _ x=>x)
    first
     |exact wP1 (wB1 i)
     |exact wB1 i
     |exact i
  ·exact back c
 ·exact back c
def Fm(L:X.A.units+64<cLine):vz X (rU X.K (b3 mF)):=by
 intro pins s σ H o i v f m u Q I g l r h;obtain⟨mu,S,ds,d,z,G,b,a,hc⟩:=id h;cases G with
 |cons w B=>cases B with
  |cons j E=>cases E with
   |cons p K=>
    cases K;rename_i y t q;dsimp only[b3]at a;have back:kx y t q S=wq (d,z)->da (model X.prog X.w) X.A (setItem f m u) (λ_ s'=>∃H',Inv X pins σ H' s'/\Q H') X.xe s:=λa=>Ir pins s σ H o i v f m u Q I g l r ⟨mu,S,[y,t,q],d,z,.cons w (.cons j (.cons p .nil)),b,a,hc⟩;unfold mF at a;split at a
    ·rename_i n;split at a
     ·rename_i kvs J;obtain⟨k,A,a⟩:=oB1.mp a;split at a
      ·rename_i D;cases a;cases w with
       |ref c=>
        cases g;obtain⟨ws,e,x⟩:=b.dct J c;have C:=lp j A;subst C;refine yd (by lia) I (yu.k e (by rw[<- x.length];exact D)) l r λs' F=>⟨_,F,?_⟩;have put:Ext mu mu H (upd H _ (.dK (iR ws k v))):=Ext.put e trivial (gM1 c);exact hc _ mu put (b.put c e trivial ⟨_,dP,(x.put p).ext put⟩)
      ·cases a
     ·exact back a
    ·exact back a
def im:FE:=λ_ S=>wq (.ref S.length,S++[.dct []])
def iz{pos:Pos}:XE X (.Dict [] [] pos) im:=⟨ee zP <| by
 rintro σ H Q ⟨r,mu,S,d,f,e,a,c,hc⟩ p b;cases c;exact hc _ _ (mu++[p]) (Ext.new_ b) (.ref (gp a.len p)) (a.new b ⟨[],dP,.nil⟩)⟩
structure XP (X:Cx)(pos:Pos)(ks:List (Option Expr))(vs:List Expr)(l:List (FE×FE)):Prop where
 h:My X pos ks vs (l.map λp=>(tM X.K p.1,tM X.K p.2))
def G5{K:Fg1}{H:Hp}{mu:List cZ}{S:Sto}(hs:Sim K H mu S){n:Nat}{a:cZ}{kvs:List (Key×D)}(hn:mu[n]?=wq a)(he:S[n]?=wq (.dct kvs)):Ls H a:=by
 obtain⟨ws,b,_⟩:=hs.dct he hn;exact .inl ⟨ws,.inl b⟩
end
section
variable{K:Fg1}{H H':Hp}{mu mu':List cZ}{S:Sto}
end
def zU{P:c0}{w:c6}{K:Fg1}{mg:Str->Option cX}{base:db}{x a:Str}{st:df}{f:cZ}{fd:de}{ps:List Str}{k n:Nat}(F:xc K x a st f fd)(hb:jf K fd ps [])(hm:mg x=wq (.ref f)):Own P w K mg base k x n (λ_ _=>aj):=by
 have no:∀vs H Q E,¬ spM K n (λ_ _=>aj) vs H Q E:=λvs H Q E h=>by
  obtain⟨_,mu,S,ds,d,i,_,_,e,_⟩:=h;cases e
 exact⟨f,fd,ps,⟨λvs H Q E h=>absurd h (no vs H Q E),λA b s H c g vs Q E _ _ _ _ h=>absurd h (no vs H Q E)⟩,hb,F.kp,hm⟩
def kI{X:Cx}(i j:Nat){x y:Str}{a b:Expr}{m:FA}{n l pt pos:Pos}{kt k2 pt2}(hc:X.calm=true)(hN:X.N.Nodup)(hi:X.N[i]? = some x)(u:X.N[j]? = some y)(k:i≠j)(hx:X.env.scope.names.lookup x=some .local)(hy:X.env.scope.names.lookup y=some .local)(ha:XA X [a,b] m)(hw:swappedStores [.Tuple [.Name x n,.Name y l] kt pt] (.Tuple [a,b] k2 pt2) X.env=pure (some [x,y]):=by rfl)(hs:swapsWithSole [.Tuple [.Name x n,.Name y l] kt pt] (.Tuple [a,b] k2 pt2) pos.line X.env=pure false:=by rfl):
  XS X (.Assign [.Tuple [.Name x n,.Name y l] kt pt] (.Tuple [a,b] k2 pt2) pos) (dD (dI m) (gT 2 (fv (gN i) (fv (gN j) jh)))):=
 ⟨iS (Fz hc hN hi u k hx hy ha.h hw hs) <| by
  rintro E σ H ⟨r,mu,S,f,z,C,p,hs,h,hc⟩;obtain⟨⟨d,A⟩,e,h⟩:=oB1.mp h;obtain⟨⟨r2,B⟩,c,h⟩:=oB1.mp h;cases h;obtain⟨⟨ds,w⟩,t,e⟩:=oB1.mp e;dsimp only at e;split at e
  ·cases e;refine⟨r,mu,S,ds,_,p,hs,t,λvs H1 mu1 o g s=>?_⟩;dsimp only at c;rw[gT]at c;split at c
   ·cases g with
    |nil=>cases c
    |cons v g=>cases g with
     |nil=>cases c
     |cons q g=>cases g with
      |nil=>
       cases c;exact⟨_,_,ag,hc _ H1 mu1 o (((p.ext o).set v).set q) s⟩
      |cons _ _=>cases c
   ·cases c
  ·cases e⟩
end Mi
namespace HT
open PySem PySem.Spec PyProof.Rows
variable{prog:c0}{w:c6}{A:c5}{E:cX->cY->Prop}{s:cY}
def j3{t b:cZ}{items:Array cX}{g f:cX}{lo hi:Option Int}{Q:cX->cY->Prop}(ht:IsTup s.heap t items)(hs:s.heap.IsSliceOf b g f .none)(pl:IsPart g lo)(i:IsPart f hi)(hw:sIx items.size 0 lo=0/\sIx items.size items.size hi=items.size)(h:Q (.ref t) s):da (model prog w) A (getItem (.ref t) (.ref b)) Q E s:=by
 obtain⟨j,c,d,k⟩:=id hs;have e:s.TypeIs (.ref b) "slice":=⟨j,c,d⟩;unfold getItem
 try with_reducible refine wpAny_holding ?_
 first|refine wB1 (wP1 ?_)|skip
 refine wB1 (wpAny_sequenceKey ht.typeIs (by decide) ?_);refine wB1 (wpAny_callSpecial?_slot (name:=Str.ofString "__getitem__") ht.typeIs PyProof.Rows.slot_tuple_getitem
  (wE1 PyProof.Rows.slot_tuple_getitem ht.typeIs entry_tuple_getitem ?_ (args_tuple_getitem _ _)))
 show da _ _ (Builtin.Tuple.tupleItemsOf (.ref t) >>= _) _ _ s;refine wB1 (tupleItemsOf_ ht ?_);refine wB1 (wpAny_typeOf e ?_);rw[if_pos (by decide)];refine wB1 (iA hs pl i ?_);have a:((((sIx items.size 0 lo:Nat):Int) == 0&&(1:Int) == 1&&(sIx items.size items.size hi-sIx items.size 0 lo) == items.size)=ai):=by
  rw[hw.1,hw.2];simp
 show da _ _ (if(((sIx items.size 0 lo:Nat):Int) == 0&&(1:Int) == 1&&(sIx items.size items.size hi-sIx items.size 0 lo) == items.size)=ai then _ else _) _ _ s;rw[if_pos a];refine wB1 ?_;unfold Builtin.Tuple.tupleIsExact;refine wB1 (wpAny_typeOf ht.typeIs (wP1 ?_));rw[if_pos (by decide)]
 first
  |exact wB1 (wpAny_rule (wP1 ⟨_,rfl,wP1 h⟩))
  |exact wB1 (wpAny_rule (wB1 (wP1 ⟨_,rfl,wP1 h⟩)))
end HT
namespace Mi
open PySem PySem.Spec PyProof.Rows L2
def KJ(K:Fg1):V->Option Int->Option Int->Hp->VK->Prop:=λx lo hi H Q=>∃a xs,x = .ref a/\jL K H a xs/\(HT.sIx xs.length 0 lo=0/\HT.sIx xs.length xs.length hi=xs.length)/\Q (.ref a) H
section
variable{X:Cx}
def Cd:BQ X (KJ X.K):=by
 intro pins s σ H x v n l lo hi k Q I i g pl e h;obtain⟨a,xs,rfl,f,j,q⟩:=h;cases i;obtain⟨c,r,d,m⟩:=I.tuple f;have b:c.toArray.size=xs.length:=by rw[sT1];exact r.length.symm
 refine⟨"tuple",_,PyProof.Rows.slot_tuple_getitem.lookup,d.typeIs,?_⟩;exact HT.j3 d g pl e (by rw[b];exact j) ⟨.ref a,H,I,ag,q⟩
def zo(S:Sto)(d:D)(lo hi:Option Int):Option (D×Sto):=(dG S d).map λp=>if p.1=ai then(.ref S.length,S++[.lst (Mi.iK p.2 lo hi)])else(.tup (Mi.iK p.2 lo hi),S)
def kw(m:FE)(lo hi:FO):FE:=λr S=>(m r S).bind λp=>(lo r p.2).bind λa=>(hi r a.2).bind λb=>zo b.2 p.1 a.1 b.1
def yf{xs:List D}{lo hi:Option Int}(h:HT.sIx xs.length 0 lo=0/\HT.sIx xs.length xs.length hi=xs.length):Mi.iK xs lo hi=xs:=by
 unfold Mi.iK;rw[h.1,h.2,List.drop_zero,Nat.sub_zero,bO]
def fw{e:Expr}{lo hi:Option Expr}{m:FE}{a b:FO}{pos p2:Pos}(h:XE X e m)(C:XO X lo a)(M:XO X hi b):XE X (.Subscript e (.Slice lo hi aj p2) pos) (kw m a b):=
 ⟨ee (zN (BQ.or Cd (BQ.or Fi Ce)) h.h C.h M.h) <| by
  rintro σ H Q ⟨r,mu,S,d,P,w,B,f,hc⟩;obtain⟨⟨N,y⟩,L,f⟩:=oB1.mp f;obtain⟨⟨l,z⟩,K,f⟩:=oB1.mp f;obtain⟨⟨n,E⟩,J,f⟩:=oB1.mp f;refine⟨r,mu,S,N,y,w,B,L,λv H1 mu1 o G I=>?_⟩;refine⟨r,mu1,y,l,z,w.ext o,I,K,λH2 u x2 F=>?_⟩;refine⟨r,u,z,n,E,(w.ext o).ext x2,F,J,λO g A j=>?_⟩;obtain⟨⟨k,xs⟩,D,f⟩:=oM1.mp f;have s:=(o.trans x2).trans A;obtain⟨c,vs,rfl,q,t⟩:=dA ((G.ext x2).ext A) j D;cases k with
  |true=>
   cases f;right;right;exact⟨c,vs,ag,q,λp i=>hc _ _ (g++[p]) (s.trans (Ext.new_ i)) (.ref (gp j.len p)) (j.newL (wX t l n) i)⟩
  |false=>
   simp only[bF1,if_false]at f;cases f;by_cases x:HT.sIx xs.length 0 l=0/\HT.sIx xs.length xs.length n=xs.length
   ·left;rw[yf x]at hc;exact⟨c,vs,ag,q,by rw[<- t.length];exact x,hc _ _ g s (.tup q t) j⟩
   ·right;left;exact⟨c,vs,ag,q,by rw[<- t.length];exact x,λp i=>hc _ _ g (s.trans (Ext.fresh i)) (.tup (jL.of dP) ((wX t l n).ext (Ext.fresh i))) (j.fresh i)⟩⟩
end
mutual
inductive eO (h:db):TK->cX->Prop
 |non:eO h .non .none
 |int (i t):eO h (.int i) (.int i t)
 |tup {a o items n xs}:h.get? a=some o->o.cls = .type "tuple"->o.data = .seq items n->eX h xs items.toList->eO h (.tup xs) (.ref a)
inductive eX (h:db):List TK->List cX->Prop
 |nil:eX h [] []
 |cons {k v ks vs}:eO h k v->eX h ks vs->eX h (k::ks) (v::vs)
end
section
variable{prog:c0}{w:c6}{A:c5}{E:cX->cY->Prop}{s:cY}
def sP{Q:Int->cY->Prop}(h:Q 0xFCA86420 {s with toks:=s.toks+1}):da (model prog w) A (pyHash .none) Q E s:=by
 have a:s.TypeIs .none "NoneType":=rfl;unfold pyHash
 first|unfold pyHashByItsType|skip
 have b:[Value.none].any Value.onHeap=ah:=rfl;refine wB1 ?_;rw[cRoomFor,if_neg (by rw[b];exact aC)];refine wP1 ?_;refine wB1 (wpAny_specialOf a F.slot_NoneType_hash.lookup ?_);show da _ _ (if(wq (Value.builtin "NoneType.__hash__") == wq Value.none)=ai then _ else _) Q E s;rw[if_neg (by rw[beq_builtin_none];exact aC)];refine wB1 (wpAny_specialOf a F.slot_NoneType_hash.lookup ?_);show da _ _ (callSpecialIfBoundUnlessNone? .none "__hash__" _ >>= _) Q E s;refine wB1 (wpAny_callSpecialIfBoundUnlessNone?_slot a F.slot_NoneType_hash (wE1 F.slot_NoneType_hash a F.entry_NoneType_hash (show da _ _ (retInt 0xFCA86420) _ _ s from wpAny_ret_mkInt ?_) (F.args_NoneType_hash_1 _)));exact wP1 h
def ss(prog:c0)(w:c6)(k:TK):Prop:=∀{A:c5} {E:cX->cY->Prop} {s:cY} {v:cX} {Q:Int->cY->Prop},A.units+k.dep<cLine->eO s.heap k v->Q k.hash {s with toks:=s.toks+k.draws}->da (model prog w) A (pyHash v) Q E s
def eX.split{h:db}:∀{ks:List TK} {vs:List cX},eX h ks vs->ks.length=vs.length:=λa=>a.rec (motive_1:=λ_ _ _=>True) (motive_2:=λks vs _=>ks.length=vs.length) trivial (λ_ _=>trivial) (λ_ _ _ _ _=>trivial) ag (λ_ _ _ ih=>congrArg (· + 1) ih)
def AW{xs:List TK}(all:∀k∈xs,ss prog w k):ss prog w (.tup xs):=by
 intro A E s v Q r u h;cases u with
 | @tup a o m n _ p hc t hi=>
  have j:s.TypeIs (.ref a) "tuple":=⟨o,p,hc⟩;rw[TK.dep]at r;unfold pyHash
  first|unfold pyHashByItsType|skip
  first|refine wB1 (wpAny_cRoomFor_or (.inr (by lia)) ?_)|skip
  refine wB1 (wpAny_specialOf j F.slot_tuple_hash.lookup ?_);show da _ _ (if(wq (Value.builtin "tuple.__hash__") == wq Value.none)=ai then _ else _) Q E s;rw[if_neg (by rw[beq_builtin_none];exact aC)];refine wB1 (wpAny_specialOf j F.slot_tuple_hash.lookup ?_);show da _ _ (callSpecialIfBoundUnlessNone? (.ref a) "__hash__" _ >>= _) Q E s;refine wB1 (wpAny_callSpecialIfBoundUnlessNone?_slot j F.slot_tuple_hash (wE1 F.slot_tuple_hash j F.entry_tuple_hash ?_ (F.args_tuple_hash_1 _)));show da _ _ (Builtin.Tuple.tupleItemsOf (.ref a) >>= _) _ _ s;refine wB1 (wpAny_tupleItemsOf p t ?_);refine wB1 ?_;rw[<- bP];refine wpAny_forIn_list _
   (λrest (b:Array Int) s'=>∃done c,xs=done++c/\eX s.heap c rest/\b.toList=TK.hashes done/\s'={s with toks:=s.toks+TK.drawsAll done})
   _ ?_ ?_ _ _ ⟨[],xs,ag,hi,ag,ag⟩
  ·rintro x rest b s' ⟨done,c,e,l,g,rfl⟩;cases l with
   | @cons k _ d _ h1 f=>
    have q:k∈xs:=by rw[e];simp
    refine wB1 (all k q (show A.in1.units+k.dep<cLine by have:=TK.dep_mem q;rw[show A.in1.units=A.units+1 from rfl];lia) h1 ?_)
    first
     |exact wP1 ⟨done++[k],d,by simp[e],f,by rw[TK.hashes_app];simp[g,TK.hashes],by rw[TK.draws_app];simp[TK.drawsAll,ba]⟩
     |exact wB1 (wP1 (wP1 ⟨done++[k],d,by simp[e],f,by rw[TK.hashes_app];simp[g,TK.hashes],by rw[TK.draws_app];simp[TK.drawsAll,ba]⟩))
  ·rintro b s' ⟨done,c,e,l,g,rfl⟩;cases l;rw[aF]at e;subst e;show da _ _ (retInt (Builtin.Tuple.tupleHashOf b.toList)) _ _ _;rw[g];refine wpAny_ret_mkInt ?_;show da _ _ (if(decide (-(2:Int)^63<=Builtin.Tuple.tupleHashOf (TK.hashes xs))&&decide (Builtin.Tuple.tupleHashOf (TK.hashes xs)<2^63))=ai then _ else _) Q E _;rw[TK.hash,TK.draws]at h;unfold reduceHash at h;by_cases i:(decide (-(2:Int)^63<=Builtin.Tuple.tupleHashOf (TK.hashes xs))&&decide (Builtin.Tuple.tupleHashOf (TK.hashes xs)<2^63))=ai
   ·rw[if_pos i];rw[if_pos i]at h;exact wP1 (by simpa[ba]using h)
   ·rw[if_neg i];rw[if_neg i]at h;exact wB1 (wpAny_rule (wP1 (by simpa[ba]using h)))
mutual
def rA:∀k:TK,ss prog w k
 | .non=>λb a h=>by cases a;exact sP h
 | .int i=>λb a h=>by cases a;exact wpAny_pyHash_int h
 | .tup xs=>AW (tT xs)
def tT:∀ks:List TK,∀k∈ks,ss prog w k
 |[],k,h=>by simp at h
 |x::xs,k,h=>by
  by_cases e:k=x
  ·rw[e];exact rA x
  ·exact tT xs k ((aw.mp h).resolve_left e)
end
end
def eO.inj{h:db}:∀ {k k':TK} {v:cX},eO h k v->eO h k' v->k=k':=fun j=>j.rec (motive_1:=fun k v _=>∀ k',eO h k' v->k=k') (motive_2:=fun k v _=>∀ k',eX h k' v->k=k')
  (λk' g=>by cases g;rfl) (λ_ _ k' g=>by cases g;rfl)
  (λe n i l ih k' g=>by
   cases g with
   |tup d m c f=>
    rw[e]at d;cases d;rw[i]at c;cases c;rw[ih _ f])
  (λk' g=>by cases g;rfl) (λ_ _ a b k' g=>by cases g with|cons r' t'=>rw[a _ r',b _ t']) _
def eO.keeps{h h':db}{d:cZ}{o:Obj}{es ep}(ho:h.get? d=some o)(hd:o.data = .dict es ep)(hs:Heap.SameBut d h h'):∀ {k:TK} {v:cX},eO h k v->eO h' k v:=fun g=>g.rec (motive_1:=fun k v _=>eO h' k v) (motive_2:=fun k v _=>eX h' k v) .non .int
  (λ{a} _ _ _ _ e f c _ ih=>.tup ((hs.2 a (λz=>by subst z;rw[e]at ho;cases ho;rw[c]at hd;cases hd)).trans e) f c ih) .nil (λ_ _ a b=>.cons a b)
def eX.at{h:db}:∀{ks:List TK} {vs:List cX} (j:Nat) (h1:j<ks.length) (h2:j<vs.length),eX h ks vs->eO h ks[j] vs[j]
 |_::_,_::_,0,_,_,.cons r _=>r
 |_::ks,_::vs,j+1,h1,h2,.cons _ t=>eX.at j (by simpa using h1) (by simpa using h2) t
def Bx{xs ys:List TK}(b:xs.length=ys.length):((List.range (min xs.length ys.length)).all λj=>decide (xs[j]?=ys[j]?))=decide (xs=ys):=by
 by_cases h:xs=ys
 ·subst h;simp
 ·rw[decide_eq_false h,List.all_eq_false];have:∃j,xs[j]? ≠ ys[j]?:=Classical.byContradiction λz=>h (bQ λj=>Classical.byContradiction λq=>z ⟨j,q⟩);obtain⟨j,a⟩:=this;refine⟨j,?_,by simpa using a⟩;rw[ar,b,Nat.min_self];apply Classical.byContradiction;intro c;exact a (by rw[bR (by lia),bR (by lia)])
def EG:∀(n:Nat) {k k':TK} {A:c5} {s:cY} {u v:cX},k.dep<=n->A.units+n<cLine->eO s.heap k u->eO s.heap k' v->SeqAt.EqAt A s u v (decide (k=k')):=by
 intro n
 induction n with
 |zero=>
  intro k k' A s u v D Q r g;cases r with
  |tup _ _ _ _=>simp[TK.dep]at D
  |non=>
   cases g with
   |non=>simpa using SeqAt.EqAt.same (A:=A) (s:=s) Value.none
   |int i t=>simpa[uw]using kB (A:=A) (s:=s) (y:=.non) (x:=.int i) ag ⟨t,ag⟩ ag ag
   |tup e c d t=>simpa using(fc (A:=A) (s:=s) (b:=ah) (v:=.non) (u:=.none) ⟨_,e,c,_,d⟩ ag ag (by lia)).2.1
  |int i t=>
   cases g with
   |non=>simpa[uw]using kB (A:=A) (s:=s) (y:=.int i) (x:=.non) ⟨t,ag⟩ ag ag ag
   |int j I=>
    have:=kB (A:=A) (s:=s) (y:=.int i) (x:=.int j) ⟨t,ag⟩ ⟨I,ag⟩ ag ag;have e:uw (.int i) (.int j)=decide (TK.int i=TK.int j):=by
     by_cases h:i=j
     ·subst h;simp[uw]
     ·rw[decide_eq_false (λz=>h (by injection z))];simp[uw,h]
    rw[e]at this;exact this
   |tup e c d q=>simpa using(fc (A:=A) (s:=s) (b:=ah) (v:=.int i) (u:=.int i t) ⟨_,e,c,_,d⟩ ⟨t,ag⟩ ag (by lia)).2.1
 |succ n ih=>
  intro k k' A s u v D Q r g;cases r with
  |non=>
   cases g with
   |non=>simpa using SeqAt.EqAt.same (A:=A) (s:=s) Value.none
   |int i t=>simpa[uw]using kB (A:=A) (s:=s) (y:=.non) (x:=.int i) ag ⟨t,ag⟩ ag ag
   |tup e c d t=>simpa using(fc (A:=A) (s:=s) (b:=ah) (v:=.non) (u:=.none) ⟨_,e,c,_,d⟩ ag ag (by lia)).2.1
  |int i t=>
   cases g with
   |non=>simpa[uw]using kB (A:=A) (s:=s) (y:=.int i) (x:=.non) ⟨t,ag⟩ ag ag ag
   |int j I=>
    have:=kB (A:=A) (s:=s) (y:=.int i) (x:=.int j) ⟨t,ag⟩ ⟨I,ag⟩ ag ag;have e:uw (.int i) (.int j)=decide (TK.int i=TK.int j):=by
     by_cases h:i=j
     ·subst h;simp[uw]
     ·rw[decide_eq_false (λz=>h (by injection z))];simp[uw,h]
    rw[e]at this;exact this
   |tup e c d q=>simpa using(fc (A:=A) (s:=s) (b:=ah) (v:=.int i) (u:=.int i t) ⟨_,e,c,_,d⟩ ⟨t,ag⟩ ag (by lia)).2.1
  | @tup a o f m xs p w B C=>
   cases g with
   |non=>simpa using(fc (A:=A) (s:=s) (b:=ah) (v:=.non) (u:=.none) ⟨_,p,w,_,B⟩ ag ag (by lia)).1
   |int i t=>simpa using(fc (A:=A) (s:=s) (b:=ah) (v:=.int i) (u:=.int i t) ⟨_,p,w,_,B⟩ ⟨t,ag⟩ ag (by lia)).1
   | @tup a2 T items2 m2 ys N K L F=>
    by_cases J:a=a2
    ·subst J;have:TK.tup xs=TK.tup ys:=eO.inj (.tup p w B C) (.tup N K L F);rw[decide_eq_true this];exact .same _
    ·refine .of_refs J ?_;have O:=C.split;have P:=F.split;have H:=SeqAt.RcAt.tuples (A:=A) (s:=s) (e:=fun j=>decide (xs[j]? = ys[j]?)) ⟨o,p,w,m,B⟩ ⟨T,N,K,m2,L⟩ (by lia) (fun j h1 h2=>by
      have G:j<xs.length:=by rw[O];simpa using h1
      have M:j<ys.length:=by rw[P];simpa using h2
      rw[TK.dep]at D;have V:=TK.dep_mem (bK G);have q:=ih (k:=xs[j]) (k':=ys[j]) (A:=A.in1) (s:=s) (by lia) (by show A.units+1+n<cLine;lia) (C.at j G (by simpa using h1)) (F.at j M (by simpa using h2));have e:decide (xs[j]?=ys[j]?)=decide (xs[j]=ys[j]):=by
       rw[gG1 G,gG1 M];simp
      rw[e];simpa using q)
     have U:f.size=xs.length:=by rw[O];simp
     have R:items2.size=ys.length:=by rw[P];simp
     rw[U,R]at H;have E:((List.range (min xs.length ys.length)).all (λj=>decide (xs[j]?=ys[j]?))&&xs.length == ys.length)=decide (TK.tup xs=TK.tup ys):=by
      by_cases l:xs.length=ys.length
      ·rw[Bx l,l,beq_self_eq_true,bE];by_cases h:xs=ys
       ·subst h;simp
       ·rw[decide_eq_false h,decide_eq_false (λz=>h (by injection z))]
      ·have S:(xs.length == ys.length)=ah:=by simpa using l
       rw[S,bS,decide_eq_false (λz=>l (by injection z with z;rw[z]))]
     rw[E]at H;exact H
def nN{prog:c0}{w:c6}:∀(n:Nat) {k:TK} {A:c5} {E:cX->cY->Prop} {s:cY} {v:cX} {Q:Bool->cY->Prop},k.dep<=n->eO s.heap k v->Q ai s->da (model prog w) A (eqIsQuiet n v) Q E s:=by
 intro n
 induction n with
 |zero=>
  intro k A E s v Q d r h;cases r with
  |non=>rw[eqIsQuiet_byValue 0 ag];exact wP1 h
  |int i t=>rw[eqIsQuiet_byValue 0 ag];exact wP1 h
  |tup _ _ _ _=>simp[TK.dep]at d
 |succ n ih=>
  intro k A E s v Q d r h;cases r with
  |non=>rw[eqIsQuiet_byValue _ ag];exact wP1 h
  |int i t=>rw[eqIsQuiet_byValue _ ag];exact wP1 h
  | @tup a o b m xs f q x l=>
   have g:s.TypeIs (.ref a) "tuple":=⟨o,f,q⟩;rw[TK.dep]at d;unfold eqIsQuiet;refine wB1 (wpAny_specialOf g F.slot_tuple_eq.lookup ?_);show da _ _ (isInstance (.ref a) (.type "tuple") >>= _) _ _ s;refine wB1 (wpAny_isInstance g isSubtype_tuple_tuple ?_);simp only[bT,bF1,if_false];refine wB1 (wpAny_seqItems f x ?_);refine wB1 ?_;show da _ _ (forIn b _ _) _ _ s;rw[<- bP];refine wpAny_forIn_list _ (λrest r s'=>r.1=aj/\s'=s /\ ∃ks,eX s.heap ks rest/\TK.depAll ks<=n) _ ?_ ?_ _ _ ⟨ag,ag,xs,l,by lia⟩
   ·rintro v rest r s' ⟨e,rfl,ks,y,j⟩;cases y with
    | @cons z _ c _ p u=>
     rw[TK.depAll]at j;refine wB1 (ih (k:=z) (by lia) p ?_);simp only[bT,bF1,if_false];exact wP1 ⟨ag,ag,c,u,by lia⟩
   ·rintro⟨B,r2⟩ s' ⟨e,rfl,_⟩;simp only at e;subst e;exact wP1 h
def iQ(prog:c0)(w:c6):HeapKind prog w TK where
 is:=λh k a=>eO h k (.ref a)/\k.dep<=8
 hash:=TK.hash
 draws:=TK.draws
 room:=λA=>A.units+8<cLine
 inj:=λhx hy=>hx.1.inj hy.1
 keeps:=λx ho hd hs=>⟨x.1.keeps ho hd hs,x.2⟩
 pyHash:=λhu hk h=>rA _ (by have:=hk.2;omega) hk.1 h
 eqBool:=λhu hx hy h=>EG 8 hx.2 hu hx.1 hy.1 _ _ _ _ h
 quiet:=λhk h=>nN 8 hk.2 hk.1 h
def Mq:G2:=λo v S=>match o,v with
 | .ref n,.ref b=>match S[n]?,S[b]? with
  |some (.lst xs),wq (.lst ys)=>if xs.length+ys.length<=c9 then wq (.non,S.set n (.lst (xs++ys)))else aj
  |_,_=>aj
 |_,_=>aj
def Js(n:Nat)(k:Int):Nat:=if k<0 then(k+(n:Int)).toNat else min k.toNat n
def Mp:G3:=λo i v S=>match o,i with
 | .ref n,.int k=>match S[n]? with
  |some (.lst xs)=>if-(2^63)<=k/\k<2^63/\xs.length<c9 then wq (.non,S.set n (.lst (xs.take (Js xs.length k)++v::xs.drop (Js xs.length k))))else aj
  |_=>aj
 |_,_=>aj
def ya(f:D->D->Option Bool)(x:D):List D->Option (List Bool)
 |[]=>wq []
 |y::ys=>(f y x).bind λb=>(ya f x ys).map (b :: ·)
def AY:G2:=λo x S=>match o with
 | .ref n=>match S[n]? with
  |some (.lst ys)=>(ya (kA S dU) x ys).bind λbs=>if bs.length<2^62 then(bs.findIdx? id).map λj=>(.int (j:Nat),S)else aj
  |_=>aj
 |_=>aj
def wT(f:D->D->Option Bool)(x:D):∀{ys:List D} {bs:List Bool},ya f x ys=wq bs->bs.length=ys.length /\ ∀(j:Nat) (y:D) (k:Bool),ys[j]?=wq y->bs[j]?=wq k->f y x=wq k
 |[],bs,h=>by cases h;exact⟨ag,λj y k h=>by simp at h⟩
 |y::ys,bs,h=>by
  rw[ya]at h;obtain⟨b,eb,h⟩:=oB1.mp h;obtain⟨e,c,h⟩:=oM1.mp h;obtain⟨d,a1⟩:=wT f x c;subst h;refine⟨by simp[d],λj=>?_⟩;cases j with
  |zero=>intro a k h1 h2;simp at h1 h2;subst h1;subst h2;exact eb
  |succ j=>intro a k h1 h2;exact a1 j a k (by simpa using h1) (by simpa using h2)
section
open PySem.MeetsSeq PySem.MeetsSeq2 PySem.MeetsSeq3 PySem.SeqRoads2
def tS{l:cZ}{its:Array cX}{n:Nat}{x:cX}{e:Nat->Bool}{top:Int}{j:Nat}(f:j<its.size)(ht:(j:Int)<top)(c:e j=true):∀ (k i:Nat),i+k=j->(∀ m,i<=m->m<j->e m=false) ->
  Meets (Builtin.«list.index.loop» ⟨[.ref l,x,rawInt i,rawInt top],[]⟩)
   (λA R s=>s.heap.get? l=wq {cls:=.type "list",data:=.seq its n}/\(∀m (h:m<its.size),SeqAt.EqAt A.in1 s its[m] x (e m))/\R (.ok (.ret (.int j s.toks))) {s with toks:=s.toks+1})
 |0,i,hk,hno,prog,w,A,R,⟨hp,g,d,tk,os⟩,⟨hl,he,h⟩=>by
  have o:i=j:=by lia
  subst o
  wp_walk using AutoSeq1.wpAny_loadPart' hl
  rw[show(if(i:Int)<top then its[((i:Nat):Int).toNat]? else aj)=wq its[i] by simp[ht,f]];refine wB1 (he i f prog w _ _ ?_);rw[c]
  wp_walk
  exact h
 |k+1,i,hk,hno,prog,w,A,R,⟨hp,g,d,tk,os⟩,⟨hl,he,h⟩=>by
  have h1:i<its.size:=by lia
  have h2:(i:Int)<top:=by lia
  wp_walk using AutoSeq1.wpAny_loadPart' hl
  rw[show(if(i:Int)<top then its[((i:Nat):Int).toNat]? else aj)=wq its[i] by simp[h1,h2]];refine wB1 (he i h1 prog w _ _ ?_);rw[hno i (nR1 i) (by lia)]
  wp_walk
  rw[show((i:Int)+1)=((i+1:Nat):Int) by push_cast;rfl];have z:=tS (l:=l) (n:=n) (x:=x) f ht c k (i+1) (by lia) (λm a b=>hno m (by lia) b) prog w A R _ ⟨hl,he,h⟩;exact⟨plainId_quiet plain_index_loop _,wD1 entry_index_loop (by rw[Around.under_plainId plain_index_loop _];exact z)⟩
def AU{l:cZ}{its:Array cX}{n:Nat}{x:cX}{e:Nat->Bool}{j:Nat}(o:j<its.size)(ht:(j:Int)<2^63-1)(a:e j=true)(c:∀ m,m<j->e m=false):
  Meets (Builtin.«list.index» ⟨[.ref l,x],[]⟩)
   (λA R s=>s.heap.get? l=wq {cls:=.type "list",data:=.seq its n}/\(∀m (h:m<its.size),SeqAt.EqAt A.in1 s its[m] x (e m))/\R (.ok (.ret (.int j s.toks))) {s with toks:=s.toks+1}):=by
 intro prog w A R ⟨p,g,d,tk,q⟩ ⟨f,k,h⟩
 wp_walk using AutoSeq1.wpAny_loadPart' f
 rw[show((λi:Int=>if i<0 then max 0 (i+(its.size:Int))else i) ((aj:Option Int).getD 0))=((0:Nat):Int) by simp,show((λi:Int=>if i<0 then max 0 (i+(its.size:Int))else i) ((aj:Option Int).getD (2^63-1)))=2^63-1 by simp];have z:=tS (l:=l) (n:=n) (x:=x) o ht a j 0 (by lia) (λm _ b=>c m b) prog w A R _ ⟨f,k,h⟩;exact⟨plainId_quiet plain_index_loop _,wD1 entry_index_loop (by rw[Around.under_plainId plain_index_loop _];exact z)⟩
end
section
variable{X:Cx}
def HY(W:X.A.units+64<cLine):HK X "list.index" (λx xs H Q=>rN X.K (b2 AY) (x::xs) H Q):=by
 intro pins s σ H x xs v Y Q I C L h;obtain⟨U,y,mu,S,d,e,Z,S',K,G,r2,f,a,hc⟩:=zz h;cases K;unfold AY at a;split at a
 ·rename_i n;split at a
  ·rename_i ys T;obtain⟨bs,eb,a⟩:=oB1.mp a;split at a
   ·rename_i p;obtain⟨j,r,a⟩:=oM1.mp a;cases a;cases G with
    |ref J=>
     obtain⟨vs,E,t⟩:=f.lst T J;cases C;obtain⟨u,rfl,w⟩:=L.one;obtain⟨z,b,R,c,V,e⟩:=I.lstM E;obtain⟨l1,l⟩:=wT _ _ eb;have l2:=t.length;have l3:=c.length;rw[bU]at r;obtain⟨O,o,k⟩:=r;have g:∀m (a:m<b.toArray.size),SeqAt.EqAt X.A.in1 s b.toArray[m] u (bs[m]?.getD ah):=λm a=>by
      have m1:m<b.length:=by simpa using a
      obtain⟨M,B,P⟩:=t.getV (i:=m) (v:=vs[m]'(by lia)) (gG1 (by lia));obtain⟨w',q,D⟩:=c.get (i:=m) (x:=vs[m]'(by lia)) (gG1 (by lia));have m2:m<bs.length:=by lia
      have N:b.toArray[m]=w':=by
       have:=gG1 m1;rw[this]at q;simpa using q
      rw[N,gG1 m2];exact(l8 I f dU (A:=X.A.in1) (by show X.A.units+1+60<cLine;lia) P r2 D w (l m M bs[m] B (gG1 m2))).1
     refine call_meets F.slot_list_index ⟨_,e,ag⟩ F.entry_list_index (F.args_list_index_2 _ _)
      (AU (n:=R) (e:=λm=>bs[m]?.getD ah) (j:=j) (by simp;lia) (by lia) ?_ ?_) ⟨e,g,?_⟩
     ·simp only[gG1 O,bV];simpa using o
     ·intro m a;have m2:m<bs.length:=by lia
      have:=k m a;simp only[gG1 m2,bV];simpa using this
     ·exact⟨.int j,H,I.tok _,⟨_,ag⟩,hc.now (.int _) f⟩
   ·cases a
  ·cases a
 ·cases a
end
mutual
def kD:D->Option TK
 | .non=>wq .non
 | .int i=>wq (.int i)
 | .tup xs=>(xU xs).map .tup
 |_=>aj
def xU:List D->Option (List TK)
 |[]=>wq []
 |x::xs=>(kD x).bind λk=>(xU xs).map (k :: ·)
end
def iI:D->Option TK
 | .tup xs=>(xU xs).bind λks=>if(TK.tup ks).dep<=8 then wq (.tup ks)else aj
 |_=>aj
mutual
def Jq:∀{d:D} {k:TK},kD d=wq k->oQ k=d
 | .non,k,h=>by cases h;rfl
 | .int i,k,h=>by cases h;rfl
 | .tup xs,k,h=>by
  rw[kD]at h;obtain⟨ks,e,h⟩:=oM1.mp h;subst h;rw[oQ,u5 e]
 | .bl _,k,h=>by simp[kD]at h
 | .str _,k,h=>by simp[kD]at h
 | .rol _,k,h=>by simp[kD]at h
 | .fn _,k,h=>by simp[kD]at h
 | .ref _,k,h=>by simp[kD]at h
def u5:∀{ds:List D} {ks:List TK},xU ds=wq ks->kr ks=ds
 |[],ks,h=>by cases h;rfl
 |x::xs,ks,h=>by
  rw[xU]at h;obtain⟨k,b,h⟩:=oB1.mp h;obtain⟨t,a,h⟩:=oM1.mp h;subst h;rw[kr,Jq b,u5 a]
end
def nb{d:D}{k:TK}(h:iI d=wq k):oQ k=d/\k.dep<=8 /\ ∃xs,k = .tup xs:=by
 cases d with
 |tup xs=>
  rw[iI]at h;obtain⟨ks,e,h⟩:=oB1.mp h;split at h
  ·rename_i a;cases h;exact⟨by rw[oQ,u5 e],a,ks,ag⟩
  ·cases h
 |_=>cases h
section
variable{X:Cx}{pins:List (cZ×Obj)}{σ:L2.St}{H:Hp}{s:cY}{mu:List cZ}
mutual
def vQ(I:Inv X pins σ H s):∀(k:TK) {v:V} {u:cX},eQ X.K H mu (oQ k) v->dF v u->eO s.heap k u
 | .non,v,u,r,q=>by
  rw[oQ]at r;cases r;cases q;exact .non
 | .int i,v,u,r,q=>by
  rw[oQ]at r;cases r;obtain⟨t,rfl⟩:=q;exact .int i t
 | .tup xs,v,u,r,q=>by
  rw[oQ]at r;cases r with
  |tup h t=>
   cases q;obtain⟨c,a,⟨o,b,e,n,d⟩,_⟩:=I.tuple h;exact .tup b e d (by simpa using uJ I xs t a)
def uJ(I:Inv X pins σ H s):∀(ks:List TK) {vs:List V} {a:List cX},dB X.K H mu (kr ks) vs->dQ vs a->eX s.heap ks a
 |[],vs,a,r,q=>by rw[kr]at r;cases r;cases q;exact .nil
 |k::ks,vs,a,r,q=>by
  rw[kr]at r;cases r with
  |cons r t=>cases q with
   |cons q p=>exact .cons (vQ I k r q) (uJ I ks t p)
end
def uS{α β γ δ:Type}{F:α->β->Prop}{G:γ->δ->Prop}{f:α->γ}{g:β->δ}:∀{l₁:List α} {l₂:List β},Paired F l₁ l₂->(∀a b,F a b->G (f a) (g b))->Paired G (l₁.map f) (l₂.map g):=by
 intro a b h g
 induction h with
 |nil=>exact .nil
 |cons r t ih=>exact .cons (g _ _ r) ih
def uT{α β:Type}{F:α->β->Prop}:∀{l₁ e:List α} {l₂ f:List β},Paired F l₁ l₂->Paired F e f->Paired F (l₁++e) (l₂++f):=by
 intro a b c d h g
 induction h with
 |nil=>exact g
 |cons r t ih=>exact .cons r ih
def KT.length{K:Fg1}:∀{ks:List (TK×D)} {ws:List (TK×cZ×cX)},KT K H mu ks ws->ks.length=ws.length:=λh=>Paired.length h
def KT.mem{K:Fg1}:∀{ks:List (TK×D)} {ws:List (TK×cZ×cX)},KT K H mu ks ws -> ∀x∈ws,x.1.dep<=8/\eQ K H mu (oQ x.1) (.ref x.2.1):=by
 intro ks ws a x h
 induction a with
 |nil=>cases h
 |cons r t ih=>
  rcases aw.mp h with e|e
  ·subst e;rw[<- r.1];exact⟨r.2.1,r.2.2.1⟩
  ·exact ih e
def KT.look{K:Fg1}{k:TK}:∀ {ks:List (TK×D)} {ws:List (TK×cZ×cX)},KT K H mu ks ws ->
  (∀d,dE ks k=wq d -> ∃p v,atKey ws k=wq p/\dF v p.2/\eQ K H mu d v)/\(atKey ws k).isSome=(dE ks k).isSome:=by
 intro ks ws h
 induction h with
 |nil=>exact⟨λd h=>by simp[dE]at h,ag⟩
 | @cons p i ks ws r t ih=>
  obtain⟨b,f⟩:=p;obtain⟨l,a2,e⟩:=i;obtain⟨z,d,q,v,c,r⟩:=r;dsimp only at z q c r;subst z;obtain⟨h1,h2⟩:=ih;by_cases a:b=k
  ·subst a;refine⟨λd h=>?_,by simp[atKey,dE]⟩;have:f=d:=by simpa[dE]using h
   subst this;exact⟨(a2,e),v,by simp[atKey],c,r⟩
  ·have g:dE ((b,f)::ks) k=dE ks k:=by simp[dE,aT,a]
   have j:atKey ((b,a2,e)::ws) k=atKey ws k:=by simp[atKey,aT,a]
   rw[g,j];exact⟨h1,h2⟩
def KT.put{K:Fg1}{k:TK}{d:D}{v:V}{a:cZ}{u:cX}(hk:k.dep<=8)(l:eQ K H mu (oQ k) (.ref a))(f:dF v u)(q:eQ K H mu d v){ks:List (TK×D)}{ws:List (TK×cZ×cX)}(h:KT K H mu ks ws):KT K H mu (gP ks k d) (storedH ws k a u):=by
 unfold gP storedH;have e:(ks.any λp=>decide (p.1=k))=(atKey ws k).isSome:=by
  rw[h.look.2];unfold dE;rw[aX,bI,List.find?_isSome,bJ]
 rw[e];split
 ·clear e;refine uS h λp w ⟨z,g,i,j,c,m⟩=>?_;unfold putAt;by_cases b:p.1=k
  ·rw[if_pos b,if_pos (by rw[<- z];exact b)];exact⟨z,g,i,v,f,q⟩
  ·rw[if_neg b,if_neg (by rw[<- z];exact b)];exact⟨z,g,i,j,c,m⟩
 ·exact uT h (.cons ⟨ag,hk,l,v,f,q⟩ .nil)
def t5(I:Inv X pins σ H s){a:cZ}{xs:List (TK×cZ×cX)}{kvs:List (TK×D)}(e:H a=wq (.ext (jO a xs)))(h:KT X.K H mu kvs xs):(a == sysModules)=ah/\s.heap.DictOfH (iQ X.prog X.w) a xs:=by
 obtain⟨⟨h1,h2,o,es,ep,c,d,f,g⟩,_⟩:=(show eB X.prog X.w H s.heap a (.ext (jO a xs))from I.hok a _ e);exact⟨h1,o,es,ep,c,d,f,g,λx b=>⟨vQ I _ (h.mem x b).2 ag,(h.mem x b).1⟩,h2⟩
def wR{h:db}{a:cZ}{xs:List (TK×cZ×cX)}(hd:(a == sysModules)=ah)(hm:h.DictOfH (iQ X.prog X.w) a xs):eB X.prog X.w H h a (.ext (jO a xs)):=by
 obtain⟨o,es,ep,d,g,j,k,m,i⟩:=hm;refine⟨⟨hd,i,o,es,ep,d,g,j,k⟩,⟨o,d⟩,λn p ⟨a1,a2,o',b,c,b3,e,l,f⟩ st=>⟨a1,a2,o',b,c,st _ b3,e,l,f⟩⟩
end
def mW:G2:=λd e S=>match e with
 | .ref n=>match S[n]? with
  |some (.dcT kvs)=>(iI d).map λk=>(.bl (dE kvs k).isSome,S)
  |_=>u9 d e S
 |_=>u9 d e S
def fu:G2:=λd e S=>match e with
 | .ref n=>match S[n]? with
  |some (.dcT kvs)=>(iI d).map λk=>(.bl (!(dE kvs k).isSome),S)
  |_=>iW d e S
 |_=>iW d e S
def dt:G2:=λd e S=>match d with
 | .ref n=>match S[n]? with
  |some (.dcT kvs)=>(iI e).bind λk=>(dE kvs k).map λx=>(x,S)
  |some (.dcF kvs)=>(iI e).bind λk=>(dE kvs k).map λx=>(x,S)
  |_=>mU d e S
 |_=>mU d e S
def jc:G3:=λo i v S=>match o with
 | .ref n=>match S[n]? with
  |some (.dcT kvs)=>(iI i).bind λk=>if kvs.length<c9 then wq (.non,S.set n (.dcT (gP kvs k v)))else aj
  |some (.dct [])=>match iI i with
   |some k=>wq (.non,S.set n (.dcT [(k,v)]))
   |none=>mF o i v S
  |_=>mF o i v S
 |_=>mF o i v S
section
variable{X:Cx}
def tJ{κ:Type}[DecidableEq κ](kvs:List (κ×D))(k:κ)(d:D):(gP kvs k d).length<=kvs.length+1:=by
 unfold gP;split
 ·rw[lM1];lia
 ·simp
def tZ{h:db}{a:cZ}(c:h.DictOf (e6 X.prog X.w) a []):h.DictOfH (iQ X.prog X.w) a []:=by
 obtain⟨o,es,ep,h1,h2,d,_,b,_⟩:=c;have e:es.toList=[]:=by
  generalize es.toList=l at b;cases b;rfl
 exact⟨o,es,ep,h1,h2,d,e,(λx f=>by simp at f),bg⟩
def jR{A:c5}(a:A.units+64<cLine):(iQ X.prog X.w).room A.in1:=by
 show A.units+1+8<cLine;lia
def lY{pins:List (cZ×Obj)}{σ:L2.St}{H:Hp}{s:cY}{mu:List cZ}(I:Inv X pins σ H s){d:D}{v:V}{u:cX}{k:TK}(r:eQ X.K H mu d v)(q:dF v u)(h:iI d=some k):
  ∃a,u = .ref a/\v = .ref a/\eQ X.K H mu (oQ k) (.ref a)/\k.dep<=8/\(iQ X.prog X.w).is s.heap k a:=by
 obtain⟨e,b,xs,ex⟩:=nb h;subst e;have is:=vQ I k r q;subst ex;cases id is with
 | @tup a _ _ _ _ _ _ _ _=>
  rw[oQ]at r;cases r with
  |tup h1 h2=>
   cases q;exact⟨a,ag,ag,by rw[oQ];exact .tup h1 h2,b,is,b⟩
def tj(j:X.A.units+64<cLine):fZ X (compareOp .In) (r2 X.K (b2 mW)):=by
 intro pins s σ H x y u w Q I i m h;obtain⟨mu,S,d,e,r,o,g,c,f,b,hc⟩:=uv h;have back:u9 d e S=wq (r,o)->da (model X.prog X.w) X.A (compareOp .In u w) (EP X pins σ Q) X.xe s:=λb=>IU j pins s σ H x y u w Q I i m ⟨mu,S,[d,e],r,o,.cons g (.cons c .nil),f,b,hc⟩;unfold mW at b;split at b
 ·rename_i n;split at b
  ·rename_i kvs z;obtain⟨k,q,b⟩:=oM1.mp b;cases b;cases c with
   |ref p=>
    cases m;obtain⟨xs,t,l,_⟩:=f.dcT z p;obtain⟨v,A⟩:=t5 I t l;obtain⟨a,rfl,rfl,_,_,hi⟩:=lY I g i q;refine wpAny_in_heap (jR j) hi v A ?_;exact⟨.bl (atKey xs k).isSome,H,I.tok _,ag,by rw[l.look.2];exact hc.now (.bl _) f⟩
  ·exact back b
 ·exact back b
def nW(j:X.A.units+64<cLine):fZ X (compareOp .NotIn) (r2 X.K (b2 fu)):=by
 intro pins s σ H x y u w Q I i m h;obtain⟨mu,S,d,e,r,o,g,c,f,b,hc⟩:=uv h;have back:iW d e S=wq (r,o)->da (model X.prog X.w) X.A (compareOp .NotIn u w) (EP X pins σ Q) X.xe s:=λb=>Aa j pins s σ H x y u w Q I i m ⟨mu,S,[d,e],r,o,.cons g (.cons c .nil),f,b,hc⟩;unfold fu at b;split at b
 ·rename_i n;split at b
  ·rename_i kvs z;obtain⟨k,q,b⟩:=oM1.mp b;cases b;cases c with
   |ref p=>
    cases m;obtain⟨xs,t,l,_⟩:=f.dcT z p;obtain⟨v,A⟩:=t5 I t l;obtain⟨a,rfl,rfl,_,_,hi⟩:=lY I g i q;refine wpAny_notIn_heap (jR j) hi v A ?_;exact⟨.bl (!(atKey xs k).isSome),H,I.tok _,ag,by rw[l.look.2];exact hc.now (.bl _) f⟩
  ·exact back b
 ·exact back b
def Hh{pins:List (cZ×Obj)}{σ:L2.St}{H:Hp}{s:cY}{mu:List cZ}(I:Inv X pins σ H s){a:cZ}{xs:List (TK×cZ×cX)}{kvs:List (TK×D)}(e:∃o u,H a=wq (.frz o u)/\EY a xs o)(h:KT X.K H mu kvs xs):(a == sysModules)=ah/\s.heap.DictOfH (iQ X.prog X.w) a xs:=by
 obtain⟨o,u,e,h1,h2,d,es,ep,f,g⟩:=e;obtain⟨c,_⟩:=(show eB X.prog X.w H s.heap a (.frz o u)from I.hok a _ e);exact⟨h1,o,es,ep,c,d,f,g,λx b=>⟨vQ I _ (h.mem x b).2 ag,(h.mem x b).1⟩,h2⟩
def qP(F:X.A.units+64<cLine):EW X (r2 X.K (b2 dt)):=by
 intro value c pins s σ H x y v u Q I w J h q;obtain⟨mu,S,d,e,r,E,A,o,t,f,hc⟩:=uv h;have back:mU d e S=wq (r,E)->da (model X.prog X.w) X.A (subscriptTail value c v u) (EP X pins σ Q) X.xe s:=λf=>HU F value c pins s σ H x y v u Q I w J ⟨mu,S,[d,e],r,E,.cons A (.cons o .nil),t,f,hc⟩ q;have g:∀kvs a xs,v = .ref a->KT X.K H mu kvs xs->s.heap.DictOfH (iQ X.prog X.w) a xs->((iI e).bind λk=>(dE kvs k).map λx=>(x,S))=wq (r,E)->da (model X.prog X.w) X.A (subscriptTail value c v u) (EP X pins σ Q) X.xe s:=λkvs a xs N l G f=>by
  obtain⟨k,L,f⟩:=oB1.mp f;obtain⟨z,M,f⟩:=oM1.mp f;cases f;subst N;obtain⟨b,rfl,rfl,_,_,hi⟩:=lY I o J L;obtain⟨p,O,ep,P,R⟩:=l.look.1 _ M;have K:=G.typeIs;unfold subscriptTail;refine wB1 ?_;rw[getitemInPython_of_ne K.not_modules];refine wB1 (wpAny_specialOf K PySem.F.slot_dict_getitem.lookup ?_);have j:da (model X.prog X.w) X.A (subscripted c ah (.ref a) (.ref b)) (λr i=>da (model X.prog X.w) X.A (letTemporaryGo value (.ref a) r >>= λ_=>pure r) (EP X pins σ Q) X.xe i) X.xe s:=by
   rw[q];exact wpAny_operating (wpAny_mono (wpAny_getItem_heap (jR F) hi G ep (show EP X pins σ Q p.2 _ from⟨O,H,I.tok _,P,hc.now R t⟩)) (λr i m=>wB1 (wpAny_letTemporaryGo (wP1 m))) λ_ _ x=>x)
  first
   |exact wP1 (wB1 j)
   |exact wB1 j
   |exact j
 unfold dt at f;split at f
 ·rename_i n;split at f
  ·rename_i kvs D;cases A with
   | @ref _ a B=>
    cases w;obtain⟨xs,C,l,_⟩:=t.dcT D B;exact g kvs a xs ag l (t5 I C l).2 f
  ·rename_i kvs D;cases A with
   | @ref _ a B=>
    cases w;obtain⟨xs,C,l,_⟩:=(show oP X.K H mu a (.dcF kvs)from t.ob n _ a D B);exact g kvs a xs ag l (Hh I C l).2 f
  ·exact back f
 ·exact back f
def nD(E:X.A.units+64<cLine):vz X (rU X.K (b3 jc)):=by
 intro pins s σ H o i v N O u Q I A D r h;obtain⟨mu,S,ds,d,T,Y,j,a,hc⟩:=id h;cases Y with
 |cons L U=>cases U with
  |cons C W=>cases W with
   |cons p Z=>
    cases Z;rename_i R P K;dsimp only[b3]at a;have back:mF R P K S=wq (d,T)->da (model X.prog X.w) X.A (setItem N O u) (λ_ s'=>∃H',Inv X pins σ H' s'/\Q H') X.xe s:=λa=>Fm E pins s σ H o i v N O u Q I A D r ⟨mu,S,[R,P,K],d,T,.cons L (.cons C (.cons p .nil)),j,a,hc⟩;unfold jc at a;split at a
    ·rename_i n;split at a
     ·rename_i kvs M;obtain⟨k,y,a⟩:=oB1.mp a;split at a
      ·rename_i hl;cases a;cases L with
       | @ref _ l f=>
        cases A;obtain⟨xs,t,m,V⟩:=j.dcT M f;obtain⟨B,G⟩:=t5 I t m;obtain⟨b,rfl,rfl,rk,w,hi⟩:=lY I C D y;refine wpAny_setItem_heap (hsz:=V) (jR E) hi G λh' e c=>?_;have g:∃q,h'.get? _=wq q:=let ⟨q,_,_,g,_⟩:=e;⟨q,g⟩
        have put:Ext mu mu H (upd H l (.ext (jO l (storedH xs k b u)))):=Ext.put t trivial (gM1 f);refine⟨_,ly I (by rw[t];exact True.intro) c g (wR B e),hc _ mu put (j.put f t trivial ⟨_,dP,((m.put w rk r p).ext put),?_⟩)⟩;rw[<- (m.put w rk r p).length];have:=tJ kvs k K;lia
      ·cases a
     ·rename_i M;split at a
      ·rename_i k y;cases a;cases L with
       | @ref _ l f=>
        cases A;obtain⟨ws,x,m⟩:=j.dct M f;cases m;obtain⟨z,B,vs,F,G⟩:=wU I.hok x;cases F;obtain⟨b,rfl,rfl,rk,w,hi⟩:=lY I C D y;have J:s.heap.DictOfH (iQ X.prog X.w) _ []:=tZ G;refine wpAny_setItem_heap (hsz:=aZ _) (jR E) hi J λh' e c=>?_;have g:∃q,h'.get? _=wq q:=let ⟨q,_,_,g,_⟩:=e;⟨q,g⟩
        have put:Ext mu mu H (upd H l (.ext (jO l (storedH [] k b u)))):=Ext.put x trivial (gM1 f);exact⟨_,ly I (by rw[x];exact True.intro) c g (wR B e),hc _ mu put (j.put f x trivial ⟨_,dP,KT.ext put (.cons ⟨ag,w,rk,v,r,p⟩ .nil),(show 1<=c9 by decide)⟩)⟩
      ·exact back a
     ·exact back a
    ·exact back a
end
def qi(S:Sto)(d:D):Option Bool:=match d with
 | .non=>wq ah
 | .bl b=>wq b
 | .int i=>wq (i != 0)
 | .str y=>if y.length<=c9 then wq ((y.length:Int) != 0)else aj
 | .ref n=>match S[n]? with
  |some (.dct kvs)=>wq (!kvs.isEmpty)
  |_=>(dG S d).map λp=> !p.2.isEmpty
 |_=>(dG S d).map λp=> !p.2.isEmpty
def mTr(m:FE):FT:=λr S=>(m r S).bind λp=>(qi p.2 p.1).map λb=>(b,p.2)
section
variable{K:Fg1}{H:Hp}{mu:List cZ}{S:Sto}
def qp{d:D}{v:V}{b:Bool}(r:eQ K H mu d v)(s:Sim K H mu S)(h:((dG S d).map λp=> !p.2.isEmpty)=wq b):BI K v H b:=by
 obtain⟨⟨k,xs⟩,e,h⟩:=oM1.mp h;obtain⟨a,vs,rfl,q,t⟩:=dA r s e;have z:(!xs.isEmpty) = !vs.isEmpty:=by cases t<;>rfl
 dsimp only at h;rw[z]at h;cases k
 ·exact .inr (.inl ⟨vs,q,h.symm⟩)
 ·exact .inl ⟨vs,q,h.symm⟩
def y8{d:D}{v:V}{b:Bool}(r:eQ K H mu d v)(s:Sim K H mu S)(h:qi S d=wq b):BI K v H b:=by
 cases d with
 |non=>cases r;cases h;rfl
 |bl k=>cases r;cases h;rfl
 |int i=>cases r;cases h;rfl
 |str y=>
  rw[qi]at h;split at h
  ·rename_i c;cases r;cases h;exact⟨c,ag⟩
  ·cases h
 |tup xs=>exact qp r s h
 |rol xs=>exact qp r s h
 |fn x=>cases h
 |ref n=>
  rw[qi]at h;split at h
  ·rename_i kvs e;cases h;cases r with
   |ref a=>
    obtain⟨ws,g,f⟩:=s.dct e a;refine .inr (.inr ⟨ws,g,?_⟩);cases f<;>rfl
  ·exact qp r s h
end
def ea{X:Cx}{x:Expr}{f:FE}(h:XE X x f)(he:∀a,isTrue x X.env a=(do let v<-a;standAt x.pos;holding [v] (truthy v)):=by intro _;rfl):XT X x (mTr f):=
 ⟨qw (zC h.h he) <| by
  rintro σ H Q ⟨r,mu,S,b,n,he,j,c,hc⟩;obtain⟨⟨m,l⟩,k,c⟩:=oB1.mp c;obtain⟨b1,g,c⟩:=oM1.mp c;cases c;exact⟨r,mu,S,_,_,he,j,k,λv H1 mu1 i e d=>⟨_,y8 e d g,hc H1 mu1 i d⟩⟩⟩
section
variable{X:Cx}{pins:List (cZ×Obj)}{σ:L2.St}{H:Hp}{s:cY}{mu:List cZ}
end
section
variable{X:Cx}
def jC:List D->Option (List Int)
 |[]=>wq []
 | .int i::ds=>(jC ds).map λis=>i::is
 |_=>aj
def ddI(ns:List Int):List Int:=ns.foldl step_dedup []
def oB:∀(ns c:List Int),c.Nodup->(ns.foldl step_dedup c).Nodup
 |[],c,h=>h
 |n::ns,c,h=>by
  rw[bW];refine oB ns _ ?_;unfold step_dedup;split
  ·exact h
  ·rename_i f;rw[bo];refine⟨h,by simp,λa g b d e=>?_⟩;simp at d;apply f;rw[bJ];exact⟨a,g,by simp[e,d]⟩
def t6(ns:List Int):firstMet (λi=>ns.getD i 0) ns.length=ddI ns:=by
 unfold firstMet ddI
 congr 1
 apply List.ext_getElem
 ·simp
 ·intro i h1 h2;simp at h1 ⊢;rw[gG1 (by omega)];rfl
def pJ{K:Fg1}{H:Hp}{mu:List cZ}:∀{ds:List D} {vs:List V} {a:List cX} {ns:List Int},dB K H mu ds vs->dQ vs a->jC ds=wq ns->IntsAre a ns/\ns.length=ds.length:=by
 intro ds vs a ns j b h
 induction j using dB.ind generalizing a ns with
 |hn=>cases h;cases b;exact⟨.nil,ag⟩
 | @hc d v ds vs r t ih=>
  cases d with
  |int i=>
   obtain⟨c,e,h⟩:=oM1.mp h;cases h;cases r;cases b with
   |cons r b=>
    obtain⟨f,g⟩:=ih b e;obtain⟨tk,rfl⟩:=r;exact⟨.cons _ _ f,by rw[lC1,lC1,g]⟩
  |_=>cases h
def lF(l:List Int):(λk'=>l.any (· == k'))=λk'=>l.contains k':=by
 funext k
 induction l with
 |nil=>rfl
 |cons x xs ih=>rw[aU,bX,ih,show(x == k)=(k == x)from Bool.beq_comm]
def rE:G1:=λd S=>match dG S d with
 |some (ai,xs)=>(jC xs).bind λns=>if ns.length+1<scanBound then wq (.ref S.length,S++[.iset (ddI ns)])else aj
 |_=>aj
def JM{k:Nat}(hr:fC k X.A):eg X (.type "set") (rN X.K (b1 rE)):=by
 intro pins s σ H xs J Q I r h;obtain⟨x,mu,S,d,K,L,rfl,y,i,c,hc⟩:=v9 h;unfold rE at c;split at c
 ·rename_i ys D;obtain⟨ns,e,c⟩:=oB1.mp c;split at c
  ·rename_i p;cases c;obtain⟨a,vs,rfl,q,t⟩:=dA y i D;cases r with
   |cons A rt=>
    cases rt;cases A;obtain⟨f,E,⟨o,n,C,j,w,v⟩,_⟩:=I.list q;obtain⟨hi,m⟩:=pJ t E e;have g:f.toArray.size=ns.length:=by rw[sT1,hi.length]
    refine PySem.call_set_list (items:=f.toArray) (ns:=ns) hr.hd ⟨o,C,j,⟨n,v⟩⟩ (by simpa using hi) (by rw[g];exact p) λh' tk l G=>?_;rw[g,t6]at l;have B:(ddI ns).Nodup:=oB ns [] bg;have F:=lF (ddI ns);rw[F]at l;refine⟨.ref s.heap.objs.size,upd H s.heap.objs.size (.set (λk=>(ddI ns).contains k) (ddI ns).length),I.laid (λb u z=>G b u (hL1 z) z) (nR1 _) l,ag,?_⟩;exact hc _ _ (mu++[s.heap.objs.size]) (Ext.new_ I.fresh) (.ref (gp i.len _)) (i.new I.fresh ⟨dP,B⟩)
  ·cases c
 ·cases c
def oj:G1:=λd S=>match d with
 | .ref n=>match S[n]? with
  |some (.iset xs)=>wq (.int xs.length,S)
  |_=>dM d S
 |_=>dM d S
def vp:eg X (.builtin "len") (rN X.K (b1 oj)):=by
 intro pins s σ H xs k Q I r h;obtain⟨x,mu,S,d,l,m,j,g,b,a,hc⟩:=v9 h;have v:=a;unfold oj at a;split at a
 ·rename_i n;split at a
  ·rename_i ys e;cases a;subst j;cases g with
   |ref f=>
    obtain⟨w,A⟩:=b.iset e f;cases r with
    |cons p rt=>
     cases rt;cases p;have q:=I.hok _ _ w;obtain⟨o,es,ep,t,z,c,y,_,_,i,u,f⟩:=q;refine PySem.call_len_set z c y u (by unfold scanBound at i;lia) ?_;refine⟨.int es.size,H,I.tok _,⟨_,ag⟩,?_⟩;rw[f];exact hc.now (.int _) b
  ·exact d8 pins s σ H xs k Q I r (by subst j;exact⟨mu,S,[_],l,m,.cons g .nil,b,(show b1 dM [_] S=_ from a),hc⟩)
 ·exact d8 pins s σ H xs k Q I r (by subst j;exact⟨mu,S,[_],l,m,.cons g .nil,b,(show b1 dM [_] S=_ from a),hc⟩)
end
@[elab_as_elim] theorem Mn {P:List cX->Prop}{us:List cX}(l:us.length=0)(f:P []):P us:=by
 cases us with
 |nil=>exact f
 |cons _ _=>cases l
@[elab_as_elim] theorem LF {P:List cX->Prop}{us:List cX}(l:us.length=1)(f:∀a,P [a]):P us:=by
 cases us with
 |nil=>cases l
 |cons a us=>exact Mn (P:=λus=>P (a::us)) (Nat.succ.inj l) (f a)
@[elab_as_elim] theorem LD {P:List cX->Prop}{us:List cX}(l:us.length=2)(f:∀a b,P [a,b]):P us:=by
 cases us with
 |nil=>cases l
 |cons a us=>exact LF (P:=λus=>P (a::us)) (Nat.succ.inj l) (f a)
@[elab_as_elim] theorem KZ {P:List cX->Prop}{us:List cX}(l:us.length=3)(f:∀a b c,P [a,b,c]):P us:=by
 cases us with
 |nil=>cases l
 |cons a us=>exact LD (P:=λus=>P (a::us)) (Nat.succ.inj l) (f a)
@[elab_as_elim] theorem Mm {P:List cX->Prop}{us:List cX}(l:us.length=4)(f:∀a b c d,P [a,b,c,d]):P us:=by
 cases us with
 |nil=>cases l
 |cons a us=>exact KZ (P:=λus=>P (a::us)) (Nat.succ.inj l) (f a)
end Mi
namespace HT
open PySem PySem.Spec PyProof.Rows
variable{prog:c0}{w:c6}{A:c5}{E:cX->cY->Prop}{s:cY}
def lO{c:cZ}{t:Tok}{n:Nat}{Q:Int×Int×Nat->cY->Prop}(hs:s.heap.IsSliceOf c .none .none (.int (-1) t))(h:Q ((n:Int)-1,-1,n) s):da (model prog w) A (Builtin.Slice.sliceApplied (.ref c) (pure (n:Int))) Q E s:=by
 obtain⟨f,b,d,a⟩:=id hs;unfold Builtin.Slice.sliceApplied Builtin.Slice.sliceFields;refine wB1 (wB1 (wpAny_field b a (x:=.none) ag (wB1 (wpAny_field b a (x:=.none) ag (wB1 (wpAny_field b a (x:=.int (-1) t) ag (wP1 ?_)))))));refine wB1 (g6 (.int (-1) t) ?_);show da _ _ (if((-1:Int) == 0)=ai then _ else _) _ _ s;rw[if_neg (by decide)];refine wB1 (g6 .none (wB1 (g6 .none (wB1 (wP1 ?_)))));show da _ _ (pure ((n:Int)-1,(-1:Int),Builtin.Slice.slicePlaces ((n:Int)-1) (-1) (-1))) _ _ s;have e:Builtin.Slice.slicePlaces ((n:Int)-1) (-1) (-1)=n:=by
  unfold Builtin.Slice.slicePlaces;have h1:¬ (-1:Int)>0:=by lia
  have h2: -(-1:Int)=1:=rfl;simp only[h1,if_false,h2,Int.ediv_one];split<;>lia
 rw[e];exact wP1 h
def A1{α β:Type}{f g:α->Option β}:∀l:List α,(∀m,m∈l->f m=g m)->l.filterMap f=l.filterMap g:=by
 intro l
 induction l with
 |nil=>intro _;rfl
 |cons x l ih=>intro h;rw[av,av,h x (mS1 ..),ih λm a=>h m (mC1 _ a)]
def sR(xs:Array cX):((List.range xs.size).filterMap λ(m:Nat)=>xs[(((xs.size:Int)-1)+(m:Int)*(-1)).toNat]?).toArray=xs.toList.reverse.toArray:=by
 congr 1
 have e:((List.range xs.size).filterMap λ(m:Nat)=>xs[(((xs.size:Int)-1)+(m:Int)*(-1)).toNat]?)=(List.range xs.size).filterMap λm=>xs.toList.reverse[m]?:=by
  apply A1;intro m a;have a:=ar.mp a;rw[List.getElem?_reverse (by rw[aB];exact a),aT1,aB]
  congr 1
  lia
 rw[e];have:=pick_run xs.toList.reverse.toArray 0 xs.size;rw[aN]at this;have b:((λx=>xs.toList.reverse.toArray[x]?)∘λx=>0+x)=λm=>xs.toList.reverse[m]?:=by funext m;simp
 rw[b]at this;rw[this];simp only[List.drop_zero];exact bY (by simp)
def ls {t b:cZ}{items:Array cX}{tk:Tok}{Q:cX->cY->Prop}(ht:IsTup s.heap t items)(hs:s.heap.IsSliceOf b .none .none (.int (-1) tk))
  (h:Q (.ref s.heap.objs.size) {s with heap:=s.heap.push {cls:=.type "tuple",data:=.seq items.toList.reverse.toArray}})
  (hsz:items.size<=c9):da (model prog w) A (getItem (.ref t) (.ref b)) Q E s:=by
 have a:sizeOk (.seq items.toList.reverse.toArray):=by
  show items.toList.reverse.toArray.size<=c9;rw[sT1,bZ,aB];exact hsz
 obtain⟨g,c,e,i⟩:=id hs;have f:s.TypeIs (.ref b) "slice":=⟨g,c,e⟩;unfold getItem
 try with_reducible refine wpAny_holding ?_
 first|refine wB1 (wP1 ?_)|skip
 refine wB1 (wpAny_sequenceKey ht.typeIs (by decide) ?_);refine wB1 (wpAny_callSpecial?_slot (name:=Str.ofString "__getitem__") ht.typeIs PyProof.Rows.slot_tuple_getitem
  (wE1 PyProof.Rows.slot_tuple_getitem ht.typeIs entry_tuple_getitem ?_ (args_tuple_getitem _ _)))
 show da _ _ (Builtin.Tuple.tupleItemsOf (.ref t) >>= _) _ _ s;refine wB1 (tupleItemsOf_ ht ?_);refine wB1 (wpAny_typeOf f ?_);rw[if_pos (by decide)];refine wB1 (lO hs ?_);have d:¬ (((items.size:Int)-1 == 0&&(-1:Int) == 1&&items.size == items.size)=ai):=by
  intro q;rw[bA1,bA1]at q;exact absurd (eq_of_beq q.1.2) (by decide)
 show da _ _ (if((items.size:Int)-1 == 0&&(-1:Int) == 1&&items.size == items.size)=ai then _ else _) _ _ s;rw[if_neg d,sR]
 first
  |exact wB1 (m:=Builtin.Tuple.tupleExact _) (wO1 (wP1 ⟨_,rfl,wP1 h⟩) a)
  |exact wB1 (m:=Builtin.Tuple.tupleExact _) (wO1 (wB1 (wP1 (wP1 ⟨_,rfl,wP1 h⟩))) a)
  |exact wB1 (wB1 (m:=Builtin.Tuple.tupleExact _) (wO1 (wP1 (wP1 ⟨_,rfl,wP1 h⟩)) a))
  |exact wB1 (wB1 (m:=Builtin.Tuple.tupleExact _) (wO1 (wP1 ⟨_,rfl,wP1 h⟩) a))
end HT
namespace Mi
open PySem PySem.Spec PyProof.Rows L2
section
variable{X:Cx}
def sE:∀{xs:List V} {a:List cX},dQ xs a->dQ xs.reverse a.reverse:=by
 intro xs
 induction xs with
 |nil=>intro a r;cases r;exact .nil
 |cons x xs ih=>
  intro a r;cases r with
  |cons b r2=>rw[bf,bf];exact(ih r2).append (.cons b .nil)
end
end Mi
namespace HT
open PySem PySem.Spec PyProof.Rows
section
variable{prog:c0}{w:c6}{A:c5}{R:Result->cY->Prop}{I ax L:cZ}{xs:Array cX}
end
section
variable{prog:c0}{w:c6}{A:c5}{E:cX->cY->Prop}{s:cY}
end
end HT
namespace Mi
open PySem PySem.Spec PyProof.Rows L2
section
variable{X:Cx}
def DC:G1:=λd S=>match d with
 | .int i=>if i.natAbs.log2<1920 then wq (.str (toString i),S)else aj
 |_=>aj
def JL:eg X (.type "str") (rN X.K (b1 DC)):=by
 intro pins s σ H xs f Q I r h;obtain⟨x,mu,S,d,g,j,rfl,b,c,a,hc⟩:=v9 h;cases d with
 |int i=>
  dsimp only[DC]at a;split at a
  ·rename_i e;cases a;cases b;exact rX pins s σ H _ f Q I r ⟨_,ag,e,hc.now (.str _) c⟩
  ·cases a
 |_=>cases a
end
section
variable{elt tg iter tg2 iter2 tg3 iter3:Expr}{ifs ifs2 ifs3:List Expr}{scope:dg}{pos:Pos}
end
section
variable{X:Cx}
end
def xX(a:Int):List Int->List Int
 |[]=>[a]
 |b::l=>if a<=b then a::b::l else b::xX a l
def i7:List Int->List Int
 |[]=>[]
 |a::l=>xX a (i7 l)
def lZ(a:Int):∀l:List Int,(xX a l).Perm (a::l)
 |[]=>.refl _
 |b::l=>by
  rw[xX];split
  ·exact .refl _
  ·exact((lZ a l).cons b).trans (.swap _ _ _)
def gm:∀l:List Int,(i7 l).Perm l
 |[]=>.refl _
 |a::l=>(lZ a _).trans ((gm l).cons a)
def wG{a:Int}:∀{l:List Int},l.Pairwise (· <= ·)->(xX a l).Pairwise (· <= ·)
 |[],_=>List.pairwise_singleton _ _
 |b::l,h=>by
  rw[b0]at h;rw[xX];split
  ·rename_i d;rw [b0,b0];exact ⟨fun x c=>by
    rcases aw.mp c with z|z
    ·lia
    ·have:=h.1 x z;lia,h.1,h.2⟩
  ·rename_i d;rw[b0];refine⟨λx c=>?_,wG h.2⟩;rcases aw.mp ((lZ a l).mem_iff.mp c)with z|z
   ·lia
   ·exact h.1 x z
def nB:∀l:List Int,(i7 l).Pairwise (· <= ·)
 |[]=>.nil
 |a::l=>wG (nB l)
def qu:∀{a b:List Int},a.Perm b->a.Pairwise (· <= ·)->b.Pairwise (· <= ·)->a=b
 |[],b,p,_,_=>(List.nil_perm.mp p).symm
 |x::a,[],p,_,_=>absurd p.length_eq (by simp)
 |x::a,y::b,p,h1,h2=>by
  rw[b0]at h1 h2;have e:x=y:=by
   have d:=p.mem_iff.mp (mS1 (a:=x) (l:=a));have f:=p.mem_iff.mpr (mS1 (a:=y) (l:=b));rcases aw.mp d with z|z
   ·exact z
   ·rcases aw.mp f with c|c
    ·exact c.symm
    ·have:=h2.1 x z;have:=h1.1 y c;lia
  subst e;rw[qu (List.perm_cons x |>.mp p) h1.2 h2.2]
def mE:List D->Option (List Int)
 |[]=>wq []
 | .int i::l=>(mE l).map λt=>i::t
 |_=>aj
section
variable{X:Cx}
def pH{K:Fg1}{H:Hp}{mu:List cZ}:∀{ds:List D} {vs:List V} {a:List cX} {ns:List Int},dB K H mu ds vs->dQ vs a->mE ds=wq ns->IntsAre a ns:=by
 intro ds
 induction ds with
 |nil=>intro vs a ns r v h;cases r;cases v;cases h;exact .nil
 |cons d ds ih=>
  intro vs a ns r v h;cases r with
  |cons f t=>
   cases v with
   |cons c b=>
    cases f
    case int i=>
     obtain⟨m,e,h⟩:=oM1.mp h;subst h;obtain⟨tk,rfl⟩:=c;exact .cons i tk (ih t b e)
    all_goals cases h
def pI:∀{us:List cX} {ns:List Int},IntsAre us ns->dQ (ns.map V.int) us:=by
 intro us ns h
 induction h with
 |nil=>exact .nil
 |cons i t _ ih=>exact .cons ⟨t,ag⟩ ih
def pK:∀{ds:List D} {ns:List Int},mE ds=wq ns->ns.length=ds.length:=by
 intro ds
 induction ds with
 |nil=>intro ns h;cases h;rfl
 |cons d ds ih=>
  intro ns h;cases d with
  |int i=>
   obtain⟨m,e,h⟩:=oM1.mp h;subst h;rw[lC1,lC1,ih e]
  |_=>cases h
end
end Mi
namespace Mi
open PySem PySem.Spec PyProof.Rows L2
def xE(its:List cX):slicePick its.toArray aj aj (wq (-1))=its.reverse.toArray:=by
 have h:=HT.sR its.toArray;rw[sT1]at h;unfold slicePick;have a:sliceBounds aj aj (wq (-1)) its.toArray.size=(((its.length:Nat):Int)-1,-1,-1):=by
  rw[sT1];unfold sliceBounds;have h1:¬ ((wq (-1:Int)).getD 1>0):=by decide
  simp only[h1,if_false];rfl
 rw[a];unfold sliceRange;have hc:(if((its.length:Nat):Int)-1 > -1 then(((its.length:Nat):Int)-1 - -1 - -1-1)/(- -1)else 0).toNat=its.length:=by
  have h2: - (-1:Int)=1:=rfl;rw[h2,Int.ediv_one];split<;>lia
 dsimp only;rw[if_neg (by decide),hc,aN];have e:((λx=>its.toArray[x]?)∘λ(k:Nat)=>((its.length:Int)-1 + -1*(k:Int)).toNat)=λ(m:Nat)=>its.toArray[(((its.length:Int)-1)+(m:Int)*(-1)).toNat]?:=by
  funext m
  have b:((its.length:Int)-1 + -1*(m:Int)).toNat=(((its.length:Int)-1)+(m:Int)*(-1)).toNat:=by rw[Int.mul_comm]
  show its.toArray[((its.length:Int)-1 + -1*(m:Int)).toNat]?=its.toArray[(((its.length:Int)-1)+(m:Int)*(-1)).toNat]?;rw[b]
 rw[e,h]
section
variable{X:Cx}
def HZ(K:Fg1)(te tk:TE):TE:=fun σ H Q=>te σ H λx H1=>tk σ H1 λk H2=>k = .int (-1)/\((∃a xs,x = .ref a/\jL K H2 a xs /\ ∀p,H2 p=aj->Q (.ref p) (upd H2 p (.tup xs.reverse)))\/(∃a xs,x = .ref a/\lJ K H2 a xs /\ ∀p,H2 p=aj->Q (.ref p) (upd H2 p (.lst xs.reverse))))
def uR{e l:Expr}{te tk:TE}{pos p2:Pos}(he:PE X e te)(hk:PE X l tk):PE X (.Subscript e (.Slice aj aj (wq l) p2) pos) (HZ X.K te tk):=by
 intro pins s σ H Q I h;refine Subscript_ (eR (he pins s σ H _ I h) λv B ⟨x,H1,y,p,A⟩=>?_);refine wpAny_Slice ?_;rw[evalPart_none];refine wP1 ?_;refine wP1 ?_;rw[evalPart_some];refine eR (hk pins B σ H1 _ y A) λu c ⟨k,H2,z,rk,n⟩=>?_;obtain⟨rfl,n⟩:=n;obtain⟨t,rfl⟩:=rk;have f:Inv X pins σ H2 {c with heap:=c.heap.push {cls:=.type "slice",data:=.fields #[.none,.none,.int (-1) t]}}:=z.kept (t':=c.toks) λb w q=>hP1 _ q;rcases n with⟨a,xs,rfl,m,q⟩|⟨a,xs,rfl,m,q⟩
 ·cases p;obtain⟨i,r,g,j⟩:=f.tuple m;have d:i.toArray.size=xs.length:=by rw[sT1];exact r.length.symm
  show da (model X.prog X.w) X.A (subscriptTail e (.Slice aj aj (wq l) p2) (.ref a) (.ref c.heap.objs.size)) (EP X pins σ Q) X.xe {c with heap:=c.heap.push {cls:=.type "slice",data:=.fields #[.none,.none,.int (-1) t]}};refine tail_any (ops:=[.ref a,.ref c.heap.objs.size]) g.typeIs PyProof.Rows.slot_tuple_getitem.lookup ?_ (by with_unfolding_all rfl);refine HT.ls g (Heap.IsSliceOf.new ..) ?_ (by rw[d];exact j);refine⟨.ref _,_,f.laid (t':=c.toks) (o:=.tup xs.reverse) (λb w q=>hP1 _ q) (nR1 _) ?_,ag,q _ (f.hok.fresh (nR1 _))⟩;exact⟨by rw[bZ];exact j,_,sE r,IsTup.new _ _⟩
 ·cases p;obtain⟨i,r,g,j⟩:=f.list m;have d:=r.length;show da (model X.prog X.w) X.A (subscriptTail e (.Slice aj aj (wq l) p2) (.ref a) (.ref c.heap.objs.size)) (EP X pins σ Q) X.xe {c with heap:=c.heap.push {cls:=.type "slice",data:=.fields #[.none,.none,.int (-1) t]}};refine tail_any (ops:=[.ref a,.ref c.heap.objs.size]) g.isList.typeIs slot_list_getitem.lookup ?_ (by with_unfolding_all rfl);refine wpAny_getItem_list_slice g.isList (Heap.IsSliceOf.new ..) .none .none (.int (-1) t) (by decide) ?_ (by rw[sT1];lia);rw[xE];refine⟨.ref _,_,f.laid (t':=c.toks) (o:=.lst xs.reverse) (λb w q=>hP1 _ q) (nR1 _) ?_,ag,q _ (f.hok.fresh (nR1 _))⟩;exact⟨by rw[bZ];exact j,_,0,sE r,hS1 _ ag⟩
def Iw(S:Sto)(d k:D):Option (D×Sto):=match k with
 | .int i=>if i = -1 then(dG S d).map λp=>if p.1=ai then(.ref S.length,S++[.lst p.2.reverse])else(.tup p.2.reverse,S)else aj
 |_=>aj
def Aw(m a:FE):FE:=λr S=>(m r S).bind λp=>(a r p.2).bind λb=>Iw b.2 p.1 b.1
def sC{e n:Expr}{m a:FE}{pos p2:Pos}(h:XE X e m)(y:XE X n a):XE X (.Subscript e (.Slice aj aj (wq n) p2) pos) (Aw m a):=
 ⟨ee (uR h.h y.h) <| by
  rintro σ H Q ⟨r,mu,S,d,G,w,x,b,hc⟩;obtain⟨⟨F,o⟩,E,b⟩:=oB1.mp b;obtain⟨⟨s,D⟩,C,b⟩:=oB1.mp b;refine⟨r,mu,S,F,o,w,x,E,λv H1 mu1 l A B=>?_⟩;refine⟨r,mu1,o,s,D,w.ext l,B,C,λu H2 g x2 r2 j=>?_⟩;cases s with
  |int i=>
   dsimp only[Iw]at b;split at b
   ·rename_i hi;subst hi;cases r2;refine⟨ag,?_⟩;obtain⟨⟨k,xs⟩,z,b⟩:=oM1.mp b;obtain⟨c,vs,rfl,q,t⟩:=dA (A.ext x2) j z;cases k with
    |true=>
     cases b;right;exact⟨c,vs,ag,q,λp f=>hc _ _ (g++[p]) ((l.trans x2).trans (Ext.new_ f)) (.ref (gp j.len p)) (j.newL t.reverse f)⟩
    |false=>
     simp only[bF1,if_false]at b;cases b;left;exact⟨c,vs,ag,q,λp f=>hc _ _ g ((l.trans x2).trans (Ext.fresh f)) (.tup (jL.of dP) (t.reverse.ext (Ext.fresh f))) (j.fresh f)⟩
   ·cases b
  |_=>cases b⟩
end
def lN(n:Nat):∀ns:List Int,D.unds n (ns.map D.int)=ai
 |[]=>rfl
 |_::ns=>by rw[mP1,D.unds,lN n ns];rfl
def DB{n:Nat}{d:D}{S:Sto}(h:S.length=n):gc n (d,S)=(d,S):=by
 unfold gc;split
 ·rw[show(d,S).2=S from rfl,<- h,bO]
 ·rfl
def yi{n:Nat}{f:FN}{ds:List D}{S S1:Sto}{d:D}(h:f ds []=wq (d,S1))(hn:ds.length=n)(a:D.unds 0 ds=ai)(hd:d.und 0=ai):dm n f ds S=wq (d,S):=by
 unfold dm pV;rw[if_pos hn,if_pos a,h,oP1,if_pos hd]
def oD{n:Nat}{f:FN}{ds:List D}{S S1:Sto}{d:D}(h:f ds []=wq (d,S1))(hn:ds.length=n)(a:D.unds 0 ds=ai)(hd:d.und 0=ah):dm n f ds S=wq (d.sh S.length,S++S1.map (Ob.sh S.length)):=by
 unfold dm pV;rw[if_pos hn,if_pos a,h,oP1,if_neg (by dsimp only;rw[hd];decide)]
def pT{n:Nat}{f:FN}{ds:List D}{S S1:Sto}{d:D}(h:f ds S=wq (d,S1))(hn:ds.length=n)(a:D.unds 0 ds=ah):dm n f ds S=wq (gc S.length (d,S1)):=by
 unfold dm pV;rw[if_pos hn,if_neg (by rw[a];decide),h,oP1]
def ym{n:Nat}{f:FN}{ds:List D}{S S1:Sto}{d:D}(h:f ds S=wq (d,S1))(hn:ds.length=n)(b:D.unds 0 ds=ah)(a:S1.length=S.length):dm n f ds S=wq (d,S1):=by
 rw[pT h hn b,DB a]
def tz{i j:Int}(h1: -(2^64)<i)(h2:i<2^64):eP i j=ai:=by
 unfold eP;simp only[Bool.or_eq_true,bA1,decide_eq_true_eq];exact .inl (.inl ⟨h1,h2⟩)
def wr{i j:Int}(h1: -(2^64)<j)(h2:j<2^64):eP i j=ai:=by
 unfold eP;simp only[Bool.or_eq_true,bA1,decide_eq_true_eq];exact .inl (.inr ⟨h1,h2⟩)
def eZ{S:Sto}{n:Nat}{xs:List D}(h:S[n]?=wq (.lst xs)):oY S [(n,xs)]=ai:=by
 rw[oY,h];simp[D.sames_refl,oY]
def j0(n:Nat):Nat->List D
 |0=>[]
 |k+1=>.ref n::j0 (n+1) k
def tF:∀{n:Nat} {lo:Int} {d:D},d∈gz lo n -> ∃k:Int,d = .int k/\lo<=k/\k<lo+n
 |0,lo,d,h=>by simp[gz]at h
 |n+1,lo,d,h=>by
  rw[gz]at h;rcases aw.mp h with h|h
  ·exact⟨lo,h,Int.le_refl _,by lia⟩
  ·obtain⟨k,e,h1,h2⟩:=tF h;exact⟨k,e,by lia,by lia⟩
open Classical in
def rkV(ws:List cX)(x:cX):Nat:=ws.findIdx λy=>decide (y=x)
def Fq{ws:List cX}{x:cX}(h:x∈ws):ws[rkV ws x]?=wq x:=by
 have a:rkV ws x<ws.length:=List.findIdx_lt_length_of_exists ⟨x,h,by simp⟩;rw[gG1 a];have:=List.findIdx_getElem (w:=a);have e:ws[rkV ws x]=x:=of_decide_eq_true this;rw[e]
def kR(ws:List cX)(xs:Array Keyed)(i:Nat):Nat:=(xs[i]?.map λp=>rkV ws p.1).getD 0
def lr{ws:List cX}{xs ys:Array Keyed}{i j:Nat}(h:xs[i]?=ys[j]?):kR ws xs i=kR ws ys j:=by unfold kR;rw[h]
def Up(ws:List cX)(xs:Array Keyed)(k:Nat):Prop:=∀i j,i<j->j<k->kR ws xs i<kR ws xs j
def Dn(ws:List cX)(xs:Array Keyed)(k:Nat):Prop:=∀i j,i<j->j<k->kR ws xs j<kR ws xs i
structure SoB (κ:SortKind)(a₀:Array Keyed)(st:SortSt):Prop where
 perm:(arrOf st).Perm a₀
 kind:kindOf st=κ
 failed:failedOf st=none
 pend:pendingOf st = #[]
def SoB.arr{κ:SortKind}{a₀:Array Keyed}{st:SortSt}(b:SoB κ a₀ st){xs:Array Keyed}(p:xs.Perm (arrOf st)):SoB κ a₀ (setArr st xs):=⟨p.trans b.perm,b.kind,b.failed,b.pend⟩
structure xb (prog:c0)(w:c6)(A:c5)(s:cY)(κ:SortKind)(ws:List cX)(a₀:Array Keyed):Prop where
 nd:ws.Nodup
 keys:(a₀.toList.map (·.1)).Perm ws
 lt:∀(x y:cX) (i j:Nat),ws[i]?=some x->ws[j]?=some y->i≠j -> ∀(E:cX->cY->Prop) (Q:Bool->cY->Prop),Q (decide (i<j)) s->da (model prog w) A (keyLt' κ x y) Q E s
section
variable{prog:c0}{w:c6}{A:c5}{E:cX->cY->Prop}{s:cY}{κ:SortKind}{ws:List cX}{a₀:Array Keyed}
def xb.at_(C:xb prog w A s κ ws a₀){xs:Array Keyed}(p:xs.Perm a₀){i:Nat}(hi:i<a₀.size):∃x q,xs[i]?=wq (x,q)/\ws[kR ws xs i]?=wq x:=by
 have a:i<xs.size:=by rw[p.size_eq];exact hi
 refine⟨xs[i].1,xs[i].2,aG1 a,?_⟩;have b:xs[i]∈a₀.toList:=(b4.mp p).mem_iff.mp (by simp);have:=Fq (C.keys.mem_iff.mp (b5.mpr ⟨_,b,ag⟩));unfold kR;rw[aG1 a];exact this
def xb.inj(C:xb prog w A s κ ws a₀){xs:Array Keyed}(p:xs.Perm a₀){i j:Nat}(hi:i<a₀.size)(k:j<a₀.size)(h:kR ws xs i=kR ws xs j):i=j:=by
 obtain⟨x,q,e,b⟩:=C.at_ p hi;obtain⟨y,r,g,d⟩:=C.at_ p k;rw[h,d]at b;cases b;have c:(xs.toList.map (·.1)).Nodup:=(((b4.mp p).map (·.1)).trans C.keys).nodup_iff.mpr C.nd;have a:(xs.toList.map (·.1))[i]?=wq x:=by rw[gP1,aT1,e];rfl
 have f:(xs.toList.map (·.1))[j]?=wq x:=by rw[gP1,aT1,g];rfl
 exact(List.getElem?_inj (gE1.mp a).1 c).mp (a.trans f.symm)
def xb.cmp(C:xb prog w A s κ ws a₀){st:SortSt}{i j:Nat}{Q:Option Bool->SortSt->Prop}(b:SoB κ a₀ st)(hi:i<a₀.size)(d:j<a₀.size)(c:i≠j)(h:Q (wq (decide (kR ws (arrOf st) i<kR ws (arrOf st) j))) st):wpS (model prog w) A E s (ltAt' i j) Q st:=by
 obtain⟨x,q,f,g⟩:=C.at_ b.perm hi;obtain⟨y,r,k,e⟩:=C.at_ b.perm d;have a:kR ws (arrOf st) i≠kR ws (arrOf st) j:=λz=>c (C.inj b.perm hi d z);rw[ltAt'_eq];refine wpS_bind (wpS_get ?_);show wpS _ _ _ _ (do let x<-elem' (arrOf st) i;let y<-elem' (arrOf st) j;lt' x y) Q st;rw[elem'_eq,elem'_eq,f,k];refine wpS_bind (wpS_pure (wpS_bind (wpS_pure ?_)));rw[lt'_eq];refine wpS_bind (wpS_get ?_);rw[b.kind];exact wpS_bind (wpS_lift (wpAny_attempt (C.lt x y _ _ g e a _ _ ⟨ag,wpS_pure h⟩)))
def Up.one{xs:Array Keyed}:Up ws xs 1:=λi j h1 h2=>by lia
def Up.snoc{xs:Array Keyed}{n:Nat}(u:Up ws xs n)(h:n=0\/kR ws xs (n-1)<kR ws xs n):Up ws xs (n+1):=λi j h1 h2=>by
 by_cases z:j<n
 ·exact u i j h1 z
 ·have b:j=n:=by lia
  subst b;rcases h with h|h
  ·lia
  ·by_cases a:i=j-1
   ·rw[a];exact h
   ·exact aY (u i (j-1) (by lia) (by lia)) h
def Dn.snoc{xs:Array Keyed}{n:Nat}(u:Dn ws xs n)(h:kR ws xs n<kR ws xs (n-1)):Dn ws xs (n+1):=λi j h1 h2=>by
 by_cases z:j<n
 ·exact u i j h1 z
 ·have b:j=n:=by lia
  subst b;by_cases a:i=j-1
  ·rw[a];exact h
  ·exact aY h (u i (j-1) (by lia) (by lia))
def zm(C:xb prog w A s κ ws a₀){st:SortSt}{a d:Nat}{Q:AscSt->SortSt->Prop}(hn:d<=a₀.size)(ha:1<=a)(g:a<=d)(b:SoB κ a₀ st)(u:Up ws (arrOf st) a)(h:∀n,a<=n->n<=d->Up ws (arrOf st) n->(n=d\/kR ws (arrOf st) n<kR ws (arrOf st) (n-1))->Q (aj,n) st):wpS (model prog w) A E s (ascLoop a d) Q st:=by
 unfold ascLoop;refine wpS_forRange (λx c f=>f=st/\c=(aj,x)/\Up ws (arrOf st) x) ?_ ?_ ⟨ag,ag,u⟩
 ·rintro x c f h1 h2 ⟨rfl,rfl,i⟩;refine wpS_bind (C.cmp b (by lia) (by lia) (by lia) ?_);by_cases z:kR ws (arrOf f) x<kR ws (arrOf f) (x-1)
  ·simp only[z,decide_true,if_true];exact wpS_pure (h x h1 (by lia) i (.inr z))
  ·simp only[z,decide_false,bF1,if_false];have:kR ws (arrOf f) x≠kR ws (arrOf f) (x-1):=λe=>by have:=C.inj b.perm (by lia) (by lia) e;lia
   exact wpS_pure ⟨ag,ag,i.snoc (.inr (by lia))⟩
 ·rintro c f ⟨rfl,rfl,i⟩;rw[Nat.max_eq_right g]at i ⊢;exact h d g (nR1 _) i (.inl ag)
def Ca(C:xb prog w A s κ ws a₀){st:SortSt}{n a:Nat}{Q:Option Nat->SortSt->Prop}(hn:a<=a₀.size)(h1:1<=n)(l:n<=a)(b:SoB κ a₀ st)(d:Dn ws (arrOf st) n)(h:∀m c,SoB κ a₀ c->m<=a->Up ws (arrOf c) m->Q (wq m) c):wpS (model prog w) A E s (tail3 n a) Q st:=by
 unfold tail3;have f:n<=(arrOf st).size:=by rw[b.perm.size_eq];lia
 have o:SoB κ a₀ (setArr st (mirror (arrOf st) 0 n ((n-0)/2))):=b.arr (mirror_perm _ _ _ _);refine wpS_bind (wpS_reverse (wpS_bind (zm C hn h1 l o (λi j p e=>?_) λm p e u _=>wpS_pure (h m _ o e u))));have g:∀k,k<n->kR ws (mirror (arrOf st) 0 n ((n-0)/2)) k=kR ws (arrOf st) (n-1-k):=λk q=>lr (by
  rw[getElem?_mirror_all f,if_pos (by lia)]
  congr 1;lia)
 show kR ws (mirror (arrOf st) 0 n ((n-0)/2)) i<kR ws (mirror (arrOf st) 0 n ((n-0)/2)) j;rw[g i (by lia),g j e];exact d _ _ (by lia) (by lia)
def Cc(C:xb prog w A s κ ws a₀){st:SortSt}{n f:Nat}{Q:DescSt->SortSt->Prop}(hn:f<=a₀.size)(h1:1<=n)(i:n<=f)(b:SoB κ a₀ st)(d:Dn ws (arrOf st) n)(h:∀m,n<=m->m<=f->Dn ws (arrOf st) m->Q (aj,m,0) st):wpS (model prog w) A E s (descLoop n f) Q st:=by
 unfold descLoop;refine wpS_forRange (λx c a=>a=st/\c=(aj,x,0)/\Dn ws (arrOf st) x) ?_ ?_ ⟨ag,ag,d⟩
 ·rintro x c a h2 k ⟨rfl,rfl,g⟩;dsimp only;refine wpS_bind (C.cmp b (by lia) (by lia) (by lia) ?_);by_cases z:kR ws (arrOf a) x<kR ws (arrOf a) (x-1)
  ·simp only[z,decide_true,if_true];exact wpS_pure ⟨ag,ag,g.snoc z⟩
  ·simp only [z,decide_false,bF1,if_false];have j:kR ws (arrOf a) (x-1)<kR ws (arrOf a) x:=by
    have:kR ws (arrOf a) x≠kR ws (arrOf a) (x-1):=λe=>by have:=C.inj b.perm (by lia) (by lia) e;lia
    lia
   refine wpS_bind (C.cmp b (by lia) (by lia) (by lia) ?_);simp only[j,decide_true,if_true];exact wpS_pure (h x h2 (by lia) g)
 ·rintro c a ⟨rfl,rfl,g⟩;rw[Nat.max_eq_right i]at g ⊢;exact h f i (nR1 _) g
def Fd(C:xb prog w A s κ ws a₀){st:SortSt}{a:Nat}{Q:Option Nat->SortSt->Prop}(hn:a<=a₀.size)(h1:1<=a)(b:SoB κ a₀ st)(h:∀m c,SoB κ a₀ c->m<=a->Up ws (arrOf c) m->Q (wq m) c):wpS (model prog w) A E s (countRun' 0 a) Q st:=by
 rw[countRun0_eq];refine wpS_bind (zm C hn (nR1 1) h1 b .one λn h2 g u or=>?_);dsimp only;by_cases z:n=a
 ·rw[if_pos (by simpa using z)];exact wpS_pure (h n st b g u)
 ·rw[if_neg (by simpa using z)];have q:=or.resolve_left z;by_cases f:n>1
  ·rw[if_pos f];have:=u 0 (n-1) (by lia) (by lia);refine wpS_bind (C.cmp b (by lia) (by lia) (by lia) ?_);simp only[this,decide_true,if_true];exact wpS_pure (h n st b g u)
  ·rw[if_neg f];have e:n=1:=by lia
   subst e;unfold descPart;refine wpS_bind (wpS_lift (wpAny_rule ⟨ag,?_⟩));refine wpS_bind (Cc C hn (by lia) (by lia) b (λi j p k=>?_) λm p k d=>?_)
   ·have o:i=0:=by lia
    have l:j=1:=by lia
    subst o;subst l;exact q
   ·dsimp only;rw[if_neg (by lia)];exact Ca C hn (by lia) k b d h
def Ff(C:xb prog w A s κ ws a₀){st:SortSt}{n ok:Nat}{Q:Bool->SortSt->Prop}(hn:n<=a₀.size)(I:ok<=n)(b:SoB κ a₀ st)(u:Up ws (arrOf st) ok)(h:∀a,SoB κ a₀ a->Up ws (arrOf a) n->Q ai a):wpS (model prog w) A E s (binarySort' 0 n ok) Q st:=by
 rw[binarySort'_eq];simp only[bG];refine wpS_bind (wpS_mono (wpS_forRange (λk c a=>c=(aj,())/\SoB κ a₀ a/\Up ws (arrOf a) (min k n)) (Q:=λc a=>c=(aj,())/\SoB κ a₀ a/\Up ws (arrOf a) n) ?_ ?_ ⟨ag,b,λi j h1 h2=>?_⟩) ?_)
 ·rintro k c a H F ⟨rfl,f,m⟩;rw[bp (by lia)]at m;have y:k<(arrOf a).size:=by rw[f.perm.size_eq];lia
  refine wpS_bind (wpS_mono (wpS_forRange (λx c d=>d=a /\ ∃l r,c=(aj,l,r)/\l<=r/\r<=k/\r-l<=k-x/\(∀i,i<l->kR ws (arrOf a) i<kR ws (arrOf a) k) /\ ∀i,r<=i->i<k->kR ws (arrOf a) k<kR ws (arrOf a) i)
   (Q:=λc d=>d=a /\ ∃l r,c=(aj,l,r)/\l<=k/\(∀i,i<l->kR ws (arrOf a) i<kR ws (arrOf a) k) /\ ∀i,l<=i->i<k->kR ws (arrOf a) k<kR ws (arrOf a) i) ?_ ?_ ⟨ag,0,k,ag,by lia,by lia,by lia,λi h1=>by lia,λi h1 h2=>by lia⟩) ?_)
  ·rintro x c d _ K ⟨rfl,l,r,rfl,h1,h2,t,p,q⟩;dsimp only;by_cases z:l>=r
   ·rw[if_pos z];have e:l=r:=by lia
    subst e;exact wpS_pure ⟨ag,l,l,ag,h2,p,q⟩
   ·rw[if_neg z];refine wpS_bind (C.cmp f (by lia) (by lia) (by lia) ?_);by_cases o:kR ws (arrOf d) k<kR ws (arrOf d) ((l+r)/2)
    ·simp only[o,decide_true,if_true];refine wpS_pure ⟨ag,l,(l+r)/2,ag,by lia,by lia,by lia,p,λi J G=>?_⟩;by_cases v:(l+r)/2=i
     ·rw[<- v];exact o
     ·exact aY o (m _ i (by lia) G)
    ·simp only [o,decide_false,bF1,if_false];refine wpS_pure ⟨rfl,(l+r)/2+1,r,rfl,by lia,by lia,by lia,fun i J=>?_,q⟩;have D:kR ws (arrOf d) ((l+r)/2)<kR ws (arrOf d) k:=by
      have:kR ws (arrOf d) k≠kR ws (arrOf d) ((l+r)/2):=λe=>by have:=C.inj f.perm (by lia) (by lia) e;lia
      lia
     by_cases v:i=(l+r)/2
     ·rw[v];exact D
     ·exact aY (m i _ (by lia) (by lia)) D
  ·rintro c d ⟨rfl,l,r,rfl,h1,h2,t,p,q⟩;have e:l=r:=by lia
   subst e;exact⟨ag,l,l,ag,h2,p,q⟩
  ·rintro c d ⟨rfl,l,r,rfl,h1,h2,t⟩;show wpS _ _ _ _ (do moveDown' k l;pure (ForInStep.yield (none,()))) _ _;rw [moveDown'_eq];refine wpS_bind (wpS_modify (wpS_pure ⟨rfl,f.arr (bubble_perm _ _ _),?_⟩));rw [bp (by lia)];have g:∀ i,kR ws (bubble (arrOf d) k (k-l)) i=if i=l then kR ws (arrOf d) k else if l<i/\i<=k then kR ws (arrOf d) (i-1) else kR ws (arrOf d) i:=fun i=>by
    have e:=getElem?_bubble y (k-l) (by lia) i;rw[show k-(k-l)=l by lia]at e;by_cases B:i=l
    ·rw[if_pos B]at e ⊢;exact lr e
    ·rw[if_neg B]at e ⊢;by_cases o:l<i/\i<=k
     ·rw[if_pos o]at e ⊢;exact lr e
     ·rw[if_neg o]at e ⊢;exact lr e
   intro i j p q;show kR ws (bubble (arrOf d) k (k-l)) i<kR ws (bubble (arrOf d) k (k-l)) j;rw[g,g]
   repeat' split
   all_goals first
    |(exfalso;lia)
    |exact h2 _ (by lia)
    |exact t _ (by lia) (by lia)
    |exact m _ _ (by lia) (by lia)
 ·rintro c a ⟨hc,f,m⟩;refine⟨hc,f,?_⟩
  rwa [show min (max (max ok 1) n) n=n by lia]at m
 ·by_cases z:ok=0
  ·lia
  ·exact u i j h1 (by lia)
 ·rintro c a ⟨rfl,f,m⟩;exact wpS_pure (h a f m)
def Fg(C:xb prog w A s κ ws a₀){st:SortSt}{Q:Unit->SortSt->Prop}(b:SoB κ a₀ st)(h2:2<=a₀.size)(k:a₀.size<64)(h:∀a,(arrOf a).Perm a₀->failedOf a=aj->Up ws (arrOf a) a₀.size->Q () a):wpS (model prog w) A E s sortRuns' Q st:=by
 rw[sortRuns'_eq];refine wpS_bind (wpS_get ?_);dsimp only;have i:minRun' a₀.size a₀.size 0=a₀.size:=by
  generalize u:a₀.size=z at *
  cases z with
  |zero=>lia
  |succ f=>rw[minRun'_succ,if_pos k]
 simp only[b.perm.size_eq,i];have done:∀a,SoB κ a₀ a->Up ws (arrOf a) a₀.size->(arrOf (setPending a ((pendingOf a).push (0,a₀.size,0)))).Perm a₀/\failedOf (setPending a ((pendingOf a).push (0,a₀.size,0)))=aj/\pendingOf (setPending a ((pendingOf a).push (0,a₀.size,0))) = #[(0,a₀.size,0)]/\Up ws (arrOf (setPending a ((pendingOf a).push (0,a₀.size,0)))) a₀.size:=λa g t=>
  ⟨g.perm,g.failed,by show(pendingOf a).push _=_;rw[g.pend];rfl,t⟩
 refine wpS_bind (wpS_mono (wpS_forRange
  (λx c a=>(x=0/\c=(aj,0)/\SoB κ a₀ a)\/(1<=x/\c=(aj,a₀.size)/\(arrOf a).Perm a₀/\failedOf a=aj/\pendingOf a = #[(0,a₀.size,0)]/\Up ws (arrOf a) a₀.size))
  (Q:=λc a=>c=(aj,a₀.size)/\(arrOf a).Perm a₀/\failedOf a=aj/\pendingOf a = #[(0,a₀.size,0)]/\Up ws (arrOf a) a₀.size) ?_ ?_ (.inl ⟨ag,ag,b⟩)) ?_)
 ·rintro x c a _ n (⟨rfl,rfl,g⟩|⟨q,rfl,D⟩)
  ·dsimp only;rw[if_neg (by lia)];simp only[Nat.sub_zero,Nat.min_self,bG];refine wpS_bind (Fd C (nR1 _) (by lia) g λm d b2 r l=>?_);dsimp only;by_cases z:m<a₀.size
   ·rw[if_pos z];refine wpS_bind (wpS_lift (wpAny_rule ⟨ag,?_⟩));refine wpS_bind (Ff C (nR1 _) r b2 l λj b3 o=>?_);simp only[bT,bF1,if_false];refine wpS_bind (wpS_get ?_);rw[b3.pend];exact wpS_bind (wpS_modify (wpS_pure (.inr ⟨by lia,ag,done j b3 o⟩)))
   ·rw[if_neg z];have e:m=a₀.size:=by lia
    subst e;refine wpS_bind (wpS_get ?_);rw[b2.pend];exact wpS_bind (wpS_modify (wpS_pure (.inr ⟨by lia,ag,done d b2 l⟩)))
  ·dsimp only;rw[if_pos (nR1 _)];exact wpS_pure ⟨ag,D⟩
 ·rintro c a (⟨n,_⟩|⟨_,hc,D⟩)
  ·lia
  ·exact⟨hc,D⟩
 ·rintro c a ⟨rfl,D⟩;dsimp only;refine wpS_bind (wpS_mono (wpS_forRange (λ_ c d=>d=a/\c=(aj,())) (Q:=λc d=>d=a/\c=(aj,())) ?_ (λ_ _ p=>p) ⟨ag,ag⟩) ?_)
  ·rintro x c d _ _ ⟨rfl,rfl⟩;refine wpS_bind (wpS_get ?_);rw[if_pos (by rw[D.2.2.1];exact nR1 1)];exact wpS_pure ⟨ag,ag⟩
  ·rintro c d ⟨rfl,rfl⟩;exact wpS_pure (h _ D.1 D.2.1 D.2.2.2)
def Fe(C:xb prog w A s κ ws (pairsOf vs)){xs:Array Keyed}(p:xs.Perm (pairsOf vs))(u:Up ws xs (pairsOf vs).size):xs.map (·.2)=ws.toArray:=by
 have k:ws.length=(pairsOf vs).size:=by rw[<- C.keys.length_eq,lM1];simp
 have b:∀i,i<(pairsOf vs).size->i<=kR ws xs i:=by
  intro i
  induction i with
  |zero=>intro _;lia
  |succ i ih=>intro h;have:=ih (by lia);have:=u i (i+1) (by lia) h;lia
 have a:∀d i,i+d+1=(pairsOf vs).size->kR ws xs i<=i:=by
  intro d
  induction d with
  |zero=>
   intro i h;obtain⟨x,q,_,f⟩:=C.at_ p (i:=i) (by lia);have:=(gE1.mp f).1;lia
  |succ d ih=>
   intro i h;have:=ih (i+1) (by lia);have:=u i (i+1) (by lia) (by lia);lia
 apply Array.ext
 ·rw[b6,p.size_eq,<- k];simp
 ·intro i h1 h2;rw[b6,p.size_eq]at h1;have l:kR ws xs i=i:=Nat.le_antisymm (a ((pairsOf vs).size-1-i) i (by lia)) (b i h1);obtain⟨x,q,e,f⟩:=C.at_ p h1;rw[l]at f;have j:(x,q)∈(pairsOf vs).toList:=(b4.mp p).mem_iff.mp (Array.mem_toList_iff.mpr (Array.mem_of_getElem? e));rw[pairsOf_toList]at j;have m:x=q:=(mem_zip_self j).1;have c:(xs.map (·.2))[i]?=wq q:=by rw[Array.getElem?_map,e];rfl
  have g:ws.toArray[i]?=wq x:=by rw[List.getElem?_toArray];exact f
  rw[aG1 (by rw[b6,p.size_eq];exact h1)]at c;rw[aG1 h2]at g;rw[Option.some.inj c,Option.some.inj g,m]
end
section
variable{prog:c0}{w:c6}{A:c5}{E:cX->cY->Prop}{s:cY}
def rl(f:Bool)(x y:cX):keyLt' (tuples' f) x y=(do
  let xs<-Builtin.List.listItems x
  let ys<-Builtin.List.listItems y
  for ((p,q),i) in (xs.toList.zip ys.toList).zipIdx do
   if !(<- eqBool p q)then return<-oneLt' (f&&i == 0) p q
  return decide (xs.size<ys.size)):=rfl
def rf{M:Model}{α β:Type}{f:α->Sem β}{P:α->β->Prop}:∀ {l:List α} {Q:List β->cY->Prop},(∀ v∈l,∃ r,P v r /\ ∀ Q:β->cY->Prop,Q r s->da M A (f v) Q E s) ->
  (∀rs,rs.length=l.length->(∀r∈rs,∃v∈l,P v r)->Q rs s)->da M A (l.mapM f) Q E s
 |[],Q,_,q=>by rw[List.mapM_nil];exact wP1 (q [] rfl λr a=>by cases a)
 |v::l,Q,h,q=>by
  rw[List.mapM_cons];obtain⟨r,p,a⟩:=h v mS1;refine wB1 (a _ ?_);refine wB1 (rf (λv c=>h v (mC1 _ c)) λrs e g=>?_);refine wP1 (q (r::rs) (by rw[lC1,lC1,e]) λx d=>?_);rcases aw.mp d with z|z
  ·exact⟨v,mS1,by rw[z];exact p⟩
  ·obtain⟨b,h1,h2⟩:=g x z;exact⟨b,mC1 _ h1,h2⟩
def A2(v:cX):firstOfTuple' v=(do
  if(<- typeOf v) != .type "tuple" then return aj
  return (<- Builtin.List.listItems v)[0]?):=rfl
def Cb {a:cZ}{vs ws:List cX}{n:Nat}{κ:SortKind}{P:Fin->cY->Prop}(ho:s.heap.get? a=some (seqObj "list" vs.toArray n))(j:vs.length<64)(hp:vs.Perm ws)
  (r:∀h',(∀b o,b≠a->s.heap.get? b=wq o->h'.get? b=wq o)->2<=vs.length->xb prog w A {s with heap:=h'} κ ws (pairsOf vs) /\ ∀Q:SortKind->cY->Prop,Q κ {s with heap:=h'}->da (model prog w) A (keyKind' vs.toArray) Q E {s with heap:=h'})
  (h:P (.done (.ret .none)) {s with heap:=sortedHeap s.heap a vs ws.toArray}):da (model prog w) A (Builtin.«list.sort» ⟨[.ref a],[]⟩) P E s:=by
 rw[list_sort_plain];have u:a<s.heap.objs.size:=hL1 ho;refine wB1 (listItems_at ho ag ?_);refine wB1 (listUpdate_at ho ag ?_);obtain⟨k,g⟩:∃k,(s.heap.update a (Obj.mapSeq λ_=> #[])).get? a=some (seqObj "list" #[] k):=⟨_,get?_update_seq ho (λ_=> #[])⟩;refine wB1 (seqEpoch_at g ag (wB1 (wpAny_newTuple (wB1 (wpAny_newList (wpAny_holding ?_))))));have keep:∀b o,b≠a->s.heap.get? b=wq o->(((s.heap.update a (Obj.mapSeq λ_=> #[])).push (seqObj "tuple" vs.toArray 0)).push (seqObj "list" #[] 0)).get? b=wq o:=λb o l e=>
  hP1 _ (hP1 _ (by rw[hU1 _ _ _ _ l];exact e))
 have d:(((s.heap.update a (Obj.mapSeq λ_=> #[])).push (seqObj "tuple" vs.toArray 0)).push (seqObj "list" #[] 0)).get? a=wq (seqObj "list" #[] k):=hP1 _ (hP1 _ g);show da (model prog w) A _ P E {s with heap:=((s.heap.update a (Obj.mapSeq λ_=> #[])).push (seqObj "tuple" vs.toArray 0)).push (seqObj "list" #[] 0)};dsimp only;have p:vs.toArray.size=vs.length:=by simp
 have f:=hp.length_eq;have i:∀xs:Array Keyed,xs.map (·.2)=ws.toArray->P (.done (.ret .none)) {s with heap:=sortedHeap s.heap a vs (xs.map (·.2))}:=λxs e=>by rw[e];exact h
 by_cases h2:vs.toArray.size<2
 ·rw [if_pos h2,if_pos h2];refine wB1 (wP1 ?_);rw [StateT.run_pure];refine wB1 (wP1 (wB1 (seqEpoch_at d rfl ?_)));have e:((vs.toArray.zip vs.toArray).map (·.2):Array cX)=ws.toArray:=by
   have:vs=ws:=by
    match vs,ws,hp,h2 with
    |[],ws,hp,_=>exact(List.nil_perm.mp hp).symm
    |[x],ws,hp,_=>exact(List.singleton_perm.mp hp).symm ▸ rfl
    |_::_::_,_,_,h2=>simp at h2;lia
   subst this;apply Array.ext';simp;exact List.map_snd_zip (nR1 _)
  refine wB1 (listUpdate_at d ag ?_ (hsz2:=by
   show(Array.map (·.2) (vs.toArray.zip vs.toArray)).size<=_;rw[e,sT1,<- f,sizeLine_eq];lia))
  simp only[bne_self_eq_false,bF1,if_false];exact wP1 (i _ e)
 ·rw [if_neg h2,if_neg h2];obtain ⟨C,K⟩:=r _ keep (by lia);refine wB1 (K _ ?_);refine wB1 (wpAny_mono (Fg C (st:=SortSt.mk' κ (vs.toArray.zip vs.toArray) #[] 7 none)
   (Q:=λ_ c=>(arrOf c).Perm (pairsOf vs)/\failedOf c=aj/\Up ws (arrOf c) (pairsOf vs).size) ⟨Array.Perm.refl _,ag,ag,ag⟩ (by rw[pairsOf_size];lia) (by rw[pairsOf_size];exact j) λc a1 a2 a3=>⟨a1,a2,a3⟩) ?_ λ_ _ e=>e)
  rintro⟨⟨⟩,c⟩ s' ⟨rfl,t,m,q⟩;have e:=Fe C t q;refine wB1 (seqEpoch_at d ag ?_);refine wB1 (listUpdate_at d ag ?_ (hsz2:=by
   show(Array.map (·.2) (arrOf c)).size<=_;rw[e,sT1,<- f,sizeLine_eq];lia))
  rw[m];simp only[bne_self_eq_false,bF1,if_false];exact wP1 (i _ e)
end
section
variable{prog:c0}{w:c6}{A:c5}{E:cX->cY->Prop}{R:Result->cY->Prop}
end
section
variable{prog:c0}{w:c6}{A:c5}{E:cX->cY->Prop}{s:cY}
end
section
variable{X:Cx}
end
section
variable{prog:c0}{w:c6}{A:c5}{E:cX->cY->Prop}{s:cY}
end
section
variable{prog:c0}{w:c6}{A:c5}{E:cX->cY->Prop}{R:Result->cY->Prop}
end
section
variable{X:Cx}
def KT.keys{K:Fg1}{H:Hp}{mu:List cZ}:∀{ks:List (TK×D)} {ws:List (TK×cZ×cX)},KT K H mu ks ws->dB K H mu (ks.map λp=>oQ p.1) (ws.map λx=>V.ref x.2.1)
 |_,_,.nil=>.nil
 |_,_,.cons ⟨z,d,k,_⟩ t=>.cons k (KT.keys t)
end
section
variable{X:Cx}{pins:List (cZ×Obj)}{σ:L2.St}{H:Hp}{s:cY}{a:cZ}{u v:HO}
end
section
variable{K:Fg1}{H H':Hp}{mu mu':List cZ}{S:Sto}{n:Nat}{a:cZ}{o:Obj}{u:HO}
end
def vy.lt{xs:Array Nat}(h:vy xs){a b u v:Nat}(d:a<b)(c:xs[a]?=wq u)(eb:xs[b]?=wq v):u<v:=by
 rw[<- aT1]at c eb;obtain⟨f,c⟩:=gE1.mp c;obtain⟨e,eb⟩:=gE1.mp eb;have:=List.pairwise_iff_getElem.mp h a b f e d;rw[c,eb]at this;exact this
structure Bs (xs:Array Nat)(j i:Nat):Prop where
 le:i<=xs.size
 lo:∀k v,xs[k]?=some v->k<i->v<j
 hi:∀k v,xs[k]?=some v->i<=k->j<=v
def Bp{xs:Array Nat}{j:Nat}(hr:vy xs):∀n lo hi:Nat,lo<=hi->hi<=xs.size->hi-lo<=n->(∀k v,xs[k]?=wq v->k<lo->v<j)->(∀k v,xs[k]?=wq v->hi<=k->j<=v)->Bs xs j (SetTable.below.go xs j n lo hi)
 |0,lo,hi,h1,h2,g,a,b=>by
  have:lo=hi:=by lia
  subst this;exact⟨h2,a,b⟩
 |n + 1,lo,hi,h1,h2,g,a,b=>by
  rw[SetTable.below.go];by_cases d:lo<hi
  ·rw[if_pos d];have f:(lo+hi)/2<xs.size:=by lia
   have c:=aG1 f;have h:xs.getD ((lo+hi)/2) j=xs[(lo+hi)/2]:=by simp[Array.getD,f]
   dsimp only;rw[h];by_cases hc:xs[(lo+hi)/2]<j
   ·rw[if_pos hc];refine Bp hr n _ _ (by lia) h2 (by lia) (λk v e i=>?_) b;rcases bM k ((lo+hi)/2)with z|z
    ·have:=hr.lt z e c;lia
    ·have:k=(lo+hi)/2:=by lia
     subst this;rw[c]at e;cases e;exact hc
   ·rw[if_neg hc];refine Bp hr n _ _ (by lia) (by lia) (by lia) a λk v e i=>?_;rcases bM ((lo+hi)/2) k with z|z
    ·have:=hr.lt z c e;lia
    ·have:k=(lo+hi)/2:=by lia
     subst this;rw[c]at e;cases e;lia
  ·rw[if_neg d];have:lo=hi:=by lia
   subst this;exact⟨h2,a,b⟩
def uj{xs:Array Nat}(hr:vy xs)(j:Nat):Bs xs j (SetTable.below xs j):=
 Bp hr _ 0 _ (aZ _) (nR1 _) (by lia) (λ_ _ _ h=>absurd h (bn _)) λk v e h=>by
  have:=(Array.getElem?_eq_some_iff.mp e).1;lia
def jD{α:Type}(xs:Array α)(p:Nat)(x:α):(SetTable.insertAt xs p x).toList=xs.toList.take p++x::xs.toList.drop p:=by
 unfold SetTable.insertAt;rw[Array.toList_append,Array.toList_push,Array.toList_extract,Array.toList_extract];simp[List.extract_eq_drop_take];rw[bY (by simp)]
def Cm{xs:Array Nat}(hr:vy xs){j:Nat}(hn:xs[SetTable.below xs j]? ≠ wq j):vy (SetTable.insertAt xs (SetTable.below xs j) j):=by
 have b:=uj hr j;unfold vy;rw[jD,List.pairwise_append,b0];have lo:∀v∈xs.toList.take (SetTable.below xs j),v<j:=λv g=>by
  obtain⟨k,d⟩:=bh g;rw[List.getElem?_take]at d;split at d
  ·rename_i h;exact b.lo k v (by rw[<- aT1];exact d) h
  ·cases d
 have hi:∀v∈xs.toList.drop (SetTable.below xs j),j<v:=λv g=>by
  obtain⟨k,d⟩:=bh g;rw[List.getElem?_drop,aT1]at d;have h1:=b.hi _ v d (bi _ _);rcases bM j v with z|z
  ·exact z
  ·exfalso;have f:v=j:=by lia
   subst f;cases k with
   |zero=>exact hn d
   |succ k=>
    have l:SetTable.below xs v<xs.size:=by have:=(Array.getElem?_eq_some_iff.mp d).1;lia
    have e:=aG1 l;have:=b.hi _ _ e (nR1 _);have:=hr.lt (by lia) e d;lia
 refine⟨hr.sublist (List.take_sublist _ _),⟨hi,hr.sublist (List.drop_sublist _ _)⟩,λa i c hc=>?_⟩;rcases aw.mp hc with z|z
 ·rw[z];exact lo a i
 ·exact aY (lo a i) (hi c z)
structure TS (l:Bool)(t:SetTable):Prop where
 up:vy t.place
 du:t.dummies = #[]
 ld:t.led=l
def tu{t:SetTable}(hd:t.dummies = #[])(j:Nat):SetTable.has t.dummies j=ah:=by rw[hd];rfl
def rL{α:Type}(f:Nat->Option α):∀l:List Nat,((l.filterMap λj=>(f j).map (j,·)).map (·.1)).Sublist l
 |[]=>.slnil
 |a::l=>by
  rw[av];cases f a with
  |none=>exact(rL f l).cons a
  |some x=>exact(rL f l).cons₂ a
def Mo(e:Int×cX):Int:=match e.2 with
 | .int k _=>k
 |_=>0
structure J8 (es:Array (Int×cX))(ns:List Int):Prop where
 el:∀e∈es.toList,∃k t,e=(hashInt k,Value.int k t)
 pm:(es.toList.map Mo).Perm ns
def J8.size{es:Array (Int×cX)}{ns:List Int}(h:J8 es ns):es.size=ns.length:=by
 have:=h.pm.length_eq;rw[lM1,aB]at this;exact this
def J8.perm{es fs:Array (Int×cX)}{ns:List Int}(h:J8 es ns)(p:fs.toList.Perm es.toList):J8 fs ns:=
 ⟨λe a=>h.el e (p.mem_iff.mp a),(p.map _).trans h.pm⟩
section
variable{P:c0}{w:c6}{A:c5}{E:cX->cY->Prop}{s:cY}{b:Bool}{p:cZ}{ns:List Int}
def zB{es fs:Array (Int×cX)}{ep:Nat}{t u:SetTable}{h:db}(e:h.get? p=wq (stO es ep t)):(h.update p (Obj.putSet fs u)).get? p=wq (stO fs (ep+1) u):=by
 have:=hW1 (Obj.putSet fs u) e (by rw[putSet_of fs u ag];rfl);rw[putSet_of fs u ag]at this;exact this
end
section
variable{P:c0}{w:c6}{A:c5}{E:cX->cY->Prop}{s:cY}
def jH(w:c6):Bool:=w.params.followText "set-order"
def wo(x:cX){G:cX->cY->Prop}(q:G (.ref s.heap.objs.size) {s with heap:=s.heap.push (stO #[] 0 (.fresh 0 0 (!jH w)))}):
  codeAny (model P w) A (.call (.builtin "set.__new__") ⟨[.type "set",x],[]⟩) (wants G E) s:=by
 refine codeAny_of_tree (?_:da _ A.in1 (do checkBuiltinCall "set.__new__" ⟨[.type "set",x],[]⟩;again (.builtin "set.__new__" ⟨[.type "set",x],[]⟩)) _ _ s);refine wB1 (wpAny_of_eq (PySem.F.newCall_set_1 x) (wP1 ⟨plainId_quiet PySem.F.plain_set_new _,wD1 PySem.F.entry_set_new (?_:_)⟩));rw[Around.under_plainId PySem.F.plain_set_new _];unfold Builtin.«set.__new__» Builtin.Frozenset.newClass;have a:=sub_set_self;obtain⟨b,g,d,tk,c⟩:=s;dsimp only
 wp_walk
 refine wpAny_askSetting (wP1 (?_:_));dsimp only;simp only[newObj];exact wB1 (wpAny_alloc (wP1 (wP1 q)))
set_option maxHeartbeats 3200000 in
def vm {l:cZ}{its:Array cX}{Q:cX->cY->Prop}(v:s.heap.IsList l its)
  (g:∀i:c5,i.handled=A.handled->i.units<=A.units+2 -> ∀R:Result->cY->Prop,(∀s',Q (.ref s.heap.objs.size) s'->R (.ok (.ret .none)) s') ->
   codeAny (model P w) i (.builtin "set.update.loop" ⟨[.ref s.heap.objs.size,.ref (s.heap.objs.size+1)],[]⟩) R {s with heap:=(s.heap.push (stO #[] 0 (.fresh 0 0 (!jH w)))).push {cls:=.type "list_iterator",data:=.fields #[.ref l,.int 0 0]}}):
  da (model P w) A (call (.type "set") [.ref l]) Q E s:=by
 obtain⟨X,T,k⟩:=PySem.F.called_set.mro;have h:=PySem.F.called_set.made;have o:=PySem.F.called_set.sub
 refine wpAny_call (codeAny_of_tree (?_:da _ _ (callAny (.type "set") _) _ _ _));refine wP1 ⟨Code.quiet_builtin _ (by decide+kernel),wD1 PySem.F.entry_type_call (?_:_)⟩;rw[Around.under_plain (weight_type_call_type "set" [.ref l] []) ag];have J:=PySem.F.called_set.notType;have K:=PySem.F.called_set.canCreate;have S:=PySem.F.typeCall_set_1 (.ref l)
 repeat(any_goals (first|wp_step|assumption))
 refine codeAny_mono (wo (.ref l) (E:=E) (G:=λx p=>x = .ref s.heap.objs.size/\p={s with heap:=s.heap.push (stO #[] 0 (.fresh 0 0 (!jH w)))}) ⟨ag,ag⟩) λr p j=>?_;cases r with
 |error e=>exact j
 |ok u=>
  cases u with
  |ret x=>
   obtain⟨rfl,rfl⟩:=j;have n:(s.heap.push (stO #[] 0 (.fresh 0 0 (!jH w)))).get? s.heap.objs.size=wq (stO #[] 0 (.fresh 0 0 (!jH w))):=hS1 _ ag;have F:Shared.TypeIs {s with heap:=s.heap.push (stO #[] 0 (.fresh 0 0 (!jH w)))} (.ref s.heap.objs.size) "set":=⟨_,n,ag⟩;have W:=PySem.F.called_set.init.lookup;have U:=PySem.F.called_set.init.bind (.ref s.heap.objs.size)
   repeat(any_goals (first|wp_step|assumption))
   refine codeAny_mono (codeAny_call_builtin (R:=wants (λr m=>r = .none/\Q (.ref s.heap.objs.size) m) E) PySem.F.called_set.init.plain PySem.F.entry_set_init (check_set_init_1 F (?_:_))) λr2 m a=>?_
   ·obtain⟨B,d,b,t,c⟩:=v;obtain⟨N,z,M,H⟩:=B;simp only at b c;subst b;subst c;have I:(s.heap.push (stO #[] 0 (.fresh 0 0 (!jH w)))).get? l=wq {cls:=.type "list",dict:=z,data:=.seq its t,slots:=H}:=hP1 _ d;have L:=PySem.F.sub_list_set;have V:=PySem.F.sub_list_frozenset;have O:(Value.type "list" == Value.type "dict")=ah:=by decide
    have y:(s.heap.push (stO #[] 0 (.fresh 0 0 (!jH w)))).IsList l its:=⟨_,I,ag,t,ag⟩;have C:(s.heap.push (stO #[] 0 (.fresh 0 0 (!jH w)))).get? s.heap.objs.size=wq {cls:=.type "set",dict:=aj,data:=.set #[] 0 (.fresh 0 0 (!jH w)),slots:= #[]}:=n;unfold Builtin.«set.__init__» noKeywords Builtin.Frozenset.updateFrom;generalize f:pyIter=PI
    wp_walk
    subst f;refine wpAny_pyIter_list y (wB1 (wpAny_runValue (?_:_)));dsimp only;rw[show(s.heap.push (stO #[] 0 (.fresh 0 0 (!jH w)))).objs.size=s.heap.objs.size+1 from by rw[hZ1]];refine g A.in1.in1 (by simp) (nR1 _) _ λs' q=>?_;exact wP1 (wP1 ⟨ag,q⟩)
   ·cases r2 with
    |error e=>exact a
    |ok D=>
     cases D with
     |ret r=>
      obtain⟨rfl,q⟩:=a
      repeat(any_goals (first|wp_step|assumption))
     |_=>exact a.elim
  |_=>exact j.elim
end
section
variable{P:c0}{w:c6}{A:c5}{E:cX->cY->Prop}{b:Bool}
end
def Fh(t:SetTable)(i:Nat):Nat:=match i with
 |0=>0
 |i+1=>t.place.getD i 0+1
inductive BP (w:c6)(h:db)(a:cZ)(es:Array (Int×cX))(ep:Nat)(t:SetTable):cX->Nat->List cX->Prop
 |txt (b:jH w=true) (i:Nat) (sl:Nat):BP w h a es ep t (.int sl 0) i ((pickOrder (w.params.setOrder a ep) es).toList.map (·.2))
 |drw (b:jH w=false) (d:(!t.plain&&decide (es.size>1))=true) (i:Nat) (tp:cZ) (ps:List Nat) (e:h.get? tp=some {cls:=.type "tuple",data:=.seq (ps.map λj=>Value.int (j:Nat) 0).toArray}) (pm:ps.Perm (List.range es.size)):BP w h a es ep t (.ref tp) i (ps.map λj=>(es[j]?.map (·.2)).getD .none)
 |plc (b:jH w=false) (d:(!t.plain&&decide (es.size>1))=false) (ld:t.led=true) (up:vy t.place) (i:Nat):BP w h a es ep t (.int (Fh t i) 0) i (es.toList.map (·.2))
def pq{α:Type}(f:Nat->Nat):∀(n k:Nat) (l:List α) (b:Array α),l.length=n->(pickOrder.go f n k l b).toList.Perm (b.toList++l)
 |0,k,l,b,h=>by
  rw[pickOrder.go,List.length_eq_zero_iff.mp h,aF]
 |n+1,k,l,b,h=>by
  have c:f k%l.length<l.length:=Nat.mod_lt _ (by lia);rw[pickOrder.go,gG1 c];refine(pq f n (k+1) _ _ (by rw[List.length_eraseIdx_of_lt c];lia)).trans ?_;rw[Array.toList_push,bw];refine List.Perm.append_left _ ?_;have d:l=l.take (f k%l.length)++l[f k%l.length]::l.drop (f k%l.length+1):=by rw[List.getElem_cons_drop,b7]
  rw[b8];refine List.Perm.trans ?_ (List.Perm.of_eq d.symm);exact(List.perm_middle (l₁:=l.take (f k%l.length)) (l₂:=l.drop (f k%l.length+1)) (a:=l[f k%l.length])).symm
def BP.perm{w:c6}{h:db}{a:cZ}{es:Array (Int×cX)}{ep:Nat}{t:SetTable}{f:cX}{i:Nat}{pl:List cX}(y:BP w h a es ep t f i pl):pl.Perm (es.toList.map (·.2)):=by
 cases y with
 |txt=>exact(pq _ _ _ _ _ ag).map _
 |drw _ _ _ d ps e c=>
  refine(c.map _).trans ?_;have:(List.range es.size).map (λj=>(es[j]?.map (·.2)).getD .none)=es.toList.map (·.2):=by
   apply bQ;intro j;rw[gP1,gP1,aT1 (xs:=es)];by_cases b:j<es.size
   ·rw[b9 b,oP1,aG1 b];rfl
   ·rw[bR (by simpa using b),Array.getElem?_eq_none (by lia)];rfl
  rw[this]
 |plc=>exact .refl _
def BP.len{w:c6}{h:db}{a:cZ}{es:Array (Int×cX)}{ep:Nat}{t:SetTable}{f:cX}{i:Nat}{pl:List cX}(y:BP w h a es ep t f i pl):pl.length=es.size:=by
 rw[y.perm.length_eq,lM1,aB]
section
variable{P:c0}{w:c6}{A:c5}{E:cX->cY->Prop}{s:cY}{it a:cZ}{f:cX}{i ep:Nat}{es:Array (Int×cX)}{t:SetTable}{pl:List cX}
end
def BP.keep{w:c6}{h h':db}{a:cZ}{es:Array (Int×cX)}{ep:Nat}{t:SetTable}{f:cX}{i:Nat}{pl:List cX}(y:BP w h a es ep t f i pl)(k:∀c o,f = .ref c->h.get? c=wq o->h'.get? c=wq o):BP w h' a es ep t f i pl:=by
 cases y with
 |txt b _ g=>exact .txt b _ g
 |drw b d _ c ps e j=>exact .drw b d _ c ps (k c _ ag e) j
 |plc b d l up _=>exact .plc b d l up _
section
variable{P:c0}{w:c6}{A:c5}{E:cX->cY->Prop}
end
section
variable{X:Cx}
end
section
variable{X:Cx}{pins:List (cZ×Obj)}{σ:L2.St}{H:Hp}{s:cY}{a:cZ}{kvs:List (Key×V)}{k:Key}{v:V}{u r:cX}{A:c5}{E:cX->cY->Prop}
def Hj{Q:cX->cY->Prop}(I:Inv X pins σ H s)(e:H a=wq (.dK kvs))(l:kvs.length<c9)(x:dF (kV k) u)(n:dF v r)(h1:∀z,gD kvs k=wq z -> ∀g s',Inv X pins σ H s'->dF z g->Q g s')(h2:gD kvs k=aj -> ∀s',Inv X pins σ (upd H a (.dK (iR kvs k v))) s'->Q r s'):da (model X.prog X.w) A (call (.builtin "dict.setdefault") [.ref a,u,r]) Q E s:=by
 obtain⟨z,j,vs,b,m⟩:=wU I.hok e;refine call_meetsIn PySem.F.slot_dict_setdefault m.typeIs PySem.F.entry_dict_setdefault (PySem.F.args_dict_setdefault_3 _ _ _) (kt_meets_setdefault (e6 X.prog X.w) a (pE x) j r) ⟨vs,m,by rw[<- b.length];exact z,λy c=>?_,λi h' d p=>?_⟩
 ·cases ev:gD kvs k with
  |none=>
   have:=b.val k;rw[ev,c]at this;cases this
  |some z=>
   obtain⟨g,h,f⟩:=kF.some_of (v:=z) (o:=valueAt vs k) (by rw[<- ev];exact b.val k);rw[h]at c;cases c;exact h1 z ev _ _ (I.tok _) f
 ·cases ev:gD kvs k with
  |some z=>
   obtain⟨g,h,f⟩:=kF.some_of (v:=z) (o:=valueAt vs k) (by rw[<- ev];exact b.val k);rw[h]at i;cases i
  |none=>
   have t:(iR kvs k v).length<=c9:=by have:=jy kvs k v;lia
   have w:∃q,h'.get? a=wq q:=let ⟨q,_,_,hq,_⟩:=d;⟨q,hq⟩
   exact h2 ev _ (ly I (by rw[e];exact True.intro) p w (Ba t j (b.put k n) d))
end
def KE(td ty tx:TE):TE:=fun σ H Q=>td σ H λx H1=>∃a,x = .ref a/\Ls H1 a/\ty σ H1 λy H2=>tx σ H2 λz H3=>∃kvs k,H3 a=wq (.dK kvs)/\kvs.length<c9/\y=kV k /\
 (∀v,gD kvs k=wq v->Q v H3)/\(gD kvs k=aj->Q z (upd H3 a (.dK (iR kvs k z))))
section
variable{X:Cx}
def F1 {o e f:Expr}{apos cpos:Pos}{td ty tx:TE}(ho:PE X o td)(he:PE X e ty)(hf:PE X f tx)(m:M2 X o "setdefault" apos e f cpos):PE X (.Call (.Attribute o "setdefault" apos) [e,f] [] cpos) (KE td ty tx):=by
 intro pins s σ H Q I h;refine wpAny_Call_method m.base m.few m.line PySem.F.plainAttrs_dict PySem.F.slot_dict_setdefault PySem.F.type_dict_setdefault (eR (ho pins s σ H _ I h) λu w ⟨x,H1,c,n,a,ex,d,G⟩=>?_);subst ex;obtain rfl:u=Value.ref a:=n;obtain⟨i,B,_⟩:=G6 c d;refine⟨i,B,?_⟩;rw[m.trees];refine Calls.callWith_builtin ag (Calls.evalArgs_plain (Calls.spliced_cons (eR (he pins w σ H1 _ c G) λK q ⟨y,H2,E,C,p⟩=>
  Calls.spliced_cons (eR (hf pins q σ H2 _ E p) λL M ⟨z,t,D,g,kvs,k,F,el,j,r,J⟩=>Calls.spliced_nil ?_))))
 subst j;exact Hj D F el C g (λv l N s' b A=>⟨v,t,b,A,r v l⟩) λl s' b=>⟨z,_,b,g,J l⟩
def nY(m a b:FE):FE:=λr S=>(m r S).bind λp=>match p.1 with
 | .ref n=>match p.2[n]? with
  |some (.dct _)=>(a r p.2).bind λq=>(b r q.2).bind λt=>match t.2[n]? with
   |some (.dct kvs)=>(rm q.1).bind λk=>if kvs.length<c9 then wq (match dE kvs k with|some z=>(z,t.2)|none=>(t.1,t.2.set n (.dct (gP kvs k t.1))))else none
   |_=>aj
  |_=>aj
 |_=>aj
def BW {o e f:Expr} {apos cpos:Pos} {m a b:FE} (ho:XE X o m) (he:XE X e a) (hf:XE X f b) (hm:M2 X o "setdefault" apos e f cpos:=by exact⟨ag,ag,ag,ag⟩):XE X (.Call (.Attribute o "setdefault" apos) [e,f] [] cpos) (nY m a b):=
 ⟨ee (F1 ho.h he.h hf.h hm) <| by
  rintro σ H Q ⟨r,mu,S,d,S',he,G,hm,hc⟩;obtain⟨⟨Y,y⟩,V,hm⟩:=oB1.mp hm;refine⟨r,mu,S,Y,y,he,G,V,λZ H1 mu1 i L x=>?_⟩;dsimp only at hm;split at hm
  ·rename_i n;split at hm
   ·rename_i F q;cases L with
    | @ref _ N D=>
     refine⟨N,ag,G5 x D q,?_⟩;obtain⟨⟨P,C⟩,T,hm⟩:=oB1.mp hm;obtain⟨⟨O,J⟩,R,hm⟩:=oB1.mp hm;refine⟨r,mu1,y,P,C,he.ext i,x,T,λv2 H2 s x2 r2 K=>?_⟩;refine⟨r,s,C,O,J,(he.ext i).ext x2,K,R,λU p g l B t=>?_⟩;dsimp only at hm;split at hm
     ·rename_i kvs W;obtain⟨k,E,hm⟩:=oB1.mp hm;split at hm
      ·rename_i I;have hm:=Option.some.inj hm;have h:=l.at (x2.at D);obtain⟨ws,w,u⟩:=t.dct W h;have lk:=u.look (k:=k);refine⟨ws,k,w,by rw[<- u.length];exact I,lp (r2.ext l) E,λv j=>?_,λj=>?_⟩
       ·cases e:dE kvs k with
        |none=>have:=lk.2;rw[e]at this;simp[j]at this
        |some z=>
         rw[e]at hm;cases hm;obtain⟨M,c,A⟩:=lk.1 _ e;rw[j]at c;cases c;exact hc _ p g ((i.trans x2).trans l) A t
       ·cases e:dE kvs k with
        |some z=>
         obtain⟨M,c,A⟩:=lk.1 _ e;rw[j]at c;cases c
        |none=>
         rw[e]at hm;cases hm;have put:Ext g g p (upd p _ (.dK (iR ws k U))):=Ext.put w trivial (gM1 h);exact hc _ _ g (((i.trans x2).trans l).trans put) (B.ext put) (t.put h w trivial ⟨_,dP,(u.put B).ext put⟩)
      ·cases hm
     ·cases hm
   ·cases hm
  ·cases hm⟩
end
open AutoSeq1 (wpAny_loadPart')
section
variable{prog:c0}{w:c6}{A:c5}{E:cX->cY->Prop}{s:cY}
def ua{Q:List cX->cY->Prop}{r:cZ}{a b c:Int}{t u v:Tok}{n:Nat}(D:A.handled=none)(hr:IsRange s.heap r a b c t u v)(hsmall:Builtin.Range.small a b c=true)(hn:Builtin.Range.rangeSize a b c=n)(m:n<=2^24)(z:∀h' tk d,(∀b o',s.heap.get? b=some o'->h'.get? b=some o')->ItemsOf (fun i v=>∃t,v = .int (a+i*c) t) d n->Q d.toList {s with heap:=h',toks:=tk}):
  da (model prog w) A (collect (.ref r)) Q E s:=by
 unfold collect;refine wB1 (wpAny_runValue (wD1 F.entry_proto_collect (?_:_)));rw [Around.under_plainId F.plain_proto_collect _];show da _ A.in1 (newList [] >>= fun l=>again (.builtin "list.__iadd__" ⟨[l,.ref r],[]⟩)) _ _ s;refine wB1 (wO1 (?_:_));refine wP1 ⟨plainId_quiet F.plain_list_iadd _,wD1 F.entry_list_iadd (?_:_)⟩;rw [Around.under_plainId F.plain_list_iadd _];show da _ A.in1 (Builtin.List.listExtendWith (.ref s.heap.objs.size) (.ref r) (.ref s.heap.objs.size)) _ _ _;have C:(s.heap.push {cls:=.type "list",data:=.seq ([]:List cX).toArray}).get? s.heap.objs.size=some {cls:=.type "list",data:=.seq #[] 0}:=hS1 _ rfl;have j:∀ h' tk d g,(∀ b o',s.heap.get? b=some o'->h'.get? b=some o')->h'.get? s.heap.objs.size=some {cls:=.type "list",dict:=none,data:=.seq d g,slots:= #[]}->ItemsOf (fun i v=>∃ t,v = .int (a+i*c) t) d n ->
   da (model prog w) A (match Value.ref s.heap.objs.size with
   |Value.ref a=>do
    match (<- load a).data with
     |Data.seq xs _=>pure xs.toList
     |_=>unsupported "internal:collect"
   |_=>unsupported "internal:collect") Q E {s with heap:=h',toks:=tk}:=by
  intro h' tk d g x k p;show da _ A (load s.heap.objs.size >>= _) _ _ _;refine wB1 (wpAny_load k (?_:_));refine wP1 (?_:_);exact z h' tk d x p
 refine wpAny_mono (wpAny_extend_range (A:=A) (R:=λG s'=>∃h' tk d g,G = .ok (.ret (.ref s.heap.objs.size))/\s'={s with heap:=h',toks:=tk}/\(∀b o',s.heap.get? b=wq o'->h'.get? b=wq o')/\h'.get? s.heap.objs.size=wq {cls:=.type "list",dict:=aj,data:=.seq d g,slots:= #[]}/\ItemsOf (λi v=>∃t,v = .int (a+i*c) t) d n)
  (s:={s with heap:=s.heap.push {cls:=.type "list",data:=.seq ([]:List cX).toArray}}) D (hP1 _ hr) hsmall hn m _ _ 0 C λh' tk d g x k p=>
   ⟨h',tk,d,g,ag,ag,λb o e=>x b o (nN1 (hL1 e)) (hP1 _ e),k,p⟩) (λy s' h=>?_) (λe s' h=>?_)
 ·cases y with
  |done f=>
   obtain⟨h',tk,d,g,e,rfl,q⟩:=h;cases e;exact j h' tk d g q.1 q.2.1 q.2.2
  |again g=>exact⟨h.1,codeAny_mono h.2 λr B hr=>by obtain⟨h',tk,d,g,rfl,rfl,q⟩:=hr;exact j h' tk d g q.1 q.2.1 q.2.2⟩
 ·obtain⟨_,_,_,_,e,_⟩:=h;cases e
end
def uZ(r:cZ)(a b c:Int)(t u v:Tok)(n:Nat)(hsmall:Builtin.Range.small a b c=true)(hn:Builtin.Range.rangeSize a b c=n)(f:n<=2^20):
  Meets (Builtin.«tuple.__new__» ⟨[.type "tuple",.ref r],[]⟩)
   (λA R s=>A.handled=aj/\IsRange s.heap r a b c t u v /\ ∀(h':db) (tk:Nat) (acc:Array cX),(∀b o',s.heap.get? b=wq o'->h'.get? b=wq o')->ItemsOf (λi v=>∃t,v = .int (a+i*c) t) acc n ->
    R (.ok (.ret (.ref h'.objs.size))) {s with heap:=h'.push {cls:=.type "tuple",data:=.seq acc},toks:=tk}):=
 .of_wp λprog w A R s h=>by
  obtain⟨y,g,d,l,z⟩:=s;obtain⟨B,j,h⟩:=h;have p:=sub_tuple_self;have k:=init_tuple_lookup;have x:=madeHere_tuple;have D:Shared.TypeIs ⟨y,g,d,l,z⟩ (.ref r) "range":=⟨_,j,ag⟩;have m:A.in1.handled=aj:=B
  wp_walk using wpAny_loadPart' j,wpAny_typeOf D,ua m j hsmall hn (au f (by decide))
  intro h' tk acc C o;show da _ _ (Builtin.Tuple.tupleExact acc.toList.toArray >>= λv=>ret v) _ _ _;unfold Builtin.Tuple.tupleExact;have q:n<=c9:=au f (by decide);refine wB1 (wO1 (?_:_) (show acc.toList.toArray.size<=c9 by simp only[ca];rw[o.1];exact q));refine wP1 ⟨_,ag,(?_:_)⟩;have e:acc.toList.toArray=acc:=by simp
  rw[e];exact h h' tk acc C o
section
variable{X:Cx}
def Ho(hc:X.calm=ai):eg X (.type "tuple") (λxs H Q=>∃p i j,xs=[.ref p]/\H p=wq (.rng i j)/\(-(2^62)<=i/\i<2^62 /\ -(2^62)<=j/\j<2^62)/\(j-i).toNat<=2^20 /\ ∀l,H l=aj->Q (.ref l) (upd H l (.tup (jZ i (j-i).toNat)))):=by
 intro pins s σ H xs K Q I r h;obtain⟨p,i,j,rfl,E,⟨h1,h2,w,A⟩,n,q⟩:=h;obtain⟨u,rfl,z⟩:=gX r;cases z;obtain⟨t,u,v,e⟩:=I.hok p _ E;have y:(((j-i).toNat:Nat):Int)=Builtin.Range.rangeSize i j 1:=by rw[rangeSize_one];split<;>lia
 refine callType_new F.called_tuple (by decide) (F.typeCall_tuple_1 _) (F.newCall_tuple_1 _) (λg=>F.args_object_init_2 g _) F.entry_tuple_new
  (uZ p i j 1 t u v (j-i).toNat (small_one h1 h2 w A) y.symm n) ⟨I.ok.hd hc,e,λh' tk a J hi=>⟨⟨_,hS1 _ ag,ag⟩,(?_:_)⟩⟩
 obtain⟨f,c⟩:=hi;have d:dQ (jZ i (j-i).toNat) a.toList:=qh (by rw[jr];simpa using f.symm) λk x u C D=>by
  rw[nM _ _ _ _ C];obtain⟨G,rfl⟩:=c k u (by simpa using D);exact⟨G,by rw[Int.mul_one]⟩
 have m:Inv X pins σ H {s with heap:=h',toks:=tk}:=I.kept (t':=tk) J;have B:Inv X pins σ (upd H h'.objs.size (.tup (jZ i (j-i).toNat))) {s with heap:=h'.push {cls:=.type "tuple",data:=.seq a},toks:=tk}:=
  m.laid (t':=tk) (λb o e=>hP1 _ e) (nR1 _) (show eB X.prog X.w _ _ _ (.tup _)from⟨by rw[jr];exact au n (by decide),a.toList,d,by simpa using IsTup.new _ _⟩)
 exact⟨.ref h'.objs.size,_,B,ag,q _ (m.hok.fresh (nR1 _))⟩
def Av(m:FA):FE:=λr S=>(m r S).bind λp=>match p.1 with
 |[.int j]=>if mq 0 j=ai then wq (.tup (gz 0 j.toNat),p.2)else aj
 |_=>aj
def sB {a:Expr}{m:FA}{e p2 b c:Pos}(hc:X.calm=true)(hg:Gl X "range")(hm:X.mg "range"=none)(hg2:Gl X "tuple")(hm2:X.mg "tuple"=none)(ha:XA X [a] m)(hs:c8 [a] X.env=[(false,eval a X.env)]:=by rfl)
  (hs2:c8 [.Call (.Name "range" e) [a] [] b] X.env=[(ah,eval (.Call (.Name "range" e) [a] [] b) X.env)]:=by rfl):XE X (.Call (.Name "tuple" p2) [.Call (.Name "range" e) [a] [] b] [] c) (Av m):=
 ⟨ee (jT (Ho hc) hg2 hm2 (by decide+kernel) (iT (pr hg hm ha.h hs) lR hs2) (by decide) (by decide) hs2) <| by
  rintro σ H Q ⟨r,mu,S,d,x,t,hs,hm,f⟩;obtain⟨⟨ds,w⟩,q,hm⟩:=oB1.mp hm;dsimp only at hm;split at hm
  ·rename_i j;split at hm
   ·rename_i g;cases hm;refine⟨r,mu,S,_,_,t,hs,q,λvs H1 mu1 o n s=>?_⟩;obtain⟨v,rfl,k⟩:=k4 n;cases k;refine⟨j,ag,λp i=>⟨p,0,j,ag,dP,(kZ g).1,(kZ g).2,λl h=>?_⟩⟩;have x2:=(o.trans (Ext.fresh (u:=.rng 0 j) i)).trans (Ext.fresh (u:=.tup (jZ 0 (j-0).toNat)) h);exact f _ _ mu1 x2 (.tup (jL.of dP) (by rw[Int.sub_zero];exact nL _ _)) ((s.fresh i).fresh h)
   ·cases hm
  ·cases hm⟩
end
section
variable{P:c0}{w:c6}{A:c5}{E:cX->cY->Prop}{s:cY}
set_option maxHeartbeats 3200000 in
def yj {l:cZ}{its:Array cX}{Q:cX->cY->Prop}(v:s.heap.IsTuple l its)
  (g:∀t:c5,t.handled=A.handled -> ∀R:Result->cY->Prop,(∀s',Q (.ref s.heap.objs.size) s'->R (.ok (.ret .none)) s') ->
   codeAny (model P w) t (.builtin "set.update.loop" ⟨[.ref s.heap.objs.size,.ref (s.heap.objs.size+1)],[]⟩) R {s with heap:=(s.heap.push (stO #[] 0 (.fresh 0 0 (!jH w)))).push {cls:=.type "tuple_iterator",data:=.fields #[.ref l,.int 0 0]}}):
  da (model P w) A (call (.type "set") [.ref l]) Q E s:=by
 obtain⟨X,T,j⟩:=PySem.F.called_set.mro;have h:=PySem.F.called_set.made;have n:=PySem.F.called_set.sub
 refine wpAny_call (codeAny_of_tree (?_:da _ _ (callAny (.type "set") _) _ _ _));refine wP1 ⟨Code.quiet_builtin _ (by decide+kernel),wD1 PySem.F.entry_type_call (?_:_)⟩;rw[Around.under_plain (weight_type_call_type "set" [.ref l] []) ag];have J:=PySem.F.called_set.notType;have K:=PySem.F.called_set.canCreate;have S:=PySem.F.typeCall_set_1 (.ref l)
 repeat(any_goals (first|wp_step|assumption))
 refine codeAny_mono (wo (.ref l) (E:=E) (G:=λx o=>x = .ref s.heap.objs.size/\o={s with heap:=s.heap.push (stO #[] 0 (.fresh 0 0 (!jH w)))}) ⟨ag,ag⟩) λr o i=>?_;cases r with
 |error e=>exact i
 |ok u=>
  cases u with
  |ret x=>
   obtain⟨rfl,rfl⟩:=i;have m:(s.heap.push (stO #[] 0 (.fresh 0 0 (!jH w)))).get? s.heap.objs.size=wq (stO #[] 0 (.fresh 0 0 (!jH w))):=hS1 _ ag;have F:Shared.TypeIs {s with heap:=s.heap.push (stO #[] 0 (.fresh 0 0 (!jH w)))} (.ref s.heap.objs.size) "set":=⟨_,m,ag⟩;have W:=PySem.F.called_set.init.lookup;have U:=PySem.F.called_set.init.bind (.ref s.heap.objs.size)
   repeat(any_goals (first|wp_step|assumption))
   refine codeAny_mono (codeAny_call_builtin (R:=wants (λr k=>r = .none/\Q (.ref s.heap.objs.size) k) E) PySem.F.called_set.init.plain PySem.F.entry_set_init (check_set_init_1 F (?_:_))) λr2 k a=>?_
   ·obtain⟨B,d,b,p,c⟩:=v;obtain⟨N,z,M,H⟩:=B;simp only at b c;subst b;subst c;have I:(s.heap.push (stO #[] 0 (.fresh 0 0 (!jH w)))).get? l=wq {cls:=.type "tuple",dict:=z,data:=.seq its p,slots:=H}:=hP1 _ d;have L:=PySem.F.sub_tuple_set;have V:=PySem.F.sub_tuple_frozenset;have O:(Value.type "tuple" == Value.type "dict")=ah:=by decide
    have y:(s.heap.push (stO #[] 0 (.fresh 0 0 (!jH w)))).IsTuple l its:=⟨_,I,ag,p,ag⟩;have C:(s.heap.push (stO #[] 0 (.fresh 0 0 (!jH w)))).get? s.heap.objs.size=wq {cls:=.type "set",dict:=aj,data:=.set #[] 0 (.fresh 0 0 (!jH w)),slots:= #[]}:=m;unfold Builtin.«set.__init__» noKeywords Builtin.Frozenset.updateFrom;generalize f:pyIter=PI
    wp_walk
    subst f;refine wpAny_pyIter_tuple y (wB1 (wpAny_runValue (?_:_)));dsimp only;rw[show(s.heap.push (stO #[] 0 (.fresh 0 0 (!jH w)))).objs.size=s.heap.objs.size+1 from by rw[hZ1]];refine g A.in1.in1 (by simp) _ λs' q=>?_;exact wP1 (wP1 ⟨ag,q⟩)
   ·cases r2 with
    |error e=>exact a
    |ok D=>
     cases D with
     |ret r=>
      obtain⟨rfl,q⟩:=a
      repeat(any_goals (first|wp_step|assumption))
     |_=>exact a.elim
  |_=>exact i.elim
def vk{l:cZ}{its:Array cX}{ns:List Int}{Q:cX->cY->Prop}(G:A.handled=aj)(f:s.heap.IsTuple l its)(I:IntsAre its.toList ns)(hb:its.size+1<scanBound)(q:∀h' tk,(∀c o,s.heap.get? c=wq o->h'.get? c=wq o)->h'.SetOf (intKind P w) s.heap.objs.size (λp=>(firstMet (λi=>ns.getD i 0) its.size).any (· == p)) (firstMet (λi=>ns.getD i 0) its.size).length->Q (.ref s.heap.objs.size) {s with heap:=h',toks:=tk}):da (model P w) A (call (.type "set") [.ref l]) Q E s:=by
 have b:l<s.heap.objs.size:=by obtain⟨o,e,_⟩:=f;exact hL1 e
 refine yj f λD H R F=>?_;have B:(s.heap.push (stO #[] 0 (.fresh 0 0 (!jH w)))).objs.size=s.heap.objs.size+1:=by rw[hZ1]
 have C:(s.heap.push (stO #[] 0 (.fresh 0 0 (!jH w)))).get? s.heap.objs.size=wq (stO #[] 0 (.fresh 0 0 (!jH w))):=hS1 _ ag;have a:∀(i:Nat) (v:cX),its[i]?=wq v -> ∃t,v = .int ((λi=>ns.getD i 0) i) t:=λi v x=>PyProof.Rows.IntsAre.int_at I i v (by rw[aT1];exact x);have g:s.heap.objs.size∉[s.heap.objs.size+1,l]:=by
  simp only[aw,cb,bD,or_false,not_or];exact⟨nN1 (br _),nG1 b⟩
 have h:D.in1.handled=aj:=by simpa using H.trans G
 refine PyProof.Rows.codeAny_set_update_loopS ((Walks.tuple h _ l (nN1 (cc b)) its).toS) s.heap.objs.size g (λi=>ns.getD i 0) a hb (its.size-0) 0 _ (by lia) (aZ _) ⟨?_,?_⟩ ?_ λs' d j=>?_
 ·refine⟨{cls:=.type "tuple_iterator",data:=.fields #[.ref l,.int 0 0]},?_,ag,ag⟩;have this:((s.heap.push (stO #[] 0 (.fresh 0 0 (!jH w)))).push {cls:=.type "tuple_iterator",data:=.fields #[.ref l,.int 0 0]}).get? (s.heap.push (stO #[] 0 (.fresh 0 0 (!jH w)))).objs.size=wq {cls:=.type "tuple_iterator",data:=.fields #[.ref l,.int 0 0]}:=hS1 _ ag;rw[B]at this;exact this
 ·obtain⟨o,e,r⟩:=f;exact⟨o,hP1 _ (hP1 _ e),r⟩
 ·exact PyProof.Rows.SetOf_congr ((PyProof.Rows.setObjOf_fresh (knd:=intKind P w) (!jH w)).setOf (hP1 _ C) (by unfold scanBound;lia)) (λ_=>rfl) ag
 ·obtain⟨h',y,n,m,k⟩:=s';have z:y=s.gens:=d.gens;have J:n=s.drawn:=d.drawn;have u:k=s.os:=d.os;subst z;subst J;subst u;refine F _ (q h' m (λc o e=>d.heap c o ?_ (hP1 _ (hP1 _ e))) j);have:=hL1 e;simp only[aw,cb,bD,or_false,not_or];exact⟨nN1 this,nN1 (cc this)⟩
end
section
variable{X:Cx}
def gQ:G1:=λd S=>match dG S d with
 |some (_,xs)=>(jC xs).bind λns=>if ns.length+1<scanBound then wq (.ref S.length,S++[.iset (ddI ns)])else aj
 |_=>aj
def vn{k:Nat}(hr:fC k X.A):eg X (.type "set") (rN X.K (b1 gQ)):=by
 intro pins s σ H xs v Q I r h;have F:=h;obtain⟨x,mu,S,d,w,E,rfl,m,i,c,hc⟩:=v9 h;unfold gQ at c;split at c
 ·rename_i b ys n;cases b with
  |true=>exact JM hr pins s σ H _ v Q I r ⟨mu,S,[d],w,E,.cons m .nil,i,(by show rE d S=_;unfold rE;rw[n];exact c),hc⟩
  |false=>
  obtain⟨ns,e,c⟩:=oB1.mp c;split at c
  ·rename_i o;cases c;obtain⟨a,vs,rfl,q,t⟩:=dA m i n;cases r with
   |cons y rt=>
    cases rt;cases y;obtain⟨f,B,p,_⟩:=I.tuple q;obtain⟨hi,l⟩:=pJ t B e;have g:f.toArray.size=ns.length:=by rw[sT1,hi.length]
    refine vk (its:=f.toArray) (ns:=ns) hr.hd p (by simpa using hi) (by rw[g];exact o) λh' tk D j=>?_;rw[g,t6]at j;have A:(ddI ns).Nodup:=oB ns [] bg;have C:=lF (ddI ns);rw[C]at j;refine⟨.ref s.heap.objs.size,upd H s.heap.objs.size (.set (λk=>(ddI ns).contains k) (ddI ns).length),I.laid (λb u z=>D b u z) (nR1 _) j,ag,?_⟩;exact hc _ _ (mu++[s.heap.objs.size]) (Ext.new_ I.fresh) (.ref (gp i.len _)) (i.new I.fresh ⟨dP,A⟩)
  ·cases c
 ·cases c
end
section
variable{X:Cx}{a b:Expr}{rest:List Expr}{pos:Pos}{ta tb:TE}{f g:FE}
def FU(ha:PE X a ta)(hb:PE X (.BoolOp .Or (b::rest) pos) tb):PE X (.BoolOp .Or (a::b::rest) pos) (fun σ H Q=>ta σ H λx H'=>∃k,BI X.K x H' k/\if k=ai then Q x H' else tb σ H' Q):=by
 intro pins s σ H Q I h;refine BoolOp_or (eR (ha pins s σ H _ I h) λv m ⟨x,H1,i,f,e⟩=>?_);obtain⟨k,tk,e⟩:=e;refine eR (y7 pins m σ H1 x v (λl H'=>if l=ai then Q x H' else tb σ H' Q) i f ⟨k,tk,e⟩) λc j ⟨H2,g,d⟩=>?_;cases c with
 |false=>rw[if_neg (by decide)]at d ⊢;exact hb pins j σ H2 Q g d
 |true=>rw[if_pos ag]at d ⊢;exact⟨x,H2,g,f,d⟩
def Ay(a b:FE):FE:=λr S=>(a r S).bind λp=>(qi p.2 p.1).bind λk=>if k=ai then wq p else b r p.2
def vI(ha:XE X a f)(hb:XE X (.BoolOp .Or (b::rest) pos) g):XE X (.BoolOp .Or (a::b::rest) pos) (Ay f g):=
 ⟨ee (FU ha.h hb.h) <| by
  rintro σ H Q ⟨r,mu,S,d,u,l,p,c,hc⟩;obtain⟨⟨t,m⟩,s,c⟩:=oB1.mp c;obtain⟨k,o,c⟩:=oB1.mp c;refine⟨r,mu,S,t,m,l,p,s,λv H1 mu1 h j i=>⟨k,y8 j i o,?_⟩⟩;cases k with
  |true=>rw[if_pos ag]at c ⊢;cases c;exact hc _ H1 mu1 h j i
  |false=>rw[if_neg (by decide)]at c ⊢;exact⟨r,mu1,m,d,u,l.ext h,i,c,λq H2 e x2 r2 n=>hc q H2 e (h.trans x2) r2 n⟩⟩
end
section
variable{X:Cx}
def KR.len{K:Fg1}{H:Hp}{mu:List cZ}{ks:List (Key×D)}{ws:List (Key×V)}(h:KR K H mu ks ws):ws.length=ks.length:=by
 induction h with
 |nil=>rfl
 |cons _ _ ih=>rw[lC1,lC1,ih]
def ol:G1:=λd S=>match d with
 | .ref n=>match S[n]? with
  |some (.dct kvs)=>wq (.int kvs.length,S)
  |_=>dM d S
 |_=>dM d S
def Ht:eg X (.builtin "len") (rN X.K (b1 ol)):=by
 intro pins s σ H xs i Q I r h;obtain⟨x,mu,S,d,g,j,f,c,b,a,hc⟩:=v9 h;have m:=a;unfold ol at a;split at a
 ·rename_i n;split at a
  ·rename_i ys e;cases a;subst f;cases c with
   |ref l=>
    obtain⟨ws,o,p⟩:=b.dct e l;cases r with
    |cons k rt=>
     cases rt;cases k;refine JG I (Rd.of o) λt s' q=>⟨.int ws.length,H,q,⟨_,ag⟩,?_⟩;rw[p.len];exact hc.now (.int _) b
  ·exact d8 pins s σ H xs i Q I r (by subst f;exact⟨mu,S,[_],g,j,.cons c .nil,b,(show b1 dM [_] S=_ from a),hc⟩)
 ·exact d8 pins s σ H xs i Q I r (by subst f;exact⟨mu,S,[_],g,j,.cons c .nil,b,(show b1 dM [_] S=_ from a),hc⟩)
end
section
variable{P:c0}{w:c6}{A:c5}{E:cX->cY->Prop}{b:Bool}
end
section
variable{X:Cx}
end
section
variable{prog:c0}{w:c6}{A:c5}{E:cX->cY->Prop}{s:cY}
def t9 {l:cZ}{vs:List cX}{Q:List cX->cY->Prop}(c:s.heap.IsTuple l vs.toArray)
  (h:Q vs {s with heap:=(s.heap.push (seqObj "list" #[] 0)).update s.heap.objs.size (Obj.mapSeq (· ++ vs.toArray))}) (hsz:vs.length<=c9:=by size_fits):
  da (model prog w) A (collect (.ref l)) Q E s:=by
 obtain⟨o,e,hc,n,d⟩:=id c;unfold collect;refine wB1 (wpAny_runValue (wD1 entry_proto_collect' ?_));show da _ _ (do again (.builtin "list.__iadd__" ⟨[<- newList [],.ref l],[]⟩)) _ _ s;refine wB1 (wpAny_newList (wP1 ⟨Code.quiet_builtin _ (by decide+kernel),wD1 entry_list_iadd' ?_⟩));show da _ _ (Builtin.List.listExtendWith (.ref s.heap.objs.size) (.ref l) (.ref s.heap.objs.size)) _ _ {s with heap:=s.heap.push (seqObj "list" #[] 0)};unfold Builtin.List.listExtendWith;have a:(s.heap.push (seqObj "list" #[] 0)).get? l=wq o:=hP1 _ e;refine wB1 (wpAny_typeOf (T:="tuple") ⟨o,a,hc⟩ ?_);have b:(Value.type "tuple" == Value.type "tuple")=ai:=by rfl
 rw [if_pos (by rw [b];simp)];refine wB1 (listItems_at a d ?_);refine wB1 (listItems_at (xs:= #[]) (n:=0) (hS1 _ rfl) rfl ?_);rw [if_neg (by simp)];refine wB1 (listUpdate_at (xs:= #[]) (n:=0) (hS1 _ rfl) rfl ?_ (aZ _) (by show (#[]++vs.toArray).size<=c9+1;simp only [Array.size_append,sT1,aV];omega));refine wP1 ?_;show da (model prog w) A (do
   let o<-load s.heap.objs.size
   match o.data with
   | .seq xs _=>pure xs.toList
   |_=>unsupported "internal:collect") Q E {s with heap:=(s.heap.push (seqObj "list" #[] 0)).update s.heap.objs.size (Obj.mapSeq (· ++ vs.toArray))}
 refine wB1 (wpAny_load (get?_update_seq (hS1 _ ag) _) ?_);show da _ _ (pure ((#[]:Array cX)++vs.toArray).toList) Q E _;rw[show((#[]:Array cX)++vs.toArray).toList=vs by simp];exact wP1 h
def nA {l:cZ}{vs:List cX}{Q:cX->cY->Prop}(c:s.heap.IsList l vs.toArray\/s.heap.IsTuple l vs.toArray)(i:vs.length<64)
  (h:∀P:PySem.Fin->cY->Prop,(∀a:Array cX,Q (.ref (s.heap.objs.size+1)) {s with heap:=sortedAll s.heap vs a}->P (.done (.ret .none)) {s with heap:=sortedAll s.heap vs a}) ->
   ∀e (h':db),h'=(((s.heap.push (seqObj "list" #[] 0)).update s.heap.objs.size (Obj.mapSeq (· ++ vs.toArray))).push (seqObj "list" vs.toArray 0))->h'.get? (s.heap.objs.size+1)=wq (seqObj "list" vs.toArray 0) ->
   da (model prog w) A.in1.in1 (Builtin.«list.sort» ⟨[.ref (s.heap.objs.size+1)],[]⟩) P e {s with heap:=h'}):
  da (model prog w) A (call (.builtin "sorted") [.ref l]) Q E s:=by
 refine Calls.call_function_entry kind_sorted plain_sorted entry_sorted (args_sorted1 _) ?_;unfold Builtin.«sorted»;refine wB1 (m:=checkCount "sorted" 1 1 _) (wP1 ?_);have g:∀(e:cX->cY->Prop) (Q:List cX->cY->Prop),Q vs {s with heap:=(s.heap.push (seqObj "list" #[] 0)).update s.heap.objs.size (Obj.mapSeq (· ++ vs.toArray))}->da (model prog w) A.in1 (collect (.ref l)) Q e s:=λe Q f=>by
  rcases c with c|c
  ·exact collect_list c f (by rw[sizeLine_eq];omega)
  ·exact t9 c f (by rw[sizeLine_eq];omega)
 refine wB1 (g _ _ ?_);refine wB1 (wpAny_newList ?_ (by rw[sizeLine_eq];omega));have b:((s.heap.push (seqObj "list" #[] 0)).update s.heap.objs.size (Obj.mapSeq (· ++ vs.toArray))).objs.size=s.heap.objs.size+1:=by
  rw[Heap.size_update,size_push']
 have d:(((s.heap.push (seqObj "list" #[] 0)).update s.heap.objs.size (Obj.mapSeq (· ++ vs.toArray))).push (seqObj "list" vs.toArray 0)).get? (s.heap.objs.size+1)=wq (seqObj "list" vs.toArray 0):=by
  rw[<- b];exact hS1 _ ag
 show da _ _ _ _ _ {s with heap:=((s.heap.push (seqObj "list" #[] 0)).update s.heap.objs.size (Obj.mapSeq (· ++ vs.toArray))).push (seqObj "list" vs.toArray 0)};rw[b];refine wB1 (wpAny_holding (wE1 slot_list_sort ⟨_,d,ag⟩ entry_list_sort (h _ ?_ _ _ ag d) (args_list_sort _)));intro a f;exact⟨_,ag,wP1 ⟨_,ag,f⟩⟩
def tL{vs:List cX}{b:cZ}{o:Obj}(q:s.heap.get? b=wq o):b≠s.heap.objs.size+1/\(((s.heap.push (seqObj "list" #[] 0)).update s.heap.objs.size (Obj.mapSeq (· ++ vs.toArray))).push (seqObj "list" vs.toArray 0)).get? b=wq o:=by
 have a:b<s.heap.objs.size:=hL1 q;have c:((s.heap.push (seqObj "list" #[] 0)).update s.heap.objs.size (Obj.mapSeq (· ++ vs.toArray))).objs.size=s.heap.objs.size+1:=by
  rw[Heap.size_update,size_push']
 refine⟨nN1 (cc a),?_⟩;rw[Heap.get?_push_ne _ _ _ (by rw[c];exact nN1 (cc a)),hU1 _ _ _ _ (nN1 a),Heap.get?_push_ne _ _ _ (nN1 a)];exact q
def GS{a b:cZ}{k l:Int}{t u:Tok}{f zs:List cX}{Q:Bool->cY->Prop}(ha:IsTup s.heap a (Value.int k t::f).toArray)(hb:IsTup s.heap b (Value.int l u::zs).toArray)(c:k≠l)(h:Q (decide (k<l)) s):
  da (model prog w) A (keyLt' (tuples' ai) (.ref a) (.ref b)) Q E s:=by
 rw[rl];obtain⟨o,e,n,_,i⟩:=ha;obtain⟨j,g,m,_,d⟩:=hb;refine wB1 (listItems_at e i (wB1 (listItems_at g d ?_)));rw[bL,bC,bu];refine wB1 (wB1 ?_);dsimp only;refine wB1 (wpAny_eqBool_int ?_);rw[beq_false_of_ne c];simp only[cf,if_true];exact wB1 (oneLt_int (wP1 (wP1 (wP1 h))))
def GT{vs:List cX}{Q:SortKind->cY->Prop}(g:vs≠[])(h:∀ v∈vs,∃ a k t ps,v = .ref a/\IsTup s.heap a (Value.int k t::ps).toArray)(q:Q (tuples' true) s):
  da (model prog w) A (keyKind' vs.toArray) Q E s:=by
 rw[keyKind'_eq,List.mapM_toArray,<- bind_pure_comp];refine wB1 (wB1 (rf (P:=λ_ r=>∃k t,r=wq (Value.int k t)) (λv d=>?_) λrs B i=>wP1 ?_))
 ·obtain⟨a,k,t,ps,rfl,⟨o,l,C,_,F⟩⟩:=h v d;refine⟨wq (.int k t),⟨k,t,ag⟩,λQ q=>?_⟩;rw[A2];refine wB1 (wpAny_typeOf (T:="tuple") ⟨o,l,C⟩ ?_);rw[if_neg (by decide)];refine wB1 (listItems_at l F (wP1 ?_));simpa using q
 ·have y:rs.toArray.all (·.isSome)=true:=by
   rw[List.all_toArray,bq];intro r j;obtain⟨v,_,k,t,e⟩:=i r j;rw[e];rfl
  rw[if_pos y];refine wB1 (wpAny_rule ?_);rw[oneTypeOnly'_eq];have p:rs.toArray.filterMap id=(rs.filterMap id).toArray:=by simp
  rw[p,List.mapM_toArray,<- bind_pure_comp];refine wB1 (wB1 (wB1 (rf (P:=λ_ t=>t=Value.type "int") (λv d=>?_) λc b n=>wP1 ?_)))
  ·obtain⟨r,j,e⟩:=aE.mp d;obtain⟨G,_,k,t,D⟩:=i r j;rw[D]at e;cases e;exact⟨_,ag,λQ q=>wpAny_typeOf (T:="int") (typeIs_int s k t) q⟩
  ·cases c with
   |nil=>
    exfalso;cases rs with
    |nil=>exact g (List.length_eq_zero_iff.mp B.symm)
    |cons r rs=>
     obtain⟨_,_,k,t,e⟩:=i r mS1;rw[e]at b;simp at b
   |cons t c=>
    have all:∀x∈t::c,x=Value.type "int":=λx f=>by obtain⟨_,_,z⟩:=n x f;exact z
    have m:=all t mS1;subst m;have u:((Value.type "int"::c).toArray.all λx=>x == Value.type "int")=ai:=by
     rw[List.all_toArray,bq];intro x f;rw[all x f];rfl
    show da _ _ (pure (if((Value.type "int"::c).toArray.all λx=>x == Value.type "int")=ai then wq (Value.type "int")else aj)) _ _ _;rw[if_pos u];exact wP1 (wP1 q)
end
def iY:D->Option Int
 | .tup (.int k::_)=>wq k
 |_=>aj
def mr:List D->Bool
 |[]=>ai
 |x::l=>(match iY x with
  |some a=>l.all λy=>match iY y with
   |some b=>decide (a<b)
   |none=>ah
  |none=>ah)&&mr l
def sL:∀{l:List D} {i:Nat} {x:D},mr l=ai->l[i]?=wq x -> ∃k,iY x=wq k
 |[],i,x,_,h=>by simp at h
 |y::l,0,x,h,e=>by
  cases e;rw[mr,bA1]at h;cases hy:iY y with
  |some k=>exact⟨k,ag⟩
  |none=>rw[hy]at h;cases h.1
 |y::l,i+1,x,h,e=>by
  rw[mr,bA1]at h;exact sL h.2 (by simpa using e)
def k0:∀{l:List D} {i j:Nat} {x y:D} {a b:Int},mr l=ai->l[i]?=wq x->l[j]?=wq y->i<j->iY x=wq a->iY y=wq b->a<b
 |[],i,j,x,y,_,_,_,h,_,_,_,_=>by simp at h
 |z::l,0,0,_,_,_,_,_,_,_,h,_,_=>by omega
 |z::l,0,j+1,x,y,a,b,h,e1,e2,_,f1,f2=>by
  cases e1;rw[mr,bA1,f1]at h;have:=bq.mp h.1 y (gM1 (by simpa using e2));rw[f2]at this;exact of_decide_eq_true this
 |z::l,i+1,0,_,_,_,_,_,_,_,h,_,_=>by omega
 |z::l,i+1,j+1,x,y,a,b,h,e1,e2,hij,f1,f2=>by
  rw[mr,bA1]at h;exact k0 h.2 (by simpa using e1) (by simpa using e2) (by omega) f1 f2
def jE:G1:=λd S=>match dG S d with
 |some (ai,xs)=>match mE xs with
  |some ns=>if ns.length<64 then wq (.ref S.length,S++[.lst ((i7 ns).map D.int)])else aj
  |none=>if(mr xs&&decide (xs.length<64))=ai then wq (.ref S.length,S++[.lst xs])else aj
 |some (ah,xs)=>(mE xs).bind λns=>if ns.length<64 then wq (.ref S.length,S++[.lst ((i7 ns).map D.int)])else aj
 |none=>aj
section
variable{X:Cx}{pins:List (cZ×Obj)}{σ:L2.St}{H:Hp}{s:cY}{mu:List cZ}
def Fp(I:Inv X pins σ H s):∀{ds:List D} {vs:List V} {its:List cX} {i:Nat} {d:D} {k:Int},dB X.K H mu ds vs->dQ vs its->ds[i]?=wq d->iY d=wq k -> ∃b t ps,its[i]?=wq (.ref b)/\IsTup s.heap b (Value.int k t::ps).toArray:=by
 intro ds
 induction ds with
 |nil=>intro vs its i d k _ _ h;simp at h
 |cons x ds ih=>
  intro vs its i d k t c h a;cases t with
  |cons f t=>
   cases c with
   |cons g n=>
    cases i with
    |zero=>
     have:x=d:=by simpa using h
     subst this;unfold iY at a;split at a
     ·rename_i o rest;cases a;cases f with
      |tup q m=>
       obtain⟨is,l,it,_⟩:=I.tuple q;cases m with
       |cons rk p=>
        cases rk;cases l with
        |cons j _=>
         obtain⟨tk,rfl⟩:=j;cases g;exact⟨_,tk,_,ag,it⟩
     ·cases a
    |succ i=>
     obtain⟨b,tk,ps,e,h⟩:=ih t n (by simpa using h) a;exact⟨b,tk,ps,by simpa using e,h⟩
end
section
variable{X:Cx}
def DY:eg X (.builtin "sorted") (rN X.K (b1 jE)):=by
 intro pins s σ H xs us Q I r h;obtain⟨x,mu,S,d,r',S',rfl,r1,B,f,hc⟩:=v9 h;unfold jE at f;split at f
 ·rename_i ds en;obtain⟨a,vs,rfl,q,t⟩:=dA r1 B en;obtain⟨u,rfl,r2⟩:=gX r;cases r2;obtain⟨its,p,Y,hz⟩:=I.list q;split at f
  ·rename_i ns w;split at f
   ·rename_i hl;cases f;have hI:=pH t p w;have A:its.length=ns.length:=by rw[<- p.length,<- t.length,pK w]
    refine sorted_ints Y.isList hI (by lia) λout F C hp K=>?_;have G:F=i7 ns:=qu (hp.trans (gm ns).symm) K (nB ns);subst G;obtain⟨ep,g⟩:=sortedAll_at s.heap its out;have c:=I.hok.fresh (aQ s.heap.objs.size);refine⟨.ref (s.heap.objs.size+1),_,I.laid (t':=s.toks) (o:=.lst ((i7 ns).map V.int)) (λb ob q=>sortedAll_old q) (aQ _) ?_,ag,hc _ _ (mu++[_]) (Ext.new_ c) (.ref (gp B.len _)) (B.newL (jS _) c)⟩;refine⟨?_,out.toList,ep,pI C,by rw[ca];exact g⟩;rw[lM1,(gm ns).length_eq,sizeLine_eq];lia
   ·cases f
  ·split at f
   ·rename_i n;cases f;rw[bA1,decide_eq_true_eq]at n;obtain⟨hr,hl⟩:=n;have A:its.length=ds.length:=by rw[<- p.length,<- t.length]
    have m:∀(i:Nat) (v:cX),its[i]?=wq v -> ∃b d k t ps,v = .ref b/\ds[i]?=wq d/\iY d=wq k/\IsTup s.heap b (Value.int k t::ps).toArray:=λi v hv=>by
     have hi:=(gE1.mp hv).1;have hd:ds[i]?=wq ds[i]:=gG1 (by omega);obtain⟨k,U⟩:=sL hr hd;obtain⟨b,tk,ps,e,it⟩:=Fp I t p hd U;rw[hv]at e;cases e;exact⟨b,_,k,tk,ps,ag,hd,U,it⟩
    have uq:∀{b:cZ} {k l:Int} {t u:Tok} {ps qs:List cX},IsTup s.heap b (Value.int k t::ps).toArray->IsTup s.heap b (Value.int l u::qs).toArray->k=l:=λh1 h2=>by
     obtain⟨o,w,_,_,Z⟩:=h1;obtain⟨o2,e2,_,_,L⟩:=h2;rw[w]at e2;cases e2;rw[Z]at L;injection L with L _;have:=congrArg Array.toList L;injection this with h1 _;injection h1
    refine nA (.inl Y.isList) (by omega) λP hP E' h' eh J=>?_;refine Cb (s:={s with heap:=h'}) (κ:=tuples' ai) (ws:=its) J (by omega) (List.Perm.refl _) (λN k2 h2=>?_) ?_
    ·have keep:∀ b o,s.heap.get? b=some o->N.get? b=some o:=fun b o e=>by
      have:=tL (vs:=its) e;rw[<- eh]at this;exact k2 b o this.1 this.2
     have kt:∀{b:cZ} {xs:Array cX},IsTup s.heap b xs->IsTup N b xs:=λh=>h.keeps keep;refine⟨⟨?_,?_,?_⟩,λQ q=>?_⟩
     ·refine List.pairwise_iff_getElem.mpr λi j hi hj M e=>?_;obtain⟨b,Z,W,t1,D,w,O,T,R⟩:=m i _ (gG1 hi);obtain⟨b2,L,k3,t2,ps2,e2,f2,g2,i2⟩:=m j _ (gG1 hj);rw[w,e2]at e;cases e;have:=k0 hr O f2 M T g2;have:=uq R i2;omega
     ·rw[pairsOf_toList];have:(its.zip its).map (·.1)=its:=List.map_fst_zip (nR1 _);rw[this]
     ·intro x y i j hx hy M E Q q;obtain ⟨b,Z,W,t1,D,rfl,O,T,R⟩:=m i _ hx;obtain ⟨b2,L,k3,t2,ps2,rfl,f2,g2,i2⟩:=m j _ hy;have U:W≠k3/\decide (W<k3)=decide (i<j):=by
       by_cases z:i<j
       ·have:=k0 hr O f2 z T g2;exact⟨by omega,by rw[decide_eq_true z,decide_eq_true this]⟩
       ·have:=k0 hr f2 O (by omega) g2 T;exact⟨by omega,by rw[decide_eq_false z,decide_eq_false (by omega)]⟩
      exact GS (kt R) (kt i2) U.1 (by rw[U.2];exact q)
     ·refine GT (λz=>by rw[z]at h2;simp at h2) (λv hv=>?_) q;obtain⟨i,hi⟩:=bh hv;obtain⟨b,Z,W,t1,D,rfl,O,T,R⟩:=m i _ hi;exact⟨b,W,t1,D,ag,kt R⟩
    ·have e0:sortedHeap h' (s.heap.objs.size+1) its its.toArray=sortedAll s.heap its its.toArray:=by rw[eh];rfl
     show P _ {s with heap:=sortedHeap h' (s.heap.objs.size+1) its its.toArray};rw[e0];refine hP its.toArray ?_;obtain⟨ep,g⟩:=sortedAll_at s.heap its its.toArray;have c:=I.hok.fresh (aQ s.heap.objs.size);refine⟨.ref (s.heap.objs.size+1),_,I.laid (t':=s.toks) (o:=.lst vs) (λb ob q=>sortedAll_old q) (aQ _) ?_,ag,hc _ _ (mu++[_]) (Ext.new_ c) (.ref (gp B.len _)) (B.newL t c)⟩;refine⟨?_,its,ep,p,g⟩;rw[p.length,sizeLine_eq];lia
   ·cases f
 ·rename_i ds en;obtain⟨ns,w,f⟩:=oB1.mp f;split at f
  ·rename_i hl;cases f;obtain⟨a,vs,rfl,q,t⟩:=dA r1 B en;obtain⟨u,rfl,r2⟩:=gX r;cases r2;obtain⟨its,p,Y,hz⟩:=I.tuple q;have hI:=pH t p w;have A:its.length=ns.length:=by rw[<- p.length,<- t.length,pK w]
   refine nA (.inr Y) (by omega) λP hP E' h' eh J=>?_;refine list_sort_tree (s:={s with heap:=h'}) J hI (by omega) λout F C hp K=>?_;have e0:sortedHeap h' (s.heap.objs.size+1) its out=sortedAll s.heap its out:=by rw[eh];rfl
   show P _ {s with heap:=sortedHeap h' (s.heap.objs.size+1) its out};rw[e0];refine hP out ?_;have G:F=i7 ns:=qu (hp.trans (gm ns).symm) K (nB ns);subst G;obtain⟨ep,g⟩:=sortedAll_at s.heap its out;have c:=I.hok.fresh (aQ s.heap.objs.size);refine⟨.ref (s.heap.objs.size+1),_,I.laid (t':=s.toks) (o:=.lst ((i7 ns).map V.int)) (λb ob q=>sortedAll_old q) (aQ _) ?_,ag,hc _ _ (mu++[_]) (Ext.new_ c) (.ref (gp B.len _)) (B.newL (jS _) c)⟩;refine⟨?_,out.toList,ep,pI C,by rw[ca];exact g⟩;rw[lM1,(gm ns).length_eq,sizeLine_eq];lia
  ·cases f
 ·cases f
end
def JH{K:Fg1}{x:Str}{f:cZ}(h:wN1 K c7 x=wq (wq (.ref f))):CV K (.fn x) (.ref f):=⟨.ref f,ag,λ_ _=>.fn h⟩
section
variable{X:Cx}{f:cZ}{fd:de}{ps:List Str}{k n:Nat}{sp:Sp}{dvs:List V}{ds:List cX}{CX:yv}{E:XK}{t:TA}{e:Expr}{es:List Expr}{p pos:Pos}{i:Nat}{v x:Str}
def zR (hN:X.N[i]? = some v)(hv:D9 X.env.scope v)(F:jM X.prog X.w X.K X.mg X.base CX k f fd ps sp)(hr:fC k X.A)(hm:X.mg x=some (.ref f))(hk:wK1 X.K (.ref f)=true)(hb:jf X.K fd ps ds)(hd:dQ dvs ds)(hx:sr CX X E)
  (ha:PA X (e::es) t) (hdb:(v == ("__debug__":Str))=ah:=by decide) (hcd:(v == ("__classdict__":Str))=ah:=by decide) (he:c8 (e::es) X.env=(ah,eval e X.env)::c8 es X.env:=by rfl) (hpl:(backTo pos (c8 es X.env)).any (·.1)=ah:=by rfl):
  PE X (.Call (.Name v p) (e::es) [] pos) (fun σ H Q=>(∃a,σ[i]?=wq (wq (.ref a))/\wN1 X.K c7 x=wq (wq (.ref a)))/\Ej sp dvs E t σ H Q):=by
 rintro pins s σ H Q I ⟨⟨a,o,j⟩,h⟩;have g:=wM1 I.ok.mod.kin I.ok.mod.glob j;rw[hm]at g;cases g;obtain⟨m,w,y⟩:=I.loc;obtain⟨u,r,l⟩:=y i v _ hN o hv;cases r;have d:da (model X.prog X.w) X.A (callWith pos (.ref f) [] (backTo pos (c8 (e::es) X.env)) (backToKw pos (keywordEach [] X.env))) (EP X pins σ Q) X.xe s:=by
  refine PySem.W.callWith_K (h₀:=X.base) I.ok.mod.kin hk (eR (ha pos pins s σ H _ I h) λA z ⟨vs,H1,n,r,q⟩=>⟨n.kIn,?_⟩) he hpl;exact zw F hr hb hd hx n r q
 refine wpAny_Call_Name_kw ?_;rcases l with⟨hk,hm⟩|⟨hk,c,hc,b⟩
 ·exact wpAny_Name (wpAny_loadName_local I.ok.kind hk w hm d) hdb
 ·rcases hk with hk|hk
  ·exact wpAny_Name (wpAny_loadName_cell I.ok.kind hk hc b d) hdb
  ·exact wpAny_Name (wpAny_loadName_free I.ok.kind hk hc b d hcd) hdb
def tG(i:Nat)(x:Str)(g:FN)(a:FA):FE:=λr S=>match r[i]? with
 |some (wq (.fn y))=>if y=x then mN g a r S else aj
 |_=>aj
def Ar {m:FN}{a:FA}{k':Nat}(i:Nat)(h:Own X.prog X.w X.K X.mg X.base k x n m)(hr:fC k' X.A)(hk:k<=k')(hN:X.N[i]? = some v)(hv:D9 X.env.scope v)(ha:MA X (e::es) a)(hdb:(v == ("__debug__":Str))=false:=by decide)(hcd:(v == ("__classdict__":Str))=false:=by decide)
  (he:c8 (e::es) X.env=(ah,eval e X.env)::c8 es X.env:=by rfl) (hpl:(backTo pos (c8 es X.env)).any (·.1)=ah:=by rfl):ME X (.Call (.Name v p) (e::es) [] pos) (tG i x (dm n m) a):=by
 obtain⟨f,fd,ps,F,b,N,o⟩:=h;refine ee (zR (E:=E0) hN hv F (hr.mono hk) o N b .nil Ep ha hdb hcd he hpl) fun σ H Q h=>?_;obtain⟨r,mu,S,d,u,he,j,c,hc⟩:=h;unfold tG at c;split at c
 ·rename_i y O;split at c
  ·rename_i J;subst J;obtain⟨P,M,I⟩:=he.val i _ O;cases I with
   |fn l=>
    refine⟨⟨_,M,l⟩,?_⟩;obtain⟨r,mu,S,ds,u,he,j,c,hc⟩:=wu (K:=X.K) (f:=dm n m) ⟨r,mu,S,d,u,he,j,c,hc⟩;refine⟨r,mu,S,ds,u,he,j,c,λvs H' mu' z C D=>?_⟩;have q:=hc vs H' mu' z C D;show spM X.K n m (vs++[]) H' Q E0;rw[aF];obtain⟨s,L,t,G,B,h1,h2,g,w⟩:=q;unfold dm at g;split at g
    ·rename_i A;exact⟨by rw[<- h1.length];exact A,uh ⟨s,L,t,G,B,h1,h2,g,w⟩⟩
    ·cases g
  ·cases c
 ·cases c
def pf {m:FN}{a:FA}{k':Nat}(i:Nat)(h:Own X.prog X.w X.K X.mg X.base k x n m)(hr:fC k' X.A)(hk:k<=k')(hN:X.N[i]? = some v)(hv:D9 X.env.scope v)(ha:XA X (e::es) a)(hdb:(v == ("__debug__":Str))=false:=by decide)(hcd:(v == ("__classdict__":Str))=false:=by decide)
  (he:c8 (e::es) X.env=(ah,eval e X.env)::c8 es X.env:=by rfl) (hpl:(backTo pos (c8 es X.env)).any (·.1)=ah:=by rfl):XE X (.Call (.Name v p) (e::es) [] pos) (tG i x (dm n m) a):=⟨Ar i h hr hk hN hv ha.h hdb hcd he hpl⟩
end
section
variable{prog:c0}{w:c6}{K:Type} [DecidableEq K] {knd:HeapKind prog w K}{A:c5}{E:cX->cY->Prop}{s:cY}
def u3{d:cZ}(hd:(d == sysModules)=false):
  MeetsIn prog w (Builtin.«dict.__len__» ⟨[.ref d],[]⟩) (λ_ R s=>∃xs,s.heap.DictOfH knd d xs/\R (.ok (.ret (.int xs.length s.toks))) {s with toks:=s.toks+1}):=
 .of_wp λA R s ⟨xs,b,h⟩=>by
  obtain⟨o,es,ep,c,hc,a,e,_⟩:=b;show da _ _ (dictSize d >>= _) _ _ s;unfold dictSize;refine wB1 (wB1 (wpAny_dictEntries c a (wP1 ?_)));show da _ _ (Builtin.Dict.pendingCount d >>= _) _ _ s;refine wB1 (wpAny_pendingCount_other hd ?_);refine wpAny_ret_mkInt ?_;rw[Nat.add_zero,size_of_entries e];exact h
def yp{d:cZ}{xs:List (K×cZ×cX)}{Q:cX->cY->Prop}(hd:(d == sysModules)=ah)(hm:s.heap.DictOfH knd d xs)(a:(xs.length:Int)<2^63)(h:Q (.int xs.length (s.toks+1)) {s with toks:=s.toks+1+1}):da (model prog w) A (call (.builtin "len") [.ref d]) Q E s:=by
 refine Calls.call_function_entry kind_len plain_len entry_len (args_len1 _) ?_;unfold Builtin.«len»;refine wB1 (m:=oneArg "len" _) (wP1 ?_);refine wB1 (m:=callSpecial? (.ref d) (Str.ofString "__len__")) (wpAny_callSpecial?_slot (name:=Str.ofString "__len__") hm.typeIs F.slot_dict_len
  (call_meetsIn F.slot_dict_len hm.typeIs F.entry_dict_len (F.args_dict_len_1 _) (u3 (knd:=knd) hd) ⟨xs,hm,?_⟩))
 show da _ _ _ _ _ {s with toks:=s.toks+1};refine wB1 (wpAny_holding (wP1 ?_));refine wB1 (wpAny_letGo ?_);show da _ _ (if((xs.length:Nat):Int)<0 then _ else _) _ _ _;rw[if_neg (by omega)];show da _ _ (if((xs.length:Nat):Int)>=2^63 then _ else _) _ _ _;rw[if_neg (by omega)];exact wB1 (wpAny_mkInt (wP1 ⟨_,ag,h⟩))
end
section
variable{X:Cx}
def pL:G1:=λd S=>match d with
 | .ref n=>match S[n]? with
  |some (.dcT kvs)=>wq (.int kvs.length,S)
  |_=>ol d S
 |_=>ol d S
def Hs:eg X (.builtin "len") (rN X.K (b1 pL)):=by
 intro pins s σ H xs g Q I r h;obtain⟨x,mu,S,d,i,k,f,c,b,a,hc⟩:=v9 h;have back:ol d S=wq (i,k)->da (model X.prog X.w) X.A (call (.builtin "len") g) (EP X pins σ Q) X.xe s:=λa=>Ht pins s σ H xs g Q I r (by subst f;exact⟨mu,S,[d],i,k,.cons c .nil,b,(show b1 ol [d] S=_ from a),hc⟩);unfold pL at a;split at a
 ·rename_i n;split at a
  ·rename_i ys e;cases a;subst f;cases c with
   |ref m=>
    obtain⟨ws,o,j,p⟩:=b.dcT e m;obtain⟨q,t⟩:=t5 I o j;cases r with
    |cons l rt=>
     cases rt;cases l;refine yp q t (by rw[sizeLine_eq]at p;lia) ?_;refine⟨.int ws.length,H,I.tok _,⟨_,ag⟩,?_⟩;rw[<- j.length];exact hc.now (.int _) b
  ·exact back a
 ·exact back a
def jY:G2:=λd e S=>match e with
 | .ref n=>match S[n]? with
  |some (.dct [])=>match iI d with
   |some _=>wq (.bl ai,S)
   |none=>fu d e S
  |_=>fu d e S
 |_=>fu d e S
def z0(m:X.A.units+64<cLine):fZ X (compareOp .NotIn) (r2 X.K (b2 jY)):=by
 intro pins s σ H x y u w Q I l o h;obtain⟨mu,S,d,e,r,p,j,c,f,a,hc⟩:=uv h;have back:fu d e S=wq (r,p)->da (model X.prog X.w) X.A (compareOp .NotIn u w) (EP X pins σ Q) X.xe s:=λa=>nW m pins s σ H x y u w Q I l o ⟨mu,S,[d,e],r,p,.cons j (.cons c .nil),f,a,hc⟩;unfold jY at a;split at a
 ·rename_i n;split at a
  ·rename_i A;split at a
   ·rename_i k t;cases a;cases c with
    |ref q=>
     cases o;obtain⟨ws,C,B⟩:=f.dct A q;cases B;obtain⟨z,v,vs,g,D⟩:=wU I.hok C;cases g;obtain⟨b,rfl,rfl,rk,E,hi⟩:=lY I j l t;have i:s.heap.DictOfH (iQ X.prog X.w) _ []:=tZ D;refine wpAny_notIn_heap (jR m) hi v i ?_;exact⟨.bl ai,H,I.tok _,ag,hc.now (.bl _) f⟩
   ·exact back a
  ·exact back a
 ·exact back a
end
def Fo(m i:Nat):SetTable.runEnd m i-i<=9:=by unfold SetTable.runEnd;split<;>lia
def zv(m i:Nat):i<=SetTable.runEnd m i:=by unfold SetTable.runEnd;split<;>lia
def Iu{m i:Nat}(h:i<=m):SetTable.runEnd m i<=m:=by unfold SetTable.runEnd;split<;>lia
def wA(m i b:Nat):(SetTable.leap m i b).1<=m:=by
 unfold SetTable.leap;have:=Nat.mod_lt (i*5+1+b/32) (bF m);dsimp only;lia
def sS(m:Nat):∀n i b:Nat,(fX m n i b).length<=10*n
 |0,_,_=>by simp[fX]
 |n+1,i,b=>by
  rw[fX,lA1,List.length_range'];have:=sS m n (SetTable.leap m i b).1 (SetTable.leap m i b).2;have:=Fo m i;lia
def wd(m:Nat):∀n i b:Nat,i<=m -> ∀x∈fX m n i b,x<=m
 |0,_,_,_,x,h=>by simp[fX]at h
 |n+1,i,b,hi,x,h=>by
  rw[fX,ay]at h;rcases h with h|h
  ·rw[List.mem_range'_1]at h;have:=Iu hi;have:=zv m i
   lia
  ·exact wd m n _ _ (wA m i b) x h
def Ch(m:Nat):Nat->Nat->Nat->Nat×Nat
 |0,i,b=>(i,b)
 |n+1,i,b=>Ch m n (SetTable.leap m i b).1 (SetTable.leap m i b).2
def AD(m:Nat):∀n i b:Nat,(Ch m n i b).2=b/32^n
 |0,i,b=>by simp[Ch]
 |n+1,i,b=>by
  rw[Ch,AD m n];show b/32/32^n=_;rw[Nat.div_div_eq_div_mul,Nat.pow_succ,Nat.mul_comm]
def AE(m:Nat):∀n i b:Nat,i<=m->(Ch m n i b).1<=m
 |0,i,b,h=>h
 |n+1,i,b,h=>by rw[Ch];exact AE m n _ _ (wA m i b)
def pu(m:Nat):∀n k i b x:Nat,x∈fX m k (Ch m n i b).1 (Ch m n i b).2->x∈fX m (n+k) i b
 |0,k,i,b,x,h=>by rw[bG];exact h
 |n+1,k,i,b,x,h=>by
  rw[Ch]at h;rw[show n+1+k=(n+k)+1 by lia,fX];exact mA1 _ (pu m n k _ _ x h)
def vZ(m:Nat):Nat->Nat->Nat
 |0,i=>i
 |n+1,i=>vZ m n ((i*5+1)%(m+1))
def zu(m:Nat):Nat->Nat->List Nat
 |0,_=>[]
 |k+1,i=>i::zu m k ((i*5+1)%(m+1))
def wE{m j:Nat}:∀{k i:Nat},j∈zu m k i -> ∃n,n<k/\vZ m n i=j
 |0,i,h=>by simp[zu]at h
 |k+1,i,h=>by
  rw[zu,aw]at h;rcases h with h|h
  ·exact⟨0,bF k,h.symm⟩
  ·obtain⟨n,a,e⟩:=wE h;exact⟨n+1,Nat.succ_lt_succ a,e⟩
def rp(m:Nat):∀a b i:Nat,vZ m (a+b) i=vZ m b (vZ m a i)
 |0,b,i=>by rw[bG];rfl
 |a+1,b,i=>by rw[show a+1+b=(a+b)+1 by lia,vZ,vZ,rp m a b]
def ro(m:Nat):∀n k i:Nat,n<k->vZ m n i∈fX m k i 0
 |0,k+1,i,_=>by rw[vZ,fX];exact az _ (List.mem_range'_1.mpr ⟨nR1 _,by lia⟩)
 |n+1,k+1,i,h=>by
  rw[vZ,fX];refine mA1 _ ?_;have e:SetTable.leap m i 0=((i*5+1)%(m+1),0):=rfl;rw[e];exact ro m n k _ (Nat.lt_of_succ_lt_succ h)
def Is(m:Nat):Bool:=((List.range (m+1)).all λj=>(zu m (m+1) 0).contains j)&&vZ m (m+1) 0 == 0
def xA.orb{m:Nat}(h:xA m):Is m=ai:=by
 rcases h with rfl|rfl|rfl
 ·decide+kernel
 ·decide+kernel
 ·decide+kernel
def xA.full{m:Nat}(h:xA m){i j:Nat}(hi:i<=m)(g:j<=m):j∈fX m (m+2) i 0:=by
 have f:=h.orb;unfold Is at f;rw[bA1,bq,beq_iff_eq]at f;have at_:∀x,x<=m -> ∃n,n<m+1/\vZ m n 0=x:=λx d=>wE (by simpa using f.1 x (ar.mpr (Nat.lt_succ_of_le d)));obtain⟨a,l,c⟩:=at_ i hi;obtain⟨b,k,eb⟩:=at_ j g;rcases bM b a with z|z
 ·have e:vZ m (b+(m+1)-a) i=j:=by
   rw[<- c,<- rp,show a+(b+(m+1)-a)=(m+1)+b by lia,rp,f.2,eb]
  rw[<- e];exact ro m _ _ i (by lia)
 ·have e:vZ m (b-a) i=j:=by rw[<- c,<- rp,show a+(b-a)=b by lia,eb]
  rw[<- e];exact ro m _ _ i (by lia)
def D0(h:Int):SetTable.bits h<2^64:=by
 unfold SetTable.bits;have h1:=Int.emod_nonneg h (show(2^64:Int)≠0 by decide);have h2:=Int.emod_lt_of_pos h (show(0:Int)<2^64 by decide);have:((h%(2^64:Int)).toNat:Int)<2^64:=by rw[Int.toNat_of_nonneg h1];exact h2
 exact_mod_cast this
def vM{m:Nat}(hm:xA m)(h:Int){j:Nat}(a:j<=m):j∈mQ m h:=by
 unfold mQ SetTable.turns;rw[show m+15=13+(m+2) by lia];apply pu;rw[AD,Nat.div_eq_of_lt (aY (D0 h) (by decide))];have hi:=AE m 13 (SetTable.bits h%(m+1)) (SetTable.bits h) (by have:=Nat.mod_lt (SetTable.bits h) (bF m);lia);exact hm.full hi a
def vL(m:Nat)(h:Int):(mQ m h).length<=10*SetTable.turns m:=sS _ _ _ _
def yM{m:Nat}(h:Int):∀x∈mQ m h,x<=m:=wd _ _ _ _ (by have:=Nat.mod_lt (SetTable.bits h) (bF m);lia)
def KH(m:Nat)(p:SetTable.Probe):SetTable.Probe:=SetTable.advance {SetTable.fresh 0 0 ai with mask:=m} p
def jp(m:Nat):SetTable.Probe->List Nat->Prop
 |_,[]=>True
 |p,x::L=>p.j=x/\p.dummy=aj/\jp m (KH m p) L
def nw(m i b:Nat)(L:List Nat)(h:jp m {j:=(SetTable.leap m i b).1,more:=SetTable.runEnd m (SetTable.leap m i b).1-(SetTable.leap m i b).1,i:=(SetTable.leap m i b).1,perturb:=(SetTable.leap m i b).2,dummy:=none} L):
  ∀more j:Nat,jp m {j,more,i,perturb:=b,dummy:=aj} (bb j (more+1)++L)
 |0,j=>by
  refine⟨ag,ag,?_⟩;exact h
 |more+1,j=>by
  rw[List.range'_succ];refine⟨ag,ag,?_⟩;exact nw m i b L h more (j+1)
def nv(m:Nat):∀n i b:Nat,jp m {j:=i,more:=SetTable.runEnd m i-i,i,perturb:=b,dummy:=aj} (fX m n i b)
 |0,_,_=>trivial
 |n+1,i,b=>by
  rw[fX];exact nw m i b _ (nv m n _ _) _ _
def xp(t:SetTable)(h:Int):jp t.mask (t.probeStart h) (mQ t.mask h):=nv _ _ _ _
def oF{xs:Array Nat}(hr:vy xs){j:Nat}(d:j∈xs.toList):xs[SetTable.below xs j]?=wq j:=by
 have b:=uj hr j;obtain⟨k,a⟩:=bh d;rw[aT1]at a;have c:¬ k<SetTable.below xs j:=λz=>by have:=b.lo _ _ a z;lia
 have f:SetTable.below xs j<xs.size:=by have:=(Array.getElem?_eq_some_iff.mp a).1;lia
 have e:=aG1 f;have h1:=b.hi _ _ e (nR1 _);rcases bM (SetTable.below xs j) k with z|z
 ·have:=hr.lt z e a;lia
 ·have:k=SetTable.below xs j:=by lia
  rw[<- this];exact a
def ql{t:SetTable}(hr:vy t.place){j:Nat}(a:j∈t.place.toList):t.slot j = .live (SetTable.below t.place j):=by
 unfold SetTable.slot;dsimp only;rw[oF hr a];simp
def zn{t:SetTable}(hd:t.dummies = #[]){j:Nat}(a:j∉t.place.toList):t.slot j = .empty:=by
 unfold SetTable.slot;have:(t.place[SetTable.below t.place j]? == wq j)=ah:=by
  rw[beq_eq_false_iff_ne];intro z;rw[<- aT1]at z;exact a (gM1 z)
 dsimp only;rw[this,tu hd];simp
def wJ{t:SetTable}{f:Nat->Int}{h:Int}(hr:vy t.place)(hd:t.dummies = #[]):∀ (L:List Nat) (p:SetTable.Probe) (n:Nat),jp t.mask p L->L.length<=n->(∃ x∈L,x∉t.place.toList) ->
  ∃b x a,L=b++x::a/\(∀y∈b,y∈t.place.toList/\f (SetTable.below t.place y)≠h) /\
   ((x∉t.place.toList/\SetTable.probe.go t f h n p=wq (.empty x aj))\/(∃q,x∈t.place.toList/\f (SetTable.below t.place x)=h/\SetTable.probe.go t f h n p=wq (.candidate x (SetTable.below t.place x) q)/\jp t.mask q a))
 |[],p,n,_,_,d=>by obtain⟨x,d,_⟩:=d;cases d
 |x::L,p,0,_,hl,_=>by simp at hl
 |x :: L,p,n+1,j,hl,d=>by
  obtain⟨rfl,r,j⟩:=j;rw[SetTable.probe.go];by_cases c:p.j∈t.place.toList
  ·rw[ql hr c];dsimp only;by_cases i:f (SetTable.below t.place p.j)=h
   ·refine⟨[],p.j,L,ag,(λy g=>by cases g),.inr ⟨t.advance p,c,i,?_,j⟩⟩;rw[i];simp
   ·have m:(f (SetTable.below t.place p.j) == h)=false:=beq_eq_false_iff_ne.mpr i;rw [m];obtain ⟨y,g,l⟩:=d;have k:∃ x∈L,x∉t.place.toList:=by
     rcases aw.mp g with e|e
     ·subst e;exact absurd c l
     ·exact⟨y,e,l⟩
    obtain⟨b,x,a,e,h1,h2⟩:=wJ hr hd L (t.advance p) n j (by simpa using hl) k;refine⟨p.j::b,x,a,by rw[e];rfl,λz o=>?_,?_⟩
    ·rcases aw.mp o with e|e
     ·subst e;exact⟨c,i⟩
     ·exact h1 z e
    ·simpa using h2
  ·rw[zn hd c];refine⟨[],p.j,L,ag,(λy g=>by cases g),.inl ⟨c,?_⟩⟩;rw[r]
def wz{α:Type}[DecidableEq α]:∀(l l':List α),l.Nodup->(∀x∈l,x∈l')->l.length<=l'.length
 |[],_,_,_=>aZ _
 |x::l,l',hn,hs=>by
  obtain⟨h1,h2⟩:=aG.mp hn;have b:x∈l':=hs x (mS1);have:=wz l (l'.erase x) h2 λy c=>by
   have a:y≠x:=λz=>by subst z;exact h1 c
   exact(List.mem_erase_of_ne a).mpr (hs y (mC1 _ c))
  rw[List.length_erase_of_mem b]at this;have:=List.length_pos_of_mem b;rw[lC1];lia
def Ck{m:Nat}(occ:List Nat)(b:occ.length<=m):∃j,j<=m/\j∉occ:=by
 apply Classical.byContradiction;intro z;have:=wz (List.range (m+1)) occ List.nodup_range λx a=>Classical.byContradiction λq=>z ⟨x,by have:=ar.mp a;lia,q⟩;rw[cg]at this;lia
def xz.more{m:Nat}{occ a:List Nat}{h:Int}{j:Nat}(r:xz m occ h j)(k:∀x∈occ,x∈a):xz m a h j:=by
 obtain⟨c,b,e,f⟩:=r;exact⟨c,b,e,λy d=>k y (f y d)⟩
def sTT.fits{es:Array (Int×cX)}{t:SetTable}(h:sTT es t):t.fits es.size=ai:=by
 unfold SetTable.fits SetTable.fill;rw[h.du,h.sz];have:=h.fl;simp;exact this
def BS{α β:Type}(a:Array α)(b:Array β)(p:Nat)(x:α)(y:β)(c:a.size=b.size):(SetTable.insertAt a p x).toList.zip (SetTable.insertAt b p y).toList=(a.toList.zip b.toList).take p++(x,y)::(a.toList.zip b.toList).drop p:=by
 rw[jD,jD,List.zip_append (by rw[aK,aK];simp[c]),bL];rw[show List.take p (a.toList.zip b.toList)=(a.toList.take p).zip (b.toList.take p) by simp only[List.zip_eq_zipWith,List.take_zipWith]];rw[show List.drop p (a.toList.zip b.toList)=(a.toList.drop p).zip (b.toList.drop p) by simp only[List.zip_eq_zipWith,List.drop_zipWith]]
def m9{α:Type}(a:Array α)(p:Nat)(x y:α):y∈(SetTable.insertAt a p x).toList↔y=x\/y∈a.toList:=by
 rw[jD,ay,aw];have:=b7 p a.toList;constructor
 ·rintro(h|h|h)
  ·exact .inr (ci h)
  ·exact .inl h
  ·exact .inr (cj h)
 ·rintro(h|h)
  ·exact .inr (.inl h)
  ·rw[<- this,ay]at h;rcases h with h|h
   ·exact .inl h
   ·exact .inr (.inr h)
def g8{α:Type}(a:Array α)(p:Nat)(x:α):(SetTable.insertAt a p x).size=a.size+1:=by
 rw[<- aB,jD,lA1,lC1,<- ba,<- lA1,b7,aB]
def sTT.put{es:Array (Int×cX)}{t:SetTable}(h:sTT es t){j:Nat}{e:Int×cX}(g:j<=t.mask)(hn:j∉t.place.toList)(hr:xz t.mask t.place.toList e.1 j)(hs:es.size+1<=t.mask):sTT (SetTable.insertAt es (t.put j).2 e) (t.put j).1:=by
 have f:(t.put j).1.mask=t.mask:=rfl;have d:(t.put j).1.place=SetTable.insertAt t.place (SetTable.below t.place j) j:=rfl;refine⟨h.mks,?_,?_,?_,?_,?_,?_⟩
 ·rw[d];exact Cm h.up λz=>hn (by rw[<- aT1]at z;exact gM1 z)
 ·show(if SetTable.has t.dummies j=ai then _ else t.dummies) = #[];rw[tu h.du,if_neg (by decide)];exact h.du
 ·rw[d,g8,g8,h.sz]
 ·intro x c;rw[d,m9]at c;rcases c with rfl|c
  ·exact g
  ·exact h.le x c
 ·rw[g8,f];exact hs
 ·rw[d,f];show∀z∈(SetTable.insertAt t.place (SetTable.below t.place j) j).toList.zip (SetTable.insertAt es (SetTable.below t.place j) e).toList,_;rw[BS _ _ _ _ _ h.sz];have a:∀x∈t.place.toList,x∈(SetTable.insertAt t.place (SetTable.below t.place j) j).toList:=λx c=>(m9 _ _ _ _).mpr (.inr c);intro z b;rw[ay,aw]at b;rcases b with b|rfl|b
  ·exact(h.rc z (ci b)).more a
  ·exact hr.more a
  ·exact(h.rc z (cj b)).more a
def sTT.fresh(l:Bool):sTT #[] (SetTable.fresh 0 0 l):=⟨.inl ag,.nil,ag,ag,(λj h=>by simp[SetTable.fresh]at h),aZ _,λz h=>by simp[SetTable.fresh]at h⟩
def wO(m:Nat)(a:Array (Option Nat)):∀n i b:Nat,SetTable.layClean.free m a n i b=(fX m n i b).find? λj=>(a.getD j (wq 0)).isNone
 |0,i,b=>by rw[SetTable.layClean.free,fX];rfl
 |n+1,i,b=>by
  rw[SetTable.layClean.free,fX,List.find?_append,List.range'_eq_map_range,List.find?_map];rw[show SetTable.runEnd m i+1-i=SetTable.runEnd m i-i+1 by have:=zv m i;lia];show(match List.find? (λk=>(a.getD (i+k) (wq 0)).isNone) (List.range (SetTable.runEnd m i-i+1))with
   |some k=>wq (i+k)
   |none=>_)=(Option.map (λk=>i+k) (List.find? (λk=>(a.getD (i+k) (wq 0)).isNone) (List.range (SetTable.runEnd m i-i+1)))).or _
  cases List.find? (λk=>(a.getD (i+k) (wq 0)).isNone) (List.range (SetTable.runEnd m i-i+1))with
  |some k=>rfl
  |none=>exact wO m a n _ _
structure sLO (m:Nat)(hs:List Int)(ow:Array (Option Nat)):Prop where
 sz:ow.size=m+1
 ct:ow.toList.countP (·.isSome)=hs.length
 all:∀q:Nat,q<hs.length -> ∃j:Nat,ow[j]?=some (some q)
 rc:∀j q:Nat,ow[j]?=some (some q) -> ∃h,hs[q]?=some h /\ ∃pre post,mQ m h=pre++j::post /\ ∀y∈pre,∃q':Nat,ow[y]?=some (some q')
def pR(k:Nat):∀(l:List (Option Nat)) (j:Nat),l[j]?=wq aj->(l.set j (wq k)).countP (·.isSome)=l.countP (·.isSome)+1
 |[],j,h=>by simp at h
 |x::l,0,h=>by
  have:x=aj:=by simpa using h
  subst this;simp
 |x::l,j+1,h=>by
  rw[ck,List.countP_cons,List.countP_cons,pR k l j (by simpa using h)];lia
def Df{m:Nat}{hs:List Int}{b:Array (Option Nat)}(hm:xA m)(h:sLO m hs b)(J:hs.length<=m)(x:Int):
  ∃j,SetTable.layClean.free m b (SetTable.turns m) (SetTable.bits x%(m+1)) (SetTable.bits x)=wq j/\sLO m (hs++[x]) (b.setIfInBounds j (wq hs.length)):=by
 rw[wO];show∃j,(mQ m x).find? _=wq j/\_;have H:∃j:Nat,b[j]?=wq aj:=by
  apply Classical.byContradiction;intro z;have:b.toList.countP (·.isSome)=b.toList.length:=List.countP_eq_length.mpr λa D=>by
   obtain⟨j,w⟩:=bh D;cases a with
   |some q=>rfl
   |none=>exact absurd ⟨j,by rw[<- aT1];exact w⟩ z
  rw[h.ct,show b.toList.length=b.size from rfl,h.sz]at this;lia
 obtain⟨B,A⟩:=H;have p:B<=m:=by have:=(Array.getElem?_eq_some_iff.mp A).1;rw[h.sz]at this;lia
 cases hf:(mQ m x).find? λj=>(b.getD j (wq 0)).isNone with
 |none=>
  exfalso;have:=List.find?_eq_none.mp hf B (vM hm x p);rw[cm,A]at this;simp at this
 |some j=>
  obtain⟨r,o,l,e,G⟩:=List.find?_eq_some_iff_append.mp hf;have v:=yM (m:=m) x;have w:j<=m:=v j (by rw[e];simp);have d:j<b.size:=by rw[h.sz];lia
  have at_:∀y,y<=m->(b.getD y (wq 0)).isNone=ah -> ∃q,b[y]?=wq (wq q):=λy g n=>by
   have k:y<b.size:=by rw[h.sz];lia
   rw[cm,aG1 k]at n;rw[aG1 k];cases hc:b[y]with
   |none=>rw[hc]at n;cases n
   |some q=>exact⟨q,ag⟩
  have C:b[j]?=wq aj:=by
   rw[cm,aG1 d]at r;rw[aG1 d];cases hc:b[j]with
   |none=>rfl
   |some q=>rw[hc]at r;cases r
  have keep:∀y q,b[y]?=wq (wq q)->(b.setIfInBounds j (wq hs.length))[y]?=wq (wq q):=λy q c=>by
   have:j≠y:=λz=>by subst z;rw[C]at c;cases c
   rw[Array.getElem?_setIfInBounds_ne this];exact c
  have new:(b.setIfInBounds j (wq hs.length))[j]?=wq (wq hs.length):=by
   rw[Array.getElem?_setIfInBounds_self_of_lt d]
  refine⟨j,ag,?_,?_,?_,?_⟩
  ·rw[Array.size_setIfInBounds];exact h.sz
  ·rw[Array.toList_setIfInBounds,pR _ _ _ (by rw[aT1];exact C),h.ct];simp
  ·intro q n;rw[lA1,aR]at n;rcases bM q hs.length with z|z
   ·obtain⟨y,c⟩:=h.all q z;exact⟨y,keep y q c⟩
   ·have:q=hs.length:=by lia
    subst this;exact⟨j,new⟩
  ·intro y q c;by_cases g:j=y
   ·subst g;rw[new]at c;cases c;refine⟨x,by simp,o,l,e,λy g=>?_⟩;obtain⟨q,eq⟩:=at_ y (v y (by rw[e];simp[g])) (by have:=G y g;simpa using this);exact⟨q,keep y q eq⟩
   ·rw[Array.getElem?_setIfInBounds_ne g]at c;obtain⟨h',u,i,f,I,F⟩:=h.rc y q c;refine⟨h',?_,i,f,I,λz E=>?_⟩
    ·rw[gL1 (gE1.mp u).1];exact u
    ·obtain⟨t,s⟩:=F z E;exact⟨t,keep z t s⟩
def v7(m:Nat)(acc:Option (Array (Option Nat)×Nat))(h:Int):Option (Array (Option Nat)×Nat):=do
 let (owner,k)<-acc
 let j<-SetTable.layClean.free m owner (SetTable.turns m) (SetTable.bits h%(m+1)) (SetTable.bits h)
 pure (owner.setIfInBounds j (wq k),k+1)
def wx{m:Nat}(hm:xA m):∀(rest hs:List Int) (b:Array (Option Nat)),sLO m hs b->hs.length+rest.length<=m+1 -> ∃a,rest.foldl (v7 m) (wq (b,hs.length))=wq (a,hs.length+rest.length)/\sLO m (hs++rest) a
 |[],hs,b,h,_=>⟨b,ag,by rw[aF];exact h⟩
 |x::rest,hs,b,h,hl=>by
  rw[lC1]at hl;obtain⟨j,e,h'⟩:=Df hm h (by lia) x;obtain⟨a,d,c⟩:=wx hm rest (hs++[x]) _ h' (by rw[lA1,aR];lia);refine⟨a,?_,by rw[bw]at c;exact c⟩;rw[bW];have:v7 m (wq (b,hs.length)) x=wq (b.setIfInBounds j (wq hs.length),(hs++[x]).length):=by
   show(SetTable.layClean.free m b (SetTable.turns m) (SetTable.bits x%(m+1)) (SetTable.bits x) >>= λj=>_)=_;rw[e,lA1,aR];rfl
  rw[this,d,lA1,aR,lC1]
  congr 2;lia
def GQ{m:Nat}(hm:xA m)(hs:Array Int)(b:hs.size<=m+1):∃ow,SetTable.layClean m hs=wq ow/\sLO m hs.toList ow:=by
 have d:sLO m [] (Array.replicate (m+1) aj):=by
  refine⟨Array.size_replicate,?_,(λq h=>absurd h (bn _)),λj q h=>?_⟩
  ·rw[Array.toList_replicate,aV,List.countP_eq_zero];intro a c;rw[(bt.mp c).2];simp
  ·exfalso;rw[Array.getElem?_replicate]at h;split at h<;>simp at h
 obtain⟨ow,e,h⟩:=wx hm hs.toList [] _ d (by simpa using b);refine⟨ow,?_,by simpa using h⟩;unfold SetTable.layClean;rw[<- Array.foldl_toList];show Option.map _ (List.foldl (v7 m) (wq (Array.replicate (m+1) aj,0)) hs.toList)=_;have e:List.foldl (v7 m) (wq (Array.replicate (m+1) aj,0)) hs.toList=_:=e;rw[e];rfl
def tV{α β:Type}(f:α->Option β)(g:α->β):∀l:List α,(∀a∈l,f a=wq (g a))->l.filterMap f=l.map g
 |[],_=>rfl
 |a::l,h=>by
  rw[av,h a mS1];dsimp only;rw[mP1,tV f g l λb c=>h b (mC1 _ c)]
def vF{α β γ:Type}(f:α->β)(g:α->γ):∀l:List α,(l.map f).zip (l.map g)=l.map λa=>(f a,g a)
 |[]=>rfl
 |a::l=>by rw[mP1,mP1,bL,vF f g l];rfl
def ky{α β:Type}{f g:α->Option β}:∀l:List α,(∀a∈l,f a=g a)->l.filterMap f=l.filterMap g
 |[],_=>rfl
 |a::l,h=>by rw[av,av,h a mS1,ky l λb c=>h b (mC1 _ c)]
def tI:∀(l:List (Option Nat)) (s:Nat),((bb s l.length).filterMap λj=>(l.getD (j-s) aj).map (j,·)).length=l.countP (·.isSome)
 |[],s=>rfl
 |x::l,s=>by
  rw[lC1,List.range'_succ,av,List.countP_cons];have ih:=tI l (s+1);have e:(List.filterMap (λj=>Option.map (λx=>(j,x)) ((x::l).getD (j-s) aj)) (bb (s+1) l.length))=List.filterMap (λj=>(l.getD (j-(s+1)) aj).map (j,·)) (bb (s+1) l.length):=by
   refine ky _ λj a=>?_;rw[List.mem_range'_1]at a;rw[show j-s=(j-(s+1))+1 by lia];rfl
  rw[e,cq];cases x with
  |none=>simpa using ih
  |some q=>simpa using ih
def Dl{m fi mo:Nat}{l p:Bool}(hm:xA m){es:Array (Int×cX)}(D:es.size<=m):∃t b,SetTable.laid m fi mo l p (es.map (·.1))=wq (t,b)/\(b.filterMap (es[·]?)).size=es.size/\sTT (b.filterMap (es[·]?)) t/\(∀e,e∈(b.filterMap (es[·]?)).toList↔e∈es.toList)/\t.led=l/\t.mask=m:=by
 obtain⟨g,e,h⟩:=GQ hm (es.map (·.1)) (by rw[b6];lia);have c:(es.map (·.1)).toList.length=es.size:=by simp
 generalize u:(List.range (m+1)).filterMap (λj=>(g.getD j aj).map (j,·))=a;refine⟨{mask:=m,place:=(a.map (·.1)).toArray,dummies:= #[],finger:=fi,led:=l,moves:=mo,plain:=p},(a.map (·.2)).toArray,?_,?_⟩
 ·unfold SetTable.laid;rw[e,<- u];rfl
 have mem:∀j q,(j,q)∈a↔g[j]?=wq (wq q):=λj q=>by
  rw[<- u,aE];constructor
  ·rintro⟨J,n,e⟩;obtain⟨A,eq,e⟩:=oM1.mp e;cases e;rw[ar]at n;have k:j<g.size:=by rw[h.sz];exact n
   rw[cm,aG1 k]at eq;rw[aG1 k];have:g[j]=wq q:=by simpa using eq
   rw[this]
  ·intro e;have k:=(Array.getElem?_eq_some_iff.mp e).1;refine⟨j,ar.mpr (by rw[h.sz]at k;exact k),?_⟩;rw[cm,e];rfl
 have lt:∀z∈a,z.2<es.size:=λz d=>by
  obtain⟨h',r,_⟩:=h.rc z.1 z.2 ((mem _ _).mp d);have:=(gE1.mp r).1;rw[c]at this;exact this
 have B:a.length=es.size:=by
  have:=tI g.toList 0;rw[show g.toList.length=g.size from rfl,h.sz,h.ct,c]at this;rw[<- this,<- u,List.range_eq_range']
  congr 1
  refine ky _ λj _=>?_;simp[cm]
 have i:((a.map (·.2)).toArray.filterMap (es[·]?)).toList=a.map λz=>(es[z.2]?).getD (0,.none):=by
  rw[Array.toList_filterMap];rw[aN];exact tV _ _ _ λz d=>by
   show es[z.2]?=_;rw[aG1 (lt z d)];rfl
 have sz:((a.map (·.2)).toArray.filterMap (es[·]?)).size=es.size:=by rw[<- aB,i,lM1,B]
 refine⟨sz,⟨hm,?_,ag,?_,?_,?_,?_⟩,λe=>?_,ag,ag⟩
 ·unfold vy;rw[<- u];exact List.pairwise_lt_range.sublist (by simpa using rL (λj=>g.getD j aj) (List.range (m+1)))
 ·rw[sz,sT1,lM1,B]
 ·intro j s;simp only[b5]at s;obtain⟨z,d,rfl⟩:=s;have:=(Array.getElem?_eq_some_iff.mp ((mem z.1 z.2).mp d)).1;rw[h.sz]at this;show _<=m;lia
 ·rw[sz];exact D
 ·rw [i];show ∀ z∈(a.map (·.1)).zip _,xz m (a.map (·.1)) _ _;rw [vF];intro z d;obtain ⟨y,C,rfl⟩:=b5.mp d;obtain ⟨h',r,v,o,H,F⟩:=h.rc y.1 y.2 ((mem _ _).mp C);have:((es[y.2]?).getD (0,.none)).1=h':=by
   have f:=lt y C;rw[Array.toList_map,gP1,aT1,aG1 f]at r;rw[aG1 f];simpa using r
  rw[this];exact⟨v,o,H,λx G=>by obtain⟨A,E⟩:=F x G;exact b5.mpr ⟨(x,A),(mem _ _).mpr E,ag⟩⟩
 ·rw[i,b5];constructor
  ·rintro⟨z,d,rfl⟩;rw[aG1 (lt z d)];simp
  ·intro I;obtain⟨q,w⟩:=bh I;rw[aT1]at w;have f:=(Array.getElem?_eq_some_iff.mp w).1;obtain⟨j,s⟩:=h.all q (by rw[c];exact f);exact⟨(j,q),(mem _ _).mpr s,by rw[w];rfl⟩
def G9{prog:c0}{w:c6}:∀(n:Nat) {k:TK} {A:c5} {E:cX->cY->Prop} {s:cY} {v:cX} {Q:Bool->cY->Prop},k.dep<=n->eO s.heap k v->Q ai s->da (model prog w) A (hashByValue n v) Q E s:=by
 intro n
 induction n with
 |zero=>
  intro k A E s v Q d r h;cases r with
  |non=>exact wP1 h
  |int i t=>exact wP1 h
  |tup _ _ _ _=>simp[TK.dep]at d
 |succ n ih=>
  intro k A E s v Q d r h;cases r with
  |non=>exact wP1 h
  |int i t=>exact wP1 h
  | @tup a o b m xs f p u j=>
   have z:s.TypeIs (.ref a) "tuple":=⟨o,f,p⟩;rw[TK.dep]at d;unfold hashByValue;refine wB1 (wpAny_specialOf z F.slot_tuple_hash.lookup ?_);show da _ _ (seqItems? (.ref a) >>= _) _ _ s;refine wB1 (wpAny_seqItems f u ?_);refine wB1 ?_;show da _ _ (forIn b _ _) _ _ s;rw[<- bP];refine wpAny_forIn_list _ (λrest r s'=>r.1=aj/\s'=s /\ ∃ks,eX s.heap ks rest/\TK.depAll ks<=n) _ ?_ ?_ _ _ ⟨ag,ag,xs,j,by lia⟩
   ·rintro v rest r s' ⟨e,rfl,ks,x,g⟩;cases x with
    | @cons y _ c _ l q=>
     rw[TK.depAll]at g;refine wB1 (ih (k:=y) (by lia) l ?_);simp only[bT,bF1,if_false];exact wP1 ⟨ag,ag,c,q,by lia⟩
   ·rintro⟨B,r2⟩ s' ⟨e,rfl,_⟩;simp only at e;subst e;exact wP1 h
def Bj{prog:c0}{w:c6}:∀(n:Nat) {k:TK} {A:c5} {E:cX->cY->Prop} {s:cY} {v:cX} {Q:Bool->cY->Prop},k.dep<=n->eO s.heap k v->Q ah s->da (model prog w) A (ofAClassStatement n v) Q E s:=by
 intro n
 induction n with
 |zero=>
  intro k A E s v Q d r h;cases r with
  |non=>exact wP1 h
  |int i t=>exact wP1 h
  |tup _ _ _ _=>simp[TK.dep]at d
 |succ n ih=>
  intro k A E s v Q d r h;cases r with
  |non=>exact wP1 h
  |int i t=>exact wP1 h
  | @tup a o b m xs f p u j=>
   have z:s.TypeIs (.ref a) "tuple":=⟨o,f,p⟩;rw[TK.dep]at d;unfold ofAClassStatement;refine wB1 (wpAny_typeOf z ?_);show da _ _ (pure ai >>= _) _ _ s;refine wB1 (wP1 ?_);simp only[bT,bF1,if_false];refine wB1 (wpAny_seqItems f u ?_);refine wB1 ?_;show da _ _ (forIn b _ _) _ _ s;rw[<- bP];refine wpAny_forIn_list _ (λrest r s'=>r.1=aj/\s'=s /\ ∃ks,eX s.heap ks rest/\TK.depAll ks<=n) _ ?_ ?_ _ _ ⟨ag,ag,xs,j,by lia⟩
   ·rintro v rest r s' ⟨e,rfl,ks,x,g⟩;cases x with
    | @cons y _ c _ l q=>
     rw[TK.depAll]at g;refine wB1 (ih (k:=y) (by lia) l ?_);simp only[bF1,if_false];exact wP1 ⟨ag,ag,c,q,by lia⟩
   ·rintro⟨B,r2⟩ s' ⟨e,rfl,_⟩;simp only at e;subst e;exact wP1 h
def Ci(h:db)(k:TK)(e:Int×cX):Prop:=∃a,e=(k.hash,.ref a)/\eO h k (.ref a)/\k.dep<=8
section
variable{prog:c0}{w:c6}{A:c5}{E:cX->cY->Prop}{s:cY}
def Cg{k:TK}{x:cZ}{Q:Bool->cY->Prop}(hk:eO s.heap k (.ref x))(hd:k.dep<=8)(l:List cX)(he:∀v∈l,∃b a,v = .ref a/\eO s.heap b (.ref a)/\b.dep<=8)(h:Q ah s):da (model prog w) A (searchCouldBeSeen (.ref x) l) Q E s:=by
 unfold searchCouldBeSeen;refine wB1 ?_;refine wpAny_forIn_list _ (λrest r s'=>r.1=aj/\s'=s /\ ∀v∈rest,∃b a,v = .ref a/\eO s.heap b (.ref a)/\b.dep<=8) _ ?_ ?_ _ _ ⟨ag,ag,he⟩
 ·rintro v rest r s' ⟨d,rfl,e⟩;obtain⟨b,a,rfl,h1,h2⟩:=e v mS1;have tl:∀v∈rest,∃b a,v=Value.ref a/\eO s'.heap b (.ref a)/\b.dep<=8:=λv h=>e v (mC1 _ h);dsimp only;by_cases c:(x == a)=ai
  ·rw[c];exact wP1 ⟨ag,ag,tl⟩
  ·rw[cr]at c;rw[c];show da _ _ (eqIsQuiet 8 (.ref x) >>= _) _ _ _;refine wB1 (nN 8 hd hk ?_);refine wB1 (nN 8 h2 h1 ?_);refine wB1 (Bj 8 hd hk ?_);refine wB1 (Bj 8 h2 h1 ?_);exact wP1 ⟨ag,ag,tl⟩
 ·rintro⟨f,r2⟩ s' ⟨d,rfl,_⟩;simp only at d;subst d;exact wP1 h
def pO{α:Type}{occ:List α}{a c:α}(hc:c∉occ)(ha:a∈occ):∀{b d B D:List α},(∀y∈d,y∈occ)->d++a::B=b++c::D->a∈b
 |[],[],B,D,_,e=>by
  simp at e;obtain⟨rfl,_⟩:=e;exact absurd ha hc
 |[],z::d,B,D,h,e=>by
  simp at e;obtain⟨rfl,_⟩:=e;exact absurd (h z mS1) hc
 |z::b,[],B,D,_,e=>by
  simp at e;obtain⟨rfl,_⟩:=e;exact mS1
 |z::b,z'::d,B,D,h,e=>by
  simp at e;exact mC1 _ (pO hc ha (λy f=>h y (mC1 _ f)) e.2)
def Bq{xs:Array Nat}(hr:vy xs){i j:Nat}(h:xs[i]?=wq j):SetTable.below xs j=i:=by
 have e:=oF hr (gM1 (by rw[aT1];exact h));rcases cu (SetTable.below xs j) i with z|z|z
 ·have:=hr.lt z e h;lia
 ·exact z
 ·have:=hr.lt z h e;lia
def Gc{m:Nat}(h:xA m):(m%2 == 0)=ah:=by rcases h with rfl|rfl|rfl<;>rfl
def KG(N:Bool){a:cZ}{es:Array (Int×cX)}{ep:Nat}{t:SetTable}{k:TK}{x:cZ}(hu:A.units+8<cLine)(ho:s.heap.get? a=some (stO es ep t))(ht:sTT es t)(he:∀ e∈es.toList,∃ k',Ci s.heap k' e)(hk:eO s.heap k (.ref x))(hd:k.dep<=8){Q:SetFound->cY->Prop}(q1:(∃e∈es.toList,Ci s.heap k e) -> ∀i,Q (.there (if N=true then none else some i)) s)(q2:∀j o m,mQ t.mask k.hash=o++j::m->(∀y∈o,y∈t.place.toList)->j∉t.place.toList->(∀e∈es.toList,¬ Ci s.heap k e)->Q (.free j false) s):
  ∀(n:Nat) (L c:List Nat) (b:Option SetTable.Probe),mQ t.mask k.hash=c++L->jp t.mask (b.getD (t.probeStart k.hash)) L->L.length<n->(∀y∈c,y∈t.place.toList /\ ∀e,es[SetTable.below t.place y]?=wq e -> ¬ Ci s.heap k e)->da (model prog w) A (setSearchFrom a (.ref x) k.hash N n b) Q E s:=by
 have hf:=ht.fits;have P:t.place.toList.length<=t.mask:=by rw[aB,ht.sz];exact ht.fl
 intro n
 induction n with
 |zero=>intro L _ _ _ _ h;exact absurd h (bn _)
 |succ n ih=>
  intro L c b R hs hl V;have hx:∃y∈L,y∉t.place.toList:=by
   obtain⟨j,hj,U⟩:=Ck t.place.toList P;have:=vM ht.mks k.hash hj;rw[R,ay]at this;rcases this with z|z
   ·exact absurd (V j z).1 U
   ·exact⟨j,z,U⟩
  have hL:L.length<=10*SetTable.turns t.mask:=by
   have:=vL t.mask k.hash;rw[R,lA1]at this;lia
  obtain⟨o,y,m,e,h1,h2⟩:=wJ (f:=λi=>(es[i]?.map (·.1)).getD 0) (h:=k.hash) ht.up ht.du L _ _ hs hL hx;unfold setSearchFrom;refine wB1 (wpAny_setState_of ho ag hf ?_);dsimp only;rw[show t.gaveWay=ah from Gc ht.mks];simp only[bF1,if_false];rcases h2 with⟨U,hg⟩|⟨q,Z,hh,hg,hq⟩
  ·generalize F:SetTable.probe t _ k.hash (b.getD (t.probeStart k.hash))=met;have F:=F.symm.trans hg;subst F;refine wP1 (q2 y (c++o) m (by rw[R,e,bw]) (λz S=>?_) U λe' he' d=>?_)
   ·rcases ay.mp S with r|r
    ·exact(V z r).1
    ·exact(h1 z r).1
   ·obtain⟨i,hi⟩:=bh he';have H:es[i]?=wq e':=by rw[<- aT1];exact hi
    have I:=(Array.getElem?_eq_some_iff.mp H).1;have hpi:i<t.place.size:=by rw[ht.sz];exact I
    have C:=aG1 hpi;have S:(t.place[i],e')∈t.place.toList.zip es.toList:=by
     refine gM1 (i:=i) ?_;rw[List.getElem?_zip_eq_some];exact⟨by rw[aT1];exact C,hi⟩
    obtain⟨O,T,_⟩:=id d;obtain⟨pre1,post1,M,f1⟩:=ht.rc _ S;dsimp only at M;rw[show e'.1=k.hash from by rw[T],R,e,<- bw]at M;have hm:=pO (occ:=t.place.toList) U (gM1 (by rw[aT1];exact C)) f1 M.symm;have X:=Bq ht.up C;rcases ay.mp hm with r|r
    ·exact(V _ r).2 e' (by rw[X];exact H) d
    ·refine(h1 _ r).2 ?_;rw[X,H,T];rfl
  ·generalize F:SetTable.probe t _ k.hash (b.getD (t.probeStart k.hash))=met;have F:=F.symm.trans hg;subst F;have X:=oF ht.up Z;have I:SetTable.below t.place y<es.size:=by rw[<- ht.sz];exact(Array.getElem?_eq_some_iff.mp X).1
   have l:=aG1 I;generalize es[SetTable.below t.place y]=e0 at l;have J:e0∈es.toList:=gM1 (by rw [aT1];exact l);obtain ⟨k',O,rfl,d,K⟩:=he e0 J;dsimp only;have B:da (model prog w) A (do
     let equal<-holding [Value.ref O] (eqBool (Value.ref O) (.ref x))
     let (es',_,t')<-setState a
     if(N&&equal)=ai then return SetFound.there aj
     let wq same:=t'.sameMemory t.moves t.mask|unsupported "set.changed-during-lookup:is-the-new-block-at-the-old-address"
     let still<-match (if same=ai then t'.slot y else .empty)with
      | .live Y=>match es'[Y]? with
       |some (_,y')=>do pure (if(<- isSame y' (.ref O))=ai then wq Y else aj)
       |none=>pure aj
      |_=>pure aj
     match still with
     |none=>do rule "set.search.anew";setSearchFrom a (.ref x) k.hash N n aj
     |some Y=>if equal=ai then return .there (wq Y)else setSearchFrom a (.ref x) k.hash N n (wq q)) Q E s:=by
    refine wB1 (wpAny_holding (EG 8 K hu d hk _ _ _ _ ?_));refine wB1 (wpAny_setState_of ho ag hf ?_);dsimp only;by_cases G:k'=k
    ·subst G;rw[decide_eq_true ag];cases N with
     |true=>exact wP1 (q1 ⟨_,J,O,ag,d,K⟩ 0)
     |false=>
      simp only[aD,bF1,if_false];rw[show t.sameMemory t.moves t.mask=wq ai from by unfold SetTable.sameMemory;simp];dsimp only;rw[if_pos ag,ql ht.up Z];dsimp only;rw[l];dsimp only;refine wB1 ?_;refine wpAny_of_eq (a:=ai) (by unfold isSame;simp) ?_;rw[if_pos ag];refine wB1 (wP1 ?_);exact wP1 (q1 ⟨_,J,O,ag,d,K⟩ _)
    ·rw[decide_eq_false G];simp only[bS,bF1,if_false];rw[show t.sameMemory t.moves t.mask=wq ai from by unfold SetTable.sameMemory;simp];dsimp only;rw[if_pos ag,ql ht.up Z];dsimp only;rw[l];dsimp only;refine wB1 ?_;refine wpAny_of_eq (a:=ai) (by unfold isSame;simp) ?_;rw[if_pos ag];refine wB1 (wP1 ?_);dsimp only;refine ih m (c++o++[y]) (wq q) ?_ hq ?_ λz S=>?_
     ·rw[R,e];simp
     ·rw[e]at hl;simp at hl;lia
     ·rcases ay.mp S with r|r
      ·rcases ay.mp r with W|W
       ·exact V z W
       ·refine⟨(h1 z W).1,λM g D=>(h1 z W).2 ?_⟩;obtain⟨a1,rfl,_⟩:=D;rw[g];rfl
      ·have:z=y:=by simpa using r
       subst this;refine⟨Z,λM g D=>G ?_⟩;rw[l]at g;obtain⟨a1,u,hi1,_⟩:=D;cases g;injection u with _ u;injection u with u;subst u;exact d.inj hi1
   by_cases p:t.led=ai
   ·rw[p];simp only[bT,bF1,if_false];rw[l];exact B
   ·rw[cr]at p;rw[p];simp only[cf,if_true];refine wB1 (Cg hk hd _ (λv hv=>?_) ?_)
    ·obtain⟨M,g,rfl⟩:=b5.mp hv;rw[Array.toList_filter]at g;obtain⟨k1,a1,rfl,g1,g2⟩:=he M ((aq.mp g).1);exact⟨k1,a1,ag,g1,g2⟩
    ·simp only[bF1,if_false];rw[l];exact B
end
def eO.keepsS{h h':db}{p:cZ}{es:Array (Int×cX)}{ep:Nat}{t:SetTable}(ho:h.get? p=some (stO es ep t))(hs:∀ a o,a≠p->h.get? a=some o->h'.get? a=some o):∀ {k:TK} {v:cX},eO h k v->eO h' k v:=fun f=>f.rec (motive_1:=fun k v _=>eO h' k v) (motive_2:=fun k v _=>eX h' k v) .non .int
  (λ{a} _ _ _ _ d e c _ ih=>.tup (hs a _ (λz=>by subst z;rw[d]at ho;cases ho;cases c) d) e c ih) .nil (λ_ _ a b=>.cons a b)
def eO.grows{h h':db}(hs:∀ a o,h.get? a=some o->h'.get? a=some o):∀ {k:TK} {v:cX},eO h k v->eO h' k v:=fun e=>e.rec (motive_1:=fun k v _=>eO h' k v) (motive_2:=fun k v _=>eX h' k v) .non .int
  (λ{a} _ _ _ _ f c d _ ih=>.tup (hs a _ f) c d ih) .nil (λ_ _ a b=>.cons a b)
def j5(ks:List TK)(k:TK):List TK:=if k∈ks then ks else ks++[k]
def ddK(ks:List TK):List TK:=ks.foldl j5 []
def Bc(ks:List TK)(k:TK):(j5 ks k).length<=ks.length+1:=by unfold j5;split<;>simp
def l6:∀(ns a:List TK),(ns.foldl j5 a).length<=a.length+ns.length
 |[],a=>by simp
 |n::ns,a=>by
  rw[bW];have h1:=l6 ns (j5 a n);have h2:=Bc a n;rw[lC1];lia
def Ci.keep{h h':db}{p:cZ}{es:Array (Int×cX)}{ep:Nat}{t:SetTable}(ho:h.get? p=wq (stO es ep t))(hs:∀a o,a≠p->h.get? a=wq o->h'.get? a=wq o){k:TK}{e:Int×cX}(x:Ci h k e):Ci h' k e:=by
 obtain⟨a,d,b,c⟩:=x;exact⟨a,d,b.keepsS ho hs,c⟩
def rK{es:Array (Int×cX)}{t:SetTable}(h:sTT es t):t.tooFull=decide (es.size*5>=t.mask*3):=by
 unfold SetTable.tooFull SetTable.fill;rw[h.du,h.sz];rfl
def vB(h:db)(xs:List (TK×cZ×cX)):Prop:=∀z∈xs,eO h z.1 (.ref z.2.1)/\z.1.dep<=8
def vB.el{h:db}{xs:List (TK×cZ×cX)}{es:Array (Int×cX)}(c:vB h xs)(a:∀e∈es.toList,∃z∈xs,e=(z.1.hash,.ref z.2.1)):∀e∈es.toList,∃d,Ci h d e:=λe f=>by
 obtain⟨z,b,rfl⟩:=a e f;exact⟨z.1,z.2.1,ag,(c z b).1,(c z b).2⟩
def vB.found{h:db}{xs:List (TK×cZ×cX)}{es:Array (Int×cX)}{k:TK}(i:vB h xs)(d:∀e∈es.toList,∃z∈xs,e=(z.1.hash,.ref z.2.1))(f:∀z∈xs,(z.1.hash,Value.ref z.2.1)∈es.toList):(∃e∈es.toList,Ci h k e)↔k∈xs.map (·.1):=by
 constructor
 ·rintro⟨e,l,a,j,g,_⟩;obtain⟨z,b,c⟩:=d e l;rw[j]at c;injection c with _ c;injection c with c;refine b5.mpr ⟨z,b,?_⟩;have:=(i z b).1;rw[<- c]at this;exact this.inj g
 ·intro g;obtain⟨z,b,rfl⟩:=b5.mp g;exact⟨_,f z b,z.2.1,ag,(i z b).1,(i z b).2⟩
section
variable{P:c0}{w:c6}{A:c5}{E:cX->cY->Prop}{s:cY}{p:cZ}{xs:List (TK×cZ×cX)}
def yX{m:Nat}(h:xA m):SetTable.turns m<=142:=by unfold SetTable.turns;rcases h with z|z|z<;>rw[z]<;>decide
def lG(xs:List (TK×cZ×cX))(k:TK)(x:cZ):List (TK×cZ×cX):=if k∈xs.map (·.1)then xs else xs++[(k,x,.none)]
def Lh{k:TK}{x:cZ}{Q:Bool->cY->Prop}(hu:A.units+8<cLine)(hS:uo p xs s.heap)(hI:vB s.heap xs)(hb:xs.length<76)(hk:eO s.heap k (.ref x))(hd:k.dep<=8)(q:∀c h',Heap.SameBut p s.heap h'->uo p (lG xs k x) h'->Q c {s with heap:=h'}):da (model P w) A (setAddHashed p (.ref x) k.hash) Q E s:=by
 obtain⟨nd,es,ep,t,J,C,H,g,F,Z⟩:=id hS;have hf:=C.fits;unfold setAddHashed setAddHashedIn;refine wpAny_holding (wB1 (wpAny_setState_of J ag hf ?_));dsimp only;rw[show byScan (Value.ref x) es=ah from rfl];simp only[bF1,if_false];unfold setSearch;refine wB1 (KG ai hu J C (hI.el g) hk hd ?q1 ?q2 100000 (mQ t.mask k.hash) [] aj ag (xp t k.hash) ?ln (λy hy=>by cases hy))
 case q1=>
  intro h _;have S:=(hI.found g F).mp h;have D:lG xs k x=xs:=by unfold lG;rw[if_pos S]
  rw[D]at q;exact wP1 (q _ s.heap (Heap.SameBut.refl p s.heap) hS)
 case q2=>
  intro j O L ew hp hj W;dsimp only;have hn:k∉xs.map (·.1):=λz=>by obtain⟨e,r,h⟩:=(hI.found g F).mpr z;exact W e r h
  have D:lG xs k x=xs++[(k,x,.none)]:=by unfold lG;rw[if_neg hn]
  rw[D]at q;refine wB1 (wpAny_setState_of J ag hf ?_);dsimp only;have U:j<=t.mask:=yM k.hash j (by rw[ew];simp);rw[rK C]at H;have H:¬ es.size*5>=t.mask*3:=by simpa using H
  have v:es.size+1<=t.mask:=by rcases C.mks with z|z|z<;>rw[z]at H ⊢ <;> lia
  have B:sTT (SetTable.insertAt es (t.put j).2 (k.hash,.ref x)) (t.put j).1:=C.put U hj ⟨O,L,ew,hp⟩ v;have Y:(SetTable.insertAt es (t.put j).2 (k.hash,Value.ref x)).size=(xs++[(k,x,Value.none)]).length:=by rw[g8,Z,lA1];rfl
  have o:(SetTable.insertAt es (t.put j).2 (k.hash,Value.ref x)).size<=c9:=by rw[Y,lA1,sizeLine_eq];simp;lia
  have sb:=Heap.SameBut.update s.heap p (Obj.putSet (SetTable.insertAt es (t.put j).2 (k.hash,.ref x)) (t.put j).1);have N:=zB (fs:=SetTable.insertAt es (t.put j).2 (k.hash,.ref x)) (u:=(t.put j).1) J;have K:((xs++[(k,x,Value.none)]).map (·.1)).Nodup:=by
   rw[cv,bo];exact⟨nd,by simp,λa ha b hb e=>by simp at hb;subst hb;subst e;exact hn ha⟩
  have e1:∀e∈(SetTable.insertAt es (t.put j).2 (k.hash,Value.ref x)).toList,∃z∈xs++[(k,x,Value.none)],e=(z.1.hash,.ref z.2.1):=λe r=>by
   rw[m9]at r;rcases r with rfl|r
   ·exact⟨_,mA1 _ mS1,ag⟩
   ·obtain⟨z,h1,h2⟩:=g e r;exact⟨z,az _ h1,h2⟩
  have a1:∀z∈xs++[(k,x,Value.none)],(z.1.hash,Value.ref z.2.1)∈(SetTable.insertAt es (t.put j).2 (k.hash,Value.ref x)).toList:=λz V=>by
   rw[m9];rcases ay.mp V with X|X
   ·exact .inr (F z X)
   ·rw[cb.mp X];exact .inl ag
  have tail:da (model P w) A (do
    storeSet p (SetTable.insertAt es (t.put j).2 (k.hash,.ref x)) (t.put j).1
    if (!false&&(t.put j).1.tooFull)=true then do
      setRelay p (SetTable.grown (es.size+1))
      pure ai
     else pure ai) Q E s:=by
   refine wB1 (wpAny_storeSet_of J ag ?_ o);by_cases f:(t.put j).1.tooFull=ai
   ·rw [f];simp only [cf,bE,if_true];refine wB1 ?_;unfold setRelay;refine wB1 (wpAny_setState_of (s:={s with heap:=s.heap.update p _}) N rfl B.fits ?_);dsimp only;have M:=f;rw [rK B,g8] at M;have M:(es.size+1)*5>=t.mask*3:=of_decide_eq_true M;have e4:∃ m,xA m/\SetTable.sizeAbove (SetTable.grown (es.size+1))=m+1/\es.size+1<=m/\(es.size+1)*5<m*3:=by
     rcases C.mks with z|z|z<;>rw[z]at H M
     ·have:es.size=4:=by lia
      rw[this];exact⟨31,.inr (.inl ag),ag,by decide,by decide⟩
     ·have:es.size=18:=by lia
      rw[this];exact⟨127,.inr (.inr ag),ag,by decide,by decide⟩
     ·lia
    obtain⟨m,hm,em,T,hm2⟩:=e4;rw[if_neg (by rw[em,sizeLine_eq];rcases hm with z|z|z<;>rw[z]<;>decide)];obtain⟨t2,d,er,i,I,n,_,R⟩:=Dl (m:=m) (fi:=(t.put j).1.finger) (mo:=(t.put j).1.movedTo m) (l:=(t.put j).1.led) (p:=(t.put j).1.plain) hm (es:=SetTable.insertAt es (t.put j).2 (k.hash,.ref x)) (by rw[g8];exact T);refine wB1 ?_;rw[show(t.put j).1.relaid ((SetTable.insertAt es (t.put j).2 (k.hash,Value.ref x)).map (·.1)) (SetTable.grown (es.size+1))=wq (t2,d)from by unfold SetTable.relaid;rw[em,Nat.add_sub_cancel];exact er];have z2:(d.filterMap ((SetTable.insertAt es (t.put j).2 (k.hash,Value.ref x))[·]?)).size=(xs++[(k,x,Value.none)]).length:=i.trans Y;show da _ _ (if((d.filterMap ((SetTable.insertAt es (t.put j).2 (k.hash,Value.ref x))[·]?)).size != (SetTable.insertAt es (t.put j).2 (k.hash,Value.ref x)).size)=ai then _ else _) _ _ _;rw[i];simp only[bne_self_eq_false,bF1,if_false];refine wP1 ?_;dsimp only;refine wpAny_storeSet_of N ag ?_ (by rw[i];exact o);refine wP1 (q _ _ (sb.trans (Heap.SameBut.update _ p _)) ⟨K,_,_,_,zB N,I,?_,λe r=>e1 e ((n e).mp r),λz V=>(n _).mpr (a1 z V),z2⟩);rw[rK I,R,i,g8];exact decide_eq_false (by lia)
   ·rw[cr]at f;rw[f];simp only[bS,bF1,if_false];exact wP1 (q _ _ sb ⟨K,_,_,_,N,B,f,e1,a1,Y⟩)
  by_cases G:(t.put j).1.plain=ai
  ·rw[G];simp only[if_true];refine wB1 (G9 8 hd hk ?_);exact tail
  ·rw[cr]at G;rw[G];simp only[bF1,if_false];refine wB1 (wP1 ?_);exact tail
 case ln=>
  have:=vL t.mask k.hash;have:=yX C.mks;lia
end
def um(p:cZ)(n:Nat)(h:db):Prop:=∃es ep t,h.get? p=wq (stO es ep t)/\t.fits es.size=ai/\es.size=n/\n<=76
def eX.mem{h:db}:∀{ks:List TK} {vs:List cX},eX h ks vs -> ∀(i:Nat) (v:cX),vs[i]?=wq v -> ∃k,ks[i]?=wq k/\eO h k v
 |_,_,.nil,i,v,e=>by simp at e
 |_,_,.cons r t,0,v,e=>by simp at e;subst e;exact⟨_,ag,r⟩
 |_,_,.cons r t,i+1,v,e=>eX.mem t i v (by simpa using e)
def uI(k:TK):Bool:=match k with
 | .tup _=>decide (k.dep<=8)
 |_=>ah
def y2{h:db}{k:TK}{v:cX}(hk:uI k=ai)(h1:eO h k v):k.dep<=8 /\ ∃a,v = .ref a:=by
 cases h1 with
 |non=>cases hk
 |int=>cases hk
 | @tup a=>exact⟨by simpa[uI]using hk,a,ag⟩
section
variable{P:c0}{w:c6}{A:c5}{E:cX->cY->Prop}
def xu{p l it:cZ}{its:Array cX}{ns:List TK}{R:Result->cY->Prop}(hh:A.handled=none)(hu:A.units+20<cLine)(hT:∀ k∈ns,uI k=true)(hb:ns.length<=76)(n1:p≠l)(M:p≠it)(n3:it≠l):
  ∀(k i:Nat) (s:cY) (xs:List (TK×cZ×cX)),its.size-i=k->i<=its.size->s.heap.IsListIter it l i->s.heap.IsList l its->eX s.heap ns its.toList->uo p xs s.heap->vB s.heap xs->xs.map (·.1)=(ns.take i).foldl j5 [] ->
  (∀h' tk,(∀c o,c≠p->c≠it->s.heap.get? c=wq o->h'.get? c=wq o)->um p (ddK ns).length h'->R (.ok (.ret .none)) {s with heap:=h',toks:=tk})->codeAny (model P w) A (.builtin "set.update.loop" ⟨[.ref p,.ref it],[]⟩) R s:=by
 intro k
 induction k with
 |zero=>
  intro i s xs hk hi st L J N hX n q;have e:i=its.size:=by lia
  subst e;refine wD1 PyProof.Rows.F.entry_set_update_loop (?_:_);rw[Around.under_plainId PyProof.Rows.F.plain_set_update_loop _];show da _ A.in1 (pyNext (.ref it) >>= _) _ _ s;refine wB1 (wpAny_pyNext_list_end (by simpa using hh) st L (by simp) λh' eb=>wP1 ?_);refine q h' s.toks (λc o _ hc e=>eb c o hc e) ?_;have D:its.size=ns.length:=by rw[<- aB];exact J.split.symm
  obtain⟨_,es,ep,t,G,tt,_,_,_,y⟩:=N;rw[D,bO]at n;have X:xs.length=(ddK ns).length:=by have:=congrArg List.length n;rw[lM1]at this;exact this
  refine⟨es,ep,t,eb p _ M G,tt.fits,y.trans X,?_⟩;have:=l6 ns [];unfold ddK;simp at this;lia
 |succ k ih=>
  intro i s xs hk hi st L J N hX n q;have I:i<its.size:=by lia
  have hx:=aG1 I;obtain⟨B,ek,m⟩:=J.mem i _ (by rw[aT1];exact hx);have hkm:B∈ns:=gM1 ek;obtain⟨hd,O,ex⟩:=y2 (hT B hkm) m;refine wD1 PyProof.Rows.F.entry_set_update_loop (?_:_);rw[Around.under_plainId PyProof.Rows.F.plain_set_update_loop _];show da _ A.in1 (pyNext (.ref it) >>= _) _ _ s;refine wB1 (wpAny_pyNext_list_item st L hx λh' st' K=>?_);rw[ex]at m ⊢;have d:∀{k:TK} {v:cX},eO s.heap k v->eO h' k v:=λS=>by
   refine S.rec (motive_1:=λk v _=>eO h' k v) (motive_2:=λk v _=>eX h' k v) .non .int (λ{a} _ _ _ _ e1 c1 d1 _ ih=>.tup ((K.2 a λz=>?_).trans e1) c1 d1 ih) .nil (λ_ _ a b=>.cons a b);subst z;obtain⟨o,e2,c2,_⟩:=st;rw[e1]at e2;cases e2;rw[c1]at c2;exact absurd c2 (by decide)
  show da _ A.in1 (holding [Value.ref O] (setAdd p (.ref O)) >>= _) _ _ _;refine wB1 (wpAny_holding ?_);unfold setAdd;have F:A.in1.units=A.units+1:=rfl;refine wpAny_holding (wB1 (rA B (by rw[F];lia) (d m) ?_));obtain⟨es,ep,t,C⟩:∃es ep t,h'.get? p=some (stO es ep t):=by
   obtain⟨_,es,ep,t,G,_⟩:=N;exact⟨es,ep,t,by rw[K.2 p M];exact G⟩
  have Y:uo p xs h':=by
   obtain⟨nd,es,ep,t,G,rr⟩:=N;exact⟨nd,es,ep,t,by rw[K.2 p M];exact G,rr⟩
  have u:vB h' xs:=λz y=>⟨d (hX z y).1,(hX z y).2⟩;have Z:=l6 (ns.take i) [];have W:xs.length=((ns.take i).foldl j5 []).length:=by have:=congrArg List.length n;rw[lM1]at this;exact this
  refine Lh (s:={s with heap:=h',toks:=s.toks+B.draws}) (by rw[F];lia) Y u (by
   have D:its.size=ns.length:=by rw[<- aB];exact J.split.symm
   rw[W];rw[aK,aV]at Z;lia) (d m) hd λc h2 j hS2=>?_
  have ef:j5 ((ns.take i).foldl j5 []) B=(ns.take (i+1)).foldl j5 []:=by
   rw[cx,ek,List.foldl_append];rfl
  have H:(lG xs B O).map (·.1)=(ns.take (i+1)).foldl j5 []:=by
   rw[<- ef,<- n];unfold lG j5;by_cases Q:B∈xs.map (·.1)
   ·rw[if_pos Q,if_pos Q]
   ·rw[if_neg Q,if_neg Q,cv];rfl
  have kk:∀c o,c≠p->c≠it->s.heap.get? c=wq o->h2.get? c=wq o:=λc o h1 U e=>by rw[j.2 c h1];show h'.get? c=_;rw[K.2 c U];exact e
  have keepIt:∀o,h'.get? it=wq o->h2.get? it=wq o:=λo e=>by rw[j.2 it (Ne.symm M)];exact e
  have V:∀{h E:db} {a:List TK} {b:List cX},(∀{k v},eO h k v->eO E k v)->eX h a b->eX E a b:=λ{h E a b} f S=>by
   induction a generalizing b with
   |nil=>cases S;exact .nil
   |cons k a ih=>cases S with|cons r t=>exact .cons (f r) (ih t)
  refine wP1 ⟨plainId_quiet PyProof.Rows.F.plain_set_update_loop _,ih (i+1) {s with heap:=h2,toks:=s.toks+B.draws} (lG xs B O) (by lia) I (st'.at keepIt) ?_ ?_ hS2 ?_ H λU tk k3 x3=>?_⟩
  ·obtain⟨o,e,r⟩:=L;exact⟨o,kk l o (Ne.symm n1) (Ne.symm n3) e,r⟩
  ·exact V (λx=>(d x).keepsS C λa o g e=>by rw[j.2 a g];exact e) J
  ·intro z y;unfold lG at y;split at y
   ·exact⟨(u z y).1.keepsS C λa o g e=>by rw[j.2 a g];exact e,(u z y).2⟩
   ·rcases ay.mp y with T|T
    ·exact⟨(u z T).1.keepsS C λa o g e=>by rw[j.2 a g];exact e,(u z T).2⟩
    ·rw[cb.mp T];exact⟨(d m).keepsS C λa o g e=>by rw[j.2 a g];exact e,hd⟩
  ·exact q U tk (λc o h1 h4 e=>k3 c o h1 h4 (kk c o h1 h4 e)) x3
def yk{s:cY}{l:cZ}{its:Array cX}{ns:List TK}{Q:cX->cY->Prop}(C:A.handled=aj)(K:A.units+24<cLine)(j:s.heap.IsList l its)(H:eX s.heap ns its.toList)(I:∀ k∈ns,uI k=ai)(hb:ns.length<=76)(q:∀h' tk,(∀c o,s.heap.get? c=wq o->h'.get? c=wq o)->um s.heap.objs.size (ddK ns).length h'->Q (.ref s.heap.objs.size) {s with heap:=h',toks:=tk}):da (model P w) A (call (.type "set") [.ref l]) Q E s:=by
 have g:l<s.heap.objs.size:=by obtain⟨o,e,_⟩:=j;exact hL1 e
 refine vm j λJ G y R B=>?_;have n:(s.heap.push (stO #[] 0 (.fresh 0 0 (!jH w)))).objs.size=s.heap.objs.size+1:=by rw[hZ1]
 have u:(s.heap.push (stO #[] 0 (.fresh 0 0 (!jH w)))).get? s.heap.objs.size=wq (stO #[] 0 (.fresh 0 0 (!jH w))):=hS1 _ ag;have i:∀{h d:db} {a:List TK} {b:List cX},(∀{k v},eO h k v->eO d k v)->eX h a b->eX d a b:=λ{h d a b} f m=>by
  induction a generalizing b with
  |nil=>cases m;exact .nil
  |cons k a ih=>cases m with|cons r t=>exact .cons (f r) (ih t)
 refine xu (its:=its) (ns:=ns) (G.trans C) (by lia) I hb (nG1 g) (nN1 (br _)) (nG1 (cc g)) _ 0 _ [] rfl (aZ _) ?_ ?_ ?_ ?_ (λz p=>by cases p) ag λh' tk k x=>B _ (q h' tk (λc o e=>k c o (nN1 (hL1 e)) (nN1 (cc (hL1 e))) (hP1 _ (hP1 _ e))) x)
 ·refine⟨{cls:=.type "list_iterator",data:=.fields #[.ref l,.int 0 0]},?_,ag,ag⟩;have this:((s.heap.push (stO #[] 0 (.fresh 0 0 (!jH w)))).push {cls:=.type "list_iterator",data:=.fields #[.ref l,.int 0 0]}).get? (s.heap.push (stO #[] 0 (.fresh 0 0 (!jH w)))).objs.size=wq {cls:=.type "list_iterator",data:=.fields #[.ref l,.int 0 0]}:=hS1 _ ag;rw[n]at this;exact this
 ·obtain⟨o,e,r⟩:=j;exact⟨o,hP1 _ (hP1 _ e),r⟩
 ·exact i (λx=>x.grows λa o e=>hP1 _ (hP1 _ e)) H
 ·exact⟨bg,#[],0,_,hP1 _ u,sTT.fresh _,ag,(λe D=>by simp at D),(λk F=>by cases F),ag⟩
end
def pB:List D->Option (List TK)
 |[]=>wq []
 |d::ds=>(iI d).bind λk=>(pB ds).map (k :: ·)
def tK:∀{ds:List D} {ks:List TK},pB ds=wq ks->kr ks=ds/\(∀k∈ks,uI k=ai)/\ks.length=ds.length
 |[],ks,h=>by cases h;exact⟨ag,(λk l=>by cases l),ag⟩
 |d::ds,ks,h=>by
  rw[pB]at h;obtain⟨k,f,h⟩:=oB1.mp h;obtain⟨g,m,h⟩:=oM1.mp h;subst h;obtain⟨h1,h2,xs,b⟩:=nb f;obtain⟨c,j,i⟩:=tK m;refine⟨by rw[kr,h1,c],λe a=>?_,by simp[i]⟩;rcases aw.mp a with z|z
  ·subst z;subst b;simpa[uI]using h2
  ·exact j e z
def jF:G1:=λd S=>match dG S d with
 |some (ai,xs)=>(pB xs).bind λks=>if ks.length<=76 then wq (.int (ddK ks).length,S)else aj
 |_=>aj
section
variable{X:Cx}
def Iz(X:Cx)(vs:List V)(H:Hp)(Q:VK):Prop:=∃a xs ks mu,vs=[.ref a]/\lJ X.K H a xs/\dB X.K H mu (kr ks) xs/\(∀k∈ks,uI k=ai)/\ks.length<=76 /\ ∀p,H p=aj->Q (.ref p) (upd H p (.ext (um p (ddK ks).length)))
def IA(X:Cx)(vs:List V)(H:Hp)(Q:VK):Prop:=∃a n,vs=[.ref a]/\H a=wq (.ext (um a n))/\Q (.int n) H
def Hq(hc:X.calm=ai)(v:X.A.units+64<cLine):eg X (.type "set") (Iz X):=by
 intro pins s σ H xs w Q I r h;obtain⟨a,vs,ks,mu,rfl,m,i,l,d,q⟩:=h;obtain⟨u,rfl,r2⟩:=gX r;cases r2;obtain⟨g,f,p,n⟩:=I.list m;have j:=uJ I ks i f;refine yk (I.ok.hd hc) (by lia) p.isList (by simpa using j) l d λh' tk keep c=>?_;have b:=I.hok.fresh (nR1 s.heap.objs.size);refine⟨.ref s.heap.objs.size,_,I.laid (t':=tk) (o:=.ext (um s.heap.objs.size (ddK ks).length)) keep (nR1 _) ⟨c,?_,λh1 h2 ⟨es,ep,t,e,r⟩ k=>⟨es,ep,t,k _ e,r⟩⟩,ag,q _ b⟩;obtain⟨es,ep,t,e,_⟩:=c;exact⟨_,e⟩
def Hr:eg X (.builtin "len") (IA X):=by
 intro pins s σ H xs g Q I r h;obtain⟨a,n,rfl,d,q⟩:=h;obtain⟨u,rfl,r2⟩:=gX r;cases r2;obtain⟨⟨es,ep,t,e,c,b,f⟩,_⟩:=(show eB X.prog X.w H s.heap a (.ext (um a n))from I.hok a _ d);refine PySem.call_len_set e (by first|exact rfl|exact⟨rfl,rfl,rfl⟩|exact⟨rfl,rfl⟩) rfl c (by lia) ?_;refine⟨.int es.size,H,I.tok _,⟨_,ag⟩,?_⟩;rw[b];exact q
def yF (hc:X.calm=true)(x:X.A.units+64<cLine){o:Expr}{m:FE}{p p2 pos b:Pos}(hg:Gl X "len")(hm:X.mg "len"=none)(hg2:Gl X "set")(hm2:X.mg "set"=none)(ho:XE X o m)
  (he:c8 [.Call (.Name "set" p2) [o] [] b] X.env=[(ah,eval (.Call (.Name "set" p2) [o] [] b) X.env)]:=by rfl) (c:c8 [o] X.env=[(ah,eval o X.env)]:=by rfl):XE X (.Call (.Name "len" p) [.Call (.Name "set" p2) [o] [] b] [] pos) (mN (b1 jF) (dh m di)):=
 ⟨ee (nQ Hr hg hm (by decide+kernel) (iT (jT (Hq hc x) hg2 hm2 (by decide+kernel) (iT ho.h lR c) (he:=c)) lR he) (he:=he)) <| by
  rintro σ H Q ⟨r,mu,S,d,F,he,j,hm,e⟩;obtain⟨⟨ds,D⟩,f,hm⟩:=oB1.mp hm;obtain⟨⟨y,E⟩,A,f⟩:=oB1.mp f;cases f;dsimp only[b1,jF]at hm;split at hm
  ·rename_i xs B;obtain⟨ns,s,hm⟩:=oB1.mp hm;split at hm
   ·rename_i k;cases hm;refine⟨r,mu,S,y,_,he,j,A,λv H1 mu1 i w g=>?_⟩;obtain⟨a,vs,rfl,q,t⟩:=dA w g B;obtain⟨C,l,_⟩:=tK s;refine⟨a,vs,ns,mu1,ag,q,by rw[C];exact t,l,k,λp h=>?_⟩;refine⟨p,(ddK ns).length,ag,dP,?_⟩;have z:Ext mu1 mu1 H1 (upd H1 p (.ext (um p (ddK ns).length))):=Ext.fresh h;have n:=g.fresh (u:=.ext (um p (ddK ns).length)) h;exact e _ _ mu1 (i.trans z) (.int _) n
   ·cases hm
  ·cases hm⟩
end
section
variable{X:Cx}{pos:Pos}
def gn(i:Nat){x:Str}(hN:X.N.Nodup)(hi:X.N[i]?=wq x:=by rfl)(hx:yr X.env.scope x:=by first|exact Or.inl rfl|exact Or.inr rfl)(hf:X.fn x=ai\/X.env.scope.names.lookup x=wq .local:=by first|exact .inl rfl|exact .inr rfl|assumption):XG X (.Name x pos) (gN i):=qO i hN hi hx hf
def ce{op:CmpOp}{x y:Expr}{f:FN}{a b:FE}(ho:fZ X (compareOp op) (r2 X.K f))(hx:XE X x a)(hy:XE X y b)(hm:behindInMarks op y=ah:=by exact Ac _):XE X (.Compare x [op] [y] pos) (m2 f a b):=BX ho hx hy hm
def ct{op:CmpOp}{x y:Expr}{f:FN}{a b:FE}(ho:fZ X (compareOp op) (r2 X.K f))(hx:XE X x a)(hy:XE X y b)(hm:behindInMarks op y=ah:=by exact Ac _):XT X (.Compare x [op] [y] pos) (mB (m2 f a b)):=qX ho hx hy hm
def kc{a:dg}{i:Nat}{l:List Nat}(x:Str)(r:∀i∈l,∃x,X.N[i]?=wq x/\a.names.lookup x=wq .free/\(X.env.kindOf x=wq .cell\/X.env.kindOf x=wq .free)/\(x,NameKind.cell)∉a.names)(h1:X.N[i]?=wq x:=by rfl)(h2:a.names.lookup x=wq .free:=by rfl)(b:X.env.kindOf x=wq .cell\/X.env.kindOf x=wq .free:=by first|exact Or.inl rfl|exact Or.inr rfl)(c:(x,NameKind.cell)∉a.names:=by decide+kernel):∀j∈i::l,∃x,X.N[j]?=wq x/\a.names.lookup x=wq .free/\(X.env.kindOf x=wq .cell\/X.env.kindOf x=wq .free)/\(x,NameKind.cell)∉a.names:=List.forall_mem_cons.mpr ⟨⟨x,h1,h2,b,c⟩,r⟩
end
structure dX (K:Fg1)(x:Str)(st:df)(f:cZ):Prop where
 ns:wN1 K c7 x=some (some (.ref f))
 fn:∃fd,xc K x x st f fd
def JD{K:Fg1}{x:Str}{st:df}{f:cZ}{i:cX}{j h:Option cZ}{e:Array (Option cX)}{kV d g b ct:cX}(a:wN1 K c7 x=wq (wq (.ref f)))(l:K.lookup f=wq ⟨i,j,.func (wF1 x x (ip st) (ff st) (dH st) .none kV d g h b ct),e⟩)(c:wC1 K b x=ai)(k:wK1 K (.ref f)=ai):dX K x st f:=⟨a,_,AZ l c k⟩
def xo{P:c0}{w:c6}{K:Fg1}{mg:Str->Option cX}{base h:db}{x:Str}{st:df}{f:cZ}{N ps:List Str}{k n:Nat}{b:FS}(X:K.In h)(G:h.Ns c7 mg)(F:dX K x st f)(S:gw N ps (dH st))(hb:∀(kV e j:cX) (l:Option cZ) (a ct:cX) (g:List cX),g.length=ps.length->bindArgs (wF1 x x (ip st) (ff st) (dH st) .none kV e j l a ct) ⟨g,[]⟩=pure (ps.zip g))(d:∀(f:cZ) (a:cX) (A:c5) (c:List Env) (s:cY) (H:Hp) (E:XK),fC k (A.deeper (envOfC x (dH st) s.heap.objs.size f a)) ->
   vv (mX ur P w K mg base N x (dH st) f a A c s H E).nox (ff st) b)(hn:ps.length=n:=by rfl):Own P w K mg base (k+1) x n (hZ N.length b):=by
 obtain⟨fd,i⟩:=F.fn;exact vG i (i.binds hb) (wM1 X G F.ns) S hn (d f)
section
variable{X:Cx}{pins:List (cZ×Obj)}{σ:L2.St}{H:Hp}{s:cY}{mu:List cZ}
end
section
variable{P:c0}{w:c6}{A:c5}{E:cX->cY->Prop}{s:cY}{a x:cZ}{xs:List (TK×cZ×cX)}{k:TK}
end
section
variable{X:Cx}
end
section
variable{X:Cx}{o e:Expr}{es:List Expr}{to:TE}{t:TA}{name:Str}{apos cpos:Pos}{id:String}{r:V->List V->Hp->VK->Prop}
end
section
variable{X:Cx}
end
def xP(f g k:FN)(a b c d:FE):FE:=λr S=>(a r S).bind λp=>(b r p.2).bind λq=>(f [p.1,q.1] q.2).bind λt=>match t.1 with
 | .bl j=>if j=true then (c r t.2).bind fun z=>(g [q.1,z.1] z.2).bind fun t2=>match t2.1 with
   | .bl j2=>if j2=ai then(d r t2.2).bind λy=>k [z.1,y.1] y.2 else wq (.bl ah,t2.2)
   |_=>aj
  else wq (.bl ah,t.2)
 |_=>aj
def vT(r r' r'':R2)(ta tb tc td:TE):TE:=fun σ H Q=>ta σ H λx H1=>tb σ H1 λy H2=>r x y H2 λz H3=>∃k,z = .bl k /\
 (if k=ai then tc σ H3 λw' H4=>r' y w' H4 λz2 H5=>∃k2,z2 = .bl k2/\(if k2=ai then td σ H5 λw2 H6=>r'' w' w2 H6 Q else Q (.bl ah) H5)else Q (.bl ah) H3)
section
variable{X:Cx}{x y z u:Expr}{pos:Pos}{f g k:FN}{a b c d:FE}{op op' op'':CmpOp}{ta tb tc td:TE}
def xC{r l b:R2}(ho:fZ X (compareOp op) r)(ho':fZ X (compareOp op') l)(a:fZ X (compareOp op'') b)(ha:PE X x ta)(hb:PE X y tb)(hc:PE X z tc)(hd:PE X u td)(hm:lastMarks [op,op',op''] [y,z,u]=ah:=by with_unfolding_all rfl):PT X (.Compare x [op,op',op''] [y,z,u] pos) (Eh (vT r l b ta tb tc td)):=by
 intro pins s σ H Q I h;refine isTrue_chain (eR (ha pins s σ H _ I h) λv M ⟨x,H1,Y,K,q1⟩=>test_link (eR (hb pins M σ H1 _ Y q1) λu G ⟨y,H2,I2,r2,D⟩=>
  eR (ho pins G σ H2 x y v u _ I2 K r2 D) λd V ⟨z,j,p,S,k,e,i⟩=>?_)) hm
 subst e;cases S;refine wpAny_truthy_bool ?_;cases k with
 |false=>
  obtain⟨B,f,c⟩:=i;cases f;exact ite_ff ⟨j,p,c⟩
 |true=>
  refine ite_tt (test_link (eR (hc pins V σ j _ p i) λt J ⟨n,P,A,m,q4⟩=>eR (ho' pins J σ P y n u t _ A r2 m q4) λd' s5 ⟨z2,q,g,L,F,U,o⟩=>?_));subst U;cases L;refine wpAny_truthy_bool ?_;cases F with
  |false=>
   obtain⟨B,f,c⟩:=o;cases f;exact ite_ff ⟨q,g,c⟩
  |true=>
   refine ite_tt (test_last (eR (hd pins s5 σ q _ g o) λw2 w ⟨Z,H6,C,T,E⟩=>eR (a pins w σ H6 n Z t w2 _ C m T E) λd2 s7 ⟨z4,O,N,r7,k3,R,W⟩=>?_));subst R;cases r7;exact wpAny_truthy_bool ⟨O,N,W⟩
def Dd{K:Fg1}{σ:L2.St}{H:Hp}{Q:VK}(h:tM K (xP f g k a b c d) σ H Q):vT (r2 K f) (r2 K g) (r2 K k) (tM K a) (tM K b) (tM K c) (tM K d) σ H Q:=by
 obtain⟨r,mu,S,d0,S',q,R,e,hc⟩:=h;obtain⟨⟨M,D⟩,e1,e⟩:=oB1.mp e;obtain⟨⟨v,L⟩,e2,e⟩:=oB1.mp e;obtain⟨⟨E,B⟩,e3,e⟩:=oB1.mp e;refine⟨r,mu,S,M,D,q,R,e1,λv1 H1 mu1 i W s1=>?_⟩;refine⟨r,mu1,D,v,L,q.ext i,s1,e2,λv2 H2 w x2 r2 U=>?_⟩;refine⟨w,L,[M,v],E,B,.cons (W.ext x2) (.cons r2 .nil),U,e3,λv3 Y n l r3 I=>?_⟩;cases E with
 |bl j=>
  cases r3;refine⟨j,ag,?_⟩;cases j with
  |false=>cases e;exact hc _ Y n ((i.trans x2).trans l) (.bl ah) I
  |true=>
   obtain⟨⟨u,y⟩,T,e⟩:=oB1.mp e;obtain⟨⟨A,J⟩,e5,e⟩:=oB1.mp e;refine⟨r,n,B,u,y,q.ext ((i.trans x2).trans l),I,T,λv4 H4 x o F V=>?_⟩;refine⟨x,y,[v,u],A,J,.cons ((r2.ext l).ext o) (.cons F .nil),V,e5,λv5 H5 m p Z N=>?_⟩;cases A with
   |bl C=>
    cases Z;refine⟨C,ag,?_⟩;cases C with
    |false=>cases e;exact hc _ H5 m ((((i.trans x2).trans l).trans o).trans p) (.bl ah) N
    |true=>
     obtain⟨⟨G,z⟩,P,e⟩:=oB1.mp e;refine⟨r,m,J,G,z,q.ext ((((i.trans x2).trans l).trans o).trans p),N,P,λv6 H6 s x6 r6 O=>?_⟩;exact⟨s,z,[u,G],d0,S',.cons ((F.ext p).ext x6) (.cons r6 .nil),O,e,λX H7 t x7 r7 s7=>hc X H7 t ((((((i.trans x2).trans l).trans o).trans p).trans x6).trans x7) r7 s7⟩
   |_=>cases e
 |_=>cases e
def uA(ho:fZ X (compareOp op) (r2 X.K f))(ho':fZ X (compareOp op') (r2 X.K g))(e:fZ X (compareOp op'') (r2 X.K k))(hx:XE X x a)(hy:XE X y b)(hz:XE X z c)(l:XE X u d)(hm:lastMarks [op,op',op''] [y,z,u]=false:=by with_unfolding_all rfl):
  XT X (.Compare x [op,op',op''] [y,z,u] pos) (mB (xP f g k a b c d)):=
 ⟨qw (xC ho ho' e hx.h hy.h hz.h l.h hm) fun σ H Q h=>by
  obtain⟨r,mu,S,d,p,o,m,hm,hc⟩:=Eu h;exact Dd ⟨r,mu,S,d,p,o,m,hm,λv H' mu' j i n=>hc v H' mu' j i n⟩⟩
end
structure Blt (L:List Str)(mg:Str->Option cX):Prop where
 h:∀x∈L,mg x=none
def bz{L:List Str}{mg:Str->Option cX}{x:Str}(B:Blt L mg)(h:x∈L:=by decide):mg x=aj:=B.h x h
def sk{N P:List Str}{sc:dg}(h1:sc.kind = .function:=by rfl)(h2:sc.isCoroutine=ah:=by rfl)(a:sc.isGenerator=ah:=by rfl)(c:N.Nodup:=by decide+kernel)(d:N.take P.length=P:=by rfl)(e:∀x∈P,sc.names.lookup x=wq .local\/sc.names.lookup x=wq .cell:=by decide+kernel)(b:∀y∈sc.names,y.2 ≠ .free:=by decide+kernel):gw N P sc:=⟨h1,h2,a,c,d,e,b⟩
def J0(K:Fg1):List Str->Prop
 |[]=>True
 |x::l=>wN1 K c7 x=wq aj/\J0 K l
def J0.blt{K:Fg1}{mg:Str->Option cX}{h:db}(X:K.In h)(G:h.Ns c7 mg):∀{L:List Str},J0 K L->Blt L mg
 |[],_=>⟨λ_ m=>nomatch m⟩
 |_::_,z=>⟨λ_ m=>match m with
  | .head _=>PySem.W.mg_none_of X G z.1
  | .tail _ m=>(J0.blt X G z.2).h _ m⟩
def Kj:List Str->Bool
 |[]=>ai
 |x::l=> !l.contains x&&Kj l
def kf:∀{l:List Str},Kj l=ai->l.Nodup
 |[],_=>bg
 |x::l,h=>by
  obtain⟨a,b⟩:=(bA1 _ _).mp h;exact aG.mpr ⟨λm=>(by rw[List.contains_iff_mem.mpr m]at a;cases a),kf b⟩
section
variable{X:Cx}{pos:Pos}{k:Nat}{x:Str}{i:Nat}{e y:Expr}{es:List Expr}{m b:FE}{a:FA}{p:Pos}
def xv (hN:X.N[i]?=wq x:=by rfl)(hv:D9 X.env.scope x:=by first|exact Or.inl rfl|exact Or.inr (Or.inl rfl)|exact Or.inr (Or.inr rfl))(hd:(x == ("__debug__":Str))=ah:=by decide)(hcd:(x == ("__classdict__":Str))=ah:=by decide):XE X (.Name x pos) (mV i):=LR i hN hv hd hcd
def gq(hN:Kj X.N=ai:=by rfl)(hi:X.N[i]?=wq x:=by rfl)(hx:yr X.env.scope x:=by first|exact Or.inl rfl|exact Or.inr rfl)(hf:X.fn x=ai\/X.env.scope.names.lookup x=wq .local:=by first|exact .inl rfl|exact .inr rfl|assumption):XG X (.Name x pos) (gN i):=qO i (kf hN) hi hx hf
def sq(he:XE X e m)(hN:Kj X.N=ai:=by rfl)(hi:X.N[i]?=wq x:=by rfl)(hx:yr X.env.scope x:=by first|exact Or.inl rfl|exact Or.inr rfl)(hs:swapsWith e (wq (.Name x p)) pos.line X.env=pure ah:=by rfl)(hf:X.fn x=ai\/X.env.scope.names.lookup x=wq .local:=by first|exact .inl rfl|exact .inr rfl|assumption):XS X (.Assign [.Name x p] e pos) (dD m (gN i)):=qY i (kf hN) hi hx he hs hf
def jq(hx:XE X e m)(hy:XE X y b)(hr:fC k X.A:=by assumption)(hs:nj y:=by intro _ _;rfl):XE X (.Subscript e y pos) (m2 (b2 dt) m b):=qJ (qP hr.units) hx hy hs
def oq{O:Prop}(o:X.A.units+64<cLine->O)(hr:fC k X.A:=by assumption):O:=o hr.units
def wn {k' n:Nat}{f:FN}(h:Own X.prog X.w X.K X.mg X.base k x n f)(ha:XA X (e::es) a)(hr:fC k' X.A:=by assumption)(hk:k<=k':=by first|decide|omega)(hg:Gl X x:=by rfl)(hdb:(x == ("__debug__":Str))=ah:=by decide)(he:c8 (e::es) X.env=(ah,eval e X.env)::c8 es X.env:=by rfl)(hpl:(backTo pos (c8 es X.env)).any (·.1)=ah:=by rfl):XE X (.Call (.Name x p) (e::es) [] pos) (mN (dm n f) a):=qH h hr hk hg ha hdb he hpl
def cn {id:String}{f:FN}(hc:eg X (.builtin id) (rN X.K f))(ha:XA X (e::es) a)(hm:X.mg x=aj:=by exact bz (by assumption))(hg:Gl X x:=by rfl)(hv:bootBuiltins x=wq (.builtin id):=by decide+kernel)(hn:x≠"__name__":=by decide)(hdb:(x == ("__debug__":Str))=ah:=by decide)(he:c8 (e::es) X.env=(ah,eval e X.env)::c8 es X.env:=by rfl)(hpl:(backTo pos (c8 es X.env)).any (·.1)=ah:=by rfl):XE X (.Call (.Name x p) (e::es) [] pos) (mN f a):=qD hc hg hm hv ha hn hdb he hpl
def cz {T:String}{f:FN}(hc:eg X (.type T) (rN X.K f))(ha:XA X (e::es) a)(hm:X.mg x=aj:=by exact bz (by assumption))(hg:Gl X x:=by rfl)(hv:bootBuiltins x=wq (.type T):=by decide+kernel)(hn:x≠"__name__":=by decide)(hdb:(x == ("__debug__":Str))=ah:=by decide)(he:c8 (e::es) X.env=(ah,eval e X.env)::c8 es X.env:=by rfl)(hpl:(backTo pos (c8 es X.env)).any (·.1)=ah:=by rfl):XE X (.Call (.Name x p) (e::es) [] pos) (mN f a):=qE hc hg hm hv ha hn hdb he hpl
def a1(h:XE X e m)(hs:c8 [e] X.env=(ah,eval e X.env)::c8 [] X.env:=by rfl):XA X [e] (dh m di):=qA h qN hs
def a2(h:XE X e m)(g:XE X y b)(hs:c8 [e,y] X.env=(ah,eval e X.env)::c8 [y] X.env:=by rfl)(hs2:c8 [y] X.env=(ah,eval y X.env)::c8 [] X.env:=by rfl):XA X [e,y] (dh m (dh b di)):=qA h (a1 g hs2) hs
def a3{z:Expr}{c:FE}(h:XE X e m)(g:XE X y b)(l:XE X z c)(hs:c8 [e,y,z] X.env=(ah,eval e X.env)::c8 [y,z] X.env:=by rfl)(hs2:c8 [y,z] X.env=(ah,eval y X.env)::c8 [z] X.env:=by rfl)(a:c8 [z] X.env=(ah,eval z X.env)::c8 [] X.env:=by rfl):XA X [e,y,z] (dh m (dh b (dh c di))):=qA h (a2 g l hs2 a) hs
def ir (ha:XA X [e] a)(hm:X.mg "range"=aj:=by exact bz (by assumption))(hg:Gl X "range":=by rfl)(hs:c8 [e] X.env=[(ah,eval e X.env)]:=by rfl):XI X y (.Call (.Name "range" p) [e] [] pos) (sv a):=uB hg hm ha hs
def ie {elts:List Expr}{b:Nat}{tpos:Pos}(ha:XA X [e] a)(hm:X.mg "enumerate"=aj:=by exact bz (by assumption))(hg:Gl X "enumerate":=by rfl)(hs:c8 [e] X.env=[(ah,eval e X.env)]:=by rfl):XI X (.Tuple elts b tpos) (.Call (.Name "enumerate" p) [e] [] pos) (og a):=yE hg hm ha hs
def ii {T:Ty}{p2:Pos}(h:XE X e m)(hm:X.mg "isinstance"=aj:=by exact bz (by assumption))(hm2:X.mg x=aj:=by exact bz (by assumption))(hg:Gl X "isinstance":=by rfl)(hg2:Gl X x:=by rfl)(hv2:bootBuiltins x=wq (.type T.nm):=by decide+kernel)(hn:x≠"__name__":=by decide)(hd:(x == ("__debug__":Str))=ah:=by decide)(hs1:c8 [e,.Name x p2] X.env=(ah,eval e X.env)::c8 [.Name x p2] X.env:=by rfl)(hs2:c8 [.Name x p2] X.env=(ah,eval (.Name x p2) X.env)::c8 [] X.env:=by rfl)(hpl:(backTo pos (c8 [.Name x p2] X.env)).any (·.1)=ah:=by rfl):XE X (.Call (.Name "isinstance" p) [e,.Name x p2] [] pos) (iG T m):=uC T hg hm hg2 hm2 hv2 h hn hd hs1 hs2 hpl
def lq {f:FN}{name:Str}{apos:Pos}{id:String}(slot:Slot "list" name id)(hty:typeOf (.builtin id)=pure (.type "method_descriptor"))(hm:HK X id (λx xs H Q=>rN X.K f (x::xs) H Q))(ho:XE X y m)(ha:XA X (e::es) a)(hbase:attributeBase y name X.env (eval y X.env)=eval y X.env:=by rfl)(hfew:((backTo pos (c8 (e::es) X.env)).all (λx=> !x.1)&&(backToKw pos (keywordEach [] X.env)).all (λx=>x.1.isSome)&&decide ((e::es).length+([]:List Keyword).length+(if([]:List Keyword).isEmpty then 0 else 1)<30))=ai:=by rfl)(hline:(apos.endLine == pos.line)=ai:=by rfl)(hs:c8 (e::es) X.env=(ah,eval e X.env)::c8 es X.env:=by rfl)(hplain:(backTo pos (c8 es X.env)).any (·.1)=ah:=by rfl):XS X (.Expr (.Call (.Attribute y name apos) (e::es) [] pos) p) (eN (mz f m a)):=yD (qe slot hty hm ho ha hbase hfew hline hs hplain)
def fo{tg iter:Expr}{a:List df}{m:FI}{g:FG}{b:FS}(hi:XI X tg iter m)(hg:XG X tg g)(hb:vv X a b)(hp:PassesOwn (model X.prog X.w) X.A X.env X.xe:=by exact PassesOwn.never)(hc:X.calm=ai:=by rfl)(hs:∀x,foldedSetIterable iter X.env x=pure x:=by intro _;rfl):XS X (.For tg iter a [] pos) (eT m g b):=qW hp hc hi hg hb hs
def tg2{d:Expr}{g h:FG}{a:Nat}(h1:XG X e g)(h2:XG X d h)(hc:X.calm=ai:=by rfl)(hs:(assignEach [e,d] X.env).map (·.2)=assign e X.env::(assignEach [d] X.env).map (·.2):=by rfl)(hs2:(assignEach [d] X.env).map (·.2)=assign d X.env::(assignEach [] X.env).map (·.2):=by rfl)(hn:(assignEach [e,d] X.env).length=2:=by rfl)(hst:(assignEach [e,d] X.env).findIdx? (·.1)=aj:=by rfl):XG X (.Tuple [e,d] a pos) (gT 2 (fv g (fv h jh))):=vH hc (gR h1 (gR h2 sA hs2) hs) hn hst
def Kk(x:Str):List (Str×NameKind)->Bool
 |[]=>ai
 |(y,.cell)::l=> !(y == x)&&Kk x l
 |_::l=>Kk x l
omit k i in
def Ag:∀{l:List (Str×NameKind)},Kk x l=ai->(x,NameKind.cell)∉l
 |[],_,m=>nomatch m
 |(y,c)::l,h,m=>by
  rcases aw.mp m with e|a
  ·cases e;have h:=((bA1 _ _).mp h).1;rw[beq_self_eq_true]at h;cases h
  ·cases c with
   |cell=>exact Ag ((bA1 _ _).mp h).2 a
   |_=>exact Ag (l:=l) h a
def kz{a:dg}{l:List Nat}(r:∀i∈l,∃x,X.N[i]?=wq x/\a.names.lookup x=wq .free/\(X.env.kindOf x=wq .cell\/X.env.kindOf x=wq .free)/\(x,NameKind.cell)∉a.names)(h1:X.N[i]?=wq x:=by rfl)(h2:a.names.lookup x=wq .free:=by rfl)(b:X.env.kindOf x=wq .cell\/X.env.kindOf x=wq .free:=by first|exact Or.inl rfl|exact Or.inr rfl)(c:Kk x a.names=ai:=by rfl):∀j∈i::l,∃x,X.N[j]?=wq x/\a.names.lookup x=wq .free/\(X.env.kindOf x=wq .cell\/X.env.kindOf x=wq .free)/\(x,NameKind.cell)∉a.names:=kc x r h1 h2 b (Ag c)
def LI(X:Cx)(sc:dg):List (Str×cZ):=(j6 X.env.cells sc.names []).getD []
def fk{elt tg iter:Expr}{ifs:List Expr}{scope:dg}(T:List Str){keep:List Nat}{m:FI}{g:FG}{t:FT}{e:FE}(hi:XI X tg iter m)(hb:∀ {s H d},Ll (cxC X scope (LI X scope) T keep s H d) X.K tg ifs elt g t e)(free:∀i∈keep,∃x,X.N[i]?=wq x/\scope.names.lookup x=wq .free/\(X.env.kindOf x=wq .cell\/X.env.kindOf x=wq .free)/\(x,NameKind.cell)∉scope.names:=by first|exact cy _|exact kz (cy _)|exact kz (kz (cy _))|exact kz (kz (kz (cy _)))|exact kz (kz (kz (kz (cy _)))))(hc:X.calm=ai:=by rfl)(b:scope.kind = .function:=by rfl)(a:∀x∈scope.names,x.2 = .local->scope.names.lookup x.1=wq .local:=by decide+kernel)(c:j6 X.env.cells scope.names []=wq (LI X scope):=by rfl)(hs:∀x,foldedSetIterable iter X.env x=pure x:=by intro _;rfl):XE X (.ListComp elt [⟨tg,iter,ifs,0⟩] scope pos) (eG T.length keep m g t (d9 e)):=qZ hc ⟨b,a,free⟩ c hi (λ_ _ _=>hb) hs
end
def xq{P:c0}{w:c6}{K:Fg1}{mg:Str->Option cX}{base h:db}{x:Str}{st:df}{f:cZ}{k n:Nat}{b:FS}(N:List Str)(X:K.In h)(G:h.Ns c7 mg)(F:dX K x st f)(d:∀{f:cZ} {a:cX} {A:c5} {c:List Env} {s:cY} {H:Hp} {E:XK},fC k (A.deeper (envOfC x (dH st) s.heap.objs.size f a)) ->
   vv (mX ur P w K mg base N x (dH st) f a A c s H E).nox (ff st) b)(S:gw N (N.take n) (dH st):=by exact sk)(hb:∀(kV i j:cX) (l:Option cZ) (a ct:cX) (g:List cX),g.length=(N.take n).length->bindArgs (wF1 x x (ip st) (ff st) (dH st) .none kV i j l a ct) ⟨g,[]⟩=pure ((N.take n).zip g):=by
   intro _ _ _ _ _ _ g e;first|exact LF e λ_=>rfl|exact LD e λ_ _=>rfl|exact KZ e λ_ _ _=>rfl|exact Mm e λ_ _ _ _=>rfl)(hn:(N.take n).length=n:=by rfl):Own P w K mg base (k+1) x n (hZ N.length b):=xo X G F S hb (λ_ _ _ _ _ _ _ m=>d m) hn
def W{α:Type}(o:Option α)(Q:α->Prop):Prop:=∃x,o=wq x/\Q x
section
variable{α β:Type}{Q:α->Prop}
def dr{x:α}:W (wq x) Q↔Q x:=⟨λ⟨_,e,h⟩=>(by cases e;exact h),λh=>⟨x,ag,h⟩⟩
def kE:W (aj:Option α) Q↔False:=⟨λ⟨_,e,_⟩=>(by cases e),False.elim⟩
def dj{o:Option β}{f:β->Option α}:W (o.bind f) Q↔W o λx=>W (f x) Q:=by
 cases o with
 |none=>exact⟨λ⟨_,e,_⟩=>(by cases e),λ⟨_,e,_⟩=>(by cases e)⟩
 |some x=>exact⟨λh=>⟨x,ag,h⟩,λ⟨_,e,h⟩=>by cases e;exact h⟩
def kn{o:Option β}{f:β->α}:W (o.map f) Q↔W o λx=>Q (f x):=by
 cases o with
 |none=>exact⟨λ⟨_,e,_⟩=>(by cases e),λ⟨_,e,_⟩=>(by cases e)⟩
 |some x=>exact⟨λ⟨_,e,h⟩=>(by cases e;exact⟨x,ag,h⟩),λ⟨_,e,h⟩=>(by cases e;exact⟨_,ag,h⟩)⟩
def p7{c:Prop}[Decidable c]{a b:Option α}:W (if c then a else b) Q↔if c then W a Q else W b Q:=by split<;>exact Iff.rfl
def W.mono{o:Option α}{Q':α->Prop}(h:W o Q)(k:∀x,Q x->Q' x):W o Q':=let ⟨x,e,q⟩:=h;⟨x,e,k x q⟩
def W.of{o:Option α}{x:α}(e:o=wq x)(h:Q x):W o Q:=⟨x,e,h⟩
end
def dJ{a b:FS}{r:Ev}{S:Sto}{Q:Fl×Ev×Sto->Prop}(R:Ev->Sto->Prop)(h1:W (a r S) λp=>p.1 = .nx/\R p.2.1 p.2.2)(h2:∀r S,R r S->W (b r S) Q):W (dv a b r S) Q:=by
 obtain⟨⟨f,h,g⟩,e,c,d⟩:=h1;dsimp only at c d;subst c;unfold dv;rw[e];exact h2 h g d
def ji{n:Nat}{b:FS}{ds:List D}{S:Sto}{Q:D×Sto->Prop}(h:W (b (e9 n ds) S) fun p=>match p.1 with
  | .rt d=>Q (d,p.2.2)
  | .nx=>Q (.non,p.2.2)
  |_=>False):W (hZ n b ds S) Q:=by
 obtain⟨⟨f,c,a⟩,e,q⟩:=h;unfold hZ;rw[e];cases f with
 |rt d=>exact⟨_,ag,q⟩
 |nx=>exact⟨_,ag,q⟩
 |bk=>exact q.elim
 |ct=>exact q.elim
def oE{n:Nat}{f:FN}{ds:List D}{S:Sto}{Q:D×Sto->Prop}(hn:ds.length=n)(a:D.unds 0 ds=ah)(h:W (f ds S) λp=>Q (gc S.length p)):W (dm n f ds S) Q:=by
 obtain⟨⟨d,b⟩,e,q⟩:=h;exact⟨_,pT e hn a,q⟩
def iL{n:Nat}{f:FN}{ds:List D}{S:Sto}{Q:D×Sto->Prop}(hn:ds.length=n)(c:D.unds 0 ds=ai)(h:W (f ds []) λp=>p.1.und 0=ai/\Q (p.1,S)):W (dm n f ds S) Q:=by
 obtain⟨⟨d,g⟩,e,b,a⟩:=h;exact⟨_,yi e hn c b,a⟩
mutual
def kM{n:Nat}:∀{d:D},d.und 0=ai->d.und n=ai
 | .non,_=>rfl
 | .bl _,_=>rfl
 | .int _,_=>rfl
 | .str _,_=>rfl
 | .tup xs,h=>by rw[D.und]at h ⊢;exact jP h
 | .rol xs,h=>by rw[D.und]at h ⊢;exact jP h
 | .fn _,_=>rfl
 | .ref k,h=>by simp[D.und]at h
def jP{n:Nat}:∀{ds:List D},D.unds 0 ds=ai->D.unds n ds=ai
 |[],_=>rfl
 |d::ds,h=>by
  rw[D.unds,bA1]at h ⊢;exact⟨kM h.1,jP h.2⟩
end
def ug{n:Nat}{f:FN}{ds:List D}{o:Ob}{T:Sto}{Q:D×Sto->Prop}(hn:ds.length=n)(g:D.unds 0 ds=ah)(c:T.all (Ob.und (T.length+1))=ai)(h:W (f ds (o::T)) λp=>∃d o' G,p=(d,o'::(T++G))/\d.und 0=ai/\o'.und (T.length+1)=ai/\Q (d,o'::T)):W (dm n f ds (o::T)) Q:=by
 refine oE hn g (h.mono ?_);rintro p ⟨d,o',G,rfl,a,b,q⟩;have e:(o'::(T++G)).take (T.length+1)=o'::T:=by simp
 unfold gc;dsimp only[lC1];rw[if_pos (by rw[e,kM a,bH,b,c];rfl),e];exact q
def eA{c:List (Nat×List D)}{g:FG}{b:FS}{Q:Fl×Ev×Sto->Prop}(I:Nat->Ev->Sto->Prop):∀ (items:List D) (k:Nat) (r:Ev) (S:Sto),I k r S ->
  (∀i r S,I i r S->oY S c=ai) ->
  (∀i d,items[i]?=wq d -> ∀r S,I (k+i) r S->W (g d r S) λp=>W (b p.1 p.2) λq=>q.1 = .nx/\I (k+i+1) q.2.1 q.2.2) ->
  (∀r S,I (k+items.length) r S->Q (.nx,r,S))->W (jb c g b items r S) Q
 |[],k,r,S,hi,hok,_,hq=>by rw[jb];dsimp only;rw[if_pos (hok _ _ _ hi),dr];exact hq r S (by simpa using hi)
 |d::ds,k,r,S,hi,hok,hs,hq=>by
  rw[jb];dsimp only;rw[if_pos (hok _ _ _ hi),dj];obtain⟨p,m,h1⟩:=hs 0 d ag r S (by simpa using hi);refine⟨p,m,?_⟩;dsimp only;rw[dj];obtain⟨⟨f,j,o⟩,l,h2,e⟩:=h1;refine⟨_,l,?_⟩;dsimp only at h2 e ⊢;subst h2;refine eA I ds (k+1) j o (by simpa using e) hok (λi h n r S a=>?_) λr S a=>hq r S (by rw[lC1,show k+(ds.length+1)=k+1+ds.length by lia];exact a);have:=hs (i+1) h (by simpa using n) r S (by rw[show k+(i+1)=k+1+i by lia];exact a);rw[show k+(i+1)+1=k+1+i+1 by lia]at this;exact this
def io{c:List (Nat×List D)}{g:FG}{t:FT}{e:FE}{Q:List D×Ev×Sto->Prop}(I:Nat->List D->Ev->Sto->Prop):∀ (items:List D) (k:Nat) (a:List D) (r:Ev) (S:Sto),I k a r S ->
  (∀i a r S,I i a r S->oY S c=ai) ->
  (∀i d,items[i]?=wq d -> ∀a r S,I (k+i) a r S->W (g d r S) λp=>W (t p.1 p.2) λb=>if b.1=ai then W (e p.1 b.2) λx=>I (k+i+1) (a++[x.1]) p.1 x.2 else I (k+i+1) a p.1 b.2) ->
  (∀xs r S,I (k+items.length) (a++xs) r S->Q (xs,r,S))->W (gh c g t (d9 e) items r S) Q
 |[],k,a,r,S,hi,hok,_,hq=>by rw[gh];dsimp only;rw[if_pos (hok _ _ _ _ hi),dr];exact hq [] r S (by simpa using hi)
 |d::ds,k,a,r,S,hi,hok,hs,hq=>by
  rw[gh];dsimp only;rw[if_pos (hok _ _ _ _ hi),dj];obtain⟨p,n,h1⟩:=hs 0 d ag a r S (by simpa using hi);refine⟨p,n,?_⟩;dsimp only;rw[dj];obtain⟨⟨b,s⟩,m,h2⟩:=h1;refine⟨_,m,?_⟩;have step:∀i h,ds[i]?=wq h -> ∀a r S,I (k+1+i) a r S->W (g h r S) λp=>W (t p.1 p.2) λb=>if b.1=ai then W (e p.1 b.2) λx=>I (k+1+i+1) (a++[x.1]) p.1 x.2 else I (k+1+i+1) a p.1 b.2:=λi h o a r S f=>by
   have:=hs (i+1) h (by simpa using o) a r S (by rw[show k+(i+1)=k+1+i by lia];exact f);rw[show k+(i+1)+1=k+1+i+1 by lia]at this;exact this
  dsimp only at h2 ⊢;cases b with
  |true=>
   rw[if_pos ag]at h2 ⊢;rw[dj,d9,kn];obtain⟨⟨x,l⟩,q,j⟩:=h2;refine⟨_,q,?_⟩;dsimp only at j ⊢;rw[kn];refine io I ds (k+1) (a++[x]) p.1 l (by simpa using j) hok step λxs r S f=>?_;refine hq _ r S ?_;rw[lC1,show k+(ds.length+1)=k+1+ds.length by lia];simpa using f
  |false=>
   rw[if_neg (by decide)]at h2 ⊢;refine io I ds (k+1) a p.1 s (by simpa using h2) hok step λxs r S f=>?_;refine hq _ r S ?_;rw[lC1,show k+(ds.length+1)=k+1+ds.length by lia];exact f
def E8{S:Sto}{b:Bool}:qi S (.bl b)=wq b:=rfl
def Kc{S:Sto}:qi S .non=wq ah:=rfl
def Kd{S:Sto}{i:Int}:qi S (.int i)=wq (i != 0):=rfl
def DM{x y:Int}{S:Sto}:gEq (.int x) (.int y) S=wq (.bl (x == y),S):=rfl
def DF{x y:Int}{S:Sto}:gNe (.int x) (.int y) S=wq (.bl (!(x == y)),S):=rfl
def DH{x y:Int}{S:Sto}:gLt (.int x) (.int y) S=wq (.bl (decide (x<y)),S):=rfl
def DL{x y:Str}{S:Sto}:gEq (.str x) (.str y) S=wq (.bl (x == y),S):=rfl
def DD{x y:Str}{S:Sto}:gNe (.str x) (.str y) S=wq (.bl (!(x == y)),S):=rfl
def ite_and'{c p:Prop}[Decidable c]:(if c then p else False)↔c/\p:=by split<;>simp[*]
def yw(j:Int):Bool:=decide (-(2^62)<=j)&&decide (j<2^62)
def fR{n:Nat}(h:n<2^60):yw n=ai:=by
 unfold yw;rw[bA1,decide_eq_true_eq,decide_eq_true_eq];lia
def sd{j:Int}(h: -(2^60)<=j)(h':j<2^60):yw j=ai:=by
 unfold yw;rw[bA1,decide_eq_true_eq,decide_eq_true_eq];lia
def Ix(p:List D×Sto)(Q:yt×Sto->Prop):Prop:=match p.1 with
 |[.int j]=>yw j=ai/\Q (⟨gz 0 j.toNat,[]⟩,p.2)
 |_=>False
def Kh(p:List D×Sto)(Q:yt×Sto->Prop):Prop:=match p.1 with
 |[.int i,.int j]=>yw i=ai/\yw j=ai/\Q (⟨gz i (j-i).toNat,[]⟩,p.2)
 |_=>False
def w8{m:FA}{r:Ev}{S:Sto}{Q:yt×Sto->Prop}:W (sv m r S) Q↔W (m r S) λp=>Ix p Q:=by
 unfold sv;rw[dj];constructor
 ·refine λh=>h.mono λp q=>?_;unfold Ix;split at q
  ·rename_i j e
   try rw[e]
   rw[p7]at q;split at q
   ·rename_i hc;exact⟨by unfold yw;rw[bA1,decide_eq_true_eq,decide_eq_true_eq];exact hc,dr.mp q⟩
   ·exact(kE.mp q).elim
  ·exact(kE.mp q).elim
 ·refine λh=>h.mono λp q=>?_;unfold Ix at q;split at q
  ·rename_i j e;obtain⟨a,b⟩:=q;unfold yw at a;rw[bA1,decide_eq_true_eq,decide_eq_true_eq]at a
   try rw[e]
   try dsimp only
   rw[if_pos a];exact dr.mpr b
  ·exact q.elim
def JV{m:FA}{r:Ev}{S:Sto}{Q:yt×Sto->Prop}:W (HP m r S) Q↔W (m r S) λp=>Kh p Q:=by
 unfold HP;rw[dj];constructor
 ·refine λh=>h.mono λp q=>?_;unfold Kh;split at q
  ·rename_i i j e
   try rw[e]
   rw[p7]at q;split at q
   ·rename_i hc;refine⟨?_,?_,dr.mp q⟩
    ·unfold yw;rw[bA1,decide_eq_true_eq,decide_eq_true_eq];exact⟨hc.1,hc.2.1⟩
    ·unfold yw;rw[bA1,decide_eq_true_eq,decide_eq_true_eq];exact hc.2.2
   ·exact(kE.mp q).elim
  ·exact(kE.mp q).elim
 ·refine λh=>h.mono λp q=>?_;unfold Kh at q;split at q
  ·rename_i i j e;obtain⟨a,b,c⟩:=q;unfold yw at a b;rw[bA1,decide_eq_true_eq,decide_eq_true_eq]at a b
   try rw[e]
   try dsimp only
   rw[if_pos ⟨a.1,a.2,b⟩];exact dr.mpr c
  ·exact q.elim
def fits(n:Nat):Bool:=decide (n<=c9)
def dz{n:Nat}(h:n<=100000):fits n=ai:=by unfold fits;rw[decide_eq_true_eq];exact au h (by decide)
def tX{n:Nat}:fits n=ai↔n<=c9:=by unfold fits;rw[decide_eq_true_eq]
def Mw:fits 0=ai:=dz (by decide)
def Mv:fits 1=ai:=dz (by decide)
def LH:fits 2=ai:=dz (by decide)
def Mu:fits 3=ai:=dz (by decide)
def Mt:fits 4=ai:=dz (by decide)
def Ms:fits 5=ai:=dz (by decide)
def Mr:fits 6=ai:=dz (by decide)
def MD:fits 7=ai:=dz (by decide)
def MC:fits 8=ai:=dz (by decide)
def ix{α:Type}{n:Nat}{o:Option α}{Q:α->Prop}:W (if n<=c9 then o else aj) Q↔fits n=ai/\W o Q:=by
 rw[tX,p7];split
 ·rename_i h;exact⟨λq=>⟨h,q⟩,λq=>q.2⟩
 ·rename_i h;exact⟨λq=>(kE.mp q).elim,λq=>absurd q.1 h⟩
def sj{a:FA}{r:Ev}{S:Sto}{Q:D×Sto->Prop}:W (dI a r S) Q↔W (a r S) λp=>fits p.1.length=ai/\Q (.tup p.1,p.2):=by
 unfold dI;rw[dj];exact⟨λh=>h.mono λp q=>(ix.mp q).imp_right dr.mp,λh=>h.mono λp q=>ix.mpr (q.imp_right dr.mpr)⟩
def BB{a:FA}{r:Ev}{S:Sto}{Q:D×Sto->Prop}:W (eH a r S) Q↔W (a r S) λp=>fits p.1.length=ai/\Q (.ref p.2.length,p.2++[.lst p.1]):=by
 unfold eH;rw[dj];exact⟨λh=>h.mono λp q=>(ix.mp q).imp_right dr.mp,λh=>h.mono λp q=>ix.mpr (q.imp_right dr.mpr)⟩
def lI{k:Nat}{keep:List Nat}{m:FI}{g:FG}{t:FT}{b:FV}{r:Ev}{S:Sto}{Q:D×Sto->Prop}:W (eG k keep m g t b r S) Q↔W (m r S) λp=>W (gh p.1.chk g t b p.1.items (l0 k keep r) p.2) λq=>fits q.1.length=ai/\Q (.ref q.2.2.length,q.2.2++[.lst q.1]):=by
 unfold eG;rw[dj];refine⟨λh=>h.mono λp q=>?_,λh=>h.mono λp q=>?_⟩
 ·rw[dj]at q;exact q.mono λz w=>(ix.mp w).imp_right dr.mp
 ·rw[dj];exact q.mono λz w=>ix.mpr (w.imp_right dr.mpr)
def HF{xs ys:List D}{S:Sto}{Q:D×Sto->Prop}:W (ed (.tup xs) (.tup ys) S) Q↔fits (xs.length+ys.length)=ai/\Q (.tup (xs++ys),S):=
 ⟨λq=>(ix.mp q).imp_right dr.mp,λq=>ix.mpr (q.imp_right dr.mpr)⟩
def BH{x y:Int}{S:Sto}{Q:D×Sto->Prop}:W (ed (.int x) (.int y) S) Q↔Q (.int (x+y),S):=dr
def BG{a b:Nat}{xs ys:List D}{S:Sto}{Q:D×Sto->Prop}(h1:S[a]?=wq (.lst xs))(h2:S[b]?=wq (.lst ys)):W (ed (.ref a) (.ref b) S) Q↔fits (xs.length+ys.length)=ai/\Q (.ref S.length,S++[.lst (xs++ys)]):=by
 rw[ed];simp only[h1,h2];exact⟨λq=>(ix.mp q).imp_right dr.mp,λq=>ix.mpr (q.imp_right dr.mpr)⟩
def je{n:Nat}{v:D}{xs:List D}{S:Sto}{Q:D×Sto->Prop}(h:S[n]?=wq (.lst xs)):W (gK (.ref n) v S) Q↔fits (xs.length+1)=ai/\Q (.non,S.set n (.lst (xs++[v]))):=by
 rw[gK];simp only[h];rw[p7,tX];split
 ·rename_i a;exact⟨λq=>⟨a,dr.mp q⟩,λq=>dr.mpr q.2⟩
 ·rename_i a;exact⟨λq=>(kE.mp q).elim,λq=>absurd q.1 a⟩
def iN{n:Nat}{i:Nat}{xs:List D}{x:D}{S:Sto}{Q:D×Sto->Prop}(h:S[n]?=wq (.lst xs))(hx:xs[i]?=wq x)(q:Q (x,S)):W (dt (.ref n) (.int i) S) Q:=by
 refine W.of (x:=(x,S)) ?_ q;have a:=(gE1.mp hx).1;simp only[dt,mU,BO,h,dG,vq,xV,oS1,if_pos (show(0:Int)<=i by lia)];rw[if_pos (by lia)];simp[hx]
def lH{i:Nat}{xs:List D}{x:D}{S:Sto}{Q:D×Sto->Prop}(hx:xs[i]?=wq x)(q:Q (x,S)):W (dt (.tup xs) (.int i) S) Q:=by
 refine W.of (x:=(x,S)) ?_ q;have a:=(gE1.mp hx).1;simp only[dt,mU,BO,dG,vq,xV,oS1,if_pos (show(0:Int)<=i by lia)];rw[if_pos (by lia)];simp[hx]
def Mj:aI 0 (aj:Option D)=[]:=rfl
def Mh:aI 1 (aj:Option D)=[aj]:=rfl
def L8:aI 2 (aj:Option D)=[aj,aj]:=rfl
def L6:aI 3 (aj:Option D)=[aj,aj,aj]:=rfl
def L5:aI 4 (aj:Option D)=[aj,aj,aj,aj]:=rfl
def L3:aI 5 (aj:Option D)=[aj,aj,aj,aj,aj]:=rfl
def L1:aI 6 (aj:Option D)=[aj,aj,aj,aj,aj,aj]:=rfl
def MB:aI 7 (aj:Option D)=[aj,aj,aj,aj,aj,aj,aj]:=rfl
def L0:aI 8 (aj:Option D)=[aj,aj,aj,aj,aj,aj,aj,aj]:=rfl
def Mz:aI 9 (aj:Option D)=[aj,aj,aj,aj,aj,aj,aj,aj,aj]:=rfl
def Mg:aI 10 (aj:Option D)=[aj,aj,aj,aj,aj,aj,aj,aj,aj,aj]:=rfl
def Mf:aI 11 (aj:Option D)=[aj,aj,aj,aj,aj,aj,aj,aj,aj,aj,aj]:=rfl
def KI:aI 12 (aj:Option D)=[aj,aj,aj,aj,aj,aj,aj,aj,aj,aj,aj,aj]:=rfl
def Iv:aI 13 (aj:Option D)=[aj,aj,aj,aj,aj,aj,aj,aj,aj,aj,aj,aj,aj]:=rfl
def Me:aI 14 (aj:Option D)=[aj,aj,aj,aj,aj,aj,aj,aj,aj,aj,aj,aj,aj,aj]:=rfl
def Md:aI 15 (aj:Option D)=[aj,aj,aj,aj,aj,aj,aj,aj,aj,aj,aj,aj,aj,aj,aj]:=rfl
def Mc:aI 16 (aj:Option D)=[aj,aj,aj,aj,aj,aj,aj,aj,aj,aj,aj,aj,aj,aj,aj,aj]:=rfl
def Mb:aI 17 (aj:Option D)=[aj,aj,aj,aj,aj,aj,aj,aj,aj,aj,aj,aj,aj,aj,aj,aj,aj]:=rfl
def Ma:aI 18 (aj:Option D)=[aj,aj,aj,aj,aj,aj,aj,aj,aj,aj,aj,aj,aj,aj,aj,aj,aj,aj]:=rfl
def L9:aI 19 (aj:Option D)=[aj,aj,aj,aj,aj,aj,aj,aj,aj,aj,aj,aj,aj,aj,aj,aj,aj,aj,aj]:=rfl
def L7:aI 20 (aj:Option D)=[aj,aj,aj,aj,aj,aj,aj,aj,aj,aj,aj,aj,aj,aj,aj,aj,aj,aj,aj,aj]:=rfl
def ej{α:Type}{T G:List α}{k:Nat}:(T++G)[T.length+k]?=G[k]?:=by rw[gR1 (by lia)];congr 1;lia
def dy{α:Type}{T G:List α}:(T++G)[T.length]?=G[0]?:=by rw[gR1 (by lia)];congr 1;lia
def DE{S:Sto}{i j:Nat}{xs:List D}(h:S[i]?=wq (.lst xs))(h':S[j]?=wq (.lst [])):gNe (.ref i) (.ref j) S=wq (.bl (!xs.isEmpty),S):=by
 unfold gNe dU;rw[show(60:Nat)=59+1 from rfl,kA];simp only[dG,h,h'];cases xs with
 |nil=>simp[A5]
 |cons x xs=>simp
def m7:∀(n:Nat) (lo:Int),gz lo n=(List.range n).map λi:Nat=>D.int (lo+i)
 |0,lo=>rfl
 |n+1,lo=>by
  rw[gz,m7 n (lo+1),List.range_succ_eq_map,mP1,bj]
  congr 1
  ·simp
  ·apply cA;intro i _;simp only[Function.comp_apply,cB]
   congr 1
   push_cast
   lia
def lc(n:Nat):gz 0 n=(List.range n).map λi:Nat=>D.int i:=by
 rw[m7];apply cA;intro i _;simp
def j1{α:Type}{c:List (Nat×List D)}{g:FG}{t:FT}{e:FE}{S:Sto}{f:α->D}{Q:List D×Ev×Sto->Prop}(F:α->D)(P:Ev->Prop)(d:oY S c=true):∀ (xs:List α) (r:Ev),P r ->
  (∀a∈xs,∀r,P r->W (g (f a) r S) λp=>W (t p.1 p.2) λb=>b.1=ai/\W (e p.1 b.2) λx=>x.1=F a/\x.2=S/\P p.1) ->
  (∀i,P i->Q (xs.map F,i,S))->W (gh c g t (d9 e) (xs.map f) r S) Q
 |[],r,hr,_,h=>by rw[aS,gh];dsimp only;rw[if_pos d,dr];exact h r hr
 |a::xs,r,hr,hs,h=>by
  rw[mP1,gh];dsimp only;rw[if_pos d,dj];obtain⟨p,o,⟨b,u,k,⟨x,s,l,n,q⟩⟩⟩:=hs a mS1 r hr;refine⟨p,o,?_⟩;dsimp only;rw[dj];refine⟨b,u,?_⟩;dsimp only;rw[if_pos k,dj,d9,kn];refine⟨x,s,?_⟩;dsimp only;rw[n,kn];refine j1 F P d xs p.1 q (λa m=>hs a (mC1 _ m)) λi j=>?_;have:=h i j;rw[mP1,<- l]at this;exact this
def rO{α:Type}{c:List (Nat×List D)}{g:FG}{t:FT}{e:FE}{S:Sto}{f:α->D}{Q:List D×Ev×Sto->Prop}(k:α->Bool)(F:α->D)(P:Ev->Prop)(d:oY S c=true):∀ (xs:List α) (r:Ev),P r ->
  (∀a∈xs,∀r,P r->W (g (f a) r S) λp=>W (t p.1 p.2) λb=>b.1=k a/\b.2=S/\P p.1/\(k a=ai->W (e p.1 S) λx=>x.1=F a/\x.2=S)) ->
  (∀j,P j->Q ((xs.filter k).map F,j,S))->W (gh c g t (d9 e) (xs.map f) r S) Q
 |[],r,hr,_,h=>by rw[aS,gh];dsimp only;rw[if_pos d,dr];exact h r hr
 |a::xs,r,hr,hs,h=>by
  rw[mP1,gh];dsimp only;rw[if_pos d,dj];obtain⟨p,u,⟨b,w,o,q,s,l⟩⟩:=hs a mS1 r hr;refine⟨p,u,?_⟩;dsimp only;rw[dj];refine⟨b,w,?_⟩;dsimp only;cases hk:k a with
  |true=>
   rw[o,hk,if_pos ag,dj,d9,kn,q];obtain⟨x,v,l,n⟩:=l hk;refine⟨x,v,?_⟩;dsimp only;rw[n,kn];refine rO k F P d xs p.1 s (λa m=>hs a (mC1 _ m)) λj i=>?_;have:=h j i;rw[aW,hk,if_pos ag,mP1,<- l]at this;exact this
  |false=>
   rw[o,hk,if_neg (by decide),q];refine rO k F P d xs p.1 s (λa m=>hs a (mC1 _ m)) λj i=>?_;have:=h j i;rw[aW,hk,if_neg (by decide)]at this;exact this
def oM{α:Type}{f:α->Bool}:∀xs:List α,Mi.By (xs.map λx=>D.bl (f x))=wq (xs.all f)
 |[]=>rfl
 |x::xs=>by rw[mP1,Mi.By,oM xs];rfl
mutual
def yT{n m:Nat}(h:n<=m):∀{d:D},d.und n=ai->d.und m=ai
 | .non,_=>rfl
 | .bl _,_=>rfl
 | .int _,_=>rfl
 | .str _,_=>rfl
 | .tup xs,q=>by rw[D.und]at q ⊢;exact ic h q
 | .rol xs,q=>by rw[D.und]at q ⊢;exact ic h q
 | .fn _,_=>rfl
 | .ref k,q=>by simp[D.und]at q ⊢;lia
def ic{n m:Nat}(h:n<=m):∀{ds:List D},D.unds n ds=ai->D.unds m ds=ai
 |[],_=>rfl
 |d::ds,q=>by
  rw[D.unds,bA1]at q ⊢;exact⟨yT h q.1,ic h q.2⟩
end
def fJ{n m:Nat}(h:n<=m):∀{o:Ob},o.und n=ai->o.und m=ai
 | .lst xs,q=>by rw[Ob.und]at q ⊢;exact ic h q
 | .dct xs,q=>by rw[Ob.und]at q ⊢;exact ic h q
 | .dcT xs,q=>by rw[Ob.und]at q ⊢;exact ic h q
 | .dcF xs,q=>by rw[Ob.und]at q ⊢;exact ic h q
 | .iset _,_=>rfl
 | .tst _,_=>rfl
def Lf{k:Nat}{T G:Sto}(h:T.all (Ob.und (T.length+k))=ai)(hg:G.all (Ob.und 0)=ai):(T++G).all (Ob.und ((T++G).length+k))=ai:=by
 rw[cC,bA1];rw[bq]at h hg;refine⟨bq.mpr λo a=>fJ (by rw[lA1];lia) (h o a),bq.mpr λo a=>fJ (aZ _) (hg o a)⟩
def sm{n:Nat}{xs:List Int}{S:Sto}{Q:D×Sto->Prop}(h:S[n]?=wq (.iset xs))(q:Q (.int xs.length,S)):W (oj (.ref n) S) Q:=by
 refine W.of ?_ q;unfold oj;simp only[h]
def eJ{α:Type}{n:Nat}{f:α->D}:∀{xs:List α},(∀x∈xs,(f x).und n=ai)->D.unds n (xs.map f)=ai
 |[],_=>rfl
 |x::xs,h=>by rw[mP1,D.unds,h x mS1,eJ λy a=>h y (mC1 _ a)];rfl
def LJ{x:Nat}:x+1+1=x+2:=rfl
def MM{x:Nat}:x+2+1=x+3:=rfl
def ML{x:Nat}:x+3+1=x+4:=rfl
def MK{x:Nat}:x+4+1=x+5:=rfl
def MJ{x:Nat}:x+5+1=x+6:=rfl
def MH{x:Nat}:x+6+1=x+7:=rfl
def Mx{x:Nat}:x+1+2=x+3:=rfl
def ft{xs:List D}{S:Sto}:dM (.tup xs) S=wq (.int xs.length,S):=rfl
def Kl{xs:List D}{S:Sto}:dM (.rol xs) S=wq (.int xs.length,S):=rfl
def Jl{S:Sto}:dM (.str "") S=wq (.int 0,S):=rfl
def jQ{xs:List D}{S:Sto}:dG S (.tup xs)=wq (ah,xs):=rfl
def Kf{xs:List D}{S:Sto}:dG S (.rol xs)=wq (ai,xs):=rfl
def DV{xs:List D}{S:Sto}:jG S (.tup xs)=[]:=rfl
def Ko{xs:List D}{S:Sto}:jG S (.rol xs)=[]:=rfl
def gb{n:Nat}{xs:List D}{S:Sto}(h:S[n]?=wq (.lst xs)):dG S (.ref n)=wq (ai,xs):=by simp only[dG,h]
def rV{n:Nat}{xs:List D}{S:Sto}(h:S[n]?=wq (.lst xs)):jG S (.ref n)=[(n,xs)]:=by simp only[jG,h]
def sW(S:Sto)(d:D)(Q:List D×List (Nat×List D)->Prop):Prop:=W (dG S d) λq=>Q (q.2,jG S d)
def ku{xs:List D}{S:Sto}{Q:List D×List (Nat×List D)->Prop}:sW S (.tup xs) Q↔Q (xs,[]):=dr
def dV{n:Nat}{xs:List D}{S:Sto}{Q:List D×List (Nat×List D)->Prop}(h:S[n]?=wq (.lst xs))(q:Q (xs,[(n,xs)])):sW S (.ref n) Q:=by
 unfold sW;rw[gb h,rV h,dr];exact q
def md{m:FE}{r:Ev}{S:Sto}{Q:yt×Sto->Prop}:W (gJ m r S) Q↔W (m r S) λp=>sW p.2 p.1 λq=>Q (⟨q.1,q.2⟩,p.2):=by
 unfold gJ;rw[dj];refine⟨λh=>h.mono λp q=>?_,λh=>h.mono λp q=>?_⟩
 ·rw[dj]at q;exact q.mono λz w=>dr.mp w
 ·rw[dj];exact W.mono (show W (dG p.2 p.1) _ from q) λz w=>dr.mpr w
def HD{d:D}{S:Sto}{Q:D×Sto->Prop}:W (Mi.gTup d S) Q↔sW S d λq=>Q (.tup q.1,S):=by
 unfold Mi.gTup;rw[kn];exact Iff.rfl
def JT{n:Nat}{S:Sto}{Q:D×Sto->Prop}:W (dM (.ref n) S) Q↔sW S (.ref n) λq=>Q (.int q.1.length,S):=by
 unfold dM sW;rw[kn]
def pD(e:Nat×Nat):D:=.tup [.int e.1,.int e.2]
def ve{S:Sto}{n:Nat}{a b:Nat×Nat}:kA S (n+2) (pD a) (pD b)=wq (a == b):=by
 obtain⟨a1,a2⟩:=a;obtain⟨b1,b2⟩:=b;rw[kA];have d:∀x y:Nat,kA S (n+1) (.int x) (.int y)=wq ((x:Int) == (y:Int)):=λx y=>rfl;have c:∀x y:Nat,((x:Int) == (y:Int))=(x == y):=λx y=>by
  rw[bI,beq_iff_eq,beq_iff_eq];lia
 simp[pD,dG,A5,d,c];rfl
def wS{S:Sto}{n:Nat}{e:Nat×Nat}:∀b:List (Nat×Nat),ya (kA S (n+2)) (pD e) (b.map pD)=wq (b.map λa=>a == e)
 |[]=>rfl
 |a::b=>by rw[mP1,ya,ve,wS b];rfl
def HC{S:Sto}{n j:Nat}{row:List (Nat×Nat)}{e:Nat×Nat}{Q:D×Sto->Prop}(h:S[n]?=wq (.lst (row.map pD)))(b:row.length<1000)(a:row.findIdx? (· == e)=wq j)(q:Q (.int j,S)):W (AY (.ref n) (pD e) S) Q:=by
 refine W.of ?_ q;unfold AY dU;simp only[h,show(60:Nat)=58+2 from rfl,wS,oS1,lM1];rw[if_pos (by lia),List.findIdx?_map];simp[Function.comp_def,a]
def gM{f:FN}{o:FE}{a:FA}{r:Ev}{S:Sto}{Q:D×Sto->Prop}(h:W (o r S) λp=>∃n xs,p.1 = .ref n/\p.2[n]?=wq (.lst xs)/\W (a r p.2) λq=>W (f (.ref n::q.1) q.2) Q):W (mz f o a r S) Q:=by
 unfold mz;rw[dj];refine h.mono ?_;rintro⟨d,b⟩ ⟨n,xs,rfl,e,q⟩;dsimp only at e q ⊢;rw[e];dsimp only;rw[dj];exact q
def qt:∀{k n i:Nat},i<k->(j0 n k)[i]?=wq (.ref (n+i))
 |k+1,n,0,_=>rfl
 |k+1,n,i+1,h=>by rw[j0,gC1,qt (Nat.lt_of_succ_lt_succ h),show n+1+i=n+(i+1) by lia]
def k6:∀k n:Nat,(j0 n k).length=k
 |0,_=>rfl
 |k+1,n=>by rw[j0,lC1,k6]
def tot(E:List (List (Nat×Nat))):Nat:=(E.map List.length).sum
def nmD(rs:List Nat):List D:=rs.map λi:Nat=>D.int i
def d3(rs:List Nat):(nmD rs).length=rs.length:=by simp[nmD]
def fr(rs:List Nat):D.unds 0 (nmD rs)=ai:=eJ λ_ _=>rfl
def rv{S:Sto}{n:Nat}{x:Nat}:∀cs:List Nat,BM (kA S (n+1)) (.int x) (nmD cs)=wq (cs.contains x)
 |[]=>rfl
 |c::cs=>by
  have b:kA S (n+1) (.int c) (.int x)=wq ((c:Int) == (x:Int)):=rfl;have a:((c:Int) == (x:Int))=(x == c):=by
   rw[bI,beq_iff_eq,beq_iff_eq];lia
  have ih:=rv (S:=S) (n:=n) (x:=x) cs;rw[nmD,mP1,BM,b,a];rw[nmD]at ih;rw[ih,bX];rfl
def wH{S:Sto}{x:Nat}{cs:List Nat}:mW (.int x) (.tup (nmD cs)) S=wq (.bl (cs.contains x),S):=by
 simp only[mW,u9,HQ,dG,oS1,dU,show(60:Nat)=59+1 from rfl,rv,oP1]
def AH{κ:Type}[DecidableEq κ]{k:κ}:dE ([]:List (κ×D)) k=aj:=rfl
def fG{κ:Type}[DecidableEq κ]{k a:κ}{d:D}{r:List (κ×D)}:dE ((a,d)::r) k=if a=k then wq d else dE r k:=by
 unfold dE;rw[aT];by_cases h:a=k
 ·simp[h]
 ·simp[h]
def n0{κ:Type}[DecidableEq κ]{k:κ}{b:List (κ×D)}:∀{a:List (κ×D)},dE (a++b) k=(dE a k).or (dE b k)
 |[]=>rfl
 |(x,d)::a=>by
  rw[a0,fG,fG,n0 (a:=a)];split<;>rfl
def jW{κ:Type}[DecidableEq κ]{k:κ}:∀{a:List (κ×D)},(a.any λp=>decide (p.1=k))=ah->dE a k=aj
 |[],_=>rfl
 |(x,d)::a,h=>by
  simp only[aU,Bool.or_eq_false_iff,decide_eq_false_iff_not]at h;rw[fG,if_neg h.1];exact jW h.2
def lW{κ:Type}[DecidableEq κ]{k k':κ}{v:D}:∀{a:List (κ×D)},(a.any λp=>decide (p.1=k))=ai->dE (a.map λp=>if p.1=k then(p.1,v)else p) k'=if k'=k then wq v else dE a k'
 |[],h=>by simp at h
 |(x,d)::a,h=>by
  rw[mP1];by_cases f:x=k
  ·subst f;rw[if_pos (show(x,d).1=x from rfl)];rw[fG,fG];by_cases c:k'=x
   ·subst c;simp
   ·rw[if_neg (Ne.symm c),if_neg (Ne.symm c),if_neg c];by_cases g:(a.any λp=>decide (p.1=x))=ai
    ·rw[lW g,if_neg c]
    ·have:(a.map fun p=>if p.1=x then (p.1,v) else p)=a:=by
      have b:(a.any λp=>decide (p.1=x))=ah:=cD.mpr g;rw[List.any_eq_false]at b
      conv=>rhs;rw[<- List.map_id a]
      apply cA;intro p i;have:=b p i;simp at this;simp[this]
     rw[this]
  ·simp only[aU,decide_eq_false f,Bool.false_or]at h;rw[if_neg (show¬ (x,d).1=k from f)];rw[fG,fG,lW h];by_cases e:x=k'
   ·subst e;simp[f]
   ·simp[e]
def jx{κ:Type}[DecidableEq κ]{k k':κ}{v:D}{a:List (κ×D)}:dE (gP a k v) k'=if k'=k then wq v else dE a k':=by
 unfold gP;split
 ·rename_i h;exact lW h
 ·rename_i h;have h':(a.any λp=>decide (p.1=k))=ah:=cD.mpr h;rw[n0,fG,AH];by_cases b:k'=k
  ·subst b;rw[jW h',if_pos ag];rfl
  ·rw[if_neg (Ne.symm b),if_neg b];cases dE a k'<;>rfl
def qv{κ:Type}[DecidableEq κ]{k:κ}{v:D}{a:List (κ×D)}:(gP a k v).length<=a.length+1:=by
 unfold gP;split
 ·rw[lM1];lia
 ·rw[lA1];simp
def Fv{κ:Type}[DecidableEq κ]{k:κ}{v:D}{a:List (κ×D)}:gP a k v≠[]:=by
 unfold gP;split
 ·rename_i h;intro z;cases a with
  |nil=>simp at h
  |cons x xs=>simp at z
 ·simp
def dO(F:List (TK×D)):Ob:=if F=[]then .dct []else .dcT F
def vw{U:Sto}{n:Nat}{F:List (TK×D)}{key v:D}{k:TK}{Q:D×Sto->Prop}(h:U[n]?=wq (dO F))(hk:iI key=wq k)(b:F.length<1000)(q:Q (.non,U.set n (dO (gP F k v)))):W (jc (.ref n) key v U) Q:=by
 refine W.of ?_ q;unfold dO at h ⊢;rw[if_neg Fv];by_cases a:F=[]
 ·subst a;rw[if_pos ag]at h;simp only[jc,h,hk];rfl
 ·rw[if_neg a]at h;simp only[jc,h,hk,oS1];rw[if_pos (nL1 b (by decide))]
def BC{U:Sto}{n:Nat}{F:List (TK×D)}{key v:D}{k:TK}{Q:D×Sto->Prop}(h:U[n]?=wq (dO F))(hk:iI key=wq k)(hv:dE F k=wq v)(q:Q (v,U)):W (dt (.ref n) key U) Q:=by
 refine W.of ?_ q;unfold dO at h;by_cases a:F=[]
 ·subst a;cases hv
 ·rw[if_neg a]at h;simp only[dt,h,hk,oS1,hv,oP1]
def HM(e:Nat×Nat):TK:=.tup [.int e.1,.int e.2]
def BA{U:Sto}{n i:Nat}{xs:List D}{x:D}{Q:D×Sto->Prop}(h:U[n]?=wq (.lst xs))(hx:xs[i]?=wq x)(hb:i<1000)(q:Q (x,U.set n (.lst (xs.eraseIdx i)))):W (xZ (.ref n) (.int i) U) Q:=by
 have a:=(gE1.mp hx).1;refine W.of ?_ q;simp only[xZ,h];rw[if_pos ⟨by lia,by lia⟩];simp only[xV,if_pos (show(0:Int)<=i by lia)];rw[if_pos (by lia)];simp[hx]
def rB{d:D}{S G:Sto}(hd:d.und 0=ai)(a:S.all (Ob.und S.length)=ai):gc S.length (d,S++G)=(d,S):=by
 unfold gc;dsimp only;rw[List.take_left,if_pos (by rw[kM hd,a];rfl)]
def zp_map{α:Type}{f g:α->D}:∀l:List α,uz (l.map f) (l.map g)=l.map λx=>D.tup [f x,g x]
 |[]=>rfl
 |a::l=>by rw[mP1,mP1,uz,zp_map l];rfl
def oN{m:FA}{r:Ev}{S:Sto}{xs:List D}{Q:yt×Sto->Prop}(hm:m r S=wq ([.tup xs],S))(q:Q (⟨sx 0 xs,[]⟩,S)):W (og m r S) Q:=by
 refine W.of (x:=(⟨sx 0 xs,[]⟩,S)) ?_ q;simp only[og,hm,oS1,jQ,DV]
def A8{α:Type}{f:α->D}:∀(l:List α) (k:Nat),sx k (l.map f)=(l.zipIdx k).map λp=>D.tup [.int (p.2:Nat),f p.1]
 |[],_=>rfl
 |a::l,k=>by rw[mP1,sx,A8 l (k+1),bC];rfl
def xf{α:Type}{l:List α}{p:α×Nat}(h:p∈l.zipIdx):l[p.2]?=wq p.1:=by
 have:=cE.mp h;exact this
mutual
def zq{n:Nat}:∀{d:D},d.und 0=ai->d.sh n=d
 | .non,_=>rfl
 | .bl _,_=>rfl
 | .int _,_=>rfl
 | .str _,_=>rfl
 | .tup xs,h=>by rw[D.und]at h;rw[D.sh,kP h]
 | .rol xs,h=>by rw[D.und]at h;rw[D.sh,kP h]
 | .fn _,_=>rfl
 | .ref k,h=>by simp[D.und]at h
def kP{n:Nat}:∀{ds:List D},D.unds 0 ds=ai->D.shs n ds=ds
 |[],_=>rfl
 |d::ds,h=>by
  rw[D.unds,bA1]at h;rw[D.shs,zq h.1,kP h.2]
end
def JK{n:Nat}{f:FN}{ds:List D}{S:Sto}{Q:D×Sto->Prop}(hn:ds.length=n)(d:D.unds 0 ds=ai)(h:W (f ds []) λp=>∃xs,p=(.ref 0,[.lst xs])/\D.unds 0 xs=ai/\Q (.ref S.length,S++[.lst xs])):W (dm n f ds S) Q:=by
 obtain⟨p,e,xs,rfl,c,q⟩:=h;refine⟨_,oD e hn d ag,?_⟩;have b:(D.ref 0).sh S.length = .ref S.length:=rfl;have a:[Ob.lst xs].map (Ob.sh S.length)=[Ob.lst xs]:=by rw[mP1,aS,Ob.sh,kP c]
 rw[b,a];exact q
def Dw(xs:List Nat):jC (nmD xs)=wq (xs.map λ(r:Nat)=>(r:Int)):=by
 induction xs with
 |nil=>rfl
 |cons x xs ih=>
  show(jC (nmD xs)).map _=_;rw[ih];rfl
end Mi
end
local macro_rules | `(tactic| walk_at"w") => `(tactic| simp only[Mi.dr, Mi.kE, Mi.ite_and', Mi.dj, Mi.kn, Mi.p7, Mi.dv, Mi.dD, Mi.eD, Mi.dW, Mi.eN, Mi.jg, Mi.mN, Mi.dh, Mi.di, Mi.m2, Mi.m1, Mi.mV, Mi.mC, Mi.sj, Mi.BB, Mi.mB, Mi.rh, Mi.mOr, Mi.gB, Mi.iH, Mi.pz, Mi.HN, Mi.fq, Mi.mTr, Mi.E8, Mi.gN, Mi.gT, Mi.fv, Mi.jh, Mi.gS, Mi.b1, Mi.b2, Mi.b3, Mi.hZ, Mi.e9, Mi.lI, Mi.w8, Mi.JV, Mi.Ix, Mi.Kh, Mi.eT, Mi.l0, Mi.HF, Mi.BH, Mi.gSub, Mi.iX, Mi.o5, Mi.DM, Mi.DF, Mi.DH, Mi.DL, Mi.DD, Mi.Mw, Mi.Mv, Mi.LH, Mi.Mu, Mi.Mt, Mi.Ms, Mi.Mr, true_and, Mi.ej, Mi.dy, bw, lA1, cF, gC1, List.getElem?_nil, cG, ck, lC1, aV, mP1, aS, Mi.Mj, Mi.Mh, Mi.L8, Mi.L6, Mi.L5, Mi.L3, Mi.L1, Mi.L0, Mi.KI, Mi.Iv, cH, a0, aF, cI, Nat.reduceSub, cJ, Option.join_none, oP1, Option.map_none, oS1, Option.bind_none, if_true, if_false, bF1, bT, cf, ite_true, ite_false, reduceIte, decide_true, decide_false, Mi.LJ, Mi.Mx, Mi.ft, Mi.jQ, Mi.md, Mi.HD, Mi.JT])
noncomputable section
namespace Law
open PySem PySem.Spec PyProof.Rows L2 Mi
def top (i:Nat):df:=PySem.Challenge.pw_ringmeet_k37_papers_of_anything.main.body.getD i (.Pass ⟨0,0,0,0⟩)
abbrev BL:List Str:=["all","any","bool","enumerate","int","isinstance","len","list","max","min","range","set","sorted","str","tuple","zip"]
section
variable{P:c0}{w:c6}{K:Fg1}{mg:Str->Option cX}{base h:db}(X:K.In h) (G:h.Ns c7 mg) (B:Blt BL mg)
include X G B
abbrev nG:df:=top 1
def kC:FS:=(dW (iH (iG .int (mV 0)) (pz (iG .bool (mV 0)))))
def eV:FN:=hZ 1 kC
def sU {f:cZ}(F:dX K "is_whole" nG f):
  Own P w K mg base 1 "is_whole" 1 eV:=xq ["thing"] X G F λa=>
 (qG (qU (gt (ii xv) (f0 (p8 (ii xv))))))
abbrev ka:df:=top 3
def iw:FS:=(dW (iH (iG .tuple (mV 0)) (m2 (b2 gEq) (mN (b1 dM) (dh (mV 0) di)) (mV 1))))
def d4:FN:=hZ 2 iw
def nT {f:cZ}(F:dX K "is_tuple_of" ka f):
  Own P w K mg base 1 "is_tuple_of" 2 d4:=xq ["thing","many"] X G F λa=>
 (qG (qU (gt (ii xv) (f0 (ce (oq iE) (cn d8 (a1 xv)) xv)))))
abbrev vW:df:=top 7
def lS:FS:=(dv (dD (mN (b1 gTup) (dh (eG 2 [2] (gJ (mV 5)) (gT 2 (fv (gN 0) (fv (gN 1) jh))) fq (d9 (dI (dh (m2 (b2 dt) (mV 2) (mV 0)) (dh (mV 1) di))))) di)) (gN 6))
  (eN (mz (b2 gK) (mV 3) (dh (dI (dh (m2 (b2 dt) (mV 2) (mV 4)) (dh (m2 (b2 dt) (mV 1) (mV 4)) (dh (mV 6) di)))) di))))
def sf:FS:=(dv (dD (eH di) (gN 3))
  (dv (eT (og (dh (mV 0) di)) (gT 2 (fv (gN 4) (fv (gN 5) jh))) lS)
  (dW (mV 3))))
def gf:FN:=hZ 7 sf
def zX {f:cZ}(F:dX K "looks" vW f):
  Own P w K mg base 1 "looks" 3 gf:=xq ["web","signs","colours","found","room","doors","led_to"] X G F λa=>
 (qF (sq (dR qN)) (qF (fo (ie (a1 xv)) (tg2 gq gq) (qF (sq (cz fQ (a1 (fk ["there","back"] (qd xv) ⟨(tg2 gq gq),et,(dw (a2 (jq xv xv) xv))⟩)))) (qG (lq PySem.F.slot_list_append PySem.F.type_list_append gZ xv (a1 (dw (a3 (jq xv xv) (jq xv xv) xv))))))) (qG (qU xv))))
abbrev nE:df:=top 10
def k8:FS:=(eD (mB (m2 (b2 jY) (mV 2) (mV 1))) (dD (mN (b1 pL) (dh (mV 1) di)) (gS (b3 jc) (mV 1) (mV 2))) jg)
def oG:FS:=(dv (dD im (gN 1))
  (dv (eT (gJ (mV 0)) (gN 2) k8)
  (dW (mN (b1 gTup) (dh (eG 1 [1] (gJ (mV 0)) (gN 0) fq (d9 (m2 (b2 dt) (mV 1) (mV 0)))) di)))))
def fV:FN:=hZ 3 oG
def sT {f:cZ}(F:dX K "numbered" nE f):
  Own P w K mg base 1 "numbered" 1 fV:=xq ["things","numbers","thing"] X G F λa=>
 (qF (sq iz) (qF (fo (qd xv) gq (qG (qV (ct (oq z0) xv xv (by with_unfolding_all rfl)) (qG (qR (cn Hs (a1 xv)) (kK xv xv (nD a.units)))) qQ))) (qG (qU (cz fQ (a1 (fk ["thing"] (qd xv) ⟨gq,et,(jq xv xv)⟩)))))))
abbrev kT:df:=top 11
def i5:FS:=(dW (m2 (b2 gEq) (mN (b1 oj) (dh (mN (b1 gQ) (dh (mV 0) di)) di)) (mN (b1 dM) (dh (mV 0) di))))
def eF:FN:=hZ 1 i5
def oT {f:cZ}(F:dX K "all_unlike" kT f):
  Own P w K mg base 1 "all_unlike" 1 eF:=xq ["colours"] X G F λa=>
 (qG (qU (ce (oq iE) (cn vp (a1 (cz (vn a) (a1 xv)))) (cn d8 (a1 xv)))))
abbrev kb:df:=top 13
def kl:FS:=(dW (mN (b1 gTup) (dh (eG 1 [1] (sv (dh (mN (b1 dM) (dh (mV 0) di)) di)) (gN 0) fq (d9 (HN (mB (m2 (b2 mW) (mV 0) (mV 1))) (mC (D.int 1)) (mC (D.int 0))))) di)))
def ei:FN:=hZ 2 kl
def nU {f:cZ}(F:dX K "chalk_signs" kb f):
  Own P w K mg base 1 "chalk_signs" 2 ei:=xq ["web","chalk"] X G F λa=>
 (qG (qU (cz fQ (a1 (fk ["room"] (ir (a1 (cn d8 (a1 xv)))) ⟨gq,et,(uD (ct (oq tj) xv xv (by with_unfolding_all rfl)) qK qK)⟩)))))
abbrev ml:df:=top 21
def jJ:FS:=(dv (dD (mC (D.int 0)) (gN 2))
  (dv (eD (mB (m2 (b2 gLt) (mV 1) (mN (b1 dM) (dh (mV 0) di)))) (dD (m2 (b2 dt) (mV 0) (mV 1)) (gN 2)) jg)
  (dv (dD (m2 (b2 j4) (m2 (b2 oh) (mC (D.int 10)) (mC (D.int 60))) (m2 (b2 oh) (mC (D.int 10)) (mC (D.int 30)))) (gN 3))
  (dW (eH (dh (m2 (b2 j4) (m2 (b2 lv) (mV 2) (mV 3)) (mN (b1 o5) (dh (m2 (b2 (iX λi j=>decide (j<=i))) (mV 2) (m2 (b2 oh) (mC (D.int 10)) (mC (D.int 18)))) di))) (dh (m2 (b2 lv) (m2 (b2 ed) (m2 (b2 ed) (m2 (b2 lv) (mV 2) (mC (D.int 2305843009213693951))) (m2 (b2 j4) (mC (D.int 7919)) (mV 1))) (mC (D.int 5))) (mC (D.int 2305843009213693951))) (dh (mC (D.int 0)) di))))))))
def fz:FN:=hZ 4 jJ
def qT {f:cZ}(F:dX K "_law_hand" ml f):
  Own P w K mg base 1 "_law_hand" 2 fz:=xq ["_law_script","_law_k","_law_cell","_law_far"] X G F λa=>
 (qF (sq qK) (qF (qV (ct (oq ja) xv (cn d8 (a1 xv))) (qG (sq (jq xv xv))) qQ) (qF (sq (qI lb (qI wk qK qK) (qI wk qK qK))) (qG (qU (dR (a3 (qI lb (qI mx xv xv) (cz ui (a1 (ce KU xv (qI wk qK qK))))) (qI mx (qI ez (qI ez (qI mx xv qK) (qI lb qK xv)) qK) qK) qK)))))))
abbrev mj:df:=top 22
def jI:FS:=(dv (eD (mB (m2 (b2 (iX fun i j=>decide (j<i))) (m2 (b2 dt) (mV 0) (mC (D.int 0))) (mC (D.int 0)))) (dv (dD (m2 (b2 lv) (m2 (b2 dt) (mV 0) (mC (D.int 0))) (mV 1)) (gN 2))
  (dv (dD (m2 (b2 rG) (m2 (b2 dt) (mV 0) (mC (D.int 0))) (mV 1)) (gS (b3 jc) (mV 0) (mC (D.int 0))))
  (dW (mV 2)))) jg)
  (dv (dD (m2 (b2 ed) (m2 (b2 dt) (mV 0) (mC (D.int 2))) (mC (D.int 1))) (gS (b3 jc) (mV 0) (mC (D.int 2))))
  (dv (dD (m2 (b2 lv) (m2 (b2 j4) (m2 (b2 ed) (m2 (b2 ed) (m2 (b2 dt) (mV 0) (mC (D.int 1))) (m2 (b2 j4) (m2 (b2 j4) (mC (D.int 9973)) (m2 (b2 dt) (mV 0) (mC (D.int 2)))) (m2 (b2 dt) (mV 0) (mC (D.int 2))))) (mC (D.int 17))) (mC (D.int 69621))) (mC (D.int 2305843009213693921))) (gN 3))
  (dv (dD (m2 (b2 lv) (m2 (b2 j4) (mV 3) (m2 (b2 ed) (m2 (b2 lv) (mV 3) (mC (D.int 999983))) (m2 (b2 j4) (mC (D.int 7919)) (m2 (b2 dt) (mV 0) (mC (D.int 2)))))) (mC (D.int 2305843009213693907))) (gN 3))
  (dW (m2 (b2 lv) (m2 (b2 ed) (m2 (b2 rG) (mV 3) (mC (D.int 101))) (m2 (b2 rG) (mV 3) (mC (D.int 1000003)))) (mV 1)))))))
def dn:FN:=hZ 4 jI
def qS {f:cZ}(F:dX K "_law_take" mj f):
  Own P w K mg base 1 "_law_take" 2 dn:=xq ["_law_hand_here","_law_many","_law_digit","_law_mixed"] X G F λa=>
 (qF (qV (ct KS (jq xv qK) qK) (qF (sq (qI mx (jq xv qK) xv)) (qF (qR (qI wl (jq xv qK) xv) (kK xv qK (nD a.units))) (qG (qU xv)))) qQ) (qF (qR (qI ez (jq xv qK) qK) (kK xv qK (nD a.units))) (qF (sq (qI mx (qI lb (qI ez (qI ez (jq xv qK) (qI lb (qI lb qK (jq xv qK)) (jq xv qK))) qK) qK) qK)) (qF (sq (qI mx (qI lb xv (qI ez (qI mx xv qK) (qI lb qK (jq xv qK)))) qK)) (qG (qU (qI mx (qI ez (qI wl xv qK) (qI wl xv qK)) xv)))))))
abbrev kU:df:=top 28
def i6:FS:=(dW (iH (iG .int (mV 0)) (pz (iG .bool (mV 0)))))
def dN:FN:=hZ 1 i6
def oU {f:cZ}(F:dX K "_law_whole" kU f):
  Own P w K mg base 1 "_law_whole" 1 dN:=xq ["_law_thing"] X G F λa=>
 (qG (qU (gt (ii xv) (f0 (p8 (ii xv))))))
abbrev kW:df:=top 31
def lC:FS:=(dW (eG 1 [1,2] (sv (dh (mN (b1 dM) (dh (mV 0) di)) di)) (gN 0) fq (d9 (m2 (b2 ed) (mN (b1 o5) (dh (m2 (b2 mW) (mV 0) (m2 (b2 dt) (mV 1) (mC (D.int 1)))) di)) (m2 (b2 j4) (mC (D.int 2)) (mN (b1 o5) (dh (iH (mV 2) (m2 (b2 mW) (mV 0) (m2 (b2 dt) (mV 1) (mC (D.int 0))))) di)))))))
def fe:FN:=hZ 3 lC
def oV {f:cZ}(F:dX K "_law_signs" kW f):
  Own P w K mg base 1 "_law_signs" 3 fe:=xq ["_law_web_here","_law_standing_here","_law_walkers"] X G F λa=>
 (qG (qU (fk ["_law_room"] (ir (a1 (cn d8 (a1 xv)))) ⟨gq,et,(qI ez (cz ui (a1 (ce (oq tj) xv (jq xv qK) (by with_unfolding_all rfl)))) (qI lb qK (cz ui (a1 (gt xv (f0 (ce (oq tj) xv (jq xv qK) (by with_unfolding_all rfl))))))))⟩)))
abbrev nH:df:=top 2
def oH:FS:=(dW (iH (mN (dm 1 eV) (dh (mV 0) di)) (GM (b2 (iX λi j=>decide (i<=j))) (b2 gLt) (mC (D.int 0)) (mV 0) (mV 1))))
def gr:FN:=hZ 2 oH
def sV {f:cZ}(F:dX K "is_below" nH f)(a:Own P w K mg base 1 "is_whole" 1 eV):
  Own P w K mg base 2 "is_below" 2 gr:=xq ["thing","bound"] X G F λb=>
 (qG (qU (gt (wn a (a1 xv)) (f0 (xh IT (oq ja) qK xv xv)))))
abbrev me:df:=top 4
def mK:FS:=(dW (iH (mN (dm 2 d4) (dh (mV 0) (dh (mV 2) di))) (iH (iG .str (m2 (b2 dt) (mV 0) (mC (D.int 0)))) (m2 (b2 gEq) (m2 (b2 dt) (mV 0) (mC (D.int 0))) (mV 1)))))
def fY:FN:=hZ 3 mK
def qC {f:cZ}(F:dX K "is_headed" me f)(a:Own P w K mg base 1 "is_tuple_of" 2 d4):
  Own P w K mg base 2 "is_headed" 3 fY:=xq ["thing","word","many"] X G F λb=>
 (qG (qU (gt (wn a (a2 xv xv)) (gt (ii (jq xv qK)) (f0 (ce (oq iE) (jq xv qK) xv))))))
abbrev jm:df:=top 6
def hW:FS:=(dv (eD (mOr (gB (mTr (mN (dm 2 d4) (dh (mV 2) (dh (mN (b1 dM) (dh (mV 0) di)) di))))) (gB (mTr (mN (b1 rJ) (dh (eG 1 [] (gJ (mV 2)) (gN 0) fq (d9 (mN (dm 1 eV) (dh (mV 0) di)))) di))))) (dW (mC (D.bl false))) jg)
  (dW (m2 (b2 gEq) (mN (b1 jF) (dh (mN (dm 3 gf) (dh (mV 0) (dh (mV 1) (dh (mV 2) di)))) di)) (mN (b1 oj) (dh (mN (b1 gQ) (dh (mV 2) di)) di)))))
def d6:FN:=hZ 3 hW
def mR {f:cZ}(F:dX K "is_colouring" jm f)(d:Own P w K mg base 1 "is_tuple_of" 2 d4)(b:Own P w K mg base 1 "is_whole" 1 eV)(c:Own P w K mg base 1 "looks" 3 gf):
  Own P w K mg base 2 "is_colouring" 3 d6:=xq ["web","signs","thing"] X G F λa=>
 (qF (qV (iy (gj (eY (ea (wn d (a2 xv (cn d8 (a1 xv)))))) (gO (eY (ea (cn (EO ag) (a1 (fk ["number"] (qd xv) ⟨gq,et,(wn b (a1 xv))⟩)))))))) (qG (qU eI)) qQ) (qG (qU (ce (oq iE) (yF ag a.units ag (bz B) ag (bz B) (wn c (a3 xv xv xv))) (cn vp (a1 (cz (vn a) (a1 xv))))))))
abbrev pi:df:=top 9
def mw:FT:=(mB (m2 (b2 gNe) (mV 4) (mV 3)))
def ms:FS:=(dv (dD (mV 4) (gN 3))
  (dD (tG 2 "numbered" (dm 1 fV) (dh (mN (dm 3 gf) (dh (mV 0) (dh (mV 1) (dh (mV 3) di)))) di)) (gN 4)))
def p0:FS:=(dv (dD (mN (b1 gTup) (dh (eG 1 [] (gJ (mV 0)) (gN 0) fq (d9 (mC (D.int 0)))) di)) (gN 3))
  (dv (dD (tG 2 "numbered" (dm 1 fV) (dh (mN (dm 3 gf) (dh (mV 0) (dh (mV 1) (dh (mV 3) di)))) di)) (gN 4))
  (dv (ut mw ms 100000)
  (dW (mV 3)))))
def iF:FN:=hZ 5 p0
def uV {f:cZ}(F:dX K "refined" pi f)(a:Own P w K mg base 1 "looks" 3 gf)(b:Own P w K mg base 1 "numbered" 1 fV):
  Own P w K mg base 2 "refined" 3 iF:=xq ["web","signs","numbering","colours","finer"] X G F λc=>
 (qF (sq (cz fQ (a1 (fk ["room"] (qd xv) ⟨gq,et,qK⟩)))) (qF (sq (pf 2 b c (by first|decide|omega) rfl (by first|exact Or.inl rfl|exact Or.inr rfl) (a1 (wn a (a3 xv xv xv))))) (qF (lM 100000 PassesOwn.never (ct (oq oZ) xv xv) (qF (sq xv) (qG (sq (pf 2 b c (by first|decide|omega) rfl (by first|exact Or.inl rfl|exact Or.inr rfl) (a1 (wn a (a3 xv xv xv)))))))) (qG (qU xv)))))
abbrev mh:df:=top 14
def mM:FS:=(dv (dD (mV 1) (gT 2 (fv (gN 2) (fv (gN 3) jh))))
  (dv (dD (mN (dm 2 ei) (dh (mV 0) (dh (mV 3) di))) (gN 4))
  (dW (mN (b1 gTup) (dh (eG 2 [2] (og (dh (mV 4) di)) (gT 2 (fv (gN 0) (fv (gN 1) jh))) fq (d9 (HN (mB (m2 (b2 mW) (mV 0) (mV 2))) (m2 (b2 ed) (mV 1) (mC (D.int 2))) (mV 1)))) di)))))
def fy:FN:=hZ 5 mM
def qM {f:cZ}(F:dX K "all_signs" mh f)(a:Own P w K mg base 1 "chalk_signs" 2 ei):
  Own P w K mg base 2 "all_signs" 2 fy:=xq ["web","standing","rooms","chalk","signs"] X G F λb=>
 (qF (qR xv (tg2 gq gq)) (qF (sq (wn a (a2 xv xv))) (qG (qU (cz fQ (a1 (fk ["room","sign"] (ie (a1 xv)) ⟨(tg2 gq gq),et,(uD (ct (oq tj) xv xv (by with_unfolding_all rfl)) (qI ez xv qK) xv)⟩)))))))
abbrev kd:df:=top 23
def gI:FT:=(mB (m2 (b2 gNe) (mV 4) (eH di)))
def gH:FS:=(eN (mz (b2 gK) (mV 5) (dh (mz (b2 xZ) (mV 4) (dh (mN (dm 2 dn) (dh (mV 0) (dh (mN (b1 dM) (dh (mV 4) di)) di))) di)) di)))
def gF:FS:=(dv (dD (dI (dh (mN (b1 rF) (dh (mV 3) di)) (dh (eH di) di))) (gT 2 (fv (gN 4) (fv (gN 5) jh))))
  (dv (ut gI gH 100000)
  (eN (mz (b2 gK) (mV 2) (dh (mV 5) di)))))
def gE:FS:=(eN (mz (b2 gK) (nY (mV 6) (mV 9) (eH di)) (dh (dI (dh (mV 7) (dh (mV 8) di))) di)))
def i9:FS:=(eT (og (dh (mV 5) di)) (gT 2 (fv (gN 8) (fv (gN 9) jh))) gE)
def km:FS:=(dv (dD (eH di) (gN 2))
  (dv (eT (gJ (mV 1)) (gN 3) gF)
  (dv (dD im (gN 6))
  (dv (eT (og (dh (mV 2) di)) (gT 2 (fv (gN 7) (fv (gN 5) jh))) i9)
  (dW (mN (b1 gTup) (dh (eG 2 [6] (og (dh (mV 2) di)) (gT 2 (fv (gN 0) (fv (gN 1) jh))) fq (d9 (mN (b1 gTup) (dh (eG 2 [2,0] (og (dh (mV 1) di)) (gT 2 (fv (gN 0) (fv (gN 1) jh))) fq (d9 (m2 (b2 dt) (m2 (b2 dt) (mV 2) (mV 1)) (mN (b1 o5) (dh (m2 (b2 gEq) (m2 (b2 dt) (m2 (b2 dt) (mV 2) (mV 1)) (mC (D.int 0))) (dI (dh (mV 3) (dh (mV 0) di)))) di))))) di)))) di)))))))
def fN:FN:=hZ 10 km
def nV {f:cZ}(F:dX K "_law_doored" kd f)(a:Own P w K mg base 1 "_law_take" 2 dn):
  Own P w K mg base 2 "_law_doored" 2 fN:=xq ["_law_hand_here","_law_ends","_law_rows","_law_some","_law_left","_law_row","_law_places","_law_room","_law_door","_law_way"] X G F λb=>
 (qF (sq (dR qN)) (qF (fo (qd xv) gq (qF (kI 4 5 ag (kf ag) ag ag (by decide) ag ag (a2 (cz vo (a1 xv)) (dR qN))) (qF (lM 100000 PassesOwn.never (ct (oq oZ) xv (dR qN)) (qG (lq PySem.F.slot_list_append PySem.F.type_list_append gZ xv (a1 (qe PySem.F.slot_list_pop PySem.F.type_list_pop Eg xv (a1 (wn a (a2 xv (cn d8 (a1 xv)))))))))) (qG (lq PySem.F.slot_list_append PySem.F.type_list_append gZ xv (a1 xv)))))) (qF (sq iz) (qF (fo (ie (a1 xv)) (tg2 gq gq) (qG (fo (ie (a1 xv)) (tg2 gq gq) (qG (lq PySem.F.slot_list_append PySem.F.type_list_append gZ (BW xv xv (dR qN)) (a1 (dw (a2 xv xv)))))))) (qG (qU (cz fQ (a1 (fk ["_law_room","_law_row"] (ie (a1 xv)) ⟨(tg2 gq gq),et,(cz fQ (a1 (fk ["_law_door","_law_way"] (ie (a1 xv)) ⟨(tg2 gq gq),et,(jq (jq xv xv) (cz ui (a1 (ce (oq iE) (jq (jq xv xv) qK) (dw (a2 xv xv))))))⟩)))⟩)))))))))
abbrev kX:df:=top 25
def lD:FS:=(dv (dD (xO (dh (mV 1) di)) (gN 2))
  (dW (eG 1 [2,0] (sv (dh (mV 1) di)) (gN 0) fq (d9 (mz (b2 xZ) (mV 1) (dh (mN (dm 2 dn) (dh (mV 2) (dh (mN (b1 dM) (dh (mV 1) di)) di))) di))))))
def fF:FN:=hZ 3 lD
def oW {f:cZ}(F:dX K "_law_order" kX f)(a:Own P w K mg base 1 "_law_take" 2 dn):
  Own P w K mg base 2 "_law_order" 2 fF:=xq ["_law_hand_here","_law_many","_law_left"] X G F λb=>
 (qF (sq (np ag ag (bz B) ag (bz B) (a1 xv))) (qG (qU (fk ["_law_k"] (ir (a1 xv)) ⟨gq,et,(qe PySem.F.slot_list_pop PySem.F.type_list_pop Eg xv (a1 (wn a (a2 xv (cn d8 (a1 xv))))))⟩))))
abbrev mm:df:=top 29
def iq:FS:=(eD (mB (m2 (b2 gEq) (m2 (b2 dt) (mV 2) (mV 3)) (m2 (b2 dt) (mV 2) (mV 5)))) (dv (eD (mOr (mB (m2 (b2 gNe) (mN (b1 dM) (dh (mV 4) di)) (mN (b1 dM) (dh (mV 6) di)))) (mB (m2 (b2 gNe) (m2 (b2 dt) (mV 1) (mV 3)) (m2 (b2 dt) (mV 1) (mV 5))))) (dW (mC (D.bl false))) jg)
  (eD (mTr (mN (b1 DN) (dh (eG 2 [2] (Ju (dh (mV 4) (dh (mV 6) di))) (gT 2 (fv (gN 0) (fv (gN 1) jh))) fq (d9 (Ay (m2 (b2 gNe) (m2 (b2 dt) (mV 2) (m2 (b2 dt) (mV 0) (mC (D.int 0)))) (m2 (b2 dt) (mV 2) (m2 (b2 dt) (mV 1) (mC (D.int 0))))) (m2 (b2 gNe) (m2 (b2 dt) (mV 0) (mC (D.int 1))) (m2 (b2 dt) (mV 1) (mC (D.int 1))))))) di))) (dW (mC (D.bl ah))) jg)) jg)
def gu:FS:=(eT (og (dh (mV 0) di)) (gT 2 (fv (gN 5) (fv (gN 6) jh))) iq)
def jK:FS:=(dv (eD (mOr (gB (mTr (iG .tuple (mV 2)))) (mOr (mB (m2 (b2 gNe) (mN (b1 dM) (dh (mV 2) di)) (mN (b1 dM) (dh (mV 0) di)))) (gB (mTr (mN (b1 rJ) (dh (eG 1 [] (gJ (mV 2)) (gN 0) fq (d9 (mN (dm 1 dN) (dh (mV 0) di)))) di)))))) (dW (mC (D.bl false))) jg)
  (dv (eT (og (dh (mV 0) di)) (gT 2 (fv (gN 3) (fv (gN 4) jh))) gu)
  (dW (mC (D.bl ai)))))
def eu:FN:=hZ 7 jK
def q0 {f:cZ}(F:dX K "_law_fits" mm f)(a:Own P w K mg base 1 "_law_whole" 1 dN):
  Own P w K mg base 2 "_law_fits" 3 eu:=xq ["_law_web_here","_law_signs_here","_law_thing","_law_one","_law_row","_law_other","_law_its"] X G F λb=>
 (qF (qV (iy (gj (eY (ea (ii xv))) (gj (ct (oq oZ) (cn d8 (a1 xv)) (cn d8 (a1 xv))) (gO (eY (ea (cn (EO ag) (a1 (fk ["_law_number"] (qd xv) ⟨gq,et,(wn a (a1 xv))⟩))))))))) (qG (qU eI)) qQ) (qF (fo (ie (a1 xv)) (tg2 gq gq) (qG (fo (ie (a1 xv)) (tg2 gq gq) (qG (qV (ct (oq iE) (jq xv xv) (jq xv xv)) (qF (qV (iy (gj (ct (oq oZ) (cn d8 (a1 xv)) (cn d8 (a1 xv))) (gO (ct (oq oZ) (jq xv xv) (jq xv xv))))) (qG (qU eI)) qQ) (qG (qV (ea (cn (JO ag) (a1 (fk ["_law_a","_law_b"] (BV ag (bz B) (a2 xv xv)) ⟨(tg2 gq gq),et,(vI (ce (oq oZ) (jq xv (jq xv qK)) (jq xv (jq xv qK))) (f0 (ce (oq oZ) (jq xv qK) (jq xv qK))))⟩)))) (qG (qU eI)) qQ))) qQ))))) (qG (qU eI))))
abbrev i8:df:=top 30
def ge:FS:=(eD (mB (m2 (b2 gEq) (mN (dm 2 dn) (dh (mV 0) (dh (mC (D.int 3)) di))) (mC (D.int 0)))) (eN (mz (b2 gK) (mV 5) (dh (eG 1 [0] (gJ (mV 4)) (gN 0) (mB (m2 (b2 gEq) (mN (dm 2 dn) (dh (mV 1) (dh (mC (D.int 2)) di))) (mC (D.int 0)))) (d9 (mV 0))) di))) (dv (dD (eG 1 [0] (gJ (mV 4)) (gN 0) (mB (m2 (b2 gEq) (mN (dm 2 dn) (dh (mV 1) (dh (mC (D.int 2)) di))) (mC (D.int 0)))) (d9 (mV 0))) (gN 7))
  (eN (mz (b2 gK) (mV 5) (dh (eG 1 [2,7] (gJ (mV 4)) (gN 0) (mB (m2 (b2 mW) (m2 (b2 dt) (mV 1) (mV 0)) (mV 2))) (d9 (mV 0))) di)))))
def ig:FS:=(eD (rh (mB (m2 (b2 gLt) (mN (b1 dM) (dh (mV 8) di)) (mN (b2 u8) (dh (mV 3) (dh (mN (b1 dM) (dh (mV 1) di)) di))))) (mB (m2 (b2 fu) (mV 10) (mV 8)))) (eN (mz (b2 gK) (mV 8) (dh (mV 10) di))) jg)
def jd:FS:=(dv (dD (xO (dh (mN (b1 dM) (dh (mV 1) di)) di)) (gN 4))
  (dv (dD (eH di) (gN 5))
  (dv (eT (sv (dh (mC (D.int 2)) di)) (gN 6) ge)
  (dv (dD (dI (dh (m2 (b2 dt) (mV 5) (mC (D.int 0))) (dh (m2 (b2 dt) (eH (dh (m2 (b2 dt) (mV 5) (mC (D.int 1))) (dh (eH di) di))) (mN (dm 2 dn) (dh (mV 0) (dh (mC (D.int 2)) di)))) di))) (gT 2 (fv (gN 8) (fv (gN 9) jh))))
  (dv (eT (gJ (mV 4)) (gN 10) ig)
  (dW (dI (dh (mN (b1 gTup) (dh (mN (b1 jE) (dh (mV 8) di)) di)) (dh (mN (b1 gTup) (dh (mV 9) di)) di)))))))))
def fj:FN:=hZ 11 jd
def lU {f:cZ}(F:dX K "_law_standing" i8 f)(a:Own P w K mg base 1 "_law_take" 2 dn):
  Own P w K mg base 2 "_law_standing" 4 fj:=xq ["_law_hand_here","_law_web_here","_law_copied","_law_least","_law_rooms","_law_some","_law_turn","_law_kept","_law_walkers","_law_chalk","_law_room"] X G F λb=>
 (qF (sq (np ag ag (bz B) ag (bz B) (a1 (cn d8 (a1 xv))))) (qF (sq (dR qN)) (qF (fo (ir (a1 qK)) gq (qG (qV (ct (oq iE) (wn a (a2 xv qK)) qK) (qG (lq PySem.F.slot_list_append PySem.F.type_list_append gZ xv (a1 (fk ["_law_room"] (qd xv) ⟨gq,(kJ (ct (oq iE) (wn a (a2 xv qK)) qK)),xv⟩)))) (qF (sq (fk ["_law_room"] (qd xv) ⟨gq,(kJ (ct (oq iE) (wn a (a2 xv qK)) qK)),xv⟩)) (qG (lq PySem.F.slot_list_append PySem.F.type_list_append gZ xv (a1 (fk ["_law_room"] (qd xv) ⟨gq,(kJ (ct (oq tj) (jq xv xv) xv (by with_unfolding_all rfl))),xv⟩)))))))) (qF (kI 8 9 ag (kf ag) ag ag (by decide) ag ag (a2 (jq xv qK) (jq (dR (a2 (jq xv qK) (dR qN))) (wn a (a2 xv qK))))) (qF (fo (qd xv) gq (qG (qV (iy (mZ (ct (oq ja) (cn d8 (a1 xv)) (cn (EN ag) (a2 xv (cn d8 (a1 xv))))) (kH (ct (oq nW) xv xv (by with_unfolding_all rfl))))) (qG (lq PySem.F.slot_list_append PySem.F.type_list_append gZ xv (a1 xv))) qQ))) (qG (qU (dw (a2 (cz fQ (a1 (cn DY (a1 xv)))) (cz fQ (a1 xv)))))))))))
abbrev nJ:df:=top 33
def oJ:FS:=(dv (dD (eH (dh (mC D.non) (dh (mC (D.bl true)) (dh (mC (D.bl false)) (dh (m1 (b1 oi) (mC (D.int 1))) (dh (mC (D.int 0)) (dh (mC (D.int 1)) (dh (mC (D.int 9)) (dh (m2 (b2 oh) (mC (D.int 10)) (mC (D.int 30))) (dh (mC (D.str "")) (dh (mC (D.str "colours")) (dh (mC (D.str "alike")) (dh (mC (D.str "0")) (dh (dI di) (dh (dI (dh (mC (D.int 0)) di)) (dh (eH di) (dh (eH (dh (mC (D.int 0)) di)) (dh im (dh (dI (dh (mV 1) di)) di))))))))))))))))))) (gN 2))
  (dv (eD (mTr (iG .tuple (mV 1))) (dv (dD (eH (dh (kw (mV 1) (ij (mC (D.int 1))) ik) (dh (kw (mV 1) ik (ij (m1 (b1 oi) (mC (D.int 1))))) (dh (m2 (b2 ed) (mV 1) (kw (mV 1) (ij (m1 (b1 oi) (mC (D.int 1)))) ik)) (dh (Aw (mV 1) (m1 (b1 oi) (mC (D.int 1)))) (dh (mN (b1 rF) (dh (mV 1) di)) di)))))) (gN 2))
  (dv (dD (m2 (b2 ed) (mV 2) (eH (dh (m2 (b2 ed) (mV 1) (dI (dh (mC (D.int 0)) di))) (dh (m2 (b2 ed) (dI (dh (mC (D.int 0)) di)) (mV 1)) (dh (mC D.non) (dh (m2 (b2 ed) (mV 1) (dI (dh (mC D.non) di))) (dh (mC (D.int 0)) di))))))) (gN 2))
  (dD (m2 (b2 ed) (mV 2) (eH (dh (mC (D.str "")) (dh (dI (dh (mV 1) di)) (dh (m2 (b2 ed) (dI (dh (mC D.non) di)) (mV 1)) (dh (m2 (b2 ed) (mV 1) (mV 1)) (dh (eH (dh (mV 1) di)) (dh im di)))))))) (gN 2)))) jg)
  (dv (eD (mTr (mN (dm 1 dN) (dh (mV 1) di))) (dv (dD (m2 (b2 ed) (mV 2) (eH (dh (m2 (b2 gEq) (mV 1) (mC (D.int 1))) (dh (m2 (b2 ed) (mV 1) (mC (D.int 1))) (dh (m1 (b1 oi) (mV 1)) di))))) (gN 2))
  (dD (m2 (b2 ed) (mV 2) (eH (dh (mN (b1 DC) (dh (mV 1) di)) (dh (dI (dh (mV 1) (dh (mV 1) di))) di)))) (gN 2))) jg)
  (dW (m2 (b2 dt) (mV 2) (mN (dm 2 dn) (dh (mV 0) (dh (mN (b1 dM) (dh (mV 2) di)) di))))))))
def fW:FN:=hZ 3 oJ
def sY {f:cZ}(F:dX K "_law_odd" nJ f)(a:Own P w K mg base 1 "_law_take" 2 dn)(b:Own P w K mg base 1 "_law_whole" 1 dN):
  Own P w K mg base 2 "_law_odd" 2 fW:=xq ["_law_hand_here","_law_thing","_law_some"] X G F λc=>
 (qF (sq (dR (qA ib (qA eI (qA eI (qA (nl s9 qK) (qA qK (qA qK (qA qK (qA (qI wk qK qK) (qA dS (qA dS (qA dS (qA dS (qA (dw qN) (qA (dw (a1 qK)) (qA (dR qN) (a3 (dR (a1 qK)) iz (dw (a1 xv)))))))))))))))))))) (qF (qV (ea (ii xv)) (qF (sq (dR (qA (fw xv (gx qK) gy) (qA (fw xv gy (gx (nl s9 qK))) (a3 (qI ez xv (fw xv (gx (nl s9 qK)) gy)) (sC xv (nl s9 qK)) (cz vo (a1 xv))))))) (qF (sq (qI ez xv (dR (qA (qI ez xv (dw (a1 qK))) (qA (qI ez (dw (a1 qK)) xv) (a3 ib (qI ez xv (dw (a1 ib))) qK)))))) (qG (sq (qI ez xv (dR (qA dS (qA (dw (a1 xv)) (qA (qI ez (dw (a1 ib)) xv) (a3 (qI ez xv xv) (dR (a1 xv)) iz)))))))))) qQ) (qF (qV (ea (wn b (a1 xv))) (qF (sq (qI ez xv (dR (a3 (ce (oq iE) xv qK) (qI ez xv qK) (nl s9 xv))))) (qG (sq (qI ez xv (dR (a2 (cz JL (a1 xv)) (dw (a2 xv xv)))))))) qQ) (qG (qU (jq xv (wn a (a2 xv (cn d8 (a1 xv))))))))))
abbrev mf:df:=top 8
def mL:FS:=(dW (mN (dm 3 iF) (dh (mV 0) (dh (mV 1) (dh (mC (D.fn "numbered")) di)))))
def fx:FN:=hZ 2 mL
def qL {f:cZ}(F:dX K "colouring" mf f)(b:Own P w K mg base 2 "refined" 3 iF)(a:CGl K mg "numbered" (D.fn "numbered")):
  Own P w K mg base 3 "colouring" 2 fx:=xq ["web","signs"] X G F λc=>
 (qG (qU (wn b (a3 xv xv (yG a ag)))))
abbrev j9:df:=top 19
def kj:FS:=(dv (dD (mV 1) (gT 2 (fv (gN 3) (fv (gN 4) jh))))
  (dv (dD (mV 2) (gT 4 (fv (gN 5) (fv (gN 6) (fv (gN 7) (fv (gN 8) jh))))))
  (dv (eD (mOr (gB (mTr (mN (dm 2 gr) (dh (mV 7) (dh (mN (b1 dM) (dh (mV 3) di)) di))))) (gB (mTr (mN (dm 2 gr) (dh (mV 6) (dh (mV 7) di)))))) (dW (mC (D.bl ah))) jg)
  (dW (iH (mN (dm 3 d6) (dh (mV 0) (dh (mN (dm 2 ei) (dh (mV 0) (dh (mV 4) di))) (dh (mV 8) di)))) (m2 (b2 gEq) (m2 (b2 dt) (mV 8) (m2 (b2 dt) (mV 3) (mV 6))) (m2 (b2 dt) (mV 8) (m2 (b2 dt) (mV 3) (mV 7)))))))))
def fM:FN:=hZ 9 kj
def nS {f:cZ}(F:dX K "shows_alike" j9 f)(b:Own P w K mg base 1 "chalk_signs" 2 ei)(a:Own P w K mg base 2 "is_below" 2 gr)(c:Own P w K mg base 2 "is_colouring" 3 d6):
  Own P w K mg base 3 "shows_alike" 3 fM:=xq ["web","standing","paper","rooms","chalk","word","i","j","colours"] X G F λd=>
 (qF (qR xv (tg2 gq gq)) (qF (qR xv (vH ag (gR gq (gR gq (gR gq (gR gq sA)))))) (qF (qV (iy (gj (eY (ea (wn a (a2 xv (cn d8 (a1 xv)))))) (gO (eY (ea (wn a (a2 xv xv))))))) (qG (qU eI)) qQ) (qG (qU (gt (wn c (a3 xv (wn b (a2 xv xv)) xv)) (f0 (ce (oq iE) (jq xv (jq xv xv)) (jq xv (jq xv xv))))))))))
abbrev iD:df:=top 24
def fT:FS:=(dv (dD (eG 1 [4] (sv (dh (mV 5) di)) (gN 0) (mB (m2 (b2 gLt) (mN (b1 dM) (dh (m2 (b2 dt) (mV 1) (mV 0)) di)) (mC (D.int 4)))) (d9 (mV 0))) (gN 6))
  (dv (dD (m2 (b2 dt) (mV 6) (mN (dm 2 dn) (dh (mV 0) (dh (mN (b1 dM) (dh (mV 6) di)) di)))) (gN 7))
  (dv (eN (mz (b2 gK) (m2 (b2 dt) (mV 4) (mV 5)) (dh (mV 3) di)))
  (dv (eN (mz (b2 gK) (m2 (b2 dt) (mV 4) (mV 7)) (dh (mV 3) di)))
  (dD (m2 (b2 ed) (mV 3) (mC (D.int 1))) (gN 3))))))
def fS:FS:=(dv (dD (dI (dh (mN (dm 2 dn) (dh (mV 0) (dh (mV 2) di))) (dh (mN (dm 2 dn) (dh (mV 0) (dh (mV 2) di))) di))) (gT 2 (fv (gN 9) (fv (gN 7) jh))))
  (eD (rh (mB (m2 (b2 gLt) (m2 (b2 ed) (mN (b1 dM) (dh (m2 (b2 dt) (mV 4) (mV 9)) di)) (mN (b1 o5) (dh (m2 (b2 gEq) (mV 9) (mV 7)) di))) (mC (D.int 4)))) (mB (m2 (b2 gLt) (mN (b1 dM) (dh (m2 (b2 dt) (mV 4) (mV 7)) di)) (mC (D.int 4))))) (dv (eN (mz (b2 gK) (m2 (b2 dt) (mV 4) (mV 9)) (dh (mV 3) di)))
  (dv (eN (mz (b2 gK) (m2 (b2 dt) (mV 4) (mV 7)) (dh (mV 3) di)))
  (dD (m2 (b2 ed) (mV 3) (mC (D.int 1))) (gN 3)))) jg))
def iM:FS:=(dv (dD (dI (dh (m2 (b2 ed) (mC (D.int 1)) (mN (dm 2 dn) (dh (mV 0) (dh (mV 1) di)))) (dh (mC (D.int 0)) di))) (gT 2 (fv (gN 2) (fv (gN 3) jh))))
  (dv (dD (eG 1 [] (sv (dh (mV 2) di)) (gN 0) fq (d9 (eH di))) (gN 4))
  (dv (eT (HP (dh (mC (D.int 1)) (dh (mV 2) di))) (gN 5) fT)
  (dv (eT (sv (dh (mN (dm 2 dn) (dh (mV 0) (dh (mC (D.int 6)) di))) di)) (gN 8) fS)
  (dW (mN (dm 2 fN) (dh (mV 0) (dh (mV 4) di))))))))
def fb:FN:=hZ 10 iM
def la {f:cZ}(F:dX K "_law_plain_web" iD f)(b:Own P w K mg base 2 "_law_doored" 2 fN)(a:Own P w K mg base 1 "_law_take" 2 dn):
  Own P w K mg base 3 "_law_plain_web" 2 fb:=xq ["_law_hand_here","_law_most","_law_rooms","_law_many","_law_ends","_law_room","_law_some","_law_other","_law_turn","_law_one"] X G F λc=>
 (qF (kI 2 3 ag (kf ag) ag ag (by decide) ag ag (a2 (qI ez qK (wn a (a2 xv xv))) qK)) (qF (sq (fk ["_law_room"] (ir (a1 xv)) ⟨gq,et,(dR qN)⟩)) (qF (fo (nk ag (bz B) (a2 qK xv)) gq (qF (ph 6 ag (T:=["_law_other"]) (keep:=[4]) ⟨ag,by decide+kernel,(kc "_law_ends" (cy _))⟩ ag (ir (a1 xv)) (λ_ _ _=>⟨gq,(kJ (ct (oq ja) (cn d8 (a1 (jq xv xv))) qK)),xv⟩) (kf ag) ag (by first|exact Or.inl rfl|exact Or.inr rfl)) (qF (sq (jq xv (wn a (a2 xv (cn d8 (a1 xv)))))) (qF (lq PySem.F.slot_list_append PySem.F.type_list_append gZ (jq xv xv) (a1 xv)) (qF (lq PySem.F.slot_list_append PySem.F.type_list_append gZ (jq xv xv) (a1 xv)) (qG (sq (qI ez xv qK)))))))) (qF (fo (ir (a1 (wn a (a2 xv qK)))) gq (qF (kI 9 7 rfl (kf rfl) rfl rfl (by decide) rfl rfl (a2 (wn a (a2 xv xv)) (wn a (a2 xv xv)))) (qG (qV (iy (mZ (ct (oq ja) (qI ez (cn d8 (a1 (jq xv xv))) (cz ui (a1 (ce (oq iE) xv xv)))) qK) (kH (ct (oq ja) (cn d8 (a1 (jq xv xv))) qK)))) (qF (lq PySem.F.slot_list_append PySem.F.type_list_append gZ (jq xv xv) (a1 xv)) (qF (lq PySem.F.slot_list_append PySem.F.type_list_append gZ (jq xv xv) (a1 xv)) (qG (sq (qI ez xv qK))))) qQ)))) (qG (qU (wn b (a2 xv xv))))))))
abbrev kY:df:=top 26
def hH:FS:=(dv (dD (dI (dh (mV 7) (dh (mV 10) (dh (mV 8) di)))) (gS (b3 jc) (mV 3) (dI (dh (mV 4) (dh (mV 9) (dh (mV 6) di))))))
  (dD (dI (dh (mV 4) (dh (mV 9) (dh (mV 6) di)))) (gS (b3 jc) (mV 3) (dI (dh (mV 7) (dh (mV 10) (dh (mV 8) di)))))))
def jv:FS:=(eD (mB (m2 (b2 gLt) (dI (dh (mV 4) (dh (mV 6) di))) (dI (dh (mV 7) (dh (mV 8) di))))) (eT (og (dh (mN (dm 2 fF) (dh (mV 0) (dh (mV 2) di))) di)) (gT 2 (fv (gN 9) (fv (gN 10) jh))) hH) jg)
def hE:FS:=(eT (og (dh (mV 5) di)) (gT 2 (fv (gN 6) (fv (gT 2 (fv (gN 7) (fv (gN 8) jh))) jh))) jv)
def ju:FS:=(eD (mB (m2 (b2 fu) (kw (m2 (b2 dt) (mV 3) (dI (dh (mV 4) (dh (mV 9) (dh (mV 6) di))))) ik (ij (mC (D.int 2)))) (mV 11))) (eN (mz (b2 gK) (mV 11) (dh (kw (m2 (b2 dt) (mV 3) (dI (dh (mV 4) (dh (mV 9) (dh (mV 6) di))))) ik (ij (mC (D.int 2)))) di))) jg)
def hD:FT:=(mB (m2 (b2 gLt) (mV 12) (mN (b1 dM) (dh (mV 11) di))))
def hC:FS:=(dv (dD (m2 (b2 dt) (mV 11) (mV 12)) (gT 2 (fv (gN 4) (fv (gN 9) jh))))
  (dv (eT (sv (dh (mN (b1 dM) (dh (m2 (b2 dt) (mV 1) (mV 4)) di)) di)) (gN 6) ju)
  (dD (m2 (b2 ed) (mV 12) (mC (D.int 1))) (gN 12))))
def jt:FS:=(dv (dD (eG 1 [3,4,9] (sv (dh (mN (b1 dM) (dh (m2 (b2 dt) (mV 1) (mV 4)) di)) di)) (gN 0) fq (d9 (m2 (b2 dt) (mV 1) (dI (dh (mV 2) (dh (mV 3) (dh (mV 0) di))))))) (gN 14))
  (eN (mz (b2 gK) (mV 13) (dh (mN (b1 gTup) (dh (eG 1 [11] (gJ (mV 14)) (gN 0) fq (d9 (dI (dh (mz (b2 AY) (mV 1) (dh (kw (mV 0) ik (ij (mC (D.int 2)))) di)) (dh (m2 (b2 dt) (mV 0) (mC (D.int 2))) di))))) di)) di))))
def lE:FS:=(dv (dD im (gN 3))
  (dv (eT (og (dh (mV 1) di)) (gT 2 (fv (gN 4) (fv (gN 5) jh))) hE)
  (dv (dD (dI (dh (eH (dh (dI (dh (mC (D.int 0)) (dh (mC (D.int 0)) di))) di)) (dh (mC (D.int 0)) di))) (gT 2 (fv (gN 11) (fv (gN 12) jh))))
  (dv (ut hD hC 100000)
  (dv (dD (eH di) (gN 13))
  (dv (eT (gJ (mV 11)) (gT 2 (fv (gN 4) (fv (gN 9) jh))) jt)
  (dW (dI (dh (mN (b1 gTup) (dh (mV 13) di)) (dh (mN (b1 gTup) (dh (eG 2 [] (gJ (mV 11)) (gT 2 (fv (gN 0) (fv (gN 1) jh))) fq (d9 (mV 0))) di)) di))))))))))
def gg:FN:=hZ 15 lE
def oX {f:cZ}(F:dX K "_law_cover" kY f)(a:Own P w K mg base 2 "_law_order" 2 fF):
  Own P w K mg base 3 "_law_cover" 3 gg:=xq ["_law_hand_here","_law_web_here","_law_copies","_law_steps","_law_room","_law_row","_law_door","_law_other","_law_back","_law_copy","_law_to","_law_met","_law_at","_law_found","_law_some"] X G F λb=>
 (qF (sq iz) (qF (fo (ie (a1 xv)) (tg2 gq gq) (qG (fo (ie (a1 xv)) (tg2 gq (tg2 gq gq)) (qG (qV (ct (oq ja) (dw (a2 xv xv)) (dw (a2 xv xv))) (qG (fo (ie (a1 (wn a (a2 xv xv)))) (tg2 gq gq) (qF (qR (dw (a3 xv xv xv)) (kK xv (dw (a3 xv xv xv)) (nD b.units))) (qG (qR (dw (a3 xv xv xv)) (kK xv (dw (a3 xv xv xv)) (nD b.units))))))) qQ))))) (qF (qR (dw (a2 (dR (a1 (dw (a2 qK qK)))) qK)) (tg2 gq gq)) (qF (lM 100000 PassesOwn.never (ct (oq ja) xv (cn d8 (a1 xv))) (qF (qR (jq xv xv) (tg2 gq gq)) (qF (fo (ir (a1 (cn d8 (a1 (jq xv xv))))) gq (qG (qV (ct (oq nW) (fw (jq xv (dw (a3 xv xv xv))) gy (gx qK)) xv (by with_unfolding_all rfl)) (qG (lq PySem.F.slot_list_append PySem.F.type_list_append gZ xv (a1 (fw (jq xv (dw (a3 xv xv xv))) gy (gx qK))))) qQ))) (qG (sq (qI ez xv qK)))))) (qF (sq (dR qN)) (qF (fo (qd xv) (tg2 gq gq) (qF (ph 14 ag (T:=["_law_door"]) (keep:=[3,4,9]) ⟨ag,by decide+kernel,(kc "_law_steps" (kc "_law_room" (kc "_law_copy" (cy _))))⟩ ag (ir (a1 (cn d8 (a1 (jq xv xv))))) (λ_ _ _=>⟨gq,et,(jq xv (dw (a3 xv xv xv)))⟩) (kf ag) ag (by first|exact Or.inl rfl|exact Or.inr rfl)) (qG (lq PySem.F.slot_list_append PySem.F.type_list_append gZ xv (a1 (cz fQ (a1 (fk ["_law_step"] (qd xv) ⟨gq,et,(dw (a2 (qe PySem.F.slot_list_index PySem.F.type_list_index (HY b.units) xv (a1 (fw xv gy (gx qK)))) (jq xv qK)))⟩)))))))) (qG (qU (dw (a2 (cz fQ (a1 xv)) (cz fQ (a1 (fk ["_law_room","_law_copy"] (qd xv) ⟨(tg2 gq gq),et,xv⟩)))))))))))))
abbrev nK:df:=top 32
def oK:FS:=(dv (eD (mOr (gB (mTr (iG .tuple (mV 3)))) (mOr (mB (m2 (b2 gEq) (mV 3) (dI di))) (gB (mTr (iG .str (m2 (b2 dt) (mV 3) (mC (D.int 0)))))))) (dW (mC (D.bl false))) jg)
  (dv (eD (rh (mB (m2 (b2 gEq) (m2 (b2 dt) (mV 3) (mC (D.int 0))) (mC (D.str "colours")))) (mB (m2 (b2 gEq) (mN (b1 dM) (dh (mV 3) di)) (mC (D.int 2))))) (dv (dD (mN (dm 3 eu) (dh (mV 0) (dh (mN (dm 3 fe) (dh (mV 0) (dh (mV 1) (dh (mC (D.bl ai)) di)))) (dh (m2 (b2 dt) (mV 3) (mC (D.int 1))) di)))) (gN 4))
  (dW (iH (mV 4) (m2 (b2 gLt) (mN (b1 oj) (dh (mN (b1 gQ) (dh (m2 (b2 dt) (mV 3) (mC (D.int 1))) di)) di)) (mN (b1 dM) (dh (mV 0) di)))))) jg)
  (dv (eD (mOr (mB (m2 (b2 gNe) (m2 (b2 dt) (mV 3) (mC (D.int 0))) (mC (D.str "alike")))) (mOr (mB (m2 (b2 gNe) (mN (b1 dM) (dh (mV 3) di)) (mC (D.int 4)))) (gB (mTr (mV 2))))) (dW (mC (D.bl ah))) jg)
  (dv (eD (mOr (gB (mTr (mN (dm 1 dN) (dh (m2 (b2 dt) (mV 3) (mC (D.int 1))) di)))) (gB (mTr (mN (dm 1 dN) (dh (m2 (b2 dt) (mV 3) (mC (D.int 2))) di))))) (dW (mC (D.bl ah))) jg)
  (dv (eD (gB (mB (xP (b2 (iX λi j=>decide (i<=j))) (b2 gLt) (b2 gLt) (mC (D.int 0)) (m2 (b2 dt) (mV 3) (mC (D.int 1))) (m2 (b2 dt) (mV 3) (mC (D.int 2))) (mN (b1 dM) (dh (m2 (b2 dt) (mV 1) (mC (D.int 0))) di))))) (dW (mC (D.bl ah))) jg)
  (dv (eD (gB (mTr (mN (dm 3 eu) (dh (mV 0) (dh (mN (dm 3 fe) (dh (mV 0) (dh (mV 1) (dh (mC (D.bl ah)) di)))) (dh (m2 (b2 dt) (mV 3) (mC (D.int 3))) di)))))) (dW (mC (D.bl ah))) jg)
  (dW (m2 (b2 gEq) (m2 (b2 dt) (m2 (b2 dt) (mV 3) (mC (D.int 3))) (m2 (b2 dt) (m2 (b2 dt) (mV 1) (mC (D.int 0))) (m2 (b2 dt) (mV 3) (mC (D.int 1))))) (m2 (b2 dt) (m2 (b2 dt) (mV 3) (mC (D.int 3))) (m2 (b2 dt) (m2 (b2 dt) (mV 1) (mC (D.int 0))) (m2 (b2 dt) (mV 3) (mC (D.int 2)))))))))))))
def hR:FN:=hZ 5 oK
def sZ {f:cZ}(F:dX K "_law_due" nK f)(a:Own P w K mg base 2 "_law_fits" 3 eu)(b:Own P w K mg base 1 "_law_signs" 3 fe)(c:Own P w K mg base 1 "_law_whole" 1 dN):
  Own P w K mg base 3 "_law_due" 4 hR:=xq ["_law_web_here","_law_standing_here","_law_quiet","_law_thing","_law_right"] X G F λd=>
 (qF (qV (iy (gj (eY (ea (ii xv))) (gj (ct (oq iE) xv (dw qN)) (gO (eY (ea (ii (jq xv qK)))))))) (qG (qU eI)) qQ) (qF (qV (iy (mZ (ct (oq iE) (jq xv qK) dS) (kH (ct (oq iE) (cn d8 (a1 xv)) qK)))) (qF (sq (wn a (a3 xv (wn b (a3 xv xv eI)) (jq xv qK)))) (qG (qU (gt xv (f0 (ce (oq ja) (cn vp (a1 (cz (vn d) (a1 (jq xv qK))))) (cn d8 (a1 xv)))))))) qQ) (qF (qV (iy (gj (ct (oq oZ) (jq xv qK) dS) (gj (ct (oq oZ) (cn d8 (a1 xv)) qK) (gO (eY (ea xv)))))) (qG (qU eI)) qQ) (qF (qV (iy (gj (eY (ea (wn c (a1 (jq xv qK))))) (gO (eY (ea (wn c (a1 (jq xv qK)))))))) (qG (qU eI)) qQ) (qF (qV (eY (uA IT (oq ja) (oq ja) qK (jq xv qK) (jq xv qK) (cn d8 (a1 (jq xv qK))))) (qG (qU eI)) qQ) (qF (qV (eY (ea (wn a (a3 xv (wn b (a3 xv xv eI)) (jq xv qK))))) (qG (qU eI)) qQ) (qG (qU (ce (oq iE) (jq (jq xv qK) (jq (jq xv qK) (jq xv qK))) (jq (jq xv qK) (jq (jq xv qK) (jq xv qK))))))))))))
abbrev vX:df:=top 17
def pw:FS:=(eD (mB (m2 (b2 gEq) (m2 (b2 dt) (mV 4) (m2 (b2 dt) (mV 2) (mV 5))) (m2 (b2 dt) (mV 4) (m2 (b2 dt) (mV 2) (mV 6))))) (dW (dI (dh (mC (D.str "alike")) (dh (mV 5) (dh (mV 6) (dh (mV 4) di)))))) jg)
def pv:FS:=(eT (HP (dh (m2 (b2 ed) (mV 5) (mC (D.int 1))) (dh (mN (b1 dM) (dh (mV 2) di)) di))) (gN 6) pw)
def w4:FS:=(dv (dD (mV 1) (gT 2 (fv (gN 2) (fv (gN 3) jh))))
  (dv (dD (mN (dm 2 fx) (dh (mV 0) (dh (mN (dm 2 ei) (dh (mV 0) (dh (mV 3) di))) di))) (gN 4))
  (dv (eT (sv (dh (mN (b1 dM) (dh (mV 2) di)) di)) (gN 5) pv)
  (dW (mC D.non)))))
def li:FN:=hZ 7 w4
def zY {f:cZ}(F:dX K "alike" vX f)(b:Own P w K mg base 1 "chalk_signs" 2 ei)(a:Own P w K mg base 3 "colouring" 2 fx):
  Own P w K mg base 4 "alike" 2 li:=xq ["web","standing","rooms","chalk","colours","i","j"] X G F λc=>
 (qF (qR xv (tg2 gq gq)) (qF (sq (wn a (a2 xv (wn b (a2 xv xv))))) (qF (fo (ir (a1 (cn d8 (a1 xv)))) gq (qG (fo (nk ag (bz B) (a2 (qI ez xv qK) (cn d8 (a1 xv)))) gq (qG (qV (ct (oq iE) (jq xv (jq xv xv)) (jq xv (jq xv xv))) (qG (qU (dw (qA dS (a3 xv xv xv))))) qQ))))) (qG (qU ib)))))
abbrev j8:df:=top 18
def kh:FS:=(dv (eD (mTr (mN (dm 3 fY) (dh (mV 3) (dh (mC (D.str "colours")) (dh (mC (D.int 2)) di))))) (dW (iH (mN (dm 3 d6) (dh (mV 0) (dh (mN (dm 2 fy) (dh (mV 0) (dh (mV 1) di))) (dh (m2 (b2 dt) (mV 3) (mC (D.int 1))) di)))) (pz (mN (dm 1 eF) (dh (m2 (b2 dt) (mV 3) (mC (D.int 1))) di))))) jg)
  (dv (eD (rh (mTr (mV 2)) (mTr (mN (dm 3 fY) (dh (mV 3) (dh (mC (D.str "alike")) (dh (mC (D.int 4)) di)))))) (dW (mN (dm 3 fM) (dh (mV 0) (dh (mV 1) (dh (mV 3) di))))) jg)
  (dW (mC (D.bl ah)))))
def fL:FN:=hZ 4 kh
def nR {f:cZ}(F:dX K "shows_never" j8 f)(d:Own P w K mg base 2 "all_signs" 2 fy)(c:Own P w K mg base 1 "all_unlike" 1 eF)(e:Own P w K mg base 2 "is_colouring" 3 d6)(a:Own P w K mg base 2 "is_headed" 3 fY)(b:Own P w K mg base 3 "shows_alike" 3 fM):
  Own P w K mg base 4 "shows_never" 4 fL:=xq ["web","standing","quiet","thing"] X G F λg=>
 (qF (qV (ea (wn a (a3 xv dS qK))) (qG (qU (gt (wn e (a3 xv (wn d (a2 xv xv)) (jq xv qK))) (f0 (p8 (wn c (a1 (jq xv qK)))))))) qQ) (qF (qV (iy (mZ (ea xv) (kH (ea (wn a (a3 xv dS qK)))))) (qG (qU (wn b (a3 xv xv xv)))) qQ) (qG (qU eI))))
abbrev nI:df:=top 27
def oI:FS:=(dv (dD (m2 (b2 dt) (eH (dh (mC (D.int 1)) (dh (mC (D.int 1)) (dh (mC (D.int 2)) (dh (mC (D.int 2)) (dh (mC (D.int 3)) (dh (mC (D.int 4)) di))))))) (mN (dm 2 dn) (dh (mV 0) (dh (mC (D.int 6)) di)))) (gN 1))
  (dv (dD (mN (dm 2 fb) (dh (mV 0) (dh (m2 (b2 rG) (mC (D.int 8)) (mV 1)) di))) (gN 2))
  (dv (eD (mB (m2 (b2 gEq) (mV 1) (mC (D.int 1)))) (dW (dI (dh (mV 2) (dh (Av (dh (mN (b1 dM) (dh (mV 2) di)) di)) di)))) jg)
  (dW (mN (dm 3 gg) (dh (mV 0) (dh (mV 2) (dh (mV 1) di))))))))
def hO:FN:=hZ 3 oI
def sX {f:cZ}(F:dX K "_law_web" nI f)(a:Own P w K mg base 3 "_law_cover" 3 gg)(b:Own P w K mg base 3 "_law_plain_web" 2 fb)(c:Own P w K mg base 1 "_law_take" 2 dn):
  Own P w K mg base 4 "_law_web" 1 hO:=xq ["_law_hand_here","_law_copies","_law_web_here"] X G F λd=>
 (qF (sq (jq (dR (qA qK (qA qK (qA qK (a3 qK qK qK))))) (wn c (a2 xv qK)))) (qF (sq (wn b (a2 xv (qI wl qK xv)))) (qF (qV (ct (oq iE) xv qK) (qG (qU (dw (a2 xv (sB ag ag (bz B) ag (bz B) (a1 (cn d8 (a1 xv)))))))) qQ) (qG (qU (wn a (a3 xv xv xv)))))))
abbrev vV:df:=top 16
def w1:FS:=(dv (dD (mN (dm 2 fx) (dh (mV 0) (dh (mN (dm 2 fy) (dh (mV 0) (dh (mV 1) di))) di))) (gN 3))
  (dv (eD (gB (mTr (mN (dm 1 eF) (dh (mV 3) di)))) (dW (dI (dh (mC (D.str "colours")) (dh (mV 3) di)))) jg)
  (dW (HN (mTr (mV 2)) (mN (dm 2 li) (dh (mV 0) (dh (mV 1) di))) (mC D.non)))))
def lh:FN:=hZ 4 w1
def zW {f:cZ}(F:dX K "never" vV f)(c:Own P w K mg base 4 "alike" 2 li)(d:Own P w K mg base 2 "all_signs" 2 fy)(b:Own P w K mg base 1 "all_unlike" 1 eF)(a:Own P w K mg base 3 "colouring" 2 fx):
  Own P w K mg base 5 "never" 3 lh:=xq ["web","standing","quiet","colours"] X G F λe=>
 (qF (sq (wn a (a2 xv (wn d (a2 xv xv))))) (qF (qV (eY (ea (wn b (a1 xv)))) (qG (qU (dw (a2 dS xv)))) qQ) (qG (qU (uD (ea xv) (wn c (a2 xv xv)) ib)))))
abbrev jo:df:=top 34
def gC(self:FN):FS:=(dv (eD (mOr (mB (m2 (b2 gLt) (mV 2) (mC (D.int 1)))) (mOr (gB (mTr (iG .tuple (mV 1)))) (mB (m2 (b2 gEq) (mV 1) (dI di))))) (dW (mN (dm 2 fW) (dh (mV 0) (dh (mV 1) di)))) jg)
  (dv (eD (mB (m2 (b2 gEq) (mN (dm 2 dn) (dh (mV 0) (dh (mC (D.int 4)) di))) (mC (D.int 0)))) (dW (mN (dm 2 fW) (dh (mV 0) (dh (mV 1) di)))) jg)
  (dv (dD (mN (dm 2 dn) (dh (mV 0) (dh (mN (b1 dM) (dh (mV 1) di)) di))) (gN 3))
  (dv (dD (mN (dm 3 self) (dh (mV 0) (dh (m2 (b2 dt) (mV 1) (mV 3)) (dh (m2 (b2 gSub) (mV 2) (mC (D.int 1))) di)))) (gN 4))
  (dW (m2 (b2 ed) (m2 (b2 ed) (kw (mV 1) ik (ij (mV 3))) (dI (dh (mV 4) di))) (kw (mV 1) (ij (m2 (b2 ed) (mV 3) (mC (D.int 1)))) ik)))))))
def fE:Nat->FN
 |0=>λ_ _=>aj
 |n+1=>hZ 5 (gC (fE n))
def il:FN:=fE 8
def qj {f:cZ}{fd:de}(F:xc K "_law_bent" "_law_bent" jo f fd)(hb:jf K fd ["_law_hand_here","_law_thing","_law_deep"] [])(hm:mg "_law_bent"=some (.ref f))(c:Own P w K mg base 2 "_law_odd" 2 fW)(e:Own P w K mg base 1 "_law_take" 2 dn){k:Nat}{a:FN}(hk:2<=k)(o_self:Own P w K mg base k "_law_bent" 3 a):
  Own P w K mg base (k+1) "_law_bent" 3 (hZ 5 (gC a)):=vG (n:=3) (N:=["_law_hand_here","_law_thing","_law_deep","_law_at","_law_inner"]) (ps:=["_law_hand_here","_law_thing","_law_deep"]) (b:=gC a) F hb hm sk ag λh A d s H E g=>
 (qF (qV (iy (gj (ct (oq ja) xv qK) (gj (eY (ea (ii xv))) (gO (ct (oq iE) xv (dw qN)))))) (qG (qU (wn c (a2 xv xv)))) qQ) (qF (qV (ct (oq iE) (wn e (a2 xv qK)) qK) (qG (qU (wn c (a2 xv xv)))) qQ) (qF (sq (wn e (a2 xv (cn d8 (a1 xv))))) (qF (sq (qH o_self g (nR1 _) ag (a3 xv (jq xv xv) (qI Er xv qK)))) (qG (qU (qI ez (qI ez (fw xv gy (gx xv)) (dw (a1 xv))) (fw xv (gx (qI ez xv qK)) gy))))))))
def q3 {f:cZ}(F:dX K "_law_bent" jo f)(a:Own P w K mg base 2 "_law_odd" 2 fW)(e:Own P w K mg base 1 "_law_take" 2 dn):Own P w K mg base 11 "_law_bent" 3 il:=by
 have c:=wM1 X G F.ns;obtain⟨fd,F⟩:=F.fn;have b:=F.binds (ps:=["_law_hand_here","_law_thing","_law_deep"]) (λ_ _ _ _ _ _ h g=>KZ g λ_ _ _=>rfl);have d:∀j:Nat,Own P w K mg base (3+j) "_law_bent" 3 (fE j):=λj=>by
  induction j with
  |zero=>exact zU F b c
  |succ j ih=>exact qj X G B F b c a e (show 2<=3+j by omega) ih
 exact d 8
abbrev sI:df:=top 35
def qB:FS:=(dv (dD (m2 (b2 ed) (mV 9) (eH (dh (mV 10) (dh (mN (b1 rF) (dh (mV 10) di)) di)))) (gN 9))
  (dD (m2 (b2 ed) (mV 9) (eG 1 [2,10] (sv (dh (mC (D.int 6)) di)) (gN 0) fq (d9 (mN (dm 3 il) (dh (mV 1) (dh (mV 2) (dh (mC (D.int 2)) di))))))) (gN 9)))
def wg:FS:=(dv (dD (mN (dm 4 fL) (dh (mV 3) (dh (mV 5) (dh (mV 12) (dh (mV 11) di))))) (gN 13))
  (eD (mOr (gB (mTr (iG .bool (mV 13)))) (mB (m2 (b2 gNe) (mV 13) (mN (dm 4 hR) (dh (mV 3) (dh (mV 5) (dh (mV 12) (dh (mV 11) di)))))))) (dW (mC (D.bl ah))) jg))
def qz:FS:=(eT (gJ (dI (dh (mC (D.bl ai)) (dh (mC (D.bl ah)) di)))) (gN 12) wg)
def qy:FS:=(dv (dD (mN (dm 2 fz) (dh (mV 0) (dh (mV 1) di))) (gN 2))
  (dv (dD (mN (dm 1 hO) (dh (mV 2) di)) (gT 2 (fv (gN 3) (fv (gN 4) jh))))
  (dv (dD (mN (dm 4 fj) (dh (mV 2) (dh (mV 3) (dh (mV 4) (dh (mC (D.int 2)) di))))) (gN 5))
  (dv (dD (dI (dh (Av (dh (mN (b1 dM) (dh (mV 3) di)) di)) (dh (m2 (b2 gSub) (mN (b1 dM) (dh (m2 (b2 dt) (mV 5) (mC (D.int 0))) di)) (mC (D.int 1))) di))) (gT 2 (fv (gN 6) (fv (gN 7) jh))))
  (dv (dD (eH (dh (dI (dh (mC (D.str "colours")) (dh (mV 4) di))) (dh (dI (dh (mC (D.str "colours")) (dh (mV 6) di))) (dh (dI (dh (mC (D.str "alike")) (dh (mC (D.int 0)) (dh (mV 7) (dh (mV 4) di))))) (dh (dI (dh (mC (D.str "alike")) (dh (mC (D.int 0)) (dh (mC (D.int 1)) (dh (mV 6) di))))) di))))) (gN 8))
  (dv (eN (mz (b2 gK) (mV 8) (dh (Ay (mN (dm 3 lh) (dh (mV 3) (dh (mV 5) (dh (mC (D.bl ai)) di)))) (dI (dh (mC (D.str "alike")) (dh (mC (D.int 0)) (dh (mC (D.int 0)) (dh (mV 4) di)))))) di)))
  (dv (eN (mz (b2 gK) (mV 8) (dh (dI (dh (mC (D.str "alike")) (dh (mV 7) (dh (m2 (b2 ed) (mV 7) (mC (D.int 1))) (dh (mV 4) di))))) di)))
  (dv (dD (eH (dh (mC D.non) (dh (mC (D.bl ai)) (dh (mC (D.bl ah)) (dh (mC (D.int 0)) (dh (mC (D.str "")) (dh (mC (D.str "colours")) (dh (dI di) (dh (dI (dh (mC (D.str "colours")) di)) (dh (dI (dh (mC (D.str "alike")) di)) (dh (eH di) (dh im (dh (eH (dh (mC (D.str "colours")) (dh (mV 4) di))) (dh (mV 4) di)))))))))))))) (gN 9))
  (dv (dD (m2 (b2 ed) (mV 9) (eH (dh (dI (dh (mC (D.str "none")) (dh (mV 4) di))) (dh (dI (dh (mC D.non) (dh (mV 4) di))) (dh (dI (dh (mC (D.str "alike")) (dh (mC (D.int 0)) (dh (mV 7) di)))) (dh (dI (dh (mC (D.str "colours")) (dh (mC (D.int 0)) (dh (mV 7) (dh (mV 4) di))))) (dh (mV 3) di))))))) (gN 9))
  (dv (dD (m2 (b2 ed) (mV 9) (eH (dh (dI (dh (mC (D.str "alike")) (dh (mV 4) di))) (dh (dI (dh (mC (D.str "")) (dh (mC (D.int 0)) (dh (mV 7) (dh (mV 4) di))))) (dh (dI (dh (dI (dh (mC (D.str "colours")) di)) (dh (mV 4) di))) di))))) (gN 9))
  (dv (eT (gJ (mV 8)) (gN 10) qB)
  (eT (gJ (mV 9)) (gN 11) qz))))))))))))
def wf:FS:=(py [ai,ai,ah,ah,ah,ah,ah,ah,ah,ah,ah,ah,ah,ah] [ai,ah,ah,ah,ah,ah,ah,ah,ah,ah,ah,ah,ah,ah] qy)
def Br:FS:=(dv (eT (sv (dh (mN (b2 DG) (dh (mC (D.int 1)) (dh (mN (b2 u8) (dh (mC (D.int 4)) (dh (mN (b1 dM) (dh (mV 0) di)) di))) di))) di)) (gN 1) wf)
  (dW (mC (D.bl ai))))
def m_law:FN:=hZ 14 Br
def Gb {f:cZ}{fd:de}(F:xc K "law" "law" sI f fd)(h:Own P w K mg base 11 "_law_bent" 3 il)(d:Own P w K mg base 3 "_law_due" 4 hR)(g:Own P w K mg base 1 "_law_hand" 2 fz)(j:Own P w K mg base 2 "_law_standing" 4 fj)(i:Own P w K mg base 4 "_law_web" 1 hO)(c:Own P w K mg base 5 "never" 3 lh)(e:Own P w K mg base 4 "shows_never" 4 fL):
  jM P w K mg base ur 12 f fd ["_law_script"] (spM K 1 m_law):=EZ (k:=11) (n:=1) (N:=["_law_script","_law_k","_law_hand_here","_law_web_here","_law_copied","_law_standing_here","_law_rooms","_law_last","_law_papers","_law_some","_law_paper","_law_thing","_law_quiet","_law_told"]) (ps:=["_law_script"]) (b:=Br) F sk ag λl A a s H E m=>
 (qF (fo (ir (a1 (cn (JN ag) (a2 qK (cn (EN ag) (a2 qK (cn d8 (a1 xv)))))))) gq (xg [ai,ai,ah,ah,ah,ah,ah,ah,ah,ah,ah,ah,ah,ah] [ai,ah,ah,ah,ah,ah,ah,ah,ah,ah,ah,ah,ah,ah] (qF (sq (wn g (a2 xv xv))) (qF (qR (wn i (a1 xv)) (tg2 gq gq)) (qF (sq (wn j (qA xv (a3 xv xv qK)))) (qF (kI 6 7 ag (kf ag) ag ag (by decide) ag ag (a2 (sB ag ag (bz B) ag (bz B) (a1 (cn d8 (a1 xv)))) (qI Er (cn d8 (a1 (jq xv qK))) qK))) (qF (sq (dR (qA (dw (a2 dS xv)) (a3 (dw (a2 dS xv)) (dw (qA dS (a3 qK xv xv))) (dw (qA dS (a3 qK qK xv))))))) (qF (lq PySem.F.slot_list_append PySem.F.type_list_append gZ xv (a1 (vI (wn c (a3 xv xv eI)) (f0 (dw (qA dS (a3 qK qK xv))))))) (qF (lq PySem.F.slot_list_append PySem.F.type_list_append gZ xv (a1 (dw (qA dS (a3 xv (qI ez xv qK) xv))))) (qF (sq (dR (qA ib (qA eI (qA eI (qA qK (qA dS (qA dS (qA (dw qN) (qA (dw (a1 dS)) (qA (dw (a1 dS)) (qA (dR qN) (a3 iz (dR (a2 dS xv)) xv))))))))))))) (qF (sq (qI ez xv (dR (qA (dw (a2 dS xv)) (qA (dw (a2 ib xv)) (a3 (dw (a3 dS qK xv)) (dw (qA dS (a3 qK xv xv))) xv)))))) (qF (sq (qI ez xv (dR (a3 (dw (a2 dS xv)) (dw (qA dS (a3 qK xv xv))) (dw (a2 (dw (a1 dS)) xv)))))) (qF (fo (qd xv) gq (qF (sq (qI ez xv (dR (a2 xv (cz vo (a1 xv)))))) (qG (sq (qI ez xv (fk ["_law_turn"] (ir (a1 qK)) ⟨gq,et,(wn h (a3 xv xv qK))⟩)))))) (qG (fo (qd xv) gq (qG (fo (qd (dw (a2 eI eI))) gq (qF (sq (wn e (qA xv (a3 xv xv xv)))) (qG (qV (iy (gj (eY (ea (ii xv))) (gO (ct (oq oZ) xv (wn d (qA xv (a3 xv xv xv))))))) (qG (qU eI)) qQ)))))))))))))))))))) (qG (qU eI)))
end
def all_mk {l:PySem.W.OpenLaw}{w:c6}{K:Fg1}{h:db}{mg:Str->Option cX}{fa f1 f2 f3 f4 f5 f6 f7 f8 f9 W f11 f12 f13 f14 m t y p F R f21 f22 f23 J Q f26 f27 T f29 f30 f31:cZ}(X:K.In h)(G:h.Ns c7 mg)(M:mg "law"=some (.ref fa))
  (a1:dX K "is_whole" nG f1)
  (a2:dX K "is_tuple_of" ka f2)
  (a3:dX K "looks" vW f3)
  (a4:dX K "numbered" nE f4)
  (a5:dX K "all_unlike" kT f5)
  (a6:dX K "chalk_signs" kb f6)
  (a7:dX K "_law_hand" ml f7)
  (a8:dX K "_law_take" mj f8)
  (a9:dX K "_law_whole" kU f9)
  (a10:dX K "_law_signs" kW W)
  (a11:dX K "is_below" nH f11)
  (k:dX K "is_headed" me f12)
  (L:dX K "is_colouring" jm f13)
  (A:dX K "refined" pi f14)
  (q:dX K "all_signs" mh m)
  (Z:dX K "_law_doored" kd t)
  (a17:dX K "_law_order" kX y)
  (V:dX K "_law_fits" mm p)
  (U:dX K "_law_standing" i8 F)
  (a20:dX K "_law_odd" nJ R)
  (r:dX K "colouring" mf f21)
  (H:dX K "shows_alike" j9 f22)
  (I:dX K "_law_plain_web" iD f23)
  (u:dX K "_law_cover" kY J)
  (n:dX K "_law_due" nK Q)
  (Y:dX K "alike" vX f26)
  (O:dX K "shows_never" j8 f27)
  (C:dX K "_law_web" nI T)
  (a29:dX K "never" vV f29)
  (a30:dX K "_law_bent" jo f30)
  (f:dX K "law" sI f31)
  (z:J0 K BL):∃fd:de,(∀(s:cY) (v:cX),BindsTo s fd ⟨[v],[]⟩ [("_law_script",v)]) /\ ∀base:db,K.In base->base.Ns c7 mg->jM l.prog w K mg base ur 12 fa fd ["_law_script"] (spM K 1 m_law):=by
 have e:=M.symm.trans (wM1 X G f.ns);cases e;have B:Blt BL mg:=z.blt X G;have g0:CGl K mg "numbered" (D.fn "numbered"):=Hn (wM1 X G a4.ns) (JH a4.ns);obtain⟨_,⟨⟨_,_,kV,dc,pm,an,cd,ct,_,rfl,lL,cL⟩,kL⟩⟩:=f.fn;refine⟨wF1 "law" "law" (ip sI) (ff sI) (dH sI) .none kV dc pm an cd ct,λs v=>.of_eq ag,λbase _ _=>?_⟩;have o0:=sU (P:=l.prog) (w:=w) (base:=base) X G B a1;have o1:=nT (P:=l.prog) (w:=w) (base:=base) X G B a2;have o2:=zX (P:=l.prog) (w:=w) (base:=base) X G B a3;have o3:=sT (P:=l.prog) (w:=w) (base:=base) X G B a4;have d:=oT (P:=l.prog) (w:=w) (base:=base) X G B a5;have o4:=nU (P:=l.prog) (w:=w) (base:=base) X G B a6;have j:=qT (P:=l.prog) (w:=w) (base:=base) X G B a7;have a:=qS (P:=l.prog) (w:=w) (base:=base) X G B a8;have o6:=oU (P:=l.prog) (w:=w) (base:=base) X G B a9;have S:=oV (P:=l.prog) (w:=w) (base:=base) X G B a10;have o8:=sV X G B a11 o0;have o17:=qC X G B k o1;have o9:=mR X G B L o1 o0 o2;have o7:=uV X G B A o2 o3;have b:=qM X G B q o4;have o10:=nV X G B Z a;have i:=oW X G B a17 a;have x:=q0 X G B V o6;have o26:=lU X G B U a;have o22:=sY X G B a20 a o6;have c:=qL X G B r o7 g0;have o18:=nS X G B H o4 o8 o9;have o20:=la X G B I o10 a;have N:=oX X G B u i;have o24:=sZ X G B n x S o6;have o:=zY X G B Y o4 c;have E:=nR X G B O b d o9 o17 o18;have o27:=sX X G B C N o20 a;have g:=zW X G B a29 o b d c;have o23:=q3 X G B a30 o22 a;exact Gb (P:=l.prog) (w:=w) (base:=base) X G B (AZ lL cL kL) o23 o24 j o26 o27 g E
def hnd(g m c:Int):Ob:=.lst [.int g,.int m,.int c]
def Gr(m c:Int):Int:=(m+9973*c*c+17)*69621%2305843009213693921
def An(m c:Int):Int:=Gr m c*(Gr m c%999983+7919*c)%2305843009213693907
def JP{a b c:D}:vq [a,b,c] 0=wq a:=by rfl
def Le{a b c:D}:vq [a,b,c] 1=wq b:=by rfl
def Ld{a b c:D}:vq [a,b,c] 2=wq c:=by rfl
def Fb{T:Sto}{g m c k:Int}(hg:0<g)(hk:0<k)(a:k<1073741824):
  dn [.ref 0,.int k] (hnd g m c::T)=wq (.int (g%k),hnd (g/k) m c::T):=by
 simp[dn,hZ,e9,jI,dv,eD,mB,m2,b2,iX,mV,mC,dt,mU,BO,dG,hnd,hg,hk,a,dD,gN,lv,rG,gS,b3,jc,mF,kx,dW,JP,xV]
def Fa{T:Sto}{g m c k:Int}(hg:¬ 0<g)(hk:0<k)(a:k<1073741824)(hc:0<=c)(f:c<2^60):
  dn [.ref 0,.int k] (hnd g m c::T)=wq (.int ((An m (c+1)/101+An m (c+1)/1000003)%k),hnd g m (c+1)::T):=by
 have i:eP 9973 (c+1)=ai:=tz (by decide) (by decide);have h:eP (9973*(c+1)) (c+1)=ai:=wr (by omega) (by omega);have b:eP (m+9973*(c+1)*(c+1)+17) 69621=ai:=wr (by decide) (by decide);have e:eP 7919 (c+1)=ai:=tz (by decide) (by decide);have q:=Int.emod_lt_of_pos ((m+9973*(c+1)*(c+1)+17)*69621) (show(0:Int)<2305843009213693921 by decide);have j:=Int.emod_nonneg ((m+9973*(c+1)*(c+1)+17)*69621) (show(2305843009213693921:Int)≠0 by decide);have d:eP ((m+9973*(c+1)*(c+1)+17)*69621%2305843009213693921) ((m+9973*(c+1)*(c+1)+17)*69621%2305843009213693921%999983+7919*(c+1))=ai:=tz (by omega) (by omega);simp[dn,hZ,e9,jI,dv,eD,mB,m2,b2,iX,mV,mC,dt,mU,BO,dG,hnd,hg,hk,a,dD,gN,lv,rG,gS,b3,jc,mF,kx,dW,JP,Le,Ld,xV,jg,ed,j4,i,h,b,e,d,Gr,An]
def Hnd(o:Ob)(n:Nat):Prop:=∃g m c:Int,o=hnd g m c/\0<=c/\c<=n
def Hnd.und{o:Ob}{n k:Nat}(h:Hnd o n):o.und k=ai:=by
 obtain⟨g,m,c,rfl,_⟩:=h;rfl
def Hnd.more{o:Ob}{n k:Nat}(h:Hnd o n)(hk:n<=k):Hnd o k:=by
 obtain⟨g,m,c,e,a,h1⟩:=h;exact⟨g,m,c,e,a,by lia⟩
def ga{o:Ob}{n:Nat}{k:Int}{T:Sto}{Q:D×Sto->Prop}(ho:Hnd o n)(hn:n<=2^50)(hk:0<k)(a:k<1073741824)(h:∀(d:Nat) o',Hnd o' (n+1)->(d:Int)<k->Q (.int d,o'::T)):W (dm 2 dn [.ref 0,.int k] (o::T)) Q:=by
 obtain⟨g,m,c,rfl,i,h1⟩:=ho;have call:∀d o',dn [.ref 0,.int k] (hnd g m c::T)=wq (d,o'::T)->dm 2 dn [.ref 0,.int k] (hnd g m c::T)=wq (d,o'::T):=λd o e=>ym e ag (by simp[D.unds,D.und]) (by simp);by_cases f:0<g
 ·have b:=Int.emod_nonneg g (show k≠0 by lia);obtain⟨d,e⟩:=Int.eq_ofNat_of_zero_le b;refine⟨_,call _ _ (Fb f hk a),?_⟩;rw[e];exact h d _ ⟨_,_,_,ag,i,by lia⟩ (by rw[<- e];exact Int.emod_lt_of_pos _ hk)
 ·have b:=Int.emod_nonneg (An m (c+1)/101+An m (c+1)/1000003) (show k≠0 by lia);obtain⟨d,e⟩:=Int.eq_ofNat_of_zero_le b;refine⟨_,call _ _ (Fa f hk a i (by lia)),?_⟩;rw[e];exact h d _ ⟨_,_,_,ag,by lia,by push_cast;lia⟩ (by rw[<- e];exact Int.emod_lt_of_pos _ hk)
def DA(ns:List Int)(k:Int)(l:0<=k)(hk:k<63):∃o,dm 2 fz [.rol (ns.map D.int),.int k] []=wq (.ref 0,[o])/\Hnd o 0:=by
 have i:∃g m,fz [.rol (ns.map D.int),.int k] []=wq (.ref 0,[hnd g m 0]):=by
  have j:eP (10^60) (10^30)=ai:=by decide+kernel
  have d:eP 7919 k=ai:=tz (by decide) (by decide);have c:eP 0 0=ai:=tz (by decide) (by decide);have f:∀(x:Int) (b:Prop) [Decidable b],eP x (if b then 1 else 0)=ai:=λx b _=>by
   split
   ·exact wr (by decide) (by decide)
   ·exact wr (by decide) (by decide)
  have lt:gLt (.int k) (.int ns.length) []=wq (.bl (decide (k<ns.length)),[]):=by rfl
  by_cases h:k<ns.length
  ·have a:vq (ns.map D.int) k=some (.int (ns[k.toNat]'(by lia))):=by
    unfold vq xV;rw[if_pos l,if_pos (by simpa using h)];simp[show k.toNat<ns.length by lia]
   generalize p:ns[k.toNat]'(by lia)=x at a
   simp[fz,hZ,e9,jJ,dv,eD,mB,m2,b2,b1,mN,dh,di,iX,mV,mC,dt,mU,BO,dM,dG,dD,gN,lv,j4,ed,oh,o5,dW,eH,lt,h,a,d,f,c9,hnd,jg];simp[show eP 1000000000000000000000000000000000000000000000000000000000000 1000000000000000000000000000000=ai from j,c,d,f]
  ·simp[fz,hZ,e9,jJ,dv,eD,mB,m2,b2,b1,mN,dh,di,iX,mV,mC,dt,mU,BO,dM,dG,dD,gN,lv,j4,ed,oh,o5,dW,eH,lt,h,d,f,c9,hnd,jg];simp[show eP 1000000000000000000000000000000000000000000000000000000000000 1000000000000000000000000000000=ai from j,c,d,f]
 obtain⟨g,m,e⟩:=i;refine⟨hnd g m 0,?_,_,_,_,ag,Int.le_refl _,Int.le_refl _⟩;rw[oD (n:=2) e ag (by rw[D.unds,D.und,lN];rfl) (by simp[D.und])];simp[D.sh,Ob.sh,D.shs,hnd]
abbrev jk:=List (List Nat)
structure WN (t m:Nat)(T:Sto)(E:jk)(U:Sto):Prop where
 tl:T.length=t
 low:U.take t=T
 el:E.length=m
 row:∀(i:Nat) (row:List Nat),E[i]?=some row->U[t+i]?=some (.lst (nmD row))
 ends:U[t+m]?=some (.lst (j0 (t+1) m))
 cl:∀o∈U,o.und (U.length+1)=true
def Et{n:Nat}{xs:List Nat}:(Ob.lst (nmD xs)).und n=ai:=jP (fr xs)
def WN.app{t m:Nat}{T:Sto}{E:jk}{U G:Sto}(w:WN t m T E U)(d:∀o∈G,o.und 0=ai):WN t m T E (U++G):=by
 have c:t+m<U.length:=(gE1.mp w.ends).1;refine⟨w.tl,?_,w.el,λi b h=>?_,?_,λo a=>?_⟩
 ·rw[List.take_append_of_le_length (by lia)];exact w.low
 ·have:=w.row i b h;rw[gL1 (gE1.mp this).1];exact this
 ·rw[gL1 c];exact w.ends
 ·rcases ay.mp a with a|a
  ·exact fJ (by rw[lA1];lia) (w.cl o a)
  ·exact fJ (aZ _) (d o a)
def WN.setRow{t m i:Nat}{T:Sto}{E:jk}{U:Sto}{row:List Nat}(w:WN t m T E U)(hi:i<m):WN t m T (E.set i row) (U.set (t+i) (.lst (nmD row))):=by
 have b:t+m<U.length:=(gE1.mp w.ends).1;refine⟨w.tl,?_,by rw[aP];exact w.el,λj r h=>?_,?_,λo a=>?_⟩
 ·rw[List.take_set_of_le (by lia)];exact w.low
 ·by_cases e:i=j
  ·subst e;rw[aA (by rw[w.el];exact hi)]at h;cases h;rw[aA (by lia)]
  ·rw[gS1 e]at h;rw[gS1 (by lia)];exact w.row j r h
 ·rw[gS1 (by lia)];exact w.ends
 ·rw[aP];rcases List.mem_or_eq_of_mem_set a with a|rfl
  ·exact w.cl o a
  ·exact Et
def WN.split{t m:Nat}{T:Sto}{E:jk}{U:Sto}(w:WN t m T E U):U=T++U.drop t:=by
 conv=>lhs;rw[<- b7 t U,w.low]
def pj:∀(k n:Nat),j0 n (k+1)=j0 n k++[.ref (n+k)]
 |0,n=>rfl
 |k+1,n=>by
  rw[j0,pj k (n+1),j0,a0,show n+1+k=n+(k+1) by lia]
def sN:∀(k n N:Nat),n+k<=N->D.unds N (j0 n k)=ai
 |0,_,_,_=>rfl
 |k+1,n,N,h=>by
  rw[j0,D.unds,sN k (n+1) N (by lia),D.und,bE,decide_eq_true_eq];lia
def yH{t m:Nat}{T:Sto}(tl:T.length=t)(c:T.all (Ob.und (T.length+1))=ai):WN t m T (aI m []) (T++(aI m (.lst [])++[.lst (j0 (t+1) m)])):=by
 refine⟨tl,by rw[<- tl,List.take_left],by simp,λi b h=>?_,?_,λo a=>?_⟩
 ·have hi:i<m:=by have:=(gE1.mp h).1;simpa using this
  rw[aL,if_pos hi]at h;cases h;rw[<- tl,ej,gL1 (by simpa using hi),aL,if_pos hi];rfl
 ·rw[<- tl,ej,gR1 (by simp)];simp
 ·rw[ay,ay,bt,cb]at a;rcases a with a|⟨_,rfl⟩|rfl
  ·exact fJ (by rw[lA1];lia) (bq.mp c o a)
  ·rfl
  ·rw[Ob.und];exact sN _ _ _ (by simp;lia)
def ni{t m i:Nat}{T:Sto}{E:jk}{U:Sto}{o:Ob}{Q:D×Sto->Prop}(w:WN t m T E U)(hi:i<m)(q:Q (.ref (t+i+1),o::U)):W (dt (.ref (t+m+1)) (.int i) (o::U)) Q:=
 iN (xs:=j0 (t+1) m) (x:=.ref (t+i+1)) (by rw[gC1];exact w.ends) (by rw[qt hi];congr 2;lia) q
def ot{v k:Nat}:∀{E:jk} {i:Nat} {row:List Nat},E[i]?=wq row->(E.set i (row++[k])).flatten.count v=E.flatten.count v+if k=v then 1 else 0
 |[],i,row,h=>by simp at h
 |r::E,0,row,h=>by
  rw[cF]at h;cases h;simp only[cG,cK,List.count_append,List.count_cons,List.count_nil,beq_iff_eq];lia
 |r::E,i+1,row,h=>by
  rw[gC1]at h;simp only[ck,cK,List.count_append,ot h];lia
def oo{k:Nat}:∀{E:jk} {i:Nat} {row:List Nat},E[i]?=wq row->(E.set i (row++[k])).flatten.length=E.flatten.length+1
 |[],i,row,h=>by simp at h
 |r::E,0,row,h=>by
  rw[cF]at h;cases h;simp only[cG,cK,lA1,lC1,aV];lia
 |r::E,i+1,row,h=>by
  rw[gC1]at h;simp only[ck,cK,lA1,oo h];lia
def wP:∀{E:jk} {k:Nat},k<=E.length->(∀(i:Nat) (row:List Nat),i<k->E[i]?=wq row->4<=row.length)->4*k<=E.flatten.length
 |E,0,_,_=>by lia
 |[],k+1,h,_=>by simp at h
 |r::E,k+1,h,a=>by
  have h1:=a 0 r (by lia) ag;have h2:=wP (E:=E) (k:=k) (by simpa using h) λi row hi b=>a (i+1) row (by lia) b;rw[cK,lA1];lia
structure WE (m:Nat)(E:jk)(k i:Nat):Prop where
 len:E.length=m
 le:∀(i:Nat) (row:List Nat),E[i]?=some row->row.length<=4
 fl:E.flatten.length=2*k
 ct:∀v,E.flatten.count v=if v<k then 2 else 0
 jn:∀j,1<=j->j<=i -> ∃a ra rb v,a<j/\E[a]?=some ra/\E[j]?=some rb/\v∈ra/\v∈rb
def yL(m:Nat):WE m (aI m []) 0 0:=by
 have e:(aI m ([]:List Nat)).flatten=[]:=by
  rw[List.flatten_eq_nil_iff];intro l a;exact(bt.mp a).2
 refine⟨by simp,λi b h=>?_,by rw[e];rfl,λv=>by rw[e,if_neg (by lia)];rfl,λj h1 h2=>by lia⟩;rw[aL]at h;split at h
 ·cases h;simp
 ·cases h
def kS{E:jk}{i k:Nat}{row:List Nat}(h:E[i]?=wq row){j:Nat}{r:List Nat}(b:E[j]?=wq r):∃r',(E.set i (row++[k]))[j]?=wq r' /\ ∀x∈r,x∈r':=by
 by_cases z:i=j
 ·subst z;rw[h]at b;cases b;exact⟨_,aA (gE1.mp h).1,λx a=>az _ a⟩
 ·exact⟨r,by rw[gS1 z];exact b,λx a=>a⟩
def WE.tie{m a b k i i':Nat}{E:jk}{ra e:List Nat}(w:WE m E k i)(ha:E[a]? = some ra)(I:ra.length<4)(hb:(E.set a (ra++[k]))[b]? = some e)(K:e.length<4)(hi:i'<=i\/(i'=i+1/\b<a/\a=i')):
  WE m ((E.set a (ra++[k])).set b (e++[k])) (k+1) i':=by
 have a1:(E.set a (ra++[k]))[a]?=wq (ra++[k]):=aA (gE1.mp ha).1;refine⟨by rw[aP,aP];exact w.len,λj g d=>?_,?_,λv=>?_,λj h1 h2=>?_⟩
 ·by_cases z:b=j
  ·subst z;rw[aA (gE1.mp hb).1]at d;cases d;rw[lA1,aR];lia
  ·rw[gS1 z]at d;by_cases u:a=j
   ·subst u;rw[a1]at d;cases d;rw[lA1,aR];lia
   ·rw[gS1 u]at d;exact w.le j g d
 ·rw[oo hb,oo ha,w.fl];lia
 ·rw[ot hb,ot ha,w.ct v];split<;>split<;>split<;>lia
 ·rcases(show j<=i\/(j=a/\b<a) by lia)with l|⟨rfl,h⟩
  ·obtain⟨c,A,F,v,x,y,C,D,B⟩:=w.jn j h1 l;obtain⟨J,G,H⟩:=kS (k:=k) ha y;obtain⟨o,t,n⟩:=kS (k:=k) hb G;obtain⟨r2,p,f⟩:=kS (k:=k) ha C;obtain⟨r,q,s⟩:=kS (k:=k) hb p;exact⟨c,o,r,v,x,t,q,n _ (H _ D),s _ (f _ B)⟩
  ·obtain⟨r2,p,f⟩:=kS (k:=k) hb a1;exact⟨b,e++[k],r2,k,h,aA (gE1.mp hb).1,p,by simp,f _ (by simp)⟩
def Ef{t m a b k:Nat}{T:Sto}{E:jk}{U:Sto}{o:Ob}{ra:List Nat}{r:Ev}{f g:FE}{Q:Fl×Ev×Sto->Prop}(w:WN t m T E U)(ha:a<m)(hb:b<m)(p:E[a]? = some ra)(H:ra.length<100)(B:∀ rb,E[b]? = some rb->rb.length<100)(hf:∀S,f r S=some (.int a,S))(hg:∀S,g r S=some (.int b,S))(A:mV 4 r=fun S=>some (.ref (t+m+1),S))(v:mV 3 r=fun S=>some (.int k,S))(h:∀rb z,(E.set a (ra++[k]))[b]?=some rb->WN t m T ((E.set a (ra++[k])).set b (rb++[k])) z->Q (.nx,r.set 3 (some (.int ((k+1:Nat):Int))),o::z)):
  W (dv (eN (mz (b2 gK) (m2 (b2 dt) (mV 4) f) (dh (mV 3) di))) (dv (eN (mz (b2 gK) (m2 (b2 dt) (mV 4) g) (dh (mV 3) di))) (dD (m2 (b2 ed) (mV 3) (mC (D.int (1)))) (gN 3))) r (o::U)) Q:=by
 have G:∀(xs:List Nat),nmD xs++[D.int (k:Int)]=nmD (xs++[k]):=λxs=>by simp[nmD]
 have j:∀ {x:Nat} {d:List Nat} {E:jk} {U:Sto} {e:FE} {P:Fl×Ev×Sto->Prop} (w:WN t m T E U),x<m->E[x]? = some d->d.length<200->(∀ S,e r S=some (.int x,S))->P (.nx,r,o::U.set (t+x) (.lst (nmD (d++[k])))) ->
   W (eN (mz (b2 gK) (m2 (b2 dt) (mV 4) e) (dh (mV 3) di)) r (o::U)) P:=by
  intro x d E U e P w C l I F q;have y:(o::U)[t+x+1]?=wq (.lst (nmD d)):=by rw[gC1];exact w.row x d l
  unfold eN;rw[dj];refine gM ?_;unfold m2;rw[A];simp only[oS1,F,b2];refine ni w C ?_;refine⟨t+x+1,nmD d,ag,y,?_⟩;unfold dh di;rw[v];simp only[oS1,oP1];rw[dr];refine(je y).mpr ⟨dz (by rw[d3];lia),?_⟩;rw[G,ck];exact dr.mpr q
 have s:=w.setRow (row:=ra++[k]) ha;obtain⟨rb,c⟩:∃rb,(E.set a (ra++[k]))[b]?=some rb:=⟨_,gG1 (by rw[s.el];exact hb)⟩;have u:rb.length<200:=by
  by_cases e:a=b
  ·subst e;rw[aA (by rw[w.el];exact ha)]at c;cases c;rw[lA1,aR];lia
  ·rw[gS1 e]at c;have:=B rb c;lia
 refine dJ (λn S=>n=r/\S=o::U.set (t+a) (.lst (nmD (ra++[k])))) (j w ha p (by lia) hf ⟨ag,ag,ag⟩) ?_;rintro n S ⟨rfl,rfl⟩;refine dJ (λi S=>i=n/\S=o::(U.set (t+a) (.lst (nmD (ra++[k])))).set (t+b) (.lst (nmD (rb++[k])))) (j s hb c u hg ⟨ag,ag,ag⟩) ?_;rintro i S ⟨rfl,rfl⟩;unfold dD m2 mC gN;rw[v];simp only[oS1,b2];rw[dj,BH];exact dr.mpr (h rb _ c (s.setRow hb))
def E9{t m i n:Nat}{T U:Sto}{E:jk}{o:Ob}{M x6 x7 x8 x9:Option D}{Q:Fl×Ev×Sto->Prop}(w:WN t m T E U)(v:WE m E i i)(ho:Hnd o n)(hn:n<=2^44)(hi:i+1<m)(hm:m<=8)(he:∀j row,i+1<=j->E[j]?=some row->row=[])(h:∀P o' U' X V,WN t m T P U'->WE m P (i+1) (i+1)->Hnd o' (n+1)->(∀j row,i+2<=j->P[j]?=some row->row=[]) ->
   Q (.nx,[wq (.ref 0),M,wq (.int m),wq (.int ((i+1:Nat):Int)),wq (.ref (t+m+1)),wq (.int ((i+1:Nat):Int)),X,V,x8,x9],o'::U')):
  W (fT [wq (.ref 0),M,wq (.int m),wq (.int (i:Nat)),wq (.ref (t+m+1)),wq (.int ((i+1:Nat):Int)),x6,x7,x8,x9] (o::U)) Q:=by
 have e:∀j,j<m -> ∃row,E[j]?=wq row:=λj l=>⟨_,gG1 (by rw[v.len];exact l)⟩
 let k:Nat->Bool:=λj=>decide ((E.getD j []).length<4)
 unfold fT;have A:(List.range (i+1)).filter k≠[]:=by
  intro z;have F:∀j row,j<i+1->E[j]?=wq row->4<=row.length:=λj row l hr=>by
   have:=List.filter_eq_nil_iff.mp z j (ar.mpr l);simp only[k,bB,hr,bV,decide_eq_true_eq]at this;lia
  have:=wP (E:=E) (k:=i+1) (by rw[v.len];lia) F;have:=v.fl;lia
 generalize Y:(List.range (i+1)).filter k=L at A;have R:∀j∈L,j<i+1/\k j=ai:=λj l=>by
  rw[<- Y,aq]at l;exact⟨ar.mp l.1,l.2⟩
 have hLl:L.length<=8:=by
  rw[<- Y];have:=cM k (List.range (i+1));simp at this;lia
 refine dJ (λr S=>r=[wq (.ref 0),M,wq (.int m),wq (.int (i:Nat)),wq (.ref (t+m+1)),wq (.int ((i+1:Nat):Int)),wq (.ref (U.length+1)),x7,x8,x9]/\S=o::(U++[.lst (nmD L)])) ?_ ?_
 ·walk_at"w";rw[lc,Int.toNat_natCast];refine⟨fR (by lia),?_⟩;refine rO k (λj:Nat=>.int j) (λr=>∃x,r=[x,wq (.ref (t+m+1))]) ag (List.range (i+1)) _ ⟨_,ag⟩ ?_ ?_
  ·rintro j l r ⟨x,rfl⟩;have p:j<m:=by have:=ar.mp l;lia
   obtain⟨row,c⟩:=e j p;walk_at"w";refine ni w p ?_;walk_at"w";refine dV (xs:=nmD row) (by rw[gC1];exact w.row j row c) ?_;walk_at"w";refine⟨?_,⟨_,ag⟩,λ_=>trivial⟩;simp only[k,bB,c,bV,d3];rw[bI,decide_eq_true_eq,decide_eq_true_eq];lia
  ·rintro r' _;walk_at"w";rw[Y];exact⟨dz (by rw[lM1];lia),ag⟩
 rintro r S ⟨rfl,rfl⟩;have hL0:0<L.length:=List.length_pos_iff.mpr A;have gL:∀o:Ob,(o::(U++[Ob.lst (nmD L)]))[U.length+1]?=wq (.lst (nmD L)):=λo=>by rw[gC1,dy];rfl
 refine dJ (λr S=>∃j u,j<i+1/\k j=ai/\Hnd u (n+1)/\r=[wq (.ref 0),M,wq (.int m),wq (.int (i:Nat)),wq (.ref (t+m+1)),wq (.int ((i+1:Nat):Int)),wq (.ref (U.length+1)),wq (.int (j:Nat)),x8,x9]/\S=u::(U++[.lst (nmD L)])) ?_ ?_
 ·walk_at"w";refine dV (gL _) ?_;walk_at"w";rw[d3];refine ga ho (by lia) (by lia) (by lia) λd u q hd=>?_;have I:d<L.length:=by lia
  refine iN (i:=d) (xs:=nmD L) (x:=.int (L[d]:Nat)) (gL _) (by rw[nmD,gP1,gG1 I];rfl) ?_;obtain⟨H,g⟩:=R L[d] (bK I);exact⟨L[d],u,H,g,q,ag,ag⟩
 rintro r S ⟨j,u,H,g,q,rfl,rfl⟩;obtain⟨row,c⟩:=e j (by lia);have O:row.length<4:=by
  simp only[k,bB,c,bV,decide_eq_true_eq]at g;exact g
 obtain⟨N,s⟩:=e (i+1) hi;have J:=he (i+1) N (nR1 _) s;subst J;have w':=w.app (G:=[Ob.lst (nmD L)]) λo ho=>by rw[cb]at ho;subst ho;exact Et
 refine Ef (a:=i+1) (b:=j) (ra:=[]) w' hi (by lia) s (by simp) (λN Z=>by rw[c]at Z;cases Z;lia) (λ_=>rfl) (λ_=>rfl) ag ag λN U2 f w2=>?_;have B:i+1≠j:=by lia
 have C:N=row:=by
  rw[gS1 B,c]at f;cases f;rfl
 subst C;refine h _ u U2 _ _ w2 (v.tie s (by simp) f O (.inr ⟨ag,by lia,ag⟩)) q λj' y p K=>?_;rw[gS1 (by lia),gS1 (by lia)]at K;exact he j' y (by lia) K
def Gq{t m n k i:Nat}{T U:Sto}{E:jk}{o:Ob}{B x5 x6 x7 x8 x9:Option D}{Q:Fl×Ev×Sto->Prop}(w:WN t m T E U)(v:WE m E k i)(ho:Hnd o n)(hn:n<=2^44)(hm0:0<m)(hm:m<=8)(h:∀Z k' o' U' R N,WN t m T Z U'->WE m Z k' i->Hnd o' (n+2) ->
   Q (.nx,[wq (.ref 0),B,wq (.int m),wq (.int (k':Nat)),wq (.ref (t+m+1)),x5,x6,R,x8,N],o'::U')):
  W (fS [wq (.ref 0),B,wq (.int m),wq (.int (k:Nat)),wq (.ref (t+m+1)),x5,x6,x7,x8,x9] (o::U)) Q:=by
 have l:∀j,j<m -> ∃row,E[j]?=wq row:=λj hj=>⟨_,gG1 (by rw[v.len];exact hj)⟩;unfold fS;refine dJ (λr S=>∃a b g,a<m/\b<m/\Hnd g (n+2)/\r=[wq (.ref 0),B,wq (.int m),wq (.int (k:Nat)),wq (.ref (t+m+1)),x5,x6,wq (.int (b:Nat)),x8,wq (.int (a:Nat))]/\S=g::U) ?_ ?_
 ·walk_at"w";refine ga ho (by lia) (by lia) (by lia) λa o1 O C=>?_;walk_at"w";refine ga O (by lia) (by lia) (by lia) λb g q L=>?_;walk_at"w";exact⟨a,b,g,by lia,by lia,q,ag,ag⟩
 rintro r S ⟨a,b,g,C,L,q,rfl,rfl⟩;obtain⟨P,s⟩:=l a C;obtain⟨K,A⟩:=l b L;have H:Q (.nx,[wq (.ref 0),B,wq (.int m),wq (.int (k:Nat)),wq (.ref (t+m+1)),x5,x6,wq (.int (b:Nat)),x8,wq (.int (a:Nat))],g::U):=
  h E k g U _ _ w v q
 unfold eD;rw[dj];have G:W (rh (mB (m2 (b2 gLt) (m2 (b2 ed) (mN (b1 dM) (dh (m2 (b2 dt) (mV 4) (mV 9)) di)) (mN (b1 o5) (dh (m2 (b2 gEq) (mV 9) (mV 7)) di))) (mC (D.int (4))))) (mB (m2 (b2 gLt) (mN (b1 dM) (dh (m2 (b2 dt) (mV 4) (mV 7)) di)) (mC (D.int (4))))) [wq (.ref 0),B,wq (.int m),wq (.int (k:Nat)),wq (.ref (t+m+1)),x5,x6,wq (.int (b:Nat)),x8,wq (.int (a:Nat))] (g::U)) λp=>p.2=g::U/\(p.1=ai->P.length+(if a=b then 1 else 0)<4/\K.length<4):=by
  walk_at"w";refine ni w C ?_;walk_at"w";refine dV (xs:=nmD P) (by rw[gC1];exact w.row a P s) ?_;walk_at"w";rw[d3];have e1:((a:Int) == (b:Int))=decide (a=b):=by
   rw[bI,beq_iff_eq,decide_eq_true_eq];lia
  rw[e1];have rest:W (dt (D.ref (t+m+1)) (D.int (b:Int)) (g::U)) λx=>W (dM x.fst x.snd) λx=>W (gLt x.fst (D.int 4) x.snd) λx=>W (match x.fst with|D.bl b=>some (b,x.snd)|x=>none) λp=>p.snd=g::U/\(p.fst=true->K.length<4):=by
   refine ni w L ?_;walk_at"w";refine dV (xs:=nmD K) (by rw[gC1];exact w.row b K A) ?_;walk_at"w";rw[d3];intro Y;rw[decide_eq_true_eq]at Y;lia
  by_cases f:a=b
  ·rw[decide_eq_true f];walk_at"w";split
   ·rename_i u;rw[decide_eq_true_eq]at u;refine rest.mono λx V=>V.mono λy X=>X.mono λz M=>M.mono λp F=>⟨F.1,λe=>⟨by first|lia|(rw[if_pos f];lia),F.2 e⟩⟩
   ·first|(intro z;cases z;done)|(refine⟨_,rfl,?_,λz=>?_⟩<;>first|rfl|cases z)|walk_at"w"
  ·rw[decide_eq_false f];walk_at"w";split
   ·rename_i u;rw[decide_eq_true_eq]at u;refine rest.mono λx V=>V.mono λy X=>X.mono λz M=>M.mono λp F=>⟨F.1,λe=>⟨by first|lia|(rw[if_neg f];lia),F.2 e⟩⟩
   ·first|(intro z;cases z;done)|(refine⟨_,rfl,?_,λz=>?_⟩<;>first|rfl|cases z)|walk_at"w"
 obtain⟨⟨c,S1⟩,ec,hS,hc⟩:=G;dsimp only at hS hc;subst hS;refine⟨_,ec,?_⟩;dsimp only;cases c with
 |false=>rw[if_neg (by decide)];exact dr.mpr H
 |true=>
  rw[if_pos ag];obtain⟨h1,h2⟩:=hc ag;refine Ef (a:=a) (b:=b) w C L s (by lia) (λI J=>by rw[A]at J;cases J;lia) (λ_=>rfl) (λ_=>rfl) ag ag λI U2 d w2=>?_;have hl:I.length<4:=by
   by_cases f:a=b
   ·subst f;rw[aA (by rw[v.len];exact C)]at d;cases d;rw[if_pos ag]at h1;rw[lA1,aR];lia
   ·rw[gS1 f,A]at d;cases d;exact h2
  exact h _ (k+1) g U2 _ _ w2 (v.tie s (by lia) d hl (.inl (nR1 _))) q
abbrev Pl:=List ((Nat×Nat)×Nat)
def hB(i:Nat)(row:List Nat):Pl:=row.zipIdx.map λp=>((i,p.2),p.1)
def eW:Nat->jk->Pl
 |_,[]=>[]
 |i,row::R=>hB i row++eW (i+1) R
def ps(A:Pl)(v:Nat):List (Nat×Nat):=(A.filter λx=>x.2 == v).map (·.1)
def zG{i j v:Nat}{row:List Nat}(h:row[j]?=wq v):hB i (row.take (j+1))=hB i (row.take j)++[((i,j),v)]:=by
 have a:=(gE1.mp h).1;unfold hB;rw[cx,h,Option.toList_some,List.zipIdx_append,cv];simp;lia
def l7:∀{R:jk} {i k:Nat} {row:List Nat},R[i]?=wq row->eW k (R.take (i+1))=eW k (R.take i)++hB (k+i) row
 |[],i,k,row,h=>by simp at h
 |r::R,0,k,row,h=>by
  rw[cF]at h;cases h;simp[eW]
 |r::R,i+1,k,row,h=>by
  rw[gC1]at h;rw[cN,cN,eW,eW,l7 h,bw,show k+1+i=k+(i+1) by lia]
def wt{i:Nat}{row:List Nat}{x:(Nat×Nat)×Nat}:x∈hB i row↔x.1.1=i/\row[x.1.2]?=wq x.2:=by
 obtain⟨⟨a,b⟩,c⟩:=x;unfold hB;rw[b5];constructor
 ·rintro⟨⟨v,j⟩,h,e⟩;cases e;exact⟨ag,cE.mp h⟩
 ·rintro⟨rfl,h⟩;exact⟨(c,b),cE.mpr h,ag⟩
def nX:∀{R:jk} {k:Nat} {x:(Nat×Nat)×Nat},x∈eW k R ↔ ∃i a,x.1.1=k+i/\R[i]?=wq a/\a[x.1.2]?=wq x.2
 |[],k,x=>by simp[eW]
 |r::R,k,x=>by
  rw[eW,ay,wt,nX (R:=R)];constructor
  ·rintro(⟨h1,h2⟩|⟨i,a,h1,h2,b⟩)
   ·exact⟨0,r,by lia,ag,h2⟩
   ·exact⟨i+1,a,by lia,h2,b⟩
  ·rintro⟨i,a,h1,h2,b⟩;cases i with
   |zero=>cases h2;exact .inl ⟨by lia,b⟩
   |succ i=>exact .inr ⟨i,a,by lia,h2,b⟩
def Cw{i:Nat}{row:List Nat}:(hB i row).map (·.2)=row:=by
 unfold hB;rw[bj];exact List.zipIdx_map_fst 0 row
def tW:∀{R:jk} {k:Nat},(eW k R).map (·.2)=R.flatten
 |[],_=>rfl
 |r::R,k=>by rw[eW,cv,Cw,tW (R:=R),cK]
def FF{i:Nat}{row:List Nat}:((hB i row).map (·.1)).Nodup:=by
 unfold hB;rw[bj];have e:(row.zipIdx.map ((λx:(Nat×Nat)×Nat=>x.1)∘λp=>((i,p.2),p.1)))=(row.zipIdx.map (·.2)).map λj=>(i,j):=by rw[bj];rfl
 rw[e,List.zipIdx_map_snd,<- List.range_eq_range'];exact List.pairwise_map.mpr (List.nodup_range.imp λh z=>h (Prod.mk.inj z).2)
def rM:∀{R:jk} {k:Nat},((eW k R).map (·.1)).Nodup
 |[],_=>bg
 |r::R,k=>by
  rw[eW,cv,bo];refine⟨FF,rM,λa g b c e=>?_⟩;obtain⟨x,d,rfl⟩:=b5.mp g;obtain⟨y,f,rfl⟩:=b5.mp c;have h1:=(wt.mp d).1;obtain⟨i,h,h2,_⟩:=nX.mp f;rw[e]at h1;lia
def FB{A:Pl}{v:Nat}:(ps A v).length=(A.map (·.2)).count v:=by
 unfold ps;rw[lM1,List.count,List.countP_map,List.countP_eq_length_filter];rfl
def m5{A:Pl}{p:Nat×Nat}{v u:Nat}:ps (A++[(p,v)]) u=if v=u then ps A u++[p]else ps A u:=by
 unfold ps;rw[cO,cv];by_cases h:v=u
 ·simp[h]
 ·simp[h]
def Gx{A:Pl}{p:Nat×Nat}{v:Nat}:p∈ps A v↔(p,v)∈A:=by
 unfold ps;rw[b5];constructor
 ·rintro⟨⟨q,u⟩,h,e⟩;obtain⟨h1,h2⟩:=aq.mp h;have h2:u=v:=by simpa using h2
  cases e;cases h2;exact h1
 ·intro h;exact⟨(p,v),aq.mpr ⟨h,by simp⟩,ag⟩
def ID{A:Pl}{v:Nat}(h:(A.map (·.1)).Nodup):(ps A v).Nodup:=h.sublist (List.filter_sublist.map _)
structure PL (b:Nat)(A:Pl)(kv:List (Key×D))(H:Sto):Prop where
 no:∀v:Nat,ps A v=[]->dE kv (Sum.inl (v:Int))=none
 yes:∀v:Nat,ps A v≠[] -> ∃h,dE kv (Sum.inl (v:Int))=some (.ref (b+h))/\H[h]?=some (.lst ((ps A v).map pD))
 inj:∀v u h:Nat,dE kv (Sum.inl (v:Int))=some (.ref (b+h))->dE kv (Sum.inl (u:Int))=some (.ref (b+h))->v=u
 few:kv.length<=A.length
def oe{v u:Nat}(h:v≠u):(Sum.inl (v:Int):Key)≠Sum.inl (u:Int):=λe=>h (by injection e with e;lia)
def PL.old{b v h:Nat}{A:Pl}{kv:List (Key×D)}{H:Sto}{p:Nat×Nat}(P:PL b A kv H)(hv:ps A v≠[])(e:dE kv (Sum.inl (v:Int))=some (.ref (b+h)))(g:H[h]? = some (.lst ((ps A v).map pD))):
  PL b (A++[(p,v)]) kv ((H++[Ob.lst []]).set h (.lst ((ps A v).map pD++[pD p]))):=by
 have i:=(gE1.mp g).1;refine⟨λu a=>?_,λu a=>?_,P.inj,by rw[lA1];have:=P.few;lia⟩
 ·rw[m5]at a;split at a
  ·simp at a
  ·exact P.no u a
 ·rw[m5]at a ⊢;by_cases c:v=u
  ·subst c;rw[if_pos ag,cv];exact⟨h,e,aA (by rw[lA1];lia)⟩
  ·rw[if_neg c]at a ⊢;obtain⟨h',d,f⟩:=P.yes u a;refine⟨h',d,?_⟩;rw[gS1 (λz=>c (P.inj v u h e (by rw[z];exact d))),gL1 (gE1.mp f).1];exact f
def PL.new{b v:Nat}{A:Pl}{kv:List (Key×D)}{H:Sto}{p:Nat×Nat}(P:PL b A kv H)(hv:ps A v=[]):
  PL b (A++[(p,v)]) (gP kv (Sum.inl (v:Int)) (.ref (b+H.length))) (H++[.lst [pD p]]):=by
 refine⟨λu f=>?_,λu f=>?_,λu j h d c=>?_,by rw[lA1,aR];have:=P.few;have:=qv (k:=(Sum.inl (v:Int):Key)) (v:=D.ref (b+H.length)) (a:=kv);lia⟩
 ·rw[m5]at f;split at f
  ·simp at f
  ·rename_i l;rw[jx,if_neg (oe (Ne.symm l))];exact P.no u f
 ·rw[m5]at f ⊢;by_cases g:v=u
  ·subst g;rw[if_pos ag,hv,jx,if_pos ag];exact⟨H.length,ag,by rw[gR1 (nR1 _),cq];rfl⟩
  ·rw[if_neg g]at f ⊢;obtain⟨h',d,c⟩:=P.yes u f;refine⟨h',by rw[jx,if_neg (oe (Ne.symm g))];exact d,?_⟩;rw[gL1 (gE1.mp c).1];exact c
 ·have old:∀ w:Nat,w≠v->dE kv (Sum.inl (w:Int))=some (.ref (b+h))->h<H.length:=fun w o e=>by
   by_cases m:ps A w=[]
   ·rw[P.no w m]at e;cases e
   ·obtain⟨h',i,n⟩:=P.yes w m;rw[e]at i;have:h=h':=by injection i with i;injection i with i;lia
    rw[this];exact(gE1.mp n).1
  rw[jx]at d c;by_cases h1:u=v
  ·by_cases h2:j=v
   ·rw[h1,h2]
   ·rw[if_pos (by rw[h1])]at d;rw[if_neg (oe h2)]at c;have:=old j h2 c;have:h=H.length:=by injection d with d;injection d with d;lia
    lia
  ·rw[if_neg (oe h1)]at d;by_cases h2:j=v
   ·rw[if_pos (by rw[h2])]at c;have:=old u h1 d;have:h=H.length:=by injection c with c;injection c with c;lia
    lia
   ·rw[if_neg (oe h2)]at c;exact P.inj u j h d c
def js(A:Pl)(v:Nat)(e:Nat×Nat):Nat×Nat:=let l:=ps A v;if l.getD 0 (0,0)=e then l.getD 1 (0,0)else l.getD 0 (0,0)
def yW{A:Pl}{v:Nat}(h2:(ps A v).length=2):∃p q,ps A v=[p,q]:=by
 match hp:ps A v,h2 with
 |[p,q],_=>exact⟨p,q,ag⟩
def we{A:Pl}{v:Nat}{e:Nat×Nat}(h:(A.map (·.1)).Nodup)(h2:(ps A v).length=2)(he:(e,v)∈A):(js A v e,v)∈A/\js A v e≠e/\js A v (js A v e)=e /\ ∀x,(x,v)∈A->x=e\/x=js A v e:=by
 obtain⟨p,q,c⟩:=yW h2;have g:=ID (v:=v) h;rw[c]at g;have a:p≠q:=by simpa using g
 have m:∀x,(x,v)∈A↔x=p\/x=q:=λx=>by rw[<- Gx,c];simp
 have d:∀x,js A v x=if p=x then q else p:=λx=>by simp[js,c]
 rcases(m e).mp he with rfl|rfl
 ·have f:js A v e=q:=by rw[d,if_pos ag]
  rw[f];exact⟨(m q).mpr (.inr ag),Ne.symm a,by rw[d,if_neg a],λx b=>(m x).mp b⟩
 ·have f:js A v e=p:=by rw[d,if_neg a]
  rw[f];exact⟨(m p).mpr (.inl ag),a,by rw[d,if_pos ag],λx b=>((m x).mp b).symm⟩
def vK{c:FT}{b:FS}{Q:Fl×Ev×Sto->Prop}(I:Nat->Ev->Sto->Prop)(N:Nat)(step:∀k r S,I k r S->W (c r S) fun p=>if p.1=true then k<N/\W (b r p.2) fun q=>q.1 = .nx/\I (k+1) q.2.1 q.2.2 else Q (.nx,r,p.2)):
  ∀(fuel k:Nat) (r:Ev) (S:Sto),N-k<fuel->I k r S->W (ut c b fuel r S) Q
 |0,k,r,S,hf,_=>by lia
 |fuel+1,k,r,S,hf,hi=>by
  rw[ut];dsimp only;rw[dj];obtain⟨⟨t,m⟩,e,h⟩:=step k r S hi;refine⟨_,e,?_⟩;dsimp only at h ⊢;cases t with
  |true=>
   rw[if_pos ag]at h ⊢;obtain⟨l,⟨f,i,g⟩,j,d,a⟩:=h;dsimp only at d a;subst d;rw[j,oS1];exact vK I N step fuel (k+1) i g (by lia) a
  |false=>
   rw[if_neg (by decide)]at h ⊢;exact dr.mpr h
def w9{m:FA}{r:Ev}{S:Sto}{xs:List D}{n:Nat}{Q:yt×Sto->Prop}(hm:m r S=wq ([.ref n],S))(hn:S[n]?=wq (.lst xs))(q:Q (⟨sx 0 xs,[(n,xs)]⟩,S)):W (og m r S) Q:=by
 refine W.of (x:=(⟨sx 0 xs,[(n,xs)]⟩,S)) ?_ q;simp only[og,hm,oS1,gb hn,rV hn]
def ou:∀{xs:List Nat} {i:Nat} (h:i<xs.length),(xs[i]::xs.eraseIdx i).Perm xs
 |x::xs,0,h=>.refl _
 |x::xs,i+1,h=>by
  rw[List.eraseIdx_cons_succ,List.getElem_cons_succ];exact(List.Perm.swap x _ _).trans ((ou (by simpa using h)).cons x)
def sQ{xs rs row:List Nat}{i:Nat}{x:Nat}(h:(rs++xs).Perm row)(hx:xs[i]?=wq x):((rs++[x])++xs.eraseIdx i).Perm row:=by
 refine List.Perm.trans ?_ h;rw[bw];refine List.Perm.append_left rs ?_;obtain⟨hi,rfl⟩:=gE1.mp hx;exact ou hi
def Ad{xs:List Nat}{i x:Nat}(h:xs[i]?=wq x):(nmD xs)[i]?=wq (.int x):=by rw[nmD,gP1,h];rfl
def tw{xs:List Nat}{i:Nat}:(nmD xs).eraseIdx i=nmD (xs.eraseIdx i):=by
 rw[nmD,nmD,b8,b8,cv,List.map_take,List.map_drop]
def lf{xs:List Nat}{x:Nat}:nmD xs++[D.int (x:Int)]=nmD (xs++[x]):=by simp[nmD]
def Fj{V:Sto}{o:Ob}{n:Nat}{row:List Nat}{i x2 x3 x6 m x8 x9:Option D}{Q:Fl×Ev×Sto->Prop}(ho:Hnd o n)(hn:n<=2^44)(hr:row.length<=4)(q:∀o' rs G,Hnd o' (n+4)->rs.Perm row->Q (.nx,[some (.ref 0),i,x2,x3,some (.ref (V.length+1)),some (.ref (V.length+2)),x6,m,x8,x9],o'::(V ++ .lst [] :: .lst (nmD rs)::G))):
  W (ut gI gH 100000 [wq (.ref 0),i,x2,x3,wq (.ref (V.length+1)),wq (.ref (V.length+2)),x6,m,x8,x9] (o::(V++[.lst (nmD row),.lst []]))) Q:=by
 refine vK (λk r S=>∃o' a rs G,Hnd o' (n+k)/\(rs++a).Perm row/\rs.length=k/\S=o'::(V ++ .lst (nmD a) :: .lst (nmD rs)::G)/\r=[wq (.ref 0),i,x2,x3,wq (.ref (V.length+1)),wq (.ref (V.length+2)),x6,m,x8,x9]) 4 ?_ 100000 0 _ _ (by lia) ⟨o,row,[],[],ho,.refl _,ag,ag,ag⟩;rintro k r S ⟨o',a,rs,G,c,f,u,rfl,rfl⟩;have b:=f.length_eq;rw[lA1]at b;have g:∀(o:Ob) (X:Ob) (Y:Sto),(o::(V++X::Y))[V.length+1]?=wq X:=λo X Y=>by rw[gC1,dy];rfl
 have s:∀(o:Ob) (X Z:Ob) (Y:Sto),(o::(V++X::Z::Y))[V.length+2]?=wq Z:=λo X Z Y=>by rw[gC1,ej];rfl
 refine W.of (x:=(!(nmD a).isEmpty,o'::(V ++ .lst (nmD a) :: .lst (nmD rs)::(G++[.lst []])))) ?_ ?_
 ·have e:(o'::(V++Ob.lst (nmD a)::Ob.lst (nmD rs)::G))++[Ob.lst []]=o'::(V ++ .lst (nmD a) :: .lst (nmD rs)::(G++[.lst []])):=by simp
  unfold gI mB m2 mV eH di b2;simp only[gC1,cF,cJ,oP1,oS1];rw[if_pos (show([]:List D).length<=c9 by decide),oS1,e,DE (xs:=nmD a) (g _ _ _) (by rw[<- e,dy];rfl)];rfl
 dsimp only;cases a with
 |nil=>
  rw[show(nmD ([]:List Nat)).isEmpty=ai from rfl,if_neg (by decide)];rw[aF]at f;exact q o' rs _ (c.more (by simp at b;lia)) f
 |cons l a=>
  rw[show(!(nmD (l::a)).isEmpty)=ai from rfl,if_pos ag];refine⟨by rw[lC1]at b;lia,?_⟩;unfold gH;walk_at"w";refine gM ?_;walk_at"w";refine⟨V.length+2,nmD rs,ag,s _ _ _ _,?_⟩;refine gM ?_;walk_at"w";refine⟨V.length+1,nmD (l::a),ag,g _ _ _,?_⟩;refine dV (g _ _ _) ?_;walk_at"w";rw[d3];rw[lC1]at b;refine ga c (by lia) (by rw[lC1];lia) (by rw[lC1];lia) λd h j t=>?_;obtain⟨x,p⟩:∃x,(l::a)[d]?=some x:=⟨_,gG1 (by lia)⟩;walk_at"w";refine BA (g _ _ _) (Ad p) (by rw[lC1]at t;lia) ?_;have es:∀X,(h::(V++Ob.lst (nmD (l::a))::Ob.lst (nmD rs)::(G++[Ob.lst []]))).set (V.length+1) X=h::(V++X :: .lst (nmD rs)::(G++[.lst []])):=λX=>by
   rw[ck,cP _ _ (nR1 _),cq];rfl
  rw[es];walk_at"w";refine(je (s _ _ _ _)).mpr ⟨dz (by rw[d3];lia),?_⟩;refine⟨h,(l::a).eraseIdx d,rs++[x],G++[.lst []],j.more (by lia),sQ f p,by rw[lA1,u];rfl,?_,trivial⟩;rw[ck,cP _ _ (by lia),show V.length+1-V.length=1 by lia,lf,tw];rfl
def rk(u:Nat)(ks:List Nat):List D:=ks.map λk=>D.ref (u+2+k)
structure RS (R:jk)(ks:List Nat)(G:Sto):Prop where
 len:ks.length=R.length
 row:∀(j k:Nat) (row:List Nat),ks[j]?=some k->R[j]?=some row->G[k]?=some (.lst (nmD row))
def RS.app{R:jk}{ks:List Nat}{G H:Sto}(r:RS R ks G):RS R ks (G++H):=
 ⟨r.len,λj k a h1 h2=>by have:=r.row j k a h1 h2;rw[gL1 (gE1.mp this).1];exact this⟩
def RS.snoc{R:jk}{ks:List Nat}{G:Sto}{k:Nat}{row:List Nat}(r:RS R ks G)(h:G[k]?=wq (.lst (nmD row))):RS (R++[row]) (ks++[k]) G:=by
 refine⟨by rw[lA1,lA1,r.len];rfl,λj c a h1 h2=>?_⟩;by_cases b:j<ks.length
 ·rw[gL1 b]at h1;rw[gL1 (by rw[<- r.len];exact b)]at h2;exact r.row j c a h1 h2
 ·have:=(gE1.mp h1).1;rw[lA1,aR]at this;have e:j=ks.length:=by lia
  subst e;rw[cQ]at h1;rw[r.len,cQ]at h2;cases h1;cases h2;exact h
def E5{U G:Sto}{ks:List Nat}{o:Ob}{n e i:Nat}{row:List Nat}{x4 x5 x6 c x8 x9:Option D}{Q:Fl×Ev×Sto->Prop}(hi:U[i]? = some (.lst (nmD row)))(ho:Hnd o n)(hn:n<=2^44)(hr:row.length<=4)(hk:ks.length<=100)(q:∀o' rs p k f j,Hnd o' (n+4)->rs.Perm row->(G++p)[k]?=some (.lst (nmD rs))->Q (.nx,[some (.ref 0),some (.ref e),some (.ref (U.length+1)),some (.ref (i+1)),f,j,x6,c,x8,x9],o'::(U ++ .lst (rk U.length (ks++[k]))::(G++p)))):
  W (gF [wq (.ref 0),wq (.ref e),wq (.ref (U.length+1)),wq (.ref (i+1)),x4,x5,x6,c,x8,x9] (o::(U ++ .lst (rk U.length ks)::G))) Q:=by
 generalize b:U ++ .lst (rk U.length ks)::G=V;have l:V.length=U.length+1+G.length:=by rw[<- b];simp;lia
 have m:V[i]?=wq (.lst (nmD row)):=by rw[<- b,gL1 (gE1.mp hi).1];exact hi
 have d:V[U.length]?=wq (.lst (rk U.length ks)):=by rw[<- b,dy];rfl
 unfold gF;refine dJ (λr S=>S=o::(V++[.lst (nmD row),.lst []])/\r=[wq (.ref 0),wq (.ref e),wq (.ref (U.length+1)),wq (.ref (i+1)),wq (.ref (V.length+1)),wq (.ref (V.length+2)),x6,c,x8,x9]) ?_ ?_
 ·have s:∀S:Sto,S[i+1]?=wq (.lst (nmD row))->rF (.ref (i+1)) S=wq (.ref S.length,S++[.lst (nmD row)]):=λS h=>by unfold rF;rw[gb h];rfl
  ((try walk_at"w");repeat(simp only[s (o::V) (by rw[gC1];exact m)];try walk_at"w"))
 rintro r S ⟨rfl,rfl⟩;refine dJ (λr S=>∃o' rs G2,Hnd o' (n+4)/\rs.Perm row/\S=o'::(V ++ .lst [] :: .lst (nmD rs)::G2)/\r=[wq (.ref 0),wq (.ref e),wq (.ref (U.length+1)),wq (.ref (i+1)),wq (.ref (V.length+1)),wq (.ref (V.length+2)),x6,c,x8,x9]) ?_ ?_
 ·refine Fj ho hn hr λo' rs G2 h1 h2=>⟨ag,o',rs,G2,h1,h2,ag,ag⟩
 rintro r S ⟨o',rs,G2,g,t,rfl,rfl⟩;have a:(o'::(V++Ob.lst []::Ob.lst (nmD rs)::G2))[U.length+1]?=wq (.lst (rk U.length ks)):=by
  rw[gC1,gL1 (by lia)];exact d
 walk_at"w";refine gM ?_;walk_at"w";refine⟨U.length+1,_,ag,a,?_⟩;refine(je a).mpr ⟨dz (by unfold rk;rw[lM1];lia),?_⟩;have es:(o'::(V++Ob.lst []::Ob.lst (nmD rs)::G2)).set (U.length+1) (.lst (rk U.length ks++[.ref (V.length+2)]))=o'::(U ++ .lst (rk U.length (ks++[G.length+1]))::(G++Ob.lst []::Ob.lst (nmD rs)::G2)):=by
  have u:rk U.length ks++[.ref (V.length+2)]=rk U.length (ks++[G.length+1]):=by
   unfold rk;rw[cv,l,show U.length+1+G.length+2=U.length+2+(G.length+1) by lia];rfl
  rw[u,<- b,ck,bw,cP _ _ (nR1 _),cq];rfl
 rw[es];exact q o' rs _ (G.length+1) _ _ g t (by rw[ej];rfl)
def JX{m a b:FE}{r:Ev}{S:Sto}{n v:Nat}{kv:List (Key×D)}{Q:D×Sto->Prop}(hm:m r S=wq (.ref n,S))(ha:a r S=wq (.int v,S))(hb:b r S=wq (.ref S.length,S++[.lst []]))(hn:S[n]? = wq (.dct kv))(e:kv.length<1000)(h1:∀z,dE kv (Sum.inl (v:Int))=wq z->Q (z,S++[.lst []]))(h2:dE kv (Sum.inl (v:Int))=aj->Q (.ref S.length,(S++[Ob.lst []]).set n (.dct (gP kv (Sum.inl (v:Int)) (.ref S.length))))):W (nY m a b r S) Q:=by
 have c:(S++[Ob.lst []])[n]?=wq (.dct kv):=by rw[gL1 (gE1.mp hn).1];exact hn
 have d:kv.length<c9:=nL1 e (by decide);cases hk:dE kv (Sum.inl (v:Int))with
 |some z=>
  refine W.of ?_ (h1 z hk);simp only[nY,hm,oS1,hn,ha,hb,c,rm,if_pos d,hk]
 |none=>
  refine W.of ?_ (h2 hk);simp only[nY,hm,oS1,hn,ha,hb,c,rm,if_pos d,hk]
def CB{X H:Sto}{o:Ob}{A:Pl}{kv:List (Key×D)}{i j v:Nat}{k x2 x3 x4 x5:Option D}{Q:Fl×Ev×Sto->Prop}(P:PL (X.length+2) A kv H)(C:A.length<100)(q:∀a H',PL (X.length+2) (A++[((i,j),v)]) a H'->Q (.nx,[some (.ref 0),k,x2,x3,x4,x5,some (.ref (X.length+1)),some (.int (i:Nat)),some (.int (j:Nat)),some (.int (v:Nat))],o::(X ++ .dct a::H'))):
  W (gE [wq (.ref 0),k,x2,x3,x4,x5,wq (.ref (X.length+1)),wq (.int (i:Nat)),wq (.int (j:Nat)),wq (.int (v:Nat))] (o::(X ++ .dct kv::H))) Q:=by
 have B:=P.few;have y:∀(o:Ob) (Z:Ob) (Y:Sto),(o::(X++Z::Y))[X.length+1]?=wq Z:=λo Z Y=>by rw[gC1,dy];rfl
 have u:∀(o:Ob) (Z:Ob) (Y:Sto) (h:Nat),(o::(X++Z::Y))[X.length+2+h]?=Y[h]?:=λo Z Y h=>by rw[show X.length+2+h=X.length+(h+1)+1 by lia,gC1,ej];rfl
 have t:(o::(X++Ob.dct kv::H)).length=X.length+2+H.length:=by simp;lia
 have s:(o::(X++Ob.dct kv::H))++[Ob.lst []]=o::(X ++ .dct kv::(H++[.lst []])):=by simp
 have st:∀(Z:Ob) (Y:Sto) (h:Nat) (V:Ob),(o::(X++Z::Y)).set (X.length+2+h) V=o::(X++Z::Y.set h V):=λZ Y h V=>by
  rw[show X.length+2+h=X.length+(h+1)+1 by lia,ck,cP _ _ (by lia),show X.length+(h+1)-X.length=h+1 by lia];rfl
 have g:∀ (a:List (Key×D)) (H1:Sto) (h:Nat) (ys:List (Nat×Nat)) (m:Sto),m=o::(X ++ .dct a::H1)->H1[h]? = some (.lst (ys.map pD))->ys.length<200->PL (X.length+2) (A++[((i,j),v)]) a (H1.set h (.lst (ys.map pD++[pD (i,j)]))) ->
   ∃n xs,D.ref (X.length+2+h) = .ref n/\m[n]?=wq (.lst xs)/\W (dh (dI (dh (mV 7) (dh (mV 8) di))) di [wq (.ref 0),k,x2,x3,x4,x5,wq (.ref (X.length+1)),wq (.int (i:Nat)),wq (.int (j:Nat)),wq (.int (v:Nat))] m) λq=>W (b2 gK (.ref n::q.1) q.2) λp=>W (wq (Fl.nx,[wq (.ref 0),k,x2,x3,x4,x5,wq (.ref (X.length+1)),wq (.int (i:Nat)),wq (.int (j:Nat)),wq (.int (v:Nat))],p.2)) Q:=by
  rintro a H1 h ys m rfl e r w;have b:=u o (.dct a) H1 h;rw[e]at b;refine⟨X.length+2+h,_,ag,b,?_⟩;walk_at"w";refine(je b).mpr ⟨dz (by rw[lM1];lia),?_⟩;have:=q a _ w;rw[<- st]at this;exact this
 unfold gE;unfold eN;rw[dj];refine gM ?_;refine JX (n:=X.length+1) (v:=v) (kv:=kv) ag ag ?_ (y _ _ _) (by lia) (λz c=>?_) (λc=>?_)
 ·unfold eH di;rw[oS1];rfl
 ·by_cases d:ps A v=[]
  ·rw[P.no v d]at c;cases c
  ·obtain⟨h,l,b⟩:=P.yes v d;rw[l]at c;cases c;have r:=(gE1.mp b).1;refine g kv (H++[.lst []]) h (ps A v) _ s (by rw[gL1 r];exact b) ?_ (P.old d l b);unfold ps;rw[lM1];have:=cM (λx=>x.2 == v) A;lia
 ·by_cases d:ps A v=[]
  ·have f:=P.new (p:=(i,j)) d;rw[t];refine g (gP kv (Sum.inl (v:Int)) (.ref (X.length+2+H.length))) (H++[.lst []]) H.length [] _ ?_ (by rw[gR1 (nR1 _),cq];rfl) (by simp) ?_
   ·rw[s,ck,cP _ _ (nR1 _),cq];rfl
   ·rw[cP _ _ (nR1 _),cq];exact f
  ·obtain⟨h,l,b⟩:=P.yes v d;rw[l]at c;cases c
abbrev dq:=List (List (Nat×Nat))
def webD(w:dq):D:=.tup (w.map λrow=>.tup (row.map pD))
def d5(w:dq):(webD w).und 0=ai:=by
 unfold webD;rw[D.und];exact eJ λa _=>by rw[D.und];exact eJ λ_ _=>rfl
def uM(A:Pl)(i:Nat)(row:List Nat):List (Nat×Nat):=row.zipIdx.map λq=>js A q.1 (i,q.2)
def kq(R:jk):dq:=R.zipIdx.map λp=>uM (eW 0 R) p.2 p.1
def qa{R:jk}{i:Nat}:(kq R)[i]?=(R[i]?).map (uM (eW 0 R) i):=by
 unfold kq;rw[gP1,cR];cases R[i]? <;> simp
structure ul (E R:jk):Prop where
 len:R.length=E.length
 row:∀(i:Nat) (r e:List Nat),R[i]?=some r->E[i]?=some e->r.Perm e
def ul.snoc{E R:jk}{i:Nat}{r e:List Nat}(h:ul (E.take i) R)(he:E[i]?=wq e)(p:r.Perm e):ul (E.take (i+1)) (R++[r]):=by
 have hi:=(gE1.mp he).1;have a:R.length=i:=by have:=h.len;rw[aK]at this;lia
 refine⟨by rw[lA1,aK,a,aR];lia,λj c b h1 h2=>?_⟩;by_cases d:j<i
 ·rw[gL1 (by lia)]at h1;rw[aM (by lia)]at h2;exact h.row j c b h1 (by rw[aM d];exact h2)
 ·have:=(gE1.mp h1).1;rw[lA1,aR]at this;have e:j=i:=by lia
  subst e;rw[aM (by lia),he]at h2;rw[<- a,cQ]at h1;cases h1;cases h2;exact p
def lQ:∀{E R:jk},ul E R->R.flatten.Perm E.flatten
 |[],[],_=>.refl _
 |[],_::_,h=>by have:=h.len;simp at this
 |_::_,[],h=>by have:=h.len;simp at this
 |e::E,r::R,h=>(h.row 0 r e ag ag).append (lQ ⟨by simpa using h.len,λi a b h1 h2=>h.row (i+1) a b h1 h2⟩)
def uN{m k l i j a:Nat}{E R:jk}{row:List Nat}(v:WE m E k l)(sh:ul E R)(hr:R[i]?=wq row)(ha:row[j]?=wq a):(ps (eW 0 R) a).length=2:=by
 rw[FB,tW,(lQ sh).count_eq,v.ct a];have b:a∈R.flatten:=List.mem_flatten.mpr ⟨row,gM1 hr,gM1 ha⟩;have:=List.count_pos_iff.mpr b;rw[(lQ sh).count_eq,v.ct a]at this;split at this
 ·rename_i h;rw[if_pos h]
 ·lia
def Em{u j k:Nat}{ks:List Nat}(h:ks[j]?=wq k):(rk u ks)[j]?=wq (.ref (u+2+k)):=by unfold rk;rw[gP1,h];rfl
def qr{u:Nat}{ks:List Nat}:(rk u ks).length=ks.length:=by unfold rk;rw[lM1]
def wL{S:Sto}{n v:Nat}{F:List (Key×D)}{d:D}{Q:D×Sto->Prop}(h:S[n]?=wq (.dct F))(a:dE F (Sum.inl (v:Int))=wq d)(q:Q (d,S)):W (dt (.ref n) (.int (v:Nat)) S) Q:=by
 refine W.of ?_ q;simp only[dt,mU,h,rm,oS1,a,oP1]
def JE{a:Nat×Nat}{i j:Nat}{S:Sto}:gEq (pD a) (.tup [.int i,.int j]) S=wq (.bl (a == (i,j)),S):=by
 have:=ve (S:=S) (n:=58) (a:=a) (b:=(i,j));show(kA S dU (pD a) (pD (i,j))).map _=_;unfold dU;rw[this];rfl
inductive DI (E:jk)(U:Sto)(t m n:Nat):Nat->Ev->Sto->Prop
 |mk (i:Nat) (R:jk) (ks:List Nat) (G:Sto) (o':Ob) (x3 x4 x5:Option D) (hi:i<=m) (sh:ul (E.take i) R) (rs:RS R ks G) (ho:Hnd o' (n+4*i)):DI E U t m n i [some (.ref 0),some (.ref (t+m+1)),some (.ref (U.length+1)),x3,x4,x5,none,none,none,none] (o'::(U ++ .lst (rk U.length ks)::G))
inductive DJ (R:jk)(X:Sto)(o':Ob)(a b:Nat)(x3 x4:Option D)(m:Nat):Nat->Ev->Sto->Prop
 |mk (i:Nat) (kv:List (Key×D)) (H:Sto) (x5 x7 x8 x9:Option D) (hi:i<=m) (P:PL (X.length+2) (eW 0 (R.take i)) kv H):DJ R X o' a b x3 x4 m i [some (.ref 0),some (.ref a),some (.ref b),x3,x4,x5,some (.ref (X.length+1)),x7,x8,x9] (o'::(X ++ .dct kv::H))
inductive DK (R:jk)(X:Sto)(o':Ob)(a b:Nat)(x3 x4:Option D)(x5:Nat)(i:Nat)(row:List Nat):Nat->Ev->Sto->Prop
 |mk (j:Nat) (kv:List (Key×D)) (H:Sto) (x8 x9:Option D) (hj:j<=row.length) (P:PL (X.length+2) (eW 0 (R.take i)++hB i (row.take j)) kv H):DK R X o' a b x3 x4 x5 i row j [some (.ref 0),some (.ref a),some (.ref b),x3,x4,some (.ref x5),some (.ref (X.length+1)),some (.int (i:Nat)),x8,x9] (o'::(X ++ .dct kv::H))
def A9{t m n k:Nat}{T U:Sto}{E:jk}{o:Ob}{Q:D×Sto->Prop}(w:WN t m T E U)(v:WE m E k (m-1))(ho:Hnd o n)(hn:n<=2^43)(hm:m<=8)(q:∀R o',ul E R->Hnd o' (n+40)->Q (webD (kq R),o'::U)):W (dm 2 fN [.ref 0,.ref (t+m+1)] (o::U)) Q:=by
 refine ug ag ag (bq.mpr w.cl) ?_;unfold fN;refine ji ?_;unfold km;have hlE:=w.el;refine dJ (λr S=>S=o::(U ++ .lst (rk U.length [])::[])/\r=[wq (.ref 0),wq (.ref (t+m+1)),wq (.ref (U.length+1)),aj,aj,aj,aj,aj,aj,aj]) ?_ ?_
 ·walk_at"w";exact⟨ag,trivial⟩
 rintro r S ⟨rfl,rfl⟩;refine dJ (DI E U t m n m) ?_ ?_
 ·have y:∀(o:Ob) (Y:Sto),(o::(U++Y))[t+m+1]?=wq (.lst (j0 (t+1) m)):=λo Y=>by rw[gC1,gL1 (gE1.mp w.ends).1];exact w.ends
  walk_at"w";refine dV (y _ _) ?_;refine eA (DI E U t m n) _ 0 _ _ (.mk 0 [] [] [] o aj aj aj (aZ _) ⟨ag,λi r e h=>by simp at h⟩ ⟨ag,λj k row h=>by simp at h⟩ ho) ?_ ?_ ?_
  ·rintro i r S ⟨R,ks,G,o',x3,L,V,_,_,_,_⟩;exact eZ (y _ _)
  ·rintro i d g r S ⟨R,ks,G,o',x3,L,V,hi,sh,rs,C⟩;have c:=(gE1.mp g).1;dsimp only at c g;rw[k6]at c;rw[bG]at *
   rw[qt c]at g;cases g;obtain⟨row,b⟩:∃row,E[i]?=some row:=⟨_,gG1 (by lia)⟩;have hks:ks.length=i:=by rw[rs.len,sh.len,aK];lia
   walk_at"w";rw[show t+1+i=t+i+1 by lia];refine E5 (i:=t+i) (w.row i row b) C (by lia) (v.le i row b) (by lia) λo2 rs2 G2 k2 x4' x5' h1 h2 h3=>?_;exact⟨ag,.mk _ (R++[rs2]) (ks++[k2]) (G++G2) o2 _ _ _ c (sh.snoc b h2) (rs.app.snoc h3) (h1.more (nR1 _))⟩
  ·intro r S h;rw[k6,bG]at h;exact⟨ag,h⟩
 rintro r S ⟨R,ks,G,o',x3,L,V,_,sh,rs,C⟩;rw[bY (Nat.le_of_eq hlE)]at sh;generalize hX:U ++ .lst (rk U.length ks)::G=X;have F:R.length=m:=by rw[sh.len];exact hlE
 have K:∀(i:Nat) (row:List Nat),R[i]?=wq row->row.length<=4:=λi row h=>by
  obtain⟨e,he⟩:∃e,E[i]?=some e:=⟨_,gG1 (by have:=(gE1.mp h).1;lia)⟩;rw[(sh.row i row e h he).length_eq];exact v.le i e he
 have gk:∀(o:Ob) (Y:Sto),(o::(X++Y))[U.length+1]?=wq (.lst (rk U.length ks)):=λo Y=>by
  rw[<- hX,gC1,bw,dy];rfl
 have s:∀(o:Ob) (Y:Sto) (i k:Nat) (row:List Nat),ks[i]?=wq k->R[i]?=wq row->(o::(X++Y))[U.length+2+k]?=wq (.lst (nmD row)):=λo Y i k row h1 h2=>by
  have e:=rs.row i k row h1 h2;rw[<- hX,show U.length+2+k=U.length+(k+1)+1 by lia,gC1,bw,ej,a0,gC1,gL1 (gE1.mp e).1];exact e
 refine dJ (λr S=>S=o'::(X ++ .dct []::[])/\r=[wq (.ref 0),wq (.ref (t+m+1)),wq (.ref (U.length+1)),x3,L,V,wq (.ref (X.length+1)),aj,aj,aj]) ?_ ?_
 ·((try walk_at"w");repeat(simp only[im];try walk_at"w"))
 rintro r S ⟨rfl,rfl⟩;have lenA:∀i,i<=m->(eW 0 (R.take i)).length<=4*i:=by
  intro i
  induction i with
  |zero=>intro _;simp[eW]
  |succ i ih=>
   intro hi;obtain⟨row,b⟩:∃row,R[i]?=some row:=⟨_,gG1 (by lia)⟩;rw[l7 b,lA1];have:=ih (by lia);have:=K i row b;simp[hB];lia
 refine dJ (DJ R X o' (t+m+1) (U.length+1) x3 L m m) ?_ ?_
 ·unfold eT;rw[dj];refine w9 (n:=U.length+1) ag (gk _ _) ?_;refine eA (DJ R X o' (t+m+1) (U.length+1) x3 L m) _ 0 _ _ (.mk 0 [] [] _ _ _ _ (aZ _) ⟨λv _=>rfl,λv h=>(h ag).elim,λv u h e=>by simp[dE]at e,by simp⟩) ?_ ?_ ?_
  ·rintro i r S ⟨A,H,V,x7,x8,x9,_,_⟩;exact eZ (gk _ _)
  ·rintro i d g r S ⟨A,H,V,x7,x8,x9,hi,P⟩;dsimp only at g;rw[fP]at g;obtain⟨z,B,rfl⟩:=oM1.mp g;have c:=(gE1.mp B).1;rw[qr]at c;obtain⟨k2,l⟩:∃k2,ks[i]?=some k2:=⟨_,gG1 c⟩;rw[Em l]at B;cases B;have hil:i<m:=by rw[<- F,<- rs.len];exact c
   obtain⟨row,b⟩:∃row,R[i]?=some row:=⟨_,gG1 (by lia)⟩;rw[bG]at *
   walk_at"w";unfold i9 eT;rw[dj];refine w9 (n:=U.length+2+k2) ag (s _ _ i k2 row l b) ?_;refine eA (DK R X o' (t+m+1) (U.length+1) x3 L (U.length+2+k2) i row) _ 0 _ _ (.mk 0 A H _ _ (aZ _) (by simpa[hB]using P)) ?_ ?_ ?_
   ·rintro j r S ⟨A,H,x8,x9,_,_⟩;exact eZ (s _ _ i k2 row l b)
   ·rintro j d g r S ⟨A,H,x8,x9,hj,P⟩;dsimp only at g;rw[fP]at g;obtain⟨z,B,rfl⟩:=oM1.mp g;rw[nmD,gP1]at B;obtain⟨way,I,rfl⟩:=oM1.mp B;have hjl:=(gE1.mp I).1;rw[bG]at *
    have:=lenA i (by lia);have:=K i row b;walk_at"w";refine CB P (by rw[lA1];simp[hB];lia) λkv' H' P'=>?_;rw[bw,<- zG I]at P';exact⟨ag,.mk _ kv' H' _ _ hjl P'⟩
   ·rintro r S ⟨A,H,x8,x9,hj,P⟩;rw[fO,d3,bG,bO]at P;refine⟨ag,.mk _ A H _ _ _ _ hil ?_⟩;rw[l7 b,bG];exact P
  ·intro r S h;rw[fO,qr,rs.len,bG,F]at h;exact⟨ag,h⟩
 rintro r S ⟨A,H,V,x7,x8,x9,_,P⟩;rw[bY (Nat.le_of_eq F)]at P;obtain⟨Y,hY⟩:∃Y,Y=Ob.dct A::H:=⟨_,ag⟩;rw[<- hY];have cnt:∀(i j a:Nat) (row:List Nat),R[i]?=wq row->row[j]?=wq a -> ∃p N h,ps (eW 0 R) a=[p,N]/\dE A (Sum.inl (a:Int))=wq (.ref (X.length+2+h))/\H[h]?=wq (.lst [pD p,pD N]):=by
  intro i j a row hr ha;have h2:=uN v sh hr ha;obtain⟨p,N,e⟩:=yW h2;obtain⟨h,e1,e2⟩:=P.yes a (by rw[e];simp);rw[e]at e2;exact⟨p,N,h,e,e1,e2⟩
 have gY:∀(o:Ob) (Z:Sto) (h:Nat) (x:Ob),H[h]?=wq x->(o::(X++(Y++Z)))[X.length+2+h]?=wq x:=λo Z h x e=>by
  rw[hY,show X.length+2+h=X.length+(h+1)+1 by lia,gC1,ej,a0,gC1,gL1 (gE1.mp e).1];exact e
 have gd:∀(o:Ob) (Z:Sto),(o::(X++(Y++Z)))[X.length+1]?=wq (.dct A):=λo Z=>by rw[hY,gC1,dy];rfl
 walk_at"w";refine w9 (n:=U.length+1) ag (gk _ _) ?_;refine io (λi J r S=>∃Z O M,S=o'::(X++(Y++Z))/\r=[O,M,wq (.ref (X.length+1))]/\J=(((kq R).take i).map λrow=>.tup (row.map pD))) _ 0 [] _ _ ⟨[],aj,aj,by rw[aF],ag,ag⟩ ?_ ?_ ?_
 ·rintro i J r S ⟨Z,O,M,rfl,_⟩;exact eZ (gk _ _)
 ·rintro i d g J r S ⟨Z,O,M,rfl,rfl,rfl⟩;dsimp only at g;rw[fP]at g;obtain⟨z,B,rfl⟩:=oM1.mp g;have c:=(gE1.mp B).1;rw[qr]at c;obtain⟨k2,l⟩:∃k2,ks[i]?=some k2:=⟨_,gG1 c⟩;rw[Em l]at B;cases B;obtain⟨row,b⟩:∃row,R[i]?=some row:=⟨_,gG1 (by rw[<- rs.len];exact c)⟩;rw[bG]at *
  have hl:=K i row b;walk_at"w";refine w9 (n:=U.length+2+k2) ag (s _ _ i k2 row l b) ?_;dsimp only;rw[nmD,A8];refine j1 (f:=λp:Nat×Nat=>D.tup [.int p.2,.int p.1]) (λp=>pD (js (eW 0 R) p.1 (i,p.2))) (λr=>∃O M,r=[O,M,wq (.ref (X.length+1)),wq (.int (i:Nat))]) (eZ (s _ _ i k2 row l b)) row.zipIdx _ ⟨_,_,ag⟩ ?_ ?_
  ·rintro⟨a,j⟩ ha r ⟨y0,y1,rfl⟩;obtain⟨p,N,h,c1,c2,c3⟩:=cnt i j a row b (xf ha);have c4:=gY o' Z h _ c3;walk_at"w";refine wL (gd _ _) c2 ?_;refine wL (gd _ _) c2 ?_;refine iN (i:=0) (x:=pD p) c4 ag ?_
   ((try walk_at"w");repeat(simp only[JE];try walk_at"w"))
   by_cases hp:p=(i,j)
   ·rw[show(p == (i,j))=ai by rw[hp];simp];walk_at"w";refine iN (i:=1) (x:=pD N) c4 ag ?_;refine⟨?_,ag,_,_,ag⟩;simp[js,c1,hp]
   ·rw[show(p == (i,j))=ah by simp[hp]];walk_at"w";refine iN (i:=0) (x:=pD p) c4 ag ?_;refine⟨?_,ag,_,_,ag⟩;simp[js,c1,hp]
  ·rintro r' _;walk_at"w";refine⟨dz (by rw[lM1,List.length_zipIdx];lia),?_⟩;refine dV (xs:=row.zipIdx.map λp=>pD (js (eW 0 R) p.1 (i,p.2))) (by rw[gC1];simp only[<- lA1,<- ba,<- bw];rw[dy];rfl) ?_;refine⟨Z++[Ob.lst (row.zipIdx.map λp=>pD (js (eW 0 R) p.1 (i,p.2)))],_,_,ag,ag,?_⟩;rw[cx,qa,b];simp[uM,Function.comp_def]
 ·rintro xs r S ⟨Z,O,M,rfl,rfl,e⟩;dsimp only at e;have hwl:(kq R).length=m:=by unfold kq;simp[F]
  rw[cH,bG,fO,qr,rs.len,bY (by lia)]at e;subst e;walk_at"w";refine⟨dz (by rw[lM1];lia),?_⟩;refine dV (xs:=(kq R).map λrow=>.tup (row.map pD)) (by rw[gC1];simp only[<- lA1,<- ba,<- bw];rw[dy];rfl) ?_;refine⟨webD (kq R),o',(.lst (rk U.length ks)::G)++(Y++(Z++[Ob.lst ((kq R).map λrow=>.tup (row.map pD))])),?_,d5 _,C.und,q R o' sh (C.more (by lia))⟩;rw[<- hX];simp only[bw];rfl
def At(w:dq)(r d:Nat)(e:Nat×Nat):Prop:=∃row,w[r]?=wq row/\row[d]?=wq e
structure WebJ (m:Nat)(w:dq):Prop where
 len:w.length=m
 le:∀(i:Nat) (row:List (Nat×Nat)),w[i]?=some row->row.length<=4
 to:∀(r d:Nat) (e:Nat×Nat),At w r d e->e.1<m
 jn:∀j,1<=j->j<m -> ∃a d e,a<j/\At w a d e/\e.1=j
structure si (m:Nat)(w:dq):Prop extends WebJ m w where
 back:∀(r d:Nat) (e:Nat×Nat),At w r d e->At w e.1 e.2 (r,d)/\e≠(r,d)
def Hy{R:jk}{i j:Nat}{e:Nat×Nat}:At (kq R) i j e ↔ ∃b a,R[i]?=wq b/\b[j]?=wq a/\e=js (eW 0 R) a (i,j):=by
 unfold At;rw[qa];constructor
 ·rintro⟨b,h1,h2⟩;obtain⟨c,d,rfl⟩:=oM1.mp h1;unfold uM at h2;rw[gP1,cR]at h2;obtain⟨x,f,rfl⟩:=oM1.mp h2;obtain⟨a,g,rfl⟩:=oM1.mp f;exact⟨c,a,d,g,by simp⟩
 ·rintro⟨b,a,h1,h2,rfl⟩;refine⟨uM (eW 0 R) i b,by rw[h1];rfl,?_⟩;unfold uM;rw[gP1,cR,h2];simp
def ng{R:jk}{i j a:Nat}:((i,j),a)∈eW 0 R ↔ ∃b,R[i]?=wq b/\b[j]?=wq a:=by
 rw[nX];constructor
 ·rintro⟨d,b,h1,h2,c⟩;rw[bG]at h1;dsimp only at h1;subst h1;exact⟨b,h2,c⟩
 ·rintro⟨b,h2,c⟩;exact⟨i,b,(bG i).symm,h2,c⟩
def BY{m k:Nat}{E R:jk}(v:WE m E k (m-1))(sh:ul E R):si m (kq R):=by
 have w:R.length=m:=by rw[sh.len];exact v.len
 have I:∀(i:Nat) (b:List Nat),R[i]?=wq b -> ∃e,E[i]?=wq e/\b.Perm e:=λi b h=>by
  obtain⟨e,q⟩:∃e,E[i]?=some e:=⟨_,gG1 (by have:=(gE1.mp h).1;rw[v.len];lia)⟩;exact⟨e,q,sh.row i b e h q⟩
 have l:∀(r d:Nat) (e:Nat×Nat),At (kq R) r d e->At (kq R) e.1 e.2 (r,d)/\e≠(r,d)/\e.1<m:=λr d e h=>by
  obtain⟨b,a,h1,h2,rfl⟩:=Hy.mp h;obtain⟨F,p2,J,_⟩:=we rM (uN v sh h1 h2) (ng.mpr ⟨b,h1,h2⟩);generalize js (eW 0 R) a (r,d)=g at *
  obtain⟨c,o,D⟩:=(ng (i:=g.1) (j:=g.2)).mp F;refine⟨Hy.mpr ⟨c,a,o,D,J.symm⟩,p2,?_⟩;have:=(gE1.mp o).1;lia
 refine⟨⟨by unfold kq;simp[w],λi b h=>?_,λr d e h=>(l r d e h).2.2,λj h1 h2=>?_⟩,λr d e h=>⟨(l r d e h).1,(l r d e h).2.1⟩⟩
 ·rw[qa]at h;obtain⟨c,o,rfl⟩:=oM1.mp h;obtain⟨e,q,p⟩:=I i c o;unfold uM;rw[lM1,List.length_zipIdx,p.length_eq];exact v.le i e q
 ·obtain⟨a,M,G,x,N,L,O,B,K⟩:=v.jn j h1 (by lia);obtain⟨u,f⟩:∃s,R[a]?=some s:=⟨_,gG1 (by lia)⟩;obtain⟨A,n⟩:∃s,R[j]?=some s:=⟨_,gG1 (by lia)⟩;obtain⟨d,t⟩:=bh ((sh.row a u M f L).mem_iff.mpr B);obtain⟨C,y⟩:=bh ((sh.row j A G n O).mem_iff.mpr K);obtain⟨_,_,_,H⟩:=we rM (uN v sh f t) (ng.mpr ⟨u,f,t⟩);rcases H (j,C) (ng.mpr ⟨A,n,y⟩)with z|z
  ·injection z with Q P;lia
  ·exact⟨a,d,_,N,Hy.mpr ⟨u,x,f,t,ag⟩,by rw[<- z]⟩
def CA{o:Ob}{n a:Nat}{T:Sto}{Q:D×Sto->Prop}(ho:Hnd o n)(hn:n<=2^40)(O:T.all (Ob.und (T.length+1))=ai)(h0:1<=a)(h8:a<=8)(h:∀m w o',0<m->m<=a->si m w->Hnd o' (n+100)->Q (webD w,o'::T)):W (dm 2 fb [.ref 0,.int a] (o::T)) Q:=by
 refine ug ag ag O ?_;unfold fb;refine ji ?_;unfold iM;generalize I:T.length=t;refine dJ (λr S=>∃(m:Nat) (s:Ob),0<m/\m<=a/\Hnd s (n+1)/\r=[wq (.ref 0),wq (.int a),wq (.int m),wq (.int ((0:Nat):Int)),aj,aj,aj,aj,aj,aj]/\S=s::T) ?_ ?_
 ·walk_at"w";refine ga ho (by lia) (by lia) (by lia) λc s z hc=>?_;walk_at"w";exact⟨c+1,s,by lia,by lia,z,by simp[Int.add_comm],ag⟩
 rintro r S ⟨m,s,B,Z,z,rfl,rfl⟩;refine dJ (λr S=>∃U,WN t m T (aI m []) U/\r=[wq (.ref 0),wq (.int a),wq (.int m),wq (.int ((0:Nat):Int)),wq (.ref (t+m+1)),aj,aj,aj,aj,aj]/\S=s::U) ?_ ?_
 ·walk_at"w";refine⟨fR (by lia),?_⟩;rw[Int.toNat_natCast];refine io (λi A r S=>A=j0 (t+1) i/\S=s::(T++aI i (.lst [])) /\ ∃x,r=[x]) (gz 0 m) 0 [] _ _ ⟨ag,by simp,_,ag⟩ (λ_ _ _ _ _=>rfl) ?_ ?_
  ·rintro i d u A r S ⟨rfl,rfl,x,rfl⟩;walk_at"w";rw[bG];refine⟨?_,?_,_,ag⟩
   ·rw[pj,I,lR1]
    congr 3
    lia
   ·rw[List.replicate_succ']
  ·rintro xs r S ⟨e,rfl,_⟩;rw[cH,bG,eK]at e;subst e;rw[bG,eK];walk_at"w";rw[k6];refine⟨dz (by lia),_,yH I O,?_,ag⟩;simp[I]
 rintro r S ⟨V,Y,rfl,rfl⟩;refine dJ (λr S=>∃E k f U g x6 l,WN t m T E U/\WE m E k (m-1)/\Hnd f (n+20)/\r=[wq (.ref 0),wq (.int a),wq (.int m),wq (.int (k:Nat)),wq (.ref (t+m+1)),g,x6,l,aj,aj]/\S=f::U) ?_ ?_
 ·walk_at"w";refine⟨sd (by decide) (by decide),fR (by lia),?_⟩;refine eA (λi r S=>i<=m-1 /\ ∃E f U g x6 l,WN t m T E U/\WE m E i i/\(∀j y,i+1<=j->E[j]?=wq y->y=[])/\Hnd f (n+1+i)/\r=[wq (.ref 0),wq (.int a),wq (.int m),wq (.int (i:Nat)),wq (.ref (t+m+1)),g,x6,l,aj,aj]/\S=f::U) _ 0 _ _ ?_ (λ_ _ _ _=>rfl) ?_ ?_
  ·refine⟨by lia,_,s,V,aj,aj,aj,Y,yL m,λj y _ C=>?_,z,ag,ag⟩;rw[aL]at C;split at C
   ·cases C;rfl
   ·cases C
  ·rintro i d u r S ⟨hi,E,f,U,g,x6,l,w,v,P,b,rfl,rfl⟩;have p:=(gE1.mp u).1;rw [eK] at p;have L:d = .int ((i+1:Nat):Int):=by
    rw[m7,gP1,b9 p]at u;simp at u;rw[<- u]
    push_cast
    congr 1
    lia
   subst L;rw[bG]at *
   walk_at"w";refine E9 w v b (by lia) (by lia) (by lia) P λH o' N x6' K M J q G=>?_;exact⟨ag,by lia,H,o',N,_,_,_,M,J,G,q.more (by lia),ag,ag⟩
  ·rintro r S ⟨hi,E,f,U,g,x6,l,w,v,P,b,rfl,rfl⟩;rw[eK,bG]at *
   have e:((m:Int)-1).toNat=m-1:=by lia
   rw[e]at v b ⊢;exact⟨ag,E,m-1,f,U,g,x6,l,w,v,b.more (by lia),ag,ag⟩
 rintro r S ⟨E,k,f,U,g,x6,l,w,v,b,rfl,rfl⟩;refine dJ (λr S=>∃E k f U g x6 l x8 x9,WN t m T E U/\WE m E k (m-1)/\Hnd f (n+50)/\r=[wq (.ref 0),wq (.int a),wq (.int m),wq (.int (k:Nat)),wq (.ref (t+m+1)),g,x6,l,x8,x9]/\S=f::U) ?_ ?_
 ·walk_at"w";refine ga b (by lia) (by lia) (by lia) λc o3 F hc=>?_;walk_at"w";refine⟨fR (by lia),?_⟩;rw[Int.toNat_natCast];refine eA (λi r S=>i<=c /\ ∃E k f U g x6 l x8 x9,WN t m T E U/\WE m E k (m-1)/\Hnd f (n+21+2*i)/\r=[wq (.ref 0),wq (.int a),wq (.int m),wq (.int (k:Nat)),wq (.ref (t+m+1)),g,x6,l,x8,x9]/\S=f::U) _ 0 _ _ ⟨by lia,E,k,o3,U,g,x6,l,aj,aj,w,v,F,ag,ag⟩ (λ_ _ _ _=>rfl) ?_ ?_
  ·rintro i d u r S ⟨hi,E,k,f,U,g,x6,l,x8,x9,w,v,b,rfl,rfl⟩;have p:=(gE1.mp u).1;rw[eK]at p;rw[bG]at *
   walk_at"w";refine Gq w v b (by lia) B (by lia) λH X o' N K x9' M J q=>?_;exact⟨ag,by lia,H,X,o',N,_,_,_,_,_,M,J,q.more (by lia),ag,ag⟩
  ·rintro r S ⟨hi,E,k,f,U,g,x6,l,x8,x9,w,v,b,rfl,rfl⟩;rw[eK,bG]at b;exact⟨ag,E,k,f,U,_,_,_,_,_,w,v,b.more (by lia),ag,ag⟩
 rintro r S ⟨E,k,f,U,g,x6,l,x8,x9,w,v,b,rfl,rfl⟩;walk_at"w";refine A9 w v b (by lia) (by lia) λR o' sh q=>?_;exact⟨webD (kq R),o',U.drop t,by rw[<- w.split],d5 _,q.und,h m _ o' B Z (BY v sh) (q.more (by lia))⟩
def ET{m:FA}{r:Ev}{S S1:Sto}{k:Nat}{Q:D×Sto->Prop}(h:m r S=wq ([.int k],S1))(hk:k<=1000)(q:Q (.ref S1.length,S1++[.lst (gz 0 k)])):W (xO m r S) Q:=by
 refine W.of ?_ q;unfold xO;rw[h,oS1];dsimp only;have:mq 0 (k:Int)=ai:=by
  unfold mq;simp only[bA1,decide_eq_true_eq];lia
 rw[if_pos this,Int.toNat_natCast]
def CN{o:Ob}{n b:Nat}{T:Sto}{Q:D×Sto->Prop}(ho:Hnd o n)(hn:n<=2^42)(hc:b<=8)(q:∀s o',s.Perm (List.range b)->Hnd o' (n+b)->Q (.ref (T.length+2),o'::(T++[.lst [],.lst (nmD s)]))):W (dm 2 fF [.ref 0,.int b] (o::T)) Q:=by
 refine oE ag ag ?_;unfold fF;refine ji ?_;unfold lD;have m:∀(o:Ob) (X:Ob) (Y:Sto),(o::(T++X::Y))[T.length+1]?=wq X:=λo X Y=>by rw[gC1,dy];rfl
 refine dJ (λr S=>S=o::(T++[.lst (nmD (List.range b))])/\r=[wq (.ref 0),wq (.int b),wq (.ref (T.length+1))]) ?_ ?_
 ·unfold dD;rw[dj];refine ET (k:=b) (S1:=o::T) ag (by lia) ?_;rw[lc];walk_at"w";exact⟨ag,trivial⟩
 rintro r S ⟨rfl,rfl⟩;walk_at"w";refine⟨fR (by lia),?_⟩;rw[Int.toNat_natCast];refine io (λi h r S=>∃o' rs c x,i<=b/\(rs++c).Perm (List.range b)/\rs.length=i/\h=nmD rs/\Hnd o' (n+i)/\S=o'::(T++[.lst (nmD c)])/\r=[x,wq (.ref (T.length+1)),wq (.ref 0)]) (gz 0 b) 0 [] _ _ ⟨o,[],List.range b,_,by lia,.refl _,ag,ag,ho,ag,ag⟩ (λ_ _ _ _ _=>rfl) ?_ ?_
 ·rintro i d u h r S ⟨o',rs,c,x,hi,g,t,rfl,f,rfl,rfl⟩;have j:=(gE1.mp u).1;rw[eK]at j;have a:=g.length_eq;rw[lA1,cg]at a;rw[bG]at *
  walk_at"w";refine gM ?_;walk_at"w";refine⟨T.length+1,nmD c,ag,m _ _ _,?_⟩;refine dV (m _ _ _) ?_;walk_at"w";rw[d3];refine ga f (by lia) (by lia) (by lia) λd v l u=>?_;obtain⟨y,p⟩:∃y,c[d]?=some y:=⟨_,gG1 (by lia)⟩;walk_at"w";refine BA (m _ _ _) (Ad p) (by lia) ?_;refine⟨v,rs++[y],c.eraseIdx d,_,by lia,sQ g p,by rw[lA1,t];rfl,lf,l.more (by lia),?_,ag⟩;rw[ck,cP _ _ (nR1 _),cq,tw];rfl
 ·rintro xs r S ⟨o',rs,c,x,hi,g,t,e,f,rfl,rfl⟩;rw[eK,bG]at *
  rw[cH]at e;subst e;have a:=g.length_eq;rw[lA1,cg]at a;have:c=[]:=List.eq_nil_of_length_eq_zero (by lia);subst this;rw[aF]at g;walk_at"w";refine⟨dz (by rw[d3];lia),?_⟩;unfold gc;rw[if_neg (by simp[D.und])];exact q rs o' g f
def uu(r k d:Nat):TK:=.tup [.int r,.int k,.int d]
def uL(r k d:Nat):D:=.tup [.int r,.int k,.int d]
def GZ{r k d:Nat}:iI (uL r k d)=wq (uu r k d):=rfl
def B2{r k d a k' d':Nat}(h:uu r k d=uu a k' d'):r=a/\k=k'/\d=d':=by
 simp[uu]at h;lia
def mO(w:dq)(cp:Nat)(F:List (TK×D))(r k d:Nat):Prop:=∃e k',At w r d e/\k'<cp/\dE F (uu r k d)=wq (uL e.1 k' e.2)
def mO.put{w:dq}{c r k d a e b k1:Nat}{e0:Nat×Nat}{F:List (TK×D)}(ha:At w a b e0)(hk:k1<c)(h:mO w c F r k d\/(r=a/\k=e/\d=b)):mO w c (gP F (uu a e b) (uL e0.1 k1 e0.2)) r k d:=by
 unfold mO;rw[jx];by_cases z:uu r k d=uu a e b
 ·obtain⟨rfl,rfl,rfl⟩:=B2 z;exact⟨e0,k1,ha,hk,if_pos ag⟩
 ·rw[if_neg z];rcases h with h|⟨rfl,rfl,rfl⟩
  ·exact h
  ·exact(z ag).elim
def JW{m:FA}{r:Ev}{S:Sto}{Q:yt×Sto->Prop}(h:W (m r S) λp=>∃n xs,p.1=[.ref n]/\p.2[n]?=wq (.lst xs)/\Q (⟨sx 0 xs,[(n,xs)]⟩,p.2)):W (og m r S) Q:=by
 obtain⟨⟨a,b⟩,e,n,xs,h1,h2,q⟩:=h;dsimp only at h1 h2 q;subst h1;refine W.of (x:=(⟨sx 0 xs,[(n,xs)]⟩,b)) ?_ q;simp only[og,e,oS1,gb h2,rV h2]
def B7{T G:Sto}{o:Ob}{n cp r d:Nat}{w:dq}{e:Nat×Nat}{F:List (TK×D)}{z x5 x9 x10 x11 x12 x13 g:Option D}{Q:Fl×Ev×Sto->Prop}(ho:Hnd o n)(hn:n<=2^42)(hc:cp<=4)(ha:At w r d e)(hb:At w e.1 e.2 (r,d))(hF:F.length<900)(q:∀f U o' E t,Hnd o' (n+4)->(∀a k b,mO w cp F a k b->mO w cp f a k b)->(∀k,k<cp->mO w cp f r k d/\mO w cp f e.1 k e.2)->f.length<=F.length+8 ->
   Q (.nx,[wq (.ref 0),z,wq (.int cp),wq (.ref (T.length+1)),wq (.int r),x5,wq (.int d),wq (.int e.1),wq (.int e.2),E,t,x11,x12,x13,g],o'::(T++dO f::U))):
  W (eT (og (dh (mN (dm 2 fF) (dh (mV 0) (dh (mV 2) di))) di)) (gT 2 (fv (gN 9) (fv (gN 10) jh))) hH [wq (.ref 0),z,wq (.int cp),wq (.ref (T.length+1)),wq (.int r),x5,wq (.int d),wq (.int e.1),wq (.int e.2),x9,x10,x11,x12,x13,g] (o::(T++dO F::G))) Q:=by
 unfold eT;rw[dj];refine JW ?_;simp(implicitDefEqProofs:=ah) only[dh,mN,mV,cF,gC1,di,oS1,dj,dr];refine CN ho hn (by lia) λl o' B C=>?_;have s:=B.length_eq;rw[cg]at s;have I:∀c x:Nat,l[c]?=wq x->x<cp:=λc x h=>ar.mp (B.mem_iff.mp (gM1 h));walk_at"w";have eS:o'::(T++dO F::(G++[Ob.lst [],Ob.lst (nmD l)]))=o'::((T++dO F::G)++[Ob.lst [],Ob.lst (nmD l)]):=by simp
 have A:∀(f:List (TK×D)),(o'::(T++dO f::(G++[Ob.lst [],Ob.lst (nmD l)])))[T.length+(G.length+1)+2]?=wq (.lst (nmD l)):=λf=>by
  rw[show T.length+(G.length+1)+2=T.length+(G.length+1+1)+1 by lia,gC1,ej,gC1,ej];rfl
 refine⟨T.length+(G.length+1)+2,nmD l,by first|rfl|(congr 3;lia),by first|exact A F|(rw[<- A F];congr 1;lia),?_⟩;have O:∀(Z:Ob) (Y:Sto),(o'::(T++Z::Y))[T.length+1]?=wq Z:=λZ Y=>by rw[gC1,dy];rfl
 have N:∀(Z V:Ob) (Y:Sto),(o'::(T++Z::Y)).set (T.length+1) V=o'::(T++V::Y):=λZ V Y=>by
  rw[ck,cP _ _ (nR1 _),cq];rfl
 refine eA (λi p S=>∃f u j,i<=cp/\(∀a k b,mO w cp F a k b->mO w cp f a k b)/\(∀c,c<i->mO w cp f r c d)/\(∀c x:Nat,c<i->l[c]?=wq x->mO w cp f e.1 x e.2)/\f.length<=F.length+2*i/\S=o'::(T++dO f::(G++[Ob.lst [],Ob.lst (nmD l)]))/\p=[wq (.ref 0),z,wq (.int cp),wq (.ref (T.length+1)),wq (.int r),x5,wq (.int d),wq (.int e.1),wq (.int e.2),u,j,x11,x12,x13,g]) _ 0 _ _ ⟨F,_,_,by lia,λ_ _ _ h=>h,λc h=>by lia,λc x h=>by lia,by lia,ag,ag⟩ ?_ ?_ ?_
 ·rintro i p S ⟨f,u,j,_,_,_,_,_,rfl,_⟩;exact eZ (A f)
 ·rintro i dd M p S ⟨f,u,j,hi,mono,L,H,P,rfl,rfl⟩;rw[fP,nmD,gP1,Option.map_map]at M;obtain⟨x,J,rfl⟩:=oM1.mp M;have R:=(gE1.mp J).1;have m:=I i x J;rw[bG]at *
  unfold Function.comp;walk_at"w";unfold hH;refine dJ (λp S=>S=o'::(T++dO (gP f (uu r i d) (uL e.1 x e.2))::(G++[Ob.lst [],Ob.lst (nmD l)]))/\p=[wq (.ref 0),z,wq (.int cp),wq (.ref (T.length+1)),wq (.int r),x5,wq (.int d),wq (.int e.1),wq (.int e.2),wq (.int (i:Nat)),wq (.int (x:Nat)),x11,x12,x13,g]) ?_ ?_
  ·walk_at"w";refine vw (key:=uL r i d) (v:=uL e.1 x e.2) (F:=f) (O _ _) GZ (by lia) ?_;walk_at"w";exact⟨N _ _ _,trivial⟩
  rintro p S ⟨rfl,rfl⟩;have pl:=qv (k:=uu r i d) (v:=uL e.1 x e.2) (a:=f);have X:=qv (k:=uu e.1 x e.2) (v:=uL r i d) (a:=gP f (uu r i d) (uL e.1 x e.2));walk_at"w";refine vw (key:=uL e.1 x e.2) (v:=uL r i d) (F:=gP f (uu r i d) (uL e.1 x e.2)) (O _ _) GZ (by lia) ?_;refine⟨_,_,_,by lia,λa k b h=>?_,λc h=>?_,λc y h K=>?_,by lia,N _ _ _,ag⟩
  ·exact mO.put (e0:=(r,d)) (k1:=i) hb (by lia) (.inl (mO.put ha m (.inl (mono a k b h))))
  ·refine mO.put (e0:=(r,d)) (k1:=i) hb (by lia) (.inl (mO.put ha m ?_));rcases cS.mp h with h|rfl
   ·exact .inl (L c h)
   ·exact .inr ⟨ag,ag,ag⟩
  ·refine mO.put (e0:=(r,d)) (k1:=i) hb (by lia) ?_;rcases cS.mp h with h|rfl
   ·exact .inl (mO.put ha m (.inl (H c y h K)))
   ·rw[J]at K;cases K;exact .inr ⟨ag,ag,ag⟩
 ·rintro p S ⟨f,u,j,hi,mono,L,H,P,rfl,rfl⟩;rw[fO,d3,bG]at *
  refine q f _ o' _ _ (C.more (by lia)) mono (λk hk=>⟨L k (by lia),?_⟩) (by lia);obtain⟨c,hc⟩:=bh (B.mem_iff.mpr (ar.mpr hk));exact H c k (gE1.mp hc).1 hc
def AN(a b:Nat×Nat):Bool:=decide (a.1<b.1)||(decide (a.1=b.1)&&decide (a.2<b.2))
def Ha{a b:Nat×Nat}{S:Sto}:gLt (pD a) (pD b) S=wq (.bl (AN a b),S):=by
 have d:∀(n x y:Nat),kA S (n+1) (.int x) (.int y)=wq (decide (x=y)):=λn x y=>by
  show wq ((x:Int) == (y:Int))=_
  congr 1
  rw[bI,beq_iff_eq,decide_eq_true_eq];lia
 have c:∀(n x y:Nat),Ew S (n+1) (.int x) (.int y)=wq (decide (x<y)):=λn x y=>by
  show wq (decide ((x:Int)<(y:Int)))=_
  congr 1
  rw[bI,decide_eq_true_eq,decide_eq_true_eq];lia
 unfold gLt dU;rw[show(60:Nat)=58+1+1 from rfl,Ew];simp only[pD,KY,dG,if_true,Jk,d,c,oS1];unfold AN;by_cases h1:a.1=b.1
 ·by_cases h2:a.2=b.2
  ·simp[h1,h2]
  ·simp[h1,h2]
 ·simp[h1]
def Dk{a b:Nat×Nat}(h:AN a b=ah)(c:b≠a):AN b a=ai:=by
 unfold AN at *
 obtain⟨a1,a2⟩:=a;obtain⟨b1,b2⟩:=b;simp at *
 lia
def few:∀{N:Nat} {l:List Nat},l.Nodup->(∀x∈l,x<N)->l.length<=N
 |0,l,_,h=>by
  cases l with
  |nil=>simp
  |cons a l=>have:=h a mS1;lia
 |N+1,l,n,h=>by
  by_cases d:N∈l
  ·have h1:=few (N:=N) (l:=l.erase N) (n.erase N) fun x c=>by
    have b:=(List.Nodup.mem_erase_iff n).mp c;have:=h x b.2;have:=b.1;lia
   have:=List.length_erase_of_mem d;lia
  ·have:=few (N:=N) (l:=l) n fun x c=>by
    have h1:=h x c;have:x≠N:=λz=>d (z ▸ c);lia
   lia
def K6{A B:Nat}{l:List (Nat×Nat)}(n:l.Nodup)(h:∀x∈l,x.1<A/\x.2<B):l.length<=A*B:=by
 have h1:=few (N:=A*B) (l:=l.map λx=>x.1*B+x.2) ?_ ?_
 ·simpa using h1
 ·rw[List.nodup_iff_pairwise_ne,List.pairwise_map];refine List.Pairwise.imp_of_mem ?_ n;intro x y a g b e;apply b;have h1:=h x a;have h2:=h y g;have ex:x.1=(x.1*B+x.2)/B:=by rw[Nat.mul_comm,Nat.mul_add_div (by lia),Nat.div_eq_of_lt h1.2,Nat.add_zero]
  have f:y.1=(y.1*B+y.2)/B:=by rw[Nat.mul_comm,Nat.mul_add_div (by lia),Nat.div_eq_of_lt h2.2,Nat.add_zero]
  have c:x.1=y.1:=by rw[ex,f,e]
  rw[c]at e;exact Prod.ext c (by lia)
 ·intro z d;obtain⟨x,a,rfl⟩:=b5.mp d;have h1:=h x a;have:(x.1+1)*B<=A*B:=Nat.mul_le_mul_right B h1.1;rw[Nat.add_mul]at this;lia
def x0{α:Type}[BEq α][LawfulBEq α]{l:List α}{x:α}(h:x∈l):∃j,l.findIdx? (· == x)=wq j/\l[j]?=wq x:=by
 cases e:l.findIdx? (· == x)with
 |none=>
  rw[List.findIdx?_eq_none_iff]at e;have:=e x h;simp at this
 |some j=>
  obtain⟨a,h1,_⟩:=bU.mp e;exact⟨j,ag,by rw[gG1 a];simp at h1;rw[h1]⟩
def AS{S:Sto}{n:Nat}{x:Nat×Nat}:∀a:List (Nat×Nat),BM (kA S (n+2)) (pD x) (a.map pD)=wq (a.contains x)
 |[]=>rfl
 |y::a=>by
  rw[mP1,BM,ve,AS a,bX,show(y == x)=(x == y)from Bool.beq_comm];rfl
def D8{S:Sto}{n:Nat}{row:List (Nat×Nat)}{x:Nat×Nat}{Q:D×Sto->Prop}(h:S[n]?=wq (.lst (row.map pD)))(q:Q (.bl (!row.contains x),S)):W (fu (pD x) (.ref n) S) Q:=by
 refine W.of ?_ q;simp only[fu,h,iW,l5,gb h,oS1,dU,show(60:Nat)=58+2 from rfl,AS,oP1]
def EQ{m:FE}{lo hi:FO}{r:Ev}{S:Sto}{xs:List D}{a b:Option Int}{Q:D×Sto->Prop}(hm:m r S=wq (.tup xs,S))(c:lo r S=wq (a,S))(d:hi r S=wq (b,S))(q:Q (.tup (Mi.iK xs a b),S)):W (kw m lo hi r S) Q:=by
 refine W.of ?_ q;unfold kw;rw[hm,oS1];dsimp only;rw[c,oS1];dsimp only;rw[d,oS1];simp only[zo,jQ,oP1,bF1,if_false]
def Lu(w:dq)(cp i j:Nat)(F:List (TK×D)):Prop:=∀r d e,At w r d e->AN (r,d) e=ai->(r<i\/(r=i/\d<j)) -> ∀k,k<cp->mO w cp F r k d/\mO w cp F e.1 k e.2
inductive AI (w:dq)(cp m n:Nat)(T:Sto):Nat->Ev->Sto->Prop
 |mk (i:Nat) (F:List (TK×D)) (G:Sto) (o':Ob) (x4 x5 x6 x7 x8 x9 x10:Option D) (hi:i<=m) (don:Lu w cp i 0 F) (hF:F.length<=32*i) (ho:Hnd o' (n+16*i)):AI w cp m n T i [some (.ref 0),some (webD w),some (.int cp),some (.ref (T.length+1)),x4,x5,x6,x7,x8,x9,x10,none,none,none,none] (o'::(T++dO F::G))
inductive AJ (w:dq)(cp n:Nat)(T:Sto)(i:Nat)(row:List (Nat×Nat)):Nat->Ev->Sto->Prop
 |mk (j:Nat) (F:List (TK×D)) (G:Sto) (o':Ob) (x6 x7 x8 x9 x10:Option D) (hj:j<=row.length) (don:Lu w cp i j F) (hF:F.length<=32*i+8*j) (ho:Hnd o' (n+16*i+4*j)):AJ w cp n T i row j [some (.ref 0),some (webD w),some (.int cp),some (.ref (T.length+1)),some (.int (i:Nat)),some (.tup (row.map pD)),x6,x7,x8,x9,x10,none,none,none,none] (o'::(T++dO F::G))
def vr{T:Sto}{o:Ob}{n m p:Nat}{w:dq}{Q:Fl×Ev×Sto->Prop}(hw:si m w)(hm:m<=8)(hc:p<=4)(ho:Hnd o n)(hn:n<=2^41)(q:∀F G o' M K x6 C x8 x9 x10,Hnd o' (n+128)->(∀r d e k,At w r d e->k<p->mO w p F r k d) ->
   Q (.nx,[wq (.ref 0),wq (webD w),wq (.int p),wq (.ref (T.length+1)),M,K,x6,C,x8,x9,x10,aj,aj,aj,aj],o'::(T++dO F::G))):
  W (eT (og (dh (mV 1) di)) (gT 2 (fv (gN 4) (fv (gN 5) jh))) hE [wq (.ref 0),wq (webD w),wq (.int p),wq (.ref (T.length+1)),aj,aj,aj,aj,aj,aj,aj,aj,aj,aj,aj] (o::(T++dO []::[]))) Q:=by
 unfold eT;rw[dj];refine oN (xs:=w.map λl=>.tup (l.map pD)) ag ?_;refine eA (AI w p m n T) _ 0 _ _ (.mk 0 [] [] o _ _ _ _ _ _ _ (aZ _) (λr d e h1 h2 H=>by lia) (by simp) ho) (λ_ _ _ _=>rfl) ?_ ?_
 ·rintro i P u r S ⟨F,G,o',M,K,x6,C,x8,x9,x10,hi,c,J,f⟩;rw[fP,gP1,Option.map_map]at u;obtain⟨l,g,rfl⟩:=oM1.mp u;have v:=(gE1.mp g).1;rw[hw.len]at v;have V:=hw.le i l g;rw[bG]at *
  unfold Function.comp;walk_at"w";unfold hE eT;rw[dj];refine oN (xs:=l.map pD) ag ?_;refine eA (AJ w p n T i l) _ 0 _ _ (.mk 0 F G o' _ _ _ _ _ (aZ _) c (by lia) (f.more (by lia))) (λ_ _ _ _=>rfl) ?_ ?_
  ·rintro j P u r S ⟨F,G,o',x6,C,x8,x9,x10,X,c,J,f⟩;rw[fP,gP1,Option.map_map]at u;obtain⟨e,L,rfl⟩:=oM1.mp u;have B:=(gE1.mp L).1;have N:At w i j e:=⟨l,g,L⟩;have A:=hw.back i j e N;rw[bG]at *
   unfold Function.comp pD;walk_at"w";unfold jv;have el:∀S,gLt (D.tup [D.int (i:Int),D.int (j:Int)]) (D.tup [D.int (e.1:Int),D.int (e.2:Int)]) S=wq (.bl (AN (i,j) e),S):=λS=>Ha (a:=(i,j)) (b:=e);unfold eD;rw[dj];refine W.of (x:=(AN (i,j) e,o'::(T++dO F::G))) ?_ ?_
   ·simp only[mB,m2,dI,dh,di,mV,gC1,cF,cJ,oP1,oS1,lC1,aV,b2,el,cI,if_pos (show 2<=c9 by decide)]
   dsimp only;have up:∀F',(∀a k b,mO w p F a k b->mO w p F' a k b)->(AN (i,j) e=ai -> ∀k,k<p->mO w p F' i k j/\mO w p F' e.1 k e.2)->Lu w p i (j+1) F':=λF' mono new r d Y h1 h2 H k E=>by
    by_cases R:r=i/\d=j
    ·obtain⟨rfl,rfl⟩:=R;obtain⟨t,s,I⟩:=h1;rw[g]at s;cases s;rw[L]at I;cases I;exact new h2 k E
    ·have:=c r d Y h1 h2 (by lia) k E;exact⟨mono _ _ _ this.1,mono _ _ _ this.2⟩
   cases hl:AN (i,j) e with
   |false=>
    rw[if_neg (by decide)];exact dr.mpr ⟨ag,.mk _ F G o' _ _ _ _ _ B (up F (λ_ _ _ h=>h) (λz=>by rw[hl]at z;cases z)) (by lia) (f.more (by lia))⟩
   |true=>
    rw[if_pos ag];refine B7 (w:=w) f (by lia) hc N A.1 (by lia) λF' Z o2 U O h1 h2 H h4=>?_;exact⟨ag,.mk _ F' Z o2 _ _ _ _ _ B (up F' h2 (λ_=>H)) (by lia) (h1.more (by lia))⟩
  ·rintro r S ⟨F,G,o',x6,C,x8,x9,x10,X,c,J,f⟩;rw[fO,lM1,bG]at *
   refine⟨ag,.mk _ F G o' _ _ _ _ _ _ _ v (λr d e h1 h2 H=>c r d e h1 h2 ?_) (by lia) (f.more (by lia))⟩;rcases(show r<i\/r=i by lia)with h|rfl
   ·exact .inl h
   ·obtain⟨t,s,I⟩:=h1;rw[g]at s;cases s;exact .inr ⟨ag,(gE1.mp I).1⟩
 ·rintro r S ⟨F,G,o',M,K,x6,C,x8,x9,x10,hi,c,J,f⟩;rw[fO,lM1,bG,hw.len]at *
  refine q F G o' _ _ _ _ _ _ _ (f.more (by lia)) λr d e k h E=>?_;have y:∀r d e,At w r d e->r<m:=λr d e h=>by
   obtain⟨l,s,_⟩:=h;rw[<- hw.len];exact(gE1.mp s).1
  have A:=hw.back r d e h;cases hl:AN (r,d) e with
  |true=>exact(c r d e h hl (.inl (y r d e h)) k E).1
  |false=>exact(c e.1 e.2 (r,d) A.1 (Dk hl A.2) (.inl (y _ _ _ A.1)) k E).2
def ia(F:List (TK×D))(x:Nat×Nat)(d:Nat):(Nat×Nat)×Nat:=match dE F (uu x.1 x.2 d)with
 |some (.tup [.int a,.int b,.int c])=>((a.toNat,b.toNat),c.toNat)
 |_=>((0,0),0)
def oO(w:dq)(r:Nat):Nat:=(w.getD r []).length
def CW(p:(Nat×Nat)×Nat):D:=uL p.1.1 p.1.2 p.2
structure MI (m cp:Nat)(met:List (Nat×Nat)):Prop where
 nd:met.Nodup
 inn:∀x∈met,x.1<m/\x.2<cp
def MI.few{m a:Nat}{met:List (Nat×Nat)}(i:MI m a met)(h:m*a<=8):met.length<=8:=au (K6 i.nd i.inn) h
def All(w:dq)(cp:Nat)(F:List (TK×D)):Prop:=∀r d e k,At w r d e->k<cp->mO w cp F r k d
def Ab{w:dq}{m cp d:Nat}{F:List (TK×D)}{x:Nat×Nat}(hw:si m w)(all:All w cp F)(hx:x.1<m/\x.2<cp)(hd:d<oO w x.1):
  dE F (uu x.1 x.2 d)=wq (CW (ia F x d))/\(ia F x d).1.1<m/\(ia F x d).1.2<cp:=by
 obtain⟨row,a⟩:∃row,w[x.1]?=some row:=⟨_,gG1 (by rw[hw.len];exact hx.1)⟩;have b:d<row.length:=by
  unfold oO at hd;rw[bB,a,bV]at hd;exact hd
 obtain⟨e,f,h1,h2,c⟩:=all x.1 d row[d] x.2 ⟨row,a,gG1 b⟩ hx.2;have g:ia F x d=((e.1,f),e.2):=by
  unfold ia;rw[c];simp[uL]
 rw[g];exact⟨c,hw.to x.1 d e h1,h2⟩
def Cl(w:dq)(F:List (TK×D))(met:List (Nat×Nat))(i j:Nat):Prop:=∀a d x,met[a]?=wq x->d<oO w x.1->(a<i\/(a=i/\d<j))->(ia F x d).1∈met
def Jn(w:dq)(F:List (TK×D))(met:List (Nat×Nat)):Prop:=∀b y,1<=b->met[b]?=wq y -> ∃a d x,a<b/\met[a]?=wq x/\d<oO w x.1/\(ia F x d).1=y
def Jn.snoc{w:dq}{F:List (TK×D)}{met:List (Nat×Nat)}{a d:Nat}{x:Nat×Nat}(j:Jn w F met)(ha:met[a]?=wq x)(hd:d<oO w x.1):Jn w F (met++[(ia F x d).1]):=by
 have c:=(gE1.mp ha).1;intro b y h f;by_cases g:b<met.length
 ·rw[gL1 g]at f;obtain⟨n,k,p,l,o,m,i⟩:=j b y h f;exact⟨n,k,p,l,by rw[gL1 (by lia)];exact o,m,i⟩
 ·have:=(gE1.mp f).1;rw[lA1,aR]at this;have e:b=met.length:=by lia
  subst e;rw[cQ]at f;cases f;exact⟨a,d,x,c,by rw[gL1 c];exact ha,hd,ag⟩
def Jz{S:Sto}{n:Nat}{F:List (TK×D)}{x:Nat×Nat}{d:Nat}(h:S[n]?=wq (dO F))(a:dE F (uu x.1 x.2 d)=wq (CW (ia F x d))):dt (.ref n) (uL x.1 x.2 d) S=wq (CW (ia F x d),S):=by
 obtain⟨p,e,rfl⟩:=BC (Q:=λp=>p=(CW (ia F x d),S)) h GZ a ag;exact e
def JR{f:FN}{a b:FE}{r:Ev}{S:Sto}{Q:D×Sto->Prop}(h:W (a r S) λp=>W (b r p.2) λq=>W (f [p.1,q.1] q.2) Q):W (m2 f a b r S) Q:=by
 unfold m2;rw[dj];exact h.mono λp c=>by rw[dj];exact c
def Lb{p:(Nat×Nat)×Nat}:D.tup (Mi.iK [.int p.1.1,.int p.1.2,.int p.2] aj (wq 2))=pD p.1:=rfl
def I1{V:Sto}{o:Ob}{n m u:Nat}{w:dq}{F:List (TK×D)}{x4 x5 x6 J x8 x9 x10 x13 s:Option D}{Q:Fl×Ev×Sto->Prop}(hw:si m w)(hm0:0<m)(hc0:0<u)(h8:m*u<=8)(all:All w u F)(hV:V[n]? = some (dO F))(q:∀met N C M y12,MI m u met->0<met.length->Cl w F met met.length 0->Jn w F met->Q (.nx,[some (.ref 0),some (webD w),some (.int u),some (.ref (n+1)),N,x5,C,J,x8,M,x10,some (.ref (V.length+1)),y12,x13,s],o::(V++[.lst (met.map pD)]))):
  W (ut hD hC 100000 [wq (.ref 0),wq (webD w),wq (.int u),wq (.ref (n+1)),x4,x5,x6,J,x8,x9,x10,wq (.ref (V.length+1)),wq (.int ((0:Nat):Int)),x13,s] (o::(V++[.lst ([(0,0)].map pD)]))) Q:=by
 have L:∀(X:Ob),(o::(V++[X]))[V.length+1]?=wq X:=λX=>by rw[gC1,dy];rfl
 have gs:∀(Y:Sto),(o::(V++Y))[n+1]?=wq (dO F):=λY=>by rw[gC1,gL1 (gE1.mp hV).1];exact hV
 refine vK (λk r S=>∃met N C M,MI m u met/\k<=met.length/\0<met.length/\Cl w F met k 0/\Jn w F met/\S=o::(V++[.lst (met.map pD)])/\r=[wq (.ref 0),wq (webD w),wq (.int u),wq (.ref (n+1)),N,x5,C,J,x8,M,x10,wq (.ref (V.length+1)),wq (.int (k:Nat)),x13,s]) 8 ?_ 100000 0 _ _ (by lia) ⟨[(0,0)],_,_,_,⟨by simp,λx H=>by simp at H;subst H;exact⟨hm0,hc0⟩⟩,by lia,by simp,λa d x _ _ h=>by lia,λb y h1 h2=>by have:=(gE1.mp h2).1;simp at this;lia,ag,ag⟩;rintro k r S ⟨met,N,C,M,O,hk,hp,cl,jn,rfl,rfl⟩;have hf:=O.few h8;unfold hD;walk_at"w";refine dV (L _) ?_;walk_at"w";rw[lM1];by_cases Z:k<met.length
 ·rw[if_pos (by rw[decide_eq_true_eq];lia)];refine⟨by lia,?_⟩;obtain⟨x,H⟩:∃x,met[k]?=some x:=⟨_,gG1 Z⟩;have K:=O.inn x (gM1 H);obtain⟨row,B⟩:∃row,w[x.1]?=some row:=⟨_,gG1 (by rw[hw.len];exact K.1)⟩;have A:oO w x.1=row.length:=by unfold oO;rw[bB,B];rfl
  have hr4:=hw.le _ row B;unfold hC;refine dJ (λr S=>S=o::(V++[.lst (met.map pD)])/\r=[wq (.ref 0),wq (webD w),wq (.int u),wq (.ref (n+1)),wq (.int (x.1:Nat)),x5,C,J,x8,wq (.int (x.2:Nat)),x10,wq (.ref (V.length+1)),wq (.int (k:Nat)),x13,s]) ?_ ?_
  ·walk_at"w";refine iN (i:=k) (xs:=met.map pD) (x:=pD x) (L _) (by rw[gP1,H];rfl) ?_;rw[pD];walk_at"w"
  rintro r S ⟨rfl,rfl⟩;refine dJ (λr S=>∃c C,c[k]?=wq x/\MI m u c/\Cl w F c k row.length/\Jn w F c/\S=o::(V++[.lst (c.map pD)])/\r=[wq (.ref 0),wq (webD w),wq (.int u),wq (.ref (n+1)),wq (.int (x.1:Nat)),x5,C,J,x8,wq (.int (x.2:Nat)),x10,wq (.ref (V.length+1)),wq (.int (k:Nat)),x13,s]) ?_ ?_
  ·walk_at"w";unfold webD;refine lH (i:=x.1) (x:=.tup (row.map pD)) (by rw[gP1,B];rfl) ?_;walk_at"w";rw[lM1];refine⟨fR (by lia),?_⟩;rw[lc,Int.toNat_natCast];refine eA (λj r S=>∃c C,j<=row.length/\c[k]?=wq x/\MI m u c/\Cl w F c k j/\Jn w F c/\S=o::(V++[.lst (c.map pD)])/\r=[wq (.ref 0),wq (webD w),wq (.int u),wq (.ref (n+1)),wq (.int (x.1:Nat)),x5,C,J,x8,wq (.int (x.2:Nat)),x10,wq (.ref (V.length+1)),wq (.int (k:Nat)),x13,s]) _ 0 _ _ ⟨met,_,by lia,H,O,cl,jn,ag,ag⟩ (λ_ _ _ _=>rfl) ?_ ?_
   ·rintro j dd T r S ⟨c,z6,hj,f,g,v,t,rfl,rfl⟩;have E:=(gE1.mp T).1;rw[lM1,cg]at E;rw[gP1,b9 E]at T;cases T;rw[bG]at *
    have hf':=g.few h8;obtain⟨n1,n2,n3⟩:=Ab hw all K (d:=j) (by rw[A];exact E);have sl:∀(r:Ev) (S:Sto) (P:D×Sto->Prop),S[n+1]?=wq (dO F)->r[3]?=wq (wq (.ref (n+1)))->r[4]?=wq (wq (.int (x.1:Nat)))->r[9]?=wq (wq (.int (x.2:Nat)))->r[6]?=wq (wq (.int (j:Nat)))->P (pD (ia F x j).1,S)->W (kw (m2 (b2 dt) (mV 3) (dI (dh (mV 4) (dh (mV 9) (dh (mV 6) di))))) ik (ij (mC (D.int (2)))) r S) P:=by
     intro r S P hS R h4 h9 h6 p;refine EQ (xs:=[.int (ia F x j).1.1,.int (ia F x j).1.2,.int (ia F x j).2]) (a:=aj) (b:=wq 2) ?_ ag ag p;have:=Jz hS n1;simp only[m2,dI,dh,di,mV,R,h4,h9,h6,cJ,oP1,oS1,lC1,aV,b2,cI,if_pos (show 3<=c9 by decide)];exact this
    walk_at"w";unfold ju eD mB;rw[dj,dj];refine JR ?_;refine sl _ _ _ (gs _) ag ag ag ag ?_;walk_at"w";refine D8 (L _) ?_;walk_at"w";have step:∀l:List (Nat×Nat),(∀a,a<=k->l[a]?=c[a]?)->(∀z∈c,z∈l)->(ia F x j).1∈l->Cl w F l k (j+1):=λl hg hs hm a d y h1 h2 R=>by
     rw[hg a (by lia)]at h1;by_cases hz:a=k/\d=j
     ·obtain⟨rfl,rfl⟩:=hz;rw[f]at h1;cases h1;exact hm
     ·exact hs _ (v a d y h1 h2 (by lia))
    have U:=(gE1.mp f).1;by_cases G:(ia F x j).1∈c
    ·rw[if_neg (by simpa using G)];exact⟨c,_,by lia,f,g,step c (λ_ _=>rfl) (λ_ h=>h) G,t,ag,ag⟩
    ·rw[if_pos (by simpa using G)];refine gM ?_;walk_at"w";refine⟨V.length+1,c.map pD,ag,L _,?_⟩;refine sl _ _ _ (gs _) ag ag ag ag ?_;walk_at"w";refine(je (L _)).mpr ⟨dz (by rw[lM1];lia),?_⟩;refine⟨c++[(ia F x j).1],_,by lia,by rw[gL1 U];exact f,⟨?_,?_⟩,step _ (λa ha=>gL1 (by lia)) (λz h=>az _ h) (by simp),t.snoc f (by rw[A];exact E),?_,ag⟩
     ·refine bo.mpr ⟨g.nd,by simp,λa ha b hb e=>?_⟩;rw[cb]at hb;exact G (by rw[<- hb,<- e];exact ha)
     ·intro y I;rcases ay.mp I with I|I
      ·exact g.inn y I
      ·rw[cb]at I;subst I;exact⟨n2,n3⟩
     ·rw[ck,cP _ _ (nR1 _),cq,cv];rfl
   ·rintro r S ⟨c,z6,hj,f,g,v,t,rfl,rfl⟩;rw[lM1,cg,bG]at *
    exact⟨ag,c,_,f,g,v,t,ag,ag⟩
  rintro r S ⟨c,z6,f,g,v,t,rfl,rfl⟩;have hlt':=(gE1.mp f).1;walk_at"w";refine⟨c,_,_,_,g,by lia,by lia,λa d y h1 h2 R=>v a d y h1 h2 ?_,t,ag,by push_cast;rfl⟩;rcases(show a<k\/a=k by lia)with h|rfl
  ·exact .inl h
  ·rw[f]at h1;cases h1;exact .inr ⟨ag,by rw[<- A];exact h2⟩
 ·rw[if_neg (by rw[decide_eq_true_eq];lia)];have e:k=met.length:=by lia
  subst e;exact q met _ _ _ _ O hp cl jn
def BN(met:List (Nat×Nat))(y:Nat×Nat):Nat:=(met.findIdx? (· == y)).getD 0
def sK(w:dq)(F:List (TK×D))(met:List (Nat×Nat))(x:Nat×Nat):List (Nat×Nat):=(List.range (oO w x.1)).map λd=>(BN met (ia F x d).1,(ia F x d).2)
def ux(w:dq)(F:List (TK×D))(met:List (Nat×Nat)):dq:=met.map (sK w F met)
def u7{met:List (Nat×Nat)}{y:Nat×Nat}(h:y∈met):met.findIdx? (· == y)=wq (BN met y)/\met[BN met y]?=wq y:=by
 obtain⟨j,h1,h2⟩:=x0 h;unfold BN;rw[h1];exact⟨ag,h2⟩
def Bt{w:dq}{F:List (TK×D)}{met:List (Nat×Nat)}{r d:Nat}{e:Nat×Nat}:At (ux w F met) r d e ↔ ∃x,met[r]?=wq x/\d<oO w x.1/\e=(BN met (ia F x d).1,(ia F x d).2):=by
 unfold At ux;rw[gP1];constructor
 ·rintro⟨f,h1,h2⟩;obtain⟨x,c,rfl⟩:=oM1.mp h1;unfold sK at h2;rw[gP1]at h2;obtain⟨g,a,rfl⟩:=oM1.mp h2;have b:=(gE1.mp a).1;rw[cg]at b;rw[b9 b]at a;cases a;exact⟨x,c,b,ag⟩
 ·rintro⟨x,h1,h2,rfl⟩;refine⟨sK w F met x,by rw[h1];rfl,?_⟩;unfold sK;rw[gP1,b9 h2];rfl
def Hi{m:Nat}{w:dq}(hw:si m w)(r:Nat):oO w r<=4:=by
 unfold oO;rw[bB];cases h:w[r]? with
 |none=>simp
 |some a=>exact hw.le r a h
def yK{m:Nat}{w:dq}{F:List (TK×D)}{met:List (Nat×Nat)}(hw:si m w)(l:met.Nodup)(k:Cl w F met met.length 0)(t:Jn w F met):WebJ met.length (ux w F met):=by
 refine⟨by unfold ux;rw[lM1],λi q h=>?_,λr d e h=>?_,λj h1 h2=>?_⟩
 ·unfold ux at h;rw[gP1]at h;obtain⟨x,_,rfl⟩:=oM1.mp h;unfold sK;rw[lM1,cg];exact Hi hw _
 ·obtain⟨x,h1,h2,rfl⟩:=Bt.mp h;have:=(u7 (k r d x h1 h2 (.inl (gE1.mp h1).1))).2;exact(gE1.mp this).1
 ·obtain⟨y,b⟩:∃y,met[j]?=some y:=⟨_,gG1 h2⟩;obtain⟨a,d,x,g,p,o,c⟩:=t j y h1 b;refine⟨a,d,_,g,Bt.mpr ⟨x,p,o,ag⟩,?_⟩;dsimp only;rw[c];have f:=(u7 (gM1 b)).2;obtain⟨v,n⟩:=gE1.mp f;obtain⟨u,s⟩:=gE1.mp b;exact(List.getElem_inj l).mp (by rw[n,s])
def wp{o a b X:Ob}{V G:Sto}:(o::(V++a::b::(G++[X])))[V.length+(G.length+2)+1]?=wq X:=by
 rw[gC1,ej,gC1,gC1,dy];rfl
inductive CI (w:dq)(cp n:Nat)(T:Sto):Ev->Sto->Prop
 |mk (F:List (TK×D)) (G:Sto) (o':Ob) (x4 x5 x6 x7 x8 x9 x10:Option D) (ho:Hnd o' (n+128)) (all:All w cp F):CI w cp n T [some (.ref 0),some (webD w),some (.int cp),some (.ref (T.length+1)),x4,x5,x6,x7,x8,x9,x10,none,none,none,none] (o'::(T++dO F::G))
inductive CJ (w:dq)(m cp:Nat)(T V:Sto)(F:List (TK×D))(o':Ob)(x5 x7 x8 x10:Option D):Ev->Sto->Prop
 |mk (met:List (Nat×Nat)) (y4 y6 y9 y12:Option D) (mi:MI m cp met) (hp:0<met.length) (cl:Cl w F met met.length 0) (jn:Jn w F met):CJ w m cp T V F o' x5 x7 x8 x10 [some (.ref 0),some (webD w),some (.int cp),some (.ref (T.length+1)),y4,x5,y6,x7,x8,y9,x10,some (.ref (V.length+1)),y12,none,none] (o'::(V++[.lst (met.map pD)]))
def DU{o:Ob}{n m c:Nat}{T:Sto}{w:dq}{Q:D×Sto->Prop}(hw:si m w)(U:0<m)(J:0<c)(hc:c<=4)(P:m*c<=8)(ho:Hnd o n)(hn:n<=2^40)(hT:T.all (Ob.und (T.length+1))=ai)(q:∀L cw rs o',0<L->L<=8->WebJ L cw->rs.length=L->(∀x∈rs,x<8)->Hnd o' (n+128)->Q (.tup [webD cw,.tup (nmD rs)],o'::T)):W (dm 3 gg [.ref 0,webD w,.int c] (o::T)) Q:=by
 have M:m<=8:=au (Nat.le_mul_of_pos_right m J) P;refine ug ag ag hT ?_;unfold gg;refine ji ?_;unfold lE;refine dJ (λr S=>S=o::(T++dO []::[])/\r=[wq (.ref 0),wq (webD w),wq (.int c),wq (.ref (T.length+1)),aj,aj,aj,aj,aj,aj,aj,aj,aj,aj,aj]) ?_ ?_
 ·have d0:dO [] = .dct []:=if_pos ag;rw[d0]
  ((try walk_at"w");repeat(simp only[im];try walk_at"w"))
 rintro r S ⟨rfl,rfl⟩;refine dJ (CI w c n T) ?_ ?_
 ·exact vr hw M hc ho (by lia) λF G o' x4 s x6 u x8 x9 x10 h1 h2=>⟨ag,.mk F G o' _ _ _ _ _ _ _ h1 h2⟩
 rintro r S ⟨F,G,o',x4,s,x6,u,x8,x9,x10,E,all⟩;generalize hV:T++dO F::G=V;have l:V[T.length]?=wq (dO F):=by rw[<- hV,dy];rfl
 refine dJ (λr S=>S=o'::(V++[.lst ([(0,0)].map pD)])/\r=[wq (.ref 0),wq (webD w),wq (.int c),wq (.ref (T.length+1)),x4,s,x6,u,x8,x9,x10,wq (.ref (V.length+1)),wq (.int ((0:Nat):Int)),aj,aj]) ?_ ?_
 ·walk_at"w";exact⟨ag,ag⟩
 rintro r S ⟨rfl,rfl⟩;refine dJ (CJ w m c T V F o' s u x8 x10) ?_ ?_
 ·exact I1 hw U J P all l λmet z C v h h1 h2 h3 h4=>⟨ag,.mk met _ _ _ _ h1 h2 h3 h4⟩
 rintro r S ⟨met,z,C,v,h,K,hp,cl,jn⟩;have hf:=K.few P;refine dJ (λr S=>S=o'::(V ++ .lst (met.map pD) :: .lst []::[])/\r=[wq (.ref 0),wq (webD w),wq (.int c),wq (.ref (T.length+1)),z,s,C,u,x8,v,x10,wq (.ref (V.length+1)),h,wq (.ref (V.length+2)),aj]) ?_ ?_
 ·walk_at"w"
 rintro r S ⟨rfl,rfl⟩;have A:∀(X:Ob) (Y:Sto),(o'::(V++X::Y))[V.length+1]?=wq X:=λX Y=>by rw[gC1,dy];rfl
 have O:∀(X Z:Ob) (Y:Sto),(o'::(V++X::Z::Y))[V.length+2]?=wq Z:=λX Z Y=>by rw[gC1,ej];rfl
 have gs:∀(Y:Sto),(o'::(V++Y))[T.length+1]?=wq (dO F):=λY=>by rw[gC1,gL1 (gE1.mp l).1];exact l
 let rD:List (Nat×Nat)->D:=λrow=>.tup (row.map pD)
 refine dJ (λr S=>∃G2 z v p,S=o'::(V ++ .lst (met.map pD) :: .lst ((ux w F met).map rD)::G2)/\r=[wq (.ref 0),wq (webD w),wq (.int c),wq (.ref (T.length+1)),z,s,C,u,x8,v,x10,wq (.ref (V.length+1)),h,wq (.ref (V.length+2)),p]) ?_ ?_
 ·walk_at"w";refine dV (A _ _) ?_;refine eA (λi r S=>∃G2 z v p,i<=met.length/\S=o'::(V ++ .lst (met.map pD) :: .lst (((ux w F met).take i).map rD)::G2)/\r=[wq (.ref 0),wq (webD w),wq (.int c),wq (.ref (T.length+1)),z,s,C,u,x8,v,x10,wq (.ref (V.length+1)),h,wq (.ref (V.length+2)),p]) _ 0 _ _ ⟨[],_,_,_,by lia,ag,ag⟩ ?_ ?_ ?_
  ·rintro i r S ⟨G2,_,_,_,_,rfl,_⟩;exact eZ (A _ _)
  ·rintro i dd k r S ⟨G2,z4,z9,H,hi,rfl,rfl⟩;dsimp only at k;rw[gP1]at k;obtain⟨x,t,rfl⟩:=oM1.mp k;have N:=(gE1.mp t).1;have I:=K.inn x (gM1 t);obtain⟨row,g⟩:∃row,w[x.1]?=some row:=⟨_,gG1 (by rw[hw.len];exact I.1)⟩;have B:oO w x.1=row.length:=by unfold oO;rw[bB,g];rfl
   have hr4:=hw.le _ row g;rw[bG]at *
   rw[pD];walk_at"w";unfold jt;refine dJ (λr S=>S=o'::(V ++ .lst (met.map pD) :: .lst (((ux w F met).take i).map rD)::(G2++[.lst ((List.range (oO w x.1)).map λd=>CW (ia F x d))]))/\r=[wq (.ref 0),wq (webD w),wq (.int c),wq (.ref (T.length+1)),wq (.int (x.1:Nat)),s,C,u,x8,wq (.int (x.2:Nat)),x10,wq (.ref (V.length+1)),h,wq (.ref (V.length+2)),wq (.ref (V.length+(G2.length+2)+1))]) ?_ ?_
   ·walk_at"w";rw[show webD w = .tup (w.map λrow=>.tup (row.map pD))from rfl];refine lH (i:=x.1) (x:=.tup (row.map pD)) (by rw[gP1,g];rfl) ?_;walk_at"w";rw[lM1];refine⟨fR (by lia),?_⟩;rw[lc,Int.toNat_natCast,<- B];refine j1 (f:=λj:Nat=>D.int j) (λd=>CW (ia F x d)) (λr=>∃y,r=[y,wq (.ref (T.length+1)),wq (.int (x.1:Nat)),wq (.int (x.2:Nat))]) ag (List.range (oO w x.1)) _ ⟨_,ag⟩ ?_ ?_
    ·rintro d k r ⟨y,rfl⟩;have n1:=(Ab hw all I (ar.mp k)).1;walk_at"w";refine W.of (Jz (gs _) n1) ⟨ag,ag,_,ag⟩
    ·rintro r' _;refine⟨dz (by rw[lM1,cg];lia),?_⟩;walk_at"w"
   rintro r S ⟨rfl,rfl⟩;walk_at"w";refine gM ?_;walk_at"w";refine⟨V.length+2,_,ag,O _ _ _,?_⟩;refine dV wp ?_;refine j1 (f:=λd=>CW (ia F x d)) (λd=>pD (BN met (ia F x d).1,(ia F x d).2)) (λr=>∃y,r=[y,wq (.ref (V.length+1))]) (eZ wp) (List.range (oO w x.1)) _ ⟨_,ag⟩ ?_ ?_
   ·rintro d k r ⟨y,rfl⟩;have R:=cl i d x t (ar.mp k) (.inl N);walk_at"w";refine gM ?_;walk_at"w";refine⟨V.length+1,_,ag,A _ _,?_⟩;refine EQ (xs:=[.int (ia F x d).1.1,.int (ia F x d).1.2,.int (ia F x d).2]) (a:=aj) (b:=wq 2) ag ag ag ?_;rw[Lb];walk_at"w";refine HC (e:=(ia F x d).1) (A _ _) (by lia) (u7 R).1 ?_;refine lH (i:=2) (xs:=[.int (ia F x d).1.1,.int (ia F x d).1.2,.int (ia F x d).2]) (x:=.int (ia F x d).2) ag ?_;walk_at"w";exact⟨ag,_,ag⟩
   ·rintro r' _;refine⟨dz (by rw[lM1,cg];lia),?_⟩;walk_at"w";refine dV (xs:=(List.range (oO w x.1)).map λd=>pD (BN met (ia F x d).1,(ia F x d).2)) ?_ ?_
    ·rw[show∀(a b:Ob),G2++[a,b]=(G2++[a])++[b]from λa b=>by simp];have:=wp (o:=o') (a:=.lst (met.map pD)) (b:=.lst (((ux w F met).take i).map rD)) (V:=V) (G:=G2++[.lst ((List.range (oO w x.1)).map λd=>CW (ia F x d))]) (X:=.lst ((List.range (oO w x.1)).map λd=>pD (BN met (ia F x d).1,(ia F x d).2)));rw[<- this]
     congr 1
     simp
     try lia
    refine(je (O _ _ _)).mpr ⟨dz (by rw[lM1,aK];lia),?_⟩;refine⟨G2++[.lst ((List.range (oO w x.1)).map λd=>CW (ia F x d)),.lst ((List.range (oO w x.1)).map λd=>pD (BN met (ia F x d).1,(ia F x d).2))],_,_,_,by lia,?_,ag⟩
    ·rw[ck,cP _ _ (by lia),show V.length+1-V.length=1 by lia,cx];rw[show(ux w F met)[i]?=wq (sK w F met x) by unfold ux;rw[gP1,t];rfl];rw[Option.toList_some,cv];rw[show[sK w F met x].map rD=[.tup ((List.range (oO w x.1)).map λd=>pD (BN met (ia F x d).1,(ia F x d).2))] by simp[rD,sK,Function.comp_def]];rfl
  ·rintro r S ⟨G2,z4,z9,H,hi,rfl,rfl⟩;rw[lM1,bG,bY (by unfold ux;rw[lM1];exact nR1 _)];exact⟨ag,G2,_,_,_,ag,ag⟩
 rintro r S ⟨G2,z4,z9,H,rfl,rfl⟩;have hcl:(ux w F met).length=met.length:=by unfold ux;rw[lM1]
 walk_at"w";refine dV (O _ _ _) ?_;refine dV (A _ _) ?_;refine j1 (f:=pD) (λx:Nat×Nat=>D.int (x.1:Nat)) (λr=>∃y0 y1,r=[y0,y1]) (eZ (A _ _)) met _ ⟨_,_,ag⟩ ?_ ?_
 ·rintro x t r ⟨y0,y1,rfl⟩;rw[pD];walk_at"w";exact⟨_,_,ag⟩
 ·rintro r' _;refine⟨dz (by rw[lM1];lia),?_⟩;walk_at"w";refine dV (xs:=met.map λx:Nat×Nat=>D.int (x.1:Nat)) wp ?_;walk_at"w";have e:met.map (λx:Nat×Nat=>D.int (x.1:Nat))=nmD (met.map (·.1)):=by rw[nmD,bj];rfl
  rw[e];refine⟨.tup [webD (ux w F met),.tup (nmD (met.map (·.1)))],o',(dO F::G)++(.lst (met.map pD) :: .lst ((ux w F met).map rD)::(G2++[.lst (nmD (met.map (·.1)))])),?_,?_,E.und,q met.length _ _ o' hp hf (yK hw K.nd cl jn) (by rw[lM1]) (λx t=>by obtain⟨y,hy,rfl⟩:=b5.mp t;have:=(K.inn y hy).1;lia) E⟩
  ·rw[<- hV,bw];rfl
  ·rw[D.und,D.unds,d5,D.unds,D.unds,D.und,fr];rfl
def ES{m:FA}{r:Ev}{S S1:Sto}{k:Nat}{Q:D×Sto->Prop}(h:m r S=wq ([.int k],S1))(hk:k<=1000)(q:Q (.tup (nmD (List.range k)),S1)):W (Av m r S) Q:=by
 refine W.of ?_ q;unfold Av;rw[h,oS1];dsimp only;have:mq 0 (k:Int)=ai:=by
  unfold mq;simp only[bA1,decide_eq_true_eq];lia
 rw[if_pos this,Int.toNat_natCast,lc];rfl
def K7{a:Nat}{S:Sto}(h1:1<=a)(b:a<=4):rG (.int 8) (.int a) S=wq (.int ((8/a:Nat):Int),S):=by
 match a,h1,b with
 |1,_,_=>rfl
 |2,_,_=>rfl
 |3,_,_=>rfl
 |4,_,_=>rfl
def lm{w:dq}{S:Sto}:dM (webD w) S=wq (.int w.length,S):=by
 unfold webD;rw[ft,lM1]
def LZ{d:Nat}(h:d<6):∃a:Nat,([.int 1,.int 1,.int 2,.int 2,.int 3,.int 4]:List D)[d]?=wq (.int a)/\1<=a/\a<=4:=by
 match d,h with
 |0,_=>exact⟨1,ag,by decide,by decide⟩
 |1,_=>exact⟨1,ag,by decide,by decide⟩
 |2,_=>exact⟨2,ag,by decide,by decide⟩
 |3,_=>exact⟨2,ag,by decide,by decide⟩
 |4,_=>exact⟨3,ag,by decide,by decide⟩
 |5,_=>exact⟨4,ag,by decide,by decide⟩
def KW{m a:Nat}(h:m<=8/a):m*a<=8:=au (Nat.mul_le_mul_right a h) (Nat.div_mul_le_self 8 a)
def HV{o:Ob}{n:Nat}{T:Sto}{Q:D×Sto->Prop}(ho:Hnd o n)(hn:n<=2^39)(E:T.all (Ob.und (T.length+1))=ai)(q:∀m w rs o',0<m->m<=8->WebJ m w->rs.length=m->(∀x∈rs,x<8)->Hnd o' (n+300)->Q (.tup [webD w,.tup (nmD rs)],o'::T)):W (dm 1 hO [.ref 0] (o::T)) Q:=by
 refine ug ag ag E ?_;unfold hO;refine ji ?_;unfold oI;generalize u:T++[Ob.lst [.int 1,.int 1,.int 2,.int 2,.int 3,.int 4]]=X;have h:X.all (Ob.und (X.length+1))=ai:=by rw[<- u];exact Lf E ag
 refine dJ (λr S=>∃(cp:Nat) (j:Ob),1<=cp/\cp<=4/\Hnd j (n+1)/\S=j::X/\r=[wq (.ref 0),wq (.int cp),aj]) ?_ ?_
 ·walk_at"w";refine ga ho (by lia) (by lia) (by lia) λd j e L=>?_;obtain⟨cp,h1,h2,G⟩:=LZ (d:=d) (by lia);walk_at"w";refine iN (i:=d) (xs:=[.int 1,.int 1,.int 2,.int 2,.int 3,.int 4]) (x:=.int cp) (by rw[gC1,dy];rfl) h1 ?_;exact⟨cp,j,h2,G,e,by rw[u],ag⟩
 rintro r S ⟨cp,j,h1,C,e,rfl,rfl⟩;refine dJ (λr S=>∃(m:Nat) (w:dq) (b:Ob),0<m/\m<=8/cp/\si m w/\Hnd b (n+101)/\S=b::X/\r=[wq (.ref 0),wq (.int cp),wq (webD w)]) ?_ ?_
 ·((try walk_at"w");repeat(simp only[K7 h1 C];try walk_at"w"))
  have H:1<=8/cp:=Nat.div_pos (by lia) (by lia);refine CA e (by lia) h H (Nat.div_le_self 8 cp) λm w b c t s a=>?_;exact⟨m,w,b,c,t,s,a.more (by lia),ag,ag⟩
 rintro r S ⟨m,w,b,c,t,s,a,rfl,rfl⟩;have v:m<=8:=au t (Nat.div_le_self 8 cp);have J:((cp:Int) == 1)=decide (cp=1):=by
  rw[bI,beq_iff_eq,decide_eq_true_eq];lia
 unfold dv eD;rw[dj];have p:mB (m2 (b2 gEq) (mV 1) (mC (D.int (1)))) [wq (.ref 0),wq (.int cp),wq (webD w)] (b::X)=wq (decide (cp=1),b::X):=by
  rw[<- J];rfl
 rw[dj];refine W.of p ?_;dsimp only;by_cases f:cp=1
 ·rw[decide_eq_true f,if_pos ag];simp(implicitDefEqProofs:=ah) only[dW,mN,dh,mV,di,oS1,dj,dr,sj,gC1,cF,lC1,aV,cI,LJ,LH,true_and];refine ES (k:=m) (S1:=b::X) ?_ (by lia) ?_
  ·simp only[dh,di,mN,mV,b1,gC1,cF,cJ,oP1,oS1,lm,s.len]
  walk_at"w";refine⟨.tup [webD w,.tup (nmD (List.range m))],b,[Ob.lst [.int 1,.int 1,.int 2,.int 2,.int 3,.int 4]],by rw[u],?_,a.und,q m w _ b c v s.toWebJ cg (λx I=>by have:=ar.mp I;lia) (a.more (by lia))⟩;rw[D.und,D.unds,d5,D.unds,D.unds,D.und,fr];rfl
 ·rw[decide_eq_false f,if_neg (by decide)];walk_at"w";refine DU s c (by lia) C (KW t) a (by lia) h λK cw rs F l y A z B g=>?_;refine⟨.tup [webD cw,.tup (nmD rs)],F,[Ob.lst [.int 1,.int 1,.int 2,.int 2,.int 3,.int 4]],by rw[u],?_,g.und,q K cw rs F l y A z B (g.more (by lia))⟩;rw[D.und,D.unds,d5,D.unds,D.unds,D.und,fr];rfl
open Classical in
def tf(P:Prop):Bool:=decide P
def xl{P:Prop}:tf P=ai↔P:=by unfold tf;exact @decide_eq_true_iff P (Classical.propDecidable P)
def oR{P:Prop}(h:P):tf P=ai:=xl.mpr h
def xm{P:Prop}{b:Bool}(h:b=ai↔P):b=tf P:=by rw[bI,xl];exact h
def uK{P:Prop}(h:¬ P):tf P=ah:=(xm ⟨λz=>(by cases z),λz=>(h z).elim⟩).symm
def Kr{P Q:Prop}(h:P↔Q):tf P=tf Q:=xm (xl.trans h)
section
variable{α β:Type}
def isF(k:Nat->α)(r:Nat):Prop:=∀s,s<r->k s≠k r
def wM(k:Nat->α)(r:Nat):∃s,s<=r/\k s=k r/\isF k s:=by
 induction r using Nat.strongRecOn with
 |ind r ih=>
  by_cases h:isF k r
  ·exact⟨r,nR1 _,ag,h⟩
  ·obtain⟨s,h1,h2⟩:∃s,s<r/\k s=k r:=Classical.byContradiction λz=>h λs c e=>z ⟨s,c,e⟩;obtain⟨u,d,b,a⟩:=ih s h1;exact⟨u,by lia,b.trans h2,a⟩
def fs(k:Nat->α)(r:Nat):Nat:=Classical.choose (wM k r)
def pM(k:Nat->α)(r:Nat):fs k r<=r:=(Classical.choose_spec (wM k r)).1
def tU(k:Nat->α)(r:Nat):k (fs k r)=k r:=(Classical.choose_spec (wM k r)).2.1
def va(k:Nat->α)(r:Nat):isF k (fs k r):=(Classical.choose_spec (wM k r)).2.2
def wN{k:Nat->α}{r s:Nat}(h:k s=k r)(hf:isF k s):s=fs k r:=by
 rcases cu s (fs k r)with z|z|z
 ·exact(va k r s z (h.trans (tU k r).symm)).elim
 ·exact z
 ·exact(hf _ z ((tU k r).trans h.symm)).elim
def om{k:Nat->α}{r s:Nat}:fs k r=fs k s↔k r=k s:=by
 constructor
 ·intro h;rw[<- tU k r,h];exact tU k s
 ·intro h;exact wN ((tU k r).trans h) (va k r)
def cnt(k:Nat->α)(n:Nat):Nat:=((List.range n).filter λs=>tf (isF k s)).length
def cn(k:Nat->α)(r:Nat):Nat:=cnt k (fs k r)
def uc{k:Nat->α}{n:Nat}:cnt k (n+1)=cnt k n+if tf (isF k n)=ai then 1 else 0:=by
 unfold cnt;rw[cT,cO,lA1]
 congr 1
 cases h:tf (isF k n)with
 |true=>rw[cU (by exact h)];rfl
 |false=>rw[cV (by rw[h];decide)];rfl
def ud{k:Nat->α}{a b:Nat}(h:a<=b):cnt k a<=cnt k b:=by
 induction b with
 |zero=>rw[show a=0 by lia];exact nR1 _
 |succ b ih=>
  rcases cS.mp (Nat.lt_succ_of_le h)with z|z
  ·rw[uc];have:=ih (by lia);lia
  ·rw[z];exact nR1 _
def vh{k:Nat->α}{a b:Nat}(h:a<b)(hf:isF k a):cnt k a<cnt k b:=by
 have h1:=ud (k:=k) (show a+1<=b from h);rw[uc,oR hf,if_pos ag]at h1;lia
def Bi{k:Nat->α}{r s:Nat}:cn k r=cn k s↔k r=k s:=by
 constructor
 ·intro h;rw[<- om];rcases cu (fs k r) (fs k s)with z|z|z
  ·have:=vh z (va k r);unfold cn at h;lia
  ·exact z
  ·have:=vh z (va k s);unfold cn at h;lia
 ·intro h;unfold cn;rw[om.mpr h]
def pG{k:Nat->α}{k':Nat->β}{m r:Nat}(h:∀a b,a<m->b<m->(k a=k b↔k' a=k' b))(hr:r<m):isF k r↔isF k' r:=
 ⟨λf s c e=>f s c ((h s r (by lia) hr).mpr e),λf s c e=>f s c ((h s r (by lia) hr).mp e)⟩
def A0{k:Nat->α}{k':Nat->β}{m r:Nat}(h:∀a b,a<m->b<m->(k a=k b↔k' a=k' b))(hr:r<m):fs k r=fs k' r:=by
 have h1:=pM k r;exact wN ((h _ _ (by lia) hr).mp (tU k r)) ((pG h (by lia)).mp (va k r))
def yg{k:Nat->α}{k':Nat->β}{m n:Nat}(h:∀a b,a<m->b<m->(k a=k b↔k' a=k' b))(hn:n<=m):cnt k n=cnt k' n:=by
 unfold cnt
 congr 1
 refine List.filter_congr λs c=>?_;exact Kr (pG h (by have:=ar.mp c;lia))
def ue{k:Nat->α}{k':Nat->β}{m r:Nat}(h:∀a b,a<m->b<m->(k a=k b↔k' a=k' b))(hr:r<m):cn k r=cn k' r:=by
 unfold cn;have h1:=pM k r;rw[<- A0 h hr];exact yg h (by lia)
def JI{k:Nat->α}{r:Nat}:cn (cn k) r=cn k r:=ue (m:=r+1) (λ_ _ _ _=>Bi) (br r)
end
def fh(w:dq)(r:Nat):List (Nat×Nat):=w[r]?.getD []
def qq{w:dq}{r:Nat}{row:List (Nat×Nat)}(h:w[r]?=wq row):fh w r=row:=by unfold fh;rw[h];rfl
def gi(sg:List Int)(r:Nat):Int:=sg.getD r 0
def Gi(c:Nat->Nat)(e:Nat×Nat):Nat×Nat:=(c e.1,e.2)
def lk(w:dq)(sg:List Int)(c:Nat->Nat)(r:Nat):Nat×Int×List (Nat×Nat):=(c r,gi sg r,(fh w r).map (Gi c))
def col(w:dq)(sg:List Int):Nat->Nat->Nat
 |0=>λ_=>0
 |n+1=>cn (lk w sg (col w sg n))
def Dr(w:dq)(R:Nat->Nat->Prop)(r s:Nat):Prop:=(fh w r).length=(fh w s).length /\ ∀(d:Nat) (e e':Nat×Nat),(fh w r)[d]?=wq e->(fh w s)[d]?=wq e'->R e.1 e'.1/\e.2=e'.2
def Dr.imp{w:dq}{R f:Nat->Nat->Prop}{r s:Nat}(h:Dr w R r s)(i:∀a b,R a b->f a b):Dr w f r s:=⟨h.1,λd e c h1 h2=>⟨i _ _ (h.2 d e c h1 h2).1,(h.2 d e c h1 h2).2⟩⟩
def GJ{γ:Type}{w:dq}{c:Nat->γ}{r s:Nat}:(fh w r).map (λe=>(c e.1,e.2))=(fh w s).map (λe=>(c e.1,e.2))↔Dr w (λa b=>c a=c b) r s:=by
 constructor
 ·intro h;refine⟨by have:=congrArg List.length h;rwa [lM1,lM1]at this,λd e e' h1 h2=>?_⟩;have:=congrArg (λl:List (γ×Nat)=>l[d]?) h;simp only[gP1,h1,h2,oP1,Option.some.injEq,Prod.mk.injEq]at this;exact this
 ·rintro⟨h1,h2⟩;refine bQ λd=>?_;rw[gP1,gP1];cases he:(fh w r)[d]? with
  |none=>
   rw[List.getElem?_eq_none_iff]at he;rw[bR (by lia)]
  |some e=>
   have j:=(gE1.mp he).1;obtain⟨e',f⟩:∃e',(fh w s)[d]?=some e':=⟨_,gG1 (by lia)⟩;rw[f];obtain⟨i,g⟩:=h2 d e e' he f;simp only[oP1,i,g]
def RA(w:dq)(sg:List Int):Nat->Nat->Nat->Prop
 |0=>λ_ _=>True
 |n+1=>λr s=>RA w sg n r s/\gi sg r=gi sg s/\Dr w (RA w sg n) r s
def i3{w:dq}{c:List Int}:∀{n r s:Nat},col w c n r=col w c n s↔RA w c n r s
 |0,r,s=>⟨λ_=>trivial,λ_=>rfl⟩
 |n+1,r,s=>by
  have ih:=@i3 w c n;rw[col,Bi,lk,lk,Prod.mk.injEq,Prod.mk.injEq,RA,ih];refine and_congr_right λ_=>and_congr_right λ_=>?_;exact GJ.trans ⟨λh=>h.imp λa b=>ih.mp,λh=>h.imp λa b=>ih.mpr⟩
def vg{w:dq}{a:List Int}:∀{n r:Nat},col w a n r=cn (col w a n) r
 |0,r=>by
  have:fs (col w a 0) r=0:=(wN (k:=col w a 0) (s:=0) (r:=r) ag λs b=>absurd b (bn s)).symm;unfold cn;rw[this];rfl
 |n+1,r=>by rw[col,JI]
def EB(w:dq)(sg:List Int):Nat->Nat->Nat->Prop
 |0=>λr s=>(fh w r).length=(fh w s).length/\gi sg r=gi sg s
 |n+1=>λr s=>EB w sg n r s/\Dr w (EB w sg n) r s
def RA.eb{w:dq}{c:List Int}:∀{n r s:Nat},RA w c (n+1) r s->EB w c n r s
 |0,r,s,h=>⟨h.2.2.1,h.2.1⟩
 |n+1,r,s,h=>⟨RA.eb h.1,h.2.2.imp λa b=>RA.eb⟩
def Stl(m:Nat)(w:dq)(sg:List Int)(n:Nat):Prop:=∀r s,r<m->s<m->RA w sg n r s->RA w sg (n+1) r s
def Dr.lt{m:Nat}{w:dq}{R j:Nat->Nat->Prop}{r s:Nat}(hw:WebJ m w)(h:Dr w R r s)(i:∀a b,a<m->b<m->R a b->j a b):Dr w j r s:=by
 have at_:∀{r d:Nat} {e:Nat×Nat},(fh w r)[d]?=wq e->e.1<m:=λ{r d e} c=>by
  unfold fh at c;cases hr:w[r]? with
  |none=>rw[hr]at c;simp at c
  |some f=>rw[hr]at c;exact hw.to r d e ⟨f,hr,c⟩
 exact⟨h.1,λd e g h1 h2=>⟨i _ _ (at_ h1) (at_ h2) (h.2 d e g h1 h2).1,(h.2 d e g h1 h2).2⟩⟩
def Stl.next{m n:Nat}{w:dq}{a:List Int}(hw:WebJ m w)(h:Stl m w a n):Stl m w a (n+1):=λr s c b q=>
 ⟨q,q.2.1,q.2.2.lt hw h⟩
def Stl.on{m n:Nat}{w:dq}{a:List Int}(hw:WebJ m w)(h:Stl m w a n):∀k,Stl m w a (n+k)
 |0=>h
 |k+1=>(h.on hw k).next hw
def Stl.up{m n:Nat}{w:dq}{a:List Int}(hw:WebJ m w)(h:Stl m w a n):∀k r s,r<m->s<m->(RA w a n r s↔RA w a (n+k) r s)
 |0,r,s,_,_=>Iff.rfl
 |k+1,r,s,hr,hs=>(h.up hw k r s hr hs).trans ⟨λq=>h.on hw k r s hr hs q,λq=>q.1⟩
def ub{m n k:Nat}{w:dq}{c:List Int}(h:∀r s,r<m->s<m->(RA w c n r s↔RA w c k r s)){r:Nat}(hr:r<m):col w c n r=col w c k r:=by
 rw[vg (n:=n),vg (n:=k)];exact ue (m:=m) (λa b e d=>by rw[i3,i3];exact h a b e d) hr
def B5{m n:Nat}{w:dq}{b:List Int}:(∀r,r<m->col w b (n+1) r=col w b n r)↔Stl m w b n:=by
 constructor
 ·intro h r s a c q;rw[<- i3]at q ⊢;rw[h r a,h s c,q]
 ·intro h r a;exact(ub (λr s a c=>⟨λq=>h r s a c q,λq=>q.1⟩) a).symm
def wQ{p q:Nat->Bool}(h:∀x,p x=ai->q x=ai):∀l:List Nat,(l.filter p).length<=(l.filter q).length/\((l.filter p).length=(l.filter q).length -> ∀x∈l,q x=ai->p x=ai)
 |[]=>⟨nR1 _,λ_ x b=>by cases b⟩
 |a::l=>by
  obtain⟨h1,h2⟩:=wQ h l;cases hp:p a with
  |true=>
   rw[cU hp,cU (h a hp),lC1,lC1];refine⟨by lia,λe x b d=>?_⟩;rcases aw.mp b with rfl|b
   ·exact hp
   ·exact h2 (by lia) x b d
  |false=>
   rw[cV (by rw[hp];decide)];cases d:q a with
   |true=>
    rw[cU d,lC1];exact⟨by lia,λe=>by lia⟩
   |false=>
    rw[cV (by rw[d];decide)];refine⟨h1,λe x b c=>?_⟩;rcases aw.mp b with rfl|b
    ·rw[d]at c;cases c
    ·exact h2 e x b c
def more{m n:Nat}{w:dq}{a:List Int}(h:¬ Stl m w a n):cnt (col w a n) m<cnt (col w a (n+1)) m:=by
 have d:∀r,isF (col w a n) r->isF (col w a (n+1)) r:=λr c s f e=>c s f (by rw[i3]at e ⊢;exact e.1);obtain⟨h1,h2⟩:=wQ (p:=λs=>tf (isF (col w a n) s)) (q:=λs=>tf (isF (col w a (n+1)) s)) (λx b=>oR (d x (xl.mp b))) (List.range m);refine Nat.lt_of_le_of_ne h1 λe=>h λr s g f q=>?_;have back:∀x,x<m->isF (col w a (n+1)) x->isF (col w a n) x:=λx b c=>xl.mp (h2 e x (ar.mpr b) (oR c))
 -- both have one first place
 have one:∀x,x<m->fs (col w a (n+1)) x=fs (col w a n) x:=λx b=>by
  have i:=pM (col w a (n+1)) x;refine wN ?_ (back _ (by lia) (va _ x));have:=tU (col w a (n+1)) x;rw[i3]at this ⊢;exact this.1
 rw[<- i3]at q ⊢;rw[<- om,one r g,one s f,om];exact q
def Bh(k:Nat->Nat)(m:Nat):cnt k m<=m:=by
 unfold cnt;exact au (cM ..) (by rw[cg];exact nR1 _)
def zy{m n:Nat}{w:dq}{a:List Int}(hm:0<m)(h:∀k,k<n -> ¬ Stl m w a k):n<m:=by
 have:∀k,k<=n->k+1<=cnt (col w a k) m:=λk=>by
  induction k with
  |zero=>
   intro _;have:=vh (k:=col w a 0) hm (λs b=>by lia);lia
  |succ k ih=>
   intro c;have h1:=ih (by lia);have h2:=more (h k (by lia));lia
 have h1:=this n (nR1 _);have h2:=Bh (col w a n) m;lia
def iu(m:Nat)(w:dq)(sg:List Int):List Nat:=(List.range m).map (col w sg m)
def B6{m n:Nat}{w:dq}{sg:List Int}(hw:WebJ m w)(h:Stl m w sg n)(hn:n<=m):(List.range m).map (col w sg n)=iu m w sg:=by
 refine cA λr e=>?_;refine ub (λa b d c=>?_) (ar.mp e);have:=h.up hw (m-n) a b d c
 rwa [show n+(m-n)=m by lia]at this
def zZ{n:Nat}{o:Ob}(h:o.und 0=ai):o.sh n=o:=by
 have a:∀{κ:Type} (l:List (κ×D)),D.unds 0 (l.map (·.2))=ai->(l.map λp=>(p.1,p.2.sh n))=l:=λl=>by
  induction l with
  |nil=>intro _;rfl
  |cons x l ih=>
   intro h;rw[mP1,D.unds,bA1]at h;rw[mP1,ih h.2,zq h.1]
 cases o with
 |lst xs=>rw[Ob.und]at h;rw[Ob.sh,kP h]
 |dct l=>rw[Ob.und]at h;rw[Ob.sh,a l h]
 |dcT l=>rw[Ob.und]at h;rw[Ob.sh,a l h]
 |dcF l=>rw[Ob.und]at h;rw[Ob.sh,a l h]
 |iset l=>rfl
 |tst l=>rfl
def zi{n:Nat}{S:Sto}(h:S.all (Ob.und 0)=ai):S.map (Ob.sh n)=S:=by
 have:S.map (Ob.sh n)=S.map id:=cA λo a=>zZ (bq.mp h o a);rw[this,List.map_id]
def EM{n:Nat}{f:FN}{ds:List D}{S:Sto}{Q:D×Sto->Prop}(hn:ds.length=n)(c:D.unds 0 ds=ai)(h:W (f ds []) λp=>∃k xs,p.1 = .ref k/\p.2[k]?=wq (.lst xs)/\p.2.all (Ob.und 0)=ai /\ ∀G j,(S++G)[j]?=wq (.lst xs)->G.all (Ob.und 0)=ai->S.length<=j->Q (.ref j,S++G)):W (dm n f ds S) Q:=by
 obtain⟨⟨d,G⟩,e,k,xs,rfl,b,a,q⟩:=h;refine⟨_,oD e hn c ag,?_⟩;dsimp only at b a;rw[zi a];exact q G _ (by rw[ej];exact b) a (bi _ _)
def Lg{S:Sto}(h:S.all (Ob.und 0)=ai):S.all (Ob.und S.length)=ai:=by
 rw[bq]at *
 exact λo a=>fJ (aZ _) (h o a)
abbrev sgD(sg:List Int):D:=.tup (sg.map D.int)
def g9(a:List Int):(sgD a).und 0=ai:=by rw[D.und];exact eJ λ_ _=>rfl
abbrev EL(m:Nat)(c:Nat->Nat):List Nat:=(List.range m).map c
abbrev rT(m:Nat)(c:Nat->Nat):D:=.tup (nmD (EL m c))
def JY{m r:Nat}{c:Nat->Nat}{S:Sto}{Q:D×Sto->Prop}(hr:r<m)(q:Q (.int (c r:Nat),S)):W (dt (rT m c) (.int r) S) Q:=
 lH (i:=r) (x:=.int (c r:Nat)) (by rw[nmD,gP1,gP1,b9 hr];rfl) q
def Bz{m r:Nat}{a:List Int}{S:Sto}{Q:D×Sto->Prop}(b:a.length=m)(hr:r<m)(q:Q (.int (gi a r),S)):W (dt (sgD a) (.int r) S) Q:=
 lH (i:=r) (x:=.int (gi a r)) (by rw[gP1,gG1 (by lia)];unfold gi;rw[bB,gG1 (by lia)];rfl) q
abbrev Lk:=Nat×Int×List (Nat×Nat)
def rj(x:Lk):D:=.tup [.int (x.1:Nat),.int x.2.1,.tup (x.2.2.map pD)]
def Di(x:Lk):(rj x).und 0=ai:=by
 unfold rj;rw[D.und,D.unds,D.unds,D.unds,D.und,eJ (λ_ _=>rfl)];rfl
def De{m:Nat}{w:dq}{g:List Int}{c:Nat->Nat}(hw:WebJ m w)(hm:m<=8)(hs:g.length=m):W (gf [webD w,sgD g,rT m c] []) λp=>∃k,p.1 = .ref k/\p.2[k]?=wq (.lst ((List.range m).map λr=>rj (lk w g c r)))/\p.2.all (Ob.und 0)=ai:=by
 unfold gf;refine ji ?_;unfold sf;refine dJ (λr V=>V=[.lst []]/\r=[wq (webD w),wq (sgD g),wq (rT m c),wq (.ref 0),aj,aj,aj]) ?_ ?_
 ·walk_at"w"
  try exact⟨ag,trivial⟩
 rintro r V ⟨rfl,rfl⟩;refine dJ (λr V=>∃G j h x6,G.all (Ob.und 0)=ai/\V = .lst ((List.range m).map λr=>rj (lk w g c r))::G/\r=[wq (webD w),wq (sgD g),wq (rT m c),wq (.ref 0),j,h,x6]) ?_ ?_
 ·unfold eT;rw[dj];refine oN (xs:=w.map λa=>.tup (a.map pD)) ag ?_;refine eA (λi r V=>∃G j h x6,i<=m/\G.all (Ob.und 0)=ai/\V = .lst ((List.range i).map λr=>rj (lk w g c r))::G/\r=[wq (webD w),wq (sgD g),wq (rT m c),wq (.ref 0),j,h,x6]) _ 0 _ _ ⟨[],_,_,_,by lia,ag,ag,ag⟩ (λ_ _ _ _=>rfl) ?_ ?_
  ·rintro i B q r V ⟨G,j,h,x6,hi,l,rfl,rfl⟩;rw[fP,gP1]at q;obtain⟨z,v,rfl⟩:=oM1.mp q;obtain⟨a,b,rfl⟩:=oM1.mp v;have o:i<m:=by rw[<- hw.len];exact(gE1.mp b).1
   have A:=hw.le i a b;rw[bG]at *
   walk_at"w";unfold lS;refine dJ (λr V=>V = .lst ((List.range i).map λr=>rj (lk w g c r))::(G++[.lst (a.map λe=>pD (Gi c e))])/\r=[wq (webD w),wq (sgD g),wq (rT m c),wq (.ref 0),wq (.int (i:Nat)),wq (.tup (a.map pD)),wq (.tup (a.map λe=>pD (Gi c e)))]) ?_ ?_
   ·walk_at"w";rw[ku];refine j1 (f:=pD) (λe=>pD (Gi c e)) (λs=>∃t u,s=[t,u,wq (rT m c)]) ag a _ ⟨_,_,ag⟩ ?_ ?_
    ·rintro e y s ⟨t,u,rfl⟩;obtain⟨d,x⟩:=bh y;have:=hw.to i d e ⟨a,b,x⟩;rw[pD];walk_at"w";refine JY this ?_;walk_at"w";exact⟨ag,_,_,ag⟩
    ·rintro s _;refine⟨dz (by rw[lM1];lia),?_⟩;walk_at"w";refine dV (xs:=a.map λe=>pD (Gi c e)) (by rw[gC1,dy];rfl) ?_
     first|exact⟨rfl,rfl⟩|exact⟨rfl,trivial⟩|rfl
   rintro r V ⟨rfl,rfl⟩;unfold eN;rw[dj];refine gM ?_;walk_at"w";refine⟨0,(List.range i).map λr=>rj (lk w g c r),ag,ag,?_⟩;refine JY o ?_;walk_at"w";refine Bz hs o ?_;walk_at"w";refine(je (n:=0) (xs:=(List.range i).map λr=>rj (lk w g c r)) ag).mpr ⟨dz (by rw[lM1,cg];lia),?_⟩;refine⟨G++[.lst (a.map λe=>pD (Gi c e))],_,_,_,by lia,?_,?_,ag⟩
   ·rw[cC,l,bH,Ob.und,eJ (λ_ _=>rfl)];rfl
   ·have e:rj (lk w g c i)=D.tup [D.int (c i:Nat),D.int (gi g i),D.tup (a.map fun e=>pD (Gi c e))]:=by
     unfold lk;rw[qq b,rj,bj];rfl
    rw[cT,cv,mP1,e];rfl
  ·rintro r V ⟨G,j,h,x6,hi,l,rfl,rfl⟩;rw[fO,lM1,bG,hw.len];exact⟨ag,G,_,_,_,l,ag,ag⟩
 rintro r V ⟨G,j,h,x6,l,rfl,rfl⟩;walk_at"w";refine⟨0,ag,ag,?_⟩;rw[bH,l,Ob.und,eJ (λ_ _=>Di _)];rfl
def Dh(x:Lk):TK:=.tup [.int (x.1:Nat),.int x.2.1,.tup (x.2.2.map HM)]
def Ez:∀l:List (Nat×Nat),xU (l.map pD)=wq (l.map HM)
 |[]=>rfl
 |e::l=>by
  rw[mP1,xU,Ez l];rfl
def EJ:∀l:List (Nat×Nat),TK.depAll (l.map HM)<=2
 |[]=>by simp[TK.depAll]
 |e::l=>by
  have:=EJ l;rw[mP1,TK.depAll];have:(HM e).dep<=2:=by simp[HM,TK.dep,TK.depAll]
  lia
def n6(x:Lk):iI (rj x)=wq (Dh x):=by
 have e:xU [.int (x.1:Nat),.int x.2.1,.tup (x.2.2.map pD)]=wq [.int (x.1:Nat),.int x.2.1,.tup (x.2.2.map HM)]:=by
  simp only[xU,kD,Ez,oP1,oS1]
 unfold rj;rw[iI,e,oS1,if_pos]
 ·rfl
 ·have:=EJ x.2.2;simp[TK.dep,TK.depAll];lia
def Dj{x y:Lk}(h:rj x=rj y):x=y:=by
 obtain⟨a,b,l⟩:=x;obtain⟨g,i,l'⟩:=y;unfold rj at h;injection h with h;injection h with h1 h;injection h with h2 h;injection h with c h;injection h1 with h1;injection h2 with h2;injection c with c;have:l=l':=(List.map_inj_right λx y e=>by
  unfold pD at e;injection e with e;injection e with d e;injection e with f e;injection d with d;injection f with f;exact Prod.ext (by lia) (by lia)).mp c
 dsimp only at h1 h2;rw[this,h2,show a=g by lia]
def wy{x y:Lk}(h:Dh x=Dh y):x=y:=by
 have h1:=(nb (n6 x)).1;have h2:=(nb (n6 y)).1;exact Dj (by rw[<- h1,<- h2,h])
def nF(k:Nat->Lk)(i:Nat):List (TK×D):=((List.range i).filter λf=>tf (isF k f)).map λf=>(Dh (k f),.int (cnt k f:Nat))
def nF_len{k:Nat->Lk}{i:Nat}:(nF k i).length=cnt k i:=by unfold nF cnt;rw[lM1]
def rd{k:Nat->Lk}{i:Nat}:nF k (i+1)=nF k i++if tf (isF k i)=ai then[(Dh (k i),.int (cnt k i:Nat))]else[]:=by
 unfold nF;rw[cT,cO,cv]
 congr 1
 cases h:tf (isF k i)with
 |true=>rw[cU (by exact h)];rfl
 |false=>rw[cV (by rw[h];decide)];rfl
def re{k:Nat->Lk}:∀{i r:Nat},fs k r<i->dE (nF k i) (Dh (k r))=wq (.int (cn k r:Nat))
 |0,r,h=>by lia
 |i+1,r,h=>by
  rw[rd,n0];by_cases hi:fs k r<i
  ·rw[re hi];rfl
  ·have e:fs k r=i:=by lia
   have a:=va k r;have c:=tU k r;rw[e]at a c;rw[oR a,if_pos ag];have d:dE (nF k i) (Dh (k r))=aj:=by
    refine jW ?_;rw[cD];intro z;obtain⟨p,j,l⟩:=bJ.mp z;obtain⟨f,g,rfl⟩:=b5.mp j;have b:=ar.mp (aq.mp g).1;have:=wy (of_decide_eq_true l);exact a f b (by rw[c];exact this)
   rw[d,Option.none_or,fG,if_pos (by rw[c])];unfold cn;rw[e]
def Ah{k:Nat->Lk}{i:Nat}(h:isF k i):((nF k i).any λp=>decide (p.1=Dh (k i)))=ah:=by
 rw[cD];intro z;obtain⟨p,c,d⟩:=bJ.mp z;obtain⟨f,b,rfl⟩:=b5.mp c;have a:=ar.mp (aq.mp b).1;exact h f a (wy (of_decide_eq_true d))
def Ge{S:Sto}{n:Nat}{F:List (TK×D)}{d:D}{k:TK}(h:S[n]?=wq (dO F))(hk:iI d=wq k):jY d (.ref n) S=wq (.bl (!(dE F k).isSome),S):=by
 unfold dO at h;by_cases a:F=[]
 ·subst a;rw[if_pos ag]at h;simp only[jY,h,hk];rfl
 ·rw[if_neg a]at h;simp only[jY,fu,h,hk,oP1]
def K1{S:Sto}{n:Nat}{F:List (TK×D)}(h:S[n]?=wq (dO F)):pL (.ref n) S=wq (.int (F.length:Nat),S):=by
 unfold dO at h;by_cases a:F=[]
 ·subst a;rw[if_pos ag]at h;simp only[pL,ol,h];rfl
 ·rw[if_neg a]at h;simp only[pL,h]
def Gd{m n:Nat}{S:Sto}{k:Nat->Lk}{Q:D×Sto->Prop}(p:S.all (Ob.und 0)=ai)(hn:S[n]?=wq (.lst ((List.range m).map λr=>rj (k r))))(hm:m<=8)(q:Q (rT m (cn k),S)):W (dm 1 fV [.ref n] S) Q:=by
 refine oE ag ag ?_;unfold fV;refine ji ?_;unfold oG;have gn:∀(X:Ob),(S++[X])[n]?=wq (.lst ((List.range m).map λr=>rj (k r))):=λX=>by rw[gL1 (gE1.mp hn).1];exact hn
 have h:∀(X:Ob),(S++[X])[S.length]?=wq X:=λX=>by rw[dy];rfl
 have st:∀(X Y:Ob),(S++[X]).set S.length Y=S++[Y]:=λX Y=>by rw[cP _ _ (nR1 _),cq];rfl
 refine dJ (λr V=>V=S++[dO (nF k 0)]/\r=[wq (.ref n),wq (.ref S.length),aj]) ?_ ?_
 ·have v:dO (nF k 0) = .dct []:=if_pos ag;rw[v]
  ((try walk_at"w");repeat(simp only[im];try walk_at"w"))
 rintro r V ⟨rfl,rfl⟩;refine dJ (λr V=>∃x2,V=S++[dO (nF k m)]/\r=[wq (.ref n),wq (.ref S.length),x2]) ?_ ?_
 ·walk_at"w";refine dV (gn _) ?_;refine eA (λi r V=>∃x2,i<=m/\V=S++[dO (nF k i)]/\r=[wq (.ref n),wq (.ref S.length),x2]) _ 0 _ _ ⟨_,by lia,ag,ag⟩ ?_ ?_ ?_
  ·rintro i r V ⟨_,_,rfl,_⟩;exact eZ (gn _)
  ·rintro i d g r V ⟨x2,hi,rfl,rfl⟩;dsimp only at g;have a:=(gE1.mp g).1;rw[lM1,cg]at a;rw[gP1,b9 a]at g;cases g;rw[bG]at *
   walk_at"w";unfold k8;have t:=Ge (S:=S++[dO (nF k i)]) (d:=rj (k i)) (h _) (n6 _)
   ((try walk_at"w");repeat(simp only[t];try walk_at"w"))
   by_cases c:isF k i
   ·have b:dE (nF k i) (Dh (k i))=aj:=jW (Ah c);rw[b,if_pos (by rfl)];have u:=K1 (S:=S++[dO (nF k i)]) (h _)
    ((try walk_at"w");repeat(simp only[u];try walk_at"w"))
    refine vw (F:=nF k i) (h _) (n6 _) (by rw[nF_len];have:=ud (k:=k) hi;have w:cnt k m<=m:=(by unfold cnt;exact au (cM ..) (by rw[cg];exact nR1 _));lia) ?_;rw[st];refine⟨_,a,?_,ag⟩;rw[rd,oR c,if_pos ag,nF_len];unfold gP;rw[Ah c,if_neg (by decide)]
   ·obtain⟨s,o,j⟩:∃s,s<i/\k s=k i:=Classical.byContradiction λz=>c λs o e=>z ⟨s,o,e⟩;have l:fs k i<i:=bx (by rw[<- om.mpr j];exact pM k s) o;rw[re l,if_neg (by simp)];refine⟨_,a,?_,ag⟩;rw[rd,uK c,if_neg (by decide),aF]
  ·rintro r V ⟨x2,hi,rfl,rfl⟩;rw[lM1,cg,bG];exact⟨ag,_,ag,ag⟩
 rintro r V ⟨x2,rfl,rfl⟩;walk_at"w";refine dV (gn _) ?_;refine j1 (f:=λr=>rj (k r)) (λr=>D.int (cn k r:Nat)) (λr=>∃x,r=[x,wq (.ref S.length)]) (eZ (gn _)) (List.range m) _ ⟨_,ag⟩ ?_ ?_
 ·rintro i hi r ⟨x,rfl⟩;walk_at"w";refine BC (h _) (n6 _) (re (by have:=pM k i;have:=ar.mp hi;lia)) ?_;exact⟨ag,ag,_,ag⟩
 ·rintro y _;refine⟨dz (by rw[lM1,cg];lia),?_⟩;walk_at"w";refine dV (xs:=nmD (EL m (cn k))) (by first|(rw[ej,nmD,bj];rfl)|simp[nmD]) ?_;have:=rB (d:=rT m (cn k)) (S:=S) (G:=[dO (nF k m),.lst ((List.range m).map λr=>D.int (cn k r:Nat))]) (by rw[D.und];exact fr _) (Lg p)
  first|(rw[this];exact q)|(show Q (gc _ _);rw[this];exact q)
def A4{S:Sto}{n:Nat}:∀a b:List Nat,A5 (kA S (n+1)) (nmD a) (nmD b)=wq (tf (a=b))
 |[],[]=>by rw[oR ag];rfl
 |[],_::_=>by rw[uK (by simp)];rfl
 |_::_,[]=>by rw[uK (by simp)];rfl
 |x::a,y::b=>by
  have c:kA S (n+1) (.int x) (.int y)=wq ((x:Int) == (y:Int)):=rfl;show A5 _ (.int x::nmD a) (.int y::nmD b)=_;rw[A5,c,A4 a b,oS1];refine congrArg wq (xm ?_);rw[bA1,beq_iff_eq,xl,List.cons.injEq];constructor
  ·rintro⟨h1,h2⟩;exact⟨by lia,h2⟩
  ·rintro⟨h1,h2⟩;exact⟨by lia,h2⟩
def Hf{S:Sto}{n:Nat}{a b:List Nat}:kA S (n+2) (.tup (nmD a)) (.tup (nmD b))=wq (tf (a=b)):=by
 rw[show n+2=n+1+1 from rfl,kA];simp only[jQ,A4 (S:=S) (n:=n) a b];simp
def IX{S:Sto}{a b:List Nat}:gNe (.tup (nmD a)) (.tup (nmD b)) S=wq (.bl (!tf (a=b)),S):=by
 show(kA S dU _ _).map _=_;rw[show dU=58+2 from rfl,Hf];rfl
def JJ{m:Nat}{c c':Nat->Nat}:EL m c=EL m c' ↔ ∀r,r<m->c r=c' r:=by
 unfold EL;rw[List.map_inj_left];exact⟨λh r a=>h r (ar.mpr a),λh r a=>h r (ar.mp a)⟩
def HB{i:Nat}{x:Str}{g:FN}{a:FA}{r:Ev}{S:Sto}{Q:D×Sto->Prop}(h:r[i]?=wq (wq (.fn x)))(q:W (mN g a r S) Q):W (tG i x g a r S) Q:=by
 unfold tG;rw[h];dsimp only;rw[if_pos ag];exact q
def v8{m n:Nat}{w:dq}{b:List Int}{c:Nat->Nat}{S:Sto}{x4:Option D}{Q:D×Sto->Prop}(hw:WebJ m w)(hm:m<=8)(hs:b.length=m)(f:S.all (Ob.und 0)=ai)(q:∀G,(S++G).all (Ob.und 0)=ai->Q (rT m (cn (lk w b c)),S++G)):W (tG 2 "numbered" (dm 1 fV) (dh (mN (dm 3 gf) (dh (mV 0) (dh (mV 1) (dh (mV 3) di)))) di) [wq (webD w),wq (sgD b),wq (.fn "numbered"),wq (rT m c),x4] S) Q:=by
 refine HB ag ?_;simp(implicitDefEqProofs:=ah) only[mN,dh,mV,di,cF,gC1,oS1,dj,dr];refine EM ag (by rw[D.unds,d5,D.unds,g9,D.unds,D.und,fr];rfl) ((De (c:=c) hw hm hs).mono ?_);rintro p ⟨k,h1,h2,d⟩;refine⟨k,_,h1,h2,d,λG j h e g=>?_⟩;have a:(S++G).all (Ob.und 0)=ai:=by rw[cC,f,e];rfl
 exact Gd a h hm (q G a)
def xB{m:Nat}{w:dq}{a:List Int}{S:Sto}{Q:D×Sto->Prop}(hw:WebJ m w)(p:0<m)(hm:m<=8)(hs:a.length=m)(q:Q (.tup (nmD (iu m w a)),S)):W (dm 3 iF [webD w,sgD a,.fn "numbered"] S) Q:=by
 refine iL ag (by rw[D.unds,d5,D.unds,g9];rfl) ?_;unfold iF;refine ji ?_;unfold p0;refine dJ (λr V=>V.all (Ob.und 0)=ai/\r=[wq (webD w),wq (sgD a),wq (.fn "numbered"),wq (rT m (col w a 0)),aj]) ?_ ?_
 ·walk_at"w";rw[show webD w = .tup (w.map λd=>.tup (d.map pD))from rfl,ku];refine j1 (f:=λd:List (Nat×Nat)=>D.tup (d.map pD)) (λ_=>.int 0) (λr=>∃x,r=[x]) ag w _ ⟨_,ag⟩ ?_ ?_
  ·rintro d B r ⟨x,rfl⟩;walk_at"w";exact⟨_,ag⟩
  ·rintro u _;refine ⟨dz (by rw [lM1,hw.len];lia),?_⟩;walk_at"w";refine dV (xs:=w.map fun _=>D.int 0) rfl ?_;have e:(w.map fun _=>D.int 0)=nmD (EL m (col w a 0)):=by
    have h1:(w.map λ_=>D.int 0)=aI m (D.int 0):=by rw[List.map_const',hw.len]
    have h2:nmD (EL m (col w a 0))=aI m (D.int 0):=by
     unfold nmD EL;rw[bj];have:((λi:Nat=>D.int i)∘col w a 0)=λ_=>D.int 0:=rfl;rw[this,List.map_const',cg]
    rw[h1,h2]
   rw[e];refine⟨?_,ag⟩;rw[bH,Ob.und,fr];rfl
 rintro r V ⟨o,rfl⟩;refine dJ (λr V=>V.all (Ob.und 0)=ai/\r=[wq (webD w),wq (sgD a),wq (.fn "numbered"),wq (rT m (col w a 0)),wq (rT m (col w a 1))]) ?_ ?_
 ·unfold dD;rw[dj];refine v8 (n:=0) hw hm hs o λG t=>?_;exact W.of ag ⟨ag,t,ag⟩
 rintro r V ⟨o,rfl⟩;refine dJ (λr V=>r[3]?=wq (wq (.tup (nmD (iu m w a))))) ?_ ?_
 ·refine vK (λk r V=>(∀j,j<k -> ¬ Stl m w a j)/\V.all (Ob.und 0)=ai/\r=[wq (webD w),wq (sgD a),wq (.fn "numbered"),wq (rT m (col w a k)),wq (rT m (col w a (k+1)))]) 8 ?_ 100000 0 _ _ (by lia) ⟨λj h=>by lia,o,ag⟩;rintro k r V ⟨s,o,rfl⟩;unfold mw
  ((try walk_at"w");repeat(simp only[IX];try walk_at"w"))
  have l:=(JJ (m:=m) (c:=col w a (k+1)) (c':=col w a k)).trans B5;by_cases b:Stl m w a k
  ·rw[oR (l.mpr b),if_neg (by decide)];have z:=zy p s;show wq (wq (rT m (col w a k)))=_;rw[<- B6 hw b (by lia)]
  ·rw [uK (fun h=>b (l.mp h)),if_pos (show (!false)=true from rfl)];have g:∀ j,j<k+1 -> ¬ Stl m w a j:=fun j A=>by
    rcases cS.mp A with h|rfl
    ·exact s j h
    ·exact b
   have z:=zy p g;refine⟨by lia,?_⟩;unfold ms;refine dJ (λu v=>v=V/\u=[wq (webD w),wq (sgD a),wq (.fn "numbered"),wq (rT m (col w a (k+1))),wq (rT m (col w a (k+1)))]) ?_ ?_
   ·walk_at"w"
   rintro u v ⟨rfl,rfl⟩;unfold dD;rw[dj];refine v8 (n:=0) hw hm hs o λG t=>?_;exact W.of ag ⟨ag,g,t,ag⟩
 rintro r V y;unfold dW;rw[dj];unfold mV;rw[y,dr];exact dr.mpr ⟨by rw[D.und];exact fr _,q⟩
def mJ{m:Nat}{w:dq}{b:List Int}{S:Sto}{Q:D×Sto->Prop}(hw:WebJ m w)(a:0<m)(hm:m<=8)(hs:b.length=m)(q:Q (.tup (nmD (iu m w b)),S)):W (dm 2 fx [webD w,sgD b] S) Q:=by
 refine iL ag (by rw[D.unds,d5,D.unds,g9];rfl) ?_;unfold fx;refine ji ?_;unfold mL;walk_at"w";refine xB hw a hm hs ?_;exact⟨by rw[D.und];exact fr _,q⟩
def xI{S:Sto}{x n:Nat}{cs:List Nat}(h:S[n]?=wq (.lst (nmD cs))):fu (.int x) (.ref n) S=wq (.bl (!cs.contains x),S):=by
 simp only[fu,iW,l5,h,dG,oS1,dU,show(60:Nat)=59+1 from rfl,rv,oP1]
def xt(ws cs:List Nat)(b:Bool)(r:Nat):Int:=(if cs.contains r then 1 else 0)+(if(b&&ws.contains r)=ai then 2 else 0)
def sgL(m:Nat)(ws cs:List Nat)(b:Bool):List Int:=(List.range m).map (xt ws cs b)
def kQ{m:Nat}{ws cs:List Nat}{b:Bool}:(sgL m ws cs b).length=m:=by unfold sgL;rw[lM1,cg]
def stD(ws cs:List Nat):D:=.tup [.tup (nmD ws),.tup (nmD cs)]
def nz{ws cs:List Nat}:(stD ws cs).und 0=ai:=by unfold stD;rw[D.und,D.unds,D.unds,D.und,D.und,fr,fr];rfl
def rW{m:Nat}{w:dq}{ws cs:List Nat}{S:Sto}{Q:D×Sto->Prop}(hw:WebJ m w)(hm:m<=8)(q:Q (sgD (sgL m ws cs ah),S)):W (dm 2 ei [webD w,.tup (nmD cs)] S) Q:=by
 refine iL ag (by rw[D.unds,d5,D.unds,D.und,fr];rfl) ?_;unfold ei;refine ji ?_;unfold kl
 ((try walk_at"w");repeat(simp only[lm];try walk_at"w"))
 rw[hw.len];refine⟨fR (by lia),?_⟩;rw[lc,Int.toNat_natCast];refine j1 (f:=λi:Nat=>D.int i) (λr=>D.int (xt ws cs ah r)) (λr=>∃x,r=[x,wq (.tup (nmD cs))]) ag (List.range m) _ ⟨_,ag⟩ ?_ ?_
 ·rintro r b a ⟨x,rfl⟩
  ((try walk_at"w");repeat(simp only[wH];try walk_at"w"))
  unfold xt;cases cs.contains r with
  |true=>exact⟨ag,_,ag⟩
  |false=>exact⟨ag,_,ag⟩
 ·rintro a _;refine⟨dz (by rw[lM1,cg];lia),?_⟩;walk_at"w";have e:((List.range m).map λr=>D.int (xt ws cs ah r))=(sgL m ws cs ah).map D.int:=by unfold sgL;rw[bj];rfl
  rw[e];refine dV (xs:=(sgL m ws cs ah).map D.int) ag ?_;exact⟨g9 _,q⟩
def Bw{m:Nat}{w:dq}{ws cs:List Nat}{S:Sto}{Q:D×Sto->Prop}(hw:WebJ m w)(hm:m<=8)(q:Q (sgD (sgL m ws cs ai),S)):W (dm 2 fy [webD w,stD ws cs] S) Q:=by
 refine iL ag (by rw[D.unds,d5,D.unds,nz];rfl) ?_;unfold fy;refine ji ?_;unfold mM;refine dJ (λr V=>V=[]/\r=[wq (webD w),wq (stD ws cs),wq (.tup (nmD ws)),wq (.tup (nmD cs)),aj]) ?_ ?_
 ·unfold stD;walk_at"w"
 rintro r V ⟨rfl,rfl⟩;refine dJ (λr V=>V=[]/\r=[wq (webD w),wq (stD ws cs),wq (.tup (nmD ws)),wq (.tup (nmD cs)),wq (sgD (sgL m ws cs ah))]) ?_ ?_
 ·walk_at"w";refine rW (ws:=ws) hw hm ?_
  first|exact⟨rfl,rfl⟩|exact⟨rfl,trivial⟩|rfl
 rintro r V ⟨rfl,rfl⟩;walk_at"w";refine oN (xs:=(sgL m ws cs ah).map D.int) ag ?_;have c:sx 0 ((sgL m ws cs ah).map D.int)=(List.range m).map λr=>D.tup [.int (r:Nat),.int (xt ws cs ah r)]:=by
  refine bQ λi=>?_;rw[fP,gP1,gP1];unfold sgL;rw[gP1];by_cases h:i<m
  ·rw[b9 h,bG];rfl
  ·rw[bR (by rw[cg];lia)];rfl
 rw[c];refine j1 (f:=λr:Nat=>D.tup [.int (r:Nat),.int (xt ws cs ah r)]) (λr=>D.int (xt ws cs ai r)) (λr=>∃a b,r=[a,b,wq (.tup (nmD ws))]) ag (List.range m) _ ⟨_,_,ag⟩ ?_ ?_
 ·rintro r g d ⟨a,b,rfl⟩
  ((try walk_at"w");repeat(simp only[wH];try walk_at"w"))
  unfold xt;cases ws.contains r with
  |true=>
   cases cs.contains r with
   |true=>exact⟨ag,_,_,ag⟩
   |false=>exact⟨ag,_,_,ag⟩
  |false=>exact⟨ag,_,_,ag⟩
 ·rintro d _;refine⟨dz (by rw[lM1,cg];lia),?_⟩;walk_at"w";have e:((List.range m).map λr=>D.int (xt ws cs ai r))=(sgL m ws cs ai).map D.int:=by unfold sgL;rw[bj];rfl
  rw[e];refine dV (xs:=(sgL m ws cs ai).map D.int) ag ?_;exact⟨g9 _,q⟩
def AB{m:Nat}{w:dq}{ws cs:List Nat}{b:Bool}(hw:WebJ m w)(hm:m<=8):W (fe [webD w,stD ws cs,.bl b] []) λp=>p=(.ref 0,[.lst ((sgL m ws cs b).map D.int)]):=by
 unfold fe;refine ji ?_;unfold lC
 ((try walk_at"w");repeat(simp only[lm];try walk_at"w"))
 rw[hw.len];refine⟨fR (by lia),?_⟩;rw[lc,Int.toNat_natCast];have a:∀(k:Bool) (S:Sto),j4 (.int 2) (.int (if k=ai then 1 else 0)) S=wq (.int (if k=ai then 2 else 0),S):=λk S=>by cases k<;>rfl
 refine j1 (f:=λi:Nat=>D.int i) (λr=>D.int (xt ws cs b r)) (λr=>∃x,r=[x,wq (stD ws cs),wq (.bl b)]) ag (List.range m) _ ⟨_,ag⟩ ?_ ?_
 ·rintro r j h ⟨x,rfl⟩;have g:∀S,dt (stD ws cs) (.int 1) S=wq (.tup (nmD cs),S):=λS=>rfl;have d:∀S,dt (stD ws cs) (.int 0) S=wq (.tup (nmD ws),S):=λS=>rfl;cases b with
  |true=>
   ((try walk_at"w");repeat(simp only[wH,g,d,a];try walk_at"w"))
   unfold xt;exact⟨ag,_,ag⟩
  |false=>
   have c:∀S:Sto,j4 (.int 2) (.int 0) S=wq (.int 0,S):=λS=>rfl
   ((try walk_at"w");repeat(simp only[wH,g,d,c];try walk_at"w"))
   unfold xt;exact⟨ag,_,ag⟩
 ·rintro h _;refine⟨dz (by rw[lM1,cg];lia),?_⟩;walk_at"w";have e:((List.range m).map λr=>D.int (xt ws cs b r))=(sgL m ws cs b).map D.int:=by unfold sgL;rw[bj];rfl
  rw[e]
  try exact⟨ag,ag⟩
def G7{S:Sto}{x n:Nat}{cs:List Nat}(h:S[n]?=wq (.lst (nmD cs))):mW (.int x) (.ref n) S=wq (.bl (cs.contains x),S):=by
 simp only[mW,u9,HQ,h,dG,oS1,dU,show(60:Nat)=59+1 from rfl,rv,oP1]
abbrev Rms(m:Nat)(l:List Nat):Prop:=(∀x∈l,x<m)/\l.length<=m
def zl{o:Ob}{n m:Nat}{Z:Sto}{p:Nat}{r:Ev}{Q:D×Sto->Prop}(ho:Hnd o n)(hn:n<=2^40)(hm:m<=8)(hp:Z[p]? = wq (.lst (nmD (List.range m))))(A:r[0]? = wq (wq (.ref 0)))(w:r[4]? = wq (wq (.ref (p+1))))(q:∀o' l,Hnd o' (n+8)->Rms m l->Q (.ref (Z.length+1),o'::(Z++[.lst (nmD l)]))):W (eG 1 [0] (gJ (mV 4)) (gN 0) (mB (m2 (b2 gEq) (mN (dm 2 dn) (dh (mV 1) (dh (mC (D.int (2))) di))) (mC (D.int (0))))) (d9 (mV 0)) r (o::Z)) Q:=by
 have z:mV 4 r (o::Z)=wq (.ref (p+1),o::Z):=by unfold mV;rw[w]
 have v:∀o:Ob,(o::Z)[p+1]?=wq (.lst (nmD (List.range m))):=λo=>by rw[gC1];exact hp
 rw[lI,md,z,dr];refine dV (v o) ?_;have t:l0 1 [0] r=[aj,wq (.ref 0)]:=by
  simp[l0,A]
 rw[t];refine io (λi b r S=>∃o' l x,i<=m/\b=nmD l/\(∀x∈l,x<m)/\l.length<=i/\Hnd o' (n+i)/\S=o'::Z/\r=[x,wq (.ref 0)]) _ 0 [] _ _ ⟨o,[],_,by lia,ag,λx h=>(by cases h),by simp,ho,ag,ag⟩ ?_ ?_ ?_
 ·rintro i b r S ⟨o',l,x,_,_,_,_,_,rfl,_⟩;exact eZ (v o')
 ·rintro i d k b r S ⟨o',l,x,hi,rfl,j,s,a,rfl,rfl⟩;dsimp only at k;have f:=(gE1.mp k).1;rw[d3,cg]at f;rw[nmD,gP1,b9 f]at k;cases k;rw[bG]at *
  walk_at"w";refine ga a (by lia) (by lia) (by lia) λc u g hc=>?_;walk_at"w";split
  ·refine⟨u,l++[i],_,by lia,lf,λx y=>?_,by rw[lA1];simp;lia,g.more (by lia),ag,ag⟩;rcases ay.mp y with h|h
   ·exact j x h
   ·rw[cb]at h;subst h;exact f
  ·exact⟨u,l,_,by lia,ag,j,by lia,g.more (by lia),ag,ag⟩
 ·rintro xs r S ⟨o',l,x,hi,e,j,s,a,rfl,rfl⟩;rw[cH]at e;subst e;dsimp only at s hi a;rw[d3,cg,bG]at s hi a;refine⟨dz (by dsimp only;rw[d3];lia),?_⟩;exact q o' l (a.more (by lia)) ⟨j,s⟩
def Bf{o:Ob}{m:Nat}{Z:Sto}{p k:Nat}{kept rs:List Nat}{r:Ev}{Q:D×Sto->Prop}(hm:m<=8)(t:rs.length=m)(hp:Z[p]? = wq (.lst (nmD (List.range m))))(hk:Z[k]? = wq (.lst (nmD kept)))(h2:r[2]? = wq (wq (.tup (nmD rs))))(u:r[4]? = wq (wq (.ref (p+1))))(s:r[7]? = wq (wq (.ref (k+1))))(q:∀l,Rms m l->Q (.ref (Z.length+1),o::(Z++[.lst (nmD l)]))):W (eG 1 [2,7] (gJ (mV 4)) (gN 0) (mB (m2 (b2 mW) (m2 (b2 dt) (mV 1) (mV 0)) (mV 2))) (d9 (mV 0)) r (o::Z)) Q:=by
 have y:mV 4 r (o::Z)=wq (.ref (p+1),o::Z):=by unfold mV;rw[u]
 have n:(o::Z)[p+1]?=wq (.lst (nmD (List.range m))):=by rw[gC1];exact hp
 have w:(o::Z)[k+1]?=wq (.lst (nmD kept)):=by rw[gC1];exact hk
 rw[lI,md,y,dr];refine dV n ?_;have j:l0 1 [2,7] r=[aj,wq (.tup (nmD rs)),wq (.ref (k+1))]:=by
  simp[l0,h2,s]
 rw[j];refine io (λi a r S=>∃l x,i<=m/\a=nmD l/\(∀x∈l,x<m)/\l.length<=i/\S=o::Z/\r=[x,wq (.tup (nmD rs)),wq (.ref (k+1))]) _ 0 [] _ _ ⟨[],_,by lia,ag,λx h=>(by cases h),by simp,ag,ag⟩ ?_ ?_ ?_
 ·rintro i a r S ⟨l,x,_,_,_,_,rfl,_⟩;exact eZ n
 ·rintro i d f a r S ⟨l,x,hi,rfl,c,g,rfl,rfl⟩;dsimp only at f;have b:=(gE1.mp f).1;rw[d3,cg]at b;rw[nmD,gP1,b9 b]at f;cases f;rw[bG]at *
  walk_at"w";refine lH (i:=i) (x:=.int (rs.getD i 0:Nat)) (by rw[nmD,gP1,bB,gG1 (by lia)];rfl) ?_
  ((try walk_at"w");repeat(simp only[G7 w];try walk_at"w"))
  split
  ·refine⟨l++[i],_,by lia,lf,λx v=>?_,by rw[lA1];simp;lia,ag⟩;rcases ay.mp v with h|h
   ·exact c x h
   ·rw[cb]at h;subst h;exact b
  ·exact⟨l,_,by lia,ag,c,by lia,ag⟩
 ·rintro xs r S ⟨l,x,hi,e,c,g,rfl,rfl⟩;rw[cH]at e;subst e;dsimp only at g hi;rw[d3,cg,bG]at g hi;refine⟨dz (by dsimp only;rw[d3];lia),?_⟩;exact q l ⟨c,g⟩
structure HS (m N:Nat)(G:Sto)(ks:List Nat):Prop where
 at_:∀k∈ks,∃l,G[k]?=some (.lst (nmD l))/\Rms m l
 up:ks.Pairwise (· < ·)
def HS.snoc{m N:Nat}{G i:Sto}{ks:List Nat}{l:List Nat}(h:HS m N G ks)(n:Rms m l):HS m N (G++i++[.lst (nmD l)]) (ks++[(G++i).length]):=by
 refine⟨λk c=>?_,?_⟩
 ·rcases ay.mp c with c|c
  ·obtain⟨g,e,d⟩:=h.at_ k c;have:=(gE1.mp e).1;exact⟨g,by rw[bw,gL1 this];exact e,d⟩
  ·rw[cb]at c;subst c;exact⟨l,by rw[dy];rfl,n⟩
 ·rw[List.pairwise_append];refine⟨h.up,List.pairwise_singleton _ _,λa j b f=>?_⟩;rw[cb]at f;subst f;obtain⟨g,e,_⟩:=h.at_ a j;have:=(gE1.mp e).1;rw[lA1];lia
def zj{m n i:Nat}{w:dq}{rs ks:List Nat}{o:Ob}{T G:Sto}{x3 x6 I:Option D}{Q:Fl×Ev×Sto->Prop}(hm:m<=8)(y:rs.length=m)(ho:Hnd o n)(hn:n<=2^39)(h2:HS m T.length G ks)(M:ks.length<=2)(q:∀o' a g H,Hnd o' (n+20)->HS m T.length a g->g.length=ks.length+1->Q (.nx,[some (.ref 0),some (webD w),some (.tup (nmD rs)),x3,some (.ref (T.length+1)),some (.ref (T.length+2)),x6,H,none,none,none],o'::(T ++ .lst (nmD (List.range m)) :: .lst (g.map fun k=>D.ref (T.length+3+k))::a))):
  W (ge [wq (.ref 0),wq (webD w),wq (.tup (nmD rs)),x3,wq (.ref (T.length+1)),wq (.ref (T.length+2)),x6,I,aj,aj,aj] (o::(T ++ .lst (nmD (List.range m)) :: .lst (ks.map λk=>D.ref (T.length+3+k))::G))) Q:=by
 generalize K:Ob.lst (nmD (List.range m))=A;have v:∀Y,(T++A::Y)[T.length]?=wq (.lst (nmD (List.range m))):=λY=>by rw[dy,<- K];rfl
 have J:∀(o X:Ob) (Y:Sto),(o::(T++A::X::Y))[T.length+2]?=wq X:=λo X Y=>by rw[gC1,ej];rfl
 have st:∀(o X B:Ob) (Y:Sto),(o::(T++A::X::Y)).set (T.length+2) B=o::(T++A::B::Y):=λo X B Y=>by
  rw[ck,cP _ _ (by lia),show T.length+1-T.length=1 by lia];rfl
 generalize F:Ob.lst (ks.map λk=>D.ref (T.length+3+k))=X at *
 unfold ge eD;rw[dj];have s:W (mB (m2 (b2 gEq) (mN (dm 2 dn) (dh (mV 0) (dh (mC (D.int (3))) di))) (mC (D.int (0)))) [wq (.ref 0),wq (webD w),wq (.tup (nmD rs)),x3,wq (.ref (T.length+1)),wq (.ref (T.length+2)),x6,I,aj,aj,aj] (o::(T++A::X::G))) λp=>∃o',Hnd o' (n+1)/\p.2=o'::(T++A::X::G):=by
  walk_at"w";refine ga ho (by lia) (by lia) (by lia) λc z d hc=>?_;walk_at"w";exact⟨z,d,ag⟩
 -- the last step of both
 have j:∀(o':Ob) (a:Sto) (l:List Nat) (u:Option D),Hnd o' (n+20)->Rms m l->W (gK (.ref (T.length+2)) (.ref ((T++A::X::(G++a)).length+1)) (o'::((T++A::X::(G++a))++[.lst (nmD l)]))) λp=>Q (.nx,[wq (.ref 0),wq (webD w),wq (.tup (nmD rs)),x3,wq (.ref (T.length+1)),wq (.ref (T.length+2)),x6,u,aj,aj,aj],p.2):=λo' a l u E h=>by
  have N:o'::((T++A::X::(G++a))++[Ob.lst (nmD l)])=o'::(T++A::X::(G++a++[.lst (nmD l)])):=by simp
  rw[N];refine(je (xs:=ks.map λk=>D.ref (T.length+3+k)) (by rw[J,F])).mpr ⟨dz (by rw[lM1];lia),?_⟩;rw[st];have:=q o' (G++a++[.lst (nmD l)]) (ks++[(G++a).length]) u E (h2.snoc h) (by rw[lA1];rfl);rw[cv]at this;have el:(T++A::X::(G++a)).length+1=T.length+3+(G++a).length:=by simp;lia
  rw[el,<- K];exact this
 refine s.mono ?_;rintro⟨t,O⟩ ⟨z,d,e⟩;dsimp only at e ⊢;subst e;cases t with
 |true=>
  rw[if_pos ag];unfold eN;rw[dj];refine gM ?_;refine W.of (x:=(.ref (T.length+2),z::(T++A::X::G))) ag ?_;refine⟨T.length+2,_,ag,by rw[J,<- F],?_⟩;unfold dh;rw[dj];refine zl (p:=T.length) d (by lia) hm (v _) ag ag λf l b h=>?_;refine W.of ag ?_;have:=j f [] l I (b.more (by lia)) h;rw[aF]at this;exact this.mono λp C=>dr.mpr C
 |false=>
  rw[if_neg (by decide)];refine dJ (λr V=>∃f kept,Hnd f (n+9)/\V=f::(T++A::X::(G++[.lst (nmD kept)]))/\r=[wq (.ref 0),wq (webD w),wq (.tup (nmD rs)),x3,wq (.ref (T.length+1)),wq (.ref (T.length+2)),x6,wq (.ref ((T++A::X::G).length+1)),aj,aj,aj]) ?_ ?_
  ·unfold dD;rw[dj];refine zl (p:=T.length) d (by lia) hm (v _) ag ag λf l b h=>?_;refine W.of ag ⟨ag,f,l,b.more (by lia),by simp,ag⟩
  rintro r V ⟨f,kept,b,rfl,rfl⟩;unfold eN;rw[dj];refine gM ?_;refine W.of (x:=(.ref (T.length+2),f::(T++A::X::(G++[.lst (nmD kept)])))) ag ?_;refine⟨T.length+2,_,ag,by rw[J,<- F],?_⟩;unfold dh;rw[dj];have L:(T++A::X::(G++[Ob.lst (nmD kept)]))[(T++A::X::G).length]?=wq (.lst (nmD kept)):=by
   have:T++A::X::(G++[Ob.lst (nmD kept)])=(T++A::X::G)++[.lst (nmD kept)]:=by simp
   rw[this,dy];rfl
  refine Bf (p:=T.length) (k:=(T++A::X::G).length) hm y (v _) L ag ag ag λl h=>?_;refine W.of ag ?_;exact(j f [.lst (nmD kept)] l _ (b.more (by lia)) h).mono λp C=>dr.mpr C
def tR:∀l:List Nat,mE (nmD l)=wq (l.map λ(r:Nat)=>(r:Int))
 |[]=>rfl
 |x::l=>by
  show mE (.int x::nmD l)=_;rw[mE,tR l];rfl
def B9{m n:Nat}{S:Sto}{l:List Nat}(h:S[n]?=wq (.lst (nmD l)))(b:l.length<64)(hr:∀x∈l,x<m):∃ws:List Nat,jE (.ref n) S=wq (.ref S.length,S++[.lst (nmD ws)])/\(∀x∈ws,x<m)/\ws.length=l.length:=by
 have a:=gm (l.map λ(r:Nat)=>(r:Int));refine⟨(i7 (l.map λ(r:Nat)=>(r:Int))).map Int.toNat,?_,λx c=>?_,by rw[lM1,a.length_eq,lM1]⟩
 ·unfold jE;rw [gb h];dsimp only;rw [tR];dsimp only;rw [if_pos (by rw [lM1];exact b)];have e:(i7 (l.map fun (r:Nat)=>(r:Int))).map D.int=nmD ((i7 (l.map fun (r:Nat)=>(r:Int))).map Int.toNat):=by
   rw[nmD,bj];refine cA λi hi=>?_;obtain⟨k,_,rfl⟩:=b5.mp (a.mem_iff.mp hi);rfl
  rw[e]
 ·obtain⟨i,hi,rfl⟩:=b5.mp c;obtain⟨k,d,rfl⟩:=b5.mp (a.mem_iff.mp hi);rw[Int.toNat_natCast];exact hr k d
def B8{m n:Nat}{w:dq}{rs:List Nat}{a:Int}{o:Ob}{T:Sto}{Q:D×Sto->Prop}(hw:WebJ m w)(hm0:0<m)(hm:m<=8)(hrs:rs.length=m)(ho:Hnd o n)(hn:n<=2^38)(hT:T.all (Ob.und (T.length+1))=ai)(q:∀ws cs o',Hnd o' (n+50)->(∀x∈ws,x<m)->ws.length<=20->cs.length<=8->Q (stD ws cs,o'::T)):W (dm 4 fj [.ref 0,webD w,.tup (nmD rs),.int a] (o::T)) Q:=by
 refine ug ag ag hT ?_;unfold fj;refine ji ?_;unfold jd;refine dJ (λr V=>V=o::(T++[.lst (nmD (List.range m))])/\r=[wq (.ref 0),wq (webD w),wq (.tup (nmD rs)),wq (.int a),wq (.ref (T.length+1)),aj,aj,aj,aj,aj,aj]) ?_ ?_
 ·unfold dD;rw[dj];refine ET (k:=m) (S1:=o::T) ?_ (by lia) ?_
  ·unfold e9;simp only[dh,di,mN,mV,b1,mP1,a0,gC1,cF,oS1,lm,hw.len]
  rw[lc];exact W.of ag ⟨ag,ag,ag⟩
 rintro r V ⟨rfl,rfl⟩;refine dJ (λr V=>V=o::(T ++ .lst (nmD (List.range m)) :: .lst (([]:List Nat).map λk=>D.ref (T.length+3+k))::[])/\r=[wq (.ref 0),wq (webD w),wq (.tup (nmD rs)),wq (.int a),wq (.ref (T.length+1)),wq (.ref (T.length+2)),aj,aj,aj,aj,aj]) ?_ ?_
 ·walk_at"w"
  try exact⟨ag,trivial⟩
 rintro r V ⟨rfl,rfl⟩;refine dJ (λr V=>∃o' G b c C J x6 y,Hnd o' (n+40)/\b<c/\G[b]?=wq (.lst (nmD C))/\Rms m C/\G[c]?=wq (.lst (nmD J))/\Rms m J/\V=o'::(T ++ .lst (nmD (List.range m)) :: .lst [.ref (T.length+3+b),.ref (T.length+3+c)]::G)/\r=[wq (.ref 0),wq (webD w),wq (.tup (nmD rs)),wq (.int a),wq (.ref (T.length+1)),wq (.ref (T.length+2)),x6,y,aj,aj,aj]) ?_ ?_
 ·unfold eT;rw[dj,w8];refine W.of (x:=([.int 2],_)) ag ?_;refine⟨sd (by decide) (by decide),?_⟩;refine eA (λi r V=>∃o' G ks x6 y,i<=2/\Hnd o' (n+20*i)/\HS m T.length G ks/\ks.length=i/\V=o'::(T ++ .lst (nmD (List.range m)) :: .lst (ks.map λk=>D.ref (T.length+3+k))::G)/\r=[wq (.ref 0),wq (webD w),wq (.tup (nmD rs)),wq (.int a),wq (.ref (T.length+1)),wq (.ref (T.length+2)),x6,y,aj,aj,aj]) _ 0 _ _ ⟨o,[],[],_,_,by lia,ho,⟨λk hk=>(by cases hk),List.Pairwise.nil⟩,ag,ag,ag⟩ (λ_ _ _ _=>rfl) ?_ ?_
  ·rintro i d z r V ⟨o',G,ks,x6,y,hi,I,h2,u,rfl,rfl⟩;have g:=(gE1.mp z).1;rw[eK]at g;have g:i<2:=g;rw[bG]at *
   refine W.of ag ?_;refine zj (i:=0) hm hrs I (by lia) h2 (by lia) λf G2 ks2 x7' s h22 hk2=>?_;exact⟨ag,f,G2,ks2,_,_,by lia,s.more (by lia),h22,by lia,ag,ag⟩
  ·rintro r V ⟨o',G,ks,x6,y,hi,I,h2,u,rfl,rfl⟩;have u:ks.length=2:=u
   match ks,u with
   |[b,c],_=>
    obtain⟨C,U,R⟩:=h2.at_ b (by simp);obtain⟨J,e2,r2⟩:=h2.at_ c (by simp);have L:=h2.up;rw[b0]at L;exact⟨ag,o',G,b,c,C,J,_,_,I.more (by rw[eK];show n+20*(0+2)<=n+40;lia),L.1 c (by simp),U,R,e2,r2,ag,ag⟩
 rintro r V ⟨o1,G,b,c,C,J,x6,y,ho1,M,U,R,e2,r2,rfl,rfl⟩;generalize hA:Ob.lst (nmD (List.range m))=A;generalize hX:Ob.lst [D.ref (T.length+3+b),D.ref (T.length+3+c)]=X;have gG:∀(o:Ob) (Y:Sto) (k:Nat) (x:Ob),(G++Y)[k]?=wq x->(o::(T++A::X::(G++Y)))[T.length+3+k]?=wq x:=λo Y k x e=>by
  rw[show T.length+3+k=T.length+(k+1+1)+1 by lia,gC1,ej,gC1,gC1];exact e
 have gl:∀{k:Nat} {x:Ob} (Y:Sto),G[k]?=wq x->(G++Y)[k]?=wq x:=λ{k x} Y e=>by rw[gL1 (gE1.mp e).1];exact e
 have gs:∀(o:Ob) (Y:Sto),(o::(T++A::X::Y))[T.length+2]?=wq (.lst [D.ref (T.length+3+b),D.ref (T.length+3+c)]):=λo Y=>by rw[gC1,ej,<- hX];rfl
 -- walkers and chalk
 refine dJ (λr V=>∃o' kc F,Hnd o' (n+41)/\b<kc/\F.length<=8/\(G++[.lst [],.lst [.ref (T.length+3+c),.ref (T.length+3+G.length)]])[kc]?=wq (.lst (nmD F))/\V=o'::(T++A::X::(G++[.lst [],.lst [.ref (T.length+3+c),.ref (T.length+3+G.length)]]))/\r=[wq (.ref 0),wq (webD w),wq (.tup (nmD rs)),wq (.int a),wq (.ref (T.length+1)),wq (.ref (T.length+2)),x6,y,wq (.ref (T.length+3+b)),wq (.ref (T.length+3+kc)),aj]) ?_ ?_
 ·have i0:∀ (o:Ob) (Y:Sto),dt (.ref (T.length+2)) (.int 0) (o::(T++A::X::Y))=some (.ref (T.length+3+b),o::(T++A::X::Y)):=fun o Y=>by
   obtain⟨p,e,rfl⟩:=iN (i:=0) (x:=.ref (T.length+3+b)) (Q:=λp=>p=(.ref (T.length+3+b),o::(T++A::X::Y))) (gs o Y) ag ag;exact e
  have i1:∀(o:Ob) (Y:Sto),dt (.ref (T.length+2)) (.int 1) (o::(T++A::X::Y))=wq (.ref (T.length+3+c),o::(T++A::X::Y)):=λo Y=>by
   obtain⟨p,e,rfl⟩:=iN (i:=1) (x:=.ref (T.length+3+c)) (Q:=λp=>p=(.ref (T.length+3+c),o::(T++A::X::Y))) (gs o Y) ag ag;exact e
  ((try walk_at"w");repeat(simp only[i0,i1];try walk_at"w"))
  refine ga ho1 (by lia) (by lia) (by lia) λd f s z=>?_;have eL:T.length+(G.length+2)+1=T.length+3+G.length:=by lia
  have eM:T.length+(G.length+2)+2=T.length+3+(G.length+1):=by lia
  have hk1:=(gE1.mp U).1;dsimp only;rw[eL,eM];have g2:=gG f [Ob.lst [],Ob.lst [D.ref (T.length+3+c),D.ref (T.length+3+G.length)]] (G.length+1) _ (by rw[ej];rfl)
  match d,z with
  |0,_=>
   refine iN (i:=0) (x:=.ref (T.length+3+c)) g2 ag ?_;exact⟨f,c,J,s,M,by have:=r2.2;lia,gl _ e2,ag,ag⟩
  |1,_=>
   refine iN (i:=1) (x:=.ref (T.length+3+G.length)) g2 ag ?_;exact⟨f,G.length,[],s,hk1,by simp,by rw[dy];rfl,ag,ag⟩
 rintro r V ⟨f,kc,F,s,hkc,hlc,ec,rfl,rfl⟩;obtain⟨G2,P⟩:∃G2,G2=G++[Ob.lst [],.lst [.ref (T.length+3+c),.ref (T.length+3+G.length)]]:=⟨_,ag⟩;have E:G2[b]?=wq (.lst (nmD C)):=by rw[P];exact gl _ U
 rw[<- P]at ec ⊢;clear gG gl gs;have gW:∀(l:List Nat) (Y:Sto),(f::(T++A::X::(G2.set b (.lst (nmD l))++Y)))[T.length+3+b]?=wq (.lst (nmD l)):=λl Y=>by
  have H:=(gE1.mp E).1;rw[show T.length+3+b=T.length+(b+1+1)+1 by lia,gC1,ej,gC1,gC1,gL1 (by rw[aP];exact H),aA H]
 have v:∀(l:List Nat),(f::(T++A::X::(G2.set b (.lst (nmD l)))))[T.length+3+b]?=wq (.lst (nmD l)):=λl=>by
  have:=gW l []
  rwa [aF]at this
 have gA:∀(Y:Sto),(f::(T++A::Y))[T.length+1]?=wq (.lst (nmD (List.range m))):=λY=>by rw[gC1,dy,<- hA];rfl
 have Z:∀(l l':List Nat),(f::(T++A::X::(G2.set b (.lst (nmD l))))).set (T.length+3+b) (.lst (nmD l'))=f::(T++A::X::(G2.set b (.lst (nmD l')))):=λl l'=>by
  rw[show T.length+3+b=(T.length+(b+1+1))+1 by lia,ck,cP _ _ (by lia),show T.length+(b+1+1)-T.length=b+1+1 by lia,ck,ck,List.set_set]
 have N:G2.set b (.lst (nmD C))=G2:=by
  refine bQ λj=>?_;by_cases h:b=j
  ·subst h;rw[aA (gE1.mp E).1,E]
  ·rw[gS1 h]
 refine dJ (λr V=>∃l x10,(∀x∈l,x<m)/\l.length<=16/\V=f::(T++A::X::(G2.set b (.lst (nmD l))))/\r=[wq (.ref 0),wq (webD w),wq (.tup (nmD rs)),wq (.int a),wq (.ref (T.length+1)),wq (.ref (T.length+2)),x6,y,wq (.ref (T.length+3+b)),wq (.ref (T.length+3+kc)),x10]) ?_ ?_
 ·walk_at"w";refine dV (gA _) ?_;refine eA (λi r V=>∃l x10,i<=m/\(∀x∈l,x<m)/\l.length<=m+i/\V=f::(T++A::X::(G2.set b (.lst (nmD l))))/\r=[wq (.ref 0),wq (webD w),wq (.tup (nmD rs)),wq (.int a),wq (.ref (T.length+1)),wq (.ref (T.length+2)),x6,y,wq (.ref (T.length+3+b)),wq (.ref (T.length+3+kc)),x10]) _ 0 _ _ ⟨C,_,by lia,R.1,by have:=R.2;lia,by rw[N],ag⟩ ?_ ?_ ?_
  ·rintro i r V ⟨l,x10,_,_,_,rfl,_⟩;exact eZ (gA _)
  ·rintro i d z r V ⟨l,x10,hi,K,H,rfl,rfl⟩;dsimp only at z;have g:=(gE1.mp z).1;rw[d3,cg]at g;rw[nmD,gP1,b9 g]at z;cases z;rw[bG]at *
   have B:∀S,u8 (.int a) (.int m) S=wq (.int (if(m:Int)<a then(m:Int)else a),S):=λS=>rfl;refine W.of ag ?_;unfold ig eD;rw[dj];have O:W (rh (mB (m2 (b2 gLt) (mN (b1 dM) (dh (mV 8) di)) (mN (b2 u8) (dh (mV 3) (dh (mN (b1 dM) (dh (mV 1) di)) di))))) (mB (m2 (b2 fu) (mV 10) (mV 8))) [wq (.ref 0),wq (webD w),wq (.tup (nmD rs)),wq (.int a),wq (.ref (T.length+1)),wq (.ref (T.length+2)),x6,y,wq (.ref (T.length+3+b)),wq (.ref (T.length+3+kc)),wq (.int (i:Nat))] (f::(T++A::X::(G2.set b (.lst (nmD l)))))) λp=>p.2=f::(T++A::X::(G2.set b (.lst (nmD l)))):=by
    walk_at"w";refine dV (v l) ?_
    ((try walk_at"w");repeat(simp only[lm];try walk_at"w"))
    rw[hw.len];generalize (if(m:Int)<a then(m:Int)else a)=mn at B
    ((try walk_at"w");repeat(simp only[B,xI (v l)];try walk_at"w"))
    split<;>trivial
   refine O.mono ?_;rintro⟨t,S1⟩ e;dsimp only at e ⊢;subst e;cases t with
   |true=>
    rw[if_pos ag];unfold eN;rw[dj];refine gM ?_;walk_at"w";refine⟨T.length+3+b,nmD l,ag,v l,?_⟩;refine(je (v l)).mpr ⟨dz (by rw[d3];lia),?_⟩;rw[lf,Z];refine⟨l++[i],_,by lia,λx hx=>?_,by rw[lA1];simp;lia,ag,ag⟩;rcases ay.mp hx with h|h
    ·exact K x h
    ·rw[cb]at h;subst h;exact g
   |false=>
    rw[if_neg (by decide)];exact W.of ag ⟨ag,l,_,by lia,K,by lia,ag,ag⟩
  ·rintro r V ⟨l,x10,hi,K,H,rfl,rfl⟩;dsimp only at H;rw[d3,cg,bG]at H;exact⟨ag,l,_,K,by lia,ag,ag⟩
 rintro r V ⟨l,x10,K,H,rfl,rfl⟩;obtain⟨ws,es,hws,hwl⟩:=B9 (m:=m) (v l) (by lia) K;have gc_:∀Y,(f::(T++A::X::(G2.set b (.lst (nmD l))++Y)))[T.length+3+kc]?=wq (.lst (nmD F)):=λY=>by
  have u:=(gE1.mp ec).1;rw[show T.length+3+kc=T.length+(kc+1+1)+1 by lia,gC1,ej,gC1,gC1,gL1 (by rw[aP];exact u),gS1 (by lia)];exact ec
 ((try walk_at"w");repeat(simp only[es];try walk_at"w"))
 have gws:(f::(T++A::X::(G2.set b (.lst (nmD l))++[Ob.lst (nmD ws)])))[T.length+3+G2.length]?=wq (.lst (nmD ws)):=by
  have hgl:(G2.set b (.lst (nmD l))).length=G2.length:=aP ..
  rw[show T.length+3+G2.length=T.length+(G2.length+1+1)+1 by lia,gC1,ej,gC1,gC1,<- hgl,dy];rfl
 refine dV (xs:=nmD ws) (by rw[<- gws];congr 1;simp;try lia) ?_;refine dV (xs:=nmD F) (gc_ _) ?_;walk_at"w";exact⟨stD ws F,f,A::X::(G2.set b (.lst (nmD l))++[.lst (nmD ws)]),ag,nz,s.und,q ws F f (s.more (by lia)) hws (by lia) hlc⟩
def rS:∀(ns acc:List Int),acc.Nodup->((ns.foldl step_dedup acc).length<=acc.length+ns.length/\((ns.foldl step_dedup acc).length=acc.length+ns.length↔(acc++ns).Nodup))
 |[],acc,h=>by simp[h]
 |n::ns,acc,h=>by
  rw[bW];by_cases c:n∈acc
  ·have e:step_dedup acc n=acc:=by
    unfold step_dedup;rw[if_pos (bJ.mpr ⟨n,c,by simp⟩)]
   rw[e];obtain⟨h1,h2⟩:=rS ns acc h;rw[lC1];refine⟨by lia,⟨λz=>by lia,λz=>?_⟩⟩;rw[bo]at z;exact(z.2.2 n c n mS1 ag).elim
  ·have e:step_dedup acc n=acc++[n]:=by
    unfold step_dedup;rw[if_neg (by rw[bJ];rintro⟨x,g,d⟩;exact c (by rw[<- beq_iff_eq.mp d];exact g))]
   rw[e];have hnd:(acc++[n]).Nodup:=by
    rw[bo];exact⟨h,by simp,λa i b f z=>by rw[cb]at f;subst f;subst z;exact c i⟩
   obtain⟨h1,h2⟩:=rS ns (acc++[n]) hnd;rw[lA1,aR,bw,List.singleton_append]at *
   rw[lC1];refine⟨by lia,?_⟩;rw[<- h2];constructor<;>intro z<;>lia
def yR{rs:List Nat}:(rs.map λ(r:Nat)=>(r:Int)).Nodup↔rs.Nodup:=by
 unfold List.Nodup;rw[List.pairwise_map];exact⟨λh=>h.imp λz e=>z (by rw[e]),λh=>h.imp λz e=>z (by lia)⟩
def yS{rs:List Nat}{S:Sto}{Q:D×Sto->Prop}(a:rs.length<=100)(q:Q (.bl (tf rs.Nodup),S)):W (dm 1 eF [.tup (nmD rs)] S) Q:=by
 refine iL ag (by rw[D.unds,D.und,fr];rfl) ?_;unfold eF;refine ji ?_;unfold i5;have e:gQ (.tup (nmD rs)) []=wq (.ref 0,[.iset (ddI (rs.map λ(r:Nat)=>(r:Int)))]):=by
  unfold gQ;rw[jQ];dsimp only;rw[Dw,oS1,if_pos (by rw[lM1];unfold scanBound;lia)];rfl
 ((try walk_at"w");repeat(simp only[e];try walk_at"w"))
 refine sm ag ?_;walk_at"w";refine⟨ag,?_⟩;have:((((ddI (rs.map λ(r:Nat)=>(r:Int))).length:Nat):Int) == (((nmD rs).length:Nat):Int))=tf rs.Nodup:=xm (by
  have:=(rS (rs.map λ(r:Nat)=>(r:Int)) [] bg).2;rw[aV,bG,lM1,cH,yR]at this;rw[beq_iff_eq,d3,<- this];unfold ddI;lia)
 rw[this];exact q
def lj{c:List (Nat×List D)}{g:FG}{b:FS}{Q:Fl×Ev×Sto->Prop}(I:Nat->Ev->Sto->Prop):∀ (items:List D) (k:Nat) (r:Ev) (S:Sto),I k r S ->
  (∀i r S,I i r S->oY S c=ai) ->
  (∀i d,items[i]?=wq d -> ∀r S,I (k+i) r S->W (g d r S) λp=>W (b p.1 p.2) λq=>(q.1 = .nx/\I (k+i+1) q.2.1 q.2.2) \/ ∃v,q.1 = .rt v/\Q (.rt v,q.2)) ->
  (∀r S,I (k+items.length) r S->Q (.nx,r,S))->W (jb c g b items r S) Q:=by
 intro items
 induction items with
 |nil=>intro k r S hi a _ j;rw[jb];dsimp only;rw[if_pos (a _ _ _ hi),dr];exact j r S (by simpa using hi)
 |cons d ds ih=>
  intro k r S hi a l j;rw[jb];dsimp only;rw[if_pos (a _ _ _ hi),dj];obtain⟨p,s,⟨f,n,u⟩,o,h⟩:=l 0 d ag r S (by simpa using hi);refine⟨p,s,?_⟩;dsimp only;rw[dj];refine⟨_,o,?_⟩;dsimp only at h ⊢;rcases h with⟨rfl,e⟩|⟨v,rfl,m⟩
  ·exact ih (k+1) n u e a (fun i d t r S e=>by
    have:=l (i+1) d t r S (by rw[show k+(i+1)=k+1+i by lia];exact e);rw[show k+(i+1)+1=k+1+i+1 by lia]at this;exact this) λr S e=>j r S (by rw[lC1,show k+(ds.length+1)=k+1+ds.length by lia];exact e)
  ·exact dr.mpr m
def Iq{a b:FS}{r:Ev}{S:Sto}{Q:Fl×Ev×Sto->Prop}(h:W (a r S) λp=>(p.1 = .nx/\W (b p.2.1 p.2.2) Q) \/ ∃v,p.1 = .rt v/\Q (.rt v,p.2)):W (dv a b r S) Q:=by
 obtain⟨⟨f,d,c⟩,e,h⟩:=h;unfold dv;rw[e];dsimp only at h;rcases h with⟨rfl,h⟩|⟨v,rfl,h⟩
 ·exact h
 ·exact dr.mpr h
def G8{c:FT}{m:FE}{b:FS}{r:Ev}{S:Sto}{Q:Fl×Ev×Sto->Prop}(C:Bool×Sto->Prop)(h1:W (c r S) C)(h2:∀V,C (ai,V)->W (m r V) λp=>Q (.rt p.1,r,p.2))(f:∀V,C (ah,V)->W (b r V) Q):W (dv (eD c (dW m) jg) b r S) Q:=by
 obtain⟨⟨t,V⟩,e,a⟩:=h1;unfold dv eD;simp only[e,oS1];cases t with
 |true=>
  rw[if_pos ag];unfold dW;rw[dj,dj];exact(h2 V a).mono λp d=>dr.mpr (dr.mpr d)
 |false=>
  rw[if_neg (by decide)];exact f V a
def fg{T:Ty}{m:FE}{r:Ev}{S:Sto}{Q:D×Sto->Prop}:W (iG T m r S) Q↔W (m r S) λp=>W (jB p.2 T p.1) λb=>Q (.bl b,p.2):=by
 unfold iG;rw[dj];simp only[kn]
def AQ{S:Sto}{T:Ty}{xs:List D}:jB S T (.tup xs)=wq (decide (T = .tuple)):=rfl
def AR{S:Sto}{T:Ty}{i:Int}:jB S T (.int i)=wq (decide (T = .int)):=rfl
def JU{m:FA}{r:Ev}{S:Sto}{xs ys:List D}{Q:yt×Sto->Prop}(hm:m r S=wq ([.tup xs,.tup ys],S))(q:Q (⟨uz xs ys,[]⟩,S)):W (Ju m r S) Q:=by
 refine W.of ?_ q;unfold Ju;rw[hm];rfl
def cw(cl ws:List Nat)(i:Nat):Nat:=cl.getD (ws.getD i 0) 0
def alD(i j:Nat)(cl:List Nat):D:=.tup [.str "alike",.int (i:Nat),.int (j:Nat),.tup (nmD cl)]
inductive Al (cl ws:List Nat):D->Prop
 |yes (i j:Nat) (h1:i<j) (h2:j<ws.length) (h3:cw cl ws i=cw cl ws j) (h4:∀i' j',i'<j'->j'<ws.length->(i'<i\/(i'=i/\j'<j))->cw cl ws i'≠cw cl ws j'):Al cl ws (alD i j cl)
 |no (h:∀i j,i<j->j<ws.length->cw cl ws i≠cw cl ws j):Al cl ws .non
def Al.und{a ws:List Nat}{d:D}(h:Al a ws d):d.und 0=ai:=by
 cases h with
 |no _=>rfl
 |yes i j _ _ _ _=>unfold alD;rw[D.und,D.unds,D.unds,D.unds,D.unds,D.und,D.und,D.und,D.und,fr];rfl
def BE{rs:List Nat}{i:Nat}{S:Sto}{Q:D×Sto->Prop}(hi:i<rs.length)(q:Q (.int (rs.getD i 0:Nat),S)):W (dt (.tup (nmD rs)) (.int i) S) Q:=
 lH (i:=i) (x:=.int (rs.getD i 0:Nat)) (by rw[nmD,gP1,bB,gG1 hi];rfl) q
def jX{m i:Nat}{rs:List Nat}(hm:0<m)(h:∀x∈rs,x<m):rs.getD i 0<m:=by
 rw[bB];cases e:rs[i]? with
 |none=>exact hm
 |some x=>exact h x (gM1 e)
def oC{m:Nat}{w:dq}{a:List Int}:(iu m w a).length=m:=by unfold iu;rw[lM1,cg]
def Hw{a b:Nat}:((a:Int) == (b:Int))=tf (a=b):=xm (by rw[beq_iff_eq];lia)
def D7{m:Nat}{w:dq}{ws cs:List Nat}{S:Sto}{Q:D×Sto->Prop}(hw:WebJ m w)(g:0<m)(hm:m<=8)(o:∀x∈ws,x<m)(A:ws.length<=20)(q:∀d,Al (iu m w (sgL m ws cs ah)) ws d->Q (d,S)):W (dm 2 li [webD w,stD ws cs] S) Q:=by
 refine iL ag (by rw[D.unds,d5,D.unds,nz];rfl) ?_;unfold li;refine ji ?_;unfold w4;generalize p:iu m w (sgL m ws cs ah)=cl at *
 have f:cl.length=m:=by rw[<- p];exact oC
 refine dJ (λr V=>V=[]/\r=[wq (webD w),wq (stD ws cs),wq (.tup (nmD ws)),wq (.tup (nmD cs)),aj,aj,aj]) ?_ ?_
 ·unfold stD;walk_at"w"
 rintro r V ⟨rfl,rfl⟩;refine dJ (λr V=>V=[]/\r=[wq (webD w),wq (stD ws cs),wq (.tup (nmD ws)),wq (.tup (nmD cs)),wq (.tup (nmD cl)),aj,aj]) ?_ ?_
 ·walk_at"w";refine rW (ws:=ws) hw hm ?_;walk_at"w";refine mJ hw g hm kQ ?_;rw[p]
  first|exact⟨rfl,rfl⟩|exact⟨rfl,trivial⟩|rfl
 rintro r V ⟨rfl,rfl⟩;refine Iq ?_;walk_at"w";rw[d3];refine⟨fR (by lia),?_⟩;rw[Int.toNat_natCast];refine lj (λi r V=>∃y x6,i<=ws.length/\(∀c a,c<a->a<ws.length->c<i->cw cl ws c≠cw cl ws a)/\V=[]/\r=[wq (webD w),wq (stD ws cs),wq (.tup (nmD ws)),wq (.tup (nmD cs)),wq (.tup (nmD cl)),y,x6]) _ 0 _ _ ⟨_,_,by lia,λc a _ _ h=>by lia,ag,ag⟩ (λ_ _ _ _=>rfl) ?_ ?_
 ·rintro i d l r V ⟨y,x6,hi,b,rfl,rfl⟩;have t:=(gE1.mp l).1;rw[eK]at t;rw[lc,gP1,b9 t]at l;cases l;rw[bG]at *
  walk_at"w";unfold pv;unfold eT;rw[dj];walk_at"w";rw[d3];refine⟨sd (by lia) (by lia),fR (by lia),?_⟩;have z:gz ((i:Int)+1) (((ws.length:Nat):Int)-((i:Int)+1)).toNat=(List.range (ws.length-(i+1))).map λk:Nat=>D.int ((i+1+k:Nat):Int):=by
   rw[m7,show(((ws.length:Nat):Int)-((i:Int)+1)).toNat=ws.length-(i+1) by lia];refine cA λk _=>?_
   push_cast;rfl
  rw[z];refine lj (λk r V=>∃x6,(∀a,i<a->a<i+1+k->cw cl ws i≠cw cl ws a)/\V=[]/\r=[wq (webD w),wq (stD ws cs),wq (.tup (nmD ws)),wq (.tup (nmD cs)),wq (.tup (nmD cl)),wq (.int (i:Nat)),x6]) _ 0 _ _ ⟨_,λa h h'=>by lia,ag,ag⟩ (λ_ _ _ _=>rfl) ?_ ?_
  ·rintro k d l r V ⟨x6,u,rfl,rfl⟩;have s:=(gE1.mp l).1;rw[lM1,cg]at s;rw[gP1,b9 s]at l;cases l;rw[bG]at *
   walk_at"w";unfold pw;walk_at"w";refine BE (by lia) ?_;refine BE (by rw[f];exact jX g o) ?_;refine BE (by lia) ?_;refine BE (by rw[f];exact jX g o) ?_;walk_at"w";rw[show((((cl.getD (ws.getD i 0) 0:Nat):Int) == ((cl.getD (ws.getD (i+1+k) 0) 0:Nat):Int)))=tf (cw cl ws i=cw cl ws (i+1+k))from Hw];by_cases v:cw cl ws i=cw cl ws (i+1+k)
   ·rw [oR v];walk_at"w";have e:Al cl ws (alD i (i+1+k) cl):=.yes i (i+1+k) (by lia) (by lia) v fun c a h1 h2 n=>by
     rcases n with n|⟨rfl,n⟩
     ·exact b c a h1 h2 n
     ·exact u a h1 n
    exact .inr ⟨_,ag,.inr ⟨_,ag,.inr ⟨_,ag,e.und,q _ e⟩⟩⟩
   ·rw[uK v];walk_at"w";refine .inl ⟨_,λa h1 h2=>?_,ag⟩;rcases(show a<i+1+k\/a=i+1+k by lia)with h|rfl
    ·exact u a h1 h
    ·exact v
  ·rintro r V ⟨x6,u,rfl,rfl⟩;rw[lM1,cg,bG]at u;refine .inl ⟨ag,_,_,by lia,λc a h1 h2 n=>?_,ag,ag⟩;rcases(show c<i\/c=i by lia)with h|rfl
   ·exact b c a h1 h2 h
   ·exact u a h1 (by lia)
 ·rintro r V ⟨y,x6,hi,b,rfl,rfl⟩;rw[eK,bG]at b;refine .inl ⟨ag,?_⟩
  try walk_at"w"
  have e:Al cl ws .non:=.no λi j h1 h2=>b i j h1 h2 (by lia);exact⟨ag,q _ e⟩
def Lc(cl:List Nat):D:=.tup [.str "colours",.tup (nmD cl)]
def Hk{a:List Nat}:(Lc a).und 0=ai:=by unfold Lc;rw[D.und,D.unds,D.unds,D.und,D.und,fr];rfl
inductive Nv (m:Nat)(w:dq)(ws cs:List Nat)(b:Bool):D->Prop
 |co (h:¬ (iu m w (sgL m ws cs true)).Nodup):Nv m w ws cs b (Lc (iu m w (sgL m ws cs true)))
 |al (d:D) (h:(iu m w (sgL m ws cs true)).Nodup) (hb:b=true) (hd:Al (iu m w (sgL m ws cs false)) ws d):Nv m w ws cs b d
 |no (h:(iu m w (sgL m ws cs true)).Nodup) (hb:b=false):Nv m w ws cs b .non
def CT{m:Nat}{w:dq}{ws cs:List Nat}{b:Bool}{S:Sto}{Q:D×Sto->Prop}(hw:WebJ m w)(a:0<m)(hm:m<=8)(g:∀x∈ws,x<m)(h:ws.length<=20)(q:∀d,Nv m w ws cs b d->Q (d,S)):W (dm 3 lh [webD w,stD ws cs,.bl b] S) Q:=by
 refine iL ag (by rw[D.unds,d5,D.unds,nz];rfl) ?_;unfold lh;refine ji ?_;unfold w1;refine dJ (λr V=>V=[]/\r=[wq (webD w),wq (stD ws cs),wq (.bl b),wq (.tup (nmD (iu m w (sgL m ws cs ai))))]) ?_ ?_
 ·walk_at"w";refine Bw hw hm ?_;walk_at"w";refine mJ hw a hm kQ ?_
  first|exact⟨rfl,rfl⟩|exact⟨rfl,trivial⟩|rfl
 rintro r V ⟨rfl,rfl⟩;have k:(iu m w (sgL m ws cs ai)).length=m:=oC;refine G8 (λt=>t=(!tf (iu m w (sgL m ws cs ai)).Nodup,[])) ?_ (λV e=>?_) λV e=>?_
 ·walk_at"w";refine yS (by lia) ?_;walk_at"w"
 ·injection e with c i;subst i;have f:¬ (iu m w (sgL m ws cs ai)).Nodup:=λz=>by rw[oR z]at c;cases c
  walk_at"w";exact⟨Hk,q _ (.co f)⟩
 ·injection e with c i;subst i;have f:(iu m w (sgL m ws cs ai)).Nodup:=Classical.byContradiction λz=>by rw[uK z]at c;cases c
  cases b with
  |true=>
   walk_at"w";refine D7 (cs:=cs) hw a hm g h λd j=>?_;exact⟨j.und,q d (.al d f ag j)⟩
  |false=>
   walk_at"w";exact⟨ag,q _ (.no f ag)⟩
def Bd(xs:List Int)(x:Int):ddI (xs++[x])=step_dedup (ddI xs) x:=by unfold ddI;rw[List.foldl_append];rfl
def wW{y:Int}:∀(xs a:List Int),y∈xs.foldl step_dedup a↔y∈a\/y∈xs
 |[],a=>by simp
 |x::xs,a=>by
  rw[bW,wW xs];unfold step_dedup;split
  ·rename_i h;obtain⟨z,b,e⟩:=bJ.mp h;have e:=beq_iff_eq.mp e;subst e;rw[aw];exact⟨λh=>h.elim .inl λh=>.inr (.inr h),λh=>h.elim .inl λh=>h.elim (λe=>.inl (e ▸ b)) .inr⟩
  ·rw[ay,cb,aw,or_assoc]
def wV{y:TK}:∀(xs a:List TK),y∈xs.foldl j5 a↔y∈a\/y∈xs
 |[],a=>by simp
 |x::xs,a=>by
  rw[bW,wV xs];unfold j5;split
  ·rename_i h;rw[aw];exact⟨λh=>h.elim .inl λh=>.inr (.inr h),λq=>q.elim .inl λq=>q.elim (λe=>.inl (e ▸ h)) .inr⟩
  ·rw[ay,cb,aw,or_assoc]
def DS(xs:List Int)(x:Int):(ddI (xs++[x])).length=(ddI xs).length+if x∈xs then 0 else 1:=by
 rw[Bd];unfold step_dedup;have a:x∈ddI xs↔x∈xs:=by unfold ddI;rw[wW];simp
 by_cases h:x∈xs
 ·rw[if_pos h,if_pos (bJ.mpr ⟨x,a.mpr h,by simp⟩)];rfl
 ·rw[if_neg h,if_neg λz=>?_,lA1];rfl;obtain⟨y,b,e⟩:=bJ.mp z;have e:=beq_iff_eq.mp e;subst e;exact h (a.mp b)
def DR(xs:List TK)(x:TK):(ddK (xs++[x])).length=(ddK xs).length+if x∈xs then 0 else 1:=by
 have e:ddK (xs++[x])=j5 (ddK xs) x:=by unfold ddK;rw[List.foldl_append];rfl
 rw[e];unfold j5;have a:x∈ddK xs↔x∈xs:=by unfold ddK;rw[wV];simp
 by_cases h:x∈xs
 ·rw[if_pos h,if_pos (a.mpr h)];rfl
 ·rw[if_neg h,if_neg λz=>h (a.mp z),lA1];rfl
def lV{α:Type}{f:Nat->α}{x:α}{i:Nat}:x∈(List.range i).map f ↔ ∃j,j<i/\f j=x:=by
 rw[b5];exact⟨λ⟨j,h,e⟩=>⟨j,ar.mp h,e⟩,λ⟨j,h,e⟩=>⟨j,ar.mpr h,e⟩⟩
def w6{f:Nat->TK}{g:Nat->Int}(h:∀ i j,f i=f j->g i=g j):∀ m:Nat,(ddI ((List.range m).map g)).length<=(ddK ((List.range m).map f)).length /\
  ((ddK ((List.range m).map f)).length=(ddI ((List.range m).map g)).length ↔ ∀i,i<m->(∃j,j<i/\g j=g i) -> ∃j,j<i/\f j=f i)
 |0=>⟨nR1 _,λ_ i hi=>absurd hi (bn _),λ_=>rfl⟩
 |m + 1=>by
  obtain⟨h1,h2⟩:=w6 h m;rw[cT,cv,cv,List.map_singleton,List.map_singleton,DS,DR];by_cases b:f m∈(List.range m).map f
  ·have a:g m∈(List.range m).map g:=by
    obtain⟨j,d,e⟩:=lV.mp b;exact lV.mpr ⟨j,d,h _ _ e⟩
   rw[if_pos b,if_pos a];refine⟨h1,h2.trans ⟨λq i hi c=>?_,λq i hi=>q i (by lia)⟩⟩;rcases bM i m with z|z
   ·exact q i z c
   ·have:i=m:=by lia
    subst this;exact lV.mp b
  ·rw[if_neg b];by_cases a:g m∈(List.range m).map g
   ·rw[if_pos a];refine⟨by lia,λq=>absurd q (by lia),λq=>?_⟩;exact absurd (lV.mpr (q m (br m) (lV.mp a))) b
   ·rw[if_neg a];refine⟨by lia,⟨λq i hi c=>?_,λq=>?_⟩⟩
    ·rcases bM i m with z|z
     ·exact h2.mp (by lia) i z c
     ·have:i=m:=by lia
      subst this;exact absurd (lV.mpr c) a
    ·rw[h2.mpr λi hi=>q i (by lia)]
def vc{α β:Type}{f:Nat->α}{g:Nat->β}{m:Nat}(h:∀i j,f i=f j->g i=g j):(∀i,i<m->(∃j,j<i/\g j=g i) -> ∃j,j<i/\f j=f i) ↔ ∀i j,i<m->j<m->g i=g j->f i=f j:=by
 constructor
 ·intro q;have c:∀ n i,i<n->i<m -> ∀ j,j<i->g j=g i->f j=f i:=by
   intro n
   induction n with
   |zero=>intro i hi;exact absurd hi (bn _)
   |succ n ih=>
    intro i hi d j b e;obtain⟨k,l,a⟩:=q i d ⟨j,b,e⟩;rcases cu k j with z|z|z
    ·exact(ih j (by lia) (by lia) k z ((h _ _ a).trans e.symm)).symm.trans a
    ·rw[<- z];exact a
    ·exact(ih k (by lia) (by lia) j z (e.trans (h _ _ a).symm)).trans a
  intro i j hi b e;rcases cu i j with z|z|z
  ·exact c (j+1) j (by lia) b i z e
  ·rw[z]
  ·exact(c (i+1) i (by lia) hi j z e.symm).symm
 ·rintro q i hi ⟨j,b,e⟩;exact⟨j,b,q j i (by lia) hi e⟩
abbrev HL:=Int×Int×List (Int×Nat)
def zD(e:Int×Nat):D:=.tup [.int e.1,.int (e.2:Nat)]
def zT(e:Int×Nat):TK:=.tup [.int e.1,.int (e.2:Nat)]
def BK(ts:List Int)(e:Nat×Nat):Int×Nat:=(gi ts e.1,e.2)
def lK(w:dq)(sg ts:List Int)(r:Nat):HL:=(gi ts r,gi sg r,(fh w r).map (BK ts))
def ll(x:HL):D:=.tup [.int x.1,.int x.2.1,.tup (x.2.2.map zD)]
def mS(x:HL):TK:=.tup [.int x.1,.int x.2.1,.tup (x.2.2.map zT)]
def Dg(x:HL):(ll x).und 0=ai:=by
 unfold ll;rw[D.und,D.unds,D.unds,D.unds,D.und,Mi.eJ (λ_ _=>rfl)];rfl
def Ey:∀l:List (Int×Nat),xU (l.map zD)=wq (l.map zT)
 |[]=>rfl
 |e::l=>by rw[mP1,xU,Ey l];rfl
def EI:∀l:List (Int×Nat),TK.depAll (l.map zT)<=2
 |[]=>by decide
 |e::l=>by
  have:=EI l;rw[mP1,TK.depAll];have:(zT e).dep=1:=rfl;lia
def Jp(x:HL):iI (ll x)=wq (mS x):=by
 have e:xU [.int x.1,.int x.2.1,.tup (x.2.2.map zD)]=wq [.int x.1,.int x.2.1,.tup (x.2.2.map zT)]:=by
  simp only[xU,kD,Ey,oP1,oS1]
 unfold ll;rw[iI,e,oS1,if_pos]
 ·rfl
 ·have:=EI x.2.2;simp[TK.dep,TK.depAll];lia
def yC:∀{a b:List (Int×Nat)},a.map zT=b.map zT->a=b
 |[],[],_=>rfl
 |[],_::_,h=>by cases h
 |_::_,[],h=>by cases h
 |x::a,y::b,h=>by
  rw[mP1,mP1]at h;injection h with h1 h2;unfold zT at h1;injection h1 with h1;injection h1 with c h1;injection h1 with d h1;injection c with c;injection d with d;rw[yC h2,show x=y from Prod.ext c (by lia)]
def tH{x y:HL}(h:mS x=mS y):x=y:=by
 unfold mS at h;injection h with h;injection h with c h;injection h with a h;injection h with b h;injection c with c;injection a with a;injection b with b;exact Prod.ext c (Prod.ext a (yC b))
def Ec(m:Nat)(w:dq)(sg ts:List Int):Prop:=∀i j,i<m->j<m->gi ts i=gi ts j->lK w sg ts i=lK w sg ts j
def DP(m:Nat)(w:dq)(a ts:List Int):(ddK ((List.range m).map λr=>mS (lK w a ts r))).length=(ddI ((List.range m).map (gi ts))).length↔Ec m w a ts:=by
 have h:∀i j,mS (lK w a ts i)=mS (lK w a ts j)->gi ts i=gi ts j:=λi j e=>by
  have:=tH e;exact congrArg (·.1) this
 rw[(w6 (f:=λr=>mS (lK w a ts r)) h m).2,vc h];exact⟨λq i j hi b e=>tH (q i j hi b e),λq i j hi b e=>congrArg mS (q i j hi b e)⟩
def wD(f:Nat->HL):∀l:List Nat,pB (l.map λr=>ll (f r))=wq (l.map λr=>mS (f r))
 |[]=>rfl
 |r::l=>by rw[mP1,pB,Jp,oS1,wD f l];rfl
def Cf{ts:List Int}{m:Nat}(h:ts.length=m):(List.range m).map (gi ts)=ts:=by
 subst h;apply bQ;intro i;rw[gP1];by_cases hi:i<ts.length
 ·rw[b9 hi,gG1 hi];unfold gi;rw[oP1,bB,gG1 hi];rfl
 ·rw[bR (by simpa using hi),bR (by lia)];rfl
def AG{m:Nat}{w:dq}{g b:List Int}(hw:WebJ m w)(hm:m<=8)(hs:g.length=m)(ht:b.length=m):W (gf [webD w,sgD g,sgD b] []) λp=>∃k,p.1 = .ref k/\p.2[k]?=wq (.lst ((List.range m).map λr=>ll (lK w g b r)))/\p.2.all (Ob.und 0)=ai:=by
 unfold gf;refine ji ?_;unfold sf;refine dJ (λr V=>V=[.lst []]/\r=[wq (webD w),wq (sgD g),wq (sgD b),wq (.ref 0),aj,aj,aj]) ?_ ?_
 ·walk_at"w"
  try exact⟨ag,trivial⟩
 rintro r V ⟨rfl,rfl⟩;refine dJ (λr V=>∃G j h x6,G.all (Ob.und 0)=ai/\V = .lst ((List.range m).map λr=>ll (lK w g b r))::G/\r=[wq (webD w),wq (sgD g),wq (sgD b),wq (.ref 0),j,h,x6]) ?_ ?_
 ·unfold eT;rw[dj];refine oN (xs:=w.map λa=>.tup (a.map pD)) ag ?_;refine eA (λi r V=>∃G j h x6,i<=m/\G.all (Ob.und 0)=ai/\V = .lst ((List.range i).map λr=>ll (lK w g b r))::G/\r=[wq (webD w),wq (sgD g),wq (sgD b),wq (.ref 0),j,h,x6]) _ 0 _ _ ⟨[],_,_,_,by lia,ag,ag,ag⟩ (λ_ _ _ _=>rfl) ?_ ?_
  ·rintro i B q r V ⟨G,j,h,x6,hi,l,rfl,rfl⟩;rw[fP,gP1]at q;obtain⟨z,v,rfl⟩:=oM1.mp q;obtain⟨a,c,rfl⟩:=oM1.mp v;have o:i<m:=by rw[<- hw.len];exact(gE1.mp c).1
   have A:=hw.le i a c;rw[bG]at *
   walk_at"w";unfold lS;refine dJ (λr V=>V = .lst ((List.range i).map λr=>ll (lK w g b r))::(G++[.lst (a.map λe=>zD (BK b e))])/\r=[wq (webD w),wq (sgD g),wq (sgD b),wq (.ref 0),wq (.int (i:Nat)),wq (.tup (a.map pD)),wq (.tup (a.map λe=>zD (BK b e)))]) ?_ ?_
   ·walk_at"w";rw[ku];refine j1 (f:=pD) (λe=>zD (BK b e)) (λs=>∃t u,s=[t,u,wq (sgD b)]) ag a _ ⟨_,_,ag⟩ ?_ ?_
    ·rintro e y s ⟨t,u,rfl⟩;obtain⟨d,x⟩:=bh y;have:=hw.to i d e ⟨a,c,x⟩;rw[pD];walk_at"w";refine Bz ht this ?_;walk_at"w";exact⟨ag,_,_,ag⟩
    ·rintro s _;refine⟨dz (by rw[lM1];lia),?_⟩;walk_at"w";refine dV (xs:=a.map λe=>zD (BK b e)) (by rw[gC1,dy];rfl) ?_
     first|exact⟨rfl,rfl⟩|exact⟨rfl,trivial⟩|rfl
   rintro r V ⟨rfl,rfl⟩;unfold eN;rw[dj];refine gM ?_;walk_at"w";refine⟨0,(List.range i).map λr=>ll (lK w g b r),ag,ag,?_⟩;refine Bz ht o ?_;walk_at"w";refine Bz hs o ?_;walk_at"w";refine(je (n:=0) (xs:=(List.range i).map λr=>ll (lK w g b r)) ag).mpr ⟨dz (by rw[lM1,cg];lia),?_⟩;refine⟨G++[.lst (a.map λe=>zD (BK b e))],_,_,_,by lia,?_,?_,ag⟩
   ·rw[cC,l,bH,Ob.und,Mi.eJ (λ_ _=>rfl)];rfl
   ·have e:ll (lK w g b i)=D.tup [D.int (gi b i),D.int (gi g i),D.tup (a.map fun e=>zD (BK b e))]:=by
     unfold lK;rw[qq c,ll,bj];rfl
    rw[cT,cv,mP1,e];rfl
  ·rintro r V ⟨G,j,h,x6,hi,l,rfl,rfl⟩;rw[fO,lM1,bG,hw.len];exact⟨ag,G,_,_,_,l,ag,ag⟩
 rintro r V ⟨G,j,h,x6,l,rfl,rfl⟩;walk_at"w";refine⟨0,ag,ag,?_⟩;rw[bH,l,Ob.und,Mi.eJ (λ_ _=>Dg _)];rfl
def iO(S:Sto):Prop:=S.all (Ob.und S.length)=ai
mutual
def vd(S:Sto):D->Bool
 | .non=>ai
 | .bl _=>ai
 | .int _=>ai
 | .str _=>ai
 | .tup xs=>fH S xs
 | .rol xs=>fH S xs
 | .ref n=>match S[n]? with
  |some (.lst _)=>ai
  |some (.dct _)=>ai
  |some (.dcT _)=>ai
  |_=>ah
 | .fn _=>ah
def fH(S:Sto):List D->Bool
 |[]=>ai
 |d::ds=>vd S d&&fH S ds
end
mutual
def HW{S T:Sto}:∀{d:D},vd S d=ai->d.und 0=ai->vd T d=ai
 | .non,_,_=>by rw[vd]
 | .bl _,_,_=>by rw[vd]
 | .int _,_,_=>by rw[vd]
 | .str _,_,_=>by rw[vd]
 | .tup xs,v,h=>by rw[D.und]at h;rw[vd]at v ⊢;exact qf v h
 | .rol xs,v,h=>by rw[D.und]at h;rw[vd]at v ⊢;exact qf v h
 | .ref k,_,h=>by simp[D.und]at h
 | .fn x,v,_=>by simp[vd]at v
def qf{S T:Sto}:∀{ds:List D},fH S ds=ai->D.unds 0 ds=ai->fH T ds=ai
 |[],_,_=>by rw[fH]
 |d::ds,v,h=>by
  rw[D.unds,bA1]at h;rw[fH,bA1]at v;rw[fH,HW v.1 h.1,qf v.2 h.2];rfl
end
def iP{S:Sto}{d:D}:∀{ds:List D},fH S ds=ai->d∈ds->vd S d=ai
 |[],_,h=>by cases h
 |x::ds,h,m=>by
  rw[fH,bA1]at h;rcases aw.mp m with z|z
  ·rw[z];exact h.1
  ·exact iP h.2 z
def lz{n:Nat}{f:FN}{ds:List D}{S:Sto}{Q:D×Sto->Prop}(hn:ds.length=n)(b:iO S)(hv:fH S ds=ai)(h:∀T,iO T->fH T ds=ai->W (f ds T) λp=>(∃G,p.2=T++G)/\p.1.und 0=ai/\Q (p.1,S)):W (dm n f ds S) Q:=by
 cases hu:D.unds 0 ds with
 |true=>exact iL hn hu ((h [] rfl (qf hv hu)).mono λp q=>⟨q.2.1,q.2.2⟩)
 |false=>
  refine oE hn hu ((h S b hv).mono ?_);rintro⟨d,V⟩ ⟨⟨G,e⟩,a,q⟩;dsimp only at e a q;subst e;rw[rB a b];exact q
def EC:D->Bool
 | .tup _=>ai
 |_=>ah
def whD:D->Bool
 | .int _=>ai
 |_=>ah
def LG:D->Bool
 | .bl _=>ai
 |_=>ah
def nu{S:Sto}{d:D}(h:vd S d=ai):jB S .tuple d=wq (EC d):=by
 cases d with
 |ref n=>
  rw[vd]at h;rw[jB];split at h<;>first|(rename_i e;rw[e];rfl)|rfl|cases h
 |fn x=>simp[vd]at h
 |_=>rfl
def yV{S:Sto}{d:D}(h:vd S d=ai):jB S .int d=wq (whD d||LG d):=by
 cases d with
 |ref n=>
  rw[vd]at h;rw[jB];split at h<;>first|(rename_i e;rw[e];rfl)|rfl|cases h
 |fn x=>simp[vd]at h
 |_=>rfl
def vN{S:Sto}{d:D}(h:vd S d=ai):jB S .bool d=wq (LG d):=by
 cases d with
 |ref n=>
  rw[vd]at h;rw[jB];split at h<;>first|(rename_i e;rw[e];rfl)|rfl|cases h
 |fn x=>simp[vd]at h
 |_=>rfl
def Lw{S:Sto}{d:D}(h:vd S d=ai):fH S [d]=ai:=by rw[fH,fH,h];rfl
def vd1'{S:Sto}{d:D}{ds:List D}(h:fH S (d::ds)=ai):vd S d=ai:=iP h mS1
def vJ{d:D}{S:Sto}{Q:D×Sto->Prop}(c:iO S)(hv:vd S d=ai)(q:Q (.bl (whD d),S)):W (dm 1 eV [d] S) Q:=by
 refine lz ag c (Lw hv) λT _ a=>?_;have h1:=yV (vd1' a);have h2:=vN (vd1' a);unfold eV;refine ji ?_;unfold kC
 ((try walk_at"w");repeat(simp only[iG,h1,h2];try walk_at"w"))
 cases d with
 |int i=>exact⟨⟨[],(aF T).symm⟩,ag,q⟩
 |bl b=>exact⟨⟨[],(aF T).symm⟩,ag,q⟩
 |_=>exact⟨⟨[],(aF T).symm⟩,ag,q⟩
def JQ{f g:FN}{a b c:FE}{r:Ev}{S:Sto}{Q:D×Sto->Prop}:W (GM f g a b c r S) Q↔W (a r S) λp=>W (b r p.2) λq=>W (f [p.1,q.1] q.2) λt=>W (match t.1 with | .bl k=>if k=true then(c r t.2).bind λz=>g [q.1,z.1] z.2 else some (.bl false,t.2)|_=>none) Q:=by
 unfold GM;simp only[dj]
 try exact Iff.rfl
def gU{d:D}{S:Sto}{Q:D×Sto->Prop}(c:iO S)(hv:vd S d=ai)(q:Q (.bl (whD d),S)):W (dm 1 dN [d] S) Q:=by
 refine lz ag c (Lw hv) λT _ a=>?_;have h1:=yV (vd1' a);have h2:=vN (vd1' a);unfold dN;refine ji ?_;unfold i6
 ((try walk_at"w");repeat(simp only[iG,h1,h2];try walk_at"w"))
 cases d with
 |int i=>exact⟨⟨[],(aF T).symm⟩,ag,q⟩
 |bl b=>exact⟨⟨[],(aF T).symm⟩,ag,q⟩
 |_=>exact⟨⟨[],(aF T).symm⟩,ag,q⟩
def lB(m:Nat):D->Bool
 | .int i=>decide (0<=i)&&decide (i<m)
 |_=>ah
def D2{m:Nat}{d:D}(h:whD d=ah):lB m d=ah:=by
 cases d with
 |int i=>cases h
 |_=>rfl
def se{d:D}(h:whD d=ai):∃i,d = .int i:=by
 cases d with
 |int i=>exact⟨i,ag⟩
 |_=>cases h
def DW{r:Ev}{S:Sto}{m i:Nat}{j:Int}{c:FE}{Q:D×Sto->Prop}(hi:r[i]?=wq (wq (.int j)))(hc:c r S=wq (.int m,S))(q:Q (.bl (decide (0<=j)&&decide (j<m)),S)):W (GM (b2 (iX λi j=>decide (i<=j))) (b2 gLt) (mC (D.int (0))) (mV i) c r S) Q:=by
 have e:mV i r S=wq (.int j,S):=by unfold mV;rw[hi]
 rw[JQ];unfold mC;rw[dr];dsimp only;rw[e,dr];dsimp only;unfold b2 iX;dsimp only;rw[dr];dsimp only;cases h:decide (0<=j)with
 |false=>
  rw[if_neg (by decide),dr];rw[h]at q;exact q
 |true=>
  rw[if_pos ag,hc,dj,dr];rw[h]at q;exact W.of ag q
def lA{m:Nat}{d:D}{S:Sto}{Q:D×Sto->Prop}(e:iO S)(hv:vd S d=ai)(q:Q (.bl (lB m d),S)):W (dm 2 gr [d,.int m] S) Q:=by
 refine lz ag e (by rw[fH,hv,fH,fH,vd];rfl) λT c a=>?_;have b:=vd1' a;unfold gr;refine ji ?_;unfold oH;walk_at"w";refine vJ c b ?_;walk_at"w";cases hw:whD d with
 |false=>
  rw[if_neg (by decide)];rw[D2 hw]at q
  first|exact⟨⟨[],(aF T).symm⟩,rfl,q⟩|(rw[dr];exact⟨⟨[],(aF T).symm⟩,ag,q⟩)
 |true=>
  rw[if_pos ag];obtain⟨i,rfl⟩:=se hw;refine DW (m:=m) ag ag ?_
  try walk_at"w"
  exact⟨⟨[],(aF T).symm⟩,ag,q⟩
mutual
def bd(k:Nat):D->Bool
 | .tup xs=>decide (xs.length<=k)&&yx k xs
 | .non=>ai
 | .bl _=>ai
 | .int _=>ai
 | .str _=>ai
 | .rol _=>ah
 | .ref _=>ai
 | .fn _=>ah
def yx(k:Nat):List D->Bool
 |[]=>ai
 |d::ds=>bd k d&&yx k ds
end
mutual
def wZ{k k':Nat}(h:k<=k'):∀{d:D},bd k d=ai->bd k' d=ai
 | .tup xs,q=>by
  rw[bd,bA1,decide_eq_true_eq]at q;rw[bd,uk h q.2,decide_eq_true (by lia)];rfl
 | .non,_=>by rw[bd]
 | .bl _,_=>by rw[bd]
 | .int _,_=>by rw[bd]
 | .str _,_=>by rw[bd]
 | .rol _,q=>by simp[bd]at q
 | .ref _,_=>by rw[bd]
 | .fn _,q=>by simp[bd]at q
def uk{k k':Nat}(h:k<=k'):∀{ds:List D},yx k ds=ai->yx k' ds=ai
 |[],_=>by rw[yx]
 |d::ds,q=>by
  rw[yx,bA1]at q;rw[yx,wZ h q.1,uk h q.2];rfl
end
def i4{k:Nat}:∀xs:List D,yx k xs=xs.all (bd k)
 |[]=>by rw[yx];rfl
 |x::xs=>by rw[yx,i4 xs];rfl
def uF{S:Sto}:∀xs:List D,fH S xs=xs.all (vd S)
 |[]=>by rw[fH];rfl
 |x::xs=>by rw[fH,uF xs];rfl
def m3{n:Nat}:∀xs:List D,D.unds n xs=xs.all (D.und n)
 |[]=>rfl
 |x::xs=>by rw[D.unds,m3 xs];rfl
structure Ok (k:Nat)(S:Sto)(d:D):Prop where
 v:vd S d=true
 u:d.und S.length=true
 b:bd k d=true
def Ok.tup{k:Nat}{S:Sto}{xs:List D}(b:xs.length<=k)(h:∀x∈xs,Ok k S x):Ok k S (.tup xs):=by
 refine⟨?_,?_,?_⟩
 ·rw[vd,uF,bq];exact λx a=>(h x a).v
 ·rw[D.und,m3,bq];exact λx a=>(h x a).u
 ·rw[bd,i4,bA1,decide_eq_true_eq,bq];exact⟨b,λx a=>(h x a).b⟩
def Ok.of{k:Nat}{S:Sto}{xs:List D}(h:Ok k S (.tup xs)):xs.length<=k /\ ∀x∈xs,Ok k S x:=by
 obtain⟨h1,h2,a⟩:=h;rw[vd,uF,bq]at h1;rw[D.und,m3,bq]at h2;rw[bd,i4,bA1,decide_eq_true_eq,bq]at a;exact⟨a.1,λx b=>⟨h1 x b,h2 x b,a.2 x b⟩⟩
def Ok.more{k k':Nat}{S:Sto}{d:D}(h:Ok k S d)(hk:k<=k'):Ok k' S d:=⟨h.v,h.u,wZ hk h.b⟩
mutual
def sD{k:Nat}{S:Sto}:∀{d:D},bd k d=ai->d.und 0=ai->vd S d=ai
 | .non,_,_=>by rw[vd]
 | .bl _,_,_=>by rw[vd]
 | .int _,_,_=>by rw[vd]
 | .str _,_,_=>by rw[vd]
 | .tup xs,v,h=>by
  rw[D.und]at h;rw[bd,bA1]at v;rw[vd];exact yN v.2 h
 | .rol xs,v,h=>by simp[bd]at v
 | .ref k,_,h=>by simp[D.und]at h
 | .fn x,v,_=>by simp[bd]at v
def yN{k:Nat}{S:Sto}:∀{ds:List D},yx k ds=ai->D.unds 0 ds=ai->fH S ds=ai
 |[],_,_=>by rw[fH]
 |d::ds,v,h=>by
  rw[D.unds,bA1]at h;rw[yx,bA1]at v;rw[fH,sD v.1 h.1,yN v.2 h.2];rfl
end
def Ok.shut{k:Nat}{S:Sto}{d:D}(h:d.und 0=ai)(hb:bd k d=ai):Ok k S d:=⟨sD hb h,kM h,hb⟩
def Ok.lst{k n:Nat}{S:Sto}{xs:List D}(h:S[n]?=wq (.lst xs)):Ok k S (.ref n):=⟨by rw[vd,h],by rw[D.und,decide_eq_true_eq];exact(gE1.mp h).1,by rw[bd]⟩
def Ok.dct{k n:Nat}{S:Sto}{xs:List (Key×D)}(h:S[n]?=wq (.dct xs)):Ok k S (.ref n):=⟨by rw[vd,h],by rw[D.und,decide_eq_true_eq];exact(gE1.mp h).1,by rw[bd]⟩
def Ok.nm{k:Nat}{S:Sto}{rs:List Nat}(h:rs.length<=k):Ok k S (.tup (nmD rs)):=Ok.tup (by rw[d3];exact h) λx a=>by
 obtain⟨i,_,rfl⟩:=b5.mp a;exact .shut ag (by rw[bd])
mutual
def qg{S a:Sto}(h:∀n,vd S (.ref n)=ai->vd a (.ref n)=ai):∀{d:D},vd S d=ai->vd a d=ai
 | .non,_=>by rw[vd]
 | .bl _,_=>by rw[vd]
 | .int _,_=>by rw[vd]
 | .str _,_=>by rw[vd]
 | .tup xs,q=>by rw[vd]at q ⊢;exact nq h q
 | .rol xs,q=>by rw[vd]at q ⊢;exact nq h q
 | .ref n,q=>h n q
 | .fn x,q=>by simp[vd]at q
def nq{S a:Sto}(h:∀n,vd S (.ref n)=ai->vd a (.ref n)=ai):∀{ds:List D},fH S ds=ai->fH a ds=ai
 |[],_=>by rw[fH]
 |d::ds,q=>by
  rw[fH,bA1]at q;rw[fH,qg h q.1,nq h q.2];rfl
end
mutual
def yO{A B:Sto}:∀{d:D},vd (A++B) d=ai->d.und A.length=ai->vd A d=ai
 | .non,_,_=>by rw[vd]
 | .bl _,_,_=>by rw[vd]
 | .int _,_,_=>by rw[vd]
 | .str _,_,_=>by rw[vd]
 | .tup xs,q,u=>by rw[vd]at q ⊢;rw[D.und]at u;exact qc q u
 | .rol xs,q,u=>by rw[vd]at q ⊢;rw[D.und]at u;exact qc q u
 | .ref n,q,u=>by
  rw[D.und,decide_eq_true_eq]at u;rw[vd]at q ⊢;rw[gL1 u]at q;exact q
 | .fn x,q,_=>by simp[vd]at q
def qc{A B:Sto}:∀{ds:List D},fH (A++B) ds=ai->D.unds A.length ds=ai->fH A ds=ai
 |[],_,_=>by rw[fH]
 |d::ds,q,u=>by
  rw[fH,bA1]at q;rw[D.unds,bA1]at u;rw[fH,yO q.1 u.1,qc q.2 u.2];rfl
end
def Dz{o:Ob}{n:Nat}(h:Hnd o n):∃xs,o = .lst xs:=by
 obtain⟨g,m,c,rfl,_⟩:=h;exact⟨_,ag⟩
def Ok.on{k n n':Nat}{o o':Ob}{T G:Sto}{d:D}(h:Ok k (o::T) d)(ho:Hnd o' n'):Ok k (o'::(T++G)) d:=by
 refine⟨qg (λi hi=>?_) h.v,yT (by simp) h.u,h.b⟩;obtain⟨xs,rfl⟩:=Dz ho;cases i with
 |zero=>rw[vd];rfl
 |succ i=>
  rw[vd,gC1]at hi ⊢;cases e:T[i]? with
  |none=>rw[e]at hi;cases hi
  |some x=>
   rw[gL1 (gE1.mp e).1,e];rw[e]at hi;exact hi
abbrev ClT(T:Sto):Prop:=T.all (Ob.und (T.length+1))=ai
def Bn{m k n':Nat}{f:FN}{ds:List D}{o:Ob}{T:Sto}{Q:D×Sto->Prop}(hn:ds.length=m)(d:D.unds 0 ds=ah)(g:ClT T)(h:W (f ds (o::T)) λp=>∃x o' G,p=(x,o'::(T++G))/\Hnd o' n'/\ClT (T++G)/\Ok k (o'::(T++G)) x)(q:∀x o' G,Hnd o' n'->ClT (T++G)->Ok k (o'::(T++G)) x->Q (x,o'::(T++G))):W (dm m f ds (o::T)) Q:=by
 refine oE hn d (h.mono ?_);rintro p ⟨x,o',G,rfl,c,hc,b⟩;unfold gc;split
 ·rename_i a;have e:(o'::(T++G)).take (o::T).length=o'::(T++[]):=by rw[aF,lC1,cN,List.take_left]
  rw[e];refine q x o' [] c (by rw[aF];exact g) ⟨?_,?_,b.b⟩
  ·rw[bA1]at a;rw[aF];refine yO (A:=o'::T) (B:=G) (by rw[a0];exact b.v) ?_;have:=a.1
   rwa [lC1]at this
  ·rw[bA1]at a;rw[aF];have:=a.1
   rwa [lC1]at this
 ·exact q x o' G c hc b
def Bl{T G:Sto}(h:ClT T)(hg:∀o∈G,o.und ((T++G).length+1)=ai):ClT (T++G):=by
 rw[ClT,bq]at h ⊢;intro o a;rcases ay.mp a with a|a
 ·exact fJ (by rw[lA1];lia) (h o a)
 ·exact hg o a
def IF:∃B:Int,∀S:Sto,oh (.int 10) (.int 30) S=wq (.int B,S):=⟨10^30,λS=>by
 unfold oh;dsimp only;rw[if_pos ⟨by decide,by decide,by decide⟩];rfl⟩
def FH{o:Ob}{n k p:Nat}{T G:Sto}{L:List D}{r:Ev}{Q:D×Sto->Prop}(ho:Hnd o n)(hn:n<=2^40)(hp:(T++G)[p]? = wq (.lst L))(m:0<L.length)(j:L.length<=100)(h:r[0]? = wq (wq (.ref 0)))(h2:r[2]? = wq (wq (.ref (p+1))))(hx:∀ o',Hnd o' (n+1) -> ∀ x∈L,Ok k (o'::(T++G)) x)(q:∀x o',Hnd o' (n+1)->Ok k (o'::(T++G)) x->Q (x,o'::(T++G))):W (m2 (b2 dt) (mV 2) (mN (dm 2 dn) (dh (mV 0) (dh (mN (b1 dM) (dh (mV 2) di)) di))) r (o::(T++G))) Q:=by
 have f:∀o:Ob,(o::(T++G))[p+1]?=wq (.lst L):=λo=>by rw[gC1];exact hp
 have g:∀S:Sto,mV 0 r S=wq (.ref 0,S):=λS=>by unfold mV;rw[h]
 have e:∀S:Sto,mV 2 r S=wq (.ref (p+1),S):=λS=>by unfold mV;rw[h2]
 have el:dM (.ref (p+1)) (o::(T++G))=wq (.int L.length,o::(T++G)):=by unfold dM;rw[gb (f o)];rfl
 refine JR ?_;rw[e,dr];dsimp only;unfold mN dh;simp only[g,e,di,oS1,b1,el];refine ga ho (by lia) (by lia) (by lia) λd c b l=>?_;have a:d<L.length:=by lia
 unfold b2;refine iN (i:=d) (x:=L[d]) (f c) (gG1 a) ?_;exact q _ c b (hx c b _ (bK a))
def EK(k:Nat)(r:Ev)(o:Ob)(T:Sto)(e:FE):Prop:=∀G,ClT (T++G)->W (e r (o::(T++G))) λp=>∃G',p.2=o::(T++(G++G'))/\ClT (T++(G++G'))/\Ok k (o::(T++(G++G'))) p.1
def AK(k:Nat)(r:Ev)(o:Ob)(T:Sto)(n:Nat)(a:FA):Prop:=∀G,ClT (T++G)->W (a r (o::(T++G))) λp=>∃G',p.2=o::(T++(G++G'))/\ClT (T++(G++G'))/\p.1.length=n /\ ∀x∈p.1,Ok k (o::(T++(G++G'))) x
section
variable{k n N:Nat}{r:Ev}{o:Ob}{T:Sto}{e:FE}{a:FA}{d:D}
def d7(ho:Hnd o N)(h:∀S,e r S=wq (d,S))(hd:Ok k (o::T) d):EK k r o T e:=λG a=>by
 refine W.of (h _) ⟨[],by rw[aF],by rw[aF];exact a,?_⟩;rw[aF];exact hd.on (n:=N) ho
def dZ:AK k r o T 0 di:=λG a=>W.of ag ⟨[],by rw[aF],by rw[aF];exact a,ag,λx h=>by cases h⟩
def dk(ho:Hnd o N)(he:EK k r o T e)(ha:AK k r o T n a):AK k r o T (n+1) (dh e a):=λG i=>by
 unfold dh;rw[dj];refine(he G i).mono ?_;rintro⟨d,S⟩ ⟨G1,f,h1,h2⟩;dsimp only at f h2 ⊢;subst f;rw[dj];refine(ha (G++G1) h1).mono ?_;rintro⟨l,S⟩ ⟨G2,h,c,g,b⟩;dsimp only at h g b ⊢;subst h;rw[bw]at c b;refine dr.mpr ⟨G1++G2,by rw[bw],c,by rw[lC1,g],λx j=>?_⟩;rcases aw.mp j with z|z
 ·rw[z];have:=h2.on (n:=N) (G:=G2) ho
  rwa [bw,bw]at this
 ·exact b x z
def fI(ha:AK k r o T n a)(hn:n<=k)(hk:k<=1000):EK k r o T (dI a):=λG d=>by
 rw[sj];refine(ha G d).mono ?_;rintro⟨l,S⟩ ⟨G1,c,h1,h2,b⟩;dsimp only at c h2 b ⊢;subst c;exact⟨dz (by lia),G1,ag,h1,.tup (by lia) b⟩
def Ga{k:Nat}{S:Sto}{L:List D}(h:∀x∈L,Ok k S x):D.unds S.length L=ai:=by rw[m3,bq];exact λx a=>(h x a).u
def l9(b:ClT T){L:List D}(h:∀x∈L,Ok k (o::T) x):ClT (T++[.lst L]):=Bl b λx a=>by
 rw[cb.mp a,Ob.und];refine ic ?_ (Ga h);simp
def ww(ha:AK k r o T n a)(hn:n<=1000)(G:Sto)(e:ClT (T++G)):W (eH a r (o::(T++G))) λp=>∃b L,p=(.ref (T++(G++b)).length.succ,o::(T++(G++b)++[.lst L]))/\ClT (T++(G++b)++[.lst L])/\L.length=n /\ ∀x∈L,Ok k (o::(T++(G++b))) x:=by
 rw[BB];refine(ha G e).mono ?_;rintro⟨l,S⟩ ⟨G1,d,h1,h2,c⟩;dsimp only at d h2 c ⊢;subst d;exact⟨dz (by lia),G1,l,ag,l9 h1 c,h2,c⟩
def oz(ho:Hnd o N)(ha:AK k r o T n a)(hn:n<=1000):EK k r o T (eH a):=λG b=>by
 refine(ww ha hn G b).mono ?_;rintro p ⟨G1,L,rfl,h1,h2,c⟩;refine⟨G1++[.lst L],by simp,by simpa using h1,.lst (xs:=L) ?_⟩;rw[cB,gC1,show T++(G++(G1++[Ob.lst L]))=(T++(G++G1))++[Ob.lst L] by simp,dy];rfl
def rR:EK k r o T im:=λG a=>by
 refine W.of (x:=(.ref (T++G).length.succ,o::(T++G++[.dct []]))) ag ⟨[.dct []],by simp,?_,.dct (xs:=[]) ?_⟩
 ·rw[<- bw];exact Bl a λx b=>by rw[cb.mp b];rfl
 ·rw[cB,gC1,<- bw,dy];rfl
def iZ(ho:Hnd o N)(h:d.und 0=ai)(hb:bd k d=ai):EK k r o T (mC d):=d7 ho (λ_=>rfl) (.shut h hb)
end
def Be{xs:List D}{lo hi:Option Int}:(∀x∈Mi.iK xs lo hi,x∈xs)/\(Mi.iK xs lo hi).length<=xs.length:=by
 unfold Mi.iK;refine⟨λx a=>cj (ci a),?_⟩;rw[aK,aO];lia
inductive Pk (k:Nat)(o:Ob)(T:Sto)(d:D)(n:Nat):Ev->Sto->Prop
 |mk (G:Sto) (L:List D) (p:Nat):(T++G)[p]?=some (.lst L)->L.length=n->ClT (T++G)->(∀x∈L,Ok k (o::(T++G)) x)->Pk k o T d n [some (.ref 0),some d,some (.ref (p+1))] (o::(T++G))
section
variable{k n m N:Nat}{r:Ev}{o:Ob}{T:Sto}{a:FA}{d:D}{S:Sto}
def zt{x2:Option D}(G:Sto)(b:ClT (T++G))(ho:Hnd o N)(ha:AK k [wq (.ref 0),wq d,x2] o T n a)(hn:n<=1000):W (dD (eH a) (gN 2) [wq (.ref 0),wq d,x2] (o::(T++G))) λp=>p.1 = .nx/\Pk k o T d n p.2.1 p.2.2:=by
 unfold dD;rw[dj];refine(ww ha hn G b).mono ?_;rintro p ⟨G1,L,rfl,h1,h2,c⟩;refine W.of ag ⟨ag,?_⟩;have e:T++(G++G1)++[Ob.lst L]=T++(G++(G1++[Ob.lst L])):=by simp
 dsimp only;show Pk k o T d n [wq (.ref 0),wq d,wq (.ref ((T++(G++G1)).length+1))] (o::(T++(G++G1)++[Ob.lst L]));rw[e]at h1 ⊢;refine .mk _ L _ ?_ h2 h1 λx f=>?_
 ·rw[<- e,dy];rfl
 ·have:=(c x f).on (n:=N) (G:=[Ob.lst L]) ho
  rwa [e]at this
def m8(ho:Hnd o N)(ha:∀x2,AK k [wq (.ref 0),wq d,x2] o T n a)(hn:n+m<=1000)(h:Pk k o T d m r S):W (dD (m2 (b2 ed) (mV 2) (eH a)) (gN 2) r S) λp=>p.1 = .nx/\Pk k o T d (m+n) p.2.1 p.2.2:=by
 obtain⟨G,L,p,h1,h2,g,j⟩:=h;have e:=(gE1.mp h1).1;unfold dD m2;rw[dj,dj];refine W.of (x:=(.ref (p+1),o::(T++G))) ag ?_;rw[dj];refine(ww (ha _) (by lia) G g).mono ?_;rintro q ⟨G1,b,rfl,i,u,s⟩;dsimp only[b2];have l:T++(G++G1)++[Ob.lst b]=(T++G)++(G1++[Ob.lst b]):=by simp
 refine(BG (xs:=L) (ys:=b) ?_ ?_).mpr ⟨dz (by lia),?_⟩
 ·rw[gC1,l,gL1 e];exact h1
 ·rw[cB,gC1,dy];rfl
 refine W.of ag ⟨ag,?_⟩;have v:o::(T++(G++G1)++[Ob.lst b])++[Ob.lst (L++b)]=o::(T++(G++(G1++[Ob.lst b,Ob.lst (L++b)]))):=by simp
 have f:∀x∈L++b,Ok k (o::(T++(G++G1))) x:=λx c=>by
  rcases ay.mp c with z|z
  ·have:=(j x z).on (n:=N) (G:=G1) ho
   rwa [bw]at this
  ·exact s x z
 have hc:ClT (T++(G++(G1++[Ob.lst b,Ob.lst (L++b)]))):=by
  have:=l9 (o:=o) i λx c=>(f x c).on (n:=N) (G:=[Ob.lst b]) ho;have t:T++(G++G1)++[Ob.lst b]++[Ob.lst (L++b)]=T++(G++(G1++[Ob.lst b,Ob.lst (L++b)])):=by simp
  rwa [t]at this
 show Pk k o T d (m+n) [wq (.ref 0),wq d,wq (.ref ((T++(G++G1)++[Ob.lst b]).length+1))] (o::(T++(G++G1)++[Ob.lst b])++[Ob.lst (L++b)]);rw[v];refine .mk _ (L++b) _ ?_ (by rw[lA1,h2,u]) hc λx c=>?_
 ·rw[show T++(G++(G1++[Ob.lst b,Ob.lst (L++b)]))=(T++(G++G1)++[Ob.lst b])++[Ob.lst (L++b)] by simp,dy];rfl
 ·have:=(f x c).on (n:=N) (G:=[Ob.lst b,Ob.lst (L++b)]) ho;simpa using this
def ma{e f:FE}{xs ys:List D}(ha:∀S,e r S=wq (.tup xs,S))(hb:∀S,f r S=wq (.tup ys,S))(a:xs.length+ys.length<=1000):∀S,m2 (b2 ed) e f r S=wq (.tup (xs++ys),S):=λS=>by
 unfold m2;rw[ha,oS1,hb,oS1];show(if xs.length+ys.length<=c9 then _ else _)=_;rw[if_pos (au a (by decide))]
def DQ{xs:List D}{x2:Option D}(ho:Hnd o N)(hd:Ok m (o::T) (.tup xs)):EK k [wq (.ref 0),wq (.tup xs),x2] o T (mN (b1 rF) (dh (mV 1) di)):=λG a=>by
 refine W.of (x:=(.ref (T++G).length.succ,o::(T++G++[.lst xs]))) ag ⟨[.lst xs],by simp,?_,.lst (xs:=xs) ?_⟩
 ·rw[<- bw];exact l9 (k:=m) (o:=o) a λx b=>(hd.of.2 x b).on (n:=N) ho
 ·rw[cB,gC1,<- bw,dy];rfl
def zV{xs ys:List D}(h:Ok m (o::T) (.tup xs))(hs:∀y∈ys,y∈xs)(a:ys.length<=k)(hk:m<=k):Ok k (o::T) (.tup ys):=.tup a λy b=>(h.of.2 y (hs y b)).more hk
def lT{xs ys:List D}(h:Ok k (o::T) (.tup xs))(h':Ok k (o::T) (.tup ys))(a:xs.length+ys.length<=k):Ok k (o::T) (.tup (xs++ys)):=.tup (by rw[lA1];exact a) λy b=>by
 rcases ay.mp b with z|z
 ·exact h.of.2 y z
 ·exact h'.of.2 y z
end
def Jd{k m N:Nat}{o:Ob}{T:Sto}{d:D}{x2:Option D}(ho:Hnd o N)(hd:Ok k (o::T) d)(hk:1<=k)(b:k<=200):AK k [wq (.ref 0),wq d,x2] o T 18 (dh (mC D.non) (dh (mC (D.bl ai)) (dh (mC (D.bl ah)) (dh (m1 (b1 oi) (mC (D.int (1)))) (dh (mC (D.int (0))) (dh (mC (D.int (1))) (dh (mC (D.int (9))) (dh (m2 (b2 oh) (mC (D.int (10))) (mC (D.int (30)))) (dh (mC (D.str "")) (dh (mC (D.str "colours")) (dh (mC (D.str "alike")) (dh (mC (D.str "0")) (dh (dI di) (dh (dI (dh (mC (D.int (0))) di)) (dh (eH di) (dh (eH (dh (mC (D.int (0))) di)) (dh im (dh (dI (dh (mV 1) di)) di)))))))))))))))))):=by
 obtain⟨B,c⟩:=IF;have a:EK k [wq (.ref 0),wq d,x2] o T (mC (D.int 0)):=iZ ho ag (by rw[bd]);refine dk ho (iZ ho ag (by rw[bd])) (dk ho (iZ ho ag (by rw[bd])) (dk ho (iZ ho ag (by rw[bd])) (dk ho (d7 (d:=.int (-1)) ho (λ_=>rfl) (.shut ag (by rw[bd]))) (dk ho a (dk ho (iZ ho ag (by rw[bd])) (dk ho (iZ ho ag (by rw[bd])) (dk ho (d7 (d:=.int B) ho (λS=>c S) (.shut ag (by rw[bd]))) (dk ho (iZ ho ag (by rw[bd])) (dk ho (iZ ho ag (by rw[bd])) (dk ho (iZ ho ag (by rw[bd])) (dk ho (iZ ho ag (by rw[bd])) (dk ho (fI dZ (by lia) (by lia)) (dk ho (fI (dk ho a dZ) (by lia) (by lia)) (dk ho (oz ho dZ (by lia)) (dk ho (oz ho (dk ho a dZ) (by lia)) (dk ho rR (dk ho (fI (dk ho (d7 ho (λ_=>rfl) hd) dZ) (by lia) (by lia)) dZ)))))))))))))))))
section
variable{k N:Nat}{o:Ob}{T:Sto}{xs:List D}{x2:Option D}
def Jc(ho:Hnd o N)(hd:Ok k (o::T) (.tup xs))(hk:1<=k)(a:k<=50):AK (2*k+2) [wq (.ref 0),wq (.tup xs),x2] o T 5 (dh (kw (mV 1) (ij (mC (D.int (1)))) ik) (dh (kw (mV 1) ik (ij (m1 (b1 oi) (mC (D.int (1)))))) (dh (m2 (b2 ed) (mV 1) (kw (mV 1) (ij (m1 (b1 oi) (mC (D.int (1))))) ik)) (dh (Aw (mV 1) (m1 (b1 oi) (mC (D.int (1))))) (dh (mN (b1 rF) (dh (mV 1) di)) di))))):=by
 have h:=hd.of.1;have c:∀lo hi,Ok (2*k+2) (o::T) (.tup (Mi.iK xs lo hi)):=λlo hi=>by
  obtain⟨e,g⟩:=Be (xs:=xs) (lo:=lo) (hi:=hi);exact zV hd e (by lia) (by lia)
 have f:(Mi.iK xs (wq (-1)) aj).length<=xs.length:=(Be (xs:=xs)).2;refine dk ho (d7 ho (λ_=>rfl) (c (wq 1) aj)) (dk ho (d7 ho (λ_=>rfl) (c aj (wq (-1)))) (dk ho (d7 ho (ma (xs:=xs) (ys:=Mi.iK xs (wq (-1)) aj) (λ_=>rfl) (λ_=>rfl) (by lia)) (lT (hd.more (by lia)) (c _ _) (by lia))) (dk ho (d7 (d:=.tup xs.reverse) ho (λ_=>rfl) (zV hd (λy b=>List.mem_reverse.mp b) (by rw[bZ];lia) (by lia))) (dk ho (DQ ho hd) dZ))))
def uW{d:D}(h:d.und 0=ai)(hb:bd (2*k+2) d=ai):Ok (2*k+2) (o::T) (.tup [d]):=.tup (by simp) λy a=>by rw[cb.mp a];exact .shut h hb
def Jb(ho:Hnd o N)(hd:Ok k (o::T) (.tup xs))(hk:1<=k)(c:k<=50):AK (2*k+2) [wq (.ref 0),wq (.tup xs),x2] o T 5 (dh (m2 (b2 ed) (mV 1) (dI (dh (mC (D.int (0))) di))) (dh (m2 (b2 ed) (dI (dh (mC (D.int (0))) di)) (mV 1)) (dh (mC D.non) (dh (m2 (b2 ed) (mV 1) (dI (dh (mC D.non) di))) (dh (mC (D.int (0))) di))))):=by
 have d:=hd.of.1;have a:Ok (2*k+2) (o::T) (.tup [.int 0]):=uW ag (by rw[bd]);have b:Ok (2*k+2) (o::T) (.tup [.non]):=uW ag (by rw[bd]);refine dk ho (d7 ho (ma (xs:=xs) (ys:=[.int 0]) (λ_=>rfl) (λ_=>rfl) (by simp;lia)) (lT (hd.more (by lia)) a (by simp;lia))) (dk ho (d7 ho (ma (xs:=[.int 0]) (ys:=xs) (λ_=>rfl) (λ_=>rfl) (by simp;lia)) (lT a (hd.more (by lia)) (by simp;lia))) (dk ho (iZ ho ag (by rw[bd])) (dk ho (d7 ho (ma (xs:=xs) (ys:=[.non]) (λ_=>rfl) (λ_=>rfl) (by simp;lia)) (lT (hd.more (by lia)) b (by simp;lia))) (dk ho (iZ ho ag (by rw[bd])) dZ))))
def Ja(ho:Hnd o N)(hd:Ok k (o::T) (.tup xs))(hk:1<=k)(c:k<=50):AK (2*k+2) [wq (.ref 0),wq (.tup xs),x2] o T 6 (dh (mC (D.str "")) (dh (dI (dh (mV 1) di)) (dh (m2 (b2 ed) (dI (dh (mC D.non) di)) (mV 1)) (dh (m2 (b2 ed) (mV 1) (mV 1)) (dh (eH (dh (mV 1) di)) (dh im di)))))):=by
 have d:=hd.of.1;have a:Ok (2*k+2) (o::T) (.tup xs):=hd.more (by lia);have b:EK (2*k+2) [wq (.ref 0),wq (.tup xs),x2] o T (mV 1):=d7 ho (λ_=>rfl) a;refine dk ho (iZ ho ag (by rw[bd])) (dk ho (fI (dk ho b dZ) (by lia) (by lia)) (dk ho (d7 ho (ma (xs:=[.non]) (ys:=xs) (λ_=>rfl) (λ_=>rfl) (by simp;lia)) (lT (uW ag (by rw[bd])) a (by simp;lia))) (dk ho (d7 ho (ma (xs:=xs) (ys:=xs) (λ_=>rfl) (λ_=>rfl) (by lia)) (lT a a (by lia))) (dk ho (oz ho (dk ho b dZ) (by lia)) (dk ho rR dZ)))))
def I9{i:Int}(ho:Hnd o N):AK (2*k+2) [wq (.ref 0),wq (.int i),x2] o T 3 (dh (m2 (b2 gEq) (mV 1) (mC (D.int (1)))) (dh (m2 (b2 ed) (mV 1) (mC (D.int (1)))) (dh (m1 (b1 oi) (mV 1)) di))):=
 dk ho (d7 (d:=.bl (i == 1)) ho (λ_=>rfl) (.shut ag (by rw[bd]))) (dk ho (d7 (d:=.int (i+1)) ho (λ_=>rfl) (.shut ag (by rw[bd]))) (dk ho (d7 (d:=.int (-i)) ho (λ_=>rfl) (.shut ag (by rw[bd]))) dZ))
def I7{i:Int}(ho:Hnd o N)(hi:i.natAbs.log2<1920)(b:k<=50):AK (2*k+2) [wq (.ref 0),wq (.int i),x2] o T 2 (dh (mN (b1 DC) (dh (mV 1) di)) (dh (dI (dh (mV 1) (dh (mV 1) di))) di)):=by
 have a:EK (2*k+2) [wq (.ref 0),wq (.int i),x2] o T (mV 1):=d7 ho (λ_=>rfl) (.shut ag (by rw[bd]));refine dk ho (d7 (d:=.str (toString i)) ho (λS=>?_) (.shut ag (by rw[bd]))) (dk ho (fI (dk ho a (dk ho a dZ)) (by lia) (by lia)) dZ);show(if i.natAbs.log2<1920 then _ else _)=_;rw[if_pos hi]
end
def n8{d:D}(h:EC d=ai):∃xs,d = .tup xs:=by
 cases d with
 |tup xs=>exact⟨xs,ag⟩
 |_=>cases h
def Lo(d:D):Prop:=∀i,d = .int i->i.natAbs.log2<1920
def vU{o:Ob}{n:Nat}{T:Sto}(ho:Hnd o n)(a:ClT T):iO (o::T):=by
 unfold iO;rw[bH,ho.und,lC1];exact a
def wj{o:Ob}{n k:Nat}{T:Sto}{d:D}{Q:D×Sto->Prop}(ho:Hnd o n)(hn:n<=2^40)(v:ClT T)(hd:Ok k (o::T) d)(l:Lo d)(hk:1<=k)(a:k<=50)(q:∀x o' G,Hnd o' (n+1)->ClT (T++G)->Ok (2*k+2) (o'::(T++G)) x->Q (x,o'::(T++G))):W (dm 2 fW [.ref 0,d] (o::T)) Q:=by
 refine Bn (k:=2*k+2) (n':=n+1) ag ag v ?_ q;unfold fW;refine ji ?_;unfold oJ;refine dJ (Pk (2*k+2) o T d 18) ?_ ?_
 ·have:=zt (k:=2*k+2) (x2:=aj) (d:=d) [] (by rw[aF];exact v) ho (Jd (m:=0) ho (hd.more (by lia)) (by lia) (by lia)) (by lia);rw[aF]at this;exact this
 rintro r S h;refine dJ (λr S=>∃c,0<c/\c<=50/\Pk (2*k+2) o T d c r S) ?_ ?_
 ·obtain⟨G,L,p,h1,h2,b,f⟩:=h;have j:jB (o::(T++G)) .tuple d=wq (EC d):=nu (hd.on (n:=n) ho).v;cases ht:EC d with
  |false=>
   ((try walk_at"w");repeat(simp only[fg,j,ht];try walk_at"w"))
   exact⟨18,by lia,by lia,.mk G L p h1 h2 b f⟩
  |true=>
   obtain⟨xs,rfl⟩:=n8 ht;unfold eD;rw[dj];refine W.of (x:=(ai,o::(T++G))) ag ?_;dsimp only;rw[if_pos ag];refine dJ (Pk (2*k+2) o T (.tup xs) 5) (zt G b ho (Jc ho hd hk a) (by lia)) ?_;intro r S h;refine dJ (Pk (2*k+2) o T (.tup xs) 10) (m8 ho (λ_=>Jb ho hd hk a) (by lia) h) ?_;intro r S h;refine(m8 ho (λ_=>Ja ho hd hk a) (by lia) h).mono ?_;rintro p ⟨y,w⟩;exact⟨y,16,by lia,by lia,w⟩
 rintro r S ⟨c,g,hc,h⟩;refine dJ (λr S=>∃c,0<c/\c<=60/\Pk (2*k+2) o T d c r S) ?_ ?_
 ·obtain ⟨G,L,p,h1,h2,b,f⟩:=h;have j:=(hd.on (n:=n) (G:=G) ho).v;have t:W (mTr (mN (dm 1 dN) (dh (mV 1) di)) [some (.ref 0),some d,some (.ref (p+1))] (o::(T++G))) fun q=>q=(whD d,o::(T++G)):=by
   walk_at"w";refine gU (vU ho b) j ?_;walk_at"w"
  obtain⟨_,z,rfl⟩:=t;unfold eD;rw[dj];refine W.of z ?_;dsimp only;cases hw:whD d with
  |false=>
   rw[if_neg (by decide)];exact W.of ag ⟨ag,c,g,by lia,.mk G L p h1 h2 b f⟩
  |true=>
   obtain⟨i,rfl⟩:=se hw;rw[if_pos ag];refine dJ (Pk (2*k+2) o T (.int i) (c+3)) (m8 ho (λ_=>I9 ho) (by lia) (.mk G L p h1 h2 b f)) λr S h=>?_;exact(m8 ho (λ_=>I7 ho (l i ag) a) (by lia) h).mono λp u=>⟨u.1,c+3+2,by lia,by lia,u.2⟩
 rintro r S ⟨c,g,hc,⟨G,L,p,h1,h2,b,f⟩⟩;unfold dW;rw[dj];refine FH (k:=2*k+2) ho hn h1 (by lia) (by lia) ag ag (λo' e x s=>?_) λx o' e s=>?_
 ·have:=(f x s).on (n:=n) (G:=[]) e
  rwa [aF]at this
 ·exact dr.mpr ⟨x,o',G,ag,e,b,s⟩
def EV:Nat->D->Prop
 |0,d=>Lo d
 |n+1,d=>Lo d /\ ∀xs,d = .tup xs -> ∀x∈xs,EV n x
def EV.lo:∀{n:Nat} {d:D},EV n d->Lo d
 |0,_,h=>h
 |_+1,_,h=>h.1
def ox{xs:List D}{S:Sto}:gEq (.tup xs) (.tup []) S=wq (.bl xs.isEmpty,S):=by
 cases xs<;>rfl
def La(xs:List D)(k:Nat):Mi.iK xs aj (wq (k:Int))=xs.take k:=by
 unfold Mi.iK;rw[HT.sJ,HT.vY,List.drop_zero,Nat.sub_zero];by_cases h:k<=xs.length
 ·rw[bp h]
 ·rw[Nat.min_eq_right (by lia),bO,bY (by lia)]
def K9(xs:List D)(k:Nat):Mi.iK xs (wq (k:Int)) aj=xs.drop k:=by
 unfold Mi.iK;rw[HT.sJ,HT.vY];by_cases h:k<=xs.length
 ·rw[bp h,bY (by simp)]
 ·rw[Nat.min_eq_right (by lia),List.drop_length,List.drop_of_length_le (by lia)];simp
def Ok.cast{k:Nat}{S a:Sto}{d:D}(h:Ok k S d)(e:S=a):Ok k a d:=e ▸ h
def Hx:∀ (b:Nat) {fuel n k:Nat} {o:Ob} {T:Sto} {d:D} {Q:D×Sto->Prop},b<fuel->Hnd o n->n+10*b<=2^39->ClT T->Ok k (o::T) d->EV b d->1<=k->k<=50 ->
  (∀x o' G,Hnd o' (n+10*(b+1))->ClT (T++G)->Ok (2*k+2) (o'::(T++G)) x->Q (x,o'::(T++G)))->W (dm 3 (fE fuel) [.ref 0,d,.int b] (o::T)) Q:=by
 intro b
 induction b with
 |zero=>
  intro fuel n k o T d Q K B N l s h w g q;obtain⟨f,rfl⟩:∃f,fuel=f+1:=⟨fuel-1,by lia⟩;refine Bn (k:=2*k+2) (n':=n+10*(0+1)) ag ag l ?_ q;rw[fE];refine ji ?_;unfold gC dv;rw[dj];walk_at"w";rw[if_pos (by decide)];refine wj B (by lia) l s h w g λx o' G e hc j=>?_;exact⟨x,o',G,ag,e.more (by lia),hc,j⟩
 |succ b ih=>
  intro fuel n k o T d Q K B N l s h w g q;obtain⟨f,rfl⟩:∃f,fuel=f+1:=⟨fuel-1,by lia⟩;refine Bn (k:=2*k+2) (n':=n+10*(b+1+1)) ag ag l ?_ q;rw[fE];refine ji ?_;unfold gC;have J:=nu s.v;have v:decide (((b+1:Nat):Int)<1)=ah:=decide_eq_false (by lia);cases ht:EC d with
  |false=>
   unfold dv;rw[dj]
   ((try walk_at"w");repeat(simp only[fg,J,ht,v];try walk_at"w"))
   refine wj B (by lia) l s h.lo w g λx o' G e hc j=>?_;exact⟨x,o',G,ag,e.more (by lia),hc,j⟩
  |true=>
   obtain⟨xs,rfl⟩:=n8 ht;obtain⟨P,A⟩:=s.of;by_cases t:xs=[]
   ·subst t;unfold dv;rw[dj]
    ((try walk_at"w");repeat(simp only[fg,J,ht,v,ox];try walk_at"w"))
    simp only[List.isEmpty_nil]
    try walk_at"w"
    refine wj B (by lia) l s h.lo w g λx o' G e hc j=>?_;exact⟨x,o',G,ag,e.more (by lia),hc,j⟩
   ·have C:xs.isEmpty=false:=by cases xs with
     |nil=>exact absurd ag t
     |cons x xs=>rfl
    have L:0<xs.length:=List.length_pos_iff.mpr t;refine dJ (λr V=>V=o::T/\r=[wq (.ref 0),wq (.tup xs),wq (.int ((b+1:Nat):Int)),aj,aj]) ?_ ?_
    ·((try walk_at"w");repeat(simp only[fg,J,ht,v,ox];try walk_at"w"))
     simp only[C]
     try walk_at"w"
     try exact⟨ag,ag⟩
    rintro r V ⟨rfl,rfl⟩;unfold dv;rw[dj];walk_at"w";refine ga B (by lia) (by lia) (by lia) λc M u hc=>?_;walk_at"w";have I:Ok k (M::T) (.tup xs):=(s.on (n:=n) (G:=[]) u).cast (by rw[aF]);by_cases E:((c:Int) == 0)=ai
    ·rw[if_pos E];refine wj u (by lia) l I h.lo w g λx o' G e hc j=>?_;exact⟨x,o',G,ag,e.more (by lia),hc,j⟩
    ·rw[if_neg E];refine ga u (by lia) (by lia) (by lia) λa R F O=>?_;have p:a<xs.length:=by lia
     walk_at"w";refine lH (i:=a) (x:=xs[a]) (gG1 p) ?_;walk_at"w";rw[show(((b+1:Nat):Int)-1)=(b:Int) by lia];refine ih (by lia) F (by lia) l ((((A _ (bK p)).on (n:=n) (G:=[]) F)).cast (by rw[aF])) (h.2 xs ag _ (bK p)) w g λx H G z hc j=>?_
     try walk_at"w"
     refine W.of (x:=(.tup (Mi.iK xs aj (wq (a:Int))),H::(T++G))) ag ?_;rw[La];walk_at"w";rw[aK];refine⟨dz (by lia),?_⟩;refine W.of (x:=(.tup (Mi.iK xs (wq ((a:Int)+1)) aj),H::(T++G))) ag ?_;rw[show((a:Int)+1)=((a+1:Nat):Int) by push_cast;rfl,K9];walk_at"w";refine⟨dz (by rw[aO];simp;lia),?_⟩;refine⟨_,H,G,ag,z.more (by lia),hc,Ok.tup ?_ λy m=>?_⟩
     ·simp;lia
     ·have old:∀y∈xs,Ok (2*k+2) (H::(T++G)) y:=λy m=>((A y m).on (n:=n) z).more (by lia);simp only[bw,a0,cH,ay,aw]at m;rcases m with m|rfl|m
      ·exact old y (ci m)
      ·exact j
      ·exact old y (cj m)
def Jr{S:Sto}{b:Bool}:jB S .bool (.bl b)=wq ai:=rfl
def E7{xs:List D}{m:Nat}{S:Sto}{Q:D×Sto->Prop}(a:D.unds 0 xs=ai)(h:xs.length=m)(q:Q (.bl ai,S)):W (dm 2 d4 [.tup xs,.int m] S) Q:=by
 refine iL ag (by rw[D.unds,D.und,a];rfl) ?_;unfold d4;refine ji ?_;unfold iw
 ((try walk_at"w");repeat(simp only[fg,AQ,ft];try walk_at"w"))
 rw[h];simp;exact⟨ag,q⟩
def yI{i:Int}{S:Sto}{Q:D×Sto->Prop}(q:Q (.bl ai,S)):W (dm 1 eV [.int i] S) Q:=by
 refine iL ag ag ?_;unfold eV;refine ji ?_;unfold kC
 ((try walk_at"w");repeat(simp only[fg,AR];try walk_at"w"))
 simp only[reduceCtorEq,decide_false,decide_true];walk_at"w";exact⟨ag,q⟩
def xQ{i:Int}{S:Sto}{Q:D×Sto->Prop}(q:Q (.bl ai,S)):W (dm 1 dN [.int i] S) Q:=by
 refine iL ag ag ?_;unfold dN;refine ji ?_;unfold i6
 ((try walk_at"w");repeat(simp only[fg,AR];try walk_at"w"))
 simp only[reduceCtorEq,decide_false,decide_true];walk_at"w";exact⟨ag,q⟩
def BF{n:Nat}{xs:List D}{S:Sto}{Q:D×Sto->Prop}(h:S[n]?=wq (.lst (xs.map λ_=>D.bl ai)))(q:Q (.bl ai,S)):W (rJ (.ref n) S) Q:=by
 refine W.of ?_ q;unfold rJ;rw[gb h,oS1];dsimp only;rw[oM (f:=λ_=>ai)];simp
def wF:∀ns:List Int,jC (ns.map D.int)=wq ns
 |[]=>rfl
 |n::ns=>by
  have:=wF ns;rw[mP1];simp only[jC,this];rfl
def nC{ns:List Int}{S:Sto}(a:ns.length<=100):gQ (sgD ns) S=wq (.ref S.length,S++[.iset (ddI ns)]):=by
 unfold gQ;rw[jQ];dsimp only;rw[wF,oS1,if_pos (by unfold scanBound;lia)]
def K0{m n:Nat}{w:dq}{b a:List Int}{S:Sto}(hm:m<=8)(h:S[n]?=wq (.lst ((List.range m).map λr=>ll (lK w b a r)))):jF (.ref n) S=wq (.int ((ddK ((List.range m).map λr=>mS (lK w b a r))).length:Nat),S):=by
 unfold jF;rw[gb h];dsimp only;rw[wD,oS1,if_pos (by rw[lM1,cg];lia)]
def Du{m:Nat}{w:dq}{b a:List Int}{S:Sto}{Q:D×Sto->Prop}(hw:WebJ m w)(hm:m<=8)(hs:b.length=m)(ht:a.length=m)(q:Q (.bl (tf (Ec m w b a)),S)):W (dm 3 d6 [webD w,sgD b,sgD a] S) Q:=by
 refine iL ag (by rw[D.unds,D.unds,D.unds,d5,g9,g9];rfl) ?_;unfold d6;refine ji ?_;unfold hW;refine dJ (λr V=>∃G,V=G/\r=[wq (webD w),wq (sgD b),wq (sgD a)]) ?_ ?_
 ·have c:dM (webD w) []=wq (.int (m:Nat),[]):=by rw[webD,ft,lM1,hw.len]
  ((try walk_at"w");repeat(simp only[c];try walk_at"w"))
  refine E7 (eJ λ_ _=>rfl) (by rw[lM1];exact ht) ?_;walk_at"w";rw[ku];refine j1 (f:=D.int) (λ_=>D.bl ai) (λr=>∃x,r=[x]) ag a _ ⟨_,ag⟩ ?_ ?_
  ·rintro i hi r ⟨x,rfl⟩;walk_at"w";refine yI ?_;exact⟨ag,ag,_,ag⟩
  ·rintro t _;refine⟨dz (by rw[lM1];lia),?_⟩;refine BF (xs:=a.map D.int) (by rw[bj];rfl) ?_;walk_at"w";exact⟨_,ag,trivial⟩
 rintro r V ⟨G,rfl,rfl⟩;have l:=AG hw hm hs ht;walk_at"w";refine EM ag (by rw[D.unds,D.unds,D.unds,d5,g9,g9];rfl) ?_;refine l.mono ?_;rintro⟨d,V⟩ ⟨k,h1,h2,e⟩;refine⟨k,_,h1,h2,e,λG j p s o=>?_⟩;have g:=K0 hm p
 ((try walk_at"w");repeat(simp only[g];try walk_at"w"))
 rw[nC (by lia),dr];dsimp only;refine sm (by rw[dy];rfl) ?_;walk_at"w";refine⟨ag,?_⟩;have n:((((ddK ((List.range m).map λr=>mS (lK w b a r))).length:Nat):Int) == (((ddI a).length:Nat):Int))=tf (Ec m w b a):=xm (by
  rw[beq_iff_eq,<- DP,Cf ht];exact⟨λh=>by exact_mod_cast h,λh=>by rw[h]⟩)
 rw[n];exact q
def ER{a b:FE}{r:Ev}{S:Sto}{Q:D×Sto->Prop}:W (Ay a b r S) Q↔W (a r S) λp=>W (qi p.2 p.1) λk=>if k=ai then Q p else W (b r p.2) Q:=by
 unfold Ay;rw[dj];simp only[dj,p7,dr]
def zp_map:∀a b:List (Nat×Nat),uz (a.map pD) (b.map pD)=(a.zip b).map λp=>.tup [pD p.1,pD p.2]
 |[],_=>rfl
 |_::_,[]=>rfl
 |x::a,y::b=>by
  have:=zp_map a b;show D.tup [pD x,pD y]::uz (a.map pD) (b.map pD)=_;rw[this];rfl
def JZ{α:Type}{n:Nat}{xs:List α}{f:α->Bool}{S:Sto}{Q:D×Sto->Prop}(h:S[n]?=wq (.lst (xs.map λx=>D.bl (f x))))(q:Q (.bl (xs.any f),S)):W (DN (.ref n) S) Q:=by
 refine W.of ?_ q;unfold DN;rw[gb h,oS1];have:∀l:List α,Mi.Bu (l.map λx=>D.bl (f x))=wq (l.any f):=λl=>by
  induction l with
  |nil=>rfl
  |cons x l ih=>rw[mP1,Mi.Bu,ih];rfl
 dsimp only;rw[this];rfl
def mD{m r:Nat}{a:List Int}{S:Sto}(b:a.length=m)(hr:r<m):dt (sgD a) (.int r) S=wq (.int (gi a r),S):=by
 obtain⟨p,e,rfl⟩:=Bz (Q:=λp=>p=(.int (gi a r),S)) b hr ag;exact e
def jA{i:Nat}{xs:List D}{x:D}{S:Sto}(hx:xs[i]?=wq x):dt (.tup xs) (.int i) S=wq (x,S):=by
 obtain⟨p,e,rfl⟩:=lH (Q:=λp=>p=(x,S)) hx ag;exact e
def zx{m:Nat}{w:dq}(hw:WebJ m w){r d:Nat}{e:Nat×Nat}(he:(fh w r)[d]?=wq e):e.1<m:=by
 unfold fh at he;cases hr:w[r]? with
 |none=>rw[hr]at he;simp at he
 |some a=>rw[hr]at he;exact hw.to r d e ⟨a,hr,he⟩
def Cj{m:Nat}{w:dq}(hw:WebJ m w)(r:Nat):(fh w r).length<=4:=by
 unfold fh;cases h:w[r]? with
 |none=>simp
 |some a=>exact hw.le r a h
def EA{m r k:Nat}{a:List Int}{S:Sto}(b:a.length=m)(hr:r<m)(hk:S[k]?=wq (.lst (a.map D.int))):dt (.ref k) (.int r) S=wq (.int (gi a r),S):=by
 obtain⟨p,e,rfl⟩:=iN (i:=r) (x:=.int (gi a r)) (Q:=λp=>p=(.int (gi a r),S)) hk (by rw[gP1,gG1 (by lia)];unfold gi;rw[bB,gG1 (by lia)];rfl) ag;exact e
def El(w:dq)(ts:List Int)(i b:Nat):Prop:=∀p∈(fh w i).zip (fh w b),gi ts p.1.1=gi ts p.2.1/\p.1.2=p.2.2
def na{w:dq}{e d:List Int}{i b:Nat}:lK w e d i=lK w e d b↔gi d i=gi d b/\gi e i=gi e b/\(fh w i).length=(fh w b).length/\El w d i b:=by
 have g:∀a c:List (Nat×Nat),a.map (BK d)=c.map (BK d)↔a.length=c.length /\ ∀p∈a.zip c,gi d p.1.1=gi d p.2.1/\p.1.2=p.2.2:=λa=>by
  induction a with
  |nil=>intro c;cases c<;>simp
  |cons x a ih=>
   intro c;cases c with
   |nil=>simp
   |cons y c=>
    rw[mP1,mP1,List.cons.injEq,ih c,bL,lC1,lC1];unfold BK;rw[Prod.mk.injEq];constructor
    ·rintro⟨⟨h1,h2⟩,j,h⟩;refine⟨by lia,λp f=>?_⟩;rcases aw.mp f with z|z
     ·subst z;exact⟨h1,h2⟩
     ·exact h p z
    ·rintro⟨h1,h2⟩;exact⟨h2 (x,y) mS1,by lia,λp f=>h2 p (mC1 _ f)⟩
 unfold lK El;rw[Prod.mk.injEq,Prod.mk.injEq,g]
abbrev EF(w:dq)(k:Nat)(ts:List Int)(x3 x4 x5 x6:Option D):Ev:=[wq (webD w),wq (.ref k),wq (sgD ts),x3,x4,x5,x6]
def He{m k i j:Nat}{w:dq}{d c:List Int}{S:Sto}(hw:WebJ m w)(hs:d.length=m)(ht:c.length=m)(hi:i<m)(v:j<m)(hk:S[k]? = some (.lst (d.map D.int))):
  W (iq (EF w k c (wq (.int (i:Nat))) (wq (.tup ((fh w i).map pD))) (wq (.int (j:Nat))) (wq (.tup ((fh w j).map pD)))) S) λp=>(∃G,p.2.2=S++G)/\((p.1 = .nx/\(gi c i=gi c j->lK w d c i=lK w d c j)/\p.2.1=EF w k c (wq (.int (i:Nat))) (wq (.tup ((fh w i).map pD))) (wq (.int (j:Nat))) (wq (.tup ((fh w j).map pD))))\/(p.1 = .rt (.bl ah) /\ ¬ (gi c i=gi c j->lK w d c i=lK w d c j))):=by
 have C:=(gE1.mp hk).1;unfold iq;have u:=mD (S:=S) ht hi;have t:=mD (S:=S) ht v;have I:=EA (S:=S) hs hi hk;have K:=EA (S:=S) hs v hk;by_cases e:gi c i=gi c j
 ·((try walk_at"w");repeat(simp only[u,t];try walk_at"w"))
  rw[if_pos (by simp[e])];simp only[lM1];by_cases o:(fh w i).length=(fh w j).length
  ·rw[if_neg (by simp[o])];simp only[I,K,dr];walk_at"w";by_cases n:gi d i=gi d j
   ·rw[if_neg (by simp[n])];refine JU (xs:=(fh w i).map pD) (ys:=(fh w j).map pD) ag ?_;rw[zp_map];refine j1 (f:=λp:(Nat×Nat)×(Nat×Nat)=>D.tup [pD p.1,pD p.2]) (λp=>D.bl (!(gi c p.1.1 == gi c p.2.1&&p.1.2 == p.2.2))) (λr=>∃x y,r=[x,y,wq (sgD c)]) ag _ _ ⟨_,_,ag⟩ ?_ ?_
    ·rintro⟨a,b⟩ g r ⟨x,y,rfl⟩;obtain⟨B,E⟩:=aH g;obtain⟨M,s⟩:=bh B;obtain⟨N,q⟩:=bh E;have A:=mD (S:=S) ht (zx hw s);have H:=mD (S:=S) ht (zx hw q);have F:∀(p:Nat×Nat) (S:Sto),dt (pD p) (.int 0) S=wq (.int (p.1:Nat),S):=λp S=>jA (i:=0) ag;have J:∀(p:Nat×Nat) (S:Sto),dt (pD p) (.int 1) S=wq (.int (p.2:Nat),S):=λp S=>jA (i:=1) ag;walk_at"w";refine ER.mpr ?_;walk_at"w";simp only[F,J,A,H,dr];walk_at"w";by_cases h1:gi c a.1=gi c b.1
     ·rw[if_neg (by simp[h1])];refine⟨?_,_,_,ag⟩;rw[h1,beq_self_eq_true,cW]
      congr 2
      rw[bI,beq_iff_eq,beq_iff_eq];lia
     ·rw[if_pos (by simpa using h1)];refine⟨?_,_,_,ag⟩;rw[beq_eq_false_iff_ne.mpr h1];rfl
    ·rintro L _;refine⟨dz (by rw[lM1,List.length_zip];have:=Cj hw i;lia),?_⟩;refine JZ (xs:=(fh w i).zip (fh w j)) (by rw[dy];rfl) ?_;walk_at"w";by_cases l:El w c i j
     ·rw [if_neg (by
       rw[bJ];rintro⟨p,g,h⟩;obtain⟨h1,h2⟩:=l p g;simp[h1,h2]at h)]
      exact⟨⟨_,ag⟩,.inl ⟨λ_=>na.mpr ⟨e,n,o,l⟩,trivial⟩⟩
     ·rw [if_pos (by
       rw[bJ];refine Classical.byContradiction λz=>l λp g=>?_;have:=λh=>z ⟨p,g,h⟩;simpa using this)]
      exact⟨⟨_,ag⟩,.inr λz=>l (na.mp (z e)).2.2.2⟩
   ·rw[if_pos (by simpa using n)];exact⟨⟨[],(aF _).symm⟩,.inr λz=>n (na.mp (z e)).2.1⟩
  ·rw[if_pos (by simp;lia)];exact⟨⟨[],(aF _).symm⟩,.inr λz=>o (na.mp (z e)).2.2.1⟩
 ·((try walk_at"w");repeat(simp only[u,t];try walk_at"w"))
  rw[if_neg (by simpa using e)];exact⟨⟨[],(aF _).symm⟩,.inl ⟨λz=>absurd z e,trivial⟩⟩
def Ek{m i:Nat}{w:dq}{d:D}(hw:WebJ m w)(h:(sx 0 (w.map λb=>D.tup (b.map pD)))[i]?=wq d):i<m/\d = .tup [.int (i:Nat),.tup ((fh w i).map pD)]:=by
 rw[fP,gP1]at h;obtain⟨z,c,rfl⟩:=oM1.mp h;obtain⟨b,a,rfl⟩:=oM1.mp c;refine⟨by rw[<- hw.len];exact(gE1.mp a).1,?_⟩;rw[qq a,bG]
abbrev J7(m:Nat)(w:dq)(sg ts:List Int)(i:Nat):Prop:=∀b,b<m->gi ts i=gi ts b->lK w sg ts i=lK w sg ts b
def Hd{m k i:Nat}{w:dq}{c a:List Int}{S:Sto}{x5 x6:Option D}(hw:WebJ m w)(hs:c.length=m)(ht:a.length=m)(hi:i<m)(hk:S[k]? = some (.lst (c.map D.int))):
  W (gu (EF w k a (wq (.int (i:Nat))) (wq (.tup ((fh w i).map pD))) x5 x6) S) λp=>(∃G,p.2.2=S++G)/\((p.1 = .nx/\J7 m w c a i /\ ∃x5 x6,p.2.1=EF w k a (wq (.int (i:Nat))) (wq (.tup ((fh w i).map pD))) x5 x6)\/(p.1 = .rt (.bl ah) /\ ¬ Ec m w c a)):=by
 have g:=(gE1.mp hk).1;unfold gu eT;rw[dj];refine oN (xs:=w.map λl=>.tup (l.map pD)) ag ?_;refine lj (λj r V=>(∃G,V=S++G)/\(∀b,b<j->gi a i=gi a b->lK w c a i=lK w c a b) /\ ∃x5 x6,r=EF w k a (wq (.int (i:Nat))) (wq (.tup ((fh w i).map pD))) x5 x6) _ 0 _ _ ⟨⟨[],(aF _).symm⟩,(λb h=>absurd h (bn _)),_,_,ag⟩ (λ_ _ _ _=>rfl) ?_ ?_
 ·rintro j d s r V ⟨⟨G,rfl⟩,f,x5,x6,rfl⟩;obtain⟨o,rfl⟩:=Ek hw s;rw[bG]at *
  walk_at"w";refine(He hw hs ht hi o (by rw[gL1 g];exact hk)).mono ?_;rintro⟨t,r,V⟩ ⟨⟨n,e⟩,h⟩;dsimp only at e h ⊢;subst e;rcases h with⟨rfl,h1,rfl⟩|⟨rfl,h1⟩
  ·refine .inl ⟨ag,⟨G++n,bw ..⟩,λb q=>?_,_,_,ag⟩;rcases cS.mp q with z|rfl
   ·exact f b z
   ·exact h1
  ·exact .inr ⟨_,ag,⟨G++n,bw ..⟩,.inr ⟨ag,λz=>h1 (z i j hi o)⟩⟩
 ·rintro r V ⟨⟨G,rfl⟩,f,x5,x6,rfl⟩;rw[fO,lM1,bG,hw.len]at f;exact⟨⟨G,ag⟩,.inl ⟨ag,f,_,_,ag⟩⟩
def Hc{m k:Nat}{w:dq}{f c:List Int}{S:Sto}{x3 x4 x5 x6:Option D}(hw:WebJ m w)(hs:f.length=m)(ht:c.length=m)(hk:S[k]? = some (.lst (f.map D.int))):
  W (eT (og (dh (mV 0) di)) (gT 2 (fv (gN 3) (fv (gN 4) jh))) gu (EF w k c x3 x4 x5 x6) S) λp=>(∃G,p.2.2=S++G)/\((p.1 = .nx/\Ec m w f c)\/(p.1 = .rt (.bl ah) /\ ¬ Ec m w f c)):=by
 have l:=(gE1.mp hk).1;unfold eT;rw[dj];refine oN (xs:=w.map λn=>.tup (n.map pD)) ag ?_;refine lj (λi r V=>(∃G,V=S++G)/\(∀a,a<i->J7 m w f c a) /\ ∃x3 x4 x5 x6,r=EF w k c x3 x4 x5 x6) _ 0 _ _ ⟨⟨[],(aF _).symm⟩,(λb h=>absurd h (bn _)),_,_,_,_,ag⟩ (λ_ _ _ _=>rfl) ?_ ?_
 ·rintro i d s r V ⟨⟨G,rfl⟩,g,x3,x4,x5,x6,rfl⟩;obtain⟨hi,rfl⟩:=Ek hw s;rw[bG]at *
  walk_at"w";refine(Hd hw hs ht hi (by rw[gL1 l];exact hk)).mono ?_;rintro⟨t,r,V⟩ ⟨⟨o,e⟩,h⟩;dsimp only at e h ⊢;subst e;rcases h with⟨rfl,h1,x5,x6,rfl⟩|⟨rfl,h1⟩
  ·refine .inl ⟨ag,⟨G++o,bw ..⟩,λb j=>?_,_,_,_,_,ag⟩;rcases cS.mp j with z|rfl
   ·exact g b z
   ·exact h1
  ·exact .inr ⟨_,ag,⟨G++o,bw ..⟩,.inr ⟨ag,h1⟩⟩
 ·rintro r V ⟨⟨G,rfl⟩,g,x3,x4,x5,x6,rfl⟩;rw[fO,lM1,bG,hw.len]at g;exact⟨⟨G,ag⟩,.inl ⟨ag,λa b q j=>g a q b j⟩⟩
def Hb{m k:Nat}{w:dq}{c a:List Int}{S:Sto}{Q:D×Sto->Prop}(hw:WebJ m w)(hm:m<=8)(hs:c.length=m)(ht:a.length=m)(o:S.all (Ob.und S.length)=ai)(hk:S[k]? = wq (.lst (c.map D.int)))(q:Q (.bl (tf (Ec m w c a)),S)):W (dm 3 eu [webD w,.ref k,sgD a] S) Q:=by
 have j:W (eu [webD w,.ref k,sgD a] S) λp=>(∃G,p.2=S++G)/\p.1 = .bl (tf (Ec m w c a)):=by
  have g:=(gE1.mp hk).1;unfold eu;refine ji ?_;unfold jK;refine dJ (λr V=>(∃G,V=S++G)/\r=EF w k a aj aj aj aj) ?_ ?_
  ·have n:dM (webD w) S=wq (.int (m:Nat),S):=by rw[webD,ft,lM1,hw.len]
   ((try walk_at"w");repeat(simp only[fg,AQ,n];try walk_at"w"))
   simp only[lM1,ht,decide_true,bT,beq_self_eq_true,if_false,bF1]
   try rw[ku]
   refine j1 (f:=D.int) (λ_=>D.bl ai) (λr=>∃x,r=[x]) ag a _ ⟨_,ag⟩ ?_ ?_
   ·rintro i hi r ⟨x,rfl⟩;walk_at"w";refine xQ ?_;exact⟨ag,ag,_,ag⟩
   ·rintro t _;refine⟨dz (by rw[lM1];lia),?_⟩;refine BF (xs:=a.map D.int) (by rw[dy,bj];rfl) ?_;walk_at"w";exact⟨⟨_,ag⟩,trivial⟩
  rintro r V ⟨⟨G,rfl⟩,rfl⟩;obtain⟨⟨s,r,U⟩,e,⟨l,b⟩,h⟩:=Hc (k:=k) (S:=S++G) (x3:=aj) (x4:=aj) (x5:=aj) (x6:=aj) hw hs ht (by rw[gL1 g];exact hk);dsimp only at b h;unfold dv;rw[e,oS1];subst b;rcases h with⟨rfl,h⟩|⟨rfl,h⟩
  ·rw[oR h];exact W.of ag ⟨⟨G++l,bw ..⟩,ag⟩
  ·rw[uK h];exact W.of ag ⟨⟨G++l,bw ..⟩,ag⟩
 refine oE ag (by rw[D.unds,d5];rfl) (j.mono ?_);rintro⟨d,V⟩ ⟨⟨G,e⟩,b⟩;dsimp only at e b;subst e;subst b;rw[rB ag o];exact q
def EE{c:FT}{k:FS}{r:Ev}{T:Sto}{b:Bool}{Q:Fl×Ev×Sto->Prop}(hc:W (c r T) λp=>(∃G,p.2=T++G)/\p.1 = !b)(f:b=ah -> ∀G,Q (.rt (.bl ah),r,T++G))(h1:b=ai -> ∀G,W (k r (T++G)) Q):W (dv (eD c (dW (mC (D.bl ah))) jg) k r T) Q:=by
 obtain⟨⟨g,h⟩,e,⟨G,d⟩,a⟩:=hc;dsimp only at d a;subst d;subst a;unfold dv eD;rw[e,oS1];cases b with
 |false=>exact dr.mpr (f ag G)
 |true=>exact h1 ag G
def Ly:D->Int
 | .int i=>i
 |_=>0
def tl(n:Nat):D->Bool
 | .tup xs=>decide (xs.length=n)
 |_=>ah
def fm(m:Nat):D->Bool
 | .tup xs=>decide (xs.length=m)&&xs.all whD
 |_=>ah
def tsD:D->List Int
 | .tup xs=>xs.map Ly
 |_=>[]
def pN{m:Nat}{d:D}(h:fm m d=ai):d=sgD (tsD d)/\(tsD d).length=m:=by
 cases d with
 |tup xs=>
  rw[fm,bA1,decide_eq_true_eq,bq]at h;refine⟨?_,by rw[tsD,lM1];exact h.1⟩;rw[tsD,sgD,bj];have:xs.map (D.int∘Ly)=xs.map id:=cA λx a=>by
   have:=h.2 x a;cases x with
   |int i=>rfl
   |_=>cases this
  rw[this,List.map_id]
 |_=>cases h
def y3{d:D}{n:Nat}{S:Sto}{Q:D×Sto->Prop}(c:iO S)(hv:vd S d=ai)(q:Q (.bl (tl n d),S)):W (dm 2 d4 [d,.int n] S) Q:=by
 refine lz ag c (by rw[fH,hv,fH,fH];rfl) λT e a=>?_;have b:=nu (iP a mS1);unfold d4;refine ji ?_;unfold iw;cases hi:EC d with
 |false=>
  ((try walk_at"w");repeat(simp only[fg,b,hi];try walk_at"w"))
  have:tl n d=ah:=by cases d with
   |tup xs=>cases hi
   |_=>rfl
  rw[this]at q;exact⟨⟨[],(aF _).symm⟩,ag,q⟩
 |true=>
  obtain⟨xs,rfl⟩:=n8 hi
  ((try walk_at"w");repeat(simp only[fg,b,hi,ft];try walk_at"w"))
  have:((xs.length:Int) == (n:Int))=tl n (.tup xs):=by
   rw[tl,bI,beq_iff_eq,decide_eq_true_eq];lia
  rw[this];exact⟨⟨[],(aF _).symm⟩,ag,q⟩
def HE{n:Nat}{S:Sto}{xs:List D}{f:D->Bool}{Q:D×Sto->Prop}(h:S[n]?=wq (.lst (xs.map λx=>.bl (f x))))(q:Q (.bl (xs.all f),S)):W (rJ (.ref n) S) Q:=by
 refine W.of ?_ q;unfold rJ;rw[gb h,oS1];dsimp only;rw[oM (f:=f)];simp
def BD{a:FE}{b:FA}{r:Ev}{S:Sto}{Q:List D×Sto->Prop}(h:W (a r S) λp=>W (b r p.2) λq=>Q (p.1::q.1,q.2)):W (dh a b r S) Q:=by
 unfold dh;rw[dj];simp only[dj,dr];exact h
def JS{f:G1}{a:FE}{r:Ev}{S:Sto}{Q:D×Sto->Prop}(h:W (a r S) λp=>W (f p.1 p.2) Q):W (mN (b1 f) (dh a di) r S) Q:=by
 unfold mN;rw[dj];exact BD (h.mono λp b=>W.of ag b)
def Bv{g:FN}{r:Ev}{T:Sto}{xs:List D}(h2:r[2]?=wq (wq (.tup xs)))(c:xs.length<=1000)(hg:∀x∈xs,W (dm 1 g [x] T) λp=>p=(.bl (whD x),T)):W (mTr (mN (b1 rJ) (dh (eG 1 [] (gJ (mV 2)) (gN 0) fq (d9 (mN (dm 1 g) (dh (mV 0) di)))) di)) r T) λp=>p=(xs.all whD,T++[.lst (xs.map λx=>.bl (whD x))]):=by
 have a:∀S,mV 2 r S=wq (.tup xs,S):=λS=>by unfold mV;rw[h2]
 unfold mTr;rw[dj];refine JS ?_;rw[lI,md,a,dr];dsimp only;rw[ku];dsimp only;rw[show l0 1 [] r=[aj]from rfl];refine(λh=>by rwa [List.map_id]at h:∀{Q},W (gh [] (gN 0) fq (d9 (mN (dm 1 g) (dh (mV 0) di))) (xs.map id) [aj] T) Q->W (gh [] (gN 0) fq (d9 (mN (dm 1 g) (dh (mV 0) di))) xs [aj] T) Q) ?_;refine j1 (f:=id) (λx=>D.bl (whD x)) (λr=>∃x,r=[x]) ag xs _ ⟨_,ag⟩ ?_ ?_
 ·rintro x b r ⟨y,rfl⟩;walk_at"w";refine(hg x b).mono ?_;rintro p rfl;exact⟨ag,ag,_,ag⟩
 ·rintro d _;refine⟨dz (by rw[lM1];lia),?_⟩;refine HE (xs:=xs) (f:=whD) (by rw[dy];rfl) ?_;exact W.of ag ag
def fU{S:Sto}{xs:List D}(h:vd S (.tup xs)=ai):∀x∈xs,vd S x=ai:=λx a=>by
 rw[vd]at h;exact iP h a
def yJ{m:Nat}{w:dq}(hw:WebJ m w)(hm:m<=8):bd 8 (webD w)=ai:=by
 rw[webD,bd,i4,bA1,decide_eq_true_eq,lM1,hw.len,bq];refine⟨hm,λx b=>?_⟩;obtain⟨a,d,rfl⟩:=b5.mp b;obtain⟨i,hi⟩:=bh d;rw[bd,i4,bA1,decide_eq_true_eq,lM1,bq];refine⟨by have:=hw.le i a hi;lia,λy c=>?_⟩;obtain⟨e,_,rfl⟩:=b5.mp c;rfl
def Dx{k:Nat}{zs:List Int}(h:zs.length<=k):bd k (sgD zs)=ai:=by
 rw[bd,i4,bA1,decide_eq_true_eq,lM1,bq];refine⟨h,λy a=>?_⟩;obtain⟨e,_,rfl⟩:=b5.mp a;rw[bd]
def p9{m:Nat}{w:dq}(hw:WebJ m w)(hm:m<=8)(S:Sto):vd S (webD w)=ai:=sD (yJ hw hm) (d5 w)
def Ip(zs:List Int)(S:Sto):vd S (sgD zs)=ai:=sD (Dx (nR1 _)) (g9 zs)
def jj(m:Nat)(w:dq)(sg:List Int)(d:D):Bool:=fm m d&&tf (Ec m w sg (tsD d))
def tO{m:Nat}{w:dq}{a:List Int}{d:D}{S:Sto}{Q:D×Sto->Prop}(hw:WebJ m w)(hm:m<=8)(hs:a.length=m)(n:iO S)(hv:vd S d=ai)(f:∀xs,d = .tup xs->xs.length<=1000)(q:Q (.bl (jj m w a d),S)):W (dm 3 d6 [webD w,sgD a,d] S) Q:=by
 unfold jj at q;cases hf:fm m d with
 |true=>
  obtain⟨e,f⟩:=pN hf;rw[hf,cW]at q;rw[e];exact Du hw hm hs f q
 |false=>
  rw[hf,aD]at q;refine lz ag n (by rw[fH,fH,fH,fH,hv,p9 hw hm,Ip];rfl) λT j i=>?_;have c:vd T d=ai:=iP i (by simp);unfold d6;refine ji ?_;unfold hW;refine EE (b:=ah) ?_ (λ_ G=>⟨⟨G,ag⟩,ag,q⟩) (λh=>by cases h);have k:dM (webD w) T=wq (.int (m:Nat),T):=by rw[webD,ft,lM1,hw.len]
  unfold mOr;rw[dj];have h1:W (gB (mTr (mN (dm 2 d4) (dh (mV 2) (dh (mN (b1 dM) (dh (mV 0) di)) di)))) (e9 3 [webD w,sgD a,d]) T) λp=>p=(!tl m d,T):=by
   ((try walk_at"w");repeat(simp only[k];try walk_at"w"))
   refine y3 j c ?_;walk_at"w"
  refine h1.mono ?_;rintro p rfl;dsimp only;cases ht:tl m d with
  |false=>exact W.of ag ⟨⟨[],(aF _).symm⟩,ag⟩
  |true=>
   cases d with
   |tup xs=>
    rw[fm,show decide (xs.length=m)=ai from ht,cW]at hf;have h2:=Bv (g:=eV) (r:=e9 3 [webD w,sgD a,.tup xs]) (T:=T) (xs:=xs) ag (f xs ag) λx l=>vJ j (fU c x l) ag;obtain⟨_,o,rfl⟩:=h2;unfold gB;rw[show(if(!true)=ai then _ else _)=_ from if_neg (by decide)];rw[o,hf];exact W.of ag ⟨⟨_,ag⟩,ag⟩
   |_=>cases ht
def DO{m k:Nat}{w:dq}{i:List Int}{d:D}{S:Sto}{Q:D×Sto->Prop}(hw:WebJ m w)(hm:m<=8)(hs:i.length=m)(f:iO S)(hk:S[k]?=wq (.lst (i.map D.int)))(hv:vd S d=ai)(j:∀xs,d = .tup xs->xs.length<=1000)(q:Q (.bl (jj m w i d),S)):W (dm 3 eu [webD w,.ref k,d] S) Q:=by
 unfold jj at q;cases hf:fm m d with
 |true=>
  obtain⟨e,j⟩:=pN hf;rw[hf,cW]at q;rw[e];exact Hb hw hm hs j f hk q
 |false =>
  rw[hf,aD]at q;have l:W (eu [webD w,.ref k,d] S) λp=>(∃G,p.2=S++G)/\p.1 = .bl ah:=by
   unfold eu;refine ji ?_;unfold jK;refine EE (b:=ah) ?_ (λ_ G=>⟨⟨G,ag⟩,ag⟩) (λh=>by cases h);have n:dM (webD w) S=wq (.int (m:Nat),S):=by rw[webD,ft,lM1,hw.len]
   have s:=nu hv;cases hi:EC d with
   |false=>
    ((try walk_at"w");repeat(simp only[fg,s,hi];try walk_at"w"))
    exact⟨⟨[],(aF _).symm⟩,by first|trivial|rfl⟩
   |true=>
    obtain⟨xs,rfl⟩:=n8 hi;by_cases a:xs.length=m
    ·rw [fm,decide_eq_true a,cW] at hf;have h2:=Bv (g:=dN) (r:=e9 7 [webD w,.ref k,.tup xs]) (T:=S) (xs:=xs) rfl (j xs rfl) fun x z=>gU f (fU hv x z) rfl;obtain ⟨_,B,rfl⟩:=h2;have v:W (mOr (mB (m2 (b2 gNe) (mN (b1 dM) (dh (mV 2) di)) (mN (b1 dM) (dh (mV 0) di)))) (gB (mTr (mN (b1 rJ) (dh (eG 1 [] (gJ (mV 2)) (gN 0) fq (d9 (mN (dm 1 dN) (dh (mV 0) di)))) di)))) (e9 7 [webD w,.ref k,.tup xs]) S) fun p=>(∃ G,p.2=S++G)/\p.1=true:=by
      unfold mOr;rw[dj];refine W.of (x:=(ah,S)) ?_ ?_
      ·have:mB (m2 (b2 gNe) (mN (b1 dM) (dh (mV 2) di)) (mN (b1 dM) (dh (mV 0) di))) (e9 7 [webD w,.ref k,.tup xs]) S=some (!((xs.length:Int) == (m:Int)),S):=by
        have A:mN (b1 dM) (dh (mV 0) di) (e9 7 [webD w,.ref k,.tup xs]) S=wq (.int (m:Nat),S):=by
         show(dM (webD w) S)=_;exact n
        have c:mN (b1 dM) (dh (mV 2) di) (e9 7 [webD w,.ref k,.tup xs]) S=wq (.int (xs.length:Nat),S):=rfl;unfold mB m2;rw[c,oS1];dsimp only;rw[A,oS1];rfl
       rw[this,a,beq_self_eq_true];rfl
      ·dsimp only;rw[if_neg (by decide)];unfold gB;rw[B,hf];exact W.of ag ⟨⟨_,ag⟩,ag⟩
     obtain⟨⟨b3,C⟩,c,⟨G3,o⟩,u⟩:=v;dsimp only at o u;subst o;subst u;unfold mOr at c ⊢;have y:gB (mTr (iG .tuple (mV 2))) (e9 7 [webD w,.ref k,.tup xs]) S=wq (ah,S):=rfl;rw[y,oS1];dsimp only;rw[if_neg (by decide)];exact W.of c ⟨⟨G3,ag⟩,ag⟩
    ·((try walk_at"w");repeat(simp only[fg,s,hi,n,ft];try walk_at"w"))
     have:((xs.length:Int) == (m:Int))=ah:=by simp;lia
     rw[this]
     try walk_at"w"
     exact⟨⟨[],(aF _).symm⟩,by first|trivial|rfl⟩
  refine oE ag (by rw[D.unds,d5];rfl) (l.mono ?_);rintro⟨E,V⟩ ⟨⟨G,e⟩,t⟩;dsimp only at e t;subst e;subst t;rw[rB ag f];exact q
def Km:D->Bool
 | .str _=>ai
 |_=>ah
def yU{S:Sto}{d:D}(h:vd S d=ai):jB S .str d=wq (Km d):=by
 cases d with
 |ref n=>
  rw[vd]at h;rw[jB];split at h<;>first|(rename_i e;rw[e];rfl)|rfl|cases h
 |fn x=>simp[vd]at h
 |_=>rfl
def sw(x:Str)(n:Nat):D->Bool
 | .tup (.str y::ds)=>decide (ds.length+1=n)&&(y == x)
 |_=>ah
def nf{x:Str}{d:D}{n:Nat}{S:Sto}{Q:D×Sto->Prop}(hn:0<n)(f:iO S)(hv:vd S d=ai)(q:Q (.bl (sw x n d),S)):W (dm 3 fY [d,.str x,.int n] S) Q:=by
 refine lz ag f (by rw[fH,hv,fH,fH,fH];rfl) λT g b=>?_;have a:vd T d=ai:=iP b mS1;unfold fY;refine ji ?_;unfold mK;walk_at"w";refine y3 g a ?_;cases ht:tl n d with
 |false=>
  walk_at"w";have:sw x n d=ah:=by
   cases d with
   |tup xs=>
    cases xs with
    |nil=>rfl
    |cons y ys=>
     cases y with
     |str s=>
      rw[sw];rw[tl,lC1]at ht;rw[ht];rfl
     |_=>rfl
   |_=>rfl
  rw[this]at q;exact⟨⟨[],(aF _).symm⟩,ag,q⟩
 |true=>
  cases d with
  |tup xs=>
   rw[tl,decide_eq_true_eq]at ht;cases xs with
   |nil=>simp at ht;lia
   |cons y ys=>
    have c:∀S,dt (.tup (y::ys)) (.int 0) S=wq (y,S):=λS=>jA (i:=0) ag;have e:=yU (fU a y mS1);cases hs:Km y with
    |false=>
     ((try walk_at"w");repeat(simp only[fg,c,e,hs];try walk_at"w"))
     have:sw x n (.tup (y::ys))=ah:=by
      cases y with
      |str s=>cases hs
      |_=>rfl
     rw[this]at q;exact⟨⟨[],(aF _).symm⟩,ag,q⟩
    |true=>
     cases y with
     |str s=>
      ((try walk_at"w");repeat(simp only[fg,c,e,hs];try walk_at"w"))
      have:sw x n (.tup (.str s::ys))=(s == x):=by rw[sw,decide_eq_true (by rw[lC1]at ht;exact ht),cW]
      rw[this]at q;exact⟨⟨[],(aF _).symm⟩,ag,q⟩
     |_=>cases hs
  |_=>cases ht
def HX{a:List Int}{S:Sto}{Q:D×Sto->Prop}(d:a.length<=100)(q:Q (.bl (!decide ((ddI a).length<a.length)),S)):W (dm 1 eF [sgD a] S) Q:=by
 refine iL ag (by rw[D.unds,g9];rfl) ?_;unfold eF;refine ji ?_;unfold i5;have c:=nC (ns:=a) (S:=[]) d
 ((try walk_at"w");repeat(simp only[c];try walk_at"w"))
 refine sm ag ?_;walk_at"w";rw[lM1];refine⟨ag,?_⟩;have b:=(rS a [] bg).1;have e:((((ddI a).length:Nat):Int) == ((a.length:Nat):Int)) = !decide ((ddI a).length<a.length):=by
  have:(ddI a).length<=a.length:=by simpa[ddI]using b
  rw[bI];simp;lia
 rw[e];exact q
def vC(m:Nat)(w:dq)(ws cs:List Nat)(c:D):Bool:=jj m w (sgL m ws cs ai) c&&decide ((ddI (tsD c)).length<m)
def mP(n:Nat):D->D->Bool
 | .int i,.int j=>decide (0<=i)&&(decide (i<j)&&decide (j<n))
 |_,_=>ah
def Kg(ws:List Nat):D->Nat
 | .int i=>ws.getD i.toNat 0
 |_=>0
def vA(m:Nat)(w:dq)(ws cs:List Nat)(i j c:D):Bool:=mP ws.length i j&&(jj m w (sgL m ws cs ah) c&&gi (tsD c) (Kg ws i) == gi (tsD c) (Kg ws j))
def vP(m:Nat)(w:dq)(ws cs:List Nat)(b:Bool):D->Bool
 | .tup [.str x,c]=>(x == "colours")&&vC m w ws cs c
 | .tup [.str x,i,j,c]=>(x == "alike")&&(b&&vA m w ws cs i j c)
 |_=>ah
def xa{rs:List Nat}{i:Nat}{S:Sto}(hi:i<rs.length):dt (.tup (nmD rs)) (.int i) S=wq (.int (rs.getD i 0:Nat),S):=by
 obtain⟨p,e,rfl⟩:=BE (rs:=rs) (Q:=λp=>p=(.int (rs.getD i 0:Nat),S)) hi ag;exact e
def Ae{k:Nat}{rs:List Nat}(h:rs.length<=k):bd k (.tup (nmD rs))=ai:=by
 rw[bd,i4,bA1,decide_eq_true_eq,d3,bq];refine⟨h,λy a=>?_⟩;obtain⟨e,_,rfl⟩:=b5.mp a;rw[bd]
def Es(rs:List Nat)(S:Sto):vd S (.tup (nmD rs))=ai:=sD (Ae (nR1 _)) (by rw[D.und];exact fr _)
def zk(ws cs:List Nat)(S:Sto):vd S (stD ws cs)=ai:=by
 unfold stD;rw[vd,fH,fH,fH,Es,Es];rfl
def Sh(d:D):Prop:=∀xs,d = .tup xs->xs.length<=1000 /\ ∀x∈xs,∀ys,x = .tup ys->ys.length<=1000
def xy{m:Nat}{w:dq}{ws cs:List Nat}{x:Str}{i j c:D}{S:Sto}{Q:D×Sto->Prop}(hw:WebJ m w)(t:0<m)(hm:m<=8)(p:∀x∈ws,x<m)(H:iO S)(hi:vd S i=ai)(K:vd S j=ai)(hc:vd S c=ai)(G:∀xs,c = .tup xs->xs.length<=1000)(q:Q (.bl (vA m w ws cs i j c),S)):W (dm 3 fM [webD w,stD ws cs,.tup [.str x,i,j,c]] S) Q:=by
 have I:vd S (.tup [.str x,i,j,c])=ai:=by rw[vd,fH,fH,fH,fH,fH,hi,K,hc];rfl
 refine lz ag H (by rw[fH,fH,fH,fH,p9 hw hm,zk,I];rfl) λT l u=>?_;have g:vd T (.tup [.str x,i,j,c])=ai:=iP u (by simp);have o:=fU g i (by simp);have f:=fU g j (by simp);have z:=fU g c (by simp);unfold fM;refine ji ?_;unfold kj;refine dJ (λr V=>V=T/\r=[wq (webD w),wq (stD ws cs),wq (.tup [.str x,i,j,c]),wq (.tup (nmD ws)),wq (.tup (nmD cs)),aj,aj,aj,aj]) ?_ ?_
 ·unfold stD;walk_at"w"
 rintro r V ⟨rfl,rfl⟩;refine dJ (λr U=>U=V/\r=[wq (webD w),wq (stD ws cs),wq (.tup [.str x,i,j,c]),wq (.tup (nmD ws)),wq (.tup (nmD cs)),wq (.str x),wq i,wq j,wq c]) ?_ ?_
 ·walk_at"w"
 rintro r U ⟨rfl,rfl⟩;unfold vA at q;have s:∀b:Bool,b=ah->Q (.bl (b&&(jj m w (sgL m ws cs ah) c&&gi (tsD c) (Kg ws i) == gi (tsD c) (Kg ws j))),S)->Q (.bl ah,S):=λb J h=>by rw[J]at h;exact h
 cases hbj:lB ws.length j with
 |false=>
  have h2:mP ws.length i j=ah:=by
   cases i with
   |int a=>
    cases j with
    |int b=>
     rw[lB,Bool.and_eq_false_iff,decide_eq_false_iff_not,decide_eq_false_iff_not]at hbj;rw[mP];by_cases B:0<=a
     ·by_cases h1:a<b
      ·rw[decide_eq_false (show¬ b<(ws.length:Int) by lia),bS,bS]
      ·rw[decide_eq_false h1,aD,bS]
     ·rw[decide_eq_false B,aD]
    |_=>rfl
   |_=>rfl
  unfold dv;rw[dj];walk_at"w";rw[d3];refine lA l f ?_;rw[hbj];walk_at"w";exact⟨⟨[],(aF _).symm⟩,ag,s _ h2 q⟩
 |true=>
  cases j with
  |int E=>
   rw[lB,bA1,decide_eq_true_eq,decide_eq_true_eq]at hbj;obtain⟨d,rfl⟩:∃n:Nat,E=n:=⟨E.toNat,by lia⟩;have A:d<ws.length:=by lia
   cases hbi:lB d i with
   |false=>
    have h2:mP ws.length i (.int (d:Nat))=ah:=by
     cases i with
     |int a=>
      rw[lB,Bool.and_eq_false_iff,decide_eq_false_iff_not,decide_eq_false_iff_not]at hbi;rw[mP];by_cases B:0<=a
      ·rw[decide_eq_false (show¬ a<(d:Int) by lia),aD,bS]
      ·rw[decide_eq_false B,aD]
     |_=>rfl
    unfold dv;rw[dj];walk_at"w";rw[d3];refine lA l f ?_;rw[show lB ws.length (.int (d:Nat))=ai by rw[lB,decide_eq_true hbj.1,decide_eq_true hbj.2];rfl];walk_at"w";refine lA l o ?_;rw[hbi];walk_at"w";exact⟨⟨[],(aF _).symm⟩,ag,s _ h2 q⟩
   |true=>
    cases i with
    |int C=>
     rw[lB,bA1,decide_eq_true_eq,decide_eq_true_eq]at hbi;obtain⟨k,rfl⟩:∃n:Nat,C=n:=⟨C.toNat,by lia⟩;have v:k<ws.length:=by lia
     have h2:mP ws.length (.int (k:Nat)) (.int (d:Nat))=ai:=by rw[mP,decide_eq_true hbi.1,decide_eq_true hbi.2,decide_eq_true hbj.2];rfl
     rw[h2,cW]at q;refine dJ (λr V=>V=U/\r=[wq (webD w),wq (stD ws cs),wq (.tup [.str x,.int (k:Nat),.int (d:Nat),c]),wq (.tup (nmD ws)),wq (.tup (nmD cs)),wq (.str x),wq (.int (k:Nat)),wq (.int (d:Nat)),wq c]) ?_ ?_
     ·walk_at"w";rw[d3];refine lA l f ?_;rw[show lB ws.length (.int (d:Nat))=ai by rw[lB,decide_eq_true hbj.1,decide_eq_true hbj.2];rfl];walk_at"w";refine lA l o ?_;rw[show lB d (.int (k:Nat))=ai by rw[lB,decide_eq_true hbi.1,decide_eq_true hbi.2];rfl];walk_at"w"
     rintro r V ⟨rfl,rfl⟩;walk_at"w";refine rW (ws:=ws) hw hm ?_;refine tO hw hm kQ l z G ?_;cases hf:jj m w (sgL m ws cs ah) c with
     |false=>
      rw[hf]at q;walk_at"w";exact⟨⟨[],(aF _).symm⟩,ag,q⟩
     |true=>
      rw[hf,cW]at q;have y:fm m c=ai:=by unfold jj at hf;rw[bA1]at hf;exact hf.1
      obtain⟨F,e⟩:=pN y;generalize tsD c=ts at F e q;subst F;have a1:=xa (S:=V) v;have a2:=xa (S:=V) A;have b1:=mD (S:=V) e (jX (i:=k) t p);have b2:=mD (S:=V) e (jX (i:=d) t p)
      ((try walk_at"w");repeat(simp only[a1,a2,b1,b2];try walk_at"w"))
      exact⟨⟨[],(aF _).symm⟩,ag,q⟩
    |_=>cases hbi
  |_=>cases hbj
def wI{x:Str}{n:Nat}{d:D}(h:sw x n d=ai):∃ds,d = .tup (.str x::ds)/\ds.length+1=n:=by
 cases d with
 |tup xs=>
  cases xs with
  |nil=>cases h
  |cons y ys=>
   cases y with
   |str s=>
    rw[sw,bA1,decide_eq_true_eq,beq_iff_eq]at h;exact⟨ys,by rw[h.2],h.1⟩
   |_=>cases h
 |_=>cases h
def Jo{α:Type}{l:List α}(h:l.length+1=2):∃a,l=[a]:=by
 match l,h with
 |[a],_=>exact⟨a,ag⟩
def Jm{α:Type}{l:List α}(h:l.length+1=4):∃a b c,l=[a,b,c]:=by
 match l,h with
 |[a,b,c],_=>exact⟨a,b,c,ag⟩
def yQ {m:Nat}{w:dq}{ws cs:List Nat}{b:Bool}{d:D}(h1:sw "colours" 2 d=ah)(h2:(b&&sw "alike" 4 d)=ah):vP m w ws cs b d=ah:=by
 unfold vP;split
 ·rename_i x c;have:(x == "colours")=ah:=by simpa[sw]using h1
  rw[this];rfl
 ·rename_i x i j c;cases b with
  |false=>rw[aD,bS]
  |true=>
   have:(x == "alike")=ah:=by simpa[sw]using h2
   rw[this];rfl
 ·rfl
def zp{m:Nat}{w:dq}{ws cs:List Nat}{b:Bool}{d:D}{S:Sto}{Q:D×Sto->Prop}(hw:WebJ m w)(n:0<m)(hm:m<=8)(l:∀x∈ws,x<m)(v:iO S)(hv:vd S d=ai)(k:Sh d)(q:Q (.bl (vP m w ws cs b d),S)):W (dm 4 fL [webD w,stD ws cs,.bl b,d] S) Q:=by
 refine lz ag v (by rw[fH,fH,fH,fH,fH,p9 hw hm,zk,hv];rfl) λT g p=>?_;have a:vd T d=ai:=iP p (by simp);unfold fL;refine ji ?_;unfold kh;cases h1:sw "colours" 2 d with
 |true=>
  obtain⟨ds,rfl,o⟩:=wI h1;obtain⟨c,rfl⟩:=Jo o;have u:∀S,dt (.tup [.str "colours",c]) (.int 1) S=wq (c,S):=λS=>jA (i:=1) ag;unfold dv;rw[dj];walk_at"w";refine nf (by decide) g a ?_;rw[h1];walk_at"w";refine Bw hw hm ?_
  ((try walk_at"w");repeat(simp only[u];try walk_at"w"))
  refine tO hw hm kQ g (fU a c (by simp)) (λxs e=>(k _ ag).2 c (by simp) xs e) ?_;have f:Q (.bl (jj m w (sgL m ws cs ai) c&&decide ((ddI (tsD c)).length<m)),S):=q;cases hf:jj m w (sgL m ws cs ai) c with
  |false=>
   rw[hf]at f;walk_at"w";exact⟨⟨[],(aF _).symm⟩,ag,f⟩
  |true=>
   rw[hf,cW]at f;have s:fm m c=ai:=by unfold jj at hf;rw[bA1]at hf;exact hf.1
   obtain⟨t,h⟩:=pN s;generalize tsD c=ts at t h f;subst t
   ((try walk_at"w");repeat(simp only[u];try walk_at"w"))
   refine HX (by lia) ?_;walk_at"w";rw[h];refine⟨⟨[],(aF _).symm⟩,ag,?_⟩;simpa using f
 |false=>
  refine dJ (λr V=>V=T/\r=[wq (webD w),wq (stD ws cs),wq (.bl b),wq d]) ?_ ?_
  ·walk_at"w";refine nf (by decide) g a ?_;rw[h1];walk_at"w"
  rintro r V ⟨rfl,rfl⟩;cases b with
  |false=>
   rw[yQ h1 ag]at q;walk_at"w";exact⟨⟨[],(aF _).symm⟩,ag,q⟩
  |true=>
   cases h2:sw "alike" 4 d with
   |false=>
    rw[yQ h1 (by rw[h2];rfl)]at q;walk_at"w";refine nf (by decide) g a ?_;rw[h2];walk_at"w";exact⟨⟨[],(aF _).symm⟩,ag,q⟩
   |true=>
    obtain⟨ds,rfl,o⟩:=wI h2;obtain⟨i,j,c,rfl⟩:=Jm o;have f:Q (.bl (vA m w ws cs i j c),S):=q;walk_at"w";refine nf (by decide) g a ?_;rw[h2];walk_at"w";refine xy hw n hm l g (fU a i (by simp)) (fU a j (by simp)) (fU a c (by simp)) (λxs e=>(k _ ag).2 c (by simp) xs e) ?_;exact⟨⟨[],(aF _).symm⟩,ag,f⟩
def AC{m:Nat}{w:dq}{ws cs:List Nat}{b:Bool}{S:Sto}{Q:D×Sto->Prop}(hw:WebJ m w)(hm:m<=8)(q:Q (.ref S.length,S++[.lst ((sgL m ws cs b).map D.int)])):W (dm 3 fe [webD w,stD ws cs,.bl b] S) Q:=by
 refine JK ag (by rw[D.unds,d5,D.unds,nz];rfl) ((AB hw hm).mono ?_);rintro p rfl;exact⟨_,ag,eJ λ_ _=>rfl,q⟩
def Io{T:Sto}{zs:List Int}(h:iO T):iO (T++[.lst (zs.map D.int)]):=by
 unfold iO at *
 rw[cC,bA1];refine⟨bq.mpr λo a=>fJ (by simp) (bq.mp h o a),?_⟩;have:(Ob.lst (zs.map D.int)).und 0=ai:=eJ λ_ _=>rfl;rw[bH,fJ (aZ _) this];rfl
def E2{T G:Sto}{d:D}(h:vd T d=ai):vd (T++G) d=ai:=qg (λn a=>by
 rw[vd]at a ⊢;cases e:T[n]? with
 |none=>rw[e]at a;cases a
 |some x=>rw[gL1 (gE1.mp e).1,e];rw[e]at a;exact a) h
def B0{m:Nat}{w:dq}{ws cs:List Nat}{b:Bool}{y:D}{ys:List D}(h:Km y=ah):vP m w ws cs b (.tup (y::ys))=ah:=by
 unfold vP;split
 ·rename_i e;cases e;cases h
 ·rename_i e;cases e;cases h
 ·rfl
def vb{m:Nat}{w:dq}{ws cs:List Nat}{b:Bool}{c:D}{T:Sto}{Q:D×Sto->Prop}(hw:WebJ m w)(hm:m<=8)(d:iO T)(hc:vd T c=ai)(a:∀xs,c = .tup xs->xs.length<=1000)(q:Q (.bl (jj m w (sgL m ws cs b) c),T++[.lst ((sgL m ws cs b).map D.int)])):W (dm 3 eu [webD w,.ref T.length,c] (T++[.lst ((sgL m ws cs b).map D.int)])) Q:=
 DO hw hm kQ (Io d) (by rw[dy];rfl) (E2 hc) a q
def Hm{r:Ev}{S:Sto}{c eb d:FE}{a b n:Int}(ha:c r S=wq (.int a,S))(hb:eb r S=wq (.int b,S))(hc:d r S=wq (.int n,S)):mB (xP (b2 (iX λi j=>decide (i<=j))) (b2 gLt) (b2 gLt) (mC (D.int (0))) c eb d) r S=wq (decide (0<=a)&&(decide (a<b)&&decide (b<n)),S):=by
 have h1:b2 (iX λi j=>decide (i<=j)) [D.int 0,D.int a] S=wq (.bl (decide (0<=a)),S):=rfl;have h2:b2 gLt [D.int a,D.int b] S=wq (.bl (decide (a<b)),S):=rfl;have f:b2 gLt [D.int b,D.int n] S=wq (.bl (decide (b<n)),S):=rfl;have e:mC (D.int 0) r S=wq (.int 0,S):=rfl;unfold mB xP;simp only[e,ha,hb,hc,h1,h2,f,oS1];cases decide (0<=a)with
 |false=>rfl
 |true=>
  simp only[if_true,oS1];cases decide (a<b)with
  |false=>rfl
  |true=>rfl
def Hg{m:Nat}{w:dq}{ws cs:List Nat}{b:Bool}{d:D}{S:Sto}{Q:D×Sto->Prop}(hw:WebJ m w)(K:0<m)(hm:m<=8)(H:∀x∈ws,x<m)(Z:iO S)(hv:vd S d=ai)(R:Sh d)(q:Q (.bl (vP m w ws cs b d),S)):W (dm 4 hR [webD w,stD ws cs,.bl b,d] S) Q:=by
 refine lz ag Z (by rw[fH,fH,fH,fH,fH,p9 hw hm,zk,hv];rfl) λT v P=>?_;have k:vd T d=ai:=iP P (by simp);unfold hR;refine ji ?_;unfold oK;have M:=nu k;have nil:(∃G,T=T++G):=⟨[],(aF _).symm⟩;have e0:∀S,dM (webD w) S=wq (.int (m:Nat),S):=λS=>by rw[webD,ft,lM1,hw.len]
 cases hi:EC d with
 |false=>
  have:vP m w ws cs b d=ah:=by cases d with
   |tup xs=>cases hi
   |_=>rfl
  rw[this]at q;unfold dv;rw[dj]
  ((try walk_at"w");repeat(simp only[fg,M,hi];try walk_at"w"))
  exact⟨nil,ag,q⟩
 |true =>
  obtain⟨xs,rfl⟩:=n8 hi;cases xs with
  |nil=>
   unfold dv;rw[dj]
   ((try walk_at"w");repeat(simp only[fg,M,hi,ox];try walk_at"w"))
   simp only[List.isEmpty_nil]
   try walk_at"w"
   exact⟨nil,ag,q⟩
  |cons y ys=>
   have B:∀S,dt (.tup (y::ys)) (.int 0) S=wq (y,S):=λS=>jA (i:=0) ag;have Y:=yU (fU k y mS1);cases hs:Km y with
   |false=>
    rw[B0 hs]at q;unfold dv;rw[dj]
    ((try walk_at"w");repeat(simp only[fg,M,hi,ox,B];try walk_at"w"))
    rw[if_neg (by simp),Y,hs,dr,if_pos (by decide)];exact⟨nil,ag,q⟩
   |true =>
    cases y with
    |str s =>
     refine dJ (λr V=>V=T/\r=[wq (webD w),wq (stD ws cs),wq (.bl b),wq (.tup (.str s::ys)),aj]) ?_ ?_
     ·((try walk_at"w");repeat(simp only[fg,M,hi,ox,B];try walk_at"w"))
      rw[if_neg (by simp),Y,hs,dr,if_neg (by decide)]
      all_goals first|exact⟨rfl,rfl,rfl⟩|exact⟨rfl,rfl⟩|trivial
     rintro r V ⟨rfl,rfl⟩;have sh:=R _ ag;have el:∀S,dM (.tup (D.str s::ys)) S=wq (.int (ys.length+1:Nat),S):=λS=>by rw[ft,lC1]
     by_cases h:sw "colours" 2 (.tup (.str s::ys))=ai
     ·obtain⟨ds,e,O⟩:=wI h;cases e;obtain⟨c,rfl⟩:=Jo O;have u:∀S,dt (.tup [.str "colours",c]) (.int 1) S=wq (c,S):=λS=>jA (i:=1) ag;have f:Q (.bl (jj m w (sgL m ws cs ai) c&&decide ((ddI (tsD c)).length<m)),S):=q;unfold dv;rw[dj]
      ((try walk_at"w");repeat(simp only[B];try walk_at"w"))
      refine AC hw hm ?_
      ((try walk_at"w");repeat(simp only[u];try walk_at"w"))
      refine vb hw hm v (fU k c (by simp)) (λxs e=>sh.2 c (by simp) xs e) ?_;cases hf:jj m w (sgL m ws cs ai) c with
      |false=>
       rw[hf]at f;walk_at"w";exact⟨⟨_,ag⟩,ag,f⟩
      |true=>
       rw[hf,cW]at f;have A:fm m c=ai:=by unfold jj at hf;rw[bA1]at hf;exact hf.1
       obtain⟨F,l⟩:=pN A;generalize tsD c=ts at F l f;subst F
       ((try walk_at"w");repeat(simp only[u];try walk_at"w"))
       rw[nC (by lia),dr];dsimp only;refine sm (by rw[dy];rfl) ?_
       ((try walk_at"w");repeat(simp only[e0];try walk_at"w"))
       have:decide ((((ddI ts).length:Nat):Int)<(m:Int))=decide ((ddI ts).length<m):=by rw[bI];simp
       rw[this];exact⟨⟨_,ag⟩,ag,f⟩
     ·rw [cr] at h;have t:((s == "colours")&&(((ys.length+1:Nat):Int) == 2))=false:=by
       rw[sw]at h;rw[Bool.and_comm]at h;have:decide (ys.length+1=2)=(((ys.length+1:Nat):Int) == 2):=by rw[bI,decide_eq_true_eq,beq_iff_eq];lia
       rwa [this]at h
      refine dJ (λr U=>U=V/\r=[wq (webD w),wq (stD ws cs),wq (.bl b),wq (.tup (.str s::ys)),aj]) ?_ ?_
      ·((try walk_at"w");repeat(simp only[B];try walk_at"w"))
       cases h1:(s == "colours")with
       |false=>
        rw[if_neg (by decide)]
        all_goals first|exact⟨rfl,rfl,rfl⟩|exact⟨rfl,rfl⟩|trivial
       |true=>
        rw[h1,cW]at t;rw[if_pos ag,t,if_neg (by decide)]
        all_goals first|exact⟨rfl,rfl,rfl⟩|exact⟨rfl,rfl⟩|trivial
      rintro r U ⟨rfl,rfl⟩;cases g:(b&&sw "alike" 4 (.tup (.str s::ys)))with
      |false=>
       rw[yQ h g]at q;have p:((s == "alike")&&((((ys.length+1:Nat):Int) == 4)&&b))=ah:=by
        rw[sw]at g;have:decide (ys.length+1=4)=(((ys.length+1:Nat):Int) == 4):=by rw[bI,decide_eq_true_eq,beq_iff_eq];lia
        rw[this]at g;rw[<- g];cases(s == "alike")<;>cases(((ys.length+1:Nat):Int) == 4)<;>cases b<;>rfl
       unfold dv;rw[dj]
       ((try walk_at"w");repeat(simp only[B];try walk_at"w"))
       cases h1:(s == "alike")with
       |false=>
        rw[if_pos (by decide)];exact⟨nil,ag,q⟩
       |true=>
        rw[if_neg (by decide)];cases h2:(((ys.length+1:Nat):Int) == 4)with
        |false=>
         rw[if_pos (by decide)];exact⟨nil,ag,q⟩
        |true=>
         rw[if_neg (by decide)];rw[h1,h2,cW,cW]at p;rw[p,if_pos (by decide)];exact⟨nil,ag,q⟩
      |true=>
       rw[bA1]at g;obtain⟨rfl,g⟩:=g;obtain⟨ds,e,O⟩:=wI g;cases e;obtain⟨i,j,c,rfl⟩:=Jm O;have f:Q (.bl (vA m w ws cs i j c),S):=q;have u:∀S,dt (.tup [.str "alike",i,j,c]) (.int 1) S=wq (i,S):=λS=>jA (i:=1) ag;have N:∀S,dt (.tup [.str "alike",i,j,c]) (.int 2) S=wq (j,S):=λS=>jA (i:=2) ag;have L:∀S,dt (.tup [.str "alike",i,j,c]) (.int 3) S=wq (c,S):=λS=>jA (i:=3) ag;refine dJ (λr V=>V=U/\r=[wq (webD w),wq (stD ws cs),wq (.bl ai),wq (.tup [.str "alike",i,j,c]),aj]) ?_ ?_
       ·((try walk_at"w");repeat(simp only[B];try walk_at"w"))
        all_goals first|exact⟨rfl,rfl,rfl⟩|exact⟨rfl,rfl⟩|trivial
       rintro r V ⟨rfl,rfl⟩;have z:=fU k i (by simp);have I:=fU k j (by simp);have J:=fU k c (by simp);unfold vA at f;cases hwi:whD i with
       |false=>
        have h2:mP ws.length i j=ah:=by cases i with
         |int a=>cases hwi
         |_=>rfl
        rw[h2,aD]at f;unfold dv;rw[dj]
        ((try walk_at"w");repeat(simp only[u];try walk_at"w"))
        refine gU v z ?_;rw[hwi];walk_at"w";exact⟨nil,ag,f⟩
       |true=>
        obtain⟨a,rfl⟩:=se hwi;cases hwj:whD j with
        |false=>
         have h2:mP ws.length (.int a) j=ah:=by cases j with
          |int b=>cases hwj
          |_=>rfl
         rw[h2,aD]at f;unfold dv;rw[dj]
         ((try walk_at"w");repeat(simp only[u];try walk_at"w"))
         refine gU v z ?_
         ((try walk_at"w");repeat(simp only[N];try walk_at"w"))
         refine gU v I ?_;rw[hwj];walk_at"w";exact⟨nil,ag,f⟩
        |true=>
         obtain⟨b,rfl⟩:=se hwj;refine dJ (λr U=>U=V/\r=[wq (webD w),wq (stD ws cs),wq (.bl ai),wq (.tup [.str "alike",.int a,.int b,c]),aj]) ?_ ?_
         ·((try walk_at"w");repeat(simp only[u];try walk_at"w"))
          refine gU v z ?_
          ((try walk_at"w");repeat(simp only[N];try walk_at"w"))
          refine gU v I ?_;walk_at"w"
          all_goals first|exact⟨rfl,rfl,rfl⟩|exact⟨rfl,rfl⟩|trivial
         rintro r U ⟨rfl,rfl⟩;have o:mB (xP (b2 (iX λi j=>decide (i<=j))) (b2 gLt) (b2 gLt) (mC (D.int (0))) (m2 (b2 dt) (mV 3) (mC (D.int (1)))) (m2 (b2 dt) (mV 3) (mC (D.int (2)))) (mN (b1 dM) (dh (m2 (b2 dt) (mV 1) (mC (D.int (0)))) di))) [wq (webD w),wq (stD ws cs),wq (.bl ai),wq (.tup [.str "alike",.int a,.int b,c]),aj] U=wq (mP ws.length (.int a) (.int b),U):=by
          refine Hm (u U) (N U) ?_;have:dM (.tup (nmD ws)) U=wq (.int (ws.length:Nat),U):=by rw[ft,d3]
          exact this
         cases h2:mP ws.length (.int a) (.int b)with
         |false=>
          rw[h2,aD]at f;rw[h2]at o;unfold dv eD gB;rw[dj,dj,dj];refine W.of o ?_;walk_at"w";exact⟨nil,ag,f⟩
         |true=>
          rw[h2,cW]at f;rw[h2]at o;refine dJ (λr V=>V=U/\r=[wq (webD w),wq (stD ws cs),wq (.bl ai),wq (.tup [.str "alike",.int a,.int b,c]),aj]) ?_ ?_
          ·unfold eD gB;rw[dj,dj];refine W.of o ?_;walk_at"w"
           all_goals first|exact⟨rfl,rfl,rfl⟩|exact⟨rfl,rfl⟩|trivial
          rintro r V ⟨rfl,rfl⟩;rw[mP,bA1,bA1,decide_eq_true_eq,decide_eq_true_eq,decide_eq_true_eq]at h2;obtain⟨g0,g1,g2⟩:=h2;obtain⟨E,rfl⟩:∃n:Nat,a=n:=⟨a.toNat,by lia⟩;obtain⟨C,rfl⟩:∃n:Nat,b=n:=⟨b.toNat,by lia⟩;cases hf:jj m w (sgL m ws cs ah) c with
          |false=>
           rw[hf]at f;unfold dv;rw[dj];walk_at"w";refine AC hw hm ?_
           ((try walk_at"w");repeat(simp only[L];try walk_at"w"))
           refine vb hw hm v J (λxs e=>sh.2 c (by simp) xs e) ?_;rw[hf];walk_at"w";exact⟨⟨_,ag⟩,ag,f⟩
          |true=>
           rw[hf,cW]at f;have A:fm m c=ai:=by unfold jj at hf;rw[bA1]at hf;exact hf.1
           obtain⟨F,l⟩:=pN A;refine dJ (λr U=>U=V++[.lst ((sgL m ws cs ah).map D.int)]/\r=[wq (webD w),wq (stD ws cs),wq (.bl ai),wq (.tup [.str "alike",.int (E:Nat),.int (C:Nat),c]),aj]) ?_ ?_
           ·walk_at"w";refine AC hw hm ?_
            ((try walk_at"w");repeat(simp only[L];try walk_at"w"))
            refine vb hw hm v J (λxs e=>sh.2 c (by simp) xs e) ?_;rw[hf];walk_at"w"
            all_goals first|exact⟨rfl,rfl,rfl⟩|exact⟨rfl,rfl⟩|trivial
           rintro r U ⟨rfl,rfl⟩;generalize hts:tsD c=ts at F l f;have X:∀S,dt (stD ws cs) (.int 0) S=wq (.tup (nmD ws),S):=λS=>jA (i:=0) ag;have a1:∀S,dt (.tup (nmD ws)) (.int E) S=wq (.int (ws.getD E 0:Nat),S):=λS=>xa (by lia);have a2:∀S,dt (.tup (nmD ws)) (.int C) S=wq (.int (ws.getD C 0:Nat),S):=λS=>xa (by lia);have b1:∀S,dt c (.int (ws.getD E 0:Nat)) S=wq (.int (gi ts (ws.getD E 0)),S):=λS=>by rw[F];exact mD l (jX (i:=E) K H)
           have b2:∀S,dt c (.int (ws.getD C 0:Nat)) S=wq (.int (gi ts (ws.getD C 0)),S):=λS=>by rw[F];exact mD l (jX (i:=C) K H)
           ((try walk_at"w");repeat(simp only[L,X,u,a1,b1];try walk_at"w"))
           ((try walk_at"w");repeat(simp only[L,X,N,a2,b2];try walk_at"w"))
           exact⟨⟨_,ag⟩,ag,f⟩
    |_=>cases hs
inductive TL (k c N:Nat)(T:Sto)(o:Ob)(G:Sto)(p:Nat)(L:List D):Prop
 |mk:Hnd o N->ClT (T++G)->(T++G)[p]?=some (.lst L)->L.length=c->(∀x∈L,Ok k (o::(T++G)) x)->TL k c N T o G p L
def NL(k n N:Nat)(T:Sto)(o:Ob)(G:Sto)(q:D×Sto):Prop:=∃o' G1 L',q=(.ref (T++(G++G1)).length.succ,o'::(T++(G++G1)++[.lst L']))/\Hnd o' N/\ClT (T++(G++G1)++[.lst L'])/\L'.length=n /\ ∀x∈L',Ok k (o'::(T++(G++G1))) x
def Bm{k c n N b p:Nat}{T G:Sto}{o:Ob}{L:List D}{r:Ev}{j:FE}(hr:r[9]? = some (some (.ref (p+1))))(h:TL k c N T o G p L)(he:W (j r (o::(T++G))) (NL k n b T o G))(hn:c+n<=1000):
  W (m2 (b2 ed) (mV 9) j r (o::(T++G))) λq=>∃o' G2 g L',q=(.ref (g+1),o'::(T++(G++G2)))/\TL k (c+n) b T o' (G++G2) g L':=by
 obtain⟨y,h1,h2,l,s⟩:=h;have e:=(gE1.mp h2).1;unfold m2;rw[dj];refine W.of (x:=(.ref (p+1),o::(T++G))) (by unfold mV;rw[hr]) ?_;rw[dj];refine he.mono ?_;rintro q ⟨o',G1,L',rfl,d,m,w,u⟩;dsimp only[b2];have t:T++(G++G1)++[Ob.lst L']=(T++G)++(G1++[Ob.lst L']):=by simp
 refine(BG (xs:=L) (ys:=L') ?_ ?_).mpr ⟨dz (by lia),?_⟩
 ·rw[gC1,t,gL1 e];exact h2
 ·rw[cB,gC1,dy];rfl
 have f:o'::(T++(G++G1)++[Ob.lst L'])++[Ob.lst (L++L')]=o'::(T++(G++(G1++[Ob.lst L',Ob.lst (L++L')]))):=by simp
 have i:∀x∈L++L',Ok k (o'::(T++(G++G1))) x:=λx a=>by
  rcases ay.mp a with z|z
  ·have:=(s x z).on (n:=N) (G:=G1) d
   rwa [bw]at this
  ·exact u x z
 have hc:ClT (T++(G++(G1++[Ob.lst L',Ob.lst (L++L')]))):=by
  have:=l9 (o:=o') m λx a=>(i x a).on (n:=b) (G:=[Ob.lst L']) d;have v:T++(G++G1)++[Ob.lst L']++[Ob.lst (L++L')]=T++(G++(G1++[Ob.lst L',Ob.lst (L++L')])):=by simp
  rwa [v]at this
 refine⟨o',G1++[Ob.lst L',Ob.lst (L++L')],(T++(G++G1)++[Ob.lst L']).length,L++L',?_,d,hc,?_,by rw[lA1,l,w],λx a=>?_⟩
 ·rw[f];rfl
 ·rw[show T++(G++(G1++[Ob.lst L',Ob.lst (L++L')]))=(T++(G++G1)++[Ob.lst L'])++[Ob.lst (L++L')] by simp,dy];rfl
 ·have:=(i x a).on (n:=b) (G:=[Ob.lst L',Ob.lst (L++L')]) d;simpa using this
def uX{k n N:Nat}{T G:Sto}{o:Ob}{r:Ev}{a:FA}(ho:Hnd o N)(ha:AK k r o T n a)(hn:n<=1000)(b:ClT (T++G)):W (eH a r (o::(T++G))) (NL k n N T o G):=by
 refine(ww ha hn G b).mono ?_;rintro p ⟨G1,L,rfl,h1,h2,c⟩;exact⟨o,G1,L,ag,ho,h1,h2,c⟩
structure Pp (d:D):Prop where
 und:d.und 0=true
 bd:bd 9 d=true
 lo:EV 2 d
 tup:∃xs,d = .tup xs
def Pp.ok{d:D}(h:Pp d){k:Nat}{S:Sto}(hk:9<=k):Ok k S d:=(Ok.shut h.und h.bd).more hk
def D1{n:Nat}{T G:Sto}{o:Ob}{r:Ev}{d:D}(h2:r[2]? = some (some (.ref 0)))(l:r[10]? = some (some d))(hp:Pp d)(ho:Hnd o n)(hn:n<=2^38)(q:ClT (T++G)):
  W (eG 1 [2,10] (sv (dh (mC (D.int (6))) di)) (gN 0) fq (d9 (mN (dm 3 il) (dh (mV 1) (dh (mV 2) (dh (mC (D.int (2))) di))))) r (o::(T++G))) (NL 20 6 (n+180) T o G):=by
 rw[lI,w8];refine W.of (x:=([.int 6],_)) ag ?_;refine⟨sd (by decide) (by decide),?_⟩;have j:l0 1 [2,10] r=[aj,wq (.ref 0),wq d]:=by simp[l0,h2,l]
 rw[j];refine io (λi a r S=>∃o' G1 x,i<=6/\a.length=i/\Hnd o' (n+30*i)/\ClT (T++(G++G1))/\(∀x∈a,Ok 20 (o'::(T++(G++G1))) x)/\S=o'::(T++(G++G1))/\r=[x,wq (.ref 0),wq d]) _ 0 [] _ _ ⟨o,[],_,by lia,ag,ho,by rw[aF];exact q,(λx h=>by cases h),by rw[aF],ag⟩ (λ_ _ _ _ _=>rfl) ?_ ?_
 ·rintro i e t a r S ⟨o',G1,x,hi,f,c,hc,g,rfl,rfl⟩;have b:=(gE1.mp t).1;rw[eK]at b;have b:i<6:=b;rw[bG]at *
  walk_at"w";refine Hx 2 (fuel:=8) (k:=9) (by decide) c (by lia) hc (hp.ok (nR1 _)) hp.lo (by decide) (by decide) λy v G2 m u s=>?_;refine⟨v,G1++G2,_,by lia,by simp[f],m.more (by lia),by simpa using u,λz p=>?_,by simp,ag⟩;rcases ay.mp p with h|h
  ·have:=(g z h).on (n:=n) (G:=G2) m;simpa using this
  ·rw[cb.mp h];simpa using s
 ·rintro xs r S ⟨o',G1,x,hi,f,c,hc,g,rfl,rfl⟩;rw[cH]at f g;have f:xs.length=6:=f;refine⟨dz (by lia),o',G1,xs,ag,c,l9 hc g,f,g⟩
abbrev lx(N:D)(k:Int)(x3 x4 x5 x6 x7 x8 x9 x10 x11 x12 x13:Option D):Ev:=[wq N,wq (.int k),wq (.ref 0),x3,x4,x5,x6,x7,x8,x9,x10,x11,x12,x13]
def ri{n:Nat}(h:n<2^60):(n:Int).natAbs.log2<1920:=by
 rw[Int.natAbs_natCast];by_cases a:n=0
 ·subst a;decide
 ·exact nL1 ((Nat.log2_lt a).mpr h) (by decide)
def Ex{rs:List Nat}(h:∀x∈rs,x<2^60):EV 1 (.tup (nmD rs)):=⟨λi e=>(by cases e),λxs e x a=>by
 cases e;obtain⟨r,b,rfl⟩:=b5.mp a;intro i e;cases e;exact ri (h r b)⟩
def AL{s:Str}:EV 1 (.str s):=⟨λi e=>(by cases e),λxs e=>(by cases e)⟩
def AM{i:Int}(h:i.natAbs.log2<1920):EV 1 (.int i):=⟨λj e=>(by cases e;exact h),λxs e=>(by cases e)⟩
def uO{s:Str}{rs:List Nat}(b:rs.length<=8)(h:∀x∈rs,x<2^60):Pp (.tup [.str s,.tup (nmD rs)]):=by
 refine⟨by rw[D.und,D.unds,D.unds,D.und,D.und,fr];rfl,?_,⟨λi e=>(by cases e),λxs e x a=>?_⟩,_,ag⟩
 ·rw[bd,i4];have:=Ae (k:=9) (rs:=rs) (by lia);rw[bd,bA1,decide_eq_true_eq]at this;simp[bd];exact this
 ·cases e;simp only[aw,bD,or_false]at a;rcases a with rfl|rfl
  ·exact AL
  ·exact Ex h
def k7{s:Str}{i j:Int}{rs:List Nat}(hi:i.natAbs.log2<1920)(b:j.natAbs.log2<1920)(c:rs.length<=8)(h:∀x∈rs,x<2^60):Pp (.tup [.str s,.int i,.int j,.tup (nmD rs)]):=by
 refine⟨by rw[D.und,D.unds,D.unds,D.unds,D.unds,D.und,D.und,D.und,D.und,fr];rfl,?_,⟨λi e=>(by cases e),λxs e x a=>?_⟩,_,ag⟩
 ·rw[bd,i4];have:=Ae (k:=9) (rs:=rs) (by lia);rw[bd,bA1,decide_eq_true_eq]at this;simp[bd];exact this
 ·cases e;simp only[aw,bD,or_false]at a;rcases a with rfl|rfl|rfl|rfl
  ·exact AL
  ·exact AM hi
  ·exact AM b
  ·exact Ex h
def Bg{m:Nat}{w:dq}{a:List Int}(hm:m<=8):∀x∈iu m w a,x<2^60:=λx b=>by
 unfold iu at b;obtain⟨r,d,rfl⟩:=b5.mp b;have h1:=ar.mp d;rw[vg];have h2:=Bh (col w a m) (fs (col w a m) r);have e:=pM (col w a m) r;show cnt (col w a m) (fs (col w a m) r)<2^60;have c:cnt (col w a m) (fs (col w a m) r)<8:=by lia
 exact nL1 c (by decide)
def IV{m:Nat}{w:dq}{ws cs:List Nat}{b:Bool}{d:D}(hm:m<=8)(a:ws.length<=20)(h:Nv m w ws cs b d):d = .non\/Pp d:=by
 have e:∀c,(iu m w c).length<=8:=λc=>by rw[oC];exact hm
 cases h with
 |co _=>exact .inr (uO (e _) (Bg hm))
 |al _ _ _ f=>
  cases f with
  |no _=>exact .inl ag
  |yes i j h1 h2 _ _=>exact .inr (k7 (ri (aY (aY h1 h2) (bx a (by decide)))) (ri (aY h2 (bx a (by decide)))) (e _) (Bg hm))
 |no _ _=>exact .inl ag
def IS{k:Nat}{S:Sto}{d:D}(h:Ok k S d)(hk:k<=1000):Sh d:=by
 rintro xs rfl;obtain⟨h1,h2⟩:=h.of;refine⟨by lia,?_⟩;rintro x a ys rfl;have:=(h2 _ a).of.1;lia
def IY{b:Bool}{S:Sto}:gNe (.bl b) (.bl b) S=wq (.bl ah,S):=by cases b<;>rfl
def Hz{m:Nat}{w:dq}{ws cs:List Nat}{d N:D}{k:Int}{S:Sto}{x4 x6 g x8 x9 x10 x12 x13:Option D}(hw:WebJ m w)(f:0<m)(hm:m<=8)(a:∀ x∈ws,x<m)(j:iO S)(hv:vd S d=true)(c:Sh d):
  W (qz (lx N k (wq (webD w)) x4 (wq (stD ws cs)) x6 g x8 x9 x10 (wq d) x12 x13) S) λp=>p.1 = .nx/\p.2.2=S /\ ∃x12 x13,p.2.1=lx N k (wq (webD w)) x4 (wq (stD ws cs)) x6 g x8 x9 x10 (wq d) x12 x13:=by
 unfold qz;walk_at"w";rw[ku];refine eA (λi r V=>V=S /\ ∃x12 x13,r=lx N k (wq (webD w)) x4 (wq (stD ws cs)) x6 g x8 x9 x10 (wq d) x12 x13) _ 0 _ _ ⟨ag,_,_,ag⟩ (λ_ _ _ _=>rfl) ?_ ?_
 ·rintro i e l r V ⟨rfl,x12,x13,rfl⟩;obtain ⟨b,rfl⟩:∃ b,e = .bl b:=by
   match i,l with
   |0,h=>exact⟨ai,(Option.some.inj h).symm⟩
   |1,h=>exact⟨ah,(Option.some.inj h).symm⟩
  walk_at"w";unfold wg;refine dJ (λr U=>U=V/\r=lx N k (wq (webD w)) x4 (wq (stD ws cs)) x6 g x8 x9 x10 (wq d) (wq (.bl b)) (wq (.bl (vP m w ws cs b d)))) ?_ ?_
  ·walk_at"w";refine zp hw f hm a j hv c ?_;exact⟨ag,ag⟩
  rintro r U ⟨rfl,rfl⟩;walk_at"w";refine fg.mpr ?_
  ((try walk_at"w");repeat(simp only[Jr];try walk_at"w"))
  refine Hg hw f hm a j hv c ?_
  ((try walk_at"w");repeat(simp only[IY];try walk_at"w"))
  exact⟨_,_,ag⟩
 ·rintro r V ⟨rfl,x12,x13,rfl⟩;exact⟨ag,ag,_,_,ag⟩
section
variable{n m last:Nat}{w:dq}{ws cs rs:List Nat}{N:D}{k:Int}{o:Ob}{T:Sto}{x6 x8 x9 x10 x11 x12 x13:Option D}
def mG{r:Ev}{i:Nat}(ho:Hnd o n)(h:r[i]?=wq (wq (.tup (nmD rs))))(a:rs.length<=8):EK 20 r o T (mV i):=d7 ho (λS=>by unfold mV;rw[h]) (Ok.nm (by lia))
def hU{r:Ev}{s:Str}(ho:Hnd o n):EK 20 r o T (mC (.str s)):=iZ ho ag (by rw[bd])
def rQ{r:Ev}{z:Int}(ho:Hnd o n):EK 20 r o T (mC (.int z)):=iZ ho ag (by rw[bd])
def rP{r:Ev}{z:Int}(ho:Hnd o n)(h:r[7]?=wq (wq (.int z))):EK 20 r o T (mV 7):=d7 ho (λS=>by unfold mV;rw[h]) (.shut ag (by rw[bd]))
def Im{z:Int}(ho:Hnd o n)(a:rs.length<=8):AK 20 (lx N k (wq (webD w)) (wq (.tup (nmD rs))) (wq (stD ws cs)) x6 (wq (.int z)) x8 x9 x10 x11 x12 x13) o T 13 (dh (mC D.non) (dh (mC (D.bl ai)) (dh (mC (D.bl ah)) (dh (mC (D.int (0))) (dh (mC (D.str "")) (dh (mC (D.str "colours")) (dh (dI di) (dh (dI (dh (mC (D.str "colours")) di)) (dh (dI (dh (mC (D.str "alike")) di)) (dh (eH di) (dh im (dh (eH (dh (mC (D.str "colours")) (dh (mV 4) di))) (dh (mV 4) di))))))))))))):=
 dk ho (iZ ho ag (by rw[bd])) (dk ho (iZ ho ag (by rw[bd])) (dk ho (iZ ho ag (by rw[bd])) (dk ho (rQ ho) (dk ho (hU ho) (dk ho (hU ho) (dk ho (fI dZ (by decide) (by decide)) (dk ho (fI (dk ho (hU ho) dZ) (by decide) (by decide)) (dk ho (fI (dk ho (hU ho) dZ) (by decide) (by decide)) (dk ho (oz ho dZ (by decide)) (dk ho rR (dk ho (oz ho (dk ho (hU ho) (dk ho (mG ho ag a) dZ)) (by decide)) (dk ho (mG ho ag a) dZ))))))))))))
def Il{z:Int}(hw:WebJ m w)(hm:m<=8)(ho:Hnd o n)(a:rs.length<=8):AK 20 (lx N k (wq (webD w)) (wq (.tup (nmD rs))) (wq (stD ws cs)) x6 (wq (.int z)) x8 x9 x10 x11 x12 x13) o T 5 (dh (dI (dh (mC (D.str "none")) (dh (mV 4) di))) (dh (dI (dh (mC D.non) (dh (mV 4) di))) (dh (dI (dh (mC (D.str "alike")) (dh (mC (D.int (0))) (dh (mV 7) di)))) (dh (dI (dh (mC (D.str "colours")) (dh (mC (D.int (0))) (dh (mV 7) (dh (mV 4) di))))) (dh (mV 3) di))))):=
 dk ho (fI (dk ho (hU ho) (dk ho (mG ho ag a) dZ)) (by decide) (by decide)) (dk ho (fI (dk ho (iZ ho ag (by rw[bd])) (dk ho (mG ho ag a) dZ)) (by decide) (by decide)) (dk ho (fI (dk ho (hU ho) (dk ho (rQ ho) (dk ho (rP ho ag) dZ))) (by decide) (by decide)) (dk ho (fI (dk ho (hU ho) (dk ho (rQ ho) (dk ho (rP ho ag) (dk ho (mG ho ag a) dZ)))) (by decide) (by decide)) (dk ho (d7 ho (λ_=>rfl) ((Ok.shut (d5 w) (yJ hw hm)).more (by decide))) dZ))))
def Ik{z:Int}(ho:Hnd o n)(a:rs.length<=8):AK 20 (lx N k (wq (webD w)) (wq (.tup (nmD rs))) (wq (stD ws cs)) x6 (wq (.int z)) x8 x9 x10 x11 x12 x13) o T 3 (dh (dI (dh (mC (D.str "alike")) (dh (mV 4) di))) (dh (dI (dh (mC (D.str "")) (dh (mC (D.int (0))) (dh (mV 7) (dh (mV 4) di))))) (dh (dI (dh (dI (dh (mC (D.str "colours")) di)) (dh (mV 4) di))) di))):=
 dk ho (fI (dk ho (hU ho) (dk ho (mG ho ag a) dZ)) (by decide) (by decide)) (dk ho (fI (dk ho (hU ho) (dk ho (rQ ho) (dk ho (rP ho ag) (dk ho (mG ho ag a) dZ)))) (by decide) (by decide)) (dk ho (fI (dk ho (fI (dk ho (hU ho) dZ) (by decide) (by decide)) (dk ho (mG ho ag a) dZ)) (by decide) (by decide)) dZ))
def B1{r:Ev}{d:D}(h:r[10]?=wq (wq d))(hp:Pp d)(ho:Hnd o n):AK 20 r o T 2 (dh (mV 10) (dh (mN (b1 rF) (dh (mV 10) di)) di)):=by
 have a:∀S,mV 10 r S=wq (d,S):=λS=>by unfold mV;rw[h]
 refine dk ho (d7 ho a (hp.ok (by decide))) (dk ho ?_ dZ);obtain⟨xs,rfl⟩:=hp.tup;intro G b;refine JS ?_;rw[a,dr];refine W.of (x:=(.ref (T++G).length.succ,o::(T++G++[.lst xs]))) ag ⟨[.lst xs],by simp,?_,.lst (xs:=xs) ?_⟩
 ·rw[<- bw];exact l9 (k:=20) (o:=o) b λx c=>((hp.ok (k:=20) (S:=o::(T++G)) (by decide)).of.2 x c)
 ·rw[cB,gC1,<- bw,dy];rfl
end
inductive LL (n c:Nat)(T:Sto)(e:Option D->Option D->Ev):Ev->Sto->Prop
 |mk (o:Ob) (G:Sto) (p:Nat) (L:List D) (x10:Option D):TL 20 c n T o G p L->LL n c T e (e (some (.ref (p+1))) x10) (o::(T++G))
def IR{n c m:Nat}{w:dq}{N:D}{k:Int}{o:Ob}{T G:Sto}{p:Nat}{L:List D}{d:D}{x3 x4 x5 x6 b x8 x11 x12 x13:Option D}(hp:Pp d)(h:TL 20 c n T o G p L)(hn:n<=2^38)(hc:c<=500):
  W (qB (lx N k x3 x4 x5 x6 b x8 (wq (.ref (p+1))) (wq d) x11 x12 x13) (o::(T++G))) λq=>q.1 = .nx/\LL (n+180) (c+8) T (λx9 x10=>lx N k x3 x4 x5 x6 b x8 x9 x10 x11 x12 x13) q.2.1 q.2.2:=by
 have j:Hnd o n:=by cases h;assumption
 have l:ClT (T++G):=by cases h;assumption
 unfold qB;refine dJ (λr V=>∃o' e a f,TL 20 (c+2) n T o' e a f/\V=o'::(T++e)/\r=lx N k x3 x4 x5 x6 b x8 (wq (.ref (a+1))) (wq d) x11 x12 x13) ?_ ?_
 ·unfold dD;rw[dj];refine(Bm (r:=lx N k x3 x4 x5 x6 b x8 (wq (.ref (p+1))) (wq d) x11 x12 x13) ag h (uX j (B1 ag hp j) (by decide) l) (by lia)).mono ?_;rintro q ⟨o',G2,a,f,rfl,h'⟩;exact W.of ag ⟨ag,o',G++G2,a,f,h',ag,ag⟩
 rintro r V ⟨o',e,a,f,h',rfl,rfl⟩;have i:Hnd o' n:=by cases h';assumption
 have g:ClT (T++e):=by cases h';assumption
 unfold dD;rw[dj];refine(Bm (r:=lx N k x3 x4 x5 x6 b x8 (wq (.ref (a+1))) (wq d) x11 x12 x13) ag h' (D1 ag ag hp i hn g) (by lia)).mono ?_;rintro q ⟨t,G2,p2,s,rfl,h2⟩;exact W.of ag ⟨ag,.mk t (e++G2) p2 s (wq d) h2⟩
def Cv{L:List D}(h:∀d∈L,Pp d):(Ob.lst L).und 0=ai:=by
 have:=eJ (n:=0) (f:=λd:D=>d) (xs:=L) λx a=>(h x a).und
 rwa [List.map_id']at this
def Hl{L:List D}(h:∀d∈L,Pp d):ClT [Ob.lst L]:=by
 show[Ob.lst L].all _=ai;rw[bH,fJ (aZ _) (Cv h)];rfl
def Hu(ns:List Int)(k:Int)(h0:0<=k)(hk:k<63):W (qy [wq (.rol (ns.map D.int)),wq (.int k),aj,aj,aj,aj,aj,aj,aj,aj,aj,aj,aj,aj] []) λp=>p.1 = .nx /\ ∃r9,p.2.1=wq (.rol (ns.map D.int))::r9/\r9.length=13:=by
 unfold qy;generalize hN:D.rol (ns.map D.int)=N;refine dJ (λr S=>∃o,Hnd o 0/\S=[o]/\r=lx N k aj aj aj aj aj aj aj aj aj aj aj) ?_ ?_
 ·obtain⟨o,e,ho⟩:=DA ns k h0 hk;rw[hN]at e
  ((try walk_at"w");repeat(simp only[e];try walk_at"w"))
  exact⟨o,ho,ag,trivial⟩
 rintro r S ⟨o,ho,rfl,rfl⟩;refine dJ (λr S=>∃m w rs o1,0<m/\m<=8/\WebJ m w/\rs.length=m/\(∀x∈rs,x<8)/\Hnd o1 300/\S=[o1]/\r=lx N k (wq (webD w)) (wq (.tup (nmD rs))) aj aj aj aj aj aj aj aj aj) ?_ ?_
 ·walk_at"w";refine HV (T:=[]) ho (by decide) ag λm w rs o' t u J E H ho'=>?_;walk_at"w";exact⟨m,w,rs,o',t,u,J,E,H,ho',ag,ag⟩
 rintro r S ⟨m,w,rs,o1,t,u,J,E,H,ho1,rfl,rfl⟩;refine dJ (λr S=>∃ws cs b,(∀x∈ws,x<m)/\ws.length<=20/\Hnd b 350/\S=[b]/\r=lx N k (wq (webD w)) (wq (.tup (nmD rs))) (wq (stD ws cs)) aj aj aj aj aj aj aj aj) ?_ ?_
 ·simp(implicitDefEqProofs:=ah) only[dD,mV,mN,dh,di,mC,gN,dj,dr,oS1,cF,gC1,cG,ck];refine B8 (T:=[]) J t u E ho1 (by decide) ag λws cs b v h1 h2 M=>?_;exact⟨trivial,ws,cs,b,h1,h2,v.more (by lia),ag,ag⟩
 rintro r S ⟨ws,cs,b,U,I,v,rfl,rfl⟩;have l:∀x∈rs,x<2^60:=λx y=>aY (H x y) (by decide);have f:rs.length<=8:=by lia
 have B:∀x∈List.range m,x<2^60:=λx y=>aY (ar.mp y) (bx u (by decide));have X:(List.range m).length<=8:=by rw[cg];exact u
 obtain⟨z,hz⟩:∃z:Int,z=(ws.length:Int)-1:=⟨_,ag⟩;have hzl:z.natAbs.log2<1920:=by
  have:z.natAbs<2^60:=bx (show z.natAbs<=20 by lia) (by decide);by_cases hz0:z.natAbs=0
  ·rw[hz0];decide
  ·exact nL1 ((Nat.log2_lt hz0).mpr this) (by decide)
 have hzl':(z+1).natAbs.log2<1920:=by
  have e:z+1=((ws.length:Nat):Int):=by lia
  rw[e];exact ri (bx I (by decide))
 refine dJ (λr S=>S=[b]/\r=lx N k (wq (webD w)) (wq (.tup (nmD rs))) (wq (stD ws cs)) (wq (.tup (nmD (List.range m)))) (wq (.int z)) aj aj aj aj aj aj) ?_ ?_
 ·have e0:∀S,dM (webD w) S=wq (.int (m:Nat),S):=λS=>by rw[webD,ft,lM1,J.len]
  have s0:∀S,dt (stD ws cs) (.int 0) S=wq (.tup (nmD ws),S):=λS=>jA (i:=0) ag;have sl:dM (.tup (nmD ws)) [b]=wq (.int (ws.length:Nat),[b]):=by rw[ft,d3]
  have Z:gSub (.int (ws.length:Nat)) (.int 1) [b]=wq (.int z,[b]):=by rw[hz];rfl
  simp(implicitDefEqProofs:=ah) only[dD,mV,mN,dh,di,mC,m2,b1,b2,sj,dj,dr,oS1,cF,gC1];refine ES (k:=m) (S1:=[b]) ?_ (by lia) ?_
  ·simp only[dh,di,mN,mV,b1,gC1,cF,oS1,e0]
  simp(implicitDefEqProofs:=ah) only[s0,sl,Z,dr,oS1,dj];refine⟨dz (by simp),?_⟩
  first|exact W.of rfl ⟨rfl,rfl,rfl⟩|exact W.of rfl ⟨trivial,rfl,rfl⟩
 rintro r S ⟨rfl,rfl⟩;refine dJ (λr S=>∃P:List D,(∀d∈P,Pp d)/\P.length=4/\S=[b,.lst P]/\r=lx N k (wq (webD w)) (wq (.tup (nmD rs))) (wq (stD ws cs)) (wq (.tup (nmD (List.range m)))) (wq (.int z)) (wq (.ref 1)) aj aj aj aj aj) ?_ ?_
 ·walk_at"w";refine⟨[.tup [.str "colours",.tup (nmD rs)],.tup [.str "colours",.tup (nmD (List.range m))],.tup [.str "alike",.int 0,.int z,.tup (nmD rs)],.tup [.str "alike",.int 0,.int 1,.tup (nmD (List.range m))]],λd g=>?_,ag,ag,trivial⟩;simp only[aw,bD,or_false]at g;rcases g with rfl|rfl|rfl|rfl
  ·exact uO f l
  ·exact uO X B
  ·exact k7 (by decide) hzl f l
  ·exact k7 (by decide) (by decide) X B
 rintro r S ⟨P,A,j,rfl,rfl⟩;refine dJ (λr S=>∃P:List D,(∀d∈P,Pp d)/\P.length=5/\S=[b,.lst P]/\r=lx N k (wq (webD w)) (wq (.tup (nmD rs))) (wq (stD ws cs)) (wq (.tup (nmD (List.range m)))) (wq (.int z)) (wq (.ref 1)) aj aj aj aj aj) ?_ ?_
 ·have app:∀ d,Pp d->(∀ x∈P++[d],Pp x)/\(P++[d]).length=5:=fun d g=>⟨fun x y=>by
   rcases ay.mp y with h|h
   ·exact A x h
   ·rw[cb.mp h];exact g,by rw[lA1,j];rfl⟩
  have R:∀d,Pp d->W (gK (.ref 1) d [b,.lst P]) λx=>∃P:List D,(∀d∈P,Pp d)/\P.length=5/\x.2=[b,.lst P]:=λd g=>by
   refine(je (n:=1) (xs:=P) ag).mpr ⟨dz (by lia),?_⟩;exact⟨P++[d],(app d g).1,(app d g).2,ag⟩
  unfold eN;rw[dj];refine gM ?_;refine W.of (x:=(.ref 1,[b,.lst P])) ag ⟨1,P,ag,ag,?_⟩;refine BD ?_;refine ER.mpr ?_;simp(implicitDefEqProofs:=ah) only[mN,mV,dh,di,mC,dj,dr,oS1,cF,gC1];refine CT J t u U I λd g=>?_;rcases IV u I g with rfl|hp
  ·refine W.of (x:=ah) ag ?_;rw[if_neg (by decide)];refine W.of (x:=(.tup [.str "alike",.int 0,.int 0,.tup (nmD rs)],[b,.lst P])) ag ?_;exact(R (.tup [.str "alike",.int 0,.int 0,.tup (nmD rs)]) (k7 (by decide) (by decide) f l)).mono λx ⟨P,a1,a2,a3⟩=>⟨trivial,P,a1,a2,a3,trivial⟩
  ·obtain ⟨xs,rfl⟩:=hp.tup;have hne:xs≠[]:=by
    rintro rfl;cases g;rename_i h1 h2 M;cases M
   refine W.of (x:=ai) (by cases xs with
    |nil=>exact absurd ag hne
    |cons x xs=>rfl) ?_
   rw[if_pos ag];exact(R _ hp).mono λx ⟨P,a1,a2,a3⟩=>⟨trivial,P,a1,a2,a3,trivial⟩
 clear A j P;rintro r S ⟨P,A,j,rfl,rfl⟩;refine dJ (λr S=>∃P:List D,(∀d∈P,Pp d)/\P.length=6/\S=[b,.lst P]/\r=lx N k (wq (webD w)) (wq (.tup (nmD rs))) (wq (stD ws cs)) (wq (.tup (nmD (List.range m)))) (wq (.int z)) (wq (.ref 1)) aj aj aj aj aj) ?_ ?_
 ·unfold eN;rw[dj];refine gM ?_;refine W.of (x:=(.ref 1,[b,.lst P])) ag ⟨1,P,ag,ag,?_⟩;refine W.of (x:=([.tup [.str "alike",.int z,.int (z+1),.tup (nmD rs)]],[b,.lst P])) ag ?_;refine(je (n:=1) (xs:=P) (S:=[b,.lst P]) ag).mpr ⟨dz (by lia),?_⟩;refine W.of ag ⟨ag,P++[.tup [.str "alike",.int z,.int (z+1),.tup (nmD rs)]],λx y=>?_,by rw[lA1,j];rfl,ag,ag⟩;rcases ay.mp y with h|h
  ·exact A x h
  ·rw[cb.mp h];exact k7 hzl hzl' f l
 clear A j P;rintro r S ⟨P,A,j,rfl,rfl⟩;have hT:=Hl A;have hT0:ClT ([Ob.lst P]++[]):=hT;refine dJ (LL 350 13 [.lst P] (λx9 x10=>lx N k (wq (webD w)) (wq (.tup (nmD rs))) (wq (stD ws cs)) (wq (.tup (nmD (List.range m)))) (wq (.int z)) (wq (.ref 1)) x9 x10 aj aj aj)) ?_ ?_
 ·unfold dD;rw[dj];refine(uX (G:=[]) v (Im v f) (by decide) hT0).mono ?_;rintro q ⟨o',G1,F,rfl,g0,g1,g2,g3⟩;refine W.of ag ⟨ag,?_⟩;have e:[Ob.lst P]++([]++G1)++[Ob.lst F]=[Ob.lst P]++(G1++[Ob.lst F]):=by simp
  dsimp only;show LL 350 13 [.lst P] (λx9 x10=>lx N k (wq (webD w)) (wq (.tup (nmD rs))) (wq (stD ws cs)) (wq (.tup (nmD (List.range m)))) (wq (.int z)) (wq (.ref 1)) x9 x10 aj aj aj) (lx N k (wq (webD w)) (wq (.tup (nmD rs))) (wq (stD ws cs)) (wq (.tup (nmD (List.range m)))) (wq (.int z)) (wq (.ref 1)) (wq (.ref (([Ob.lst P]++([]++G1)).length+1))) aj aj aj aj) (o'::([Ob.lst P]++([]++G1)++[Ob.lst F]));rw[e]at g1 ⊢;refine .mk o' _ _ F aj ⟨g0,g1,?_,g2,λx y=>?_⟩
  ·rw[<- e,dy];rfl
  ·have:=(g3 x y).on (n:=350) (G:=[Ob.lst F]) g0
   rwa [e]at this
 rintro r S ⟨K,G,p,L,x10,h⟩;have Y:∀{o:Ob} {G:Sto} {p c n:Nat} {L:List D} {x10:Option D} {a:FA},TL 20 c 350 [.lst P] o G p L->c+n<=1000->AK 20 (lx N k (wq (webD w)) (wq (.tup (nmD rs))) (wq (stD ws cs)) (wq (.tup (nmD (List.range m)))) (wq (.int z)) (wq (.ref 1)) (wq (.ref (p+1))) x10 aj aj aj) o [.lst P] n a->W (dD (m2 (b2 ed) (mV 9) (eH a)) (gN 9) (lx N k (wq (webD w)) (wq (.tup (nmD rs))) (wq (stD ws cs)) (wq (.tup (nmD (List.range m)))) (wq (.int z)) (wq (.ref 1)) (wq (.ref (p+1))) x10 aj aj aj) (o::([.lst P]++G))) λq=>q.1 = .nx/\LL 350 (c+n) [.lst P] (λx9 x10=>lx N k (wq (webD w)) (wq (.tup (nmD rs))) (wq (stD ws cs)) (wq (.tup (nmD (List.range m)))) (wq (.int z)) (wq (.ref 1)) x9 x10 aj aj aj) q.2.1 q.2.2:=λ{o G p c n L x10 a} h hn ha=>by
  have ho:Hnd o 350:=by cases h;assumption
  have hG:ClT ([.lst P]++G):=by cases h;assumption
  unfold dD;rw[dj];refine(Bm (r:=lx N k (wq (webD w)) (wq (.tup (nmD rs))) (wq (stD ws cs)) (wq (.tup (nmD (List.range m)))) (wq (.int z)) (wq (.ref 1)) (wq (.ref (p+1))) x10 aj aj aj) ag h (uX ho ha (by lia) hG) hn).mono ?_;rintro q ⟨o',G2,p',F,rfl,h'⟩;exact W.of ag ⟨ag,.mk o' (G++G2) p' F x10 h'⟩
 have s:Hnd K 350:=by cases h;assumption
 refine dJ _ (Y h (by decide) (Il J u s f)) ?_;clear h s;rintro r S ⟨K,G,p,L,x10,h⟩;have s:Hnd K 350:=by cases h;assumption
 refine dJ _ (Y h (by decide) (Ik s f)) ?_;clear h s;rintro r S ⟨K,G,p,L,x10,h⟩;refine dJ (LL (350+180*6) (21+8*6) [.lst P] (λx9 x10=>lx N k (wq (webD w)) (wq (.tup (nmD rs))) (wq (stD ws cs)) (wq (.tup (nmD (List.range m)))) (wq (.int z)) (wq (.ref 1)) x9 x10 aj aj aj)) ?_ ?_
 ·unfold eT;rw[dj,md];refine W.of (x:=(.ref 1,K::([.lst P]++G))) ag ?_;refine dV (xs:=P) ag ?_;refine eA (λi r V=>i<=6/\LL (350+180*i) (21+8*i) [.lst P] (λx9 x10=>lx N k (wq (webD w)) (wq (.tup (nmD rs))) (wq (stD ws cs)) (wq (.tup (nmD (List.range m)))) (wq (.int z)) (wq (.ref 1)) x9 x10 aj aj aj) r V) _ 0 _ _ ⟨by decide,.mk K G p L x10 h⟩ ?_ ?_ ?_
  ·rintro i r V ⟨_,Q,G4,p4,L4,C,h4⟩;exact eZ ag
  ·rintro i d g r V ⟨hi,Q,G4,p4,L4,C,h4⟩;rw[bG]at *
   have hil:=(gE1.mp g).1;dsimp only at hil;have hpd:=A d (gM1 g);walk_at"w";have hn':350+180*i<=2^38:=au (show 350+180*i<=2000 by lia) (by decide);refine(IR (m:=m) (w:=w) hpd h4 hn' (by lia)).mono ?_;rintro q ⟨z1,z2⟩;exact⟨z1,by lia,z2⟩
  ·rintro r V ⟨_,h⟩;dsimp only at h;rw[bG,j]at h;exact⟨ag,h⟩
 clear h;rintro r S ⟨Q,G4,p4,L4,C,h1,h2,M,h4,h5⟩;have hS:iO (Q::([.lst P]++G4)):=vU h1 h2;unfold eT;rw[dj,md];refine W.of (x:=(.ref (p4+1),Q::([.lst P]++G4))) ag ?_;refine dV (xs:=L4) (by rw[gC1];exact M) ?_;refine eA (λi r V=>V=Q::([.lst P]++G4) /\ ∃x11 x12 x13,r=lx N k (wq (webD w)) (wq (.tup (nmD rs))) (wq (stD ws cs)) (wq (.tup (nmD (List.range m)))) (wq (.int z)) (wq (.ref 1)) (wq (.ref (p4+1))) C x11 x12 x13) _ 0 _ _ ⟨ag,_,_,_,ag⟩ ?_ ?_ ?_
 ·rintro i r V ⟨rfl,_⟩;exact eZ (by rw[gC1];exact M)
 ·rintro i d g r V ⟨rfl,x11,x12,x13,rfl⟩;have O:=h5 d (gM1 g);walk_at"w";refine(Hz J t u U hS O.v (IS O (by decide))).mono ?_;rintro q ⟨z1,z2,y12,y13,z3⟩;exact⟨z1,z2,_,_,_,z3⟩
 ·rintro r V ⟨rfl,x11,x12,x13,rfl⟩;exact⟨ag,_,ag,ag⟩
def truth(ns:List Int)(A:ns.length<=63):∃S,m_law [.rol (ns.map D.int)] []=wq (.bl ai,S):=by
 have g:W (m_law [.rol (ns.map D.int)] []) λp=>p.1 = .bl ai:=by
  unfold m_law;refine ji ?_;unfold Br;have q:(D.rol (ns.map D.int)).und 0=ai:=by simp[D.und,lN]
  have o:=λk w y=>Hu ns k w y;generalize s:D.rol (ns.map D.int)=N at *
  have a:dM N []=wq (.int ns.length,[]):=by rw[<- s];simp[dM,dG]
  refine dJ (λr S=>S=[]/\r=[wq N,aj,aj,aj,aj,aj,aj,aj,aj,aj,aj,aj,aj,aj]) ?_ ?_
  ·simp only [e9,mP1,aS,lC1,aV,cI,Nat.reduceSub,Iv,a0,cH,eT,dj,w8,dh,mN,mC,mV,di,b1,b2,DG,u8,a,dr,oS1,cF,Ix];have u:∃ t:Nat,t<=4/\(if (if (ns.length:Int)<4 then (ns.length:Int) else 4)>1 then (if (ns.length:Int)<4 then (ns.length:Int) else 4) else 1)=(t:Int):=by
    by_cases h1:(ns.length:Int)<4
    ·rw[if_pos h1];by_cases h2:(ns.length:Int)>1
     ·rw[if_pos h2];exact⟨ns.length,by lia,ag⟩
     ·rw[if_neg h2];exact⟨1,by lia,ag⟩
    ·rw[if_neg h1];exact⟨4,by lia,by decide⟩
   obtain⟨t,z,te⟩:=u;rw[te,Int.toNat_natCast];refine⟨fR (by lia),?_⟩;refine eA (λ_ r S=>S=[]/\r=[wq N,aj,aj,aj,aj,aj,aj,aj,aj,aj,aj,aj,aj,aj]) _ 0 _ _ ⟨ag,ag⟩ (λ_ _ _ _=>rfl) ?_ ?_
   ·rintro i d m r S ⟨rfl,rfl⟩;obtain⟨k,e,l,C⟩:=tF (gM1 m);subst e;simp only[gN,ck,cG,dr];obtain⟨⟨f,r2,B⟩,v,j,n,b,c⟩:=o k l (by lia);dsimp only at j b;subst j;subst b;refine W.of (x:=(.nx,[wq N,aj,aj,aj,aj,aj,aj,aj,aj,aj,aj,aj,aj,aj],[])) ?_ ⟨ag,ag,ag⟩
    match n,c with
    |[z1,z2,z3,z4,z5,z6,z7,z8,z9,z10,z11,z12,z13],_=>
     unfold wf py;simp[fK,kO,D.und,q,v]
   ·rintro r S ⟨rfl,rfl⟩;exact⟨ag,ag,ag⟩
  ·rintro r S ⟨rfl,rfl⟩;simp only[dW,mC,oS1,dr]
 obtain⟨⟨d,S⟩,e,h⟩:=g;dsimp only at h;exact⟨S,by rw[e,h]⟩
end Law
end
open PySem PySem.W PyProof.Rows
noncomputable def PySem.W.Fast.tw949284499012896784:=()
noncomputable def PySem.W.Fast.tw2961466956603356069:=()
noncomputable def PySem.W.Fast.tw8077947790763715578:=()
noncomputable def PySem.W.Fast.tw17807104802796470964:=()
noncomputable def PySem.W.Fast.tw11816961500468088114:=()
noncomputable def PySem.W.Fast.tw3462570650128859416:=()
noncomputable def PySem.W.Fast.tw2032136528341533209:=()
noncomputable def PySem.W.Fast.tw13364473116049038078:=()
noncomputable def PySem.W.Fast.tw12724706524740318350:=()
noncomputable def PySem.W.Fast.tw1543142840699866778:=()
noncomputable def PySem.W.Fast.tw594715557907778136:=()
noncomputable def PySem.W.Fast.tw15855939506056028786:=()
noncomputable def PySem.W.Fast.tw7594798357335384166:=()
noncomputable def PySem.W.Fast.tw6127317439080300141:=()
noncomputable def PySem.W.Fast.tw16312025891337436982:=()
noncomputable def PySem.W.Fast.tw12236951484737229463:=()
noncomputable def PySem.W.Fast.tw9397626213283306778:=()
noncomputable def PySem.W.Fast.tw10209798985363515292:=()
noncomputable def PySem.W.Fast.tw6807147170830778348:=()
noncomputable def PySem.W.Fast.tw11700895674229166006:=()
noncomputable def PySem.W.Fast.tw16335754228839092116:=()
noncomputable def PySem.W.Fast.tw4658780158002718703:=()
noncomputable def PySem.W.Fast.tw8484131789346008271:=()
noncomputable def PySem.W.Fast.tw709972624347634672:=()
noncomputable def PySem.W.Fast.tw15988709199528802336:=()
noncomputable def PySem.W.Fast.tw6015861601473555973:=()
noncomputable def PySem.W.Fast.tw17048314327462984015:=()
noncomputable def PySem.W.Fast.tw4199406633358772253:=()
noncomputable def PySem.W.Fast.tw4326479394057870061:=()
noncomputable def PySem.W.Fast.tw3637048792257454182:=()
noncomputable def PySem.W.Fast.tw11097956690946259365:=()
noncomputable def PySem.W.Fast.tw13215282239814992996:=()
noncomputable def PySem.W.Fast.tw6441303692118074734:=()
noncomputable def PySem.W.Fast.tw472961515939031268:=()
noncomputable def PySem.W.Fast.tw11806525512130658770:=()
noncomputable def PySem.W.Fast.tw13196508059614438196:=()
noncomputable def PySem.W.Fast.tw8955690995314003303:=()
noncomputable def PySem.W.Fast.tw655609356088421471:=()
noncomputable def PySem.W.Fast.tw1960293453770215313:=()
noncomputable def PySem.W.Fast.tw220032785718456366:=()
noncomputable def PySem.W.Fast.tw11771497548712805763:=()
noncomputable def PySem.W.Fast.tw14114075858250208654:=()
noncomputable def PySem.W.Fast.tw16614330918489382771:=()
noncomputable def PySem.W.Fast.tw12324731160269731978:=()
noncomputable def PySem.W.Fast.tw12200553003454532053:=()
noncomputable def PySem.W.Fast.tw12849952036192791315:=()
noncomputable def PySem.W.Fast.tw14077440273400594075:=()
noncomputable def PySem.W.Fast.tw12919794461345552965:=()
noncomputable def PySem.W.Fast.tw4198704611394402490:=()
noncomputable def PySem.W.Fast.tw656241372140073521:=()
noncomputable def PySem.W.Fast.tw8823378683415040702:=()
noncomputable def PySem.W.Fast.tw11179900477605816246:=()
noncomputable def PySem.W.Fast.tw17888556858621719839:=()
set_option maxRecDepth 100000 in
set_option maxHeartbeats 0 in
theorem PySem.Challenge.cw_ringmeet_k37_papers_of_anything_holds : PySem.Challenge.rw_ringmeet_k37_papers_of_anything.Holds := by
 w_on;o_law;k_head;(case hw=>w_witness2)
 k_fill
 refine Mi.walk_m (l:=PySem.Challenge.rw_ringmeet_k37_papers_of_anything) (m:=Law.m_law) (k:=12) (x:="_law_script") rfl rfl ⟨rfl,by decide,by decide,rfl⟩ (fun w h Y=>PySem.W.kIn_of Y) Law.truth ?F
 case F=>
  intro w mg e h d G b;refine' Law.all_mk d G b ?a1 ?a2 ?a3 ?a4 ?a5 ?a6 ?a7 ?a8 ?a9 ?a10 ?a11 ?a12 ?a13 ?a14 ?a15 ?a16 ?a17 ?a18 ?a19 ?a20 ?a21 ?a22 ?a23 ?a24 ?a25 ?a26 ?a27 ?a28 ?a29 ?a30 ?a31 ?z
  all_goals try (refine' Mi.JD ?a ?l ?c ?k;(case a=>k_is);(case l=>k_is);(case c=>k_is);(case k=>k_is))
  (case z=>exact ⟨by k_is,by k_is,by k_is,by k_is,by k_is,by k_is,by k_is,by k_is,by k_is,by k_is,by k_is,by k_is,by k_is,by k_is,by k_is,by k_is,trivial⟩)
  all_goals k_is

