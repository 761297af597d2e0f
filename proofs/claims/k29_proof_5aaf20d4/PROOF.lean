import PyProof.Rows.All
import Wide.All
import OpenK.AllK
import Wide.FinOn
import Lean
import PyProof.EqAt
import PyProof.EqKinds
import PyProof.TupleCall
import PySem.Challenge.RW_ringmeet_k29_walks_by_beats
set_option Elab.async false
set_option compiler.extract_closed false
set_option linter.all false
set_option maxRecDepth 100000
set_option maxHeartbeats 4000000
open List renaming getElem?_eq_some_iff → gE1, getElem?_append_left → gL1, getElem?_eq_getElem → gG1, mem_of_getElem? → gM1, getElem?_set_ne → gS1, length_append → lA1, length_map → lM1, getElem?_cons_succ → gC1, mem_cons_of_mem → mC1, mem_cons_self → mS1, getElem?_map → gP1, getElem?_append_right → gR1, size_toArray → sT1, map_cons → mP1, length_cons → lC1, length_replicate → lR1, mem_append_right → mA1
open Option renaming bind_eq_some_iff → oB1, map_eq_some_iff → oM1, bind_some → oS1, map_some → oP1
open Nat renaming le_refl → nR1, lt_of_lt_of_le → nL1, ne_of_lt → nN1, ne_of_gt → nG1
open Bool renaming and_eq_true → bA1, false_eq_true → bF1
open Array renaming getElem?_eq_getElem → aG1, getElem?_toList → aT1
open PySem.W renaming Frag → Fg1, nsIn → wN1, keepIn → wK1, codeIn → wC1, fnOf → wF1, mg_of → wM1
open PySem.Heap renaming get?_push_of_some → hP1, get?_push_size → hS1, lt_size → hL1, size_push → hZ1, get?_update_ne → hU1, get?_update_self → hW1
open PySem renaming wpAny_bind → wB1, wpAny_pure → wP1, wpAny_setField_rec → wS1, wpAny_newObj_type → wO1, codeAny_builtin → wD1, wpAny_call_entry → wE1
open List renaming take_nil → av, drop_nil → aw, mem_filter → aA, mem_range → aB, filterMap_cons → aE, mem_cons → aF, mem_append → aG, mem_append_left → aH, getElem?_set_self → aI, mem_filterMap → aL, append_nil → aM, nodup_cons → aN, replicate → aO, length_take → aQ, getElem?_replicate → aR, getElem?_take_of_lt → aS, take_sublist → aT, filterMap_map → aU, length_drop → aV, length_set → aW, length_singleton → aY, map_nil → aZ, find?_cons → bc, any_cons → bd, length_nil → bf, cons_append → bj, prefix_rfl → bn, reverse_cons → bo, nodup_nil → bq, getElem?_of_mem → br, map_map → bv, prefix_append → bw, nodup_append → bB, all_eq_true → bD, drop_drop → bF, forIn_cons → bG, lookup_cons → bH, append_assoc → bI, getD_eq_getElem?_getD → bL, zipIdx_cons → bM, not_mem_nil → bN, all_cons → bR, any_eq_true → bT, getElem_mem → bU, zip_cons_cons → bV, drop_eq_getElem_cons → bW, cons_prefix_cons → bY, drop_zero → bZ, take_length → b4, ext_getElem? → b5, getElem?_eq_none → b6, findIdx?_eq_some_iff_getElem → b8, take_of_length_le → ca, foldl_cons → cb, length_reverse → cc, pairwise_cons → cf, mem_map → ci, getElem?_toArray → cm, mapM_toArray → cq, all_toArray → cr, length_eq_zero_iff → cu, pairwise_iff_getElem → cw, pairwise_append → cC, getElem?_drop → cD, drop_sublist → cE, pairwise_lt_range → cF, map_append → cG, take_succ → cH, length_eraseIdx_of_lt → cJ, take_append_drop → cK, eraseIdx_eq_take_drop_succ → cM, getElem?_range → cN, mem_of_mem_take → cO, mem_of_mem_drop → cP, contains_iff_mem → cR, forall_mem_nil → cS, perm_append_comm → cT, take_succ_cons → cU, take_zero → cV, extract_eq_take_drop → cX, mem_singleton → cY, mem_reverse → cZ, nil_append → c4, set_append_right → c6, set_cons_zero → c7, flatten_cons → c8, set_cons_succ → c9, length_pos_iff → da, flatten_append → db, take_left → de, map_congr_left → dg, filter_cons → di, pairwise_map → dj, getElem?_cons_zero → dk, length_filter_le → dq, zipWith → dw, zipWith_cons_cons → dy, all_append → dz, length_range → dA
open Option renaming some → ay, isSome_iff_exists → aP, isSome_map → bg, getD_some → b9
open Nat renaming lt_irrefl → az, le_trans → aC, le_of_lt → aD, le_succ → aX, le_of_not_lt → a0, lt_trans → bh, zero_le → bi, add_assoc → bm, le_add_right → bt, add_sub_cancel_left → bu, not_lt_zero → bA, min_eq_left → bC, lt_succ_self → bE, lt_of_le_of_lt → bJ, le_of_succ_le → bK, zero_add → bP, lt_or_ge → bX, lt_succ_of_lt → cI, sub_self → cQ, mul_le_mul_right → dr
open Array renaming length_toList → aJ, perm_iff_toList_perm → cg, mem_toList_iff → cj, mem_of_getElem? → ck, getElem?_eq_none → cv, toList_append → cy, toList_push → cA, toList_extract → cB, getElem_mem → cW, toList_reverse → c5
open Bool renaming false_ne_true → aK, and_true → bO, or_eq_true → bQ, eq_iff_iff → bS, not_true → b7, not_false → cp, and_self → df
open PySem renaming Value → dB, Shared → dD, Addr → dE, Program → dF, Around → dG, World → dH, mainGlobals → dI, starEach → dJ, sizeLine → dL, wpAny → dM, Heap → dN, FuncData → dP, Stmt → dQ, Scope → dR
noncomputable section
namespace L2
open PySem PySem.Spec PyProof.Rows
abbrev Key:=Sum Int Str
def oN:Key->dB->Bool
 | .inl k,v=>Value.isInt k v
 | .inr x,v=>Value.isStrOf x v
def II(w:dH):Key->Int
 | .inl k=>hashInt k
 | .inr x=>hashStr w x
theorem eY:∀{k:Key} {v:dB},oN k v=true->(∃i t,k=Sum.inl i/\v=Value.int i t)\/(∃x t,k=Sum.inr x/\v=Value.str x t)
 | .inl i,v,h=>by
  obtain⟨t,e⟩:=Value.isInt_shape (k:=i) (v:=v) h;exact .inl ⟨i,t,rfl,e⟩
 | .inr x,v,h=>by
  obtain⟨t,e⟩:=Value.isStrOf_shape (x:=x) (v:=v) h;exact .inr ⟨x,t,rfl,e⟩
theorem wV(i:Int)(t:Tok):oN (.inl i) (.int i t)=true:=by simp[oN,Value.isInt]
theorem wU(x:Str)(t:Tok):oN (.inr x) (.str x t)=true:=by simp[oN,Value.isStrOf]
theorem E8(a b:Int):decide ((Sum.inl a:Key)=Sum.inl b)=(a == b):=by
 by_cases e:a=b
 ·subst e;simp
 ·have h:¬ (Sum.inl a:Key)=Sum.inl b:=fun q=>e (Sum.inl.inj q);rw[decide_eq_false h];exact(beq_eq_false_iff_ne.mpr e).symm
theorem E3(a b:Str):decide ((Sum.inr a:Key)=Sum.inr b)=decide (a=b):=by
 by_cases e:a=b
 ·subst e;simp
 ·have h:¬ (Sum.inr a:Key)=Sum.inr b:=fun q=>e (Sum.inr.inj q);rw[decide_eq_false h,decide_eq_false e]
theorem E7(a:Int)(b:Str):decide ((Sum.inl a:Key)=Sum.inr b)=false:=decide_eq_false (fun q=>nomatch q)
theorem E5(a:Str)(b:Int):decide ((Sum.inr a:Key)=Sum.inl b)=false:=decide_eq_false (fun q=>nomatch q)
def eW(prog:dF)(w:dH):PySem.KeyKind prog w Key where
 is:=oN
 hash:=II w
 inj:=fun v a b ha hb=>by
  rcases eY ha with⟨i,t,rfl,rfl⟩|⟨x,t,rfl,rfl⟩
  ·rcases eY hb with⟨j,u,rfl,e⟩|⟨y,u,rfl,e⟩
   ·injection e with e1 _;rw[e1]
   ·exact nomatch e
  ·rcases eY hb with⟨j,u,rfl,e⟩|⟨y,u,rfl,e⟩
   ·exact nomatch e
   ·injection e with e1 _;rw[e1]
 byValue:=fun k v h=>by
  rcases eY h with⟨i,t,rfl,rfl⟩|⟨x,t,rfl,rfl⟩<;>rfl
 pyHash:=fun hv h=>by
  rcases eY hv with⟨i,t,rfl,rfl⟩|⟨x,t,rfl,rfl⟩
  ·exact wpAny_pyHash_int h
  ·exact wpAny_pyHash_str h
 eqBool:=fun hu hv h=>by
  rcases eY hu with⟨i,t,rfl,rfl⟩|⟨x,t,rfl,rfl⟩
  ·rcases eY hv with⟨j,u,rfl,rfl⟩|⟨y,u,rfl,rfl⟩
   ·rw[E8]at h;exact wpAny_eqBool_int h
   ·rw[E7]at h;exact SeqAt.EqAt.int_str i t y u _ _ _ _ h
  ·rcases eY hv with⟨j,u,rfl,rfl⟩|⟨y,u,rfl,rfl⟩
   ·rw[E5]at h;exact SeqAt.EqAt.str_int x t j u _ _ _ _ h
   ·rw[E3]at h;exact wpAny_eqBool_str h
 «strs» :=fun k x t v h=>by
  rcases eY h with⟨i,u,rfl,e⟩|⟨y,u,rfl,e⟩
  ·exact nomatch e
  ·injection e with e1 _;subst e1;cases v<;>rfl
theorem rZ(prog:dF)(w:dH)(i:Int)(t:Tok):(eW prog w).is (.inl i) (.int i t)=true:=wV i t
theorem rY(prog:dF)(w:dH)(x:Str)(t:Tok):(eW prog w).is (.inr x) (.str x t)=true:=wU x t
end L2
namespace L2
open PySem PySem.Spec PyProof.Rows
inductive V where
 |non|bl (b:Bool)|int (i:Int)|str (x:Str)|byt (b:Array UInt8)|flt (b:UInt64)|ref (a:dE)|ty (n:String)
 deriving DecidableEq
def d6:V->dB->Prop
 | .non,u=>u=Value.none
 | .bl b,u=>u=Value.bool b
 | .int i,u=>∃t,u=Value.int i t
 | .str x,u=>∃t,u=Value.str x t
 | .byt b,u=>∃t,u=Value.bytes b t
 | .flt b,u=>∃t,u=Value.float b t
 | .ref a,u=>u=Value.ref a
 | .ty n,u=>u=Value.type n
abbrev ei:List V->List dB->Prop:=Paired d6
theorem ei.length{xs:List V}{a:List dB}(r:ei xs a):xs.length=a.length:=Paired.length r
theorem ei.get:∀{xs:List V} {a:List dB} {i:Nat} {x:V},ei xs a->xs[i]?=some x -> ∃u,a[i]?=some u/\d6 x u:=by
 intro xs a i x h e
 induction h generalizing i with
 |nil=>cases e
 |cons r t ih=>cases i with
  |zero=>cases e;exact⟨_,rfl,r⟩
  |succ i=>exact ih (i:=i) e
theorem ei.set{x:V}{u:dB}(r:d6 x u):∀{xs:List V} {a:List dB} (i:Nat),ei xs a->ei (xs.set i x) (a.set i u):=by
 intro xs a i h
 induction h generalizing i with
 |nil=>exact .nil
 |cons q t ih=>cases i with
  |zero=>exact .cons r t
  |succ i=>exact .cons q (ih i)
theorem ei.append:∀{xs ys:List V} {a ws:List dB},ei xs a->ei ys ws->ei (xs++ys) (a++ws):=by
 intro xs ys a ws h s
 induction h with
 |nil=>exact s
 |cons r t ih=>exact .cons r ih
theorem ei.take:∀{xs:List V} {a:List dB} (n:Nat),ei xs a->ei (xs.take n) (a.take n):=by
 intro xs a n h
 induction h generalizing n with
 |nil=>rw[av,av];exact .nil
 |cons r t ih=>cases n with
  |zero=>exact .nil
  |succ n=>exact .cons r (ih n)
theorem ei.drop:∀{xs:List V} {a:List dB} (n:Nat),ei xs a->ei (xs.drop n) (a.drop n):=by
 intro xs a n h
 induction h generalizing n with
 |nil=>rw[aw,aw];exact .nil
 |cons r t ih=>cases n with
  |zero=>exact .cons r t
  |succ n=>exact ih n
def l6:Option V->Option dB->Prop
 |some v,some u=>d6 v u
 |none,none=>True
 |_,_=>False
def KV{κ:Type}:List (κ×V)->List (κ×dB)->Prop:=Paired fun(p:κ×V) (q:κ×dB)=>p.1=q.1/\d6 p.2 q.2
def kV:Key->V
 | .inl i=>.int i
 | .inr x=>.str x
inductive HO where
 /-- a list -/
 |lst (xs:List V)
 /-- a tuple (never changes) -/
 |tup (xs:List V)
 /-- a dict whose keys are ints and texts; one whose keys are tuples of ints and texts (the empty one is both) -/
 |dK (kvs:List (Key×V))|dT (kvs:List (List Key×V))
 /-- a set of ints: its members, its size -/
 |set (S:Int->Bool) (n:Nat)
 /-- an instance of the class at C, its dict at dx, its attributes -/
 |ins (C dx:dE) (fs:List (Str×V))
 /-- the dict of the instance at x -/
 |own (x:dE)
 /-- the dict of an exception -/
 |xd (fs:List (Str×V))
 /-- a bound method, f of x -/
 |met (f x:dE)
 /-- a range object lo, lo + 1, .. below hi -/
 |rng (lo hi:Int)
 /-- a thing that is known to the object (the script; a dict while a loop walks it): read, never written while it is so -/
 |frz (o:Obj) (u:HO)
 /-- a code object's table -/
 |tbl (ps:Array dB)
 /-- any other thing, by what is true of its one object (a def of one's own: SetO a S n := HO.ext fun h => ..) -/
 |ext (φ:dN->Prop)
abbrev Hp:=dE->Option HO
def upd(H:Hp)(a:dE)(o:HO):Hp:=fun b=>if b=a then some o else H b
theorem d3{H:Hp}{a:dE}{o:HO}:upd H a o a=some o:=by unfold upd;rw[if_pos rfl]
theorem dY{H:Hp}{a b:dE}{o:HO}(h:b≠a):upd H a o b=H b:=by unfold upd;rw[if_neg h]
theorem GC{H:Hp}{a b:dE}{o u:HO}(h:H a=some o)(h':H b=some u)(d:o≠u):a≠b:=by
 intro e;subst e;rw[h]at h';exact d (Option.some.inj h')
theorem eD{H:Hp}{a b:dE}{o:HO}(h:H a=some o)(h':H b=none):a≠b:=by
 intro e;subst e;rw[h]at h';cases h'
section
variable(P:dF) (w:dH)
def eN(H:Hp)(h:dN)(a:dE):HO->Prop
 | .lst xs=>xs.length<=dL /\ ∃(its:List dB) (n:Nat),ei xs its/\h.get? a=some {cls:=.type "list",data:=.seq its.toArray n}
 | .tup xs=>xs.length<=dL /\ ∃its:List dB,ei xs its/\IsTup h a its.toArray
 | .dK kvs=>kvs.length<=dL/\(a == sysModules)=false /\ ∃vs,KV kvs vs/\h.DictOf (eW P w) a vs
 | .dT kvs=>kvs.length<=dL/\(a == sysModules)=false /\ ∃ xs:List (List Key×dE×dB),
   Paired (fun(p:List Key×V) (q:List Key×dE×dB)=>p.1=q.1/\H q.2.1=some (.tup (p.1.map kV))/\d6 p.2 q.2.2) kvs xs /\
   ∃o es ep,h.get? a=some o/\o.ExactDict/\o.data = .dict es ep/\es.toList=xs.map (entryOfKey (tupleKind (eW P w)))/\(xs.map (·.1)).Nodup
 | .set S n=>h.SetOf (intKind P w) a S n
 | .ins C dx fs=>H dx=some (.own a)/\fs.length<=1000/\dx≠a/\h.get? a=some (PySem.W.instObj C dx) /\
   ∃mA,h.Ns1 dx mA/\(∀f,l6 (fs.lookup f) (mA f))/\PySem.Within mA (fs.map (·.1))
 | .own _=>∃o,h.get? a=some o
 | .xd fs=>∃mA,h.Ns1 a mA /\ ∀f,l6 (fs.lookup f) (mA f)
 | .rng lo hi=>∃t u v,h.get? a=some {cls:=.type "range",data:=.fields #[.int lo t,.int hi u,.int 1 v]}
 | .frz o u=>h.get? a=some o/\eN H h a u
 | .tbl ps=>h.get? a=some {cls:=.none,data:=.fields ps}
 | .met f x=>h.get? a=some (PySem.W.methodObj (.ref f) (.ref x))
 | .ext φ=>φ h/\(∃o,h.get? a=some o) /\ ∀h1 h2:dN,φ h1->(∀o,h1.get? a=some o->h2.get? a=some o)->φ h2
def kQ(H:Hp)(h:dN):Prop:=∀a o,H a=some o->eN P w H h a o
end
section
variable{P:dF}{w:dH}{H H':Hp}{h h':dN}{a:dE}{o:HO}
theorem eN.lt(x:eN P w H h a o):a<h.objs.size:=by
 cases o with
 |lst xs=>obtain⟨_,_,_,_,e⟩:=x;exact hL1 e
 |tup xs=>obtain⟨_,_,_,p⟩:=x;exact p.lt
 |dK kvs=>obtain⟨_,_,_,_,o,_,_,e,_⟩:=x;exact hL1 e
 |dT kvs=>obtain⟨_,_,_,_,o,_,_,e,_⟩:=x;exact hL1 e
 |set S n=>obtain⟨o,_,_,_,e,_⟩:=x;exact hL1 e
 |ins C dx fs=>obtain⟨_,_,_,e,_⟩:=x;exact hL1 e
 |own y=>obtain⟨_,e⟩:=x;exact hL1 e
 |xd fs=>obtain⟨_,⟨_,_,_,e,_⟩,_⟩:=x;exact hL1 e
 |rng lo hi=>obtain⟨_,_,_,e⟩:=x;exact hL1 e
 |frz b u=>obtain⟨e,_⟩:=x;exact hL1 e
 |tbl ps=>exact hL1 (show h.get? a=some _ from x)
 |met f y=>exact hL1 (show h.get? a=some _ from x)
 |ext φ=>obtain⟨_,⟨_,e⟩,_⟩:=x;exact hL1 e
theorem Paired.mapP{α β:Type}{F G:α->β->Prop}:∀{l₁:List α} {l₂:List β},Paired F l₁ l₂->(∀a b,F a b->G a b)->Paired G l₁ l₂:=by
 intro a b h f
 induction h with
 |nil=>exact .nil
 |cons r t ih=>exact .cons (f _ _ r) ih
theorem eN.stay(x:eN P w H h a o)(k:∀ b u,(b=a\/H b=some (.own a))->h.get? b=some u->h'.get? b=some u)(ho:∀b,H b=some (.own a)->H' b=some (.own a))(ht:∀b xs,H b=some (.tup xs)->H' b=some (.tup xs)):eN P w H' h' a o:=by
 induction o with
 |lst xs=>obtain⟨z,i,n,r,e⟩:=x;exact⟨z,i,n,r,k _ _ (.inl rfl) e⟩
 |tup xs=>obtain⟨z,i,r,g,e,c⟩:=x;exact⟨z,i,r,g,k _ _ (.inl rfl) e,c⟩
 |dK kvs=>obtain⟨z,y,vs,r,g,es,ep,e,c⟩:=x;exact⟨z,y,vs,r,g,es,ep,k _ _ (.inl rfl) e,c⟩
 |dT kvs=>
  obtain⟨z,y,xs,r,g,es,ep,e,c⟩:=x;exact⟨z,y,xs,Paired.mapP r fun p q z=>⟨z.1,ht _ _ z.2.1,z.2.2⟩,g,es,ep,k _ _ (.inl rfl) e,c⟩
 |set S n=>obtain⟨g,es,ep,t,e,c⟩:=x;exact⟨g,es,ep,t,k _ _ (.inl rfl) e,c⟩
 |ins C dx fs=>
  obtain⟨d,z,ne,e,mA,⟨j,es,ep,l,c⟩,r⟩:=x;exact⟨ho _ d,z,ne,k _ _ (.inl rfl) e,mA,⟨j,es,ep,k _ _ (.inr d) l,c⟩,r⟩
 |own y=>obtain⟨g,e⟩:=x;exact⟨g,k _ _ (.inl rfl) e⟩
 |xd fs=>obtain⟨mA,⟨j,es,ep,e,c⟩,r⟩:=x;exact⟨mA,⟨j,es,ep,k _ _ (.inl rfl) e,c⟩,r⟩
 |rng lo hi=>obtain⟨t,u,v,e⟩:=x;exact⟨t,u,v,k _ _ (.inl rfl) e⟩
 |frz g u ih=>obtain⟨e,q⟩:=x;exact⟨k _ _ (.inl rfl) e,ih q⟩
 |tbl ps=>
  have e:h.get? a=some {cls:=.none,data:=.fields ps}:=x;show h'.get? a=some {cls:=.none,data:=.fields ps};exact k a _ (.inl rfl) e
 |met f y=>
  have e:h.get? a=some (PySem.W.methodObj (.ref f) (.ref y)):=x;show h'.get? a=some (PySem.W.methodObj (.ref f) (.ref y));exact k a _ (.inl rfl) e
 |ext φ=>obtain⟨p,⟨o,e⟩,st⟩:=x;exact⟨st _ _ p fun o q=>k _ _ (.inl rfl) q,⟨o,k _ _ (.inl rfl) e⟩,st⟩
theorem kQ.lt(x:kQ P w H h)(e:H a=some o):a<h.objs.size:=(x a o e).lt
theorem kQ.fresh(x:kQ P w H h)(e:h.objs.size<=a):H a=none:=by
 cases q:H a with
 |none=>rfl
 |some u=>exact absurd (nL1 (x.lt q) e) (az _)
theorem kQ.kept(x:kQ P w H h)(k:∀b u,h.get? b=some u->h'.get? b=some u):kQ P w H h':=fun a o e=>
 (x a o e).stay (fun b u _ q=>k b u q) (fun _ q=>q) fun _ _ q=>q
theorem kQ.laid(x:kQ P w H h)(k:∀b u,h.get? b=some u->h'.get? b=some u)(hp:h.objs.size<=a)(new:eN P w (upd H a o) h' a o):kQ P w (upd H a o) h':=fun b u e=>by
 have f:=x.fresh hp;by_cases d:b=a
 ·subst d;rw[d3]at e;cases e;exact new
 ·rw[dY d]at e;exact(x b u e).stay (fun c v _ q=>k c v q) (fun c q=>by rw[dY (eD q f)];exact q) fun c xs q=>by rw[dY (eD q f)];exact q
end
def Rd(H:Hp)(a:dE)(u:HO):Prop:=H a=some u \/ ∃o,H a=some (.frz o u)
theorem Rd.ok{P:dF}{w:dH}{H:Hp}{h:dN}{a:dE}{u:HO}(r:Rd H a u)(x:kQ P w H h):eN P w H h a u:=by
 rcases r with r|⟨o,r⟩
 ·exact x a u r
 ·obtain⟨_,q⟩:=x a _ r;exact q
def Mut:Option HO->Prop
 |some (.lst _)=>True
 |some (.dK _)=>True
 |some (.dT _)=>True
 |some (.set _ _)=>True
 |some (.ins _ _ _)=>True
 |some (.ext _)=>True
 |_=>False
section
variable{P:dF}{w:dH}{H:Hp}{h h':dN}{x e:dE}{o':HO}
theorem kQ.write(ok:kQ P w H h)(mu:Mut (H x))(he:e=x\/H e=some (.own x))(k:∀ b u,b≠e->h.get? b=some u->h'.get? b=some u)(i:∃ u,h'.get? e=some u)(new:eN P w (upd H x o') h' x o'):kQ P w (upd H x o') h':=fun b u q=>by
 have d:∀c y,H c=some (.own y)->c≠x:=fun c y r z=>by subst z;rw[r]at mu;exact mu
 have f:∀c xs,H c=some (.tup xs)->c≠x:=fun c xs r z=>by subst z;rw[r]at mu;exact mu
 by_cases g:b=x
 ·subst g;rw[d3]at q;cases q;exact new
 ·rw[dY g]at q;by_cases a:b=e
  ·have j:H b=some (.own x):=by
    rcases he with z|z
    ·exact absurd (a.trans z) g
    ·rw[a];exact z
   rw[q]at j;cases j;obtain⟨v,l⟩:=i;exact⟨v,by rw[a];exact l⟩
  ·refine(ok b u q).stay (fun c v hc r=>k c v ?_ r) (fun c r=>by rw[dY (d c b r)];exact r) fun c xs r=>by rw[dY (f c xs r)];exact r
   rcases hc with rfl|hc
   ·exact a
   ·rintro rfl;rcases he with z|z
    ·exact d c b hc z
    ·rw[hc]at z;cases z;exact g rfl
end
structure Un (fs ex:List dE)(H H':Hp)(h h':dN):Prop where
 keep:∀b o,h.get? b=some o->H b=none->b∉fs->b∉ex->h'.get? b=some o
 slot:∀b o,h.get? b=some o->H b=none->b∈fs->b∉ex -> ∃sl,h'.get? b=some {o with slots:=sl}
 free:∀b o,h.get? b=some o->H b=none->b∉ex->H' b=none
 there:∀b o,h.get? b=some o->b∉ex -> ∃o',h'.get? b=some o'
 tups:∀b xs,H b=some (.tup xs)->H' b=some (.tup xs)
 frzs:∀b o u,H b=some (.frz o u)->H' b=some (.frz o u)
 tbls:∀b ps,H b=some (.tbl ps) -> ∃more,H' b=some (.tbl (ps++more))
section
variable{fs fs' ex ex':List dE}{H H1 H2:Hp}{h h1 h2 h':dN}{a x e:dE}{o:HO}
theorem Un.any(u:Un fs ex H H1 h h1){b:dE}{a:Obj}(q:h.get? b=some a)(n:H b=none)(hx:b∉ex):∃sl,h1.get? b=some {a with slots:=sl}:=by
 by_cases c:b∈fs
 ·exact u.slot b a q n c hx
 ·exact⟨a.slots,u.keep b a q n c hx⟩
theorem Un.kept(k:∀b u,h.get? b=some u->h'.get? b=some u):Un fs ex H H h h':=
 ⟨fun b a q _ _ _=>k b a q,fun b a q _ _ _=>⟨a.slots,k b a q⟩,fun _ _ _ n _=>n,fun b a q _=>⟨a,k b a q⟩,fun _ _ q=>q,fun _ _ _ q=>q,fun _ ps q=>⟨#[],by rw[q];simp⟩⟩
theorem Un.refl:Un fs ex H H h h:=Un.kept fun _ _ q=>q
theorem Un.laid(k:∀b u,h.get? b=some u->h'.get? b=some u)(hp:h.objs.size<=a)(hn:H a=none):Un fs ex H (upd H a o) h h' where
 keep:=fun b u q _ _ _=>k b u q
 slot:=fun b u q _ _ _=>⟨u.slots,k b u q⟩
 free:=fun b u q n _=>by rw[dY (nN1 (nL1 (hL1 q) hp))];exact n
 there:=fun b u q _=>⟨u,k b u q⟩
 tups:=fun b xs q=>by rw[dY (eD q hn)];exact q
 frzs:=fun b u xs q=>by rw[dY (eD q hn)];exact q
 tbls:=fun b ps q=>⟨#[],by rw[dY (eD q hn),q];simp⟩
theorem Un.write(mu:Mut (H x))(he:e=x\/H e=some (.own x))(k:∀b u,b≠e->h.get? b=some u->h'.get? b=some u)(c:∃u,h'.get? e=some u):Un fs ex H (upd H x o) h h':=by
 have f:∀b,H b=none->b≠x:=fun b n z=>by subst z;rw[n]at mu;exact mu
 have g:∀b,H b=none->b≠e:=fun b n z=>by
  subst z;rcases he with r|r
  ·exact f b n r
  ·rw[n]at r;cases r
 have d:∀b u,H b=some u -> ¬ Mut (some u)->b≠x:=fun b u q nm z=>by subst z;rw[q]at mu;exact nm mu
 refine⟨fun b u q n _ _=>k b u (g b n) q,fun b u q n _ _=>⟨u.slots,k b u (g b n) q⟩,fun b u q n _=>by rw[dY (f b n)];exact n,fun b u q _=>?_,
  fun b xs q=>by rw[dY (d b _ q fun z=>z)];exact q,fun b u xs q=>by rw[dY (d b _ q fun z=>z)];exact q,fun b ps q=>⟨#[],by rw[dY (d b _ q fun z=>z),q];simp⟩⟩
 by_cases a:b=e
 ·subst a;exact c
 ·exact⟨u,k b u a q⟩
end
def trk(h:dN)(H:Hp):List dE:=(List.range h.objs.size).filter fun a=>(H a).isSome
def qq(h:dN)(H:Hp):dN:=PySem.W.hideAll h (trk h H)
theorem w9(h:dN)(H:Hp):(qq h H).objs.size=h.objs.size:=PySem.W.hideAll_size _ _
theorem zT{h:dN}{H:Hp}{b:dE}{o:Obj}(e:h.get? b=some o)(n:H b=none):(qq h H).get? b=some o:=
 PySem.W.hideAll_get _ e fun a=>by
  have q:(H b).isSome=true:=(aA.mp a).2;rw[n]at q;simp at q
theorem BE{h:dN}{H:Hp}{b:dE}{o:Obj}(e:(qq h H).get? b=some o):h.get? b=some o/\H b=none:=by
 have a:h.get? b=some o:=PySem.W.of_hideAll (trk h H) e;refine⟨a,?_⟩;cases q:H b with
 |none=>rfl
 |some x=>
  have c:b∈trk h H:=aA.mpr ⟨aB.mpr (hL1 a),by simp[q]⟩;have z:(qq h H).get? b=none:=PySem.W.hideAll_none (trk h H) c;rw[z]at e;cases e
def CI(g h:dN)(L:dE):List (dE×Obj):=(List.range h.objs.size).filterMap fun a=>if a=L\/(g.get? a).isSome=true then none else(h.get? a).map fun o=>(a,o)
def rest(g h:dN)(L d:dE):List (dE×Obj):=(CI g h L).filter fun p=>decide (p.1≠d)
end L2
namespace L2
open PySem PySem.Spec PyProof.Rows
structure Mod (K:Fg1)(mg:Str->Option dB)(base:dN):Prop where
 kin:K.In base
 glob:base.Ns dI mg
 blt:∃mb,base.Ns builtinsNs mb /\ ∀x:Str,x≠"__name__"->mb x=bootBuiltins x
 nolimit:base.NoLimit
structure Cx where
 prog:dF
 w:dH
 K:Fg1
 mg:Str->Option dB
 base:dN
 A:dG
 N:List Str
 s₀:dD
 H₀:Hp
 env:Env
 outer:List Env
 stack:List Env
 ex:List dE
 fn:Str->Bool
 calm:Bool
 pn:List (dE×Obj)
 xe:dB->dD->Prop
def frs(l:List Env):List dE:=l.filterMap (·.frame)
abbrev Cx.fs(X:Cx):List dE:=frs X.outer
def Vis(sc:dR)(x:Str):Prop:=sc.names.lookup x=some .local\/sc.names.lookup x=some .cell\/sc.names.lookup x=some .free
def uP(sc:dR)(x:Str):Prop:=sc.names.lookup x=some .local\/sc.names.lookup x=some .cell
def Ja(env:Env)(h:dN)(m:Str->Option dB)(x:Str)(u:dB):Prop:=
 (env.kindOf x=some .local/\m x=some u)\/((env.kindOf x=some .cell\/env.kindOf x=some .free) /\ ∃c,env.cells.lookup x=some c/\h.IsCell c (some u))
structure Cx.Ok (X:Cx):Prop where
 mod:Mod X.K X.mg X.base
 kind:X.env.scope.kind = .function
 glob:X.env.globals=dI
 blt:X.env.builtins=builtinsNs
 above:X.s₀.heap.objs.size<=X.env.locals
 inj:∀x y c,X.env.cells.lookup x=some c->X.env.cells.lookup y=some c->x=y
 has:∀x,(X.env.kindOf x=some .cell\/X.env.kindOf x=some .free) -> ∃c,X.env.cells.lookup x=some c
 cab:∀x c,X.fn x=true->X.env.cells.lookup x=some c->X.s₀.heap.objs.size<=c
 hd:X.calm=true->X.A.handled=none
 frames:X.A.frames=some X.stack
 stk:X.stack=X.outer\/(X.stack=X.env::X.outer/\X.env.frame=some X.env.locals)
 exf:∀b∈X.ex,b≠X.env.locals /\ ∀x c,X.env.cells.lookup x=some c->c≠b
 bs:∀b o,X.base.get? b=some o->X.s₀.heap.get? b=some o/\X.H₀ b=none
 bsz:X.base.objs.size<=X.s₀.heap.objs.size
 noex:∀b o,X.base.get? b=some o->b∉X.ex
 exfs:∀b∈X.ex,b∉X.fs
 funs:X.s₀.heap.FunFrames X.base X.outer
 frf:∀b∈X.fs,X.H₀ b=none
structure Inv (X:Cx)(pins:List (dE×Obj))(σ:List (Option V))(H:Hp)(s:dD):Prop where
 ok:X.Ok
 os:s.os=X.s₀.os
 bare:AllBare s.gens
 base:Un X.fs X.ex X.H₀ H X.s₀.heap s.heap
 loc:∃m,s.heap.Ns X.env.locals m /\ ∀(i:Nat) (x:Str) (v:V),X.N[i]?=some x->σ[i]?=some (some v)->Vis X.env.scope x -> ∃u,d6 v u/\Ja X.env s.heap m x u
 cell:∀x c,X.env.cells.lookup x=some c -> ∃v,s.heap.IsCell c v
 free:H X.env.locals=none
 freeC:∀x c,X.env.cells.lookup x=some c->H c=none
 pin:∀p∈X.pn++pins,s.heap.get? p.1=some p.2/\H p.1=none/\p.1≠X.env.locals/\p.1∉X.fs /\ ∀v,p.2.data ≠ .cell v
 hok:kQ X.prog X.w H s.heap
 len:σ.length=X.N.length
section
variable{X:Cx}{pins:List (dE×Obj)}{σ:List (Option V)}{H H':Hp}{s:dD}{h':dN}
theorem Cx.Ok.nofr(ok:X.Ok){b:dE}{o:Obj}(e:X.base.get? b=some o):b∉X.fs:=fun a=>by
 have:=(ok.funs.mem a).1;rw[e]at this;cases this
theorem Inv.bs(I:Inv X pins σ H s):∀b o,X.base.get? b=some o->s.heap.get? b=some o/\H b=none:=fun b o e=>
 ⟨I.base.keep b o (I.ok.bs b o e).1 (I.ok.bs b o e).2 (I.ok.nofr e) (I.ok.noex b o e),I.base.free b o (I.ok.bs b o e).1 (I.ok.bs b o e).2 (I.ok.noex b o e)⟩
theorem Inv.bk(I:Inv X pins σ H s):∀b o,X.base.get? b=some o->s.heap.get? b=some o:=fun b o e=>(I.bs b o e).1
theorem Inv.mod(I:Inv X pins σ H s):Mod X.K X.mg X.base:=I.ok.mod
theorem Inv.kIn(I:Inv X pins σ H s):X.K.In s.heap:=I.ok.mod.kin.keeps I.bk
theorem Inv.lt(I:Inv X pins σ H s):X.env.locals<s.heap.objs.size:=let ⟨_,hn,_⟩:=I.loc;hn.lt
theorem Inv.sz(I:Inv X pins σ H s):X.s₀.heap.objs.size<=s.heap.objs.size:=aC I.ok.above (aD I.lt)
theorem Inv.nofs(I:Inv X pins σ H s){a:dE}(h:s.heap.objs.size<=a):a∉X.fs:=fun b=>by
 obtain⟨_,o,c,_⟩:=I.ok.funs.mem b;exact absurd (nL1 (hL1 c) (aC I.sz h)) (az _)
theorem Inv.cne(I:Inv X pins σ H s):∀x c,X.env.cells.lookup x=some c->c≠X.env.locals:=fun x c e z=>by
 obtain⟨v,o,f,d⟩:=I.cell x c e;obtain⟨m,⟨o',es,ep,a,b,_⟩,_⟩:=I.loc;rw[z,a]at f;cases f;rw[b]at d;cases d
theorem Inv.funs(I:Inv X pins σ H s):s.heap.FunFrames X.base X.outer:=by
 have all:∀(l:List Env),(∀b∈frs l,b∈X.fs)->X.s₀.heap.FunFrames X.base l->s.heap.FunFrames X.base l:=by
  intro l
  induction l with
  |nil=>intro _ _;trivial
  |cons i r ih=>
   intro f h;obtain⟨k,⟨L,o,a,g,n,m⟩,j⟩:=h;have c:L∈X.fs:=f L (by unfold frs;rw[aE,a];exact mS1);obtain⟨sl,e⟩:=I.base.slot L o n (I.ok.frf L c) c fun z=>I.ok.exfs L z c;exact⟨k,⟨L,_,a,g,e,m⟩,ih (fun b d=>f b (by unfold frs;rw[aE,a];exact mC1 _ d)) j⟩
 exact all X.outer (fun _ d=>d) I.ok.funs
theorem Inv.stack(I:Inv X pins σ H s):s.heap.FunFrames X.base X.stack:=by
 rcases I.ok.stk with e|⟨e,a⟩
 ·rw[e];exact I.funs
 ·rw[e];obtain⟨m,b,_⟩:=I.loc;refine .cons (by rw[I.ok.kind];decide) a b ?_ I.funs;exact Heap.get?_none_of_le (aC I.ok.bsz I.ok.above)
theorem Inv.stkSub(I:Inv X pins σ H s):∀b∈frs X.stack,b∈X.env.locals::X.fs:=fun b a=>by
 rcases I.ok.stk with e|⟨e,c⟩
 ·rw[e]at a;exact mC1 _ a
 ·rw[e]at a;unfold frs at a;rw[aE,c]at a;exact a
theorem Inv.stkFree(I:Inv X pins σ H s):∀b∈frs X.stack,H b=none:=fun b a=>by
 rcases aF.mp (I.stkSub b a)with e|a
 ·rw[e];exact I.free
 ·obtain⟨_,o,c,_⟩:=I.ok.funs.mem a;exact I.base.free b o c (I.ok.frf b a) fun z=>I.ok.exfs b z a
theorem Inv.step{g':Array GenState}{t':Nat}{d':Drawn}{ch:List dE}(I:Inv X pins σ H s)(h:∀b∈ch,(b∈X.ex\/X.s₀.heap.objs.size<=b)/\b≠X.env.locals/\(∀x c,X.env.cells.lookup x=some c->c≠b) /\ ∀p∈X.pn++pins,p.1≠b)(keep:∀b o,b≠X.env.locals->b∉X.fs->b∉ch->s.heap.get? b=some o->H b=none->h'.get? b=some o)(slot:∀b o,b≠X.env.locals->b∈X.fs->b∉ch->s.heap.get? b=some o->H b=none -> ∃sl,h'.get? b=some {o with slots:=sl})(f:∀b o,b∉ch->s.heap.get? b=some o->H b=none->H' b=none)(y:∀b o,b∉ch->s.heap.get? b=some o -> ∃o',h'.get? b=some o')(C:∀b xs,H b=some (.tup xs)->H' b=some (.tup xs))(G:∀b o u,H b=some (.frz o u)->H' b=some (.frz o u))(E:∀b ps,H b=some (.tbl ps) -> ∃more,H' b=some (.tbl (ps++more)))(ns:∀m,s.heap.Ns X.env.locals m->h'.Ns X.env.locals m)(L:kQ X.prog X.w H' h')(hg:AllBare g'):
  Inv X pins σ H' {s with heap:=h',gens:=g',drawn:=d',toks:=t'}:=by
 have F:∀b o,X.s₀.heap.get? b=some o->b≠X.env.locals:=fun b o e=>nN1 (nL1 (hL1 e) I.ok.above);have w:∀b o,X.s₀.heap.get? b=some o->b∉X.ex->b∉ch:=fun b o e a A=>by
  rcases(h b A).1 with z|z
  ·exact a z
  ·exact absurd (nL1 (hL1 e) z) (az _)
 have j:∀x c,X.env.cells.lookup x=some c -> ∀v,s.heap.IsCell c v->h'.IsCell c v:=fun x c e v ⟨o,B,K⟩=>by
  have g:c∉ch:=fun z=>(h c z).2.2.1 x c e rfl;by_cases hc:c∈X.fs
  ·obtain⟨sl,q⟩:=slot c o (I.cne x c e) hc g B (I.freeC x c e);exact⟨_,q,K⟩
  ·exact⟨o,keep c o (I.cne x c e) hc g B (I.freeC x c e),K⟩
 refine⟨I.ok,I.os,hg,⟨fun b o e n A a=>?_,fun b o e n A a=>?_,fun b o e n a=>?_,fun b o e a=>?_,fun b xs e=>C b xs (I.base.tups b xs e),fun b o xs e=>G b o xs (I.base.frzs b o xs e),fun b ps e=>?_⟩,?_,fun x c e=>?_,?_,fun x c e=>?_,fun p M=>?_,L,I.len⟩
 ·exact keep b o (F b o e) A (w b o e a) (I.base.keep b o e n A a) (I.base.free b o e n a)
 ·obtain⟨sl,t⟩:=I.base.slot b o e n A a;obtain⟨J,D⟩:=slot b _ (F b o e) A (w b o e a) t (I.base.free b o e n a);exact⟨J,D⟩
 ·obtain⟨o',t⟩:=I.base.there b o e a;exact f b o' (w b o e a) t (I.base.free b o e n a)
 ·obtain⟨o',t⟩:=I.base.there b o e a;exact y b o' (w b o e a) t
 ·obtain⟨m1,t⟩:=I.base.tbls b ps e;obtain⟨m2,D⟩:=E b _ t;exact⟨m1++m2,by rw[D,Array.append_assoc]⟩
 ·obtain⟨m,Q,O⟩:=I.loc;refine⟨m,ns m Q,fun i x v t D P=>?_⟩;obtain⟨u,r,l⟩:=O i x v t D P;refine⟨u,r,?_⟩;rcases l with l|⟨k,c,e,z⟩
  ·exact .inl l
  ·exact .inr ⟨k,c,e,j x c e _ z⟩
 ·obtain⟨v,z⟩:=I.cell x c e;exact⟨v,j x c e v z⟩
 ·obtain⟨m,⟨o,_,_,B,_⟩,_⟩:=I.loc;exact f _ o (fun z=>(h _ z).2.1 rfl) B I.free
 ·obtain⟨v,o,B,K⟩:=I.cell x c e;exact f c o (fun z=>(h c z).2.2.1 x c e rfl) B (I.freeC x c e)
 ·obtain⟨e,n,ne,N,d⟩:=I.pin p M;have g:p.1∉ch:=fun z=>(h p.1 z).2.2.2 p M rfl;exact⟨keep p.1 p.2 ne N g e n,f p.1 p.2 g e n,ne,N,d⟩
theorem Inv.un{t':Nat}(I:Inv X pins σ H s)(u:Un X.fs [] H H' s.heap h')(g:kQ X.prog X.w H' h'):Inv X pins σ H' {s with heap:=h',toks:=t'}:=by
 obtain⟨m,⟨o,es,ep,h,r⟩,_⟩:=id I.loc;obtain⟨sl,k⟩:=u.any h I.free (by simp);exact I.step (g':=s.gens) (d':=s.drawn) (ch:=[]) (fun _ z=>nomatch z) (fun b o _ d _ e n=>u.keep b o e n d (by simp)) (fun b o _ d _ e n=>u.slot b o e n d (by simp)) (fun b o _ e n=>u.free b o e n (by simp)) (fun b o _ e=>u.there b o e (by simp)) u.tups u.frzs u.tbls (fun l j=>by
  obtain⟨o',c,f,a,i⟩:=j;rw[h]at a;cases a;exact⟨_,c,f,k,i⟩) g I.bare
theorem Inv.call{g':Array GenState}{t':Nat}{d':Drawn}{ch:List dE}(I:Inv X pins σ H s)(u:Un (frs X.stack) ch H H' s.heap h')(i:kQ X.prog X.w H' h')(hg:AllBare g')(a:∀b∈ch,(b∈X.ex\/X.s₀.heap.objs.size<=b)/\b≠X.env.locals/\(∀x c,X.env.cells.lookup x=some c->c≠b) /\ ∀p∈X.pn++pins,p.1≠b):
  Inv X pins σ H' {s with heap:=h',gens:=g',drawn:=d',toks:=t'}:=by
 obtain⟨m,⟨o,es,ep,j,r⟩,_⟩:=id I.loc;obtain⟨sl,g⟩:=u.any j I.free fun z=>(a _ z).2.1 rfl;exact I.step (ch:=ch) a (fun b o g l hc e n=>u.keep b o e n (fun z=>(aF.mp (I.stkSub b z)).elim g l) hc) (fun b o _ _ hc e n=>u.any e n hc) (fun b o hc e n=>u.free b o e n hc) (fun b o hc e=>u.there b o e hc) u.tups u.frzs u.tbls (fun t q=>by
  obtain⟨o',f,h,d,k⟩:=q;rw[j]at d;cases d;exact⟨_,f,h,g,k⟩) i hg
theorem Inv.turned{t':Nat}{it:dE}(I:Inv X pins σ H s)(k:∀ b o,b≠it->s.heap.get? b=some o->h'.get? b=some o)(hn:H it=none)(d:it≠X.env.locals)(h1:it∈X.ex\/X.s₀.heap.objs.size<=it)(h2:∀x c,X.env.cells.lookup x=some c->c≠it)(g:∀p∈X.pn++pins,p.1≠it):Inv X pins σ H {s with heap:=h',toks:=t'}:=by
 have a:∀b u,H b=some u->b≠it:=fun b u e z=>by rw[z,hn]at e;cases e
 refine I.step (g':=s.gens) (d':=s.drawn) (ch:=[it]) (fun b h=>?_) (fun b o _ _ hc e _=>k b o (fun z=>hc (by simp[z])) e) (fun b o _ _ hc e _=>⟨o.slots,k b o (fun z=>hc (by simp[z])) e⟩) (fun _ _ _ _ n=>n)
  (fun b o hc e=>⟨o,k b o (fun z=>hc (by simp[z])) e⟩) (fun _ _ e=>e) (fun _ _ _ e=>e) (fun b ps e=>⟨#[],by rw[e];simp⟩) (fun m f=>?_) (fun b u e=>?_) I.bare
 ·have e:b=it:=by simpa using h
  subst e;exact⟨h1,d,h2,g⟩
 ·obtain⟨o,es,ep,i,r⟩:=f;exact⟨o,es,ep,k _ o (Ne.symm d) i,r⟩
 ·refine(I.hok b u e).stay (fun c v hc q=>k c v ?_ q) (fun _ q=>q) fun _ _ q=>q;rcases hc with z|z
  ·rw[z];exact a b u e
  ·exact a c _ z
theorem Inv.tok(I:Inv X pins σ H s)(t:Nat):Inv X pins σ H {s with toks:=t}:=I.un (h':=s.heap) (t':=t) Un.refl I.hok
theorem Inv.kept{t':Nat}(I:Inv X pins σ H s)(k:∀b u,s.heap.get? b=some u->h'.get? b=some u):Inv X pins σ H {s with heap:=h',toks:=t'}:=I.un (Un.kept k) (I.hok.kept k)
theorem Inv.laid{a:dE}{o:HO}{t':Nat}(I:Inv X pins σ H s)(k:∀ b u,s.heap.get? b=some u->h'.get? b=some u)(hp:s.heap.objs.size<=a)(new:eN X.prog X.w (upd H a o) h' a o):
  Inv X pins σ (upd H a o) {s with heap:=h',toks:=t'}:=I.un (Un.laid k hp (I.hok.fresh hp)) (I.hok.laid k hp new)
theorem Inv.write{x e:dE}{o:HO}{t':Nat}(I:Inv X pins σ H s)(mu:Mut (H x))(he:e=x\/H e=some (.own x))(k:∀ b u,b≠e->s.heap.get? b=some u->h'.get? b=some u)(a:∃ u,h'.get? e=some u)(new:eN X.prog X.w (upd H x o) h' x o):Inv X pins σ (upd H x o) {s with heap:=h',toks:=t'}:=I.un (Un.write mu he k a) (I.hok.write mu he k a new)
theorem Inv.pins_of{a:List (dE×Obj)}(I:Inv X pins σ H s)(h:∀p∈a,s.heap.get? p.1=some p.2/\H p.1=none/\p.1≠X.env.locals/\p.1∉X.fs /\ ∀v,p.2.data ≠ .cell v):Inv X a σ H s:=
 ⟨I.ok,I.os,I.bare,I.base,I.loc,I.cell,I.free,I.freeC,fun p b=>(aG.mp b).elim (fun z=>I.pin p (aH _ z)) (h p),I.hok,I.len⟩
theorem rW{N:List Str}(hN:N.Nodup){i j:Nat}{x:Str}(a:N[i]?=some x)(b:N[j]?=some x):i=j:=by
 obtain⟨h1,d⟩:=gE1.mp a;obtain⟨h2,c⟩:=gE1.mp b;exact(List.getElem_inj hN).mp (d.trans c.symm)
theorem wA{M:Model}{A:dG}{E:dB->dD->Prop}{i:Nat}{x:Str}{v:V}{u:dB}{Q:Unit->dD->Prop}(I:Inv X pins σ H s)(hN:X.N.Nodup)(hi:X.N[i]? = some x)(hx:uP X.env.scope x)(r:d6 v u)(h:∀s',Inv X pins (σ.set i (some v)) H s'->(∃a,Heap.SameBut a s.heap s'.heap/\(a=X.env.locals\/X.env.cells.lookup x=some a))->Q () s')(hf:X.fn x=true\/X.env.scope.names.lookup x=some .local:=by first|exact .inl rfl|exact .inr rfl|assumption):dM M A (storeName X.env x u) Q E s:=by
 obtain⟨m,W,hl⟩:=id I.loc;have K:(X.env.scope.kind == .class||(X.env.scope.kind == .module&&X.env.locals != X.env.globals))=false:=by rw[I.ok.kind];rfl
 have w:i<σ.length:=by rw[I.len];exact(gE1.mp hi).1
 have cne:=I.cne;have tracked:∀{a:dE} {h':dN},(∃o,s.heap.get? a=some o/\H a=none)->Heap.SameBut a s.heap h'->kQ X.prog X.w H h':=fun{a h'} ha f b ob e=>by
  obtain⟨_,_,l⟩:=ha;refine(I.hok b ob e).stay (fun c O hc q=>(f.2 c ?_).trans q) (fun _ q=>q) fun _ _ q=>q;rintro rfl;rcases hc with rfl|hc
  ·rw[l]at e;cases e
  ·rw[l]at hc;cases hc
 rcases hx with B|B
 ·refine wpAny_storeName_local B W (fun h' Z f=>?_) K;obtain⟨oL,_,_,hoL,_⟩:=id W;refine h _ ⟨I.ok,I.os,I.bare,⟨fun b o e n F hx=>?_,fun b o e n F hx=>?_,I.base.free,fun b o e hx=>?_,I.base.tups,I.base.frzs,I.base.tbls⟩,⟨_,Z,fun j y v' g t U=>?_⟩,fun y c e=>?_,I.free,I.freeC,fun p R=>?_,tracked ⟨oL,hoL,I.free⟩ f,by simpa using I.len⟩ ⟨_,f,.inl rfl⟩
  ·exact(f.2 b (nN1 (nL1 (hL1 e) I.ok.above))).trans (I.base.keep b o e n F hx)
  ·obtain⟨sl,g⟩:=I.base.slot b o e n F hx;exact⟨sl,(f.2 b (nN1 (nL1 (hL1 e) I.ok.above))).trans g⟩
  ·obtain⟨o',g⟩:=I.base.there b o e hx;exact⟨o',(f.2 b (nN1 (nL1 (hL1 e) I.ok.above))).trans g⟩
  ·by_cases D:j=i
   ·subst D;rw[hi]at g;cases g;rw[aI w]at t;cases t;exact⟨u,r,.inl ⟨B,by simp⟩⟩
   ·rw[gS1 (Ne.symm D)]at t;obtain⟨Y,S,q⟩:=hl j y v' g t U;refine⟨Y,S,?_⟩;rcases q with⟨k,e⟩|⟨k,c,e,z⟩
    ·refine .inl ⟨k,?_⟩;have:y≠x:=fun e=>D (rW hN g (e ▸ hi));simp[this,e]
    ·exact .inr ⟨k,c,e,z.sameBut f (cne y c e)⟩
  ·obtain⟨O,z⟩:=I.cell y c e;exact⟨O,z.sameBut f (cne y c e)⟩
  ·obtain⟨e,n,ne,T,d⟩:=I.pin p R;exact⟨(f.2 p.1 ne).trans e,n,ne,T,d⟩
 ·have C:X.fn x=true:=by
   rcases hf with z|z
   ·exact z
   ·rw[z]at B;cases B
  obtain⟨c,hc⟩:=I.ok.has x (.inl B);obtain⟨O,z⟩:=I.cell x c hc;refine wpAny_storeName_cell I.ok.kind B hc z (fun h' N f=>?_);obtain⟨oc,G,J⟩:=id z;refine h {s with heap:=h'} ⟨I.ok,I.os,I.bare,⟨fun b o e n F hx=>?_,fun b o e n F hx=>?_,I.base.free,fun b o e hx=>?_,I.base.tups,I.base.frzs,I.base.tbls⟩,⟨m,W.sameBut f (Ne.symm (cne x c hc)),fun j y v' g t U=>?_⟩,fun y P e=>?_,I.free,I.freeC,fun p R=>?_,tracked ⟨oc,G,I.freeC x c hc⟩ f,by simpa using I.len⟩ ⟨c,f,.inr hc⟩
  ·exact(f.2 b (nN1 (nL1 (hL1 e) (I.ok.cab x c C hc)))).trans (I.base.keep b o e n F hx)
  ·obtain⟨sl,g⟩:=I.base.slot b o e n F hx;exact⟨sl,(f.2 b (nN1 (nL1 (hL1 e) (I.ok.cab x c C hc)))).trans g⟩
  ·obtain⟨o',g⟩:=I.base.there b o e hx;exact⟨o',(f.2 b (nN1 (nL1 (hL1 e) (I.ok.cab x c C hc)))).trans g⟩
  ·by_cases D:j=i
   ·subst D;rw[hi]at g;cases g;rw[aI w]at t;cases t;exact⟨u,r,.inr ⟨.inl B,c,hc,N⟩⟩
   ·rw[gS1 (Ne.symm D)]at t;obtain⟨Y,S,q⟩:=hl j y v' g t U;refine⟨Y,S,?_⟩;rcases q with q|⟨k,P,e,z'⟩
    ·exact .inl q
    ·refine .inr ⟨k,P,e,z'.sameBut f ?_⟩;rintro rfl;exact D (rW hN g (I.ok.inj _ _ _ e hc ▸ hi))
  ·by_cases L:P=c
   ·subst L;exact⟨_,N⟩
   ·obtain⟨w2,z2⟩:=I.cell y P e;exact⟨w2,z2.sameBut f L⟩
  ·obtain⟨e,n,ne,T,d⟩:=I.pin p R;refine⟨(f.2 p.1 ?_).trans e,n,ne,T,d⟩;intro q;rw[q,G]at e;have q':oc=p.2:=Option.some.inj e;exact d O (by rw[<- q'];exact J)
theorem iK{M:Model}{A:dG}{E:dB->dD->Prop}{i:Nat}{x:Str}{v:V}{u:dB}{Q:Unit->dD->Prop}(I:Inv X pins σ H s)(hN:X.N.Nodup)(hi:X.N[i]? = some x)(hx:uP X.env.scope x)(r:d6 v u)(h:∀s',Inv X pins (σ.set i (some v)) H s'->Q () s')(hf:X.fn x=true\/X.env.scope.names.lookup x=some .local:=by first|exact .inl rfl|exact .inr rfl|assumption):dM M A (storeName X.env x u) Q E s:=
 wA I hN hi hx r (fun s' a _=>h s' a) hf
theorem Inv.call'{s':dD}{ch:List dE}(I:Inv X pins σ H s)(ho:s'.os=s.os)(u:Un (frs X.stack) ch H H' s.heap s'.heap)(d:kQ X.prog X.w H' s'.heap)(hg:AllBare s'.gens)(a:∀b∈ch,(b∈X.ex\/X.s₀.heap.objs.size<=b)/\b≠X.env.locals/\(∀x c,X.env.cells.lookup x=some c->c≠b) /\ ∀p∈X.pn++pins,p.1≠b):Inv X pins σ H' s':=by
 obtain⟨h',g,h,f,o'⟩:=s';have e:o'=s.os:=ho;subst e;exact I.call (g':=g) (t':=f) (d':=h) u d hg a
end
abbrev XK:=dB->Option dE->Hp->Prop
abbrev St:=List (Option V)
abbrev VK:=V->Hp->Prop
abbrev TE:=St->Hp->VK->Prop
abbrev TT:=St->Hp->(Bool->Hp->Prop)->Prop
abbrev TA:=St->Hp->(List V->Hp->Prop)->Prop
structure jt where
 nx:St->Hp->Prop
 rt:VK
 bk:St->Hp->Prop:=fun _ _=>False
 ct:St->Hp->Prop:=fun _ _=>False
abbrev TS:=jt->St->Hp->Prop
def EP(X:Cx)(pins:List (dE×Obj))(σ:St)(Q:VK)(u:dB)(s':dD):Prop:=∃v H',Inv X pins σ H' s'/\d6 v u/\Q v H'
def TP(X:Cx)(pins:List (dE×Obj))(σ:St)(Q:Bool->Hp->Prop)(b:Bool)(s':dD):Prop:=∃H',Inv X pins σ H' s'/\Q b H'
def AP(X:Cx)(pins:List (dE×Obj))(σ:St)(Q:List V->Hp->Prop)(us:List dB)(s':dD):Prop:=∃vs H',Inv X pins σ H' s'/\ei vs us/\Q vs H'
def SP(X:Cx)(pins:List (dE×Obj))(D:jt)(f:Flow)(s':dD):Prop:=
 match f with
 | .next=>∃ σ' H',Inv X pins σ' H' s'/\D.nx σ' H'
 | .brk=>∃ σ' H',Inv X pins σ' H' s'/\D.bk σ' H'
 | .cont=>∃ σ' H',Inv X pins σ' H' s'/\D.ct σ' H'
 | .ret u=>∃v σ' H',Inv X pins σ' H' s'/\d6 v u/\D.rt v H'
def PE(X:Cx)(e:Expr)(t:TE):Prop:=
 ∀(pins:List (dE×Obj)) (s:dD) (σ:St) (H:Hp) (Q:VK),Inv X pins σ H s->t σ H Q->dM (model X.prog X.w) X.A (eval e X.env) (EP X pins σ Q) X.xe s
def PT(X:Cx)(e:Expr)(t:TT):Prop:=
 ∀(pins:List (dE×Obj)) (s:dD) (σ:St) (H:Hp) (Q:Bool->Hp->Prop),Inv X pins σ H s->t σ H Q->dM (model X.prog X.w) X.A (isTrue e X.env (eval e X.env)) (TP X pins σ Q) X.xe s
def PW(X:Cx)(e:Expr)(t:TT):Prop:=
 ∀(whole:Sem dB) (pins:List (dE×Obj)) (s:dD) (σ:St) (H:Hp) (Q:Bool->Hp->Prop),Inv X pins σ H s->t σ H Q->dM (model X.prog X.w) X.A (isTrue e X.env whole) (TP X pins σ Q) X.xe s
theorem PW.pt{X:Cx}{e:Expr}{t:TT}(h:PW X e t):PT X e t:=h _
def PA(X:Cx)(es:List Expr)(t:TA):Prop:=
 ∀(pos:Pos) (pins:List (dE×Obj)) (s:dD) (σ:St) (H:Hp) (Q:List V->Hp->Prop),Inv X pins σ H s->t σ H Q->dM (model X.prog X.w) X.A (spliced (backTo pos (dJ es X.env))) (AP X pins σ Q) X.xe s
def PS(X:Cx)(st:dQ)(t:TS):Prop:=
 ∀(pins:List (dE×Obj)) (s:dD) (σ:St) (H:Hp) (D:jt),Inv X pins σ H s->t D σ H->dM (model X.prog X.w) X.A (exec st X.env) (SP X pins D) X.xe s
def tG(X:Cx)(st:List dQ)(t:TS):Prop:=
 ∀(pins:List (dE×Obj)) (s:dD) (σ:St) (H:Hp) (D:jt),Inv X pins σ H s->t D σ H->dM (model X.prog X.w) X.A (execs st X.env) (SP X pins D) X.xe s
theorem fg{α:Type}{t:Sem α}{Q b:α->dD->Prop}{M:Model}{A:dG}{E:dB->dD->Prop}{s:dD}(h:dM M A t Q E s)(c:∀a s,Q a s->b a s):dM M A t b E s:=wpAny_mono h c fun _ _ x=>x
end L2
namespace L2
open PySem PySem.Spec PyProof.Rows
section
variable{X:Cx}
theorem Kp{a b:Expr}{ta tb:TE}(ha:PE X a ta)(hb:PE X b tb){pins:List (dE×Obj)}{s:dD}{σ:St}{H:Hp}{R:V->V->Hp->Prop}(I:Inv X pins σ H s)(h:ta σ H fun x H1=>tb σ H1 fun y H2=>R x y H2){α:Type}{Q:α->dD->Prop}{f:dB->dB->Sem α}(hf:∀v u e x y H2,Inv X pins σ H2 e->d6 x v->d6 y u->R x y H2->dM (model X.prog X.w) X.A (f v u) Q X.xe e):
  dM (model X.prog X.w) X.A (eval a X.env) (fun v c=>dM (model X.prog X.w) X.A (eval b X.env) (fun u d=>dM (model X.prog X.w) X.A (f v u) Q X.xe d) X.xe c) X.xe s:=by
 refine fg (ha pins s σ H _ I h) fun v i ⟨x,H1,j,m,k⟩=>?_;refine fg (hb pins i σ H1 _ j k) fun u e ⟨y,H2,l,r2,g⟩=>?_;exact hf v u e x y H2 l m r2 g
def FZ(i:Nat):TE:=fun σ H Q=>∃v,σ[i]?=some (some v)/\Q v H
def tC(v:V):TE:=fun _ H Q=>Q v H
theorem yX {i:Nat}{x:Str}{pos:Pos}(hN:X.N[i]?=some x)(hv:Vis X.env.scope x)(hd:(x == ("__debug__":Str))=false:=by decide)(hcd:(x == ("__classdict__":Str))=false:=by decide):PE X (.Name x pos) (FZ i):=by
 intro pins s σ H Q I h;obtain⟨v,e,h⟩:=h;obtain⟨m,f,g⟩:=I.loc;obtain⟨u,r,l⟩:=g i x v hN e hv;have b:EP X pins σ Q u s:=⟨v,H,I,r,h⟩;rcases l with⟨d,j⟩|⟨d,c,hc,a⟩
 ·exact wpAny_Name (wpAny_loadName_local I.ok.kind d f j b) hd
 ·rcases d with d|d
  ·exact wpAny_Name (wpAny_loadName_cell I.ok.kind d hc a b) hd
  ·exact wpAny_Name (wpAny_loadName_free I.ok.kind d hc a b hcd) hd
theorem Ed{i j pos}:PE X (.Constant (.int i) j pos) (tC (.int i)):=fun _ _ _ H _ I h=>wpAny_Constant_int ⟨.int i,H,I.tok _,⟨_,rfl⟩,h⟩
theorem Gs{b j pos}:PE X (.Constant (.bool b) j pos) (tC (.bl b)):=fun _ _ _ H _ I h=>Constant_bool ⟨.bl b,H,I,rfl,h⟩
theorem Eb{j pos}:PE X (.Constant .none j pos) (tC .non):=fun _ _ _ H _ I h=>Constant_none ⟨.non,H,I,rfl,h⟩
theorem Ea{x j pos}:PE X (.Constant (.str x) j pos) (tC (.str x)):=fun _ _ _ H _ I h=>Calls.Constant_str ⟨.str x,H,I.tok _,⟨_,rfl⟩,h⟩
def Gl(X:Cx)(x:Str):Prop:=X.env.kindOf x=some .globalImplicit
theorem vC {E:dB->dD->Prop}{pins:List (dE×Obj)}{s:dD}{σ:St}{H:Hp}{x:Str}{u:dB}{pos:Pos}{Q:dB->dD->Prop}(I:Inv X pins σ H s)(hg:Gl X x)(hm:X.mg x=some u)(h:Q u s)
  (hd:(x == ("__debug__":Str))=false:=by decide):dM (model X.prog X.w) X.A (eval (.Name x pos) X.env) Q E s:=
 Calls.Name_function_global I.ok.kind hg (Calls.loadGlobal_global (by rw[I.ok.glob];exact I.mod.glob.keeps I.bk) hm h) hd
theorem jD {E:dB->dD->Prop}{pins:List (dE×Obj)}{s:dD}{σ:St}{H:Hp}{x:Str}{u:dB}{pos:Pos}{Q:dB->dD->Prop}(I:Inv X pins σ H s)(hg:Gl X x)(hm:X.mg x=none)(hv:bootBuiltins x=some u)(h:Q u s)
  (hn:x≠"__name__":=by decide) (hd:(x == ("__debug__":Str))=false:=by decide):dM (model X.prog X.w) X.A (eval (.Name x pos) X.env) Q E s:=by
 obtain⟨a,h1,h2⟩:=I.mod.blt;exact Calls.Name_function_global I.ok.kind hg (Calls.loadGlobal_builtin (by rw[I.ok.glob];exact I.mod.glob.keeps I.bk) hm (by rw[I.ok.blt];exact h1.keeps I.bk) ((h2 x hn).trans hv) h) hd
theorem Bw {x:Str}{v:V}{u:dB}{pos:Pos}(hg:Gl X x)(hm:X.mg x=some u)(r:d6 v u)(hd:(x == ("__debug__":Str))=false:=by decide):PE X (.Name x pos) (tC v):=
 fun _ _ _ H _ I h=>vC I hg hm ⟨v,H,I,r,h⟩ hd
variable{a b:Expr}{ta tb:TE}{pos:Pos}
def tB(t:TE):TT:=fun σ H Q=>t σ H fun x H1=>∃c,x = .bl c/\Q c H1
variable{tA tB':TT}{rest:List Expr}
def Ip(t u:TT):TT:=fun σ H Q=>t σ H fun c H1=>if c=true then u σ H1 Q else Q false H1
def JF(t u:TT):TT:=fun σ H Q=>t σ H fun c H1=>if c=true then Q true H1 else u σ H1 Q
def Ie(t:TT):TT:=fun σ H Q=>t σ H fun c H1=>Q (!c) H1
theorem Bg(ha:PT X a tA):PW X (.BoolOp .And [a] pos) tA:=by
 intro b pins s σ H Q I h;refine isTrue_and (fg (ha pins s σ H Q I h) fun c d e=>?_);cases c with
 |true=>exact isTrue_and_nil e
 |false=>exact e
theorem DS(ha:PT X a tA):PW X (.BoolOp .Or [a] pos) tA:=by
 intro b pins s σ H Q I h;refine isTrue_or (fg (ha pins s σ H Q I h) fun c d e=>?_);cases c with
 |false=>exact isTrue_or_nil e
 |true=>exact e
theorem DT(ha:PT X a tA)(hb:PW X (.BoolOp .And (b::rest) pos) tB'):PW X (.BoolOp .And (a::b::rest) pos) (Ip tA tB'):=by
 intro f pins s σ H Q I h;refine isTrue_and (fg (ha pins s σ H _ I h) fun c g ⟨H1,d,e⟩=>?_);cases c with
 |true=>exact hb f pins g σ H1 Q d e
 |false=>exact⟨H1,d,e⟩
theorem Gk(ha:PT X a tA)(hb:PW X (.BoolOp .Or (b::rest) pos) tB'):PW X (.BoolOp .Or (a::b::rest) pos) (JF tA tB'):=by
 intro f pins s σ H Q I h;refine isTrue_or (fg (ha pins s σ H _ I h) fun c g ⟨H1,d,e⟩=>?_);cases c with
 |true=>exact⟨H1,d,e⟩
 |false=>exact hb f pins g σ H1 Q d e
theorem DV(ha:PT X a tA):PT X (.UnaryOp .Not a pos) (Ie tA):=by
 intro pins s σ H Q I h;exact isTrue_not (ha pins s σ H (fun c H1=>Q (!c) H1) I h)
def JH(t:TT)(ta tb:TE):TE:=fun σ H Q=>t σ H fun c H1=>if c=true then ta σ H1 Q else tb σ H1 Q
theorem yZ{c:Expr}(hc:PT X c tA)(ha:PE X a ta)(hb:PE X b tb):PE X (.IfExp c a b pos) (JH tA ta tb):=by
 intro pins s σ H Q I h;refine wpAny_IfExp (fg (hc pins s σ H _ I h) fun d e ⟨H1,f,g⟩=>?_);cases d with
 |true=>exact ha pins e σ H1 Q f g
 |false=>exact hb pins e σ H1 Q f g
end
end L2
namespace L2
open PySem PySem.Spec PyProof.Rows
def lV(K:Fg1)(H:Hp)(a:dE)(xs:List V):Prop:=
 Rd H a (.lst xs) \/
  ∃(o:Obj) (its:Array dB) (n:Nat),K.lookup a=some o/\o.cls = .type "list"/\o.dict=none/\o.data = .seq its n/\its.size<=dL/\ei xs its.toList
def jl(K:Fg1)(H:Hp)(a:dE)(xs:List V):Prop:=
 Rd H a (.tup xs) \/
  ∃(o:Obj) (its:Array dB) (n:Nat),K.lookup a=some o/\o.cls = .type "tuple"/\o.data = .seq its n/\its.size<=dL/\ei xs its.toList
def IY:dB->Option V
 | .none=>some .non
 | .bool b=>some (.bl b)
 | .int i _=>some (.int i)
 | .str x _=>some (.str x)
 | .bytes b _=>some (.byt b)
 | .float b _=>some (.flt b)
 | .ref a=>some (.ref a)
 | .type n=>some (.ty n)
 |_=>none
theorem d6.abs{x:V}{u:dB}(r:d6 x u):IY u=some x:=by
 cases x with
 |non=>cases r;rfl
 |bl _=>cases r;rfl
 |int _=>obtain⟨t,rfl⟩:=r;rfl
 |str _=>obtain⟨t,rfl⟩:=r;rfl
 |byt _=>obtain⟨t,rfl⟩:=r;rfl
 |flt _=>obtain⟨t,rfl⟩:=r;rfl
 |ref _=>cases r;rfl
 |ty _=>cases r;rfl
theorem d6.inj{x y:V}{u:dB}(r:d6 x u)(q:d6 y u):x=y:=Option.some.inj (r.abs.symm.trans q.abs)
theorem ei.inj:∀{xs ys:List V} {a:List dB},ei xs a->ei ys a->xs=ys:=by
 intro xs ys a h g
 induction h generalizing ys with
 |nil=>cases g;rfl
 |cons r t ih=>cases g with
  |cons b c=>rw[r.inj b,ih c]
section
variable{X:Cx}{pins:List (dE×Obj)}{σ:St}{H:Hp}{s:dD}{a:dE}{xs ys:List V}
theorem lV.of{K:Fg1}(h:H a=some (.lst xs)):lV K H a xs:=.inl (.inl h)
theorem jl.of{K:Fg1}(h:H a=some (.tup xs)):jl K H a xs:=.inl (.inl h)
theorem Inv.list(I:Inv X pins σ H s)(h:lV X.K H a xs):∃b:List dB,ei xs b/\PlainL s.heap a b.toArray/\xs.length<=dL:=by
 rcases h with h|⟨o,b,n,d,hc,f,c,g,r⟩
 ·obtain⟨z,b,n,r,e⟩:=h.ok I.hok;exact⟨b,r,⟨_,n,e,rfl,rfl,rfl⟩,z⟩
 ·refine⟨b.toList,r,⟨o,n,I.kIn a o d,hc,f,by simpa using c⟩,?_⟩;have e:=r.length;simp only[aJ]at e;lia
theorem Inv.tuple(I:Inv X pins σ H s)(h:jl X.K H a xs):∃b:List dB,ei xs b/\IsTup s.heap a b.toArray/\xs.length<=dL:=by
 rcases h with h|⟨o,b,n,d,hc,c,f,r⟩
 ·obtain⟨z,b,r,p⟩:=h.ok I.hok;exact⟨b,r,p,z⟩
 ·refine⟨b.toList,r,⟨o,I.kIn a o d,hc,n,by simpa using c⟩,?_⟩;have e:=r.length;simp only[aJ]at e;lia
theorem Inv.list_inj(I:Inv X pins σ H s)(h:lV X.K H a xs)(h':lV X.K H a ys):xs=ys:=by
 obtain⟨b,r,⟨o,n,e,_,_,d⟩,_⟩:=I.list h;obtain⟨its',g,⟨o',j,f,_,_,c⟩,_⟩:=I.list h';rw[e]at f;cases f;rw[d]at c;injection c with i _;have:b=its':=by simpa using congrArg Array.toList i
 subst this;exact r.inj g
theorem Inv.tuple_inj(I:Inv X pins σ H s)(h:jl X.K H a xs)(h':jl X.K H a ys):xs=ys:=by
 obtain⟨b,r,⟨o,e,_,n,d⟩,_⟩:=I.tuple h;obtain⟨its',g,⟨o',f,_,j,c⟩,_⟩:=I.tuple h';rw[e]at f;cases f;rw[d]at c;injection c with i _;have:b=its':=by simpa using congrArg Array.toList i
 subst this;exact r.inj g
end
abbrev Cx.wish(X:Cx)(E:dB->dD->Prop):Cx:={X with xe:=E}
abbrev Cx.nox(X:Cx):Cx:=X.wish fun _ _=>False
theorem Cx.Ok.wish{X:Cx}(ok:X.Ok)(E:dB->dD->Prop):(X.wish E).Ok:=
 ⟨ok.mod,ok.kind,ok.glob,ok.blt,ok.above,ok.inj,ok.has,ok.cab,ok.hd,ok.frames,ok.stk,ok.exf,ok.bs,ok.bsz,ok.noex,ok.exfs,ok.funs,ok.frf⟩
theorem Cx.Ok.unwish{X:Cx}{E:dB->dD->Prop}(ok:(X.wish E).Ok):X.Ok:=
 ⟨ok.mod,ok.kind,ok.glob,ok.blt,ok.above,ok.inj,ok.has,ok.cab,ok.hd,ok.frames,ok.stk,ok.exf,ok.bs,ok.bsz,ok.noex,ok.exfs,ok.funs,ok.frf⟩
section
variable{X:Cx}{pins:List (dE×Obj)}{σ:St}{H:Hp}{s:dD}{E:dB->dD->Prop}
theorem Inv.wish(I:Inv X pins σ H s)(E:dB->dD->Prop):Inv (X.wish E) pins σ H s:=⟨I.ok.wish E,I.os,I.bare,I.base,I.loc,I.cell,I.free,I.freeC,I.pin,I.hok,I.len⟩
theorem Inv.unwish(I:Inv (X.wish E) pins σ H s):Inv X pins σ H s:=⟨I.ok.unwish,I.os,I.bare,I.base,I.loc,I.cell,I.free,I.freeC,I.pin,I.hok,I.len⟩
theorem SP.unwish{D:jt}{f:Flow}{s':dD}(h:SP (X.wish E) pins D f s'):SP X pins D f s':=by
 cases f with
 |next=>obtain⟨a,H',I,q⟩:=h;exact⟨a,H',I.unwish,q⟩
 |brk=>obtain⟨a,H',I,q⟩:=h;exact⟨a,H',I.unwish,q⟩
 |cont=>obtain⟨a,H',I,q⟩:=h;exact⟨a,H',I.unwish,q⟩
 |ret u=>obtain⟨v,a,H',I,r,q⟩:=h;exact⟨v,a,H',I.unwish,r,q⟩
theorem tG.nox{st:List dQ}{t:TS}(h:tG X.nox st t):tG X st t:=fun pins s σ H D I a=>
 wpAny_mono (h pins s σ H D (I.wish _) a) (fun _ _ q=>q.unwish) fun _ _ z=>False.elim z
end
section
variable{X:Cx}{st:dQ}{rest:List dQ}{t u:TS}{e:Expr}{te:TE}{pos:Pos}
def F5:TS:=fun D σ H=>D.nx σ H
def Ia(t u:TS):TS:=fun D σ H=>t {D with nx:=u D} σ H
theorem Bk:tG X [] F5:=fun _ _ σ H _ I h=>wpAny_execs_nil ⟨σ,H,I,h⟩
theorem yN(h1:PS X st t)(h2:tG X rest u):tG X (st::rest) (Ia t u):=by
 intro pins s σ H D I h;refine wpAny_execs_cons (fg (h1 pins s σ H {D with nx:=u D} I h) fun f c q=>?_);cases f with
 |next=>
  obtain⟨a,H',b,q⟩:=q;exact h2 pins c a H' D b q
 |ret v=>exact q
 |brk=>exact q
 |cont=>exact q
theorem Bj(h1:PS X st t):tG X [st] t:=by
 intro pins s σ H D I h;refine wpAny_execs_cons (fg (h1 pins s σ H D I h) fun f a q=>?_);cases f with
 |next=>exact wpAny_execs_nil q
 |ret v=>exact q
 |brk=>exact q
 |cont=>exact q
theorem Inv.quiet{pins:List (dE×Obj)}{σ:St}{H:Hp}{s:dD}(I:Inv X pins σ H s):interactive X.env=false:=by simp[interactive,I.ok.kind]
def F8(te:TE):TS:=fun D σ H=>te σ H fun _ H1=>D.nx σ H1
theorem Bl(he:PE X e te)(hs:swapsWith e none pos.line X.env=pure false:=by rfl):PS X (.Expr e pos) (F8 te):=by
 intro pins s σ H D I h;exact wpAny_Expr_any (fg (he pins s σ H _ I h) fun v c ⟨x,H1,a,d,b⟩=>⟨σ,H1,a,b⟩) I.quiet hs
def Ib(te:TE):TS:=fun D σ H=>te σ H D.rt
theorem DY(he:PE X e te):PS X (.Return (some e) pos) (Ib te):=by
 intro pins s σ H D I h;exact wpAny_Return_some (fg (he pins s σ H _ I h) fun v d ⟨x,H1,b,a,c⟩=>⟨x,σ,H1,b,a,c⟩)
def Il(c:TT)(t u:TS):TS:=fun D σ H=>c σ H fun b H1=>if b=true then t D σ H1 else u D σ H1
theorem Gm{c:Expr}{a b:List dQ}{tc:TT}(hc:PT X c tc)(ha:tG X a t)(hb:tG X b u):PS X (.If c a b pos) (Il tc t u):=by
 intro pins s σ H D I h;refine wpAny_If (fg (hc pins s σ H _ I h) fun d e ⟨H1,f,g⟩=>?_);cases d with
 |true=>exact ha pins e σ H1 D f g
 |false=>exact hb pins e σ H1 D f g
end
abbrev TG:=V->St->Hp->(St->Hp->Prop)->Prop
abbrev De:=List V->St->Hp->(St->Hp->Prop)->Prop
def PG(X:Cx)(target:Expr)(t:TG):Prop:=
 ∀(pins:List (dE×Obj)) (s:dD) (σ:St) (H:Hp) (v:V) (u:dB) (Q:St->Hp->Prop),Inv X pins σ H s->d6 v u->t v σ H Q ->
  dM (model X.prog X.w) X.A (assign target X.env u) (fun _ s'=>∃ σ' H',Inv X pins σ' H' s'/\Q σ' H') X.xe s
def FC(X:Cx)(ts:List Expr)(t:De):Prop:=
 ∀(pins:List (dE×Obj)) (s:dD) (σ:St) (H:Hp) (vs:List V) (us:List dB) (Q:St->Hp->Prop),Inv X pins σ H s->ei vs us->t vs σ H Q ->
  dM (model X.prog X.w) X.A (assignInOrder ((assignEach ts X.env).map (·.2)) us) (fun _ s'=>∃ σ' H',Inv X pins σ' H' s'/\Q σ' H') X.xe s
abbrev Fz:=V->V->V->Hp->(Hp->Prop)->Prop
def uO(X:Cx)(t:Fz):Prop:=
 ∀(pins:List (dE×Obj)) (s:dD) (σ:St) (H:Hp) (o i v:V) (ov iv u:dB) (Q:Hp->Prop),Inv X pins σ H s->d6 o ov->d6 i iv->d6 v u->t o i v H Q ->
  dM (model X.prog X.w) X.A (setItem ov iv u) (fun _ s'=>∃H',Inv X pins σ H' s'/\Q H') X.xe s
abbrev I7:=V->V->Hp->VK->Prop
def HZ(X:Cx)(op:Operator)(t:I7):Prop:=
 ∀(pins:List (dE×Obj)) (s:dD) (σ:St) (H:Hp) (x y:V) (v u:dB) (Q:VK),Inv X pins σ H s->d6 x v->d6 y u->t x y H Q ->
  dM (model X.prog X.w) X.A (inplaceOp op v u) (EP X pins σ Q) X.xe s
section
variable{X:Cx}{pos:Pos}
def vO(i:Nat):TG:=fun v σ H Q=>Q (σ.set i (some v)) H
theorem vh{i:Nat}{x:Str}(hN:X.N.Nodup)(hi:X.N[i]?=some x)(hx:uP X.env.scope x)(hf:X.fn x=true\/X.env.scope.names.lookup x=some .local:=by first|exact .inl rfl|exact .inr rfl|assumption):PG X (.Name x pos) (vO i):=by
 intro pins s σ H v u Q I r h;exact wpAny_assign_Name (iK I hN hi hx r (fun s' a=>⟨_,H,a,h⟩) hf)
def IP:De:=fun vs σ H Q=>vs=[]/\Q σ H
def G7(t:TG)(u:De):De:=fun vs σ H Q=>∃v r,vs=v::r/\t v σ H fun σ' H'=>u r σ' H' Q
theorem Bv:FC X [] IP:=by
 intro pins s σ H vs a Q I r h;obtain⟨e,h⟩:=h;subst e;cases r;exact assignInOrder_nil ⟨σ,H,I,h⟩
theorem yW{e:Expr}{es:List Expr}{t:TG}{u:De}(h1:PG X e t)(h2:FC X es u)(hs:(assignEach (e::es) X.env).map (·.2)=assign e X.env::(assignEach es X.env).map (·.2):=by rfl):FC X (e::es) (G7 t u):=by
 intro pins s σ H vs j Q I r h;obtain⟨v,i,g,h⟩:=h;subst g;cases r with
 |cons r f=>
  rw[hs];refine assignInOrder_cons (fg (h1 pins s σ H _ _ _ I r h) fun _ b ⟨a,H1,c,d⟩=>?_);exact h2 pins b a H1 _ _ Q c f d
def gTup(K:Fg1)(n:Nat)(t:De):TG:=fun v σ H Q=>∃a xs,v = .ref a/\jl K H a xs/\xs.length=n/\t xs σ H Q
theorem D7{es:List Expr}{k:Nat}{t:De}{n:Nat}(hc:X.calm=true)(h:FC X es t)(hn:(assignEach es X.env).length=n:=by rfl)(hst:(assignEach es X.env).findIdx? (·.1)=none:=by rfl):PG X (.Tuple es k pos) (gTup X.K n t):=by
 intro pins s σ H v u Q I r c;obtain⟨a,xs,p,j,g,c⟩:=c;subst p;cases r;obtain⟨f,d,m,q⟩:=I.tuple j;refine assign_Tuple_tuple (I.ok.hd hc) m (by simp[hn,<- g,d.length]) hst fun h' i=>?_;have l:Inv X pins σ H {s with heap:=h'}:=I.kept (t':=s.toks) fun b o e=>i b o (nN1 (hL1 e)) e;exact h pins _ σ H xs _ Q l (by simpa using d) c
def gSub(to ti:TE)(t:Fz):TG:=fun v σ H Q=>to σ H fun o H1=>ti σ H1 fun i H2=>t o i v H2 fun H3=>Q σ H3
theorem D8{o i:Expr}{to ti:TE}{t:Fz}(ho:PE X o to)(hi:PE X i ti)(hs:uO X t)(ha:∀v,assign (.Subscript o i pos) X.env v=(do
   let a<-holding [v] (eval o X.env)
   let b<-holding [v,a] (eval i X.env)
   standAt pos
   holding [v,a,b] (setItem a b v)
   release [v,a,b] []):=by intro _;rfl):PG X (.Subscript o i pos) (gSub to ti t):=by
 intro pins s σ H v u Q I r h;rw[ha];refine wB1 (wpAny_holding (fg (ho pins s σ H _ I h) fun a d ⟨x,H1,g,n,l⟩=>?_));refine wB1 (wpAny_holding (fg (hi pins d σ H1 _ g l) fun b k ⟨y,H2,m,r2,c⟩=>?_));refine wB1 (wpAny_standAt (wB1 (wpAny_holding (fg (hs pins k σ H2 x y v a b u _ m n r2 r c) fun _ p ⟨f,j,e⟩=>?_))));exact wpAny_release ⟨σ,f,j,e⟩
def yo(te:TE)(g:TG):TS:=fun D σ H=>te σ H fun x H1=>g x σ H1 D.nx
theorem D2{tg e:Expr}{te:TE}{g:TG}(he:PE X e te)(hg:PG X tg g)(hs:swapsWithSole [tg] e pos.line X.env=pure false:=by rfl)(hw:swappedStores [tg] e X.env=pure none:=by rfl)(h1:(assignEach [tg] X.env).map (·.2)=[assign tg X.env]:=by rfl):PS X (.Assign [tg] e pos) (yo te g):=by
 intro pins s σ H D I h;refine wpAny_Assign_stores (fg (he pins s σ H _ I h) fun v a ⟨x,H1,b,d,c⟩=>?_) hs hw;rw[h1];exact fg (hg pins a σ H1 x v _ b d c) fun _ f q=>q
theorem DX{i:Nat}{x:Str}{e:Expr}{te:TE}{pos':Pos}(hN:X.N.Nodup)(hi:X.N[i]? = some x)(hx:uP X.env.scope x)(he:PE X e te)(hs:swapsWith e (some (.Name x pos')) pos.line X.env=pure false:=by rfl)(hf:X.fn x=true\/X.env.scope.names.lookup x=some .local:=by first | exact .inl rfl | exact .inr rfl | assumption):
  PS X (.Assign [.Name x pos'] e pos) (yo te (vO i)):=by
 intro pins s σ H D I h;refine wpAny_Assign_Name (fg (he pins s σ H _ I h) fun v f ⟨y,H1,a,d,b⟩=>?_) hs;exact iK a hN hi hx d (fun g c=>⟨_,H1,c,b⟩) hf
def Ic(i j:Nat)(ta:TA):TS:=fun D σ H=>ta σ H fun vs H1=>∃v w,vs=[v,w]/\D.nx ((σ.set i (some v)).set j (some w)) H1
theorem DZ{i j:Nat}{x y:Str}{a b:Expr}{ta:TA}{f m pt:Pos}{kt k2 pt2}(hc:X.calm=true)(hN:X.N.Nodup)(hi:X.N[i]? = some x)(B:X.N[j]? = some y)(l:i≠j)(hx:X.env.scope.names.lookup x=some .local)(hy:X.env.scope.names.lookup y=some .local)(ha:PA X [a,b] ta)(hw:swappedStores [.Tuple [.Name x f,.Name y m] kt pt] (.Tuple [a,b] k2 pt2) X.env=pure (some [x,y]))(hs:swapsWithSole [.Tuple [.Name x f,.Name y m] kt pt] (.Tuple [a,b] k2 pt2) pos.line X.env=pure false:=by rfl):
  PS X (.Assign [.Tuple [.Name x f,.Name y m] kt pt] (.Tuple [a,b] k2 pt2) pos) (Ic i j ta):=by
 intro pins s σ H D I h;rw[exec_Assign_arm];refine wB1 (wpAny_standAt ?_);rw[hs];refine wB1 (wP1 ?_);rw[if_neg (by decide)];refine wB1 (Tuple_ (fg (ha _ pins s σ H _ I h) fun F d ⟨vs,H1,t,A,k⟩=>?_));obtain⟨v,w,E,k⟩:=k;subst E;obtain⟨c,u2,rfl,G,g⟩:∃c u2,F=[c,u2]/\d6 v c/\d6 w u2:=by
  cases A with
  |cons p q=>
   cases q with
   |cons u J=>
    cases J;exact⟨_,_,rfl,p,u⟩
 refine wO1 ?_ (by show 2<=dL;decide);have z:Inv X pins σ H1 {d with heap:=d.heap.push {cls:=.type "tuple",data:=.seq [c,u2].toArray}}:=t.kept (t':=d.toks) fun b o e=>hP1 _ e;rw[hw];refine wB1 (wP1 ?_);show dM (model X.prog X.w) X.A (do rule "assign.swapped-stores";let items<-unpackItems (.ref d.heap.objs.size) 2 none;assignInOrder [fun v=>bindName X.env y v,fun v=>bindName X.env x v] items.reverse;pure Flow.next) _ _ _;refine wB1 (wpAny_rule (wB1 (unpackItems_tuple (items:= #[c,u2]) (I.ok.hd hc) (IsTup.new d.heap _) fun h' n=>?_)));have C:=z.kept (h':=h') (t':=d.toks) fun b o e=>n b o (nN1 (hL1 e)) e;show dM _ _ (assignInOrder [fun v=>bindName X.env y v,fun v=>bindName X.env x v] [u2,c] >>= fun _=>pure Flow.next) _ _ _;refine wB1 (assignInOrder_cons (wpAny_bindName (iK C hN B (.inl hy) g (fun L K=>?_) (.inr hy))));refine assignInOrder_cons (wpAny_bindName (iK K hN hi (.inl hx) G (fun M r=>assignInOrder_nil (wP1 ?_)) (.inr hx)));rw[List.set_comm _ _ (Ne.symm l)]at r;exact⟨_,H1,r,k⟩
def Io(i:Nat)(te:TE)(ti:I7):TS:=fun D σ H=>∃x,σ[i]?=some (some x)/\te σ H fun y H1=>ti x y H1 fun z H2=>D.nx (σ.set i (some z)) H2
theorem D1{i:Nat}{x:Str}{e:Expr}{te:TE}{op:Operator}{ti:I7}{pos':Pos}(hN:X.N.Nodup)(hi:X.N[i]? = some x)(hx:uP X.env.scope x)(he:PE X e te)(ho:HZ X op ti)(hf:X.fn x=true\/X.env.scope.names.lookup x=some .local:=by first | exact .inl rfl | exact .inr rfl | assumption):
  PS X (.AugAssign (.Name x pos') op e pos) (Io i te ti):=by
 intro pins s σ H D I h;obtain⟨v,F,h⟩:=h;obtain⟨m,C,t⟩:=I.loc;have g:Vis X.env.scope x:=by rcases hx with k|k;exact .inl k;exact .inr (.inl k)
 obtain⟨u,r,l⟩:=t i x v hi F g;refine wpAny_AugAssign_Name ?_;have j:dM (model X.prog X.w) X.A (eval e X.env) (fun w f=>dM (model X.prog X.w) X.A (inplaceOp op u w) (fun r d=>dM (model X.prog X.w) X.A (storeName X.env x r) (fun _=>SP X pins D .next) X.xe d) X.xe f) X.xe s:=by
  refine fg (he pins s σ H _ I h) fun w A ⟨y,H1,o,q,E⟩=>?_;refine fg (ho pins A σ H1 v y u w _ o r q E) fun z K ⟨J,H2,p,r2,G⟩=>?_;exact iK p hN hi hx r2 (fun L B=>⟨_,H2,B,G⟩) hf
 rcases l with⟨a,n⟩|⟨a,c,hc,b⟩
 ·exact wpAny_loadName_local I.ok.kind a C n j
 ·rcases a with a|a
  ·exact wpAny_loadName_cell I.ok.kind a hc b j
  ·rcases hx with k|k
   ·have:X.env.scope.names.lookup x=some .free:=a;rw[k]at this;cases this
   ·have:X.env.scope.names.lookup x=some .free:=a;rw[k]at this;cases this
def ym(c:TT)(tb:TS):TS:=fun D σ H=>∃W:Nat->St->Hp->Prop,(∃m,W m σ H) /\ ∀m σ H,W m σ H ->
 c σ H fun b H1=>if b=true then∃N:St->Hp->Prop,(∀ σ' H',N σ' H' -> ∃m',m'<m/\W m' σ' H')/\tb {D with nx:=N,ct:=N,bk:=D.nx} σ H1 else D.nx σ H1
theorem yO{c:Expr}{e:List dQ}{tc:TT}{tb:TS}(hp:PassesOwn (model X.prog X.w) X.A X.env X.xe)(hc:PT X c tc)(hb:tG X e tb):PS X (.While c e [] pos) (ym tc tb):=by
 intro pins s σ H D I h;obtain⟨W,⟨w,A⟩,j⟩:=h;refine wpAny_While (codeAny_whileLoop (fun n s'=>∃i H',Inv X pins i H' s'/\W n i H') ?_ w ⟨σ,H,I,A⟩);rintro n y ⟨d,H1,x,B⟩;refine wpAny_passesOwn hp (fg (hc pins y d H1 _ x (j n d H1 B)) fun b z ⟨H2,u,k⟩=>?_);cases b with
 |true=>
  obtain⟨N,t,k⟩:=k;rw[if_pos rfl];refine wpAny_passesOwn hp (fg (hb pins z d H2 _ u k) fun f C l=>?_);cases f with
  |next=>
   obtain⟨a,g,p,q⟩:=l;obtain⟨r,m,o⟩:=t a g q;exact⟨r,m,a,g,p,o⟩
  |cont=>
   obtain⟨a,g,p,q⟩:=l;obtain⟨r,m,o⟩:=t a g q;exact⟨r,m,a,g,p,o⟩
  |brk=>exact l
  |ret v=>exact l
 |false=>
  rw[if_neg aK];exact wpAny_execs_nil ⟨d,H2,u,k⟩
end
structure It where
 go:Nat->Hp->Prop
 yld:Nat->Hp->V->Hp->Prop
 stop:Nat->Hp->Prop
def jr(X:Cx)(pins:List (dE×Obj))(H:Hp)(b:dE):Prop:=
 H b=none/\b≠X.env.locals/\b∉X.fs/\(b∈X.ex\/X.s₀.heap.objs.size<=b)/\(∀x c,X.env.cells.lookup x=some c->c≠b) /\ ∀p∈X.pn++pins,p.1≠b
theorem Inv.fpOk{X:Cx}{pins:List (dE×Obj)}{σ:St}{H H':Hp}{s:dD}{b:dE}(I:Inv X pins σ H s)(hb:s.heap.objs.size<=b)(hn:H' b=none):jr X pins H' b:=by
 refine⟨hn,nG1 (nL1 I.lt hb),I.nofs hb,.inr (aC I.sz hb),fun x c e z=>?_,fun p a z=>?_⟩
 ·obtain⟨v,q⟩:=I.cell x c e;exact absurd (nL1 q.lt (by rw[z];exact hb)) (az _)
 ·exact absurd (nL1 (hL1 (I.pin p a).1) (by rw[z];exact hb)) (az _)
structure tq (P:dF)(w:dH)(K:Fg1)(tg:Expr)(J:It)(fp:List dE)(it:dE)(tn:Nat->dN->Prop):Prop where
 mem:it∈fp
 obj:∀i h,tn i h -> ∀b∈fp,∃o,h.get? b=some o /\ ∀v,o.data ≠ .cell v
 keep:∀i h h',tn i h->(∀b∈fp,∀o,h.get? b=some o->h'.get? b=some o)->tn i h'
 item:∀(X:Cx),X.prog=P->X.w=w->X.K=K->X.calm=true -> ∀(i:Nat) (pins:List (dE×Obj)) (s:dD) (σ:St) (H:Hp) (E:dB->dD->Prop),Inv X pins σ H s->(∀b∈fp,jr X pins H b)->tn i s.heap->J.go i H ->
  dM (model P w) X.A (pyNext (.ref it)) (fun r s1=>∃u,r=some u /\
   dM (model P w) X.A (letOwnedTupleGo tg (.ref it) u) (fun _ s2=>∃x H',Inv X pins σ H' s2/\d6 x u/\J.yld i H x H'/\tn (i+1) s2.heap /\ ∀b∈fp,H' b=none) E s1) E s
 done:∀(X:Cx),X.prog=P->X.w=w->X.K=K->X.calm=true -> ∀(i:Nat) (pins:List (dE×Obj)) (s:dD) (σ:St) (H:Hp) (E:dB->dD->Prop),Inv X pins σ H s->(∀b∈fp,jr X pins H b)->tn i s.heap->J.stop i H ->
  dM (model P w) X.A (pyNext (.ref it)) (fun r s1=>r=none/\Inv X pins σ H s1) E s
 self:∀(A:dG) (i:Nat) (s:dD) (Q:dB->dD->Prop) (E:dB->dD->Prop),tn i s.heap->Q (.ref it) s->dM (model P w) A (pyIter (.ref it)) Q E s
abbrev TI:=St->Hp->(It->Hp->Prop)->Prop
def Jw(X:Cx)(pins:List (dE×Obj))(σ:St)(tg:Expr)(R:It->Hp->Prop)(itv:dB)(s2:dD):Prop:=
 ∃(it:dE) (fp:List dE) (tn:Nat->dN->Prop) (J:It) (H':Hp),itv = .ref it/\Inv X pins σ H' s2/\tq X.prog X.w X.K tg J fp it tn/\tn 0 s2.heap/\(∀b∈fp,jr X pins H' b)/\R J H'
def PI(X:Cx)(tg iter:Expr)(wi:TI):Prop:=
 ∀(pins:List (dE×Obj)) (s:dD) (σ:St) (H:Hp) (R:It->Hp->Prop),Inv X pins σ H s->wi σ H R ->
  dM (model X.prog X.w) X.A (eval iter X.env) (fun v s1=>dM (model X.prog X.w) X.A (pyIter v) (Jw X pins σ tg R) X.xe s1) X.xe s
theorem vM {M:Model}{A:dG}{E:dB->dD->Prop}{s:dD}{tg:Expr}{it:dE}{u:dB}{o:Obj}{n:String}{vs:Array dB}{Q:Unit->dD->Prop}(ho:s.heap.get? it=some o)(hc:o.cls = .type n)(hd:o.data = .fields vs)
   (hn:["enumerate","zip","dict_itemiterator","dict_reverseitemiterator","odict_iterator","itertools.zip_longest","itertools.pairwise"].contains n=false) (a:Q () s):dM M A (letOwnedTupleGo tg (.ref it) u) Q E s:=by
 unfold letOwnedTupleGo;cases tg <;> first
   |exact wP1 a
   | (cases u<;>first
       |exact wP1 a
       | (refine wB1 (wpAny_load ho ?_)
          rw[hc,hd];show dM M A (if(["enumerate","zip","dict_itemiterator","dict_reverseitemiterator","odict_iterator","itertools.zip_longest","itertools.pairwise"].contains n&&vs[0]? == some (rawInt _))=true then _ else _) Q E s;rw[if_neg (by intro h;rw[hn,Bool.false_and]at h;cases h)];exact wP1 a))
def JA(K:Fg1)(a:dE):It:=
 ⟨fun i H=>∃xs x,lV K H a xs/\xs[i]?=some x,fun i H x H'=>H'=H /\ ∀xs,lV K H a xs->xs[i]?=some x,fun i H=>∃xs,lV K H a xs/\xs.length<=i⟩
def Jz(K:Fg1)(a:dE):It:=
 ⟨fun i H=>∃xs x,jl K H a xs/\xs[i]?=some x,fun i H x H'=>H'=H /\ ∀xs,jl K H a xs->xs[i]?=some x,fun i H=>∃xs,jl K H a xs/\xs.length<=i⟩
def HC(lo:Int)(n:Nat):It:=⟨fun i _=>i<n,fun i H x H'=>H'=H/\x = .int (lo+i),fun i _=>n<=i⟩
theorem wx{P:dF}{w:dH}{K:Fg1}{tg:Expr}(a it:dE):tq P w K tg (JA K a) [it] it (fun i h=>h.IsListIter it a i) where
 mem:=by simp
 obj:=fun i h st b f=>by
  have e:b=it:=by simpa using f
  subst e;obtain⟨o,e,c,d⟩:=st;exact⟨o,e,fun v z=>by rw[d]at z;cases z⟩
 keep:=fun i h h' st k=>st.at fun o e=>k it (by simp) o e
 item:=by
  intro X q F C hc i pins s σ H E I j st r;subst q F C;obtain⟨xs,x,g,m⟩:=r;obtain⟨A,B,p,N⟩:=I.list g;obtain⟨u,M,Q⟩:=B.get m;obtain⟨n,l,R,y,t,D⟩:=j it (by simp);refine wpAny_pyNext_list_item st p.isList (x:=u) (by simpa using M) fun h' st' G=>?_;have L:Inv X pins σ H {s with heap:=h'}:=I.turned (t':=s.toks) (fun b o f e=>(G.2 b f).trans e) n l y t D;obtain⟨o,e,c,d⟩:=id st';exact⟨u,rfl,vM (s:={s with heap:=h'}) e c d (by decide) ⟨x,H,L,Q,⟨rfl,fun ys J=>by rw[I.list_inj J g];exact m⟩,st',fun b f=>(j b f).1⟩⟩
 done:=by
  intro X q F C hc i pins s σ H E I j st r;subst q F C;obtain⟨xs,g,m⟩:=r;obtain⟨A,B,p,N⟩:=I.list g;obtain⟨n,l,R,y,t,D⟩:=j it (by simp);have S:=B.length;exact wpAny_pyNext_list_end (I.ok.hd hc) st p.isList (by simp;lia) fun h' O=>⟨rfl,I.turned (t':=s.toks) (fun b o f e=>O b o f e) n l y t D⟩
 self:=fun _ _ _ _ _ st h=>wpAny_pyIter_listiter st h
theorem tT{P:dF}{w:dH}{K:Fg1}{tg:Expr}(a it:dE):tq P w K tg (Jz K a) [it] it (fun i h=>h.IsTupleIter it a i) where
 mem:=by simp
 obj:=fun i h st b g=>by
  have e:b=it:=by simpa using g
  subst e;obtain⟨o,e,c,d⟩:=st;exact⟨o,e,fun v z=>by rw[d]at z;cases z⟩
 keep:=fun i h h' st k=>st.at fun o e=>k it (by simp) o e
 item:=by
  intro X r F C hc i pins s σ H E I l st t;subst r F C;obtain⟨xs,x,j,n⟩:=t;obtain⟨f,B,p,N⟩:=I.tuple j;obtain⟨u,M,Q⟩:=B.get n;obtain⟨q,m,R,A,y,D⟩:=l it (by simp);refine wpAny_pyNext_tuple_item st (show s.heap.IsTuple a f.toArray from p) (x:=u) (by simpa using M) fun h' st' G=>?_;have L:Inv X pins σ H {s with heap:=h'}:=I.turned (t':=s.toks) (fun b o g e=>(G.2 b g).trans e) q m A y D;obtain⟨o,e,c,d⟩:=id st';exact⟨u,rfl,vM (s:={s with heap:=h'}) e c d (by decide) ⟨x,H,L,Q,⟨rfl,fun ys J=>by rw[I.tuple_inj J j];exact n⟩,st',fun b g=>(l b g).1⟩⟩
 done:=by
  intro X r F C hc i pins s σ H E I l st t;subst r F C;obtain⟨xs,j,n⟩:=t;obtain⟨f,B,p,N⟩:=I.tuple j;obtain⟨q,m,R,A,y,D⟩:=l it (by simp);have S:=B.length;exact wpAny_pyNext_tuple_end (I.ok.hd hc) st (show s.heap.IsTuple a f.toArray from p) (by simp;lia) fun h' O=>⟨rfl,I.turned (t':=s.toks) (fun b o g e=>O b o g e) q m A y D⟩
 self:=fun _ _ _ _ _ st h=>wpAny_pyIter_tupleiter st h
theorem tU{P:dF}{w:dH}{K:Fg1}{tg:Expr}(it:dE)(lo:Int)(n:Nat):tq P w K tg (HC lo n) [it] it (fun i h=>IsRangeIter h it (lo+(i:Nat)*1) ((n:Int)-(i:Nat)) 1) where
 mem:=by simp
 obj:=fun i h st b a=>by
  have e:b=it:=by simpa using a
  subst e;exact⟨_,st,fun v z=>by
   have x:Data.fields _=Data.cell v:=z;cases x⟩
 keep:=fun i h h' st k=>k it (by simp) _ st
 item:=by
  intro X g r j hc i pins s σ H E I c st m;subst g r j;obtain⟨l,f,B,d,p,q⟩:=c it (by simp);have W:=Walks.range (prog:=X.prog) (w:=X.w) (I.ok.hd hc) it lo 1 n;refine W.item i s _ _ m st fun v h' tk y st' C=>?_;obtain⟨t,rfl⟩:=y;have A:Inv X pins σ H {s with heap:=h',toks:=tk}:=I.turned (fun b o a e=>C b o (by simpa using a) e) l f d p q;refine⟨_,rfl,vM (s:={s with heap:=h',toks:=tk}) (n:="range_iterator") st' rfl rfl (by decide) ⟨.int (lo+i),H,A,⟨t,?_⟩,⟨rfl,rfl⟩,st',fun b a=>(c b a).1⟩⟩;rw[Int.mul_one]
 done:=by
  intro X g r j hc i pins s σ H E I c st m;subst g r j;obtain⟨l,f,B,d,p,q⟩:=c it (by simp);exact wpAny_pyNext_range_end (I.ok.hd hc) st (by have:n<=i:=m;lia) fun h' u=>⟨rfl,I.turned (t':=s.toks) (fun b o a e=>u b o a e) l f d p q⟩
 self:=fun _ _ _ _ _ st h=>wpAny_pyIter_rangeiter st h
end L2
namespace L2
open PySem PySem.Spec PyProof.Rows
section
variable{X:Cx}{tg:Expr}
def GY(K:Fg1)(tl:TE):TI:=fun σ H R=>tl σ H fun x H1=>∃a,x = .ref a/\(∃xs,lV K H1 a xs)/\R (JA K a) H1
def IN(K:Fg1)(tl:TE):TI:=fun σ H R=>tl σ H fun x H1=>∃a,x = .ref a/\(∃xs,jl K H1 a xs)/\R (Jz K a) H1
theorem Bt{l:Expr}{tl:TE}(g:PE X l tl):PI X tg l (GY X.K tl):=by
 intro pins s σ H R I h;refine fg (g pins s σ H _ I h) fun v c ⟨x,H1,d,m,j⟩=>?_;obtain⟨a,e,⟨xs,i⟩,q⟩:=j;subst e;cases m;obtain⟨f,n,p,r⟩:=d.list i;refine wpAny_pyIter_list p.isList ?_;refine⟨c.heap.objs.size,[c.heap.objs.size],_,_,H1,rfl,d.kept (t':=c.toks) fun b o e=>hP1 _ e,wx a _,⟨_,hS1 _ rfl,rfl,rfl⟩,fun b k=>?_,q⟩;have e:b=c.heap.objs.size:=by simpa using k
 subst e;exact d.fpOk (nR1 _) (d.hok.fresh (nR1 _))
theorem D5{l:Expr}{tl:TE}(g:PE X l tl):PI X tg l (IN X.K tl):=by
 intro pins s σ H R I h;refine fg (g pins s σ H _ I h) fun v c ⟨x,H1,d,m,j⟩=>?_;obtain⟨a,e,⟨xs,i⟩,q⟩:=j;subst e;cases m;obtain⟨f,n,p,r⟩:=d.tuple i;refine wpAny_pyIter_tuple (show c.heap.IsTuple a f.toArray from p) ?_;refine⟨c.heap.objs.size,[c.heap.objs.size],_,_,H1,rfl,d.kept (t':=c.toks) fun b o e=>hP1 _ e,tT a _,⟨_,hS1 _ rfl,rfl,rfl⟩,fun b k=>?_,q⟩;have e:b=c.heap.objs.size:=by simpa using k
 subst e;exact d.fpOk (nR1 _) (d.hok.fresh (nR1 _))
theorem rF{pins:List (dE×Obj)}{σ:St}{H:Hp}{s:dD}{R:It->Hp->Prop}{E:dB->dD->Prop}{lo hi:Int}{t u v:Tok}{tk:Nat}(I:Inv X pins σ H s)(h1: -(2^62)<=lo)(h2:lo<2^62)(f: -(2^62)<=hi)(d:hi<2^62)(q:R (HC lo (hi-lo).toNat) H):dM (model X.prog X.w) X.A (pyIter (.ref s.heap.objs.size)) (Jw X pins σ tg R) E {s with heap:=s.heap.push {cls:=.type "range",data:=.fields #[.int lo t,.int hi u,.int 1 v]},toks:=tk}:=by
 refine wpAny_pyIter_range (IsRange.new ..) (small_one h1 h2 f d) ?_;have a:Inv X pins σ H {s with heap:=s.heap.push {cls:=.type "range",data:=.fields #[.int lo t,.int hi u,.int 1 v]},toks:=tk}:=I.kept fun b o e=>hP1 _ e;refine⟨(s.heap.push {cls:=.type "range",data:=.fields #[.int lo t,.int hi u,.int 1 v]}).objs.size,[(s.heap.push {cls:=.type "range",data:=.fields #[.int lo t,.int hi u,.int 1 v]}).objs.size],_,_,H,rfl,
  a.kept (t':=tk) fun b o e=>hP1 _ e,tU _ lo (hi-lo).toNat,?_,fun b g=>?_,q⟩
 ·have h:lo+((0:Nat):Int)*1=lo:=by simp
  have c:(((hi-lo).toNat:Nat):Int)-((0:Nat):Int)=Builtin.Range.rangeSize lo hi 1:=by rw[rangeSize_one];split<;>lia
  show IsRangeIter _ _ (lo+((0:Nat):Int)*1) ((((hi-lo).toNat:Nat):Int)-((0:Nat):Int)) 1;rw[h,c];exact hS1 _ rfl
 ·have e:b=(s.heap.push {cls:=.type "range",data:=.fields #[.int lo t,.int hi u,.int 1 v]}).objs.size:=by simpa using g
  subst e;exact a.fpOk (nR1 _) (a.hok.fresh (nR1 _))
def GW(ta:TA):TI:=fun σ H R=>ta σ H fun vs H1=>∃j:Int,vs=[.int j] /\ -(2^62)<=j/\j<2^62/\R (HC 0 j.toNat) H1
def GV(ta:TA):TI:=fun σ H R=>ta σ H fun vs H1=>∃i j:Int,vs=[.int i,.int j]/\(-(2^62)<=i/\i<2^62 /\ -(2^62)<=j/\j<2^62)/\R (HC i (j-i).toNat) H1
theorem wJ {a:Expr}{ta:TA}{p pos:Pos}(hg:Gl X "range")(hm:X.mg "range"=none)(ha:PA X [a] ta)(hs:dJ [a] X.env=[(false,eval a X.env)]:=by rfl):PI X tg (.Call (.Name "range" p) [a] [] pos) (GW ta):=by
 intro pins s σ H R I h;refine Call_ (jD I hg hm boot_range (PyProof.Rows.callWith_type1 (fg (ha pos pins s σ H _ I h) fun i k ⟨vs,H1,d,g,b⟩=>?_) hs rfl));obtain⟨j,e,b,c,q⟩:=b;subst e;cases g with
 |cons r f=>
  cases f;obtain⟨t,rfl⟩:=r;exact call_range_1 (rF d (by lia) (by lia) b c (by simpa using q))
theorem wI {a b:Expr}{ta:TA}{p pos:Pos}(hg:Gl X "range")(hm:X.mg "range"=none)(ha:PA X [a,b] ta)(hs:dJ [a,b] X.env=[(false,eval a X.env),(false,eval b X.env)]:=by rfl)(hs2:dJ [b] X.env=[(false,eval b X.env)]:=by rfl):
  PI X tg (.Call (.Name "range" p) [a,b] [] pos) (GV ta):=by
 intro pins s σ H R I h;refine Call_ (jD I hg hm boot_range (PyProof.Rows.callWith_type1 (fg (ha pos pins s σ H _ I h) fun u v ⟨vs,H1,l,n,c⟩=>?_) (by rw[hs,hs2]) (by rw[hs2];rfl)));obtain⟨i,j,e,⟨c,f,k,m⟩,q⟩:=c;subst e;cases n with
 |cons r d=>
  cases d with
  |cons g d=>
   cases d;obtain⟨t,rfl⟩:=r;obtain⟨o,rfl⟩:=g;exact call_range_2 (rF l c f k m q)
def F7(wi:TI)(g:TG)(tb:TS):TS:=fun D σ H=>wi σ H fun J H1=>∃W:Nat->Nat->St->Hp->Prop,(∃m,W 0 m σ H1) /\ ∀i m σ H,W i m σ H ->
 (J.stop i H/\D.nx σ H)\/(J.go i H /\ ∃N:St->Hp->Prop,(∀ σ' H',N σ' H' -> ∃m',m'<m/\W (i+1) m' σ' H') /\ ∀x H',J.yld i H x H'->g x σ H' fun σ2 H2=>tb {D with nx:=N,ct:=N,bk:=D.nx} σ2 H2)
def mO(fp:List dE)(h:dN):List (dE×Obj):=fp.filterMap fun b=>(h.get? b).map fun o=>(b,o)
theorem iz{a:List dE}{h:dN}{b:dE}{o:Obj}(hb:b∈a)(e:h.get? b=some o):(b,o)∈mO a h:=aL.mpr ⟨b,hb,by rw[e];rfl⟩
theorem wL{a:List dE}{h:dN}{p:dE×Obj}(hp:p∈mO a h):p.1∈a/\h.get? p.1=some p.2:=by
 obtain⟨b,c,e⟩:=aL.mp hp;cases q:h.get? b with
 |none=>rw[q]at e;cases e
 |some o=>
  rw[q]at e;have d:(b,o)=p:=Option.some.inj e;subst d;exact⟨c,q⟩
theorem Inv.pinned{pins:List (dE×Obj)}{σ:St}{H:Hp}{s:dD}{a:List dE}(I:Inv X pins σ H s)(hf:∀b∈a,jr X pins H b)(ho:∀b∈a,∃o,s.heap.get? b=some o /\ ∀v,o.data ≠ .cell v):Inv X (pins++mO a s.heap) σ H s:=
 I.pins_of fun p g=>(aG.mp g).elim (fun z=>I.pin p (mA1 _ z)) fun z=>by
  obtain⟨f,e⟩:=wL z;obtain⟨i,h,j,_⟩:=hf p.1 f;obtain⟨o,c,d⟩:=ho p.1 f;rw[e]at c;cases c;exact⟨e,i,h,j,d⟩
theorem Inv.unpinned{pins pl:List (dE×Obj)}{σ:St}{H:Hp}{s:dD}(I:Inv X (pins++pl) σ H s):Inv X pins σ H s:=I.pins_of fun p a=>I.pin p (mA1 _ (aH _ a))
theorem D0{iter:Expr}{t:List dQ}{Y:TI}{g:TG}{tb:TS}{pos:Pos}(hp:PassesOwn (model X.prog X.w) X.A X.env X.xe)(hc:X.calm=true)(hi:PI X tg iter Y)(hg:PG X tg g)(hb:tG X t tb)(hs:∀x,foldedSetIterable iter X.env x=pure x:=by intro _;rfl):PS X (.For tg iter t [] pos) (F7 Y g tb):=by
 intro pins s σ H D I h;refine wpAny_For (fg (hi pins s σ H _ I h) fun v s1 h1=>fg h1 fun itv s2 h2=>?_) hs;obtain⟨it,A,S,J,H2,e,I2,T,L,Z,W,⟨m0,w0⟩,E⟩:=h2;subst e
 -- what stays true of the iterator's objects through the loop
 have p:∀{H':Hp},(∀b∈A,H' b=none) -> ∀b∈A,jr X pins H' b:=fun hn b hb=>⟨hn b hb,(Z b hb).2⟩;refine codeAny_forLoop_any (fun n s'=>∃i l H',Inv X pins l H' s'/\S i s'.heap/\(∀b∈A,H' b=none)/\W i n l H') ?_ m0 ⟨0,σ,H2,I2,L,fun b hb=>(Z b hb).1,w0⟩;rintro n V ⟨i,k,F,R,B,y,w3⟩;rcases E i n k F w3 with⟨z,qn⟩|⟨go,N,hN,step⟩
 ·refine wpAny_passesOwn hp (fg (T.done X rfl rfl rfl hc i pins V k F X.xe R (p y) B z) fun r s4 ⟨O,I4⟩=>?_);subst O;exact wpAny_execs_nil ⟨k,F,I4,qn⟩
 ·refine wpAny_passesOwn hp (fg (T.item X rfl rfl rfl hc i pins V k F X.xe R (p y) B go) fun r s4 ⟨u,O,h4⟩=>?_);subst O;refine wpAny_passesOwn hp (fg h4 fun _ U ⟨x,Q,I5,r5,y5,w,M⟩=>?_);have G:=I5.pinned (p M) (T.obj _ _ w);refine wpAny_passesOwn hp (fg (hg _ U k Q x u _ G r5 (step x Q y5)) fun _ s6 ⟨P,H6,I6,q6⟩=>?_);refine wpAny_passesOwn hp (fg (hb _ s6 P H6 _ I6 q6) fun f K q=>?_);have again:∀ {a:St} {c:Hp},Inv X (pins++mO A U.heap) a c K->N a c -> ∃ m,m<n /\ ∃ i l H',Inv X pins l H' K/\S i K.heap/\(∀ b∈A,H' b=none)/\W i m l H':=fun {a c} j C=>by
   obtain⟨m',hm,w7⟩:=hN a c C;refine⟨m',hm,i+1,a,c,j.unpinned,T.keep _ _ _ w fun b hb o e=>(j.pin (b,o) (mA1 _ (mA1 _ (iz hb e)))).1,fun b hb=>?_,w7⟩;obtain⟨o,e,d⟩:=T.obj _ _ w b hb;exact(j.pin (b,o) (mA1 _ (mA1 _ (iz hb e)))).2.1
  cases f with
  |next=>obtain⟨a,c,j,C⟩:=q;exact again j C
  |cont=>obtain⟨a,c,j,C⟩:=q;exact again j C
  |brk=>obtain⟨a,c,j,q⟩:=q;exact⟨a,c,j.unpinned,q⟩
  |ret v=>obtain⟨x7,a,c,j,r7,q⟩:=q;exact⟨x7,a,c,j.unpinned,r7,q⟩
end
end L2
namespace L2
open PySem PySem.Spec PyProof.Rows
abbrev R2:=V->V->Hp->VK->Prop
def gp(X:Cx)(f:dB->dB->Sem dB)(r:R2):Prop:=
 ∀(pins:List (dE×Obj)) (s:dD) (σ:St) (H:Hp) (x y:V) (v u:dB) (Q:VK),Inv X pins σ H s->d6 x v->d6 y u->r x y H Q ->
  dM (model X.prog X.w) X.A (f v u) (EP X pins σ Q) X.xe s
def FM(X:Cx)(f:dB->Sem dB)(r:V->Hp->VK->Prop):Prop:=
 ∀(pins:List (dE×Obj)) (s:dD) (σ:St) (H:Hp) (x:V) (v:dB) (Q:VK),Inv X pins σ H s->d6 x v->r x H Q ->
  dM (model X.prog X.w) X.A (f v) (EP X pins σ Q) X.xe s
def fj(X:Cx)(f:dB)(r:List V->Hp->VK->Prop):Prop:=
 ∀(pins:List (dE×Obj)) (s:dD) (σ:St) (H:Hp) (xs:List V) (us:List dB) (Q:VK),Inv X pins σ H s->ei xs us->r xs H Q ->
  dM (model X.prog X.w) X.A (call f us) (EP X pins σ Q) X.xe s
def I1(X:Cx)(r:V->Hp->(Bool->Hp->Prop)->Prop):Prop:=
 ∀(pins:List (dE×Obj)) (s:dD) (σ:St) (H:Hp) (x:V) (v:dB) (Q:Bool->Hp->Prop),Inv X pins σ H s->d6 x v->r x H Q ->
  dM (model X.prog X.w) X.A (truthy v) (TP X pins σ Q) X.xe s
def F4(r:R2)(ta tb:TE):TE:=fun σ H Q=>ta σ H fun x H1=>tb σ H1 fun y H2=>r x y H2 Q
def Jd(r:V->Hp->VK->Prop)(ta:TE):TE:=fun σ H Q=>ta σ H fun x H1=>r x H1 Q
def rI(C:Int->Int->Prop)(g:Int->Int->V):R2:=fun x y H Q=>∃i j,x = .int i/\y = .int j/\C i j/\Q (g i j) H
def CZ(g:Int->Int->V):R2:=fun x y H Q=>∃i j,x = .int i/\y = .int j/\Q (g i j) H
def rU(g:Int->V):V->Hp->VK->Prop:=fun x H Q=>∃i,x = .int i/\Q (g i) H
section
variable{X:Cx}{a b c:Expr}{ta tb tc:TE}{pos:Pos}
theorem Fo(ha:PE X a ta)(hb:PE X b tb){pins:List (dE×Obj)}{s:dD}{σ:St}{H:Hp}{R:V->V->Hp->Prop}(I:Inv X pins σ H s)(h:ta σ H fun x H1=>tb σ H1 fun y H2=>R x y H2){Q:dB->dD->Prop}{f:dB->dB->Sem dB}(hf:∀v u e x y H2,Inv X pins σ H2 e->d6 x v->d6 y u->R x y H2->dM (model X.prog X.w) X.A (f v u) Q X.xe e):
  dM (model X.prog X.w) X.A (eval a X.env) (fun v c=>dM (model X.prog X.w) X.A (eval b X.env) (fun u d=>dM (model X.prog X.w) X.A (f v u) Q X.xe d) X.xe c) X.xe s:=by
 refine fg (ha pins s σ H _ I h) fun v j ⟨x,H1,k,m,l⟩=>?_;refine fg (hb pins j σ H1 _ k l) fun u e ⟨y,H2,g,r2,i⟩=>?_;exact hf v u e x y H2 g m r2 i
theorem Gp{op:Operator}{r:R2}(ho:gp X (binaryOp op) r)(ha:PE X a ta)(hb:PE X b tb):PE X (.BinOp a op b pos) (F4 r ta tb):=by
 intro pins s σ H Q I h;exact wpAny_BinOp (Fo ha hb I h fun v u f x y H2 e c d q=>ho pins f σ H2 x y v u Q e c d q)
theorem Go{op:UnaryOp}{r:V->Hp->VK->Prop}(ho:FM X (unaryOp op) r)(ha:PE X a ta):PE X (.UnaryOp op a pos) (Jd r ta):=by
 intro pins s σ H Q I h;exact UnaryOp_ (fg (ha pins s σ H _ I h) fun v b ⟨x,H1,d,c,e⟩=>ho pins b σ H1 x v Q d c e)
theorem HK{f:dB->dB->Sem dB}{C:Int->Int->Prop}{g:Int->Int->Int}(a:∀(i j:Int) (t u:Tok) (s:dD) (Q:dB->dD->Prop) (E:dB->dD->Prop),C i j->Q (.int (g i j) s.toks) {s with toks:=s.toks+1}->dM (model X.prog X.w) X.A (f (.int i t) (.int j u)) Q E s):
  gp X f (rI C fun i j=>.int (g i j)):=by
 intro pins s σ H x y v u Q I d c h;obtain⟨i,j,rfl,rfl,hc,q⟩:=h;obtain⟨t,rfl⟩:=d;obtain⟨b,rfl⟩:=c;exact a i j t b s _ _ hc ⟨.int (g i j),H,I.tok _,⟨_,rfl⟩,q⟩
theorem Em{f:dB->dB->Sem dB}{g:Int->Int->Int}(a:∀(i j:Int) (t u:Tok) (s:dD) (Q:dB->dD->Prop) (E:dB->dD->Prop),Q (.int (g i j) s.toks) {s with toks:=s.toks+1}->dM (model X.prog X.w) X.A (f (.int i t) (.int j u)) Q E s):
  gp X f (CZ fun i j=>.int (g i j)):=by
 intro pins s σ H x y v u Q I d c h;obtain⟨i,j,rfl,rfl,q⟩:=h;obtain⟨t,rfl⟩:=d;obtain⟨b,rfl⟩:=c;exact a i j t b s _ _ ⟨.int (g i j),H,I.tok _,⟨_,rfl⟩,q⟩
theorem Gx{f:dB->dB->Sem dB}{g:Int->Int->Bool}(a:∀(i j:Int) (t u:Tok) (s:dD) (Q:dB->dD->Prop) (E:dB->dD->Prop),Q (.bool (g i j)) s->dM (model X.prog X.w) X.A (f (.int i t) (.int j u)) Q E s):
  gp X f (CZ fun i j=>.bl (g i j)):=by
 intro pins s σ H x y v u Q I d c h;obtain⟨i,j,rfl,rfl,q⟩:=h;obtain⟨t,rfl⟩:=d;obtain⟨b,rfl⟩:=c;exact a i j t b s _ _ ⟨.bl (g i j),H,I,rfl,q⟩
def HF(i j:Int):Prop:=0<j/\j<1073741824
def HE(i j:Int):Prop:=0<=j/\j<=1000000/\i.natAbs<2^64
theorem El:gp X (binaryOp .Add) (CZ fun i j=>.int (i+j)):=Em fun _ _ _ _ _ _ _ q=>add_int q
theorem Eg:gp X (binaryOp .Sub) (CZ fun i j=>.int (i-j)):=Em fun _ _ _ _ _ _ _ q=>sub_int q
theorem BB:gp X (binaryOp .FloorDiv) (rI HF fun i j=>.int (i/j)):=HK fun i j _ _ _ _ _ hc q=>by
 have h1:(0:Int)<j:=hc.1;have h2:j<1073741824:=hc.2;exact floordiv_int (by lia) (by rw[Int.fdiv_eq_ediv_of_nonneg i (by lia)];exact q) (.inl (PyProof.noPylong_small (by lia)))
theorem Ei:gp X (binaryOp .Mod) (rI (fun _ j=>0<j) fun i j=>.int (i%j)):=HK fun i j _ _ _ _ _ hc q=>by
 have h1:(0:Int)<j:=hc;exact mod_int' (by lia) (by rw[Int.fmod_eq_emod_of_nonneg i (by lia)];exact q)
theorem Eh:gp X (binaryOp .Pow) (rI HE fun i j=>.int (i^j.toNat)):=HK fun _ _ _ _ _ _ _ hc q=>pow_int_small hc.1 hc.2.1 hc.2.2 q
theorem Ca:gp X (inplaceOp .Add) (CZ fun i j=>.int (i+j)):=Em fun _ _ _ _ _ _ _ q=>iadd_int q
theorem JD{f:dB->Sem dB}{g:Int->Int}(a:∀(i:Int) (t:Tok) (s:dD) (Q:dB->dD->Prop) (E:dB->dD->Prop),Q (.int (g i) s.toks) {s with toks:=s.toks+1}->dM (model X.prog X.w) X.A (f (.int i t)) Q E s):
  FM X f (rU fun i=>.int (g i)):=by
 intro pins s σ H x v Q I b h;obtain⟨i,rfl,q⟩:=h;obtain⟨t,rfl⟩:=b;exact a i t s _ _ ⟨.int (g i),H,I.tok _,⟨_,rfl⟩,q⟩
theorem Do:FM X (unaryOp .USub) (rU fun i=>.int (-i)):=JD fun _ _ _ _ _ q=>neg_int q
theorem Ae{pins:List (dE×Obj)}{σ:St}{H:Hp}{s:dD}{Q:VK}{k k':Bool}(I:Inv X pins σ H s)(q:Q (.bl k) H)(e:k=k'):EP X pins σ Q (.bool k') s:=by
 subst e;exact⟨.bl k,H,I,rfl,q⟩
theorem Gv:gp X (compareOp .Gt) (CZ fun i j=>.bl (decide (j<i))):=Gx fun _ _ _ _ _ _ _ q=>gt_int q
theorem Gw:gp X (compareOp .GtE) (CZ fun i j=>.bl (decide (j<=i))):=Gx fun _ _ _ _ _ _ _ q=>ge_int q
theorem Ej:gp X (compareOp .Is) (fun x y H Q=>y = .non/\Q (.bl (decide (x = .non))) H):=by
 intro pins s σ H x y v u Q I a b h;obtain⟨rfl,q⟩:=h;cases b;refine is_none_gen (Ae I q ?_);cases x<;>first
  |(cases a;rfl)
  |(obtain⟨t,rfl⟩:=a;rfl)
theorem BA:gp X (compareOp .IsNot) (fun x y H Q=>y = .non/\Q (.bl (!decide (x = .non))) H):=by
 intro pins s σ H x y v u Q I a b h;obtain⟨rfl,q⟩:=h;cases b;refine isnot_none_gen (Ae I q ?_);cases x<;>first
  |(cases a;rfl)
  |(obtain⟨t,rfl⟩:=a;rfl)
theorem zl(b:Expr){op:CmpOp}(h:op ≠ .In:=by decide)(h2:op ≠ .NotIn:=by decide):behindInMarks op b=false:=by
 have c:(op == CmpOp.In)=false:=by cases op<;>first|rfl|exact absurd rfl h
 have a:(op == CmpOp.NotIn)=false:=by cases op<;>first|rfl|exact absurd rfl h2
 cases b<;>simp[behindInMarks,c,a]
theorem By{op:CmpOp}{r:R2}(ho:gp X (compareOp op) r)(ha:PE X a ta)(hb:PE X b tb)(hm:behindInMarks op b=false):PE X (.Compare a [op] [b] pos) (F4 r ta tb):=by
 intro pins s σ H Q I h;exact wpAny_Compare1 (Fo ha hb I h fun v u f x y H2 e c d q=>ho pins f σ H2 x y v u Q e c d q) hm
def F0(t:TE):TT:=fun σ H Q=>t σ H fun x H'=>∃k,x = .bl k/\Q k H'
theorem Bi{op:CmpOp}{r:R2}(ho:gp X (compareOp op) r)(ha:PE X a ta)(hb:PE X b tb)(hm:behindInMarks op b=false):PT X (.Compare a [op] [b] pos) (F0 (F4 r ta tb)):=by
 intro pins s σ H Q I h;refine wpAny_isTrue_Compare1 (fg (ha pins s σ H _ I h) fun v g ⟨x,H1,l,p,o⟩=>fg (hb pins g σ H1 _ l o) fun u n ⟨y,H2,d,r2,f⟩=>
  fg (ho pins n σ H2 x y v u _ d p r2 f) fun c t ⟨z,j,m,q,k,e,i⟩=>?_) hm
 subst e;cases q;exact wpAny_truthy_bool ⟨j,m,i⟩
def CL(K:Fg1)(x:V)(H:Hp)(k:Bool):Prop:=
 match x with
 | .non=>k=false
 | .bl b=>k=b
 | .int i=>k=(i != 0)
 | .str y=>y.length<=dL/\k=((y.length:Int) != 0)
 | .byt y=>y.size<=dL/\k=((y.size:Int) != 0)
 | .ref p=>(∃xs,lV K H p xs/\k = !xs.isEmpty)\/(∃xs,jl K H p xs/\k = !xs.isEmpty) \/ ∃kvs,H p=some (.dK kvs)/\k = !kvs.isEmpty
 |_=>False
theorem uu{κ:Type}{kvs:List (κ×V)}{vs:List (κ×dB)}(r:KV kvs vs):(!vs.isEmpty) = !kvs.isEmpty:=by
 cases r<;>rfl
theorem m6{xs:List V}{its:List dB}(r:ei xs its):(!its.toArray.isEmpty) = !xs.isEmpty:=by
 cases r<;>simp
theorem k8:(dL:Nat)<2^63:=by rw[sizeLine_eq];decide
theorem Dt:I1 X (fun x H Q=>∃k,CL X.K x H k/\Q k H):=by
 intro pins s σ H x v Q I d h;obtain⟨k,e,q⟩:=h;have o:=k8;have u:dL=16777216:=sizeLine_eq;cases x with
 |non=>
  cases d;have a:k=false:=e;subst a;exact truthy_none ⟨H,I,q⟩
 |bl b=>
  cases d;have a:k=b:=e;subst a;exact wpAny_truthy_bool ⟨H,I,q⟩
 |int i=>
  obtain⟨t,rfl⟩:=d;have a:k=(i != 0):=e;subst a;exact PySem.P.truthy_int ⟨H,I,q⟩
 |str y=>
  obtain⟨t,rfl⟩:=d;obtain⟨l,a⟩:y.length<=dL/\k=((y.length:Int) != 0):=e;subst a;exact PySem.P.truthy_str (by lia) ⟨H,I.tok _,q⟩
 |byt y=>
  obtain⟨t,rfl⟩:=d;obtain⟨l,a⟩:y.size<=dL/\k=((y.size:Int) != 0):=e;subst a;exact PySem.W.truthy_bytes (by lia) ⟨H,I.tok _,q⟩
 |ref p=>
  cases d;have a:(∃xs,lV X.K H p xs/\k = !xs.isEmpty)\/(∃xs,jl X.K H p xs/\k = !xs.isEmpty) \/ ∃kvs,H p=some (.dK kvs)/\k = !kvs.isEmpty:=e;rcases a with⟨xs,f,a⟩|⟨xs,f,a⟩|⟨kvs,f,a⟩
  ·subst a;obtain⟨g,r,pl,j⟩:=I.list f;have c:=r.length;exact wpAny_truthy_list pl.isList (by simp only[sT1];lia) ⟨H,I.tok _,by rw[m6 r];exact q⟩
  ·subst a;obtain⟨g,r,pl,j⟩:=I.tuple f;have c:=r.length;exact truthy_tuple pl (by simp only[sT1];lia) ⟨H,I.tok _,by rw[m6 r];exact q⟩
  ·subst a;obtain⟨j,n,vs,r,m⟩:kvs.length<=dL/\(p == sysModules)=false /\ ∃vs,KV kvs vs/\s.heap.DictOf (eW X.prog X.w) p vs:=I.hok p _ f;have c:kvs.length=vs.length:=Paired.length r;exact wpAny_truthy_dict n m (by lia) ⟨H,I.tok _,by rw[uu r];exact q⟩
 |_=>exact(show False from e).elim
theorem yM(ha:PE X a ta)(he:∀ b,isTrue a X.env b=(do let v<-b;standAt a.pos;holding [v] (truthy v))):
  PT X a (fun σ H Q=>ta σ H fun x H'=>∃k,CL X.K x H' k/\Q k H'):=by
 intro pins s σ H Q I h;exact isTrue_plain (fg (ha pins s σ H _ I h) fun v c ⟨x,H1,d,f,e⟩=>Dt pins c σ H1 x v Q d f e) (he _)
theorem ug:gp X (binaryOp .Add) (fun x y H Q=>∃i j,x = .str i/\y = .str j/\i.length+j.length<=dL/\Q (.str (i++j)) H):=by
 intro pins s σ H x y v u Q I c b h;obtain⟨i,j,rfl,rfl,d,q⟩:=h;obtain⟨t,rfl⟩:=c;obtain⟨a,rfl⟩:=b;exact add_str (fun a tk=>⟨.str (i++j),H,I.tok _,⟨_,rfl⟩,q⟩) d
theorem iJ{x:V}{a:List dB}(r:ei [x] a):∃u,a=[u]/\d6 x u:=by
 cases r with
 |cons b r2=>cases r2;exact⟨_,rfl,b⟩
theorem CP{x y:V}{a:List dB}(r:ei [x,y] a):∃u w',a=[u,w']/\d6 x u/\d6 y w':=by
 cases r with
 |cons b r2=>
  cases r2 with
  |cons c d=>cases d;exact⟨_,_,rfl,b,c⟩
theorem xC(hc:X.calm=true):fj X (.builtin "max") (fun xs H Q=>∃i j,xs=[.int i,.int j]/\Q (.int (if j>i then j else i)) H):=by
 intro pins s σ H xs c Q I r h;obtain⟨i,j,rfl,q⟩:=h;obtain⟨u,d,rfl,⟨t,rfl⟩,⟨b,rfl⟩⟩:=CP r;refine max_two_ints (I.ok.hd hc) fun h' tk k=>⟨_,H,I.kept k,?_,q⟩;by_cases a:j>i
 ·rw[if_pos a,if_pos a];exact⟨_,rfl⟩
 ·rw[if_neg a,if_neg a];exact⟨_,rfl⟩
theorem xB(hc:X.calm=true):fj X (.builtin "min") (fun xs H Q=>∃i j,xs=[.int i,.int j]/\Q (.int (if j<i then j else i)) H):=by
 intro pins s σ H xs c Q I r h;obtain⟨i,j,rfl,q⟩:=h;obtain⟨u,d,rfl,⟨t,rfl⟩,⟨b,rfl⟩⟩:=CP r;refine min_two_ints (I.ok.hd hc) fun h' tk k=>⟨_,H,I.kept k,?_,q⟩;by_cases a:j<i
 ·rw[if_pos a,if_pos a];exact⟨_,rfl⟩
 ·rw[if_neg a,if_neg a];exact⟨_,rfl⟩
theorem pf:fj X (.type "int") (fun xs H Q=>(∃i,xs=[.int i]/\Q (.int i) H) \/ ∃k,xs=[.bl k]/\Q (.int (if k then 1 else 0)) H):=by
 intro pins s σ H xs b Q I r h;rcases h with⟨i,rfl,q⟩|⟨k,rfl,q⟩
 ·obtain⟨u,rfl,t,rfl⟩:=iJ r;exact call_int_int ⟨.int i,H,I,⟨_,rfl⟩,q⟩
 ·obtain⟨u,rfl,a⟩:=iJ r;cases a;exact call_int_bool ⟨.int (if k then 1 else 0),H,I.tok _,⟨_,rfl⟩,q⟩
end
end L2
namespace L2
open PySem PySem.Spec PyProof.Rows
section
variable{prog:dF}{w:dH}{A:dG}{E:dB->dD->Prop}{s:dD}{K:Fg1}{x dx C f:dE}{mA:Str->Option dB}{name:Str}{v:dB}
end
theorem l6.some_of{v:V}{o:Option dB}(r:l6 (some v) o):∃u,o=some u/\d6 v u:=by
 cases o with
 |none=>exact(show False from r).elim
 |some u=>exact⟨u,rfl,r⟩
section
variable{P:dF}{w:dH}{H H':Hp}{h h':dN}{a C dx:dE}{fs fs':List (Str×V)}
end
section
variable{X:Cx}{pins:List (dE×Obj)}{σ:St}{H:Hp}{s:dD}{a C dx:dE}{fs:List (Str×V)}{f:Str}{v:V}{A:dG}{E:dB->dD->Prop}
end
section
variable{X:Cx}{o e value:Expr}{f:Str}{pos pos' tpos:Pos}{ta tv:TE}
end
section
variable{X:Cx}{pins:List (dE×Obj)}{σ:St}{H:Hp}{s:dD}{A:dG}{E:dB->dD->Prop}{Q:dB->dD->Prop}{c:dB}{b:Bool}
end
end L2
namespace L2
open PySem PySem.Spec PyProof.Rows
structure fN (k:Nat)(A:dG):Prop where
 hd:A.handled=none
 dp:A.depth+3*k+5<recursionLimit
 un:A.units+16*k+200<cLine
 gd:A.guards=some []
theorem fN.mono{j k:Nat}{A:dG}(r:fN k A)(h:j<=k):fN j A:=⟨r.hd,by have:=r.dp;lia,by have:=r.un;lia,r.gd⟩
theorem fN.deeper{k:Nat}{A:dG}(r:fN (k+1) A)(env:Env):fN k (A.deeper env):=
 ⟨r.hd,by have:=r.dp;show A.depth+1+3*k+5<_;lia,by have:=r.un;show A.units+3+16*k+200<_;lia,r.gd⟩
theorem fN.depth{k:Nat}{A:dG}(r:fN k A):A.depth<recursionLimit:=by have:=r.dp;lia
theorem fN.units{k:Nat}{A:dG}(r:fN k A):A.units+64<cLine:=by have:=r.un;lia
def Ig:TA:=fun _ H Q=>Q [] H
def Ga(ta:TE)(tr:TA):TA:=fun σ H Q=>ta σ H fun x H1=>tr σ H1 fun xs H2=>Q (x::xs) H2
section
variable{X:Cx}{e:Expr}{es:List Expr}{te:TE}{t:TA}{pos:Pos}
theorem mS:PA X [] Ig:=fun _ _ _ _ H Q I h=>Calls.spliced_nil ⟨[],H,I,.nil,h⟩
theorem j6(ha:PE X e te)(hr:PA X es t)(hs:dJ (e::es) X.env=(false,eval e X.env)::dJ es X.env:=by rfl):PA X (e::es) (Ga te t):=by
 intro pos pins s σ H Q I h;rw[hs];show dM _ _ (spliced ((false,eval e X.env)::backTo pos (dJ es X.env))) _ _ s;refine Calls.spliced_cons (fg (ha pins s σ H _ I h) fun u b ⟨x,H1,c,g,d⟩=>?_);exact fg (hr pos pins b σ H1 _ c d) fun i j ⟨xs,H2,f,r2,a⟩=>⟨x::xs,H2,f,.cons g r2,a⟩
def H9(t:TA):TE:=fun σ H Q=>t σ H fun xs H1=>xs.length<=dL /\ ∀p,H1 p=none->Q (.ref p) (upd H1 p (.tup xs))
def Ik(t:TA):TE:=fun σ H Q=>t σ H fun xs H1=>xs.length<=dL /\ ∀p,H1 p=none->Q (.ref p) (upd H1 p (.lst xs))
theorem D9{x1}(h:PA X es t):PE X (.Tuple es x1 pos) (H9 t):=by
 intro pins s σ H Q I g;refine wpAny_Tuple_spliced (fg (h pos pins s σ H _ I g) fun f a ⟨xs,H1,c,r,z,q⟩=>⟨by rw[<- r.length];exact z,?_⟩);have d:H1 a.heap.objs.size=none:=c.hok.fresh (nR1 _);refine⟨.ref a.heap.objs.size,upd H1 a.heap.objs.size (.tup xs),c.laid (t':=a.toks) (fun b u e=>hP1 _ e) (nR1 _) ?_,rfl,q _ d⟩;exact⟨z,f,r,⟨_,hS1 _ rfl,rfl,_,rfl⟩⟩
theorem Ec(h:PA X es t):PE X (.List es pos) (Ik t):=by
 intro pins s σ H Q I g;refine wpAny_List_spliced (fg (h pos pins s σ H _ I g) fun f a ⟨xs,H1,c,r,z,q⟩=>⟨by rw[<- r.length];exact z,?_⟩);have d:H1 a.heap.objs.size=none:=c.hok.fresh (nR1 _);refine⟨.ref a.heap.objs.size,upd H1 a.heap.objs.size (.lst xs),c.laid (t':=a.toks) (fun b u e=>hP1 _ e) (nR1 _) ?_,rfl,q _ d⟩;exact⟨z,f,0,r,hS1 _ rfl⟩
end
abbrev Sp:=List V->Hp->VK->XK->Prop
abbrev xJ:=List Env->Hp->dD->XK->dB->dD->Prop
structure CN (P:dF)(w:dH)(K:Fg1)(mg:Str->Option dB)(base:dN)(A:dG)(outer:List Env)(s:dD)(H:Hp):Prop where
 frames:A.frames=some outer
 mod:Mod K mg base
 bs:∀b o,base.get? b=some o->s.heap.get? b=some o/\H b=none
 bsz:base.objs.size<=s.heap.objs.size
 funs:s.heap.FunFrames base outer
 frf:∀b∈frs outer,H b=none
 hok:kQ P w H s.heap
 bare:AllBare s.gens
def CE(outer:List Env)(P:dF)(w:dH)(H:Hp)(s:dD)(Q:VK)(u:dB)(s':dD):Prop:=
 ∃v H',s'.os=s.os/\AllBare s'.gens/\Un (frs outer) [] H H' s.heap s'.heap/\kQ P w H' s'.heap/\d6 v u/\Q v H'
def CR(CX:xJ)(outer:List Env)(P:dF)(w:dH)(H:Hp)(s:dD)(Q:VK)(E:XK)(r:Result)(s':dD):Prop:=
 match r with
 | .ok (.ret u)=>CE outer P w H s Q u s'
 | .ok _=>False
 | .error e=>CX outer H s E e s'
structure js (P:dF)(w:dH)(K:Fg1)(mg:Str->Option dB)(base:dN)(CX:xJ)(k:Nat)(f:dE)(fd:dP)(ps:List Str)(sp:Sp):Prop where
 len:∀vs H Q E,sp vs H Q E->vs.length=ps.length
 run:∀(A:dG) (outer:List Env) (s:dD) (H:Hp) (args:Args) (us:List dB) (vs:List V) (Q:VK) (E:XK),fN k A->CN P w K mg base A outer s H->BindsTo s fd args (ps.zip us)->ei vs us->sp vs H Q E ->
  codeAny (model P w) A (.call (.ref f) args) (CR CX outer P w H s Q E) s
theorem js.imp{P:dF}{w:dH}{K:Fg1}{mg:Str->Option dB}{base:dN}{CX:xJ}{k:Nat}{f:dE}{fd:dP}{ps:List Str}{sp sp':Sp}(F:js P w K mg base CX k f fd ps sp)(h:∀vs H Q E,sp' vs H Q E->sp vs H Q E):js P w K mg base CX k f fd ps sp':=
 ⟨fun vs H Q E q=>F.len vs H Q E (h _ _ _ _ q),fun A a s H b d vs Q E e c j i g=>F.run A a s H b d vs Q E e c j i (h _ _ _ _ g)⟩
section
variable{X:Cx}{pins:List (dE×Obj)}{σ:St}{H:Hp}{s s':dD}
theorem Inv.env0(I:Inv X pins σ H s):CN X.prog X.w X.K X.mg X.base X.A X.stack s H:=
 ⟨I.ok.frames,I.ok.mod,I.bs,aC I.ok.bsz I.sz,I.stack,I.stkFree,I.hok,I.bare⟩
theorem Inv.after{Q:VK}{u:dB}(I:Inv X pins σ H s)(h:CE X.stack X.prog X.w H s Q u s'):EP X pins σ Q u s':=by
 obtain⟨v,H',f,a,un,e,r,q⟩:=h;obtain⟨i,g,d,t,c⟩:=s';obtain rfl:c=s.os:=f;exact⟨v,H',I.call (h':=i) (g':=g) (d':=d) (t':=t) (ch:=[]) un e a (fun b z=>absurd z (by simp)),r,q⟩
end
def Gb(sp:Sp)(dvs:List V)(E:XK)(t:TA):TE:=fun σ H Q=>t σ H fun vs H1=>sp (vs++dvs) H1 Q E
def kS(K:Fg1)(fd:dP)(ps:List Str)(ds:List dB):Prop:=
 ∀(s:dD) (us:List dB),K.In s.heap->(us++ds).length=ps.length->BindsTo s fd ⟨us,[]⟩ (ps.zip (us++ds))
theorem kS.all{K:Fg1}{fd:dP}{ps:List Str}(h:∀a:List dB,a.length=ps.length->bindArgs fd ⟨a,[]⟩=pure (ps.zip a)):kS K fd ps []:=fun s a _ b=>by
 rw[aM]at b ⊢;exact .of_eq (h a b)
def uN(CX:xJ)(X:Cx)(E:XK):Prop:=∀(pins:List (dE×Obj)) (σ:St) (H:Hp) (s:dD) (e:dB) (s':dD),Inv X pins σ H s->CX X.stack H s E e s'->X.xe e s'
section
variable{X:Cx}{CX:xJ}{k:Nat}{f C:dE}{fd:dP}{ps:List Str}{sp:Sp}{dvs:List V}{ds:List dB}{E:XK}{x m:Str}{p pos apos:Pos}{e o:Expr}{es:List Expr}{ta:TE}{t:TA}
theorem DM{pins:List (dE×Obj)}{σ:St}{H:Hp}{s:dD}{Q:VK}{a:List dB}{vs:List V}(F:js X.prog X.w X.K X.mg X.base CX k f fd ps sp)(hr:fN k X.A)(hb:kS X.K fd ps ds)(hd:ei dvs ds)(hx:uN CX X E)(I:Inv X pins σ H s)(r:ei vs a)(h:sp (vs++dvs) H Q E):dM (model X.prog X.w) X.A (call (.ref f) a) (EP X pins σ Q) X.xe s:=by
 have r2:ei (vs++dvs) (a++ds):=r.append hd;have c:(a++ds).length=ps.length:=by rw[<- r2.length];exact F.len _ _ _ _ h
 refine wpAny_call (codeAny_mono (F.run X.A X.stack s H ⟨a,[]⟩ (a++ds) (vs++dvs) Q E hr I.env0 (hb s a I.kIn c) r2 h) fun r s' b=>?_);cases r with
 |error e=>exact hx pins σ H s e s' I b
 |ok d=>
  cases d with
  |ret u=>exact I.after b
  |next=>exact False.elim b
  |brk=>exact False.elim b
  |cont=>exact False.elim b
theorem Bz (F:js X.prog X.w X.K X.mg X.base CX k f fd ps sp)(hr:fN k X.A)(hg:Gl X x)(hm:X.mg x=some (.ref f))(hk:wK1 X.K (.ref f)=true)(hb:kS X.K fd ps ds)(hd:ei dvs ds)(hx:uN CX X E)
  (ha:PA X (e::es) t) (hdb:(x == ("__debug__":Str))=false:=by decide) (he:dJ (e::es) X.env=(false,eval e X.env)::dJ es X.env:=by rfl) (hpl:(backTo pos (dJ es X.env)).any (·.1)=false:=by rfl):
  PE X (.Call (.Name x p) (e::es) [] pos) (Gb sp dvs E t):=by
 intro pins s σ H Q I h;refine wpAny_Call_Name_kw (vC I hg hm ?_ hdb);refine PySem.W.callWith_K (h₀:=X.base) I.ok.mod.kin hk (fg (ha pos pins s σ H _ I h) fun c b ⟨vs,H1,a,r,q⟩=>⟨a.kIn,?_⟩) he hpl;exact DM F hr hb hd hx a r q
end
section
variable{X:Cx}{CX:xJ}{k:Nat}{f C:dE}{fd:dP}{ps ks:List Str}{sp:Sp}{E:XK}{x m:Str}{p pos apos kpos:Pos}{e o:Expr}{es:List Expr}{kws:List Keyword}{te ta:TE}{t tk:TA}{nm:Option Str}
variable{g:List dB->List dB->List dB}{gV:List V->List V->List V}
end
structure gh (N P:List Str)(sc:dR):Prop where
 kind:sc.kind = .function
 co:sc.isCoroutine=false
 gen:sc.isGenerator=false
 nd:N.Nodup
 pre:N.take P.length=P
 par:∀x∈P,sc.names.lookup x=some .local\/sc.names.lookup x=some .cell
 nofree:∀y∈sc.names,y.2 ≠ .free
theorem pg{kindOf:Str->Option NameKind}{x:Str}:∀{binds:List (Str×dB)} {m:Str->Option dB},(∀v,(x,v)∉binds)->bindL kindOf binds m x=m x
 |[],_,_=>rfl
 |(n,v)::r,m,h=>by
  unfold bindL;rw[pg fun w a=>h w (mC1 _ a)];split
  ·have:x≠n:=by rintro rfl;exact h v mS1
   simp[this]
  ·rfl
theorem pk{kindOf:Str->Option NameKind}{x:Str}:∀{binds:List (Str×dB)} {m:Str->Option dB},(∀v,(x,v)∉binds)->bindC kindOf binds m x=m x
 |[],_,_=>rfl
 |(n,v)::r,m,h=>by
  unfold bindC;rw[pk fun w a=>h w (mC1 _ a)];split
  ·rfl
  ·have:x≠n:=by rintro rfl;exact h v mS1
   simp[this]
theorem ph{kindOf:Str->Option NameKind}{x:Str}{v:dB}:∀ {P:List Str} {vs:List dB} {i:Nat} {m:Str->Option dB},P.Nodup->P[i]? = some x->vs[i]? = some v->kindOf x=some .local ->
  bindL kindOf (P.zip vs) m x=some v
 |[],_,_,_,_,h,_,_=>by simp at h
 |_::_,[],_,_,_,_,h,_=>by simp at h
 |p::P,w::vs,0,m,nd,h1,h2,hk=>by
  simp at h1 h2;subst h1;subst h2;show bindL kindOf ((p,w)::P.zip vs) m p=_;unfold bindL;rw[pg fun v a=>(aN.mp nd).1 (List.of_mem_zip a).1,if_pos hk];simp
 |p::P,w::vs,i+1,m,nd,h1,h2,hk=>by
  show bindL kindOf ((p,w)::P.zip vs) m x=_;unfold bindL;exact ph (i:=i) (aN.mp nd).2 (by simpa using h1) (by simpa using h2) hk
theorem po{kindOf:Str->Option NameKind}{x:Str}{v:dB}:∀ {P:List Str} {vs:List dB} {i:Nat} {m:Str->Option dB},P.Nodup->P[i]? = some x->vs[i]? = some v->kindOf x≠some .local ->
  bindC kindOf (P.zip vs) m x=some v
 |[],_,_,_,_,h,_,_=>by simp at h
 |_::_,[],_,_,_,_,h,_=>by simp at h
 |p::P,w::vs,0,m,nd,h1,h2,hk=>by
  simp at h1 h2;subst h1;subst h2;show bindC kindOf ((p,w)::P.zip vs) m p=_;unfold bindC;rw[pk fun v a=>(aN.mp nd).1 (List.of_mem_zip a).1,if_neg hk];simp
 |p::P,w::vs,i+1,m,nd,h1,h2,hk=>by
  show bindC kindOf ((p,w)::P.zip vs) m x=_;unfold bindC;exact po (i:=i) (aN.mp nd).2 (by simpa using h1) (by simpa using h2) hk
def iL(N:List Str)(vs:List V):St:=vs.map some++aO (N.length-vs.length) none
def lZ(CX:xJ)(P:dF)(w:dH)(K:Fg1)(mg:Str->Option dB)(base:dN)(N:List Str)(qual:Str)(scope:dR)(f:dE)(cd:dB)(A:dG)(outer:List Env)(s:dD)(H:Hp)(E:XK):Cx where
 prog:=P
 w:=w
 K:=K
 mg:=mg
 base:=base
 A:=A.deeper (envOfC qual scope s.heap.objs.size f cd)
 N:=N
 s₀:=s
 H₀:=H
 env:=envOfC qual scope s.heap.objs.size f cd
 outer:=outer
 stack:=envOfC qual scope s.heap.objs.size f cd::outer
 ex:=[]
 calm:=true
 fn:=fun _=>true
 pn:=[]
 xe:=fun e s'=>dM (model P w) (A.deeper (envOfC qual scope s.heap.objs.size f cd)) (leaving (envOfC qual scope s.heap.objs.size f cd) e) (fun _ s''=>CX outer H s E e s'') (fun e' s''=>CX outer H s E e' s'') s'
theorem sX{a:dR}{n:Nat}{x:Str}(h:a.names.lookup x=some .cell):∃c,(cellsFrom n a.names []).lookup x=some c:=by
 have q:=PySem.W.cellsFrom_some a.names n [] (.inl h);exact aP.mp q
theorem wW{CX:xJ}{P:dF}{w:dH}{K:Fg1}{mg:Str->Option dB}{base:dN}{N ps:List Str}{g:Str}{scope:dR}{f:dE}{B:dB}{A:dG}{d:List Env}{s s1:dD}{H:Hp}{E:XK}{C:List dB}{vs:List V}(S:gh N ps scope)(hd:A.handled=none)(j:CN P w K mg base A d s H)(L:vs.length=ps.length)(r:ei vs C)(x:InCallC s s.heap.objs.size (bindL (envOfC g scope s.heap.objs.size f B).kindOf (ps.zip C) fun _=>none) (cellsFrom (s.heap.objs.size+1) scope.names []) (bindC (envOfC g scope s.heap.objs.size f B).kindOf (ps.zip C) fun _=>none) s1):
  Inv (lZ CX P w K mg base N g scope f B A d s H E) [] (iL N vs) H s1:=by
 have G:ps.length<=N.length:=by have:=congrArg List.length S.pre;rw[aQ]at this;lia
 obtain⟨h1,tk,rfl,F⟩:=x.done;have m:∀b:dE,b∉(lZ CX P w K mg base N g scope f B A d s H E).ex:=fun b z=>absurd (show b∈([]:List dE)from z) (by simp);refine⟨⟨j.mod,S.kind,rfl,rfl,nR1 _,fun y z c h1 h2=>?_,fun y l=>?_,fun y c _ h=>?_,fun _=>hd,Around.frames_deeper j.frames,.inr ⟨rfl,rfl⟩,fun b z=>absurd z (m b),j.bs,j.bsz,fun b _ _=>m b,fun b z=>absurd z (m b),j.funs,j.frf⟩,
  rfl,j.bare,Un.kept F,⟨_,x.toInCall.ns,fun i y v h1 h2 M=>?_⟩,fun y c h=>⟨_,x.cell y c h⟩,j.hok.fresh (nR1 _),fun y c h=>?_,fun p o=>absurd (show p∈([]:List (dE×Obj))from o) (by simp),j.hok.kept F,?_⟩
 ·exact name_of_addr x.apart (PySem.mem_of_lookup h1) (PySem.mem_of_lookup h2)
 ·have l:scope.names.lookup y=some .cell\/scope.names.lookup y=some .free:=l;rcases l with l|l
  ·exact sX l
  ·exact absurd rfl (S.nofree _ (PySem.mem_of_lookup l))
 ·exact aD (x.above y c (PySem.mem_of_lookup h))
 ·have hi:i<vs.length:=by
   unfold iL at h2;by_cases hi:i<vs.length
   ·exact hi
   ·rw[gR1 (by simpa using hi)]at h2;rw[aR]at h2;split at h2<;>cases h2
  have J:vs[i]?=some v:=by
   unfold iL at h2;rw[gL1 (by simpa using hi),gP1]at h2;cases e:vs[i]? with
   |none=>rw[e]at h2;cases h2
   |some a=>rw[e]at h2;cases h2;rfl
  obtain⟨u,D,I⟩:=r.get J;have o:ps[i]?=some y:=by
   rw[<- S.pre,aS (by lia)];exact h1
  have t:ps.Nodup:=by rw[<- S.pre];exact S.nd.sublist (aT _ _)
  refine⟨u,I,?_⟩;rcases S.par y (gM1 o)with k|k
  ·exact .inl ⟨k,ph t o D k⟩
  ·obtain⟨c,e⟩:=sX (n:=s.heap.objs.size+1) k;refine .inr ⟨.inl k,c,e,?_⟩;have q:=x.cell y c e;rw[po t o D (by show scope.names.lookup y≠_;rw[k];decide)]at q;exact q
 ·exact j.hok.fresh (aD (x.above y c (PySem.mem_of_lookup h)))
 ·unfold iL;show _=N.length;rw[lA1,lM1,lR1];lia
theorem G8{CX:xJ}{P:dF}{w:dH}{K:Fg1}{mg:Str->Option dB}{base:dN}{k:Nat}{f:dE}{name c:Str}{params:Arguments}{g:List dQ}{scope:dR}{T kV B L d ct Y:dB}{M od:Option dE}{D:Array (Option dB)}{N ps:List Str}{sp:Sp}(W:K.lookup f=some ⟨Y,od,.func (wF1 name c params g scope T kV B L M d ct),D⟩)(hcd:wC1 K d c=true)(S:gh N ps scope)(len:∀vs H Q E,sp vs H Q E->vs.length=ps.length)(i:∀(A:dG) (a:List Env) (s:dD) (H:Hp) (vs:List V) (Q:VK) (E:XK),fN k (A.deeper (envOfC c scope s.heap.objs.size f d))->sp vs H Q E ->
   ∃t,tG (lZ CX P w K mg base N c scope f d A a s H E) g t/\t {nx:=fun _ H'=>Q .non H',rt:=Q} (iL N vs) H):
  js P w K mg base CX (k+1) f (wF1 name c params g scope T kV B L M d ct) ps sp:=by
 refine⟨len,fun A a s H R us vs Q E G m hb r z=>?_⟩;have hl:=len _ _ _ _ z;have O:K.In s.heap:=m.mod.kin.keeps fun b o e=>(m.bs b o e).1;have C:s.heap.NoLimit:=m.mod.nolimit.keeps fun b o e=>(m.bs b o e).1;have j:∀y∈ps.zip us,scope.names.lookup y.1=some .local\/(scope.names.lookup y.1=some .cell/\((cellsFrom (s.heap.objs.size+1) scope.names []).lookup y.1).isSome=true):=fun⟨n,v⟩ U=>by
  rcases S.par n (List.of_mem_zip U).1 with q|q
  ·exact .inl q
  ·exact .inr ⟨q,PySem.W.cellsFrom_some _ _ _ (.inl q)⟩
 refine codeAny_call_function G.depth (O _ _ W) rfl S.co S.gen rfl (PySem.W.codeRec_of O hcd) (hb _ _ _ _ ?_);refine wpAny_newFunctionEnv_cells S.kind j fun env Z s1 x=>?_;subst Z;refine⟨C.keeps x.toInCall.keep,codeAny_func ?_⟩;obtain⟨t,ht,X⟩:=i A a s H vs Q E (G.deeper _) z;have I:Inv (lZ CX P w K mg base N c scope f d A a s H E) [] (iL N vs) H s1:=wW S G.hd m hl r x;refine wpAny_mono (ht [] s1 (iL N vs) H _ I X) (fun fl s' l=>?_) fun e s' l=>l;have p:∀{h:St} {H':Hp} {v:V} {u:dB},Inv (lZ CX P w K mg base N c scope f d A a s H E) [] h H' s'->d6 v u->Q v H'->CE a P w H s Q u s':=
  fun{h H' v u} J F q=>⟨v,H',J.os,J.bare,J.base,J.hok,F,q⟩
 cases fl with
 |ret u=>
  obtain⟨v,h,H',J,F,q⟩:=l;exact p J F q
 |next=>
  obtain⟨h,H',J,q⟩:=l;exact p (v:=V.non) (u:=Value.none) J rfl q
 |brk=>
  obtain⟨_,_,_,q⟩:=l;exact False.elim q
 |cont=>
  obtain⟨_,_,_,q⟩:=l;exact False.elim q
end L2
namespace L2
open PySem PySem.Spec PyProof.Rows
section
variable{X:Cx}{x:Str}{p pos:Pos}{e:Expr}{es:List Expr}{t:TA}{id T:String}{r:List V->Hp->VK->Prop}
def Jf(r:List V->Hp->VK->Prop)(t:TA):TE:=fun σ H Q=>t σ H fun vs H1=>r vs H1 Q
theorem rK (hc:fj X (.builtin id) r)(hg:Gl X x)(hm:X.mg x=none)(hv:bootBuiltins x=some (.builtin id))(ha:PA X (e::es) t)(hn:x≠"__name__":=by decide)(hdb:(x == ("__debug__":Str))=false:=by decide)
  (he:dJ (e::es) X.env=(false,eval e X.env)::dJ es X.env:=by rfl) (hpl:(backTo pos (dJ es X.env)).any (·.1)=false:=by rfl):PE X (.Call (.Name x p) (e::es) [] pos) (Jf r t):=by
 intro pins s σ H Q I h;refine wpAny_Call_Name_kw (jD I hg hm hv ?_ hn hdb);exact PyProof.Rows.callWith_builtin1 (fg (ha pos pins s σ H _ I h) fun a b ⟨vs,H1,c,f,d⟩=>hc pins b σ H1 vs a Q c f d) he hpl
theorem jh (hc:fj X (.type T) r)(hg:Gl X x)(hm:X.mg x=none)(hv:bootBuiltins x=some (.type T))(ha:PA X (e::es) t)(hn:x≠"__name__":=by decide)(hdb:(x == ("__debug__":Str))=false:=by decide)
  (he:dJ (e::es) X.env=(false,eval e X.env)::dJ es X.env:=by rfl) (hpl:(backTo pos (dJ es X.env)).any (·.1)=false:=by rfl):PE X (.Call (.Name x p) (e::es) [] pos) (Jf r t):=by
 intro pins s σ H Q I h;refine wpAny_Call_Name_kw (jD I hg hm hv ?_ hn hdb);exact PyProof.Rows.callWith_type1 (fg (ha pos pins s σ H _ I h) fun a b ⟨vs,H1,c,f,d⟩=>hc pins b σ H1 vs a Q c f d) he hpl
end
end L2
namespace HT
open PySem PyProof.Rows
section
open PySem.SeqAt
open PySem.AutoSeq1 (wpAny_loadPart')
open PySem.MeetsSeq PySem.MeetsSeq2 PySem.MeetsSeq3
end
section
variable{prog:dF}{w:dH}{A:dG}{E:dB->dD->Prop}{s:dD}
theorem Cw {t b:dE}{vs ws:List dB}{Q:dB->dD->Prop}(ht:IsTup s.heap t vs.toArray)(hb:IsTup s.heap b ws.toArray)(hv:vs≠[])
  (h1:ws=[]->Q (.ref t) s) (h2:ws≠[]->Q (.ref s.heap.objs.size) {s with heap:=s.heap.push {cls:=.type "tuple",data:=.seq (vs++ws).toArray}})
  (hsz:vs.length+ws.length<=dL):dM (model prog w) A (binaryOp .Add (.ref t) (.ref b)) Q E s:=by
 obtain⟨⟨cls,dd,data,sl⟩,h,hc,n,l⟩:=id ht;obtain⟨⟨k,c,j,d⟩,a,f,m,g⟩:=id hb;simp only at hc l f g;subst hc l f g;have e:vs.toArray++ws.toArray=(vs++ws).toArray:=by simp
 by_cases i:ws=[]
 ·exact concat_meets ⟨_,h,rfl⟩ ⟨_,a,rfl⟩ noFill_tuple_add seq_tuple_add PySem.F.slot_tuple_add PySem.F.entry_tuple_add (PySem.F.args_tuple_add_2 _ _)
   (tuple_addW1 t b vs.toArray ws.toArray n m dd c sl d (by simpa using hv) (by simp[i])) ⟨h,a,h1 i⟩
 ·refine concat_meets ⟨_,h,rfl⟩ ⟨_,a,rfl⟩ noFill_tuple_add seq_tuple_add PySem.F.slot_tuple_add PySem.F.entry_tuple_add (PySem.F.args_tuple_add_2 _ _)
   (tuple_addW2 t b vs.toArray ws.toArray n m dd c sl d (by simpa using hv) (by simpa using i) (by rw[sT1,sT1];exact hsz)) ⟨h,a,?_⟩
  rw[e];exact h2 i
def sIx(n d:Nat):Option Int->Nat
 |none=>d
 |some v=>if v<0 then(v+(n:Int)).toNat else min v.toNat n
theorem yB(n d:Nat):sIx n d none=d:=rfl
theorem Bb(n d k:Nat):sIx n d (some (k:Int))=min k n:=by
 show(if(k:Int)<0 then((k:Int)+(n:Int)).toNat else min (k:Int).toNat n)=min k n;rw[if_neg (by lia),Int.toNat_natCast]
theorem DL(n d:Nat)(hd:d<=n)(o:Option Int):sIx n d o<=n:=by
 cases o with
 |none=>exact hd
 |some v=>
  show(if v<0 then(v+(n:Int)).toNat else min v.toNat n)<=n;by_cases a:v<0
  ·rw[if_pos a];lia
  ·rw[if_neg a];exact Nat.min_le_right _ _
theorem v7(v:Int)(n d:Nat):(if v<0 then max (v+(n:Int)) 0 else min v (n:Int))=((sIx n d (some v):Nat):Int):=by
 show(if v<0 then max (v+(n:Int)) 0 else min v (n:Int))=(((if v<0 then(v+(n:Int)).toNat else min v.toNat n):Nat):Int);by_cases a:v<0
 ·simp only[if_pos a];lia
 ·simp only[if_neg a];lia
theorem uL(lo hi:Option Int)(n:Nat):Builtin.Slice.sliceAdjust lo hi 1 (n:Int)=(((sIx n 0 lo:Nat):Int),((sIx n n hi:Nat):Int)):=by
 have h1:¬ ((1:Int)<0):=by lia
 unfold Builtin.Slice.sliceAdjust;simp only[h1,if_false];refine Prod.ext ?_ ?_
 ·cases lo with
  |none=>rfl
  |some v=>exact v7 v n 0
 ·cases hi with
  |none=>rfl
  |some v=>exact v7 v n n
theorem ub(i j:Nat):Builtin.Slice.slicePlaces (i:Int) (j:Int) 1=j-i:=by
 unfold Builtin.Slice.slicePlaces;have h1:(1:Int)>0:=by lia
 simp only[h1,if_true,Int.ediv_one];split<;>lia
theorem gH{v:dB}{o:Option Int}{Q:Option Int->dD->Prop}(p:IsPart v o)(h:Q o s):dM (model prog w) A (Builtin.Slice.slicePartIndex v) Q E s:=by
 cases p with
 |none=>exact slicePart_none h
 |int i t=>exact slicePart_int h
theorem hM{sl:dE}{c vu:dB}{lo hi:Option Int}{n:Nat}{Q:Int×Int×Nat->dD->Prop}(hs:s.heap.IsSliceOf sl c vu .none)(pl:IsPart c lo)(d:IsPart vu hi)(h:Q (((sIx n 0 lo:Nat):Int),1,sIx n n hi-sIx n 0 lo) s):dM (model prog w) A (Builtin.Slice.sliceApplied (.ref sl) (pure (n:Int))) Q E s:=by
 obtain⟨f,b,e,a⟩:=id hs;unfold Builtin.Slice.sliceApplied Builtin.Slice.sliceFields;refine wB1 (wB1 (wpAny_field b a (x:=c) rfl (wB1 (wpAny_field b a (x:=vu) rfl (wB1 (wpAny_field b a (x:=.none) rfl (wP1 ?_)))))));refine wB1 (slicePart_none ?_);show dM _ _ (if((1:Int) == 0)=true then _ else _) _ _ s;rw[if_neg (by decide)];refine wB1 (gH pl (wB1 (gH d (wB1 (wP1 ?_)))));show dM _ _ (match Builtin.Slice.sliceAdjust lo hi 1 (n:Int)with|(lo,hi)=>pure (lo,(1:Int),Builtin.Slice.slicePlaces lo hi 1)) _ _ s;rw[uL lo hi n];show dM _ _ (pure (((sIx n 0 lo:Nat):Int),(1:Int),Builtin.Slice.slicePlaces ((sIx n 0 lo:Nat):Int) ((sIx n n hi:Nat):Int) 1)) _ _ s;rw[ub];exact wP1 h
theorem yV(xs:Array dB)(i k:Nat):((List.range k).filterMap fun(m:Nat)=>xs[((i:Int)+(m:Int)*1).toNat]?).toArray=((xs.toList.drop i).take k).toArray:=by
 have e:(fun(m:Nat)=>xs[((i:Int)+(m:Int)*1).toNat]?)=fun m=>xs[i+m]?:=by
  funext m
  have:((i:Int)+(m:Int)*1).toNat=i+m:=by lia
  rw[this]
 rw[e];have:=pick_run xs i k;rw[aU]at this;have a:((fun x=>xs[x]?)∘fun x=>i+x)=fun m=>xs[i+m]?:=rfl;rw[a]at this;rw[this]
theorem ku {t sl:dE}{items:Array dB}{f vu:dB}{lo hi:Option Int}{Q:dB->dD->Prop}(ht:IsTup s.heap t items)(hs:s.heap.IsSliceOf sl f vu .none)(pl:IsPart f lo)(j:IsPart vu hi)
  (hw:¬ (sIx items.size 0 lo=0/\sIx items.size items.size hi=items.size))
  (h:Q (.ref s.heap.objs.size) {s with heap:=s.heap.push {cls:=.type "tuple",data:=.seq ((items.toList.drop (sIx items.size 0 lo)).take (sIx items.size items.size hi-sIx items.size 0 lo)).toArray}})
  (hsz:items.size<=dL):dM (model prog w) A (getItem (.ref t) (.ref sl)) Q E s:=by
 have a:sizeOk (.seq ((items.toList.drop (sIx items.size 0 lo)).take (sIx items.size items.size hi-sIx items.size 0 lo)).toArray):=by
  show((items.toList.drop (sIx items.size 0 lo)).take (sIx items.size items.size hi-sIx items.size 0 lo)).toArray.size<=dL;rw[sT1,aQ,aV,aJ];omega
 have l:sIx items.size items.size hi<=items.size:=DL _ _ (nR1 _) hi;obtain⟨g,c,d,i⟩:=id hs;have e:s.TypeIs (.ref sl) "slice":=⟨g,c,d⟩;unfold getItem
 try with_reducible refine wpAny_holding ?_
 first|refine wB1 (wP1 ?_)|skip
 refine wB1 (wpAny_sequenceKey ht.typeIs (by decide) ?_);refine wB1 (wpAny_callSpecial?_slot (name:=Str.ofString "__getitem__") ht.typeIs PyProof.Rows.slot_tuple_getitem
  (wE1 PyProof.Rows.slot_tuple_getitem ht.typeIs entry_tuple_getitem ?_ (args_tuple_getitem _ _)))
 show dM _ _ (Builtin.Tuple.tupleItemsOf (.ref t) >>= _) _ _ s;refine wB1 (tupleItemsOf_ ht ?_);refine wB1 (wpAny_typeOf e ?_);rw[if_pos (by decide)];refine wB1 (hM hs pl j ?_);have b:¬ ((((sIx items.size 0 lo:Nat):Int) == 0&&(1:Int) == 1&&(sIx items.size items.size hi-sIx items.size 0 lo) == items.size)=true):=by
  intro q;rw[bA1,bA1]at q;have n:((sIx items.size 0 lo:Nat):Int)=0:=eq_of_beq q.1.1;have k:sIx items.size items.size hi-sIx items.size 0 lo=items.size:=eq_of_beq q.2;exact hw ⟨by omega,by omega⟩
 show dM _ _ (if(((sIx items.size 0 lo:Nat):Int) == 0&&(1:Int) == 1&&(sIx items.size items.size hi-sIx items.size 0 lo) == items.size)=true then _ else _) _ _ s;rw[if_neg b,yV]
 first
  |exact wB1 (m:=Builtin.Tuple.tupleExact _) (wO1 (wP1 ⟨_,rfl,wP1 h⟩) a)
  |exact wB1 (m:=Builtin.Tuple.tupleExact _) (wO1 (wB1 (wP1 (wP1 ⟨_,rfl,wP1 h⟩))) a)
  |exact wB1 (wB1 (m:=Builtin.Tuple.tupleExact _) (wO1 (wP1 (wP1 ⟨_,rfl,wP1 h⟩)) a))
  |exact wB1 (wB1 (m:=Builtin.Tuple.tupleExact _) (wO1 (wP1 ⟨_,rfl,wP1 h⟩) a))
end
end HT
namespace L2
open PySem PySem.Spec PyProof.Rows
abbrev TO:=St->Hp->(Option Int->Hp->Prop)->Prop
def PO(X:Cx)(e:Option Expr)(t:TO):Prop:=
 ∀(pins:List (dE×Obj)) (s:dD) (σ:St) (H:Hp) (Q:Option Int->Hp->Prop),Inv X pins σ H s->t σ H Q ->
  dM (model X.prog X.w) X.A (evalPart e X.env) (fun u s'=>∃o H',Inv X pins σ H' s'/\IsPart u o/\Q o H') X.xe s
def A6:TO:=fun _ H Q=>Q none H
def F3(t:TE):TO:=fun σ H Q=>t σ H fun x H1=>∃i,x = .int i/\Q (some i) H1
section
variable{X:Cx}{e:Expr}{te:TE}{lo hi:Option Expr}{tl th:TO}{pos p2:Pos}
theorem Bq:PO X none A6:=by
 intro pins s σ H Q I h;rw[evalPart_none];exact wP1 ⟨none,H,I,.none,h⟩
theorem Bp(h:PE X e te):PO X (some e) (F3 te):=by
 intro pins s σ H Q I d;rw[evalPart_some];refine fg (h pins s σ H _ I d) fun u f ⟨x,H1,a,c,b⟩=>?_;obtain⟨i,rfl,q⟩:=b;obtain⟨t,rfl⟩:=c;exact⟨some i,H1,a,.int i t,q⟩
def AT(X:Cx)(r:V->Option Int->Option Int->Hp->VK->Prop):Prop:=
 ∀(pins:List (dE×Obj)) (s:dD) (σ:St) (H:Hp) (x:V) (v vl vu:dB) (lo hi:Option Int) (sl:dE) (Q:VK),Inv X pins σ H s->d6 x v->s.heap.IsSliceOf sl vl vu .none->IsPart vl lo->IsPart vu hi->r x lo hi H Q ->
  ∃T id,typeLookup (.type T) "__getitem__"=pure (some (.builtin id))/\s.TypeIs v T/\dM (model X.prog X.w) X.A (getItem v (.ref sl)) (EP X pins σ Q) X.xe s
theorem AT.or{r a:V->Option Int->Option Int->Hp->VK->Prop}(h:AT X r)(h':AT X a):AT X (fun x lo hi H Q=>r x lo hi H Q\/a x lo hi H Q):=by
 intro pins s σ H x v d vu lo hi sl Q I b c pl e q;rcases q with q|q
 ·exact h pins s σ H x v d vu lo hi sl Q I b c pl e q
 ·exact h' pins s σ H x v d vu lo hi sl Q I b c pl e q
def JE(r:V->Option Int->Option Int->Hp->VK->Prop)(te:TE)(tl th:TO):TE:=fun σ H Q=>te σ H fun x H1=>tl σ H1 fun l H2=>th σ H2 fun u H3=>r x l u H3 Q
theorem yY{r:V->Option Int->Option Int->Hp->VK->Prop}(hr:AT X r)(he:PE X e te)(j:PO X lo tl)(o:PO X hi th):PE X (.Subscript e (.Slice lo hi none p2) pos) (JE r te tl th):=by
 intro pins s σ H Q I h;refine Subscript_ (fg (he pins s σ H _ I h) fun v k ⟨x,H1,f,i,p⟩=>?_);refine wpAny_Slice (fg (j pins k σ H1 _ f p) fun c n ⟨l,H2,g,pl,y⟩=>fg (o pins n σ H2 _ g y) fun vu a ⟨u,d,m,C,z⟩=>?_);rw[evalPart_none];refine wP1 ?_;have A:Inv X pins σ d {a with heap:=a.heap.push {cls:=.type "slice",data:=.fields #[c,vu,.none]}}:=m.kept (t':=a.toks) fun b D q=>hP1 _ q;obtain⟨T,id,w,B,t⟩:=hr pins {a with heap:=a.heap.push {cls:=.type "slice",data:=.fields #[c,vu,.none]}} σ d x v c vu l u a.heap.objs.size Q A i (Heap.IsSliceOf.new ..) pl C z;show dM (model X.prog X.w) X.A (subscriptTail e (.Slice lo hi none p2) v (.ref a.heap.objs.size)) (EP X pins σ Q) X.xe {a with heap:=a.heap.push {cls:=.type "slice",data:=.fields #[c,vu,.none]}};exact tail_any (ops:=[.ref a.heap.objs.size,v]) B w t (by with_unfolding_all rfl)
def sS(xs:List V)(lo hi:Option Int):List V:=(xs.drop (HT.sIx xs.length 0 lo)).take (HT.sIx xs.length xs.length hi-HT.sIx xs.length 0 lo)
theorem lO(xs:List V)(lo hi:Option Int):(sS xs lo hi).length<=xs.length:=by
 unfold sS;rw[aQ,aV];lia
def Iz(K:Fg1):V->Option Int->Option Int->Hp->VK->Prop:=fun x lo hi H Q=>∃a xs,x = .ref a/\jl K H a xs /\
 ¬ (HT.sIx xs.length 0 lo=0/\HT.sIx xs.length xs.length hi=xs.length) /\ ∀p,H p=none->Q (.ref p) (upd H p (.tup (sS xs lo hi)))
theorem DG:AT X (Iz X.K):=by
 intro pins s σ H x v n vu lo hi sl Q I g i pl k h;obtain⟨a,xs,rfl,j,l,q⟩:=h;cases g;obtain⟨d,r,f,e⟩:=I.tuple j;have c:d.toArray.size=xs.length:=by rw[sT1];exact r.length.symm
 refine⟨"tuple",_,PyProof.Rows.slot_tuple_getitem.lookup,f.typeIs,?_⟩;refine HT.ku f i pl k (by rw[c];exact l) ?_ (by rw[c];exact e);rw[c];refine⟨.ref s.heap.objs.size,_,I.laid (t':=s.toks) (o:=.tup (sS xs lo hi)) (fun b m q=>hP1 _ q) (nR1 _) ?_,rfl,q _ (I.hok.fresh (nR1 _))⟩;exact⟨aC (lO xs lo hi) e,_,(r.drop (HT.sIx xs.length 0 lo)).take (HT.sIx xs.length xs.length hi-HT.sIx xs.length 0 lo),IsTup.new _ _⟩
def Gj(K:Fg1):R2:=fun x y H Q=>∃a b xs ys,x = .ref a/\y = .ref b/\jl K H a xs/\jl K H b ys/\xs≠[]/\xs.length+ys.length<=dL /\
 (ys=[]->Q (.ref a) H)/\(ys≠[] -> ∀p,H p=none->Q (.ref p) (upd H p (.tup (xs++ys))))
theorem ei.nil_iff{xs:List V}{a:List dB}(r:ei xs a):a=[]↔xs=[]:=by
 cases r with
 |nil=>simp
 |cons _ _=>simp
theorem BC:gp X (binaryOp .Add) (Gj X.K):=by
 intro pins s σ H x y v u Q I k j h;obtain⟨a,b,xs,ys,rfl,rfl,l,p,m,e,n,i⟩:=h;cases k;cases j;obtain⟨g,c,f,_⟩:=I.tuple l;obtain⟨d,r2,p2,_⟩:=I.tuple p;refine HT.Cw f p2 (fun z=>m (c.nil_iff.mp z)) (fun z=>⟨.ref a,H,I,rfl,n (r2.nil_iff.mp z)⟩) (fun z=>?_) (by rw[<- c.length,<- r2.length];exact e);refine⟨.ref s.heap.objs.size,_,I.laid (t':=s.toks) (o:=.tup (xs++ys)) (fun b r q=>hP1 _ q) (nR1 _) ?_,rfl,i (fun w=>z (r2.nil_iff.mpr w)) _ (I.hok.fresh (nR1 _))⟩;exact⟨by rw[lA1];exact e,_,c.append r2,IsTup.new _ _⟩
end
end L2
namespace L2
open PySem PySem.Spec PyProof.Rows
def vH(n:Nat)(i:Int):Option Nat:=if 0<=i then(if i<n then some i.toNat else none)else if-(n:Int)<=i then some (i+n).toNat else none
def tE{α:Type}(xs:List α)(i:Int):Option α:=(vH xs.length i).bind fun j=>xs[j]?
theorem ql{n:Nat}{i:Int}{j:Nat}(h:vH n i=some j):seqIndex? i n=some j/\j<n /\ -(n:Int)<=i/\i<n:=by
 unfold vH at h;by_cases a:0<=i
 ·rw[if_pos a]at h;by_cases h1:i<n
  ·rw[if_pos h1]at h;have e:i.toNat=j:=Option.some.inj h;exact⟨by rw[seqIndex_of a h1,e],by lia,by lia,h1⟩
  ·rw[if_neg h1]at h;cases h
 ·rw[if_neg a]at h;by_cases h1: -(n:Int)<=i
  ·rw[if_pos h1]at h;have e:(i+n).toNat=j:=Option.some.inj h;exact⟨by rw[seqIndex_neg (by lia) h1,e],by lia,h1,by lia⟩
  ·rw[if_neg h1]at h;cases h
theorem wg{α:Type}{xs:List α}{i:Int}{v:α}(h:tE xs i=some v):∃j,seqIndex? i xs.length=some j/\xs[j]?=some v/\j<xs.length /\ -(xs.length:Int)<=i/\i<xs.length:=by
 unfold tE at h;cases e:vH xs.length i with
 |none=>rw[e]at h;cases h
 |some j=>
  rw[e]at h;obtain⟨h1,h2,b,a⟩:=ql e;exact⟨j,h1,h,h2,b,a⟩
def mo(b:Expr):Prop:=∀o i,subscripted b false o i=operate [o,i] (getItem o i)
def Dg(X:Cx)(r:R2):Prop:=
 ∀(value slice:Expr) (pins:List (dE×Obj)) (s:dD) (σ:St) (H:Hp) (x y:V) (v u:dB) (Q:VK),Inv X pins σ H s->d6 x v->d6 y u->r x y H Q ->
  subscripted slice false v u=operate [v,u] (getItem v u)->dM (model X.prog X.w) X.A (subscriptTail value slice v u) (EP X pins σ Q) X.xe s
def Df(X:Cx)(id:String)(r:V->List V->Hp->VK->Prop):Prop:=
 ∀(pins:List (dE×Obj)) (s:dD) (σ:St) (H:Hp) (x:V) (xs:List V) (v:dB) (us:List dB) (Q:VK),Inv X pins σ H s->d6 x v->ei xs us->r x xs H Q ->
  dM (model X.prog X.w) X.A (call (.builtin id) (v::us)) (EP X pins σ Q) X.xe s
section
variable{X:Cx}{a b:Expr}{ta tb:TE}{pos:Pos}
theorem Gq{r:R2}(hr:Dg X r)(ha:PE X a ta)(hb:PE X b tb)(hs:mo b):PE X (.Subscript a b pos) (F4 r ta tb):=by
 intro pins s σ H Q I h;exact Subscript_ (Fo ha hb I h fun v u f x y H2 e c d q=>hr a b pins f σ H2 x y v u Q e c d q (hs _ _))
def IC(K:Fg1):R2:=fun x y H Q=>∃p xs i v,x = .ref p/\y = .int i/\lV K H p xs/\tE xs i=some v/\Q v H
def IB(K:Fg1):R2:=fun x y H Q=>∃p xs i v,x = .ref p/\y = .int i/\jl K H p xs/\tE xs i=some v/\Q v H
theorem B6:Dg X (IC X.K):=by
 intro value c pins s σ H x y v u Q I n C h g;obtain⟨p,xs,i,z,rfl,rfl,A,l,q⟩:=h;cases n;obtain⟨t,rfl⟩:=C;obtain⟨e,r,pl,E⟩:=I.list A;obtain⟨j,h1,h2,F,o,B⟩:=wg l;obtain⟨w,k,b⟩:=r.get h2;have m:=r.length;have D:=k8;have a:EP X pins σ Q w s:=⟨z,H,I,b,q⟩;by_cases f:0<=i
 ·have d:i.toNat=j:=by
   rw[seqIndex_of f B]at h1;exact Option.some.inj h1
  exact item_listR pl.isList f (by lia) (by rw[d];simpa using k) a g
 ·have d:(i+(e.toArray.size:Int)).toNat=j:=by
   rw[seqIndex_neg (by lia) o]at h1;rw[sT1,<- m];exact Option.some.inj h1
  exact subscriptTail_builtinR (x:=w) pl.isList.typeIs slot_list_getitem.lookup
   (wpAny_getItem_list_neg (Q:=fun r s'=>r=w/\EP X pins σ Q r s') pl.isList (by lia) (by rw[sT1]<;>lia) (by lia) (by rw[d];simpa using k) ⟨rfl,a⟩) g
theorem E9:Dg X (IB X.K):=by
 intro value c pins s σ H x y v u Q I g n h k;obtain⟨p,xs,i,z,rfl,rfl,m,d,q⟩:=h;cases g;obtain⟨t,rfl⟩:=n;obtain⟨f,r,pl,C⟩:=I.tuple m;obtain⟨j,h1,h2,D,B,A⟩:=wg d;obtain⟨w,l,a⟩:=r.get h2;have e:=r.length;have o:=k8;have b:EP X pins σ Q w s:=⟨z,H,I,a,q⟩;exact subscriptTail_builtinR (x:=w) pl.typeIs slot_tuple_getitem.lookup
  (getItem_tuple (j:=j) (Q:=fun r s'=>r=w/\EP X pins σ Q r s') pl (by lia) (by lia) (by rw[sT1,<- e];exact h1) (by simpa using l) ⟨rfl,b⟩) k
theorem uo(its:List dB)(n j:Nat)(u:dB):Obj.mapSeq (·.setIfInBounds j u) {cls:=.type "list",data:=.seq its.toArray n}={cls:=.type "list",data:=.seq (its.set j u).toArray n}:=by
 simp[Obj.mapSeq]
theorem Inv.lst{pins:List (dE×Obj)}{σ:St}{H:Hp}{s:dD}{p:dE}{xs:List V}(I:Inv X pins σ H s)(h:H p=some (.lst xs)):
  ∃(its:List dB) (n:Nat),ei xs its/\s.heap.get? p=some {cls:=.type "list",data:=.seq its.toArray n}/\xs.length<=dL:=by
 obtain⟨z,its,n,r,e⟩:=I.hok p _ h;exact⟨its,n,r,e,z⟩
theorem Inv.lstUpd {pins:List (dE×Obj)}{σ:St}{H:Hp}{s:dD}{p:dE}{xs ys:List V}{its its':List dB}{n a:Nat}{f:Obj->Obj}(I:Inv X pins σ H s)(h:H p=some (.lst xs))
  (ho:s.heap.get? p=some {cls:=.type "list",data:=.seq its.toArray n}) (hf:f {cls:=.type "list",data:=.seq its.toArray n}={cls:=.type "list",data:=.seq its'.toArray a}) (r:ei ys its') (d:ys.length<=dL) (t:Nat):
  Inv X pins σ (upd H p (.lst ys)) {s with heap:=s.heap.update p f,toks:=t}:=by
 have e:(s.heap.update p f).get? p=some {cls:=.type "list",data:=.seq its'.toArray a}:=by
  rw[hW1 f ho (by rw[hf]<;>rfl),hf]
 refine I.write (x:=p) (e:=p) (by rw[h];trivial) (.inl rfl) (fun b u c q=>(Heap.get?_update_other _ _ (Ne.symm c)).trans q) ⟨_,e⟩ ?_;exact⟨d,its',a,r,e⟩
def Gi:V->V->V->Hp->(Hp->Prop)->Prop:=fun o i v H Q=>∃p xs k j,o = .ref p/\i = .int k/\H p=some (.lst xs)/\vH xs.length k=some j/\Q (upd H p (.lst (xs.set j v)))
theorem yx:uO X Gi:=by
 intro pins s σ H o i v D C u Q I y z w h;obtain⟨p,xs,k,j,rfl,rfl,e,x,q⟩:=h;cases y;obtain⟨t,rfl⟩:=z;obtain⟨a,n,r,d,A⟩:=I.lst e;obtain⟨h1,h2,l,g⟩:=ql x;have b:=r.length;have B:=k8;have m:Inv X pins σ (upd H p (.lst (xs.set j v))) {s with heap:=s.heap.update p (Obj.mapSeq (·.setIfInBounds j u))}:=
  I.lstUpd e d (uo a n j u) (r.set w j) (by rw[aW];exact A) s.toks
 by_cases f:0<=k
 ·have c:k.toNat=j:=by
   rw[seqIndex_of f g]at h1;exact Option.some.inj h1
  exact PySem.W.ki_setAt d f (by lia) (by rw[sT1,<- b];exact g) (by rw[c];exact⟨_,m,q⟩)
 ·have c:(k+(a.toArray.size:Int)).toNat=j:=by
   rw[seqIndex_neg (by lia) l]at h1;rw[sT1,<- b];exact Option.some.inj h1
  exact PySem.W.ki_setBack d (by lia) (by rw[sT1,<- b];exact l) (by lia) (by rw[c];exact⟨_,m,q⟩)
theorem pO(lo hi:Option Int)(n:Nat):(sliceBounds lo hi none n).1=((HT.sIx n 0 lo:Nat):Int)/\(sliceBounds lo hi none n).2.1=((HT.sIx n n hi:Nat):Int)/\(sliceBounds lo hi none n).2.2=1:=by
 refine⟨?_,?_,rfl⟩
 ·cases lo with
  |none=>simp[sliceBounds,HT.sIx]
  |some i=>
   simp only[sliceBounds,HT.sIx,Option.getD_none,show(1:Int)>0 by decide,if_true];by_cases h:i<0
   ·simp only[h,if_true]<;>lia
   ·simp only[h,if_false]<;>lia
 ·cases hi with
  |none=>simp[sliceBounds,HT.sIx]
  |some i=>
   simp only[sliceBounds,HT.sIx,Option.getD_none,show(1:Int)>0 by decide,if_true];by_cases h:i<0
   ·simp only[h,if_true]<;>lia
   ·simp only[h,if_false]<;>lia
theorem nN(its:List dB)(lo hi:Option Int):slicePick its.toArray lo hi none=((its.drop (HT.sIx its.length 0 lo)).take (HT.sIx its.length its.length hi-HT.sIx its.length 0 lo)).toArray:=by
 obtain⟨h1,h2,a⟩:=pO lo hi its.toArray.size;unfold slicePick;rw[h1,h2,a];simp only[sliceRange_one,pick_run,sT1]<;>rfl
def IA(K:Fg1):V->Option Int->Option Int->Hp->VK->Prop:=fun x lo hi H Q=>∃a xs,x = .ref a/\lV K H a xs /\ ∀p,H p=none->Q (.ref p) (upd H p (.lst (sS xs lo hi)))
theorem A9:AT X (IA X.K):=by
 intro pins s σ H x v m vu lo hi sl Q I f g pl k h;obtain⟨a,xs,rfl,i,q⟩:=h;cases f;obtain⟨e,r,d,j⟩:=I.list i;have c:=r.length;refine⟨"list",_,slot_list_getitem.lookup,d.isList.typeIs,?_⟩;refine wpAny_getItem_list_slice d.isList g pl k .none (by simp) ?_ (by rw[sT1]<;>lia);rw[nN,<- c];refine⟨.ref s.heap.objs.size,_,I.laid (t':=s.toks) (o:=.lst (sS xs lo hi)) (fun b l q=>hP1 _ q) (nR1 _) ?_,rfl,q _ (I.hok.fresh (nR1 _))⟩;exact⟨aC (lO xs lo hi) j,_,0,(r.drop (HT.sIx xs.length 0 lo)).take (HT.sIx xs.length xs.length hi-HT.sIx xs.length 0 lo),hS1 _ rfl⟩
def lK:V->Bool
 | .non=>true
 | .bl _=>true
 | .int _=>true
 | .str _=>true
 |_=>false
def uE:V->V->Bool
 | .non,.non=>true
 | .bl a,.bl b=>a == b
 | .bl a,.int b=>(if a then 1 else 0) == b
 | .int a,.bl b=>a == (if b then 1 else 0)
 | .int a,.int b=>a == b
 | .str a,.str b=>a == b
 |_,_=>false
theorem jF{A:dG}{s:dD}{y x:V}{u v:dB}(f:d6 y u)(c:d6 x v)(g:lK y=true)(e:lK x=true):SeqAt.EqAt A s u v (uE y x):=by
 cases y with
 |non=>
  cases f;cases x with
  |non=>cases c;exact SeqAt.EqAt.same _
  |bl b=>cases c;exact SeqAt.EqAt.none_bool b
  |int b=>obtain⟨t,rfl⟩:=c;exact SeqAt.EqAt.none_int b t
  |str b=>obtain⟨t,rfl⟩:=c;exact SeqAt.EqAt.none_str b t
  |_=>exact absurd (show false=true from e) aK
 |bl a=>
  cases f;cases x with
  |non=>cases c;exact SeqAt.EqAt.bool_none a
  |bl b=>cases c;exact SeqAt.EqAt.bool_bool a b
  |int b=>obtain⟨t,rfl⟩:=c;exact SeqAt.EqAt.bool_int a b t
  |str b=>obtain⟨t,rfl⟩:=c;exact SeqAt.EqAt.bool_str a b t
  |_=>exact absurd (show false=true from e) aK
 |int a=>
  obtain⟨d,rfl⟩:=f;cases x with
  |non=>cases c;exact SeqAt.EqAt.int_none a d
  |bl b=>cases c;exact SeqAt.EqAt.int_bool a d b
  |int b=>obtain⟨t,rfl⟩:=c;exact SeqAt.EqAt.int_int a d b t
  |str b=>obtain⟨t,rfl⟩:=c;exact SeqAt.EqAt.int_str a d b t
  |_=>exact absurd (show false=true from e) aK
 |str a=>
  obtain⟨d,rfl⟩:=f;cases x with
  |non=>cases c;exact SeqAt.EqAt.str_none a d
  |bl b=>cases c;exact SeqAt.EqAt.str_bool a d b
  |int b=>obtain⟨t,rfl⟩:=c;exact SeqAt.EqAt.str_int a d b t
  |str b=>obtain⟨t,rfl⟩:=c;exact SeqAt.EqAt.str_str a d b t
  |_=>exact absurd (show false=true from e) aK
 |_=>exact absurd (show false=true from g) aK
theorem qC:fj X (.builtin "len") (fun xs H Q=>∃p ys,xs=[.ref p]/\(lV X.K H p ys\/jl X.K H p ys)/\Q (.int ys.length) H):=by
 intro pins s σ H xs g Q I r h;obtain⟨p,ys,rfl,b,q⟩:=h;obtain⟨u,rfl,e⟩:=iJ r;cases e;have i:=k8;rcases b with b|b
 ·obtain⟨c,d,pl,f⟩:=I.list b;have a:=d.length;exact Calls.call_len_list pl.isList (by simp only[sT1]<;>lia) ⟨.int ys.length,H,I.tok _,⟨s.toks+1,by rw[sT1,a]⟩,q⟩
 ·obtain⟨c,d,pl,f⟩:=I.tuple b;have a:=d.length;exact len_tuple pl (by simp only[sT1]<;>lia) ⟨.int ys.length,H,I.tok _,⟨s.toks+1,by rw[sT1,a]⟩,q⟩
theorem qB:fj X (.builtin "len") (fun xs H Q=>∃z,xs=[.str z]/\z.length<=dL/\Q (.int z.length) H):=by
 intro pins s σ H xs b Q I r h;obtain⟨z,rfl,a,q⟩:=h;obtain⟨u,rfl,t,rfl⟩:=iJ r;have c:=k8;exact len_str (by lia) ⟨.int z.length,H,I.tok _,⟨_,rfl⟩,q⟩
theorem nZ:fj X (.type "tuple") (fun xs H Q=>∃p ys,xs=[.ref p]/\((lV X.K H p ys /\ ∀l,H l=none->Q (.ref l) (upd H l (.tup ys)))\/(jl X.K H p ys/\Q (.ref p) H))):=by
 intro pins s σ H xs n Q I r h;obtain⟨p,ys,rfl,h⟩:=h;obtain⟨u,rfl,j⟩:=iJ r;cases j;rcases h with⟨d,q⟩|⟨d,q⟩
 ·obtain ⟨a,c,pl,f⟩:=I.list d;have i:=c.length;refine call_tuple_list pl.isList (fun h' k=>?_) (by simp only [sT1]<;>lia);have g:Inv X pins σ H {s with heap:=h'}:=I.kept (t':=s.toks) k;have m:Inv X pins σ (upd H h'.objs.size (.tup ys)) {s with heap:=h'.push {cls:=.type "tuple",data:=.seq a.toArray}}:=
   g.laid (t':=s.toks) (fun b o e=>hP1 _ e) (nR1 _) (show eN X.prog X.w _ _ _ (.tup ys)from⟨f,a,c,IsTup.new _ _⟩)
  exact⟨.ref h'.objs.size,_,m,rfl,q _ (g.hok.fresh (nR1 _))⟩
 ·obtain⟨a,c,pl,f⟩:=I.tuple d;exact call_tuple_same pl ⟨.ref p,H,I,rfl,q⟩
def Jc(K:Fg1)(T:String)(x:V)(H:Hp):Prop:=match x with
 | .str _=>T="str"
 | .int _=>T="int"
 | .ref p=>(T="list" /\ ∃ xs,lV K H p xs)\/(T="tuple" /\ ∃ o,K.lookup p=some o/\o.cls = .type "tuple"/\o.dict=none) \/
   (T="dict"/\((∃kvs,H p=some (.dK kvs)) \/ ∃kvs,H p=some (.dT kvs)))\/(T="set" /\ ∃S n,H p=some (.set S n))
 |_=>False
theorem Dp{pins:List (dE×Obj)}{σ:St}{H:Hp}{s:dD}{T:String}{x:V}{v:dB}(I:Inv X pins σ H s)(r:d6 x v)(ty:Jc X.K T x H):
  s.TypeIs v T /\ ∀a,v = .ref a -> ∃g,s.heap.get? a=some g/\g.dict=none:=by
 cases x with
 |str z=>
  obtain⟨t,rfl⟩:=r;cases(show T="str" from ty);exact⟨typeIs_str s z t,fun _ e=>nomatch e⟩
 |int i=>
  obtain⟨t,rfl⟩:=r;cases(show T="int" from ty);exact⟨typeIs_int s i t,fun _ e=>nomatch e⟩
 |ref p=>
  cases r;rcases ty with⟨rfl,xs,j⟩|⟨rfl,o,b,hc,f⟩|⟨rfl,b⟩|⟨rfl,S,n,b⟩
  ·obtain⟨h,_,pl,_⟩:=I.list j;refine⟨pl.isList.typeIs,fun a e=>?_⟩;cases e;obtain⟨o,n,e,c,f,_⟩:=pl;exact⟨o,e,f⟩
  ·refine⟨⟨o,I.kIn p o b,hc⟩,fun a e=>?_⟩;cases e;exact⟨o,I.kIn _ o b,f⟩
  ·have z:∃ o,s.heap.get? p=some o/\o.ExactDict:=by
    rcases b with⟨kvs,b⟩|⟨kvs,b⟩
    ·obtain⟨_,_,_,_,o,_,_,e,ex,_⟩:=I.hok p _ b;exact⟨o,e,ex⟩
    ·obtain⟨_,_,_,_,o,_,_,e,ex,_⟩:=I.hok p _ b;exact⟨o,e,ex⟩
   obtain⟨o,e,ex⟩:=z;refine⟨⟨o,e,ex.1⟩,fun a d=>?_⟩;cases d;exact⟨o,e,ex.2.1⟩
  ·obtain⟨o,_,_,_,e,ex,_⟩:=I.hok p _ b;refine⟨⟨o,e,ex.1⟩,fun a d=>?_⟩;cases d;exact⟨o,e,ex.2.1⟩
 |_=>exact False.elim ty
def JI(K:Fg1)(T:String)(r:V->List V->Hp->VK->Prop)(to:TE)(t:TA):TE:=fun σ H Q=>to σ H fun x H1=>Jc K T x H1/\t σ H1 fun xs H2=>r x xs H2 Q
variable{o e:Expr}{es:List Expr}{to:TE}{t:TA}{name:Str}{apos cpos:Pos}{T id:String}{r:V->List V->Hp->VK->Prop}
theorem Gr (l:PlainAttrs T)(slot:Slot T name id)(hty:typeOf (.builtin id)=pure (.type "method_descriptor"))(hm:Df X id r)(ho:PE X o to)(ha:PA X (e::es) t)
  (hbase:attributeBase o name X.env (eval o X.env)=eval o X.env:=by rfl)
  (hfew:((backTo cpos (dJ (e::es) X.env)).all (fun x=> !x.1)&&(backToKw cpos (keywordEach [] X.env)).all (fun x=>x.1.isSome)
   && decide ((e::es).length+([]:List Keyword).length+(if([]:List Keyword).isEmpty then 0 else 1)<30))=true:=by rfl)
  (hline:(apos.endLine == cpos.line)=true:=by rfl) (hs:dJ (e::es) X.env=(false,eval e X.env)::dJ es X.env:=by rfl) (hplain:(backTo cpos (dJ es X.env)).any (·.1)=false:=by rfl):
  PE X (.Call (.Attribute o name apos) (e::es) [] cpos) (JI X.K T r to t):=by
 intro pins s σ H Q I h;refine wpAny_Call_method_late hbase hfew hline rfl (fg (ho pins s σ H _ I h) fun v g ⟨x,H1,b,c,ty,i⟩=>?_);obtain⟨h1,h2⟩:=Dp b c ty;refine⟨T,id,l,slot,hty,h1,h2,?_⟩;have a:=ha cpos pins g σ H1 _ b i;rw[hs]at a ⊢;refine Calls.callWith_builtin (by show(false||(backTo cpos (dJ es X.env)).any (·.1))=false;rw[hplain]<;>rfl) (Calls.evalArgs_plain ?_);exact fg a fun d j ⟨vs,H2,k,r2,f⟩=>hm pins j σ H2 x vs v d Q k c r2 f
end
end L2
namespace L2
open PySem PySem.Spec PyProof.Rows
def Jx(X:Cx)(id:String)(r:V->List V->Hp->VK->Prop):Prop:=
 ∀(pins:List (dE×Obj)) (s:dD) (σ:St) (H:Hp) (x:V) (xs:List V) (v:dB) (us:List dB) (Q:VK),Inv X pins σ H s->d6 x v->ei xs us->r x xs H Q ->
  dM (model X.prog X.w) X.A (call (.builtin id) (v::us)) (EP X pins σ Q) X.xe s
theorem ei.one:∀{x:V} {a:List dB},ei [x] a -> ∃u,a=[u]/\d6 x u:=by
 intro x a h;cases h with
 |cons r t=>cases t;exact⟨_,rfl,r⟩
theorem ei.two:∀{x y:V} {a:List dB},ei [x,y] a -> ∃u v,a=[u,v]/\d6 x u/\d6 y v:=by
 intro x y a h;cases h with
 |cons r t=>obtain⟨v,rfl,q⟩:=ei.one t;exact⟨_,_,rfl,r,q⟩
theorem ei.eraseIdx:∀{xs:List V} {a:List dB} (i:Nat),ei xs a->ei (xs.eraseIdx i) (a.eraseIdx i)
 |_,_,_,.nil=>.nil
 |_,_,0,.cons _ t=>t
 |_,_,i+1,.cons r t=>.cons r (ei.eraseIdx i t)
theorem oM{α:Type}:∀(l:List α) (i:Nat),(l.eraseIdx i).length<=l.length
 |[],_=>nR1 _
 |_::_,0=>aX _
 |_::r,i+1=>Nat.succ_le_succ (oM r i)
section
variable{X:Cx}{pins:List (dE×Obj)}{σ:St}{H:Hp}{s:dD}{l b:dE}{xs ys zs:List V}
theorem Inv.lset {its its':List dB}{n:Nat}{f:Array dB->Array dB}{t':Nat}(I:Inv X pins σ H s)(c:H l=some (.lst xs))
  (e:s.heap.get? l=some {cls:=.type "list",data:=.seq its.toArray n}) (hf:f its.toArray=its'.toArray) (hv:ei ys its') (b:ys.length<=dL):
  Inv X pins σ (upd H l (.lst ys)) {s with heap:=s.heap.update l (Obj.mapSeq f),toks:=t'}:=by
 have q:=PySem.IsL.update e f;rw[hf]at q;refine I.write (x:=l) (e:=l) (by rw[c];exact trivial) (.inl rfl) (fun g u d a=>(Heap.get?_update_other s.heap (Obj.mapSeq f) (Ne.symm d)).trans a) ⟨_,q⟩ ?_;exact⟨b,its',_,hv,q⟩
theorem Inv.lnew{its:List dB}{t':Nat}(I:Inv X pins σ H s)(hv:ei ys its)(a:ys.length<=dL):
  Inv X pins σ (upd H s.heap.objs.size (.lst ys)) {s with heap:=s.heap.push {cls:=.type "list",data:=.seq its.toArray},toks:=t'}:=
 I.laid (fun _ _ q=>hP1 _ q) (nR1 _) ⟨a,its,0,hv,hS1 _ rfl⟩
theorem Inv.fresh(I:Inv X pins σ H s):H s.heap.objs.size=none:=I.hok.fresh (nR1 _)
theorem Inv.lstM(I:Inv X pins σ H s)(a:H l=some (.lst xs)):xs.length<=dL /\ ∃(its:List dB) (n:Nat),ei xs its/\xs.length=its.length/\s.heap.get? l=some {cls:=.type "list",data:=.seq its.toArray n}:=by
 obtain⟨z,its,n,r,e⟩:=I.hok l _ a;exact⟨z,its,n,r,r.length,e⟩
end
section
variable{X:Cx}
def Bf:V->List V->Hp->VK->Prop:=fun x vs H Q=>∃l xs y,x = .ref l/\vs=[y]/\H l=some (.lst xs)/\xs.length<dL/\Q .non (upd H l (.lst (xs++[y])))
theorem oF:Jx X "list.append" Bf:=by
 intro pins s σ H x vs v g Q I f d h;obtain⟨l,xs,y,rfl,rfl,b,j,q⟩:=h;cases f;obtain⟨u,rfl,c⟩:=d.one;obtain⟨z,a,n,r,i,e⟩:=I.lstM b;refine call_meets F.slot_list_append ⟨_,e,rfl⟩ F.entry_list_append (F.args_list_append_2 _ _) (PySem.list_append l a.toArray n u (by rw[sT1];lia)) ⟨e,?_⟩;refine⟨.non,_,I.lset (its':=a++[u]) b e (by simp) (r.append (.cons c .nil)) ?_,rfl,q⟩;rw[lA1,aY];lia
def DR:V->List V->Hp->VK->Prop:=fun x vs H Q=>∃l xs i k y,x = .ref l/\vs=[.int i]/\H l=some (.lst xs) /\ -(2^63)<=i/\i<2^63/\seqIndex? i xs.length=some k/\xs[k]?=some y/\Q y (upd H l (.lst (xs.eraseIdx k)))
theorem zp:Jx X "list.pop" DR:=by
 intro pins s σ H x vs v A Q I m g h;obtain⟨l,xs,i,k,y,rfl,rfl,c,h1,h2,o,j,q⟩:=h;cases m;obtain⟨u,rfl,f⟩:=g.one;obtain⟨t,rfl⟩:=f;obtain⟨z,a,n,r,d,e⟩:=I.lstM c;obtain⟨w,p,b⟩:=r.get j;refine call_meets F.slot_list_pop ⟨_,e,rfl⟩ F.entry_list_pop (F.args_list_pop_2 _ _)
  (MeetsSeq.list_pop_at l a.toArray n i t k w (fitsIndex_both h1 h2) (by rw[sT1,<- d];exact o) (by rw[<- aT1];exact p) (by rw[sT1];lia)) ⟨e,?_⟩
 refine⟨y,_,I.lset (its':=a.eraseIdx k) c e ?_ (r.eraseIdx k) ?_,b,q⟩
 ·show a.toArray.eraseIdxIfInBounds k=(a.eraseIdx k).toArray;rw[List.eraseIdxIfInBounds_toArray]
 ·have:=oM xs k;lia
def ID:R2:=fun x y H Q=>∃l b xs zs,x = .ref l/\y = .ref b/\H l=some (.lst xs)/\H b=some (.lst zs)/\xs.length+zs.length<=dL /\ ∀p,H p=none->Q (.ref p) (upd H p (.lst (xs++zs)))
theorem Ek:gp X (binaryOp .Add) ID:=by
 intro pins s σ H x y v u Q I f k h;obtain⟨l,b,xs,zs,rfl,rfl,j,m,t,q⟩:=h;cases f;cases k;obtain⟨z,c,n,r,p,e⟩:=I.lstM j;obtain⟨o,a,w,r2,g,d⟩:=I.lstM m;refine PySem.P.add_list e d ?_ (by rw[sT1,sT1];lia);have i:c.toArray++a.toArray=(c++a).toArray:=by simp
 rw[i];exact⟨.ref _,_,I.lnew (t':=s.toks) (r.append r2) (by rw[lA1];lia),rfl,q _ I.fresh⟩
end
section
variable{prog:dF}{w:dH}{A:dG}{E:dB->dD->Prop}{s:dD}
end
section
variable{X:Cx}
end
end L2
namespace Att
open PySem PySem.W PySem.Calls PyProof.Rows
theorem lY{P:Params}{h:dN}:∀(ns:List Int) (vs:List dB),WellAll P h vs (ns.map WData.int)->IntsAre vs ns:=by
 intro ns
 induction ns with
 |nil=>
  intro vs w;rw[aZ]at w;cases w;exact .nil
 |cons n ns ih=>
  intro vs w;rw[mP1]at w;cases w with
  |cons a b=>
   cases a;exact .cons _ _ (ih _ b)
theorem wF{l:OpenLaw}{n:Nat}(hn:l.most=some n){P:Params}{h:dN}{args:List WData}{b:List dB}(c:l.row.toRowW.claim.pre args=true)(j:WellAll P h b args):
  ∃a vs ns,b=[Value.ref a]/\args=[WData.list (ns.map WData.int)]/\h.get? a=some {cls:=.type "list",data:=.seq vs.toArray}/\IntsAre vs ns/\ns.length<=n:=by
 have k:WShape.hasAll [] args [.list .int]=true:=(pre_splitW c).1;have hc:l.pre.holds [] {args:=args}=true:=(pre_splitW c).2;obtain⟨d,r,rfl,h1,h2⟩:=hasAllW_cons k;obtain rfl:=hasAllW_nil h2;obtain⟨xs,rfl,s⟩:=hasW_list h1;obtain⟨ns,rfl⟩:=items_int s;have f:ns.length<=n:=by
  unfold OpenLaw.pre at hc;have i:(WTm.not (.lt (.lit (.int (n:Int))) (.len (.arg 0)))).holds [] {args:=[.list (ns.map .int)]}=true:=by
   have i:=(holds_andW hc).1;rw[hn]at i;exact i
  have g:=condW_of i (w_not (w_lt w_lit (w_len_list (w_arg rfl))));rw[lM1]at g;refine a0 fun q=>?_;have o:(n:Int)<((ns.length:Nat):Int):=by omega
  first
   |(rw[decide_eq_true o]at g;exact absurd g (by decide))
   |(simp at g;omega)
 cases j with
 |cons m p=>
  cases p;cases m with
  |list t e=>exact⟨_,_,ns,rfl,rfl,t,lY ns _ e,f⟩
theorem wG(l:OpenLaw)(args:List WData):l.row.toRowW.claim.post args (.bool true) args=true:=
 postW_of (r:=l.row.toRowW) (X:=(true == true))
  (show WShape.has [] (.bool true) .bool=true by first|rfl|decide|simp[WShape.has,WShape.arms,WShape.armsAll])
  (show(WTm.eq .res (.lit (.bool true))).value [] {args:=args,res:=some (.bool true),after:=args}=some (.bool (true == true))from w_eq_bool (w_res rfl) w_lit) rfl
theorem attach_call {l:OpenLaw}{n:Nat}{q:dF}{e:List Str}{XP:(Str->Option dB)->dN->Prop}{B:dH->dN->Prop}{d:DefRec}
  (hn:l.most=some n) (u:d.params.defaults=[])
  (call:∀(w:dH) (c b:dD) (mg y:Str->Option dB) (i:dE) (o:Obj) (t p h:dB) (a:dE) (vs:List dB) (ns:List Int),
   Ground q e [] XP w c mg y b.heap->B w b.heap ->
   b.heap.get? i=some o->o.data = .func (docDef d.name d.params d.body d.scope t p h)->b.heap.CodeRec p d.name->mg d.name=some (.ref i) ->
   b.heap.get? a=some {cls:=.type "list",data:=.seq vs.toArray}->IntsAre vs ns->ns.length<=n->b.gens = #[] ->
   codeAny (model l.prog w) callerA (.call (.ref i) ⟨[.ref a],[]⟩) (fun r s'=>r = .ok (.ret (.bool true))/\OldK b.heap s'.heap/\s'.os=b.os/\AllBare s'.gens) b):
  WalkO q e XP B l.row.toRowW d [] (fun f vs=>PySem.call f vs):=by
 intro w c b mg y G Y i o t p h O kV I N v C s K D z as j A L x E;obtain rfl:O = .none:=Dflts.none C u;obtain rfl:kV = .none:=Dflts.noKw C;obtain⟨a,vs,ns,rfl,rfl,k,g,m⟩:=wF hn j x;refine enter_call (codeAny_mono (call w c b mg y i o t p h a vs ns G Y I (fd_plain N) v s k g m K) fun r s' F=>?_);obtain⟨rfl,h2,M,J⟩:=F;exact⟨.inl ⟨.bool true,.bool true,[],rfl,fun _=>rfl,.bool true,wG l _,fun _=>⟨List.Pairwise.nil,fun _ H=>(nomatch H)⟩⟩,h2,M,J⟩
section
variable{prog:dF}{w:dH}{A:dG}{E:dB->dD->Prop}{s:dD}{K:Frag}
end
end Att
namespace L2
open PySem PySem.Spec PyProof.Rows
theorem ww:∀{vs:List dB} {ns:List Int},IntsAre vs ns->ei (ns.map V.int) vs:=by
 intro vs ns h
 induction h with
 |nil=>exact .nil
 |cons n t h ih=>exact .cons ⟨t,rfl⟩ ih
def CM(H:Hp):Prop:=∀b,H b=none \/ ∃o xs,H b=some (.frz o (.lst xs))
theorem zJ {P:dF}{w:dH}{K:Fg1}{mg I:Str->Option dB}{CX:xJ}{k:Nat}{C a:dE}{fd:dP}{x:Str}{sp:Sp}{s₁:dD}{vs:List dB}{ns:List Int}
  (M:K.In s₁.heap) (i:s₁.heap.Ns dI mg) (hb:s₁.heap.Ns builtinsNs I) (J:∀x:Str,x≠"__name__"->I x=bootBuiltins x) (j:s₁.heap.NoLimit) (hg:s₁.gens = #[])
  (ha:s₁.heap.get? a=some {cls:=.type "list",data:=.seq vs.toArray}) (hi:IntsAre vs ns) (O:ns.length<=dL) (hr:fN k callerA)
  (F:∀base:dN,K.In base->base.Ns dI mg->js P w K mg base CX k C fd [x] sp) (g:∀(s:dD) (u:dB),BindsTo s fd ⟨[u],[]⟩ [(x,u)])
  (D:∀H:Hp,CM H->lV K H a (ns.map V.int)->sp [.ref a] H (fun v _=>v = .bl true) fun _ _ _=>False)
  (E:∀H e s',CX [] H s₁ (fun _ _ _=>False) e s'->False):
  codeAny (model P w) callerA (.call (.ref C) ⟨[.ref a],[]⟩) (fun r s'=>r = .ok (.ret (.bool true))/\OldK s₁.heap s'.heap/\s'.os=s₁.os/\AllBare s'.gens) s₁:=by
 have S:=ww hi;have A:=hi.length
 -- from an abstract heap in which nothing but the script may be tracked
 have f:∀ H:Hp,CM H->lV K H a (ns.map V.int)->kQ P w H s₁.heap->(∀ b,H b≠none->b=a)->(H a≠none->K.lookup a=none) ->
   codeAny (model P w) callerA (.call (.ref C) ⟨[.ref a],[]⟩) (fun r s'=>r = .ok (.ret (.bool true))/\OldK s₁.heap s'.heap/\s'.os=s₁.os/\AllBare s'.gens) s₁:=by
  intro H N X B Q hK;have base_of:∀{b:dE} {o:Obj},s₁.heap.get? b=some o->H b=none->(qq s₁.heap H).get? b=some o:=fun e n=>zT e n;have L:∀{b:dE} {o:Obj} {es:Array DictEntry} {ep:Nat},s₁.heap.get? b=some o->o.data = .dict es ep->H b=none:=fun{b o es ep} e d=>by
   cases q:H b with
   |none=>rfl
   |some u=>
    have G:b=a:=Q b (by rw[q];simp);subst G;rw[ha]at e;cases e;have d':Data.seq vs.toArray _=Data.dict es ep:=d;cases d'
  have c:∀{b:dE} {m:Str->Option dB},s₁.heap.Ns b m->(qq s₁.heap H).Ns b m:=fun{b m} ⟨o,es,ep,e,d,r⟩=>⟨o,es,ep,base_of e (L e d),d,r⟩;have y:K.In (qq s₁.heap H):=fun b o e=>base_of (M b o e) (by
   cases q:H b with
   |none=>rfl
   |some u=>
    have G:b=a:=Q b (by rw[q];simp);subst G;rw[hK (by rw[q];simp)]at e;cases e)
  have U:Mod K mg (qq s₁.heap H):=⟨y,c i,⟨I,c hb,J⟩,let ⟨mc,h1,h2⟩:=j;⟨mc,c h1,h2⟩⟩;have T:CN P w K mg (qq s₁.heap H) callerA [] s₁ H:=⟨rfl,U,fun b o e=>BE e,Nat.le_of_eq (w9 _ _),trivial,fun b hb=>absurd (show b∈([]:List dE)from hb) (by simp),B,.of_eq hg⟩;refine codeAny_mono ((F _ y (c i)).run callerA [] s₁ H ⟨[.ref a],[]⟩ [.ref a] [.ref a] _ _ hr T (g s₁ (.ref a)) (.cons rfl .nil) (D H N X)) fun r s' h=>?_;cases r with
  |error e=>exact(E H e s' h).elim
  |ok fl=>
   cases fl with
   |next=>exact False.elim h
   |brk=>exact False.elim h
   |cont=>exact False.elim h
   |ret u=>
    obtain⟨v,H',Z,p,un,l,W,q⟩:=h;have q':v = .bl true:=q;subst q';obtain rfl:u=Value.bool true:=W;refine⟨rfl,OldK.of_keep fun b o e=>?_,Z,p⟩;cases q:H b with
    |none=>exact un.keep b o e q (by intro z;exact absurd (show b∈([]:List dE)from z) (by simp)) (by simp)
    |some u=>
     rcases N b with z|⟨Y,xs,z⟩
     ·rw[q]at z;cases z
     ·have z2:=un.frzs b Y _ z;obtain⟨R,_⟩:=B b _ z;obtain⟨e2,_⟩:=l b _ z2;rw[e]at R;cases R;exact e2
 cases hk:K.lookup a with
 |some o=>
  -- the script is one of the module's own objects
  have e:=M a o hk;rw[ha]at e;cases e;refine f (fun _=>none) (fun _=>.inl rfl) (.inr ⟨_,vs.toArray,_,hk,rfl,rfl,rfl,by rw[sT1,A];exact O,by simpa using S⟩) (fun b u z=>by have t:(none:Option HO)=some u:=z;cases t) (fun b z=>absurd rfl z) fun z=>absurd rfl z
 |none=>
  refine f (fun b=>if b=a then some (.frz {cls:=.type "list",data:=.seq vs.toArray} (.lst (ns.map V.int)))else none) (fun b=>?_) (.inl (.inr ⟨{cls:=.type "list",data:=.seq vs.toArray},if_pos rfl⟩)) (fun b u z=>?_) (fun b z=>?_) fun _=>hk
  ·by_cases hb:b=a
   ·exact .inr ⟨_,_,if_pos hb⟩
   ·exact .inl (if_neg hb)
  ·by_cases hb:b=a
   ·have t:=(if_pos hb).symm.trans z;cases t;subst hb;exact⟨ha,by rw[lM1];exact O,vs,_,S,ha⟩
   ·have t:=(if_neg hb).symm.trans z;cases t
  ·by_cases hb:b=a
   ·exact hb
   ·exact absurd (if_neg hb) z
end L2
namespace L2
open PySem PySem.Spec PyProof.Rows
theorem A4{l:PySem.W.OpenLaw}{n k:Nat}{q:dF}{c:List Str}{XP:(Str->Option dB)->dN->Prop}{B:dH->dN->Prop}{d:DefRec}{K:Params->Fg1}{CX:dH->xJ}{sp:dH->Sp}{x:Str}(hn:l.most=some n)(z:n<=dL)(r:d.params.defaults=[])(hr:fN k callerA)(J:∀(w:dH) (h:dN),B w h->(K w.params).In h)(F:∀(w:dH) (mg:Str->Option dB) (m:dE) (h:dN),(K w.params).In h->h.Ns dI mg->mg d.name=some (.ref m) ->
   ∃fd:dP,(∀(s:dD) (u:dB),BindsTo s fd ⟨[u],[]⟩ [(x,u)]) /\
    ∀base:dN,(K w.params).In base->base.Ns dI mg->js l.prog w (K w.params) mg base (CX w) k m fd [x] (sp w))(t:∀(w:dH) (H:Hp) (a:dE) (ns:List Int),ns.length<=n->CM H->lV (K w.params) H a (ns.map V.int)->sp w [.ref a] H (fun v _=>v = .bl true) fun _ _ _=>False)(y:∀(w:dH) (H:Hp) (s:dD) (e:dB) (s':dD),CX w [] H s (fun _ _ _=>False) e s'->False):
  PySem.W.WalkO q c XP B l.row.toRowW d [] (fun f vs=>PySem.call f vs):=by
 refine Att.attach_call hn r fun w A i mg T m o P R N a vs ns G Y Q S L p j g b M=>?_;have C:=J w _ Y;obtain⟨fd,O,I⟩:=F w mg m _ C G.T.g p;exact zJ C G.T.g G.T.b G.T.builtins G.T.nolimit M j g (aC b z) hr I O (fun H E D=>t w H a ns b E D) fun H e s'=>y w H i e s'
end L2
namespace L2
open PySem PySem.Spec PyProof.Rows
def hB(s:dQ):Arguments:=match s with
 | .FunctionDef _ a _ _ _ _ _ _ _ _=>a
 |_=>{posonlyargs:=[],args:=[],vararg:=none,kwonlyargs:=[],kw_defaults:=[],kwarg:=none,defaults:=[]}
def fq(s:dQ):List dQ:=match s with
 | .FunctionDef _ _ b _ _ _ _ _ _ _=>b
 |_=>[]
def ea(s:dQ):dR:=match s with
 | .FunctionDef _ _ _ _ _ _ sc _ _ _=>sc
 |_=>{kind:=.function,names:=[],isGenerator:=false,isCoroutine:=false}
abbrev tw:xJ:=fun _ _ _ _ _ _=>False
abbrev E0:XK:=fun _ _ _=>False
theorem Gu{X:Cx}:uN tw X E0:=fun _ _ _ _ _ _ _ h=>h.elim
structure xO (K:Fg1)(x qual:Str)(st:dQ)(f:dE)(fd:dP):Prop where
 ex:∃(oc:dB) (od:Option dE) (kV doc pm:dB) (an:Option dE) (cdv ct:dB) (osl:Array (Option dB)),
  fd=wF1 x qual (hB st) (fq st) (ea st) .none kV doc pm an cdv ct/\K.lookup f=some ⟨oc,od,.func fd,osl⟩/\wC1 K cdv qual=true
 kp:wK1 K (.ref f)=true
section
variable{P:dF}{w:dH}{K:Fg1}{mg:Str->Option dB}{base:dN}
theorem xO.ok{x b:Str}{st:dQ}{f:dE}{fd:dP}{N ps:List Str}{k:Nat}{sp:Sp}(F:xO K x b st f fd)(S:gh N ps (ea st))(len:∀ vs H Q E,sp vs H Q E->vs.length=ps.length)(d:∀(c:dB) (A:dG) (a:List Env) (s:dD) (H:Hp) (vs:List V) (Q:VK) (E:XK),fN k (A.deeper (envOfC b (ea st) s.heap.objs.size f c))->sp vs H Q E ->
   ∃t,tG (lZ tw P w K mg base N b (ea st) f c A a s H E).nox (fq st) t/\t {nx:=fun _ H'=>Q .non H',rt:=Q} (iL N vs) H):js P w K mg base tw (k+1) f fd ps sp:=by
 obtain⟨r,p,kV,i,o,n,c,ct,m,rfl,l,e⟩:=F.ex;refine G8 l e S len fun A a s H vs Q E j g=>?_;obtain⟨t,h,q⟩:=d c A a s H vs Q E j g;exact⟨t,h.nox,q⟩
theorem xO.binds{x a:Str}{st:dQ}{f:dE}{fd:dP}{ps:List Str}(F:xO K x a st f fd)(h:∀(kV c g:dB) (d:Option dE) (b ct:dB) (e:List dB),e.length=ps.length->bindArgs (wF1 x a (hB st) (fq st) (ea st) .none kV c g d b ct) ⟨e,[]⟩=pure (ps.zip e)):kS K fd ps []:=by
 obtain⟨m,k,kV,c,g,d,b,ct,j,rfl,l,i⟩:=F.ex;exact .all (h kV c g d b ct)
theorem Ab{x a:Str}{st:dQ}{f:dE}{j:dB}{i g:Option dE}{e:Array (Option dB)}{kV d h b ct:dB}(l:K.lookup f=some ⟨j,i,.func (wF1 x a (hB st) (fq st) (ea st) .none kV d h g b ct),e⟩)(c:wC1 K b a=true)(k:wK1 K (.ref f)=true):xO K x a st f (wF1 x a (hB st) (fq st) (ea st) .none kV d h g b ct):=⟨⟨j,i,kV,d,h,g,b,ct,e,rfl,l,c⟩,k⟩
end
section
variable{X:Cx}
theorem pv (i:Nat){x:Str}{pos:Pos}(hN:X.N[i]? = some x:=by rfl)(hv:Vis X.env.scope x:=by first | exact Or.inl rfl | exact Or.inr (Or.inl rfl) | exact Or.inr (Or.inr rfl))(hd:(x == ("__debug__":Str))=false:=by decide)
  (hcd:(x == ("__classdict__":Str))=false:=by decide):PE X (.Name x pos) (FZ i):=yX hN hv hd hcd
end
end L2
namespace L2
open PySem PySem.Spec PyProof.Rows
section
variable{κ:Type} [DecidableEq κ]
def il(kvs:List (κ×V))(k:κ):Option V:=(kvs.find? fun kv=>decide (kv.1=k)).map (·.2)
def hW(kvs:List (κ×V))(k:κ)(v:V):List (κ×V):=
 if(kvs.any fun kv=>decide (kv.1=k))=true then kvs.map (fun kv=>if kv.1=k then(kv.1,v)else kv)else kvs++[(k,v)]
theorem ms{p:κ×V}{r:List (κ×V)}{k:κ}(e:p.1=k):il (p::r) k=some p.2:=by simp[il,bc,e]
theorem mw{p:κ×V}{r:List (κ×V)}{k:κ}(e:¬ p.1=k):il (p::r) k=il r k:=by simp[il,bc,e]
theorem rg(k:κ):∀kvs:List (κ×V),(kvs.any fun a=>decide (a.1=k))=(il kvs k).isSome
 |[]=>rfl
 |p::r=>by
  rw[bd];by_cases e:p.1=k
  ·simp only[ms e,decide_eq_true e,Bool.true_or,Option.isSome_some]
  ·rw[mw e,decide_eq_false e,Bool.false_or];exact rg k r
theorem iV(kvs:List (κ×V))(k:κ)(v:V):(hW kvs k v).length<=kvs.length+1:=by
 unfold hW;split
 ·rw[lM1];lia
 ·rw[lA1,lC1,bf];lia
theorem l6.isSome_eq{o:Option V}{u:Option dB}(r:l6 o u):o.isSome=u.isSome:=by
 cases o with
 |none=>cases u with
  |none=>rfl
  |some _=>exact(show False from r).elim
 |some _=>cases u with
  |none=>exact(show False from r).elim
  |some _=>rfl
theorem l6.getD{o:Option V}{u:Option dB}{d:V}{d':dB}(r:l6 o u)(a:d6 d d'):d6 (o.getD d) (u.getD d'):=by
 cases o with
 |none=>cases u with
  |none=>exact a
  |some _=>exact(show False from r).elim
 |some _=>cases u with
  |none=>exact(show False from r).elim
  |some _=>exact r
theorem KV.val{kvs:List (κ×V)}{vs:List (κ×dB)}(r:KV kvs vs)(k:κ):l6 (il kvs k) (valueAt vs k):=by
 unfold KV at r
 induction r with
 |nil=>exact True.intro
 | @cons p q ps a h t ih=>
  obtain⟨h1,h2⟩:=h;by_cases e:p.1=k
  ·have c:q.1=k:=h1.symm.trans e;have b:valueAt (q::a) k=some q.2:=by simp[valueAt,bc,c]
   rw[ms e,b];exact h2
  ·have c:¬ q.1=k:=fun z=>e (h1.trans z);have b:valueAt (q::a) k=valueAt a k:=by simp[valueAt,bc,c]
   rw[mw e,b];exact ih
theorem KV.any{kvs:List (κ×V)}{vs:List (κ×dB)}(r:KV kvs vs)(k:κ):(kvs.any fun a=>decide (a.1=k))=vs.any fun a=>decide (a.1=k):=by
 unfold KV at r
 induction r with
 |nil=>rfl
 |cons h t ih=>rw[bd,bd,ih,h.1]
theorem KV.repl{kvs:List (κ×V)}{vs:List (κ×dB)}(r:KV kvs vs)(k:κ){y:V}{u:dB}(b:d6 y u):
  KV (kvs.map fun a=>if a.1=k then(a.1,y)else a) (vs.map fun a=>if a.1=k then(a.1,u)else a):=by
 unfold KV at r ⊢
 induction r with
 |nil=>exact .nil
 | @cons p q ps c h t ih=>
  rw[mP1,mP1];refine .cons ?_ ih;obtain⟨h1,h2⟩:=h;by_cases e:p.1=k
  ·rw[if_pos e,if_pos (h1.symm.trans e)];exact⟨h1,b⟩
  ·rw[if_neg e,if_neg (fun z=>e (h1.trans z))];exact⟨h1,h2⟩
theorem KV.put{kvs:List (κ×V)}{vs:List (κ×dB)}(r:KV kvs vs)(k:κ){y:V}{u:dB}(a:d6 y u):KV (hW kvs k y) (stored vs k u):=by
 unfold hW stored;rw[r.any k];by_cases e:(vs.any fun b=>decide (b.1=k))=true
 ·rw[if_pos e,if_pos e];exact r.repl k a
 ·rw[if_neg e,if_neg e];exact Paired.snoc r ⟨rfl,a⟩
theorem KV.length{kvs:List (κ×V)}{vs:List (κ×dB)}(r:KV kvs vs):kvs.length=vs.length:=Paired.length r
end
theorem oO{P:dF}{w:dH}{k:Key}{u:dB}(r:d6 (kV k) u):(eW P w).is k u=true:=by
 cases k with
 |inl i=>obtain⟨t,e⟩:=(show∃t,u=Value.int i t from r);subst e;exact rZ P w i t
 |inr x=>obtain⟨t,e⟩:=(show∃t,u=Value.str x t from r);subst e;exact rY P w x t
theorem oP{P:dF}{w:dH}:∀{ks:List Key} {a:List dB},ei (ks.map kV) a->ItemsAre (eW P w) ks a
 |[],_,r=>by rw[aZ]at r;cases r;exact .nil
 |k::ks,_,r=>by
  rw[mP1]at r;cases r with
  |cons h t=>exact .cons (oO h) (oP t)
abbrev KT(H:Hp):List (List Key×V)->List (List Key×dE×dB)->Prop:=Paired fun p q=>p.1=q.1/\H q.2.1=some (.tup (p.1.map kV))/\d6 p.2 q.2.2
theorem KT.val{H:Hp}{kvs:List (List Key×V)}{xs:List (List Key×dE×dB)}(r:KT H kvs xs)(k:List Key):l6 (il kvs k) ((atKey xs k).map (·.2)):=by
 induction r with
 |nil=>exact True.intro
 | @cons p q ps a h t ih=>
  obtain⟨h1,_,h2⟩:=h;by_cases e:p.1=k
  ·have c:q.1=k:=h1.symm.trans e;have b:atKey (q::a) k=some q.2:=by simp[atKey,bc,c]
   rw[ms e,b];exact h2
  ·have c:¬ q.1=k:=fun z=>e (h1.trans z);have b:atKey (q::a) k=atKey a k:=by simp[atKey,bc,c]
   rw[mw e,b];exact ih
theorem KT.repl{H:Hp}{kvs:List (List Key×V)}{xs:List (List Key×dE×dB)}(r:KT H kvs xs)(k:List Key){y:V}{u:dB}(b:d6 y u):
  KT H (kvs.map fun a=>if a.1=k then(a.1,y)else a) (xs.map (putAt k u)):=by
 induction r with
 |nil=>exact .nil
 | @cons p q ps d h t ih=>
  rw[mP1,mP1];refine .cons ?_ ih;obtain⟨h1,h2,c⟩:=h;unfold putAt;by_cases e:p.1=k
  ·rw[if_pos e,if_pos (h1.symm.trans e)];exact⟨h1,h2,b⟩
  ·rw[if_neg e,if_neg (fun z=>e (h1.trans z))];exact⟨h1,h2,c⟩
theorem KT.put{H:Hp}{kvs:List (List Key×V)}{xs:List (List Key×dE×dB)}(r:KT H kvs xs)(k:List Key){b:dE}{y:V}{u:dB}(hb:H b=some (.tup (k.map kV)))(a:d6 y u):
  KT H (hW kvs k y) (storedH xs k b u):=by
 have e:(kvs.any fun c=>decide (c.1=k))=(atKey xs k).isSome:=by
  rw[rg,(r.val k).isSome_eq,bg]
 unfold hW storedH;rw[e];by_cases q:(atKey xs k).isSome=true
 ·rw[if_pos q,if_pos q];exact r.repl k a
 ·rw[if_neg q,if_neg q];exact Paired.snoc r ⟨rfl,hb,a⟩
theorem KT.keeps{H H':Hp}{kvs:List (List Key×V)}{xs:List (List Key×dE×dB)}(r:KT H kvs xs)(ht:∀b ys,H b=some (.tup ys)->H' b=some (.tup ys)):KT H' kvs xs:=
 Paired.mapP r fun _ _ z=>⟨z.1,ht _ _ z.2.1,z.2.2⟩
section
variable{P:dF}{w:dH}{H:Hp}{h:dN}{a:dE}
theorem CY{u:HO}(ok:kQ P w H h)(e:Rd H a u):eN P w H h a u:=e.ok ok
theorem sN{kvs:List (Key×V)}(ok:kQ P w H h)(e:Rd H a (.dK kvs)):kvs.length<=dL/\(a == sysModules)=false /\ ∃vs,KV kvs vs/\h.DictOf (eW P w) a vs:=
 show eN P w H h a (.dK kvs)from CY ok e
theorem vY{kvs:List (Key×V)}(ok:kQ P w H h)(e:H a=some (.dK kvs)):kvs.length<=dL/\(a == sysModules)=false /\ ∃vs,KV kvs vs/\h.DictOf (eW P w) a vs:=sN ok (.inl e)
theorem m5{ks:List Key}(ok:kQ P w H h)(e:H a=some (.tup (ks.map kV))):(tupleKind (eW P w)).is h ks a:=by
 obtain⟨_,b,r,o,h1,h2,n,c⟩:=(show eN P w H h a (.tup (ks.map kV))from ok a _ e);exact⟨o,b.toArray,n,h1,h2,c,by simpa using oP r⟩
theorem sL{kvs:List (List Key×V)}(ok:kQ P w H h)(e:Rd H a (.dT kvs)):kvs.length<=dL/\(a == sysModules)=false /\
  ∃xs,KT H kvs xs/\h.DictOfH (tupleKind (eW P w)) a xs:=by
 obtain⟨z,y,xs,r,o,es,ep,h1,h2,g,f,d⟩:=(show eN P w H h a (.dT kvs)from CY ok e);refine⟨z,y,xs,r,o,es,ep,h1,h2,g,f,fun x b=>?_,d⟩;have all:∀{l:List (List Key×V)} {m:List (List Key×dE×dB)},KT H l m -> ∀x∈m,(tupleKind (eW P w)).is h x.1 x.2.1:=by
  intro l m q
  induction q with
  |nil=>intro x b;exact nomatch b
  | @cons p q ps i c t ih=>
   intro x b;rcases aF.mp b with e|b
   ·subst e;exact m5 ok (by rw[<- c.1];exact c.2.1)
   ·exact ih x b
 exact all r x b
theorem Hf{kvs:List (List Key×V)}(ok:kQ P w H h)(e:H a=some (.dT kvs)):kvs.length<=dL/\(a == sysModules)=false /\
  ∃xs,KT H kvs xs/\h.DictOfH (tupleKind (eW P w)) a xs:=sL ok (.inl e)
end
def n4(H:Hp)(a:dE)(y:V)(r:Option V):Prop:=
 (∃kvs k,Rd H a (.dK kvs)/\y=kV k/\r=il kvs k) \/ ∃kvs k b,Rd H a (.dT kvs)/\y = .ref b/\H b=some (.tup (k.map kV))/\r=il kvs k
def xI(H:Hp)(a:dE)(y v:V)(H':Hp):Prop:=
 (∃kvs k,H a=some (.dK kvs)/\y=kV k/\kvs.length<dL/\H'=upd H a (.dK (hW kvs k v))) \/
 ∃kvs k b,H a=some (.dT kvs)/\y = .ref b/\H b=some (.tup (k.map kV))/\kvs.length<dL/\H'=upd H a (.dT (hW kvs k v))
theorem n4.k{H:Hp}{a:dE}{kvs:List (Key×V)}{k:Key}(e:H a=some (.dK kvs)):n4 H a (kV k) (il kvs k):=.inl ⟨kvs,k,.inl e,rfl,rfl⟩
theorem n4.t{H:Hp}{a b:dE}{kvs:List (List Key×V)}{k:List Key}(e:H a=some (.dT kvs))(c:H b=some (.tup (k.map kV))):n4 H a (.ref b) (il kvs k):=.inr ⟨kvs,k,b,.inl e,rfl,c,rfl⟩
theorem xI.k{H:Hp}{a:dE}{kvs:List (Key×V)}{k:Key}{v:V}(e:H a=some (.dK kvs))(b:kvs.length<dL):xI H a (kV k) v (upd H a (.dK (hW kvs k v))):=.inl ⟨kvs,k,e,rfl,b,rfl⟩
theorem xI.t{H:Hp}{a b:dE}{kvs:List (List Key×V)}{k:List Key}{v:V}(e:H a=some (.dT kvs))(d:H b=some (.tup (k.map kV)))(c:kvs.length<dL):
  xI H a (.ref b) v (upd H a (.dT (hW kvs k v))):=.inr ⟨kvs,k,b,e,rfl,d,c,rfl⟩
section
variable{X:Cx}{pins:List (dE×Obj)}{σ:St}{H:Hp}{s:dD}{a:dE}{y v:V}{u r:dB}{o:Option V}{A:dG}{E:dB->dD->Prop}
theorem Inv.big(I:Inv X pins σ H s):sysModules<s.heap.objs.size:=by
 have h:dI<s.heap.objs.size:=(I.mod.glob.keeps I.bk).lt;exact bh (by decide) h
theorem xp{Q:dB->dD->Prop}(t:A.units+1<cLine)(I:Inv X pins σ H s)(g:n4 H a y (some v))(n:d6 y u)(h:∀ f s',Inv X pins σ H s'->d6 v f->Q f s'):
  dM (model X.prog X.w) A (getItem (.ref a) u) Q E s:=by
 rcases g with⟨kvs,k,e,j,l⟩|⟨kvs,k,b,e,j,q,l⟩
 ·subst j;obtain⟨z,w,vs,d,dd⟩:=sN I.hok e;obtain⟨f,m,c⟩:=l6.some_of (v:=v) (o:=valueAt vs k) (by rw[l];exact d.val k);exact wpAny_getItem_of (oO n) dd.mapOf m (h f _ (I.tok _) c)
 ·subst j;cases(show u=Value.ref b from n);obtain⟨z,w,xs,d,dd⟩:=sL I.hok e;obtain⟨f,m,c⟩:=l6.some_of (v:=v) (o:=(atKey xs k).map (·.2)) (by rw[l];exact d.val k);obtain⟨p,r,i⟩:=oM1.mp m;refine wpAny_getItem_heap (tupleKind_room_in1 t) (m5 I.hok q) dd r ?_;rw[i];exact h f _ (I.tok _) c
theorem IT{Q:dB->dD->Prop}(m:A.units+1<cLine)(I:Inv X pins σ H s)(g:n4 H a y o)(i:d6 y u)(h:∀ s',Inv X pins σ H s'->Q (.bool o.isSome) s'):
  dM (model X.prog X.w) A (compareOp .In u (.ref a)) Q E s:=by
 rcases g with⟨kvs,k,e,d,l⟩|⟨kvs,k,b,e,d,j,l⟩
 ·subst d;obtain⟨z,f,vs,c,dd⟩:=sN I.hok e;refine wpAny_in_of (oO i) f dd.mapOf ?_;rw[<- (c.val k).isSome_eq,<- l];exact h _ (I.tok _)
 ·subst d;cases(show u=Value.ref b from i);obtain⟨z,f,xs,c,dd⟩:=sL I.hok e;refine wpAny_in_heap (tupleKind_room_in1 m) (m5 I.hok j) f dd ?_;have q:=(c.val k).isSome_eq;rw[bg]at q;rw[<- q,<- l];exact h _ (I.tok _)
theorem Cv{Q:dB->dD->Prop}(m:A.units+1<cLine)(I:Inv X pins σ H s)(g:n4 H a y o)(i:d6 y u)(h:∀ s',Inv X pins σ H s'->Q (.bool (!o.isSome)) s'):
  dM (model X.prog X.w) A (compareOp .NotIn u (.ref a)) Q E s:=by
 rcases g with⟨kvs,k,e,d,l⟩|⟨kvs,k,b,e,d,j,l⟩
 ·subst d;obtain⟨z,f,vs,c,dd⟩:=sN I.hok e;refine wpAny_notIn_of (oO i) f dd.mapOf ?_;rw[<- (c.val k).isSome_eq,<- l];exact h _ (I.tok _)
 ·subst d;cases(show u=Value.ref b from i);obtain⟨z,f,xs,c,dd⟩:=sL I.hok e;refine wpAny_notIn_heap (tupleKind_room_in1 m) (m5 I.hok j) f dd ?_;have q:=(c.val k).isSome_eq;rw[bg]at q;rw[<- q,<- l];exact h _ (I.tok _)
theorem kF{h':dN}{t':Nat}{c:HO}(I:Inv X pins σ H s)(mu:Mut (H a))(hs:Heap.SameBut a s.heap h')(he:∃ q,h'.get? a=some q)(new:eN X.prog X.w (upd H a c) h' a c):
  Inv X pins σ (upd H a c) {s with heap:=h',toks:=t'}:=
 I.write (x:=a) (e:=a) mu (.inl rfl) (fun b q d z=>(hs.2 b d).trans z) he new
theorem Au{P:dF}{w:dH}{H':Hp}{h':dN}{kvs:List (Key×V)}{vs:List (Key×dB)}(z:kvs.length<=dL)(hd:(a == sysModules)=false)(b:KV kvs vs)(dd:h'.DictOf (eW P w) a vs):
  eN P w H' h' a (.dK kvs):=⟨z,hd,vs,b,dd⟩
theorem xn{H':Hp}{Q:Unit->dD->Prop}(F:A.units+1<cLine)(I:Inv X pins σ H s)(g:xI H a y v H')(C:d6 y u)(x:d6 v r)(h:∀ s',Inv X pins σ H' s'->Q () s'):
  dM (model X.prog X.w) A (setItem (.ref a) u r) Q E s:=by
 rcases g with⟨kvs,k,e,o,l,p⟩|⟨kvs,k,b,e,o,w,l,p⟩
 ·subst o p;obtain⟨z,t,vs,d,dd⟩:=vY I.hok e;have n:vs.length<=dL:=by rw[<- d.length];exact z
  have j:(hW kvs k v).length<=dL:=by have:=iV kvs k v;lia
  refine wpAny_setItem_pairs (hsz:=n) (oO C) dd fun h' f m=>h _ ?_;have D:∃q,h'.get? a=some q:=let ⟨q,_,_,i,_⟩:=f;⟨q,i⟩
  exact kF I (by rw[e];exact True.intro) m D (Au j t (d.put k x) f)
 ·subst o p;cases(show u=Value.ref b from C);obtain⟨z,t,xs,d,dd⟩:=Hf I.hok e;have n:xs.length<=dL:=by rw[<- Paired.length d];exact z
  have j:(hW kvs k v).length<=dL:=by have:=iV kvs k v;lia
  refine wpAny_setItem_heap (hsz:=n) (tupleKind_room_in1 F) (m5 I.hok w) dd fun h' f m=>h _ ?_;obtain⟨q,es,ep,i,h2,K,J,_,G⟩:=f;refine kF I (by rw[e];exact True.intro) m ⟨q,i⟩ ⟨j,t,_,(d.put k w x).keeps fun c ys B=>?_,q,es,ep,i,h2,K,J,G⟩;rw[dY (GC B e (fun z=>nomatch z))];exact B
end
section
variable{X:Cx}{pins:List (dE×Obj)}{σ:St}{H:Hp}{s:dD}{a:dE}{kvs:List (Key×V)}{k:Key}{u:dB}{A:dG}{E:dB->dD->Prop}
end
theorem sP{X:Cx}{pins:List (dE×Obj)}{σ:St}{H:Hp}{s:dD}{a:dE}{y:V}{o:Option V}(I:Inv X pins σ H s)(g:n4 H a y o):s.TypeIs (.ref a) "dict":=by
 rcases g with⟨kvs,k,e,_,_⟩|⟨kvs,k,b,e,_,_,_⟩
 ·obtain⟨_,_,vs,_,dd⟩:=sN I.hok e;exact dd.typeIs
 ·obtain⟨_,_,xs,_,dd⟩:=sL I.hok e;exact dd.typeIs
section
variable{X:Cx}{o i e value:Expr}{pos pos' tpos:Pos}{td ty tv:TE}
end
theorem sO{P:dF}{w:dH}{H:Hp}(h:dN)(hb:sysModules<h.objs.size):eN P w H (h.push {cls:=.type "dict",data:=.dict #[]}) h.objs.size (.dK []):=
 ⟨bi _,beq_eq_false_iff_ne.mpr (Ne.symm (nN1 hb)),[],.nil,Heap.DictOf.new h⟩
def DA:TE:=fun _ H Q=>∀p,H p=none->Q (.ref p) (upd H p (.dK []))
section
variable{X:Cx}{pos:Pos}
theorem y0:PE X (.Dict [] [] pos) DA:=fun pins s σ H Q I h=>
 wpAny_Dict_empty ⟨.ref s.heap.objs.size,_,I.laid (a:=s.heap.objs.size) (o:=.dK []) (t':=s.toks) (fun _ _ q=>hP1 _ q) (nR1 _) (sO s.heap I.big),rfl,h _ (I.hok.fresh (nR1 _))⟩
end
def pL:List (TE×TE)->St->Hp->(List (V×V)->Hp->Prop)->Prop
 |[],_,H,Q=>Q [] H
 |(tk,tv)::r,σ,H,Q=>tk σ H fun x H1=>tv σ H1 fun y H2=>pL r σ H2 fun ps H3=>Q ((x,y)::ps) H3
abbrev VV:List (V×V)->List (dB×dB)->Prop:=Paired fun p q=>d6 p.1 q.1/\d6 p.2 q.2
def Hz(X:Cx)(pos:Pos)(keys:List (Option Expr))(values:List Expr)(trs:List (TE×TE)):Prop:=
 ∀(pins:List (dE×Obj)) (s:dD) (σ:St) (H:Hp) (Q:List (V×V)->Hp->Prop),Inv X pins σ H s->pL trs σ H Q ->
  dM (model X.prog X.w) X.A (evalPairs (pairTrees keys values X.env pos)) (fun vs s'=>∃ps H',Inv X pins σ H' s'/\VV ps vs/\Q ps H') X.xe s
theorem Bo{X:Cx}{pos:Pos}:Hz X pos [] [] []:=fun pins s σ H Q I h=>pairTrees_nil_walk ⟨[],H,I,.nil,h⟩
theorem yQ{X:Cx}{pos:Pos}{k v:Expr}{ks:List (Option Expr)}{vs:List Expr}{tk tv:TE}{a:List (TE×TE)}(hk:PE X k tk)(hv:PE X v tv)(hr:Hz X pos ks vs a):
  Hz X pos (some k::ks) (v::vs) ((tk,tv)::a):=fun pins s σ H Q I h=>
 pairTrees_cons_walk (fg (hk pins s σ H _ I h) fun u d ⟨x,H1,j,e,n⟩=>fg (hv pins d σ H1 _ j n) fun q m ⟨y,H2,o,f,c⟩=>
  fg (hr pins m σ H2 _ o c) fun ws p ⟨ps,i,l,b,g⟩=>⟨(x,y)::ps,i,l,.cons ⟨e,f⟩ b,g⟩)
def iy(kvs more:List (Key×V)):List (Key×V):=more.foldl (fun acc kv=>hW acc kv.1 kv.2) kvs
theorem KV.merge:∀{more:List (Key×V)} {rs:List (Key×dB)} {kvs:List (Key×V)} {vs:List (Key×dB)},KV more rs->KV kvs vs->KV (iy kvs more) (merged vs rs):=by
 intro more rs kvs vs r;unfold KV at r
 induction r generalizing kvs vs with
 |nil=>intro q;exact q
 | @cons p q ps b h t ih=>
  intro a;have e:KV (hW kvs p.1 p.2) (stored vs q.1 q.2):=by
   have:=a.put p.1 h.2;rw[<- h.1];exact this
  exact ih e
theorem jy:∀(more kvs:List (Key×V)),(iy kvs more).length<=kvs.length+more.length
 |[],kvs=>by show kvs.length<=kvs.length+0;lia
 |p::r,kvs=>by
  have h1:=jy r (hW kvs p.1 p.2);have h2:=iV kvs p.1 p.2;show(iy (hW kvs p.1 p.2) r).length<=_;rw[lC1];lia
theorem nB{P:dF}{w:dH}:∀{kvs:List (Key×V)} {ws:List (dB×dB)},VV (kvs.map fun d=>(kV d.1,d.2)) ws -> ∃rs,Carries (eW P w) ws rs/\KV kvs rs
 |[],_,r=>by rw[aZ]at r;cases r;exact⟨[],True.intro,.nil⟩
 |p::kvs,_,r=>by
  rw[mP1]at r;cases r with
  | @cons a b as bs h t=>
   obtain⟨rs,c,q⟩:=nB (P:=P) (w:=w) t;obtain⟨b1,b2⟩:=b;exact⟨(p.1,b2)::rs,⟨oO h.1,rfl,c⟩,.cons ⟨rfl,h.2⟩ q⟩
def F9(trs:List (TE×TE)):TE:=fun σ H Q=>∀p,H p=none->pL trs σ (upd H p (.dK [])) fun ps H2=>H2 p=some (.dK []) /\ ∃kvs:List (Key×V),ps=kvs.map (fun kv=>(kV kv.1,kv.2))/\kvs.length<=15/\Q (.ref p) (upd H2 p (.dK (iy [] kvs)))
theorem Bx{X:Cx}{pos:Pos}{keys:List (Option Expr)}{values:List Expr}{d:List (TE×TE)}(h:Hz X pos keys values d)(b:keys.all (·.isSome)=true)(m:keys.length=values.length)(h0:keys≠[])(g:keys.length<=15):PE X (.Dict keys values pos) (F9 d):=by
 intro pins s σ H Q I q;have l:=I.hok.fresh (nR1 s.heap.objs.size);have u:=I.laid (a:=s.heap.objs.size) (o:=.dK []) (h':=s.heap.push {cls:=.type "dict",data:=.dict #[]}) (t':=s.toks) (fun _ _ q=>hP1 _ q) (nR1 _) (sO s.heap I.big);refine wpAny_Dict_walk (knd:=eW X.prog X.w) b m h0 g (fg (h pins _ σ _ _ u (q _ l)) fun ws A ⟨ps,H2,j,i,e,kvs,ep,y,n⟩=>?_);subst ep;obtain⟨rs,c,rk⟩:=nB (P:=X.prog) (w:=X.w) i;obtain⟨z,v,x,r,dd⟩:=vY j.hok e;cases r;refine⟨rs,c,dd,fun h' f p=>⟨.ref s.heap.objs.size,_,?_,rfl,n⟩⟩;have t:(iy [] kvs).length<=dL:=by
  have h1:=jy kvs [];rw[bf]at h1;rw[sizeLine_eq];lia
 have k:∃q,h'.get? s.heap.objs.size=some q:=let ⟨q,_,_,hq,_⟩:=f;⟨q,hq⟩
 exact kF j (by rw[e];exact True.intro) p k (Au t v (rk.merge .nil) f)
structure M2 (X:Cx)(o:Expr)(m:Str)(apos:Pos)(e f:Expr)(cpos:Pos):Prop where
 base:attributeBase o m X.env (eval o X.env)=eval o X.env
 few:((backTo cpos (dJ [e,f] X.env)).all (fun x=> !x.1)&&(backToKw cpos (keywordEach [] X.env)).all (fun x=>x.1.isSome)
  && decide (([e,f]:List Expr).length+([]:List Keyword).length+(if([]:List Keyword).isEmpty then 0 else 1)<30))=true
 line:(apos.endLine == cpos.line)=true
 trees:backTo cpos (dJ [e,f] X.env)=[(false,eval e X.env),(false,eval f X.env)]
section
variable{X:Cx}{pins:List (dE×Obj)}{σ:St}{H:Hp}{s:dD}{a:dE}{y d:V}{u r:dB}{o:Option V}{A:dG}{E:dB->dD->Prop}
end
section
variable{X:Cx}{o e f:Expr}{apos cpos:Pos}{td ty tx:TE}
end
section
variable{X:Cx}{pins:List (dE×Obj)}{σ:St}{H:Hp}{s:dD}{a:dE}{kvs:List (Key×V)}{A:dG}{E:dB->dD->Prop}
end
section
variable{X:Cx}{pins:List (dE×Obj)}{σ:St}{H:Hp}{s:dD}{a:dE}{y:V}{u:dB}{A:dG}{E:dB->dD->Prop}
end
end L2
namespace Mi
open PySem PySem.Spec PyProof.Rows L2
inductive TK where
 |non|int (i:Int)|tup (xs:List TK)
instance:DecidableEq TK:=fun _ _=>Classical.propDecidable _
mutual
def TK.hash:TK->Int
 | .non=>0xFCA86420
 | .int i=>hashInt i
 | .tup xs=>reduceHash (Builtin.Tuple.tupleHashOf (TK.hashes xs))
def TK.hashes:List TK->List Int
 |[]=>[]
 |x::xs=>TK.hash x::TK.hashes xs
end
mutual
def TK.draws:TK->Nat
 | .non=>1
 | .int _=>1
 | .tup xs=>TK.drawsAll xs+1
def TK.drawsAll:List TK->Nat
 |[]=>0
 |x::xs=>TK.draws x+TK.drawsAll xs
end
mutual
def TK.dep:TK->Nat
 | .non=>0
 | .int _=>0
 | .tup xs=>TK.depAll xs+1
def TK.depAll:List TK->Nat
 |[]=>0
 |x::xs=>max (TK.dep x) (TK.depAll xs)
end
theorem TK.dep_mem:∀{xs:List TK} {x:TK},x∈xs->x.dep<=TK.depAll xs
 |y::ys,x,h=>by
  rw[TK.depAll];rcases aF.mp h with e|e
  ·rw[e];exact Nat.le_max_left _ _
  ·exact aC (TK.dep_mem e) (Nat.le_max_right _ _)
theorem TK.hashes_app:∀a b:List TK,TK.hashes (a++b)=TK.hashes a++TK.hashes b
 |[],_=>rfl
 |x::xs,b=>by rw[bj,TK.hashes,TK.hashes,TK.hashes_app xs b];rfl
theorem TK.draws_app:∀a b:List TK,TK.drawsAll (a++b)=TK.drawsAll a+TK.drawsAll b
 |[],_=>by simp[TK.drawsAll]
 |x::xs,b=>by rw[bj,TK.drawsAll,TK.drawsAll,TK.draws_app xs b,bm]
def uM(xs:Array Nat):Prop:=xs.toList.Pairwise (· < ·)
def CW(m:Nat):Nat->Nat->Nat->List Nat
 |0,_,_=>[]
 |n+1,i,b=>List.range' i (SetTable.runEnd m i-i+1)++CW m n (SetTable.leap m i b).1 (SetTable.leap m i b).2
def JJ(m:Nat):Prop:=m=7\/m=31\/m=127
def Ir(m:Nat)(h:Int):List Nat:=CW m (SetTable.turns m) (SetTable.bits h%(m+1)) (SetTable.bits h)
def Iv(m:Nat)(occ:List Nat)(h:Int)(j:Nat):Prop:=∃pre post,Ir m h=pre++j::post /\ ∀y∈pre,y∈occ
structure Iu (es:Array (Int×dB))(t:SetTable):Prop where
 mks:JJ t.mask
 up:uM t.place
 du:t.dummies = #[]
 sz:t.place.size=es.size
 le:∀j∈t.place.toList,j<=t.mask
 fl:es.size<=t.mask
 rc:∀z∈t.place.toList.zip es.toList,Iv t.mask t.place.toList z.2.1 z.1
def stO(es:Array (Int×dB))(ep:Nat)(t:SetTable):Obj:={cls:=.type "set",dict:=none,data:=.set es ep t,slots:= #[]}
def Hy(a:dE)(xs:List (TK×dE×dB))(h:dN):Prop:=(xs.map (·.1)).Nodup /\ ∃es ep t,h.get? a=some (stO es ep t)/\Iu es t/\t.tooFull=false/\(∀e∈es.toList,∃z∈xs,e=(z.1.hash,.ref z.2.1))/\(∀z∈xs,(z.1.hash,Value.ref z.2.1)∈es.toList)/\es.size=xs.length
inductive D where
 |non|bl (b:Bool)|int (i:Int)|str (x:Str)|tup (xs:List D)|rol (xs:List D)|ref (n:Nat)|fn (x:Str)
inductive Ob where
 |lst (xs:List D)|dct (kvs:List (Key×D))|dcT (kvs:List (TK×D))|iset (xs:List Int)|dcF (kvs:List (TK×D))|tst (ks:List TK)
abbrev Sto:=List Ob
abbrev Ev:=List (Option D)
abbrev FE:=Ev->Sto->Option (D×Sto)
abbrev FT:=Ev->Sto->Option (Bool×Sto)
abbrev FA:=Ev->Sto->Option (List D×Sto)
abbrev FN:=List D->Sto->Option (D×Sto)
inductive Fl where
 |nx|rt (d:D)|bk|ct
abbrev FS:=Ev->Sto->Option (Fl×Ev×Sto)
def RoL(K:Fg1)(H:Hp)(a:dE)(xs:List V):Prop:=(∃o,H a=some (.frz o (.lst xs))) \/
 ∃(o:Obj) (its:Array dB) (n:Nat),K.lookup a=some o/\o.cls = .type "list"/\o.dict=none/\o.data = .seq its n/\its.size<=dL/\ei xs its.toList
theorem RoL.sq{K:Fg1}{H:Hp}{a:dE}{xs:List V}(h:RoL K H a xs):lV K H a xs:=h.elim (fun⟨o,q⟩=>.inl (.inr ⟨o,q⟩)) .inr
mutual
inductive eJ (K:Fg1)(H:Hp)(mu:List dE):D->V->Prop
 |non:eJ K H mu .non .non
 |bl (b:Bool):eJ K H mu (.bl b) (.bl b)
 |int (i:Int):eJ K H mu (.int i) (.int i)
 |str (x:Str):eJ K H mu (.str x) (.str x)
 |tup {ds:List D} {vs:List V} {a:dE} (h:jl K H a vs) (r:d0 K H mu ds vs):eJ K H mu (.tup ds) (.ref a)
 |rol {ds:List D} {vs:List V} {a:dE} (h:RoL K H a vs) (r:d0 K H mu ds vs):eJ K H mu (.rol ds) (.ref a)
 |ref {n:Nat} {a:dE} (h:mu[n]?=some a):eJ K H mu (.ref n) (.ref a)
 |fn {x:Str} {a:dE} (h:wN1 K dI x=some (some (.ref a))):eJ K H mu (.fn x) (.ref a)
inductive d0 (K:Fg1)(H:Hp)(mu:List dE):List D->List V->Prop
 |nil:d0 K H mu [] []
 |cons {d:D} {v:V} {ds:List D} {vs:List V} (r:eJ K H mu d v) (t:d0 K H mu ds vs):d0 K H mu (d::ds) (v::vs)
end
structure Ext (mu mu':List dE)(H H':Hp):Prop where
 pre:mu <+: mu'
 old:∀a o,H a=some o->a∉mu->H' a=some o
 tup:∀a xs,Rd H a (.tup xs)->Rd H' a (.tup xs)
 frz:∀a o u,H a=some (.frz o u)->H' a=some (.frz o u)
 new:∀a∈mu',a∈mu\/H a=none
theorem Ext.refl(mu:List dE)(H:Hp):Ext mu mu H H:=⟨bn,fun _ _ h _=>h,fun _ _ h=>h,fun _ _ _ h=>h,fun _ h=>.inl h⟩
theorem Ext.trans{mu m1 m2:List dE}{H H1 H2:Hp}(a:Ext mu m1 H H1)(b:Ext m1 m2 H1 H2):Ext mu m2 H H2 where
 pre:=a.pre.trans b.pre
 old:=fun c o h n=>b.old c o (a.old c o h n) fun z=>by
  rcases a.new c z with q|q
  ·exact n q
  ·rw[h]at q;cases q
 tup:=fun c xs h=>b.tup c xs (a.tup c xs h)
 frz:=fun c o u h=>b.frz c o u (a.frz c o u h)
 new:=fun c h=>by
  rcases b.new c h with q|q
  ·exact a.new c q
  ·by_cases z:c∈mu
   ·exact .inl z
   ·right;cases e:H c with
    |none=>rfl
    |some o=>rw[a.old c o e z]at q;cases q
theorem Ext.at{mu mu':List dE}{H H':Hp}(e:Ext mu mu' H H'){n:Nat}{a:dE}(h:mu[n]?=some a):mu'[n]?=some a:=by
 obtain⟨t,rfl⟩:=e.pre;have b:n<mu.length:=(gE1.mp h).1;rw[gL1 b];exact h
theorem Ext.back{mu mu':List dE}{H H':Hp}(e:Ext mu mu' H H'):Ext mu mu H H':=⟨bn,e.old,e.tup,e.frz,fun _ h=>.inl h⟩
structure q7 (mu mu':List dE)(H H':Hp):Prop where
 pre:mu <+: mu'
 tup:∀a xs,Rd H a (.tup xs)->Rd H' a (.tup xs)
 frz:∀a o u,H a=some (.frz o u)->H' a=some (.frz o u)
theorem Ext.w{mu mu':List dE}{H H':Hp}(e:Ext mu mu' H H'):q7 mu mu' H H':=⟨e.pre,e.tup,e.frz⟩
theorem q7.trans{mu m1 m2:List dE}{H H1 H2:Hp}(a:q7 mu m1 H H1)(b:q7 m1 m2 H1 H2):q7 mu m2 H H2:=⟨a.pre.trans b.pre,fun c xs h=>b.tup c xs (a.tup c xs h),fun c o u h=>b.frz c o u (a.frz c o u h)⟩
theorem q7.at{mu mu':List dE}{H H':Hp}(e:q7 mu mu' H H'){n:Nat}{a:dE}(h:mu[n]?=some a):mu'[n]?=some a:=by
 obtain⟨t,rfl⟩:=e.pre;have b:n<mu.length:=(gE1.mp h).1;rw[gL1 b];exact h
structure xP (mu mu':List dE)(H H':Hp):Prop where
 pre:mu <+: mu'
 tup:∀a xs,Rd H a (.tup xs)->Rd H' a (.tup xs)
 frl:∀a o xs,H a=some (.frz o (.lst xs))->H' a=some (.frz o (.lst xs))
theorem q7.v{mu mu':List dE}{H H':Hp}(e:q7 mu mu' H H'):xP mu mu' H H':=⟨e.pre,e.tup,fun a o xs h=>e.frz a o _ h⟩
theorem Ext.v{mu mu':List dE}{H H':Hp}(e:Ext mu mu' H H'):xP mu mu' H H':=e.w.v
theorem xP.at{mu mu':List dE}{H H':Hp}(e:xP mu mu' H H'){n:Nat}{a:dE}(h:mu[n]?=some a):mu'[n]?=some a:=by
 obtain⟨t,rfl⟩:=e.pre;have b:n<mu.length:=(gE1.mp h).1;rw[gL1 b];exact h
theorem jl.exv{K:Fg1}{mu mu':List dE}{H H':Hp}{a:dE}{vs:List V}(e:xP mu mu' H H')(h:jl K H a vs):jl K H' a vs:=by
 rcases h with h|h
 ·exact .inl (e.tup a vs h)
 ·exact .inr h
theorem RoL.exv{K:Fg1}{mu mu':List dE}{H H':Hp}{a:dE}{vs:List V}(e:xP mu mu' H H')(h:RoL K H a vs):RoL K H' a vs:=by
 rcases h with⟨o,h⟩|h
 ·exact .inl ⟨o,e.frl a o _ h⟩
 ·exact .inr h
theorem eJ.exv{K:Fg1}{mu mu':List dE}{H H':Hp}(e:xP mu mu' H H'):∀ {d:D} {v:V},eJ K H mu d v->eJ K H' mu' d v:=fun h=>h.rec (motive_1:=fun d v _=>eJ K H' mu' d v) (motive_2:=fun ds vs _=>d0 K H' mu' ds vs)
  .non .bl .int .str (fun h _ ih=>.tup (jl.exv e h) ih) (fun h _ ih=>.rol (RoL.exv e h) ih) (fun h=>.ref (e.at h)) (fun h=>.fn h) .nil (fun _ _ a b=>.cons a b)
theorem d0.ind{K:Fg1}{mu:List dE}{H:Hp}{P:(ds:List D)->(vs:List V)->d0 K H mu ds vs->Prop}(hn:P [] [] .nil)(hc:∀{d v ds vs} (r:eJ K H mu d v) (t:d0 K H mu ds vs),P ds vs t->P (d::ds) (v::vs) (.cons r t)){ds:List D}{vs:List V}(h:d0 K H mu ds vs):P ds vs h:=
 h.rec (motive_1:=fun _ _ _=>True) (motive_2:=P) trivial (fun _=>trivial) (fun _=>trivial) (fun _=>trivial) (fun _ _ _=>trivial) (fun _ _ _=>trivial) (fun _=>trivial) (fun _=>trivial) hn (fun r t _ ih=>hc r t ih)
theorem d0.exv{K:Fg1}{mu mu':List dE}{H H':Hp}(e:xP mu mu' H H'):∀{ds:List D} {vs:List V},d0 K H mu ds vs->d0 K H' mu' ds vs:=fun h=>h.ind (P:=fun ds vs _=>d0 K H' mu' ds vs) .nil fun r _ ih=>.cons (eJ.exv e r) ih
section
variable{K:Fg1}{mu mu':List dE}{H H':Hp}{a:dE}{vs:List V}
theorem eJ.exw(e:q7 mu mu' H H'){d:D}{v:V}(h:eJ K H mu d v):eJ K H' mu' d v:=h.exv e.v
theorem d0.exw(e:q7 mu mu' H H'){ds:List D}(h:d0 K H mu ds vs):d0 K H' mu' ds vs:=h.exv e.v
theorem eJ.ext(e:Ext mu mu' H H'){d:D}{v:V}(h:eJ K H mu d v):eJ K H' mu' d v:=h.exv e.v
theorem d0.ext(e:Ext mu mu' H H'){ds:List D}(h:d0 K H mu ds vs):d0 K H' mu' ds vs:=h.exv e.v
end
section
variable{K:Fg1}{H:Hp}{mu:List dE}
theorem d0.length:∀{ds:List D} {vs:List V},d0 K H mu ds vs->ds.length=vs.length:=fun h=>h.ind (P:=fun ds vs _=>ds.length=vs.length) rfl fun _ _ ih=>congrArg (· + 1) ih
theorem d0.get:∀{ds:List D} {vs:List V} {i:Nat} {d:D},d0 K H mu ds vs->ds[i]?=some d -> ∃v,vs[i]?=some v/\eJ K H mu d v:=by
 intro ds vs i d h e
 induction h using d0.ind generalizing i with
 |hn=>cases e
 |hc r t ih=>cases i with
  |zero=>cases e;exact⟨_,rfl,r⟩
  |succ i=>exact ih (i:=i) e
theorem d0.getV:∀{ds:List D} {vs:List V} {i:Nat} {v:V},d0 K H mu ds vs->vs[i]?=some v -> ∃d,ds[i]?=some d/\eJ K H mu d v:=by
 intro ds vs i d h e
 induction h using d0.ind generalizing i with
 |hn=>cases e
 |hc r t ih=>cases i with
  |zero=>cases e;exact⟨_,rfl,r⟩
  |succ i=>exact ih (i:=i) e
theorem d0.append:∀{ds es:List D} {vs ws:List V},d0 K H mu ds vs->d0 K H mu es ws->d0 K H mu (ds++es) (vs++ws):=fun h s=>h.ind (P:=fun ds vs _=>d0 K H mu (ds++_) (vs++_)) s fun r _ ih=>.cons r ih
theorem d0.take:∀{ds:List D} {vs:List V} (n:Nat),d0 K H mu ds vs->d0 K H mu (ds.take n) (vs.take n):=by
 intro ds vs n h
 induction h using d0.ind generalizing n with
 |hn=>rw[av,av];exact .nil
 |hc r t ih=>cases n with
  |zero=>exact .nil
  |succ n=>exact .cons r (ih n)
theorem d0.drop:∀{ds:List D} {vs:List V} (n:Nat),d0 K H mu ds vs->d0 K H mu (ds.drop n) (vs.drop n):=by
 intro ds vs n h
 induction h using d0.ind generalizing n with
 |hn=>rw[aw,aw];exact .nil
 |hc r t ih=>cases n with
  |zero=>exact .cons r t
  |succ n=>exact ih n
theorem d0.set{d:D}{v:V}(r:eJ K H mu d v):∀{ds:List D} {vs:List V} (i:Nat),d0 K H mu ds vs->d0 K H mu (ds.set i d) (vs.set i v):=by
 intro ds vs i h
 induction h using d0.ind generalizing i with
 |hn=>exact .nil
 |hc q t ih=>cases i with
  |zero=>exact .cons r t
  |succ i=>exact .cons q (ih i)
theorem d0.eraseIdx:∀{ds:List D} {vs:List V} (i:Nat),d0 K H mu ds vs->d0 K H mu (ds.eraseIdx i) (vs.eraseIdx i):=by
 intro ds vs i h
 induction h using d0.ind generalizing i with
 |hn=>exact .nil
 |hc q t ih=>cases i with
  |zero=>exact t
  |succ i=>exact .cons q (ih i)
theorem d0.reverse:∀{ds:List D} {vs:List V},d0 K H mu ds vs->d0 K H mu ds.reverse vs.reverse:=by
 intro ds vs h
 induction h using d0.ind with
 |hn=>exact .nil
 |hc r t ih=>rw[bo,bo];exact d0.append ih (.cons r .nil)
end
def KR{κ:Type}(K:Fg1)(H:Hp)(mu:List dE):List (κ×D)->List (κ×V)->Prop:=Paired fun p q=>p.1=q.1/\eJ K H mu p.2 q.2
mutual
def tkD:TK->D
 | .non=>.non
 | .int i=>.int i
 | .tup xs=>.tup (hD xs)
def hD:List TK->List D
 |[]=>[]
 |x::xs=>tkD x::hD xs
end
def gb(a:dE)(xs:List (TK×dE×dB))(h:dN):Prop:=(a == sysModules)=false/\(xs.map (·.1)).Nodup /\ ∃o es ep,h.get? a=some o/\o.ExactDict/\o.data = .dict es ep/\es.toList=xs.map fun x=>(⟨x.1.hash,.ref x.2.1,x.2.2⟩:DictEntry)
def wp(a:dE)(xs:List (TK×dE×dB))(o:Obj):Prop:=(a == sysModules)=false/\(xs.map (·.1)).Nodup/\o.ExactDict /\ ∃es ep,o.data = .dict es ep/\es.toList=xs.map fun x=>(⟨x.1.hash,.ref x.2.1,x.2.2⟩:DictEntry)
def KT(K:Fg1)(H:Hp)(mu:List dE):List (TK×D)->List (TK×dE×dB)->Prop:=Paired fun p q=>p.1=q.1/\p.1.dep<=8/\eJ K H mu (tkD p.1) (.ref q.2.1) /\ ∃v,d6 v q.2.2/\eJ K H mu p.2 v
def jH(K:Fg1)(H:Hp)(mu:List dE)(a:dE):Ob->Prop
 | .lst ds=>∃vs,H a=some (.lst vs)/\d0 K H mu ds vs
 | .dct kvs=>∃ws,H a=some (.dK ws)/\KR K H mu kvs ws
 | .dcT kvs=>∃xs,H a=some (.ext (gb a xs))/\KT K H mu kvs xs/\xs.length<=dL
 | .iset xs=>H a=some (.set (fun k=>xs.contains k) xs.length)/\xs.Nodup
 | .dcF kvs=>∃xs,(∃o u,H a=some (.frz o u)/\wp a xs o)/\KT K H mu kvs xs/\xs.length<=dL
 | .tst ks=>∃xs,H a=some (.ext (Hy a xs))/\KT K H mu (ks.map fun k=>(k,D.non)) xs
structure Sim (K:Fg1)(H:Hp)(mu:List dE)(S:Sto):Prop where
 len:mu.length=S.length
 nd:mu.Nodup
 ob:∀(n:Nat) (o:Ob) (a:dE),S[n]?=some o->mu[n]?=some a->jH K H mu a o
structure fJ (K:Fg1)(H:Hp)(mu:List dE)(r:Ev)(σ:L2.St):Prop where
 len:r.length=σ.length
 val:∀(i:Nat) (d:D),r[i]?=some (some d) -> ∃v,σ[i]?=some (some v)/\eJ K H mu d v
theorem fJ.ext{K:Fg1}{mu mu':List dE}{H H':Hp}{r:Ev}{σ:L2.St}(e:Ext mu mu' H H')(h:fJ K H mu r σ):fJ K H' mu' r σ:=⟨h.len,fun i d q=>by
 obtain⟨v,b,a⟩:=h.val i d q;exact⟨v,b,a.ext e⟩⟩
theorem KR.ext{κ:Type}{K:Fg1}{mu mu':List dE}{H H':Hp}{ks:List (κ×D)}{ws:List (κ×V)}(e:Ext mu mu' H H')(h:KR K H mu ks ws):KR K H' mu' ks ws:=
 Paired.mapP h fun _ _ z=>⟨z.1,z.2.ext e⟩
theorem KT.ext{K:Fg1}{mu mu':List dE}{H H':Hp}{ks:List (TK×D)}{ws:List (TK×dE×dB)}(e:Ext mu mu' H H')(h:KT K H mu ks ws):KT K H' mu' ks ws:=
 Paired.mapP h fun _ _ ⟨z,d,k,v,a,r⟩=>⟨z,d,k.ext e,v,a,r.ext e⟩
theorem Sim.nil{K:Fg1}{H:Hp}:Sim K H [] []:=⟨rfl,bq,fun n o a h=>by simp at h⟩
theorem Sim.here{K:Fg1}{H:Hp}{mu:List dE}{S:Sto}(s:Sim K H mu S){a:dE}(h:a∈mu):∃o,H a=some o:=by
 obtain⟨n,b⟩:=br h;have c:n<S.length:=by rw[<- s.len];exact(gE1.mp b).1
 have q:=s.ob n _ a (gG1 c) b;cases e:S[n]with
 |lst ds=>rw[e]at q;obtain⟨vs,z,_⟩:=q;exact⟨_,z⟩
 |dct ks=>rw[e]at q;obtain⟨vs,z,_⟩:=q;exact⟨_,z⟩
 |dcT ks=>rw[e]at q;obtain⟨vs,z,_⟩:=q;exact⟨_,z⟩
 |iset xs=>rw[e]at q;exact⟨_,q.1⟩
 |dcF ks=>rw[e]at q;obtain⟨vs,⟨_,_,z,_⟩,_⟩:=q;exact⟨_,z⟩
 |tst ks=>rw[e]at q;obtain⟨vs,z,_⟩:=q;exact⟨_,z⟩
def n6(K:Fg1)(mu:List dE)(H:Hp)(d:D)(S':Sto)(Q:VK):Prop:=∀v H' mu',Ext mu mu' H H'->eJ K H' mu' d v->Sim K H' mu' S'->Q v H'
inductive tM (K:Fg1)(m:FE)(σ:L2.St)(H:Hp)(Q:VK):Prop
 |mk (r:Ev) (mu:List dE) (S:Sto) (d:D) (S':Sto) (he:fJ K H mu r σ) (hs:Sim K H mu S) (hm:m r S=some (d,S')) (hc:n6 K mu H d S' Q)
inductive yn (K:Fg1)(m:FT)(σ:L2.St)(H:Hp)(Q:Bool->Hp->Prop):Prop
 |mk (r:Ev) (mu:List dE) (S:Sto) (b:Bool) (S':Sto) (he:fJ K H mu r σ) (hs:Sim K H mu S) (hm:m r S=some (b,S')) (hc:∀H' mu',Ext mu mu' H H'->Sim K H' mu' S'->Q b H')
inductive Je (K:Fg1)(m:FA)(σ:L2.St)(H:Hp)(Q:List V->Hp->Prop):Prop
 |mk (r:Ev) (mu:List dE) (S:Sto) (ds:List D) (S':Sto) (he:fJ K H mu r σ) (hs:Sim K H mu S) (hm:m r S=some (ds,S')) (hc:∀vs H' mu',Ext mu mu' H H'->d0 K H' mu' ds vs->Sim K H' mu' S'->Q vs H')
def Ih(K:Fg1)(mu:List dE)(H:Hp)(r':Ev)(S':Sto)(E:jt)(f:Fl):Prop:=match f with
 | .nx=>∀ σ' H' mu',Ext mu mu' H H'->fJ K H' mu' r' σ'->Sim K H' mu' S'->E.nx σ' H'
 | .bk=>∀ σ' H' mu',Ext mu mu' H H'->fJ K H' mu' r' σ'->Sim K H' mu' S'->E.bk σ' H'
 | .ct=>∀ σ' H' mu',Ext mu mu' H H'->fJ K H' mu' r' σ'->Sim K H' mu' S'->E.ct σ' H'
 | .rt d=>n6 K mu H d S' E.rt
inductive xK (K:Fg1)(m:FS)(E:jt)(σ:L2.St)(H:Hp):Prop
 |mk (r:Ev) (mu:List dE) (S:Sto) (f:Fl) (r':Ev) (S':Sto) (he:fJ K H mu r σ) (hs:Sim K H mu S) (hm:m r S=some (f,r',S')) (hc:Ih K mu H r' S' E f)
inductive rN (K:Fg1)(f:FN)(vs:List V)(H:Hp)(Q:VK):Prop
 |mk (mu:List dE) (S:Sto) (ds:List D) (d:D) (S':Sto) (hr:d0 K H mu ds vs) (hs:Sim K H mu S) (hm:f ds S=some (d,S')) (hc:n6 K mu H d S' Q)
abbrev ME(X:Cx)(e:Expr)(m:FE):Prop:=PE X e (tM X.K m)
abbrev MT(X:Cx)(e:Expr)(m:FT):Prop:=PT X e (yn X.K m)
abbrev MW(X:Cx)(e:Expr)(m:FT):Prop:=PW X e (yn X.K m)
abbrev MA(X:Cx)(es:List Expr)(m:FA):Prop:=PA X es (Je X.K m)
abbrev MS(X:Cx)(st:dQ)(m:FS):Prop:=PS X st (xK X.K m)
abbrev AL(X:Cx)(st:List dQ)(m:FS):Prop:=tG X st (xK X.K m)
section
variable{X:Cx}{e:Expr}{es:List Expr}{st:dQ}{sts:List dQ}
theorem eU{t t':TE}(h:PE X e t)(i:∀ σ H Q,t' σ H Q->t σ H Q):PE X e t':=fun pins s σ H Q I q=>h pins s σ H Q I (i σ H Q q)
theorem ua{t t':TT}(h:PT X e t)(i:∀ σ H Q,t' σ H Q->t σ H Q):PT X e t':=fun pins s σ H Q I q=>h pins s σ H Q I (i σ H Q q)
theorem yK{t t':TT}(h:PW X e t)(i:∀ σ H Q,t' σ H Q->t σ H Q):PW X e t':=fun a pins s σ H Q I q=>h a pins s σ H Q I (i σ H Q q)
theorem y2{t t':TA}(h:PA X es t)(i:∀ σ H Q,t' σ H Q->t σ H Q):PA X es t':=fun pos pins s σ H Q I q=>h pos pins s σ H Q I (i σ H Q q)
theorem hG{t t':TS}(h:PS X st t)(i:∀E σ H,t' E σ H->t E σ H):PS X st t':=fun pins s σ H E I q=>h pins s σ H E I (i E σ H q)
theorem vd{t t':TS}(h:tG X sts t)(i:∀E σ H,t' E σ H->t E σ H):tG X sts t':=fun pins s σ H E I q=>h pins s σ H E I (i E σ H q)
end
noncomputable def mV (i:Nat):FE:=fun r S=>match r[i]? with
 |some (some d)=>some (d,S)
 |_=>none
noncomputable def mC (d:D):FE:=fun _ S=>some (d,S)
section
variable{X:Cx}{pos:Pos}
theorem EJ (i:Nat){x:Str}(hN:X.N[i]?=some x)(hv:Vis X.env.scope x)(hd:(x == ("__debug__":Str))=false:=by decide)(hcd:(x == ("__classdict__":Str))=false:=by decide):ME X (.Name x pos) (mV i):=
 eU (yX hN hv hd hcd) <| by
  rintro σ H Q ⟨r,mu,S,d,h,b,c,a,hc⟩;unfold mV at a;split at a
  ·rename_i j e;cases a;obtain⟨v,g,f⟩:=b.val i _ e;exact⟨v,g,hc v H mu (.refl _ _) f c⟩
  ·cases a
theorem zy{e:Expr}{v:V}(d:D)(h:PE X e (tC v))(hr:∀H mu,eJ X.K H mu d v):ME X e (mC d):=
 eU h <| by
  rintro σ H Q ⟨r,mu,S,g,f,c,a,b,hc⟩;cases b;exact hc v H mu (.refl _ _) (hr H mu) a
theorem EQ{i:Int}{j}:ME X (.Constant (.int i) j pos) (mC (.int i)):=zy _ Ed fun _ _=>.int i
theorem GJ{b:Bool}{j}:ME X (.Constant (.bool b) j pos) (mC (.bl b)):=zy _ Gs fun _ _=>.bl b
theorem EN{j}:ME X (.Constant .none j pos) (mC .non):=zy _ Eb fun _ _=>.non
theorem EL{x:Str}{j}:ME X (.Constant (.str x) j pos) (mC (.str x)):=zy _ Ea fun _ _=>.str x
end
def dU:FA:=fun _ S=>some ([],S)
noncomputable def dS (m:FE)(n:FA):FA:=fun r S=>(m r S).bind fun p=>(n r p.2).bind fun q=>some (p.1::q.1,q.2)
section
variable{X:Cx}{pos:Pos}{e:Expr}{es:List Expr}{m:FE}{n:FA}
theorem ES:MA X [] dU:=y2 mS <| by
 rintro σ H Q ⟨r,mu,S,ds,d,c,b,a,hc⟩;cases a;exact hc [] H mu (.refl _ _) .nil b
theorem BX(h:ME X e m)(ht:MA X es n)(hs:dJ (e::es) X.env=(false,eval e X.env)::dJ es X.env:=by rfl):MA X (e::es) (dS m n):=
 y2 (j6 h ht hs) <| by
  rintro σ H Q ⟨r,mu,S,ds,s,f,hs,a,hc⟩;unfold dS at a;obtain⟨⟨d,j⟩,q,a⟩:=oB1.mp a;obtain⟨⟨b,t⟩,k,a⟩:=oB1.mp a;cases a;refine⟨r,mu,S,d,j,f,hs,q,fun v H1 mu1 i p l=>?_⟩;refine⟨r,mu1,j,b,_,f.ext i,l,k,fun vs H2 c g r2 o=>?_⟩;exact hc _ H2 c (i.trans g) (.cons (p.ext g) r2) o
end
noncomputable def m2 (f:FN)(a b:FE):FE:=fun r S=>(a r S).bind fun p=>(b r p.2).bind fun q=>f [p.1,q.1] q.2
noncomputable def m1 (f:FN)(a:FE):FE:=fun r S=>(a r S).bind fun p=>f [p.1] p.2
noncomputable def mN (f:FN)(a:FA):FE:=fun r S=>(a r S).bind fun p=>f p.1 p.2
abbrev r2(K:Fg1)(f:FN):R2:=fun x y H Q=>rN K f [x,y] H Q
section
variable{X:Cx}{K:Fg1}{f:FN}{a b:FE}{σ:L2.St}{H:Hp}{Q:VK}
theorem vz(h:tM K (m2 f a b) σ H Q):F4 (r2 K f) (tM K a) (tM K b) σ H Q:=by
 obtain⟨r,mu,S,d,A,k,w,c,hc⟩:=h;obtain⟨⟨i,n⟩,z,c⟩:=oB1.mp c;obtain⟨⟨j,m⟩,y,c⟩:=oB1.mp c;refine⟨r,mu,S,i,n,k,w,z,fun v H1 mu1 o s t=>?_⟩;refine⟨r,mu1,n,j,m,k.ext o,t,y,fun u H2 e l r2 x=>?_⟩;exact⟨e,m,[i,j],d,A,.cons (s.ext l) (.cons r2 .nil),x,c,fun v q g p C B=>hc v q g ((o.trans l).trans p) C B⟩
theorem GO(h:tM K (m1 f a) σ H Q):Jd (fun x H Q=>rN K f [x] H Q) (tM K a) σ H Q:=by
 obtain⟨r,mu,S,d,j,i,p,c,hc⟩:=h;obtain⟨⟨e,g⟩,t,c⟩:=oB1.mp c;refine⟨r,mu,S,e,g,i,p,t,fun v H1 mu1 o s n=>?_⟩;exact⟨mu1,g,[e],d,j,.cons s .nil,n,c,fun v q b m k l=>hc v q b (o.trans m) k l⟩
theorem zA{a:FA}(h:tM K (mN f a) σ H Q):Je K a σ H fun vs H1=>rN K f vs H1 Q:=by
 obtain⟨r,mu,S,d,j,i,p,c,hc⟩:=h;obtain⟨⟨e,g⟩,t,c⟩:=oB1.mp c;refine⟨r,mu,S,e,g,i,p,t,fun v H1 mu1 o s n=>?_⟩;exact⟨mu1,g,e,d,j,s,n,c,fun v q b m k l=>hc v q b (o.trans m) k l⟩
theorem GG{op:Operator}{x y:Expr}{pos:Pos}(ho:gp X (binaryOp op) (r2 X.K f))(hx:ME X x a)(hy:ME X y b):ME X (.BinOp x op y pos) (m2 f a b):=eU (Gp ho hx hy) fun _ _ _=>vz
theorem GF{op:UnaryOp}{x:Expr}{pos:Pos}(ho:FM X (unaryOp op) (fun x H Q=>rN X.K f [x] H Q))(hx:ME X x a):ME X (.UnaryOp op x pos) (m1 f a):=eU (Go ho hx) fun _ _ _=>GO
theorem ER{op:CmpOp}{x y:Expr}{pos:Pos}(ho:gp X (compareOp op) (r2 X.K f))(hx:ME X x a)(hy:ME X y b)(hm:behindInMarks op y=false):ME X (.Compare x [op] [y] pos) (m2 f a b):=eU (By ho hx hy hm) fun _ _ _=>vz
theorem GH{x y:Expr}{pos:Pos}(ho:Dg X (r2 X.K f))(hx:ME X x a)(hy:ME X y b)(hs:mo y):ME X (.Subscript x y pos) (m2 f a b):=eU (Gq ho hx hy hs) fun _ _ _=>vz
theorem zx {x:Str}{p pos:Pos}{e:Expr}{es:List Expr}{id:String}{a:FA}(hc:fj X (.builtin id) (rN X.K f))(hg:Gl X x)(hm:X.mg x=none)(hv:bootBuiltins x=some (.builtin id))(ha:MA X (e::es) a)(hn:x≠"__name__":=by decide)(hdb:(x == ("__debug__":Str))=false:=by decide)
  (he:dJ (e::es) X.env=(false,eval e X.env)::dJ es X.env:=by rfl) (hpl:(backTo pos (dJ es X.env)).any (·.1)=false:=by rfl):ME X (.Call (.Name x p) (e::es) [] pos) (mN f a):=
 eU (rK hc hg hm hv ha hn hdb he hpl) fun _ _ _=>zA
theorem wR {x:Str}{p pos:Pos}{e:Expr}{es:List Expr}{T:String}{a:FA}(hc:fj X (.type T) (rN X.K f))(hg:Gl X x)(hm:X.mg x=none)(hv:bootBuiltins x=some (.type T))(ha:MA X (e::es) a)(hn:x≠"__name__":=by decide)(hdb:(x == ("__debug__":Str))=false:=by decide)
  (he:dJ (e::es) X.env=(false,eval e X.env)::dJ es X.env:=by rfl) (hpl:(backTo pos (dJ es X.env)).any (·.1)=false:=by rfl):ME X (.Call (.Name x p) (e::es) [] pos) (mN f a):=
 eU (jh hc hg hm hv ha hn hdb he hpl) fun _ _ _=>zA
end
noncomputable def mB (m:FE):FT:=fun r S=>(m r S).bind fun p=>match p.1 with
 | .bl b=>some (b,p.2)
 |_=>none
theorem GN{K:Fg1}{m:FE}{σ:L2.St}{H:Hp}{Q:Bool->Hp->Prop}(h:yn K (mB m) σ H Q):tB (tM K m) σ H Q:=by
 obtain⟨r,mu,S,b,l,c,f,a,hc⟩:=h;obtain⟨⟨g,n⟩,j,a⟩:=oB1.mp a;cases g with
 |bl k=>
  cases a;refine⟨r,mu,S,_,_,c,f,j,fun v H1 mu1 e i d=>?_⟩;cases i;exact⟨_,rfl,hc H1 mu1 e d⟩
 |_=>cases a
def sd(a b:FT):FT:=fun r S=>(a r S).bind fun p=>if p.1=true then b r p.2 else some (false,p.2)
def FH(a b:FT):FT:=fun r S=>(a r S).bind fun p=>if p.1=true then some (true,p.2)else b r p.2
def wT(a:FT):FT:=fun r S=>(a r S).bind fun p=>some (!p.1,p.2)
def Jl(a b:FE):FE:=fun r S=>(a r S).bind fun p=>match p.1 with
 | .bl c=>if c=true then b r p.2 else some (.bl false,p.2)
 |_=>none
def J7(a b:FE):FE:=fun r S=>(a r S).bind fun p=>match p.1 with
 | .bl c=>if c=true then some (.bl true,p.2)else b r p.2
 |_=>none
def Ji(a:FE):FE:=fun r S=>(a r S).bind fun p=>match p.1 with
 | .bl c=>some (.bl (!c),p.2)
 |_=>none
def vy(c:FT)(a b:FE):FE:=fun r S=>(c r S).bind fun p=>if p.1=true then a r p.2 else b r p.2
section
variable{X:Cx}{x y c:Expr}{rest:List Expr}{pos:Pos}{a b:FT}{f g:FE}
theorem Ew{op:CmpOp}{f:FN}{a b:FE}(ho:gp X (compareOp op) (r2 X.K f))(hx:ME X x a)(hy:ME X y b)(hm:behindInMarks op y=false):MT X (.Compare x [op] [y] pos) (mB (m2 f a b)):=
 ua (Bi ho hx hy hm) fun σ H Q h=>by
  obtain⟨r,mu,S,d,e,c,j,hm,hc⟩:=GN h;exact vz ⟨r,mu,S,d,e,c,j,hm,fun v H' mu' i k g=>hc v H' mu' i k g⟩
theorem BH(ha:MT X x a):MW X (.BoolOp .And [x] pos) a:=Bg ha
theorem Es(ha:MT X x a):MW X (.BoolOp .Or [x] pos) a:=DS ha
theorem Et(ha:MT X x a)(hb:MW X (.BoolOp .And (y::rest) pos) b):MW X (.BoolOp .And (x::y::rest) pos) (sd a b):=
 yK (DT ha hb) <| by
  rintro σ H Q ⟨r,mu,S,k,j,f,l,c,hc⟩;obtain⟨⟨b1,h⟩,n,c⟩:=oB1.mp c;refine⟨r,mu,S,b1,h,f,l,n,fun H1 mu1 d g=>?_⟩;cases b1 with
  |true=>exact⟨r,mu1,h,k,j,f.ext d,g,c,fun H2 e i m=>hc H2 e (d.trans i) m⟩
  |false=>cases c;exact hc H1 mu1 d g
theorem GD(ha:MT X x a)(hb:MW X (.BoolOp .Or (y::rest) pos) b):MW X (.BoolOp .Or (x::y::rest) pos) (FH a b):=
 yK (Gk ha hb) <| by
  rintro σ H Q ⟨r,mu,S,k,j,f,l,c,hc⟩;obtain⟨⟨b1,h⟩,n,c⟩:=oB1.mp c;refine⟨r,mu,S,b1,h,f,l,n,fun H1 mu1 d g=>?_⟩;cases b1 with
  |false=>exact⟨r,mu1,h,k,j,f.ext d,g,c,fun H2 e i m=>hc H2 e (d.trans i) m⟩
  |true=>cases c;exact hc H1 mu1 d g
theorem IF(h:MW X x a):MT X x a:=PW.pt h
theorem Eu(ha:MT X x a):MT X (.UnaryOp .Not x pos) (wT a):=
 ua (DV ha) <| by
  rintro σ H Q ⟨r,mu,S,k,i,c,f,b,hc⟩;obtain⟨⟨b1,g⟩,h,b⟩:=oB1.mp b;cases b;exact⟨r,mu,S,b1,g,c,f,h,fun H1 mu1 e d=>hc H1 mu1 e d⟩
theorem GI(hc:MT X c a)(hx:ME X x f)(hy:ME X y g):ME X (.IfExp c x y pos) (vy a f g):=
 eU (yZ hc hx hy) <| by
  rintro σ H Q ⟨r,mu,S,k,n,h,p,e,hc⟩;obtain⟨⟨b1,m⟩,q,e⟩:=oB1.mp e;refine⟨r,mu,S,b1,m,h,p,q,fun H1 mu1 d o=>?_⟩;cases b1 with
  |true=>exact⟨r,mu1,m,k,n,h.ext d,o,e,fun j H2 b i r2 l=>hc j H2 b (d.trans i) r2 l⟩
  |false=>exact⟨r,mu1,m,k,n,h.ext d,o,e,fun j H2 b i r2 l=>hc j H2 b (d.trans i) r2 l⟩
end
section
variable{X:Cx}{x y z:Expr}{pos:Pos}{f g:FN}{a b c:FE}{op op':CmpOp}
end
mutual
def D.und(n:Nat):D->Bool
 | .tup xs=>D.unds n xs
 | .rol xs=>D.unds n xs
 | .ref k=>decide (k<n)
 | .non=>true
 | .bl _=>true
 | .int _=>true
 | .str _=>true
 | .fn _=>true
def D.unds(n:Nat):List D->Bool
 |[]=>true
 |d::ds=>D.und n d&&D.unds n ds
end
def D.sames(a b:List D):Bool:=@decide (a=b) (Classical.propDecidable _)
theorem D.sames_eq{a b:List D}(h:D.sames a b=true):a=b:=@of_decide_eq_true _ (Classical.propDecidable _) h
theorem D.sames_refl(a:List D):D.sames a a=true:=@decide_eq_true _ (Classical.propDecidable _) rfl
section
variable{K:Fg1}{H:Hp}{mu mu':List dE}
theorem eJ.cut{n:Nat}(h:∀ k,k<n->mu[k]? = mu'[k]?):∀ {d:D} {v:V},eJ K H mu d v->d.und n=true->eJ K H mu' d v:=fun c=>c.rec (motive_1:=fun d v _=>d.und n=true->eJ K H mu' d v) (motive_2:=fun ds vs _=>D.unds n ds=true->d0 K H mu' ds vs)
  (fun _=>.non) (fun b _=>.bl b) (fun i _=>.int i) (fun x _=>.str x) (fun q _ ih e=>.tup q (ih (by rw[D.und]at e;exact e))) (fun q _ ih e=>.rol q (ih (by rw[D.und]at e;exact e)))
  (fun q e=>.ref (by rw[D.und]at e;rw[<- h _ (of_decide_eq_true e)];exact q)) (fun q _=>.fn q) (fun _=>.nil) (fun _ _ a b e=>by rw[D.unds,bA1]at e;exact .cons (a e.1) (b e.2))
theorem d0.cut{n:Nat}(h:∀k,k<n->mu[k]?=mu'[k]?):∀{ds:List D} {vs:List V},d0 K H mu ds vs->D.unds n ds=true->d0 K H mu' ds vs:=fun a=>a.ind (P:=fun ds vs _=>D.unds n ds=true->d0 K H mu' ds vs) (fun _=>.nil) fun r _ b e=>by rw[D.unds,bA1]at e;exact .cons (eJ.cut h r e.1) (b e.2)
end
def Ob.und(n:Nat):Ob->Bool
 | .lst xs=>D.unds n xs
 | .dct kvs=>D.unds n (kvs.map (·.2))
 | .dcT kvs=>D.unds n (kvs.map (·.2))
 | .iset _=>true
 | .dcF kvs=>D.unds n (kvs.map (·.2))
 | .tst _=>true
theorem KR.cut{κ:Type}{K:Fg1}{H:Hp}{mu mu':List dE}{n:Nat}(h:∀k,k<n->mu[k]?=mu'[k]?):∀{ks:List (κ×D)} {ws:List (κ×V)},KR K H mu ks ws->D.unds n (ks.map (·.2))=true->KR K H mu' ks ws:=by
 intro ks ws a e
 induction a with
 |nil=>exact .nil
 |cons r t ih=>
  rw[mP1,D.unds,bA1]at e;exact .cons ⟨r.1,r.2.cut h e.1⟩ (ih e.2)
mutual
theorem yh(n:Nat):∀k:TK,(tkD k).und n=true
 | .non=>rfl
 | .int _=>rfl
 | .tup xs=>by rw[tkD,D.und];exact uW n xs
theorem uW(n:Nat):∀ks:List TK,D.unds n (hD ks)=true
 |[]=>rfl
 |x::xs=>by rw[hD,D.unds,yh n x,uW n xs];rfl
end
theorem KT.cut{K:Fg1}{H:Hp}{mu mu':List dE}{n:Nat}(h:∀k,k<n->mu[k]?=mu'[k]?):∀{ks:List (TK×D)} {ws:List (TK×dE×dB)},KT K H mu ks ws->D.unds n (ks.map (·.2))=true->KT K H mu' ks ws:=by
 intro ks ws b e
 induction b with
 |nil=>exact .nil
 |cons r t ih=>
  rw[mP1,D.unds,bA1]at e;obtain⟨z,d,k,v,a,r⟩:=r;exact .cons ⟨z,d,k.cut h (yh n _),v,a,r.cut h e.1⟩ (ih e.2)
theorem vv(n:Nat):∀ks:List TK,D.unds n ((ks.map fun k=>(k,D.non)).map (·.2))=true
 |[]=>rfl
 |_::ks=>by rw[mP1,mP1,D.unds,vv n ks];rfl
theorem jH.cut{K:Fg1}{H:Hp}{mu mu':List dE}{n:Nat}{a:dE}(h:∀k,k<n->mu[k]?=mu'[k]?):∀{o:Ob},jH K H mu a o->o.und n=true->jH K H mu' a o
 | .lst _,⟨vs,e,r⟩,b=>⟨vs,e,r.cut h b⟩
 | .dct _,⟨ws,e,r⟩,b=>⟨ws,e,KR.cut h r b⟩
 | .dcT _,⟨ws,e,r,l⟩,b=>⟨ws,e,KT.cut h r b,l⟩
 | .iset _,q,_=>q
 | .dcF _,⟨ws,e,r,l⟩,b=>⟨ws,e,KT.cut h r b,l⟩
 | .tst ks,⟨ws,e,r⟩,_=>⟨ws,e,KT.cut h r (vv n ks)⟩
def gc(n:Nat)(p:D×Sto):D×Sto:=if p.1.und n&&(p.2.take n).all (Ob.und n)then(p.1,p.2.take n)else p
mutual
def D.sh(n:Nat):D->D
 | .tup xs=>.tup (D.shs n xs)
 | .rol xs=>.rol (D.shs n xs)
 | .ref k=>.ref (n+k)
 | .fn x=>.fn x
 | .non=>.non
 | .bl b=>.bl b
 | .int i=>.int i
 | .str x=>.str x
def D.shs(n:Nat):List D->List D
 |[]=>[]
 |d::ds=>D.sh n d::D.shs n ds
end
def Ob.sh(n:Nat):Ob->Ob
 | .lst xs=>.lst (D.shs n xs)
 | .dct kvs=>.dct (kvs.map fun p=>(p.1,p.2.sh n))
 | .dcT kvs=>.dcT (kvs.map fun p=>(p.1,p.2.sh n))
 | .iset xs=>.iset xs
 | .dcF kvs=>.dcF (kvs.map fun p=>(p.1,p.2.sh n))
 | .tst ks=>.tst ks
theorem eJ.sh{K:Fg1}{H:Hp}{mu mu':List dE}:∀ {d:D} {v:V},eJ K H mu' d v->eJ K H (mu++mu') (d.sh mu.length) v:=fun c=>c.rec (motive_1:=fun d v _=>eJ K H (mu++mu') (d.sh mu.length) v) (motive_2:=fun ds vs _=>d0 K H (mu++mu') (D.shs mu.length ds) vs)
  .non .bl .int .str (fun h _ ih=>.tup h ih) (fun h _ ih=>.rol h ih) (fun h=>.ref (by rw[gR1 (bt _ _),bu];exact h)) (fun h=>.fn h) .nil (fun _ _ a b=>.cons a b)
theorem d0.sh{K:Fg1}{H:Hp}{mu mu':List dE}:∀{ds:List D} {vs:List V},d0 K H mu' ds vs->d0 K H (mu++mu') (D.shs mu.length ds) vs:=fun h=>h.ind (P:=fun ds vs _=>d0 K H (mu++mu') (D.shs mu.length ds) vs) .nil fun r _ ih=>.cons (eJ.sh r) ih
theorem KR.sh{κ:Type}{K:Fg1}{H:Hp}{mu mu':List dE}:∀{ks:List (κ×D)} {ws:List (κ×V)},KR K H mu' ks ws->KR K H (mu++mu') (ks.map fun p=>(p.1,p.2.sh mu.length)) ws:=by
 intro ks ws h
 induction h with
 |nil=>exact .nil
 |cons r t ih=>exact .cons ⟨r.1,r.2.sh⟩ ih
mutual
theorem CQ(n:Nat):∀k:TK,(tkD k).sh n=tkD k
 | .non=>rfl
 | .int _=>rfl
 | .tup xs=>by rw[tkD,D.sh,ye n xs]
theorem ye(n:Nat):∀ks:List TK,D.shs n (hD ks)=hD ks
 |[]=>rfl
 |x::xs=>by rw[hD,D.shs,CQ n x,ye n xs]
end
theorem KT.sh{K:Fg1}{H:Hp}{mu mu':List dE}:∀{ks:List (TK×D)} {ws:List (TK×dE×dB)},KT K H mu' ks ws->KT K H (mu++mu') (ks.map fun p=>(p.1,p.2.sh mu.length)) ws:=by
 intro ks ws h
 induction h with
 |nil=>exact .nil
 |cons r t ih=>
  obtain⟨z,d,k,v,a,r⟩:=r;exact .cons ⟨z,d,by have:=k.sh (mu:=mu);rw[CQ]at this;exact this,v,a,r.sh⟩ ih
theorem jH.sh{K:Fg1}{H:Hp}{mu mu':List dE}{a:dE}:∀{o:Ob},jH K H mu' a o->jH K H (mu++mu') a (o.sh mu.length)
 | .lst _,⟨vs,e,r⟩=>⟨vs,e,r.sh⟩
 | .dct _,⟨ws,e,r⟩=>⟨ws,e,KR.sh r⟩
 | .dcT _,⟨ws,e,r,l⟩=>⟨ws,e,KT.sh r,l⟩
 | .iset _,q=>q
 | .dcF _,⟨ws,e,r,l⟩=>⟨ws,e,KT.sh r,l⟩
 | .tst ks,⟨ws,e,r⟩=>⟨ws,e,by have:=KT.sh (mu:=mu) r;rw[bv]at this;exact this⟩
theorem eJ.mor{K:Fg1}{H:Hp}{mu:List dE}(mu':List dE):∀{d:D} {v:V},eJ K H mu d v->eJ K H (mu++mu') d v:=fun h=>h.exv ⟨bw _ _,fun _ _ h=>h,fun _ _ _ h=>h⟩
theorem d0.mor{K:Fg1}{H:Hp}{mu:List dE}(mu':List dE):∀{ds:List D} {vs:List V},d0 K H mu ds vs->d0 K H (mu++mu') ds vs:=fun h=>h.exv ⟨bw _ _,fun _ _ h=>h,fun _ _ _ h=>h⟩
theorem KR.mor{κ:Type}{K:Fg1}{H:Hp}{mu:List dE}(mu':List dE){ks:List (κ×D)}{ws:List (κ×V)}(h:KR K H mu ks ws):KR K H (mu++mu') ks ws:=Paired.mapP h fun _ _ z=>⟨z.1,z.2.mor mu'⟩
theorem jH.mor{K:Fg1}{H:Hp}{mu:List dE}{a:dE}(mu':List dE):∀{o:Ob},jH K H mu a o->jH K H (mu++mu') a o
 | .lst _,⟨vs,e,r⟩=>⟨vs,e,r.mor mu'⟩
 | .dct _,⟨ws,e,r⟩=>⟨ws,e,KR.mor mu' r⟩
 | .dcT _,⟨ws,e,r,l⟩=>⟨ws,e,Paired.mapP r fun _ _ ⟨z,d,k,v,b,r⟩=>⟨z,d,k.mor mu',v,b,r.mor mu'⟩,l⟩
 | .iset _,q=>q
 | .dcF _,⟨ws,e,r,l⟩=>⟨ws,e,Paired.mapP r fun _ _ ⟨z,d,k,v,b,r⟩=>⟨z,d,k.mor mu',v,b,r.mor mu'⟩,l⟩
 | .tst _,⟨ws,e,r⟩=>⟨ws,e,Paired.mapP r fun _ _ ⟨z,d,k,v,b,r⟩=>⟨z,d,k.mor mu',v,b,r.mor mu'⟩⟩
def lR(f:FN):FN:=fun ds S=>if D.unds 0 ds=true then(f ds []).map fun p=>if p.1.und 0=true then(p.1,S)else(p.1.sh S.length,S++p.2.map (Ob.sh S.length))else(f ds S).map (gc S.length)
theorem jH.keep{K:Fg1}{H H':Hp}{mu:List dE}{a:dE}(e:Ext mu mu H H')(h:∀o,H a=some o->H' a=some o):∀{o:Ob},jH K H mu a o->jH K H' mu a o
 | .lst _,⟨vs,q,r⟩=>⟨vs,h _ q,r.ext e⟩
 | .dct _,⟨ws,q,r⟩=>⟨ws,h _ q,KR.ext e r⟩
 | .dcT _,⟨ws,q,r,l⟩=>⟨ws,h _ q,KT.ext e r,l⟩
 | .iset _,q=>⟨h _ q.1,q.2⟩
 | .dcF _,⟨ws,⟨o,u,c,b⟩,r,l⟩=>⟨ws,⟨o,u,h _ c,b⟩,KT.ext e r,l⟩
 | .tst _,⟨ws,q,r⟩=>⟨ws,h _ q,KT.ext e r⟩
theorem sZ{K:Fg1}{f:FN}{vs:List V}{H:Hp}{Q:VK}(h:rN K (lR f) vs H Q):rN K f vs H Q:=by
 obtain⟨mu,S,ds,d,M,D,c,g,hc⟩:=h;unfold lR at g;split at g
 ·rename_i j;obtain⟨⟨w,p⟩,B,g⟩:=oM1.mp g;refine⟨[],[],ds,w,p,D.cut (n:=0) (fun k i=>absurd i (bA _)) j,.nil,B,fun v H' mu' x r s=>?_⟩;have u:Ext mu mu H H':=⟨bn,fun a o e _=>x.old a o e (by simp),x.tup,x.frz,fun _ z=>.inl z⟩;dsimp only at g;split at g
  ·rename_i L;cases g;refine hc v H' mu u (r.cut (n:=0) (fun k i=>absurd i (bA _)) L) ⟨c.len,c.nd,fun n o a h1 h2=>?_⟩;exact(c.ob n o a h1 h2).keep u fun o e=>x.old a o e (by simp)
  ·cases g;have E:∀ a∈mu',H a=none:=fun a y=>(x.new a y).resolve_left (by simp);have J:Ext mu (mu++mu') H H':=⟨bw _ _,fun a o e _=>x.old a o e (by simp),x.tup,x.frz,fun a z=>by
    rcases aG.mp z with z|z
    ·exact .inl z
    ·exact .inr (E a z)⟩
   refine hc v H' (mu++mu') J (by rw[<- c.len];exact r.sh) ⟨by rw[lA1,lA1,lM1,c.len,s.len],?_,fun n o a h1 h2=>?_⟩
   ·refine bB.mpr ⟨c.nd,s.nd,fun a y b j z=>?_⟩;subst z;obtain⟨o,e⟩:=c.here y;rw[E a j]at e;cases e
   ·by_cases l:n<S.length
    ·rw[gL1 l]at h1;rw[gL1 (by rw[c.len];exact l)]at h2;exact((c.ob n o a h1 h2).keep u fun o e=>x.old a o e (by simp)).mor mu'
    ·have m:=a0 l;rw[gR1 m]at h1;rw[gR1 (by rw[c.len];exact m)]at h2;rw[gP1]at h1;obtain⟨I,G,F⟩:=oM1.mp h1;subst F;have q:=s.ob (n-S.length) I a G (by rw[c.len]at h2;exact h2);rw[<- c.len];exact q.sh
 ·obtain⟨⟨w,p⟩,B,g⟩:=oM1.mp g;refine⟨mu,S,ds,w,p,D,c,B,fun v H' mu' x r s=>?_⟩;unfold gc at g;split at g
  ·rename_i j;cases g;rw [bA1] at j;have i:∀ k,k<S.length->mu'[k]? = mu[k]?:=fun k i=>by
    obtain⟨t,rfl⟩:=x.pre;rw[gL1 (by rw[c.len];exact i)]
   refine hc v H' mu x.back (r.cut i j.1) ⟨?_,c.nd,fun n o a h1 h2=>?_⟩
   ·have:=s.len;have C:=x.pre.length_le;rw[aQ,<- s.len];rw[c.len]at C ⊢;exact(bC C).symm
   ·have l:n<S.length:=by rw[<- c.len];exact(gE1.mp h2).1
    have A:p[n]?=some o:=by rw[aS l]at h1;exact h1
    refine(s.ob n o a A ((i n l).trans h2)).cut i ?_;exact bD.mp j.2 o (gM1 h1)
  ·cases g;exact hc v H' mu' x r s
def AO(K:Fg1)(n:Nat)(f:FN):Sp:=fun vs H Q _=>vs.length=n/\rN K f vs H Q
section
variable{X:Cx}{k n:Nat}{f:dE}{fd:dP}{ps:List Str}{x:Str}{p pos:Pos}{e:Expr}{es:List Expr}{m:FN}{a:FA}
noncomputable def dX (n:Nat)(f:FN):FN:=fun ds S=>if ds.length=n then lR f ds S else none
theorem BW (F:js X.prog X.w X.K X.mg X.base tw k f fd ps (AO X.K n m))(hr:fN k X.A)(hg:Gl X x)(hm:X.mg x=some (.ref f))(hk:wK1 X.K (.ref f)=true)(hb:kS X.K fd ps [])
  (ha:MA X (e::es) a) (hdb:(x == ("__debug__":Str))=false:=by decide) (he:dJ (e::es) X.env=(false,eval e X.env)::dJ es X.env:=by rfl) (hpl:(backTo pos (dJ es X.env)).any (·.1)=false:=by rfl):
  ME X (.Call (.Name x p) (e::es) [] pos) (mN (dX n m) a):=
 eU (Bz (E:=E0) F hr hg hm hk hb .nil Gu ha hdb he hpl) fun σ H Q h=>by
  obtain⟨r,mu,S,ds,g,he,o,hm,hc⟩:=zA h;refine⟨r,mu,S,ds,g,he,o,hm,fun vs H' mu' l v j=>?_⟩;have q:=hc vs H' mu' l v j;show AO X.K n m (vs++[]) H' Q E0;rw[aM];obtain⟨d,u,c,w,s,h1,h2,b,t⟩:=q;unfold dX at b;split at b
  ·rename_i i;exact⟨by rw[<- h1.length];exact i,sZ ⟨d,u,c,w,s,h1,h2,b,t⟩⟩
  ·cases b
end
def qT:FS:=fun r S=>some (.nx,r,S)
noncomputable def d8 (a b:FS):FS:=fun r S=>(a r S).bind fun p=>match p.1 with
 | .nx=>b p.2.1 p.2.2
 |f=>some (f,p.2.1,p.2.2)
noncomputable def fu (m:FE):FS:=fun r S=>(m r S).bind fun p=>some (.rt p.1,r,p.2)
def Jh:FS:=fun r S=>some (.rt .non,r,S)
noncomputable def fi (m:FE):FS:=fun r S=>(m r S).bind fun p=>some (.nx,r,p.2)
noncomputable def hH (c:FT)(a b:FS):FS:=fun r S=>(c r S).bind fun p=>if p.1=true then a r p.2 else b r p.2
section
variable{X:Cx}{pos:Pos}{e c:Expr}{st:dQ}{rest as bs:List dQ}{a b:FS}{m:FE}{t:FT}
theorem BJ:AL X [] qT:=vd Bk <| by
 rintro E σ H ⟨r,mu,S,f,e,d,a,b,c,hc⟩;cases c;exact hc σ H mu (.refl _ _) a b
theorem zq(h1:MS X st a)(h2:AL X rest b):AL X (st::rest) (d8 a b):=vd (yN h1 h2) <| by
 rintro E σ H ⟨r,mu,S,f,s,p,o,t,h,hc⟩;obtain⟨⟨l,n,m⟩,u,h⟩:=oB1.mp h;refine⟨r,mu,S,l,n,m,o,t,u,?_⟩;cases l with
 |nx=>
  intro q H1 mu1 i j k;refine⟨n,mu1,m,f,s,p,j,k,h,?_⟩;cases f with
  |nx=>exact fun e H2 c g=>hc e H2 c (i.trans g)
  |bk=>exact fun e H2 c g=>hc e H2 c (i.trans g)
  |ct=>exact fun e H2 c g=>hc e H2 c (i.trans g)
  |rt d=>exact fun v H2 c g=>hc v H2 c (i.trans g)
 |bk=>cases h;exact hc
 |ct=>cases h;exact hc
 |rt d=>cases h;exact hc
theorem BI(h1:MS X st a):AL X [st] a:=Bj h1
theorem BK(h:ME X e m)(hs:swapsWith e none pos.line X.env=pure false:=by rfl):MS X (.Expr e pos) (fi m):=hG (Bl h hs) <| by
 rintro E σ H ⟨r,mu,S,f,j,i,b,hs,a,hc⟩;obtain⟨⟨d,k⟩,g,a⟩:=oB1.mp a;cases a;exact⟨r,mu,S,d,_,b,hs,g,fun v H' mu' x l c=>hc σ H' mu' x (b.ext x) c⟩
theorem Ey(h:ME X e m):MS X (.Return (some e) pos) (fu m):=hG (DY h) <| by
 rintro E σ H ⟨r,mu,S,f,j,i,b,c,a,hc⟩;obtain⟨⟨d,k⟩,g,a⟩:=oB1.mp a;cases a;exact⟨r,mu,S,d,_,b,c,g,hc⟩
theorem GE(hc:MT X c t)(ha:AL X as a)(hb:AL X bs b):MS X (.If c as bs pos) (hH t a b):=hG (Gm hc ha hb) <| by
 rintro E σ H ⟨r,mu,S,f,p,o,m,s,i,hc⟩;obtain⟨⟨k,l⟩,u,i⟩:=oB1.mp i;refine⟨r,mu,S,k,l,m,s,u,fun H1 mu1 j q=>?_⟩;have n:∀c:FS,c r l=some (f,p,o)->xK X.K c E σ H1:=fun c i=>by
  refine⟨r,mu1,l,f,p,o,m.ext j,q,i,?_⟩;cases f with
  |nx=>exact fun g H2 e h=>hc g H2 e (j.trans h)
  |bk=>exact fun g H2 e h=>hc g H2 e (j.trans h)
  |ct=>exact fun g H2 e h=>hc g H2 e (j.trans h)
  |rt d=>exact fun v H2 e h=>hc v H2 e (j.trans h)
 cases k with
 |true=>exact n a i
 |false=>exact n b i
end
abbrev FG:=D->Ev->Sto->Option (Ev×Sto)
abbrev AN:=List D->Ev->Sto->Option (Ev×Sto)
inductive Dz (K:Fg1)(g:FG)(v:V)(σ:L2.St)(H:Hp)(Q:L2.St->Hp->Prop):Prop
 |mk (r:Ev) (mu:List dE) (S:Sto) (d:D) (r':Ev) (S':Sto) (he:fJ K H mu r σ) (hs:Sim K H mu S) (hr:eJ K H mu d v) (hm:g d r S=some (r',S')) (hc:∀ σ' H' mu',Ext mu mu' H H'->fJ K H' mu' r' σ'->Sim K H' mu' S'->Q σ' H')
inductive Ij (K:Fg1)(g:AN)(vs:List V)(σ:L2.St)(H:Hp)(Q:L2.St->Hp->Prop):Prop
 |mk (r:Ev) (mu:List dE) (S:Sto) (ds:List D) (r':Ev) (S':Sto) (he:fJ K H mu r σ) (hs:Sim K H mu S) (hr:d0 K H mu ds vs) (hm:g ds r S=some (r',S')) (hc:∀ σ' H' mu',Ext mu mu' H H'->fJ K H' mu' r' σ'->Sim K H' mu' S'->Q σ' H')
abbrev MG(X:Cx)(e:Expr)(g:FG):Prop:=PG X e (Dz X.K g)
abbrev HB(X:Cx)(es:List Expr)(g:AN):Prop:=FC X es (Ij X.K g)
noncomputable def gN (i:Nat):FG:=fun d r S=>some (r.set i (some d),S)
def gNl:AN:=fun ds r S=>match ds with
 |[]=>some (r,S)
 |_=>none
noncomputable def gCs (g:FG)(gs:AN):AN:=fun ds r S=>match ds with
 |d::ds=>(g d r S).bind fun p=>gs ds p.1 p.2
 |[]=>none
noncomputable def gT (n:Nat)(gs:AN):FG:=fun d r S=>match d with
 | .tup ds=>if ds.length=n then gs ds r S else none
 |_=>none
theorem fJ.set{K:Fg1}{H:Hp}{mu:List dE}{r:Ev}{σ:L2.St}{i:Nat}{d:D}{v:V}(h:fJ K H mu r σ)(q:eJ K H mu d v):fJ K H mu (r.set i (some d)) (σ.set i (some v)):=by
 refine⟨by rw[aW,aW];exact h.len,fun j f e=>?_⟩;by_cases a:i=j
 ·subst a;have b:i<r.length:=by
   have:=(gE1.mp e).1
   rwa [aW]at this
  rw[aI b]at e;cases e;exact⟨v,aI (by rw[<- h.len];exact b),q⟩
 ·rw[gS1 a]at e;obtain⟨c,k,g⟩:=h.val j f e;exact⟨c,by rw[gS1 a];exact k,g⟩
section
variable{X:Cx}{pos:Pos}
theorem uc{e:Expr}{t t':TG}(h:PG X e t)(i:∀v σ H Q,t' v σ H Q->t v σ H Q):PG X e t':=fun pins s σ H v u Q I r q=>h pins s σ H v u Q I r (i v σ H Q q)
theorem vg{e:List Expr}{t t':De}(h:FC X e t)(i:∀v σ H Q,t' v σ H Q->t v σ H Q):FC X e t':=fun pins s σ H v u Q I r q=>h pins s σ H v u Q I r (i v σ H Q q)
theorem BU(i:Nat){x:Str}(hN:X.N.Nodup)(hi:X.N[i]?=some x)(hx:uP X.env.scope x)(hf:X.fn x=true\/X.env.scope.names.lookup x=some .local:=by first|exact .inl rfl|exact .inr rfl|assumption):MG X (.Name x pos) (gN i):=
 uc (vh hN hi hx hf) <| by
  rintro v σ H Q ⟨r,mu,S,d,g,f,a,c,b,e,hc⟩;cases e;exact hc _ H mu (.refl _ _) (a.set b) c
theorem BS:HB X [] gNl:=vg Bv <| by
 rintro vs σ H Q ⟨r,mu,S,ds,f,e,b,d,c,a,hc⟩;unfold gNl at a;split at a
 ·cases a;cases c;exact⟨rfl,hc σ H mu (.refl _ _) b d⟩
 ·cases a
theorem zu{e:Expr}{es:List Expr}{g:FG}{f:AN}(h1:MG X e g)(h2:HB X es f)(hs:(assignEach (e::es) X.env).map (·.2)=assign e X.env::(assignEach es X.env).map (·.2):=by rfl):HB X (e::es) (gCs g f):=
 vg (yW h1 h2 hs) <| by
  rintro vs σ H Q ⟨r,mu,S,ds,o,m,k,hs,s,a,hc⟩;unfold gCs at a;split at a
  ·obtain⟨⟨j,i⟩,u,a⟩:=oB1.mp a;cases s with
   |cons q t=>
    exact⟨_,_,rfl,r,mu,S,_,j,i,k,hs,q,u,fun n H1 mu1 h b p=>⟨j,mu1,i,_,o,m,b,p,t.ext h,a,fun d H2 c l=>hc d H2 c (h.trans l)⟩⟩
  ·cases a
theorem EG{es:List Expr}{k:Nat}{b:AN}{n:Nat}(hc:X.calm=true)(h:HB X es b)(hn:(assignEach es X.env).length=n:=by rfl)(hst:(assignEach es X.env).findIdx? (·.1)=none:=by rfl):MG X (.Tuple es k pos) (gT n b):=
 uc (D7 hc h hn hst) <| by
  rintro v σ H Q ⟨r,mu,S,d,g,e,c,j,i,a,hc⟩;cases d with
  |tup ds=>
   rw[gT]at a;split at a
   ·rename_i f;cases i with
    |tup q t=>exact⟨_,_,rfl,q,by rw[<- t.length];exact f,r,mu,S,ds,g,e,c,j,t,a,hc⟩
   ·cases a
  |_=>cases a
inductive rU (K:Fg1)(f:FN)(o i v:V)(H:Hp)(Q:Hp->Prop):Prop
 |mk (mu:List dE) (S:Sto) (ds:List D) (d:D) (S':Sto) (hr:d0 K H mu ds [o,i,v]) (hs:Sim K H mu S) (hm:f ds S=some (d,S')) (hc:∀H' mu',Ext mu mu' H H'->Sim K H' mu' S'->Q H')
def gS(f:FN)(a b:FE):FG:=fun d r S=>(a r S).bind fun p=>(b r p.2).bind fun q=>(f [p.1,q.1,d] q.2).bind fun t=>some (r,t.2)
theorem EH{o i:Expr}{a b:FE}{f:FN}(ho:ME X o a)(hi:ME X i b)(hs:uO X (rU X.K f))(ha:∀v,assign (.Subscript o i pos) X.env v=(do
   let ov<-holding [v] (eval o X.env)
   let iv<-holding [v,ov] (eval i X.env)
   standAt pos
   holding [v,ov,iv] (setItem ov iv v)
   release [v,ov,iv] []):=by intro _;rfl):MG X (.Subscript o i pos) (gS f a b):=
 uc (D8 ho hi hs ha) <| by
  rintro v σ H Q ⟨r,mu,S,d,D,G,j,hs,B,c,hc⟩;obtain⟨⟨m,q⟩,z,c⟩:=oB1.mp c;obtain⟨⟨n,p⟩,y,c⟩:=oB1.mp c;obtain⟨⟨C,I⟩,x,c⟩:=oB1.mp c;cases c;refine⟨r,mu,S,m,q,j,hs,z,fun F H1 mu1 g t u=>?_⟩;refine⟨r,mu1,q,n,p,j.ext g,u,y,fun E H2 h e r2 w=>?_⟩;exact⟨h,p,[m,n,d],C,_,.cons (t.ext e) (.cons r2 (.cons ((B.ext g).ext e) .nil)),w,x,fun s k l A=>hc σ s k ((g.trans e).trans l) (((j.ext g).ext e).ext l) A⟩
noncomputable def eh (m:FE)(g:FG):FS:=fun r S=>(m r S).bind fun p=>(g p.1 r p.2).bind fun q=>some (.nx,q.1,q.2)
theorem qi{K:Fg1}{m:FE}{g:FG}{E:jt}{σ:L2.St}{H:Hp}(h:xK K (eh m g) E σ H):yo (tM K m) (Dz K g) E σ H:=by
 obtain⟨r,mu,S,f,t,s,d,o,a,hc⟩:=h;obtain⟨⟨i,j⟩,q,a⟩:=oB1.mp a;obtain⟨⟨r2,u⟩,k,a⟩:=oB1.mp a;cases a;refine⟨r,mu,S,i,j,d,o,q,fun v H1 mu1 e p n=>?_⟩;exact⟨r,mu1,j,i,_,_,d.ext e,n,p,k,fun c H2 b l=>hc c H2 b (e.trans l)⟩
theorem EB{tg e:Expr}{m:FE}{g:FG}(he:ME X e m)(hg:MG X tg g)(hs:swapsWithSole [tg] e pos.line X.env=pure false:=by rfl)(hw:swappedStores [tg] e X.env=pure none:=by rfl)(h1:(assignEach [tg] X.env).map (·.2)=[assign tg X.env]:=by rfl):MS X (.Assign [tg] e pos) (eh m g):=hG (D2 he hg hs hw h1) fun _ _ _=>qi
theorem Ex(i:Nat){x:Str}{e:Expr}{m:FE}{pos':Pos}(hN:X.N.Nodup)(hi:X.N[i]? = some x)(hx:uP X.env.scope x)(he:ME X e m)(hs:swapsWith e (some (.Name x pos')) pos.line X.env=pure false:=by rfl)(hf:X.fn x=true\/X.env.scope.names.lookup x=some .local:=by first | exact .inl rfl | exact .inr rfl | assumption):
  MS X (.Assign [.Name x pos'] e pos) (eh m (gN i)):=hG (DX hN hi hx he hs hf) fun E σ H h=>by
 obtain⟨r,mu,S,d,b,h1,h2,o,l⟩:=qi h;refine⟨r,mu,S,d,b,h1,h2,o,fun v H' mu' j q f=>?_⟩;obtain⟨r2,a,t,w,u,s,n,c,g,p,k⟩:=l v H' mu' j q f;cases p;exact k _ H' a (.refl _ _) (n.set g) c
def B0(i:Nat)(f:FN)(m:FE):FS:=fun r S=>match r[i]? with
 |some (some d)=>(m r S).bind fun p=>(f [d,p.1] p.2).bind fun q=>some (.nx,r.set i (some q.1),q.2)
 |_=>none
theorem EA(i:Nat){x:Str}{e:Expr}{m:FE}{op:Operator}{f:FN}{pos':Pos}(hN:X.N.Nodup)(hi:X.N[i]? = some x)(hx:uP X.env.scope x)(he:ME X e m)(ho:HZ X op (r2 X.K f))(hf:X.fn x=true\/X.env.scope.names.lookup x=some .local:=by first | exact .inl rfl | exact .inr rfl | assumption):
  MS X (.AugAssign (.Name x pos') op e pos) (B0 i f m):=hG (D1 hN hi hx he ho hf) <| by
 rintro E σ H ⟨r,mu,S,A,z,D,he,p,a,hc⟩;unfold B0 at a;split at a
 ·rename_i d e;obtain⟨⟨h,j⟩,t,a⟩:=oB1.mp a;obtain⟨⟨n,B⟩,q,a⟩:=oB1.mp a;cases a;obtain⟨v,s,w⟩:=he.val i d e;refine⟨v,s,r,mu,S,h,j,he,p,t,fun C H1 mu1 c l o=>?_⟩;exact⟨mu1,j,[d,h],n,_,.cons (w.ext c) (.cons l .nil),o,q,fun F k b g y u=>hc _ k b (c.trans g) (((he.ext c).ext g).set y) u⟩
 ·cases a
end
noncomputable def qS (c:FT)(b:FS):Nat->FS
 |0=>fun _ _=>none
 | n+1=>fun r S=>(c r S).bind fun p=>if p.1=true then (b r p.2).bind fun q=>match q.1 with
   | .nx=>qS c b n q.2.1 q.2.2
   | .ct=>qS c b n q.2.1 q.2.2
   | .bk=>some (.nx,q.2.1,q.2.2)
   | .rt d=>some (.rt d,q.2.1,q.2.2)
  else some (.nx,r,p.2)
theorem Dl{K:Fg1}{c:FT}{b:FS}{n:Nat}{E:jt}{σ:L2.St}{H:Hp}(h:xK K (qS c b n) E σ H):ym (yn K c) (xK K b) E σ H:=by
 refine⟨fun m a H'=>xK K (qS c b m) E a H',⟨n,h⟩,fun m u H1 q=>?_⟩;obtain⟨r,mu,S,f,z,C,t,F,i,hc⟩:=q;cases m with
 |zero=>cases i
 |succ m=>
  obtain⟨⟨k,B⟩,I,i⟩:=oB1.mp i;refine⟨r,mu,S,k,B,t,F,I,fun H2 e l A=>?_⟩;cases k with
  |false=>
   cases i;exact hc u H2 e l (t.ext l) A
  |true=>
   obtain⟨⟨D,p,s⟩,G,i⟩:=oB1.mp i;have w:∀{a H' mu'},Ext e mu' H2 H'->fJ K H' mu' p a->Sim K H' mu' s->qS c b m p s=some (f,z,C)->xK K (qS c b m) E a H':=fun{a H' mu'} x g o i=>by
    refine⟨p,mu',s,f,z,C,g,o,i,?_⟩;cases f with
    |nx=>exact fun j H2 e y=>hc j H2 e ((l.trans x).trans y)
    |bk=>exact fun j H2 e y=>hc j H2 e ((l.trans x).trans y)
    |ct=>exact fun j H2 e y=>hc j H2 e ((l.trans x).trans y)
    |rt d=>exact fun v H2 e y=>hc v H2 e ((l.trans x).trans y)
   refine⟨fun a H'=>xK K (qS c b m) E a H',fun a H' q=>⟨m,bE _,q⟩,r,e,B,D,p,s,t.ext l,A,G,?_⟩;cases D with
   |nx=>exact fun a H' mu' x g o=>w x g o i
   |ct=>exact fun a H' mu' x g o=>w x g o i
   |bk=>cases i;exact fun a H' mu' x g o=>hc a H' mu' (l.trans x) g o
   |rt d=>cases i;exact fun v H' mu' x p o=>hc v H' mu' (l.trans x) p o
theorem zr{X:Cx}{pos:Pos}(n:Nat){c:Expr}{a:List dQ}{t:FT}{b:FS}(hp:PassesOwn (model X.prog X.w) X.A X.env X.xe)(hc:MT X c t)(hb:AL X a b):MS X (.While c a [] pos) (qS t b n):=
 hG (yO hp hc hb) fun _ _ _=>Dl
structure AM where
 items:List D
 chk:List (Nat×List D)
noncomputable def oC (S:Sto):List (Nat×List D)->Bool
 |[]=>true
 | (n,xs)::c=>(match S[n]? with
   |some (.lst ys)=>D.sames ys xs
   |_=>false)&&oC S c
def ItR(K:Fg1)(j:It)(J:AM)(mu:List dE)(H:Hp):Prop:=∀i H1 mu1 S1,q7 mu mu1 H H1->Sim K H1 mu1 S1->oC S1 J.chk=true ->
 (∀d,J.items[i]?=some d->j.go i H1 /\ ∀x H2,j.yld i H1 x H2->Ext mu1 mu1 H1 H2/\Sim K H2 mu1 S1/\eJ K H2 mu1 d x)/\(J.items.length<=i->j.stop i H1)
abbrev FI:=Ev->Sto->Option (AM×Sto)
inductive Ii (K:Fg1)(m:FI)(σ:L2.St)(H:Hp)(R:It->Hp->Prop):Prop
 |mk (r:Ev) (mu:List dE) (S:Sto) (J:AM) (S':Sto) (he:fJ K H mu r σ) (hs:Sim K H mu S) (hm:m r S=some (J,S')) (hc:∀j H' mu',Ext mu mu' H H'->ItR K j J mu' H'->Sim K H' mu' S'->R j H')
abbrev MI(X:Cx)(tg iter:Expr)(m:FI):Prop:=PI X tg iter (Ii X.K m)
theorem mP{X:Cx}{tg e:Expr}{t t':TI}(h:PI X tg e t)(i:∀ σ H R,t' σ H R->t σ H R):PI X tg e t':=fun pins s σ H R I q=>h pins s σ H R I (i σ H R q)
theorem Gn{X:Cx}{tg e:Expr}{t t':TI}(h:PI X tg e t)(h':PI X tg e t'):PI X tg e (fun σ H R=>t σ H R\/t' σ H R):=fun pins s σ H R I q=>q.elim (h pins s σ H R I) (h' pins s σ H R I)
noncomputable def kk (c:List (Nat×List D))(g:FG)(b:FS):List D->FS
 |[]=>fun r S=>if oC S c=true then some (.nx,r,S)else none
 | d::ds=>fun r S=>if oC S c=true then (g d r S).bind fun p=>(b p.1 p.2).bind fun q=>match q.1 with
   | .nx=>kk c g b ds q.2.1 q.2.2
   | .ct=>kk c g b ds q.2.1 q.2.2
   | .bk=>some (.nx,q.2.1,q.2.2)
   | .rt v=>some (.rt v,q.2.1,q.2.2)
  else none
noncomputable def iT (m:FI)(g:FG)(b:FS):FS:=fun r S=>(m r S).bind fun p=>kk p.1.chk g b p.1.items r p.2
theorem lM{α:Type}{l:List α}{i:Nat}{d:α}{ds:List α}(h:l.drop i=d::ds):l[i]?=some d/\l.drop (i+1)=ds:=by
 have h1:l[i]?=some d:=by
  have:=congrArg (·[0]?) h;simpa using this
 refine⟨h1,?_⟩;rw[<- bF,h];rfl
inductive I9 (K:Fg1)(mu1:List dE)(H1:Hp)(c:List (Nat×List D))(g:FG)(b:FS)(f:Fl)(r':Ev)(S':Sto)(L:List D)(σ':L2.St)(H':Hp):Prop
 |mk (r2:Ev) (mu2:List dE) (S2:Sto):Ext mu1 mu2 H1 H'->fJ K H' mu2 r2 σ'->Sim K H' mu2 S2->kk c g b L r2 S2=some (f,r',S')->I9 K mu1 H1 c g b f r' S' L σ' H'
theorem BZ{K:Fg1}{m:FI}{g:FG}{b:FS}{E:jt}{σ:L2.St}{H:Hp}(h:xK K (iT m g b) E σ H):F7 (Ii K m) (Dz K g) (xK K b) E σ H:=by
 obtain⟨r,mu,S,f,M,R,N,hs,C,hc⟩:=h;obtain⟨⟨J,P⟩,e1,C⟩:=oB1.mp C;refine⟨r,mu,S,J,P,N,hs,e1,fun j H1 mu1 A T s1=>?_⟩;refine⟨fun i k w H'=>k=(J.items.drop i).length/\I9 K mu1 H1 J.chk g b f M R (J.items.drop i) w H',⟨_,rfl,r,mu1,P,.refl _ _,N.ext A,s1,C⟩,?_⟩;rintro i k G H2 ⟨rfl,r2,l,S2,p,u,F,a⟩;cases hl:J.items.drop i with
 |nil=>
  left;rw[hl]at a;rw[kk]at a;dsimp only at a;split at a
  ·rename_i ok;cases a;refine⟨(T i H2 l _ p.w F ok).2 (List.drop_eq_nil_iff.mp hl),?_⟩;exact hc G H2 l (A.trans p) u F
  ·cases a
 |cons d ds=>
  right;rw[hl]at a;obtain⟨hi,O⟩:=lM hl;rw[kk]at a;dsimp only at a;split at a
  ·rename_i ok;obtain⟨⟨U,V⟩,e3,a⟩:=oB1.mp a;obtain⟨⟨Q,D,I⟩,X,a⟩:=oB1.mp a;obtain⟨Y,W⟩:=(T i H2 l _ p.w F ok).1 d hi;refine⟨Y,I9 K mu1 H1 J.chk g b f M R ds,?_,fun x Z y=>?_⟩
   ·intro w H' h5;exact⟨ds.length,bE _,(congrArg List.length O).symm,O.symm ▸ h5⟩
   ·obtain⟨s,s3,q3⟩:=W x Z y;refine⟨r2,l,S2,d,U,V,u.ext s,s3,q3,e3,fun σ4 H4 L z B s4=>?_⟩;refine⟨U,L,V,Q,D,I,B,s4,X,?_⟩;cases Q with
    |nx=>exact fun o t c n e q=>⟨D,c,I,(p.trans s).trans (z.trans n),e,q,a⟩
    |ct=>exact fun o t c n e q=>⟨D,c,I,(p.trans s).trans (z.trans n),e,q,a⟩
    |bk=>cases a;exact fun o t c n e q=>hc o t c ((A.trans p).trans (s.trans (z.trans n))) e q
    |rt v=>cases a;exact fun v5 t c n r5 q=>hc v5 t c ((A.trans p).trans (s.trans (z.trans n))) r5 q
  ·cases a
theorem Ez{X:Cx}{pos:Pos}{tg iter:Expr}{a:List dQ}{m:FI}{g:FG}{b:FS}(hp:PassesOwn (model X.prog X.w) X.A X.env X.xe)(hc:X.calm=true)(hi:MI X tg iter m)(hg:MG X tg g)(hb:AL X a b)(hs:∀x,foldedSetIterable iter X.env x=pure x:=by intro _;rfl):MS X (.For tg iter a [] pos) (iT m g b):=hG (D0 hp hc hi hg hb hs) fun _ _ _=>BZ
def hE(n:Nat)(ds:List D):Ev:=ds.map some++aO (n-ds.length) none
noncomputable def iC (n:Nat)(b:FS):FN:=fun ds S=>(b (hE n ds) S).bind fun p=>match p.1 with
 | .rt d=>some (d,p.2.2)
 | .nx=>some (.non,p.2.2)
 |_=>none
theorem wE{K:Fg1}{H:Hp}{mu:List dE}{ds:List D}{vs:List V}(N:List Str)(h:d0 K H mu ds vs):fJ K H mu (hE N.length ds) (L2.iL N vs):=by
 refine⟨?_,fun i d e=>?_⟩
 ·unfold hE L2.iL;rw[lA1,lA1,lM1,lM1,lR1,lR1,h.length]
 ·unfold hE at e;unfold L2.iL;by_cases hi:i<ds.length
  ·rw[gL1 (by rw[lM1];exact hi),gP1]at e;obtain⟨f,c,b⟩:=oM1.mp e;cases b;obtain⟨v,a,r⟩:=h.get c;refine⟨v,?_,r⟩;rw[gL1 (by rw[lM1,<- h.length];exact hi),gP1,a];rfl
  ·rw[gR1 (by rw[lM1];lia)]at e;have:=gM1 e;rw[List.mem_replicate]at this;cases this.2
theorem G9{P:dF}{w:dH}{K:Fg1}{mg:Str->Option dB}{base:dN}{x c:Str}{st:dQ}{f:dE}{fd:dP}{N ps:List Str}{k:Nat}{b:FS}(F:xO K x c st f fd)(S:gh N ps (ea st))(i:∀(e:dB) (A:dG) (a:List Env) (s:dD) (H:Hp) (E:XK),fN k (A.deeper (envOfC c (ea st) s.heap.objs.size f e)) ->
   AL (lZ tw P w K mg base N c (ea st) f e A a s H E).nox (fq st) b):js P w K mg base tw (k+1) f fd ps (AO K ps.length (iC N.length b)):=by
 refine xO.ok F S (fun vs H Q E h=>h.1) fun e A a s H vs Q E o j=>⟨_,i e A a s H E o,?_⟩;obtain⟨_,mu,St,ds,d,u,h1,h2,g,m⟩:=j;unfold iC at g;obtain⟨⟨l,n,p⟩,q,g⟩:=oB1.mp g;refine⟨_,mu,St,l,n,p,wE N h1,h2,q,?_⟩;cases l with
 |nx=>cases g;exact fun r H' mu' x t s=>m .non H' mu' x .non s
 |rt d=>cases g;exact m
 |bk=>cases g
 |ct=>cases g
def i4(cells:List (Str×dE)):List (Str×NameKind)->List (Str×dE)->Option (List (Str×dE))
 |[],acc=>some acc
 |(n,k)::r,acc=>if k == .free then(cells.lookup n).bind fun c=>i4 cells r ((n,c)::acc)else i4 cells r acc
theorem uH{env:Env}(f:Str×NameKind->List (Str×dE)->Sem (ForInStep (List (Str×dE))))(hf:∀n k d,f (n,k) d=if k == .free then(do let c<-cellOf env n;pure (.yield ((n,c)::d)))else pure (.yield d)):
  ∀(a:List (Str×NameKind)) (acc b:List (Str×dE)),i4 env.cells a acc=some b->forIn a acc f=(pure b:Sem (List (Str×dE)))
 |[],acc,b,h=>by cases h;rfl
 |(n,k)::r,acc,b,h=>by
  rw[bG,hf];unfold i4 at h;split at h
  ·rename_i g;rw[if_pos g];obtain⟨c,e,h⟩:=oB1.mp h;have:cellOf env n=pure c:=by unfold cellOf;rw[e]
   rw[this,pure_bind,pure_bind];exact uH f hf r _ b h
  ·rename_i g;rw[if_neg g,pure_bind];exact uH f hf r _ b h
theorem Ax{scope:dR}{env:Env}{cl:List (Str×dE)}(h:i4 env.cells scope.names []=some cl):closureFor scope env=pure cl:=by
 simp only[closureFor];rw[uH (env:=env) _ (fun n k a=>by cases hk:k == NameKind.free<;>simp[hk]) scope.names [] cl h];rfl
theorem uG{a:List (Str×dE)}:∀{b:List (Str×NameKind)} {acc d:List (Str×dE)},i4 a b acc=some d->(∀x c,acc.lookup x=some c->a.lookup x=some c) -> ∀x c,d.lookup x=some c->a.lookup x=some c
 |[],acc,d,h,ha=>by cases h;exact ha
 |(n,k)::r,acc,d,h,ha=>by
  unfold i4 at h;split at h
  ·obtain⟨c,e,h⟩:=oB1.mp h;refine uG h fun x g q=>?_;rw[bH]at q;split at q
   ·rename_i f;cases q;rw[beq_iff_eq.mp f];exact e
   ·exact ha x g q
  ·exact uG h ha
theorem mm{b:List (Str×dE)}{x:Str}:∀{a:List (Str×NameKind)} {acc d:List (Str×dE)},i4 b a acc=some d->(a.lookup x=some .free\/(acc.lookup x).isSome=true)->(d.lookup x).isSome=true
 |[],acc,d,h,ha=>by
  cases h;rcases ha with q|q
  ·cases q
  ·exact q
 |(n,k)::r,acc,d,h,ha=>by
  unfold i4 at h;split at h
  ·obtain⟨c,e,h⟩:=oB1.mp h;refine mm h ?_;rcases ha with q|q
   ·rw[bH]at q;split at q
    ·rename_i g;right;rw[bH,g];rfl
    ·exact .inl q
   ·right;rw[bH];split
    ·rfl
    ·exact q
  ·rename_i f;refine mm h ?_;rcases ha with q|q
   ·rw[bH]at q;split at q
    ·cases q;exact absurd rfl f
    ·exact .inl q
   ·exact .inr q
theorem gg{x:Str}{c:dE}:∀{a:List (Str×NameKind)} {n:Nat} {acc:List (Str×dE)},(cellsFrom n a acc).lookup x=some c->(n<=c/\(x,c)∈cellsFrom n a [])\/acc.lookup x=some c
 |[],_,_,h=>.inr h
 |(y,k)::r,n,acc,h=>by
  unfold cellsFrom at h ⊢;split at h
  ·rename_i b;rw [if_pos b];have app:∀ (a:List (Str×NameKind)) (m:Nat) (acc:List (Str×dE)),cellsFrom m a acc=cellsFrom m a []++acc:=by
    intro a
    induction a with
    |nil=>intro m acc;rfl
    |cons p r ih=>
     obtain⟨z,q⟩:=p;intro m acc;unfold cellsFrom;split
     ·rw[ih _ ((z,m)::acc),ih _ [(z,m)],bI];rfl
     ·exact ih m acc
   rcases gg h with⟨h1,h2⟩|h1
   ·refine .inl ⟨by lia,?_⟩;rw[app];exact aH _ h2
   ·rw[bH]at h1;split at h1
    ·rename_i d;cases h1;refine .inl ⟨nR1 _,?_⟩;rw[app,beq_iff_eq.mp d];exact mA1 _ mS1
    ·exact .inr h1
  ·rename_i b;rw[if_neg b];exact gg h
theorem nY{x:Str}{c:dE}{n:Nat}{acc:List (Str×dE)}{a:List (Str×NameKind)}(hx:a.lookup x=some .cell)(h:(cellsFrom n a acc).lookup x=some c):n<=c:=by
 have app:∀(a:List (Str×NameKind)) (m:Nat) (acc:List (Str×dE)),cellsFrom m a acc=cellsFrom m a []++acc:=by
  intro a
  induction a with
  |nil=>intro m acc;rfl
  |cons p r ih=>
   obtain⟨z,q⟩:=p;intro m acc;unfold cellsFrom;split
   ·rw[ih _ ((z,m)::acc),ih _ [(z,m)],bI];rfl
   ·exact ih m acc
 rw[app,List.lookup_append]at h;have q:=PySem.W.cellsFrom_some a n [] (.inl hx);obtain⟨b,e⟩:=aP.mp q;rw[e]at h;cases h;rcases gg e with⟨h1,_⟩|h1
 ·exact h1
 ·cases h1
theorem jx {M:Model}{A:dG}{E:dB->dD->Prop}{s:dD}{scope:dR}{globals:dE}{c:List (Str×dE)}{qual:Str}{func:Option dE}{code:dB}{env:Env}{b:dE}{Q:Env->dD->Prop}
  (d:Q {scope,locals:=s.heap.objs.size,globals,cells:=cellsFrom (s.heap.objs.size+1) scope.names c,qual,func,code:=env.code,frame:=env.frame,builtins:=env.builtins}
   {s with heap:=pushCells (s.heap.push {cls:=.type "dict",data:=.dict #[]}) scope.names}):
  dM M A (newFunctionEnv scope globals c [] qual func code (some env) b) Q E s:=by
 simp only[newFunctionEnv,Option.isSome_some,if_true];refine wB1 (wpAny_alloc ?_);refine wB1 (wpAny_layCells _ (fun name a cells=>by cases hkc:a == NameKind.cell<;>simp[hkc]) _ _ _ _ ?_);rw[show({s with heap:=s.heap.push {cls:=.type "dict",data:=.dict #[]}}:dD).heap.objs.size=s.heap.objs.size+1 from hZ1 ..];refine wB1 ?_;rw[List.forIn_nil];exact wP1 (wP1 d)
def cxC(X:Cx)(scope:dR)(cl:List (Str×dE))(T:List Str)(keep:List Nat)(s:dD)(H:Hp)(fp:List dE):Cx where
 prog:=X.prog
 w:=X.w
 K:=X.K
 mg:=X.mg
 base:=X.base
 A:=X.A
 N:=T++keep.map fun i=>X.N.getD i (Str.ofString "")
 s₀:=s
 H₀:=H
 env:=compEnvC scope (cellsFrom (s.heap.objs.size+1) scope.names cl) s.heap.objs.size X.env
 outer:=X.stack
 stack:=X.stack
 ex:=fp
 fn:=fun x=>scope.names.lookup x == some .cell
 calm:=X.calm
 pn:=[]
 xe:=fun _ _=>False
def qo(k:Nat)(keep:List Nat)(σ:L2.St):L2.St:=aO k none++keep.map fun i=>(σ[i]?).join
theorem iU{env:Env}{x:Str}:∀ {a:List (Str×NameKind)},
  (a.map fun(n,k)=>if(k == NameKind.free&&env.scope.kind == .function&&env.kindOf n == some .cell)then(n,NameKind.cell)else(n,k)).lookup x =
   (a.lookup x).map fun k=>if(k == NameKind.free&&env.scope.kind == .function&&env.kindOf x == some .cell)then NameKind.cell else k
 |[]=>rfl
 |(n,k)::r=>by
  show List.lookup x ((if(k == NameKind.free&&env.scope.kind == .function&&env.kindOf n == some .cell)=true then(n,NameKind.cell)else(n,k))::_)=_;cases hx:x == n with
  |true=>
   have e:=beq_iff_eq.mp hx;subst e;by_cases hc:(k == NameKind.free&&env.scope.kind == .function&&env.kindOf x == some .cell)=true
   ·rw[if_pos hc,bH,hx,bH,hx];simp only[oP1,if_pos hc]
   ·rw[if_neg hc,bH,hx,bH,hx];simp only[oP1,if_neg hc]
  |false=>
   have ih:=@iU env x r;by_cases hc:(k == NameKind.free&&env.scope.kind == .function&&env.kindOf n == some .cell)=true
   ·rw[if_pos hc,bH,hx,bH,hx];exact ih
   ·rw[if_neg hc,bH,hx,bH,hx];exact ih
structure FP (X:Cx)(scope:dR)(T:List Str)(keep:List Nat):Prop where
 kind:scope.kind = .function
 names:∀x∈scope.names,x.2 = .local->scope.names.lookup x.1=some .local
 free:∀i∈keep,∃x,X.N[i]?=some x/\scope.names.lookup x=some .free/\(X.env.kindOf x=some .cell\/X.env.kindOf x=some .free)/\(x,NameKind.cell)∉scope.names
theorem sx{X:Cx}{pins:List (dE×Obj)}{σ:L2.St}{H:Hp}{s:dD}{scope:dR}{w:List (Str×dE)}{T:List Str}{keep:List Nat}{D:List dE}(I:Inv X pins σ H s)(C:FP X scope T keep)(A:i4 X.env.cells scope.names []=some w)(hf:∀b∈D,jr X pins H b)(M:∀b∈D,∃o,s.heap.get? b=some o):
  Inv (cxC X scope w T keep s H D) [] (qo T.length keep σ) H {s with heap:=pushCells (s.heap.push {cls:=.type "dict",data:=.dict #[]}) scope.names}:=by
 have kept:∀b o,s.heap.get? b=some o->(pushCells (s.heap.push {cls:=.type "dict",data:=.dict #[]}) scope.names).get? b=some o:=fun b o e=>pushCells_keeps _ _ b o (hP1 _ e);have B:=cellsFrom_ok scope.names (s.heap.push {cls:=.type "dict",data:=.dict #[]}) (s.heap.objs.size+1) [] ⟨fun _ _ U=>(nomatch U),List.Pairwise.nil⟩ (by rw[hZ1];exact nR1 _);rw[hZ1]at B;have K:=uG A (fun x c q=>by cases q)
 -- a cell of the block: its own or an elder one
 have d:∀x c,(cellsFrom (s.heap.objs.size+1) scope.names w).lookup x=some c->(s.heap.objs.size+1<=c/\(x,c)∈cellsFrom (s.heap.objs.size+1) scope.names [])\/X.env.cells.lookup x=some c:=fun x c h=>by
  rcases gg h with h1|h1
  ·exact .inl h1
  ·exact .inr (K x c h1)
 have g:∀x c,X.env.cells.lookup x=some c->c<s.heap.objs.size:=fun x c e=>by
  obtain⟨v,z⟩:=I.cell x c e;exact z.lt
 have t:∀b∈D,b<s.heap.objs.size:=fun b l=>by
  obtain⟨o,e⟩:=M b l;exact hL1 e
 have fst:∀b∈D,b∉frs X.stack:=fun b l z=>by
  rcases aF.mp (I.stkSub b z)with q|q
  ·exact(hf b l).2.1 q
  ·exact(hf b l).2.2.1 q
 have kindOf:∀x,(cxC X scope w T keep s H D).env.kindOf x=(scope.names.lookup x).map fun k=>if(k == NameKind.free&&X.env.scope.kind == .function&&X.env.kindOf x == some .cell)then NameKind.cell else k:=fun x=>iU
 refine⟨⟨I.ok.mod,C.kind,I.ok.glob,I.ok.blt,nR1 _,fun x y c h1 h2=>?_,fun x E=>?_,fun x c h1 h2=>?_,I.ok.hd,I.ok.frames,.inl rfl,fun b l=>⟨nN1 (t b l),fun x c h z=>?_⟩,fun b o e=>I.bs b o e,aC I.ok.bsz I.sz,fun b o e l=>?_,fst,I.stack,I.stkFree⟩,
  rfl,I.bare,Un.kept kept,⟨fun _=>none,(Heap.Ns.new s.heap (.type "dict")).keeps (pushCells_keeps _ _),fun i x v h1 h2 h3=>?_⟩,fun x c h=>?_,I.hok.fresh (nR1 _),fun x c h=>?_,fun p R=>absurd (show p∈([]:List (dE×Obj))from R) (by simp),I.hok.kept kept,?_⟩
 ·rcases d x c h1 with⟨a1,a2⟩|a1<;>rcases d y c h2 with⟨b1,b2⟩|b1
  ·exact name_of_addr B.apart a2 b2
  ·exact absurd (bJ (bK a1) (g y c b1)) (az _)
  ·exact absurd (bJ (bK b1) (g x c a1)) (az _)
  ·exact I.ok.inj x y c a1 b1
 ·have L:scope.names.lookup x=some .cell\/scope.names.lookup x=some .free:=by
   rw[kindOf x]at E;cases e:scope.names.lookup x with
   |none=>rw[e]at E;rcases E with z|z<;>cases z
   |some k=>
    rw[e]at E;simp only[oP1]at E;cases k<;>simp_all
  have:((cellsFrom (s.heap.objs.size+1) scope.names w).lookup x).isSome=true:=by
   rcases L with z|z
   ·exact PySem.W.cellsFrom_some _ _ _ (.inl z)
   ·exact PySem.W.cellsFrom_some _ _ _ (.inr (mm A (.inl z)))
  exact aP.mp this
 ·have f:scope.names.lookup x=some .cell:=by simpa[cxC]using h1
  have:=nY f h2;exact aC (aX _) this
 ·subst z;rcases d x c h with⟨a1,_⟩|a1
  ·exact absurd (bJ (bK a1) (t c l)) (az _)
  ·exact(hf c l).2.2.2.2.1 x c a1 rfl
 ·rcases(hf b l).2.2.2.1 with z|z
  ·exact I.ok.noex b o e z
  ·exact absurd (nL1 (hL1 e) (aC I.ok.bsz z)) (az _)
 ·-- a name of the block that has a value:one of the outer text's
  have hi:T.length<=i:=by
   refine a0 fun hi=>?_;unfold qo at h2;rw[gL1 (by rw[lR1];exact hi),aR]at h2;split at h2<;>cases h2
  unfold qo at h2;rw[gR1 (by rw[lR1];exact hi),lR1,gP1]at h2;obtain⟨j,N,h2⟩:=oM1.mp h2;have f:X.N.getD j (Str.ofString "")=x:=by
   have f:(T++keep.map fun i=>X.N.getD i (Str.ofString ""))[i]?=some x:=h1;rw[gR1 hi,gP1,N]at f;exact Option.some.inj f
  obtain⟨y,Q,P,ky,W⟩:=C.free j (gM1 N);have F:y=x:=by rw[<- f,bL,Q];rfl
  subst F;have J:σ[j]?=some (some v):=by
   cases e:σ[j]? with
   |none=>rw[e]at h2;cases h2
   |some o=>rw[e]at h2;cases h2;rfl
  obtain⟨m,hn,Y⟩:=I.loc;obtain⟨u,ru,lu⟩:=Y j y v Q J (by
   rcases ky with z|z
   ·exact .inr (.inl z)
   ·exact .inr (.inr z))
  refine⟨u,ru,?_⟩;rcases lu with⟨z,_⟩|⟨_,c,ec,V⟩
  ·rcases ky with q|q<;>(rw[z]at q;cases q)
  ·right;refine⟨?_,c,?_,V.keeps kept⟩
   ·rw[kindOf,P];simp only[oP1];split
    ·exact .inl rfl
    ·exact .inr rfl
   ·obtain⟨c',Z⟩:=aP.mp (PySem.W.cellsFrom_some scope.names (s.heap.objs.size+1) w (.inr (mm A (.inl P))):((cellsFrom (s.heap.objs.size+1) scope.names w).lookup y).isSome=true);have O:(cellsFrom (s.heap.objs.size+1) scope.names w).lookup y=some c':=Z;rcases d y c' O with⟨a1,a2⟩|a1
    ·-- an own cell of that name:its kind would be cell
     exfalso;have:∀(names:List (Str×NameKind)) (n:Nat),(y,c')∈cellsFrom n names []->(y,NameKind.cell)∈names:=by
      have app:∀(names:List (Str×NameKind)) (m:Nat) (acc:List (Str×dE)),cellsFrom m names acc=cellsFrom m names []++acc:=by
       intro names
       induction names with
       |nil=>intro m acc;rfl
       |cons p r ih=>
        obtain⟨z,q⟩:=p;intro m acc;unfold cellsFrom;split
        ·rw[ih _ ((z,m)::acc),ih _ [(z,m)],bI];rfl
        ·exact ih m acc
      intro names
      induction names with
      |nil=>intro n h;cases h
      |cons p r ih=>
       obtain⟨z,q⟩:=p;intro n h;unfold cellsFrom at h;split at h
       ·rename_i S;rw[app]at h;rcases aG.mp h with h|h
        ·exact mC1 _ (ih _ h)
        ·have:(y,c')=(z,n):=by simpa using h
         cases this;have G:q=NameKind.cell:=by simpa using S
         subst G;exact mS1
       ·exact mC1 _ (ih _ h)
     exact W (this _ _ a2)
    ·rw[ec]at a1;cases a1;exact O
 ·rcases d x c h with⟨a1,a2⟩|a1
  ·exact⟨_,(B.empty x c a2).1⟩
  ·obtain⟨v,z⟩:=I.cell x c a1;exact⟨v,z.keeps kept⟩
 ·rcases d x c h with⟨a1,a2⟩|a1
  ·exact I.hok.fresh (bK a1)
  ·exact I.freeC x c a1
 ·show(qo T.length keep σ).length=(T++keep.map fun i=>X.N.getD i (Str.ofString "")).length;unfold qo;rw[lA1,lA1,lR1,lM1,lM1]
def ri(p:Pos)(tg:Expr)(ifs:List Expr)(it:dB)(env:Env)(emit:Sem Unit)(c:Code):Sem PySem.Fin:=do
 standAt p
 match<-pyNext it with
 |none=>pure (.done .next)
 |some v=>
  letOwnedTupleGo tg it v
  assign tg env v
  let mut ok:=true
  for c in ifs do
   if ok then ok<-isTrue c env (eval c env)
  if ok then emit
  again c
def oZ(elt:Expr)(acc:dB)(env:Env):Sem Unit:=do let _<-call (.builtin "list.append") [acc,<- eval elt env]
theorem tV(elt tg iter:Expr)(ifs:List Expr)(scope:dR)(pos:Pos)(it acc:dB)(env:Env):
  compTurn (.ListComp elt [⟨tg,iter,ifs,0⟩] scope pos) 0 it acc env=ri iter.pos tg ifs it env (oZ elt acc env) (.compLoop (.ListComp elt [⟨tg,iter,ifs,0⟩] scope pos) 0 it acc env):=by rfl
def n3(X:Cx)(ifs:List Expr)(t:TT):Prop:=
 ∀(pins:List (dE×Obj)) (s:dD) (σ:L2.St) (H:Hp) (Q:Bool->Hp->Prop),Inv X pins σ H s->t σ H Q ->
  dM (model X.prog X.w) X.A (forIn ifs true fun c r=>if r=true then do let ok<-isTrue c X.env (eval c X.env);pure (ForInStep.yield ok)else pure (ForInStep.yield r)) (TP X pins σ Q) X.xe s
theorem yT{X:Cx}:n3 X [] (fun σ H Q=>Q true H):=fun pins s σ H Q I h=>wpAny_tests_nil ⟨H,I,h⟩
theorem yS{X:Cx}{c:Expr}{t:TT}(h:PT X c t):n3 X [c] t:=fun pins s σ H Q I q=>wpAny_tests_one (h pins s σ H Q I q)
def PU(X:Cx)(m:Sem Unit)(t:TS):Prop:=
 ∀(pins:List (dE×Obj)) (s:dD) (σ:L2.St) (H:Hp) (E:jt),Inv X pins σ H s->t E σ H->dM (model X.prog X.w) X.A m (fun _ s'=>∃ σ' H',Inv X pins σ' H' s'/\E.nx σ' H') X.xe s
theorem o4{X:Cx}(hx:X.xe=fun _ _=>False)(hc:X.calm=true){elt:Expr}{c:List Comprehension}{scope:dR}{pos p:Pos}{d:Nat}{tg:Expr}{ifs:List Expr}{acc:dB}{emit:Sem Unit}{J:It}{y:List dE}{it:dE}{O:Nat->dN->Prop}{g:TG}{ti:TT}{tb:TS}(eq:compTurn (.ListComp elt c scope pos) d (.ref it) acc X.env=ri p tg ifs (.ref it) X.env emit (.compLoop (.ListComp elt c scope pos) d (.ref it) acc X.env))(T:tq X.prog X.w X.K tg J y it O)(hg:PG X tg g)(hi:n3 X ifs ti)(he:PU X emit tb){pins:List (dE×Obj)}{s:dD}{σ:L2.St}{H:Hp}{D:jt}(I:Inv X pins σ H s)(st:O 0 s.heap)(f2:∀b∈y,jr X pins H b)(h:∃W:Nat->Nat->L2.St->Hp->Prop,(∃m,W 0 m σ H) /\ ∀i m σ H,W i m σ H ->
   (J.stop i H/\D.nx σ H)\/(J.go i H /\ ∃N:L2.St->Hp->Prop,(∀a H',N a H' -> ∃P,P<m/\W (i+1) P a H') /\ ∀x H',J.yld i H x H'->g x σ H' fun z H2=>ti z H2 fun b v=>if b=true then tb {D with nx:=N} z v else N z v)):
  codeAny (model X.prog X.w) X.A (.compLoop (.ListComp elt c scope pos) d (.ref it) acc X.env) (fun r s'=>match r with | .ok _=>∃a H',Inv X pins a H' s'/\D.nx a H' | .error _=>False) s:=by
 obtain⟨W,⟨m0,w0⟩,M⟩:=h;have k:∀{H':Hp},(∀b∈y,H' b=none) -> ∀b∈y,jr X pins H' b:=fun hn b l=>⟨hn b l,(f2 b l).2⟩;refine codeAny_loop rfl (fun n s'=>∃i a H',Inv X pins a H' s'/\O i s'.heap/\(∀b∈y,H' b=none)/\W i n a H') ?_ m0 ⟨0,σ,H,I,st,fun b l=>(f2 b l).1,w0⟩;rintro n U ⟨i,f,v,I3,K,F,w3⟩;show dM _ _ ((compTurn (.ListComp elt c scope pos) d (.ref it) acc X.env).onRaise (fun x=>do noteFrame x X.env;theTreesLotGoes x)) _ _ U;refine wpAny_noted ?_;rw[eq];have B:∀{α:Type} {m:Sem α} {Q:α->dD->Prop} {s:dD} {E:dB->dD->Prop},dM (model X.prog X.w) X.A m Q X.xe s->dM (model X.prog X.w) X.A m Q E s:=fun h=>by
  rw[hx]at h;exact wpAny_mono h (fun _ _ q=>q) fun _ _ q=>q.elim
 unfold ri;refine wB1 (wpAny_standAt (wB1 ?_));rcases M i n f v w3 with⟨G,qn⟩|⟨go,N,hN,step⟩
 ·refine B (fg (T.done X rfl rfl rfl hc i pins U f v X.xe I3 (k F) K G) fun r s4 ⟨V,I4⟩=>?_);subst V;exact wP1 ⟨f,v,I4,qn⟩
 ·refine B (fg (T.item X rfl rfl rfl hc i pins U f v X.xe I3 (k F) K go) fun r s4 ⟨u,V,h4⟩=>?_);subst V;refine wB1 (B (fg h4 fun _ s5 ⟨x,Z,I5,r5,y5,t,S⟩=>?_));have R:=I5.pinned (k S) (T.obj _ _ t);refine wB1 (B (fg (hg _ s5 f Z x u _ R r5 (step x Z y5)) fun _ s6 ⟨L,H6,I6,q6⟩=>?_));refine wB1 (B (fg (hi _ s6 L H6 _ I6 q6) fun ok C ⟨w,A,Y⟩=>?_));have again':∀ {j:L2.St} {w:Hp} {C:dD},Inv X (pins++mO y s5.heap) j w C->N j w -> ∃ m,m<n /\ ∃ i a H',Inv X pins a H' C/\O i C.heap/\(∀ b∈y,H' b=none)/\W i m a H':=fun {j w C} A n7=>by
   obtain⟨P,hm,w7⟩:=hN j w n7;refine⟨P,hm,i+1,j,w,A.unpinned,T.keep _ _ _ t fun b l o e=>(A.pin (b,o) (mA1 _ (mA1 _ (iz l e)))).1,fun b l=>?_,w7⟩;obtain⟨o,e,d⟩:=T.obj _ _ t b l;exact(A.pin (b,o) (mA1 _ (mA1 _ (iz l e)))).2.1
  cases ok with
  |false=>exact wP1 ⟨rfl,again' A Y⟩
  |true=>exact wB1 (B (fg (he _ C L w _ A Y) fun _ s8 ⟨σ8,H8,I8,q8⟩=>wP1 ⟨rfl,again' I8 q8⟩))
def rn(p:dE)(te:TE):TS:=fun D σ H=>te σ H fun x H1=>∃xs,H1 p=some (.lst xs)/\xs.length<dL/\D.nx σ (upd H1 p (.lst (xs++[x])))
theorem pX{X:Cx}{elt:Expr}{te:TE}(h:PE X elt te)(p:dE):PU X (oZ elt (.ref p) X.env) (rn p te):=by
 intro pins s σ H E I q;unfold oZ;refine wB1 (fg (h pins s σ H _ I q) fun u c ⟨x,H1,d,i,xs,f,a,e⟩=>?_);refine wB1 (fg (oF pins c σ H1 (.ref p) [x] (.ref p) [u] (fun _ H'=>E.nx σ H') d rfl (.cons i .nil) ⟨p,xs,x,rfl,rfl,f,a,e⟩) fun _ j ⟨_,H2,g,_,b⟩=>?_);exact wP1 ⟨σ,H2,g,b⟩
def CU(J:It)(g:TG)(ti:TT)(tb:TS):TS:=fun D σ H=>∃W:Nat->Nat->L2.St->Hp->Prop,(∃m,W 0 m σ H) /\ ∀i m σ H,W i m σ H ->
 (J.stop i H/\D.nx σ H)\/(J.go i H /\ ∃N:L2.St->Hp->Prop,(∀ σ' H',N σ' H' -> ∃m',m'<m/\W (i+1) m' σ' H') /\ ∀x H',J.yld i H x H'->g x σ H' fun σ2 H2=>ti σ2 H2 fun b H3=>if b=true then tb {D with nx:=N} σ2 H3 else N σ2 H3)
theorem Un.sameBut{fs ex:List dE}{H H':Hp}{h h1 h2:dN}{c:dE}(u:Un fs ex H H' h h1)(hs:Heap.SameBut c h1 h2)(hc:h.get? c=none):Un fs ex H H' h h2:=by
 have ne:∀{b o},h.get? b=some o->b≠c:=fun e z=>by rw[z,hc]at e;cases e
 refine⟨fun b o e n d a=>(hs.2 b (ne e)).trans (u.keep b o e n d a),fun b o e n d a=>?_,u.free,fun b o e a=>?_,u.tups,u.frzs,u.tbls⟩
 ·obtain⟨sl,q⟩:=u.slot b o e n d a;exact⟨sl,(hs.2 b (ne e)).trans q⟩
 ·obtain⟨o',q⟩:=u.there b o e a;exact⟨o',(hs.2 b (ne e)).trans q⟩
def u4(k:Nat)(keep:List Nat)(wi:TI)(g:TG)(ti:TT)(tb:dE->TS):TE:=fun σ H Q=>wi σ H fun J H1=>∀p,H1 p=none ->
 CU J g ti (tb p) {nx:=fun _ H'=>Q (.ref p) H',rt:=fun _ _=>False} (qo k keep σ) (upd H1 p (.lst []))
theorem vj{X:Cx}(hc:X.calm=true){elt tg iter:Expr}{ifs:List Expr}{rest:List Comprehension}{scope:dR}{pos:Pos}{T:List Str}{keep:List Nat}{l:List (Str×dE)}{K:TI}{g:TG}{ti:TT}{tb:dE->TS}{emit:dB->Env->Sem Unit}(eq:∀it k i,compTurn (.ListComp elt (⟨tg,iter,ifs,0⟩::rest) scope pos) 0 it k i=ri iter.pos tg ifs it i (emit k i) (.compLoop (.ListComp elt (⟨tg,iter,ifs,0⟩::rest) scope pos) 0 it k i))(C:FP X scope T keep)(t:i4 X.env.cells scope.names []=some l)(hi:PI X tg iter K)(hb:∀s H d p,PG (cxC X scope l T keep s H d) tg g/\n3 (cxC X scope l T keep s H d) ifs ti/\PU (cxC X scope l T keep s H d) (emit (.ref p) (cxC X scope l T keep s H d).env) (tb p))(hs:∀x,foldedSetIterable iter X.env x=pure x:=by intro _;rfl):
  PE X (.ListComp elt (⟨tg,iter,ifs,0⟩::rest) scope pos) (u4 T.length keep K g ti tb):=by
 intro pins s σ H Q I h;rw[eval_ListComp];refine wpAny_comprehension_free (use:=none) rfl hs (Ax t) C.kind C.names ?_;refine fg (hi pins s σ H _ I h) fun v s1 h1=>fg h1 fun P a h2=>?_;obtain⟨it,d,V,J,H2,rfl,E,TT,w,L,q2⟩:=h2;refine wO1 ?_;have F:Inv X pins σ (upd H2 a.heap.objs.size (.lst [])) {a with heap:=a.heap.push {cls:=.type "list",data:=.seq ([]:List dB).toArray}}:=E.lnew (t':=a.toks) .nil (bi _);have old:∀b∈d,∃o,a.heap.get? b=some o:=fun b hb=>by
  obtain⟨o,e,_⟩:=TT.obj 0 a.heap w b hb;exact⟨o,e⟩
 have D:∀b∈d,b≠a.heap.objs.size:=fun b hb z=>by
  obtain⟨o,e⟩:=old b hb;have:=hL1 e;rw[z]at this;exact az _ this
 have A:∀b∈d,jr X pins (upd H2 a.heap.objs.size (.lst [])) b:=fun b hb=>⟨by rw[dY (D b hb)];exact(L b hb).1,(L b hb).2⟩;have O:∀b∈d,∃o,({a with heap:=a.heap.push {cls:=.type "list",data:=.seq ([]:List dB).toArray}}:dD).heap.get? b=some o:=fun b hb=>by
  obtain⟨o,e⟩:=old b hb;exact⟨o,hP1 _ e⟩
 have B:=sx F C t A O;obtain⟨Y,hf,R⟩:=hb {a with heap:=a.heap.push {cls:=.type "list",data:=.seq ([]:List dB).toArray}} (upd H2 a.heap.objs.size (.lst [])) d a.heap.objs.size;refine jx ?_;have Z:∀b∈d,jr (cxC X scope l T keep {a with heap:=a.heap.push {cls:=.type "list",data:=.seq ([]:List dB).toArray}} (upd H2 a.heap.objs.size (.lst [])) d) [] (upd H2 a.heap.objs.size (.lst [])) b:=fun b hb=>
  ⟨(A b hb).1,(B.ok.exf b hb).1,B.ok.exfs b hb,.inl hb,(B.ok.exf b hb).2,fun p N=>absurd (show p∈([]:List (dE×Obj))from N) (by simp)⟩
 have y:V 0 (pushCells ((a.heap.push {cls:=.type "list",data:=.seq ([]:List dB).toArray}).push {cls:=.type "dict",data:=.dict #[]}) scope.names):=
  TT.keep 0 a.heap _ w fun b hb o e=>pushCells_keeps scope.names _ b o (hP1 _ (hP1 _ e))
 have j:=o4 (X:=cxC X scope l T keep {a with heap:=a.heap.push {cls:=.type "list",data:=.seq ([]:List dB).toArray}} (upd H2 a.heap.objs.size (.lst [])) d) rfl hc (eq (.ref it) (.ref a.heap.objs.size) _) TT Y hf R B y Z
  (q2 a.heap.objs.size (E.hok.fresh (nR1 _)))
 refine codeAny_mono (codeAny_compStart_list j (TT.self X.A 0 _ _ _ y j)) fun r s' G=>?_;cases r with
 |error e=>exact G.elim
 |ok f=>
  obtain⟨U,H',n,q'⟩:=G;obtain⟨m,W,_⟩:=id n.loc;refine⟨m,W,fun h' u=>⟨.ref a.heap.objs.size,H',?_,rfl,q'⟩⟩;refine F.call' (s':={s' with heap:=h'}) (ch:=d) n.os (Un.sameBut n.base u (Heap.get?_none_of_le (nR1 _))) (fun b S e=>?_) n.bare fun b hb=>(A b hb).2.2.2 |> fun z=>⟨z.1,(A b hb).2.1,z.2.1,z.2.2⟩
  refine(n.hok b S e).stay (fun c w' hc q=>(u.2 c ?_).trans q) (fun _ q=>q) fun _ _ q=>q;rintro rfl;have M:=n.free;rcases hc with rfl|hc
  ·exact nomatch M.symm.trans e
  ·exact nomatch M.symm.trans hc
section
variable{K:Fg1}{H:Hp}{mu:List dE}{S:Sto}{p:dE}{u:HO}{o:Ob}{n:Nat}
theorem Rd.ne{a:dE}{x:HO}(h:H p=none)(q:Rd H a x):a≠p:=by
 rintro rfl;rcases q with q|⟨_,q⟩<;>(rw[h]at q;cases q)
theorem Ext.fresh(hp:H p=none):Ext mu mu H (upd H p u) where
 pre:=bn
 old:=fun a o h _=>by rw[dY (eD h hp)];exact h
 tup:=fun a xs h=>by
  have ne:=Rd.ne hp h;rcases h with h|⟨b,h⟩
  ·exact .inl (by rw[dY ne];exact h)
  ·exact .inr ⟨b,by rw[dY ne];exact h⟩
 frz:=fun a o x h=>by rw[dY (eD h hp)];exact h
 new:=fun _ h=>.inl h
theorem Ext.new_(hp:H p=none):Ext mu (mu++[p]) H (upd H p u) where
 pre:=bw _ _
 old:=(Ext.fresh (mu:=mu) hp).old
 tup:=(Ext.fresh (mu:=mu) hp).tup
 frz:=(Ext.fresh (mu:=mu) hp).frz
 new:=fun a h=>by
  rcases aG.mp h with h|h
  ·exact .inl h
  ·have:a=p:=by simpa using h
   subst this;exact .inr hp
theorem Sim.fresh(s:Sim K H mu S)(hp:H p=none):Sim K (upd H p u) mu S:=
 ⟨s.len,s.nd,fun k o a h1 h2=>(s.ob k o a h1 h2).keep (Ext.fresh hp) fun b e=>by rw[dY (eD e hp)];exact e⟩
theorem Sim.notin(s:Sim K H mu S)(hp:H p=none):p∉mu:=fun h=>by
 obtain⟨o,e⟩:=s.here h;rw[hp]at e;cases e
theorem jH.more{a:dE}{mu':List dE}{H':Hp}(e:Ext mu mu' H H')(h:∀o,H a=some o->H' a=some o):∀{o:Ob},jH K H mu a o->jH K H' mu' a o
 | .lst _,⟨vs,q,r⟩=>⟨vs,h _ q,r.ext e⟩
 | .dct _,⟨ws,q,r⟩=>⟨ws,h _ q,KR.ext e r⟩
 | .dcT _,⟨ws,q,r,l⟩=>⟨ws,h _ q,KT.ext e r,l⟩
 | .iset _,q=>⟨h _ q.1,q.2⟩
 | .dcF _,⟨ws,⟨o,u,c,b⟩,r,l⟩=>⟨ws,⟨o,u,h _ c,b⟩,KT.ext e r,l⟩
 | .tst _,⟨ws,q,r⟩=>⟨ws,h _ q,KT.ext e r⟩
theorem Sim.new(s:Sim K H mu S)(hp:H p=none)(ho:jH K (upd H p u) (mu++[p]) p o):Sim K (upd H p u) (mu++[p]) (S++[o]):=by
 refine⟨by rw[lA1,lA1,s.len];rfl,?_,fun k o' a h1 h2=>?_⟩
 ·rw[bB];refine⟨s.nd,by simp,fun a f b g e=>?_⟩;have:b=p:=by simpa using g
  subst this;subst e;exact s.notin hp f
 ·by_cases d:k<S.length
  ·rw[gL1 d]at h1;rw[gL1 (by rw[s.len];exact d)]at h2;exact(s.ob k o' a h1 h2).more (Ext.new_ hp) fun h e=>by rw[dY (eD e hp)];exact e
  ·have c:k=S.length:=by
    have:=(gE1.mp h1).1;rw[lA1]at this;simp at this;lia
   subst c;rw[gR1 (nR1 _)]at h1;rw[<- s.len,gR1 (nR1 _)]at h2;simp at h1 h2;subst h1;subst h2;exact ho
theorem Ext.put{x:HO}(hp:H p=some x)(hm:Mut (some x))(b:p∈mu):Ext mu mu H (upd H p u) where
 pre:=bn
 old:=fun a o h n=>by rw[dY (fun e=>n (by rw[e];exact b))];exact h
 tup:=fun a xs h=>by
  have ne:a≠p:=by
   rintro rfl;rcases h with h|⟨_,h⟩<;>(rw[hp]at h;cases h;exact hm)
  rcases h with h|⟨c,h⟩
  ·exact .inl (by rw[dY ne];exact h)
  ·exact .inr ⟨c,by rw[dY ne];exact h⟩
 frz:=fun a o y h=>by
  rw[dY (fun e=>?_)]
  ·exact h
  ·subst e;rw[hp]at h;cases h;exact hm
 new:=fun _ h=>.inl h
theorem Sim.put(s:Sim K H mu S){x:HO}(hn:mu[n]?=some p)(hp:H p=some x)(hm:Mut (some x))(ho:jH K (upd H p u) mu p o):Sim K (upd H p u) mu (S.set n o):=by
 refine⟨by rw[aW];exact s.len,s.nd,fun k o' a h1 h2=>?_⟩;by_cases b:n=k
 ·subst b;have d:n<S.length:=by
   have:=(gE1.mp h1).1
   rwa [aW]at this
  rw[aI d]at h1;cases h1;rw[hn]at h2;cases h2;exact ho
 ·rw [gS1 b] at h1;have ne:a≠p:=fun e=>by
   subst e;obtain⟨i,f⟩:=gE1.mp hn;obtain⟨h,c⟩:=gE1.mp h2;exact b ((List.getElem_inj s.nd).mp (f.trans c.symm))
  exact(s.ob k o' a h1 h2).keep (Ext.put hp hm (gM1 hn)) fun g e=>by rw[dY ne];exact e
theorem Sim.lst(s:Sim K H mu S){ds:List D}{a:dE}(h:S[n]?=some (.lst ds))(hn:mu[n]?=some a):∃vs,H a=some (.lst vs)/\d0 K H mu ds vs:=s.ob n _ a h hn
theorem Sim.dcT(s:Sim K H mu S){ks:List (TK×D)}{a:dE}(h:S[n]?=some (.dcT ks))(hn:mu[n]?=some a):∃ws,H a=some (.ext (gb a ws))/\KT K H mu ks ws/\ws.length<=dL:=s.ob n _ a h hn
theorem Sim.dct(s:Sim K H mu S){ks:List (Key×D)}{a:dE}(h:S[n]?=some (.dct ks))(hn:mu[n]?=some a):∃ws,H a=some (.dK ws)/\KR K H mu ks ws:=s.ob n _ a h hn
theorem Sim.newL(s:Sim K H mu S){ds:List D}{vs:List V}(r:d0 K H mu ds vs)(hp:H p=none):Sim K (upd H p (.lst vs)) (mu++[p]) (S++[.lst ds]):=s.new hp ⟨vs,d3,r.ext (Ext.new_ hp)⟩
theorem Sim.putL(s:Sim K H mu S){ds:List D}{vs ws:List V}(r:d0 K H mu ds vs)(hn:mu[n]?=some p)(hp:H p=some (.lst ws)):Sim K (upd H p (.lst vs)) mu (S.set n (.lst ds)):=
 s.put hn hp trivial ⟨vs,d3,r.ext (Ext.put hp trivial (gM1 hn))⟩
end
theorem fZ{mu:List dE}{S:Sto}(h:mu.length=S.length)(p:dE):(mu++[p])[S.length]?=some p:=by
 rw[<- h,gR1 (nR1 _)];simp
noncomputable def eQ (a:FA):FE:=fun r S=>(a r S).bind fun p=>if p.1.length<=dL then some (.tup p.1,p.2)else none
noncomputable def jC (a:FA):FE:=fun r S=>(a r S).bind fun p=>if p.1.length<=dL then some (.ref p.2.length,p.2++[.lst p.1])else none
section
variable{X:Cx}{es:List Expr}{pos:Pos}{a:FA}
theorem EK{x1}(h:MA X es a):ME X (.Tuple es x1 pos) (eQ a):=eU (D9 h) <| by
 rintro σ H Q ⟨r,mu,S,d,l,f,j,b,hc⟩;obtain⟨⟨ds,m⟩,k,b⟩:=oB1.mp b;dsimp only at b;split at b
 ·rename_i g;cases b;refine⟨r,mu,S,ds,_,f,j,k,fun vs H1 mu1 x1 e i=>⟨by rw[<- e.length];exact g,fun p c=>?_⟩⟩;exact hc _ _ mu1 (x1.trans (Ext.fresh c)) (.tup (jl.of d3) (e.ext (Ext.fresh c))) (i.fresh c)
 ·cases b
theorem EO(h:MA X es a):ME X (.List es pos) (jC a):=eU (Ec h) <| by
 rintro σ H Q ⟨r,mu,S,d,m,g,k,b,hc⟩;obtain⟨⟨ds,n⟩,l,b⟩:=oB1.mp b;dsimp only at b;split at b
 ·rename_i i;cases b;refine⟨r,mu,S,ds,_,g,k,l,fun vs H1 mu1 j f e=>⟨by rw[<- f.length];exact i,fun p c=>?_⟩⟩;exact hc _ _ (mu1++[p]) (j.trans (Ext.new_ c)) (.ref (fZ e.len p)) (e.newL f c)
 ·cases b
end
def nS(k:Nat)(keep:List Nat)(r:Ev):Ev:=aO k none++keep.map fun i=>(r[i]?).join
def gu:FT:=fun _ S=>some (true,S)
theorem C5{K:Fg1}{H:Hp}{mu:List dE}{r:Ev}{σ:L2.St}(k:Nat)(keep:List Nat)(h:fJ K H mu r σ):fJ K H mu (nS k keep r) (qo k keep σ):=by
 refine⟨by unfold nS qo;rw[lA1,lA1,lM1,lM1,lR1,lR1],fun i d e=>?_⟩;unfold nS at e;unfold qo;by_cases hi:i<k
 ·rw[gL1 (by rw[lR1];exact hi),aR]at e;split at e<;>cases e
 ·rw [gR1 (by rw [lR1];lia),lR1,gP1] at e;rw [gR1 (by rw [lR1];lia),lR1,gP1];obtain ⟨j,c,e⟩:=oM1.mp e;rw [c];have f:r[j]? = some (some d):=by
   cases q:r[j]? with
   |none=>rw[q]at e;cases e
   |some o=>rw[q]at e;cases e;rfl
  obtain⟨v,b,a⟩:=h.val j d f;exact⟨v,by rw[oP1,b];rfl,a⟩
section
variable{X:Cx}
theorem yU{ifs:List Expr}{t t':L2.TT}(h:n3 X ifs t)(i:∀ σ H Q,t' σ H Q->t σ H Q):n3 X ifs t':=fun pins s σ H Q I q=>h pins s σ H Q I (i σ H Q q)
theorem BQ:n3 X [] (yn X.K gu):=yU yT fun σ H Q ⟨r,mu,S,b,e,d,c,a,hc⟩=>by cases a;exact hc H mu (.refl _ _) c
theorem BP{c:Expr}{t:FT}(h:MT X c t):n3 X [c] (yn X.K t):=yS h
end
open PySem.AutoSeq1 (wpAny_loadPart')
def SIt(b:Bool)(h:dN)(it a:dE)(i:Nat):Prop:=match b with
 |true=>h.IsListIter it a i
 |false=>h.IsTupleIter it a i
def SCo(b:Bool)(h:dN)(a:dE)(xs:Array dB):Prop:=match b with
 |true=>h.IsList a xs
 |false=>h.IsTuple a xs
theorem SIt.to{b:Bool}{h h':dN}{it a:dE}{i:Nat}(x:SIt b h it a i)(k:∀o,h.get? it=some o->h'.get? it=some o):SIt b h' it a i:=by
 cases b<;>(obtain⟨o,e,r⟩:=x;exact⟨o,k o e,r⟩)
theorem SIt.rec_{b:Bool}{h:dN}{it a:dE}{i:Nat}(x:SIt b h it a i):∃o,h.get? it=some o /\ ∀v,o.data ≠ .cell v:=by
 cases b<;>(obtain⟨o,e,c,d⟩:=x;exact⟨o,e,fun v z=>by rw[d]at z;cases z⟩)
theorem SCo.to{b:Bool}{h h':dN}{a:dE}{xs:Array dB}(x:SCo b h a xs)(k:∀o,h.get? a=some o->h'.get? a=some o):SCo b h' a xs:=by
 cases b<;>(obtain⟨o,e,r⟩:=x;exact⟨o,k o e,r⟩)
def gm(b:Bool)(a:dE):Obj:=match b with
 |true=>{cls:=.type "list_iterator",data:=.fields #[.ref a,.int 0 0]}
 |false=>{cls:=.type "tuple_iterator",data:=.fields #[.ref a,.int 0 0]}
section
variable{prog:dF}{w:dH}{A:dG}{E:dB->dD->Prop}{s:dD}
theorem pP{b:Bool}{h:dN}{it a:dE}(e:h.get? it=some (gm b a)):SIt b h it a 0:=by
 cases b<;>exact⟨_,e,rfl,rfl⟩
theorem jR{b:Bool}{a:dE}{xs:Array dB}{Q:dB->dD->Prop}(x:SCo b s.heap a xs)(h:Q (.ref s.heap.objs.size) {s with heap:=s.heap.push (gm b a)}):dM (model prog w) A (pyIter (.ref a)) Q E s:=by
 cases b
 ·exact wpAny_pyIter_tuple x h
 ·exact wpAny_pyIter_list x h
theorem zn{it l:dE}{i:Nat}{xs:Array dB}{x:dB}{Q:dB->dD->Prop}(ti:s.heap.IsTupleIter it l i)(tl:s.heap.IsTuple l xs)(hx:xs[i]? = some x)(e:∀h',h'.IsTupleIter it l (i+1)->Heap.SameBut it s.heap h'->Q x {s with heap:=h'}):dM (model prog w) A (Builtin.SmallTypes.nextOf (.ref it)) Q E s:=by
 obtain⟨o,b,hc,a⟩:=id ti;obtain⟨f,c,_,g,d⟩:=tl;unfold Builtin.SmallTypes.nextOf;refine wB1 (wpAny_callSpecial?_slot (name:=Str.ofString "__next__") ti.typeIs F.slot_tuple_iterator_next (wE1 F.slot_tuple_iterator_next ti.typeIs F.entry_tuple_iterator_next ?_ (F.args_tuple_iterator_next_1 _)));show dM _ _ (field (.ref it) 0 >>= _) _ _ s;refine wB1 (wpAny_field b a (x:=.ref l) rfl ?_);show dM _ _ (if(Value.ref l == Value.none)=true then _ else _) _ _ s;rw[if_neg (show¬ ((Value.ref l == Value.none)=true)from aK)];show dM _ _ (field (.ref it) 1 >>= _) _ _ s;refine wB1 (wpAny_field b a (x:=.int i 0) rfl ?_);show dM _ _ (seqItems? (.ref l) >>= _) _ _ s;refine wB1 (wpAny_seqItems c d ?_);simp only[Int.toNat_natCast,hx];refine wB1 (wpAny_setField b a (by simp) (wP1 ⟨x,rfl,wP1 (e _ ⟨_,hW1 _ b (Obj.isFreed_of_fields (Obj.data_mapFields a _)),(Obj.cls_mapFields ..).trans hc,by rw[Obj.data_mapFields a];simp[rawInt]⟩ (Heap.SameBut.update ..))⟩))
theorem qg {it l:dE}{i:Nat}{xs:Array dB}{Q:dB->dD->Prop}(g:A.handled=none)(ti:s.heap.IsTupleIter it l i)(tl:s.heap.IsTuple l xs)(hx:xs[i]? = none)
  (h:∀h' e,Heap.ExtBut it s.heap h'->(∃o,h'.get? e=some o/\o.cls = .type "StopIteration")->E (.ref e) {s with heap:=h'}):dM (model prog w) A (Builtin.SmallTypes.nextOf (.ref it)) Q E s:=by
 obtain⟨o,f,hc,d⟩:=id ti;obtain⟨j,b,_,k,c⟩:=tl;unfold Builtin.SmallTypes.nextOf;refine wB1 (wpAny_callSpecial?_slot (name:=Str.ofString "__next__") ti.typeIs F.slot_tuple_iterator_next (wE1 F.slot_tuple_iterator_next ti.typeIs F.entry_tuple_iterator_next ?_ (F.args_tuple_iterator_next_1 _)));show dM _ _ (field (.ref it) 0 >>= _) _ _ s;refine wB1 (wpAny_field f d (x:=.ref l) rfl ?_);show dM _ _ (if(Value.ref l == Value.none)=true then _ else _) _ _ s;rw[if_neg (show¬ ((Value.ref l == Value.none)=true)from aK)];show dM _ _ (field (.ref it) 1 >>= _) _ _ s;refine wB1 (wpAny_field f d (x:=.int i 0) rfl ?_);show dM _ _ (seqItems? (.ref l) >>= _) _ _ s;refine wB1 (wpAny_seqItems b c ?_);simp only[Int.toNat_natCast,hx];refine wB1 (wpAny_rule (wB1 (wpAny_setField f d (by simp) ?_)));show dM _ _ (newExc (.type "StopIteration") [] >>= _) _ _ _;refine wB1 ?_;simp only[newExc,newTuple];refine wB1 (wO1 ?_ (by size_fits));refine wB1 (m:=firstArgMember _ _) (wpAny_of_eq (a:=Value.none) (by first|rfl|(simp only[firstArgMember];rfl)) ?_);refine wO1 ?_ (by size_fits);simp only[raiseNew];refine wB1 (wpAny_handled ?_)
 first|rw[show A.in1.handled=none from g] | rw[g]
 refine wB1 (wP1 (wpAny_throw ?_));exact h _ _ (((Heap.SameBut.update ..).extBut.push _).push _) ⟨_,hS1 _ rfl,rfl⟩
theorem kd{b:Bool}{it l:dE}{i:Nat}{xs:Array dB}{x:dB}{Q:dB->dD->Prop}(ti:SIt b s.heap it l i)(tl:SCo b s.heap l xs)(hx:xs[i]? = some x)(a:∀h',SIt b h' it l (i+1)->Heap.SameBut it s.heap h'->Q x {s with heap:=h'}):dM (model prog w) A (Builtin.SmallTypes.nextOf (.ref it)) Q E s:=by
 cases b
 ·exact zn ti tl hx a
 ·exact wpAny_nextOf_list_item ti tl hx a
theorem ix {b:Bool}{it l:dE}{i:Nat}{xs:Array dB}{Q:dB->dD->Prop}(a:A.handled=none)(ti:SIt b s.heap it l i)(tl:SCo b s.heap l xs)(hx:xs[i]? = none)
  (c:∀h' e,Heap.ExtBut it s.heap h'->(∃o,h'.get? e=some o/\o.cls = .type "StopIteration")->E (.ref e) {s with heap:=h'}):dM (model prog w) A (Builtin.SmallTypes.nextOf (.ref it)) Q E s:=by
 cases b
 ·exact qg a ti tl hx c
 ·exact wpAny_nextOf_list_end a ti tl hx c
theorem Al{b:Bool}(l:dE)(xs:Array dB):
  Meets (Builtin.«enumerate.__new__» ⟨[.type "enumerate",.ref l],[]⟩) (fun _ R s=>SCo b s.heap l xs /\
   R (.ok (.ret (.ref (s.heap.push (gm b l)).objs.size))) {s with heap:=(s.heap.push (gm b l)).push {cls:=.type "enumerate",data:=.fields #[.none,.bool false,.ref s.heap.objs.size,rawInt 0,.none,.none]}}):=
 .of_wp fun prog w A R s h=>by
  obtain⟨f,g,d,tk,m⟩:=s;obtain⟨i,h⟩:=h;have j:=sub_enumerate
  have k:SCo b (Shared.heap ⟨f,g,d,tk,m⟩) l xs:=i;obtain⟨n,a⟩:∃o,f.get? l=some o:=by cases b<;>(obtain⟨o,e,_⟩:=i;exact⟨o,e⟩)
  wp_walk using wpAny_loadPart' a
  refine wpAny_stack_any fun st=>wP1 ?_;split
  ·rename_i c _ _ _ _ _;cases(c == Value.type "enumerate")<;>(wp_walk using wpAny_loadPart' a,jR k;exact⟨_,rfl,h⟩)
  ·wp_walk using wpAny_loadPart' a,jR k
   exact⟨_,rfl,h⟩
theorem xj{b:Bool}{l:dE}{xs:Array dB}{Q:dB->dD->Prop}(f:SCo b s.heap l xs)(h:∀h',IsEnum h' (s.heap.objs.size+1) s.heap.objs.size 0 .none->SIt b h' s.heap.objs.size l 0->h'.objs.size=s.heap.objs.size+2->(∀b o,s.heap.get? b=some o->h'.get? b=some o)->Q (.ref (s.heap.objs.size+1)) {s with heap:=h'}):
  dM (model prog w) A (call (.type "enumerate") [.ref l]) Q E s:=by
 refine callType_new F.called_enumerate (by decide) (F.typeCall_enumerate_1 _) (F.newCall_enumerate_1 _) (fun d=>F.args_object_init_2 d _) F.entry_enumerate_new (Al (b:=b) l xs) ⟨f,?_⟩;have a:(s.heap.push (gm b l)).objs.size=s.heap.objs.size+1:=hZ1 ..
 show _/\_;rw[a];have e:IsEnum ((s.heap.push (gm b l)).push {cls:=.type "enumerate",data:=.fields #[.none,.bool false,.ref s.heap.objs.size,rawInt 0,.none,.none]}) (s.heap.objs.size+1) s.heap.objs.size 0 .none:=by
  have q:=hS1 (s.heap.push (gm b l)) (o:={cls:=.type "enumerate",data:=.fields #[.none,.bool false,.ref s.heap.objs.size,rawInt 0,.none,.none]}) rfl;rw[a]at q;exact q
 have hi:(s.heap.push (gm b l)).get? s.heap.objs.size=some (gm b l):=hS1 _ (by cases b<;>rfl);refine⟨⟨_,e,rfl⟩,h _ e (pP (hP1 _ hi)) (by rw[hZ1,a]) fun c o x=>hP1 _ (hP1 _ x)⟩
theorem xi {b:Bool}{e it l:dE}{i:Nat}{xs:Array dB}{x old:dB}{Q:Option dB->dD->Prop}(he:IsEnum s.heap e it i old)(ti:SIt b s.heap it l i)(tl:SCo b s.heap l xs)(hx:xs[i]? = some x)(n:e≠it)
  (U:∀h',IsEnumOut h' e it ((i:Int)+1) x s.heap.objs.size->SIt b h' it l (i+1)->h'.get? s.heap.objs.size=some {cls:=.type "tuple",data:=.seq #[.int i s.toks,x]}->h'.objs.size=s.heap.objs.size+1 ->
   (∀b o,b≠e->b≠it->s.heap.get? b=some o->h'.get? b=some o)->Q (some (.ref s.heap.objs.size)) {s with heap:=h',toks:=s.toks+1}):dM (model prog w) A (pyNext (.ref e)) Q E s:=by
 have T:s.TypeIs (.ref e) "enumerate":=⟨_,he,rfl⟩;unfold pyNext;refine wB1 (wpAny_attempt (wpAny_callSpecial?_slot (name:=Str.ofString "__next__") T F.slot_enumerate_next (wE1 F.slot_enumerate_next T F.entry_enumerate_next ?_ (F.args_enumerate_next_1 _))));obtain⟨j,g,d,tk,t⟩:=s;show dM _ _ (field (.ref e) 2 >>= _) _ _ _;refine wB1 (wpAny_field he rfl (x:=.ref it) rfl ?_);refine wB1 (kd ti tl hx fun h1 H C=>?_);replace C:Heap.SameBut it j h1:=C;have p:IsEnum h1 e it i old:=(C.2 e n).trans he;show dM _ _ (field (.ref e) 3 >>= _) _ _ ⟨h1,g,d,tk,t⟩;refine wB1 (wpAny_field p rfl (x:=rawInt i) rfl ?_);show dM _ _ (field (.ref e) 4 >>= _) _ _ ⟨h1,g,d,tk,t⟩;refine wB1 (wpAny_field p rfl (x:=.none) rfl ?_);show dM _ _ (mkInt i >>= _) _ _ ⟨h1,g,d,tk,t⟩;refine wB1 (wpAny_mkInt ?_);show dM _ _ (setField (.ref e) 3 (rawInt ((i:Int)+1)) >>= _) _ _ ⟨h1,g,d,tk+1,t⟩;refine wB1 (wS1 p (by simp) fun h2 m D=>?_);replace D:Heap.SameBut e h1 h2:=D;replace m:IsEnum h2 e it ((i:Int)+1) old:=m;show dM _ _ (setField (.ref e) 4 .none >>= _) _ _ ⟨h2,g,d,tk+1,t⟩;refine wB1 (wS1 m (by simp) fun h3 r G=>?_);replace G:Heap.SameBut e h2 h3:=G;replace r:IsEnum h3 e it ((i:Int)+1) old:=r;show dM _ _ (newTuple [.int i tk,x] >>= _) _ _ ⟨h3,g,d,tk+1,t⟩;refine wB1 (wpAny_newTuple ?_);have k:IsEnum (h3.push {cls:=.type "tuple",data:=.seq #[.int i tk,x]}) e it ((i:Int)+1) old:=hP1 _ r;generalize a:h3.push {cls:=.type "tuple",data:=.seq #[.int i tk,x]}=h4 at k;have h:h3.objs.size=j.objs.size:=by rw[G.1,D.1,C.1]
 have P:e<j.objs.size:=hL1 he;have L:h4.get? j.objs.size=some {cls:=.type "tuple",data:=.seq #[.int i tk,x]}:=by rw[<- a,<- h];exact hS1 _ rfl
 have O:h4.objs.size=j.objs.size+1:=by rw[<- a,hZ1,h]
 have M:∀b o,b≠e->b≠it->j.get? b=some o->h4.get? b=some o:=fun b o f y S=>by
  rw[<- a];exact hP1 _ (G.extBut b o f (D.extBut b o f (C.extBut b o y S)))
 have N:SIt b h4 it l (i+1):=H.to fun o q=>by rw[<- a];exact hP1 _ (G.extBut _ _ (Ne.symm n) (D.extBut _ _ (Ne.symm n) q))
 show dM _ _ (Builtin.SmallTypes.ownedTupleIsFree (.ref e) >>= _) _ _ ⟨h4,g,d,tk+1,t⟩;rw[h];clear a r G m D p C H h h3 h2 h1;refine wB1 ?_;unfold Builtin.SmallTypes.ownedTupleIsFree;refine wB1 (wpAny_field k rfl (x:=.none) rfl (wP1 ?_));simp only[if_true];refine wB1 (wpAny_rule ?_);refine wB1 (wpAny_field k rfl (x:=old) rfl ?_);refine wB1 (wS1 k (by simp) fun h5 u K=>?_);replace K:Heap.SameBut e h4 h5:=K;replace u:IsEnum h5 e it ((i:Int)+1) x:=u;show dM _ _ (Builtin.SmallTypes.ownedTupleHandOut (.ref e) (.ref j.objs.size) >>= _) _ _ ⟨h5,g,d,tk+1,t⟩;refine wB1 ?_;unfold Builtin.SmallTypes.ownedTupleHandOut;refine wB1 (wS1 u (by simp) fun h6 B J=>?_);replace J:Heap.SameBut e h5 h6:=J;replace B:IsEnumOut h6 e it ((i:Int)+1) x j.objs.size:=B;refine wS1 B (by simp) fun h7 v I=>?_;replace I:Heap.SameBut e h6 h7:=I;replace v:IsEnumOut h7 e it ((i:Int)+1) x j.objs.size:=v;have R:∀c o,c≠e->h4.get? c=some o->h7.get? c=some o:=fun c o z q=>I.extBut _ _ z (J.extBut _ _ z (K.extBut _ _ z q));refine wB1 (wpAny_letGo (wP1 ⟨_,rfl,wP1 (U h7 v (N.to fun o q=>R _ o (Ne.symm n) q) (R _ _ (nG1 P) L) (by rw[I.1,J.1,K.1,O]) fun c o f y S=>R c o f (M c o f y S))⟩))
theorem Am{b:Bool}{e it l:dE}{i:Nat}{xs:Array dB}{old:dB}{Q:Option dB->dD->Prop}(f:A.handled=none)(he:IsEnum s.heap e it i old)(ti:SIt b s.heap it l i)(tl:SCo b s.heap l xs)(hx:xs[i]? = none)(g:∀h',Heap.ExtBut it s.heap h'->Q none {s with heap:=h'}):dM (model prog w) A (pyNext (.ref e)) Q E s:=by
 have d:s.TypeIs (.ref e) "enumerate":=⟨_,he,rfl⟩;unfold pyNext;refine wB1 (wpAny_attempt (wpAny_callSpecial?_slot (name:=Str.ofString "__next__") d F.slot_enumerate_next (wE1 F.slot_enumerate_next d F.entry_enumerate_next ?_ (F.args_enumerate_next_1 _))));show dM _ _ (field (.ref e) 2 >>= _) _ _ _;refine wB1 (wpAny_field he rfl (x:=.ref it) rfl ?_);refine wB1 (ix f ti tl hx fun h' x a c=>?_);obtain⟨o,h,hc⟩:=c;refine wB1 (wpAny_isInstance (T:="StopIteration") (b:=true) ⟨o,h,hc⟩ isSubtype_stop ?_);exact wP1 (g _ a)
theorem oW{e it:dE}{i:Int}{old:dB}{Q:dB->dD->Prop}(he:IsEnum s.heap e it i old)(h:Q (.ref e) s):dM (model prog w) A (pyIter (.ref e)) Q E s:=by
 have a:s.TypeIs (.ref e) "enumerate":=⟨_,he,rfl⟩;refine wpAny_pyIter_slot a F.slot_enumerate_iter (wE1 F.slot_enumerate_iter a F.entry_enumerate_iter ?_ (F.args_enumerate_iter_1 _));show dM _ _ (ret (.ref e)) _ _ s;exact wP1 ⟨_,rfl,"enumerate",_,a,F.slot_enumerate_next.lookup,h⟩
end
open PySem.AutoSeq1 (wpAny_loadPart')
structure IZ (z ti to i1 i2:dE):Prop where
 a1:ti≠z
 a2:to≠z
 a3:i1≠z
 a4:i2≠z
 a5:ti≠to
 a6:ti≠i1
 a7:ti≠i2
 a8:to≠i1
 a9:to≠i2
 a10:i1≠i2
section
variable{prog:dF}{w:dH}{A:dG}{E:dB->dD->Prop}{s:dD}{b1 b2:Bool}
theorem SCo.ne{b:Bool}{h:dN}{a c:dE}{xs:Array dB}{o:Obj}(x:SCo b h a xs)(e:h.get? c=some o)(n:∀ys k,o.data ≠ .seq ys k):a≠c:=by
 rintro rfl;cases b<;>(obtain⟨o',f,g,k,d⟩:=x;rw[e]at f;cases f;exact n _ _ d)
theorem SCo.ne_it{b f:Bool}{h:dN}{a it l:dE}{xs:Array dB}{i:Nat}(x:SCo b h a xs)(y:SIt f h it l i):a≠it:=by
 cases f<;>(obtain⟨o,e,c,d⟩:=y;exact x.ne e fun ys k z=>by rw[d]at z;cases z)
theorem xQ{z ti to i1 i B p:dE}{N O:Nat}{xs ys:Array dB}{x y a b:dB}{Q:Option dB->dD->Prop}(D:IZ z ti to i1 i)(j:IsZip s.heap z ti to .none)(S:IsPair s.heap ti (.ref i1) (.ref i))(U:IsPair s.heap to a b)(n1:B≠to)(n2:p≠to)(h1:SIt b1 s.heap i1 B N)(h2:SIt b2 s.heap i p O)(c1:SCo b1 s.heap B xs)(Y:SCo b2 s.heap p ys)(hx:xs[N]?=some x)(hy:ys[O]?=some y)(hQ:∀h',IsZip h' z ti to (rawInt s.heap.objs.size)->IsPair h' to x y->SIt b1 h' i1 B (N+1)->SIt b2 h' i p (O+1)->IsPair h' s.heap.objs.size x y->h'.objs.size=s.heap.objs.size+1 ->
   (∀c o,c≠z->c≠to->c≠i1->c≠i->s.heap.get? c=some o->h'.get? c=some o)->Q (some (.ref s.heap.objs.size)) {s with heap:=h'}):dM (model prog w) A (pyNext (.ref z)) Q E s:=by
 have hT:s.TypeIs (.ref z) "zip":=⟨_,j,rfl⟩;have T:B≠z:=c1.ne j fun _ _ q=>by cases q
 have W:p≠z:=Y.ne j fun _ _ q=>by cases q
 have L:p≠i1:=Y.ne_it h1;unfold pyNext;refine wB1 (wpAny_attempt (wpAny_callSpecial?_slot (name:=Str.ofString "__next__") hT F.slot_zip_next (wE1 F.slot_zip_next hT F.entry_zip_next ?_ (F.args_zip_next_1 _))));show dM _ _ (field (.ref z) 2 >>= _) _ _ _;refine wB1 (wpAny_field j rfl (x:=.bool false) rfl ?_);show dM _ _ (field (.ref z) 3 >>= _) _ _ _;refine wB1 (wpAny_field j rfl (x:=.ref ti) rfl ?_);refine wB1 (wpAny_seqItems S rfl ?_);show dM _ _ (Builtin.SmallTypes.ownedTupleIsFree (.ref z) >>= _) _ _ _;refine wB1 ?_;unfold Builtin.SmallTypes.ownedTupleIsFree;refine wB1 (wpAny_field j rfl (x:=.none) rfl (wP1 ?_));simp only[if_true];refine wB1 (wpAny_rule ?_);refine wB1 (wpAny_field j rfl (x:=.ref to) rfl ?_);refine wB1 (wS1 j (by simp) fun g1 r n=>?_);replace r:IsZip g1 z ti to .ellipsis:=r;refine wB1 ?_;simp only[bM,List.zipIdx_nil,bG,List.forIn_nil];refine wB1 (wB1 (wpAny_onRaise ?_));show dM _ _ (Builtin.SmallTypes.nextOf (.ref i1) >>= _) _ _ _
 refine wB1 (kd (h1.to fun o q=>n.extBut _ _ D.a3 q) (c1.to fun o q=>n.extBut _ _ T q) hx fun g2 h12 u=>wP1 ?_);have l:IsPair g2 to a b:=u.extBut _ _ D.a8 (n.extBut _ _ D.a2 U);refine wB1 (wpAny_seqItems l rfl ?_);refine wB1 (wpAny_updateSeq_pair l fun g3 f v=>?_);replace f:IsPair g3 to x b:=f;refine wB1 (wpAny_letGo (wP1 ?_));refine wB1 (wB1 (wpAny_onRaise ?_));show dM _ _ (Builtin.SmallTypes.nextOf (.ref i) >>= _) _ _ _
 refine wB1 (kd (h2.to fun o q=>v.extBut _ _ D.a9.symm (u.extBut _ _ D.a10.symm (n.extBut _ _ D.a4 q))) (Y.to fun o q=>v.extBut _ _ n2 (u.extBut _ _ L (n.extBut _ _ W q))) hy fun g4 h24 M=>wP1 ?_);have h:IsPair g4 to x b:=M.extBut _ _ D.a9 f;refine wB1 (wpAny_seqItems h rfl ?_);refine wB1 (wpAny_updateSeq_pair h fun d e I=>?_);replace e:IsPair d to x y:=e;refine wB1 (wpAny_letGo (wP1 (wP1 ?_)));refine wB1 (wpAny_seqItems e rfl ?_);refine wB1 (wpAny_newTuple ?_);have G:d.objs.size=s.heap.objs.size:=by rw[I.1,M.1,v.1,u.1,n.1]
 have C:IsZip d z ti to .ellipsis:=I.extBut _ _ D.a2.symm (M.extBut _ _ D.a4.symm (v.extBut _ _ D.a2.symm (u.extBut _ _ D.a3.symm r)));have Z:∀c o,c≠z->c≠to->c≠i1->c≠i->s.heap.get? c=some o->d.get? c=some o:=fun c o t P q3 q4 q=>I.extBut _ _ P (M.extBut _ _ q4 (v.extBut _ _ P (u.extBut _ _ q3 (n.extBut _ _ t q))));have h15:SIt b1 d i1 B (N+1):=h12.to fun o q=>I.extBut _ _ D.a8.symm (M.extBut _ _ D.a10 (v.extBut _ _ D.a8.symm q));have h25:SIt b2 d i p (O+1):=h24.to fun o q=>I.extBut _ _ D.a9.symm q;have k:z<d.objs.size:=hL1 C;show dM _ _ (Builtin.SmallTypes.ownedTupleHandOut (.ref z) (.ref d.objs.size) >>= _) _ _ _;refine wB1 ?_;unfold Builtin.SmallTypes.ownedTupleHandOut;have hz6:IsZip (d.push {cls:=.type "tuple",data:=.seq #[x,y]}) z ti to .ellipsis:=hP1 _ C;refine wB1 (wS1 hz6 (by simp) fun g7 m V=>?_);replace m:IsZip g7 z ti to (rawInt d.objs.size):=m;refine wS1 m (by simp) fun K g X=>?_;replace g:IsZip K z ti to (rawInt d.objs.size):=g;have R:∀c o,c≠z->d.get? c=some o->K.get? c=some o:=fun c o t q=>X.extBut _ _ t (V.extBut _ _ t (hP1 _ q));have H:IsPair K d.objs.size x y:=X.extBut _ _ (nG1 k) (V.extBut _ _ (nG1 k) (hS1 _ rfl));have J:K.objs.size=d.objs.size+1:=by rw[X.1,V.1,hZ1]
 rw[G]at g H J;refine wP1 ⟨_,rfl,wP1 ?_⟩;show Q (some (.ref d.objs.size)) _;rw[G]
 exact hQ K g (R _ _ D.a2 e) (h15.to fun o q=>R _ o D.a3 q) (h25.to fun o q=>R _ o D.a4 q) H J fun c o t P q3 q4 q=>R c o t (Z c o t P q3 q4 q)
theorem AV{z ti to i1 v G u:dE}{H M:Nat}{xs ys:Array dB}{a b:dB}{Q:Option dB->dD->Prop}(V:A.handled=none)(D:IZ z ti to i1 v)(k:IsZip s.heap z ti to .none)(I:IsPair s.heap ti (.ref i1) (.ref v))(O:IsPair s.heap to a b)(n1:G≠to)(n2:u≠to)(h1:SIt b1 s.heap i1 G H)(h2:SIt b2 s.heap v u M)(K:SCo b1 s.heap G xs)(R:SCo b2 s.heap u ys)(p:xs[H]?=none\/ys[M]?=none)(Z:∀h',(∀c o,c≠z->c≠to->c≠i1->c≠v->s.heap.get? c=some o->h'.get? c=some o)->Q none {s with heap:=h'}):dM (model prog w) A (pyNext (.ref z)) Q E s:=by
 have X:s.TypeIs (.ref z) "zip":=⟨_,k,rfl⟩;have t:G≠z:=K.ne k fun _ _ q=>by cases q
 have P:u≠z:=R.ne k fun _ _ q=>by cases q
 have C:u≠i1:=R.ne_it h1;unfold pyNext;refine wB1 (wpAny_attempt (wpAny_callSpecial?_slot (name:=Str.ofString "__next__") X F.slot_zip_next (wE1 F.slot_zip_next X F.entry_zip_next ?_ (F.args_zip_next_1 _))));show dM _ _ (field (.ref z) 2 >>= _) _ _ _;refine wB1 (wpAny_field k rfl (x:=.bool false) rfl ?_);show dM _ _ (field (.ref z) 3 >>= _) _ _ _;refine wB1 (wpAny_field k rfl (x:=.ref ti) rfl ?_);refine wB1 (wpAny_seqItems I rfl ?_);show dM _ _ (Builtin.SmallTypes.ownedTupleIsFree (.ref z) >>= _) _ _ _;refine wB1 ?_;unfold Builtin.SmallTypes.ownedTupleIsFree;refine wB1 (wpAny_field k rfl (x:=.none) rfl (wP1 ?_));simp only[if_true];refine wB1 (wpAny_rule ?_);refine wB1 (wpAny_field k rfl (x:=.ref to) rfl ?_);refine wB1 (wS1 k (by simp) fun g1 i g=>?_);replace i:IsZip g1 z ti to .ellipsis:=i;refine wB1 ?_;simp only[bM,List.zipIdx_nil,bG,List.forIn_nil];refine wB1 (wB1 (wpAny_onRaise ?_));show dM _ _ (Builtin.SmallTypes.nextOf (.ref i1) >>= _) _ _ _
 cases hx:xs[H]? with
 |none=>
  refine wB1 (ix V (h1.to fun o q=>g.extBut _ _ D.a3 q) (K.to fun o q=>g.extBut _ _ t q) hx fun L e j N=>?_);obtain⟨J,d,f⟩:=N;have r:IsZip L z ti to .ellipsis:=j _ _ D.a3.symm i;have m:e≠z:=fun q=>by subst q;rw[r]at d;cases d;simp at f
  refine wS1 r (by simp) fun U _ n=>?_;refine wB1 (wpAny_isInstance (T:="StopIteration") (b:=true) ⟨J,n.extBut _ _ m d,f⟩ isSubtype_stop ?_);exact wP1 (Z U fun c o y _ S _ q=>n.extBut _ _ y (j _ _ S (g.extBut _ _ y q)))
 |some x=>
  have hy:ys[M]?=none:=by rcases p with h|h;rw[hx]at h;cases h;exact h
  refine wB1 (kd (h1.to fun o q=>g.extBut _ _ D.a3 q) (K.to fun o q=>g.extBut _ _ t q) hx fun L h12 j=>wP1 ?_);have l:IsPair L to a b:=j.extBut _ _ D.a8 (g.extBut _ _ D.a2 O);refine wB1 (wpAny_seqItems l rfl ?_);refine wB1 (wpAny_updateSeq_pair l fun U Y n=>?_);refine wB1 (wpAny_letGo (wP1 ?_));refine wB1 (wB1 (wpAny_onRaise ?_));show dM _ _ (Builtin.SmallTypes.nextOf (.ref v) >>= _) _ _ _
  refine wB1 (ix V (h2.to fun o q=>n.extBut _ _ D.a9.symm (j.extBut _ _ D.a10.symm (g.extBut _ _ D.a4 q))) (R.to fun o q=>n.extBut _ _ n2 (j.extBut _ _ C (g.extBut _ _ P q))) hy fun g4 e s4 N=>?_);obtain⟨J,d,f⟩:=N;have B:IsZip g4 z ti to .ellipsis:=s4 _ _ D.a4.symm (n.extBut _ _ D.a2.symm (j.extBut _ _ D.a3.symm i));have m:e≠z:=fun q=>by subst q;rw[B]at d;cases d;simp at f
  refine wS1 B (by simp) fun g5 _ W=>?_;refine wB1 (wpAny_isInstance (T:="StopIteration") (b:=true) ⟨J,W.extBut _ _ m d,f⟩ isSubtype_stop ?_);exact wP1 (Z g5 fun c o y q2 S q4 q=>W.extBut _ _ y (s4 _ _ q4 (n.extBut _ _ q2 (j.extBut _ _ S (g.extBut _ _ y q)))))
def zH(b1 b2:Bool)(h:dN)(l1 l2:dE):dN:=((((h.push (gm b1 l1)).push (gm b2 l2)).push {cls:=.type "tuple",data:=.seq #[.ref h.objs.size,.ref (h.objs.size+1)]}).push {cls:=.type "tuple",data:=.seq #[.none,.none]}).push
 {cls:=.type "zip",data:=.fields #[.none,.bool false,.bool false,.ref (h.objs.size+2),.ref (h.objs.size+3)]}
theorem AU(a c:dE)(xs ys:Array dB):Meets (Builtin.«zip.__new__» ⟨[.type "zip",.ref a,.ref c],[]⟩) (fun _ R s=>SCo b1 s.heap a xs/\SCo b2 s.heap c ys/\R (.ok (.ret (.ref (s.heap.objs.size+4)))) {s with heap:=zH b1 b2 s.heap a c}):=
 .of_wp fun prog w A R s h=>by
  obtain⟨b,g,d,tk,e⟩:=s;obtain⟨j,l,h⟩:=h;have f:=sub_zip
  have i:SCo b1 (Shared.heap ⟨b,g,d,tk,e⟩) a xs:=j;have k:SCo b2 (Shared.heap ⟨b.push (gm b1 a),g,d,tk,e⟩) c ys:=l.to fun o q=>hP1 _ q
  wp_walk using jR i,jR k
  refine⟨_,rfl,?_⟩;have m:(b.push (gm b1 a)).objs.size=b.objs.size+1:=hZ1 ..
  simp only[hZ1,zH]at h ⊢;exact h
theorem xR{d b:dE}{xs ys:Array dB}{Q:dB->dD->Prop}(k:SCo b1 s.heap d xs)(r:SCo b2 s.heap b ys)(h:∀h',IsZip h' (s.heap.objs.size+4) (s.heap.objs.size+2) (s.heap.objs.size+3) .none->IsPair h' (s.heap.objs.size+2) (.ref s.heap.objs.size) (.ref (s.heap.objs.size+1))->IsPair h' (s.heap.objs.size+3) .none .none ->
   SIt b1 h' s.heap.objs.size d 0->SIt b2 h' (s.heap.objs.size+1) b 0->h'.objs.size=s.heap.objs.size+5->(∀c o,s.heap.get? c=some o->h'.get? c=some o)->Q (.ref (s.heap.objs.size+4)) {s with heap:=h'}):
  dM (model prog w) A (call (.type "zip") [.ref d,.ref b]) Q E s:=by
 refine callType_new F.called_zip (by decide) (F.typeCall_zip_2 _ _) (F.newCall_zip_2 _ _) (fun g=>F.args_object_init_3 g _ _) F.entry_zip_new (AU (b1:=b1) (b2:=b2) d b xs ys) ⟨k,r,?_⟩;have a:∀{h:dN} {o:Obj} {c:dE} {u:Obj},h.get? c=some u->(h.push o).get? c=some u:=fun q=>hP1 _ q;have at_:∀{h:dN} {o:Obj} {n:Nat},h.objs.size=n->o.isFreed=false->(h.push o).get? n=some o:=fun e f=>by rw[<- e];exact hS1 _ f
 have l:(gm b1 d).isFreed=false:=by cases b1<;>rfl
 have v:(gm b2 b).isFreed=false:=by cases b2<;>rfl
 have j:(zH b1 b2 s.heap d b).get? s.heap.objs.size=some (gm b1 d):=a (a (a (a (at_ rfl l))));have m:(zH b1 b2 s.heap d b).get? (s.heap.objs.size+1)=some (gm b2 b):=a (a (a (at_ (by simp only[hZ1]) v)));have p:IsPair (zH b1 b2 s.heap d b) (s.heap.objs.size+2) (.ref s.heap.objs.size) (.ref (s.heap.objs.size+1)):=a (a (at_ (by simp only[hZ1]) rfl));have t:IsPair (zH b1 b2 s.heap d b) (s.heap.objs.size+3) .none .none:=a (at_ (by simp only[hZ1]) rfl);have i:IsZip (zH b1 b2 s.heap d b) (s.heap.objs.size+4) (s.heap.objs.size+2) (s.heap.objs.size+3) .none:=at_ (by simp only[hZ1]) rfl;exact⟨⟨_,i,rfl⟩,h _ i p t (pP j) (pP m) (by simp only[zH,hZ1]) fun c o q=>a (a (a (a (a q))))⟩
end
def q0(K:Fg1)(b:Bool)(H:Hp)(a:dE)(xs:List V):Prop:=match b with
 |true=>lV K H a xs
 |false=>jl K H a xs
section
variable{X:Cx}{pins:List (dE×Obj)}{σ:L2.St}{H:Hp}{s:dD}
theorem fb{b:Bool}{a:dE}{xs:List V}(I:Inv X pins σ H s)(h:q0 X.K b H a xs):∃c:List dB,ei xs c/\SCo b s.heap a c.toArray/\xs.length<=dL:=by
 cases b
 ·obtain⟨c,r,p,z⟩:=I.tuple h;exact⟨c,r,p,z⟩
 ·obtain⟨c,r,p,z⟩:=I.list h;exact⟨c,r,p.isList,z⟩
theorem l9{b:Bool}{a:dE}{xs ys:List V}(I:Inv X pins σ H s)(h:q0 X.K b H a xs)(h':q0 X.K b H a ys):xs=ys:=by
 cases b
 ·exact I.tuple_inj h h'
 ·exact I.list_inj h h'
theorem pN{b:Bool}{a c:dE}{xs:List V}(I:Inv X pins σ H s)(h:q0 X.K b H a xs)(f:jr X pins H c):a≠c:=by
 rintro rfl;have d:∀{o},X.K.lookup a=some o->False:=fun{o} e=>by
  have g:=I.ok.mod.kin _ _ e;rcases f.2.2.2.1 with z|z
  ·exact I.ok.noex _ _ g z
  ·exact absurd (nL1 (hL1 g) (aC I.ok.bsz z)) (az _)
 cases b
 ·rcases h with(h|⟨_,h⟩)|⟨_,_,_,h,_⟩
  ·rw[f.1]at h;cases h
  ·rw[f.1]at h;cases h
  ·exact d h
 ·rcases h with(h|⟨_,h⟩)|⟨_,_,_,h,_⟩
  ·rw[f.1]at h;cases h
  ·rw[f.1]at h;cases h
  ·exact d h
theorem sw(I:Inv X pins σ H s){fp:List dE}(hf:∀ b∈fp,jr X pins H b){h':dN}{p:dE}{xs:List V}{its:List dB}{t':Nat}(hp:s.heap.objs.size<=p)(f:∀ b o,b∉fp->s.heap.get? b=some o->h'.get? b=some o)(j:IsTup h' p its.toArray)(i:ei xs its)(l:xs.length<=dL):Inv X pins σ (upd H p (.tup xs)) {s with heap:=h',toks:=t'}:=by
 have d:H p=none:=I.hok.fresh hp;have g:∀{b o},s.heap.get? b=some o->b≠p:=fun e=>nN1 (nL1 (hL1 e) hp);have h:∀{b u},H b=some u->b∉fp:=fun e z=>by rw[(hf _ z).1]at e;cases e
 refine I.step (g':=s.gens) (d':=s.drawn) (ch:=fp) (fun b a=>⟨(hf b a).2.2.2.1,(hf b a).2.1,(hf b a).2.2.2.2.1,(hf b a).2.2.2.2.2⟩) (fun b o _ _ hc e _=>f b o hc e) (fun b o _ _ hc e _=>⟨o.slots,f b o hc e⟩) (fun b o _ e n=>?_)
  (fun b o hc e=>⟨o,f b o hc e⟩) (fun b ys e=>?_) (fun b o u e=>?_) (fun b ps e=>⟨#[],?_⟩) (fun m k=>?_) (fun b u e=>?_) I.bare
 ·rw[dY (g e)];exact n
 ·rw[dY (eD e d)];exact e
 ·rw[dY (eD e d)];exact e
 ·rw[dY (eD e d),e];simp
 ·obtain⟨o,es,ep,t,r⟩:=k;exact⟨o,es,ep,f _ o (fun z=>(hf _ z).2.1 rfl) t,r⟩
 ·by_cases a:b=p
  ·subst a;rw[d3]at e;cases e;exact⟨l,its,i,j⟩
  ·rw[dY a]at e;refine(I.hok b u e).stay (fun c v hc q=>f c v ?_ q) (fun c q=>by rw[dY (eD q d)];exact q) fun c ys q=>by rw[dY (eD q d)];exact q
   rcases hc with z|z
   ·rw[z];exact h e
   ·exact h z
theorem m7(I:Inv X pins σ H s){fp:List dE}(hf:∀b∈fp,jr X pins H b){h':dN}{t':Nat}(a:∀b o,b∉fp->s.heap.get? b=some o->h'.get? b=some o):Inv X pins σ H {s with heap:=h',toks:=t'}:=by
 have f:∀{b u},H b=some u->b∉fp:=fun e z=>by rw[(hf _ z).1]at e;cases e
 refine I.step (g':=s.gens) (d':=s.drawn) (ch:=fp) (fun b d=>⟨(hf b d).2.2.2.1,(hf b d).2.1,(hf b d).2.2.2.2.1,(hf b d).2.2.2.2.2⟩) (fun b o _ _ hc e _=>a b o hc e) (fun b o _ _ hc e _=>⟨o.slots,a b o hc e⟩) (fun b o _ e n=>n)
  (fun b o hc e=>⟨o,a b o hc e⟩) (fun b ys e=>e) (fun b o u e=>e) (fun b ps e=>⟨#[],by rw[e];simp⟩) (fun m g=>?_) (fun b u e=>?_) I.bare
 ·obtain⟨o,es,ep,h,r⟩:=g;exact⟨o,es,ep,a _ o (fun z=>(hf _ z).2.1 rfl) h,r⟩
 ·refine(I.hok b u e).stay (fun c v hc q=>a c v ?_ q) (fun c q=>q) fun c ys q=>q;rcases hc with z|z
  ·rw[z];exact f e
  ·exact f z
end
theorem rh:(2:Nat)<=dL:=by decide
def JB(K:Fg1)(b:Bool)(a:dE):It:=
 ⟨fun i H=>∃xs x,q0 K b H a xs/\xs[i]?=some x,fun i H x H'=>∃p v,H p=none/\x = .ref p/\H'=upd H p (.tup [.int i,v]) /\ ∀xs,q0 K b H a xs->xs[i]?=some v,fun i H=>∃xs,q0 K b H a xs/\xs.length<=i⟩
theorem wz{P:dF}{w:dH}{K:Fg1}{elts:List Expr}{k:Nat}{pos:Pos}(b:Bool)(a e it:dE)(ne:e≠it):tq P w K (.Tuple elts k pos) (JB K b a) [e,it] e (fun i h=>(∃old,IsEnum h e it (i:Nat) old)/\SIt b h it a i) where
 mem:=by simp
 obj:=by
  rintro i h ⟨⟨old,st⟩,n⟩ c hc;rcases aF.mp hc with z|z
  ·subst z;exact⟨_,st,fun v q=>by cases q⟩
  ·have U:c=it:=by simpa using z
   subst U;exact n.rec_
 keep:=fun i h h' ⟨⟨old,st⟩,n⟩ R=>⟨⟨old,R e (by simp) _ st⟩,n.to fun o q=>R it (by simp) o q⟩
 item:=by
  intro X B N J hc i pins s σ H E I l st C;subst B N J;obtain⟨⟨old,j⟩,m⟩:=st;obtain⟨xs,x,g,r⟩:=C;obtain⟨D,F,y,hz⟩:=fb I g;obtain⟨u,W,ru⟩:=F.get r;refine xi j m y (x:=u) (by simpa using W) ne fun h1 G M p Z L=>?_;refine⟨.ref s.heap.objs.size,rfl,?_⟩;refine wpAny_letOwnedTupleGo_enum G fun h2 t d=>?_;have Q:s.heap.objs.size≠e:=nG1 (hL1 j);have A:∀c o,c∉[e,it]->s.heap.get? c=some o->h2.get? c=some o:=fun c o hc q=>by
   have f:c≠e:=fun z=>hc (by simp[z]);have Y:c≠it:=fun z=>hc (by simp[z]);exact d.extBut _ _ f (L c o f Y q)
  have tp:IsTup h2 s.heap.objs.size [.int (i:Nat) s.toks,u].toArray:=⟨_,d.extBut _ _ Q p,rfl,_,rfl⟩;have T:=sw I l (t':=s.toks+1) (nR1 _) A tp (xs:=[.int i,x]) (.cons ⟨_,rfl⟩ (.cons ru .nil)) rh;have V:H s.heap.objs.size=none:=I.hok.fresh (nR1 _);refine⟨.ref s.heap.objs.size,_,T,rfl,⟨_,x,V,rfl,rfl,fun ys S=>by rw[l9 I S g];exact r⟩,⟨⟨u,?_⟩,M.to fun o q=>d.extBut _ _ (Ne.symm ne) q⟩,fun c hc=>?_⟩
  ·have:((i+1:Nat):Int)=(i:Int)+1:=by push_cast;rfl
   rw[this];exact t
  ·have f:c≠s.heap.objs.size:=fun z=>by
    rcases aF.mp hc with q|q
    ·exact Q (z.symm.trans q)
    ·have q':c=it:=by simpa using q
     obtain⟨o,O,_⟩:=m.rec_;rw[<- q',z]at O;exact az _ (hL1 O)
   rw[dY f];exact(l c hc).1
 done:=by
  intro X B N J hc i pins s σ H E I l st C;subst B N J;obtain⟨⟨old,j⟩,m⟩:=st;obtain⟨xs,g,r⟩:=C;obtain⟨D,F,y,hz⟩:=fb I g;have hl:=F.length;refine Am (I.ok.hd hc) j m y (by simp;lia) fun h' eb=>⟨rfl,m7 I (t':=s.toks) l fun c o hc q=>eb c o (fun z=>hc (by simp[z])) q⟩
 self:=fun _ _ _ _ _ ⟨⟨_,st⟩,_⟩ h=>oW st h
def Jy(K:Fg1)(b1 b2:Bool)(a1 a2:dE):It:=
 ⟨fun i H=>∃xs ys x y,q0 K b1 H a1 xs/\q0 K b2 H a2 ys/\xs[i]?=some x/\ys[i]?=some y,fun i H x H'=>∃p v u,H p=none/\x = .ref p/\H'=upd H p (.tup [v,u])/\(∀xs,q0 K b1 H a1 xs->xs[i]?=some v) /\ ∀ys,q0 K b2 H a2 ys->ys[i]?=some u,
  fun i H=>∃xs ys,q0 K b1 H a1 xs/\q0 K b2 H a2 ys/\(xs.length<=i\/ys.length<=i)⟩
theorem ya{P:dF}{w:dH}{K:Fg1}{elts:List Expr}{k:Nat}{pos:Pos}(b1 b2:Bool)(a1 a2 z ti to p n:dE)(D:IZ z ti to p n):tq P w K (.Tuple elts k pos) (Jy K b1 b2 a1 a2) [z,ti,to,p,n] z
  (fun i h=>IsZip h z ti to .none/\IsPair h ti (.ref p) (.ref n)/\(∃u v,IsPair h to u v)/\SIt b1 h p a1 i/\SIt b2 h n a2 i) where
 mem:=by simp
 obj:=by
  rintro i h ⟨f,b,⟨u,v,j⟩,l,d⟩ c hc;simp only[aF,bN,or_false]at hc;rcases hc with rfl|rfl|rfl|rfl|rfl
  ·exact⟨_,f,fun v q=>by cases q⟩
  ·exact⟨_,b,fun v q=>by cases q⟩
  ·exact⟨_,j,fun v q=>by cases q⟩
  ·exact l.rec_
  ·exact d.rec_
 keep:=fun i h h' ⟨f,b,⟨u,v,j⟩,l,d⟩ F=>⟨F z (by simp) _ f,F ti (by simp) _ b,⟨u,v,F to (by simp) _ j⟩,l.to fun o q=>F p (by simp) o q,d.to fun o q=>F n (by simp) o q⟩
 item:=by
  intro X R Y W hc i pins s σ H E I g st T;subst R Y W;obtain⟨f,b,⟨u0,v0,j⟩,l,d⟩:=st;obtain⟨xs,ys,x,y,B,A,ex,ey⟩:=T;obtain⟨U,V,O,hz⟩:=fb I B;obtain⟨C,r,t,J⟩:=fb I A;obtain⟨u,hu,ru⟩:=V.get ex;obtain⟨L,N,M⟩:=r.get ey;refine xQ D f b j (pN I B (g to (by simp))) (pN I A (g to (by simp))) l d O t (x:=u) (y:=L) (by simpa using hu) (by simpa using N) fun h1 p1 p2 p3 p4 p5 p6 G=>?_;refine⟨.ref s.heap.objs.size,rfl,?_⟩;refine wpAny_letOwnedTupleGo_zip p1 fun h2 z2 a=>?_;have lt:∀c∈[z,ti,to,p,n],c≠s.heap.objs.size:=fun c hc e=>by
   obtain⟨o,Z⟩:∃o,s.heap.get? c=some o:=by
    simp only[aF,bN,or_false]at hc;rcases hc with rfl|rfl|rfl|rfl|rfl
    ·exact⟨_,f⟩
    ·exact⟨_,b⟩
    ·exact⟨_,j⟩
    ·obtain⟨o,e,_⟩:=l.rec_;exact⟨o,e⟩
    ·obtain⟨o,e,_⟩:=d.rec_;exact⟨o,e⟩
   rw[e]at Z;exact az _ (hL1 Z)
  have Q:∀c o,c∉[z,ti,to,p,n]->s.heap.get? c=some o->h2.get? c=some o:=fun c o hc q=>by
   simp only[aF,bN,or_false,not_or]at hc;exact a.extBut _ _ hc.1 (G c o hc.1 hc.2.2.1 hc.2.2.2.1 hc.2.2.2.2 q)
  have tp:IsTup h2 s.heap.objs.size [u,L].toArray:=⟨_,a.extBut _ _ (Ne.symm (lt z (by simp))) p5,rfl,_,rfl⟩;have I2:=sw I g (t':=s.toks) (nR1 _) Q tp (xs:=[x,y]) (.cons ru (.cons M .nil)) rh;have hn:H s.heap.objs.size=none:=I.hok.fresh (nR1 _);refine⟨.ref s.heap.objs.size,_,I2,rfl,⟨_,x,y,hn,rfl,rfl,fun S m=>by rw[l9 I m B];exact ex,fun S m=>by rw[l9 I m A];exact ey⟩,
   ⟨z2,a.extBut _ _ D.a1 (G _ _ D.a1 D.a5 D.a6 D.a7 b),⟨u,L,a.extBut _ _ D.a2 p2⟩,p3.to fun o q=>a.extBut _ _ D.a3 q,p4.to fun o q=>a.extBut _ _ D.a4 q⟩,fun c hc=>?_⟩
  rw[dY (lt c hc)];exact(g c hc).1
 done:=by
  intro X R Y W hc i pins s σ H E I g st T;subst R Y W;obtain⟨f,b,⟨u0,v0,j⟩,l,d⟩:=st;obtain⟨xs,ys,B,A,hl⟩:=T;obtain⟨U,V,O,hz⟩:=fb I B;obtain⟨C,r,t,J⟩:=fb I A;have l1:=V.length;have l2:=r.length;refine AV (I.ok.hd hc) D f b j (pN I B (g to (by simp))) (pN I A (g to (by simp))) l d O t (by simp;lia) fun h' eb=>⟨rfl,m7 I (t':=s.toks) g fun c o hc q=>?_⟩;simp only[aF,bN,or_false,not_or]at hc;exact eb c o hc.1 hc.2.2.1 hc.2.2.2.1 hc.2.2.2.2 q
 self:=fun _ _ _ _ _ ⟨st,_⟩ h=>wpAny_pyIter_zip st h
section
variable{X:Cx}{elts:List Expr}{k:Nat}{tpos:Pos}
def GZ(K:Fg1)(ta:TA):TI:=fun σ H R=>ta σ H fun vs H1=>∃a b,vs=[.ref a]/\(∃xs,q0 K b H1 a xs)/\R (JB K b a) H1
theorem Bu {a:Expr}{ta:TA}{p pos:Pos}(hg:Gl X "enumerate")(hm:X.mg "enumerate"=none)(ha:PA X [a] ta)(hs:dJ [a] X.env=[(false,eval a X.env)]:=by rfl):PI X (.Tuple elts k tpos) (.Call (.Name "enumerate" p) [a] [] pos) (GZ X.K ta):=by
 intro pins s σ H R I h;refine Call_ (jD I hg hm boot_enumerate (PyProof.Rows.callWith_type1 (fg (ha pos pins s σ H _ I h) fun B f ⟨vs,H1,g,A,o⟩=>?_) hs rfl));obtain⟨c,b,e,⟨xs,n⟩,q⟩:=o;subst e;cases A with
 |cons r w=>
  cases w;cases r;obtain⟨l,C,v,D⟩:=fb g n;refine xj v fun h' i u x m=>oW i ?_;have y:Inv X pins σ H1 {f with heap:=h'}:=g.kept (t':=f.toks) m;refine⟨f.heap.objs.size+1,[f.heap.objs.size+1,f.heap.objs.size],_,_,H1,rfl,y,wz b c _ _ (Nat.succ_ne_self _),⟨⟨.none,i⟩,u⟩,fun d t=>?_,q⟩;rcases aF.mp t with z|z
  ·subst z;exact g.fpOk (aX _) (g.hok.fresh (aX _))
  ·have j:d=f.heap.objs.size:=by simpa using z
   subst j;exact g.fpOk (nR1 _) (g.hok.fresh (nR1 _))
def IM(K:Fg1)(ta:TA):TI:=fun σ H R=>ta σ H fun vs H1=>∃a1 b1 a2 b2,vs=[.ref a1,.ref a2]/\(∃xs,q0 K b1 H1 a1 xs)/\(∃xs,q0 K b2 H1 a2 xs)/\R (Jy K b1 b2 a1 a2) H1
theorem D4 {a b:Expr}{ta:TA}{p pos:Pos}(hg:Gl X "zip")(hm:X.mg "zip"=none)(ha:PA X [a,b] ta)(hs:dJ [a,b] X.env=[(false,eval a X.env),(false,eval b X.env)]:=by rfl)(hs2:dJ [b] X.env=[(false,eval b X.env)]:=by rfl):
  PI X (.Tuple elts k tpos) (.Call (.Name "zip" p) [a,b] [] pos) (IM X.K ta):=by
 intro pins s σ H R I h;refine Call_ (jD I hg hm boot_zip (PyProof.Rows.callWith_type1 (fg (ha pos pins s σ H _ I h) fun O c ⟨vs,H1,f,B,J⟩=>?_) (by rw[hs,hs2]) (by rw[hs2];rfl)));obtain⟨t,b1,G,b2,e,⟨xs,x⟩,⟨ys,v⟩,q⟩:=J;subst e;cases B with
 |cons r j=>
  cases j with
  |cons u j=>
   cases j;cases r;cases u;obtain⟨K,P,E,N⟩:=fb f x;obtain⟨m,F,i,o⟩:=fb f v;refine xR E i fun h' l D y C w Q L=>wpAny_pyIter_zip l ?_;have A:Inv X pins σ H1 {c with heap:=h'}:=f.kept (t':=c.toks) L;refine⟨c.heap.objs.size+4,[c.heap.objs.size+4,c.heap.objs.size+2,c.heap.objs.size+3,c.heap.objs.size,c.heap.objs.size+1],_,_,H1,rfl,A,ya b1 b2 t G _ _ _ _ _ ?_,⟨l,D,⟨_,_,y⟩,C,w⟩,fun d n=>?_,q⟩
   ·constructor<;>(intro z;have M:((_:Nat)=_):=z;lia)
   ·have g:c.heap.objs.size<=d:=by
     simp only[aF,bN,or_false]at n;rcases n with rfl|rfl|rfl|rfl|rfl
     ·exact bt _ _
     ·exact bt _ _
     ·exact bt _ _
     ·exact nR1 _
     ·exact bt _ _
    exact f.fpOk g (f.hok.fresh g)
end
noncomputable def d5 (S:Sto):D->Option (Bool×List D)
 | .tup xs=>some (false,xs)
 | .rol xs=>some (true,xs)
 | .ref n=>match S[n]? with
  |some (.lst xs)=>some (true,xs)
  |_=>none
 |_=>none
def i5(S:Sto):D->List (Nat×List D)
 | .ref n=>match S[n]? with
  |some (.lst xs)=>[(n,xs)]
  |_=>[]
 |_=>[]
section
variable{K:Fg1}{H:Hp}{mu:List dE}{S:Sto}
theorem ev{d:D}{v:V}{b:Bool}{xs:List D}(r:eJ K H mu d v)(s:Sim K H mu S)(h:d5 S d=some (b,xs)):∃a vs,v = .ref a/\q0 K b H a vs/\d0 K H mu xs vs:=by
 cases d with
 |tup ys=>cases h;cases r with|tup q t=>exact⟨_,_,rfl,q,t⟩
 |rol ys=>cases h;cases r with|rol q t=>exact⟨_,_,rfl,q.sq,t⟩
 |ref n=>
  rw[d5]at h;split at h
  ·rename_i ys e;cases h;cases r with
   |ref q=>
    obtain⟨vs,f,c⟩:=s.lst e q;exact⟨_,vs,rfl,lV.of f,c⟩
  ·cases h
 |_=>cases h
theorem hU{d:D}{a:dE}{b:Bool}{xs:List D}(r:eJ K H mu d (.ref a))(s:Sim K H mu S)(h:d5 S d=some (b,xs)){H1:Hp}{mu1:List dE}{S1:Sto}(x:q7 mu mu1 H H1)(c:Sim K H1 mu1 S1)(ok:oC S1 (i5 S d)=true):
  ∃vs,q0 K b H1 a vs/\d0 K H1 mu1 xs vs:=by
 have g:=r.exw x;have h1:d5 S1 d=some (b,xs):=by
  cases d with
  |ref n=>
   rw[d5]at h;split at h
   ·rename_i ys e;cases h;rw[i5,e]at ok;dsimp only[oC]at ok;rw[bO]at ok;rw[d5];split at ok
    ·rename_i zs f
     first|rw[f,D.sames_eq ok] | rw[D.sames_eq ok]
    ·cases ok
   ·cases h
  |_=>exact h
 obtain⟨i,vs,e,q,t⟩:=ev g c h1;cases e;exact⟨vs,q,t⟩
end
noncomputable def iG (m:FE):FI:=fun r S=>(m r S).bind fun p=>(d5 p.2 p.1).bind fun q=>some (⟨q.2,i5 p.2 p.1⟩,p.2)
def xM:Nat->List D->List D
 |_,[]=>[]
 |n,d::ds=>.tup [.int n,d]::xM (n+1) ds
noncomputable def FJ (m:FA):FI:=fun r S=>(m r S).bind fun p=>match p.1 with
 |[d]=>(d5 p.2 d).bind fun q=>some (⟨xM 0 q.2,i5 p.2 d⟩,p.2)
 |_=>none
def tH:List D->List D->List D
 |x::xs,y::ys=>.tup [x,y]::tH xs ys
 |_,_=>[]
def AR(m:FA):FI:=fun r S=>(m r S).bind fun p=>match p.1 with
 |[d,e]=>(d5 p.2 d).bind fun q=>(d5 p.2 e).bind fun t=>some (⟨tH q.2 t.2,i5 p.2 d++i5 p.2 e⟩,p.2)
 |_=>none
def gB(lo:Int):Nat->List D
 |0=>[]
 |n+1=>.int lo::gB (lo+1) n
noncomputable def ux (m:FA):FI:=fun r S=>(m r S).bind fun p=>match p.1 with
 |[.int j]=>if-(2^62)<=j/\j<2^62 then some (⟨gB 0 j.toNat,[]⟩,p.2)else none
 |_=>none
def GX(m:FA):FI:=fun r S=>(m r S).bind fun p=>match p.1 with
 |[.int i,.int j]=>if-(2^62)<=i/\i<2^62 /\ -(2^62)<=j/\j<2^62 then some (⟨gB i (j-i).toNat,[]⟩,p.2)else none
 |_=>none
theorem vW:∀(ds:List D) (n i:Nat),(xM n ds)[i]?=(ds[i]?).map fun d=>.tup [.int ((n+i:Nat):Int),d]
 |[],n,i=>by simp[xM]
 |d::ds,n,0=>by simp[xM]
 |d::ds,n,i+1=>by
  rw[xM,gC1,vW ds (n+1) i,gC1];rw[show n+1+i=n+(i+1) by lia]
theorem vV:∀(ds:List D) (n:Nat),(xM n ds).length=ds.length
 |[],_=>rfl
 |d::ds,n=>by rw[xM,lC1,vV ds,lC1]
theorem uR:∀(xs ys:List D) (i:Nat) (d:D),(tH xs ys)[i]?=some d -> ∃x y,xs[i]?=some x/\ys[i]?=some y/\d = .tup [x,y]
 |[],_,i,d,h=>by simp[tH]at h
 |_::_,[],i,d,h=>by simp[tH]at h
 |x::xs,y::ys,0,d,h=>by simp[tH]at h;exact⟨x,y,rfl,rfl,h.symm⟩
 |x::xs,y::ys,i+1,d,h=>by
  rw[tH,gC1]at h;obtain⟨c,e,f,b,a⟩:=uR xs ys i d h;exact⟨c,e,by simpa using f,by simpa using b,a⟩
theorem uQ:∀(xs ys:List D) (i:Nat),(tH xs ys).length<=i->xs.length<=i\/ys.length<=i
 |[],_,i,_=>.inl (bi _)
 |_::_,[],i,_=>.inr (bi _)
 |x::xs,y::ys,0,h=>by simp[tH]at h
 |x::xs,y::ys,i+1,h=>by
  rcases uQ xs ys i (by simpa[tH]using h)with q|q
  ·exact .inl (by simpa using q)
  ·exact .inr (by simpa using q)
theorem rV:∀(n:Nat) (lo:Int) (i:Nat) (d:D),(gB lo n)[i]?=some d->i<n/\d = .int (lo+i)
 |0,lo,i,d,h=>by simp[gB]at h
 |n+1,lo,0,d,h=>by simp[gB]at h;exact⟨Nat.succ_pos _,by rw[<- h];simp⟩
 |n+1,lo,i+1,d,h=>by
  rw[gB,gC1]at h;obtain⟨h1,h2⟩:=rV n (lo+1) i d h;refine⟨Nat.succ_lt_succ h1,?_⟩;rw[h2,show lo+1+(i:Int)=lo+((i+1:Nat):Int) by push_cast;lia]
theorem fB:∀(n:Nat) (lo:Int),(gB lo n).length=n
 |0,_=>rfl
 |n+1,lo=>by rw[gB,lC1,fB n]
theorem vo{S:Sto}:∀{c a:List (Nat×List D)},oC S (c++a)=true->oC S c=true/\oC S a=true
 |[],_,h=>⟨rfl,h⟩
 |(n,xs)::c,a,h=>by
  rw[bj,oC,bA1]at h;obtain⟨h1,h2⟩:=vo h.2;exact⟨by rw[oC,bA1];exact⟨h.1,h1⟩,h2⟩
section
variable{X:Cx}{tg:Expr}
theorem ss(K:Fg1)(lo:Int)(n:Nat)(mu:List dE)(H:Hp):ItR K (HC lo n) ⟨gB lo n,[]⟩ mu H:=by
 intro i H1 mu1 e x s ok;refine⟨fun d a=>?_,fun h=>by rw[fB]at h;exact h⟩;obtain⟨h1,h2⟩:=rV n lo i d a;refine⟨h1,fun y H2 ⟨c,b⟩=>?_⟩;subst c;subst b;subst h2;exact⟨.refl _ _,s,.int _⟩
theorem EF{e:Expr}{m:FE}(h:ME X e m):MI X tg e (iG m):=mP (Gn (Bt h) (D5 h)) <| by
 rintro σ H R ⟨r,mu,S,J,K,C,D,g,hc⟩;obtain⟨⟨d,I⟩,E,g⟩:=oB1.mp g;obtain⟨⟨b,xs⟩,o,g⟩:=oB1.mp g;cases g;cases b with
 |true=>
  left;refine⟨r,mu,S,d,_,C,D,E,fun v H1 mu1 B j c=>?_⟩;obtain⟨a,vs,rfl,q,t⟩:=ev j c o;refine⟨a,rfl,⟨vs,q⟩,hc _ H1 mu1 B (fun i H2 s G w k ok=>?_) c⟩;obtain⟨ws,f,n⟩:=hU j c o w k ok;refine⟨fun d x=>?_,fun u=>⟨ws,f,by rw[<- n.length];exact u⟩⟩;obtain⟨v,l,A⟩:=n.get x;refine⟨⟨ws,v,f,l⟩,fun y F ⟨p,z⟩=>?_⟩;subst p;have:=z ws f;rw[l]at this;cases this;exact⟨.refl _ _,k,A⟩
 |false=>
  right;refine⟨r,mu,S,d,_,C,D,E,fun v H1 mu1 B j c=>?_⟩;obtain⟨a,vs,rfl,q,t⟩:=ev j c o;refine⟨a,rfl,⟨vs,q⟩,hc _ H1 mu1 B (fun i H2 s G w k ok=>?_) c⟩;obtain⟨ws,f,n⟩:=hU j c o w k ok;refine⟨fun d x=>?_,fun u=>⟨ws,f,by rw[<- n.length];exact u⟩⟩;obtain⟨v,l,A⟩:=n.get x;refine⟨⟨ws,v,f,l⟩,fun y F ⟨p,z⟩=>?_⟩;subst p;have:=z ws f;rw[l]at this;cases this;exact⟨.refl _ _,k,A⟩
theorem jZ{K:Fg1}{H:Hp}{mu:List dE}{d:D}{vs:List V}(r:d0 K H mu [d] vs):∃v,vs=[v]/\eJ K H mu d v:=by
 cases r with|cons r t=>cases t;exact⟨_,rfl,r⟩
theorem rD{K:Fg1}{H:Hp}{mu:List dE}{d e:D}{vs:List V}(r:d0 K H mu [d,e] vs):∃v u,vs=[v,u]/\eJ K H mu d v/\eJ K H mu e u:=by
 cases r with|cons r t=>cases t with|cons q t=>cases t;exact⟨_,_,rfl,r,q⟩
theorem wP {a:Expr}{m:FA}{p pos:Pos}(hg:Gl X "range")(hm:X.mg "range"=none)(ha:MA X [a] m)(hs:dJ [a] X.env=[(false,eval a X.env)]:=by rfl):MI X tg (.Call (.Name "range" p) [a] [] pos) (ux m):=
 mP (wJ hg hm ha hs) <| by
  rintro σ H R ⟨r,mu,S,J,i,c,hs,hm,hc⟩;obtain⟨⟨ds,k⟩,h,hm⟩:=oB1.mp hm;dsimp only at hm;split at hm
  ·rename_i j;split at hm
   ·rename_i b;cases hm;refine⟨r,mu,S,_,_,c,hs,h,fun vs H1 mu1 f g e=>?_⟩;obtain⟨v,rfl,d⟩:=jZ g;cases d;exact⟨j,rfl,b.1,b.2,hc _ H1 mu1 f (ss _ _ _ _ _) e⟩
   ·cases hm
  ·cases hm
theorem wO {a b:Expr}{m:FA}{p pos:Pos}(hg:Gl X "range")(hm:X.mg "range"=none)(ha:MA X [a,b] m)(hs:dJ [a,b] X.env=[(false,eval a X.env),(false,eval b X.env)]:=by rfl)(hs2:dJ [b] X.env=[(false,eval b X.env)]:=by rfl):MI X tg (.Call (.Name "range" p) [a,b] [] pos) (GX m):=
 mP (wI hg hm ha hs hs2) <| by
  rintro σ H R ⟨r,mu,S,J,n,c,hs,hm,hc⟩;obtain⟨⟨ds,o⟩,l,hm⟩:=oB1.mp hm;dsimp only at hm;split at hm
  ·rename_i i j;split at hm
   ·rename_i h;cases hm;refine⟨r,mu,S,_,_,c,hs,l,fun vs H1 mu1 g k f=>?_⟩;obtain⟨v,u,rfl,e,d⟩:=rD k;cases e;cases d;exact⟨i,j,rfl,h,hc _ H1 mu1 g (ss _ _ _ _ _) f⟩
   ·cases hm
  ·cases hm
variable{elts:List Expr}{k:Nat}{tpos:Pos}
theorem BR {a:Expr}{m:FA}{p pos:Pos}(hg:Gl X "enumerate")(hm:X.mg "enumerate"=none)(ha:MA X [a] m)(hs:dJ [a] X.env=[(false,eval a X.env)]:=by rfl):MI X (.Tuple elts k tpos) (.Call (.Name "enumerate" p) [a] [] pos) (FJ m):=
 mP (Bu hg hm ha hs) <| by
  rintro σ H R ⟨r,mu,S,J,N,A,hs,hm,hc⟩;obtain⟨⟨ds,M⟩,D,hm⟩:=oB1.mp hm;dsimp only at hm;split at hm
  ·rename_i d;obtain⟨⟨b,xs⟩,n,hm⟩:=oB1.mp hm;cases hm;refine⟨r,mu,S,_,_,A,hs,D,fun vs H1 mu1 G z f=>?_⟩;obtain⟨v,rfl,s⟩:=jZ z;obtain⟨a,vs,rfl,q,t⟩:=ev s f n;refine⟨a,b,rfl,⟨vs,q⟩,hc _ H1 mu1 G (fun i H2 x K B l ok=>?_) f⟩;obtain⟨ws,g,u⟩:=hU s f n B l ok;refine⟨fun d c=>?_,fun j=>⟨ws,g,by rw[vV]at j;rw[<- u.length];exact j⟩⟩;rw[vW]at c;obtain⟨O,C,c⟩:=oM1.mp c;obtain⟨v,o,h⟩:=u.get C;refine⟨⟨ws,v,g,o⟩,fun y I ⟨p,L,e,w,F,E⟩=>?_⟩;have:=E ws g;rw[o]at this;cases this;subst w;subst F;subst c;rw[bP];exact⟨Ext.fresh e,l.fresh e,.tup (jl.of d3) (.cons (.int _) (.cons (h.ext (Ext.fresh e)) .nil))⟩
  ·cases hm
theorem EE {a b:Expr}{m:FA}{p pos:Pos}(hg:Gl X "zip")(hm:X.mg "zip"=none)(ha:MA X [a,b] m)(hs:dJ [a,b] X.env=[(false,eval a X.env),(false,eval b X.env)]:=by rfl)(hs2:dJ [b] X.env=[(false,eval b X.env)]:=by rfl):MI X (.Tuple elts k tpos) (.Call (.Name "zip" p) [a,b] [] pos) (AR m):=
 mP (D4 hg hm ha hs hs2) <| by
  rintro σ H R ⟨r,mu,S,J,S',Q,hs,hm,hc⟩;obtain⟨⟨ds,S1⟩,Y,hm⟩:=oB1.mp hm;dsimp only at hm;split at hm
  ·rename_i d e;obtain⟨⟨b1,xs⟩,C,hm⟩:=oB1.mp hm;obtain⟨⟨b2,ys⟩,B,hm⟩:=oB1.mp hm;cases hm;refine⟨r,mu,S,_,_,Q,hs,Y,fun vs H1 mu1 x1 P f=>?_⟩;obtain⟨v,u,rfl,L,K⟩:=rD P;obtain⟨a1,l,rfl,U,t1⟩:=ev L f C;obtain⟨a2,j,rfl,q2,t2⟩:=ev K f B;refine⟨a1,b1,a2,b2,rfl,⟨l,U⟩,⟨j,q2⟩,hc _ H1 mu1 x1 (fun i H2 N S2 D n ok=>?_) f⟩;obtain⟨s,h⟩:=vo ok;obtain⟨ws,q,E⟩:=hU L f C D n s;obtain⟨c,w,I⟩:=hU K f B D n h;refine⟨fun d V=>?_,fun T=>⟨ws,c,q,w,?_⟩⟩
   ·obtain⟨x',y',ex,ey,rfl⟩:=uR xs ys i d V;obtain⟨v,F,o⟩:=E.get ex;obtain⟨u,x,t⟩:=I.get ey;refine⟨⟨ws,c,v,u,q,w,F,x⟩,fun y H3 ⟨p,v',u',g,M,Z,W,O⟩=>?_⟩;have A:=W ws q;have G:=O c w;rw[F]at A;cases A;rw[x]at G;cases G;subst M;subst Z;exact⟨Ext.fresh g,n.fresh g,.tup (jl.of d3) (.cons (o.ext (Ext.fresh g)) (.cons (t.ext (Ext.fresh g)) .nil))⟩
   ·rcases uQ xs ys i T with z|z
    ·exact .inl (by rw[<- E.length];exact z)
    ·exact .inr (by rw[<- I.length];exact z)
  ·cases hm
end
end Mi
namespace Mi
open PySem PySem.Spec PyProof.Rows L2 SeqAt
open AutoSeq1 (wpAny_loadPart')
open MeetsSeq
abbrev OD(e:Array DictEntry)(n:Nat)(dd:Option dE)(sl:Array (Option dB)):Obj:={cls:=.type "dict",dict:=dd,data:=.dict e n,slots:=sl}
section
variable{l:dE}{e:Array DictEntry}{n:Nat}{dd:Option dE}{sl:Array (Option dB)}
theorem As:Meets (Builtin.«dict.__eq__» ⟨[.ref l,.none],[]⟩) (fun _ R s=>s.heap.get? l=some (OD e n dd sl)/\R (.ok (.ret .notImplemented)) s):=.of_wp fun _ _ _ _ s h=>by
 obtain⟨f,g,d,tk,b⟩:=s;obtain⟨a,h⟩:=h;have c:=F.sub_NoneType_dict;wp_walk using wpAny_loadPart' a;exact⟨_,rfl,h⟩
theorem Da(b:Bool):Meets (Builtin.«dict.__eq__» ⟨[.ref l,.bool b],[]⟩) (fun _ R s=>s.heap.get? l=some (OD e n dd sl)/\R (.ok (.ret .notImplemented)) s):=.of_wp fun _ _ _ _ s h=>by
 obtain⟨i,g,d,tk,c⟩:=s;obtain⟨a,h⟩:=h;have f:=F.sub_bool_dict;wp_walk using wpAny_loadPart' a;exact⟨_,rfl,h⟩
theorem At(b:Int)(u:Tok):Meets (Builtin.«dict.__eq__» ⟨[.ref l,.int b u],[]⟩) (fun _ R s=>s.heap.get? l=some (OD e n dd sl)/\R (.ok (.ret .notImplemented)) s):=.of_wp fun _ _ _ _ s h=>by
 obtain⟨i,g,d,tk,c⟩:=s;obtain⟨a,h⟩:=h;have f:=F.sub_int_dict;wp_walk using wpAny_loadPart' a;exact⟨_,rfl,h⟩
theorem Ar(b:Str)(u:Tok):Meets (Builtin.«dict.__eq__» ⟨[.ref l,.str b u],[]⟩) (fun _ R s=>s.heap.get? l=some (OD e n dd sl)/\R (.ok (.ret .notImplemented)) s):=.of_wp fun _ _ _ _ s h=>by
 obtain⟨i,g,d,tk,c⟩:=s;obtain⟨a,h⟩:=h;have f:=F.sub_str_dict;wp_walk using wpAny_loadPart' a;exact⟨_,rfl,h⟩
theorem vX{a:dE}{its:Array dB}{k:Nat}{i:Option dE}{c:Array (Option dB)}:Meets (Builtin.«dict.__eq__» ⟨[.ref l,.ref a],[]⟩) (fun _ R s=>s.heap.get? l=some (OD e n dd sl)/\s.heap.get? a=some {cls:=.type "list",dict:=i,data:=.seq its k,slots:=c}/\R (.ok (.ret .notImplemented)) s):=.of_wp fun _ _ _ _ s h=>by
 obtain⟨j,g,d,tk,m⟩:=s;obtain⟨b,f,h⟩:=h;have o:=F.sub_list_dict;wp_walk using wpAny_loadPart' b,wpAny_loadPart' f;exact⟨_,rfl,h⟩
theorem Aq{a:dE}{its:Array dB}{k:Nat}{i:Option dE}{c:Array (Option dB)}:Meets (Builtin.«dict.__eq__» ⟨[.ref l,.ref a],[]⟩) (fun _ R s=>s.heap.get? l=some (OD e n dd sl)/\s.heap.get? a=some {cls:=.type "tuple",dict:=i,data:=.seq its k,slots:=c}/\R (.ok (.ret .notImplemented)) s):=.of_wp fun _ _ _ _ s h=>by
 obtain⟨j,g,d,tk,m⟩:=s;obtain⟨b,f,h⟩:=h;have o:=F.sub_tuple_dict;wp_walk using wpAny_loadPart' b,wpAny_loadPart' f;exact⟨_,rfl,h⟩
theorem C0(b:Bool):Meets (Builtin.«int.__eq__» ⟨[.bool b,.ref l],[]⟩) (fun _ R s=>s.heap.get? l=some (OD e n dd sl)/\R (.ok (.ret .notImplemented)) s):=.of_wp fun _ _ _ _ s h=>by
 obtain⟨f,g,d,tk,c⟩:=s;obtain⟨a,h⟩:=h;wp_walk using wpAny_loadPart' a,wpAny_load a;exact⟨_,rfl,h⟩
theorem yJ(b:Int)(u:Tok):Meets (Builtin.«int.__eq__» ⟨[.int b u,.ref l],[]⟩) (fun _ R s=>s.heap.get? l=some (OD e n dd sl)/\R (.ok (.ret .notImplemented)) s):=.of_wp fun _ _ _ _ s h=>by
 obtain⟨f,g,d,tk,c⟩:=s;obtain⟨a,h⟩:=h;wp_walk using wpAny_loadPart' a,wpAny_load a;exact⟨_,rfl,h⟩
theorem yI(b:Str)(u:Tok):Meets (Builtin.«str.__eq__» ⟨[.str b u,.ref l],[]⟩) (fun _ R s=>s.heap.get? l=some (OD e n dd sl)/\R (.ok (.ret .notImplemented)) s):=.of_wp fun _ _ _ _ s h=>by
 obtain⟨f,g,d,tk,c⟩:=s;obtain⟨a,h⟩:=h;wp_walk using wpAny_loadPart' a,wpAny_load a;exact⟨_,rfl,h⟩
theorem vb{a:dE}{its:Array dB}{k:Nat}{i:Option dE}{c:Array (Option dB)}:Meets (Builtin.«list.__eq__» ⟨[.ref a,.ref l],[]⟩) (fun _ R s=>s.heap.get? l=some (OD e n dd sl)/\s.heap.get? a=some {cls:=.type "list",dict:=i,data:=.seq its k,slots:=c}/\R (.ok (.ret .notImplemented)) s):=.of_wp fun _ _ _ _ s h=>by
 obtain⟨j,g,d,tk,m⟩:=s;obtain⟨b,f,h⟩:=h;have o:=F.sub_dict_list;wp_walk using wpAny_loadPart' b,wpAny_loadPart' f;exact⟨_,rfl,h⟩
theorem yH{a:dE}{its:Array dB}{k:Nat}{i:Option dE}{c:Array (Option dB)}:Meets (Builtin.«tuple.__eq__» ⟨[.ref a,.ref l],[]⟩) (fun _ R s=>s.heap.get? l=some (OD e n dd sl)/\s.heap.get? a=some {cls:=.type "tuple",dict:=i,data:=.seq its k,slots:=c}/\R (.ok (.ret .notImplemented)) s):=.of_wp fun _ _ _ _ s h=>by
 obtain⟨j,g,d,tk,m⟩:=s;obtain⟨b,f,h⟩:=h;have o:=F.sub_dict_tuple;wp_walk using wpAny_loadPart' b,wpAny_loadPart' f;exact⟨_,rfl,h⟩
end
abbrev FD(A:dG)(s:dD)(v u:dB):Prop:=EqAt A s v u false/\EqAt A s u v false/\RcAt A s v u false/\RcAt A s u v false
section
variable{A:dG}{s:dD}{a:dE}{o:Obj}
theorem IS{u:dB}(hn:(Value.ref a == u)=false)(r:RcAt A s (.ref a) u false):EqAt A s (.ref a) u false:=fun prog w E Q h=>by
 unfold eqBool;refine wpAny_holding (wpAny_ite_split (fun z=>?_) fun _=>?_)
 ·rw[hn]at z;cases z
 ·exact wB1 (r prog w E _ (wpAny_truthy_bool h))
theorem IR{u:dB}(hn:(u == Value.ref a)=false)(r:RcAt A s u (.ref a) false):EqAt A s u (.ref a) false:=fun prog w E Q h=>by
 unfold eqBool;refine wpAny_holding (wpAny_ite_split (fun z=>?_) fun _=>?_)
 ·rw[hn]at z;cases z
 ·cases u<;>exact wB1 (r prog w E _ (wpAny_truthy_bool h))
theorem rR {v:V}{u:dB}(ho:s.heap.get? a=some o)(hc:o.cls = .type "dict")(hd:∃e n,o.data = .dict e n)(r:d6 v u)(f:lK v=true)(c:A.units<cLine):FD A s (.ref a) u:=by
 obtain⟨i,dd,d,sl⟩:=o;obtain⟨e,n,hd⟩:=hd;simp only at hc hd;subst hc hd;have two:∀{u:dB},((Value.ref a) == u)=false->(u == (Value.ref a))=false->RcAt A s (.ref a) u false->RcAt A s u (.ref a) false->FD A s (.ref a) u:=fun h1 h2 g r2=>⟨IS h1 g,IR h2 r2,g,r2⟩;cases v with
 |non=>
  cases r;refine two rfl rfl (fun _ _ _ _ h=>?_) fun _ _ _ _ h=>?_
  ·exact rc_eq_decline_or (k:=false) ⟨_,ho,rfl⟩ rfl (by decide) F.sub_NoneType_dict F.slot_dict_eq F.slot_NoneType_eq_refl (fun _ q=>call_meets F.slot_dict_eq ⟨_,ho,rfl⟩ F.entry_dict_eq (F.args_dict_eq_2 _ _) As ⟨ho,q⟩) (fun _ q=>call_gives F.slot_NoneType_eq_refl rfl F.entry_NoneType_eq (F.args_NoneType_eq_2 _ _) (NoneType___eq___none_ref_0 a) q) (fun _ q=>wpAny_of_eq (rfl:isSame (.ref a) .none=pure false) q) (.inr c) h
  ·exact rc_eq_decline_or (k:=false) rfl ⟨_,ho,rfl⟩ (by decide) F.sub_dict_NoneType F.slot_NoneType_eq F.slot_dict_eq_refl (fun _ q=>call_gives F.slot_NoneType_eq rfl F.entry_NoneType_eq (F.args_NoneType_eq_2 _ _) (NoneType___eq___none_ref_0 a) q) (fun _ q=>call_meets F.slot_dict_eq_refl ⟨_,ho,rfl⟩ F.entry_dict_eq (F.args_dict_eq_2 _ _) As ⟨ho,q⟩) (fun _ q=>wpAny_of_eq (rfl:isSame .none (.ref a)=pure false) q) (.inr c) h
 |bl b=>
  cases r;refine two rfl rfl (fun _ _ _ _ h=>?_) fun _ _ _ _ h=>?_
  ·exact rc_eq_decline_or (k:=false) ⟨_,ho,rfl⟩ rfl (by decide) F.sub_bool_dict F.slot_dict_eq F.slot_bool_eq_refl (fun _ q=>call_meets F.slot_dict_eq ⟨_,ho,rfl⟩ F.entry_dict_eq (F.args_dict_eq_2 _ _) (Da b) ⟨ho,q⟩) (fun _ q=>call_meets F.slot_bool_eq_refl rfl F.entry_int_eq (F.args_int_eq_2 _ _) (C0 b) ⟨ho,q⟩) (fun _ q=>wpAny_of_eq (rfl:isSame (.ref a) (.bool b)=pure false) q) (.inr c) h
  ·exact rc_eq_decline_or (k:=false) rfl ⟨_,ho,rfl⟩ (by decide) F.sub_dict_bool F.slot_bool_eq F.slot_dict_eq_refl (fun _ q=>call_meets F.slot_bool_eq rfl F.entry_int_eq (F.args_int_eq_2 _ _) (C0 b) ⟨ho,q⟩) (fun _ q=>call_meets F.slot_dict_eq_refl ⟨_,ho,rfl⟩ F.entry_dict_eq (F.args_dict_eq_2 _ _) (Da b) ⟨ho,q⟩) (fun _ q=>wpAny_of_eq (rfl:isSame (.bool b) (.ref a)=pure false) q) (.inr c) h
 |int b=>
  obtain⟨t,rfl⟩:=r;refine two rfl rfl (fun _ _ _ _ h=>?_) fun _ _ _ _ h=>?_
  ·exact rc_eq_decline_or (k:=false) ⟨_,ho,rfl⟩ (typeIs_int s b t) (by decide) F.sub_int_dict F.slot_dict_eq F.slot_int_eq_refl (fun _ q=>call_meets F.slot_dict_eq ⟨_,ho,rfl⟩ F.entry_dict_eq (F.args_dict_eq_2 _ _) (At b t) ⟨ho,q⟩) (fun _ q=>call_meets F.slot_int_eq_refl (typeIs_int s b t) F.entry_int_eq (F.args_int_eq_2 _ _) (yJ b t) ⟨ho,q⟩) (fun _ q=>wpAny_of_eq (rfl:isSame (.ref a) (.int b t)=pure false) q) (.inr c) h
  ·exact rc_eq_decline_or (k:=false) (typeIs_int s b t) ⟨_,ho,rfl⟩ (by decide) F.sub_dict_int F.slot_int_eq F.slot_dict_eq_refl (fun _ q=>call_meets F.slot_int_eq (typeIs_int s b t) F.entry_int_eq (F.args_int_eq_2 _ _) (yJ b t) ⟨ho,q⟩) (fun _ q=>call_meets F.slot_dict_eq_refl ⟨_,ho,rfl⟩ F.entry_dict_eq (F.args_dict_eq_2 _ _) (At b t) ⟨ho,q⟩) (fun _ q=>wpAny_of_eq (rfl:isSame (.int b t) (.ref a)=pure false) q) (.inr c) h
 |str b=>
  obtain⟨t,rfl⟩:=r;refine two rfl rfl (fun _ _ _ _ h=>?_) fun _ _ _ _ h=>?_
  ·exact rc_eq_decline_or (k:=false) ⟨_,ho,rfl⟩ (typeIs_str s b t) (by decide) F.sub_str_dict F.slot_dict_eq F.slot_str_eq_refl (fun _ q=>call_meets F.slot_dict_eq ⟨_,ho,rfl⟩ F.entry_dict_eq (F.args_dict_eq_2 _ _) (Ar b t) ⟨ho,q⟩) (fun _ q=>call_meets F.slot_str_eq_refl (typeIs_str s b t) F.entry_str_eq (F.args_str_eq_2 _ _) (yI b t) ⟨ho,q⟩) (fun _ q=>wpAny_of_eq (rfl:isSame (.ref a) (.str b t)=pure false) q) (.inr c) h
  ·exact rc_eq_decline_or (k:=false) (typeIs_str s b t) ⟨_,ho,rfl⟩ (by decide) F.sub_dict_str F.slot_str_eq F.slot_dict_eq_refl (fun _ q=>call_meets F.slot_str_eq (typeIs_str s b t) F.entry_str_eq (F.args_str_eq_2 _ _) (yI b t) ⟨ho,q⟩) (fun _ q=>call_meets F.slot_dict_eq_refl ⟨_,ho,rfl⟩ F.entry_dict_eq (F.args_dict_eq_2 _ _) (Ar b t) ⟨ho,q⟩) (fun _ q=>wpAny_of_eq (rfl:isSame (.str b t) (.ref a)=pure false) q) (.inr c) h
 |_=>cases f
theorem vp {b:Bool}{x:dE}{its:Array dB}(ho:s.heap.get? a=some o)(hc:o.cls = .type "dict")(hd:∃e n,o.data = .dict e n)(c:SCo b s.heap x its)(p:A.units<cLine):FD A s (.ref a) (.ref x):=by
 obtain⟨w,dd,u,sl⟩:=o;obtain⟨e,n,hd⟩:=hd;simp only at hc hd;subst hc hd;cases b with
 |false=>
  obtain⟨⟨l,r,j,t⟩,d,g,v,i⟩:=(show s.heap.IsTuple x its from c);simp only at g i;subst g i;have f:a≠x:=fun z=>by subst z;rw[ho]at d;exact absurd (congrArg Obj.cls (Option.some.inj d)) (by simp)
  have m:RcAt A s (.ref a) (.ref x) false:=fun _ _ _ _ h=>rc_eq_decline_or (k:=false) ⟨_,ho,rfl⟩ ⟨_,d,rfl⟩ (by decide) F.sub_tuple_dict F.slot_dict_eq F.slot_tuple_eq_refl (fun _ q=>call_meets F.slot_dict_eq ⟨_,ho,rfl⟩ F.entry_dict_eq (F.args_dict_eq_2 _ _) Aq ⟨ho,d,q⟩) (fun _ q=>call_meets F.slot_tuple_eq_refl ⟨_,d,rfl⟩ F.entry_tuple_eq (F.args_tuple_eq_2 _ _) yH ⟨ho,d,q⟩) (fun _ q=>wpAny_isSame_ref_other f ho d (by simp) q) (.inr p) h;have r2:RcAt A s (.ref x) (.ref a) false:=fun _ _ _ _ h=>rc_eq_decline_or (k:=false) ⟨_,d,rfl⟩ ⟨_,ho,rfl⟩ (by decide) F.sub_dict_tuple F.slot_tuple_eq F.slot_dict_eq_refl (fun _ q=>call_meets F.slot_tuple_eq ⟨_,d,rfl⟩ F.entry_tuple_eq (F.args_tuple_eq_2 _ _) yH ⟨ho,d,q⟩) (fun _ q=>call_meets F.slot_dict_eq_refl ⟨_,ho,rfl⟩ F.entry_dict_eq (F.args_dict_eq_2 _ _) Aq ⟨ho,d,q⟩) (fun _ q=>wpAny_isSame_ref_other' f.symm d ho (by simp) q) (.inr p) h;exact⟨.of_refs f m,.of_refs f.symm r2,m,r2⟩
 |true=>
  obtain⟨⟨l,r,j,t⟩,d,g,v,i⟩:=(show s.heap.IsList x its from c);simp only at g i;subst g i;have f:a≠x:=fun z=>by subst z;rw[ho]at d;exact absurd (congrArg Obj.cls (Option.some.inj d)) (by simp)
  have m:RcAt A s (.ref a) (.ref x) false:=fun _ _ _ _ h=>rc_eq_decline_or (k:=false) ⟨_,ho,rfl⟩ ⟨_,d,rfl⟩ (by decide) F.sub_list_dict F.slot_dict_eq F.slot_list_eq_refl (fun _ q=>call_meets F.slot_dict_eq ⟨_,ho,rfl⟩ F.entry_dict_eq (F.args_dict_eq_2 _ _) vX ⟨ho,d,q⟩) (fun _ q=>call_meets F.slot_list_eq_refl ⟨_,d,rfl⟩ F.entry_list_eq (F.args_list_eq_2 _ _) vb ⟨ho,d,q⟩) (fun _ q=>wpAny_isSame_ref_other f ho d (by simp) q) (.inr p) h;have r2:RcAt A s (.ref x) (.ref a) false:=fun _ _ _ _ h=>rc_eq_decline_or (k:=false) ⟨_,d,rfl⟩ ⟨_,ho,rfl⟩ (by decide) F.sub_dict_list F.slot_list_eq F.slot_dict_eq_refl (fun _ q=>call_meets F.slot_list_eq ⟨_,d,rfl⟩ F.entry_list_eq (F.args_list_eq_2 _ _) vb ⟨ho,d,q⟩) (fun _ q=>call_meets F.slot_dict_eq_refl ⟨_,ho,rfl⟩ F.entry_dict_eq (F.args_dict_eq_2 _ _) vX ⟨ho,d,q⟩) (fun _ q=>wpAny_isSame_ref_other' f.symm d ho (by simp) q) (.inr p) h;exact⟨.of_refs f m,.of_refs f.symm r2,m,r2⟩
end
abbrev G1:=D->Sto->Option (D×Sto)
abbrev G2:=D->D->Sto->Option (D×Sto)
abbrev G3:=D->D->D->Sto->Option (D×Sto)
noncomputable def b1 (f:G1):FN:=fun ds S=>match ds with
 |[a]=>f a S
 |_=>none
noncomputable def b2 (f:G2):FN:=fun ds S=>match ds with
 |[a,b]=>f a b S
 |_=>none
noncomputable def b3 (f:G3):FN:=fun ds S=>match ds with
 |[a,b,c]=>f a b c S
 |_=>none
section
variable{X:Cx}{K:Fg1}{H:Hp}{Q:VK}
theorem ot{f:G2}{x y:V}(h:rN K (b2 f) [x,y] H Q):∃mu S d e r a,eJ K H mu d x/\eJ K H mu e y/\Sim K H mu S/\f d e S=some (r,a)/\n6 K mu H r a Q:=by
 obtain⟨mu,S,ds,r,a,c,g,i,hc⟩:=h;cases c with
 |cons q t=>cases t with
  |cons b t=>cases t;exact⟨mu,S,_,_,r,a,q,b,g,i,hc⟩
theorem DO{f:G1}{xs:List V}(h:rN K (b1 f) xs H Q):∃x mu S d r a,xs=[x]/\eJ K H mu d x/\Sim K H mu S/\f d S=some (r,a)/\n6 K mu H r a Q:=by
 obtain⟨mu,S,ds,r,a,c,e,b,hc⟩:=h;cases c with
 |nil=>cases b
 |cons q t=>cases t with
  |nil=>exact⟨_,mu,S,_,r,a,rfl,q,e,b,hc⟩
  |cons g t=>cases b
theorem yC{f:G2}{xs:List V}(h:rN K (b2 f) xs H Q):∃x y mu S d e r a,xs=[x,y]/\eJ K H mu d x/\eJ K H mu e y/\Sim K H mu S/\f d e S=some (r,a)/\n6 K mu H r a Q:=by
 obtain⟨mu,S,ds,r,a,g,i,b,hc⟩:=h;cases g with
 |nil=>cases b
 |cons q t=>cases t with
  |nil=>cases b
  |cons c t=>cases t with
   |nil=>exact⟨_,_,mu,S,_,_,r,a,rfl,q,c,i,b,hc⟩
   |cons j t=>cases b
theorem n6.now{mu:List dE}{S:Sto}{d:D}{v:V}(c:n6 K mu H d S Q)(r:eJ K H mu d v)(s:Sim K H mu S):Q v H:=c v H mu (.refl _ _) r s
end
def eR(i j:Int):Bool:=(decide (-(2^64)<i)&&decide (i<2^64))||(decide (-(2^64)<j)&&decide (j<2^64))||(decide (i.natAbs<2^1000)&&decide (j.natAbs<2^1000))
def fS:G2:=fun d e S=>match d,e with
 | .int i,.int j=>some (.int (i+j),S)
 | .tup xs,.tup ys=>if xs.length+ys.length<=dL then some (.tup (xs++ys),S)else none
 | .str x,.str y=>if x.length+y.length<=dL then some (.str (x++y),S)else none
 | .ref a,.ref b=>match S[a]?,S[b]? with
  |some (.lst xs),some (.lst ys)=>if xs.length+ys.length<=dL then some (.ref S.length,S++[.lst (xs++ys)])else none
  |_,_=>none
 |_,_=>none
def gSub:G2:=fun d e S=>match d,e with
 | .int i,.int j=>some (.int (i-j),S)
 |_,_=>none
def jo:G2:=fun d e S=>match d,e with
 | .int i,.int j=>if eR i j=true then some (.int (i*j),S)else none
 |_,_=>none
def kw:G2:=fun d e S=>match d,e with
 | .int i,.int j=>if 0<j then some (.int (i%j),S)else none
 |_,_=>none
def nV:G2:=fun d e S=>match d,e with
 | .int i,.int j=>if 0<j/\j<1073741824 then some (.int (i/j),S)else none
 |_,_=>none
def uA:G2:=fun d e S=>match d,e with
 | .int i,.int j=>if 0<=j/\j<=1000000/\i.natAbs<2^64 then some (.int (i^j.toNat),S)else none
 |_,_=>none
def sD:G1:=fun d S=>match d with
 | .int i=>some (.int (-i),S)
 |_=>none
section
variable{X:Cx}
theorem ul{i j:Int}(h:eR i j=true):IntMulOk i j:=by
 unfold eR at h;simp only[bQ,bA1,decide_eq_true_eq]at h;rcases h with(⟨h1,h2⟩|⟨h1,h2⟩)|⟨h1,h2⟩
 ·exact .of_left (intBits_le_64 h1 h2)
 ·exact .of_right (intBits_le_64 h1 h2)
 ·exact .of_bits (aC (intBits_le h1) (by decide)) (aC (intBits_le h2) (by decide))
theorem mf{f:dB->dB->Sem dB}{g:G2}{c:Int->Int->Prop}{v:Int->Int->D}(hg:∀ d e S r a,g d e S=some (r,a) -> ∃ i j,d = .int i/\e = .int j/\c i j/\r=v i j/\a=S){b:Int->Int->V}(hv:∀i j K H mu,eJ K H mu (v i j) (b i j))(ho:gp X f (rI c b)):gp X f (r2 X.K (b2 g)):=by
 intro pins s σ H x y u w Q I l k h;obtain⟨mu,S,d,e,r,a,p,r2,n,o,hc⟩:=ot h;obtain⟨i,j,rfl,rfl,m,rfl,rfl⟩:=hg d e S r a o;cases p;cases r2;exact ho pins s σ H _ _ u w Q I l k ⟨i,j,rfl,rfl,m,hc.now (hv i j _ _ _) n⟩
theorem mU{f:dB->dB->Sem dB}{g:G2}{v:Int->Int->D}(hg:∀ d e S r a,g d e S=some (r,a) -> ∃ i j,d = .int i/\e = .int j/\r=v i j/\a=S){b:Int->Int->V}(hv:∀i j K H mu,eJ K H mu (v i j) (b i j))(ho:gp X f (CZ b)):gp X f (r2 X.K (b2 g)):=by
 intro pins s σ H x y u w Q I c m h;obtain⟨mu,S,d,e,r,a,n,r2,k,l,hc⟩:=ot h;obtain⟨i,j,rfl,rfl,rfl,rfl⟩:=hg d e S r a l;cases n;cases r2;exact ho pins s σ H _ _ u w Q I c m ⟨i,j,rfl,rfl,hc.now (hv i j _ _ _) k⟩
theorem zg:gp X (binaryOp .Sub) (r2 X.K (b2 gSub)):=mU (v:=fun i j=>.int (i-j)) (fun d e S r a h=>by
 unfold gSub at h;split at h
 ·cases h;exact⟨_,_,rfl,rfl,rfl,rfl⟩
 ·cases h) (fun _ _ _ _ _=>.int _) Eg
theorem ka:gp X (binaryOp .Mult) (r2 X.K (b2 jo)):=mf (c:=fun i j=>IntMulOk i j) (v:=fun i j=>.int (i*j)) (fun d e S r a h=>by
 unfold jo at h;split at h
 ·split at h
  ·rename_i q;cases h;exact⟨_,_,rfl,rfl,ul q,rfl,rfl⟩
  ·cases h
 ·cases h) (fun _ _ _ _ _=>.int _) (HK fun _ _ _ _ _ _ _ hc q=>mul_int q hc)
theorem lF:gp X (binaryOp .Mod) (r2 X.K (b2 kw)):=mf (c:=fun _ j=>0<j) (v:=fun i j=>.int (i%j)) (fun d e S r a h=>by
 unfold kw at h;split at h
 ·split at h
  ·rename_i q;cases h;exact⟨_,_,rfl,rfl,q,rfl,rfl⟩
  ·cases h
 ·cases h) (fun _ _ _ _ _=>.int _) Ei
theorem vr:gp X (binaryOp .FloorDiv) (r2 X.K (b2 nV)):=mf (c:=HF) (v:=fun i j=>.int (i/j)) (fun d e S r a h=>by
 unfold nV at h;split at h
 ·split at h
  ·rename_i q;cases h;exact⟨_,_,rfl,rfl,q,rfl,rfl⟩
  ·cases h
 ·cases h) (fun _ _ _ _ _=>.int _) BB
theorem zh:gp X (binaryOp .Pow) (r2 X.K (b2 uA)):=mf (c:=HE) (v:=fun i j=>.int (i^j.toNat)) (fun d e S r a h=>by
 unfold uA at h;split at h
 ·split at h
  ·rename_i q;cases h;exact⟨_,_,rfl,rfl,q,rfl,rfl⟩
  ·cases h
 ·cases h) (fun _ _ _ _ _=>.int _) Eh
theorem C2:FM X (unaryOp .USub) (fun x H Q=>rN X.K (b1 sD) [x] H Q):=by
 intro pins s σ H x v Q I b h;obtain⟨j,mu,S,d,r,g,e,f,c,a,hc⟩:=DO h;cases e;cases d with
 |int i=>cases a;cases f;exact Do pins s σ H _ v Q I b ⟨i,rfl,hc.now (.int _) c⟩
 |_=>cases a
theorem xw{s:dD}{prog:dF}{w:dH}{A:dG}{E:dB->dD->Prop}{t b:dE}{ws:List dB}{Q:dB->dD->Prop}(ht:IsTup s.heap t ([]:List dB).toArray)(hb:IsTup s.heap b ws.toArray)(h:Q (.ref b) s):
  dM (model prog w) A (binaryOp .Add (.ref t) (.ref b)) Q E s:=by
 obtain⟨⟨o,dd,k,sl⟩,l,hc,n,j⟩:=id ht;obtain⟨⟨i,e,g,f⟩,c,a,m,d⟩:=id hb;simp only at hc j a d;subst hc j a d;exact concat_meets ⟨_,l,rfl⟩ ⟨_,c,rfl⟩ noFill_tuple_add seq_tuple_add PySem.F.slot_tuple_add PySem.F.entry_tuple_add (PySem.F.args_tuple_add_2 _ _) (tuple_addW0 t b ([]:List dB).toArray ws.toArray n m dd e sl f (by simp)) ⟨l,c,h⟩
theorem fT:gp X (binaryOp .Add) (r2 X.K (b2 fS)):=by
 intro pins s σ H x y u w Q I q t h;obtain⟨mu,S,d,e,r,R,v,r2,f,c,hc⟩:=ot h;unfold fS at c;split at c
 ·cases c;cases v;cases r2;exact El pins s σ H _ _ u w Q I q t ⟨_,_,rfl,rfl,hc.now (.int _) f⟩
 ·rename_i xs ys;split at c
  ·rename_i o;cases c;cases v with
   |tup A k=>
    cases r2 with
    |tup C m=>
     rename_i g a1 l a2;by_cases D:g=[]
     ·subst D;have:xs=[]:=by cases k;rfl
      subst this;cases q;cases t;obtain⟨B,P,F,_⟩:=I.tuple A;obtain⟨E,M,p2,_⟩:=I.tuple C;have:B=[]:=P.nil_iff.mpr rfl;subst this;exact xw F p2 ⟨.ref a2,H,I,rfl,hc.now (.tup C m) f⟩
     ·refine BC pins s σ H _ _ u w Q I q t ⟨a1,a2,g,l,rfl,rfl,A,C,D,by rw[<- k.length,<- m.length];exact o,fun z=>?_,fun z p n=>?_⟩
      ·subst z;have:ys=[]:=by cases m;rfl
       subst this;rw[aM]at hc;exact hc.now (.tup A k) f
      ·exact hc _ _ mu (Ext.fresh n) (.tup (jl.of d3) ((k.append m).ext (Ext.fresh n))) (f.fresh n)
  ·cases c
 ·rename_i i j;split at c
  ·rename_i o;cases c;cases v;cases r2;exact ug pins s σ H _ _ u w Q I q t ⟨i,j,rfl,rfl,o,hc.now (.str _) f⟩
  ·cases c
 ·rename_i a b;split at c
  ·rename_i xs ys J O;split at c
   ·rename_i o;cases c;cases v with
    |ref L=>
     cases r2 with
     |ref G=>
      obtain⟨g,N,k⟩:=f.lst J L;obtain⟨l,K,m⟩:=f.lst O G;refine Ek pins s σ H _ _ u w Q I q t ⟨_,_,g,l,rfl,rfl,N,K,by rw[<- k.length,<- m.length];exact o,fun p n=>?_⟩;exact hc _ _ (mu++[p]) (Ext.new_ n) (.ref (fZ f.len p)) (f.newL (k.append m) n)
   ·cases c
  ·cases c
 ·cases c
end
def iH(p:Int->Int->Bool):G2:=fun d e S=>match d,e with
 | .int i,.int j=>some (.bl (p i j),S)
 |_,_=>none
section
variable{X:Cx}
theorem vP{p:Int->Int->Bool}(d e:D)(S:Sto)(r:D)(a:Sto)(h:iH p d e S=some (r,a)):∃i j,d = .int i/\e = .int j/\r = .bl (p i j)/\a=S:=by
 unfold iH at h;split at h
 ·cases h;exact⟨_,_,rfl,rfl,rfl,rfl⟩
 ·cases h
theorem zk:gp X (compareOp .Gt) (r2 X.K (b2 (iH fun i j=>decide (j<i)))):=mU vP (fun _ _ _ _ _=>.bl _) Gv
theorem GB:gp X (compareOp .GtE) (r2 X.K (b2 (iH fun i j=>decide (j<=i)))):=mU vP (fun _ _ _ _ _=>.bl _) Gw
end
def i3:D->Bool
 | .non=>true
 | .bl _=>true
 | .int _=>true
 | .str _=>true
 |_=>false
noncomputable def HV:D->D->Option Bool
 | .non,.non=>some true
 | .bl a,.bl b=>some (a == b)
 | .bl a,.int b=>some ((if a then 1 else 0) == b)
 | .int a,.bl b=>some (a == (if b then 1 else 0))
 | .int a,.int b=>some (a == b)
 | .str a,.str b=>some (a == b)
 |d,e=>if i3 d&&i3 e then some false else none
def nK(f:D->D->Option Bool):List D->List D->Option Bool
 |x::xs,y::ys=>(f x y).bind fun b=>(nK f xs ys).map fun c=>b&&c
 |[],[]=>some true
 |_,_=>some false
def uv(S:Sto):D->Bool
 | .ref n=>match S[n]? with
  |some (.dct _)=>true
  |some (.dcT _)=>true
  |_=>false
 |_=>false
def HU(S:Sto)(d e:D):Option Bool:=match uv S d,uv S e with
 |false,false=>HV d e
 |true,false=>if i3 e=true then some false else none
 |false,true=>if i3 d=true then some false else none
 |true,true=>none
def gr(S:Sto):Nat->D->D->Option Bool
 |0,_,_=>none
 |n+1,d,e=>match d5 S d,d5 S e with
  |some p,some q=>if p.1=q.1 then(if p.1=true/\p.2.length≠q.2.length then some false else nK (gr S n) p.2 q.2)else some false
  |some _,none=>if i3 e=true then some false else if uv S e=true then some false else none
  |none,some _=>if i3 d=true then some false else if uv S d=true then some false else none
  |none,none=>HU S d e
section
variable{X:Cx}{pins:List (dE×Obj)}{σ:L2.St}{H:Hp}{s:dD}{mu:List dE}{S:Sto}
theorem fE{K:Fg1}{d:D}{v:V}(r:eJ K H mu d v)(h:i3 d=true):lK v=true /\ ∀e w,eJ K H mu e w->i3 e=true->HV d e=some (uE v w):=by
 cases d with
 |non=>cases r;refine⟨rfl,fun e w q f=>?_⟩;cases e with
  |non=>cases q;rfl
  |bl _=>cases q;rfl
  |int _=>cases q;rfl
  |str _=>cases q;rfl
  |_=>cases f
 |bl b=>cases r;refine⟨rfl,fun e w q f=>?_⟩;cases e with
  |non=>cases q;rfl
  |bl _=>cases q;rfl
  |int _=>cases q;rfl
  |str _=>cases q;rfl
  |_=>cases f
 |int i=>cases r;refine⟨rfl,fun e w q f=>?_⟩;cases e with
  |non=>cases q;rfl
  |bl _=>cases q;rfl
  |int _=>cases q;rfl
  |str _=>cases q;rfl
  |_=>cases f
 |str x=>cases r;refine⟨rfl,fun e w q f=>?_⟩;cases e with
  |non=>cases q;rfl
  |bl _=>cases q;rfl
  |int _=>cases q;rfl
  |str _=>cases q;rfl
  |_=>cases f
 |_=>cases h
theorem sJ{d e:D}{b:Bool}(h:HV d e=some b):i3 d=true/\i3 e=true:=by
 cases d<;>cases e<;>first|exact⟨rfl,rfl⟩|(cases h;done)|exact nomatch h|(simp[HV,i3]at h)
theorem Aj{v:V}(h:lK v=true):uE v v=true:=by
 cases v<;>first|rfl|(cases h;done)|exact beq_self_eq_true _|(simp[uE];done)
theorem lN(I:Inv X pins σ H s)(hs:Sim X.K H mu S){d:D}{v:V}(r:eJ X.K H mu d v)(h:uv S d=true):∃a o,v = .ref a/\s.heap.get? a=some o/\o.cls = .type "dict" /\ ∃e n,o.data = .dict e n:=by
 cases d with
 |ref n=>
  rw[uv]at h;cases r with
  | @ref _ a i=>
   split at h
   ·rename_i ks e;obtain⟨ws,g,_⟩:=hs.dct e i;obtain⟨_,_,vs,_,o,es,ep,f,c,b,_⟩:=(show eN X.prog X.w H s.heap a (.dK ws)from I.hok a _ g);exact⟨a,o,rfl,f,c.1,es,ep,b⟩
   ·rename_i ks e;obtain⟨ws,g,_⟩:=hs.dcT e i;obtain⟨⟨_,_,o,es,ep,f,c,b,_⟩,_⟩:=(show eN X.prog X.w H s.heap a (.ext (gb a ws))from I.hok a _ g);exact⟨a,o,rfl,f,c.1,es,ep,b⟩
   ·cases h
 |_=>cases h
theorem sI(I:Inv X pins σ H s)(hs:Sim X.K H mu S):∀(n:Nat) {d e:D} {v:V} {b:Bool},eJ X.K H mu d v->eJ X.K H mu e v->gr S n d e=some b->b=true
 |0,_,_,_,_,_,_,h=>by cases h
 |n + 1,d,e,v,b,m,k,h=>by
  rw[gr]at h;have l:∀{xs ys:List D} {vs:List V} {b:Bool},d0 X.K H mu xs vs->d0 X.K H mu ys vs->nK (gr S n) xs ys=some b->b=true:=by
   intro xs
   induction xs with
   |nil=>intro ys vs b G F h;cases G;cases F;cases h;rfl
   |cons x xs ih=>
    intro ys vs b G F h;cases G with
    |cons r t=>
     cases F with
     |cons Q U=>
      rw[nK]at h;obtain⟨b1,z,h⟩:=oB1.mp h;obtain⟨b2,i,h⟩:=oM1.mp h;subst h;rw[sI I hs n r Q z,ih t U i];rfl
  cases hd:d5 S d with
  |some p=>
   obtain⟨K,xs⟩:=p;obtain⟨a,vs,rfl,q,t⟩:=ev m hs hd;cases he:d5 S e with
   |some p2=>
    obtain⟨qb,ys⟩:=p2;obtain⟨a2,J,i,C,L⟩:=ev k hs he;cases i;rw[hd,he]at h;dsimp only at h;obtain⟨B,N,j,_⟩:=fb I q;obtain⟨M,Y,A,_⟩:=fb I C;have hb:K=qb:=by
     cases K<;>cases qb
     ·rfl
     ·obtain⟨o,z,E,_⟩:=j;obtain⟨w,i,y,_⟩:=A;rw[z]at i;cases i;rw[E]at y;exact absurd y (by decide)
     ·obtain⟨o,z,E,_⟩:=j;obtain⟨w,i,y,_⟩:=A;rw[z]at i;cases i;rw[E]at y;exact absurd y (by decide)
     ·rfl
    subst hb;have Z:=l9 I q C;subst Z;rw[if_pos rfl,if_neg (by rw[t.length,L.length];simp)]at h;exact l t L h
   |none=>
    rw[hd,he]at h;dsimp only at h;split at h
    ·rename_i f;have:=(fE k f).1;cases this
    ·split at h
     ·rename_i f;obtain⟨a2,o,i,u,hc,_⟩:=lN I hs k f;cases i;obtain⟨B,N,j,_⟩:=fb I q;cases K with
      |false=>obtain⟨w,c,g,_⟩:=j;rw[u]at c;cases c;rw[hc]at g;exact absurd g (by decide)
      |true=>obtain⟨w,c,g,_⟩:=j;rw[u]at c;cases c;rw[hc]at g;exact absurd g (by decide)
     ·cases h
  |none=>
   cases he:d5 S e with
   |some p2=>
    obtain⟨qb,ys⟩:=p2;obtain⟨a2,J,i,C,L⟩:=ev k hs he;subst i;rw[hd,he]at h;dsimp only at h;split at h
    ·rename_i f;have:=(fE m f).1;cases this
    ·split at h
     ·rename_i f;obtain⟨a,o,i,u,hc,_⟩:=lN I hs m f;cases i;obtain⟨B,N,j,_⟩:=fb I C;cases qb with
      |false=>obtain⟨w,c,g,_⟩:=j;rw[u]at c;cases c;rw[hc]at g;exact absurd g (by decide)
      |true=>obtain⟨w,c,g,_⟩:=j;rw[u]at c;cases c;rw[hc]at g;exact absurd g (by decide)
     ·cases h
   |none=>
    rw[hd,he]at h;dsimp only at h;unfold HU at h;split at h
    ·obtain⟨P,f2⟩:=sJ h;obtain⟨W,R⟩:=fE m P;rw[R e v k f2]at h;cases h;exact Aj W
    ·rename_i O _;split at h
     ·rename_i f;obtain⟨a,o,rfl,_⟩:=lN I hs m O;have:=(fE k f).1;cases this
     ·cases h
    ·rename_i _ T;split at h
     ·rename_i f;obtain⟨a,o,rfl,_⟩:=lN I hs k T;have:=(fE m f).1;cases this
     ·cases h
    ·cases h
theorem fh{A:dG}{b:Bool}{a:dE}{its:Array dB}{v:V}{u:dB}(c:SCo b s.heap a its)(r:d6 v u)(f:lK v=true)(d:A.units<cLine):
   SeqAt.EqAt A s (.ref a) u false/\SeqAt.EqAt A s u (.ref a) false/\SeqAt.RcAt A s (.ref a) u false/\SeqAt.RcAt A s u (.ref a) false:=by
 cases v with
 | non => cases r;cases b
          · exact⟨.tuple_none c d,.none_tuple c d,.tuple_none c d,.none_tuple c d⟩
          · exact⟨.list_none c d,.none_list c d,.list_none c d,.none_list c d⟩
 | bl k => cases r;cases b
           · exact⟨.tuple_bool k c d,.bool_tuple k c d,.tuple_bool k c d,.bool_tuple k c d⟩
           · exact⟨.list_bool k c d,.bool_list k c d,.list_bool k c d,.bool_list k c d⟩
 | int i => obtain ⟨t,rfl⟩:=r;cases b
            · exact⟨.tuple_int i t c d,.int_tuple i t c d,.tuple_int i t c d,.int_tuple i t c d⟩
            · exact⟨.list_int i t c d,.int_list i t c d,.list_int i t c d,.int_list i t c d⟩
 | str x => obtain ⟨t,rfl⟩:=r;cases b
            · exact⟨.tuple_str x t c d,.str_tuple x t c d,.tuple_str x t c d,.str_tuple x t c d⟩
            · exact⟨.list_str x t c d,.str_list x t c d,.list_str x t c d,.str_list x t c d⟩
 |_=>cases f
theorem Be{A:dG}{x y:V}{u w:dB}(g:d6 x u)(a:d6 y w)(h:lK x=true)(d:lK y=true):SeqAt.RcAt A s u w (uE x y):=by
 cases x with
 |non=>cases g;cases y with
  |non=>cases a;exact .none_none
  |bl k=>cases a;exact .none_bool k
  |int i=>obtain⟨t,rfl⟩:=a;exact .none_int i t
  |str z=>obtain⟨t,rfl⟩:=a;exact .none_str z t
  |_=>cases d
 |bl f=>cases g;cases y with
  |non=>cases a;exact .bool_none f
  |bl k=>cases a;exact .bool_bool f k
  |int i=>obtain⟨t,rfl⟩:=a;exact .bool_int f i t
  |str z=>obtain⟨t,rfl⟩:=a;exact .bool_str f z t
  |_=>cases d
 |int c=>obtain⟨b,rfl⟩:=g;cases y with
  |non=>cases a;exact .int_none c b
  |bl k=>cases a;exact .int_bool c b k
  |int i=>obtain⟨t,rfl⟩:=a;exact .int_int c b i t
  |str z=>obtain⟨t,rfl⟩:=a;exact .int_str c b z t
  |_=>cases d
 |str e=>obtain⟨b,rfl⟩:=g;cases y with
  |non=>cases a;exact .str_none e b
  |bl k=>cases a;exact .str_bool e b k
  |int i=>obtain⟨t,rfl⟩:=a;exact .str_int e b i t
  |str z=>obtain⟨t,rfl⟩:=a;exact .str_str e b z t
  |_=>cases d
 |_=>cases h
theorem Ak(f:D->D->Option Bool):∀{xs ys:List D} {b:Bool},nK f xs ys=some b -> ∃e:Nat->Bool,(∀j x y,xs[j]?=some x->ys[j]?=some y->f x y=some (e j))/\b=((List.range (min xs.length ys.length)).all e&&xs.length == ys.length)
 |[],[],b,h=>by cases h;exact⟨fun _=>true,fun j x y h=>by simp at h,rfl⟩
 |[],y::ys,b,h=>by cases h;exact⟨fun _=>true,fun j x y h=>by simp at h,by simp⟩
 |x::xs,[],b,h=>by cases h;exact⟨fun _=>true,fun j x y h h'=>by simp at h',by simp⟩
 |x::xs,y::ys,b,h=>by
  rw[nK]at h;obtain⟨b1,m,h⟩:=oB1.mp h;obtain⟨b2,g,h⟩:=oM1.mp h;obtain⟨e,d,k⟩:=Ak f g;refine⟨fun j=>match j with|0=>b1|j+1=>e j,fun j i l c a=>?_,?_⟩
  ·cases j with
   |zero=>simp at c a;subst c;subst a;exact m
   |succ j=>exact d j i l (by simpa using c) (by simpa using a)
  ·rw[<- h,k,lC1,lC1,Nat.succ_min_succ,List.range_succ_eq_map,bR,List.all_map];have:((xs.length+1 == ys.length+1):Bool)=(xs.length == ys.length):=by simp
   rw[this,Bool.and_assoc];rfl
theorem nw(I:Inv X pins σ H s)(hs:Sim X.K H mu S):∀(n:Nat) {A:dG} {d e:D} {v w:V} {u z:dB} {b:Bool},A.units+n<cLine->eJ X.K H mu d v->eJ X.K H mu e w->d6 v u->d6 w z->gr S n d e=some b->SeqAt.EqAt A s u z b/\SeqAt.RcAt A s u z b
 |0,_,_,_,_,_,_,_,_,_,_,_,_,_,h=>by cases h
 |n + 1,A,d,e,v,w,u,z,b,hu,L,B,M,G,h=>by
  have c:A.units<cLine:=by lia
  have h0:=h;rw[gr]at h;cases hd:d5 S d with
  |some p=>
   obtain⟨pb,xs⟩:=p;obtain⟨a,vs,rfl,q,t⟩:=ev L hs hd;obtain⟨l,rv,C,_⟩:=fb I q;cases M;cases he:d5 S e with
   |some p2=>
    obtain⟨qb,ys⟩:=p2;obtain⟨a2,N,rfl,q2,t2⟩:=ev B hs he;obtain⟨i,m,g,_⟩:=fb I q2;cases G;rw[hd,he]at h;dsimp only at h;have r:SeqAt.RcAt A s (.ref a) (.ref a2) b->SeqAt.EqAt A s (.ref a) (.ref a2) b/\SeqAt.RcAt A s (.ref a) (.ref a2) b:=fun rc=>by
     refine⟨?_,rc⟩;by_cases ha:a=a2
     ·subst ha;rw[sI I hs (n+1) L B h0];exact .same _
     ·exact .of_refs ha rc
    split at h
    ·rename_i hb;have hb':pb=qb:=hb;subst hb';split at h
     ·rename_i hl;cases h;obtain⟨h1,h2⟩:=hl;subst h1;refine r (.lists_lengths C g ?_ c);have l1:=t.length;have l2:=t2.length;have l3:=rv.length;have l4:=m.length
      simp only[sT1,bne_iff_ne,ne_eq];lia
     ·rename_i hl;obtain ⟨f,hf,W⟩:=Ak _ h;have elts:∀ j (h1:j<l.toArray.size) (h2:j<i.toArray.size),SeqAt.EqAt A.in1 s l.toArray[j] i.toArray[j] (f j):=fun j h1 h2=>by
       have Q:j<l.length:=by simpa using h1
       have P:j<i.length:=by simpa using h2
       have Y:j<vs.length:=by rw[rv.length];exact Q
       have Z:j<N.length:=by rw[m.length];exact P
       obtain⟨x,ex,rx⟩:=t.getV (gG1 Y);obtain⟨y,ey,ry⟩:=t2.getV (gG1 Z);obtain⟨u1,U,ru1⟩:=rv.get (gG1 Y);obtain⟨u2,R,ru2⟩:=m.get (gG1 Z);have T:l.toArray[j]=u1:=by
        rw[gG1 Q]at U;simpa using U
       have e2:i.toArray[j]=u2:=by
        rw[gG1 P]at R;simpa using R
       rw[T,e2];exact(nw I hs n (A:=A.in1) (by show A.units+1+n<cLine;lia) rx ry ru1 ru2 (hf j x y ex ey)).1
      have l1:=t.length;have l2:=t2.length;have l3:=rv.length;have l4:=m.length
      cases pb with
      |false=>
       refine r ?_;have:=SeqAt.RcAt.tuples C g c elts;rw[W];have T:l.toArray.size=xs.length:=by simp;lia
       have e2:i.toArray.size=ys.length:=by simp;lia
       rw[T,e2]at this;exact this
      |true=>
       refine r ?_;have O:xs.length=ys.length:=by
        by_cases z:xs.length=ys.length
        ·exact z
        ·exact absurd ⟨rfl,z⟩ hl
       have:=SeqAt.RcAt.lists C g (by simp;lia) c elts;rw[W];have T:l.toArray.size=xs.length:=by simp;lia
       rw[T]at this;rw[O,Nat.min_self,beq_self_eq_true,bO,<- O];exact this
    ·rename_i hb;cases h;cases pb with
     |true=>
      cases qb with
      |true=>exact absurd rfl hb
      |false=>exact⟨.list_tuple C g c,.list_tuple C g c⟩
     |false=>
      cases qb with
      |false=>exact absurd rfl hb
      |true=>exact⟨.tuple_list C g c,.tuple_list C g c⟩
   |none=>
    rw[hd,he]at h;dsimp only at h;split at h
    ·rename_i f;cases h;obtain⟨F,r2,J,E⟩:=fh C G (fE B f).1 c;exact⟨F,J⟩
    ·split at h
     ·rename_i f;cases h;obtain⟨a2,o,rfl,K,hc,k⟩:=lN I hs B f;cases G;obtain⟨F,r2,J,E⟩:=vp K hc k C c;exact⟨r2,E⟩
     ·cases h
  |none=>
   cases he:d5 S e with
   |some p2=>
    obtain⟨qb,ys⟩:=p2;obtain⟨a2,N,rfl,q2,t2⟩:=ev B hs he;obtain⟨i,m,g,_⟩:=fb I q2;cases G;rw[hd,he]at h;dsimp only at h;split at h
    ·rename_i f;cases h;obtain⟨F,r2,J,E⟩:=fh g M (fE L f).1 c;exact⟨r2,E⟩
    ·split at h
     ·rename_i f;cases h;obtain⟨a,o,rfl,K,hc,k⟩:=lN I hs L f;cases M;obtain⟨F,r2,J,E⟩:=vp K hc k g c;exact⟨F,J⟩
     ·cases h
   |none=>
    rw[hd,he]at h;dsimp only at h;unfold HU at h;split at h
    ·obtain⟨f1,f2⟩:=sJ h;obtain⟨g1,g2⟩:=fE L f1;have g3:=(fE B f2).1;rw[g2 e w B f2]at h;cases h;exact⟨jF M G g1 g3,Be M G g1 g3⟩
    ·rename_i Y _;split at h
     ·rename_i f;cases h;obtain⟨a,o,rfl,K,hc,k⟩:=lN I hs L Y;cases M;obtain⟨F,r2,J,E⟩:=rR K hc k G (fE B f).1 c;exact⟨F,J⟩
     ·cases h
    ·rename_i _ Z;split at h
     ·rename_i f;cases h;obtain⟨a,o,rfl,K,hc,k⟩:=lN I hs B Z;cases G;obtain⟨F,r2,J,E⟩:=rR K hc k M (fE L f).1 c;exact⟨r2,E⟩
     ·cases h
    ·cases h
end
def eO:Nat:=60
def oS:G2:=fun d e S=>(gr S eO d e).map fun b=>(.bl b,S)
section
variable{X:Cx}
theorem k4(l:X.A.units+64<cLine):gp X (compareOp .Eq) (r2 X.K (b2 oS)):=by
 intro pins s σ H x y u w Q I f i h;obtain⟨mu,S,d,e,r,k,j,r2,c,a,hc⟩:=ot h;obtain⟨b,g,a⟩:=oM1.mp a;cases a;exact(nw I c eO (by show _+60<cLine;lia) j r2 f i g).2 X.prog X.w X.xe _ ⟨.bl b,H,I,rfl,hc.now (.bl b) c⟩
end
end Mi
namespace Mi
open PySem PySem.Spec PyProof.Rows L2 SeqAt
open AutoSeq1 (wpAny_loadPart')
open MeetsSeq
section
variable{l:dE}{e:Array DictEntry}{n:Nat}{dd:Option dE}{sl:Array (Option dB)}
end
section
variable{A:dG}{s:dD}{a:dE}{o:Obj}
end
section
variable{X:Cx}{pins:List (dE×Obj)}{σ:L2.St}{H:Hp}{s:dD}{mu:List dE}{S:Sto}
end
def Jr:G2:=fun d e S=>(gr S eO d e).map fun b=>(.bl (!b),S)
def AQ(f:D->D->Option Bool)(x:D):List D->Option Bool
 |[]=>some false
 |y::ys=>(f y x).bind fun b=>(AQ f x ys).map fun c=>b||c
def FL:G2:=fun d e S=>(d5 S e).bind fun p=>(AQ (gr S eO) d p.2).map fun b=>(.bl b,S)
def lc:G2:=fun d e S=>(d5 S e).bind fun p=>(AQ (gr S eO) d p.2).map fun b=>(.bl (!b),S)
def oQ:D->Bool
 | .non=>true
 |_=>false
def IQ:G2:=fun d e S=>match e with
 | .non=>some (.bl (oQ d),S)
 |_=>none
def Cm:G2:=fun d e S=>match e with
 | .non=>some (.bl (!oQ d),S)
 |_=>none
section
variable{X:Cx}
theorem zR(f:D->D->Option Bool)(x:D):∀{ys:List D} {b:Bool},AQ f x ys=some b -> ∃bs:List Bool,bs.length=ys.length/\(∀(j:Nat) (y:D) (k:Bool),ys[j]?=some y->bs[j]?=some k->f y x=some k)/\b=bs.any id
 |[],b,h=>by cases h;exact⟨[],rfl,fun j y k h=>by simp at h,rfl⟩
 |y::ys,b,h=>by
  rw[AQ]at h;obtain⟨b1,m,h⟩:=oB1.mp h;obtain⟨b2,e,h⟩:=oM1.mp h;obtain⟨bs,g,i,a⟩:=zR f x e;refine⟨b1::bs,by simp[g],fun j l k c d=>?_,?_⟩
  ·cases j with
   |zero=>simp at c d;subst c;subst d;exact m
   |succ j=>exact i j l k (by simpa using c) (by simpa using d)
  ·rw[<- h,a];simp
open Classical in
theorem C4{pins:List (dE×Obj)}{σ:L2.St}{H:Hp}{s:dD}{mu:List dE}{S:Sto}(I:Inv X pins σ H s)(hs:Sim X.K H mu S){A:dG}(L:A.units+61<cLine){x:D}{v:V}{u:dB}(t:eJ X.K H mu x v)(C:d6 v u){ys:List D}{vs:List V}{a:List dB}{b:Bool}(n:d0 X.K H mu ys vs)(p:ei vs a)(h:AQ (gr S eO) x ys=some b):∃e:dB->Bool,(∀w∈a,SeqAt.EqAt A.in1 s w u (e w))/\a.any e=b:=by
 obtain⟨bs,J,F,rfl⟩:=zR _ x h;have M:=n.length;have K:=p.length;have at_:∀(j:Nat) w k,a[j]?=some w->bs[j]?=some k->SeqAt.EqAt A.in1 s w u k:=fun j w k g f=>by
  have m:j<a.length:=(gE1.mp g).1;obtain⟨y,E,r⟩:=n.getV (i:=j) (v:=vs[j]'(by lia)) (gG1 (by lia));obtain⟨G,q,r2⟩:=p.get (i:=j) (x:=vs[j]'(by lia)) (gG1 (by lia));rw[g]at q;cases q;exact(nw I hs eO (A:=A.in1) (by show A.units+1+60<cLine;lia) r t r2 C (F j y k E f)).1
 refine⟨fun w=>decide (∃j:Nat,a[j]?=some w/\bs[j]?=some true),fun w g=>?_,?_⟩
 ·by_cases z:∃j:Nat,a[j]?=some w/\bs[j]?=some true
  ·dsimp only;rw[decide_eq_true z];obtain⟨j,o,c⟩:=z;exact at_ j w true o c
  ·dsimp only;rw[decide_eq_false z];obtain⟨j,d⟩:=br g;have m:j<a.length:=(gE1.mp d).1;have l:j<bs.length:=by lia
   have c:=gG1 l;cases f:bs[j]with
   |true=>rw[f]at c;exact absurd ⟨j,d,c⟩ z
   |false=>rw[f]at c;exact at_ j w false d c
 ·rw[bS,bT,bT];constructor
  ·rintro⟨w,g,z⟩;obtain⟨j,o,c⟩:=of_decide_eq_true z;exact⟨true,gM1 c,rfl⟩
  ·rintro⟨k,f,z⟩;obtain⟨j,d⟩:=br f;have m:j<bs.length:=(gE1.mp d).1;have l:j<a.length:=by lia
   have B:k=true:=z;subst B;exact⟨a[j],bU l,decide_eq_true ⟨j,gG1 l,d⟩⟩
theorem IE(F:X.A.units+64<cLine):gp X (compareOp .In) (r2 X.K (b2 FL)):=by
 intro pins s σ H x y u w Q I p o h;obtain⟨mu,S,d,e,r,E,C,r2,k,i,hc⟩:=ot h;obtain⟨⟨D,ys⟩,z,i⟩:=oB1.mp i;obtain⟨b,n,i⟩:=oM1.mp i;cases i;obtain⟨a,vs,rfl,q,t⟩:=ev r2 k z;cases o;obtain⟨c,v,m,_⟩:=fb I q;obtain⟨f,l,B⟩:=C4 I k (A:=X.A) (by lia) C p t v n;have g:EP X pins σ Q (.bool (c.toArray.any f)) s:=⟨.bl b,H,I,by rw[show c.toArray.any f=c.any f by simp,B];rfl,hc.now (.bl b) k⟩;cases D
 ·exact SeqAt.in_tupleAt f m (fun y j=>l y (by simpa using j)) g
 ·exact SeqAt.in_listAt f m (fun y j=>l y (by simpa using j)) g
theorem BF(F:X.A.units+64<cLine):gp X (compareOp .NotIn) (r2 X.K (b2 lc)):=by
 intro pins s σ H x y u w Q I p o h;obtain⟨mu,S,d,e,r,E,C,r2,k,i,hc⟩:=ot h;obtain⟨⟨D,ys⟩,z,i⟩:=oB1.mp i;obtain⟨b,n,i⟩:=oM1.mp i;cases i;obtain⟨a,vs,rfl,q,t⟩:=ev r2 k z;cases o;obtain⟨c,v,m,_⟩:=fb I q;obtain⟨f,l,B⟩:=C4 I k (A:=X.A) (by lia) C p t v n;have g:EP X pins σ Q (.bool (!c.toArray.any f)) s:=⟨.bl (!b),H,I,by rw[show c.toArray.any f=c.any f by simp,B];rfl,hc.now (.bl _) k⟩;cases D
 ·exact SeqAt.notIn_tupleAt f m (fun y j=>l y (by simpa using j)) g
 ·exact SeqAt.notIn_listAt f m (fun y j=>l y (by simpa using j)) g
theorem vw{K:Fg1}{H:Hp}{mu:List dE}{d:D}{v:V}(r:eJ K H mu d v):oQ d=decide (v = .non):=by
 cases r<;>simp[oQ]
theorem Gz:gp X (compareOp .Is) (r2 X.K (b2 IQ)):=by
 intro pins s σ H x y u w Q I b f h;obtain⟨mu,S,d,e,r,i,g,r2,c,a,hc⟩:=ot h;cases e with
 |non=>
  cases a;cases r2;refine Ej pins s σ H _ _ u w Q I b f ⟨rfl,?_⟩;rw[<- vw g];exact hc.now (.bl _) c
 |_=>cases a
theorem Eo:gp X (compareOp .IsNot) (r2 X.K (b2 Cm)):=by
 intro pins s σ H x y u w Q I b f h;obtain⟨mu,S,d,e,r,i,g,r2,c,a,hc⟩:=ot h;cases e with
 |non=>
  cases a;cases r2;refine BA pins s σ H _ _ u w Q I b f ⟨rfl,?_⟩;rw[<- vw g];exact hc.now (.bl _) c
 |_=>cases a
end
def eS:G1:=fun d S=>match d with
 | .str x=>if x.length<=dL then some (.int x.length,S)else none
 |_=>(d5 S d).map fun p=>(.int p.2.length,S)
def zZ:G2:=fun d e S=>match e with
 | .int i=>(d5 S d).bind fun p=>(tE p.2 i).map fun x=>(x,S)
 |_=>none
def gTup:G1:=fun d S=>(d5 S d).map fun p=>(.tup p.2,S)
def jE:G3:=fun o i v S=>match o,i with
 | .ref n,.int k=>match S[n]? with
  |some (.lst xs)=>(vH xs.length k).map fun j=>(.non,S.set n (.lst (xs.set j v)))
  |_=>none
 |_,_=>none
def nU:G1:=fun d S=>match d with
 | .int i=>some (.int i,S)
 | .bl b=>some (.int (if b then 1 else 0),S)
 |_=>none
def Ci:G2:=fun d e S=>match d,e with
 | .int i,.int j=>some (.int (if j>i then j else i),S)
 |_,_=>none
def Ch:G2:=fun d e S=>match d,e with
 | .int i,.int j=>some (.int (if j<i then j else i),S)
 |_,_=>none
section
variable{X:Cx}
theorem fy:fj X (.builtin "len") (rN X.K (b1 eS)):=by
 intro pins s σ H xs f Q I r h;obtain⟨x,mu,S,d,l,k,rfl,g,e,c,hc⟩:=DO h;unfold eS at c;split at c
 ·split at c
  ·rename_i z i;cases c;cases g;exact qB pins s σ H _ f Q I r ⟨_,rfl,i,hc.now (.int _) e⟩
  ·cases c
 ·obtain⟨⟨b,ys⟩,j,c⟩:=oM1.mp c;cases c;obtain⟨a,vs,rfl,q,t⟩:=ev g e j;refine qC pins s σ H _ f Q I r ⟨a,vs,rfl,?_,?_⟩
  ·cases b
   ·exact .inr q
   ·exact .inl q
  ·rw[<- t.length];exact hc.now (.int _) e
theorem CH{K:Fg1}{H:Hp}{mu:List dE}{ds:List D}{vs:List V}{i:Int}{d:D}(t:d0 K H mu ds vs)(h:tE ds i=some d):∃v,tE vs i=some v/\eJ K H mu d v:=by
 unfold tE at h ⊢;rw[<- t.length];obtain⟨j,c,h⟩:=oB1.mp h;obtain⟨v,b,a⟩:=t.get h;exact⟨v,by rw[c];exact b,a⟩
theorem H7:Dg X (r2 X.K (b2 zZ)):=by
 intro value c pins s σ H x y v u Q I n m h g;obtain⟨mu,S,d,e,r,B,w,r2,j,f,hc⟩:=ot h;cases e with
 |int i=>
  obtain⟨⟨b,ys⟩,A,f⟩:=oB1.mp f;obtain⟨z,p,f⟩:=oM1.mp f;cases f;cases r2;obtain⟨a,vs,rfl,q,t⟩:=ev w j A;obtain⟨k,o,l⟩:=CH t p;cases b
  ·exact E9 value c pins s σ H _ _ v u Q I n m ⟨a,vs,i,k,rfl,rfl,q,o,hc.now l j⟩ g
  ·exact B6 value c pins s σ H _ _ v u Q I n m ⟨a,vs,i,k,rfl,rfl,q,o,hc.now l j⟩ g
 |_=>cases f
theorem e9:fj X (.type "tuple") (rN X.K (b1 gTup)):=by
 intro pins s σ H xs g Q I r h;obtain⟨x,mu,S,d,m,k,rfl,i,e,f,hc⟩:=DO h;obtain⟨⟨b,ys⟩,j,f⟩:=oM1.mp f;cases f;obtain⟨a,vs,rfl,q,t⟩:=ev i e j;refine nZ pins s σ H _ g Q I r ⟨a,vs,rfl,?_⟩;cases b
 ·exact .inr ⟨q,hc.now (.tup q t) e⟩
 ·exact .inl ⟨q,fun l c=>hc _ _ mu (Ext.fresh c) (.tup (jl.of d3) (t.ext (Ext.fresh c))) (e.fresh c)⟩
theorem Ge:uO X (rU X.K (b3 jE)):=by
 intro pins s σ H o i v w x u Q I p g z h;obtain⟨mu,S,ds,d,F,B,f,a,hc⟩:=h;cases B with
 |cons r l=>cases l with
  |cons y C=>cases C with
   |cons A q=>
    cases q;rename_i D E G;dsimp only[b3]at a;unfold jE at a;split at a
    ·rename_i n k;split at a
     ·rename_i xs e;obtain⟨j,m,a⟩:=oM1.mp a;cases a;cases r with
      |ref c=>
       cases y;obtain⟨vs,b,t⟩:=f.lst e c;refine yx pins s σ H _ _ v w x u Q I p g z ⟨_,vs,k,j,rfl,rfl,b,by rw[<- t.length];exact m,?_⟩;exact hc _ mu (Ext.put b trivial (gM1 c)) (f.putL (t.set A j) c b)
     ·cases a
    ·cases a
theorem wb:fj X (.type "int") (rN X.K (b1 nU)):=by
 intro pins s σ H xs c Q I r h;obtain⟨x,mu,S,d,j,g,rfl,f,e,a,hc⟩:=DO h;cases d with
 |int i=>cases a;cases f;exact pf pins s σ H _ c Q I r (.inl ⟨i,rfl,hc.now (.int _) e⟩)
 |bl b=>cases a;cases f;exact pf pins s σ H _ c Q I r (.inr ⟨b,rfl,hc.now (.int _) e⟩)
 |_=>cases a
theorem Hn(hc:X.calm=true):fj X (.builtin "max") (rN X.K (b2 Ci)):=by
 intro pins s σ H xs c Q I r h;obtain⟨x,y,mu,S,d,e,j,i,rfl,g,r2,f,a,b⟩:=yC h;unfold Ci at a;split at a
 ·cases a;cases g;cases r2;exact xC hc pins s σ H _ c Q I r ⟨_,_,rfl,b.now (.int _) f⟩
 ·cases a
theorem Hm(hc:X.calm=true):fj X (.builtin "min") (rN X.K (b2 Ch)):=by
 intro pins s σ H xs c Q I r h;obtain⟨x,y,mu,S,d,e,j,i,rfl,g,r2,f,a,b⟩:=yC h;unfold Ch at a;split at a
 ·cases a;cases g;cases r2;exact xB hc pins s σ H _ c Q I r ⟨_,_,rfl,b.now (.int _) f⟩
 ·cases a
end
open PySem.SeqAt
open PySem.AutoSeq1 (wpAny_loadPart')
open PySem.MeetsSeq PySem.MeetsSeq2 PySem.MeetsSeq3
def AK(A:dG)(s:dD)(y x:dB)(b:Bool):Prop:=∀(prog:dF) (w:dH) (E:dB->dD->Prop) (Q:dB->dD->Prop),Q (.bool b) s->dM (model prog w) A (richCompare .Lt y x) Q E s
inductive tu (A:dG)(s:dD):List dB->List dB->Bool->Prop
 |nn:tu A s [] [] false
 |nc (y:dB) (ys:List dB):tu A s [] (y::ys) true
 |cn (x:dB) (xs:List dB):tu A s (x::xs) [] false
 |eq {x y:dB} {xs ys:List dB} {k:Bool} (e:EqAt A.in1 s x y true) (t:tu A s xs ys k):tu A s (x::xs) (y::ys) k
 |lt {x y:dB} {xs ys:List dB} {k:Bool} (e:EqAt A.in1 s x y false) (t:AK A.in1 s x y k):tu A s (x::xs) (y::ys) k
theorem Dr(l b:dE)(items items2:Array dB)(n D:Nat)(dd r:Option dE)(sl q:Array (Option dB))(c:Bool):
  Meets (Builtin.«tuple.__lt__» ⟨[.ref l,.ref b],[]⟩) (fun A R s=>s.heap.get? l=some {cls:=.type "tuple",dict:=dd,data:=.seq items n,slots:=sl}/\s.heap.get? b=some {cls:=.type "tuple",dict:=r,data:=.seq items2 D,slots:=q} /\
    tu A s items.toList items2.toList c/\R (.ok (.ret (.bool c))) s):=
 .of_wp fun prog w A R s h=>by
  obtain⟨u,g,d,tk,v⟩:=s;obtain⟨B,F,C,h⟩:=h;have G:=AutoSeq1.sub_tuple_tuple
  wp_walk using wpAny_loadPart' B,wpAny_loadPart' F,wpAny_forIn_list _ (fun rest b s'=>b.1=none/\s'=⟨u,g,d,tk,v⟩ /\ ∃vs ws:List dB,rest=vs.zip ws/\tu A ⟨u,g,d,tk,v⟩ vs ws c/\vs.length+items2.size=ws.length+items.size) _
  case turn=>
   rintro⟨y,x⟩ rest b s' ⟨j,rfl,vs,ws,f,p,a⟩;cases p with
   |nn=>cases f
   |nc _ _=>cases f
   |cn _ _=>cases f
   |eq e t=>
    rw[bV]at f;injection f with k i;injection k with m o;subst m o
    simp only[lC1]at a;refine wB1 (e prog w _ _ ?_)
    wp_walk
    exact⟨rfl,rfl,_,_,i,t,by lia⟩
   |lt e t=>
    rw[bV]at f;injection f with k i;injection k with m o;subst m o
    refine wB1 (e prog w _ _ ?_);have z:=t prog w
    wp_walk using z
    exact⟨_,rfl,by simpa using h⟩
  case fin=>
   rintro⟨b1,b2⟩ s' ⟨j,rfl,vs,ws,f,p,a⟩;simp only at j;subst j;have E:c=decide (items.size<items2.size):=by
    cases p with
    |nn=>simp only[bf]at a;exact(decide_eq_false (by lia)).symm
    |nc _ _=>simp only[bf,lC1]at a;exact(decide_eq_true (by lia)).symm
    |cn _ _=>simp only[bf,lC1]at a;exact(decide_eq_false (by lia)).symm
    |eq _ _=>rw[bV]at f;cases f
    |lt _ _=>rw[bV]at f;cases f
   rw[E]at h
   wp_walk
   exact⟨_,rfl,by simpa[Builtin.Tuple.tupleCompareSizes]using h⟩
  case h=>exact⟨rfl,rfl,items.toList,items2.toList,rfl,C,by simp;lia⟩
theorem zF(l b:dE)(items items2:Array dB)(n G:Nat)(dd B:Option dE)(sl v:Array (Option dB))(c:Bool)(k:Nat):
  ∀i:Nat,items.size-i=k->i<=items.size->i<=items2.size->Meets (Builtin.«list.__eq__.loop» ⟨[.ref l,.ref b,rawInt i,rawInt 0],[]⟩)
   (fun A R s=>s.heap.get? l=some {cls:=.type "list",dict:=dd,data:=.seq items n,slots:=sl}/\s.heap.get? b=some {cls:=.type "list",dict:=B,data:=.seq items2 G,slots:=v} /\
    tu A s (items.toList.drop i) (items2.toList.drop i) c/\R (.ok (.ret (.bool c))) s):=by
 induction k with
 |zero=>
  intro i H z x prog w A R s h;obtain⟨C,g,d,tk,E⟩:=s;obtain⟨f,m,a,h⟩:=h
  wp_walk using wpAny_loadPart' f,wpAny_loadPart' m
  have o:items[((i:Nat):Int).toNat]?=none:=by simp;lia
  have r:items.toList.drop i=[]:=by simp;lia
  rw[r]at a;rw[o]
  wp_walk using wpAny_loadPart' f,wpAny_loadPart' m
  have I:c=decide (items.size<items2.size):=by
   cases h2:items2.toList.drop i with
   |nil=>
    rw[h2]at a;cases a;have:=congrArg List.length h2;simp at this;exact(decide_eq_false (by lia)).symm
   |cons y ys=>
    rw[h2]at a;cases a;have:=congrArg List.length h2;simp at this;exact(decide_eq_true (by lia)).symm
  show R (.ok (.ret (.bool (decide (items.size<items2.size))))) _;rw[<- I];exact h
 |succ k ih=>
  intro i H z x prog w A R s h;obtain⟨C,g,d,tk,E⟩:=s;obtain⟨f,m,a,h⟩:=h;have p:i<items.size:=by lia
  have r:items.toList.drop i=items[i]::items.toList.drop (i+1):=by simp[bW,p]
  have o:items[((i:Nat):Int).toNat]?=some items[i]:=by simp[p]
  have hc:((i:Int)+1)=((i+1:Nat):Int):=by push_cast;rfl
  rw[r]at a;rcases bX i items2.size with j|F
  ·have u:items2.toList.drop i=items2[i]::items2.toList.drop (i+1):=by simp[bW,j]
   have q:items2[((i:Nat):Int).toNat]?=some items2[i]:=by simp[j]
   rw[u]at a
   wp_walk using wpAny_loadPart' f,wpAny_loadPart' m
   rw[o,q];cases a with
   |eq e t=>
    refine wB1 (e prog w _ _ ?_)
    wp_walk
    rw[hc];exact⟨plainId_quiet plain_eq_loop _,wD1 entry_eq_loop (by rw[Around.under_plainId plain_eq_loop _];exact ih (i+1) (by lia) (by lia) (by lia) prog w A R _ ⟨f,m,t,h⟩)⟩
   |lt e t=>
    refine wB1 (e prog w _ _ ?_);have D:=t prog w
    wp_walk using wpAny_loadPart' f,wpAny_loadPart' m
    rw[o,q]
    wp_walk using D
    simpa using h
  ·have q:items2[((i:Nat):Int).toNat]?=none:=by simp;lia
   have u:items2.toList.drop i=[]:=by simp;lia
   rw[u]at a;cases a
   wp_walk using wpAny_loadPart' f,wpAny_loadPart' m
   rw[o,q]
   wp_walk using wpAny_loadPart' f,wpAny_loadPart' m
   show R (.ok (.ret (.bool (decide (items.size<items2.size))))) _;rw[decide_eq_false (by lia)];exact h
theorem ET(l b:dE)(items items2:Array dB)(n j:Nat)(dd a:Option dE)(sl e:Array (Option dB))(c:Bool):
  Meets (Builtin.«list.__lt__» ⟨[.ref l,.ref b],[]⟩) (fun A R s=>s.heap.get? l=some {cls:=.type "list",dict:=dd,data:=.seq items n,slots:=sl}/\s.heap.get? b=some {cls:=.type "list",dict:=a,data:=.seq items2 j,slots:=e} /\
    tu A s items.toList items2.toList c/\R (.ok (.ret (.bool c))) s):=by
 intro prog w A R s h;obtain⟨o,g,d,tk,p⟩:=s;obtain⟨f,i,k,h⟩:=h;have m:=AutoSeq1.sub_list_list
 wp_walk using wpAny_loadPart' f,wpAny_loadPart' i
 exact⟨plainId_quiet plain_eq_loop _,wD1 entry_eq_loop (by rw[Around.under_plainId plain_eq_loop _];exact zF l b items items2 n j dd a sl e c _ 0 rfl (bi _) (bi _) prog w A R _ ⟨f,i,by simpa using k,h⟩)⟩
theorem DJ{A:dG}{s:dD}{k:Bool}{l b:dE}{xs ys:Array dB}{c:Bool}(u:SCo k s.heap l xs)(y:SCo k s.heap b ys)(v:A.units<cLine)(h:tu A s xs.toList ys.toList c):AK A s (.ref l) (.ref b) c:=fun prog w E Q q=>by
 cases k
 ·obtain⟨⟨t,dd,o,sl⟩,p,hc,n,m⟩:=id u;obtain⟨⟨j,f,i,g⟩,e,a,r,d⟩:=id y;simp only at hc m a d;subst hc m a d;exact richCompare_meets_room (op:=.Lt) ⟨_,p,rfl⟩ ⟨_,e,rfl⟩ PySem.F.slot_tuple_lt PySem.F.entry_tuple_lt (PySem.F.args_tuple_lt_2 _ _) (Dr l b xs ys n r dd f sl g c) ⟨p,e,h,show Value.bool c≠Value.notImplemented/\Q (.bool c) s from⟨(fun x=>nomatch x),q⟩⟩ v
 ·obtain⟨⟨t,dd,o,sl⟩,p,hc,n,m⟩:=id u;obtain⟨⟨j,f,i,g⟩,e,a,r,d⟩:=id y;simp only at hc m a d;subst hc m a d;exact richCompare_meets_room (op:=.Lt) ⟨_,p,rfl⟩ ⟨_,e,rfl⟩ PySem.F.slot_list_lt PySem.F.entry_list_lt (PySem.F.args_list_lt_2 _ _) (ET l b xs ys n r dd f sl g c) ⟨p,e,h,show Value.bool c≠Value.notImplemented/\Q (.bool c) s from⟨(fun x=>nomatch x),q⟩⟩ v
def nR(f g:D->D->Option Bool):List D->List D->Option Bool
 |[],[]=>some false
 |[],_::_=>some true
 |_::_,[]=>some false
 |x::xs,y::ys=>(f x y).bind fun b=>if b=true then nR f g xs ys else g x y
def HN:D->D->Option Bool
 | .int i,.int j=>some (decide (i<j))
 | .str x,.str y=>some (decide (x.cps.toList<y.cps.toList))
 |_,_=>none
def jI(S:Sto):Nat->D->D->Option Bool
 |0,_,_=>none
 |n+1,d,e=>match HN d e with
  |some b=>some b
  |none=>match d5 S d,d5 S e with
   |some p,some q=>if p.1=q.1 then nR (gr S n) (jI S n) p.2 q.2 else none
   |_,_=>none
def xL:G2:=fun d e S=>(jI S eO d e).map fun b=>(.bl b,S)
section
variable{X:Cx}{pins:List (dE×Obj)}{σ:L2.St}{H:Hp}{s:dD}{mu:List dE}{S:Sto}
theorem zE(I:Inv X pins σ H s)(hs:Sim X.K H mu S){n:Nat}{A:dG}(o:A.units+1+n<cLine)(ih:∀ {d e:D} {v w:V} {u z:dB} {b:Bool},eJ X.K H mu d v->eJ X.K H mu e w->d6 v u->d6 w z->jI S n d e=some b->AK A.in1 s u z b):
  ∀{xs ys:List D} {vs ws:List V} {f zs:List dB} {b:Bool},d0 X.K H mu xs vs->d0 X.K H mu ys ws->ei vs f->ei ws zs->nR (gr S n) (jI S n) xs ys=some b->tu A s f zs b
 :=by
 intro xs
 induction xs with
 |nil=>
  intro ys vs ws f zs b a r2 g c h;cases a;cases g;cases r2 with
  |nil=>cases c;cases h;exact .nn
  |cons _ _=>cases c;cases h;exact .nc _ _
 |cons x xs l=>
  intro ys vs ws f zs b a r2 g c h;cases a with
  |cons a q=>
   cases g with
   |cons j m=>
    cases r2 with
    |nil=>cases c;cases h;exact .cn _ _
    |cons r2 p=>
     cases c with
     |cons i p2=>
      rw[nR]at h;obtain⟨k,r,h⟩:=oB1.mp h;have eq:=(nw I hs n (A:=A.in1) o a r2 j i r).1;cases k with
      |true=>exact .eq eq (l q p m p2 h)
      |false=>exact .lt eq (ih a r2 j i h)
theorem uq(I:Inv X pins σ H s)(hs:Sim X.K H mu S):∀(n:Nat) {A:dG} {d e:D} {v w:V} {u z:dB} {b:Bool},A.units+n<cLine->eJ X.K H mu d v->eJ X.K H mu e w->d6 v u->d6 w z->jI S n d e=some b->AK A s u z b
 |0,_,_,_,_,_,_,_,_,_,_,_,_,_,h=>by cases h
 |n + 1,A,d,e,v,w,u,z,b,W,o,f,r,j,h=>by
  rw[jI]at h;split at h
  ·rename_i k c;cases h;unfold HN at c;split at c
   ·cases c;cases o;cases f;obtain⟨t,rfl⟩:=r;obtain⟨g,rfl⟩:=j;exact fun prog w E Q q=>(PyProof.Rows.lt_int q:dM (model prog w) A (compareOp .Lt (.int _ t) (.int _ g)) Q E s)
   ·cases c;cases o;cases f;obtain⟨t,rfl⟩:=r;obtain⟨g,rfl⟩:=j;exact fun prog w E Q q=>(PyProof.Rows.lt_str q:dM (model prog w) A (compareOp .Lt (.str _ t) (.str _ g)) Q E s)
   ·cases c
  ·split at h
   ·rename_i p q M F;split at h
    ·rename_i R;obtain⟨K,xs⟩:=p;obtain⟨qb,ys⟩:=q;have i:K=qb:=R;subst i;obtain⟨a,vs,rfl,L,B⟩:=ev o hs M;obtain⟨a2,G,rfl,O,T⟩:=ev f hs F;cases r;cases j;obtain⟨N,P,J,_⟩:=fb I L;obtain⟨x,l,m,_⟩:=fb I O;refine DJ J m (by lia) ?_;have:=zE I hs (A:=A) (n:=n) (by lia) (fun C r2 U y h=>uq I hs n (A:=A.in1) (by show A.units+1+n<cLine;lia) C r2 U y h) B T P l h;simpa using this
    ·cases h
   ·cases h
theorem lG(l:X.A.units+64<cLine):gp X (compareOp .Lt) (r2 X.K (b2 xL)):=by
 intro pins s σ H x y u w Q I f i h;obtain⟨mu,S,d,e,r,k,j,r2,c,a,hc⟩:=ot h;obtain⟨b,g,a⟩:=oM1.mp a;cases a;exact uq I c eO (by show _+60<cLine;lia) j r2 f i g X.prog X.w X.xe _ ⟨.bl b,H,I,rfl,hc.now (.bl b) c⟩
end
inductive Ty where
 |int|bool|str|tuple|list|dict
 deriving DecidableEq
def Ty.nm:Ty->String
 | .int=>"int" | .bool=>"bool" | .str=>"str" | .tuple=>"tuple" | .list=>"list" | .dict=>"dict"
noncomputable def Kb (S:Sto)(T:Ty):D->Option Bool
 | .non=>some false
 | .bl _=>some (decide (T = .bool)||decide (T = .int))
 | .int _=>some (decide (T = .int))
 | .str _=>some (decide (T = .str))
 | .tup _=>some (decide (T = .tuple))
 | .rol _=>some (decide (T = .list))
 | .ref n=>match S[n]? with
  |some (.lst _)=>some (decide (T = .list))
  |some (.dct _)=>some (decide (T = .dict))
  |some (.dcT _)=>some (decide (T = .dict))
  |_=>none
 | .fn _=>none
section
variable{X:Cx}{pins:List (dE×Obj)}{σ:L2.St}{H:Hp}{s:dD}{mu:List dE}{S:Sto}{K:Fg1}
end
abbrev FO:=Ev->Sto->Option (Option Int×Sto)
def JG(K:Fg1)(m:FO):TO:=fun σ H Q=>∃r mu S o S',fJ K H mu r σ/\Sim K H mu S/\m r S=some (o,S') /\ ∀H' mu',Ext mu mu' H H'->Sim K H' mu' S'->Q o H'
abbrev MO(X:Cx)(e:Option Expr)(m:FO):Prop:=PO X e (JG X.K m)
def mY:FO:=fun _ S=>some (none,S)
def rS(m:FE):FO:=fun r S=>(m r S).bind fun p=>match p.1 with
 | .int i=>some (some i,p.2)
 |_=>none
def sT(xs:List D)(lo hi:Option Int):List D:=(xs.drop (HT.sIx xs.length 0 lo)).take (HT.sIx xs.length xs.length hi-HT.sIx xs.length 0 lo)
section
variable{X:Cx}
theorem BO:MO X none mY:=by
 rintro pins s σ H Q I ⟨r,mu,S,o,d,c,b,a,hc⟩;cases a;exact Bq pins s σ H Q I (hc H mu (.refl _ _) b)
theorem BN{e:Expr}{m:FE}(h:ME X e m):MO X (some e) (rS m):=by
 rintro pins s σ H Q I ⟨r,mu,S,o,l,b,g,a,hc⟩;obtain⟨⟨d,n⟩,k,a⟩:=oB1.mp a;cases d with
 |int i=>
  cases a;refine Bp h pins s σ H Q I ⟨r,mu,S,_,_,b,g,k,fun v H1 mu1 f j c=>?_⟩;cases j;exact⟨i,rfl,hc H1 mu1 f c⟩
 |_=>cases a
theorem v6{K:Fg1}{H:Hp}{mu:List dE}{ds:List D}{vs:List V}(t:d0 K H mu ds vs)(lo hi:Option Int):d0 K H mu (sT ds lo hi) (sS vs lo hi):=by
 unfold sT sS;rw[<- t.length];exact(t.drop _).take _
def F2(ta:TA):TE:=fun σ H Q=>ta σ H fun vs H1=>∃j:Int,vs=[.int j] /\ ∀p,H1 p=none->Q (.ref p) (upd H1 p (.rng 0 j))
theorem oz {a:Expr}{ta:TA}{p pos:Pos}(hg:Gl X "range")(hm:X.mg "range"=none)(ha:PA X [a] ta)(hs:dJ [a] X.env=[(false,eval a X.env)]:=by rfl):PE X (.Call (.Name "range" p) [a] [] pos) (F2 ta):=by
 intro pins s σ H Q I h;refine Call_ (jD I hg hm boot_range (PyProof.Rows.callWith_type1 (fg (ha pos pins s σ H _ I h) fun k d ⟨vs,H1,c,i,f⟩=>?_) hs rfl));obtain⟨j,e,q⟩:=f;subst e;cases i with
 |cons r g=>
  cases g;obtain⟨t,rfl⟩:=r;refine call_range_1 ⟨.ref d.heap.objs.size,_,c.laid (fun b o e=>hP1 _ e) (nR1 _) (o:=.rng 0 j) ?_,rfl,q _ (c.hok.fresh (nR1 _))⟩;exact⟨_,_,_,hS1 _ rfl⟩
def jm(i:Int):Nat->List V
 |0=>[]
 |n+1=>.int i::jm (i+1) n
theorem iP:∀(n:Nat) (i:Int),(jm i n).length=n
 |0,_=>rfl
 |n+1,i=>by rw[jm,lC1,iP n]
theorem mL:∀(n:Nat) (i:Int) (k:Nat) (v:V),(jm i n)[k]?=some v->v = .int (i+k)
 |0,i,k,v,h=>by simp[jm]at h
 |n+1,i,0,v,h=>by simp[jm]at h;rw[<- h];simp
 |n+1,i,k+1,v,h=>by
  rw[jm,gC1]at h;rw[mL n (i+1) k v h,show i+1+(k:Int)=i+((k+1:Nat):Int) by push_cast;lia]
theorem mK{K:Fg1}{H:Hp}{mu:List dE}:∀(n:Nat) (i:Int),d0 K H mu (gB i n) (jm i n)
 |0,_=>.nil
 |n+1,i=>.cons (.int i) (mK n (i+1))
theorem pI:∀{xs:List V} {a:List dB},xs.length=a.length->(∀(i:Nat) x u,xs[i]?=some x->a[i]?=some u->d6 x u)->ei xs a
 |[],[],_,_=>.nil
 |x::xs,u::a,h,f=>.cons (f 0 x u rfl rfl) (pI (by simpa using h) fun i y w h1 h2=>f (i+1) y w (by simpa using h1) (by simpa using h2))
 |[],_::_,h,_=>by simp at h
 |_::_,[],h,_=>by simp at h
theorem CA(hc:X.calm=true):fj X (.type "list") (fun xs H Q=>∃p i j,xs=[.ref p]/\H p=some (.rng i j)/\(-(2^62)<=i/\i<2^62 /\ -(2^62)<=j/\j<2^62)/\(j-i).toNat<=2^20 /\ ∀l,H l=none->Q (.ref l) (upd H l (.lst (jm i (j-i).toNat)))):=by
 intro pins s σ H xs F Q I r h;obtain⟨p,i,j,rfl,m,⟨h1,h2,B,A⟩,f,q⟩:=h;obtain⟨u,rfl,o⟩:=iJ r;cases o;obtain⟨t,u,v,e⟩:=I.hok p _ m;have D:(((j-i).toNat:Nat):Int)=Builtin.Range.rangeSize i j 1:=by rw[rangeSize_one];split<;>lia
 refine call_list_range (n:=(j-i).toNat) (I.ok.hd hc) e (small_one h1 h2 B A) D.symm (aC f (by decide)) fun h' tk a E y C hi=>?_;obtain⟨d,c⟩:=hi;have b:ei (jm i (j-i).toNat) a.toList:=pI (by rw[iP];simpa using d.symm) fun k x u z w=>by
  rw[mL _ _ _ _ z];obtain⟨g,rfl⟩:=c k u (by simpa using w);exact⟨g,by rw[Int.mul_one]⟩
 refine⟨.ref s.heap.objs.size,_,I.laid (t':=tk) y (nR1 _) (show eN X.prog X.w _ h' _ (.lst (jm i (j-i).toNat))from⟨?_,a.toList,E,b,by simpa using C⟩),rfl,q _ (I.hok.fresh (nR1 _))⟩;rw[iP];exact aC f (by decide)
def oo(i j:Int):Bool:=decide (-(2^62)<=i)&&decide (i<2^62)&&decide (-(2^62)<=j)&&decide (j<2^62)&&decide ((j-i).toNat<=2^20)
def zB(m:FA):FE:=fun r S=>(m r S).bind fun p=>match p.1 with
 |[.int j]=>if oo 0 j=true then some (.ref p.2.length,p.2++[.lst (gB 0 j.toNat)])else none
 |_=>none
theorem jX{i j:Int}(h:oo i j=true):(-(2^62)<=i/\i<2^62 /\ -(2^62)<=j/\j<2^62)/\(j-i).toNat<=2^20:=by
 unfold oo at h;simp only[bA1,decide_eq_true_eq]at h;obtain⟨⟨⟨⟨h1,h2⟩,c⟩,a⟩,b⟩:=h;exact⟨⟨h1,h2,c,a⟩,b⟩
theorem EU{K:Fg1}{mu:List dE}{H H1:Hp}{S1:Sto}{i j:Int}{Q:VK}{mu1:List dE}(c:Ext mu mu1 H H1)(b:Sim K H1 mu1 S1)(hc:n6 K mu H (.ref S1.length) (S1++[.lst (gB i (j-i).toNat)]) Q){p l:dE}(hp:H1 p=none)(a:upd H1 p (.rng i j) l=none):
  Q (.ref l) (upd (upd H1 p (.rng i j)) l (.lst (jm i (j-i).toNat))):=
 hc _ _ (mu1++[l]) ((c.trans (Ext.fresh hp)).trans (Ext.new_ a)) (.ref (fZ b.len l)) ((b.fresh hp).newL (mK _ _) a)
theorem wQ {a:Expr}{m:FA}{e p2 b c:Pos}(hc:X.calm=true)(hg:Gl X "range")(hm:X.mg "range"=none)(hg2:Gl X "list")(hm2:X.mg "list"=none)(ha:MA X [a] m)(hs:dJ [a] X.env=[(false,eval a X.env)]:=by rfl)
  (hs2:dJ [.Call (.Name "range" e) [a] [] b] X.env=[(false,eval (.Call (.Name "range" e) [a] [] b) X.env)]:=by rfl):ME X (.Call (.Name "list" p2) [.Call (.Name "range" e) [a] [] b] [] c) (zB m):=
 eU (jh (CA hc) hg2 hm2 (by decide+kernel) (j6 (oz hg hm ha hs) mS hs2) (by decide) (by decide) hs2) <| by
  rintro σ H Q ⟨r,mu,S,d,u,h,hs,hm,f⟩;obtain⟨⟨ds,w⟩,t,hm⟩:=oB1.mp hm;dsimp only at hm;split at hm
  ·rename_i j;split at hm
   ·rename_i g;cases hm;refine⟨r,mu,S,_,_,h,hs,t,fun vs H1 mu1 q s n=>?_⟩;obtain⟨v,rfl,o⟩:=jZ s;cases o;refine⟨j,rfl,fun p i=>⟨p,0,j,rfl,d3,(jX g).1,(jX g).2,fun l k=>EU q n (by rw[Int.sub_zero];exact f) i k⟩⟩
   ·cases hm
  ·cases hm
end
def jp:G2:=fun o v S=>match o with
 | .ref n=>match S[n]? with
  |some (.lst xs)=>if xs.length<dL then some (.non,S.set n (.lst (xs++[v])))else none
  |_=>none
 |_=>none
def zY:G2:=fun o i S=>match o,i with
 | .ref n,.int k=>match S[n]? with
  |some (.lst xs)=>if-(2^63)<=k/\k<2^63 then(vH xs.length k).bind fun j=>(xs[j]?).map fun y=>(y,S.set n (.lst (xs.eraseIdx j)))else none
  |_=>none
 |_,_=>none
noncomputable def oH (f:FN)(o:FE)(a:FA):FE:=fun r S=>(o r S).bind fun p=>match p.1 with
 | .ref n=>match p.2[n]? with
  |some (.lst _)=>(a r p.2).bind fun q=>f (p.1::q.1) q.2
  |_=>none
 |_=>none
section
variable{X:Cx}
theorem FY:Df X "list.append" (fun x xs H Q=>rN X.K (b2 jp) (x::xs) H Q):=by
 intro pins s σ H x xs v i Q I m l h;obtain⟨r,y,mu,S,d,e,q,p,g,o,r2,f,a,hc⟩:=yC h;cases g;cases d with
 |ref n=>
  rw[jp]at a;split at a
  ·rename_i ys j;split at a
   ·rename_i k;cases a;cases o with
    |ref b=>
     obtain⟨vs,c,t⟩:=f.lst j b;refine oF pins s σ H _ [y] v i Q I m l ⟨_,vs,y,rfl,rfl,c,by rw[<- t.length];exact k,?_⟩;exact hc _ _ mu (Ext.put c trivial (gM1 b)) .non (f.putL (t.append (.cons r2 .nil)) b c)
   ·cases a
  ·cases a
 |_=>cases a
theorem FW:Df X "list.pop" (fun x xs H Q=>rN X.K (b2 zY) (x::xs) H Q):=by
 intro pins s σ H x xs v o Q I r q h;obtain⟨F,y,mu,S,d,e,E,D,m,B,r2,g,a,hc⟩:=yC h;cases m;unfold zY at a;split at a
 ·rename_i n k;split at a
  ·rename_i ys p;split at a
   ·rename_i i;obtain⟨j,C,a⟩:=oB1.mp a;obtain⟨z,l,a⟩:=oM1.mp a;cases a;cases B with
    |ref c=>
     cases r2;obtain⟨vs,f,t⟩:=g.lst p c;obtain⟨w,A,b⟩:=t.get l;refine zp pins s σ H _ [.int k] v o Q I r q ⟨_,vs,k,j,w,rfl,rfl,f,i.1,i.2,?_,A,?_⟩
     ·rw[<- t.length];exact(ql C).1
     ·have x:=Ext.put (u:=.lst (vs.eraseIdx j)) f trivial (gM1 c);exact hc _ _ mu x (b.ext x) (g.putL (t.eraseIdx j) c f)
   ·cases a
  ·cases a
 ·cases a
theorem zw {o e:Expr}{es:List Expr}{m:FE}{a:FA}{f:FN}{name:Str}{apos cpos:Pos}{id:String}(slot:Slot "list" name id)(hty:typeOf (.builtin id)=pure (.type "method_descriptor"))(hm:Df X id (fun x xs H Q=>rN X.K f (x::xs) H Q))(ho:ME X o m)(ha:MA X (e::es) a)
  (hbase:attributeBase o name X.env (eval o X.env)=eval o X.env:=by rfl)
  (hfew:((backTo cpos (dJ (e::es) X.env)).all (fun x=> !x.1)&&(backToKw cpos (keywordEach [] X.env)).all (fun x=>x.1.isSome)&&decide ((e::es).length+([]:List Keyword).length+(if([]:List Keyword).isEmpty then 0 else 1)<30))=true:=by rfl)
  (hline:(apos.endLine == cpos.line)=true:=by rfl) (hs:dJ (e::es) X.env=(false,eval e X.env)::dJ es X.env:=by rfl) (hplain:(backTo cpos (dJ es X.env)).any (·.1)=false:=by rfl):
  ME X (.Call (.Attribute o name apos) (e::es) [] cpos) (oH f m a):=
 eU (Gr PySem.F.plainAttrs_list slot hty hm ho ha hbase hfew hline hs hplain) <| by
  rintro σ H Q ⟨r,mu,S,d,C,i,hs,hm,hc⟩;obtain⟨⟨g,p⟩,B,hm⟩:=oB1.mp hm;refine⟨r,mu,S,g,p,i,hs,B,fun v H1 mu1 q h j=>?_⟩;cases g with
  |ref n=>
   dsimp only at hm;split at hm
   ·rename_i xs w;obtain⟨⟨ds,l⟩,z,hm⟩:=oB1.mp hm;refine⟨?_,r,mu1,p,ds,l,i.ext q,j,z,fun vs H2 b k r2 y=>?_⟩
    ·cases h with
     |ref E=>
      obtain⟨vs,A,t⟩:=j.lst w E;exact .inl ⟨rfl,vs,lV.of A⟩
    ·exact⟨b,l,.ref n::ds,d,C,.cons (h.ext k) r2,y,hm,fun D u c s=>hc D u c ((q.trans k).trans s)⟩
   ·cases hm
  |_=>cases hm
end
theorem Bm{X:Cx}(hc:X.calm=true){elt tg iter:Expr}{ifs:List Expr}{rest:List Comprehension}{scope:dR}{pos l R:Pos}{y:Str}{i:Nat}{T:List Str}{keep:List Nat}{w:List (Str×dE)}{wi:TI}{g:TG}{ti:TT}{tb:dE->TS}{emit:dB->Env->Sem Unit}(V:swapsWith (.ListComp elt (⟨tg,iter,ifs,0⟩::rest) scope pos) (some (.Name y R)) l.line X.env=pure true)(eq:∀it t k,compTurn (.ListComp elt (⟨tg,iter,ifs,0⟩::rest) scope pos) 0 it t k=ri iter.pos tg ifs it k (emit t k) (.compLoop (.ListComp elt (⟨tg,iter,ifs,0⟩::rest) scope pos) 0 it t k))(C:FP X scope T keep)(G:i4 X.env.cells scope.names []=some w)(hi:PI X tg iter wi)(hb:∀s H d p,PG (cxC X scope w T keep s H d) tg g/\n3 (cxC X scope w T keep s H d) ifs ti/\PU (cxC X scope w T keep s H d) (emit (.ref p) (cxC X scope w T keep s H d).env) (tb p))(hN:X.N.Nodup)(hy:X.N[i]?=some y)(hx:uP X.env.scope y)(hf:X.fn y=true\/X.env.scope.names.lookup y=some .local)(hs:∀x,foldedSetIterable iter X.env x=pure x:=by intro _;rfl):
  PS X (.Assign [.Name y R] (.ListComp elt (⟨tg,iter,ifs,0⟩::rest) scope pos) l) (yo (u4 T.length keep wi g ti tb) (vO i)):=by
 intro pins s σ H D I h;rw[exec_Assign_Name_used _ _ _ _ V];refine wB1 (wpAny_standAt (wB1 ?_));show dM _ X.A (do let _<-comprehension (.ListComp elt (⟨tg,iter,ifs,0⟩::rest) scope pos) scope X.env _ (newList []) false (eval iter X.env) (some (assign (.Name y R) X.env))) _ _ s;refine wB1 (wpAny_mono (wpAny_comprehension_free (use:=some (assign (.Name y R) X.env)) (Q:=fun _ s'=>SP X pins D .next s') rfl hs (Ax G) C.kind C.names ?_) (fun _ s' hq=>wP1 (wP1 hq)) fun _ _ e=>e);refine fg (hi pins s σ H _ I h) fun v s1 h1=>fg h1 fun itv a h2=>?_;obtain⟨it,d,tn,J,H2,rfl,I2,TT,L,f2,q2⟩:=h2;refine wO1 ?_;have u:Inv X pins σ (upd H2 a.heap.objs.size (.lst [])) {a with heap:=a.heap.push {cls:=.type "list",data:=.seq ([]:List dB).toArray}}:=I2.lnew (t':=a.toks) .nil (bi _);have old:∀b∈d,∃o,a.heap.get? b=some o:=fun b hb=>by
  obtain⟨o,e,_⟩:=TT.obj 0 a.heap L b hb;exact⟨o,e⟩
 have U:∀b∈d,b≠a.heap.objs.size:=fun b hb z=>by
  obtain⟨o,e⟩:=old b hb;have:=hL1 e;rw[z]at this;exact az _ this
 have O:∀b∈d,jr X pins (upd H2 a.heap.objs.size (.lst [])) b:=fun b hb=>⟨by rw[dY (U b hb)];exact(f2 b hb).1,(f2 b hb).2⟩;have o3:∀b∈d,∃o,({a with heap:=a.heap.push {cls:=.type "list",data:=.seq ([]:List dB).toArray}}:dD).heap.get? b=some o:=fun b hb=>by
  obtain⟨o,e⟩:=old b hb;exact⟨o,hP1 _ e⟩
 have P:=sx u C G O o3;obtain⟨hg,S,he⟩:=hb {a with heap:=a.heap.push {cls:=.type "list",data:=.seq ([]:List dB).toArray}} (upd H2 a.heap.objs.size (.lst [])) d a.heap.objs.size;refine jx ?_;have f4:∀b∈d,jr (cxC X scope w T keep {a with heap:=a.heap.push {cls:=.type "list",data:=.seq ([]:List dB).toArray}} (upd H2 a.heap.objs.size (.lst [])) d) [] (upd H2 a.heap.objs.size (.lst [])) b:=fun b hb=>
  ⟨(O b hb).1,(P.ok.exf b hb).1,P.ok.exfs b hb,.inl hb,(P.ok.exf b hb).2,fun p E=>absurd (show p∈([]:List (dE×Obj))from E) (by simp)⟩
 have M:tn 0 (pushCells ((a.heap.push {cls:=.type "list",data:=.seq ([]:List dB).toArray}).push {cls:=.type "dict",data:=.dict #[]}) scope.names):=
  TT.keep 0 a.heap _ L fun b hb o e=>pushCells_keeps scope.names _ b o (hP1 _ (hP1 _ e))
 have n:=o4 (X:=cxC X scope w T keep {a with heap:=a.heap.push {cls:=.type "list",data:=.seq ([]:List dB).toArray}} (upd H2 a.heap.objs.size (.lst [])) d) rfl hc (eq (.ref it) (.ref a.heap.objs.size) _) TT hg S he P M f4
  (q2 a.heap.objs.size (I2.hok.fresh (nR1 _)))
 refine codeAny_mono (codeAny_compStart_list n (TT.self X.A 0 _ _ _ M n)) fun r s' hr=>?_;cases r with
 |error e=>exact hr.elim
 |ok f=>
  obtain⟨σ',H',B,q'⟩:=hr;have J1:Inv X pins σ H' s':=u.call' (s':=s') (ch:=d) B.os B.base B.hok B.bare fun b hb=>(O b hb).2.2.2 |> fun z=>⟨z.1,(O b hb).2.1,z.2.1,z.2.2⟩
  -- the block's own dict is kept aside
  obtain⟨m,hn,_⟩:=id B.loc;obtain⟨N,es,ep,eC,dC,rC⟩:=id hn;have hCz:(a.heap.push {cls:=.type "list",data:=.seq ([]:List dB).toArray}).get? (a.heap.push {cls:=.type "list",data:=.seq ([]:List dB).toArray}).objs.size=none:=Heap.get?_none_of_le (nR1 _);have K:(a.heap.push {cls:=.type "list",data:=.seq ([]:List dB).toArray}).objs.size≠X.env.locals:=fun z=>by
   have:=u.lt;rw[<- z]at this;exact az _ this
  have Y:H' (a.heap.push {cls:=.type "list",data:=.seq ([]:List dB).toArray}).objs.size=none:=B.free;have J2:Inv X (pins++[((a.heap.push {cls:=.type "list",data:=.seq ([]:List dB).toArray}).objs.size,N)]) σ H' s':=J1.pins_of fun p E=>by
   rcases aG.mp E with z|z
   ·exact J1.pin p (mA1 _ z)
   ·have z':p=((a.heap.push {cls:=.type "list",data:=.seq ([]:List dB).toArray}).objs.size,N):=by simpa using z
    subst z';exact⟨eC,Y,K,u.nofs (nR1 _),fun v q=>by rw[dC]at q;cases q⟩
  refine fg (vh hN hy hx hf _ s' σ H' (.ref a.heap.objs.size) (.ref a.heap.objs.size) D.nx J2 rfl q') fun _ s5 ⟨F,H5,J5,q5⟩=>?_;obtain⟨e5,n5,_⟩:=J5.pin ((a.heap.push {cls:=.type "list",data:=.seq ([]:List dB).toArray}).objs.size,N) (mA1 _ (mA1 _ mS1));refine⟨m,⟨N,es,ep,e5,dC,rC⟩,fun h' W=>?_⟩;have J6:Inv X pins F H5 s5:=J5.unpinned;refine⟨F,H5,J6.turned (t':=s5.toks) (fun b o hb e=>(W.2 b hb).trans e) n5 K (.inr ?_) (fun x c A z=>?_) (fun p E z=>?_),q5⟩
  ·exact u.sz
  ·obtain⟨w',zc⟩:=u.cell x c A;have j:=zc.lt;rw[z]at j;exact az _ j
  ·obtain⟨Z,_⟩:=u.pin p E;have j:=hL1 Z;rw[z]at j;exact az _ j
section
variable{X:Cx}
theorem Fq{K:Fg1}{te:TE}{m:FE}{i:Nat}(hm:∀ σ H Q,tM K m σ H Q->te σ H Q){E:jt}{σ:L2.St}{H:Hp}(h:xK K (eh m (gN i)) E σ H):yo te (vO i) E σ H:=by
 obtain⟨r,mu,S,d,b,h1,h2,n,k⟩:=qi h;refine hm _ _ _ ⟨r,mu,S,d,b,h1,h2,n,fun v H' mu' g p e=>?_⟩;obtain⟨r2,a,s,u,t,q,l,c,f,o,j⟩:=k v H' mu' g p e;cases o;exact j _ H' a (.refl _ _) (l.set f) c
theorem mv (i:Nat){x:Str}{pos:Pos}(hN:X.N[i]? = some x:=by rfl)(hv:Vis X.env.scope x:=by first | exact Or.inl rfl | exact Or.inr (Or.inl rfl) | exact Or.inr (Or.inr rfl))(hd:(x == ("__debug__":Str))=false:=by decide)(hcd:(x == ("__classdict__":Str))=false:=by decide):
  ME X (.Name x pos) (mV i):=EJ i hN hv hd hcd
end
def fO(P:dF)(w:dH)(K:Fg1)(mg:Str->Option dB)(base:dN)(k:Nat)(x:Str)(n:Nat)(m:FN):Prop:=
 ∃(f:dE) (fd:dP) (ps:List Str),js P w K mg base tw k f fd ps (AO K n m)/\kS K fd ps []/\wK1 K (.ref f)=true/\mg x=some (.ref f)
theorem EM {X:Cx}{k k' n:Nat}{x:Str}{m:FN}{p pos:Pos}{e:Expr}{es:List Expr}{a:FA}(h:fO X.prog X.w X.K X.mg X.base k x n m)(hr:fN k' X.A)(hk:k<=k')(hg:Gl X x)(ha:MA X (e::es) a)(hdb:(x == ("__debug__":Str))=false:=by decide)
  (he:dJ (e::es) X.env=(false,eval e X.env)::dJ es X.env:=by rfl) (hpl:(backTo pos (dJ es X.env)).any (·.1)=false:=by rfl):ME X (.Call (.Name x p) (e::es) [] pos) (mN (dX n m) a):=by
 obtain⟨f,fd,ps,F,b,c,d⟩:=h;exact BW F (hr.mono hk) hg d c b ha hdb he hpl
theorem Ef{P:dF}{w:dH}{K:Fg1}{mg:Str->Option dB}{base:dN}{x a:Str}{st:dQ}{f:dE}{fd:dP}{N ps:List Str}{k n:Nat}{b:FS}(F:xO K x a st f fd)(hb:kS K fd ps [])(hm:mg x=some (.ref f))(S:gh N ps (ea st))(hn:ps.length=n)(c:∀(e:dB) (A:dG) (d:List Env) (s:dD) (H:Hp) (E:XK),fN k (A.deeper (envOfC a (ea st) s.heap.objs.size f e)) ->
   AL (lZ tw P w K mg base N a (ea st) f e A d s H E).nox (fq st) b):fO P w K mg base (k+1) x n (iC N.length b):=by
 subst hn;exact⟨f,fd,ps,G9 F S c,hb,F.kp,hm⟩
def CGl(K:Fg1)(mg:Str->Option dB)(x:Str)(d:D):Prop:=∃(v:V) (u:dB),mg x=some u/\d6 v u /\ ∀H mu,eJ K H mu d v
theorem BV {X:Cx}{x:Str}{d:D}{pos:Pos}(h:CGl X.K X.mg x d)(hg:Gl X x)(hd:(x == ("__debug__":Str))=false:=by decide):ME X (.Name x pos) (mC d):=by
 obtain⟨v,u,a,r,q⟩:=h;exact zy d (Bw hg a r hd) q
def CV(K:Fg1)(d:D)(u:dB):Prop:=∃v:V,d6 v u /\ ∀H mu,eJ K H mu d v
def H0(K:Fg1)(ds:List D)(us:List dB):Prop:=∃vs:List V,ei vs us /\ ∀H mu,d0 K H mu ds vs
section
variable{K:Fg1}
theorem qy{i:Int}{t}:CV K (.int i) (.int i t):=⟨.int i,⟨t,rfl⟩,fun _ _=>.int i⟩
theorem qx{x:Str}{t}:CV K (.str x) (.str x t):=⟨.str x,⟨t,rfl⟩,fun _ _=>.str x⟩
theorem kG:H0 K [] []:=⟨[],.nil,fun _ _=>.nil⟩
theorem fx{d:D}{u:dB}{ds:List D}{a:List dB}(h:CV K d u)(t:H0 K ds a):H0 K (d::ds) (u::a):=by
 obtain⟨v,r,q⟩:=h;obtain⟨vs,rs,b⟩:=t;exact⟨v::vs,.cons r rs,fun H mu=>.cons (q H mu) (b H mu)⟩
theorem nA {a:dE}{c:Option dE}{b:List dB}{n:Nat}{sl:Array (Option dB)}{ds:List D}(h:K.lookup a=some ⟨.type "tuple",c,.seq b.toArray n,sl⟩)(hs:b.length<=dL)(t:H0 K ds b):CV K (.tup ds) (.ref a):=by
 obtain⟨vs,rs,d⟩:=t;exact⟨.ref a,rfl,fun H mu=>.tup (.inr ⟨_,b.toArray,n,h,rfl,rfl,by simpa using hs,by simpa using rs⟩) (d H mu)⟩
theorem Fj{mg:Str->Option dB}{x:Str}{d:D}{u:dB}(hm:mg x=some u)(h:CV K d u):CGl K mg x d:=by
 obtain⟨v,r,q⟩:=h;exact⟨v,u,hm,r,q⟩
end
theorem kX{K:Fg1}{H:Hp}{mu:List dE}:∀ns:List Int,d0 K H mu (ns.map D.int) (ns.map V.int)
 |[]=>.nil
 |n::ns=>.cons (.int n) (kX ns)
theorem EW{K:Fg1}{m:FN}(hm:∀ ns:List Int,ns.length<=63 -> ∃ S,m [.rol (ns.map D.int)] []=some (.bl true,S))(H:Hp)(a:dE)(ns:List Int)(b:ns.length<=63)(f:CM H)(d:lV K H a (ns.map V.int)):
  AO K 1 m [.ref a] H (fun v _=>v = .bl true) fun _ _ _=>False:=by
 refine⟨rfl,?_⟩;obtain⟨S,e⟩:=hm ns b;have c:RoL K H a (ns.map V.int):=by
  rcases d with h|h
  ·rcases h with h|h
   ·rcases f a with z|⟨o,xs,z⟩
    ·rw[h]at z;cases z
    ·rw[h]at z;cases z
   ·exact .inl h
  ·exact .inr h
 refine⟨[],[],[.rol (ns.map D.int)],.bl true,S,.cons (.rol c (kX ns)) .nil,.nil,e,fun v H' mu' x r s=>?_⟩;cases r;rfl
theorem walk_m{l:PySem.W.OpenLaw}{q:dF}{b:List Str}{XP:(Str->Option dB)->dN->Prop}{g:dH->dN->Prop}{d:DefRec}{K:Params->Fg1}{m:FN}{k:Nat}{x:Str}(hn:l.most=some 63)(c:d.params.defaults=[])(hr:fN k callerA)(o:∀(w:dH) (h:dN),g w h->(K w.params).In h)(hm:∀ns:List Int,ns.length<=63 -> ∃S,m [.rol (ns.map D.int)] []=some (.bl true,S))(F:∀(w:dH) (mg:Str->Option dB) (e:dE) (h:dN),(K w.params).In h->h.Ns dI mg->mg d.name=some (.ref e) ->
   ∃fd:dP,(∀(s:dD) (u:dB),BindsTo s fd ⟨[u],[]⟩ [(x,u)]) /\ ∀base:dN,(K w.params).In base->base.Ns dI mg->js l.prog w (K w.params) mg base tw k e fd [x] (AO (K w.params) 1 m)):
  PySem.W.WalkO q b XP g l.row.toRowW d [] (fun f vs=>PySem.call f vs):=
 L2.A4 (n:=63) (k:=k) (x:=x) (CX:=fun _=>tw) (sp:=fun w=>AO (K w.params) 1 m) hn (by decide) c hr o F (fun _ H a ns j i p=>EW hm H a ns j i p) fun _ _ _ _ _ z=>z
structure XE (X:Cx)(e:Expr)(m:FE):Prop where
 h:ME X e m
structure XT (X:Cx)(e:Expr)(m:FT):Prop where
 h:MT X e m
structure XW (X:Cx)(e:Expr)(m:FT):Prop where
 h:MW X e m
structure XA (X:Cx)(e:List Expr)(m:FA):Prop where
 h:MA X e m
structure XS (X:Cx)(e:dQ)(m:FS):Prop where
 h:MS X e m
structure xE (X:Cx)(e:List dQ)(m:FS):Prop where
 h:AL X e m
structure XI (X:Cx)(tg e:Expr)(m:FI):Prop where
 h:MI X tg e m
structure XG (X:Cx)(e:Expr)(m:FG):Prop where
 h:MG X e m
structure HX (X:Cx)(e:List Expr)(m:AN):Prop where
 h:HB X e m
structure XO (X:Cx)(e:Option Expr)(m:FO):Prop where
 h:MO X e m
structure XF (X:Cx)(K:Fg1)(ifs:List Expr)(t:FT):Prop where
 h:n3 X ifs (yn K t)
theorem fK{X:Cx}:XF X X.K [] gu:=⟨BQ⟩
theorem fz{X:Cx}{c:Expr}{t:FT}(h:XT X c t):XF X X.K [c] t:=⟨BP h.h⟩
section
variable{X:Cx}{pos:Pos}
theorem qK{i:Int}{j}:XE X (.Constant (.int i) j pos) (mC (.int i)):=⟨EQ⟩
theorem tP{b:Bool}{j}:XE X (.Constant (.bool b) j pos) (mC (.bl b)):=⟨GJ⟩
theorem gf{j}:XE X (.Constant .none j pos) (mC .non):=⟨EN⟩
theorem eE{x:Str}{j}:XE X (.Constant (.str x) j pos) (mC (.str x)):=⟨EL⟩
end
section
variable{X:Cx}{pos:Pos}{e:Expr}{es:List Expr}{m:FE}{n:FA}
theorem qN:XA X [] dU:=⟨ES⟩
theorem qA(h:XE X e m)(ht:XA X es n)(hs:dJ (e::es) X.env=(false,eval e X.env)::dJ es X.env:=by rfl):XA X (e::es) (dS m n):=⟨BX (h:=h.h) (ht:=ht.h) (hs:=hs)⟩
end
section
variable{X:Cx}{K:Fg1}{f:FN}{a b:FE}{σ:L2.St}{H:Hp}{Q:VK}
theorem qI{op:Operator}{x y:Expr}{pos:Pos}(ho:gp X (binaryOp op) (r2 X.K f))(hx:XE X x a)(hy:XE X y b):XE X (.BinOp x op y pos) (m2 f a b):=⟨GG (ho:=ho) (hx:=hx.h) (hy:=hy.h)⟩
theorem xV{op:UnaryOp}{x:Expr}{pos:Pos}(ho:FM X (unaryOp op) (fun x H Q=>rN X.K f [x] H Q))(hx:XE X x a):XE X (.UnaryOp op x pos) (m1 f a):=⟨GF (ho:=ho) (hx:=hx.h)⟩
theorem AY{op:CmpOp}{x y:Expr}{pos:Pos}(ho:gp X (compareOp op) (r2 X.K f))(hx:XE X x a)(hy:XE X y b)(hm:behindInMarks op y=false):XE X (.Compare x [op] [y] pos) (m2 f a b):=⟨ER (ho:=ho) (hx:=hx.h) (hy:=hy.h) (hm:=hm)⟩
theorem qJ{x y:Expr}{pos:Pos}(ho:Dg X (r2 X.K f))(hx:XE X x a)(hy:XE X y b)(hs:mo y):XE X (.Subscript x y pos) (m2 f a b):=⟨GH (ho:=ho) (hx:=hx.h) (hy:=hy.h) (hs:=hs)⟩
theorem qD {x:Str}{p pos:Pos}{e:Expr}{es:List Expr}{id:String}{a:FA}(hc:fj X (.builtin id) (rN X.K f))(hg:Gl X x)(hm:X.mg x=none)(hv:bootBuiltins x=some (.builtin id))(ha:XA X (e::es) a)(hn:x≠"__name__":=by decide)(hdb:(x == ("__debug__":Str))=false:=by decide)(he:dJ (e::es) X.env=(false,eval e X.env)::dJ es X.env:=by rfl)(hpl:(backTo pos (dJ es X.env)).any (·.1)=false:=by rfl):XE X (.Call (.Name x p) (e::es) [] pos) (mN f a):=⟨zx (hc:=hc) (hg:=hg) (hm:=hm) (hv:=hv) (ha:=ha.h) (hn:=hn) (hdb:=hdb) (he:=he) (hpl:=hpl)⟩
theorem qE {x:Str}{p pos:Pos}{e:Expr}{es:List Expr}{T:String}{a:FA}(hc:fj X (.type T) (rN X.K f))(hg:Gl X x)(hm:X.mg x=none)(hv:bootBuiltins x=some (.type T))(ha:XA X (e::es) a)(hn:x≠"__name__":=by decide)(hdb:(x == ("__debug__":Str))=false:=by decide)(he:dJ (e::es) X.env=(false,eval e X.env)::dJ es X.env:=by rfl)(hpl:(backTo pos (dJ es X.env)).any (·.1)=false:=by rfl):XE X (.Call (.Name x p) (e::es) [] pos) (mN f a):=⟨wR (hc:=hc) (hg:=hg) (hm:=hm) (hv:=hv) (ha:=ha.h) (hn:=hn) (hdb:=hdb) (he:=he) (hpl:=hpl)⟩
end
section
variable{X:Cx}{x y c:Expr}{rest:List Expr}{pos:Pos}{a b:FT}{f g:FE}
theorem qX{op:CmpOp}{f:FN}{a b:FE}(ho:gp X (compareOp op) (r2 X.K f))(hx:XE X x a)(hy:XE X y b)(hm:behindInMarks op y=false):XT X (.Compare x [op] [y] pos) (mB (m2 f a b)):=⟨Ew (ho:=ho) (hx:=hx.h) (hy:=hy.h) (hm:=hm)⟩
theorem iI(ha:XT X x a):XW X (.BoolOp .And [x] pos) a:=⟨BH (ha:=ha.h)⟩
theorem pA(ha:XT X x a):XW X (.BoolOp .Or [x] pos) a:=⟨Es (ha:=ha.h)⟩
theorem jJ(ha:XT X x a)(hb:XW X (.BoolOp .And (y::rest) pos) b):XW X (.BoolOp .And (x::y::rest) pos) (sd a b):=⟨Et (ha:=ha.h) (hb:=hb.h)⟩
theorem tJ(ha:XT X x a)(hb:XW X (.BoolOp .Or (y::rest) pos) b):XW X (.BoolOp .Or (x::y::rest) pos) (FH a b):=⟨GD (ha:=ha.h) (hb:=hb.h)⟩
theorem lm(h:XW X x a):XT X x a:=⟨IF (h:=h.h)⟩
theorem pC(ha:XT X x a):XT X (.UnaryOp .Not x pos) (wT a):=⟨Eu (ha:=ha.h)⟩
theorem pE(hc:XT X c a)(hx:XE X x f)(hy:XE X y g):XE X (.IfExp c x y pos) (vy a f g):=⟨GI (hc:=hc.h) (hx:=hx.h) (hy:=hy.h)⟩
end
section
variable{X:Cx}{x y z:Expr}{pos:Pos}{f g:FN}{a b c:FE}{op op':CmpOp}
end
section
variable{X:Cx}{pos:Pos}{e c:Expr}{st:dQ}{rest as bs:List dQ}{a b:FS}{m:FE}{t:FT}
theorem qQ:xE X [] qT:=⟨BJ⟩
theorem qF(h1:XS X st a)(h2:xE X rest b):xE X (st::rest) (d8 a b):=⟨zq (h1:=h1.h) (h2:=h2.h)⟩
theorem qG(h1:XS X st a):xE X [st] a:=⟨BI (h1:=h1.h)⟩
theorem jK(h:XE X e m)(hs:swapsWith e none pos.line X.env=pure false:=by rfl):XS X (.Expr e pos) (fi m):=⟨BK (h:=h.h) (hs:=hs)⟩
theorem qU(h:XE X e m):XS X (.Return (some e) pos) (fu m):=⟨Ey (h:=h.h)⟩
theorem qV(hc:XT X c t)(ha:xE X as a)(hb:xE X bs b):XS X (.If c as bs pos) (hH t a b):=⟨GE (hc:=hc.h) (ha:=ha.h) (hb:=hb.h)⟩
end
section
variable{X:Cx}{pos:Pos}
theorem qO(i:Nat){x:Str}(hN:X.N.Nodup)(hi:X.N[i]?=some x)(hx:uP X.env.scope x)(hf:X.fn x=true\/X.env.scope.names.lookup x=some .local:=by first|exact .inl rfl|exact .inr rfl|assumption):XG X (.Name x pos) (gN i):=⟨BU (i:=i) (hN:=hN) (hi:=hi) (hx:=hx) (hf:=hf)⟩
theorem gj:HX X [] gNl:=⟨BS⟩
theorem d7{e:Expr}{es:List Expr}{g:FG}{a:AN}(h1:XG X e g)(h2:HX X es a)(hs:(assignEach (e::es) X.env).map (·.2)=assign e X.env::(assignEach es X.env).map (·.2):=by rfl):HX X (e::es) (gCs g a):=⟨zu (h1:=h1.h) (h2:=h2.h) (hs:=hs)⟩
theorem gQ{es:List Expr}{k:Nat}{a:AN}{n:Nat}(hc:X.calm=true)(h:HX X es a)(hn:(assignEach es X.env).length=n:=by rfl)(hst:(assignEach es X.env).findIdx? (·.1)=none:=by rfl):XG X (.Tuple es k pos) (gT n a):=⟨EG (hc:=hc) (h:=h.h) (hn:=hn) (hst:=hst)⟩
theorem l8{o i:Expr}{a b:FE}{f:FN}(ho:XE X o a)(hi:XE X i b)(hs:uO X (rU X.K f))(ha:∀ v,assign (.Subscript o i pos) X.env v=(do
   let ov<-holding [v] (eval o X.env)
   let iv<-holding [v,ov] (eval i X.env)
   standAt pos
   holding [v,ov,iv] (setItem ov iv v)
   release [v,ov,iv] []):=by intro _;rfl):XG X (.Subscript o i pos) (gS f a b):=⟨EH (ho:=ho.h) (hi:=hi.h) (hs:=hs) (ha:=ha)⟩
theorem qR{tg e:Expr}{m:FE}{g:FG}(he:XE X e m)(hg:XG X tg g)(hs:swapsWithSole [tg] e pos.line X.env=pure false:=by rfl)(hw:swappedStores [tg] e X.env=pure none:=by rfl)(h1:(assignEach [tg] X.env).map (·.2)=[assign tg X.env]:=by rfl):XS X (.Assign [tg] e pos) (eh m g):=⟨EB (he:=he.h) (hg:=hg.h) (hs:=hs) (hw:=hw) (h1:=h1)⟩
theorem qY(i:Nat){x:Str}{e:Expr}{m:FE}{pos':Pos}(hN:X.N.Nodup)(hi:X.N[i]?=some x)(hx:uP X.env.scope x)(he:XE X e m)(hs:swapsWith e (some (.Name x pos')) pos.line X.env=pure false:=by rfl)(hf:X.fn x=true\/X.env.scope.names.lookup x=some .local:=by first|exact .inl rfl|exact .inr rfl|assumption):XS X (.Assign [.Name x pos'] e pos) (eh m (gN i)):=⟨Ex (i:=i) (hN:=hN) (hi:=hi) (hx:=hx) (he:=he.h) (hs:=hs) (hf:=hf)⟩
theorem AX(i:Nat){x:Str}{e:Expr}{m:FE}{op:Operator}{f:FN}{pos':Pos}(hN:X.N.Nodup)(hi:X.N[i]?=some x)(hx:uP X.env.scope x)(he:XE X e m)(ho:HZ X op (r2 X.K f))(hf:X.fn x=true\/X.env.scope.names.lookup x=some .local:=by first|exact .inl rfl|exact .inr rfl|assumption):XS X (.AugAssign (.Name x pos') op e pos) (B0 i f m):=⟨EA (i:=i) (hN:=hN) (hi:=hi) (hx:=hx) (he:=he.h) (ho:=ho) (hf:=hf)⟩
end
section
theorem kT{X:Cx}{pos:Pos}(n:Nat){c:Expr}{a:List dQ}{t:FT}{b:FS}(hp:PassesOwn (model X.prog X.w) X.A X.env X.xe)(hc:XT X c t)(hb:xE X a b):XS X (.While c a [] pos) (qS t b n):=⟨zr (n:=n) (hp:=hp) (hc:=hc.h) (hb:=hb.h)⟩
theorem qW{X:Cx}{pos:Pos}{tg iter:Expr}{a:List dQ}{m:FI}{g:FG}{b:FS}(hp:PassesOwn (model X.prog X.w) X.A X.env X.xe)(hc:X.calm=true)(hi:XI X tg iter m)(hg:XG X tg g)(hb:xE X a b)(hs:∀x,foldedSetIterable iter X.env x=pure x:=by intro _;rfl):XS X (.For tg iter a [] pos) (iT m g b):=⟨Ez (hp:=hp) (hc:=hc) (hi:=hi.h) (hg:=hg.h) (hb:=hb.h) (hs:=hs)⟩
end
section
variable{X:Cx}{es:List Expr}{pos:Pos}{a:FA}
theorem ed{x1}(h:XA X es a):XE X (.Tuple es x1 pos) (eQ a):=⟨EK (h:=h.h)⟩
theorem gz(h:XA X es a):XE X (.List es pos) (jC a):=⟨EO (h:=h.h)⟩
end
section
variable{X:Cx}{tg:Expr}
theorem qd{e:Expr}{m:FE}(h:XE X e m):XI X tg e (iG m):=⟨EF (h:=h.h)⟩
theorem tL {a:Expr}{m:FA}{p pos:Pos}(hg:Gl X "range")(hm:X.mg "range"=none)(ha:XA X [a] m)(hs:dJ [a] X.env=[(false,eval a X.env)]:=by rfl):XI X tg (.Call (.Name "range" p) [a] [] pos) (ux m):=⟨wP (hg:=hg) (hm:=hm) (ha:=ha.h) (hs:=hs)⟩
theorem tK {a b:Expr}{m:FA}{p pos:Pos}(hg:Gl X "range")(hm:X.mg "range"=none)(ha:XA X [a,b] m)(hs:dJ [a,b] X.env=[(false,eval a X.env),(false,eval b X.env)]:=by rfl)(hs2:dJ [b] X.env=[(false,eval b X.env)]:=by rfl):XI X tg (.Call (.Name "range" p) [a,b] [] pos) (GX m):=⟨wO (hg:=hg) (hm:=hm) (ha:=ha.h) (hs:=hs) (hs2:=hs2)⟩
end
section
variable{X:Cx}{tg:Expr}
variable{elts:List Expr}{k:Nat}{tpos:Pos}
theorem xU {a:Expr}{m:FA}{p pos:Pos}(hg:Gl X "enumerate")(hm:X.mg "enumerate"=none)(ha:XA X [a] m)(hs:dJ [a] X.env=[(false,eval a X.env)]:=by rfl):XI X (.Tuple elts k tpos) (.Call (.Name "enumerate" p) [a] [] pos) (FJ m):=⟨BR (hg:=hg) (hm:=hm) (ha:=ha.h) (hs:=hs)⟩
theorem jL {a b:Expr}{m:FA}{p pos:Pos}(hg:Gl X "zip")(hm:X.mg "zip"=none)(ha:XA X [a,b] m)(hs:dJ [a,b] X.env=[(false,eval a X.env),(false,eval b X.env)]:=by rfl)(hs2:dJ [b] X.env=[(false,eval b X.env)]:=by rfl):XI X (.Tuple elts k tpos) (.Call (.Name "zip" p) [a,b] [] pos) (AR m):=⟨EE (hg:=hg) (hm:=hm) (ha:=ha.h) (hs:=hs) (hs2:=hs2)⟩
end
section
variable{X:Cx}{pins:List (dE×Obj)}{σ:L2.St}{H:Hp}{s:dD}{mu:List dE}{S:Sto}{K:Fg1}
end
section
variable{X:Cx}
theorem xT:XO X none mY:=⟨BO⟩
theorem xS{e:Expr}{m:FE}(h:XE X e m):XO X (some e) (rS m):=⟨BN (h:=h.h)⟩
theorem tO {a:Expr}{m:FA}{d p2 b c:Pos}(hc:X.calm=true)(hg:Gl X "range")(hm:X.mg "range"=none)(hg2:Gl X "list")(hm2:X.mg "list"=none)(ha:XA X [a] m)(hs:dJ [a] X.env=[(false,eval a X.env)]:=by rfl)(hs2:dJ [.Call (.Name "range" d) [a] [] b] X.env=[(false,eval (.Call (.Name "range" d) [a] [] b) X.env)]:=by rfl):XE X (.Call (.Name "list" p2) [.Call (.Name "range" d) [a] [] b] [] c) (zB m):=⟨wQ (hc:=hc) (hg:=hg) (hm:=hm) (hg2:=hg2) (hm2:=hm2) (ha:=ha.h) (hs:=hs) (hs2:=hs2)⟩
theorem qe {o e:Expr}{es:List Expr}{m:FE}{a:FA}{f:FN}{name:Str}{apos cpos:Pos}{id:String}(slot:Slot "list" name id)(hty:typeOf (.builtin id)=pure (.type "method_descriptor"))(hm:Df X id (fun x xs H Q=>rN X.K f (x::xs) H Q))(ho:XE X o m)(ha:XA X (e::es) a)(hbase:attributeBase o name X.env (eval o X.env)=eval o X.env:=by rfl)(hfew:((backTo cpos (dJ (e::es) X.env)).all (fun x=> !x.1)&&(backToKw cpos (keywordEach [] X.env)).all (fun x=>x.1.isSome)&&decide ((e::es).length+([]:List Keyword).length+(if([]:List Keyword).isEmpty then 0 else 1)<30))=true:=by rfl)(hline:(apos.endLine == cpos.line)=true:=by rfl)(hs:dJ (e::es) X.env=(false,eval e X.env)::dJ es X.env:=by rfl)(hplain:(backTo cpos (dJ es X.env)).any (·.1)=false:=by rfl):XE X (.Call (.Attribute o name apos) (e::es) [] cpos) (oH f m a):=⟨zw (slot:=slot) (hty:=hty) (hm:=hm) (ho:=ho.h) (ha:=ha.h) (hbase:=hbase) (hfew:=hfew) (hline:=hline) (hs:=hs) (hplain:=hplain)⟩
theorem JC (i:Nat){x:Str}{pos:Pos}(hN:X.N[i]?=some x:=by rfl)(hv:Vis X.env.scope x:=by first|exact Or.inl rfl|exact Or.inr (Or.inl rfl)|exact Or.inr (Or.inr rfl))(hd:(x == ("__debug__":Str))=false:=by decide)(hcd:(x == ("__classdict__":Str))=false:=by decide):XE X (.Name x pos) (mV i):=⟨mv (i:=i) (hN:=hN) (hv:=hv) (hd:=hd) (hcd:=hcd)⟩
end
section
theorem qH {X:Cx}{k k' n:Nat}{x:Str}{m:FN}{p pos:Pos}{e:Expr}{es:List Expr}{a:FA}(h:fO X.prog X.w X.K X.mg X.base k x n m)(hr:fN k' X.A)(hk:k<=k')(hg:Gl X x)(ha:XA X (e::es) a)(hdb:(x == ("__debug__":Str))=false:=by decide)(he:dJ (e::es) X.env=(false,eval e X.env)::dJ es X.env:=by rfl)(hpl:(backTo pos (dJ es X.env)).any (·.1)=false:=by rfl):XE X (.Call (.Name x p) (e::es) [] pos) (mN (dX n m) a):=⟨EM (h:=h) (hr:=hr) (hk:=hk) (hg:=hg) (ha:=ha.h) (hdb:=hdb) (he:=he) (hpl:=hpl)⟩
theorem xX {X:Cx}{x:Str}{d:D}{pos:Pos}(h:CGl X.K X.mg x d)(hg:Gl X x)(hd:(x == ("__debug__":Str))=false:=by decide):XE X (.Name x pos) (mC d):=⟨BV (h:=h) (hg:=hg) (hd:=hd)⟩
end
section
variable{X:Cx}
structure HY (X:Cx)(K:Fg1)(tg:Expr)(ifs:List Expr)(elt:Expr)(g:FG)(t:FT)(e:FE):Prop where
 g:XG X tg g
 t:XF X K ifs t
 e:XE X elt e
end
theorem AW{P:dF}{w:dH}{K:Fg1}{mg:Str->Option dB}{base:dN}{x c:Str}{st:dQ}{f:dE}{fd:dP}{N ps:List Str}{k n:Nat}{b:FS}(F:xO K x c st f fd)(hb:kS K fd ps [])(hm:mg x=some (.ref f))(S:gh N ps (ea st))(hn:ps.length=n)(e:∀(d:dB) (A:dG) (a:List Env) (s:dD) (H:Hp) (E:XK),fN k (A.deeper (envOfC c (ea st) s.heap.objs.size f d)) ->
   xE (lZ tw P w K mg base N c (ea st) f d A a s H E).nox (fq st) b):fO P w K mg base (k+1) x n (iC N.length b):=
 Ef F hb hm S hn fun d A a s H E g=>(e d A a s H E g).h
theorem Di{P:dF}{w:dH}{K:Fg1}{mg:Str->Option dB}{base:dN}{x c:Str}{st:dQ}{f:dE}{fd:dP}{N ps:List Str}{k n:Nat}{b:FS}(F:xO K x c st f fd)(S:gh N ps (ea st))(hn:ps.length=n)(e:∀(d:dB) (A:dG) (a:List Env) (s:dD) (H:Hp) (E:XK),fN k (A.deeper (envOfC c (ea st) s.heap.objs.size f d)) ->
   xE (lZ tw P w K mg base N c (ea st) f d A a s H E).nox (fq st) b):js P w K mg base tw (k+1) f fd ps (AO K n (iC N.length b)):=by
 subst hn;exact G9 F S fun d A a s H E g=>(e d A a s H E g).h
abbrev FV:=Ev->Sto->Option (List D×Ev×Sto)
noncomputable def fM (c:List (Nat×List D))(g:FG)(t:FT)(b:FV):List D->FV
 |[]=>fun r S=>if oC S c=true then some ([],r,S)else none
 |d::ds=>fun r S=>if oC S c=true then(g d r S).bind fun p=>(t p.1 p.2).bind fun k=>if k.1=true then(b p.1 k.2).bind fun q=>(fM c g t b ds q.2.1 q.2.2).map fun z=>(q.1++z.1,z.2)else fM c g t b ds p.1 k.2 else none
noncomputable def eI (m:FE):FV:=fun r S=>(m r S).map fun q=>([q.1],r,q.2)
noncomputable def e0 (k:Nat)(keep:List Nat)(m:FI)(g:FG)(t:FT)(b:FV):FE:=fun r S=>(m r S).bind fun p=>
 (fM p.1.chk g t b p.1.items (nS k keep r) p.2).bind fun q=>if q.1.length<=dL then some (.ref q.2.2.length,q.2.2++[.lst q.1])else none
section
variable{K:Fg1}{H H' H1:Hp}{mu mu' mu1:List dE}{S:Sto}{a:dE}
theorem Ext.aside(x:Ext mu mu' H H'):Ext (a::mu) (a::mu') H H' where
 pre:=bY.mpr ⟨rfl,x.pre⟩
 old:=fun b o h n=>x.old b o h fun z=>n (mC1 _ z)
 tup:=x.tup
 frz:=x.frz
 new:=fun b h=>by
  rcases aF.mp h with h|h
  ·exact .inl (by rw[h];exact mS1)
  ·rcases x.new b h with q|q
   ·exact .inl (mC1 _ q)
   ·exact .inr q
theorem Ext.inner(x:Ext (a::mu) (a::mu') H H'):q7 mu mu' H H':=⟨(bY.mp x.pre).2,x.tup,x.frz⟩
theorem Ext.held{o:HO}(x:Ext mu mu' H H')(ha:H a=some o)(hn:a∉mu):H' a=some o/\a∉mu':=by
 refine⟨x.old a o ha hn,fun z=>?_⟩;rcases x.new a z with q|q
 ·exact hn q
 ·rw[ha]at q;cases q
theorem fJ.exw{r:Ev}{σ:L2.St}(e:q7 mu mu' H H')(h:fJ K H mu r σ):fJ K H' mu' r σ:=⟨h.len,fun i d q=>by
 obtain⟨v,b,a⟩:=h.val i d q;exact⟨v,b,a.exw e⟩⟩
theorem jH.exw{b:dE}(e:q7 mu mu' H H')(h:∀o,H b=some o->H' b=some o):∀{o:Ob},jH K H mu b o->jH K H' mu' b o
 | .lst _,⟨vs,q,r⟩=>⟨vs,h _ q,r.exw e⟩
 | .dct _,⟨ws,q,r⟩=>⟨ws,h _ q,Paired.mapP r fun _ _ z=>⟨z.1,z.2.exw e⟩⟩
 | .dcT _,⟨ws,q,r,l⟩=>⟨ws,h _ q,Paired.mapP r fun _ _ ⟨z,d,k,v,a,r⟩=>⟨z,d,k.exw e,v,a,r.exw e⟩,l⟩
 | .iset _,q=>⟨h _ q.1,q.2⟩
 | .dcF _,⟨ws,⟨o,u,f,c⟩,r,l⟩=>⟨ws,⟨o,u,h _ f,c⟩,Paired.mapP r fun _ _ ⟨z,d,k,v,a,r⟩=>⟨z,d,k.exw e,v,a,r.exw e⟩,l⟩
 | .tst _,⟨ws,q,r⟩=>⟨ws,h _ q,Paired.mapP r fun _ _ ⟨z,d,k,v,a,r⟩=>⟨z,d,k.exw e,v,a,r.exw e⟩⟩
theorem Sim.aside{u:HO}(s:Sim K H mu S)(e:q7 mu mu H (upd H a u))(hn:a∉mu):Sim K (upd H a u) mu S:=
 ⟨s.len,s.nd,fun k o b h1 h2=>(s.ob k o b h1 h2).exw e fun o' q=>by rw[dY (fun z=>hn (by rw[<- z];exact gM1 h2))];exact q⟩
end
inductive F6 (K:Fg1)(a:dE)(m:FV)(E:jt)(σ:L2.St)(H:Hp):Prop
 |mk (r:Ev) (mu:List dE) (S:Sto) (acc:List D) (vs:List V) (xs:List D) (r':Ev) (S':Sto):H a=some (.lst vs)->a∉mu->d0 K H mu acc vs->fJ K H mu r σ->Sim K H mu S->m r S=some (xs,r',S')->vs.length+xs.length<=dL ->
 (∀ σ' H' mu' vs',Ext (a::mu) (a::mu') H H'->H' a=some (.lst vs')->a∉mu'->d0 K H' mu' (acc++xs) vs'->fJ K H' mu' r' σ'->Sim K H' mu' S'->E.nx σ' H')->F6 K a m E σ H
theorem nz{K:Fg1}{a:dE}{m:FE}{E:jt}{σ:L2.St}{H:Hp}(h:F6 K a (eI m) E σ H):rn a (tM K m) E σ H:=by
 obtain⟨r,mu,S,j,vs,xs,w,u,o,f,n,i,p,g,k,hc⟩:=h;obtain⟨⟨d,q⟩,t,g⟩:=oM1.mp g;cases g;refine⟨r,mu,S,d,q,i,p,t,fun v H1 mu1 e s l=>?_⟩;obtain⟨c,b⟩:=e.held o f;have put:Ext (a::mu1) (a::mu1) H1 (upd H1 a (.lst (vs++[v]))):=Ext.put c trivial mS1;refine⟨vs,c,k,?_⟩;exact hc σ _ mu1 (vs++[v]) (e.aside.trans put) d3 b (((n.ext e).append (.cons s .nil)).exw put.inner) ((i.ext e).exw put.inner) (l.aside put.inner b)
inductive Jb (K:Fg1)(a:dE)(mu2:List dE)(H:Hp)(c:List (Nat×List D))(g:FG)(t:FT)(b:FV)(r':Ev)(S':Sto)(tot:List D)(L:List D)(σ':L2.St)(H':Hp):Prop
 |mk (r3:Ev) (mu3:List dE) (S3:Sto) (acc3:List D) (vs3:List V) (xs3:List D):Ext (a::mu2) (a::mu3) H H'->H' a=some (.lst vs3)->a∉mu3->d0 K H' mu3 acc3 vs3->fJ K H' mu3 r3 σ'->Sim K H' mu3 S3->fM c g t b L r3 S3=some (xs3,r',S')->acc3++xs3=tot->vs3.length+xs3.length<=dL->Jb K a mu2 H c g t b r' S' tot L σ' H'
theorem si{K:Fg1}{a:dE}{j:It}{J:AM}{g:FG}{t:FT}{b:FV}{tb:TS}{D:jt}(hb:∀ E σ H,F6 K a b E σ H->tb E σ H){mu1 e:List dE}{H1 H:Hp}{r I:Ev}{S N:Sto}{σ:L2.St}{acc xs:List Mi.D}{vs:List V}(hJ:ItR K j J mu1 H1)(x:q7 mu1 e H1 H)(ha:H a=some (.lst vs))(X:a∉e)(hr:d0 K H e acc vs)(he:fJ K H e r σ)(hs:Sim K H e S)(hm:fM J.chk g t b J.items r S=some (xs,I,N))(hl:vs.length+xs.length<=dL)(hc:∀h H' mu' A,Ext (a::e) (a::mu') H H'->H' a=some (.lst A)->a∉mu'->d0 K H' mu' (acc++xs) A->fJ K H' mu' I h->Sim K H' mu' N->D.nx h H'):CU j (Dz K g) (yn K t) tb D σ H:=by
 refine⟨fun i k h H'=>k=(J.items.drop i).length/\Jb K a e H J.chk g t b I N (acc++xs) (J.items.drop i) h H',
  ⟨_,rfl,r,e,S,acc,vs,xs,.refl _ _,ha,X,hr,he,hs,hm,rfl,hl⟩,?_⟩
 rintro i k U R ⟨rfl,r3,m,S3,f,vs3,P,G,u,B,C,F,s3,c,q,l⟩;cases hd0:J.items.drop i with
 |nil=>
  left;rw[hd0,fM]at c;dsimp only at c;split at c
  ·rename_i ok;cases c;refine⟨(hJ i R m _ (x.trans G.inner) s3 ok).2 (List.drop_eq_nil_iff.mp hd0),hc U R m vs3 G u B ?_ F s3⟩;rw[<- q,aM];exact C
  ·cases c
 |cons d ds=>
  right;rw[hd0]at c;obtain⟨hi,hd⟩:=lM hd0;rw[fM]at c;dsimp only at c;split at c
  ·rename_i ok;obtain⟨⟨L,S4⟩,e4,c⟩:=oB1.mp c;obtain⟨⟨k5,W⟩,e5,c⟩:=oB1.mp c;obtain⟨go,yl⟩:=(hJ i R m _ (x.trans G.inner) s3 ok).1 d hi;refine⟨go,Jb K a e H J.chk g t b I N (acc++xs) ds,?_,fun y H4 yy=>?_⟩
   ·intro h H' h6;exact⟨ds.length,bE _,(congrArg List.length hd).symm,hd.symm ▸ h6⟩
   ·obtain⟨M,s4,q4⟩:=yl y H4 yy;obtain⟨O,Y⟩:=M.held u B;refine⟨r3,m,S3,d,L,S4,F.ext M,s4,q4,e4,fun σ5 H5 mu5 Q o s5=>?_⟩;obtain⟨ha5,hn5⟩:=Q.held O Y;refine⟨L,mu5,S4,k5,W,o,s5,e5,fun H6 p v s6=>?_⟩;obtain⟨z,s⟩:=v.held ha5 hn5;have xx:=((G.trans M.aside).trans Q.aside).trans v.aside;have n:d0 K H6 p f vs3:=((C.ext M).ext Q).ext v;cases k5 with
    |true=>
     obtain⟨⟨q1,r7,S7⟩,e7,c⟩:=oB1.mp c;obtain⟨⟨z1,r8,S8⟩,e8,c⟩:=oM1.mp c;cases c;refine hb _ _ _ ⟨L,p,W,f,vs3,q1,r7,S7,z,s,n,o.ext v,s6,e7,?_,fun σ8 H8 Z vs8 x8 ha8 T w he8 s8=>⟨r7,Z,S7,f++q1,vs8,z1,xx.trans x8,ha8,T,w,he8,s8,e8,?_,?_⟩⟩
     ·rw[lA1]at l;dsimp only at l;lia
     ·rw[<- q,bI]
     ·have:=w.length;have h3:=n.length;rw[lA1]at this l;dsimp only at l;lia
    |false=>exact⟨L,p,W,f,vs3,P,xx,z,s,n,o.ext v,s6,c,q,l⟩
  ·cases c
theorem sU{K:Fg1}{k:Nat}{keep:List Nat}{m:FI}{g:FG}{t:FT}{b:FV}{tb:dE->TS}(hb:∀ a E σ H,F6 K a b E σ H->tb a E σ H){σ:L2.St}{H:Hp}{Q:VK}(h:tM K (e0 k keep m g t b) σ H Q):
  u4 k keep (Ii K m) (Dz K g) (yn K t) tb σ H Q:=by
 obtain⟨r,mu,S,d,Y,F,P,f,hc⟩:=h;obtain⟨⟨J,U⟩,V,f⟩:=oB1.mp f;obtain⟨⟨xs,r2,L⟩,T,f⟩:=oB1.mp f;dsimp only at f;split at f
 ·rename_i O;cases f;refine ⟨r,mu,S,J,U,F,P,V,fun j H1 mu1 M X G p i=>?_⟩;have w:Ext mu1 mu1 H1 (upd H1 p (.lst [])):=Ext.fresh i;refine si (hb p) X w.w d3 (G.notin i) .nil ((C5 k keep (F.ext M)).ext w) (G.fresh i) T (by simpa using O) fun R H' mu' s l C D x W s'=>?_;have y:Ext mu1 (mu'++[p]) H1 H':=by
   refine⟨((bY.mp l.pre).2).trans (bw _ _),fun b o e n=>?_,fun b ys e=>l.tup b ys (w.tup b ys e),fun b o u e=>l.frz b o u (w.frz b o u e),fun b A=>?_⟩
   ·have I:b≠p:=eD e i;exact l.old b o (by rw [dY I];exact e) fun z=>by
     rcases aF.mp z with z|z
     ·exact I z
     ·exact n z
   ·rcases aG.mp A with z|z
    ·rcases l.new b (mC1 _ z)with q|q
     ·rcases aF.mp q with q|q
      ·exact .inr (by rw[q];exact i)
      ·exact .inl q
     ·by_cases v:b=p
      ·exact .inr (by rw[v];exact i)
      ·rw[dY v]at q;exact .inr q
    ·have:b=p:=by simpa using z
     exact .inr (by rw[this];exact i)
  refine hc _ H' (mu'++[p]) (M.trans y) (.ref (fZ s'.len p)) ⟨by rw[lA1,lA1,s'.len];rfl,?_,fun n o b h1 h2=>?_⟩
  ·rw[bB];refine⟨s'.nd,by simp,fun b hb c hc e=>?_⟩;have:c=p:=by simpa using hc
   subst this;subst e;exact D hb
  ·by_cases N:n<L.length
   ·rw[gL1 N]at h1;rw[gL1 (by rw[s'.len];exact N)]at h2;exact(s'.ob n o b h1 h2).mor [p]
   ·have B:n=L.length:=by
     have:=(gE1.mp h1).1;rw[lA1]at this;simp at this;lia
    subst B;rw[gR1 (nR1 _)]at h1;rw[<- s'.len,gR1 (nR1 _)]at h2;simp at h1 h2;subst h1;subst h2;exact⟨s,C,(by simpa using x:d0 K H' mu' xs s).mor [p]⟩
 ·cases f
section
variable{X:Cx}
theorem qZ{elt tg iter:Expr}{ifs:List Expr}{scope:dR}{pos:Pos}{T:List Str}{keep:List Nat}{i:List (Str×dE)}{m:FI}{g:FG}{t:FT}{e:FE}(hc:X.calm=true)(C:FP X scope T keep)(f:i4 X.env.cells scope.names []=some i)(hi:XI X tg iter m)(hb:∀s H b,HY (cxC X scope i T keep s H b) X.K tg ifs elt g t e)(hs:∀x,foldedSetIterable iter X.env x=pure x:=by intro _;rfl):XE X (.ListComp elt [⟨tg,iter,ifs,0⟩] scope pos) (e0 T.length keep m g t (eI e)):=
 ⟨eU (vj (emit:=oZ elt) (tb:=fun p=>rn p (tM X.K e)) hc (fun it c d=>tV elt tg iter ifs scope pos it c d) C f hi.h (fun s H b p=>⟨(hb s H b).g.h,(hb s H b).t.h,pX (hb s H b).e.h p⟩) hs)
  fun σ H Q h=>sU (fun a E σ H q=>nz q) h⟩
theorem gE{elt tg iter:Expr}{ifs:List Expr}{scope:dR}{pos b l:Pos}{y:Str}(i:Nat){T:List Str}{keep:List Nat}{n:List (Str×dE)}{m:FI}{g:FG}{t:FT}{e:FE}(hc:X.calm=true)(C:FP X scope T keep)(k:i4 X.env.cells scope.names []=some n)(hi:XI X tg iter m)(hb:∀s H c,HY (cxC X scope n T keep s H c) X.K tg ifs elt g t e)(hN:X.N.Nodup)(hy:X.N[i]?=some y)(hx:uP X.env.scope y)(d:swapsWith (.ListComp elt [⟨tg,iter,ifs,0⟩] scope pos) (some (.Name y l)) b.line X.env=pure true:=by rfl)(hf:X.fn y=true\/X.env.scope.names.lookup y=some .local:=by first|exact .inl rfl|exact .inr rfl|assumption)(hs:∀x,foldedSetIterable iter X.env x=pure x:=by intro _;rfl):XS X (.Assign [.Name y l] (.ListComp elt [⟨tg,iter,ifs,0⟩] scope pos) b) (eh (e0 T.length keep m g t (eI e)) (gN i)):=
 ⟨hG (Bm (emit:=oZ elt) (tb:=fun p=>rn p (tM X.K e)) hc d (fun it f j=>tV elt tg iter ifs scope pos it f j) C k hi.h (fun s H c p=>⟨(hb s H c).g.h,(hb s H c).t.h,pX (hb s H c).e.h p⟩) hN hy hx hf hs)
  fun E σ H h=>Fq (fun σ H Q q=>sU (fun a E σ H q=>nz q) q) h⟩
end
def sn:D->Option Key
 | .int i=>some (.inl i)
 | .str x=>some (.inr x)
 |_=>none
def d2{κ:Type}[DecidableEq κ](kvs:List (κ×D))(k:κ):Option D:=(kvs.find? fun p=>decide (p.1=k)).map (·.2)
def e6{κ:Type}[DecidableEq κ](kvs:List (κ×D))(k:κ)(d:D):List (κ×D):=
 if(kvs.any fun p=>decide (p.1=k))=true then kvs.map (fun p=>if p.1=k then(p.1,d)else p)else kvs++[(k,d)]
section
variable{K:Fg1}{H:Hp}{mu:List dE}
theorem kn{d:D}{v:V}{k:Key}(r:eJ K H mu d v)(h:sn d=some k):v=kV k:=by
 cases r with
 |int i=>cases h;rfl
 |str x=>cases h;rfl
 |_=>cases h
end
section
variable{κ:Type} [DecidableEq κ] {K:Fg1}{H:Hp}{mu:List dE}
theorem KR.length:∀{ks:List (κ×D)} {ws:List (κ×V)},KR K H mu ks ws->ks.length=ws.length:=fun h=>Paired.length h
theorem KR.look{k:κ}:∀ {ks:List (κ×D)} {ws:List (κ×V)},KR K H mu ks ws ->
  (∀d,d2 ks k=some d -> ∃v,il ws k=some v/\eJ K H mu d v)/\(d2 ks k=none->il ws k=none):=by
 intro ks ws h
 induction h with
 |nil=>exact⟨fun d h=>by simp[d2]at h,fun _=>rfl⟩
 | @cons p q ks ws r t ih=>
  obtain⟨a,f⟩:=p;obtain⟨j,c⟩:=q;obtain⟨e,r⟩:=r;dsimp only at e r;subst e;obtain⟨h1,h2⟩:=ih;by_cases b:a=k
  ·subst b;refine⟨fun d h=>?_,fun h=>?_⟩
   ·have:f=d:=by simpa[d2]using h
    subst this;exact⟨c,by simp[il],r⟩
   ·simp[d2]at h
  ·have i:d2 ((a,f)::ks) k=d2 ks k:=by simp[d2,bc,b]
   have g:il ((a,c)::ws) k=il ws k:=by simp[il,bc,b]
   rw[i,g];exact⟨h1,h2⟩
theorem KR.any{k:κ}:∀{ks:List (κ×D)} {ws:List (κ×V)},KR K H mu ks ws->(ks.any fun p=>decide (p.1=k))=ws.any fun p=>decide (p.1=k):=by
 intro ks ws h
 induction h with
 |nil=>rfl
 |cons r t ih=>rw[bd,bd,ih,r.1]
theorem KR.repl{k:κ}{d:D}{v:V}(q:eJ K H mu d v):∀ {ks:List (κ×D)} {ws:List (κ×V)},KR K H mu ks ws ->
  KR K H mu (ks.map fun p=>if p.1=k then(p.1,d)else p) (ws.map fun p=>if p.1=k then(p.1,v)else p):=by
 intro ks ws h
 induction h with
 |nil=>exact .nil
 | @cons a b ks ws r t ih=>
  refine .cons ?_ ih;obtain⟨e,r⟩:=r;dsimp only;by_cases h:a.1=k
  ·rw[if_pos h,if_pos (e ▸ h)];exact⟨e,q⟩
  ·rw[if_neg h,if_neg (e ▸ h)];exact⟨e,r⟩
theorem KR.snoc{k:κ}{d:D}{v:V}(q:eJ K H mu d v):∀{ks:List (κ×D)} {ws:List (κ×V)},KR K H mu ks ws->KR K H mu (ks++[(k,d)]) (ws++[(k,v)]):=by
 intro ks ws h
 induction h with
 |nil=>exact .cons ⟨rfl,q⟩ .nil
 |cons r t ih=>exact .cons r ih
theorem KR.put{k:κ}{d:D}{v:V}(q:eJ K H mu d v){ks:List (κ×D)}{ws:List (κ×V)}(h:KR K H mu ks ws):KR K H mu (e6 ks k d) (hW ws k v):=by
 unfold e6 hW;rw[h.any];split
 ·exact h.repl q
 ·exact h.snoc q
end
def uB:G2:=fun d e S=>match e with
 | .ref n=>match S[n]? with
  |some (.dct kvs)=>(sn d).map fun k=>(.bl (d2 kvs k).isSome,S)
  |_=>FL d e S
 |_=>FL d e S
def iB:G2:=fun d e S=>match e with
 | .ref n=>match S[n]? with
  |some (.dct kvs)=>(sn d).map fun k=>(.bl (!(d2 kvs k).isSome),S)
  |_=>lc d e S
 |_=>lc d e S
def lf:G2:=fun d e S=>match d with
 | .ref n=>match S[n]? with
  |some (.dct kvs)=>(sn e).bind fun k=>(d2 kvs k).map fun x=>(x,S)
  |_=>zZ d e S
 |_=>zZ d e S
def lI:G3:=fun o i v S=>match o with
 | .ref n=>match S[n]? with
  |some (.dct kvs)=>(sn i).bind fun k=>if kvs.length<dL then some (.non,S.set n (.dct (e6 kvs k v)))else none
  |_=>jE o i v S
 |_=>jE o i v S
section
variable{X:Cx}
theorem m4{K:Fg1}{H:Hp}{mu:List dE}{S:Sto}(hs:Sim K H mu S){n:Nat}{a:dE}{kvs:List (Key×D)}{k:Key}{y:V}(hn:mu[n]? = some a)(he:S[n]? = some (.dct kvs))(hy:y=kV k):
  ∃o:Option V,n4 H a y o/\(∀d,d2 kvs k=some d -> ∃v,o=some v/\eJ K H mu d v)/\(d2 kvs k=none->o=none)/\o.isSome=(d2 kvs k).isSome:=by
 obtain⟨ws,f,c⟩:=hs.dct he hn;subst hy;obtain⟨h1,h2⟩:=c.look (k:=k);refine⟨il ws k,n4.k f,h1,h2,?_⟩;cases e:d2 kvs k with
 |none=>rw[h2 e];rfl
 |some d=>obtain⟨v,b,_⟩:=h1 d e;rw[b];rfl
theorem GA(t:X.A.units+64<cLine):gp X (compareOp .In) (r2 X.K (b2 uB)):=by
 intro pins s σ H x y u w Q I j i h;obtain⟨mu,S,d,e,r,f,l,b,c,a,hc⟩:=ot h;have back:FL d e S=some (r,f)->dM (model X.prog X.w) X.A (compareOp .In u w) (EP X pins σ Q) X.xe s:=fun a=>IE t pins s σ H x y u w Q I j i ⟨mu,S,[d,e],r,f,.cons l (.cons b .nil),c,a,hc⟩;unfold uB at a;split at a
 ·rename_i n;split at a
  ·rename_i kvs p;obtain⟨k,m,a⟩:=oM1.mp a;cases a;cases b with
   |ref q=>
    cases i;obtain⟨o,g,_,_,hi⟩:=m4 c q p (kn l m);exact IT (by lia) I g j fun s' v=>⟨.bl o.isSome,H,v,rfl,by rw[hi];exact hc.now (.bl _) c⟩
  ·exact back a
 ·exact back a
theorem zj(t:X.A.units+64<cLine):gp X (compareOp .NotIn) (r2 X.K (b2 iB)):=by
 intro pins s σ H x y u w Q I j i h;obtain⟨mu,S,d,e,r,f,l,b,c,a,hc⟩:=ot h;have back:lc d e S=some (r,f)->dM (model X.prog X.w) X.A (compareOp .NotIn u w) (EP X pins σ Q) X.xe s:=fun a=>BF t pins s σ H x y u w Q I j i ⟨mu,S,[d,e],r,f,.cons l (.cons b .nil),c,a,hc⟩;unfold iB at a;split at a
 ·rename_i n;split at a
  ·rename_i kvs p;obtain⟨k,m,a⟩:=oM1.mp a;cases a;cases b with
   |ref q=>
    cases i;obtain⟨o,g,_,_,hi⟩:=m4 c q p (kn l m);exact Cv (by lia) I g j fun s' v=>⟨.bl (!o.isSome),H,v,rfl,by rw[hi];exact hc.now (.bl _) c⟩
  ·exact back a
 ·exact back a
theorem FQ(P:X.A.units+64<cLine):Dg X (r2 X.K (b2 lf)):=by
 intro value b pins s σ H x y v u Q I w A h m;obtain⟨mu,S,d,e,r,C,t,l,p,c,hc⟩:=ot h;have back:zZ d e S=some (r,C)->dM (model X.prog X.w) X.A (subscriptTail value b v u) (EP X pins σ Q) X.xe s:=fun c=>H7 value b pins s σ H x y v u Q I w A ⟨mu,S,[d,e],r,C,.cons t (.cons l .nil),p,c,hc⟩ m;unfold lf at c;split at c
 ·rename_i n;split at c
  ·rename_i kvs F;obtain⟨k,D,c⟩:=oB1.mp c;obtain⟨z,M,c⟩:=oM1.mp c;cases c;cases t with
   | @ref _ a J=>
    cases w;obtain⟨o,g,h1,_,_⟩:=m4 p J F (kn l D);obtain⟨L,K,O⟩:=h1 _ M;subst K;have B:=sP I g;unfold subscriptTail;refine wB1 ?_;rw[getitemInPython_of_ne B.not_modules];refine wB1 (wpAny_specialOf B PySem.F.slot_dict_getitem.lookup ?_);have i:dM (model X.prog X.w) X.A (subscripted b false (.ref a) u) (fun r f=>dM (model X.prog X.w) X.A (letTemporaryGo value (.ref a) r >>= fun _=>pure r) (EP X pins σ Q) X.xe f) X.xe s:=by
     rw[m];exact wpAny_operating (wpAny_mono (xp (by lia) I g A fun E N G q=>(⟨L,H,G,q,hc.now O p⟩:EP X pins σ Q E N)) (fun r f j=>wB1 (wpAny_letTemporaryGo (wP1 j))) fun _ _ x=>x)
    first
     |exact wP1 (wB1 i)
     |exact wB1 i
     |exact i
  ·exact back c
 ·exact back c
theorem DK(L:X.A.units+64<cLine):uO X (rU X.K (b3 lI)):=by
 intro pins s σ H o i v p q u Q I l f w h;obtain⟨mu,S,ds,d,r,G,b,a,hc⟩:=id h;cases G with
 |cons m C=>cases C with
  |cons t K=>cases K with
   |cons x F=>
    cases F;rename_i g j z;dsimp only[b3]at a;have back:jE g j z S=some (d,r)->dM (model X.prog X.w) X.A (setItem p q u) (fun _ s'=>∃H',Inv X pins σ H' s'/\Q H') X.xe s:=fun a=>Ge pins s σ H o i v p q u Q I l f w ⟨mu,S,[g,j,z],d,r,.cons m (.cons t (.cons x .nil)),b,a,hc⟩;unfold lI at a;split at a
    ·rename_i n;split at a
     ·rename_i kvs D;obtain⟨k,A,a⟩:=oB1.mp a;split at a
      ·rename_i E;cases a;cases m with
       |ref c=>
        cases l;obtain⟨ws,e,y⟩:=b.dct D c;have J:=kn t A;subst J;refine xn (by lia) I (xI.k e (by rw[<- y.length];exact E)) f w fun s' B=>⟨_,B,?_⟩;have put:Ext mu mu H (upd H _ (.dK (hW ws k v))):=Ext.put e trivial (gM1 c);exact hc _ mu put (b.put c e trivial ⟨_,d3,(y.put x).ext put⟩)
      ·cases a
     ·exact back a
    ·exact back a
def Ck:G2:=fun d e S=>match e with
 | .non=>some (.bl (oQ d),S)
 | .bl b=>match d with
  | .bl c=>some (.bl (c == b),S)
  |_=>none
 |_=>none
def g9:G2:=fun d e S=>match e with
 | .non=>some (.bl (!oQ d),S)
 | .bl b=>match d with
  | .bl c=>some (.bl (!(c == b)),S)
  |_=>none
 |_=>none
theorem Gy:gp X (compareOp .Is) (r2 X.K (b2 Ck)):=by
 intro pins s σ H x y u w Q I i g h;obtain⟨mu,S,d,e,r,l,k,a,j,f,hc⟩:=ot h;cases e with
 |non=>exact Gz pins s σ H x y u w Q I i g ⟨mu,S,[d,.non],r,l,.cons k (.cons a .nil),j,f,hc⟩
 |bl b=>
  cases d with
  |bl c=>
   cases f;cases k;cases a;cases i;cases g;exact is_bool ⟨.bl (c == b),H,I,rfl,hc.now (.bl _) j⟩
  |_=>cases f
 |_=>cases f
theorem mX:gp X (compareOp .IsNot) (r2 X.K (b2 g9)):=by
 intro pins s σ H x y u w Q I i g h;obtain⟨mu,S,d,e,r,l,k,a,j,f,hc⟩:=ot h;cases e with
 |non=>exact Eo pins s σ H x y u w Q I i g ⟨mu,S,[d,.non],r,l,.cons k (.cons a .nil),j,f,hc⟩
 |bl b=>
  cases d with
  |bl c=>
   cases f;cases k;cases a;cases i;cases g;exact isnot_bool ⟨.bl (!(c == b)),H,I,rfl,hc.now (.bl _) j⟩
  |_=>cases f
 |_=>cases f
def zC:FE:=fun _ S=>some (.ref S.length,S++[.dct []])
theorem xY{pos:Pos}:XE X (.Dict [] [] pos) zC:=⟨eU y0 <| by
 rintro σ H Q ⟨r,mu,S,d,f,e,b,c,hc⟩ p a;cases c;exact hc _ _ (mu++[p]) (Ext.new_ a) (.ref (fZ b.len p)) (b.new a ⟨[],d3,.nil⟩)⟩
def BY:List (FE×FE)->Ev->Sto->Option (List (D×D)×Sto)
 |[],_,S=>some ([],S)
 |(a,b)::l,r,S=>(a r S).bind fun p=>(b r p.2).bind fun q=>(BY l r q.2).map fun t=>((p.1,q.1)::t.1,t.2)
def vD:List (D×D)->Option (List (Key×D))
 |[]=>some []
 |(k,d)::l=>(sn k).bind fun k=>(vD l).map fun t=>(k,d)::t
def r9(l:List (FE×FE)):FE:=fun r S=>(BY l r S).bind fun p=>(vD p.1).bind fun kvs=>if kvs.length<=15 then some (.ref p.2.length,p.2++[.dct (kvs.foldl (fun acc kv=>e6 acc kv.1 kv.2) [])])else none
structure XP (X:Cx)(pos:Pos)(ks:List (Option Expr))(vs:List Expr)(l:List (FE×FE)):Prop where
 h:Hz X pos ks vs (l.map fun p=>(tM X.K p.1,tM X.K p.2))
theorem uS{pos:Pos}:XP X pos [] [] []:=⟨Bo⟩
theorem gi{pos:Pos}{k v:Expr}{ks:List (Option Expr)}{vs:List Expr}{a b:FE}{l:List (FE×FE)}(hk:XE X k a)(hv:XE X v b)(t:XP X pos ks vs l):XP X pos (some k::ks) (v::vs) ((a,b)::l):=⟨yQ hk.h hv.h t.h⟩
theorem yP{K:Fg1}{σ:L2.St}:∀ {l:List (FE×FE)} {r:Ev} {mu:List dE} {H:Hp} {S e:Sto} {ps:List (D×D)} {Q:List (V×V)->Hp->Prop},fJ K H mu r σ->Sim K H mu S->BY l r S=some (ps,e) ->
  (∀vs H' mu',Ext mu mu' H H'->Paired (fun(p:D×D) (q:V×V)=>eJ K H' mu' p.1 q.1/\eJ K H' mu' p.2 q.2) ps vs->Sim K H' mu' e->Q vs H')->pL (l.map fun p=>(tM K p.1,tM K p.2)) σ H Q
 |[],r,mu,H,S,e,ps,Q,he,hs,c,hc=>by cases c;exact hc [] H mu (.refl _ _) .nil hs
 |(a,b)::l,r,mu,H,S,e,ps,Q,he,hs,c,hc=>by
  obtain⟨⟨d,j⟩,z,c⟩:=oB1.mp c;obtain⟨⟨o,y⟩,x,c⟩:=oB1.mp c;obtain⟨⟨t,E⟩,w,c⟩:=oM1.mp c;cases c;refine⟨r,mu,S,d,j,he,hs,z,fun v H1 mu1 i n s=>⟨r,mu1,j,o,y,he.ext i,s,x,fun C H2 m h r2 u=>?_⟩⟩;refine yP ((he.ext i).ext h) u w fun vs k g f B A=>hc _ k g ((i.trans h).trans f) (.cons ⟨(n.ext h).ext f,r2.ext f⟩ B) A
theorem zL{K:Fg1}{H:Hp}{mu:List dE}:∀ {ps:List (D×D)} {vs:List (V×V)} {kvs:List (Key×D)},Paired (fun (p:D×D) (q:V×V)=>eJ K H mu p.1 q.1/\eJ K H mu p.2 q.2) ps vs->vD ps=some kvs ->
  ∃ws:List (Key×V),vs=ws.map (fun c=>(kV c.1,c.2))/\KR K H mu kvs ws:=by
 intro ps vs kvs i h
 induction i generalizing kvs with
 |nil=>cases h;exact⟨[],rfl,.nil⟩
 | @cons a b ps vs q t ih=>
  obtain⟨k,d⟩:=a;obtain⟨m,j⟩:=b;obtain⟨l,f,h⟩:=oB1.mp h;obtain⟨rest,g,h⟩:=oM1.mp h;cases h;obtain⟨ws,e,r⟩:=ih g;have:=kn q.1 f;dsimp only at this;subst this;exact⟨(l,j)::ws,by rw[mP1,<- e],.cons ⟨rfl,q.2⟩ r⟩
theorem zv{K:Fg1}{H:Hp}{mu:List dE}:∀{kvs:List (Key×D)} {ws:List (Key×V)} {acc:List (Key×D)} {acw:List (Key×V)},KR K H mu kvs ws->KR K H mu acc acw->KR K H mu (kvs.foldl (fun acc c=>e6 acc c.1 c.2) acc) (iy acw ws):=by
 intro kvs ws acc acw f h
 induction f generalizing acc acw with
 |nil=>exact h
 | @cons a b kvs ws r t ih=>
  obtain⟨k,d⟩:=a;obtain⟨g,v⟩:=b;obtain⟨e,r⟩:=r;dsimp only at e r;subst e;show KR K H mu (kvs.foldl _ (e6 acc k d)) (iy (hW acw k v) ws);exact ih (h.put r)
theorem ra{pos:Pos}{ks:List (Option Expr)}{vs:List Expr}{l:List (FE×FE)}(h:XP X pos ks vs l)(m:ks.all (·.isSome)=true:=by rfl)(J:ks.length=vs.length:=by rfl)(h0:ks≠[]:=by(intro z;cases z))(B:ks.length<=15:=by decide):XE X (.Dict ks vs pos) (r9 l):=
 ⟨eU (Bx h.h m J h0 B) <| by
  rintro σ H Q ⟨r,mu,S,d,R,I,D,f,hc⟩ p g;obtain⟨⟨ps,F⟩,N,f⟩:=oB1.mp f;obtain⟨kvs,L,f⟩:=oB1.mp f;dsimp only at f;split at f
  ·rename_i v;cases f;have C:Ext mu mu H (upd H p (.dK [])):=Ext.fresh g;refine yP (I.ext C) (D.fresh g) N fun vs H1 mu1 j M i=>?_;obtain ⟨k,t⟩:=j.held (a:=p) (o:=.dK []) d3 (D.notin g);obtain ⟨ws,O,rk⟩:=zL M L;refine ⟨k,ws,O,by rw [<- rk.length];exact v,?_⟩;have put:Ext (p::mu1) (p::mu1) H1 (upd H1 p (.dK (iy [] ws))):=Ext.put k trivial mS1;have K:=i.aside put.inner t;have y:Ext mu (mu1++[p]) H (upd H1 p (.dK (iy [] ws))):=by
    refine⟨j.pre.trans (bw _ _),fun b o e n=>?_,fun b ys e=>put.tup b ys (j.tup b ys (C.tup b ys e)),fun b o u e=>put.frz b o u (j.frz b o u (C.frz b o u e)),fun b w=>?_⟩
    ·have E:b≠p:=eD e g;rw[dY E];exact j.old b o (by rw[dY E];exact e) n
    ·rcases aG.mp w with z|z
     ·rcases j.new b z with q|q
      ·exact .inl q
      ·by_cases s:b=p
       ·exact .inr (by rw[s];exact g)
       ·rw[dY s]at q;exact .inr q
     ·have:b=p:=by simpa using z
      exact .inr (by rw[this];exact g)
   have x:=zv rk (acc:=[]) (acw:=[]) .nil;refine hc _ _ (mu1++[p]) y (.ref (fZ i.len p)) ⟨by rw[lA1,lA1,i.len];rfl,?_,fun n o b h1 h2=>?_⟩
   ·rw[bB];refine⟨i.nd,by simp,fun b P c hc e=>?_⟩;have:c=p:=by simpa using hc
    subst this;subst e;exact t P
   ·by_cases G:n<F.length
    ·rw[gL1 G]at h1;rw[gL1 (by rw[i.len];exact G)]at h2;exact(K.ob n o b h1 h2).mor [p]
    ·have A:n=F.length:=by
      have:=(gE1.mp h1).1;rw[lA1]at this;simp at this;lia
     subst A;rw[gR1 (nR1 _)]at h1;rw[<- i.len,gR1 (nR1 _)]at h2;simp at h1 h2;subst h1;subst h2;exact⟨_,d3,KR.mor [p] (Paired.mapP x fun _ _ z=>⟨z.1,z.2.exw put.inner⟩)⟩
  ·cases f⟩
end
section
variable{K:Fg1}{H H':Hp}{mu mu':List dE}{S:Sto}
end
theorem l7{X:Cx}(i j:Nat){x y:Str}{a b:Expr}{m:FA}{k n pt pos:Pos}{kt k2 pt2}(hc:X.calm=true)(hN:X.N.Nodup)(hi:X.N[i]? = some x)(s:X.N[j]? = some y)(l:i≠j)(hx:X.env.scope.names.lookup x=some .local)(hy:X.env.scope.names.lookup y=some .local)(ha:XA X [a,b] m)(hw:swappedStores [.Tuple [.Name x k,.Name y n] kt pt] (.Tuple [a,b] k2 pt2) X.env=pure (some [x,y]):=by rfl)(hs:swapsWithSole [.Tuple [.Name x k,.Name y n] kt pt] (.Tuple [a,b] k2 pt2) pos.line X.env=pure false:=by rfl):
  XS X (.Assign [.Tuple [.Name x k,.Name y n] kt pt] (.Tuple [a,b] k2 pt2) pos) (eh (eQ m) (gT 2 (gCs (gN i) (gCs (gN j) gNl)))):=
 ⟨hG (DZ hc hN hi s l hx hy ha.h hw hs) <| by
  rintro E σ H ⟨r,mu,S,f,w,B,o,hs,g,hc⟩;obtain⟨⟨d,A⟩,e,g⟩:=oB1.mp g;obtain⟨⟨r2,z⟩,c,g⟩:=oB1.mp g;cases g;obtain⟨⟨ds,C⟩,t,e⟩:=oB1.mp e;dsimp only at e;split at e
  ·cases e;refine⟨r,mu,S,ds,_,o,hs,t,fun vs H1 mu1 p h q=>?_⟩;dsimp only at c;rw[gT]at c;split at c
   ·cases h with
    |nil=>cases c
    |cons u h=>cases h with
     |nil=>cases c
     |cons v h=>cases h with
      |nil=>
       cases c;exact⟨_,_,rfl,hc _ H1 mu1 p (((o.ext p).set u).set v) q⟩
      |cons _ _=>cases c
   ·cases c
  ·cases e⟩
def Aa:G2:=fun d e S=>match d,e with
 | .int i,.int j=>some (.int (i+j),S)
 |_,_=>none
theorem B9{X:Cx}:HZ X .Add (r2 X.K (b2 Aa)):=by
 intro pins s σ H x y v u Q I f c h;obtain⟨mu,S,d,e,r,l,k,b,g,a,hc⟩:=ot h;unfold Aa at a;split at a
 ·rename_i i j;cases a;cases k;cases b;exact Ca pins s σ H _ _ v u Q I f c ⟨i,j,rfl,rfl,hc.now (.int _) g⟩
 ·cases a
end Mi
namespace HT
open PySem PySem.Spec PyProof.Rows
variable{prog:dF}{w:dH}{A:dG}{E:dB->dD->Prop}{s:dD}
theorem jn{t sl:dE}{items:Array dB}{e vu:dB}{lo hi:Option Int}{Q:dB->dD->Prop}(ht:IsTup s.heap t items)(hs:s.heap.IsSliceOf sl e vu .none)(pl:IsPart e lo)(i:IsPart vu hi)(hw:sIx items.size 0 lo=0/\sIx items.size items.size hi=items.size)(h:Q (.ref t) s):dM (model prog w) A (getItem (.ref t) (.ref sl)) Q E s:=by
 obtain⟨f,b,c,g⟩:=id hs;have d:s.TypeIs (.ref sl) "slice":=⟨f,b,c⟩;unfold getItem
 try with_reducible refine wpAny_holding ?_
 first|refine wB1 (wP1 ?_)|skip
 refine wB1 (wpAny_sequenceKey ht.typeIs (by decide) ?_);refine wB1 (wpAny_callSpecial?_slot (name:=Str.ofString "__getitem__") ht.typeIs PyProof.Rows.slot_tuple_getitem
  (wE1 PyProof.Rows.slot_tuple_getitem ht.typeIs entry_tuple_getitem ?_ (args_tuple_getitem _ _)))
 show dM _ _ (Builtin.Tuple.tupleItemsOf (.ref t) >>= _) _ _ s;refine wB1 (tupleItemsOf_ ht ?_);refine wB1 (wpAny_typeOf d ?_);rw[if_pos (by decide)];refine wB1 (hM hs pl i ?_);have a:((((sIx items.size 0 lo:Nat):Int) == 0&&(1:Int) == 1&&(sIx items.size items.size hi-sIx items.size 0 lo) == items.size)=true):=by
  rw[hw.1,hw.2];simp
 show dM _ _ (if(((sIx items.size 0 lo:Nat):Int) == 0&&(1:Int) == 1&&(sIx items.size items.size hi-sIx items.size 0 lo) == items.size)=true then _ else _) _ _ s;rw[if_pos a];refine wB1 ?_;unfold Builtin.Tuple.tupleIsExact;refine wB1 (wpAny_typeOf ht.typeIs (wP1 ?_));rw[if_pos (by decide)]
 first
  |exact wB1 (wpAny_rule (wP1 ⟨_,rfl,wP1 h⟩))
  |exact wB1 (wpAny_rule (wB1 (wP1 ⟨_,rfl,wP1 h⟩)))
end HT
namespace Mi
open PySem PySem.Spec PyProof.Rows L2
def Iy(K:Fg1):V->Option Int->Option Int->Hp->VK->Prop:=fun x lo hi H Q=>∃a xs,x = .ref a/\jl K H a xs/\(HT.sIx xs.length 0 lo=0/\HT.sIx xs.length xs.length hi=xs.length)/\Q (.ref a) H
section
variable{X:Cx}
theorem A8:AT X (Iy X.K):=by
 intro pins s σ H x v k vu lo hi sl Q I e f pl i h;obtain⟨a,xs,rfl,g,j,q⟩:=h;cases e;obtain⟨c,r,d,l⟩:=I.tuple g;have b:c.toArray.size=xs.length:=by rw[sT1];exact r.length.symm
 refine⟨"tuple",_,PyProof.Rows.slot_tuple_getitem.lookup,d.typeIs,?_⟩;exact HT.jn d f pl i (by rw[b];exact j) ⟨.ref a,H,I,rfl,q⟩
def yv(S:Sto)(d:D)(lo hi:Option Int):Option (D×Sto):=(d5 S d).map fun p=>if p.1=true then(.ref S.length,S++[.lst (Mi.sT p.2 lo hi)])else(.tup (Mi.sT p.2 lo hi),S)
def wS(m:FE)(lo hi:FO):FE:=fun r S=>(m r S).bind fun p=>(lo r p.2).bind fun a=>(hi r a.2).bind fun b=>yv b.2 p.1 a.1 b.1
theorem xr{xs:List D}{lo hi:Option Int}(h:HT.sIx xs.length 0 lo=0/\HT.sIx xs.length xs.length hi=xs.length):Mi.sT xs lo hi=xs:=by
 unfold Mi.sT;rw[h.1,h.2,bZ,Nat.sub_zero,b4]
theorem tN{e:Expr}{lo hi:Option Expr}{m:FE}{a b:FO}{pos p2:Pos}(h:XE X e m)(F:XO X lo a)(J:XO X hi b):XE X (.Subscript e (.Slice lo hi none p2) pos) (wS m a b):=
 ⟨eU (yY (AT.or A8 (AT.or DG A9)) h.h F.h J.h) <| by
  rintro σ H Q ⟨r,mu,S,d,R,s,I,f,hc⟩;obtain⟨⟨D,B⟩,N,f⟩:=oB1.mp f;obtain⟨⟨l,A⟩,M,f⟩:=oB1.mp f;obtain⟨⟨n,O⟩,L,f⟩:=oB1.mp f;refine⟨r,mu,S,D,B,s,I,N,fun v H1 mu1 x E G=>?_⟩;refine⟨r,mu1,B,l,A,s.ext x,G,M,fun H2 o u K=>?_⟩;refine⟨r,o,A,n,O,(s.ext x).ext u,K,L,fun P g z j=>?_⟩;obtain⟨⟨k,xs⟩,C,f⟩:=oM1.mp f;have w:=(x.trans u).trans z;obtain⟨c,vs,rfl,q,t⟩:=ev ((E.ext u).ext z) j C;cases k with
  |true=>
   cases f;right;right;exact⟨c,vs,rfl,q,fun p i=>hc _ _ (g++[p]) (w.trans (Ext.new_ i)) (.ref (fZ j.len p)) (j.newL (v6 t l n) i)⟩
  |false=>
   simp only[bF1,if_false]at f;cases f;by_cases y:HT.sIx xs.length 0 l=0/\HT.sIx xs.length xs.length n=xs.length
   ·left;rw[xr y]at hc;exact⟨c,vs,rfl,q,by rw[<- t.length];exact y,hc _ _ g w (.tup q t) j⟩
   ·right;left;exact⟨c,vs,rfl,q,by rw[<- t.length];exact y,fun p i=>hc _ _ g (w.trans (Ext.fresh i)) (.tup (jl.of d3) ((v6 t l n).ext (Ext.fresh i))) (j.fresh i)⟩⟩
end
mutual
inductive gD (h:dN):TK->dB->Prop
 |non:gD h .non .none
 |int (i t):gD h (.int i) (.int i t)
 |tup {a o items n xs}:h.get? a=some o->o.cls = .type "tuple"->o.data = .seq items n->gO h xs items.toList->gD h (.tup xs) (.ref a)
inductive gO (h:dN):List TK->List dB->Prop
 |nil:gO h [] []
 |cons {k v ks vs}:gD h k v->gO h ks vs->gO h (k::ks) (v::vs)
end
section
variable{prog:dF}{w:dH}{A:dG}{E:dB->dD->Prop}{s:dD}
theorem rG{Q:Int->dD->Prop}(h:Q 0xFCA86420 {s with toks:=s.toks+1}):dM (model prog w) A (pyHash .none) Q E s:=by
 have a:s.TypeIs .none "NoneType":=rfl;unfold pyHash
 first|unfold pyHashByItsType|skip
 have b:[Value.none].any Value.onHeap=false:=rfl;refine wB1 ?_;rw[cRoomFor,if_neg (by rw[b];exact aK)];refine wP1 ?_;refine wB1 (wpAny_specialOf a F.slot_NoneType_hash.lookup ?_);show dM _ _ (if(some (Value.builtin "NoneType.__hash__") == some Value.none)=true then _ else _) Q E s;rw[if_neg (by rw[beq_builtin_none];exact aK)];refine wB1 (wpAny_specialOf a F.slot_NoneType_hash.lookup ?_);show dM _ _ (callSpecialIfBoundUnlessNone? .none "__hash__" _ >>= _) Q E s;refine wB1 (wpAny_callSpecialIfBoundUnlessNone?_slot a F.slot_NoneType_hash (wE1 F.slot_NoneType_hash a F.entry_NoneType_hash (show dM _ _ (retInt 0xFCA86420) _ _ s from wpAny_ret_mkInt ?_) (F.args_NoneType_hash_1 _)));exact wP1 h
def qM(prog:dF)(w:dH)(k:TK):Prop:=∀{A:dG} {E:dB->dD->Prop} {s:dD} {v:dB} {Q:Int->dD->Prop},A.units+k.dep<cLine->gD s.heap k v->Q k.hash {s with toks:=s.toks+k.draws}->dM (model prog w) A (pyHash v) Q E s
theorem gO.split{h:dN}:∀{ks:List TK} {vs:List dB},gO h ks vs->ks.length=vs.length:=fun a=>a.rec (motive_1:=fun _ _ _=>True) (motive_2:=fun ks vs _=>ks.length=vs.length) trivial (fun _ _=>trivial) (fun _ _ _ _ _=>trivial) rfl (fun _ _ _ ih=>congrArg (· + 1) ih)
theorem zU{xs:List TK}(all:∀k∈xs,qM prog w k):qM prog w (.tup xs):=by
 intro A E s v Q r t h;cases t with
 | @tup a o m n _ q hc u hi=>
  have j:s.TypeIs (.ref a) "tuple":=⟨o,q,hc⟩;rw[TK.dep]at r;unfold pyHash
  first|unfold pyHashByItsType|skip
  first|refine wB1 (wpAny_cRoomFor_or (.inr (by lia)) ?_)|skip
  refine wB1 (wpAny_specialOf j F.slot_tuple_hash.lookup ?_);show dM _ _ (if(some (Value.builtin "tuple.__hash__") == some Value.none)=true then _ else _) Q E s;rw[if_neg (by rw[beq_builtin_none];exact aK)];refine wB1 (wpAny_specialOf j F.slot_tuple_hash.lookup ?_);show dM _ _ (callSpecialIfBoundUnlessNone? (.ref a) "__hash__" _ >>= _) Q E s;refine wB1 (wpAny_callSpecialIfBoundUnlessNone?_slot j F.slot_tuple_hash (wE1 F.slot_tuple_hash j F.entry_tuple_hash ?_ (F.args_tuple_hash_1 _)));show dM _ _ (Builtin.Tuple.tupleItemsOf (.ref a) >>= _) _ _ s;refine wB1 (wpAny_tupleItemsOf q u ?_);refine wB1 ?_;rw[<- Array.forIn_toList];refine wpAny_forIn_list _
   (fun rest (b:Array Int) s'=>∃done c,xs=done++c/\gO s.heap c rest/\b.toList=TK.hashes done/\s'={s with toks:=s.toks+TK.drawsAll done})
   _ ?_ ?_ _ _ ⟨[],xs,rfl,hi,rfl,rfl⟩
  ·rintro x rest b s' ⟨done,c,e,l,i,rfl⟩;cases l with
   | @cons k _ f _ h1 d=>
    have p:k∈xs:=by rw[e];simp
    refine wB1 (all k p (show A.in1.units+k.dep<cLine by have:=TK.dep_mem p;rw[show A.in1.units=A.units+1 from rfl];lia) h1 ?_)
    first
     |exact wP1 ⟨done++[k],f,by simp[e],d,by rw[TK.hashes_app];simp[i,TK.hashes],by rw[TK.draws_app];simp[TK.drawsAll,bm]⟩
     |exact wB1 (wP1 (wP1 ⟨done++[k],f,by simp[e],d,by rw[TK.hashes_app];simp[i,TK.hashes],by rw[TK.draws_app];simp[TK.drawsAll,bm]⟩))
  ·rintro b s' ⟨done,c,e,l,i,rfl⟩;cases l;rw[aM]at e;subst e;show dM _ _ (retInt (Builtin.Tuple.tupleHashOf b.toList)) _ _ _;rw[i];refine wpAny_ret_mkInt ?_;show dM _ _ (if(decide (-(2:Int)^63<=Builtin.Tuple.tupleHashOf (TK.hashes xs))&&decide (Builtin.Tuple.tupleHashOf (TK.hashes xs)<2^63))=true then _ else _) Q E _;rw[TK.hash,TK.draws]at h;unfold reduceHash at h;by_cases g:(decide (-(2:Int)^63<=Builtin.Tuple.tupleHashOf (TK.hashes xs))&&decide (Builtin.Tuple.tupleHashOf (TK.hashes xs)<2^63))=true
   ·rw[if_pos g];rw[if_pos g]at h;exact wP1 (by simpa[bm]using h)
   ·rw[if_neg g];rw[if_neg g]at h;exact wB1 (wpAny_rule (wP1 (by simpa[bm]using h)))
mutual
theorem vL:∀k:TK,qM prog w k
 | .non=>fun b a h=>by cases a;exact rG h
 | .int i=>fun b a h=>by cases a;exact wpAny_pyHash_int h
 | .tup xs=>zU (sC xs)
theorem sC:∀ks:List TK,∀k∈ks,qM prog w k
 |[],k,h=>by simp at h
 |x::xs,k,h=>by
  by_cases e:k=x
  ·rw[e];exact vL x
  ·exact sC xs k ((aF.mp h).resolve_left e)
end
end
theorem gD.inj{h:dN}:∀ {k k':TK} {v:dB},gD h k v->gD h k' v->k=k':=fun e=>e.rec (motive_1:=fun k v _=>∀ k',gD h k' v->k=k') (motive_2:=fun k v _=>∀ k',gO h k' v->k=k')
  (fun k' g=>by cases g;rfl) (fun _ _ k' g=>by cases g;rfl)
  (fun j l i n ih k' g=>by
   cases g with
   |tup c m d f=>
    rw[j]at c;cases c;rw[i]at d;cases d;rw[ih _ f])
  (fun k' g=>by cases g;rfl) (fun _ _ a b k' g=>by cases g with|cons r' t'=>rw[a _ r',b _ t']) _
theorem gD.keeps{h h':dN}{d:dE}{o:Obj}{es ep}(ho:h.get? d=some o)(hd:o.data = .dict es ep)(hs:Heap.SameBut d h h'):∀ {k:TK} {v:dB},gD h k v->gD h' k v:=fun g=>g.rec (motive_1:=fun k v _=>gD h' k v) (motive_2:=fun k v _=>gO h' k v) .non .int
  (fun{a} _ _ _ _ e f c _ ih=>.tup ((hs.2 a (fun z=>by subst z;rw[e]at ho;cases ho;rw[c]at hd;cases hd)).trans e) f c ih) .nil (fun _ _ a b=>.cons a b)
theorem gO.at{h:dN}:∀{ks:List TK} {vs:List dB} (j:Nat) (h1:j<ks.length) (h2:j<vs.length),gO h ks vs->gD h ks[j] vs[j]
 |_::_,_::_,0,_,_,.cons r _=>r
 |_::ks,_::vs,j+1,h1,h2,.cons _ t=>gO.at j (by simpa using h1) (by simpa using h2) t
theorem AF{xs ys:List TK}(b:xs.length=ys.length):((List.range (min xs.length ys.length)).all fun j=>decide (xs[j]?=ys[j]?))=decide (xs=ys):=by
 by_cases h:xs=ys
 ·subst h;simp
 ·rw[decide_eq_false h,List.all_eq_false];have:∃j,xs[j]? ≠ ys[j]?:=Classical.byContradiction fun z=>h (b5 fun j=>Classical.byContradiction fun q=>z ⟨j,q⟩);obtain⟨j,a⟩:=this;refine⟨j,?_,by simpa using a⟩;rw[aB,b,Nat.min_self];apply Classical.byContradiction;intro c;exact a (by rw[b6 (by lia),b6 (by lia)])
theorem Hc:∀(n:Nat) {k k':TK} {A:dG} {s:dD} {u v:dB},k.dep<=n->A.units+n<cLine->gD s.heap k u->gD s.heap k' v->SeqAt.EqAt A s u v (decide (k=k')):=by
 intro n
 induction n with
 |zero=>
  intro k k' A s u v H R r g;cases r with
  |tup _ _ _ _=>simp[TK.dep]at H
  |non=>
   cases g with
   |non=>simpa using SeqAt.EqAt.same (A:=A) (s:=s) Value.none
   |int i t=>simpa[uE]using jF (A:=A) (s:=s) (y:=.non) (x:=.int i) rfl ⟨t,rfl⟩ rfl rfl
   |tup e c d t=>simpa using(fh (A:=A) (s:=s) (b:=false) (v:=.non) (u:=.none) ⟨_,e,c,_,d⟩ rfl rfl (by lia)).2.1
  |int i t=>
   cases g with
   |non=>simpa[uE]using jF (A:=A) (s:=s) (y:=.int i) (x:=.non) ⟨t,rfl⟩ rfl rfl rfl
   |int j F=>
    have:=jF (A:=A) (s:=s) (y:=.int i) (x:=.int j) ⟨t,rfl⟩ ⟨F,rfl⟩ rfl rfl;have e:uE (.int i) (.int j)=decide (TK.int i=TK.int j):=by
     by_cases h:i=j
     ·subst h;simp[uE]
     ·rw[decide_eq_false (fun z=>h (by injection z))];simp[uE,h]
    rw[e]at this;exact this
   |tup e c d q=>simpa using(fh (A:=A) (s:=s) (b:=false) (v:=.int i) (u:=.int i t) ⟨_,e,c,_,d⟩ ⟨t,rfl⟩ rfl (by lia)).2.1
 |succ n ih=>
  intro k k' A s u v H R r g;cases r with
  |non=>
   cases g with
   |non=>simpa using SeqAt.EqAt.same (A:=A) (s:=s) Value.none
   |int i t=>simpa[uE]using jF (A:=A) (s:=s) (y:=.non) (x:=.int i) rfl ⟨t,rfl⟩ rfl rfl
   |tup e c d t=>simpa using(fh (A:=A) (s:=s) (b:=false) (v:=.non) (u:=.none) ⟨_,e,c,_,d⟩ rfl rfl (by lia)).2.1
  |int i t=>
   cases g with
   |non=>simpa[uE]using jF (A:=A) (s:=s) (y:=.int i) (x:=.non) ⟨t,rfl⟩ rfl rfl rfl
   |int j F=>
    have:=jF (A:=A) (s:=s) (y:=.int i) (x:=.int j) ⟨t,rfl⟩ ⟨F,rfl⟩ rfl rfl;have e:uE (.int i) (.int j)=decide (TK.int i=TK.int j):=by
     by_cases h:i=j
     ·subst h;simp[uE]
     ·rw[decide_eq_false (fun z=>h (by injection z))];simp[uE,h]
    rw[e]at this;exact this
   |tup e c d q=>simpa using(fh (A:=A) (s:=s) (b:=false) (v:=.int i) (u:=.int i t) ⟨_,e,c,_,d⟩ ⟨t,rfl⟩ rfl (by lia)).2.1
  | @tup a o f m xs B l p E=>
   cases g with
   |non=>simpa using(fh (A:=A) (s:=s) (b:=false) (v:=.non) (u:=.none) ⟨_,B,l,_,p⟩ rfl rfl (by lia)).1
   |int i t=>simpa using(fh (A:=A) (s:=s) (b:=false) (v:=.int i) (u:=.int i t) ⟨_,B,l,_,p⟩ ⟨t,rfl⟩ rfl (by lia)).1
   | @tup a2 S items2 m2 ys N O K I=>
    by_cases L:a=a2
    ·subst L;have:TK.tup xs=TK.tup ys:=gD.inj (.tup B l p E) (.tup N O K I);rw[decide_eq_true this];exact .same _
    ·refine .of_refs L ?_;have P:=E.split;have M:=I.split;have D:=SeqAt.RcAt.tuples (A:=A) (s:=s) (e:=fun j=>decide (xs[j]? = ys[j]?)) ⟨o,B,l,m,p⟩ ⟨S,N,O,m2,K⟩ (by lia) (fun j h1 h2=>by
      have G:j<xs.length:=by rw[P];simpa using h1
      have J:j<ys.length:=by rw[M];simpa using h2
      rw[TK.dep]at H;have V:=TK.dep_mem (bU G);have q:=ih (k:=xs[j]) (k':=ys[j]) (A:=A.in1) (s:=s) (by lia) (by show A.units+1+n<cLine;lia) (E.at j G (by simpa using h1)) (I.at j J (by simpa using h2));have e:decide (xs[j]?=ys[j]?)=decide (xs[j]=ys[j]):=by
       rw[gG1 G,gG1 J];simp
      rw[e];simpa using q)
     have Q:f.size=xs.length:=by rw[P];simp
     have T:items2.size=ys.length:=by rw[M];simp
     rw[Q,T]at D;have C:((List.range (min xs.length ys.length)).all (fun j=>decide (xs[j]?=ys[j]?))&&xs.length == ys.length)=decide (TK.tup xs=TK.tup ys):=by
      by_cases w:xs.length=ys.length
      ·rw[AF w,w,beq_self_eq_true,bO];by_cases h:xs=ys
       ·subst h;simp
       ·rw[decide_eq_false h,decide_eq_false (fun z=>h (by injection z))]
      ·have U:(xs.length == ys.length)=false:=by simpa using w
       rw[U,Bool.and_false,decide_eq_false (fun z=>w (by injection z with z;rw[z]))]
     rw[C]at D;exact D
theorem yG{prog:dF}{w:dH}:∀(n:Nat) {k:TK} {A:dG} {E:dB->dD->Prop} {s:dD} {v:dB} {Q:Bool->dD->Prop},k.dep<=n->gD s.heap k v->Q true s->dM (model prog w) A (eqIsQuiet n v) Q E s:=by
 intro n
 induction n with
 |zero=>
  intro k A E s v Q d r h;cases r with
  |non=>rw[eqIsQuiet_byValue 0 rfl];exact wP1 h
  |int i t=>rw[eqIsQuiet_byValue 0 rfl];exact wP1 h
  |tup _ _ _ _=>simp[TK.dep]at d
 |succ n ih=>
  intro k A E s v Q d r h;cases r with
  |non=>rw[eqIsQuiet_byValue _ rfl];exact wP1 h
  |int i t=>rw[eqIsQuiet_byValue _ rfl];exact wP1 h
  | @tup a o b m xs g l y z=>
   have f:s.TypeIs (.ref a) "tuple":=⟨o,g,l⟩;rw[TK.dep]at d;unfold eqIsQuiet;refine wB1 (wpAny_specialOf f F.slot_tuple_eq.lookup ?_);show dM _ _ (isInstance (.ref a) (.type "tuple") >>= _) _ _ s;refine wB1 (wpAny_isInstance f isSubtype_tuple_tuple ?_);simp only[b7,bF1,if_false];refine wB1 (wpAny_seqItems g y ?_);refine wB1 ?_;show dM _ _ (forIn b _ _) _ _ s;rw[<- Array.forIn_toList];refine wpAny_forIn_list _ (fun rest r s'=>r.1=none/\s'=s /\ ∃ks,gO s.heap ks rest/\TK.depAll ks<=n) _ ?_ ?_ _ _ ⟨rfl,rfl,xs,z,by lia⟩
   ·rintro v rest r s' ⟨c,rfl,ks,u,p⟩;cases u with
    | @cons j _ e _ x q=>
     rw[TK.depAll]at p;refine wB1 (ih (k:=j) (by lia) x ?_);simp only[b7,bF1,if_false];exact wP1 ⟨rfl,rfl,e,q,by lia⟩
   ·rintro⟨B,r2⟩ s' ⟨c,rfl,_⟩;simp only at c;subst c;exact wP1 h
def fP(prog:dF)(w:dH):HeapKind prog w TK where
 is:=fun h k a=>gD h k (.ref a)/\k.dep<=8
 hash:=TK.hash
 draws:=TK.draws
 room:=fun A=>A.units+8<cLine
 inj:=fun hx hy=>hx.1.inj hy.1
 keeps:=fun x ho hd hs=>⟨x.1.keeps ho hd hs,x.2⟩
 pyHash:=fun hu hk h=>vL _ (by have:=hk.2;omega) hk.1 h
 eqBool:=fun hu hx hy h=>Hc 8 hx.2 hu hx.1 hy.1 _ _ _ _ h
 quiet:=fun hk h=>yG 8 hk.2 hk.1 h
def Kc:G2:=fun o v S=>match o,v with
 | .ref n,.ref b=>match S[n]?,S[b]? with
  |some (.lst xs),some (.lst ys)=>if xs.length+ys.length<=dL then some (.non,S.set n (.lst (xs++ys)))else none
  |_,_=>none
 |_,_=>none
def qm(n:Nat)(k:Int):Nat:=if k<0 then(k+(n:Int)).toNat else min k.toNat n
def xc:G3:=fun o i v S=>match o,i with
 | .ref n,.int k=>match S[n]? with
  |some (.lst xs)=>if-(2^63)<=k/\k<2^63/\xs.length<dL then some (.non,S.set n (.lst (xs.take (qm xs.length k)++v::xs.drop (qm xs.length k))))else none
  |_=>none
 |_,_=>none
def xh(f:D->D->Option Bool)(x:D):List D->Option (List Bool)
 |[]=>some []
 |y::ys=>(f y x).bind fun b=>(xh f x ys).map (b :: ·)
def z0:G2:=fun o x S=>match o with
 | .ref n=>match S[n]? with
  |some (.lst ys)=>(xh (gr S eO) x ys).bind fun bs=>if bs.length<2^62 then(bs.findIdx? id).map fun j=>(.int (j:Nat),S)else none
  |_=>none
 |_=>none
theorem vT(f:D->D->Option Bool)(x:D):∀{ys:List D} {bs:List Bool},xh f x ys=some bs->bs.length=ys.length /\ ∀(j:Nat) (y:D) (k:Bool),ys[j]?=some y->bs[j]?=some k->f y x=some k
 |[],bs,h=>by cases h;exact⟨rfl,fun j y k h=>by simp at h⟩
 |y::ys,bs,h=>by
  rw[xh]at h;obtain⟨b,c,h⟩:=oB1.mp h;obtain⟨g,d,h⟩:=oM1.mp h;obtain⟨e,a1⟩:=vT f x d;subst h;refine⟨by simp[e],fun j=>?_⟩;cases j with
  |zero=>intro a k h1 h2;simp at h1 h2;subst h1;subst h2;exact c
  |succ j=>intro a k h1 h2;exact a1 j a k (by simpa using h1) (by simpa using h2)
section
open PySem.MeetsSeq PySem.MeetsSeq2 PySem.MeetsSeq3 PySem.SeqRoads2
theorem sB{l:dE}{its:Array dB}{n:Nat}{x:dB}{e:Nat->Bool}{top:Int}{j:Nat}(f:j<its.size)(ht:(j:Int)<top)(c:e j=true):∀ (k i:Nat),i+k=j->(∀ m,i<=m->m<j->e m=false) ->
  Meets (Builtin.«list.index.loop» ⟨[.ref l,x,rawInt i,rawInt top],[]⟩)
   (fun A R s=>s.heap.get? l=some {cls:=.type "list",data:=.seq its n}/\(∀m (h:m<its.size),SeqAt.EqAt A.in1 s its[m] x (e m))/\R (.ok (.ret (.int j s.toks))) {s with toks:=s.toks+1})
 |0,i,hk,hno,prog,w,A,R,⟨hp,g,d,tk,os⟩,⟨hl,he,h⟩=>by
  have o:i=j:=by lia
  subst o
  wp_walk using AutoSeq1.wpAny_loadPart' hl
  rw[show(if(i:Int)<top then its[((i:Nat):Int).toNat]? else none)=some its[i] by simp[ht,f]];refine wB1 (he i f prog w _ _ ?_);rw[c]
  wp_walk
  exact h
 |k+1,i,hk,hno,prog,w,A,R,⟨hp,g,d,tk,os⟩,⟨hl,he,h⟩=>by
  have h1:i<its.size:=by lia
  have h2:(i:Int)<top:=by lia
  wp_walk using AutoSeq1.wpAny_loadPart' hl
  rw[show(if(i:Int)<top then its[((i:Nat):Int).toNat]? else none)=some its[i] by simp[h1,h2]];refine wB1 (he i h1 prog w _ _ ?_);rw[hno i (nR1 i) (by lia)]
  wp_walk
  rw[show((i:Int)+1)=((i+1:Nat):Int) by push_cast;rfl];have z:=sB (l:=l) (n:=n) (x:=x) f ht c k (i+1) (by lia) (fun m a b=>hno m (by lia) b) prog w A R _ ⟨hl,he,h⟩;exact⟨plainId_quiet plain_index_loop _,wD1 entry_index_loop (by rw[Around.under_plainId plain_index_loop _];exact z)⟩
theorem zS{l:dE}{its:Array dB}{n:Nat}{x:dB}{e:Nat->Bool}{j:Nat}(o:j<its.size)(ht:(j:Int)<2^63-1)(a:e j=true)(c:∀ m,m<j->e m=false):
  Meets (Builtin.«list.index» ⟨[.ref l,x],[]⟩)
   (fun A R s=>s.heap.get? l=some {cls:=.type "list",data:=.seq its n}/\(∀m (h:m<its.size),SeqAt.EqAt A.in1 s its[m] x (e m))/\R (.ok (.ret (.int j s.toks))) {s with toks:=s.toks+1}):=by
 intro prog w A R ⟨p,g,d,tk,q⟩ ⟨f,k,h⟩
 wp_walk using AutoSeq1.wpAny_loadPart' f
 rw[show((fun i:Int=>if i<0 then max 0 (i+(its.size:Int))else i) ((none:Option Int).getD 0))=((0:Nat):Int) by simp,show((fun i:Int=>if i<0 then max 0 (i+(its.size:Int))else i) ((none:Option Int).getD (2^63-1)))=2^63-1 by simp];have z:=sB (l:=l) (n:=n) (x:=x) o ht a j 0 (by lia) (fun m _ b=>c m b) prog w A R _ ⟨f,k,h⟩;exact⟨plainId_quiet plain_index_loop _,wD1 entry_index_loop (by rw[Around.under_plainId plain_index_loop _];exact z)⟩
end
section
variable{X:Cx}
theorem Ix{K:Fg1}{H:Hp}{Q:VK}{f:G3}{xs:List V}(h:rN K (b3 f) xs H Q):∃x y z mu S d e g r b,xs=[x,y,z]/\eJ K H mu d x/\eJ K H mu e y/\eJ K H mu g z/\Sim K H mu S/\f d e g S=some (r,b)/\n6 K mu H r b Q:=by
 obtain⟨mu,S,ds,r,b,j,k,a,hc⟩:=h;cases j with
 |nil=>cases a
 |cons q t=>cases t with
  |nil=>cases a
  |cons c t=>cases t with
   |nil=>cases a
   |cons i t=>cases t with
    |nil=>exact⟨_,_,_,mu,S,_,_,_,r,b,rfl,q,c,i,k,a,hc⟩
    |cons l t=>cases a
theorem FX(hu:X.A.units+64<cLine):Df X "list.index" (fun x xs H Q=>rN X.K (b2 z0) (x::xs) H Q):=by
 intro pins s σ H x xs v us Q I D N h;obtain⟨W,y,mu,S,d,e,V,S',w,B,r2,f,a,hc⟩:=yC h;cases w;unfold z0 at a;split at a
 ·rename_i n;split at a
  ·rename_i ys C;obtain⟨bs,L,a⟩:=oB1.mp a;split at a
   ·rename_i r;obtain⟨j,p,a⟩:=oM1.mp a;cases a;cases B with
    |ref R=>
     obtain⟨vs,K,t⟩:=f.lst C R;cases D;obtain⟨u,rfl,M⟩:=N.one;obtain⟨z,b,T,c,Z,e⟩:=I.lstM K;obtain⟨l1,l⟩:=vT _ _ L;have l2:=t.length;have Y:=c.length;rw[b8]at p;obtain⟨E,k,o⟩:=p;have g:∀m (a:m<b.toArray.size),SeqAt.EqAt X.A.in1 s b.toArray[m] u (bs[m]?.getD false):=fun m a=>by
      have m1:m<b.length:=by simpa using a
      obtain⟨U,P,J⟩:=t.getV (i:=m) (v:=vs[m]'(by lia)) (gG1 (by lia));obtain⟨w',q,O⟩:=c.get (i:=m) (x:=vs[m]'(by lia)) (gG1 (by lia));have m2:m<bs.length:=by lia
      have G:b.toArray[m]=w':=by
       have:=gG1 m1;rw[this]at q;simpa using q
      rw[G,gG1 m2];exact(nw I f eO (A:=X.A.in1) (by show X.A.units+1+60<cLine;lia) J r2 O M (l m U bs[m] P (gG1 m2))).1
     refine call_meets F.slot_list_index ⟨_,e,rfl⟩ F.entry_list_index (F.args_list_index_2 _ _)
      (zS (n:=T) (e:=fun m=>bs[m]?.getD false) (j:=j) (by simp;lia) (by lia) ?_ ?_) ⟨e,g,?_⟩
     ·simp only[gG1 E,b9];simpa using k
     ·intro m a;have m2:m<bs.length:=by lia
      have:=o m a;simp only[gG1 m2,b9];simpa using this
     ·exact⟨.int j,H,I.tok _,⟨_,rfl⟩,hc.now (.int _) f⟩
   ·cases a
  ·cases a
 ·cases a
theorem CT:Df X "list.insert" (fun x xs H Q=>rN X.K (b3 xc) (x::xs) H Q):=by
 intro pins s σ H x xs v P Q I r B h;obtain⟨G,y,z,mu,S,d,e,g,E,O,o,p,r2,D,l,b,hc⟩:=Ix h;cases o;unfold xc at b;split at b
 ·rename_i n k;split at b
  ·rename_i ys q;split at b
   ·rename_i m;cases b;cases p with
    |ref i=>
     cases r2;obtain⟨vs,f,t⟩:=l.lst q i;cases r;obtain⟨J,j,rfl,w,A⟩:=B.two;obtain⟨tk,rfl⟩:=w;obtain⟨N,a,C,c,L,e⟩:=I.lstM f;have M:=t.length;have K:=c.length;refine call_meets F.slot_list_insert ⟨_,e,rfl⟩ F.entry_list_insert (F.args_list_insert_3 _ _ _)
      (AutoSeq1.list_insert_list_int_val_1 _ a.toArray C k tk j (by rw[fitsIndex_both m.1 m.2.1];exact aK) (by rw[sT1];omega)) ⟨e,?_⟩
     have x:=Ext.put (u:=.lst (vs.take (qm ys.length k)++z::vs.drop (qm ys.length k))) f trivial (gM1 i);refine⟨.non,_,I.lset (its':=a.take (qm ys.length k)++j::a.drop (qm ys.length k)) f e ?_ ((c.take _).append (.cons A (c.drop _))) ?_,rfl,hc _ _ mu x .non (l.putL ((t.take _).append (.cons D (t.drop _))) i f)⟩
     ·rw[show ys.length=a.length by omega];simp[qm];exact ca (by simp)
     ·simp;omega
   ·cases b
  ·cases b
 ·cases b
end
mutual
def kD:D->Option TK
 | .non=>some .non
 | .int i=>some (.int i)
 | .tup xs=>(GR xs).map .tup
 |_=>none
def GR:List D->Option (List TK)
 |[]=>some []
 |x::xs=>(kD x).bind fun k=>(GR xs).map (k :: ·)
end
def keyT:D->Option TK
 | .tup xs=>(GR xs).bind fun ks=>if(TK.tup ks).dep<=8 then some (.tup ks)else none
 |_=>none
mutual
theorem GS:∀{d:D} {k:TK},kD d=some k->tkD k=d
 | .non,k,h=>by cases h;rfl
 | .int i,k,h=>by cases h;rfl
 | .tup xs,k,h=>by
  rw[kD]at h;obtain⟨ks,e,h⟩:=oM1.mp h;subst h;rw[tkD,ut e]
 | .bl _,k,h=>by simp[kD]at h
 | .str _,k,h=>by simp[kD]at h
 | .rol _,k,h=>by simp[kD]at h
 | .fn _,k,h=>by simp[kD]at h
 | .ref _,k,h=>by simp[kD]at h
theorem ut:∀{ds:List D} {ks:List TK},GR ds=some ks->hD ks=ds
 |[],ks,h=>by cases h;rfl
 |x::xs,ks,h=>by
  rw[GR]at h;obtain⟨k,b,h⟩:=oB1.mp h;obtain⟨t,a,h⟩:=oM1.mp h;subst h;rw[hD,GS b,ut a]
end
theorem vE{d:D}{k:TK}(h:keyT d=some k):tkD k=d/\k.dep<=8 /\ ∃xs,k = .tup xs:=by
 cases d with
 |tup xs=>
  rw[keyT]at h;obtain⟨ks,e,h⟩:=oB1.mp h;split at h
  ·rename_i a;cases h;exact⟨by rw[tkD,ut e],a,ks,rfl⟩
  ·cases h
 |_=>cases h
section
variable{X:Cx}{pins:List (dE×Obj)}{σ:L2.St}{H:Hp}{s:dD}{mu:List dE}
mutual
theorem uX(I:Inv X pins σ H s):∀(k:TK) {v:V} {u:dB},eJ X.K H mu (tkD k) v->d6 v u->gD s.heap k u
 | .non,v,u,r,q=>by
  rw[tkD]at r;cases r;cases q;exact .non
 | .int i,v,u,r,q=>by
  rw[tkD]at r;cases r;obtain⟨t,rfl⟩:=q;exact .int i t
 | .tup xs,v,u,r,q=>by
  rw[tkD]at r;cases r with
  |tup h t=>
   cases q;obtain⟨c,d,⟨o,e,b,n,a⟩,_⟩:=I.tuple h;exact .tup e b a (by simpa using yg I xs t d)
theorem yg(I:Inv X pins σ H s):∀(ks:List TK) {vs:List V} {a:List dB},d0 X.K H mu (hD ks) vs->ei vs a->gO s.heap ks a
 |[],vs,a,r,q=>by rw[hD]at r;cases r;cases q;exact .nil
 |k::ks,vs,a,r,q=>by
  rw[hD]at r;cases r with
  |cons r t=>cases q with
   |cons q p=>exact .cons (uX I k r q) (yg I ks t p)
end
theorem ue{α β γ δ:Type}{F:α->β->Prop}{G:γ->δ->Prop}{f:α->γ}{g:β->δ}:∀{l₁:List α} {l₂:List β},Paired F l₁ l₂->(∀a b,F a b->G (f a) (g b))->Paired G (l₁.map f) (l₂.map g):=by
 intro a b h g
 induction h with
 |nil=>exact .nil
 |cons r t ih=>exact .cons (g _ _ r) ih
theorem uf{α β:Type}{F:α->β->Prop}:∀{l₁ f:List α} {l₂ e:List β},Paired F l₁ l₂->Paired F f e->Paired F (l₁++f) (l₂++e):=by
 intro a b c d h g
 induction h with
 |nil=>exact g
 |cons r t ih=>exact .cons r ih
theorem KT.length{K:Fg1}:∀{ks:List (TK×D)} {ws:List (TK×dE×dB)},KT K H mu ks ws->ks.length=ws.length:=fun h=>Paired.length h
theorem KT.mem{K:Fg1}:∀{ks:List (TK×D)} {ws:List (TK×dE×dB)},KT K H mu ks ws -> ∀x∈ws,x.1.dep<=8/\eJ K H mu (tkD x.1) (.ref x.2.1):=by
 intro ks ws a x h
 induction a with
 |nil=>cases h
 |cons r t ih=>
  rcases aF.mp h with e|e
  ·subst e;rw[<- r.1];exact⟨r.2.1,r.2.2.1⟩
  ·exact ih e
theorem KT.look{K:Fg1}{k:TK}:∀ {ks:List (TK×D)} {ws:List (TK×dE×dB)},KT K H mu ks ws ->
  (∀d,d2 ks k=some d -> ∃p v,atKey ws k=some p/\d6 v p.2/\eJ K H mu d v)/\(atKey ws k).isSome=(d2 ks k).isSome:=by
 intro ks ws h
 induction h with
 |nil=>exact⟨fun d h=>by simp[d2]at h,rfl⟩
 | @cons p i ks ws r t ih=>
  obtain⟨a,f⟩:=p;obtain⟨l,a2,e⟩:=i;obtain⟨z,d,q,v,c,r⟩:=r;dsimp only at z q c r;subst z;obtain⟨h1,h2⟩:=ih;by_cases b:a=k
  ·subst b;refine⟨fun d h=>?_,by simp[atKey,d2]⟩;have:f=d:=by simpa[d2]using h
   subst this;exact⟨(a2,e),v,by simp[atKey],c,r⟩
  ·have j:d2 ((a,f)::ks) k=d2 ks k:=by simp[d2,bc,b]
   have g:atKey ((a,a2,e)::ws) k=atKey ws k:=by simp[atKey,bc,b]
   rw[j,g];exact⟨h1,h2⟩
theorem KT.put{K:Fg1}{k:TK}{d:D}{v:V}{a:dE}{u:dB}(hk:k.dep<=8)(l:eJ K H mu (tkD k) (.ref a))(g:d6 v u)(q:eJ K H mu d v){ks:List (TK×D)}{ws:List (TK×dE×dB)}(h:KT K H mu ks ws):KT K H mu (e6 ks k d) (storedH ws k a u):=by
 unfold e6 storedH;have e:(ks.any fun p=>decide (p.1=k))=(atKey ws k).isSome:=by
  rw[h.look.2];unfold d2;rw[bg,bS,List.find?_isSome,bT]
 rw[e];split
 ·clear e;refine ue h fun p w ⟨z,i,f,m,c,j⟩=>?_;unfold putAt;by_cases b:p.1=k
  ·rw[if_pos b,if_pos (by rw[<- z];exact b)];exact⟨z,i,f,v,g,q⟩
  ·rw[if_neg b,if_neg (by rw[<- z];exact b)];exact⟨z,i,f,m,c,j⟩
 ·exact uf h (.cons ⟨rfl,hk,l,v,g,q⟩ .nil)
theorem sQ(I:Inv X pins σ H s){a:dE}{xs:List (TK×dE×dB)}{kvs:List (TK×D)}(e:H a=some (.ext (gb a xs)))(h:KT X.K H mu kvs xs):(a == sysModules)=false/\s.heap.DictOfH (fP X.prog X.w) a xs:=by
 obtain⟨⟨h1,h2,o,es,ep,g,d,c,f⟩,_⟩:=(show eN X.prog X.w H s.heap a (.ext (gb a xs))from I.hok a _ e);exact⟨h1,o,es,ep,g,d,c,f,fun x b=>⟨uX I _ (h.mem x b).2 rfl,(h.mem x b).1⟩,h2⟩
theorem qv{h:dN}{a:dE}{xs:List (TK×dE×dB)}(hd:(a == sysModules)=false)(hm:h.DictOfH (fP X.prog X.w) a xs):eN X.prog X.w H h a (.ext (gb a xs)):=by
 obtain⟨o,es,ep,d,g,f,k,p,j⟩:=hm;refine⟨⟨hd,j,o,es,ep,d,g,f,k⟩,⟨o,d⟩,fun m n ⟨a1,a2,o',c,b,b3,i,e,l⟩ st=>⟨a1,a2,o',c,b,st _ b3,i,e,l⟩⟩
end
def i0:G2:=fun d e S=>match e with
 | .ref n=>match S[n]? with
  |some (.dcT kvs)=>(keyT d).map fun k=>(.bl (d2 kvs k).isSome,S)
  |_=>uB d e S
 |_=>uB d e S
def fG:G2:=fun d e S=>match e with
 | .ref n=>match S[n]? with
  |some (.dcT kvs)=>(keyT d).map fun k=>(.bl (!(d2 kvs k).isSome),S)
  |_=>iB d e S
 |_=>iB d e S
def dW:G2:=fun d e S=>match d with
 | .ref n=>match S[n]? with
  |some (.dcT kvs)=>(keyT e).bind fun k=>(d2 kvs k).map fun x=>(x,S)
  |some (.dcF kvs)=>(keyT e).bind fun k=>(d2 kvs k).map fun x=>(x,S)
  |_=>lf d e S
 |_=>lf d e S
def iZ:G3:=fun o i v S=>match o with
 | .ref n=>match S[n]? with
  |some (.dcT kvs)=>(keyT i).bind fun k=>if kvs.length<dL then some (.non,S.set n (.dcT (e6 kvs k v)))else none
  |some (.dct [])=>match keyT i with
   |some k=>some (.non,S.set n (.dcT [(k,v)]))
   |none=>lI o i v S
  |_=>lI o i v S
 |_=>lI o i v S
section
variable{X:Cx}
theorem lH{κ:Type}[DecidableEq κ](kvs:List (κ×D))(k:κ)(d:D):(e6 kvs k d).length<=kvs.length+1:=by
 unfold e6;split
 ·rw[lM1];lia
 ·simp
theorem ny{h:dN}{a:dE}(dd:h.DictOf (eW X.prog X.w) a []):h.DictOfH (fP X.prog X.w) a []:=by
 obtain⟨o,es,ep,h1,h2,c,_,b,_⟩:=dd;have e:es.toList=[]:=by
  generalize es.toList=l at b;cases b;rfl
 exact⟨o,es,ep,h1,h2,c,e,(fun x d=>by simp at d),bq⟩
theorem iq{A:dG}(a:A.units+64<cLine):(fP X.prog X.w).room A.in1:=by
 show A.units+1+8<cLine;lia
theorem iW{pins:List (dE×Obj)}{σ:L2.St}{H:Hp}{s:dD}{mu:List dE}(I:Inv X pins σ H s){d:D}{v:V}{u:dB}{k:TK}(r:eJ X.K H mu d v)(q:d6 v u)(h:keyT d=some k):
  ∃a,u = .ref a/\v = .ref a/\eJ X.K H mu (tkD k) (.ref a)/\k.dep<=8/\(fP X.prog X.w).is s.heap k a:=by
 obtain⟨e,b,xs,ex⟩:=vE h;subst e;have is:=uX I k r q;subst ex;cases id is with
 | @tup a _ _ _ _ _ _ _ _=>
  rw[tkD]at r;cases r with
  |tup h1 h2=>
   cases q;exact⟨a,rfl,rfl,by rw[tkD];exact .tup h1 h2,b,is,b⟩
theorem oD(l:X.A.units+64<cLine):gp X (compareOp .In) (r2 X.K (b2 i0)):=by
 intro pins s σ H x y u w Q I j i h;obtain⟨mu,S,d,e,r,g,o,c,f,b,hc⟩:=ot h;have back:uB d e S=some (r,g)->dM (model X.prog X.w) X.A (compareOp .In u w) (EP X pins σ Q) X.xe s:=fun b=>GA l pins s σ H x y u w Q I j i ⟨mu,S,[d,e],r,g,.cons o (.cons c .nil),f,b,hc⟩;unfold i0 at b;split at b
 ·rename_i n;split at b
  ·rename_i kvs q;obtain⟨k,p,b⟩:=oM1.mp b;cases b;cases c with
   |ref t=>
    cases i;obtain⟨xs,v,m,_⟩:=f.dcT q t;obtain⟨z,dd⟩:=sQ I v m;obtain⟨a,rfl,rfl,_,_,hi⟩:=iW I o j p;refine wpAny_in_heap (iq l) hi z dd ?_;exact⟨.bl (atKey xs k).isSome,H,I.tok _,rfl,by rw[m.look.2];exact hc.now (.bl _) f⟩
  ·exact back b
 ·exact back b
theorem mW(l:X.A.units+64<cLine):gp X (compareOp .NotIn) (r2 X.K (b2 fG)):=by
 intro pins s σ H x y u w Q I j i h;obtain⟨mu,S,d,e,r,g,o,c,f,b,hc⟩:=ot h;have back:iB d e S=some (r,g)->dM (model X.prog X.w) X.A (compareOp .NotIn u w) (EP X pins σ Q) X.xe s:=fun b=>zj l pins s σ H x y u w Q I j i ⟨mu,S,[d,e],r,g,.cons o (.cons c .nil),f,b,hc⟩;unfold fG at b;split at b
 ·rename_i n;split at b
  ·rename_i kvs q;obtain⟨k,p,b⟩:=oM1.mp b;cases b;cases c with
   |ref t=>
    cases i;obtain⟨xs,v,m,_⟩:=f.dcT q t;obtain⟨z,dd⟩:=sQ I v m;obtain⟨a,rfl,rfl,_,_,hi⟩:=iW I o j p;refine wpAny_notIn_heap (iq l) hi z dd ?_;exact⟨.bl (!(atKey xs k).isSome),H,I.tok _,rfl,by rw[m.look.2];exact hc.now (.bl _) f⟩
  ·exact back b
 ·exact back b
theorem Fg{pins:List (dE×Obj)}{σ:L2.St}{H:Hp}{s:dD}{mu:List dE}(I:Inv X pins σ H s){a:dE}{xs:List (TK×dE×dB)}{kvs:List (TK×D)}(e:∃o u,H a=some (.frz o u)/\wp a xs o)(h:KT X.K H mu kvs xs):(a == sysModules)=false/\s.heap.DictOfH (fP X.prog X.w) a xs:=by
 obtain⟨o,u,e,h1,h2,d,es,ep,c,f⟩:=e;obtain⟨g,_⟩:=(show eN X.prog X.w H s.heap a (.frz o u)from I.hok a _ e);exact⟨h1,o,es,ep,g,d,c,f,fun x b=>⟨uX I _ (h.mem x b).2 rfl,(h.mem x b).1⟩,h2⟩
theorem qP(G:X.A.units+64<cLine):Dg X (r2 X.K (b2 dW)):=by
 intro value c pins s σ H x y v u Q I C F h q;obtain⟨mu,S,d,e,r,E,A,o,t,f,hc⟩:=ot h;have back:lf d e S=some (r,E)->dM (model X.prog X.w) X.A (subscriptTail value c v u) (EP X pins σ Q) X.xe s:=fun f=>FQ G value c pins s σ H x y v u Q I C F ⟨mu,S,[d,e],r,E,.cons A (.cons o .nil),t,f,hc⟩ q;have i:∀kvs a xs,v = .ref a->KT X.K H mu kvs xs->s.heap.DictOfH (fP X.prog X.w) a xs->((keyT e).bind fun k=>(d2 kvs k).map fun x=>(x,S))=some (r,E)->dM (model X.prog X.w) X.A (subscriptTail value c v u) (EP X pins σ Q) X.xe s:=fun kvs a xs L l dd f=>by
  obtain⟨k,K,f⟩:=oB1.mp f;obtain⟨z,N,f⟩:=oM1.mp f;cases f;subst L;obtain⟨b,rfl,rfl,_,_,hi⟩:=iW I o F K;obtain⟨p,M,ep,P,O⟩:=l.look.1 _ N;have J:=dd.typeIs;unfold subscriptTail;refine wB1 ?_;rw[getitemInPython_of_ne J.not_modules];refine wB1 (wpAny_specialOf J PySem.F.slot_dict_getitem.lookup ?_);have j:dM (model X.prog X.w) X.A (subscripted c false (.ref a) (.ref b)) (fun r g=>dM (model X.prog X.w) X.A (letTemporaryGo value (.ref a) r >>= fun _=>pure r) (EP X pins σ Q) X.xe g) X.xe s:=by
   rw[q];exact wpAny_operating (wpAny_mono (wpAny_getItem_heap (iq G) hi dd ep (show EP X pins σ Q p.2 _ from⟨M,H,I.tok _,P,hc.now O t⟩)) (fun r g m=>wB1 (wpAny_letTemporaryGo (wP1 m))) fun _ _ x=>x)
  first
   |exact wP1 (wB1 j)
   |exact wB1 j
   |exact j
 unfold dW at f;split at f
 ·rename_i n;split at f
  ·rename_i kvs B;cases A with
   | @ref _ a D=>
    cases C;obtain⟨xs,w,l,_⟩:=t.dcT B D;exact i kvs a xs rfl l (sQ I w l).2 f
  ·rename_i kvs B;cases A with
   | @ref _ a D=>
    cases C;obtain⟨xs,w,l,_⟩:=(show jH X.K H mu a (.dcF kvs)from t.ob n _ a B D);exact i kvs a xs rfl l (Fg I w l).2 f
  ·exact back f
 ·exact back f
theorem pT(D:X.A.units+64<cLine):uO X (rU X.K (b3 iZ)):=by
 intro pins s σ H o i v O P u Q I E B t h;obtain⟨mu,S,ds,d,R,W,l,a,hc⟩:=id h;cases W with
 |cons F T=>cases T with
  |cons K Y=>cases Y with
   |cons w U=>
    cases U;rename_i M N L;dsimp only[b3]at a;have back:lI M N L S=some (d,R)->dM (model X.prog X.w) X.A (setItem O P u) (fun _ s'=>∃H',Inv X pins σ H' s'/\Q H') X.xe s:=fun a=>DK D pins s σ H o i v O P u Q I E B t ⟨mu,S,[M,N,L],d,R,.cons F (.cons K (.cons w .nil)),l,a,hc⟩;unfold iZ at a;split at a
    ·rename_i n;split at a
     ·rename_i kvs C;obtain⟨k,y,a⟩:=oB1.mp a;split at a
      ·rename_i Z;cases a;cases F with
       | @ref _ j g=>
        cases E;obtain⟨xs,p,m,V⟩:=l.dcT C g;obtain⟨G,dd⟩:=sQ I p m;obtain⟨b,rfl,rfl,rk,r,hi⟩:=iW I K B y;refine wpAny_setItem_heap (hsz:=V) (iq D) hi dd fun h' e c=>?_;have f:∃q,h'.get? _=some q:=let ⟨q,_,_,f,_⟩:=e;⟨q,f⟩
        have put:Ext mu mu H (upd H j (.ext (gb j (storedH xs k b u)))):=Ext.put p trivial (gM1 g);refine⟨_,kF I (by rw[p];exact True.intro) c f (qv G e),hc _ mu put (l.put g p trivial ⟨_,d3,((m.put r rk t w).ext put),?_⟩)⟩;rw[<- (m.put r rk t w).length];have:=lH kvs k L;lia
      ·cases a
     ·rename_i C;split at a
      ·rename_i k y;cases a;cases F with
       | @ref _ j g=>
        cases E;obtain⟨ws,x,m⟩:=l.dct C g;cases m;obtain⟨z,G,vs,A,dd⟩:=vY I.hok x;cases A;obtain⟨b,rfl,rfl,rk,r,hi⟩:=iW I K B y;have J:s.heap.DictOfH (fP X.prog X.w) _ []:=ny dd;refine wpAny_setItem_heap (hsz:=bi _) (iq D) hi J fun h' e c=>?_;have f:∃q,h'.get? _=some q:=let ⟨q,_,_,f,_⟩:=e;⟨q,f⟩
        have put:Ext mu mu H (upd H j (.ext (gb j (storedH [] k b u)))):=Ext.put x trivial (gM1 g);exact⟨_,kF I (by rw[x];exact True.intro) c f (qv G e),hc _ mu put (l.put g x trivial ⟨_,d3,KT.ext put (.cons ⟨rfl,r,rk,v,t,w⟩ .nil),(show 1<=dL by decide)⟩)⟩
      ·exact back a
     ·exact back a
    ·exact back a
end
def tW(S:Sto)(d:D):Option Bool:=match d with
 | .non=>some false
 | .bl b=>some b
 | .int i=>some (i != 0)
 | .str y=>if y.length<=dL then some ((y.length:Int) != 0)else none
 | .ref n=>match S[n]? with
  |some (.dct kvs)=>some (!kvs.isEmpty)
  |_=>(d5 S d).map fun p=> !p.2.isEmpty
 |_=>(d5 S d).map fun p=> !p.2.isEmpty
noncomputable def GK (m:FE):FT:=fun r S=>(m r S).bind fun p=>(tW p.2 p.1).map fun b=>(b,p.2)
section
variable{K:Fg1}{H:Hp}{mu:List dE}{S:Sto}
theorem pR{d:D}{v:V}{b:Bool}(r:eJ K H mu d v)(s:Sim K H mu S)(h:((d5 S d).map fun p=> !p.2.isEmpty)=some b):CL K v H b:=by
 obtain⟨⟨k,xs⟩,e,h⟩:=oM1.mp h;obtain⟨a,vs,rfl,q,t⟩:=ev r s e;have z:(!xs.isEmpty) = !vs.isEmpty:=by cases t<;>rfl
 dsimp only at h;rw[z]at h;cases k
 ·exact .inr (.inl ⟨vs,q,h.symm⟩)
 ·exact .inl ⟨vs,q,h.symm⟩
theorem Dv{d:D}{v:V}{b:Bool}(r:eJ K H mu d v)(s:Sim K H mu S)(h:tW S d=some b):CL K v H b:=by
 cases d with
 |non=>cases r;cases h;rfl
 |bl k=>cases r;cases h;rfl
 |int i=>cases r;cases h;rfl
 |str y=>
  rw[tW]at h;split at h
  ·rename_i e;cases r;cases h;exact⟨e,rfl⟩
  ·cases h
 |tup xs=>exact pR r s h
 |rol xs=>exact pR r s h
 |fn x=>cases h
 |ref n=>
  rw[tW]at h;split at h
  ·rename_i kvs a;cases h;cases r with
   |ref c=>
    obtain⟨ws,g,f⟩:=s.dct a c;refine .inr (.inr ⟨ws,g,?_⟩);cases f<;>rfl
  ·exact pR r s h
end
theorem pB{X:Cx}{x:Expr}{f:FE}(h:XE X x f)(he:∀a,isTrue x X.env a=(do let v<-a;standAt x.pos;holding [v] (truthy v)):=by intro _;rfl):XT X x (GK f):=
 ⟨ua (yM h.h he) <| by
  rintro σ H Q ⟨r,mu,S,b,l,he,i,c,hc⟩;obtain⟨⟨m,n⟩,k,c⟩:=oB1.mp c;obtain⟨b1,e,c⟩:=oM1.mp c;cases c;exact⟨r,mu,S,_,_,he,i,k,fun v H1 mu1 g j d=>⟨_,Dv j d e,hc H1 mu1 g d⟩⟩⟩
mutual
def pyD:D->Option PyData
 | .non=>some .none
 | .bl b=>some (.bool b)
 | .int i=>some (.int i)
 | .str x=>some (.str x)
 | .tup xs=>(pyDs xs).map .tuple
 | .rol _=>none
 | .fn _=>none
 | .ref _=>none
def pyDs:List D->Option (List PyData)
 |[]=>some []
 |d::ds=>(pyD d).bind fun p=>(pyDs ds).map fun ps=>p::ps
end
mutual
theorem mM:∀{d:D} {p:PyData},pyD d=some p->p.hasDict=false
 | .non,p,h=>by simp only[pyD]at h;cases h;rfl
 | .bl b,p,h=>by simp only[pyD]at h;cases h;rfl
 | .int i,p,h=>by simp only[pyD]at h;cases h;rfl
 | .str x,p,h=>by simp only[pyD]at h;cases h;rfl
 | .tup xs,p,h=>by
  simp only[pyD]at h;obtain⟨ps,e,h⟩:=oM1.mp h;cases h;simp only[PyData.hasDict];exact lC e
 | .rol _,p,h=>by simp only[pyD]at h;cases h
 | .fn _,p,h=>by simp only[pyD]at h;cases h
 | .ref _,p,h=>by simp only[pyD]at h;cases h
theorem lC:∀{ds:List D} {ps:List PyData},pyDs ds=some ps->PyData.hasDictAll ps=false
 |[],ps,h=>by simp only[pyDs]at h;cases h;rfl
 |d::ds,ps,h=>by
  simp only[pyDs]at h;obtain⟨p,b,h⟩:=oB1.mp h;obtain⟨c,a,h⟩:=oM1.mp h;cases h;simp only[PyData.hasDictAll,mM b,lC a,Bool.or_self]
end
def nl:G1:=fun d S=>match d with
 | .tup xs=>(pyDs xs).bind fun ps=>if(PyData.tuple ps).showable=true/\(PyData.tuple ps).shown.length<=dL/\(PyData.tuple ps).depth<=60 then some (.str (PyData.tuple ps).shown,S)else none
 |_=>none
section
variable{X:Cx}{pins:List (dE×Obj)}{σ:L2.St}{H:Hp}{s:dD}{mu:List dE}
theorem yF(I:Inv X pins σ H s):∀ {d:D} {v:V} {u:dB} {p:PyData},eJ X.K H mu d v->d6 v u->pyD d=some p -> ∃ as,Reads s.heap u p as:=fun k=>k.rec (motive_1:=fun d v _=>∀ u p,d6 v u->pyD d=some p -> ∃ as,Reads s.heap u p as) (motive_2:=fun ds vs _=>∀ f ps,ei vs f->pyDs ds=some ps -> ∃ as,ReadsAll s.heap f ps as)
  (fun _ _ c h=>by simp only[pyD]at h;cases h;cases c;exact⟨[],.none⟩)
  (fun b _ _ c h=>by simp only[pyD]at h;cases h;cases c;exact⟨[],.bool b⟩)
  (fun i _ _ c h=>by simp only[pyD]at h;cases h;obtain⟨t,rfl⟩:=c;exact⟨[],.int i t⟩)
  (fun x _ _ c h=>by simp only[pyD]at h;cases h;obtain⟨t,rfl⟩:=c;exact⟨[],.str x t⟩)
  (fun q _ ih _ _ c h=>by
   simp only[pyD]at h;obtain⟨ps,e,h⟩:=oM1.mp h;cases h;cases c;obtain⟨l,j,⟨o,z,hc,n,r⟩,_⟩:=I.tuple q;obtain⟨as,m⟩:=ih _ _ j e;exact⟨as,.tuple z hc r (by simpa using m)⟩)
  (fun _ _ _ _ _ _ h=>by simp only[pyD]at h;cases h) (fun _ _ _ _ h=>by simp only[pyD]at h;cases h) (fun _ _ _ _ h=>by simp only[pyD]at h;cases h)
  (fun _ _ tv h=>by simp only[pyDs]at h;cases h;cases tv;exact⟨[],.nil⟩)
  (fun _ _ a b _ _ tv h=>by
   simp only[pyDs]at h;obtain⟨p,y,h⟩:=oB1.mp h;obtain⟨A,g,h⟩:=oM1.mp h;cases h;cases tv with
   |cons v tv=>
    obtain⟨a1,w⟩:=a _ _ v y;obtain⟨a2,r2⟩:=b _ _ tv g;exact⟨_,.cons w r2⟩) _ _
end
section
variable{X:Cx}
theorem Az{k:Nat}(hr:fN k X.A):fj X (.builtin "repr") (rN X.K (b1 nl)):=by
 intro pins s σ H xs p Q I r h;obtain⟨x,mu,S,d,v,n,rfl,g,i,a,hc⟩:=DO h;unfold nl at a;split at a
 ·rename_i ds;obtain⟨ps,e,a⟩:=oB1.mp a;split at a
  ·rename_i l;obtain⟨h1,h2,w⟩:=l;cases a;cases r with
   |cons c rt=>
    cases rt;have f:pyD (.tup ds)=some (.tuple ps):=by simp only[pyD,e,oP1]
    obtain⟨as,m⟩:=yF I g c f;cases g with
    |tup q t=>
     cases c;refine repr_of_reads' m h1 (PyData.noDict_hsm (mM f)) hr.gd (by have:=hr.un;lia) (fun b o z=>z) (fun h' u tk j=>?_) h2;exact⟨.str _,H,I.kept j,⟨u,rfl⟩,hc.now (.str _) i⟩
  ·cases a
 ·cases a
def m9:List D->Option (List Int)
 |[]=>some []
 | .int i::ds=>(m9 ds).map fun is=>i::is
 |_=>none
def ddI(ns:List Int):List Int:=ns.foldl step_dedup []
theorem sR:∀(ns acc:List Int),acc.Nodup->(ns.foldl step_dedup acc).Nodup
 |[],acc,h=>h
 |n::ns,acc,h=>by
  rw[cb];refine sR ns _ ?_;unfold step_dedup;split
  ·exact h
  ·rename_i f;rw[bB];refine⟨h,by simp,fun a d b c e=>?_⟩;simp at c;apply f;rw[bT];exact⟨a,d,by simp[e,c]⟩
theorem wZ{K:Fg1}{H:Hp}{mu:List dE}:∀{ds:List D} {vs:List V} {a:List dB} {ns:List Int},d0 K H mu ds vs->ei vs a->m9 ds=some ns->IntsAre a ns/\ns.length=ds.length:=by
 intro ds vs a ns g b h
 induction g using d0.ind generalizing a ns with
 |hn=>cases h;cases b;exact⟨.nil,rfl⟩
 | @hc d v ds vs r t ih=>
  cases d with
  |int i=>
   obtain⟨c,e,h⟩:=oM1.mp h;cases h;cases r;cases b with
   |cons r b=>
    obtain⟨j,f⟩:=ih b e;obtain⟨tk,rfl⟩:=r;exact⟨.cons _ _ j,by rw[lC1,lC1,f]⟩
  |_=>cases h
end
@[elab_as_elim] theorem J8 {P:List dB->Prop}{us:List dB}(l:us.length=0)(f:P []):P us:=by
 cases us with
 |nil=>exact f
 |cons _ _=>cases l
@[elab_as_elim] theorem Jp {P:List dB->Prop}{us:List dB}(l:us.length=1)(f:∀a,P [a]):P us:=by
 cases us with
 |nil=>cases l
 |cons a us=>exact J8 (P:=fun us=>P (a::us)) (Nat.succ.inj l) (f a)
@[elab_as_elim] theorem Jo {P:List dB->Prop}{us:List dB}(l:us.length=2)(f:∀a b,P [a,b]):P us:=by
 cases us with
 |nil=>cases l
 |cons a us=>exact Jp (P:=fun us=>P (a::us)) (Nat.succ.inj l) (f a)
@[elab_as_elim] theorem Jn {P:List dB->Prop}{us:List dB}(l:us.length=3)(f:∀a b c,P [a,b,c]):P us:=by
 cases us with
 |nil=>cases l
 |cons a us=>exact Jo (P:=fun us=>P (a::us)) (Nat.succ.inj l) (f a)
@[elab_as_elim] theorem Jm {P:List dB->Prop}{us:List dB}(l:us.length=4)(f:∀a b c d,P [a,b,c,d]):P us:=by
 cases us with
 |nil=>cases l
 |cons a us=>exact Jn (P:=fun us=>P (a::us)) (Nat.succ.inj l) (f a)
@[elab_as_elim] theorem HP {P:List dB->Prop}{us:List dB}(l:us.length=5)(f:∀a b c d e,P [a,b,c,d,e]):P us:=by
 cases us with
 |nil=>cases l
 |cons a us=>exact Jm (P:=fun us=>P (a::us)) (Nat.succ.inj l) (f a)
end Mi
namespace HT
open PySem PySem.Spec PyProof.Rows
variable{prog:dF}{w:dH}{A:dG}{E:dB->dD->Prop}{s:dD}
theorem kW{sl:dE}{t:Tok}{n:Nat}{Q:Int×Int×Nat->dD->Prop}(hs:s.heap.IsSliceOf sl .none .none (.int (-1) t))(h:Q ((n:Int)-1,-1,n) s):dM (model prog w) A (Builtin.Slice.sliceApplied (.ref sl) (pure (n:Int))) Q E s:=by
 obtain⟨d,a,c,b⟩:=id hs;unfold Builtin.Slice.sliceApplied Builtin.Slice.sliceFields;refine wB1 (wB1 (wpAny_field a b (x:=.none) rfl (wB1 (wpAny_field a b (x:=.none) rfl (wB1 (wpAny_field a b (x:=.int (-1) t) rfl (wP1 ?_)))))));refine wB1 (gH (.int (-1) t) ?_);show dM _ _ (if((-1:Int) == 0)=true then _ else _) _ _ s;rw[if_neg (by decide)];refine wB1 (gH .none (wB1 (gH .none (wB1 (wP1 ?_)))));show dM _ _ (pure ((n:Int)-1,(-1:Int),Builtin.Slice.slicePlaces ((n:Int)-1) (-1) (-1))) _ _ s;have e:Builtin.Slice.slicePlaces ((n:Int)-1) (-1) (-1)=n:=by
  unfold Builtin.Slice.slicePlaces;have h1:¬ (-1:Int)>0:=by lia
  have h2: -(-1:Int)=1:=rfl;simp only[h1,if_false,h2,Int.ediv_one];split<;>lia
 rw[e];exact wP1 h
theorem Ad{α β:Type}{f g:α->Option β}:∀l:List α,(∀m,m∈l->f m=g m)->l.filterMap f=l.filterMap g:=by
 intro l
 induction l with
 |nil=>intro _;rfl
 |cons x l ih=>intro h;rw[aE,aE,h x (mS1 ..),ih fun m a=>h m (mC1 _ a)]
theorem rH(xs:Array dB):((List.range xs.size).filterMap fun(m:Nat)=>xs[(((xs.size:Int)-1)+(m:Int)*(-1)).toNat]?).toArray=xs.toList.reverse.toArray:=by
 congr 1
 have e:((List.range xs.size).filterMap fun(m:Nat)=>xs[(((xs.size:Int)-1)+(m:Int)*(-1)).toNat]?)=(List.range xs.size).filterMap fun m=>xs.toList.reverse[m]?:=by
  apply Ad;intro m a;have a:=aB.mp a;rw[List.getElem?_reverse (by rw[aJ];exact a),aT1,aJ]
  congr 1
  lia
 rw[e];have:=pick_run xs.toList.reverse.toArray 0 xs.size;rw[aU]at this;have b:((fun x=>xs.toList.reverse.toArray[x]?)∘fun x=>0+x)=fun m=>xs.toList.reverse[m]?:=by funext m;simp
 rw[b]at this;rw[this];simp only[bZ];exact ca (by simp)
theorem kr {t sl:dE}{items:Array dB}{tk:Tok}{Q:dB->dD->Prop}(ht:IsTup s.heap t items)(hs:s.heap.IsSliceOf sl .none .none (.int (-1) tk))
  (h:Q (.ref s.heap.objs.size) {s with heap:=s.heap.push {cls:=.type "tuple",data:=.seq items.toList.reverse.toArray}})
  (hsz:items.size<=dL):dM (model prog w) A (getItem (.ref t) (.ref sl)) Q E s:=by
 have a:sizeOk (.seq items.toList.reverse.toArray):=by
  show items.toList.reverse.toArray.size<=dL;rw[sT1,cc,aJ];exact hsz
 obtain⟨f,c,d,g⟩:=id hs;have e:s.TypeIs (.ref sl) "slice":=⟨f,c,d⟩;unfold getItem
 try with_reducible refine wpAny_holding ?_
 first|refine wB1 (wP1 ?_)|skip
 refine wB1 (wpAny_sequenceKey ht.typeIs (by decide) ?_);refine wB1 (wpAny_callSpecial?_slot (name:=Str.ofString "__getitem__") ht.typeIs PyProof.Rows.slot_tuple_getitem
  (wE1 PyProof.Rows.slot_tuple_getitem ht.typeIs entry_tuple_getitem ?_ (args_tuple_getitem _ _)))
 show dM _ _ (Builtin.Tuple.tupleItemsOf (.ref t) >>= _) _ _ s;refine wB1 (tupleItemsOf_ ht ?_);refine wB1 (wpAny_typeOf e ?_);rw[if_pos (by decide)];refine wB1 (kW hs ?_);have b:¬ (((items.size:Int)-1 == 0&&(-1:Int) == 1&&items.size == items.size)=true):=by
  intro q;rw[bA1,bA1]at q;exact absurd (eq_of_beq q.1.2) (by decide)
 show dM _ _ (if((items.size:Int)-1 == 0&&(-1:Int) == 1&&items.size == items.size)=true then _ else _) _ _ s;rw[if_neg b,rH]
 first
  |exact wB1 (m:=Builtin.Tuple.tupleExact _) (wO1 (wP1 ⟨_,rfl,wP1 h⟩) a)
  |exact wB1 (m:=Builtin.Tuple.tupleExact _) (wO1 (wB1 (wP1 (wP1 ⟨_,rfl,wP1 h⟩))) a)
  |exact wB1 (wB1 (m:=Builtin.Tuple.tupleExact _) (wO1 (wP1 (wP1 ⟨_,rfl,wP1 h⟩)) a))
  |exact wB1 (wB1 (m:=Builtin.Tuple.tupleExact _) (wO1 (wP1 ⟨_,rfl,wP1 h⟩) a))
end HT
namespace Mi
open PySem PySem.Spec PyProof.Rows L2
section
variable{X:Cx}
theorem rf:∀{xs:List V} {a:List dB},ei xs a->ei xs.reverse a.reverse:=by
 intro xs
 induction xs with
 |nil=>intro a r;cases r;exact .nil
 |cons x xs ih=>
  intro a r;cases r with
  |cons b r2=>rw[bo,bo];exact(ih r2).append (.cons b .nil)
end
end Mi
namespace HT
open PySem PySem.Spec PyProof.Rows
section
variable{prog:dF}{w:dH}{A:dG}{R:Result->dD->Prop}{I ax L:dE}{xs:Array dB}
end
section
variable{prog:dF}{w:dH}{A:dG}{E:dB->dD->Prop}{s:dD}
end
end HT
namespace Mi
open PySem PySem.Spec PyProof.Rows L2
section
variable{X:Cx}
end
section
variable{elt tg iter tg2 iter2 tg3 iter3:Expr}{ifs ifs2 ifs3:List Expr}{scope:dR}{pos:Pos}
end
section
variable{X:Cx}
end
def w5(a:Int):List Int->List Int
 |[]=>[a]
 |b::l=>if a<=b then a::b::l else b::w5 a l
def jO:List Int->List Int
 |[]=>[]
 |a::l=>w5 a (jO l)
theorem k9(a:Int):∀l:List Int,(w5 a l).Perm (a::l)
 |[]=>.refl _
 |b::l=>by
  rw[w5];split
  ·exact .refl _
  ·exact((k9 a l).cons b).trans (.swap _ _ _)
theorem io:∀l:List Int,(jO l).Perm l
 |[]=>.refl _
 |a::l=>(k9 a _).trans ((io l).cons a)
theorem vJ{a:Int}:∀{l:List Int},l.Pairwise (· <= ·)->(w5 a l).Pairwise (· <= ·)
 |[],_=>List.pairwise_singleton _ _
 |b::l,h=>by
  rw[cf]at h;rw[w5];split
  ·rename_i c;rw [cf,cf];exact ⟨fun x d=>by
    rcases aF.mp d with z|z
    ·lia
    ·have:=h.1 x z;lia,h.1,h.2⟩
  ·rename_i c;rw[cf];refine⟨fun x d=>?_,vJ h.2⟩;rcases aF.mp ((k9 a l).mem_iff.mp d)with z|z
   ·lia
   ·exact h.1 x z
theorem mD:∀l:List Int,(jO l).Pairwise (· <= ·)
 |[]=>.nil
 |a::l=>vJ (mD l)
theorem pW:∀{a b:List Int},a.Perm b->a.Pairwise (· <= ·)->b.Pairwise (· <= ·)->a=b
 |[],b,p,_,_=>(List.nil_perm.mp p).symm
 |x::a,[],p,_,_=>absurd p.length_eq (by simp)
 |x::a,y::b,p,h1,h2=>by
  rw[cf]at h1 h2;have e:x=y:=by
   have d:=p.mem_iff.mp (mS1 (a:=x) (l:=a));have f:=p.mem_iff.mpr (mS1 (a:=y) (l:=b));rcases aF.mp d with z|z
   ·exact z
   ·rcases aF.mp f with c|c
    ·exact c.symm
    ·have:=h2.1 x z;have:=h1.1 y c;lia
  subst e;rw[pW (List.perm_cons x |>.mp p) h1.2 h2.2]
def GT:List D->Option (List Int)
 |[]=>some []
 | .int i::l=>(GT l).map fun t=>i::t
 |_=>none
section
variable{X:Cx}
theorem wY:∀{us:List dB} {ns:List Int},IntsAre us ns->ei (ns.map V.int) us:=by
 intro us ns h
 induction h with
 |nil=>exact .nil
 |cons i t _ ih=>exact .cons ⟨t,rfl⟩ ih
end
end Mi
namespace Mi
open PySem PySem.Spec PyProof.Rows L2
theorem wH(its:List dB):slicePick its.toArray none none (some (-1))=its.reverse.toArray:=by
 have h:=HT.rH its.toArray;rw[sT1]at h;unfold slicePick;have b:sliceBounds none none (some (-1)) its.toArray.size=(((its.length:Nat):Int)-1,-1,-1):=by
  rw[sT1];unfold sliceBounds;have h1:¬ ((some (-1:Int)).getD 1>0):=by decide
  simp only[h1,if_false];rfl
 rw[b];unfold sliceRange;have hc:(if((its.length:Nat):Int)-1 > -1 then(((its.length:Nat):Int)-1 - -1 - -1-1)/(- -1)else 0).toNat=its.length:=by
  have h2: - (-1:Int)=1:=rfl;rw[h2,Int.ediv_one];split<;>lia
 dsimp only;rw[if_neg (by decide),hc,aU];have e:((fun x=>its.toArray[x]?)∘fun(k:Nat)=>((its.length:Int)-1 + -1*(k:Int)).toNat)=fun(m:Nat)=>its.toArray[(((its.length:Int)-1)+(m:Int)*(-1)).toNat]?:=by
  funext m
  have a:((its.length:Int)-1 + -1*(m:Int)).toNat=(((its.length:Int)-1)+(m:Int)*(-1)).toNat:=by rw[Int.mul_comm]
  show its.toArray[((its.length:Int)-1 + -1*(m:Int)).toNat]?=its.toArray[(((its.length:Int)-1)+(m:Int)*(-1)).toNat]?;rw[a]
 rw[e,h]
section
variable{X:Cx}
def F1(K:Fg1)(te tk:TE):TE:=fun σ H Q=>te σ H fun x H1=>tk σ H1 fun k H2=>k = .int (-1)/\((∃a xs,x = .ref a/\jl K H2 a xs /\ ∀p,H2 p=none->Q (.ref p) (upd H2 p (.tup xs.reverse)))\/(∃a xs,x = .ref a/\lV K H2 a xs /\ ∀p,H2 p=none->Q (.ref p) (upd H2 p (.lst xs.reverse))))
theorem ud{e j:Expr}{te tk:TE}{pos p2:Pos}(he:PE X e te)(hk:PE X j tk):PE X (.Subscript e (.Slice none none (some j) p2) pos) (F1 X.K te tk):=by
 intro pins s σ H Q I h;refine Subscript_ (fg (he pins s σ H _ I h) fun v y ⟨x,H1,z,w,A⟩=>?_);refine wpAny_Slice ?_;rw[evalPart_none];refine wP1 ?_;refine wP1 ?_;rw[evalPart_some];refine fg (hk pins y σ H1 _ z A) fun u c ⟨k,H2,B,rk,m⟩=>?_;obtain⟨rfl,m⟩:=m;obtain⟨t,rfl⟩:=rk;have f:Inv X pins σ H2 {c with heap:=c.heap.push {cls:=.type "slice",data:=.fields #[.none,.none,.int (-1) t]}}:=B.kept (t':=c.toks) fun b p q=>hP1 _ q;rcases m with⟨a,xs,rfl,n,q⟩|⟨a,xs,rfl,n,q⟩
 ·cases w;obtain⟨g,r,i,l⟩:=f.tuple n;have d:g.toArray.size=xs.length:=by rw[sT1];exact r.length.symm
  show dM (model X.prog X.w) X.A (subscriptTail e (.Slice none none (some j) p2) (.ref a) (.ref c.heap.objs.size)) (EP X pins σ Q) X.xe {c with heap:=c.heap.push {cls:=.type "slice",data:=.fields #[.none,.none,.int (-1) t]}};refine tail_any (ops:=[.ref a,.ref c.heap.objs.size]) i.typeIs PyProof.Rows.slot_tuple_getitem.lookup ?_ (by with_unfolding_all rfl);refine HT.kr i (Heap.IsSliceOf.new ..) ?_ (by rw[d];exact l);refine⟨.ref _,_,f.laid (t':=c.toks) (o:=.tup xs.reverse) (fun b p q=>hP1 _ q) (nR1 _) ?_,rfl,q _ (f.hok.fresh (nR1 _))⟩;exact⟨by rw[cc];exact l,_,rf r,IsTup.new _ _⟩
 ·cases w;obtain⟨g,r,i,l⟩:=f.list n;have d:=r.length;show dM (model X.prog X.w) X.A (subscriptTail e (.Slice none none (some j) p2) (.ref a) (.ref c.heap.objs.size)) (EP X pins σ Q) X.xe {c with heap:=c.heap.push {cls:=.type "slice",data:=.fields #[.none,.none,.int (-1) t]}};refine tail_any (ops:=[.ref a,.ref c.heap.objs.size]) i.isList.typeIs slot_list_getitem.lookup ?_ (by with_unfolding_all rfl);refine wpAny_getItem_list_slice i.isList (Heap.IsSliceOf.new ..) .none .none (.int (-1) t) (by decide) ?_ (by rw[sT1];lia);rw[wH];refine⟨.ref _,_,f.laid (t':=c.toks) (o:=.lst xs.reverse) (fun b p q=>hP1 _ q) (nR1 _) ?_,rfl,q _ (f.hok.fresh (nR1 _))⟩;exact⟨by rw[cc];exact l,_,0,rf r,hS1 _ rfl⟩
def DP(S:Sto)(d k:D):Option (D×Sto):=match k with
 | .int i=>if i = -1 then(d5 S d).map fun p=>if p.1=true then(.ref S.length,S++[.lst p.2.reverse])else(.tup p.2.reverse,S)else none
 |_=>none
def oG(m a:FE):FE:=fun r S=>(m r S).bind fun p=>(a r p.2).bind fun b=>DP b.2 p.1 b.1
theorem q9{e x:Expr}{m a:FE}{pos p2:Pos}(h:XE X e m)(B:XE X x a):XE X (.Subscript e (.Slice none none (some x) p2) pos) (oG m a):=
 ⟨eU (ud h.h B.h) <| by
  rintro σ H Q ⟨r,mu,S,d,I,s,D,b,hc⟩;obtain⟨⟨z,w⟩,G,b⟩:=oB1.mp b;obtain⟨⟨o,F⟩,E,b⟩:=oB1.mp b;refine⟨r,mu,S,z,w,s,D,G,fun v H1 mu1 n A C=>?_⟩;refine⟨r,mu1,w,o,F,s.ext n,C,E,fun u H2 g l r2 j=>?_⟩;cases o with
  |int i=>
   dsimp only[DP]at b;split at b
   ·rename_i hi;subst hi;cases r2;refine⟨rfl,?_⟩;obtain⟨⟨k,xs⟩,y,b⟩:=oM1.mp b;obtain⟨c,vs,rfl,q,t⟩:=ev (A.ext l) j y;cases k with
    |true=>
     cases b;right;exact⟨c,vs,rfl,q,fun p f=>hc _ _ (g++[p]) ((n.trans l).trans (Ext.new_ f)) (.ref (fZ j.len p)) (j.newL t.reverse f)⟩
    |false=>
     simp only[bF1,if_false]at b;cases b;left;exact⟨c,vs,rfl,q,fun p f=>hc _ _ g ((n.trans l).trans (Ext.fresh f)) (.tup (jl.of d3) (t.reverse.ext (Ext.fresh f))) (j.fresh f)⟩
   ·cases b
  |_=>cases b⟩
end
theorem oe(n:Nat):∀ns:List Int,D.unds n (ns.map D.int)=true
 |[]=>rfl
 |_::ns=>by rw[mP1,D.unds,oe n ns];rfl
theorem gc_same{n:Nat}{d:D}{S:Sto}(h:S.length=n):gc n (d,S)=(d,S):=by
 unfold gc;split
 ·rw[show(d,S).2=S from rfl,<- h,b4]
 ·rfl
theorem xy{n:Nat}{f:FN}{ds:List D}{S S1:Sto}{d:D}(h:f ds []=some (d,S1))(hn:ds.length=n)(a:D.unds 0 ds=true)(hd:d.und 0=true):dX n f ds S=some (d,S):=by
 unfold dX lR;rw[if_pos hn,if_pos a,h,oP1,if_pos hd]
theorem sY{n:Nat}{f:FN}{ds:List D}{S S1:Sto}{d:D}(h:f ds []=some (d,S1))(hn:ds.length=n)(a:D.unds 0 ds=true)(hd:d.und 0=false):dX n f ds S=some (d.sh S.length,S++S1.map (Ob.sh S.length)):=by
 unfold dX lR;rw[if_pos hn,if_pos a,h,oP1,if_neg (by dsimp only;rw[hd];decide)]
theorem pd{n:Nat}{f:FN}{ds:List D}{S S1:Sto}{d:D}(h:f ds S=some (d,S1))(hn:ds.length=n)(a:D.unds 0 ds=false):dX n f ds S=some (gc S.length (d,S1)):=by
 unfold dX lR;rw[if_pos hn,if_neg (by rw[a];decide),h,oP1]
theorem lj{n:Nat}{f:FN}{ds:List D}{S S1:Sto}{d:D}(h:f ds S=some (d,S1))(hn:ds.length=n)(b:D.unds 0 ds=false)(a:S1.length=S.length):dX n f ds S=some (d,S1):=by
 rw[pd h hn b,gc_same a]
theorem oE{i j:Int}(h1: -(2^64)<i)(h2:i<2^64):eR i j=true:=by
 unfold eR;simp only[bQ,bA1,decide_eq_true_eq];exact .inl (.inl ⟨h1,h2⟩)
theorem vx{i j:Int}(h1: -(2^64)<j)(h2:j<2^64):eR i j=true:=by
 unfold eR;simp only[bQ,bA1,decide_eq_true_eq];exact .inl (.inr ⟨h1,h2⟩)
theorem gY{S:Sto}{n:Nat}{xs:List D}(h:S[n]?=some (.lst xs)):oC S [(n,xs)]=true:=by
 rw[oC,h];simp[D.sames_refl,oC]
def jz(n:Nat):Nat->List D
 |0=>[]
 |k+1=>.ref n::jz (n+1) k
theorem r4:∀{n:Nat} {lo:Int} {d:D},d∈gB lo n -> ∃k:Int,d = .int k/\lo<=k/\k<lo+n
 |0,lo,d,h=>by simp[gB]at h
 |n+1,lo,d,h=>by
  rw[gB]at h;rcases aF.mp h with h|h
  ·exact⟨lo,h,Int.le_refl _,by lia⟩
  ·obtain⟨k,e,h1,h2⟩:=r4 h;exact⟨k,e,by lia,by lia⟩
theorem gG{n:Nat}:∀{xs:List D} {x:D},D.unds n xs=true->x∈xs->x.und n=true
 |y::ys,x,h,hx=>by
  rw[D.unds,bA1]at h;rcases aF.mp hx with e|e
  ·rw[e];exact h.1
  ·exact gG h.2 e
theorem jf{S:Sto}{d:D}(h:d.und 0=true):d5 S d=d5 [] d:=by
 cases d with
 |ref n=>simp[D.und]at h
 |_=>rfl
theorem ip{S:Sto}{d:D}(h:d.und 0=true){p:Bool×List D}(e:d5 S d=some p):D.unds 0 p.2=true:=by
 cases d with
 |ref n=>simp[D.und]at h
 |tup xs=>cases e;simpa[D.und]using h
 |rol xs=>cases e;simpa[D.und]using h
 |_=>cases e
theorem oV{f f':D->D->Option Bool}:∀{xs ys:List D},(∀x∈xs,∀y∈ys,f x y=f' x y)->nK f xs ys=nK f' xs ys
 |[],[],_=>rfl
 |[],_::_,_=>rfl
 |_::_,[],_=>rfl
 |x::xs,y::ys,h=>by
  rw[nK,nK,h x mS1 y mS1,oV fun a d b c=>h a (mC1 _ d) b (mC1 _ c)]
theorem su{S:Sto}{d:D}(h:d.und 0=true):uv S d=false:=by
 cases d with
 |ref n=>simp[D.und]at h
 |_=>rfl
theorem vU{S:Sto}:∀{n:Nat} {d e:D},d.und 0=true->e.und 0=true->gr S n d e=gr [] n d e
 |0,_,_,_,_=>rfl
 |n+1,d,e,hd,he=>by
  rw[gr,gr,jf hd,jf he];unfold HU;simp only[su hd,su he];cases h1:d5 [] d with
  |none=>cases d5 [] e<;>rfl
  |some p=>
   cases h2:d5 [] e with
   |none=>rfl
   |some q=>
    dsimp only;have b:=ip hd h1;have a:=ip he h2;rw[oV (f:=gr S n) (f':=gr [] n) fun x g y c=>vU (gG b g) (gG a c)]
theorem oI{f f' g g':D->D->Option Bool}:∀{xs ys:List D},(∀x∈xs,∀y∈ys,f x y=f' x y)->(∀x∈xs,∀y∈ys,g x y=g' x y)->nR f g xs ys=nR f' g' xs ys
 |[],[],_,_=>rfl
 |[],_::_,_,_=>rfl
 |_::_,[],_,_=>rfl
 |x::xs,y::ys,h,k=>by
  rw[nR,nR,h x mS1 y mS1,k x mS1 y mS1,oI (fun a d b c=>h a (mC1 _ d) b (mC1 _ c)) fun a d b c=>k a (mC1 _ d) b (mC1 _ c)]
theorem vA{S:Sto}:∀{n:Nat} {d e:D},d.und 0=true->e.und 0=true->jI S n d e=jI [] n d e
 |0,_,_,_,_=>rfl
 |n + 1,d,e,k,h=>by
  rw[jI,jI,jf k,jf h];cases HN d e with
  |some b=>rfl
  |none=>
   cases h1:d5 [] d with
   |none=>rfl
   |some p=>
    cases h2:d5 [] e with
    |none=>rfl
    |some q=>
     dsimp only;have j:=ip k h1;have i:=ip h h2;rw[oI (f:=gr S n) (f':=gr [] n) (g:=jI S n) (g':=jI [] n) (fun x c y a=>vU (gG j c) (gG i a)) fun x c y a=>vA (gG j c) (gG i a)]
open Classical in
def rkV(ws:List dB)(x:dB):Nat:=ws.findIdx fun y=>decide (y=x)
theorem yD{ws:List dB}{x:dB}(h:x∈ws):ws[rkV ws x]?=some x:=by
 have a:rkV ws x<ws.length:=List.findIdx_lt_length_of_exists ⟨x,h,by simp⟩;rw[gG1 a];have:=List.findIdx_getElem (w:=a);have e:ws[rkV ws x]=x:=of_decide_eq_true this;rw[e]
def kR(ws:List dB)(xs:Array Keyed)(i:Nat):Nat:=(xs[i]?.map fun p=>rkV ws p.1).getD 0
theorem ko{ws:List dB}{xs ys:Array Keyed}{i j:Nat}(h:xs[i]?=ys[j]?):kR ws xs i=kR ws ys j:=by unfold kR;rw[h]
def Up(ws:List dB)(xs:Array Keyed)(k:Nat):Prop:=∀i j,i<j->j<k->kR ws xs i<kR ws xs j
structure ll (prog:dF)(w:dH)(A:dG)(s:dD)(κ:SortKind)(ws:List dB)(a₀:Array Keyed):Prop where
 nd:ws.Nodup
 keys:(a₀.toList.map (·.1)).Perm ws
 lt:∀(x y:dB) (i j:Nat),ws[i]?=some x->ws[j]?=some y->i≠j -> ∀(E:dB->dD->Prop) (Q:Bool->dD->Prop),Q (decide (i<j)) s->dM (model prog w) A (keyLt' κ x y) Q E s
section
variable{prog:dF}{w:dH}{A:dG}{E:dB->dD->Prop}{s:dD}{κ:SortKind}{ws:List dB}{a₀:Array Keyed}
theorem ll.at_(C:ll prog w A s κ ws a₀){xs:Array Keyed}(p:xs.Perm a₀){i:Nat}(hi:i<a₀.size):∃x q,xs[i]?=some (x,q)/\ws[kR ws xs i]?=some x:=by
 have a:i<xs.size:=by rw[p.size_eq];exact hi
 refine⟨xs[i].1,xs[i].2,aG1 a,?_⟩;have b:xs[i]∈a₀.toList:=(cg.mp p).mem_iff.mp (by simp);have:=yD (C.keys.mem_iff.mp (ci.mpr ⟨_,b,rfl⟩));unfold kR;rw[aG1 a];exact this
theorem ll.inj(C:ll prog w A s κ ws a₀){xs:Array Keyed}(p:xs.Perm a₀){i j:Nat}(hi:i<a₀.size)(e:j<a₀.size)(h:kR ws xs i=kR ws xs j):i=j:=by
 obtain⟨x,q,g,b⟩:=C.at_ p hi;obtain⟨y,r,c,f⟩:=C.at_ p e;rw[h,f]at b;cases b;have nd:(xs.toList.map (·.1)).Nodup:=(((cg.mp p).map (·.1)).trans C.keys).nodup_iff.mpr C.nd;have a:(xs.toList.map (·.1))[i]?=some x:=by rw[gP1,aT1,g];rfl
 have d:(xs.toList.map (·.1))[j]?=some x:=by rw[gP1,aT1,c];rfl
 exact(List.getElem?_inj (gE1.mp a).1 nd).mp (a.trans d.symm)
theorem DF(C:ll prog w A s κ ws (pairsOf vs)){xs:Array Keyed}(p:xs.Perm (pairsOf vs))(u:Up ws xs (pairsOf vs).size):xs.map (·.2)=ws.toArray:=by
 have k:ws.length=(pairsOf vs).size:=by rw[<- C.keys.length_eq,lM1];simp
 have a:∀i,i<(pairsOf vs).size->i<=kR ws xs i:=by
  intro i
  induction i with
  |zero=>intro _;lia
  |succ i ih=>intro h;have:=ih (by lia);have:=u i (i+1) (by lia) h;lia
 have b:∀d i,i+d+1=(pairsOf vs).size->kR ws xs i<=i:=by
  intro d
  induction d with
  |zero=>
   intro i h;obtain⟨x,q,_,f⟩:=C.at_ p (i:=i) (by lia);have:=(gE1.mp f).1;lia
  |succ d ih=>
   intro i h;have:=ih (i+1) (by lia);have:=u i (i+1) (by lia) (by lia);lia
 apply Array.ext
 ·rw[Array.size_map,p.size_eq,<- k];simp
 ·intro i h1 h2;rw[Array.size_map,p.size_eq]at h1;have l:kR ws xs i=i:=Nat.le_antisymm (b ((pairsOf vs).size-1-i) i (by lia)) (a i h1);obtain⟨x,q,e,f⟩:=C.at_ p h1;rw[l]at f;have j:(x,q)∈(pairsOf vs).toList:=(cg.mp p).mem_iff.mp (cj.mpr (ck e));rw[pairsOf_toList]at j;have m:x=q:=(mem_zip_self j).1;have c:(xs.map (·.2))[i]?=some q:=by rw[Array.getElem?_map,e];rfl
  have g:ws.toArray[i]?=some x:=by rw[cm];exact f
  rw[aG1 (by rw[Array.size_map,p.size_eq];exact h1)]at c;rw[aG1 h2]at g;rw[Option.some.inj c,Option.some.inj g,m]
end
section
variable{prog:dF}{w:dH}{A:dG}{E:dB->dD->Prop}{s:dD}
theorem za{p q:dB}{b:Bool}{Q:Bool->dD->Prop}(r:AK A.in1 s p q b)(h:Q b s):dM (model prog w) A (oneLt' false p q) Q E s:=by
 rw[oneLt'_eq];simp only[bF1,if_false];exact wB1 (wpAny_of_in1 (r prog w E _ (wpAny_truthy_bool h)))
theorem iA(f:Bool)(x y:dB):keyLt' (tuples' f) x y=(do
  let xs<-Builtin.List.listItems x
  let ys<-Builtin.List.listItems y
  for ((p,q),i) in (xs.toList.zip ys.toList).zipIdx do
   if !(<- eqBool p q)then return<-oneLt' (f&&i == 0) p q
  return decide (xs.size<ys.size)):=rfl
theorem EY{a b:dE}{f zs:List dB}{k:Bool}{Q:Bool->dD->Prop}(ha:IsTup s.heap a f.toArray)(hb:IsTup s.heap b zs.toArray)(L:tu A s f zs k)(h:Q k s):
  dM (model prog w) A (keyLt' (tuples' false) (.ref a) (.ref b)) Q E s:=by
 rw[iA];obtain⟨o,r,v,_,n⟩:=ha;obtain⟨y,m,B,_,u⟩:=hb;refine wB1 (listItems_at r n (wB1 (listItems_at m u ?_)));simp only[Bool.false_and];refine wB1 (wpAny_mono (wpAny_forIn_list _ (fun rest c s'=>s'=s/\c=(none,()) /\ ∃(i:Nat) (vs ws:List dB),rest=(vs.zip ws).zipIdx i/\tu A s vs ws k/\vs.length+zs.length=ws.length+f.length)
  (fun c s'=>s'=s/\(c=(some k,())\/(c=(none,())/\k=decide (f.length<zs.length)))) ?_ ?_ _ _ ⟨rfl,rfl,0,f,zs,rfl,L,by lia⟩) ?_ fun _ _ e=>e)
 ·rintro x rest c s' ⟨rfl,rfl,i,vs,ws,d,j,g⟩;cases j with
  |nn=>simp at d
  |nc _ _=>simp at d
  |cn _ _=>simp at d
  | @eq p q ps l _ e t=>
   rw[bV,bM]at d;cases d;refine wB1 (e.of_in1 prog w E _ ?_);simp only[b7,bF1,if_false];exact wP1 ⟨rfl,rfl,i+1,ps,l,rfl,t,by simp at g;lia⟩
  | @lt p q ps l _ e t=>
   rw[bV,bM]at d;cases d;refine wB1 (e.of_in1 prog w E _ ?_);simp only[cp,if_true];exact wB1 (za t (wP1 ⟨rfl,.inl rfl⟩))
 ·rintro c s' ⟨rfl,rfl,i,vs,ws,d,j,g⟩;refine⟨rfl,.inr ⟨rfl,?_⟩⟩;cases j with
  |nn=>simp at g;rw[decide_eq_false (by lia)]
  |nc _ _=>simp at g;rw[decide_eq_true (by lia)]
  |cn _ _=>simp at g;rw[decide_eq_false (by lia)]
  |eq _ _=>simp at d
  |lt _ _=>simp at d
 ·rintro c s' ⟨rfl,z⟩;rcases z with rfl|⟨rfl,z⟩
  ·exact wP1 h
  ·refine wP1 ?_;rw[sT1,sT1,<- z];exact h
theorem ke{M:Model}{α β:Type}{f:α->Sem β}{P:α->β->Prop}:∀ {l:List α} {Q:List β->dD->Prop},(∀ v∈l,∃ r,P v r /\ ∀ Q:β->dD->Prop,Q r s->dM M A (f v) Q E s) ->
  (∀rs,rs.length=l.length->(∀r∈rs,∃v∈l,P v r)->Q rs s)->dM M A (l.mapM f) Q E s
 |[],Q,_,q=>by rw[List.mapM_nil];exact wP1 (q [] rfl fun r a=>by cases a)
 |v::l,Q,h,q=>by
  rw[List.mapM_cons];obtain⟨r,p,a⟩:=h v mS1;refine wB1 (a _ ?_);refine wB1 (ke (fun v d=>h v (mC1 _ d)) fun rs b e=>?_);refine wP1 (q (r::rs) (by rw[lC1,lC1,b]) fun x c=>?_);rcases aF.mp c with z|z
  ·exact⟨v,mS1,by rw[z];exact p⟩
  ·obtain⟨g,h1,h2⟩:=e x z;exact⟨g,mC1 _ h1,h2⟩
theorem sG(v:dB):firstOfTuple' v=(do
  if(<- typeOf v) != .type "tuple" then return none
  return (<- Builtin.List.listItems v)[0]?):=rfl
theorem E1{vs:List dB}{Q:SortKind->dD->Prop}(l:vs≠[])(h:∀ v∈vs,∃ a p ps b c,v = .ref a/\IsTup s.heap a (p::ps).toArray/\p = .ref b/\IsTup s.heap b c)(q:Q (tuples' false) s):
  dM (model prog w) A (keyKind' vs.toArray) Q E s:=by
 rw[keyKind'_eq,cq,<- bind_pure_comp];refine wB1 (wB1 (ke (P:=fun _ r=>∃b c,r=some (.ref b)/\IsTup s.heap b c) (fun v n=>?_) fun rs C m=>wP1 ?_))
 ·obtain⟨a,p,ps,b,c,rfl,⟨o,g,i,_,B⟩,rfl,u⟩:=h v n;refine⟨some (.ref b),⟨b,c,rfl,u⟩,fun Q q=>?_⟩;rw[sG];refine wB1 (wpAny_typeOf (T:="tuple") ⟨o,g,i⟩ ?_);rw[if_neg (by decide)];refine wB1 (listItems_at g B (wP1 ?_));simpa using q
 ·have D:rs.toArray.all (·.isSome)=true:=by
   rw[cr,bD];intro r k;obtain⟨v,_,b,c,e,_⟩:=m r k;rw[e];rfl
  rw[if_pos D];refine wB1 (wpAny_rule ?_);rw[oneTypeOnly'_eq];have H:rs.toArray.filterMap id=(rs.filterMap id).toArray:=by simp
  rw[H,cq,<- bind_pure_comp];refine wB1 (wB1 (wB1 (ke (P:=fun _ t=>t=Value.type "tuple") (fun v n=>?_) fun d f u=>wP1 ?_)))
  ·obtain⟨r,k,e⟩:=aL.mp n;obtain⟨I,_,b,c,G,⟨o,g,i,_⟩⟩:=m r k;rw[G]at e;cases e;exact⟨_,rfl,fun Q q=>wpAny_typeOf (T:="tuple") ⟨o,g,i⟩ q⟩
  ·cases d with
   |nil=>
    exfalso;cases rs with
    |nil=>exact l (cu.mp C.symm)
    |cons r rs=>
     obtain⟨_,_,b,_,e,_⟩:=m r mS1;rw[e]at f;simp at f
   |cons t d=>
    have all:∀x∈t::d,x=Value.type "tuple":=fun x j=>by obtain⟨_,_,z⟩:=u x j;exact z
    have y:=all t mS1;subst y;have F:((Value.type "tuple"::d).toArray.all fun x=>x == Value.type "tuple")=true:=by
     rw[cr,bD];intro x j;rw[all x j];rfl
    show dM _ _ (pure (if((Value.type "tuple"::d).toArray.all fun x=>x == Value.type "tuple")=true then some (Value.type "tuple")else none)) _ _ _;rw[if_pos F];exact wP1 (wP1 q)
end
section
variable{prog:dF}{w:dH}{A:dG}{E:dB->dD->Prop}{R:Result->dD->Prop}
end
section
variable{prog:dF}{w:dH}{A:dG}{E:dB->dD->Prop}{s:dD}
end
mutual
theorem tS{n:Nat}:∀k:TK,(tkD k).und n=true
 | .non=>rfl
 | .int _=>rfl
 | .tup xs=>by rw[tkD,D.und];exact uV xs
theorem uV{n:Nat}:∀ks:List TK,D.unds n (hD ks)=true
 |[]=>rfl
 |k::ks=>by rw[hD,D.unds,tS k,uV ks];rfl
end
section
variable{X:Cx}
end
def FF(H:Hp)(a:dE):Prop:=(∃kvs,H a=some (.dK kvs)) \/ ∃xs,H a=some (.ext (gb a xs))
section
variable{X:Cx}
theorem B8{pins:List (dE×Obj)}{σ:L2.St}{H:Hp}{s:dD}{a:dE}(I:Inv X pins σ H s)(h:FF H a):(a == sysModules)=false /\ ∃o,s.heap.get? a=some o/\o.ExactDict:=by
 rcases h with⟨kvs,e⟩|⟨xs,e⟩
 ·obtain⟨_,b,vs,_,o,es,ep,h1,h2,_⟩:=I.hok a _ e;exact⟨b,o,h1,h2⟩
 ·obtain⟨⟨b,_,o,es,ep,h1,h2,_⟩,_⟩:=(show eN X.prog X.w H s.heap a (.ext (gb a xs))from I.hok a _ e);exact⟨b,o,h1,h2⟩
end
abbrev xG(h:dN)(it d:dE)(i n ep:Nat):Prop:=h.get? it=some {cls:=.type "dict_keyiterator",dict:=none,data:=.fields #[.ref d,.int i 0,.int n 0,.int ep 0],slots:= #[]}
section
variable{prog:dF}{w:dH}{A:dG}{E:dB->dD->Prop}{s:dD}
theorem B2{it d:dE}{i ep:Nat}{es:Array DictEntry}{o:Obj}{Q:Option dB->dD->Prop}(c:xG s.heap it d i es.size ep)(hd:s.heap.get? d=some o)(h:o.data = .dict es ep)(hi:i<es.size)(q:∀h',xG h' it d (i+1) es.size ep->Heap.SameBut it s.heap h'->Q (some es[i].key) {s with heap:=h'}):dM (model prog w) A (pyNext (.ref it)) Q E s:=by
 have k:s.TypeIs (.ref it) "dict_keyiterator":=⟨_,c,rfl⟩;unfold pyNext;refine wB1 (wpAny_attempt (wpAny_callSpecial?_slot (name:=Str.ofString "__next__") k PySem.F.slot_dict_keyiterator_next
  (wE1 PySem.F.slot_dict_keyiterator_next k PySem.F.entry_dict_keyiterator_next ?_ (PySem.F.args_dict_keyiterator_next_1 _))))
 refine wB1 (wP1 (wB1 (wB1 (wB1 (wpAny_typeNameOfWhole_keyiter k (wP1 ?_))))));refine wB1 (wpAny_fieldsOf c rfl ?_);have j:Builtin.Dict_items.ownsTuple "dict_keyiterator"=false:=by decide
 simp only[j,bF1,if_false];show dM _ _ (if(Value.ref d == Value.none)=true then _ else _) _ _ s;rw[if_neg (show¬ ((Value.ref d == Value.none)=true)from aK)];refine wB1 (wP1 (wB1 (wpAny_dictEntries hd h ?_)));rw[if_neg (by simp)];refine wB1 (wP1 (wB1 (wpAny_dictEpoch hd h ?_)));rw[if_neg (by simp)];refine wP1 ?_;simp only[show¬ ((i:Int)<0)from by lia,if_false,Int.toNat_natCast,aG1 hi];refine wB1 (wB1 (wpAny_typeNameOfWhole_keyiter k (wP1 ?_)));refine wB1 (wpAny_isOneOf_keyiter k ?_);show dM _ _ (setField (.ref it) 1 (rawInt ((i:Int)+1)) >>= _) _ _ s;refine wB1 (wS1 c (by simp) fun b a f=>?_);replace a:xG b it d (i+1) es.size ep:=by
  have e:((i+1:Nat):Int)=(i:Int)+1:=by lia
  unfold xG;rw[e];simpa[rawInt]using a
 have g:Shared.TypeIs {s with heap:=b} (.ref it) "dict_keyiterator":=⟨_,a,rfl⟩;refine wB1 (wpAny_holding (wB1 (wpAny_isOneOf_keyiter g ?_)));show dM _ _ (pure es[i].key) _ _ _;exact wP1 (wP1 ⟨_,rfl,wP1 (q b a f)⟩)
theorem EX{it d:dE}{i ep:Nat}{es:Array DictEntry}{o:Obj}{Q:Option dB->dD->Prop}(n:A.handled=none)(c:xG s.heap it d i es.size ep)(hd:s.heap.get? d=some o)(g:o.data = .dict es ep)(hi:es.size<=i)(q:∀h',(∀b o,b≠it->s.heap.get? b=some o->h'.get? b=some o)->Q none {s with heap:=h'}):dM (model prog w) A (pyNext (.ref it)) Q E s:=by
 have j:s.TypeIs (.ref it) "dict_keyiterator":=⟨_,c,rfl⟩;unfold pyNext;refine wB1 (wpAny_attempt (wpAny_callSpecial?_slot (name:=Str.ofString "__next__") j PySem.F.slot_dict_keyiterator_next
  (wE1 PySem.F.slot_dict_keyiterator_next j PySem.F.entry_dict_keyiterator_next ?_ (PySem.F.args_dict_keyiterator_next_1 _))))
 refine wB1 (wP1 (wB1 (wB1 (wB1 (wpAny_typeNameOfWhole_keyiter j (wP1 ?_))))));refine wB1 (wpAny_fieldsOf c rfl ?_);have h:Builtin.Dict_items.ownsTuple "dict_keyiterator"=false:=by decide
 simp only[h,bF1,if_false];show dM _ _ (if(Value.ref d == Value.none)=true then _ else _) _ _ s;rw[if_neg (show¬ ((Value.ref d == Value.none)=true)from aK)];refine wB1 (wP1 (wB1 (wpAny_dictEntries hd g ?_)));rw[if_neg (by simp)];refine wB1 (wP1 (wB1 (wpAny_dictEpoch hd g ?_)));rw[if_neg (by simp)];refine wP1 ?_;simp only[show¬ ((i:Int)<0)from by lia,if_false,Int.toNat_natCast,cv hi];refine wB1 (wB1 (wpAny_typeNameOfWhole_keyiter j (wP1 ?_)));show dM _ _ (setField (.ref it) 0 .none >>= _) _ _ s;refine wB1 (wS1 c (by simp) fun l k f=>?_);show dM _ _ (newExc (.type "StopIteration") [] >>= _) _ _ _;refine wB1 ?_;simp only[newExc,newTuple];refine wB1 (wO1 ?_ (by size_fits));refine wB1 (m:=firstArgMember _ _) (wpAny_of_eq (a:=Value.none) (by first|rfl|(simp only[firstArgMember];rfl)) ?_);refine wO1 ?_ (by size_fits);simp only[raiseNew];refine wB1 (wpAny_handled ?_);rw[show A.in1.handled=none from n];refine wB1 (wP1 (wpAny_throw ?_));refine wB1 (wpAny_isInstance (T:="StopIteration") (b:=true) ⟨_,hS1 _ rfl,rfl⟩ isSubtype_stop ?_);exact wP1 (q _ fun b o p e=>hP1 _ (hP1 _ (f.extBut b o p e)))
theorem B3 {d:dE}{es:Array DictEntry}{ep:Nat}{o:Obj}{Q:dB->dD->Prop}(hm:(d == sysModules)=false)(hd:s.heap.get? d=some o)(hc:o.cls = .type "dict")(a:o.data = .dict es ep)(hn:es.size<=dL)
  (q:Q (.ref s.heap.objs.size) {s with heap:=s.heap.push {cls:=.type "dict_keyiterator",data:=.fields #[.ref d,.int 0 0,.int es.size 0,.int ep 0]}}):dM (model prog w) A (pyIter (.ref d)) Q E s:=by
 have b:s.TypeIs (.ref d) "dict":=⟨o,hd,hc⟩;refine wpAny_pyIter_slot b PySem.F.slot_dict_iter (wE1 PySem.F.slot_dict_iter b PySem.F.entry_dict_iter ?_ (PySem.F.args_dict_iter_1 _));unfold Builtin.«dict.__iter__»;refine wB1 ?_;unfold Builtin.Dict.dictSlotNone;refine wB1 (wpAny_notOrdered_dict b ?_);show dM _ _ (pure (Value.ref d)) _ _ s;refine wP1 ?_;show dM _ _ (Builtin.Dict.showsAll d >>= _) _ _ s;unfold Builtin.Dict.showsAll;rw[if_neg (by rw[hm];exact aK)];refine wB1 (wP1 (wB1 (wpAny_dictEntries hd a (wB1 (wpAny_dictEpoch hd a (wB1 ?_))))));refine wO1 (wP1 ⟨_,rfl,"dict_keyiterator",_,⟨_,hS1 _ rfl,rfl⟩,PySem.F.slot_dict_keyiterator_next.lookup,?_⟩);simpa[rawInt]using q
end
section
variable{prog:dF}{w:dH}{A:dG}{E:dB->dD->Prop}{R:Result->dD->Prop}
end
section
variable{X:Cx}
theorem KT.keys{K:Fg1}{H:Hp}{mu:List dE}:∀{ks:List (TK×D)} {ws:List (TK×dE×dB)},KT K H mu ks ws->d0 K H mu (ks.map fun p=>tkD p.1) (ws.map fun x=>V.ref x.2.1)
 |_,_,.nil=>.nil
 |_,_,.cons ⟨z,d,k,_⟩ t=>.cons k (KT.keys t)
def Im(X:Cx)(td ty tx:TE):TE:=fun σ H Q=>td σ H fun x H1=>∃a,x = .ref a/\FF H1 a/\ty σ H1 fun y H2=>tx σ H2 fun z H3=>
 ∀pins s u r,Inv X pins σ H3 s->d6 y u->d6 z r->dM (model X.prog X.w) X.A (call (.builtin "dict.get") [.ref a,u,r]) (EP X pins σ Q) X.xe s
theorem Ee {o e f:Expr}{apos cpos:Pos}{td ty tx:TE}(ho:PE X o td)(he:PE X e ty)(hf:PE X f tx)(m:M2 X o "get" apos e f cpos):PE X (.Call (.Attribute o "get" apos) [e,f] [] cpos) (Im X td ty tx):=by
 intro pins s σ H Q I h;refine wpAny_Call_method m.base m.few m.line PySem.F.plainAttrs_dict PySem.F.slot_dict_get PySem.F.type_dict_get (fg (ho pins s σ H _ I h) fun u p ⟨x,H1,i,q,a,ex,d,B⟩=>?_);subst ex;obtain rfl:u=Value.ref a:=q;obtain⟨_,o',j,c⟩:=B8 i d;refine⟨⟨o',j,c.1⟩,fun b k=>by cases k;exact⟨o',j,c.2.1⟩,?_⟩;rw[m.trees];refine Calls.callWith_builtin rfl (Calls.evalArgs_plain (Calls.spliced_cons (fg (he pins p σ H1 _ i B) fun t A ⟨y,H2,C,r,l⟩=>
  Calls.spliced_cons (fg (hf pins A σ H2 _ C l) fun v n ⟨z,E,w,D,g⟩=>Calls.spliced_nil ?_))))
 exact g pins n t v w r D
def xm(S:Sto)(n:Nat):Option (List (TK×D)):=match S[n]? with
 |some (.dcT kvs)=>some kvs
 |some (.dct [])=>some []
 |_=>none
theorem vZ{H:Hp}{mu:List dE}{S:Sto}{n:Nat}{a:dE}{kvs:List (TK×D)}(hs:Sim X.K H mu S)(hn:mu[n]? = some a)(h:xm S n=some kvs):
  FF H a /\ ∃xs,KT X.K H mu kvs xs /\ ∀pins σ s,Inv X pins σ H s->(a == sysModules)=false/\s.heap.DictOfH (fP X.prog X.w) a xs:=by
 unfold xm at h;split at h
 ·rename_i ks b;cases h;obtain⟨xs,h1,h2,l⟩:=hs.dcT b hn;exact⟨.inr ⟨xs,h1⟩,xs,h2,fun pins σ s I=>sQ I h1 h2⟩
 ·rename_i b;cases h;obtain⟨ws,h1,h2⟩:=hs.dct b hn;cases h2;refine⟨.inl ⟨[],h1⟩,[],.nil,fun pins σ s I=>?_⟩;obtain⟨_,d,vs,f,o,es,ep,j,k,i,e⟩:=I.hok a _ h1;cases f;have c:es.toList=[]:=cu.mp (by have:=e.2.1.length;simpa using this);exact⟨d,o,es,ep,j,k,i,c,fun x g=>(by cases g),bq⟩
 ·cases h
def qh(m a b:FE):FE:=fun r S=>(m r S).bind fun p=>match p.1 with
 | .ref n=>(xm p.2 n).bind fun _=>(a r p.2).bind fun q=>(b r q.2).bind fun t=>(xm t.2 n).bind fun kvs=>(keyT q.1).map fun k=>((d2 kvs k).getD t.1,t.2)
 |_=>none
theorem wv {o e f:Expr}{apos cpos:Pos}{m a b:FE}(Z:X.A.units+64<cLine)(ho:XE X o m)(he:XE X e a)(hf:XE X f b)(hm:M2 X o "get" apos e f cpos:=by exact⟨rfl,rfl,rfl,rfl⟩):XE X (.Call (.Attribute o "get" apos) [e,f] [] cpos) (qh m a b):=
 ⟨eU (Ee ho.h he.h hf.h hm) <| by
  rintro σ H Q ⟨r,mu,S,d,S',he,T,hm,hc⟩;obtain⟨⟨M,G⟩,e1,hm⟩:=oB1.mp hm;refine⟨r,mu,S,M,G,he,T,e1,fun v1 H1 mu1 l N D=>?_⟩;dsimp only at hm;split at hm
  ·rename_i n;obtain⟨P,q,hm⟩:=oB1.mp hm;cases N with
   | @ref _ C E=>
    refine⟨C,rfl,(vZ D E q).1,?_⟩;obtain⟨⟨O,F⟩,W,hm⟩:=oB1.mp hm;obtain⟨⟨Y,S3⟩,V,hm⟩:=oB1.mp hm;refine⟨r,mu1,G,O,F,he.ext l,D,W,fun v2 H2 t j r2 U=>?_⟩;refine⟨r,t,F,Y,S3,(he.ext l).ext j,U,V,fun v3 i g h r3 B=>?_⟩;obtain⟨kvs,R,hm⟩:=oB1.mp hm;obtain⟨k,L,hm⟩:=oM1.mp hm;cases hm;intro pins s u w I ru y;obtain⟨_,xs,J,hd⟩:=vZ B (h.at (j.at E)) R;obtain⟨x,dd⟩:=hd pins σ s I;obtain⟨b,rfl,rfl,_,_,hi⟩:=iW I (r2.ext h) ru L;refine call_meetsIn PySem.F.slot_dict_get dd.typeIs PySem.F.entry_dict_get (PySem.F.args_dict_get_3 _ _ _) (meetsH_dict_get_default (fP X.prog X.w) C b x w) ⟨iq Z,k,xs,hi,dd,?_⟩;show EP X pins σ Q (((atKey xs k).map (·.2)).getD w) _;cases ez:d2 kvs k with
    |none=>
     have c:=(J.look (k:=k)).2;rw[ez]at c hc;have A:atKey xs k=none:=by
      cases A:atKey xs k with
      |none=>rfl
      |some _=>rw[A]at c;cases c
     rw[A];exact⟨v3,i,I.tok _,y,hc _ i g ((l.trans j).trans h) r3 B⟩
    |some z=>
     obtain⟨p,v,K,rv,rd⟩:=J.look.1 z ez;rw[ez]at hc;rw[K];exact⟨v,i,I.tok _,rv,hc _ i g ((l.trans j).trans h) rd B⟩
  ·cases hm⟩
end
def NF(X:Cx)(a:dE):Prop:=(∀xs,X.H₀ a≠some (.tup xs))/\(∀o v,X.H₀ a≠some (.frz o v)) /\ ∀ps,X.H₀ a≠some (.tbl ps)
section
variable{X:Cx}{pins:List (dE×Obj)}{σ:L2.St}{H:Hp}{s:dD}{a:dE}{u v:HO}
theorem sv(I:Inv X pins σ H s)(e:H a=some u)(d:NF X a)(h1:∀c,u ≠ .own c)(h2:∀xs,u ≠ .tup xs)(new:eN X.prog X.w H s.heap a v):Inv X pins σ (upd H a v) s:=by
 have ne:∀{b:dE},H b=none->b≠a:=fun{b} z=>by rintro rfl;rw[e]at z;cases z
 have h:∀b c,H b=some (.own c)->upd H a v b=some (.own c):=fun b c z=>by
  rw[dY (by rintro rfl;rw[e]at z;cases z;exact h1 _ rfl)];exact z
 have f:∀b xs,H b=some (.tup xs)->upd H a v b=some (.tup xs):=fun b xs z=>by
  rw[dY (by rintro rfl;rw[e]at z;cases z;exact h2 _ rfl)];exact z
 refine⟨I.ok,I.os,I.bare,⟨I.base.keep,I.base.slot,fun b o q n l=>?_,I.base.there,fun b xs q=>?_,fun b o w q=>?_,fun b ps q=>?_⟩,I.loc,I.cell,?_,fun x c q=>?_,fun p k=>?_,fun b w q=>?_,I.len⟩
 ·have z:=I.base.free b o q n l;rw[dY (ne z)];exact z
 ·rw[dY (by rintro rfl;exact d.1 _ q)];exact I.base.tups b xs q
 ·rw[dY (by rintro rfl;exact d.2.1 _ _ q)];exact I.base.frzs b o w q
 ·rw[dY (by rintro rfl;exact d.2.2 _ q)];exact I.base.tbls b ps q
 ·rw[dY (ne I.free)];exact I.free
 ·rw[dY (ne (I.freeC x c q))];exact I.freeC x c q
 ·obtain⟨i,p2,j⟩:=I.pin p k;exact⟨i,by rw[dY (ne p2)];exact p2,j⟩
 ·by_cases g:b=a
  ·subst g;rw[d3]at q;cases q;exact new.stay (fun c o _ z=>z) (fun c z=>h c _ z) fun c xs z=>f c xs z
  ·rw[dY g]at q;exact(I.hok b w q).stay (fun c o _ z=>z) (fun c z=>h c _ z) fun c xs z=>f c xs z
end
inductive xH (a:dE):List (TK×dE×dB)->HO->Prop
 |ext (xs:List (TK×dE×dB)):xH a xs (.ext (gb a xs))
 |dK:xH a [] (.dK [])
def ItD(a:dE)(o:Obj)(xs:List (TK×dE×dB)):It:=
 ⟨fun i H=>(∃u,H a=some (.frz o u))/\i<xs.length,fun i H x H'=>H'=H /\ ∃q,xs[i]?=some q/\x = .ref q.2.1,fun i H=>(∃u,H a=some (.frz o u))/\xs.length<=i⟩
theorem wy{P:dF}{w:dH}{K:Fg1}{tg:Expr}{a it:dE}{o:Obj}{xs:List (TK×dE×dB)}{es:Array DictEntry}{ep:Nat}(hd:o.data = .dict es ep)(c:es.toList=xs.map fun x=>(⟨x.1.hash,.ref x.2.1,x.2.2⟩:DictEntry)):
  tq P w K tg (ItD a o xs) [it] it (fun i h=>xG h it a i es.size ep) where
 mem:=by simp
 obj:=fun i h st b d=>by
  have e:b=it:=by simpa using d
  subst e;exact⟨_,st,fun v z=>by cases z⟩
 keep:=fun i h h' st k=>k it (by simp) _ st
 item:=by
  intro X n B y hc i pins s σ H E I f st q;subst n B y;obtain⟨⟨u,p⟩,hi⟩:=q;obtain⟨m,_⟩:=(show eN X.prog X.w H s.heap a (.frz o u)from I.hok a _ p);have g:es.size=xs.length:=by rw[<- aJ,c,lM1]
  obtain⟨l,j,J,t,r,A⟩:=f it (by simp);refine B2 st m hd (by omega) fun h' st' C=>?_;have D:Inv X pins σ H {s with heap:=h'}:=I.turned (t':=s.toks) (fun b o d e=>(C.2 b d).trans e) l j t r A;have G:es[i].key = .ref (xs[i]).2.1:=by
   have:es.toList[i]?=(xs.map fun x=>(⟨x.1.hash,.ref x.2.1,x.2.2⟩:DictEntry))[i]?:=by rw[c]
   rw[aT1,aG1 (by omega),gP1,gG1 hi]at this;have:=Option.some.inj this;rw[this]
  refine⟨_,rfl,vM (s:={s with heap:=h'}) st' rfl rfl (by decide) ⟨.ref (xs[i]).2.1,H,D,G,⟨rfl,_,gG1 hi,rfl⟩,st',fun b d=>(f b d).1⟩⟩
 done:=by
  intro X n B y hc i pins s σ H E I f st q;subst n B y;obtain⟨⟨u,p⟩,hi⟩:=q;obtain⟨m,_⟩:=(show eN X.prog X.w H s.heap a (.frz o u)from I.hok a _ p);have g:es.size=xs.length:=by rw[<- aJ,c,lM1]
  obtain⟨l,j,J,t,r,A⟩:=f it (by simp);exact EX (I.ok.hd hc) st m hd (by omega) fun h' F=>⟨rfl,I.turned (t':=s.toks) (fun b o d e=>F b o d e) l j t r A⟩
 self:=fun _ _ _ _ _ st h=>wpAny_pyIter_keyiter ⟨_,st,rfl,rfl⟩ h
def G0(X:Cx)(tl:TE):TI:=fun σ H R=>tl σ H fun x H1=>∃a xs u,x = .ref a/\H1 a=some u/\xH a xs u/\xs.length<=dL /\ ∀o,wp a xs o->NF X a->R (ItD a o xs) (upd H1 a (.frz o u))
theorem Ff{X:Cx}{pins:List (dE×Obj)}{σ:L2.St}{H:Hp}{s:dD}{a:dE}{u:HO}{xs:List (TK×dE×dB)}(I:Inv X pins σ H s)(e:H a=some u)(h:xH a xs u):∃o,s.heap.get? a=some o/\wp a xs o:=by
 cases h with
 |ext xs=>
  obtain⟨⟨h1,h2,o,es,ep,b,c,f,d⟩,_⟩:=(show eN X.prog X.w H s.heap a (.ext (gb a xs))from I.hok a _ e);exact⟨o,b,h1,h2,c,es,ep,f,d⟩
 |dK=>
  obtain⟨_,h1,vs,h2,b⟩:=(show eN X.prog X.w H s.heap a (.dK [])from I.hok a _ e);cases h2;obtain⟨o,es,ep,b,c,f,d,_⟩:=ny b;exact⟨o,b,h1,bq,c,es,ep,f,d⟩
theorem Fe{X:Cx}{pins:List (dE×Obj)}{σ:L2.St}{H:Hp}{s:dD}{a:dE}{u:HO}{xs:List (TK×dE×dB)}(I:Inv X pins σ H s)(e:H a=some u)(h:xH a xs u):NF X a:=by
 refine⟨fun ys q=>?_,fun o v q=>?_,fun ps q=>?_⟩
 ·have:=I.base.tups a ys q;rw[e]at this;cases this;cases h
 ·have:=I.base.frzs a o v q;rw[e]at this;cases this;cases h
 ·obtain⟨m,z⟩:=I.base.tbls a ps q;rw[e]at z;cases z;cases h
theorem D6{X:Cx}{tg l:Expr}{tl:TE}(w:PE X l tl):PI X tg l (G0 X tl):=by
 intro pins s σ H R I h;refine fg (w pins s σ H _ I h) fun v s1 ⟨x,H1,d,C,A⟩=>?_;obtain⟨a,xs,u,e,f,g,E,q⟩:=A;subst e;cases C;obtain⟨o,n,j⟩:=Ff d f g;have p:=Fe d f g;have q:=q o j p;obtain⟨r,D,y,es,ep,m,i⟩:=j;have t:es.size=xs.length:=by rw[<- aJ,i,lM1]
 refine B3 r n y.1 m (by lia) ?_;have k:Inv X pins σ (upd H1 a (.frz o u)) s1:=sv d f p (fun c z=>by subst z;cases g) (fun c z=>by subst z;cases g) ⟨n,d.hok a _ f⟩;refine⟨s1.heap.objs.size,[s1.heap.objs.size],_,_,_,rfl,k.kept (t':=s1.toks) fun b o e=>hP1 _ e,wy m i,hS1 _ rfl,fun b B=>?_,q⟩;have e:b=s1.heap.objs.size:=by simpa using B
 subst e;exact d.fpOk (nR1 _) (k.hok.fresh (nR1 _))
def zK:Ob->Option (List (TK×D))
 | .dcT kvs=>some kvs
 | .dct []=>some []
 |_=>none
def lg(k:Nat)(keep:List Nat)(m:FE)(g:FG)(t:FT)(b:FV):FE:=fun r S=>(m r S).bind fun p=>match p.1 with
 | .ref n=>(p.2[n]?).bind fun ob=>(zK ob).bind fun kvs=>(fM [] g t b (kvs.map fun q=>tkD q.1) (nS k keep r) (p.2.set n (.dcF kvs))).bind fun q=>
   if q.1.length<=dL then some (.ref q.2.2.length,q.2.2.set n ob++[.lst q.1])else none
 |_=>none
section
variable{K:Fg1}{H H':Hp}{mu mu':List dE}{S:Sto}{n:Nat}{a:dE}{o:Obj}{u:HO}
theorem jH.exv{b:dE}(e:xP mu mu' H H')(h:∀o,H b=some o->H' b=some o):∀{o:Ob},jH K H mu b o->jH K H' mu' b o
 | .lst _,⟨vs,q,r⟩=>⟨vs,h _ q,r.exv e⟩
 | .dct _,⟨ws,q,r⟩=>⟨ws,h _ q,Paired.mapP r fun _ _ z=>⟨z.1,z.2.exv e⟩⟩
 | .dcT _,⟨ws,q,r,l⟩=>⟨ws,h _ q,Paired.mapP r fun _ _ ⟨z,d,k,v,a,r⟩=>⟨z,d,k.exv e,v,a,r.exv e⟩,l⟩
 | .iset _,q=>⟨h _ q.1,q.2⟩
 | .dcF _,⟨ws,⟨o,u,f,c⟩,r,l⟩=>⟨ws,⟨o,u,h _ f,c⟩,Paired.mapP r fun _ _ ⟨z,d,k,v,a,r⟩=>⟨z,d,k.exv e,v,a,r.exv e⟩,l⟩
 | .tst _,⟨ws,q,r⟩=>⟨ws,h _ q,Paired.mapP r fun _ _ ⟨z,d,k,v,a,r⟩=>⟨z,d,k.exv e,v,a,r.exv e⟩⟩
theorem rj(e:H a=some (.frz o u))(h1:∀xs,u ≠ .tup xs)(h2:∀xs,u ≠ .lst xs):xP mu mu H (upd H a u) where
 pre:=bn
 tup:=fun b xs h=>by
  have ne:b≠a:=by
   rintro rfl;rcases h with h|⟨_,h⟩<;>(rw[e]at h;cases h)
   exact h1 _ rfl
  rcases h with h|⟨c,h⟩
  ·exact .inl (by rw[dY ne];exact h)
  ·exact .inr ⟨c,by rw[dY ne];exact h⟩
 frl:=fun b c xs h=>by
  rw[dY (by rintro rfl;rw[e]at h;cases h;exact h2 _ rfl)];exact h
theorem Sim.thaw(s:Sim K H mu S){c:Ob}(hn:mu[n]?=some a)(x:xP mu mu H (upd H a u))(ho:jH K (upd H a u) mu a c):Sim K (upd H a u) mu (S.set n c):=by
 refine⟨by rw[aW];exact s.len,s.nd,fun k o' b h1 h2=>?_⟩;by_cases d:n=k
 ·subst d;have g:n<S.length:=by
   have:=(gE1.mp h1).1
   rwa [aW]at this
  rw[aI g]at h1;cases h1;rw[hn]at h2;cases h2;exact ho
 ·rw [gS1 d] at h1;have ne:b≠a:=fun e=>by
   subst e;obtain⟨j,h⟩:=gE1.mp hn;obtain⟨i,f⟩:=gE1.mp h2;exact d ((List.getElem_inj s.nd).mp (h.trans f.symm))
  exact(s.ob k o' b h1 h2).exv x fun c e=>by rw[dY ne];exact e
theorem B5(s:Sim K H mu S){ob:Ob}{kvs:List (TK×D)}(h:S[n]? = some ob)(hk:zK ob=some kvs)(hn:mu[n]? = some a):
  ∃xs u,H a=some u/\xH a xs u/\KT K H mu kvs xs/\xs.length<=dL /\ ∀H' mu',xP mu mu' H H'->H' a=some u->jH K H' mu' a ob:=by
 cases ob with
 |dcT ks=>
  cases hk;obtain⟨xs,e,r,l⟩:=s.dcT h hn;exact⟨xs,_,e,.ext xs,r,l,fun H' mu' x b=>⟨xs,b,Paired.mapP r fun _ _ ⟨z,d,k,v,c,r⟩=>⟨z,d,k.exv x,v,c,r.exv x⟩,l⟩⟩
 |dct ks=>
  cases ks with
  |nil=>
   cases hk;obtain⟨ws,e,r⟩:=s.dct h hn;cases r;exact⟨[],_,e,.dK,.nil,bi _,fun H' mu' x b=>⟨[],b,.nil⟩⟩
  |cons _ _=>cases hk
 |_=>cases hk
end
theorem KT.keyOf{K:Fg1}{H:Hp}{mu:List dE}{ks:List (TK×D)}{ws:List (TK×dE×dB)}(h:KT K H mu ks ws){i:Nat}{d:D}(e:(ks.map fun q=>tkD q.1)[i]?=some d){q:TK×dE×dB}(c:ws[i]?=some q):eJ K H mu d (.ref q.2.1):=by
 obtain⟨v,a,b⟩:=h.keys.get e;rw[gP1,c]at a;cases a;exact b
theorem Aw{X:Cx}{K:Fg1}{k:Nat}{keep:List Nat}{m:FE}{g:FG}{t:FT}{b:FV}{tb:dE->TS}(hb:∀ a E σ H,F6 K a b E σ H->tb a E σ H){σ:L2.St}{H:Hp}{Q:VK}(h:tM K (lg k keep m g t b) σ H Q):
  u4 k keep (G0 X (tM K m)) (Dz K g) (yn K t) tb σ H (fun v H'=>∃a o u,H' a=some (.frz o u)/\(∀xs,u ≠ .tup xs)/\NF X a/\Q v (upd H' a u)):=by
 obtain⟨r,mu,S,d,S',he,hs,l,hc⟩:=h;obtain⟨⟨d1,S1⟩,e1,l⟩:=oB1.mp l;cases d1 with
 |ref n=>
  obtain⟨x,eo,l⟩:=oB1.mp l;obtain⟨kvs,ek,l⟩:=oB1.mp l;obtain⟨⟨ys,r2,J⟩,e2,l⟩:=oB1.mp l;dsimp only at l;split at l
  ·rename_i hl;cases l;refine⟨r,mu,S,.ref n,S1,he,hs,e1,fun v H1 mu1 x1 r1 s1=>?_⟩;cases r1 with
   | @ref _ a C=>
   obtain⟨xs,u,N,A,G,hz,back⟩:=B5 s1 eo ek C;refine⟨a,xs,u,rfl,N,A,hz,fun o hO nf p f=>?_⟩;have mt:Mut (some u):=by cases A<;>trivial
   have put:Ext mu1 mu1 H1 (upd H1 a (.frz o u)):=Ext.put N mt (gM1 C);have sf:Sim K (upd H1 a (.frz o u)) mu1 (S1.set n (.dcF kvs)):=s1.put C N mt ⟨xs,⟨o,u,d3,hO⟩,KT.ext put G,hz⟩;have s:p≠a:=by rintro rfl;rw[d3]at f;cases f
   have T:Ext mu1 mu1 (upd H1 a (.frz o u)) (upd (upd H1 a (.frz o u)) p (.lst [])):=Ext.fresh f;have hlen:kvs.length=xs.length:=by have:=G.keys.length;simpa using this
   have J1:ItR K (ItD a o xs) ⟨kvs.map fun q=>tkD q.1,[]⟩ mu1 (upd H1 a (.frz o u)):=by
    intro i H2 mu2 J x2 s2 _;have hf:=x2.frz a o u d3;refine⟨fun d A=>?_,fun h=>⟨⟨u,hf⟩,by rw[lM1]at h;lia⟩⟩;have hi:i<xs.length:=by have:=(gE1.mp A).1;rw[lM1]at this;lia
    refine⟨⟨⟨u,hf⟩,hi⟩,?_⟩;rintro y H3 ⟨rfl,q,eq,rfl⟩;exact⟨.refl _ _,s2,((KT.ext put G).keyOf A eq).exw x2⟩
   refine si (hb p) J1 T.w d3 (sf.notin f) .nil ((C5 k keep (he.ext (x1.trans put))).ext T) (sf.fresh f) e2 (by simpa using hl) fun σ' H' mu' F I Y Z U he' s'=>?_;have D:H' a=some (.frz o u):=I.frz a o u (by rw[dY s.symm];exact d3);have h1:∀xs,u ≠ .tup xs:=fun xs z=>by subst z;cases A
   have h2:∀xs,u ≠ .lst xs:=fun xs z=>by subst z;cases A
   refine⟨a,o,u,D,h1,nf,?_⟩;have B:=(bY.mp I.pre).2;have na:mu'[n]?=some a:=by
    obtain⟨t,rfl⟩:=B;rw[gL1 (gE1.mp C).1];exact C
   have ne1:∀{b:dE},H1 b=none->b≠a:=fun{b} z=>by rintro rfl;rw[N]at z;cases z
   have y:Ext mu1 (mu'++[p]) H1 (upd H' a u):=by
    refine⟨B.trans (bw _ _),fun b w e nb=>?_,fun b ys e=>?_,fun b x w e=>?_,fun b V=>?_⟩
    ·have R:b≠a:=fun z=>nb (by rw[z];exact gM1 C);have bp:b≠p:=by rintro rfl;rw[dY s,e]at f;cases f
     rw[dY R];exact I.old b w (by rw[dY bp,dY R];exact e) fun z=>by
      rcases aF.mp z with z|z
      ·exact bp z
      ·exact nb z
    ·exact(rj (mu:=mu') D h1 h2).tup b ys (I.tup b ys (T.tup b ys (put.tup b ys e)))
    ·have R:b≠a:=by rintro rfl;rw[N]at e;cases e;cases A
     rw[dY R];exact I.frz b x w (T.frz b x w (put.frz b x w e))
    ·rcases aG.mp V with z|z
     ·rcases I.new b (mC1 _ z)with q|q
      ·rcases aF.mp q with q|q
       ·exact .inr (by rw[q];rw[dY s]at f;exact f)
       ·exact .inl q
      ·by_cases P:b=p
       ·exact .inr (by rw[P];rw[dY s]at f;exact f)
       ·rw[dY P]at q;by_cases O:b=a
        ·exact .inl (by rw[O];exact gM1 C)
        ·rw[dY O]at q;exact .inr q
     ·have:b=p:=by simpa using z
      exact .inr (by rw[this];rw[dY s]at f;exact f)
   have tx:=rj (mu:=mu') D h1 h2;have L:Sim K (upd H' a u) mu' (J.set n x):=s'.thaw na tx (back _ _ ⟨B,y.tup,fun b x w e=>y.frz b x _ e⟩ d3);have M:upd H' a u p=some (.lst F):=by rw[dY s];exact Y
   refine hc _ _ (mu'++[p]) (x1.trans y) (by rw[show J.length=(J.set n x).length by simp];exact .ref (fZ L.len p)) ⟨by rw[lA1,lA1,L.len];rfl,?_,fun j w b h1 h2=>?_⟩
   ·rw[bB];refine⟨L.nd,by simp,fun b hb c hc e=>?_⟩;have:c=p:=by simpa using hc
    subst this;subst e;exact Z hb
   ·by_cases G:j<(J.set n x).length
    ·rw[gL1 G]at h1;rw[gL1 (by rw[L.len];exact G)]at h2;exact(L.ob j w b h1 h2).mor [p]
    ·have W:j=(J.set n x).length:=by
      have:=(gE1.mp h1).1;rw[lA1]at this;simp at this G;simp;lia
     subst W;rw[gR1 (nR1 _)]at h1;rw[<- L.len,gR1 (nR1 _)]at h2;simp at h1 h2;subst h1;subst h2;exact⟨F,M,((by simpa using U:d0 K H' mu' ys F).exv tx).mor [p]⟩
  ·cases l
 |_=>cases l
theorem n9{X:Cx}{elt tg iter:Expr}{ifs:List Expr}{scope:dR}{pos:Pos}{T:List Str}{keep:List Nat}{k:List (Str×dE)}{m:FE}{g:FG}{t:FT}{e:FE}(hc:X.calm=true)(C:FP X scope T keep)(i:i4 X.env.cells scope.names []=some k)(hi:XE X iter m)(hb:∀s H b,HY (cxC X scope k T keep s H b) X.K tg ifs elt g t e)(hs:∀x,foldedSetIterable iter X.env x=pure x:=by intro _;rfl):XE X (.ListComp elt [⟨tg,iter,ifs,0⟩] scope pos) (lg T.length keep m g t (eI e)):=by
 refine⟨fun pins s σ H Q I h=>?_⟩;have n:=vj (g:=Dz X.K g) (ti:=yn X.K t) (emit:=oZ elt) (tb:=fun p=>rn p (tM X.K e)) hc (fun it d f=>tV elt tg iter ifs scope pos it d f) C i (D6 (tg:=tg) hi.h) (fun s H b p=>⟨(hb s H b).g.h,(hb s H b).t.h,pX (hb s H b).e.h p⟩) hs;refine wpAny_mono (n pins s σ H _ I (Aw (fun a E σ H q=>nz q) h)) ?_ fun _ _ x=>x;rintro v y ⟨x,H2,l,r2,a,o,u,j,w,r,q⟩;exact⟨x,upd H2 a u,sv l j r (fun c z=>by cases z) (fun c z=>by cases z) (l.hok a _ j).2,r2,q⟩
theorem uM.lt{xs:Array Nat}(h:uM xs){a b u v:Nat}(e:a<b)(d:xs[a]?=some u)(c:xs[b]?=some v):u<v:=by
 rw[<- aT1]at d c;obtain⟨f,d⟩:=gE1.mp d;obtain⟨g,c⟩:=gE1.mp c;have:=cw.mp h a b f g e;rw[d,c]at this;exact this
structure Bs (xs:Array Nat)(j i:Nat):Prop where
 le:i<=xs.size
 lo:∀k v,xs[k]?=some v->k<i->v<j
 hi:∀k v,xs[k]?=some v->i<=k->j<=v
theorem Bs.uniq{xs:Array Nat}{j i i':Nat}(h:Bs xs j i)(h':Bs xs j i'):i=i':=by
 rcases Nat.lt_trichotomy i i' with z|z|z
 ·have a:i<xs.size:=nL1 z h'.le;have e:=aG1 a;have:=h.hi _ _ e (nR1 _);have:=h'.lo _ _ e z;lia
 ·exact z
 ·have a:i'<xs.size:=nL1 z h.le;have e:=aG1 a;have:=h'.hi _ _ e (nR1 _);have:=h.lo _ _ e z;lia
theorem AB{xs:Array Nat}{j:Nat}(hr:uM xs):∀n lo hi:Nat,lo<=hi->hi<=xs.size->hi-lo<=n->(∀k v,xs[k]?=some v->k<lo->v<j)->(∀k v,xs[k]?=some v->hi<=k->j<=v)->Bs xs j (SetTable.below.go xs j n lo hi)
 |0,lo,hi,h1,h2,i,c,b=>by
  have:lo=hi:=by lia
  subst this;exact⟨h2,c,b⟩
 |n + 1,lo,hi,h1,h2,i,c,b=>by
  rw[SetTable.below.go];by_cases d:lo<hi
  ·rw[if_pos d];have f:(lo+hi)/2<xs.size:=by lia
   have a:=aG1 f;have g:xs.getD ((lo+hi)/2) j=xs[(lo+hi)/2]:=by simp[Array.getD,f]
   dsimp only;rw[g];by_cases hc:xs[(lo+hi)/2]<j
   ·rw[if_pos hc];refine AB hr n _ _ (by lia) h2 (by lia) (fun k v e h=>?_) b;rcases bX k ((lo+hi)/2)with z|z
    ·have:=hr.lt z e a;lia
    ·have:k=(lo+hi)/2:=by lia
     subst this;rw[a]at e;cases e;exact hc
   ·rw[if_neg hc];refine AB hr n _ _ (by lia) (by lia) (by lia) c fun k v e h=>?_;rcases bX ((lo+hi)/2) k with z|z
    ·have:=hr.lt z a e;lia
    ·have:k=(lo+hi)/2:=by lia
     subst this;rw[a]at e;cases e;lia
  ·rw[if_neg d];have:lo=hi:=by lia
   subst this;exact⟨h2,c,b⟩
theorem nC{xs:Array Nat}(hr:uM xs)(j:Nat):Bs xs j (SetTable.below xs j):=
 AB hr _ 0 _ (bi _) (nR1 _) (by lia) (fun _ _ _ h=>absurd h (bA _)) fun k v e h=>by
  have:=(Array.getElem?_eq_some_iff.mp e).1;lia
theorem sy{α:Type}(xs:Array α)(p:Nat)(x:α):(SetTable.insertAt xs p x).toList=xs.toList.take p++x::xs.toList.drop p:=by
 unfold SetTable.insertAt;rw[cy,cA,cB,cB];simp[List.extract_eq_drop_take];rw[ca (by simp)]
theorem Bc{xs:Array Nat}(hr:uM xs){j:Nat}(hn:xs[SetTable.below xs j]? ≠ some j):uM (SetTable.insertAt xs (SetTable.below xs j) j):=by
 have b:=nC hr j;unfold uM;rw[sy,cC,cf];have lo:∀v∈xs.toList.take (SetTable.below xs j),v<j:=fun v h=>by
  obtain⟨k,d⟩:=br h;rw[List.getElem?_take]at d;split at d
  ·rename_i f;exact b.lo k v (by rw[<- aT1];exact d) f
  ·cases d
 have hi:∀v∈xs.toList.drop (SetTable.below xs j),j<v:=fun v h=>by
  obtain⟨k,d⟩:=br h;rw[cD,aT1]at d;have h1:=b.hi _ v d (bt _ _);rcases bX j v with z|z
  ·exact z
  ·exfalso;have g:v=j:=by lia
   subst g;cases k with
   |zero=>exact hn d
   |succ k=>
    have l:SetTable.below xs v<xs.size:=by have:=(Array.getElem?_eq_some_iff.mp d).1;lia
    have e:=aG1 l;have:=b.hi _ _ e (nR1 _);have:=hr.lt (by lia) e d;lia
 refine⟨hr.sublist (aT _ _),⟨hi,hr.sublist (cE _ _)⟩,fun a i c hc=>?_⟩;rcases aF.mp hc with z|z
 ·rw[z];exact lo a i
 ·exact bh (lo a i) (hi c z)
structure TS (l:Bool)(t:SetTable):Prop where
 up:uM t.place
 du:t.dummies = #[]
 ld:t.led=l
theorem rX{t:SetTable}(hd:t.dummies = #[])(j:Nat):SetTable.has t.dummies j=false:=by rw[hd];rfl
theorem oh{t:SetTable}(hd:t.dummies = #[]){f:Nat->Int}{h:Int}:∀(n:Nat) (p:SetTable.Probe) (j:Nat) (d:Option Nat),p.dummy=none->SetTable.probe.go t f h n p=some (.empty j d)->d=none/\t.place[SetTable.below t.place j]? ≠ some j
 |0,p,j,d,_,e=>by rw[SetTable.probe.go]at e;cases e
 |n+1,p,j,d,hp,e=>by
  have a:(t.advance p).dummy=none:=by
   unfold SetTable.advance;split
   ·exact hp
   ·dsimp only;exact hp
  rw[SetTable.probe.go]at e;unfold SetTable.slot at e;dsimp only at e;rw[rX hd]at e;by_cases hc:(t.place[SetTable.below t.place p.j]? == some p.j)=true
  ·rw[if_pos hc]at e;dsimp only at e;split at e
   ·cases e
   ·exact oh hd n _ j d a e
  ·rw[if_neg hc,if_neg (by decide)]at e;dsimp only at e;cases e;refine⟨hp,fun z=>hc ?_⟩;rw[z];simp
theorem Cp{t:SetTable}(hd:t.dummies = #[]){h:Int}{j:Nat}{b:Bool}(e:t.freeSlot h=some (j,b)):t.place[SetTable.below t.place j]? ≠ some j:=by
 unfold SetTable.freeSlot at e;split at e
 ·rename_i c d ep;obtain⟨rfl,a⟩:=oh hd _ _ _ _ rfl ep;cases e;exact a
 ·cases e
theorem jN{l:Bool}{t:SetTable}(h:TS l t)(n:Nat):TS l (t.standIn n):=by
 refine⟨?_,rfl,h.ld⟩;show(Array.range n).toList.Pairwise (· < ·);rw[Array.toList_range];exact cF
theorem FU{l:Bool}{t:SetTable}(h:TS l t)(n:Nat):TS l (t.orStandIn n):=by
 unfold SetTable.orStandIn;split
 ·exact h
 ·exact jN h n
theorem Ds{l:Bool}{t:SetTable}(ht:TS l t)(es:Array (Int×dB))(h:Int)(x:dB):TS l (layNew t es h x).2.1:=by
 unfold layNew;split
 ·rename_i j b e;show TS l ((t.put j).1.orStandIn _);refine FU (t:=(t.put j).1) ⟨?_,?_,ht.ld⟩ _
  ·exact Bc ht.up (Cp ht.du e)
  ·show(if SetTable.has t.dummies j=true then _ else t.dummies) = #[];rw[rX ht.du,if_neg (by decide)];exact ht.du
 ·exact jN ht _
theorem qt{α:Type}(f:Nat->Option α):∀l:List Nat,((l.filterMap fun j=>(f j).map (j,·)).map (·.1)).Sublist l
 |[]=>.slnil
 |a::l=>by
  rw[aE];cases f a with
  |none=>exact(qt f l).cons a
  |some x=>exact(qt f l).cons₂ a
theorem A5{l p:Bool}{m c b:Nat}{hs:Array Int}{t:SetTable}{a:Array Nat}(e:SetTable.laid m c b l p hs=some (t,a)):TS l t:=by
 unfold SetTable.laid at e;obtain⟨d,_,e⟩:=oB1.mp e;cases e;refine⟨?_,rfl,rfl⟩;unfold uM;dsimp only;exact List.pairwise_lt_range.sublist (by simpa using qt (fun j=>d.getD j none) (List.range (m+1)))
theorem yb{l:Bool}{t:SetTable}(ht:TS l t)(es:Array (Int×dB))(n:Nat):TS l (relayAll t es n).2.1:=by
 unfold relayAll;split
 ·rename_i b a e;dsimp only;split
  ·have:=A5 e;rw[ht.ld]at this;exact this
  ·exact jN ht _
 ·exact jN ht _
theorem yc(l:Bool):TS l (SetTable.fresh 0 0 l):=⟨List.Pairwise.nil,rfl,rfl⟩
theorem CC{xs:Array Nat}(hr:uM xs){i:Nat}(hi:i<xs.size):SetTable.below xs (xs[i]+1)=i+1:=by
 refine(nC hr _).uniq ⟨hi,fun k v e a=>?_,fun k v e a=>?_⟩
 ·rcases bX k i with z|z
  ·have:=hr.lt z e (aG1 hi);lia
  ·have:k=i:=by lia
   subst this;rw[aG1 hi]at e;cases e;lia
 ·have:=hr.lt (show i<k by lia) (aG1 hi) e;lia
theorem AA{xs:Array Nat}(hr:uM xs):SetTable.below xs 0=0:=
 (nC hr _).uniq ⟨bi _,fun k v e a=>absurd a (bA _),fun k v e a=>bi _⟩
def IJ(e:Int×dB):Int:=match e.2 with
 | .int k _=>k
 |_=>0
structure Els (es:Array (Int×dB))(ns:List Int):Prop where
 el:∀e∈es.toList,∃k t,e=(hashInt k,Value.int k t)
 pm:(es.toList.map IJ).Perm ns
theorem Els.of{P:dF}{w:dH}{es:Array (Int×dB)}{ns:List Int}(h:Els es ns):ElemsOf (intKind P w) es.toList:=fun e a=>by
 obtain⟨k,t,rfl⟩:=h.el e a;exact⟨⟨k,intKind_is _ _ _ _,rfl⟩,rfl⟩
theorem Els.size{es:Array (Int×dB)}{ns:List Int}(h:Els es ns):es.size=ns.length:=by
 have:=h.pm.length_eq;rw[lM1,aJ]at this;exact this
theorem Els.perm{es fs:Array (Int×dB)}{ns:List Int}(h:Els es ns)(p:fs.toList.Perm es.toList):Els fs ns:=
 ⟨fun e a=>h.el e (p.mem_iff.mp a),(p.map _).trans h.pm⟩
theorem Els.add{es fs:Array (Int×dB)}{ns:List Int}(h:Els es ns){k:Int}{t:Tok}(p:fs.toList.Perm (es.push (hashInt k,.int k t)).toList):Els fs (ns++[k]):=by
 rw[cA]at p;refine⟨fun e a=>?_,?_⟩
 ·rcases aG.mp (p.mem_iff.mp a)with z|z
  ·exact h.el e z
  ·simp at z;exact⟨k,t,z⟩
 ·refine(p.map _).trans ?_;rw[cG];exact h.pm.append (.refl _)
def jd(b:Bool)(p:dE)(ns:List Int)(h:dN):Prop:=∃es ep t l,h.get? p=some (stO es ep t)/\Els es ns/\es.size<scanBound/\t.fits es.size=true/\TS l t/\(b=false->l=true)
section
variable{P:dF}{w:dH}{A:dG}{E:dB->dD->Prop}{s:dD}{b:Bool}{p:dE}{ns:List Int}
theorem yL{es fs:Array (Int×dB)}{ep:Nat}{t u:SetTable}{h:dN}(e:h.get? p=some (stO es ep t)):(h.update p (Obj.putSet fs u)).get? p=some (stO fs (ep+1) u):=by
 have:=hW1 (Obj.putSet fs u) e (by rw[putSet_of fs u rfl];rfl);rw[putSet_of fs u rfl]at this;exact this
theorem gw{c:Bool}{Q:Unit->dD->Prop}(q:Q () s):dM (model P w) A (match c with
  |true=>rule "set.scan.the-table-gave-way"
  |false=>pure ()) Q E s:=by cases c<;>first|exact wP1 q|exact wpAny_rule q
theorem IX{k:Int}{tk:Tok}{Q:Bool->dD->Prop}(X:jd b p ns s.heap)(hr:ns.length+1<scanBound)(q:∀c h',Heap.SameBut p s.heap h'->jd b p (step_dedup ns k) h'->Q c {s with heap:=h'}):dM (model P w) A (setAddHashed p (.int k tk) (hashInt k)) Q E s:=by
 obtain⟨es,ep,t,l,i,a,V,I,S,F⟩:=X;have hz:=a.size;have U:ElemsOf (intKind P w) es.toList:=a.of;unfold setAddHashed setAddHashedIn;refine wpAny_holding (wB1 (wpAny_setState_of i rfl I ?_));dsimp only;rw[byScan_of (knd:=intKind P w) rfl V U,if_pos rfl];unfold setAddByScan;refine wB1 (wB1 (wpAny_rule (wB1 (wpAny_setScan_of (knd:=intKind P w) (k:=k) (intKind_is _ _ _ _) i rfl I U ?_))));cases hx:List.findIdx? (fun e=>(intKind P w).is k e.2) es.toList with
 |some j=>
  obtain⟨N,h,_⟩:=b8.mp hx;have J:k∈ns:=by
   refine a.pm.mem_iff.mp (ci.mpr ⟨_,bU N,?_⟩);obtain⟨k',Z,e⟩:=a.el _ (bU N);rw[e]at h ⊢;exact((intKind P w).inj _ _ _ h (intKind_is P w k' Z)).symm
  have H:step_dedup ns k=ns:=by unfold step_dedup;rw[if_pos (bT.mpr ⟨k,J,by simp⟩)]
  rw[H]at q;exact wP1 (wP1 (q _ s.heap (Heap.SameBut.refl p s.heap) ⟨es,ep,t,l,i,a,V,I,S,F⟩))
 |none=>
  have H:step_dedup ns k=ns++[k]:=by
   unfold step_dedup;rw[if_neg fun z=>?_];obtain⟨k',J,e⟩:=bT.mp z;have e:=beq_iff_eq.mp e;subst e;obtain⟨x,g,f⟩:=ci.mp (a.pm.mem_iff.mpr J);obtain⟨o,m,rfl⟩:=a.el x g;have f:o=k':=f;subst f;have:=List.findIdx?_eq_none_iff.mp hx _ g;rw[show(intKind P w).is o (hashInt o,Value.int o m).2=true from intKind_is _ _ _ _]at this;cases this
  rw[H]at q;have B:=layNew_perm t es (hashInt k) (.int k tk);have C:=layNew_fits t es (hashInt k) (.int k tk);have n:=Ds S es (hashInt k) (.int k tk);dsimp only;generalize layNew t es (hashInt k) (.int k tk)=L at B C n ⊢;obtain⟨fs,u,Y,gv⟩:=L;dsimp only at B C n ⊢;have y:Els fs (ns++[k]):=a.add B;have D:fs.size<scanBound:=by rw[y.size,lA1];exact hr
  refine wB1 (gw ?_);have tail:∀ (c:Bool),dM (model P w) A (do
    storeSet p fs u
    if (!Y&&u.tooFull)=true then do
      (match (relayAll u fs (SetTable.grown fs.size)).2.2 with
       |true=>rule "set.scan.the-table-gave-way"
       |false=>pure ())
      storeSet p (relayAll u fs (SetTable.grown fs.size)).1 (relayAll u fs (SetTable.grown fs.size)).2.1
      pure (some true)
     else pure (some true)) (fun r s'=>dM (model P w) A (match r with
      |some d=>pure d
      |none=>setAddHashedIn p (.int k tk) (hashInt k) 99999) Q E s') E s:=fun _=>by
   refine wB1 (wpAny_storeSet_of i rfl ?_ (fits_of_scanBound D));have G:=yL (fs:=fs) (u:=u) i;have M:=Heap.SameBut.update s.heap p (Obj.putSet fs u);split
   ·have p2:=relayAll_perm u fs (SetTable.grown fs.size);have K:=relayAll_fits u fs (SetTable.grown fs.size);have m:=yb n fs (SetTable.grown fs.size);generalize relayAll u fs (SetTable.grown fs.size)=L2 at p2 K m ⊢;obtain⟨O,v,W⟩:=L2;dsimp only at p2 K m ⊢;have R:=y.perm p2;have T:O.size<scanBound:=by rw[R.size,<- y.size];exact D
    refine wB1 (gw (wB1 (wpAny_storeSet_of G rfl ?_ (fits_of_scanBound T))));exact wP1 (wP1 (q _ _ (M.trans (Heap.SameBut.update _ p _)) ⟨O,_,v,l,yL G,R,T,K,m,F⟩))
   ·exact wP1 (wP1 (q _ _ M ⟨fs,_,u,l,G,y,D,C,n,F⟩))
  split
  ·refine wB1 (wP1 ?_);exact tail true
  ·refine wB1 (wP1 ?_);exact tail true
end
section
variable{P:dF}{w:dH}{A:dG}{E:dB->dD->Prop}{s:dD}
def byT(w:dH):Bool:=w.params.followText "set-order"
theorem BG(x:dB){G:dB->dD->Prop}(q:G (.ref s.heap.objs.size) {s with heap:=s.heap.push (stO #[] 0 (.fresh 0 0 (!byT w)))}):
  codeAny (model P w) A (.call (.builtin "set.__new__") ⟨[.type "set",x],[]⟩) (wants G E) s:=by
 refine codeAny_of_tree (?_:dM _ A.in1 (do checkBuiltinCall "set.__new__" ⟨[.type "set",x],[]⟩;again (.builtin "set.__new__" ⟨[.type "set",x],[]⟩)) _ _ s);refine wB1 (wpAny_of_eq (PySem.F.newCall_set_1 x) (wP1 ⟨plainId_quiet PySem.F.plain_set_new _,wD1 PySem.F.entry_set_new (?_:_)⟩));rw[Around.under_plainId PySem.F.plain_set_new _];unfold Builtin.«set.__new__» Builtin.Frozenset.newClass;have a:=sub_set_self;obtain⟨c,g,d,tk,b⟩:=s;dsimp only
 wp_walk
 refine wpAny_askSetting (wP1 (?_:_));dsimp only;simp only[newObj];exact wB1 (wpAny_alloc (wP1 (wP1 q)))
set_option maxHeartbeats 3200000 in
theorem uI {l:dE}{its:Array dB}{Q:dB->dD->Prop}(y:s.heap.IsList l its)
  (h:∀d:dG,d.handled=A.handled->d.units<=A.units+2 -> ∀R:Result->dD->Prop,(∀s',Q (.ref s.heap.objs.size) s'->R (.ok (.ret .none)) s') ->
   codeAny (model P w) d (.builtin "set.update.loop" ⟨[.ref s.heap.objs.size,.ref (s.heap.objs.size+1)],[]⟩) R {s with heap:=(s.heap.push (stO #[] 0 (.fresh 0 0 (!byT w)))).push {cls:=.type "list_iterator",data:=.fields #[.ref l,.int 0 0]}}):
  dM (model P w) A (call (.type "set") [.ref l]) Q E s:=by
 obtain⟨J,O,k⟩:=PySem.F.called_set.mro;have g:=PySem.F.called_set.made;have m:=PySem.F.called_set.sub
 refine wpAny_call (codeAny_of_tree (?_:dM _ _ (callAny (.type "set") _) _ _ _));refine wP1 ⟨Code.quiet_builtin _ (by decide+kernel),wD1 PySem.F.entry_type_call (?_:_)⟩;rw[Around.under_plain (weight_type_call_type "set" [.ref l] []) rfl];have L:=PySem.F.called_set.notType;have T:=PySem.F.called_set.canCreate;have W:=PySem.F.typeCall_set_1 (.ref l)
 repeat(any_goals (first|wp_step|assumption))
 refine codeAny_mono (BG (.ref l) (E:=E) (G:=fun x p=>x = .ref s.heap.objs.size/\p={s with heap:=s.heap.push (stO #[] 0 (.fresh 0 0 (!byT w)))}) ⟨rfl,rfl⟩) fun r p j=>?_;cases r with
 |error e=>exact j
 |ok F=>
  cases F with
  |ret x=>
   obtain⟨rfl,rfl⟩:=j;have n:(s.heap.push (stO #[] 0 (.fresh 0 0 (!byT w)))).get? s.heap.objs.size=some (stO #[] 0 (.fresh 0 0 (!byT w))):=hS1 _ rfl;have H:Shared.TypeIs {s with heap:=s.heap.push (stO #[] 0 (.fresh 0 0 (!byT w)))} (.ref s.heap.objs.size) "set":=⟨_,n,rfl⟩;have U:=PySem.F.called_set.init.lookup;have S:=PySem.F.called_set.init.bind (.ref s.heap.objs.size)
   repeat(any_goals (first|wp_step|assumption))
   refine codeAny_mono (codeAny_call_builtin (R:=wants (fun r t=>r = .none/\Q (.ref s.heap.objs.size) t) E) PySem.F.called_set.init.plain PySem.F.entry_set_init (check_set_init_1 H (?_:_))) fun r2 t a=>?_
   ·obtain⟨u,i,b,o,c⟩:=y;obtain⟨M,D,K,z⟩:=u;simp only at b c;subst b;subst c;have v:(s.heap.push (stO #[] 0 (.fresh 0 0 (!byT w)))).get? l=some {cls:=.type "list",dict:=D,data:=.seq its o,slots:=z}:=hP1 _ i;have N:=PySem.F.sub_list_set;have V:=PySem.F.sub_list_frozenset;have X:(Value.type "list" == Value.type "dict")=false:=by decide
    have C:(s.heap.push (stO #[] 0 (.fresh 0 0 (!byT w)))).IsList l its:=⟨_,v,rfl,o,rfl⟩;have B:(s.heap.push (stO #[] 0 (.fresh 0 0 (!byT w)))).get? s.heap.objs.size=some {cls:=.type "set",dict:=none,data:=.set #[] 0 (.fresh 0 0 (!byT w)),slots:= #[]}:=n;unfold Builtin.«set.__init__» noKeywords Builtin.Frozenset.updateFrom;generalize f:pyIter=PI
    wp_walk
    subst f;refine wpAny_pyIter_list C (wB1 (wpAny_runValue (?_:_)));dsimp only;rw[show(s.heap.push (stO #[] 0 (.fresh 0 0 (!byT w)))).objs.size=s.heap.objs.size+1 from by rw[hZ1]];refine h A.in1.in1 (by simp) (nR1 _) _ fun s' q=>?_;exact wP1 (wP1 ⟨rfl,q⟩)
   ·cases r2 with
    |error e=>exact a
    |ok I=>
     cases I with
     |ret r=>
      obtain⟨rfl,q⟩:=a
      repeat(any_goals (first|wp_step|assumption))
     |_=>exact a.elim
  |_=>exact j.elim
theorem xz {l:dE}{its:Array dB}{Q:dB->dD->Prop}(c:s.heap.IsList l its)
  (b:∀a:dG,a.handled=A.handled -> ∀R:Result->dD->Prop,(∀s',Q (.ref s.heap.objs.size) s'->R (.ok (.ret .none)) s') ->
   codeAny (model P w) a (.builtin "set.update.loop" ⟨[.ref s.heap.objs.size,.ref (s.heap.objs.size+1)],[]⟩) R {s with heap:=(s.heap.push (stO #[] 0 (.fresh 0 0 (!byT w)))).push {cls:=.type "list_iterator",data:=.fields #[.ref l,.int 0 0]}}):
  dM (model P w) A (call (.type "set") [.ref l]) Q E s:=uI c fun a h _=>b a h
end
section
variable{P:dF}{w:dH}{A:dG}{E:dB->dD->Prop}{b:Bool}
theorem jd.old{p:dE}{ns:List Int}{h h':dN}(x:jd b p ns h)(k:∀o,h.get? p=some o->h'.get? p=some o):jd b p ns h':=by
 obtain⟨es,ep,t,l,e,r⟩:=x;exact⟨es,ep,t,l,k _ e,r⟩
theorem nq:∀(ns acc:List Int),(ns.foldl step_dedup acc).length<=acc.length+ns.length
 |[],acc=>by simp
 |n::ns,acc=>by
  rw[cb];have h1:=nq ns (step_dedup acc n);have h2:(step_dedup acc n).length<=acc.length+1:=by unfold step_dedup;split<;>simp
  rw[lC1];lia
theorem yw{p l it:dE}{its:Array dB}{ns:List Int}{R:Result->dD->Prop}(I:A.handled=none)(z:IntsAre its.toList ns)(hb:ns.length+1<scanBound)(H:p≠l)(n:p≠it)(L:it≠l):
  ∀(k i:Nat) (s:dD),its.size-i=k->i<=its.size->s.heap.IsListIter it l i->s.heap.IsList l its->jd b p ((ns.take i).foldl step_dedup []) s.heap ->
  (∀h' tk,(∀c o,c≠p->c≠it->s.heap.get? c=some o->h'.get? c=some o)->jd b p (ddI ns) h'->R (.ok (.ret .none)) {s with heap:=h',toks:=tk})->codeAny (model P w) A (.builtin "set.update.loop" ⟨[.ref p,.ref it],[]⟩) R s:=by
 have g:its.size=ns.length:=by rw[<- aJ];exact z.length
 intro k
 induction k with
 |zero=>
  intro i s M hi st h j q;have e:i=its.size:=by lia
  subst e;refine wD1 PyProof.Rows.F.entry_set_update_loop (?_:_);rw[Around.under_plainId PyProof.Rows.F.plain_set_update_loop _];show dM _ A.in1 (pyNext (.ref it) >>= _) _ _ s;refine wB1 (wpAny_pyNext_list_end (by simpa using I) st h (by simp) fun h' D=>wP1 ?_);refine q h' s.toks (fun c o _ hc e=>D c o hc e) ?_;have:=j.old (h':=h') fun o e=>D p o n e;rw[g,b4]at this;exact this
 |succ k ih=>
  intro i s M hi st h j q;have f:i<its.size:=by lia
  have y:=aG1 f;obtain⟨t,F⟩:=PyProof.Rows.IntsAre.int_at z i its[i] (by rw[aT1];exact y);refine wD1 PyProof.Rows.F.entry_set_update_loop (?_:_);rw[Around.under_plainId PyProof.Rows.F.plain_set_update_loop _];show dM _ A.in1 (pyNext (.ref it) >>= _) _ _ s;refine wB1 (wpAny_pyNext_list_item st h y fun h' st' x=>?_);rw[F];show dM _ A.in1 (holding [Value.int (ns.getD i 0) t] (setAdd p (.int (ns.getD i 0) t)) >>= _) _ _ _;refine wB1 (wpAny_holding ?_);unfold setAdd;refine wpAny_holding (wB1 (wpAny_pyHash_int ?_));have u:jd b p ((ns.take i).foldl step_dedup []) h':=j.old fun o e=>by rw[x.2 p n];exact e
  have m:=nq (ns.take i) [];refine IX (s:={s with heap:=h',toks:=s.toks+1}) (k:=ns.getD i 0) u (by rw[aQ,bf]at m;lia) fun c h2 a d=>?_;have J:ns[i]?=some (ns.getD i 0):=by rw[gG1 (by lia)];simp[List.getD,show i<ns.length by lia]
  have E:step_dedup ((ns.take i).foldl step_dedup []) (ns.getD i 0)=(ns.take (i+1)).foldl step_dedup []:=by
   rw[cH,J,List.foldl_append];rfl
  rw[E]at d;have C:∀c o,c≠p->c≠it->s.heap.get? c=some o->h2.get? c=some o:=fun c o h1 v e=>by rw[a.2 c h1];show h'.get? c=_;rw[x.2 c v];exact e
  have keepIt:∀o,h'.get? it=some o->h2.get? it=some o:=fun o e=>by rw[a.2 it (Ne.symm n)];exact e
  refine wP1 ⟨plainId_quiet PyProof.Rows.F.plain_set_update_loop _,ih (i+1) {s with heap:=h2,toks:=s.toks+1} (by lia) f (st'.at keepIt) ?_ d fun v tk K G=>?_⟩
  ·obtain⟨o,e,r⟩:=h;exact⟨o,C l o (Ne.symm H) (Ne.symm L) e,r⟩
  ·exact q v tk (fun c o h1 B e=>K c o h1 B (C c o h1 B e)) G
theorem xA{s:dD}{l:dE}{its:Array dB}{ns:List Int}{Q:dB->dD->Prop}(m:A.handled=none)(d:s.heap.IsList l its)(i:IntsAre its.toList ns)(hb:ns.length+1<scanBound)(q:∀h' tk,(∀c o,s.heap.get? c=some o->h'.get? c=some o)->jd (byT w) s.heap.objs.size (ddI ns) h'->Q (.ref s.heap.objs.size) {s with heap:=h',toks:=tk}):dM (model P w) A (call (.type "set") [.ref l]) Q E s:=by
 have a:l<s.heap.objs.size:=by obtain⟨o,e,_⟩:=d;exact hL1 e
 refine xz d fun t n R p=>?_;have j:(s.heap.push (stO #[] 0 (.fresh 0 0 (!byT w)))).objs.size=s.heap.objs.size+1:=by rw[hZ1]
 have g:(s.heap.push (stO #[] 0 (.fresh 0 0 (!byT w)))).get? s.heap.objs.size=some (stO #[] 0 (.fresh 0 0 (!byT w))):=hS1 _ rfl;refine yw (its:=its) (ns:=ns) (b:=byT w) (n.trans m) i hb (nG1 a) (nN1 (bE _)) (nG1 (cI a)) _ 0 _ rfl (bi _) ?_ ?_ ?_ fun h' tk k x=>p _ (q h' tk (fun c o e=>k c o (nN1 (hL1 e)) (nN1 (cI (hL1 e))) (hP1 _ (hP1 _ e))) x)
 ·refine⟨{cls:=.type "list_iterator",data:=.fields #[.ref l,.int 0 0]},?_,rfl,rfl⟩;have this:((s.heap.push (stO #[] 0 (.fresh 0 0 (!byT w)))).push {cls:=.type "list_iterator",data:=.fields #[.ref l,.int 0 0]}).get? (s.heap.push (stO #[] 0 (.fresh 0 0 (!byT w)))).objs.size=some {cls:=.type "list_iterator",data:=.fields #[.ref l,.int 0 0]}:=hS1 _ rfl;rw[j]at this;exact this
 ·obtain⟨o,e,r⟩:=d;exact⟨o,hP1 _ (hP1 _ e),r⟩
 ·refine⟨#[],0,_,!byT w,hP1 _ g,⟨fun e f=>by simp at f,.refl _⟩,by decide,rfl,yc _,fun h=>by rw[h];rfl⟩
end
theorem iM:Slot "set_iterator" "__next__" "set_iterator.__next__":=
 .of (owner:="set_iterator") (n:="__next__") (by rw[typeLookup_type,builtinLookup_eq_fast];kernel_rfl) (by decide+kernel) (by decide+kernel) (by decide+kernel) (by first|exact .inl (by decide+kernel)|exact .inr (by decide+kernel)) (by rw[isSubtype_type];kernel_rfl)
theorem oX:entryFor table "set_iterator.__next__"=some Builtin.«set_iterator.__next__» :=entryFor_of_tree (by kernel_rfl)
theorem s9(x:dB):argsOk "set_iterator.__next__" ⟨[x],[]⟩:=by unfold argsOk;kernel_rfl
theorem sK:entryFor table "set.__iter__"=some Builtin.«frozenset.__iter__» :=entryFor_alias (id':="frozenset.__iter__") (by kernel_rfl) rfl (by decide+kernel) (by kernel_rfl)
abbrev FB(h:dN)(it a:dE)(f:dB)(i n ep:Nat):Prop:=h.get? it=some {cls:=.type "set_iterator",dict:=none,data:=.fields #[f,.int i 0,.ref a,.int n 0,.int ep 0],slots:= #[]}
def kU(t:SetTable)(i:Nat):Nat:=match i with
 |0=>0
 |i+1=>t.place.getD i 0+1
inductive tf (w:dH)(h:dN)(a:dE)(es:Array (Int×dB))(ep:Nat)(t:SetTable):dB->Nat->List dB->Prop
 |txt (b:byT w=true) (i:Nat) (sl:Nat):tf w h a es ep t (.int sl 0) i ((pickOrder (w.params.setOrder a ep) es).toList.map (·.2))
 |drw (b:byT w=false) (d:(!t.plain&&decide (es.size>1))=true) (i:Nat) (tp:dE) (ps:List Nat) (e:h.get? tp=some {cls:=.type "tuple",data:=.seq (ps.map fun j=>Value.int (j:Nat) 0).toArray}) (pm:ps.Perm (List.range es.size)):tf w h a es ep t (.ref tp) i (ps.map fun j=>(es[j]?.map (·.2)).getD .none)
 |plc (b:byT w=false) (d:(!t.plain&&decide (es.size>1))=false) (ld:t.led=true) (up:uM t.place) (i:Nat):tf w h a es ep t (.int (kU t i) 0) i (es.toList.map (·.2))
theorem ow{α:Type}(f:Nat->Nat):∀(n k:Nat) (l:List α) (out:Array α),l.length=n->(pickOrder.go f n k l out).toList.Perm (out.toList++l)
 |0,k,l,out,h=>by
  rw[pickOrder.go,cu.mp h,aM]
 |n+1,k,l,out,h=>by
  have b:f k%l.length<l.length:=Nat.mod_lt _ (by lia);rw[pickOrder.go,gG1 b];refine(ow f n (k+1) _ _ (by rw[cJ b];lia)).trans ?_;rw[cA,bI];refine List.Perm.append_left _ ?_;have c:l=l.take (f k%l.length)++l[f k%l.length]::l.drop (f k%l.length+1):=by rw[List.getElem_cons_drop,cK]
  rw[cM];refine List.Perm.trans ?_ (List.Perm.of_eq c.symm);exact(List.perm_middle (l₁:=l.take (f k%l.length)) (l₂:=l.drop (f k%l.length+1)) (a:=l[f k%l.length])).symm
theorem tf.perm{w:dH}{h:dN}{a:dE}{es:Array (Int×dB)}{ep:Nat}{t:SetTable}{f:dB}{i:Nat}{pl:List dB}(y:tf w h a es ep t f i pl):pl.Perm (es.toList.map (·.2)):=by
 cases y with
 |txt=>exact(ow _ _ _ _ _ rfl).map _
 |drw _ _ _ d ps e c=>
  refine(c.map _).trans ?_;have:(List.range es.size).map (fun j=>(es[j]?.map (·.2)).getD .none)=es.toList.map (·.2):=by
   apply b5;intro j;rw[gP1,gP1,aT1 (xs:=es)];by_cases b:j<es.size
   ·rw[cN b,oP1,aG1 b];rfl
   ·rw[b6 (by simpa using b),cv (by lia)];rfl
  rw[this]
 |plc=>exact .refl _
theorem tf.len{w:dH}{h:dN}{a:dE}{es:Array (Int×dB)}{ep:Nat}{t:SetTable}{f:dB}{i:Nat}{pl:List dB}(y:tf w h a es ep t f i pl):pl.length=es.size:=by
 rw[y.perm.length_eq,lM1,aJ]
section
variable{P:dF}{w:dH}{A:dG}{E:dB->dD->Prop}{s:dD}{it a:dE}{f:dB}{i ep:Nat}{es:Array (Int×dB)}{t:SetTable}{pl:List dB}
theorem pF{Q:Bool->dD->Prop}(q:Q (byT w) s):dM (model P w) A setsByText Q E s:=by unfold setsByText;exact wB1 (wpAny_askSetting (wP1 q))
theorem yt{sl:Nat}{Q:Option (dB×Nat)->dD->Prop}(b:byT w=true)(ho:s.heap.get? a=some (stO es ep t))(hf:t.fits es.size=true)(q:Q (((pickOrder (w.params.setOrder a ep) es)[i]?).map fun e=>(e.2,sl)) s):dM (model P w) A (setNext a sl i ep) Q E s:=by
 unfold setNext;refine wB1 (wpAny_setState_of ho rfl hf (wB1 (pF ?_)));rw[b,if_pos rfl,if_neg (by simp)];refine wB1 ?_;unfold setWalk;refine wB1 (wpAny_setState_of ho rfl hf (wB1 (pF ?_)));rw[b,if_pos rfl];exact wB1 (wpAny_askSetting (wP1 (wP1 q)))
theorem CD(b:uM t.place)(hi:i<=t.place.size):SetTable.below t.place (kU t i)=i:=by
 cases i with
 |zero=>exact AA b
 |succ j=>
  have a:j<t.place.size:=hi;show SetTable.below t.place (t.place.getD j 0+1)=j+1;rw[show t.place.getD j 0=t.place[j]from by simp[Array.getD,a]];exact CC b a
theorem yu{Q:Option (dB×Nat)->dD->Prop}(b:byT w=false)(d:(!t.plain&&decide (es.size>1))=false)(g:t.led=true)(h:uM t.place)(ho:s.heap.get? a=some (stO es ep t))(hf:t.fits es.size=true)(hi:i<=es.size)(q:Q ((es[i]?).map fun e=>(e.2,kU t (i+1))) s):dM (model P w) A (setNext a (kU t i) i ep) Q E s:=by
 have k:t.place.size=es.size:=by
  unfold SetTable.fits at hf;rw[bA1,beq_iff_eq]at hf;exact hf.1
 unfold setNext;refine wB1 (wpAny_setState_of ho rfl hf (wB1 (pF ?_)));rw[b,if_neg (by decide)];rw[if_neg (fun z=>by have f:(!t.plain&&decide (es.size>1))=true:=z;rw[d]at f;cases f)];refine wB1 ?_;show dM _ _ (if(!t.led && !es.isEmpty)=true then _ else _) _ _ _;rw[if_neg (by rw[g];simp)];refine wP1 ?_;dsimp only;rw[CD h (by omega)];by_cases c:i<es.size
 ·rw [aG1 c] at q ⊢;rw [aG1 (show i<t.place.size by omega)];have j:kU t (i+1)=t.place[i]+1:=by
   show t.place.getD i 0+1=_;rw[show t.place.getD i 0=t.place[i]from by simp[Array.getD,show i<t.place.size by omega]]
  rw[j]at q;exact wP1 q
 ·rw[cv (by omega)]at q ⊢;exact wP1 q
theorem AZ{Q:Option dB->dD->Prop}(k:FB s.heap it a f i es.size ep)(ho:s.heap.get? a=some (stO es ep t))(hf:t.fits es.size=true)(y:tf w s.heap a es ep t f i pl){x:dB}(hx:pl[i]? = some x)(O:∀ g,f = .ref g->g≠it)(q:∀h' h,FB h' it a h (i+1) es.size ep->(∀c o,c≠it->s.heap.get? c=some o->h'.get? c=some o)->tf w h' a es ep t h (i+1) pl->(∀g,h = .ref g->f = .ref g)->Q (some x) {s with heap:=h'}):dM (model P w) A (pyNext (.ref it)) Q E s:=by
 have H:s.TypeIs (.ref it) "set_iterator":=⟨_,k,rfl⟩;unfold pyNext;refine wB1 (wpAny_attempt (wpAny_callSpecial?_slot (name:=Str.ofString "__next__") H iM (wE1 iM H oX ?_ (s9 _))));refine wB1 (wP1 (wB1 (wpAny_fieldsOf k rfl ?_)));dsimp only;refine wB1 (wpAny_setEntries_of ho rfl hf ?_);rw[if_neg (by simp)];have N:i<es.size:=by have:=(gE1.mp hx).1;rw[y.len]at this;exact this
 have two:∀ (h:dB),(∀ g,h = .ref g->f = .ref g)->(∀ h',(∀ c o,c≠it->s.heap.get? c=some o->h'.get? c=some o)->tf w h' a es ep t h (i+1) pl) ->
   dM (model P w) A.in1 (setField (.ref it) 0 h >>= fun _=>setField (.ref it) 1 (rawInt ((i:Int)+1)) >>= fun _=>ret x) (fun p s'=>∃ v,p=Fin.done (Flow.ret v)/\dM (model P w) A (pure (some v)) Q E s') (fun e s'=>dM (model P w) A (do
     let y<-isInstance e (.type "StopIteration")
     if y=true then pure none else throw e) Q E s') s:=fun h L M=>by
  refine wB1 (wS1 k (by simp) fun h1 K B=>wB1 (wS1 (s:={s with heap:=h1}) K (by simp) fun h2 r l=>wP1 ⟨_,rfl,wP1 ?_⟩));have m:∀c o,c≠it->s.heap.get? c=some o->h2.get? c=some o:=fun c o hc e=>l.extBut c o hc (B.extBut c o hc e);refine q h2 h ?_ m (M h2 m) L;have e:((i+1:Nat):Int)=(i:Int)+1:=by lia
  unfold FB;rw[e];simpa[rawInt]using r
 cases y with
 |txt b _ sl=>
  refine wB1 (yt (i:=i) (sl:=sl) (ep:=ep) b ho hf ?_);rw[gP1,aT1]at hx;obtain⟨e,u,rfl⟩:=oM1.mp hx;rw[u];exact two (.int sl 0) (fun g z=>by cases z) fun h' _=>.txt b _ sl
 |plc b d F J _=>
  refine wB1 (yu (i:=i) b d F J ho hf (by lia) ?_);rw[gP1,aT1]at hx;obtain⟨e,u,rfl⟩:=oM1.mp hx;rw[u];exact two (.int (kU t (i+1)) 0) (fun g z=>by cases z) fun h' _=>.plc b d F J _
 |drw b d _ g ps e D=>
  rw[gP1]at hx;obtain⟨j,G,rfl⟩:=oM1.mp hx;have n:j<es.size:=by have:=D.mem_iff.mp (gM1 G);simpa using this
  refine wB1 (wpAny_seqItems e rfl ?_);have C:((ps.map fun j=>Value.int (j:Nat) 0).toArray)[((i:Int)).toNat]?=some (.int (j:Nat) 0):=by
   rw[Int.toNat_natCast,cm,gP1,G];rfl
  dsimp only;rw[C];dsimp only;refine wB1 ?_;unfold setNextDrawn;refine wB1 (wpAny_setState_of ho rfl hf ?_);dsimp only;rw[if_neg (by simp),Int.toNat_natCast,aG1 n];refine wP1 (wB1 (wS1 k (by simp) fun h2 r l=>wP1 ⟨_,rfl,wP1 ?_⟩));have m:∀c o,c≠it->s.heap.get? c=some o->h2.get? c=some o:=fun c o hc e=>l.extBut c o hc e;have I:=q h2 (.ref g) ?_ m (.drw b d _ g ps (m g _ (O g rfl) e) D) fun _ z=>z
  ·rw[aG1 n]at I;exact I
  ·have e:((i+1:Nat):Int)=(i:Int)+1:=by lia
   unfold FB;rw[e];simpa[rawInt]using r
theorem tX{Q:Option dB->dD->Prop}{G:Fin->dD->Prop}(d:A.handled=none)(q:∀ h',(∀ c o,s.heap.get? c=some o->h'.get? c=some o)->Q none {s with heap:=h'}):
  dM (model P w) A.in1 (newExc (.type "StopIteration") [] >>= fun e=>raiseNew e) G (fun e s'=>dM (model P w) A (do
     let y<-isInstance e (.type "StopIteration")
     if y=true then pure none else throw e) Q E s') s:=by
 refine wB1 ?_;simp only[newExc,newTuple];refine wB1 (wO1 ?_ (by size_fits));refine wB1 (m:=firstArgMember _ _) (wpAny_of_eq (a:=Value.none) (by first|rfl|(simp only[firstArgMember];rfl)) ?_);refine wO1 ?_ (by size_fits);simp only[raiseNew];refine wB1 (wpAny_handled ?_);rw[show A.in1.handled=none from d];refine wB1 (wP1 (wpAny_throw (?_:_)));refine wB1 (wpAny_isInstance (b:=true) (T:="StopIteration") ⟨_,hS1 _ rfl,rfl⟩ isSubtype_stop (?_:_));exact wP1 (q _ fun b o e=>hP1 _ (hP1 _ e))
theorem Dj{Q:Option dB->dD->Prop}(r:A.handled=none)(g:FB s.heap it a f es.size es.size ep)(ho:s.heap.get? a=some (stO es ep t))(hf:t.fits es.size=true)(y:tf w s.heap a es ep t f es.size pl)(q:∀h',(∀c o,c≠it->s.heap.get? c=some o->h'.get? c=some o)->Q none {s with heap:=h'}):dM (model P w) A (pyNext (.ref it)) Q E s:=by
 have u:s.TypeIs (.ref it) "set_iterator":=⟨_,g,rfl⟩;unfold pyNext;refine wB1 (wpAny_attempt (wpAny_callSpecial?_slot (name:=Str.ofString "__next__") u iM (wE1 iM u oX ?_ (s9 _))));refine wB1 (wP1 (wB1 (wpAny_fieldsOf g rfl ?_)));dsimp only;refine wB1 (wpAny_setEntries_of ho rfl hf ?_);rw[if_neg (by simp)];have l:=y.len;cases y with
 |txt b _ sl=>
  refine wB1 (yt (i:=es.size) (sl:=sl) (ep:=ep) b ho hf ?_);rw[cv (by rw[lM1,aJ]at l;lia)];refine wB1 (wS1 g (by simp) fun h1 n h=>?_);exact tX (s:={s with heap:=h1}) r fun h' k=>q h' fun c o hc e=>k c o (h.extBut c o hc e)
 |plc b d v x _=>
  refine wB1 (yu (i:=es.size) (ep:=ep) b d v x ho hf (nR1 _) ?_);rw[cv (nR1 _)];refine wB1 (wS1 g (by simp) fun h1 n h=>?_);exact tX (s:={s with heap:=h1}) r fun h' k=>q h' fun c o hc e=>k c o (h.extBut c o hc e)
 |drw b d _ C ps e z=>
  refine wB1 (wpAny_seqItems e rfl ?_);have m:((ps.map fun j=>Value.int (j:Nat) 0).toArray)[((es.size:Int)).toNat]?=none:=by
   rw[Int.toNat_natCast,cm,b6 (by rw[lM1]at l ⊢;lia)]
  dsimp only;rw[m];dsimp only;refine wB1 (wS1 g (by simp) fun h1 n h=>?_);refine wB1 (wS1 (s:={s with heap:=h1}) n (by simp) fun h2 B p=>?_);exact tX (s:={s with heap:=h2}) r fun h' k=>q h' fun c o hc e=>k c o (p.extBut c o hc (h.extBut c o hc e))
theorem Ay{a:Source}{n:Nat}{Q:Nat->dD->Prop}(hn:n≠0)(q:∀i c,i<n->Q i {s with drawn:=c}):dM (model P w) A (choose a n) Q E s:=fun Γ p b=>by
 unfold choose;rw[Sem.wp_choose];refine⟨hn,?_⟩;exact wP1 (A:=A) (E:=E) (q _ _ (Nat.mod_lt _ (Nat.pos_of_ne_zero hn))) Γ p b
theorem Ap{α:Type}:∀(n:Nat) (xs:List α) (s:dD) (Q:List α->dD->Prop),xs.length=n->(∀ys b,ys.Perm xs->Q ys {s with drawn:=b})->dM (model P w) A (drawOrder n xs) Q E s
 |0,xs,s,Q,h,q=>by
  have:=cu.mp h;subst this;exact wP1 (q [] s.drawn (.refl _))
 |n+1,[],s,Q,h,q=>by simp at h
 |n+1,x::xs,s,Q,h,q=>by
  rw[drawOrder];refine wB1 (Ay (by simp) fun i b hi=>?_);rw[gG1 hi];dsimp only;refine wB1 (Ap n _ _ _ (by rw[cJ hi];lia) fun ys a d=>wP1 (q _ a ?_));refine(d.cons _).trans ?_;have c:x::xs=(x::xs).take i++(x::xs)[i]::(x::xs).drop (i+1):=by rw[List.getElem_cons_drop,cK]
  rw[cM];refine List.Perm.trans ?_ (List.Perm.of_eq c.symm);exact List.perm_middle.symm
  all_goals simp
theorem A1{l:Bool}{Q:dB->dD->Prop}(ho:s.heap.get? a=some (stO es ep t))(hf:t.fits es.size=true)(H:es.size<scanBound)(C:TS l t)(G:byT w=false->l=true)(q:∀it h' h f pl,(∀c o,s.heap.get? c=some o->h'.get? c=some o)->s.heap.objs.size<=it->FB h' it a f 0 es.size ep->tf w h' a es ep t f 0 pl->(∀b,f = .ref b->b≠it/\s.heap.objs.size<=b)->Q (.ref it) {s with heap:=h',drawn:=h}):
  dM (model P w) A (pyIter (.ref a)) Q E s:=by
 have D:s.TypeIs (.ref a) "set":=⟨_,ho,rfl⟩;refine wpAny_pyIter_slot D PySem.F.slot_set_iter (wE1 PySem.F.slot_set_iter D sK ?_ (PySem.F.args_set_iter_1 _));unfold Builtin.«frozenset.__iter__»;refine wB1 (m:=Builtin.Frozenset.slot0 _ _) (wP1 ?_);unfold Builtin.Frozenset.sizeOf;refine wB1 (wB1 (wpAny_setEntries_of ho rfl hf (wP1 ?_)));unfold setDrawn;refine wB1 (wB1 (wpAny_setState_of ho rfl hf (wB1 (pF (wP1 ?_)))));show dM _ _ (if (!byT w&&(!t.plain&&decide (es.size>1)))=true then _ else _) _ _ _;have d:∀ (h1:dN) (h:Drawn) (f:dB) (pl:List dB),(∀ c o,s.heap.get? c=some o->h1.get? c=some o)->s.heap.objs.size<=h1.objs.size->(∀ b,f = .ref b->b<h1.objs.size/\s.heap.objs.size<=b)->(∀ h',(∀ c o,h1.get? c=some o->h'.get? c=some o)->tf w h' a es ep t f 0 pl) ->
   dM (model P w) A.in1 (setEpoch a >>= fun e=>newFields "set_iterator" [f,rawInt 0,.ref a,rawInt es.size,rawInt e] >>= fun r=>ret r) (fun d s'=>∃r,d=Fin.done (Flow.ret r) /\ ∃T g,s'.TypeIs r T/\typeLookup (.type T) "__next__"=pure (some g)/\Q r s') E {s with heap:=h1,drawn:=h}:=by
  intro h1 h f pl y x u F;refine wB1 (wpAny_setEpoch_of (y a _ ho) rfl hf (wB1 (wO1 (wP1 ⟨_,rfl,"set_iterator",_,⟨_,hS1 _ rfl,rfl⟩,iM.lookup,?_⟩) (by size_fits))));refine q h1.objs.size _ h f pl (fun c o e=>hP1 _ (y c o e)) x ?_ (F _ fun c o e=>hP1 _ e) fun b e=>⟨nN1 (u b e).1,(u b e).2⟩;have:=hS1 h1 (o:={cls:=.type "set_iterator",data:=.fields #[f,.int 0 0,.ref a,.int es.size 0,.int ep 0]}) rfl;exact this
 by_cases n:byT w=true
 ·rw[if_neg (by rw[n];simp)];refine wB1 (wP1 ?_);exact d s.heap s.drawn _ _ (fun _ _ e=>e) (nR1 _) (fun b z=>by cases z) fun h' _=>.txt n 0 0
 ·have n:byT w=false:=by simpa using n
  by_cases p:(!t.plain&&decide (es.size>1))=true
  ·rw[if_pos (by rw[n,p];rfl)];refine wB1 (Ap es.size (List.range es.size) s _ (by simp) fun ys h B=>?_);refine wB1 (m:=newTuple _) (wO1 (s:={s with drawn:=h}) ?_ ?_)
   ·refine d (s.heap.push {cls:=.type "tuple",data:=.seq (ys.map fun(i:Nat)=>rawInt i).toArray}) h (.ref s.heap.objs.size) (ys.map fun j=>(es[j]?.map (·.2)).getD .none) (fun c o e=>hP1 _ e) (by rw[hZ1];exact aX _) (fun b z=>by cases z;exact⟨by rw[hZ1];exact bE _,nR1 _⟩) fun h' k=>?_;exact .drw n p 0 _ ys (k _ _ (hS1 _ rfl)) B
   ·have:=B.length_eq;have v:=fits_of_scanBound H;simp[sizeOk,this,v]
  ·have p:(!t.plain&&decide (es.size>1))=false:=by simpa using p
   rw[if_neg (by rw[p];simp)];refine wB1 (wP1 ?_);exact d s.heap s.drawn _ _ (fun _ _ e=>e) (nR1 _) (fun b z=>by cases z) fun h' _=>.plc n p (by rw[C.ld];exact G n) C.up 0
end
theorem tf.keep{w:dH}{h h':dN}{a:dE}{es:Array (Int×dB)}{ep:Nat}{t:SetTable}{f:dB}{i:Nat}{pl:List dB}(y:tf w h a es ep t f i pl)(k:∀c o,f = .ref c->h.get? c=some o->h'.get? c=some o):tf w h' a es ep t f i pl:=by
 cases y with
 |txt b _ sl=>exact .txt b _ sl
 |drw b d _ c ps e j=>exact .drw b d _ c ps (k c _ rfl e) j
 |plc b d l g _=>exact .plc b d l g _
section
variable{P:dF}{w:dH}{A:dG}{E:dB->dD->Prop}
theorem A0{it a S:dE}{ep:Nat}{es:Array (Int×dB)}{t:SetTable}{pl:List dB}{B:dB}{R:Result->dD->Prop}(T:A.handled=none)(hf:t.fits es.size=true)(h1:it≠a)(h2:S≠a)(J:S≠it)(hn:es.size<=dL):
  ∀(k i:Nat) (s:dD) (f:dB) (acc:Array dB) (c:Nat),es.size-i=k->i<=es.size->FB s.heap it a f i es.size ep->s.heap.get? a=some (stO es ep t)->tf w s.heap a es ep t f i pl->(∀g,f = .ref g->g≠it/\g≠S) ->
  s.heap.get? S=some {cls:=.type "list",dict:=none,data:=.seq acc c,slots:= #[]}->acc.toList=pl.take i ->
  (∀h' d K,(∀b u,b≠it->b≠S->s.heap.get? b=some u->h'.get? b=some u)->h'.get? S=some {cls:=.type "list",dict:=none,data:=.seq d K,slots:= #[]}->d.toList=pl->R (.ok (.ret B)) {s with heap:=h'}) ->
  codeAny (model P w) A (.builtin "list.extend.loop" ⟨[.ref S,.ref it,B],[]⟩) R s:=by
 intro k
 induction k with
 |zero=>
  intro i s f acc c U hi m D y E F C L;have e:i=es.size:=by lia
  subst e;have j:=y.len;refine wD1 PySem.F.entry_extend_loop (?_:_);rw[Around.under_plainId PySem.F.plain_extend_loop _];show dM _ A.in1 (pyNext (.ref it) >>= _) _ _ s;refine wB1 (Dj T m D hf y fun h' keep=>wP1 ?_);exact L h' acc c (fun b u n _ e=>keep b u n e) (keep S _ J F) (by rw[C,<- j,b4])
 |succ k ih=>
  intro i s f acc c U hi m D y E F C L;have M:i<es.size:=by lia
  have j:=y.len;obtain⟨x,N⟩:∃x,pl[i]?=some x:=⟨_,gG1 (by lia)⟩;have z:acc.size=i:=by rw[<- aJ,C,aQ];lia
  refine wD1 PySem.F.entry_extend_loop (?_:_);rw[Around.under_plainId PySem.F.plain_extend_loop _];show dM _ A.in1 (pyNext (.ref it) >>= _) _ _ s;refine wB1 (AZ m D hf y N (fun g e=>(E g e).1) fun h' Q p keep V O=>?_);have v:=keep S _ J F;show dM _ A.in1 (updateSeq S (·.push x) >>= _) _ _ _;refine wB1 (wpAny_updateSeq (s:={s with heap:=h'}) v rfl ?_ (by rw[z];lia) (by show(acc.push _).size<=dL+1;rw[Array.size_push,z];lia));have h:∀b u,b≠S->h'.get? b=some u->(h'.update S (Obj.mapSeq (·.push x))).get? b=some u:=fun b u n e=>by rw[hU1 _ _ _ _ n];exact e
  refine wP1 ⟨plainId_quiet PySem.F.plain_extend_loop _,ih (i+1) {s with heap:=h'.update S (Obj.mapSeq (·.push x))} Q (acc.push x) _ (by lia) M (h it _ (Ne.symm J) p) (h a _ (Ne.symm h2) (keep a _ (Ne.symm h1) D)) (V.keep fun g o e q=>h g o (E g (O g e)).2 q) (fun g e=>E g (O g e)) (hW1 _ v rfl) ?_ ?_⟩
  ·rw[cA,C,cH,N];rfl
  ·intro H d K l G I;exact L H d K (fun b u n r e=>l b u n r (h b u r (keep b u n e))) G I
theorem yz:typeLookup (.type "set") "__len__"=pure (some (.builtin "set.__len__")):=by rw[typeLookup_type,builtinLookup_eq_fast];kernel_rfl
theorem A2 {s:dD}{v:dE}{Q:Bool->dD->Prop}(c:s.TypeIs (.ref v) "set")(q:Q false s):dM (model P w) A (Builtin.List.listLengthHint (.ref v)) Q E s:=by
 unfold Builtin.List.listLengthHint;refine wB1 (wpAny_specialOf c yz (?_:_));generalize a:("set.__len__":String)=id0
 wp_delta
 rw[show splitId id0=some ("set","__len__")from by subst a;decide+kernel];subst a;refine wB1 (wpAny_isInstance (b:=true) c (by rw[isSubtype_type];kernel_rfl) (?_:_));rw[if_neg (by decide)];dsimp only;rw[if_pos (by decide+kernel)];exact wB1 (wpAny_typeOf c (wP1 q))
theorem tQ{s:dD}{a:dE}{ns:List Int}{Q:List dB->dD->Prop}(X:A.handled=none)(hx:jd (byT w) a ns s.heap)(q:∀h' p vs M,(∀b u,s.heap.get? b=some u->h'.get? b=some u)->s.heap.objs.size<=h'.objs.size->IntsAre vs M->M.Perm ns->Q vs {s with heap:=h',drawn:=p}):dM (model P w) A (collect (.ref a)) Q E s:=by
 obtain⟨es,ep,t,l,D,O,R,S,ts,W⟩:=hx;have n:a<s.heap.objs.size:=hL1 D;unfold collect;refine wB1 (wpAny_runValue (wD1 PySem.F.entry_proto_collect (?_:_)));rw[Around.under_plainId PySem.F.plain_proto_collect _];show dM _ A.in1 (newList [] >>= fun l=>again (.builtin "list.__iadd__" ⟨[l,.ref a],[]⟩)) _ _ s;refine wB1 (wO1 (?_:_));refine wP1 ⟨plainId_quiet PySem.F.plain_list_iadd _,wD1 PySem.F.entry_list_iadd (?_:_)⟩;rw[Around.under_plainId PySem.F.plain_list_iadd _];have B:(s.heap.push {cls:=.type "list",data:=.seq ([]:List dB).toArray}).get? s.heap.objs.size=some {cls:=.type "list",data:=.seq ([]:List dB).toArray}:=hS1 _ rfl;have g:∀b u,s.heap.get? b=some u->(s.heap.push {cls:=.type "list",data:=.seq ([]:List dB).toArray}).get? b=some u:=fun b u e=>hP1 _ e;have z:(s.heap.push {cls:=.type "list",data:=.seq ([]:List dB).toArray}).objs.size=s.heap.objs.size+1:=by rw[hZ1]
 have L:s.heap.objs.size≠a:=nG1 n;have h1:Builtin.List.listSameRef (.ref s.heap.objs.size) (.ref a)=false:=by simp[Builtin.List.listSameRef,L]
 show dM _ A.in1 (Builtin.List.listExtendWith (.ref s.heap.objs.size) (.ref a) (.ref s.heap.objs.size)) _ _ {s with heap:=s.heap.push {cls:=.type "list",data:=.seq ([]:List dB).toArray}};generalize s.heap.push {cls:=.type "list",data:=.seq ([]:List dB).toArray}=h₁ at *
 unfold Builtin.List.listExtendWith;refine wB1 (wpAny_typeOf (T:="set") ⟨_,g a _ D,rfl⟩ ?_);rw[if_neg (by rw[h1];decide)];refine wB1 (A1 (s:={s with heap:=h₁}) (g a _ D) S R ts W fun it c p f pl h d K y H=>?_);dsimp only at h d H;have j:=h _ _ B;have r:Shared.TypeIs {s with heap:=c,drawn:=p} (.ref a) "set":=⟨_,h _ _ (g a _ D),rfl⟩;refine wB1 (wpAny_holding (A2 r ?_));rw[if_pos (by decide+kernel)];refine wB1 (wpAny_rule (wB1 ?_));show dM _ A.in1 (updateSeq s.heap.objs.size (·.push .none) >>= fun _=>updateSeq s.heap.objs.size (·.pop)) _ _ _;refine wB1 (wpAny_updateSeq (s:={s with heap:=c,drawn:=p}) j rfl ?_);have i:=hW1 (Obj.mapSeq (·.push Value.none)) j rfl;refine wpAny_updateSeq (s:={s with heap:=c.update s.heap.objs.size (Obj.mapSeq (·.push Value.none)),drawn:=p}) i rfl ?_;have x:=hW1 (Obj.mapSeq (·.pop)) i rfl;have m:∀b u,b≠s.heap.objs.size->c.get? b=some u->((c.update s.heap.objs.size (Obj.mapSeq (·.push Value.none))).update s.heap.objs.size (Obj.mapSeq (·.pop))).get? b=some u:=fun b u C e=>by
  rw[hU1 _ _ _ _ C,hU1 _ _ _ _ C];exact e
 rw[z]at d H;have N:=y.perm;refine wP1 ⟨plainId_quiet PySem.F.plain_extend_loop _,A0 (it:=it) (pl:=pl) X S (nG1 (bh n d)) (nG1 n) (nN1 d) (fits_of_scanBound R) es.size 0
  {s with heap:=(c.update s.heap.objs.size (Obj.mapSeq (·.push Value.none))).update s.heap.objs.size (Obj.mapSeq (·.pop)),drawn:=p} f _ _ rfl (bi _) (m _ _ (nG1 d) K) (m a _ (nN1 n) (h _ _ (g a _ D))) (y.keep fun G o e q=>m G o (nG1 (H G e).2) q) (fun G e=>⟨(H G e).1,nG1 (H G e).2⟩) x rfl fun h' I c' keep F U=>?_⟩
 show dM _ A (load s.heap.objs.size >>= _) _ _ {s with heap:=h',drawn:=p};refine wB1 (wpAny_load F ?_);have Y:∀v∈pl,∃k t,v=Value.int k t:=fun v J=>by
  obtain⟨e,V,rfl⟩:=ci.mp (N.mem_iff.mp J);obtain⟨k,t,rfl⟩:=O.el e V;exact⟨k,t,rfl⟩
 have all:∀vs:List dB,(∀v∈vs,∃k t,v=Value.int k t)->IntsAre vs (vs.map fun v=>IJ (0,v)):=by
  intro vs
  induction vs with
  |nil=>intro _;exact .nil
  |cons v vs ih=>
   intro J;obtain⟨k,t,rfl⟩:=J v mS1;exact .cons k t (ih fun u Z=>J u (mC1 _ Z))
 refine wP1 (q h' p I.toList (pl.map fun v=>IJ (0,v)) (fun b u e=>?_) (aD (hL1 F)) (by rw[U];exact all pl Y) ?_)
 ·have C:=hL1 e;exact keep b u (nN1 (bh C d)) (nN1 C) (m b u (nN1 C) (h _ _ (g b u e)))
 ·refine(N.map _).trans ?_;rw[bv];exact O.pm
theorem rp {s:dD}{a:dE}{ns:List Int}{Q:dB->dD->Prop}(p:A.handled=none)(hx:jd (byT w) a ns s.heap)(g:ns.length<64)
  (q:∀h' d L n out,(∀b u,s.heap.get? b=some u->h'.get? b=some u)->s.heap.objs.size<=L->h'.get? L=some (seqObj "list" out n)->IntsAre out.toList (jO ns)->Q (.ref L) {s with heap:=h',drawn:=d}):
  dM (model P w) A (call (.builtin "sorted") [.ref a]) Q E s:=by
 refine Calls.call_function_entry kind_sorted plain_sorted entry_sorted (args_sorted1 _) (?_:_);unfold Builtin.«sorted»;refine wB1 (m:=checkCount "sorted" 1 1 _) (wP1 (wB1 (tQ p hx fun h' d vs t keep r l k=>?_)));have f:vs.length<64:=by rw[l.length,k.length_eq];exact g
 refine wB1 (wpAny_newList (hsz:=by rw[sizeLine_eq];lia) ?_);have c:(h'.push (seqObj "list" vs.toArray 0)).get? h'.objs.size=some (seqObj "list" vs.toArray 0):=hS1 _ rfl;show dM _ _ _ _ _ {s with heap:=h'.push (seqObj "list" vs.toArray 0),drawn:=d};refine wB1 (wpAny_holding (wE1 slot_list_sort ⟨_,c,rfl⟩ entry_list_sort (list_sort_tree (s:={s with heap:=h'.push (seqObj "list" vs.toArray 0),drawn:=d}) c l f fun out i a1 a2 a3=>⟨_,rfl,?_⟩) (args_list_sort _)));have o:i=jO ns:=pW (a2.trans (k.trans (io ns).symm)) a3 (mD ns);subst o;obtain⟨n,j⟩:=sortedHeap_at (out:=out) c;refine wP1 ⟨_,rfl,q _ d h'.objs.size n out (fun b u e=>?_) r j a1⟩;have h:=keep b u e;show(sortedHeap (h'.push (seqObj "list" vs.toArray 0)) h'.objs.size vs out).get? b=some u;rw[sortedHeap_old (nN1 (hL1 h)) (by rw[hZ1];exact cI (hL1 h))];exact hP1 _ h
end
def iY:G1:=fun d S=>match d5 S d with
 |some (true,xs)=>(m9 xs).bind fun ns=>if ns.length<64 then some (.ref S.length,S++[.lst ((jO (ddI ns)).map D.int)])else none
 |_=>none
section
variable{X:Cx}
def Gh(X:Cx)(vs:List V)(H:Hp)(Q:VK):Prop:=∃a xs ns,vs=[.ref a]/\lV X.K H a xs/\(∀us,ei xs us->IntsAre us ns)/\ns.length+1<scanBound /\ ∀p,H p=none->Q (.ref p) (upd H p (.ext (jd (byT X.w) p (ddI ns))))
def DQ(X:Cx)(vs:List V)(H:Hp)(Q:VK):Prop:=∃a ns,vs=[.ref a]/\H a=some (.ext (jd (byT X.w) a ns))/\ns.length<64 /\ ∀p,H p=none->Q (.ref p) (upd H p (.lst ((jO ns).map V.int)))
theorem wX{pins:List (dE×Obj)}{σ:L2.St}{H:Hp}{s:dD}(I:Inv X pins σ H s)(d:Drawn):Inv X pins σ H {s with drawn:=d}:=⟨I.ok,I.os,I.bare,I.base,I.loc,I.cell,I.free,I.freeC,I.pin,I.hok,I.len⟩
theorem Fm(hc:X.calm=true):fj X (.type "set") (Gh X):=by
 intro pins s σ H xs m Q I r h;obtain⟨a,vs,ns,rfl,j,hi,i,q⟩:=h;obtain⟨u,rfl,r2⟩:=iJ r;cases r2;obtain⟨b,g,p,n⟩:=I.list j;have f:=hi b g;refine xA (I.ok.hd hc) p.isList (by simpa using f) i fun h' tk keep d=>?_;have c:=I.hok.fresh (nR1 s.heap.objs.size);refine⟨.ref s.heap.objs.size,_,I.laid (t':=tk) (o:=.ext (jd (byT X.w) s.heap.objs.size (ddI ns))) keep (nR1 _) ⟨d,?_,fun h1 h2 x k=>x.old k⟩,rfl,q _ c⟩;obtain⟨es,ep,t,l,e,_⟩:=d;exact⟨_,e⟩
theorem Cy(hc:X.calm=true):fj X (.builtin "sorted") (DQ X):=by
 intro pins s σ H xs k Q I r h;obtain⟨a,ns,rfl,i,f,q⟩:=h;obtain⟨u,rfl,r2⟩:=iJ r;cases r2;obtain⟨j,_⟩:=(show eN X.prog X.w H s.heap a (.ext (jd (byT X.w) a ns))from I.hok a _ i);refine rp (I.ok.hd hc) j f fun h' e L n out keep d c g=>?_;have b:=I.hok.fresh d;refine⟨.ref L,_,wX (I.laid (t':=s.toks) (o:=.lst ((jO ns).map V.int)) keep d ⟨?_,out.toList,n,wY g,by rw[Array.toArray_toList];exact c⟩) e,rfl,q _ b⟩;rw[lM1,(io ns).length_eq,sizeLine_eq];lia
theorem Hh(ns:List Int):(ddI ns).length<=ns.length:=by
 have:=nq ns [];unfold ddI;simpa using this
theorem wu (hc:X.calm=true){o:Expr}{m:FE}{p p2 pos b:Pos}(hg:Gl X "sorted")(hm:X.mg "sorted"=none)(hg2:Gl X "set")(hm2:X.mg "set"=none)(ho:XE X o m)
  (he:dJ [.Call (.Name "set" p2) [o] [] b] X.env=[(false,eval (.Call (.Name "set" p2) [o] [] b) X.env)]:=by rfl) (c:dJ [o] X.env=[(false,eval o X.env)]:=by rfl):XE X (.Call (.Name "sorted" p) [.Call (.Name "set" p2) [o] [] b] [] pos) (mN (b1 iY) (dS m dU)):=
 ⟨eU (rK (Cy hc) hg hm (by decide+kernel) (j6 (jh (Fm hc) hg2 hm2 (by decide+kernel) (j6 ho.h mS c) (he:=c)) mS he) (he:=he)) <| by
  rintro σ H Q ⟨r,mu,S,d,E,he,y,hm,f⟩;obtain⟨⟨ds,D⟩,g,hm⟩:=oB1.mp hm;obtain⟨⟨s,C⟩,z,g⟩:=oB1.mp g;cases g;dsimp only[b1,iY]at hm;split at hm
  ·rename_i xs x;obtain⟨ns,l,hm⟩:=oB1.mp hm;split at hm
   ·rename_i i;cases hm;refine⟨r,mu,S,s,_,he,y,z,fun v H1 mu1 A w j=>?_⟩;obtain⟨a,vs,rfl,q,t⟩:=ev w j x;refine⟨a,vs,ns,rfl,q,fun F B=>(wZ t B l).1,bh (Nat.succ_lt_succ i) (by decide),fun p h=>?_⟩;refine⟨p,ddI ns,rfl,d3,bJ (Hh ns) i,fun p2 e=>?_⟩;have n:Ext mu1 mu1 H1 (upd H1 p (.ext (jd (byT X.w) p (ddI ns)))):=Ext.fresh h;have k:=j.fresh (u:=.ext (jd (byT X.w) p (ddI ns))) h;exact f _ _ (mu1++[p2]) (A.trans (n.trans (Ext.new_ e))) (.ref (fZ k.len _)) (k.newL (kX _) e)
   ·cases hm
  ·cases hm⟩
end
section
variable{X:Cx}{pins:List (dE×Obj)}{σ:L2.St}{H:Hp}{s:dD}{a:dE}{kvs:List (Key×V)}{k:Key}{v:V}{u r:dB}{A:dG}{E:dB->dD->Prop}
end
section
variable{X:Cx}
end
open AutoSeq1 (wpAny_loadPart')
section
variable{prog:dF}{w:dH}{A:dG}{E:dB->dD->Prop}{s:dD}
theorem sV{Q:List dB->dD->Prop}{r:dE}{a b c:Int}{t u v:Tok}{n:Nat}(B:A.handled=none)(hr:IsRange s.heap r a b c t u v)(hsmall:Builtin.Range.small a b c=true)(hn:Builtin.Range.rangeSize a b c=n)(m:n<=2^24)(C:∀h' tk d,(∀b o',s.heap.get? b=some o'->h'.get? b=some o')->ItemsOf (fun i v=>∃t,v = .int (a+i*c) t) d n->Q d.toList {s with heap:=h',toks:=tk}):
  dM (model prog w) A (collect (.ref r)) Q E s:=by
 unfold collect;refine wB1 (wpAny_runValue (wD1 F.entry_proto_collect (?_:_)));rw [Around.under_plainId F.plain_proto_collect _];show dM _ A.in1 (newList [] >>= fun l=>again (.builtin "list.__iadd__" ⟨[l,.ref r],[]⟩)) _ _ s;refine wB1 (wO1 (?_:_));refine wP1 ⟨plainId_quiet F.plain_list_iadd _,wD1 F.entry_list_iadd (?_:_)⟩;rw [Around.under_plainId F.plain_list_iadd _];show dM _ A.in1 (Builtin.List.listExtendWith (.ref s.heap.objs.size) (.ref r) (.ref s.heap.objs.size)) _ _ _;have D:(s.heap.push {cls:=.type "list",data:=.seq ([]:List dB).toArray}).get? s.heap.objs.size=some {cls:=.type "list",data:=.seq #[] 0}:=hS1 _ rfl;have j:∀ h' tk d g,(∀ b o',s.heap.get? b=some o'->h'.get? b=some o')->h'.get? s.heap.objs.size=some {cls:=.type "list",dict:=none,data:=.seq d g,slots:= #[]}->ItemsOf (fun i v=>∃ t,v = .int (a+i*c) t) d n ->
   dM (model prog w) A (match Value.ref s.heap.objs.size with
   |Value.ref a=>do
    match (<- load a).data with
     |Data.seq xs _=>pure xs.toList
     |_=>unsupported "internal:collect"
   |_=>unsupported "internal:collect") Q E {s with heap:=h',toks:=tk}:=by
  intro h' tk d g y k x;show dM _ A (load s.heap.objs.size >>= _) _ _ _;refine wB1 (wpAny_load k (?_:_));refine wP1 (?_:_);exact C h' tk d y x
 refine wpAny_mono (wpAny_extend_range (A:=A) (R:=fun z s'=>∃h' tk d g,z = .ok (.ret (.ref s.heap.objs.size))/\s'={s with heap:=h',toks:=tk}/\(∀b o',s.heap.get? b=some o'->h'.get? b=some o')/\h'.get? s.heap.objs.size=some {cls:=.type "list",dict:=none,data:=.seq d g,slots:= #[]}/\ItemsOf (fun i v=>∃t,v = .int (a+i*c) t) d n)
  (s:={s with heap:=s.heap.push {cls:=.type "list",data:=.seq ([]:List dB).toArray}}) B (hP1 _ hr) hsmall hn m _ _ 0 D fun h' tk d g y k x=>
   ⟨h',tk,d,g,rfl,rfl,fun b o e=>y b o (nN1 (hL1 e)) (hP1 _ e),k,x⟩) (fun p s' h=>?_) (fun e s' h=>?_)
 ·cases p with
  |done f=>
   obtain⟨h',tk,d,g,e,rfl,q⟩:=h;cases e;exact j h' tk d g q.1 q.2.1 q.2.2
  |again g=>exact⟨h.1,codeAny_mono h.2 fun r G hr=>by obtain⟨h',tk,d,g,rfl,rfl,q⟩:=hr;exact j h' tk d g q.1 q.2.1 q.2.2⟩
 ·obtain⟨_,_,_,_,e,_⟩:=h;cases e
end
theorem um(r:dE)(a b c:Int)(t u v:Tok)(n:Nat)(hsmall:Builtin.Range.small a b c=true)(hn:Builtin.Range.rangeSize a b c=n)(f:n<=2^20):
  Meets (Builtin.«tuple.__new__» ⟨[.type "tuple",.ref r],[]⟩)
   (fun A R s=>A.handled=none/\IsRange s.heap r a b c t u v /\ ∀(h':dN) (tk:Nat) (acc:Array dB),(∀b o',s.heap.get? b=some o'->h'.get? b=some o')->ItemsOf (fun i v=>∃t,v = .int (a+i*c) t) acc n ->
    R (.ok (.ret (.ref h'.objs.size))) {s with heap:=h'.push {cls:=.type "tuple",data:=.seq acc},toks:=tk}):=
 .of_wp fun prog w A R s h=>by
  obtain⟨x,g,d,k,y⟩:=s;obtain⟨B,m,h⟩:=h;have p:=sub_tuple_self;have j:=init_tuple_lookup;have q:=madeHere_tuple;have D:Shared.TypeIs ⟨x,g,d,k,y⟩ (.ref r) "range":=⟨_,m,rfl⟩;have l:A.in1.handled=none:=B
  wp_walk using wpAny_loadPart' m,wpAny_typeOf D,sV l m hsmall hn (aC f (by decide))
  intro h' tk acc z o;show dM _ _ (Builtin.Tuple.tupleExact acc.toList.toArray >>= fun v=>ret v) _ _ _;unfold Builtin.Tuple.tupleExact;have C:n<=dL:=aC f (by decide);refine wB1 (wO1 (?_:_) (show acc.toList.toArray.size<=dL by simp only[Array.toArray_toList];rw[o.1];exact C));refine wP1 ⟨_,rfl,(?_:_)⟩;have e:acc.toList.toArray=acc:=by simp
  rw[e];exact h h' tk acc z o
section
variable{X:Cx}
theorem Fk(hc:X.calm=true):fj X (.type "tuple") (fun xs H Q=>∃p i j,xs=[.ref p]/\H p=some (.rng i j)/\(-(2^62)<=i/\i<2^62 /\ -(2^62)<=j/\j<2^62)/\(j-i).toNat<=2^20 /\ ∀l,H l=none->Q (.ref l) (upd H l (.tup (jm i (j-i).toNat)))):=by
 intro pins s σ H xs K Q I r h;obtain⟨p,i,j,rfl,y,⟨h1,h2,E,D⟩,m,q⟩:=h;obtain⟨u,rfl,z⟩:=iJ r;cases z;obtain⟨t,u,v,e⟩:=I.hok p _ y;have G:(((j-i).toNat:Nat):Int)=Builtin.Range.rangeSize i j 1:=by rw[rangeSize_one];split<;>lia
 refine callType_new F.called_tuple (by decide) (F.typeCall_tuple_1 _) (F.newCall_tuple_1 _) (fun f=>F.args_object_init_2 f _) F.entry_tuple_new
  (um p i j 1 t u v (j-i).toNat (small_one h1 h2 E D) G.symm m) ⟨I.ok.hd hc,e,fun h' tk a B hi=>⟨⟨_,hS1 _ rfl,rfl⟩,(?_:_)⟩⟩
 obtain⟨g,d⟩:=hi;have c:ei (jm i (j-i).toNat) a.toList:=pI (by rw[iP];simpa using g.symm) fun k x u C A=>by
  rw[mL _ _ _ _ C];obtain⟨w,rfl⟩:=d k u (by simpa using A);exact⟨w,by rw[Int.mul_one]⟩
 have n:Inv X pins σ H {s with heap:=h',toks:=tk}:=I.kept (t':=tk) B;have J:Inv X pins σ (upd H h'.objs.size (.tup (jm i (j-i).toNat))) {s with heap:=h'.push {cls:=.type "tuple",data:=.seq a},toks:=tk}:=
  n.laid (t':=tk) (fun b o e=>hP1 _ e) (nR1 _) (show eN X.prog X.w _ _ _ (.tup _)from⟨by rw[iP];exact aC m (by decide),a.toList,c,by simpa using IsTup.new _ _⟩)
 exact⟨.ref h'.objs.size,_,J,rfl,q _ (n.hok.fresh (nR1 _))⟩
def zz(m:FA):FE:=fun r S=>(m r S).bind fun p=>match p.1 with
 |[.int j]=>if oo 0 j=true then some (.tup (gB 0 j.toNat),p.2)else none
 |_=>none
theorem xW {a:Expr}{m:FA}{e p2 b c:Pos}(hc:X.calm=true)(hg:Gl X "range")(hm:X.mg "range"=none)(hg2:Gl X "tuple")(hm2:X.mg "tuple"=none)(ha:XA X [a] m)(hs:dJ [a] X.env=[(false,eval a X.env)]:=by rfl)
  (hs2:dJ [.Call (.Name "range" e) [a] [] b] X.env=[(false,eval (.Call (.Name "range" e) [a] [] b) X.env)]:=by rfl):XE X (.Call (.Name "tuple" p2) [.Call (.Name "range" e) [a] [] b] [] c) (zz m):=
 ⟨eU (jh (Fk hc) hg2 hm2 (by decide+kernel) (j6 (oz hg hm ha.h hs) mS hs2) (by decide) (by decide) hs2) <| by
  rintro σ H Q ⟨r,mu,S,d,x,k,hs,hm,f⟩;obtain⟨⟨ds,y⟩,w,hm⟩:=oB1.mp hm;dsimp only at hm;split at hm
  ·rename_i j;split at hm
   ·rename_i i;cases hm;refine⟨r,mu,S,_,_,k,hs,w,fun vs H1 mu1 s t o=>?_⟩;obtain⟨v,rfl,q⟩:=jZ t;cases q;refine⟨j,rfl,fun p g=>⟨p,0,j,rfl,d3,(jX i).1,(jX i).2,fun l h=>?_⟩⟩;have n:=(s.trans (Ext.fresh (u:=.rng 0 j) g)).trans (Ext.fresh (u:=.tup (jm 0 (j-0).toNat)) h);exact f _ _ mu1 n (.tup (jl.of d3) (by rw[Int.sub_zero];exact mK _ _)) ((o.fresh g).fresh h)
   ·cases hm
  ·cases hm⟩
end
section
variable{P:dF}{w:dH}{A:dG}{E:dB->dD->Prop}{s:dD}
end
section
variable{X:Cx}
end
section
variable{X:Cx}{a b:Expr}{rest:List Expr}{pos:Pos}{ta tb:TE}{f g:FE}
end
section
variable{X:Cx}
def C6:G1:=fun d S=>match d with
 | .ref n=>match S[n]? with
  |some (.dct kvs)=>some (.int kvs.length,S)
  |_=>eS d S
 |_=>eS d S
end
section
variable{P:dF}{w:dH}{A:dG}{E:dB->dD->Prop}{b:Bool}
end
section
variable{X:Cx}
end
section
variable{prog:dF}{w:dH}{A:dG}{E:dB->dD->Prop}{s:dD}
theorem EZ{a b:dE}{k l:Int}{t u:Tok}{e zs:List dB}{Q:Bool->dD->Prop}(ha:IsTup s.heap a (Value.int k t::e).toArray)(hb:IsTup s.heap b (Value.int l u::zs).toArray)(c:k≠l)(h:Q (decide (k<l)) s):
  dM (model prog w) A (keyLt' (tuples' true) (.ref a) (.ref b)) Q E s:=by
 rw[iA];obtain⟨o,g,j,_,f⟩:=ha;obtain⟨m,d,n,_,i⟩:=hb;refine wB1 (listItems_at g f (wB1 (listItems_at d i ?_)));rw[bV,bM,bG];refine wB1 (wB1 ?_);dsimp only;refine wB1 (wpAny_eqBool_int ?_);rw[beq_false_of_ne c];simp only[cp,if_true];exact wB1 (oneLt_int (wP1 (wP1 (wP1 h))))
theorem E2{vs:List dB}{Q:SortKind->dD->Prop}(d:vs≠[])(h:∀ v∈vs,∃ a k t ps,v = .ref a/\IsTup s.heap a (Value.int k t::ps).toArray)(q:Q (tuples' true) s):
  dM (model prog w) A (keyKind' vs.toArray) Q E s:=by
 rw[keyKind'_eq,cq,<- bind_pure_comp];refine wB1 (wB1 (ke (P:=fun _ r=>∃k t,r=some (Value.int k t)) (fun v i=>?_) fun rs u f=>wP1 ?_))
 ·obtain⟨a,k,t,ps,rfl,⟨o,l,p,_,F⟩⟩:=h v i;refine⟨some (.int k t),⟨k,t,rfl⟩,fun Q q=>?_⟩;rw[sG];refine wB1 (wpAny_typeOf (T:="tuple") ⟨o,l,p⟩ ?_);rw[if_neg (by decide)];refine wB1 (listItems_at l F (wP1 ?_));simpa using q
 ·have y:rs.toArray.all (·.isSome)=true:=by
   rw[cr,bD];intro r j;obtain⟨v,_,k,t,e⟩:=f r j;rw[e];rfl
  rw[if_pos y];refine wB1 (wpAny_rule ?_);rw[oneTypeOnly'_eq];have m:rs.toArray.filterMap id=(rs.filterMap id).toArray:=by simp
  rw[m,cq,<- bind_pure_comp];refine wB1 (wB1 (wB1 (ke (P:=fun _ t=>t=Value.type "int") (fun v i=>?_) fun c b C=>wP1 ?_)))
  ·obtain⟨r,j,e⟩:=aL.mp i;obtain⟨G,_,k,t,D⟩:=f r j;rw[D]at e;cases e;exact⟨_,rfl,fun Q q=>wpAny_typeOf (T:="int") (typeIs_int s k t) q⟩
  ·cases c with
   |nil=>
    exfalso;cases rs with
    |nil=>exact d (cu.mp u.symm)
    |cons r rs=>
     obtain⟨_,_,k,t,e⟩:=f r mS1;rw[e]at b;simp at b
   |cons t c=>
    have all:∀x∈t::c,x=Value.type "int":=fun x g=>by obtain⟨_,_,z⟩:=C x g;exact z
    have n:=all t mS1;subst n;have B:((Value.type "int"::c).toArray.all fun x=>x == Value.type "int")=true:=by
     rw[cr,bD];intro x g;rw[all x g];rfl
    show dM _ _ (pure (if((Value.type "int"::c).toArray.all fun x=>x == Value.type "int")=true then some (Value.type "int")else none)) _ _ _;rw[if_pos B];exact wP1 (wP1 q)
end
section
variable{X:Cx}{pins:List (dE×Obj)}{σ:L2.St}{H:Hp}{s:dD}{mu:List dE}
end
section
variable{X:Cx}
end
section
variable{X:Cx}{f:dE}{fd:dP}{ps:List Str}{k n:Nat}{sp:Sp}{dvs:List V}{ds:List dB}{CX:xJ}{E:XK}{t:TA}{e:Expr}{es:List Expr}{p pos:Pos}{i:Nat}{v x:Str}
end
section
variable{prog:dF}{w:dH}{K:Type} [DecidableEq K] {knd:HeapKind prog w K}{A:dG}{E:dB->dD->Prop}{s:dD}
end
section
variable{X:Cx}
def Js:G1:=fun d S=>match d with
 | .ref n=>match S[n]? with
  |some (.dcT kvs)=>some (.int kvs.length,S)
  |_=>C6 d S
 |_=>C6 d S
def jj:G2:=fun d e S=>match e with
 | .ref n=>match S[n]? with
  |some (.dct [])=>match keyT d with
   |some _=>some (.bl true,S)
   |none=>fG d e S
  |_=>fG d e S
 |_=>fG d e S
theorem zi(o:X.A.units+64<cLine):gp X (compareOp .NotIn) (r2 X.K (b2 jj)):=by
 intro pins s σ H x y u w Q I m l h;obtain⟨mu,S,d,e,r,j,p,c,i,a,hc⟩:=ot h;have back:fG d e S=some (r,j)->dM (model X.prog X.w) X.A (compareOp .NotIn u w) (EP X pins σ Q) X.xe s:=fun a=>mW o pins s σ H x y u w Q I m l ⟨mu,S,[d,e],r,j,.cons p (.cons c .nil),i,a,hc⟩;unfold jj at a;split at a
 ·rename_i n;split at a
  ·rename_i t;split at a
   ·rename_i k q;cases a;cases c with
    |ref v=>
     cases l;obtain⟨ws,C,A⟩:=i.dct t v;cases A;obtain⟨z,B,vs,g,dd⟩:=vY I.hok C;cases g;obtain⟨b,rfl,rfl,rk,D,hi⟩:=iW I p m q;have f:s.heap.DictOfH (fP X.prog X.w) _ []:=ny dd;refine wpAny_notIn_heap (iq o) hi B f ?_;exact⟨.bl true,H,I.tok _,rfl,hc.now (.bl _) i⟩
   ·exact back a
  ·exact back a
 ·exact back a
end
theorem Iu.fits{es:Array (Int×dB)}{t:SetTable}(h:Iu es t):t.fits es.size=true:=by
 unfold SetTable.fits SetTable.fill;rw[h.du,h.sz];have:=h.fl;simp;exact this
theorem mem_ins{α:Type}(a:Array α)(p:Nat)(x y:α):y∈(SetTable.insertAt a p x).toList↔y=x\/y∈a.toList:=by
 rw[sy,aG,aF];have:=cK p a.toList;constructor
 ·rintro(h|h|h)
  ·exact .inr (cO h)
  ·exact .inl h
  ·exact .inr (cP h)
 ·rintro(h|h)
  ·exact .inr (.inl h)
  ·rw[<- this,aG]at h;rcases h with h|h
   ·exact .inl h
   ·exact .inr (.inr h)
theorem nt{α β:Type}{f g:α->Option β}:∀l:List α,(∀a∈l,f a=g a)->l.filterMap f=l.filterMap g
 |[],_=>rfl
 |a::l,h=>by rw[aE,aE,h a mS1,nt l fun b c=>h b (mC1 _ c)]
theorem live_len:∀(l:List (Option Nat)) (s:Nat),((List.range' s l.length).filterMap fun j=>(l.getD (j-s) none).map (j,·)).length=l.countP (·.isSome)
 |[],s=>rfl
 |x::l,s=>by
  rw[lC1,List.range'_succ,aE,List.countP_cons];have ih:=live_len l (s+1);have e:(List.filterMap (fun j=>Option.map (fun x=>(j,x)) ((x::l).getD (j-s) none)) (List.range' (s+1) l.length))=List.filterMap (fun j=>(l.getD (j-(s+1)) none).map (j,·)) (List.range' (s+1) l.length):=by
   refine nt _ fun j a=>?_;rw[List.mem_range'_1]at a;rw[show j-s=(j-(s+1))+1 by lia];rfl
  rw[e,cQ];cases x with
  |none=>simpa using ih
  |some q=>simpa using ih
section
variable{prog:dF}{w:dH}{A:dG}{E:dB->dD->Prop}{s:dD}
end
theorem gD.grows{h h':dN}(hs:∀ a o,h.get? a=some o->h'.get? a=some o):∀ {k:TK} {v:dB},gD h k v->gD h' k v:=fun f=>f.rec (motive_1:=fun k v _=>gD h' k v) (motive_2:=fun k v _=>gO h' k v) .non .int
  (fun{a} _ _ _ _ d e c _ ih=>.tup (hs a _ d) e c ih) .nil (fun _ _ a b=>.cons a b)
section
variable{P:dF}{w:dH}{A:dG}{E:dB->dD->Prop}{s:dD}{p:dE}{xs:List (TK×dE×dB)}
end
section
variable{P:dF}{w:dH}{A:dG}{E:dB->dD->Prop}
end
section
variable{X:Cx}
end
section
variable{X:Cx}{pos:Pos}
theorem ce{op:CmpOp}{x y:Expr}{f:FN}{a b:FE}(ho:gp X (compareOp op) (r2 X.K f))(hx:XE X x a)(hy:XE X y b)(hm:behindInMarks op y=false:=by exact zl _):XE X (.Compare x [op] [y] pos) (m2 f a b):=AY ho hx hy hm
theorem ct{op:CmpOp}{x y:Expr}{f:FN}{a b:FE}(ho:gp X (compareOp op) (r2 X.K f))(hx:XE X x a)(hy:XE X y b)(hm:behindInMarks op y=false:=by exact zl _):XT X (.Compare x [op] [y] pos) (mB (m2 f a b)):=qX ho hx hy hm
theorem kc{a:dR}{i:Nat}{l:List Nat}(x:Str)(r:∀i∈l,∃x,X.N[i]?=some x/\a.names.lookup x=some .free/\(X.env.kindOf x=some .cell\/X.env.kindOf x=some .free)/\(x,NameKind.cell)∉a.names)(h1:X.N[i]?=some x:=by rfl)(h2:a.names.lookup x=some .free:=by rfl)(c:X.env.kindOf x=some .cell\/X.env.kindOf x=some .free:=by first|exact Or.inl rfl|exact Or.inr rfl)(b:(x,NameKind.cell)∉a.names:=by decide+kernel):∀j∈i::l,∃x,X.N[j]?=some x/\a.names.lookup x=some .free/\(X.env.kindOf x=some .cell\/X.env.kindOf x=some .free)/\(x,NameKind.cell)∉a.names:=List.forall_mem_cons.mpr ⟨⟨x,h1,h2,c,b⟩,r⟩
end
structure eM (K:Fg1)(x:Str)(st:dQ)(f:dE):Prop where
 ns:wN1 K dI x=some (some (.ref f))
 fn:∃fd,xO K x x st f fd
theorem Hb{K:Fg1}{x:Str}{st:dQ}{f:dE}{j:dB}{i g:Option dE}{d:Array (Option dB)}{kV e h b ct:dB}(a:wN1 K dI x=some (some (.ref f)))(l:K.lookup f=some ⟨j,i,.func (wF1 x x (hB st) (fq st) (ea st) .none kV e h g b ct),d⟩)(c:wC1 K b x=true)(k:wK1 K (.ref f)=true):eM K x st f:=⟨a,_,Ab l c k⟩
theorem xo{P:dF}{w:dH}{K:Fg1}{mg:Str->Option dB}{base h:dN}{x:Str}{st:dQ}{f:dE}{N ps:List Str}{k n:Nat}{b:FS}(X:K.In h)(G:h.Ns dI mg)(F:eM K x st f)(S:gh N ps (ea st))(hb:∀(kV g l:dB) (j:Option dE) (a ct:dB) (e:List dB),e.length=ps.length->bindArgs (wF1 x x (hB st) (fq st) (ea st) .none kV g l j a ct) ⟨e,[]⟩=pure (ps.zip e))(c:∀(f:dE) (a:dB) (A:dG) (d:List Env) (s:dD) (H:Hp) (E:XK),fN k (A.deeper (envOfC x (ea st) s.heap.objs.size f a)) ->
   xE (lZ tw P w K mg base N x (ea st) f a A d s H E).nox (fq st) b)(hn:ps.length=n:=by rfl):fO P w K mg base (k+1) x n (iC N.length b):=by
 obtain⟨fd,i⟩:=F.fn;exact AW i (i.binds hb) (wM1 X G F.ns) S hn (c f)
section
variable{X:Cx}{pins:List (dE×Obj)}{σ:L2.St}{H:Hp}{s:dD}{mu:List dE}
end
section
variable{P:dF}{w:dH}{A:dG}{E:dB->dD->Prop}{s:dD}{a x:dE}{xs:List (TK×dE×dB)}{k:TK}
end
section
variable{X:Cx}
end
section
variable{X:Cx}{o e:Expr}{es:List Expr}{to:TE}{t:TA}{name:Str}{apos cpos:Pos}{id:String}{r:V->List V->Hp->VK->Prop}
end
section
variable{X:Cx}
end
section
variable{X:Cx}{x y z u:Expr}{pos:Pos}{f g k:FN}{a b c d:FE}{op op' op'':CmpOp}{ta tb tc td:TE}
end
structure Blt (L:List Str)(mg:Str->Option dB):Prop where
 h:∀x∈L,mg x=none
theorem bz{L:List Str}{mg:Str->Option dB}{x:Str}(B:Blt L mg)(h:x∈L:=by decide):mg x=none:=B.h x h
theorem sk{N P:List Str}{sc:dR}(h1:sc.kind = .function:=by rfl)(h2:sc.isCoroutine=false:=by rfl)(d:sc.isGenerator=false:=by rfl)(b:N.Nodup:=by decide+kernel)(a:N.take P.length=P:=by rfl)(c:∀x∈P,sc.names.lookup x=some .local\/sc.names.lookup x=some .cell:=by decide+kernel)(e:∀y∈sc.names,y.2 ≠ .free:=by decide+kernel):gh N P sc:=⟨h1,h2,d,b,a,c,e⟩
def HA(K:Fg1):List Str->Prop
 |[]=>True
 |x::l=>wN1 K dI x=some none/\HA K l
theorem HA.blt{K:Fg1}{mg:Str->Option dB}{h:dN}(X:K.In h)(G:h.Ns dI mg):∀{L:List Str},HA K L->Blt L mg
 |[],_=>⟨fun _ m=>nomatch m⟩
 |_::_,z=>⟨fun _ m=>match m with
  | .head _=>PySem.W.mg_none_of X G z.1
  | .tail _ m=>(HA.blt X G z.2).h _ m⟩
def HL:List Str->Bool
 |[]=>true
 |x::l=> !l.contains x&&HL l
theorem gZ:∀{l:List Str},HL l=true->l.Nodup
 |[],_=>bq
 |x::l,h=>by
  obtain⟨a,b⟩:=(bA1 _ _).mp h;exact aN.mpr ⟨fun m=>(by rw[cR.mpr m]at a;cases a),gZ b⟩
section
variable{X:Cx}{pos:Pos}{k:Nat}{x:Str}{i:Nat}{e y:Expr}{es:List Expr}{m b:FE}{a:FA}{p:Pos}
theorem xv (hN:X.N[i]?=some x:=by rfl)(hv:Vis X.env.scope x:=by first|exact Or.inl rfl|exact Or.inr (Or.inl rfl)|exact Or.inr (Or.inr rfl))(hd:(x == ("__debug__":Str))=false:=by decide)(hcd:(x == ("__classdict__":Str))=false:=by decide):XE X (.Name x pos) (mV i):=JC i hN hv hd hcd
theorem gq(hN:HL X.N=true:=by rfl)(hi:X.N[i]?=some x:=by rfl)(hx:uP X.env.scope x:=by first|exact Or.inl rfl|exact Or.inr rfl)(hf:X.fn x=true\/X.env.scope.names.lookup x=some .local:=by first|exact .inl rfl|exact .inr rfl|assumption):XG X (.Name x pos) (gN i):=qO i (gZ hN) hi hx hf
theorem sq(he:XE X e m)(hN:HL X.N=true:=by rfl)(hi:X.N[i]?=some x:=by rfl)(hx:uP X.env.scope x:=by first|exact Or.inl rfl|exact Or.inr rfl)(hs:swapsWith e (some (.Name x p)) pos.line X.env=pure false:=by rfl)(hf:X.fn x=true\/X.env.scope.names.lookup x=some .local:=by first|exact .inl rfl|exact .inr rfl|assumption):XS X (.Assign [.Name x p] e pos) (eh m (gN i)):=qY i (gZ hN) hi hx he hs hf
theorem jq(hx:XE X e m)(hy:XE X y b)(hr:fN k X.A:=by assumption)(hs:mo y:=by intro _ _;rfl):XE X (.Subscript e y pos) (m2 (b2 dW) m b):=qJ (qP hr.units) hx hy hs
theorem oq{O:Prop}(o:X.A.units+64<cLine->O)(hr:fN k X.A:=by assumption):O:=o hr.units
theorem wn {k' n:Nat}{f:FN}(h:fO X.prog X.w X.K X.mg X.base k x n f)(ha:XA X (e::es) a)(hr:fN k' X.A:=by assumption)(hk:k<=k':=by first|decide|omega)(hg:Gl X x:=by rfl)(hdb:(x == ("__debug__":Str))=false:=by decide)(he:dJ (e::es) X.env=(false,eval e X.env)::dJ es X.env:=by rfl)(hpl:(backTo pos (dJ es X.env)).any (·.1)=false:=by rfl):XE X (.Call (.Name x p) (e::es) [] pos) (mN (dX n f) a):=qH h hr hk hg ha hdb he hpl
theorem cn {id:String}{f:FN}(hc:fj X (.builtin id) (rN X.K f))(ha:XA X (e::es) a)(hm:X.mg x=none:=by exact bz (by assumption))(hg:Gl X x:=by rfl)(hv:bootBuiltins x=some (.builtin id):=by decide+kernel)(hn:x≠"__name__":=by decide)(hdb:(x == ("__debug__":Str))=false:=by decide)(he:dJ (e::es) X.env=(false,eval e X.env)::dJ es X.env:=by rfl)(hpl:(backTo pos (dJ es X.env)).any (·.1)=false:=by rfl):XE X (.Call (.Name x p) (e::es) [] pos) (mN f a):=qD hc hg hm hv ha hn hdb he hpl
theorem cz {T:String}{f:FN}(hc:fj X (.type T) (rN X.K f))(ha:XA X (e::es) a)(hm:X.mg x=none:=by exact bz (by assumption))(hg:Gl X x:=by rfl)(hv:bootBuiltins x=some (.type T):=by decide+kernel)(hn:x≠"__name__":=by decide)(hdb:(x == ("__debug__":Str))=false:=by decide)(he:dJ (e::es) X.env=(false,eval e X.env)::dJ es X.env:=by rfl)(hpl:(backTo pos (dJ es X.env)).any (·.1)=false:=by rfl):XE X (.Call (.Name x p) (e::es) [] pos) (mN f a):=qE hc hg hm hv ha hn hdb he hpl
theorem a1(h:XE X e m)(hs:dJ [e] X.env=(false,eval e X.env)::dJ [] X.env:=by rfl):XA X [e] (dS m dU):=qA h qN hs
theorem a2(h:XE X e m)(g:XE X y b)(hs:dJ [e,y] X.env=(false,eval e X.env)::dJ [y] X.env:=by rfl)(hs2:dJ [y] X.env=(false,eval y X.env)::dJ [] X.env:=by rfl):XA X [e,y] (dS m (dS b dU)):=qA h (a1 g hs2) hs
theorem a3{z:Expr}{c:FE}(h:XE X e m)(g:XE X y b)(l:XE X z c)(hs:dJ [e,y,z] X.env=(false,eval e X.env)::dJ [y,z] X.env:=by rfl)(hs2:dJ [y,z] X.env=(false,eval y X.env)::dJ [z] X.env:=by rfl)(a:dJ [z] X.env=(false,eval z X.env)::dJ [] X.env:=by rfl):XA X [e,y,z] (dS m (dS b (dS c dU))):=qA h (a2 g l hs2 a) hs
theorem ir (ha:XA X [e] a)(hm:X.mg "range"=none:=by exact bz (by assumption))(hg:Gl X "range":=by rfl)(hs:dJ [e] X.env=[(false,eval e X.env)]:=by rfl):XI X y (.Call (.Name "range" p) [e] [] pos) (ux a):=tL hg hm ha hs
theorem ie {elts:List Expr}{b:Nat}{tpos:Pos}(ha:XA X [e] a)(hm:X.mg "enumerate"=none:=by exact bz (by assumption))(hg:Gl X "enumerate":=by rfl)(hs:dJ [e] X.env=[(false,eval e X.env)]:=by rfl):XI X (.Tuple elts b tpos) (.Call (.Name "enumerate" p) [e] [] pos) (FJ a):=xU hg hm ha hs
structure Lm (X:Cx)(name:Str)(id:String)(f:FN):Prop where
 s:Slot "list" name id
 t:typeOf (.builtin id)=pure (.type "method_descriptor")
 m:Df X id (fun x xs H Q=>rN X.K f (x::xs) H Q)
theorem ap:Lm X "append" "list.append" (b2 jp):=⟨PySem.F.slot_list_append,PySem.F.type_list_append,FY⟩
theorem lq{f:FN}{name:Str}{apos:Pos}{id:String}(s:Lm X name id f)(ho:XE X y m)(ha:XA X (e::es) a)(hbase:attributeBase y name X.env (eval y X.env)=eval y X.env:=by rfl)(hfew:((backTo pos (dJ (e::es) X.env)).all (fun x=> !x.1)&&(backToKw pos (keywordEach [] X.env)).all (fun x=>x.1.isSome)&&decide ((e::es).length+([]:List Keyword).length+(if([]:List Keyword).isEmpty then 0 else 1)<30))=true:=by rfl)(hline:(apos.endLine == pos.line)=true:=by rfl)(hs:dJ (e::es) X.env=(false,eval e X.env)::dJ es X.env:=by rfl)(hplain:(backTo pos (dJ es X.env)).any (·.1)=false:=by rfl):XS X (.Expr (.Call (.Attribute y name apos) (e::es) [] pos) p) (fi (oH f m a)):=jK (qe s.s s.t s.m ho ha hbase hfew hline hs hplain)
theorem fo{tg iter:Expr}{a:List dQ}{m:FI}{g:FG}{b:FS}(hi:XI X tg iter m)(hg:XG X tg g)(hb:xE X a b)(hp:PassesOwn (model X.prog X.w) X.A X.env X.xe:=by exact PassesOwn.never)(hc:X.calm=true:=by rfl)(hs:∀x,foldedSetIterable iter X.env x=pure x:=by intro _;rfl):XS X (.For tg iter a [] pos) (iT m g b):=qW hp hc hi hg hb hs
theorem tg2{d:Expr}{g h:FG}{a:Nat}(h1:XG X e g)(h2:XG X d h)(hc:X.calm=true:=by rfl)(hs:(assignEach [e,d] X.env).map (·.2)=assign e X.env::(assignEach [d] X.env).map (·.2):=by rfl)(hs2:(assignEach [d] X.env).map (·.2)=assign d X.env::(assignEach [] X.env).map (·.2):=by rfl)(hn:(assignEach [e,d] X.env).length=2:=by rfl)(hst:(assignEach [e,d] X.env).findIdx? (·.1)=none:=by rfl):XG X (.Tuple [e,d] a pos) (gT 2 (gCs g (gCs h gNl))):=gQ hc (d7 h1 (d7 h2 gj hs2) hs) hn hst
def HM(x:Str):List (Str×NameKind)->Bool
 |[]=>true
 |(y,.cell)::l=> !(y == x)&&HM x l
 |_::l=>HM x l
omit k i in
theorem zo:∀{l:List (Str×NameKind)},HM x l=true->(x,NameKind.cell)∉l
 |[],_,m=>nomatch m
 |(y,c)::l,h,m=>by
  rcases aF.mp m with e|a
  ·cases e;have h:=((bA1 _ _).mp h).1;rw[beq_self_eq_true]at h;cases h
  ·cases c with
   |cell=>exact zo ((bA1 _ _).mp h).2 a
   |_=>exact zo (l:=l) h a
theorem kz{a:dR}{l:List Nat}(r:∀i∈l,∃x,X.N[i]?=some x/\a.names.lookup x=some .free/\(X.env.kindOf x=some .cell\/X.env.kindOf x=some .free)/\(x,NameKind.cell)∉a.names)(h1:X.N[i]?=some x:=by rfl)(h2:a.names.lookup x=some .free:=by rfl)(c:X.env.kindOf x=some .cell\/X.env.kindOf x=some .free:=by first|exact Or.inl rfl|exact Or.inr rfl)(b:HM x a.names=true:=by rfl):∀j∈i::l,∃x,X.N[j]?=some x/\a.names.lookup x=some .free/\(X.env.kindOf x=some .cell\/X.env.kindOf x=some .free)/\(x,NameKind.cell)∉a.names:=kc x r h1 h2 c (zo b)
def Jv(X:Cx)(sc:dR):List (Str×dE):=(i4 X.env.cells sc.names []).getD []
theorem fk{elt tg iter:Expr}{ifs:List Expr}{scope:dR}(T:List Str){keep:List Nat}{m:FI}{g:FG}{t:FT}{e:FE}(hi:XI X tg iter m)(hb:∀ {s H f},HY (cxC X scope (Jv X scope) T keep s H f) X.K tg ifs elt g t e)(c:∀i∈keep,∃x,X.N[i]?=some x/\scope.names.lookup x=some .free/\(X.env.kindOf x=some .cell\/X.env.kindOf x=some .free)/\(x,NameKind.cell)∉scope.names:=by first|exact cS _|exact kz (cS _)|exact kz (kz (cS _))|exact kz (kz (kz (cS _)))|exact kz (kz (kz (kz (cS _)))))(hc:X.calm=true:=by rfl)(b:scope.kind = .function:=by rfl)(a:∀x∈scope.names,x.2 = .local->scope.names.lookup x.1=some .local:=by decide+kernel)(d:i4 X.env.cells scope.names []=some (Jv X scope):=by rfl)(hs:∀x,foldedSetIterable iter X.env x=pure x:=by intro _;rfl):XE X (.ListComp elt [⟨tg,iter,ifs,0⟩] scope pos) (e0 T.length keep m g t (eI e)):=qZ hc ⟨b,a,c⟩ d hi (fun _ _ _=>hb) hs
end
theorem xq{P:dF}{w:dH}{K:Fg1}{mg:Str->Option dB}{base h:dN}{x:Str}{st:dQ}{f:dE}{k n:Nat}{b:FS}(N:List Str)(X:K.In h)(G:h.Ns dI mg)(F:eM K x st f)(d:∀{f:dE} {a:dB} {A:dG} {c:List Env} {s:dD} {H:Hp} {E:XK},fN k (A.deeper (envOfC x (ea st) s.heap.objs.size f a)) ->
   xE (lZ tw P w K mg base N x (ea st) f a A c s H E).nox (fq st) b)(S:gh N (N.take n) (ea st):=by exact sk)(hb:∀(kV i l:dB) (j:Option dE) (a ct:dB) (e:List dB),e.length=(N.take n).length->bindArgs (wF1 x x (hB st) (fq st) (ea st) .none kV i l j a ct) ⟨e,[]⟩=pure ((N.take n).zip e):=by
   intro _ _ _ _ _ _ e g;first|exact Jp g fun _=>rfl|exact Jo g fun _ _=>rfl|exact Jn g fun _ _ _=>rfl|exact Jm g fun _ _ _ _=>rfl)(hn:(N.take n).length=n:=by rfl):fO P w K mg base (k+1) x n (iC N.length b):=xo X G F S hb (fun _ _ _ _ _ _ _ m=>d m) hn
open AutoSeq1 (wpAny_loadPart')
section
variable{X:Cx}
end
mutual
def pl:D->Bool
 | .non=>true
 | .bl _=>true
 | .int _=>true
 | .str _=>true
 | .tup xs=>me xs
 |_=>false
def me:List D->Bool
 |[]=>true
 |x::xs=>pl x&&me xs
end
section
variable{X:Cx}{pins:List (dE×Obj)}{σ:L2.St}{H:Hp}{s:dD}{mu:List dE}{S:Sto}
mutual
theorem va(I:Inv X pins σ H s):∀{d d':D} {v:V},pl d=true->pl d'=true->eJ X.K H mu d v->eJ X.K H mu d' v->d=d'
 | .non,d',_,_,h,.non,r=>by cases r;rfl
 | .bl b,d',_,_,h,.bl _,r=>by cases r;rfl
 | .int i,d',_,_,h,.int _,r=>by cases r;rfl
 | .str x,d',_,_,h,.str _,r=>by cases r;rfl
 | .tup xs,d',_,g,h,.tup q t,r=>by
  cases r with
  |tup c a=>
   have e:=I.tuple_inj q c;subst e;rw[pl]at g h;rw[rE I g h t a]
  |rol _ _=>cases h
  |ref _=>cases h
  |fn _=>cases h
 | .rol _,_,_,g,_,_,_=>by cases g
 | .ref _,_,_,g,_,_,_=>by cases g
 | .fn _,_,_,g,_,_,_=>by cases g
theorem rE(I:Inv X pins σ H s):∀{ds a:List D} {vs:List V},me ds=true->me a=true->d0 X.K H mu ds vs->d0 X.K H mu a vs->ds=a
 |[],_,_,_,_,.nil,r=>by cases r;rfl
 |d::ds,_,_,g,h,.cons r t,z=>by
  cases z with
  |cons b c=>
   rw[me,bA1]at g h;rw[va I g.1 h.1 r b,rE I g.2 h.2 t c]
end
end
def iX:D->Option Bool
 | .tup (.int _::_)=>some true
 | .tup (.tup _::_)=>some false
 |_=>none
def IH(a b:D):Bool:=jI [] 51 a b == some true
def w6(a:D):List D->List D
 |[]=>[a]
 |b::l=>if IH a b=true then a::b::l else b::w6 a l
def jP:List D->List D
 |[]=>[]
 |a::l=>w6 a (jP l)
def oK(a b:D):Bool:=jI [] 51 a b == some true&&jI [] 51 b a == some false
def lB:List D->Bool
 |[]=>true
 |a::l=>l.all (oK a)&&lB l
theorem jY:∀{l:List D} {i j:Nat} {a b:D},lB l=true->l[i]?=some a->l[j]?=some b->i<j->oK a b=true
 |[],i,j,a,b,_,h,_,_=>by simp at h
 |x::l,0,j+1,a,b,h,h1,h2,_=>by
  rw[lB,bA1,bD]at h;simp at h1 h2;subst h1;exact h.1 b (gM1 h2)
 |x::l,i+1,j+1,a,b,h,h1,h2,hij=>by
  rw[lB,bA1]at h;exact jY h.2 (by simpa using h1) (by simpa using h2) (by lia)
 |x::l,i,0,a,b,_,_,_,hij=>by lia
abbrev Tr:=D×V×dB
def w4(a:Tr):List Tr->List Tr
 |[]=>[a]
 |b::l=>if IH a.1 b.1=true then a::b::l else b::w4 a l
def rq:List Tr->List Tr
 |[]=>[]
 |a::l=>w4 a (rq l)
theorem oR(a:Tr):∀l:List Tr,(w4 a l).Perm (a::l)
 |[]=>.refl _
 |b::l=>by
  rw[w4];split
  ·exact .refl _
  ·exact((oR a l).cons b).trans (.swap _ _ _)
theorem mz:∀l:List Tr,(rq l).Perm l
 |[]=>.refl _
 |a::l=>(oR a _).trans ((mz l).cons a)
theorem sA(a:Tr):∀l:List Tr,(w4 a l).map (·.1)=w6 a.1 (l.map (·.1))
 |[]=>rfl
 |b::l=>by
  rw[w4,mP1,w6];split
  ·rfl
  ·rw[mP1,sA a l]
theorem og:∀l:List Tr,(rq l).map (·.1)=jP (l.map (·.1))
 |[]=>rfl
 |a::l=>by rw[rq,mP1,jP,sA,og l]
section
variable{prog:dF}{w:dH}{A:dG}{E:dB->dD->Prop}{s:dD}
theorem B4{a b:dE}{k l:Int}{t u:Tok}{g zs:List dB}{c:Bool}{Q:Bool->dD->Prop}(ha:IsTup s.heap a (Value.int k t::g).toArray)(hb:IsTup s.heap b (Value.int l u::zs).toArray)(f:k≠l/\c=decide (k<l)\/k=l/\tu A s g zs c)(h:Q c s):
  dM (model prog w) A (keyLt' (tuples' true) (.ref a) (.ref b)) Q E s:=by
 rcases f with⟨f,rfl⟩|⟨rfl,L⟩
 ·exact EZ ha hb f h
 rw[iA];obtain⟨o,y,C,_,v⟩:=ha;obtain⟨D,r,F,_,B⟩:=hb;refine wB1 (listItems_at y v (wB1 (listItems_at r B ?_)));rw[bV,bM,bG];refine wB1 (wB1 ?_);dsimp only;refine wB1 (wpAny_eqBool_int ?_);simp only[beq_self_eq_true,b7,bF1,if_false];refine wP1 ?_;refine wpAny_mono (wpAny_forIn_list _ (fun rest b s'=>s'=s/\b=(none,()) /\ ∃(i:Nat) (vs ws:List dB),rest=(vs.zip ws).zipIdx (i+1)/\tu A s vs ws c/\vs.length+zs.length=ws.length+g.length)
  (fun b s'=>s'=s/\(b=(some c,())\/(b=(none,())/\c=decide (g.length<zs.length)))) ?_ ?_ _ _ ⟨rfl,rfl,0,g,zs,rfl,L,by lia⟩) ?_ fun _ _ e=>e
 ·rintro x rest b s' ⟨rfl,rfl,i,vs,ws,d,m,j⟩;cases m with
  |nn=>simp at d
  |nc _ _=>simp at d
  |cn _ _=>simp at d
  | @eq p q ps n _ e t=>
   rw[bV,bM]at d;cases d;refine wB1 (e.of_in1 prog w E _ ?_);simp only[b7,bF1,if_false];exact wP1 ⟨rfl,rfl,i+1,ps,n,rfl,t,by simp at j;lia⟩
  | @lt p q ps n _ e t=>
   rw[bV,bM]at d;cases d;refine wB1 (e.of_in1 prog w E _ ?_);simp only[cp,if_true];rw[show(true&&(i+1 == 0))=false from rfl];exact wB1 (za t (wP1 ⟨rfl,.inl rfl⟩))
 ·rintro b s' ⟨rfl,rfl,i,vs,ws,d,m,j⟩;refine⟨rfl,.inr ⟨rfl,?_⟩⟩;cases m with
  |nn=>simp at j;rw[decide_eq_false (by lia)]
  |nc _ _=>simp at j;rw[decide_eq_true (by lia)]
  |cn _ _=>simp at j;rw[decide_eq_false (by lia)]
  |eq _ _=>simp at d
  |lt _ _=>simp at d
 ·rintro b s' ⟨rfl,z⟩;rcases z with rfl|⟨rfl,z⟩
  ·exact wP1 h
  ·refine wP1 ?_;rw[sT1,sT1,lC1,lC1,show decide (g.length+1<zs.length+1)=c by rw[z];congr 1;simp];exact h
end
section
variable{X:Cx}{pins:List (dE×Obj)}{σ:L2.St}{H:Hp}{s:dD}{mu:List dE}{S:Sto}
theorem E6(I:Inv X pins σ H s)(hs:Sim X.K H mu S){A:dG}(P:A.units+60<cLine){f:Bool}{d e:D}{v w:V}{u z:dB}{b:Bool}(F:eJ X.K H mu d v)(B:eJ X.K H mu e w)(G:d6 v u)(C:d6 w z)(hd:iX d=some f)(he:iX e=some f)(h:jI S 51 d e=some b){E:dB->dD->Prop}{Q:Bool->dD->Prop}(q:Q b s):dM (model X.prog X.w) A (keyLt' (tuples' f) u z) Q E s:=by
 have y:∀{xs ys:List D} {vs ws:List V} {us zs:List dB} {b:Bool},d0 X.K H mu xs vs->d0 X.K H mu ys ws->ei vs us->ei ws zs->nR (gr S 50) (jI S 50) xs ys=some b->tu A s us zs b:=
  fun c j i g h=>zE I hs (A:=A) (n:=50) (by lia) (fun K r2 O J h=>uq I hs 50 (A:=A.in1) (by show A.units+1+50<cLine;lia) K r2 O J h) c j i g h
 unfold iX at hd he;split at hd
 ·rename_i k _;cases hd;split at he
  ·rename_i l _;cases F with
   |tup r c=>
   cases B with
   |tup x j=>
   obtain⟨t,i,p,_⟩:=I.tuple r;obtain⟨m,g,o,_⟩:=I.tuple x;cases G;cases C;cases c with
   |cons a1 c=>
   cases j with
   |cons a2 j=>
   cases a1;cases a2;cases i with
   |cons L i=>
   cases g with
   |cons N g=>
   obtain⟨tk,rfl⟩:=L;obtain⟨M,rfl⟩:=N;refine B4 p o ?_ q;have h:nR (gr S 50) (jI S 50) (.int k::_) (.int l::_)=some b:=h;rw[nR]at h;by_cases a:k=l
   ·subst a;exact .inr ⟨rfl,y c j i g (by
     have e:gr S 50 (.int k) (.int k)=some true:=by show some (decide (k=k))=_;simp
     rw[e]at h;exact h)⟩
   ·refine .inl ⟨a,?_⟩;have e:gr S 50 (.int k) (.int l)=some false:=by show some (decide (k=l))=_;simp[a]
    rw[e]at h;have h:some (decide (k<l))=some b:=h;exact(Option.some.inj h).symm
  ·cases he
  ·cases he
 ·cases hd;split at he
  ·cases he
  ·cases F with
   |tup r c=>
   cases B with
   |tup x j=>
   obtain⟨t,i,p,_⟩:=I.tuple r;obtain⟨m,g,o,_⟩:=I.tuple x;cases G;cases C;exact EY p o (y c j i g h) q
  ·cases he
 ·cases hd
theorem DE(I:Inv X pins σ H s)(hs:Sim X.K H mu S){A:dG}(hu:A.units+60<cLine){f:Bool}{ds:List D}{vs:List V}{its:List dB}(r:d0 X.K H mu ds vs)(rv:ei vs its)(hp:me ds=true)(hk:∀d∈ds,iX d=some f)(hr:lB (jP ds)=true):
  ∃(J:List V) (ws:List dB),d0 X.K H mu (jP ds) J/\ei J ws/\its.Perm ws/\J.length=vs.length /\
   ∀c:dN,(∀b o,s.heap.get? b=some o->c.get? b=some o)->ll X.prog X.w A {s with heap:=c} (tuples' f) ws (pairsOf its) /\
    (its≠[] -> ∀(E:dB->dD->Prop) (Q:SortKind->dD->Prop),Q (tuples' f) {s with heap:=c}->dM (model X.prog X.w) A (keyKind' its.toArray) Q E {s with heap:=c}):=by
 have w:∀{l:List D},me l=true -> ∀d∈l,pl d=true:=by
  intro l
  induction l with
  |nil=>intro _ d h;cases h
  |cons x l ih=>
   intro h d N;rw[me,bA1]at h;rcases aF.mp N with rfl|z
   ·exact h.1
   ·exact ih h.2 d z
 have und:∀n,(∀d:D,pl d=true->d.und n=true) /\ ∀l:List D,me l=true->D.unds n l=true:=fun n=>by
  refine⟨fun d=>?_,fun l=>?_⟩
  ·exact D.rec (motive_1:=fun d=>pl d=true->d.und n=true) (motive_2:=fun l=>me l=true->D.unds n l=true) (fun _=>rfl) (fun _ _=>rfl) (fun _ _=>rfl) (fun _ _=>rfl) (fun xs ih h=>by rw[pl]at h;rw[D.und];exact ih h) (fun _ _ h=>by cases h) (fun _ h=>by cases h) (fun _ h=>by cases h) (fun _=>rfl) (fun x xs h1 h2 h=>by rw[me,bA1]at h;rw[D.unds,h1 h.1,h2 h.2];rfl) d
  ·exact D.rec_1 (motive_1:=fun d=>pl d=true->d.und n=true) (motive_2:=fun l=>me l=true->D.unds n l=true) (fun _=>rfl) (fun _ _=>rfl) (fun _ _=>rfl) (fun _ _=>rfl) (fun xs ih h=>by rw[pl]at h;rw[D.und];exact ih h) (fun _ _ h=>by cases h) (fun _ h=>by cases h) (fun _ h=>by cases h) (fun _=>rfl) (fun x xs h1 h2 h=>by rw[me,bA1]at h;rw[D.unds,h1 h.1,h2 h.2];rfl) l
 have tri:∃Y:List Tr,Y.map (·.1)=ds/\Y.map (·.2.1)=vs/\Y.map (·.2.2)=its /\ ∀y∈Y,eJ X.K H mu y.1 y.2.1/\d6 y.2.1 y.2.2:=by
  clear hk hr hp
  induction ds generalizing vs its with
  |nil=>cases r;cases rv;exact⟨[],rfl,rfl,rfl,fun y h=>by cases h⟩
  |cons d ds ih=>
   cases r with
   |cons B t=>
   cases rv with
   |cons M tt=>
   obtain⟨Y,K,G,p,ok⟩:=ih t tt;refine⟨(d,_,_)::Y,by rw[mP1,K],by rw[mP1,G],by rw[mP1,p],fun y m=>?_⟩;rcases aF.mp m with rfl|z
   ·exact⟨B,M⟩
   ·exact ok y z
 obtain⟨Y,rfl,rfl,rfl,ok⟩:=tri;have L:=mz Y;have em:=og Y;rw[<- em]at hr ⊢;generalize hZ:rq Y=Z at *
 have g:∀y∈Z,y∈Y:=fun y m=>L.mem_iff.mp m;refine⟨Z.map (·.2.1),Z.map (·.2.2),?_,?_,(L.map _).symm,by rw[lM1,lM1,L.length_eq],fun c keep=>⟨⟨?_,?_,?_⟩,fun U E Q q=>?_⟩⟩
 ·clear hr hZ em L
  induction Z with
  |nil=>exact .nil
  |cons y Z ih=>exact .cons (ok y (g y mS1)).1 (ih fun z hz=>g z (mC1 _ hz))
 ·clear hr hZ em L
  induction Z with
  |nil=>exact .nil
  |cons y Z ih=>exact .cons (ok y (g y mS1)).2 (ih fun z hz=>g z (mC1 _ hz))
 ·refine cw.mpr fun i j hi hj hij e=>?_;rw [lM1] at hi hj;rw [List.getElem_map,List.getElem_map] at e;have C:=g _ (bU hi);have F:=g _ (bU hj);have P:=jY hr (i:=i) (j:=j) (a:=Z[i].1) (b:=Z[j].1) (by rw [gP1,gG1 hi];rfl) (by rw [gP1,gG1 hj];rfl) hij;obtain ⟨B,M⟩:=ok _ C;obtain ⟨r2,q2⟩:=ok _ F;have h1:=hk Z[i].1 (ci.mpr ⟨_,C,rfl⟩);have h2:=hk Z[j].1 (ci.mpr ⟨_,F,rfl⟩);have isT:∀ {d:D} {v:V} {u:dB},iX d=some f->eJ X.K H mu d v->d6 v u -> ∃ a,v = .ref a/\u = .ref a:=fun {d v u} N rd ru=>by
   cases rd with
   |tup _ _=>cases ru;exact⟨_,rfl,rfl⟩
   |_=>cases N
  obtain⟨a1,K,G⟩:=isT h1 B M;obtain⟨a2,p,e4⟩:=isT h2 r2 q2;rw[G,e4]at e;cases e;rw[K]at B;rw[p]at r2;have e:=va I (w hp _ (ci.mpr ⟨_,C,rfl⟩)) (w hp _ (ci.mpr ⟨_,F,rfl⟩)) B r2;unfold oK at P;rw[e,bA1,beq_iff_eq,beq_iff_eq]at P;rw[P.1]at P;cases P.2
 ·rw[pairsOf_toList];have:(Y.map (·.2.2) |>.zip (Y.map (·.2.2))).map (·.1)=Y.map (·.2.2):=List.map_fst_zip (nR1 _);rw[this];exact(L.map _).symm
 ·intro x y i j hx m hij E Q q;rw[gP1]at hx m;obtain⟨yi,T,rfl⟩:=oM1.mp hx;obtain⟨yj,R,rfl⟩:=oM1.mp m;have C:=g _ (gM1 T);have F:=g _ (gM1 R);have O:Inv X pins σ H {s with heap:=c}:=I.kept (t':=s.toks) keep;have ki:(Z.map (·.1))[i]?=some yi.1:=by rw[gP1,T];rfl
  have kj:(Z.map (·.1))[j]?=some yj.1:=by rw[gP1,R];rfl
  have pi:=(und 0).1 _ (w hp _ (ci.mpr ⟨_,C,rfl⟩));have pj:=(und 0).1 _ (w hp _ (ci.mpr ⟨_,F,rfl⟩));refine E6 O hs hu (ok _ C).1 (ok _ F).1 (ok _ C).2 (ok _ F).2 (hk _ (ci.mpr ⟨_,C,rfl⟩)) (hk _ (ci.mpr ⟨_,F,rfl⟩)) ?_ q;rw[vA pi pj];by_cases z:i<j
  ·have:=jY hr ki kj z;unfold oK at this;simp only[bA1,beq_iff_eq]at this;rw[decide_eq_true z];exact this.1
  ·have:=jY hr kj ki (by lia);unfold oK at this;simp only[bA1,beq_iff_eq]at this;rw[decide_eq_false z];exact this.2
 ·have O:Inv X pins σ H {s with heap:=c}:=I.kept (t':=s.toks) keep;have N:∀ y∈Y,∃ a xs,y.2.2 = .ref a/\IsTup c a xs/\(if f=true then ∃ k t ps,xs=(Value.int k t::ps).toArray else ∃ b ps qs,xs=(Value.ref b::ps).toArray/\IsTup c b qs):=fun y m=>by
   have h1:=hk y.1 (ci.mpr ⟨_,m,rfl⟩);obtain⟨B,M⟩:=ok y m;obtain⟨d,v,u⟩:=y;dsimp only at *
   unfold iX at h1;split at h1
   ·cases h1;cases B with
    |tup q t=>
    obtain⟨is,W,i1,_⟩:=O.tuple q;cases t with
    |cons a1 t=>
    cases a1;cases W with
    |cons w1 W=>
    obtain⟨tk,rfl⟩:=w1;cases M;exact⟨_,_,rfl,i1,by rw[if_pos rfl];exact⟨_,_,_,rfl⟩⟩
   ·cases h1;cases B with
    |tup q t=>
    obtain⟨is,W,i1,_⟩:=O.tuple q;cases t with
    |cons a1 t=>
    cases a1 with
    |tup q2 t2=>
    obtain⟨is2,v2,i2,_⟩:=O.tuple q2;cases W with
    |cons w1 W=>
    cases w1;cases M;exact⟨_,_,rfl,i1,by rw[if_neg aK];exact⟨_,_,_,rfl,i2⟩⟩
   ·cases h1
  cases f with
  |true=>
   refine E2 U (fun v hv=>?_) q;obtain⟨y,m,rfl⟩:=ci.mp hv;obtain⟨a,xs,K,G,p⟩:=N y m;rw[if_pos rfl]at p;obtain⟨k,t,ps,rfl⟩:=p;exact⟨a,k,t,ps,K,G⟩
  |false=>
   refine E1 U (fun v hv=>?_) q;obtain⟨y,m,rfl⟩:=ci.mp hv;obtain⟨a,xs,K,G,p⟩:=N y m;rw[if_neg aK]at p;obtain⟨b,ps,qs,rfl,e4⟩:=p;exact⟨a,_,ps,b,qs,K,G,rfl,e4⟩
end
section
variable{prog:dF}{w:dH}{A:dG}{E:dB->dD->Prop}{s:dD}
end
def ng(l:List D):Option Bool:=match l with
 |[]=>some true
 |d::l=>match iX d with
  |some f=>if(l.all fun e=>iX e == some f)=true then some f else none
  |none=>none
theorem uz:∀{l:List D} {f:Bool},ng l=some f -> ∀d∈l,iX d=some f
 |[],_,_,d,h=>by cases h
 |x :: l,f,h,d,hd=>by
  rw[ng]at h;cases hx:iX x with
  |none=>rw[hx]at h;cases h
  |some g=>
   rw[hx]at h;dsimp only at h;split at h
   ·rename_i a;cases h;rcases aF.mp hd with rfl|z
    ·exact hx
    ·have:=bD.mp a d z
     rwa [beq_iff_eq]at this
   ·cases h
mutual
theorem pl_tk:∀k:TK,pl (tkD k)=true
 | .non=>rfl
 | .int _=>rfl
 | .tup xs=>by rw[tkD,pl];exact yR xs
theorem yR:∀ks:List TK,me (hD ks)=true
 |[]=>rfl
 |k::ks=>by rw[hD,me,pl_tk k,yR ks];rfl
end
section
variable{X:Cx}
end
def FK:Bool->Keyed->Array Keyed->Nat->Nat->Nat->StateT SortSt Sem (Option Nat):=sortPriv%PySem.Builtin.gallop
abbrev rk(ws:List dB)(p:Keyed):Nat:=rkV ws p.1
section
variable{prog:dF}{w:dH}{A:dG}{E:dB->dD->Prop}{s:dD}{κ:SortKind}{ws:List dB}{a₀:Array Keyed}
theorem ll.lt2(C:ll prog w A s κ ws a₀){st:SortSt}{p q:Keyed}{Q:Option Bool->SortSt->Prop}(hk:kindOf st=κ)(hp:p∈a₀)(b:q∈a₀)(a:rk ws p≠rk ws q)(h:Q (some (decide (rk ws p<rk ws q))) st):wpS (model prog w) A E s (lt' p q) Q st:=by
 have at_:∀{p:Keyed},p∈a₀->ws[rk ws p]?=some p.1:=fun{p} hp=>yD (C.keys.mem_iff.mp (ci.mpr ⟨_,cj.mpr hp,rfl⟩));rw[lt'_eq];refine wpS_bind (wpS_get ?_);rw[hk];exact wpS_bind (wpS_lift (wpAny_attempt (C.lt p.1 q.1 _ _ (at_ hp) (at_ b) a _ _ ⟨rfl,wpS_pure h⟩)))
def bey(l:Bool)(key:Keyed)(arr:Array Keyed)(b i:Nat):StateT SortSt Sem (Option Bool):=elem' arr (b+i) >>= fun x=>if l=true then lt' x key else lt' key x >>= fun r=>pure (r.map fun z=> !z)
theorem Ho(C:ll prog w A s κ ws a₀){st:SortSt}{l:Bool}{key p:Keyed}{arr:Array Keyed}{b i:Nat}{Q:Option Bool->SortSt->Prop}(hk:kindOf st=κ)(a:key∈a₀)(hp:arr[b+i]?=some p)(hm:p∈a₀)(c:rk ws p≠rk ws key)(q:Q (some (decide (rk ws p<rk ws key))) st):wpS (model prog w) A E s (bey l key arr b i) Q st:=by
 unfold bey;rw[elem'_eq,hp];refine wpS_bind (wpS_pure ?_);cases l with
 |true=>exact C.lt2 hk hm a c q
 |false=>
  refine wpS_bind (C.lt2 hk a hm (Ne.symm c) (wpS_pure ?_));have e:(!decide (rk ws key<rk ws p))=decide (rk ws p<rk ws key):=by rw[bS];simp;lia
  show Q (some (!decide (rk ws key<rk ws p))) st;rw[e];exact q
theorem vN(C:ll prog w A s κ ws a₀){st:SortSt}{l:Bool}{key:Keyed}{arr:Array Keyed}{b n h:Nat}{R:Nat->Nat}{Q:Option Nat->SortSt->Prop}(hk:kindOf st=κ)(M:key∈a₀)(O:h<n)(D:∀i,i<n -> ∃p,arr[b+i]?=some p/\p∈a₀/\rk ws p=R i/\R i≠rk ws key)(a:∀i j,i<j->j<n->R i<R j)(q:∀k,k<=n->(∀i,i<k->R i<rk ws key)->(∀i,k<=i->i<n->rk ws key<R i)->Q (some k) st):wpS (model prog w) A E s (FK l key arr b n h) Q st:=by
 have N:∀i,i<n -> ∀{Q:Option Bool->SortSt->Prop},Q (some (decide (R i<rk ws key))) st->wpS (model prog w) A E s (bey l key arr b i) Q st:=fun i hi Q K=>by
  obtain⟨p,h1,h2,H,y⟩:=D i hi;rw[<- H]at K y;exact Ho C hk M h1 h2 y K
 have ne:∀i,i<n->R i≠rk ws key:=fun i hi=>by obtain⟨p,_,_,_,h⟩:=D i hi;exact h
 have I:∀ lo hi,lo<=hi->hi<=n->(∀ i,i<lo->R i<rk ws key)->(∀ i,hi<=i->i<n->rk ws key<R i) -> ∀ {f:Nat->Option (Option Nat)×Nat×Nat->StateT SortSt Sem (ForInStep (Option (Option Nat)×Nat×Nat))} {P:Option (Option Nat)×Nat×Nat->SortSt->Prop},
   (∀x c,f x c=(if c.2.1>=c.2.2 then pure (ForInStep.done (none,c.2.1,c.2.2))else bey l key arr b (c.2.1+(c.2.2-c.2.1)/2) >>= fun r=>match r with
    |some m=>if m=true then pure (ForInStep.yield (none,c.2.1+(c.2.2-c.2.1)/2+1,c.2.2))else pure (ForInStep.yield (none,c.2.1,c.2.1+(c.2.2-c.2.1)/2))
    |_=>pure (ForInStep.done (some none,c.2.1,c.2.2))))->(∀k c,k<=n->(∀i,i<k->R i<rk ws key)->(∀i,k<=i->i<n->rk ws key<R i)->c.1=none->c.2.2=k->P c st)->wpS (model prog w) A E s (forIn [0:n] (none,lo,hi) f) P st:=fun lo hi h1 h2 H y f P X K=>by
  refine wpS_forRange (fun x c st'=>st'=st /\ ∃lo hi,c=(none,lo,hi)/\lo<=hi/\hi<=n/\hi-lo<=n-x/\(∀i,i<lo->R i<rk ws key) /\ ∀i,hi<=i->i<n->rk ws key<R i) ?_ ?_ ⟨rfl,lo,hi,rfl,h1,h2,by lia,H,y⟩
  ·rintro x c st' _ T ⟨rfl,lo,hi,rfl,L,g,o,d,B⟩;rw[X];dsimp only;by_cases z:lo>=hi
   ·rw[if_pos z];have e:lo=hi:=by lia
    subst e;exact wpS_pure (K lo _ g d B rfl rfl)
   ·rw[if_neg z];have hm:lo+(hi-lo)/2<hi:=by lia
    generalize V:lo+(hi-lo)/2=m at *
    refine wpS_bind (N m (by lia) ?_);by_cases t:R m<rk ws key
    ·simp only[t,decide_true,if_true];refine wpS_pure ⟨rfl,m+1,hi,rfl,by lia,g,by lia,fun i Y=>?_,B⟩;by_cases v:i=m
     ·rw[v];exact t
     ·exact bh (a i m (by lia) (by lia)) t
    ·simp only[t,decide_false,bF1,if_false];have F:rk ws key<R m:=by have:=ne m (by lia);lia
     refine wpS_pure ⟨rfl,lo,m,rfl,by lia,by lia,by lia,d,fun i u G=>?_⟩;by_cases v:i=m
     ·rw[v];exact F
     ·exact bh F (a m i (by lia) G)
  ·rintro c st' ⟨rfl,lo,hi,rfl,L,g,o,d,B⟩;have e:lo=hi:=by lia
   subst e;exact K lo _ g d B rfl rfl
 unfold FK;refine wpS_bind (N h O ?_);by_cases z:R h<rk ws key
 ·simp only[z,decide_true,if_true];refine wpS_bind (wpS_mono (wpS_forRange (fun x c st'=>st'=st /\ ∃lo of,c=(none,lo,of)/\x+1<=of/\lo<of/\h+lo<n/\R (h+lo)<rk ws key) (Q:=fun c st'=>st'=st /\ ∃lo of,c=(none,lo,of)/\lo<of/\h+lo<n/\R (h+lo)<rk ws key /\ ∀i,h+min of (n-h)<=i->i<n->rk ws key<R i) ?_ ?_ ⟨rfl,0,1,rfl,by lia,by lia,O,z⟩) ?_)
  ·rintro x c st' _ T ⟨rfl,lo,of,rfl,L,g,o,d⟩;dsimp only;by_cases J:of>=n-h
   ·rw[if_pos J];exact wpS_pure ⟨rfl,lo,of,rfl,g,o,d,fun i u G=>by lia⟩
   ·rw[if_neg J];refine wpS_bind (N (h+of) (by lia) ?_);by_cases t:R (h+of)<rk ws key
    ·simp only[t,decide_true,b7,bF1,if_false];exact wpS_pure ⟨rfl,of,2*of+1,rfl,by lia,by lia,by lia,t⟩
    ·simp only[t,decide_false,cp,if_true];have F:rk ws key<R (h+of):=by have:=ne (h+of) (by lia);lia
     refine wpS_pure ⟨rfl,lo,of,rfl,g,o,d,fun i u G=>?_⟩;by_cases v:i=h+of
     ·rw[v];exact F
     ·exact bh F (a (h+of) i (by lia) G)
  ·rintro c st' ⟨rfl,lo,of,rfl,L,g,o,d⟩;exact⟨rfl,lo,of,rfl,g,o,d,fun i u G=>by lia⟩
  ·rintro c st' ⟨rfl,lo,of,rfl,g,o,d,B⟩;dsimp only;refine wpS_bind (I (h+lo+1) (h+min of (n-h)) (by lia) (by lia) (fun i hi=>?_) B (fun x c=>rfl) fun k c h1 h2 H y u=>?_)
   ·by_cases v:i=h+lo
    ·rw[v];exact d
    ·exact bh (a i (h+lo) (by lia) o) d
   ·obtain⟨U,W,S⟩:=c;dsimp only at y u;subst y;subst u;exact wpS_pure (q S h1 h2 H)
 ·simp only[z,decide_false,bF1,if_false];have Z:rk ws key<R h:=by have:=ne h O;lia
  refine wpS_bind (wpS_mono (wpS_forRange (fun x c st'=>st'=st /\ ∃lo of,c=(none,lo,of)/\x+1<=of/\lo<of/\lo<=h/\rk ws key<R (h-lo)) (Q:=fun c st'=>st'=st /\ ∃lo of,c=(none,lo,of)/\lo<of/\lo<=h/\rk ws key<R (h-lo) /\ ∀i,i<h+1-min of (h+1)->R i<rk ws key) ?_ ?_ ⟨rfl,0,1,rfl,by lia,by lia,by lia,Z⟩) ?_)
  ·rintro x c st' _ T ⟨rfl,lo,of,rfl,L,g,o,d⟩;dsimp only;by_cases J:of>=h+1
   ·rw[if_pos J];exact wpS_pure ⟨rfl,lo,of,rfl,g,o,d,fun i u=>by lia⟩
   ·rw[if_neg J];refine wpS_bind (N (h-of) (by lia) ?_);by_cases t:R (h-of)<rk ws key
    ·simp only[t,decide_true,if_true];refine wpS_pure ⟨rfl,lo,of,rfl,g,o,d,fun i u=>?_⟩;by_cases v:i=h-of
     ·rw[v];exact t
     ·exact bh (a i (h-of) (by lia) (by lia)) t
    ·simp only[t,decide_false,bF1,if_false];have F:rk ws key<R (h-of):=by have:=ne (h-of) (by lia);lia
     exact wpS_pure ⟨rfl,of,2*of+1,rfl,by lia,by lia,by lia,F⟩
  ·rintro c st' ⟨rfl,lo,of,rfl,L,g,o,d⟩;exact⟨rfl,lo,of,rfl,g,o,d,fun i u=>by lia⟩
  ·rintro c st' ⟨rfl,lo,of,rfl,g,o,d,B⟩;dsimp only;refine wpS_bind (I (h+1-min of (h+1)) (h-lo) (by lia) (by lia) B (fun i u G=>?_) (fun x c=>rfl) fun k c h1 h2 H y u=>?_)
   ·by_cases v:i=h-lo
    ·rw[v];exact d
    ·exact bh d (a (h-lo) i (by lia) G)
   ·obtain⟨U,W,S⟩:=c;dsimp only at y u;subst y;subst u;exact wpS_pure (q S h1 h2 H)
end
def Iq:Nat->StateT SortSt Sem Unit:=sortPriv%PySem.Builtin.setMinGallop
def Jj:Array Keyed->Array Keyed->StateT SortSt Sem (Array Keyed):=sortPriv%PySem.Builtin.mergeLo
def Jk:Array Keyed->Array Keyed->StateT SortSt Sem (Array Keyed):=sortPriv%PySem.Builtin.mergeHi
structure Sm (st st':SortSt):Prop where
 k:kindOf st'=kindOf st
 a:arrOf st'=arrOf st
 p:pendingOf st'=pendingOf st
 f:failedOf st'=failedOf st
theorem Sm.rfl{st:SortSt}:Sm st st:=⟨_root_.rfl,_root_.rfl,_root_.rfl,_root_.rfl⟩
theorem Sm.g{st st':SortSt}(h:Sm st st')(g:Nat):Sm st (SortSt.mk' (kindOf st') (arrOf st') (pendingOf st') g (failedOf st')):=⟨h.k,h.a,h.p,h.f⟩
def Srt(ws:List dB)(xs:List Keyed):Prop:=xs.Pairwise fun p q=>rk ws p<rk ws q
def lW(ws:List dB)(xs ys:List Keyed):Prop:=∀x∈xs,∀y∈ys,rk ws x<rk ws y
section
variable{ws:List dB}{a b out xs ys zs:List Keyed}{i j k:Nat}
theorem Srt.app(h1:Srt ws xs)(h2:Srt ws ys)(h:lW ws xs ys):Srt ws (xs++ys):=cC.mpr ⟨h1,h2,h⟩
theorem lW.app(h1:lW ws xs zs)(h2:lW ws ys zs):lW ws (xs++ys) zs:=fun x b y a=>(aG.mp b).elim (fun h=>h1 x h y a) fun h=>h2 x h y a
theorem lW.of(h:lW ws xs ys){a ys':List Keyed}(h1:∀x∈a,x∈xs)(h2:∀y∈ys',y∈ys):lW ws a ys':=fun x c y b=>h x (h1 x c) y (h2 y b)
theorem Srt.split(h:Srt ws a)(i:Nat):lW ws (a.take i) (a.drop i):=by
 have:=h;unfold Srt at this;rw[<- cK i a]at this;exact(cC.mp this).2.2
structure J0 (ws:List dB)(a b out:List Keyed)(i j:Nat):Prop where
 la:i<=a.length
 lb:j<=b.length
 len:out.length=i+j
 pm:(out++(a.drop i++b.drop j)).Perm (a++b)
 so:Srt ws out
 ba:lW ws out (a.drop i)
 bb:lW ws out (b.drop j)
theorem J0.mvA(h:J0 ws a b out i j)(f:Srt ws a)(hk:i+k<=a.length)(hb:lW ws ((a.drop i).take k) (b.drop j)):J0 ws a b (out++(a.drop i).take k) (i+k) j:=by
 have e:a.drop i=(a.drop i).take k++a.drop (i+k):=by rw[<- bF,cK]
 have c:Srt ws (a.drop i):=f.sublist (cE _ _);refine⟨hk,h.lb,?_,?_,h.so.app (c.sublist (aT _ _)) (h.ba.of (fun _ h=>h) fun _ h=>cO h),?_,h.bb.app hb⟩
 ·rw[lA1,h.len,aQ,aV];lia
 ·have:=h.pm;rw[e,bI]at this;rw[bI];exact this
 ·refine lW.app (h.ba.of (fun _ h=>h) fun y d=>?_) ?_
  ·rw[e];exact mA1 _ d
  ·have:=c.split k
   rwa [bF]at this
theorem J0.swap(h:J0 ws a b out i j):J0 ws b a out j i:=⟨h.lb,h.la,by rw[h.len,Nat.add_comm],(List.Perm.append_left _ cT).trans (h.pm.trans cT),h.so,h.bb,h.ba⟩
theorem J0.mvB(h:J0 ws a b out i j)(c:Srt ws b)(hk:j+k<=b.length)(hb:lW ws ((b.drop j).take k) (a.drop i)):J0 ws a b (out++(b.drop j).take k) i (j+k):=(h.swap.mvA c hk hb).swap
theorem uZ{x:Keyed}(h:a[i]?=some x):(a.drop i).take 1=[x]:=by
 have b:=(gE1.mp h).1;rw[bW b,cU,cV,(gE1.mp h).2]
def Mgd(ws:List dB)(a b r:List Keyed):Prop:=r.Perm (a++b)/\Srt ws r
theorem J0.dn(h:J0 ws a b out i j)(c:Srt ws a)(d:j=b.length):Mgd ws a b (out++a.drop i++b.drop j):=by
 have e:b.drop j=[]:=by rw[d,List.drop_length]
 refine⟨by rw[bI];exact h.pm,?_⟩;rw[e,aM];exact h.so.app (c.sublist (cE _ _)) h.ba
theorem J0.ls(h:J0 ws a b out i j)(d:Srt ws a)(c:Srt ws b)(hb:lW ws (b.drop j) (a.drop i)):Mgd ws a b (out++b.drop j++a.drop i):=by
 refine⟨by rw[bI];exact(List.Perm.append_left _ cT).trans h.pm,?_⟩;exact(h.so.app (c.sublist (cE _ _)) h.bb).app (d.sublist (cE _ _)) (h.ba.app hb)
theorem Srt.drop_gt(h:Srt ws a){x:Keyed}(hx:a[i]?=some x):∀y∈a.drop i,rk ws x<=rk ws y:=fun y b=>by
 have c:=(gE1.mp hx).1;rw[bW c,(gE1.mp hx).2]at b;have d:Srt ws (a.drop i):=h.sublist (cE _ _);rw[bW c,(gE1.mp hx).2]at d;rcases aF.mp b with rfl|b
 ·exact nR1 _
 ·exact aD ((cf.mp d).1 y b)
end
section
variable{prog:dF}{w:dH}{A:dG}{E:dB->dD->Prop}{s:dD}{κ:SortKind}{ws:List dB}{a₀:Array Keyed}
theorem pQ{st:SortSt}{g:Nat}{Q:Unit->SortSt->Prop}(h:Q () (SortSt.mk' (kindOf st) (arrOf st) (pendingOf st) g (failedOf st))):wpS (model prog w) A E s (Iq g) Q st:=wpS_modify h
theorem fe{st:SortSt}{arr:Array Keyed}{i:Nat}{p:Keyed}{Q:Keyed->SortSt->Prop}(h:arr[i]?=some p)(q:Q p st):wpS (model prog w) A E s (elem' arr i) Q st:=by
 rw[elem'_eq,h];exact wpS_pure q
structure MC (ws:List dB)(a₀ a b:Array Keyed):Prop where
 ma:∀p∈a,p∈a₀
 mb:∀p∈b,p∈a₀
 sa:Srt ws a.toList
 sb:Srt ws b.toList
 ne:∀p∈a,∀q∈b,rk ws p≠rk ws q
 pa:0<a.size
 pb:0<b.size
 last:∀x,a[a.size-1]?=some x -> ∀q∈b,rk ws q<rk ws x
 head:∀x,b[0]?=some x -> ∀q∈a,rk ws x<rk ws q
theorem MC.galA(C:ll prog w A s κ ws a₀){a b:Array Keyed}(M:MC ws a₀ a b){st:SortSt}{l:Bool}{ia ib:Nat}{y:Keyed}{Q:Option Nat->SortSt->Prop}(hk:kindOf st=κ)(hy:b[ib]? = some y)(m:ia<a.size)(q:∀k,ia+k<=a.size->(∀x∈(a.toList.drop ia).take k,rk ws x<rk ws y)->(∀x∈a.toList.drop (ia+k),rk ws y<rk ws x)->Q (some k) st):wpS (model prog w) A E s (FK l y a ia (a.size-ia) 0) Q st:=by
 have d:y∈b:=ck hy;refine vN (R:=fun i=>(a[ia+i]?.map (rk ws)).getD 0) C hk (M.mb y d) (by lia) (fun i hi=>?_) (fun i j h o=>?_) fun k h1 h2 n=>q k (by lia) (fun x g=>?_) fun x g=>?_
 ·have c:ia+i<a.size:=by lia
  refine⟨a[ia+i],aG1 c,M.ma _ (cW c),by rw[aG1 c];rfl,?_⟩;rw[aG1 c];exact M.ne _ (cW c) _ d
 ·have c:ia+i<a.size:=by lia
  have e:ia+j<a.size:=by lia
  rw[aG1 c,aG1 e];have:=cw.mp M.sa (ia+i) (ia+j) (by simpa using c) (by simpa using e) (by lia);simpa using this
 ·obtain⟨i,hi⟩:=br g;have f:i<k:=by have:=(gE1.mp hi).1;rw[aQ]at this;lia
  rw[aS f,cD,aT1]at hi;have:=h2 i f;rw[hi]at this;exact this
 ·obtain⟨i,hi⟩:=br g;rw[cD,aT1]at hi;have c:=(Array.getElem?_eq_some_iff.mp hi).1;have:=n (k+i) (by lia) (by lia);rw[<- bm,hi]at this;exact this
theorem MC.galB(C:ll prog w A s κ ws a₀){a b:Array Keyed}(M:MC ws a₀ a b){st:SortSt}{l:Bool}{ia ib:Nat}{y:Keyed}{Q:Option Nat->SortSt->Prop}(hk:kindOf st=κ)(hy:a[ia]? = some y)(n:ib<b.size)(q:∀k,ib+k<=b.size->(∀x∈(b.toList.drop ib).take k,rk ws x<rk ws y)->(∀x∈b.toList.drop (ib+k),rk ws y<rk ws x)->Q (some k) st):wpS (model prog w) A E s (FK l y b ib (b.size-ib) 0) Q st:=by
 have d:y∈a:=ck hy;refine vN (R:=fun i=>(b[ib+i]?.map (rk ws)).getD 0) C hk (M.ma y d) (by lia) (fun i hi=>?_) (fun i j h o=>?_) fun k h1 h2 m=>q k (by lia) (fun x g=>?_) fun x g=>?_
 ·have c:ib+i<b.size:=by lia
  refine⟨b[ib+i],aG1 c,M.mb _ (cW c),by rw[aG1 c];rfl,?_⟩;rw[aG1 c];exact(M.ne _ d _ (cW c)).symm
 ·have c:ib+i<b.size:=by lia
  have e:ib+j<b.size:=by lia
  rw[aG1 c,aG1 e];have:=cw.mp M.sb (ib+i) (ib+j) (by simpa using c) (by simpa using e) (by lia);simpa using this
 ·obtain⟨i,hi⟩:=br g;have f:i<k:=by have:=(gE1.mp hi).1;rw[aQ]at this;lia
  rw[aS f,cD,aT1]at hi;have:=h2 i f;rw[hi]at this;exact this
 ·obtain⟨i,hi⟩:=br g;rw[cD,aT1]at hi;have c:=(Array.getElem?_eq_some_iff.mp hi).1;have:=m (k+i) (by lia) (by lia);rw[<- bm,hi]at this;exact this
end
theorem kB(a:Array Keyed)(i:Nat):(a.extract i a.size).toList=a.toList.drop i:=by
 rw[cB,cX,ca (by simp)]
theorem sH(a:Array Keyed)(i k:Nat):(a.extract i (i+k)).toList=(a.toList.drop i).take k:=by
 rw[cB,cX,bu]
section
variable{prog:dF}{w:dH}{A:dG}{E:dB->dD->Prop}{s:dD}{κ:SortKind}{ws:List dB}{a₀:Array Keyed}
theorem GL(C:ll prog w A s κ ws a₀){a b:Array Keyed}(M:MC ws a₀ a b){st:SortSt}{Q:Array Keyed->SortSt->Prop}(hk:kindOf st=κ)(q:∀r st',Sm st st'->Mgd ws a.toList b.toList r.toList->Q r st'):wpS (model prog w) A E s (Jj a b) Q st:=by
 have dn:∀{out:Array Keyed} {ia ib:Nat},J0 ws a.toList b.toList out.toList ia ib->ib=b.size->Mgd ws a.toList b.toList (out++a.extract ia a.size++b.extract ib b.size).toList:=fun{out ia ib} h e=>by
  rw[cy,cy,kB,kB];exact h.dn M.sa (by rw[e];simp)
 have lastX:∀{ia:Nat},ia+1=a.size -> ∀y∈a.toList.drop ia,∀q∈b,rk ws q<rk ws y:=fun{ia} e y H q hq=>by
  have hl:ia<a.toList.length:=by rw[aJ];lia
  rw[bW hl,List.drop_of_length_le (by rw[aJ];lia)]at H;have:y=a.toList[ia]:=by simpa using H
  exact M.last y (by rw[this,show a.size-1=ia by lia];simp) q hq
 have ls:∀{out:Array Keyed} {ia ib:Nat},J0 ws a.toList b.toList out.toList ia ib->ia+1=a.size->Mgd ws a.toList b.toList (out++b.extract ib b.size++a.extract ia a.size).toList:=fun{out ia ib} h e=>by
  rw[cy,cy,kB,kB];exact h.ls M.sa M.sb fun x p y H=>lastX e y H x (cj.mp (cP p))
 have N:∀{i:Nat},i<a.size -> ∃x,a[i]?=some x/\x∈a/\a.toList[i]?=some x:=fun{i} h=>⟨a[i],aG1 h,cW h,by rw[aT1,aG1 h]⟩;have S:∀{i:Nat},i<b.size -> ∃x,b[i]?=some x/\x∈b/\b.toList[i]?=some x:=fun{i} h=>⟨b[i],aG1 h,cW h,by rw[aT1,aG1 h]⟩;have F:∀{out:Array Keyed} {ia ib:Nat} {y:Keyed},J0 ws a.toList b.toList out.toList ia ib->b.toList[ib]?=some y->(∀x∈a.toList.drop ia,rk ws y<rk ws x)->J0 ws a.toList b.toList (out.push y).toList ia (ib+1):=fun{out ia ib y} h H hb=>by
  have:=h.mvB (k:=1) M.sb (by have:=(gE1.mp H).1;lia) (by rw[uZ H];intro x p z hz;rw[cY.mp p];exact hb z hz)
  rwa [uZ H,<- cA]at this
 have R:∀{out:Array Keyed} {ia ib:Nat} {y:Keyed},J0 ws a.toList b.toList out.toList ia ib->a.toList[ia]?=some y->(∀x∈b.toList.drop ib,rk ws y<rk ws x)->J0 ws a.toList b.toList (out.push y).toList (ia+1) ib:=fun{out ia ib y} h H hb=>by
  have:=h.mvA (k:=1) M.sa (by have:=(gE1.mp H).1;lia) (by rw[uZ H];intro x p z hz;rw[cY.mp p];exact hb z hz)
  rwa [uZ H,<- cA]at this
 obtain⟨b0,hb0,mb0,lb0⟩:=S M.pb;unfold Jj;refine wpS_bind (wpS_lift (wpAny_rule ⟨rfl,?_⟩));refine wpS_bind (fe hb0 ?_);have j0:J0 ws a.toList b.toList (#[]:Array Keyed).toList 0 0:=⟨bi _,bi _,rfl,.refl _,.nil,fun x p=>(by cases p),fun x p=>(by cases p)⟩;have j1:J0 ws a.toList b.toList (#[b0]:Array Keyed).toList 0 (0+1):=F j0 lb0 fun x p=>M.head b0 hb0 x (cj.mp (cP p));clear j0;by_cases z:1=b.size
 ·rw[if_pos (by simpa using z)];exact wpS_pure (q _ _ .rfl (dn j1 z))
 rw[if_neg (by simpa using z)];by_cases z2:0+1=a.size
 ·rw[if_pos (by simpa using z2)];exact wpS_pure (q _ _ .rfl (ls j1 z2))
 rw[if_neg (by simpa using z2)];have hpa:=M.pa;have hpb:=M.pb;refine wpS_bind (wpS_get ?_);refine wpS_bind (wpS_mono (wpS_forRange (fun x c st'=>Sm st st' /\ ∃out ia ib g,c=(none,out,ia,ib,g)/\J0 ws a.toList b.toList out.toList ia ib/\ia+1<a.size/\ib<b.size/\x+1<=out.toList.length)
  (Q:=fun c st'=>Sm st st' /\ ∃r,c.1=some r/\Mgd ws a.toList b.toList r.toList) ?_ ?_ ⟨.rfl,_,_,_,_,rfl,j1,by lia,by lia,nR1 _⟩) ?_)
 ·rintro x c st' _ p ⟨hs,out,ia,ib,g,rfl,t,l,j,hn⟩;dsimp only;refine wpS_bind (wpS_mono (wpS_forRange (fun y c n=>Sm st n /\ ∃ d ia ib L K,c=(none,d,ia,ib,L,K)/\J0 ws a.toList b.toList d.toList ia ib/\ia+1<a.size/\ib<b.size/\out.toList.length+y<=d.toList.length)
   (Q:=fun c n=>Sm st n/\((∃r,c.1=some r/\Mgd ws a.toList b.toList r.toList) \/ ∃d ia ib L K,c=(none,d,ia,ib,L,K)/\J0 ws a.toList b.toList d.toList ia ib/\ia+1<a.size/\ib<b.size/\out.toList.length+1<=d.toList.length)) ?_ ?_ ⟨hs,_,_,_,_,_,rfl,t,l,j,nR1 _⟩) ?_)
  ·rintro y c n _ H ⟨m,d,ia,ib,L,K,rfl,t,l,j,hn2⟩;dsimp only;obtain⟨u,hu,mu,lu⟩:=S j;obtain⟨v,X,mv,lv⟩:=N (show ia<a.size by lia);refine wpS_bind (fe hu (wpS_bind (fe X (wpS_bind (C.lt2 (m.k.trans hk) (M.mb u mu) (M.ma v mv) (M.ne v mv u mu).symm ?_)))));by_cases z3:rk ws u<rk ws v
   ·simp only[z3,decide_true,if_true];refine wpS_bind (fe hu ?_);have G:=F t lu fun x p=>nL1 z3 (M.sa.drop_gt lv x p);have hl:(d.push u).toList.length=d.toList.length+1:=by simp
    by_cases D:ib+1=b.size
    ·rw[if_pos (by simpa using D)];exact wpS_pure ⟨m,.inl ⟨_,rfl,dn G D⟩⟩
    ·rw[if_neg (by simpa using D)];split
     ·exact wpS_pure ⟨m,.inr ⟨_,_,_,_,_,rfl,G,l,by lia,by lia⟩⟩
     ·exact wpS_pure ⟨m,_,_,_,_,_,rfl,G,l,by lia,by lia⟩
   ·simp only[z3,decide_false,bF1,if_false];have z5:rk ws v<rk ws u:=by have:=M.ne v mv u mu;lia
    refine wpS_bind (fe X ?_);have G:=R t lv fun x p=>nL1 z5 (M.sb.drop_gt lu x p);have hl:(d.push v).toList.length=d.toList.length+1:=by simp
    by_cases D:ia+1+1=a.size
    ·rw[if_pos (by simpa using D)];exact wpS_pure ⟨m,.inl ⟨_,rfl,ls G D⟩⟩
    ·rw[if_neg (by simpa using D)];split
     ·exact wpS_pure ⟨m,.inr ⟨_,_,_,_,_,rfl,G,by lia,j,by lia⟩⟩
     ·exact wpS_pure ⟨m,_,_,_,_,_,rfl,G,by lia,j,by lia⟩
  ·rintro c n ⟨m,d,ia,ib,L,K,rfl,t,l,j,hn2⟩;exfalso;have:=t.len;lia
  ·rintro c n ⟨m,⟨r,W,hm⟩|⟨d,ia,ib,L,K,rfl,t,l,j,hn2⟩⟩
   ·obtain⟨c1,c2⟩:=c;dsimp only at W;subst W;exact wpS_pure ⟨m,r,rfl,hm⟩
   dsimp only;refine wpS_bind (wpS_lift (wpAny_rule ⟨rfl,?_⟩));refine wpS_bind (wpS_mono (wpS_forRange (fun y c n=>Sm st n /\ ∃f ia ib g L K,c=(none,f,ia,ib,g,L,K)/\J0 ws a.toList b.toList f.toList ia ib/\ia+1<a.size/\ib<b.size/\d.toList.length+y<=f.toList.length)
    (Q:=fun c n=>Sm st n/\((∃r,c.1=some r/\Mgd ws a.toList b.toList r.toList) \/ ∃f ia ib g L K,c=(none,f,ia,ib,g,L,K)/\J0 ws a.toList b.toList f.toList ia ib/\ia+1<a.size/\ib<b.size/\d.toList.length<=f.toList.length)) ?_ ?_ ⟨m,_,_,_,_,_,_,rfl,t,l,j,nR1 _⟩) ?_)
   ·rintro y c I _ H ⟨J,f,ia,ib,g,L,K,rfl,t,l,j,hn3⟩;dsimp only;obtain⟨u,hu,mu,lu⟩:=S j;refine(fun(Y:∀g':Nat,(?T:Nat->Prop) g')=>?go) ?mn
    case go=>
     by_cases hg:g>1
     ·rw[if_pos hg];generalize g-1=g';exact Y g'
     ·rw[if_neg hg];exact Y g
    intro g';refine wpS_bind (pQ (wpS_bind (fe hu (wpS_bind (M.galA (ia:=ia) C (J.k.trans hk) hu (by lia) fun k h1 h2 h3=>?_)))));have B:=J.g g';generalize SortSt.mk' (kindOf I) (arrOf I) (pendingOf I) g' (failedOf I)=st4 at *
    dsimp only;refine(fun(T:∀(o:Array Keyed) (i:Nat),J0 ws a.toList b.toList o.toList i ib->i+1<a.size->(∀x∈a.toList.drop i,rk ws u<rk ws x)->d.toList.length+y<=o.toList.length->(?T2:Array Keyed->Nat->Prop) o i)=>?go2) ?mn2
    case go2=>
     by_cases P:k>0
     ·rw [if_pos P];have G:=t.mvA (k:=k) M.sa (by rw [aJ];exact h1) fun x p z hz=>nL1 (h2 x p) (M.sb.drop_gt lu z hz);rw [<- sH,<- cy] at G;have hlt:ia+k≠a.size:=fun e=>by
       obtain⟨v,X,mv,lv⟩:=N (show a.size-1<a.size by lia);have h4:=M.last v X u mu;have h5:=h2 v (gM1 (i:=a.size-1-ia) (by rw[aS (by lia),cD,show ia+(a.size-1-ia)=a.size-1 by lia];exact lv));lia
      have Z:d.toList.length+y<=(f++a.extract ia (ia+k)).toList.length:=by rw[cy,lA1];lia
      by_cases D:ia+k+1=a.size
      ·rw[if_pos (by simpa using D)];exact wpS_pure ⟨B,.inl ⟨_,rfl,ls G D⟩⟩
      ·rw[if_neg (by simpa using D),if_neg (by simpa using hlt)];have h6:ia+k+1<a.size:=by lia
       generalize f++a.extract ia (ia+k)=o at G Z ⊢;have h8:=h3;generalize ia+k=i at G h6 h8 ⊢;exact T o i G h6 h8 Z
     ·rw[if_neg P];have e:k=0:=by lia
      subst e;exact T f ia t l h3 hn3
    intro o i G hi hgt hlo;refine wpS_bind (fe hu ?_);have j2:=F G lu hgt;have Z:(o.push u).toList.length=o.toList.length+1:=by simp
    by_cases D:ib+1=b.size
    ·rw[if_pos (by simpa using D)];exact wpS_pure ⟨B,.inl ⟨_,rfl,dn j2 D⟩⟩
    rw[if_neg (by simpa using D)];obtain⟨v,X,mv,lv⟩:=N (show i<a.size by lia);refine wpS_bind (fe X (wpS_bind (M.galB (ib:=ib+1) C (B.k.trans hk) X (by lia) fun U e1 e2 e3=>?_)));dsimp only;generalize o.push u=o1 at *
    generalize ib+1=j1' at *
    refine(fun(O:∀(V:Array Keyed) (jb:Nat),J0 ws a.toList b.toList V.toList i jb->jb<b.size->(∀x∈b.toList.drop jb,rk ws v<rk ws x)->o1.toList.length<=V.toList.length->(?T3:Array Keyed->Nat->Prop) V jb)=>?go3) ?mn3
    case go3=>
     by_cases P:U>0
     ·rw[if_pos P];have j3:=j2.mvB (k:=U) M.sb (by rw[aJ];exact e1) fun x p z hz=>nL1 (e2 x p) (M.sa.drop_gt lv z hz);rw[<- sH,<- cy]at j3;have hl3:o1.toList.length<=(o1++b.extract j1' (j1'+U)).toList.length:=by rw[cy,lA1];lia
      by_cases z5:j1'+U=b.size
      ·rw[if_pos (by simpa using z5)];exact wpS_pure ⟨B,.inl ⟨_,rfl,dn j3 z5⟩⟩
      ·rw[if_neg (by simpa using z5)];have h7:j1'+U<b.size:=by lia
       generalize o1++b.extract j1' (j1'+U)=V at j3 hl3 ⊢;have h8:=e3;generalize j1'+U=jb at j3 h7 h8 ⊢;exact O V jb j3 h7 h8 hl3
     ·rw[if_neg P];have e:U=0:=by lia
      subst e;exact O o1 j1' j2 (by have:=j2.lb;rw[aJ]at this;lia) e3 (nR1 _)
    intro V jb j3 hjb hgt3 hl3;refine wpS_bind (fe X ?_);have j4:=R j3 lv hgt3;have hl4:(V.push v).toList.length=V.toList.length+1:=by simp
    by_cases z6:i+1+1=a.size
    ·rw[if_pos (by simpa using z6)];exact wpS_pure ⟨B,.inl ⟨_,rfl,ls j4 z6⟩⟩
    rw[if_neg (by simpa using z6)];split
    ·exact wpS_pure ⟨B,.inr ⟨_,_,_,_,_,_,rfl,j4,by lia,hjb,by lia⟩⟩
    ·exact wpS_pure ⟨B,_,_,_,_,_,_,rfl,j4,by lia,hjb,by lia⟩
   ·rintro c I ⟨J,f,ia,ib,g,L,K,rfl,t,l,j,hn3⟩;exfalso;have:=t.len;lia
   ·rintro c I ⟨J,⟨r,W,hm⟩|⟨f,ia,ib,g,L,K,rfl,t,l,j,hn3⟩⟩
    ·obtain⟨c1,c2⟩:=c;dsimp only at W;subst W;exact wpS_pure ⟨J,r,rfl,hm⟩
    dsimp only;refine wpS_bind (pQ (wpS_pure ⟨J.g _,_,_,_,_,rfl,t,l,j,by lia⟩))
 ·rintro c st' ⟨hs,out,ia,ib,g,rfl,t,l,j,hn⟩;exfalso;have:=t.len;lia
 ·rintro c st' ⟨hs,r,W,hm⟩;obtain⟨c1,c2⟩:=c;dsimp only at W;subst W;exact wpS_pure (q r _ hs hm)
end
section
variable{ws:List dB}{a b out xs ys zs:List Keyed}{i j k t:Nat}
theorem lW.to(h1:lW ws xs ys)(h2:lW ws xs zs):lW ws xs (ys++zs):=fun x a y b=>(aG.mp b).elim (fun h=>h1 x a y h) fun h=>h2 x a y h
structure K0 (ws:List dB)(a b out:List Keyed)(i j:Nat):Prop where
 la:i<=a.length
 lb:j<=b.length
 len:out.length+(i+j)=a.length+b.length
 pm:(a.take i++b.take j++out.reverse).Perm (a++b)
 so:Srt ws out.reverse
 ba:lW ws (a.take i) out
 bb:lW ws (b.take j) out
theorem K0.swap(h:K0 ws a b out i j):K0 ws b a out j i:=⟨h.lb,h.la,by have:=h.len;lia,((cT).append_right _).trans (h.pm.trans cT),h.so,h.bb,h.ba⟩
theorem K0.mvA(h:K0 ws a b out i j)(k:Srt ws a)(hk:t<=i)(hb:lW ws (b.take j) ((a.take i).drop t)):K0 ws a b (out++((a.take i).drop t).reverse) t j:=by
 have e:a.take i=a.take t++(a.take i).drop t:=by
  have:=(cK t (a.take i)).symm
  rwa [List.take_take,bC hk]at this
 have g:Srt ws (a.take i):=k.sublist (aT _ _);have l:=h.la;have len:=h.len;have sp:=g.split t;rw[List.take_take,bC hk]at sp;refine⟨by lia,h.lb,?_,?_,?_,?_,?_⟩
 ·rw[lA1,cc,aV,aQ];lia
 ·rw[List.reverse_append,List.reverse_reverse];refine List.Perm.trans ?_ h.pm;generalize (a.take i).drop t=c at e;rw[e,bI,bI,bI];refine List.Perm.append_left _ ?_;rw[<- bI,<- bI];exact List.perm_append_comm.append_right _
 ·rw[List.reverse_append,List.reverse_reverse];exact Srt.app (g.sublist (cE _ _)) h.so fun x d y f=>h.ba x (cP d) y (cZ.mp f)
 ·exact(h.ba.of (fun x d=>by rw[e];exact aH _ d) fun _ h=>h).to fun x d y f=>sp x d y (cZ.mp f)
 ·exact h.bb.to fun x d y f=>hb x d y (cZ.mp f)
theorem K0.mvB(h:K0 ws a b out i j)(c:Srt ws b)(hk:t<=j)(hb:lW ws (a.take i) ((b.take j).drop t)):K0 ws a b (out++((b.take j).drop t).reverse) i t:=(h.swap.mvA c hk hb).swap
theorem C9{x:Keyed}(h:a[i]?=some x):(a.take (i+1)).drop i=[x]:=by
 have b:=(gE1.mp h).1;rw[cH,h,List.drop_append_of_le_length (by rw[aQ];lia),List.drop_of_length_le (by rw[aQ];lia)];rfl
theorem K0.dn(h:K0 ws a b out i j)(d:Srt ws b)(hi:i=0):Mgd ws a b (a.take i++b.take j++out.reverse):=by
 refine⟨h.pm,?_⟩;rw[hi,cV,c4];exact Srt.app (d.sublist (aT _ _)) h.so fun x e y c=>h.bb x e y (cZ.mp c)
theorem K0.fs(h:K0 ws a b out i j)(e:Srt ws a)(f:Srt ws b)(hb:lW ws (b.take j) (a.take i)):Mgd ws a b (b.take j++a.take i++out.reverse):=by
 refine⟨(List.perm_append_comm.append_right _).trans h.pm,?_⟩;exact(Srt.app (f.sublist (aT _ _)) (e.sublist (aT _ _)) hb).app h.so (lW.app (fun x d y c=>h.bb x d y (cZ.mp c)) fun x d y c=>h.ba x d y (cZ.mp c))
theorem Srt.take_lt(h:Srt ws a){x:Keyed}(hx:a[i]?=some x):∀y∈a.take (i+1),rk ws y<=rk ws x:=fun y b=>by
 rw[cH,hx]at b;rcases aG.mp b with b|b
 ·have c:=(gE1.mp hx).1;exact aD (h.split i y b x (by rw[bW c,(gE1.mp hx).2];exact mS1))
 ·have:y=x:=by simpa using b
  rw[this];exact nR1 _
end
theorem vR(a:Array Keyed)(i:Nat):(a.extract 0 i).toList=a.toList.take i:=by
 rw[cB,cX,bZ,Nat.sub_zero]
theorem C7{a:Array Keyed}{i t:Nat}(h:t<=i):(a.extract t i).reverse.toList=((a.toList.take i).drop t).reverse:=by
 rw[c5,cB,cX,List.drop_take]
section
variable{prog:dF}{w:dH}{A:dG}{E:dB->dD->Prop}{s:dD}{κ:SortKind}{ws:List dB}{a₀:Array Keyed}
theorem G6(C:ll prog w A s κ ws a₀){a:Array Keyed}{st:SortSt}{l:Bool}{n:Nat}{y:Keyed}{Q:Option Nat->SortSt->Prop}(hk:kindOf st=κ)(o:∀ p∈a,p∈a₀)(m:Srt ws a.toList)(hy:y∈a₀)(e:∀ p∈a,rk ws p≠rk ws y)(hn:0<n)(g:n<=a.size)(q:∀k,k<=n->(∀x∈a.toList.take k,rk ws x<rk ws y)->(∀x∈(a.toList.take n).drop k,rk ws y<rk ws x)->Q (some k) st):wpS (model prog w) A E s (FK l y a 0 n (n-1)) Q st:=by
 refine vN (R:=fun i=>(a[0+i]?.map (rk ws)).getD 0) C hk hy (by lia) (fun i hi=>?_) (fun i j h t=>?_) fun k h1 h2 r=>q k h1 (fun x f=>?_) fun x f=>?_
 ·have b:0+i<a.size:=by lia
  refine⟨a[0+i],aG1 b,o _ (cW b),by rw[aG1 b];rfl,?_⟩;rw[aG1 b];exact e _ (cW b)
 ·have b:0+i<a.size:=by lia
  have c:0+j<a.size:=by lia
  rw[aG1 b,aG1 c];have:=cw.mp m (0+i) (0+j) (by simpa using b) (by simpa using c) (by lia);simpa using this
 ·obtain⟨i,hi⟩:=br f;have d:i<k:=by have:=(gE1.mp hi).1;rw[aQ]at this;lia
  rw[aS d,aT1]at hi;have:=h2 i d;rw[bP,hi]at this;exact this
 ·obtain⟨i,hi⟩:=br f;have b:=(gE1.mp hi).1;rw[aV,aQ,aJ]at b;rw[cD,aS (by lia),aT1]at hi;have:=r (k+i) (by lia) (by lia);rw[bP,hi]at this;exact this
theorem GM(C:ll prog w A s κ ws a₀){a b:Array Keyed}(M:MC ws a₀ a b){st:SortSt}{Q:Array Keyed->SortSt->Prop}(hk:kindOf st=κ)(q:∀r st',Sm st st'->Mgd ws a.toList b.toList r.toList->Q r st'):wpS (model prog w) A E s (Jk a b) Q st:=by
 have dn:∀{out:Array Keyed} {na nb:Nat},K0 ws a.toList b.toList out.toList na nb->na=0->Mgd ws a.toList b.toList (a.extract 0 na++b.extract 0 nb++out.reverse).toList:=fun{out na nb} h e=>by
  rw[cy,cy,vR,vR,c5];exact h.dn M.sb e
 have firstX:∀{nb:Nat},nb=1 -> ∀y∈b.toList.take nb,∀q∈a,rk ws y<rk ws q:=fun{nb} e y K q hq=>by
  subst e;have hl:0<b.toList.length:=by rw[aJ];exact M.pb
  have:b.toList.take 1=[b.toList[0]]:=by
   conv=>lhs;rw[cH,cV,gG1 hl]
   rfl
  rw[this]at K;rw[cY.mp K];exact M.head _ (by simp) q hq
 have fs:∀{out:Array Keyed} {na nb:Nat},K0 ws a.toList b.toList out.toList na nb->nb=1->Mgd ws a.toList b.toList (b.extract 0 nb++a.extract 0 na++out.reverse).toList:=fun{out na nb} h e=>by
  rw[cy,cy,vR,vR,c5];exact h.fs M.sa M.sb fun x B y K=>firstX e x B y (cj.mp (cO K))
 have R:∀{i:Nat},i<a.size -> ∃x,a[i]?=some x/\x∈a/\a.toList[i]?=some x:=fun{i} h=>⟨a[i],aG1 h,cW h,by rw[aT1,aG1 h]⟩;have X:∀{i:Nat},i<b.size -> ∃x,b[i]?=some x/\x∈b/\b.toList[i]?=some x:=fun{i} h=>⟨b[i],aG1 h,cW h,by rw[aT1,aG1 h]⟩;have V:∀{out:Array Keyed} {na nb:Nat} {y:Keyed},K0 ws a.toList b.toList out.toList na nb->0<nb->b.toList[nb-1]?=some y->(∀x∈a.toList.take na,rk ws x<rk ws y)->K0 ws a.toList b.toList (out.push y).toList na (nb-1):=fun{out na nb y} h h0 K hb=>by
  have e:=C9 K;rw[show nb-1+1=nb by lia]at e;have:=h.mvB (t:=nb-1) M.sb (by lia) (by rw[e];intro x B z hz;rw[cY.mp hz];exact hb x B);rw[e,List.reverse_singleton,<- cA]at this;exact this
 have J:∀{out:Array Keyed} {na nb:Nat} {y:Keyed},K0 ws a.toList b.toList out.toList na nb->0<na->a.toList[na-1]?=some y->(∀x∈b.toList.take nb,rk ws x<rk ws y)->K0 ws a.toList b.toList (out.push y).toList (na-1) nb:=fun{out na nb y} h h0 K hb=>by
  have e:=C9 K;rw[show na-1+1=na by lia]at e;have:=h.mvA (t:=na-1) M.sa (by lia) (by rw[e];intro x B z hz;rw[cY.mp hz];exact hb x B);rw[e,List.reverse_singleton,<- cA]at this;exact this
 have W:∀{out:Array Keyed} {na nb:Nat},K0 ws a.toList b.toList out.toList na nb->out.toList.length+(na+nb)=a.size+b.size:=fun{out na nb} h=>by have:=h.len;rwa [aJ (xs:=a),aJ (xs:=b)]at this
 have hpa:=M.pa;have hpb:=M.pb;obtain⟨a1,ha1,ma1,la1⟩:=R (show a.size-1<a.size by lia);have upA:∀{n:Nat} {v:Keyed},0<n->a.toList[n-1]?=some v -> ∀x∈a.toList.take n,rk ws x<=rk ws v:=fun{n v} h hv x B=>M.sa.take_lt hv x (by rw[show n-1+1=n by lia];exact B);have upB:∀{n:Nat} {v:Keyed},0<n->b.toList[n-1]?=some v -> ∀x∈b.toList.take n,rk ws x<=rk ws v:=fun{n v} h hv x B=>M.sb.take_lt hv x (by rw[show n-1+1=n by lia];exact B);unfold Jk;refine wpS_bind (wpS_lift (wpAny_rule ⟨rfl,?_⟩));refine wpS_bind (fe ha1 ?_);have j0:K0 ws a.toList b.toList (#[]:Array Keyed).toList a.size b.size:=⟨by simp,by simp,by simp,by rw[<- aJ,<- aJ,b4,b4];simp,.nil,fun x B y K=>(by cases K),fun x B y K=>(by cases K)⟩;have j1:K0 ws a.toList b.toList (#[a1]:Array Keyed).toList (a.size-1) b.size:=J j0 M.pa la1 fun x B=>M.last a1 ha1 x (cj.mp (cO B));clear j0;by_cases z:a.size-1=0
 ·rw[if_pos (by simpa using z)];exact wpS_pure (q _ _ .rfl (dn j1 z))
 rw[if_neg (by simpa using z)];by_cases z2:b.size=1
 ·rw[if_pos (by simpa using z2)];exact wpS_pure (q _ _ .rfl (fs j1 z2))
 rw[if_neg (by simpa using z2)];refine wpS_bind (wpS_get ?_);refine wpS_bind (wpS_mono (wpS_forRange (fun x c st'=>Sm st st' /\ ∃na nb out g,c=(none,na,nb,out,g)/\K0 ws a.toList b.toList out.toList na nb/\0<na/\1<nb/\x+1<=out.toList.length)
  (Q:=fun c st'=>Sm st st' /\ ∃r,c.1=some r/\Mgd ws a.toList b.toList r.toList) ?_ ?_ ⟨.rfl,_,_,_,_,rfl,j1,by lia,by lia,nR1 _⟩) ?_)
 ·rintro x c st' _ B ⟨hs,na,nb,out,g,rfl,F,j,l,hn⟩;dsimp only;refine wpS_bind (wpS_mono (wpS_forRange (fun y c D=>Sm st D /\ ∃ na nb d P O,c=(none,na,nb,d,P,O)/\K0 ws a.toList b.toList d.toList na nb/\0<na/\1<nb/\out.toList.length+y<=d.toList.length)
   (Q:=fun c D=>Sm st D/\((∃r,c.1=some r/\Mgd ws a.toList b.toList r.toList) \/ ∃na nb d P O,c=(none,na,nb,d,P,O)/\K0 ws a.toList b.toList d.toList na nb/\0<na/\1<nb/\out.toList.length+1<=d.toList.length)) ?_ ?_ ⟨hs,_,_,_,_,_,rfl,F,j,l,nR1 _⟩) ?_)
  ·rintro y c D _ K ⟨m,na,nb,d,P,O,rfl,F,j,l,hn2⟩;dsimp only;have Z:=F.la;have lnb:=F.lb;rw[aJ]at Z lnb;obtain⟨u,hu,mu,lu⟩:=X (show nb-1<b.size by lia);obtain⟨v,hv,mv,lv⟩:=R (show na-1<a.size by lia);refine wpS_bind (fe hu (wpS_bind (fe hv (wpS_bind (C.lt2 (m.k.trans hk) (M.mb u mu) (M.ma v mv) (M.ne v mv u mu).symm ?_)))));by_cases z3:rk ws u<rk ws v
   ·simp only[z3,decide_true,if_true];refine wpS_bind (fe hv ?_);have G:=J F j lv fun x B=>bJ (upB (by lia) lu x B) z3;have hl:(d.push v).toList.length=d.toList.length+1:=by simp
    by_cases I:na-1=0
    ·rw[if_pos (by simpa using I)];exact wpS_pure ⟨m,.inl ⟨_,rfl,dn G I⟩⟩
    ·rw[if_neg (by simpa using I)];split
     ·exact wpS_pure ⟨m,.inr ⟨_,_,_,_,_,rfl,G,by lia,l,by lia⟩⟩
     ·exact wpS_pure ⟨m,_,_,_,_,_,rfl,G,by lia,l,by lia⟩
   ·simp only[z3,decide_false,bF1,if_false];have z5:rk ws v<rk ws u:=by have:=M.ne v mv u mu;lia
    refine wpS_bind (fe hu ?_);have G:=V F (by lia) lu fun x B=>bJ (upA j lv x B) z5;have hl:(d.push u).toList.length=d.toList.length+1:=by simp
    by_cases I:nb-1=1
    ·rw[if_pos (by simpa using I)];exact wpS_pure ⟨m,.inl ⟨_,rfl,fs G I⟩⟩
    ·rw[if_neg (by simpa using I)];split
     ·exact wpS_pure ⟨m,.inr ⟨_,_,_,_,_,rfl,G,j,by lia,by lia⟩⟩
     ·exact wpS_pure ⟨m,_,_,_,_,_,rfl,G,j,by lia,by lia⟩
  ·rintro c D ⟨m,na,nb,d,P,O,rfl,F,j,l,hn2⟩;exfalso;have:=W F;lia
  ·rintro c D ⟨m,⟨r,hr,hm⟩|⟨na,nb,d,P,O,rfl,F,j,l,hn2⟩⟩
   ·obtain⟨c1,c2⟩:=c;dsimp only at hr;subst hr;exact wpS_pure ⟨m,r,rfl,hm⟩
   dsimp only;refine wpS_bind (wpS_lift (wpAny_rule ⟨rfl,?_⟩));refine wpS_bind (wpS_mono (wpS_forRange (fun y c D=>Sm st D /\ ∃na nb f g P O,c=(none,na,nb,f,g,P,O)/\K0 ws a.toList b.toList f.toList na nb/\0<na/\1<nb/\d.toList.length+y<=f.toList.length)
    (Q:=fun c D=>Sm st D/\((∃r,c.1=some r/\Mgd ws a.toList b.toList r.toList) \/ ∃na nb f g P O,c=(none,na,nb,f,g,P,O)/\K0 ws a.toList b.toList f.toList na nb/\0<na/\1<nb/\d.toList.length<=f.toList.length)) ?_ ?_ ⟨m,_,_,_,_,_,_,rfl,F,j,l,nR1 _⟩) ?_)
   ·rintro y c L _ K ⟨N,na,nb,f,g,P,O,rfl,F,j,l,hn3⟩;dsimp only;have Z:=F.la;have lnb:=F.lb;rw[aJ]at Z lnb;obtain⟨u,hu,mu,lu⟩:=X (show nb-1<b.size by lia);refine(fun(main:∀g':Nat,(?T:Nat->Prop) g')=>?go) ?mn
    case go=>
     by_cases hg:g>1
     ·rw[if_pos hg];generalize g-1=g';exact main g'
     ·rw[if_neg hg];exact main g
    intro g';refine wpS_bind (pQ (wpS_bind (fe hu (wpS_bind (G6 (n:=na) C (N.k.trans hk) M.ma M.sa (M.mb u mu) (fun p hp=>M.ne p hp u mu) j Z fun k h1 h2 h3=>?_)))));have H:=N.g g';generalize SortSt.mk' (kindOf L) (arrOf L) (pendingOf L) g' (failedOf L)=st4 at *
    dsimp only;generalize hac:na-k=acc;refine(fun(Y:∀(o:Array Keyed) (i:Nat),K0 ws a.toList b.toList o.toList i nb->0<i->(∀x∈a.toList.take i,rk ws x<rk ws u)->d.toList.length+y<=o.toList.length->(?T2:Array Keyed->Nat->Prop) o i)=>?go2) ?mn2
    case go2=>
     by_cases U:acc>0
     ·rw[if_pos U];have G:=F.mvA (t:=k) M.sa h1 fun x B z hz=>bJ (upB (by lia) lu x B) (h3 z hz);rw[<- C7 h1,<- cy]at G;have hl2:d.toList.length+y<=(f++(a.extract k na).reverse).toList.length:=by rw[cy,lA1];lia
      by_cases I:k=0
      ·rw[if_pos (by simpa using I)];exact wpS_pure ⟨H,.inl ⟨_,rfl,dn G I⟩⟩
      ·rw[if_neg (by simpa using I)];generalize f++(a.extract k na).reverse=o at G hl2 ⊢;have S:=h2;have h9:0<k:=by lia
       generalize k=i at G S h9 ⊢;exact Y o i G h9 S hl2
     ·rw[if_neg U];have e:k=na:=by lia
      have S:=h2;rw[e]at S;exact Y f na F j S hn3
    intro o i G hi hgt hlo;refine wpS_bind (fe hu ?_);have j2:=V G (by lia) lu hgt;have hl2:(o.push u).toList.length=o.toList.length+1:=by simp
    by_cases I:nb-1=1
    ·rw[if_pos (by simpa using I)];exact wpS_pure ⟨H,.inl ⟨_,rfl,fs j2 I⟩⟩
    rw[if_neg (by simpa using I)];have li:=G.la;rw[aJ]at li;obtain⟨v,hv,mv,lv⟩:=R (show i-1<a.size by lia);refine wpS_bind (fe hv (wpS_bind (G6 (n:=nb-1) C (H.k.trans hk) M.mb M.sb (M.ma v mv) (fun p hp=>(M.ne v mv p hp).symm) (by lia) (by lia) fun k2 e1 e2 e3=>?_)));dsimp only;generalize o.push u=o1 at *
    have hnb:0<nb-1:=by lia
    generalize nb-1=j1' at *
    generalize hac2:j1'-k2=acc2;refine(fun(T:∀(o3:Array Keyed) (jb:Nat),K0 ws a.toList b.toList o3.toList i jb->1<jb->(∀x∈b.toList.take jb,rk ws x<rk ws v)->o1.toList.length<=o3.toList.length->(?T3:Array Keyed->Nat->Prop) o3 jb)=>?go3) ?mn3
    case go3=>
     by_cases U:acc2>0
     ·rw[if_pos U];have j3:=j2.mvB (t:=k2) M.sb e1 fun x B z hz=>bJ (upA hi lv x B) (e3 z hz);rw[<- C7 e1,<- cy]at j3;have hl3:o1.toList.length<=(o1++(b.extract k2 j1').reverse).toList.length:=by rw[cy,lA1];lia
      by_cases z5:k2=1
      ·rw[if_pos (by simpa using z5)];exact wpS_pure ⟨H,.inl ⟨_,rfl,fs j3 z5⟩⟩
      ·have h0:k2≠0:=fun e=>by
        subst e;obtain⟨b0,hb0,mb0,lb0⟩:=X M.pb;have:=e3 b0 (gM1 (i:=0) (by rw[cD,aS (by lia)];exact lb0));have:=M.head b0 hb0 v mv;lia
       rw[if_neg (by simpa using z5),if_neg (by simpa using h0)];generalize o1++(b.extract k2 j1').reverse=o3 at j3 hl3 ⊢;have S:=e2;have h9:1<k2:=by lia
       generalize k2=jb at j3 S h9 ⊢;exact T o3 jb j3 h9 S hl3
     ·rw[if_neg U];have e:k2=j1':=by lia
      have S:=e2;rw[e]at S;exact T o1 j1' j2 (by lia) S (nR1 _)
    intro o3 jb j3 hjb hgt3 hl3;refine wpS_bind (fe hv ?_);have j4:=J j3 hi lv hgt3;have hl4:(o3.push v).toList.length=o3.toList.length+1:=by simp
    by_cases z6:i-1=0
    ·rw[if_pos (by simpa using z6)];exact wpS_pure ⟨H,.inl ⟨_,rfl,dn j4 z6⟩⟩
    rw[if_neg (by simpa using z6)];split
    ·exact wpS_pure ⟨H,.inr ⟨_,_,_,_,_,_,rfl,j4,by lia,hjb,by lia⟩⟩
    ·exact wpS_pure ⟨H,_,_,_,_,_,_,rfl,j4,by lia,hjb,by lia⟩
   ·rintro c L ⟨N,na,nb,f,g,P,O,rfl,F,j,l,hn3⟩;exfalso;have:=W F;lia
   ·rintro c L ⟨N,⟨r,hr,hm⟩|⟨na,nb,f,g,P,O,rfl,F,j,l,hn3⟩⟩
    ·obtain⟨c1,c2⟩:=c;dsimp only at hr;subst hr;exact wpS_pure ⟨N,r,rfl,hm⟩
    dsimp only;refine wpS_bind (pQ (wpS_pure ⟨N.g _,_,_,_,_,rfl,F,j,l,by lia⟩))
 ·rintro c st' ⟨hs,na,nb,out,g,rfl,F,j,l,hn⟩;exfalso;have:=W F;lia
 ·rintro c st' ⟨hs,r,hr,hm⟩;obtain⟨c1,c2⟩:=c;dsimp only at hr;subst hr;exact wpS_pure (q r _ hs hm)
end
theorem re(c:Nat):∀ (m:List Keyed) (k:Nat) (arr:Array Keyed) (pre old b:List Keyed),arr.toList=pre++(old++b)->pre.length=c+k->old.length=m.length ->
  ((m.zipIdx k).foldl (fun a (x:Keyed×Nat)=>a.setIfInBounds (c+x.2) x.1) arr).toList=pre++(m++b)
 |[],k,arr,pre,old,b,h1,h2,h3=>by
  have:old=[]:=cu.mp h3;subst this;exact h1
 |x::m,k,arr,pre,[],b,h1,h2,h3=>by simp at h3
 |x::m,k,arr,pre,o::old,b,h1,h2,h3=>by
  rw[bM,cb];have:=re c m (k+1) (arr.setIfInBounds (c+k) x) (pre++[x]) old b (by
   rw[Array.toList_setIfInBounds,h1,<- h2,c6 _ _ (nR1 _),cQ];simp) (by rw[lA1,h2];rfl) (by simpa using h3)
  rw[this];simp
def fH:Nat->List (List Keyed)->List (Nat×Nat×Nat)->Prop
 |_,[],[]=>True
 |s,r::rs,(t,n,_)::p=>t=s/\n=r.length/\fH (s+r.length) rs p
 |_,_,_=>False
theorem vi:∀ {s:Nat} {rs:List (List Keyed)} {p:List (Nat×Nat×Nat)},fH s rs p -> ∀ {i:Nat} {r1 r2:List Keyed},rs[i]? = some r1->rs[i+1]? = some r2 ->
  ∃d c,p[i]?=some (s+(rs.take i).flatten.length,r1.length,d)/\p[i+1]?=some (s+(rs.take i).flatten.length+r1.length,r2.length,c) /\
   fH s (rs.take i++(r1++r2)::rs.drop (i+2)) ((p.set i (s+(rs.take i).flatten.length,r1.length+r2.length,d)).eraseIdx (i+1))
 |s,[],p,h,i,r1,r2,h1,_=>by simp at h1
 |s,r::rs,[],h,i,r1,r2,_,_=>by cases h
 |s,r::rs,(t,n,d)::p,⟨e1,e2,h⟩,0,r1,r2,h1,h2=>by
  have j:r=r1:=by simpa using h1
  subst j
  match rs,p,h,h2 with
  |r2'::rs,(t2,n2,c)::p,⟨e,g,h⟩,h2=>
   have k:r2'=r2:=by simpa using h2
   subst k;subst e1;subst e2;subst e;subst g;refine⟨d,c,by simp,by simp,?_⟩;simp only[cV,List.flatten_nil,bf,Nat.add_zero,c4,List.drop_succ_cons,bZ,c7,List.eraseIdx_cons_succ,List.eraseIdx_cons_zero];exact⟨rfl,by rw[lA1],by rw[lA1,<- bm];exact h⟩
 |s,r::rs,(t,n,d)::p,⟨e1,e2,h⟩,i+1,r1,r2,h1,h2=>by
  obtain⟨a,b,e,g,l⟩:=vi h (i:=i) (by simpa using h1) (by simpa using h2);have f:s+((r::rs).take (i+1)).flatten.length=s+r.length+(rs.take i).flatten.length:=by rw[cU,c8,lA1,bm]
  refine⟨a,b,by rw[f,gC1];exact e,by rw[f,gC1];exact g,?_⟩;rw[f,cU,bj,c9,List.eraseIdx_cons_succ,List.drop_succ_cons];exact⟨e1,e2,l⟩
structure SR (ws:List dB)(κ:SortKind)(a₀:Array Keyed)(rs:List (List Keyed))(rest:List Keyed)(st:SortSt):Prop where
 k:kindOf st=κ
 f:failedOf st=none
 pm:(arrOf st).Perm a₀
 ar:(arrOf st).toList=rs.flatten++rest
 so:∀r∈rs,Srt ws r/\r≠[]
 pe:fH 0 rs (pendingOf st).toList
section
variable{prog:dF}{w:dH}{A:dG}{E:dB->dD->Prop}{s:dD}{κ:SortKind}{ws:List dB}{a₀:Array Keyed}
theorem ll.unlike(C:ll prog w A s κ ws a₀){xs:Array Keyed}(p:xs.Perm a₀):xs.toList.Pairwise fun u v=>rk ws u≠rk ws v:=by
 refine cw.mpr fun i j hi a b e=>?_;rw[aJ]at hi a;have:=C.inj p (i:=i) (j:=j) (by rw[<- p.size_eq];exact hi) (by rw[<- p.size_eq];exact a) (by unfold kR;rw[aG1 hi,aG1 a];simpa using e);lia
theorem DI{σ:Type}{M:Model}{st a:σ}{Q:Unit->σ->Prop}(h:Q () a):wpS M A E s (set a:StateT σ Sem PUnit) Q st:=wpS_modify (f:=fun _=>a) h
theorem Ai(xs:Array (Nat×Nat×Nat))(i:Nat):(xs.eraseIdxIfInBounds i).toList=xs.toList.eraseIdx i:=by
 unfold Array.eraseIdxIfInBounds;split
 ·rw[Array.toList_eraseIdx]
 ·rename_i h;rw[List.eraseIdx_of_length_le (by rw[aJ];lia)]
theorem oy:∀{A B:List (List Keyed)} {r b:List Keyed} {s:Nat} {p:List (Nat×Nat×Nat)},fH s (A++r::B) p->r.length=b.length->fH s (A++b::B) p
 |[],B,r,b,s,[],h,_=>by cases h
 |[],B,r,b,s,(t,n,pw)::p,h,e=>by
  obtain⟨h1,h2,c⟩:=(show t=s/\n=r.length/\fH (s+r.length) B p from h);exact⟨h1,by rw[<- e];exact h2,by rw[<- e];exact c⟩
 |a::A,B,r,b,s,[],h,_=>by cases h
 |a::A,B,r,b,s,(t,n,pw)::p,h,e=>by
  obtain⟨h1,h2,c⟩:=(show t=s/\n=a.length/\fH (s+a.length) (A++r::B) p from h);exact⟨h1,h2,oy c e⟩
theorem DD{rs:List (List Keyed)}{i:Nat}{a r2:List Keyed}(h1:rs[i]?=some a)(h2:rs[i+1]?=some r2):rs=rs.take i++a::r2::rs.drop (i+2):=by
 have b:=(gE1.mp h1);have c:=(gE1.mp h2);have:=(cK i rs).symm;rw[bW b.1,bW c.1,b.2,c.2]at this;exact this
theorem G5(C:ll prog w A s κ ws a₀){st:SortSt}{l:Bool}{key:Keyed}{X:Array Keyed}{pre r a:List Keyed}{h:Nat}{Q:Option Nat->SortSt->Prop}(hk:kindOf st=κ)(n:X.toList=pre++(r++a))(hm:∀ x∈X,x∈a₀)(c:key∈a₀)(p:Srt ws r)(d:∀ x∈r,rk ws x≠rk ws key)(o:h<r.length)(q:∀k,k<=r.length->(∀x∈r.take k,rk ws x<rk ws key)->(∀x∈r.drop k,rk ws key<rk ws x)->Q (some k) st):wpS (model prog w) A E s (FK l key X pre.length r.length h) Q st:=by
 have at_:∀i,i<r.length->X[pre.length+i]?=r[i]?:=fun i hi=>by
  rw[<- aT1,n,gR1 (bt _ _),bu,gL1 hi]
 refine vN (R:=fun i=>(r[i]?.map (rk ws)).getD 0) C hk c o (fun i hi=>?_) (fun i j f m=>?_) fun k h1 h2 t=>q k h1 (fun x g=>?_) fun x g=>?_
 ·have e:=at_ i hi;rw[gG1 hi]at e;refine⟨r[i],e,hm _ (ck e),by rw[gG1 hi];rfl,?_⟩;rw[gG1 hi];exact d _ (bU hi)
 ·rw[gG1 (show i<r.length by lia),gG1 m];exact cw.mp p i j (by lia) m f
 ·obtain⟨i,hi⟩:=br g;have b:i<k:=by have:=(gE1.mp hi).1;rw[aQ]at this;lia
  rw[aS b]at hi;have:=h2 i b;rw[hi]at this;exact this
 ·obtain⟨i,hi⟩:=br g;rw[cD]at hi;have:=t (k+i) (by lia) (gE1.mp hi).1;rw[hi]at this;exact this
theorem SR.merge(C:ll prog w A s κ ws a₀){rs:List (List Keyed)}{rest:List Keyed}{st:SortSt}{i:Nat}{b r2:List Keyed}{Q:Bool->SortSt->Prop}(h:SR ws κ a₀ rs rest st)(h1:rs[i]? = some b)(h2:rs[i+1]? = some r2)(q:∀r st',SR ws κ a₀ (rs.take i++r::rs.drop (i+2)) rest st'->Q true st'):wpS (model prog w) A E s (mergeAt' i) Q st:=by
 obtain⟨V,pw2,p1,p2,p3⟩:=vi h.pe h1 h2;rw[aT1,bP]at p1 p2;rw[bP]at p3;have hsp:=DD h1 h2;obtain⟨K,n1⟩:=h.so b (gM1 h1);obtain⟨L,n2⟩:=h.so r2 (gM1 h2);have others:∀r∈rs.take i,Srt ws r/\r≠[]:=fun r j=>h.so r (cO j);have others2:∀r∈rs.drop (i+2),Srt ws r/\r≠[]:=fun r j=>h.so r (cP j);have l1:0<b.length:=da.mpr n1;have l2:0<r2.length:=da.mpr n2;have t:(a st).toList=(rs.take i).flatten++(b++(r2++((rs.drop (i+2)).flatten++rest))):=by
  rw[h.ar]
  conv=>lhs;rw[hsp]
  simp
 generalize P:(rs.take i).flatten=pre at *
 generalize I:(rs.drop (i+2)).flatten++rest=post at *
 have g:∀x∈a st,x∈a₀:=fun x d=>h.pm.mem_iff.mp d;have un:=C.unlike h.pm;have R:∀x∈b,x∈a st:=fun x d=>by rw[<- cj,t];simp[d]
 have N:∀x∈r2,x∈a st:=fun x d=>by rw[<- cj,t];simp[d]
 have B:∀x∈b,∀y∈r2,rk ws x≠rk ws y:=fun x d y D=>by
  rw[t]at un;exact(cC.mp (cC.mp un).2.1).2.2 x d y (aH _ D)
 have hs:∀{st':SortSt} {r:List Keyed},kindOf st'=kindOf st->failedOf st'=failedOf st->(pendingOf st').toList=((pendingOf st).toList.set i (pre.length,b.length+r2.length,V)).eraseIdx (i+1)->(a st').toList=pre++(r++post)->r.Perm (b++r2)->Srt ws r->Q true st':=fun{st' r} o l g3 g4 U g6=>by
  refine q r st' ⟨o.trans h.k,l.trans h.f,?_,?_,?_,?_⟩
  ·refine Array.Perm.trans ?_ h.pm;rw[cg,g4,t,<- bI b];exact List.Perm.append_left _ (U.append_right _)
  ·rw[g4,db,c8,P,bI,bI,I]
  ·intro x d;rcases aG.mp d with d|d
   ·exact others x d
   ·rcases aF.mp d with rfl|d
    ·exact⟨g6,fun e=>by rw[e]at U;have:=U.length_eq;rw[lA1,bf]at this;lia⟩
    ·exact others2 x d
  ·rw[g3];exact oy p3 (by rw[lA1,U.length_eq,lA1])
 obtain⟨u,X⟩:∃u,r2[0]?=some u:=⟨_,gG1 l2⟩;have mu:=gM1 X;obtain⟨v,T⟩:∃v,b[b.length-1]?=some v:=⟨_,gG1 (by lia)⟩;have mv:=gM1 T;have hXu:(a st)[pre.length+b.length]?=some u:=by
  rw[<- aT1,t,gR1 (bt _ _),bu,gR1 (nR1 _),cQ,gL1 l2];exact X
 have Y:(a st)[pre.length+b.length-1]?=some v:=by
  rw[<- aT1,t,gR1 (by lia),show pre.length+b.length-1-pre.length=b.length-1 by lia,gL1 (by lia)];exact T
 have S:(a st).toList=(pre++b)++(r2++post):=by rw[t,bI]
 unfold mergeAt';refine wpS_bind (wpS_get ?_);dsimp only;rw[show(pendingOf st)[i]?=_ from p1,show(pendingOf st)[i+1]?=_ from p2];dsimp only;refine wpS_bind (DI ?_);refine wpS_bind (fe hXu ?_);refine wpS_bind (G5 (pre:=pre) (r:=b) C h.k t g (g u (N u mu)) K (fun x d=>B x d u mu) l1 fun k e1 W e3=>?_);dsimp only;have n:(((pendingOf st).setIfInBounds i (pre.length,b.length+r2.length,V)).eraseIdxIfInBounds (i+1)).toList=((pendingOf st).toList.set i (pre.length,b.length+r2.length,V)).eraseIdx (i+1):=by rw[Ai,Array.toList_setIfInBounds]
 generalize ((pendingOf st).setIfInBounds i (pre.length,b.length+r2.length,V)).eraseIdxIfInBounds (i+1)=O at *
 have G:∀x∈r2,rk ws u<=rk ws x:=fun x d=>L.drop_gt (i:=0) X x (by rw[bZ];exact d);by_cases z:b.length-k=0
 ·rw[if_pos (by simpa using z)];have ek:k=b.length:=by lia
  subst ek;rw[b4]at W;exact wpS_pure (hs (r:=b++r2) rfl rfl n (by rw[bI];exact t) (.refl _) (K.app L fun x d y D=>nL1 (W x d) (G y D)))
 rw[if_neg (by simpa using z),show pre.length+k+(b.length-k)-1=pre.length+b.length-1 by lia];refine wpS_bind (fe Y ?_);rw[show pre.length+b.length=(pre++b).length by rw[lA1]];refine wpS_bind (G5 (pre:=pre++b) (r:=r2) C h.k S g (g v (R v mv)) L (fun x d=>(B v mv x d).symm) (show r2.length-1<r2.length by lia) fun k2 f1 f2 f3=>?_);dsimp only;have huv:rk ws u<rk ws v:=e3 v (gM1 (i:=b.length-1-k) (by rw[cD,show k+(b.length-1-k)=b.length-1 by lia];exact T));have hk2:k2≠0:=fun e=>by
  subst e;have:=f3 u (by rw[bZ];exact mu);lia
 rw[if_neg (by simpa using hk2)];have ex:((a st).extract (pre.length+k) (pre++b).length).toList=b.drop k:=by
  rw[cB,cX,t,<- bF,List.drop_left,List.drop_append_of_le_length e1,lA1,show pre.length+b.length-(pre.length+k)=(b.drop k).length by rw[aV];lia,de]
 have J:((a st).extract (pre++b).length ((pre++b).length+k2)).toList=r2.take k2:=by
  rw[cB,cX,S,List.drop_left,bu,List.take_append_of_le_length f1]
 generalize d:(a st).extract (pre.length+k) (pre++b).length=x at *
 generalize D:(a st).extract (pre++b).length ((pre++b).length+k2)=y at *
 have lx:x.size=b.length-k:=by rw[<- aJ,ex,aV]
 have ly:y.size=k2:=by rw[<- aJ,J,aQ];lia
 have M:MC ws a₀ x y:=by
  refine⟨fun p f=>?_,fun p f=>?_,?_,?_,fun p f r j=>?_,by lia,by lia,fun p f r j=>?_,fun p f r j=>?_⟩
  ·rw[<- cj,ex]at f;exact g p (R p (cP f))
  ·rw[<- cj,J]at f;exact g p (N p (cO f))
  ·rw[ex];exact K.sublist (cE _ _)
  ·rw[J];exact L.sublist (aT _ _)
  ·rw[<- cj,ex]at f;rw[<- cj,J]at j;exact B p (cP f) r (cO j)
  ·rw[<- cj,J]at j;rw[<- aT1,ex,cD,lx,show k+(b.length-k-1)=b.length-1 by lia,T]at f;cases f;exact f2 r j
  ·rw[<- cj,ex]at j;rw[<- aT1,J,aS (by lia),X]at f;cases f;exact e3 r j
 refine(fun(F:∀(m:Array Keyed) (c:SortSt),Sm (SortSt.mk' (kindOf st) (a st) O (gallopOf st) (failedOf st)) c->Mgd ws x.toList y.toList m.toList->(?T:Array Keyed->SortSt->Prop) m c)=>?go) ?mn
 case go=>
  by_cases z2:b.length-k<=k2
  ·rw[if_pos z2];refine wpS_bind (GL C M h.k fun m c o l=>?_);exact F m c o l
  ·rw[if_neg z2];refine wpS_bind (GM C M h.k fun m c o l=>?_);exact F m c o l
 intro m c o l;refine wpS_bind (wpS_modify (wpS_bind (wpS_get ?_)));dsimp only;have hf:failedOf c=none:=o.f.trans h.f;rw[show(failedOf c).isNone=true by rw[hf];rfl];rw[ex,J]at l;have ml:m.toList.length=(b.drop k++r2.take k2).length:=l.1.length_eq;have wr:=re (pre.length+k) m.toList 0 (a c) (pre++b.take k) (b.drop k++r2.take k2) (r2.drop k2++post) (by
  rw[o.a];show(a st).toList=_;rw[t]
  conv=>lhs;rw[<- cK k b,<- cK k2 r2]
  simp only[bI]) (by rw[lA1,aQ,Nat.add_zero];lia) ml.symm
 have bx:∀y∈m.toList,y∈b.drop k\/y∈r2.take k2:=fun y D=>aG.mp (l.1.mem_iff.mp D);have Z:=K.split k;have sp2:=L.split k2;have upv:∀y∈b,rk ws y<=rk ws v:=fun y D=>K.take_lt T y (by rw[show b.length-1+1=b.length by lia,b4];exact D);refine wpS_pure (hs (r:=b.take k++(m.toList++r2.drop k2)) o.k o.f (by rw[show pendingOf (SortSt.mk' (kindOf c) _ (pendingOf c) (gallopOf c) (failedOf c))=pendingOf c from rfl,o.p];exact n) ?_ ?_ ?_)
 ·refine wr.trans ?_;simp only[bI]
 ·conv=>rhs;rw[<- cK k b,<- cK k2 r2]
  rw[bI];refine List.Perm.append_left _ ?_;rw[<- bI];exact l.1.append_right _
 ·refine Srt.app (K.sublist (aT _ _)) (Srt.app l.2 (L.sublist (cE _ _)) fun p f r j=>?_) (lW.to (fun p f r j=>?_) fun p f r j=>?_)
  ·rcases bx p f with H|H
   ·exact bJ (upv p (cP H)) (f3 r j)
   ·exact sp2 p H r j
  ·rcases bx r j with H|H
   ·exact Z p f r H
   ·exact nL1 (W p f) (G r (cO H))
  ·exact nL1 (W p f) (G r (cP j))
end
def kO(ws:List dB)(lo:Nat)(xs:Array Keyed)(i:Nat):Nat:=kR ws xs (lo+i)
def wo(ws:List dB)(lo:Nat)(xs:Array Keyed)(k:Nat):Prop:=∀i j,i<j->j<k->kO ws lo xs i<kO ws lo xs j
def HD(ws:List dB)(lo:Nat)(xs:Array Keyed)(k:Nat):Prop:=∀i j,i<j->j<k->kO ws lo xs j<kO ws lo xs i
structure SoL (κ:SortKind)(a₀:Array Keyed)(lo:Nat)(st0 st:SortSt):Prop where
 perm:(arrOf st).Perm a₀
 kind:kindOf st=κ
 failed:failedOf st=failedOf st0
 pend:pendingOf st=pendingOf st0
 pre:∀i,i<lo->(arrOf st)[i]?=(arrOf st0)[i]?
theorem SoL.arr{κ:SortKind}{a₀:Array Keyed}{lo:Nat}{st0 st:SortSt}(b:SoL κ a₀ lo st0 st){xs:Array Keyed}(p:xs.Perm (arrOf st))(hp:∀i,i<lo->xs[i]?=(arrOf st)[i]?):SoL κ a₀ lo st0 (setArr st xs):=⟨p.trans b.perm,b.kind,b.failed,b.pend,fun i hi=>(hp i hi).trans (b.pre i hi)⟩
section
variable{prog:dF}{w:dH}{A:dG}{E:dB->dD->Prop}{s:dD}{κ:SortKind}{ws:List dB}{a₀:Array Keyed}{lo:Nat}{st0:SortSt}
theorem ll.cmpL(C:ll prog w A s κ ws a₀){st:SortSt}{i j:Nat}{Q:Option Bool->SortSt->Prop}(b:SoL κ a₀ lo st0 st)(hi:i<a₀.size)(d:j<a₀.size)(c:i≠j)(h:Q (some (decide (kR ws (arrOf st) i<kR ws (arrOf st) j))) st):wpS (model prog w) A E s (ltAt' i j) Q st:=by
 obtain⟨x,q,k,f⟩:=C.at_ b.perm hi;obtain⟨y,r,e,g⟩:=C.at_ b.perm d;have a:kR ws (arrOf st) i≠kR ws (arrOf st) j:=fun z=>c (C.inj b.perm hi d z);rw[ltAt'_eq];refine wpS_bind (wpS_get ?_);show wpS _ _ _ _ (do let x<-elem' (arrOf st) i;let y<-elem' (arrOf st) j;lt' x y) Q st;rw[elem'_eq,elem'_eq,k,e];refine wpS_bind (wpS_pure (wpS_bind (wpS_pure ?_)));rw[lt'_eq];refine wpS_bind (wpS_get ?_);rw[b.kind];exact wpS_bind (wpS_lift (wpAny_attempt (C.lt x y _ _ f g a _ _ ⟨rfl,wpS_pure h⟩)))
theorem wo.one{xs:Array Keyed}:wo ws lo xs 1:=fun i j h1 h2=>by lia
theorem wo.snoc{xs:Array Keyed}{n:Nat}(u:wo ws lo xs n)(h:kO ws lo xs (n-1)<kO ws lo xs n):wo ws lo xs (n+1):=fun i j h1 h2=>by
 by_cases z:j<n
 ·exact u i j h1 z
 ·have b:j=n:=by lia
  subst b;by_cases a:i=j-1
  ·rw[a];exact h
  ·exact bh (u i (j-1) (by lia) (by lia)) h
theorem HD.snoc{xs:Array Keyed}{n:Nat}(u:HD ws lo xs n)(h:kO ws lo xs n<kO ws lo xs (n-1)):HD ws lo xs (n+1):=fun i j h1 h2=>by
 by_cases z:j<n
 ·exact u i j h1 z
 ·have b:j=n:=by lia
  subst b;by_cases a:i=j-1
  ·rw[a];exact h
  ·exact bh h (u i (j-1) (by lia) (by lia))
theorem zM(C:ll prog w A s κ ws a₀){xs:Array Keyed}(p:xs.Perm a₀){i j:Nat}(hi:lo+i<a₀.size)(b:lo+j<a₀.size)(a:i≠j):kO ws lo xs i≠kO ws lo xs j:=fun e=>by
 have:=C.inj p hi b e;lia
theorem Gf(C:ll prog w A s κ ws a₀){st:SortSt}{l:Nat}{Q:Option Nat->SortSt->Prop}(hn:lo+l<=a₀.size)(h1:1<=l)(b:SoL κ a₀ lo st0 st)(h:∀m st',SoL κ a₀ lo st0 st'->1<=m->m<=l->wo ws lo (arrOf st') m->Q (some m) st'):wpS (model prog w) A E s (countRun' lo l) Q st:=by
 have p:∀ {st:SortSt} {a:Nat} {f:Nat->Option (Option Nat)×Nat->StateT SortSt Sem (ForInStep (Option (Option Nat)×Nat))} {Q:Option (Option Nat)×Nat->SortSt->Prop},SoL κ a₀ lo st0 st->1<=a->a<=l->wo ws lo (arrOf st) a ->
   (∀x c,f x c=(ltAt' (lo+c.2) (lo+c.2-1) >>= fun r=>match r with
    |some z=>if z=true then pure (ForInStep.done (none,c.2))else pure (ForInStep.yield (none,c.2+1))
    |_=>pure (ForInStep.done (some none,c.2)))) ->
   (∀n,a<=n->n<=l->wo ws lo (arrOf st) n->(n=l\/kO ws lo (arrOf st) n<kO ws lo (arrOf st) (n-1))->Q (none,n) st)->wpS (model prog w) A E s (forIn [a:l] (none,a) f) Q st:=fun{st a f Q} b R o u N F=>by
  refine wpS_forRange (fun x c st'=>st'=st/\c=(none,x)/\wo ws lo (arrOf st) x) ?_ ?_ ⟨rfl,rfl,u⟩
  ·rintro x c st' y v ⟨rfl,rfl,q⟩;rw[N];dsimp only;refine wpS_bind (C.cmpL b (by lia) (by lia) (by lia) ?_);have e:kR ws (arrOf st') (lo+x-1)=kO ws lo (arrOf st') (x-1):=by unfold kO;congr 1;lia
   rw[e];by_cases z:kO ws lo (arrOf st') x<kO ws lo (arrOf st') (x-1)
   ·rw[show decide (kR ws (arrOf st') (lo+x)<kO ws lo (arrOf st') (x-1))=true from decide_eq_true z];exact wpS_pure (F x y (by lia) q (.inr z))
   ·rw[show decide (kR ws (arrOf st') (lo+x)<kO ws lo (arrOf st') (x-1))=false from decide_eq_false z];have:=zM C b.perm (lo:=lo) (i:=x) (j:=x-1) (by lia) (by lia) (by lia);exact wpS_pure ⟨rfl,rfl,q.snoc (by lia)⟩
  ·rintro c st' ⟨rfl,rfl,q⟩;rw[Nat.max_eq_right o]at q ⊢;exact F l o (nR1 _) q (.inl rfl)
 rw[countRun'_eq];refine wpS_bind (p b (nR1 1) h1 .one (fun x c=>rfl) fun n h2 D u or=>?_);dsimp only;by_cases z:n=l
 ·rw[if_pos (by simpa using z)];exact wpS_pure (h n st b h2 D u)
 rw[if_neg (by simpa using z)];have L:=or.resolve_left z;by_cases I:n>1
 ·rw[if_pos I];have O:=u 0 (n-1) (by lia) (by lia);refine wpS_bind (C.cmpL b (by lia) (by lia) (by lia) ?_);have e:kR ws (arrOf st) (lo+n-1)=kO ws lo (arrOf st) (n-1):=by unfold kO;congr 1;lia
  rw[e,show decide (kR ws (arrOf st) lo<kO ws lo (arrOf st) (n-1))=true from decide_eq_true O];exact wpS_pure (h n st b h2 D u)
 rw[if_neg I];have e:n=1:=by lia
 subst e;refine wpS_bind (wpS_lift (wpAny_rule ⟨rfl,?_⟩));refine wpS_bind (wpS_mono (wpS_forRange (fun x c st'=>st'=st/\c=(none,x,0)/\HD ws lo (arrOf st) x) (Q:=fun c st'=>st'=st /\ ∃m,c=(none,m,0)/\2<=m/\m<=l/\HD ws lo (arrOf st) m) ?_ ?_ ⟨rfl,rfl,fun i j y v=>?_⟩) ?_)
 ·rintro x c st' y v ⟨rfl,rfl,t⟩;dsimp only;have e:kR ws (arrOf st') (lo+x-1)=kO ws lo (arrOf st') (x-1):=by unfold kO;congr 1;lia
  have ne:=zM C b.perm (lo:=lo) (i:=x) (j:=x-1) (by lia) (by lia) (by lia);refine wpS_bind (C.cmpL b (by lia) (by lia) (by lia) ?_);rw[e];by_cases z:kO ws lo (arrOf st') x<kO ws lo (arrOf st') (x-1)
  ·rw[show decide (kR ws (arrOf st') (lo+x)<kO ws lo (arrOf st') (x-1))=true from decide_eq_true z];exact wpS_pure ⟨rfl,rfl,t.snoc z⟩
  ·rw[show decide (kR ws (arrOf st') (lo+x)<kO ws lo (arrOf st') (x-1))=false from decide_eq_false z];refine wpS_bind (C.cmpL b (by lia) (by lia) (by lia) ?_);rw[e,show decide (kO ws lo (arrOf st') (x-1)<kR ws (arrOf st') (lo+x))=true from decide_eq_true (by show kO ws lo (arrOf st') (x-1)<kO ws lo (arrOf st') x;lia)];exact wpS_pure ⟨rfl,x,rfl,by lia,by lia,t⟩
 ·rintro c st' ⟨rfl,rfl,t⟩;rw[Nat.max_eq_right (by lia)]at t ⊢;exact⟨rfl,l,rfl,by lia,nR1 _,t⟩
 ·have J:i=0:=by lia
  have K:j=1:=by lia
  subst J;subst K;exact L
 ·rintro c st' ⟨rfl,m,rfl,m1,m2,d⟩;dsimp only;rw[if_neg (by lia)];have B:lo+m<=(arrOf st').size:=by rw[b.perm.size_eq];lia
  have G:∀k,(mirror (arrOf st') lo (lo+m) ((lo+m-lo)/2))[k]?=if lo<=k/\k<lo+m then(arrOf st')[lo+(lo+m)-1-k]? else(arrOf st')[k]?:=fun k=>getElem?_mirror_all B k
  have H:SoL κ a₀ lo st0 (setArr st' (mirror (arrOf st') lo (lo+m) ((lo+m-lo)/2))):=b.arr (mirror_perm _ _ _ _) fun k P=>by rw[G,if_neg (by lia)]
  have g:∀k,k<m->kO ws lo (mirror (arrOf st') lo (lo+m) ((lo+m-lo)/2)) k=kO ws lo (arrOf st') (m-1-k):=fun k P=>ko (by
   rw[G,if_pos (by lia)]
   congr 1;lia)
  refine wpS_bind (wpS_reverse (wpS_bind (p H (by lia) m2 (fun i j D M=>?_) (fun x c=>rfl) fun n y v u _=>wpS_pure (h n _ H (by lia) v u))));show kO ws lo (mirror (arrOf st') lo (lo+m) ((lo+m-lo)/2)) i<kO ws lo (mirror (arrOf st') lo (lo+m) ((lo+m-lo)/2)) j;rw[g i (by lia),g j M];exact d _ _ (by lia) (by lia)
theorem GU(C:ll prog w A s κ ws a₀){st:SortSt}{n ok:Nat}{Q:Bool->SortSt->Prop}(hn:lo+n<=a₀.size)(J:ok<=n)(b:SoL κ a₀ lo st0 st)(u:wo ws lo (arrOf st) ok)(h:∀st',SoL κ a₀ lo st0 st'->wo ws lo (arrOf st') n->Q true st'):wpS (model prog w) A E s (binarySort' lo n ok) Q st:=by
 rw[binarySort'_eq];refine wpS_bind (wpS_mono (wpS_forRange (fun k c st'=>c=(none,())/\SoL κ a₀ lo st0 st'/\wo ws lo (arrOf st') (min k n)) (Q:=fun c st'=>c=(none,())/\SoL κ a₀ lo st0 st'/\wo ws lo (arrOf st') n) ?_ ?_ ⟨rfl,b,fun i j h1 h2=>?_⟩) ?_)
 ·rintro k c st' I F ⟨rfl,d,f⟩;rw[bC (by lia)]at f;have v:lo+k<(arrOf st').size:=by rw[d.perm.size_eq];lia
  refine wpS_bind (wpS_mono (wpS_forRange (fun x c a=>a=st' /\ ∃l r,c=(none,l,r)/\l<=r/\r<=k/\r-l<=k-x/\(∀i,i<l->kO ws lo (arrOf st') i<kO ws lo (arrOf st') k) /\ ∀i,r<=i->i<k->kO ws lo (arrOf st') k<kO ws lo (arrOf st') i)
   (Q:=fun c a=>a=st' /\ ∃l r,c=(none,l,r)/\l<=k/\(∀i,i<l->kO ws lo (arrOf st') i<kO ws lo (arrOf st') k) /\ ∀i,l<=i->i<k->kO ws lo (arrOf st') k<kO ws lo (arrOf st') i) ?_ ?_ ⟨rfl,0,k,rfl,by lia,by lia,by lia,fun i h1=>by lia,fun i h1 h2=>by lia⟩) ?_)
  ·rintro x c a _ K ⟨rfl,l,r,rfl,h1,h2,q,o,p⟩;dsimp only;by_cases z:l>=r
   ·rw[if_pos z];have e:l=r:=by lia
    subst e;exact wpS_pure ⟨rfl,l,l,rfl,h2,o,p⟩
   ·rw[if_neg z];have L:(l+r)/2<k:=by lia
    refine wpS_bind (C.cmpL d (by lia) (by lia) (by lia) ?_);by_cases m:kO ws lo (arrOf a) k<kO ws lo (arrOf a) ((l+r)/2)
    ·rw[show decide (kR ws (arrOf a) (lo+k)<kR ws (arrOf a) (lo+(l+r)/2))=true from decide_eq_true m];refine wpS_pure ⟨rfl,l,(l+r)/2,rfl,by lia,by lia,by lia,o,fun i H G=>?_⟩;by_cases t:(l+r)/2=i
     ·rw[<- t];exact m
     ·exact bh m (f _ i (by lia) G)
    ·rw [show decide (kR ws (arrOf a) (lo+k)<kR ws (arrOf a) (lo+(l+r)/2))=false from decide_eq_false m];refine wpS_pure ⟨rfl,(l+r)/2+1,r,rfl,by lia,by lia,by lia,fun i H=>?_,p⟩;have B:kO ws lo (arrOf a) ((l+r)/2)<kO ws lo (arrOf a) k:=by
      have:=zM C d.perm (lo:=lo) (i:=k) (j:=(l+r)/2) (by lia) (by lia) (by lia);lia
     by_cases t:i=(l+r)/2
     ·rw[t];exact B
     ·exact bh (f i _ (by lia) (by lia)) B
  ·rintro c a ⟨rfl,l,r,rfl,h1,h2,q,o,p⟩;have e:l=r:=by lia
   subst e;exact⟨rfl,l,l,rfl,h2,o,p⟩
  ·rintro c a ⟨rfl,l,r,rfl,h1,h2,q⟩;show wpS _ _ _ _ (do moveDown' (lo+k) (lo+l);pure (ForInStep.yield (none,()))) _ _;rw [moveDown'_eq];have D:∀ i,(bubble (arrOf a) (lo+k) (lo+k-(lo+l)))[i]? = if i=lo+l then (arrOf a)[lo+k]? else if lo+l<i/\i<=lo+k then (arrOf a)[i-1]? else (arrOf a)[i]?:=fun i=>by
    have e:=getElem?_bubble v (lo+k-(lo+l)) (by lia) i;rw[show lo+k-(lo+k-(lo+l))=lo+l by lia]at e;exact e
   refine wpS_bind (wpS_modify (wpS_pure ⟨rfl,d.arr (bubble_perm _ _ _) fun i hi=>by rw[D,if_neg (by lia),if_neg (by lia)],?_⟩));rw[bC (by lia)];have g:∀i,kO ws lo (bubble (arrOf a) (lo+k) (lo+k-(lo+l))) i=if i=l then kO ws lo (arrOf a) k else if l<i/\i<=k then kO ws lo (arrOf a) (i-1)else kO ws lo (arrOf a) i:=fun i=>by
    have e:=D (lo+i);by_cases y:i=l
    ·rw[if_pos (by lia)]at e;rw[if_pos y];exact ko e
    ·rw[if_neg (by lia)]at e;rw[if_neg y];by_cases m:l<i/\i<=k
     ·rw[if_pos (by lia)]at e;rw[if_pos m];refine ko (e.trans ?_)
      congr 1;lia
     ·rw[if_neg (by lia)]at e;rw[if_neg m];exact ko e
   intro i j o p;show kO ws lo (bubble (arrOf a) (lo+k) (lo+k-(lo+l))) i<kO ws lo (bubble (arrOf a) (lo+k) (lo+k-(lo+l))) j;rw[g,g]
   repeat' split
   all_goals first
    |(exfalso;lia)
    |exact h2 _ (by lia)
    |exact q _ (by lia) (by lia)
    |exact f _ _ (by lia) (by lia)
 ·rintro c st' ⟨hc,d,f⟩;refine⟨hc,d,?_⟩
  rwa [show min (max (max ok 1) n) n=n by lia]at f
 ·by_cases z:ok=0
  ·lia
  ·exact u i j h1 (by lia)
 ·rintro c st' ⟨rfl,d,f⟩;exact wpS_pure (h st' d f)
end
theorem mQ:∀{s:Nat} {rs:List (List Keyed)} {p:List (Nat×Nat×Nat)},fH s rs p->p.length=rs.length
 |_,[],[],_=>rfl
 |_,[],_::_,h=>by cases h
 |_,_::_,[],h=>by cases h
 |s,r::rs,(t,n,pw)::p,⟨_,_,h⟩=>by rw[lC1,lC1,mQ h]
theorem ox:∀{s:Nat} {rs:List (List Keyed)} {p:List (Nat×Nat×Nat)} {r:List Keyed} {pw:Nat},fH s rs p->fH s (rs++[r]) (p++[(s+rs.flatten.length,r.length,pw)])
 |_,[],[],_,_,_=>⟨by simp,rfl,trivial⟩
 |_,[],_::_,_,_,h=>by cases h
 |_,_::_,[],_,_,h=>by cases h
 |s,r::rs,(t,n,pw)::p,r',pw',⟨e1,e2,h⟩=>by
  refine⟨e1,e2,?_⟩;have:=ox (r:=r') (pw:=pw') h
  rwa [bm,<- lA1,<- c8]at this
theorem rJ{g:Nat×Nat×Nat->Nat×Nat×Nat}(hg:∀x,(g x).1=x.1/\(g x).2.1=x.2.1):∀{s:Nat} {rs:List (List Keyed)} {p:List (Nat×Nat×Nat)} {k:Nat},fH s rs p->fH s rs (p.modify k g)
 |_,[],[],k,_=>by cases k<;>exact trivial
 |_,[],_::_,_,h=>by cases h
 |_,_::_,[],_,h=>by cases h
 |s,r::rs,(t,n,pw)::p,0,⟨e1,e2,h⟩=>by
  obtain⟨a,b⟩:=hg (t,n,pw);show fH s (r::rs) (g (t,n,pw)::p);exact⟨a.trans e1,b.trans e2,h⟩
 |s,r::rs,(t,n,pw)::p,k+1,⟨e1,e2,h⟩=>⟨e1,e2,rJ hg h⟩
section
variable{prog:dF}{w:dH}{A:dG}{E:dB->dD->Prop}{s:dD}{κ:SortKind}{ws:List dB}{a₀:Array Keyed}{rs:List (List Keyed)}{rest:List Keyed}{st st':SortSt}
theorem SR.size(h:SR ws κ a₀ rs rest st):rs.flatten.length+rest.length=a₀.size:=by
 have:=congrArg List.length h.ar;rw[aJ,h.pm.size_eq,lA1]at this;exact this.symm
theorem SR.many(h:SR ws κ a₀ rs rest st):rs.length<=rs.flatten.length:=by
 have:∀{l:List (List Keyed)},(∀r∈l,r≠[])->l.length<=l.flatten.length:=by
  intro l
  induction l with
  |nil=>intro _;exact nR1 _
  |cons r l ih=>
   intro a;have h1:=ih fun x b=>a x (mC1 _ b);have h2:0<r.length:=da.mpr (a r mS1);rw[lC1,c8,lA1];lia
 exact this fun r a=>(h.so r a).2
theorem SoL.sr(h:SR ws κ a₀ rs rest st)(b:SoL κ a₀ rs.flatten.length st st'):SR ws κ a₀ rs ((arrOf st').toList.drop rs.flatten.length) st':=by
 refine⟨b.kind,b.failed.trans h.f,b.perm,?_,h.so,by rw[b.pend];exact h.pe⟩;have:(arrOf st').toList.take rs.flatten.length=rs.flatten:=by
  have e:(arrOf st).toList.take rs.flatten.length=rs.flatten:=by rw[h.ar,de]
  rw[<- e];refine b5 fun i=>?_;by_cases hi:i<rs.flatten.length
  ·rw[e,aS hi,<- e,aS hi,aT1,aT1];exact b.pre i hi
  ·rw[e,b6 (by rw[aQ];lia),b6 (by lia)]
 conv=>lhs;rw[<- cK rs.flatten.length (arrOf st').toList,this]
theorem uU{lo n:Nat}(hp:(arrOf st').Perm a₀)(hn:lo+n<=a₀.size)(u:wo ws lo (arrOf st') n):Srt ws (((arrOf st').toList.drop lo).take n):=by
 refine cw.mpr fun i j hi b a=>?_;rw[aQ,aV]at hi b;have:=u i j a (by lia);have c:=hp.size_eq;rw[aJ]at hi b;unfold kO kR at this;rw[aG1 (show lo+i<(arrOf st').size by lia),aG1 (show lo+j<(arrOf st').size by lia)]at this;simpa using this
theorem Hr(C:ll prog w A s κ ws a₀){Q:Unit->SortSt->Prop}(h0:SR ws κ a₀ [] a₀.toList st)(h2:2<=a₀.size)(q:∀st',(arrOf st').Perm a₀->failedOf st'=none->Srt ws (arrOf st').toList->Q () st'):wpS (model prog w) A E s sortRuns' Q st:=by
 rw[sortRuns'_eq];refine wpS_bind (wpS_get ?_);dsimp only;generalize minRun' (arrOf st).size (arrOf st).size 0=mr;rw[h0.pm.size_eq];refine wpS_bind (wpS_mono (wpS_forRange (fun x c st'=>∃rs rest,SR ws κ a₀ rs rest st'/\c=(none,rs.flatten.length)/\x<=rs.flatten.length)
  (Q:=fun c st'=>∃rs lo,SR ws κ a₀ rs [] st'/\c=(none,lo)) ?_ ?_ ⟨[],a₀.toList,h0,rfl,nR1 _⟩) ?_)
 ·rintro x c st' _ S ⟨rs,rest,h,rfl,L⟩;have v:=h.size;dsimp only;by_cases z:rs.flatten.length>=a₀.size
  ·rw[if_pos z];have e:rest=[]:=cu.mp (by lia);subst e;exact wpS_pure ⟨rs,_,h,rfl⟩
  rw[if_neg z];refine wpS_bind (Gf (lo:=rs.flatten.length) (st0:=st') C (by lia) (by lia) ⟨h.pm,h.k,rfl,rfl,fun _ _=>rfl⟩ fun m st2 b m1 m2 u=>?_);dsimp only;have y:=b.sr h;have hsz2:=y.size;refine(fun(t:∀(n:Nat) (j:SortSt) (a:List Keyed),SR ws κ a₀ rs a j->Srt ws (a.take n)->1<=n->n<=a.length->(?T:Nat->SortSt->Prop) n j)=>?go) ?mn
  case go=>
   by_cases W:m<mr
   ·rw[if_pos W];refine wpS_bind (wpS_lift (wpAny_rule ⟨rfl,?_⟩));refine wpS_bind (GU (lo:=rs.flatten.length) (st0:=st') C (n:=min (a₀.size-rs.flatten.length) mr) (by lia) (by lia) b u fun j b3 u3=>?_);simp only[b7,bF1,if_false];have H:=b3.sr h;have Z:=H.size;have o:=uU b3.perm (by lia) u3;have T:1<=min (a₀.size-rs.flatten.length) mr:=by lia
    have F:min (a₀.size-rs.flatten.length) mr<=((arrOf j).toList.drop rs.flatten.length).length:=by lia
    generalize min (a₀.size-rs.flatten.length) mr=n at o T F ⊢;exact t n j _ H o T F
   ·rw[if_neg W];have o:=uU b.perm (by lia) u;have F:m<=((arrOf st2).toList.drop rs.flatten.length).length:=by lia
    generalize hst:st2=j at y o F ⊢;generalize hmn:m=n at o m1 F ⊢;exact t n j _ y o m1 F
  intro n j a P hs n1 O;refine wpS_bind (wpS_get ?_);have V:=P.size;refine(fun(p:∀(f:List (List Keyed)) (d:SortSt),SR ws κ a₀ f a d->(?T2:SortSt->Prop) d)=>?go2) ?mn2
  case go2=>
   cases hb:(pendingOf j).back? with
   |none=>
    dsimp only;exact p rs j P
   |some q1=>
    obtain⟨U,D,pw1⟩:=q1;dsimp only;generalize power' a₀.size (2*U+D) (2*U+D+D+n) a₀.size=pv;refine wpS_bind (wpS_mono (wpS_forRange (fun x c d=>c=(none,()) /\ ∃f,SR ws κ a₀ f a d) (Q:=fun c d=>c=(none,()) /\ ∃f,SR ws κ a₀ f a d) ?_ (fun _ _ h=>h) ⟨rfl,rs,P⟩) ?_)
    ·rintro x c d _ S ⟨rfl,f,k⟩;have B:=mQ k.pe;rw[aJ]at B;refine wpS_bind (wpS_get ?_);by_cases Y:(pendingOf d).size>1
     ·rw[if_pos Y,aG1 (show(pendingOf d).size-2<(pendingOf d).size by lia)];generalize (pendingOf d)[(pendingOf d).size-2]'(by lia)=pq;obtain⟨pa,pb,pc⟩:=pq;dsimp only;by_cases X:pc<=pv
      ·rw[if_pos X];exact wpS_pure ⟨rfl,f,k⟩
      ·rw[if_neg X];refine wpS_bind (k.merge C (i:=(pendingOf d).size-2) (gG1 (by lia)) (gG1 (by lia)) fun r l I=>?_);simp only[b7,bF1,if_false];exact wpS_pure ⟨rfl,_,I⟩
     ·rw[if_neg Y];exact wpS_pure ⟨rfl,f,k⟩
    ·rintro c d ⟨rfl,f,k⟩;dsimp only;refine wpS_bind (wpS_modify ?_);refine p f _ ⟨k.k,k.f,k.pm,k.ar,k.so,?_⟩;show fH 0 f ((pendingOf d).modify ((pendingOf d).size-1) _).toList;rw[Array.toList_modify];exact rJ (g:=fun x=>(x.1,x.2.1,pv)) (fun x=>⟨rfl,rfl⟩) k.pe
  intro f d k;have R:=k.size;have G:rs.flatten.length=f.flatten.length:=by lia
  refine wpS_bind (wpS_modify (wpS_pure ⟨f++[a.take n],a.drop n,⟨k.k,k.f,k.pm,?_,?_,?_⟩,?_,?_⟩))
  ·refine k.ar.trans ?_;rw[db,bI];simp
  ·intro r J;rcases aG.mp J with M|M
   ·exact k.so r M
   ·rw[cY.mp M];exact⟨hs,fun e=>by have:=congrArg List.length e;rw[aQ,bf]at this;lia⟩
  ·show fH 0 _ ((pendingOf d).push (rs.flatten.length,n,0)).toList;rw[cA,G];have:=ox (r:=a.take n) (pw:=0) k.pe
   rwa [bP,aQ,bC O]at this
  ·rw[db,lA1,G,List.flatten_singleton,aQ,bC O]
  ·rw[db,lA1,List.flatten_singleton,aQ,bC O];lia
 ·rintro c st' ⟨rs,rest,h,rfl,L⟩;have v:=h.size;have e:rest=[]:=cu.mp (by lia);subst e;exact⟨rs,_,h,rfl⟩
 ·rintro c st' ⟨rs,lo,h,rfl⟩;dsimp only;have v:=h.size;rw[bf,Nat.add_zero]at v;have N:=h.many;refine wpS_bind (wpS_mono (wpS_forRange (fun x c st2=>c=(none,()) /\ ∃rs,SR ws κ a₀ rs [] st2/\rs.length+x<=a₀.size) (Q:=fun c st2=>c=(none,()) /\ ∃rs,SR ws κ a₀ rs [] st2/\rs.length<=1) ?_ ?_ ⟨rfl,rs,h,by lia⟩) ?_)
  ·rintro x c st2 _ S ⟨rfl,rs,h,K⟩;have B:=mQ h.pe;rw[aJ]at B;refine wpS_bind (wpS_get ?_);by_cases z:(pendingOf st2).size<=1
   ·rw[if_pos z];exact wpS_pure ⟨rfl,rs,h,by lia⟩
   rw[if_neg z];have mg:∀i,i+1<rs.length -> ∀{Q:Bool->SortSt->Prop},(∀r l,SR ws κ a₀ r [] l->r.length+1=rs.length->Q true l)->wpS (model prog w) A E s (mergeAt' i) Q st2:=fun i hi Q hq=>
    h.merge C (i:=i) (gG1 (by lia)) (gG1 hi) fun r l I=>hq _ l I (by rw[lA1,lC1,aQ,aV];lia)
   refine wpS_bind (mg _ ?_ fun r l I hl5=>?_)
   ·split<;>lia
   ·simp only[b7,bF1,if_false];exact wpS_pure ⟨rfl,r,I,by lia⟩
  ·rintro c st2 ⟨rfl,rs,h,K⟩;exact⟨rfl,rs,h,by lia⟩
  ·rintro c st2 ⟨rfl,rs,h,K⟩;refine wpS_pure (q st2 h.pm h.f ?_);rw[h.ar,aM]
   match rs,K,h.so with
   |[],_,_=>exact .nil
   |[r],_,so=>simpa using(so r (by simp)).1
end
theorem DC{ws:List dB}{xs a₀:Array Keyed}(p:xs.Perm a₀)(h:Srt ws xs.toList):Up ws xs a₀.size:=fun i j a c=>by
 have b:=p.size_eq;have:=cw.mp h i j (by rw[aJ];lia) (by rw[aJ];lia) a;unfold kR;rw[aG1 (show i<xs.size by lia),aG1 (show j<xs.size by lia)];simpa using this
section
variable{prog:dF}{w:dH}{A:dG}{E:dB->dD->Prop}{s:dD}
theorem yr {a:dE}{vs ws:List dB}{n:Nat}{κ:SortKind}{P:Fin->dD->Prop}(ho:s.heap.get? a=some (seqObj "list" vs.toArray n))(v:vs.length<=dL)(hp:vs.Perm ws)
  (k:∀h',(∀b o,b≠a->s.heap.get? b=some o->h'.get? b=some o)->2<=vs.length->ll prog w A {s with heap:=h'} κ ws (pairsOf vs) /\ ∀Q:SortKind->dD->Prop,Q κ {s with heap:=h'}->dM (model prog w) A (keyKind' vs.toArray) Q E {s with heap:=h'})
  (h:P (.done (.ret .none)) {s with heap:=sortedHeap s.heap a vs ws.toArray}):dM (model prog w) A (Builtin.«list.sort» ⟨[.ref a],[]⟩) P E s:=by
 rw[list_sort_plain];have u:a<s.heap.objs.size:=hL1 ho;refine wB1 (listItems_at ho rfl ?_);refine wB1 (listUpdate_at ho rfl ?_);obtain⟨i,g⟩:∃i,(s.heap.update a (Obj.mapSeq fun _=> #[])).get? a=some (seqObj "list" #[] i):=⟨_,get?_update_seq ho (fun _=> #[])⟩;refine wB1 (seqEpoch_at g rfl (wB1 (wpAny_newTuple (wB1 (wpAny_newList (wpAny_holding ?_))))));have keep:∀b o,b≠a->s.heap.get? b=some o->(((s.heap.update a (Obj.mapSeq fun _=> #[])).push (seqObj "tuple" vs.toArray 0)).push (seqObj "list" #[] 0)).get? b=some o:=fun b o t e=>
  hP1 _ (hP1 _ (by rw[hU1 _ _ _ _ t];exact e))
 have c:(((s.heap.update a (Obj.mapSeq fun _=> #[])).push (seqObj "tuple" vs.toArray 0)).push (seqObj "list" #[] 0)).get? a=some (seqObj "list" #[] i):=hP1 _ (hP1 _ g);show dM (model prog w) A _ P E {s with heap:=((s.heap.update a (Obj.mapSeq fun _=> #[])).push (seqObj "tuple" vs.toArray 0)).push (seqObj "list" #[] 0)};dsimp only;have m:vs.toArray.size=vs.length:=by simp
 have d:=hp.length_eq;have f:∀xs:Array Keyed,xs.map (·.2)=ws.toArray->P (.done (.ret .none)) {s with heap:=sortedHeap s.heap a vs (xs.map (·.2))}:=fun xs e=>by rw[e];exact h
 by_cases h2:vs.toArray.size<2
 ·rw [if_pos h2,if_pos h2];refine wB1 (wP1 ?_);rw [StateT.run_pure];refine wB1 (wP1 (wB1 (seqEpoch_at c rfl ?_)));have e:((vs.toArray.zip vs.toArray).map (·.2):Array dB)=ws.toArray:=by
   have:vs=ws:=by
    match vs,ws,hp,h2 with
    |[],ws,hp,_=>exact(List.nil_perm.mp hp).symm
    |[x],ws,hp,_=>exact(List.singleton_perm.mp hp).symm ▸ rfl
    |_::_::_,_,_,h2=>simp at h2;lia
   subst this;apply Array.ext';simp;exact List.map_snd_zip (nR1 _)
  refine wB1 (listUpdate_at c rfl ?_ (hsz2:=by
   show(Array.map (·.2) (vs.toArray.zip vs.toArray)).size<=_;rw[e,sT1,<- d];lia))
  simp only[bne_self_eq_false,bF1,if_false];exact wP1 (f _ e)
 ·rw [if_neg h2,if_neg h2];obtain ⟨C,K⟩:=k _ keep (by lia);refine wB1 (K _ ?_);refine wB1 (wpAny_mono (Hr C (st:=SortSt.mk' κ (vs.toArray.zip vs.toArray) #[] 7 none)
   (Q:=fun _ st'=>(arrOf st').Perm (pairsOf vs)/\failedOf st'=none/\Srt ws (arrOf st').toList) ⟨rfl,rfl,Array.Perm.refl _,rfl,(fun r p=>by cases p),trivial⟩ (by rw[pairsOf_size];lia) fun st' a1 a2 a3=>⟨a1,a2,a3⟩) ?_ fun _ _ e=>e)
  rintro⟨⟨⟩,st'⟩ s' ⟨rfl,j,l,q⟩;have e:=DF C j (DC j q);refine wB1 (seqEpoch_at c rfl ?_);refine wB1 (listUpdate_at c rfl ?_ (hsz2:=by
   show(Array.map (·.2) (arrOf st')).size<=_;rw[e,sT1,<- d];lia))
  rw[l];simp only[bne_self_eq_false,bF1,if_false];exact wP1 (f _ e)
theorem tZ {v:dB}{vs ws:List dB}{κ:SortKind}{Q:dB->dD->Prop}(j:vs.length<=dL)(h:vs.Perm ws)
  (d:∀(E:dB->dD->Prop) (Q:List dB->dD->Prop),(∀h',(∀b u,s.heap.get? b=some u->h'.get? b=some u)->s.heap.objs.size<=h'.objs.size->Q vs {s with heap:=h'})->dM (model prog w) A.in1 (collect v) Q E s)
  (l:∀a:dN,(∀b u,s.heap.get? b=some u->a.get? b=some u)->ll prog w A.in1.in1 {s with heap:=a} κ ws (pairsOf vs) /\
   (vs≠[] -> ∀(E:dB->dD->Prop) (Q:SortKind->dD->Prop),Q κ {s with heap:=a}->dM (model prog w) A.in1.in1 (keyKind' vs.toArray) Q E {s with heap:=a}))
  (g:∀(a:dN) (L:dE) (n:Nat),(∀b u,s.heap.get? b=some u->a.get? b=some u)->s.heap.objs.size<=L->a.get? L=some (seqObj "list" ws.toArray n)->Q (.ref L) {s with heap:=a}):
  dM (model prog w) A (call (.builtin "sorted") [v]) Q E s:=by
 refine Calls.call_function_entry kind_sorted plain_sorted entry_sorted (args_sorted1 _) ?_;unfold Builtin.«sorted»;refine wB1 (m:=checkCount "sorted" 1 1 _) (wP1 ?_);refine wB1 (d _ _ fun h' keep f=>?_);refine wB1 (wpAny_newList (hsz:=j) ?_);have c:(h'.push (seqObj "list" vs.toArray 0)).get? h'.objs.size=some (seqObj "list" vs.toArray 0):=hS1 _ rfl;show dM _ _ _ _ _ {s with heap:=h'.push (seqObj "list" vs.toArray 0)};refine wB1 (wpAny_holding (wE1 slot_list_sort ⟨_,c,rfl⟩ entry_list_sort (yr (s:={s with heap:=h'.push (seqObj "list" vs.toArray 0)}) (κ:=κ) (ws:=ws) c j h (fun a o h2=>?_) ⟨_,rfl,?_⟩) (args_list_sort _)))
 ·have:=l a fun b u e=>o b u (nN1 (hL1 (keep b u e))) (hP1 _ (keep b u e));exact⟨this.1,this.2 (fun z=>by rw[z]at h2;simp at h2) _⟩
 ·obtain⟨n,i⟩:=sortedHeap_at (out:=ws.toArray) c;refine wP1 ⟨_,rfl,g _ h'.objs.size n (fun b u e=>?_) f i⟩;have k:b<h'.objs.size:=hL1 (keep b u e);show(sortedHeap (h'.push (seqObj "list" vs.toArray 0)) h'.objs.size vs ws.toArray).get? b=some u;rw[sortedHeap_old (nN1 k) (by rw[hZ1];exact cI k)];exact hP1 _ (keep b u e)
end
def nk:G1:=fun d S=>match d5 S d with
 |some (true,xs)=>(ng xs).bind fun _=>if(me xs&&(lB (jP xs)&&decide (xs.length<=100000)))=true then some (.ref S.length,S++[.lst (jP xs)])else none
 |_=>none
section
variable{X:Cx}
theorem Cz(R:X.A.units+64<cLine):fj X (.builtin "sorted") (rN X.K (b1 nk)):=by
 intro pins s σ H xs V Q I r h;obtain⟨x,mu,S,d,P,U,rfl,B,m,g,hc⟩:=DO h;unfold nk at g;split at g
 ·rename_i ds C;obtain⟨f,z,g⟩:=oB1.mp g;split at g
  ·rename_i c;cases g;rw[bA1,bA1,decide_eq_true_eq]at c;obtain⟨a,vs,rfl,q,t⟩:=ev B m C;obtain⟨u,rfl,r2⟩:=iJ r;cases r2;obtain⟨k,w,M,T⟩:=I.list q;have l:k.length=ds.length:=by rw[<- w.length,<- t.length]
   have i:k.length<=dL:=by rw[l,sizeLine_eq];lia
   obtain⟨p,zs,G,J,K,N,F⟩:=DE I m (A:=X.A.in1.in1) (by show X.A.units+1+1+60<cLine;lia) (f:=f) t w c.1 (uz z) c.2.1;refine tZ i K (fun E Q q=>?_) F (fun D L n keep y v=>?_)
   ·refine collect_list M.isList (q _ (fun b u e=>?_) ?_) i
    ·have O:b<s.heap.objs.size:=hL1 e;rw[hU1 _ _ _ _ (nN1 O)];exact hP1 _ e
    ·rw[Heap.size_update,hZ1];exact aX _
   ·have j:H L=none:=I.hok.fresh y;refine⟨.ref L,_,I.laid (t':=s.toks) (o:=.lst p) keep y ⟨?_,zs,n,J,v⟩,rfl,hc _ _ (mu++[L]) (Ext.new_ j) (.ref (fZ m.len _)) (m.newL G j)⟩;rw[N,w.length];exact i
  ·cases g
 ·cases g
end
theorem oY:entryFor table "dict.update.loop"=some Builtin.«dict.update.loop» :=entryFor_of_tree (by kernel_rfl)
theorem jg:plainId "dict.update.loop"=true:=by decide+kernel
theorem wN:typeLookup (.type "list") (Str.ofString "keys")=pure none:=by rw[typeLookup_type,builtinLookup_eq_fast];kernel_rfl
section
variable{P:dF}{w:dH}{A:dG}{E:dB->dD->Prop}{s:dD}
theorem xD {a:dE}{xs:Array dB}{k:Nat}{sl:Array (Option dB)}{Q:Option dB->dD->Prop}(hx:s.heap.get? a=some {cls:=.type "list",dict:=none,data:=.seq xs k,slots:=sl})(m:A.handled=none)
  (h:∀h' tk,(∀b o,s.heap.get? b=some o->h'.get? b=some o)->Q none {s with heap:=h',toks:=tk}):dM (model P w) A (getAttr? (.ref a) (Str.ofString "keys")) Q E s:=by
 obtain⟨j,g,d,tk,l⟩:=s;have i:∀f,(⟨j,g,d,f,l⟩:dD).TypeIs (.ref a) "list":=fun _=>⟨_,hx,rfl⟩;have r:=sub_AttributeError;have q:=PySem.F.slot_list_getattribute.lookup;have v:=PySem.F.slot_list_getattribute.bind (.ref a);have u:=am_list_getattr_none;unfold getAttr? getAttrBy? getAttrBy
 repeat(any_goals (first|assumption|exact i _|((with_reducible show dM _ _ (call (Value.builtin "list.__getattribute__") _ _) _ _ _);refine call_meets PySem.F.slot_list_getattribute (i _) am_entry_list_getattribute (PySem.F.args_list_getattribute_2 _ _) (meets_getattribute_miss_list a xs k sl _ _ wN (by decide) (by decide)) ⟨hx,m,fun h' f e c=>?_⟩)|wp_step))
 obtain⟨p,t,n⟩:=c.there;show dM _ _ (getattributeRaised _ _ _ _ _ _ _) _ _ _;unfold getattributeRaised
 repeat(any_goals (first|assumption|wp_step))
 exact h _ _ c.keeps
variable{K:Type} [DecidableEq K] {knd:HeapKind P w K}
abbrev tF(K:Type):=K×dE×dB
def gx(ps:List (tF K)):List (tF K):=ps.foldl (fun a q=>storedH a q.1 q.2.1 q.2.2) []
theorem ro(xs:List (tF K))(k:K)(a:dE)(v:dB):(storedH xs k a v).length<=xs.length+1:=by
 unfold storedH;split
 ·rw[lM1];exact aX _
 ·rw[lA1];exact nR1 _
theorem oT:∀(ps acc:List (tF K)),(ps.foldl (fun a q=>storedH a q.1 q.2.1 q.2.2) acc).length<=acc.length+ps.length
 |[],acc=>nR1 _
 |p::ps,acc=>by
  rw[cb,lC1];have h1:=oT ps (storedH acc p.1 p.2.1 p.2.2);have h2:=ro acc p.1 p.2.1 p.2.2;lia
theorem uC{ps:List (tF K)}{i:Nat}{q:tF K}(h:ps[i]?=some q):gx (ps.take (i+1))=storedH (gx (ps.take i)) q.1 q.2.1 q.2.2:=by
 unfold gx;rw[cH,h,List.foldl_append];rfl
theorem sE{F:tF K->Prop}(d:∀(k:K) (a:dE) (v e:dB),F (k,a,v)->F (k,a,e)):∀(ps acc:List (tF K)),(∀x∈ps,F x)->(∀x∈acc,F x) -> ∀x∈ps.foldl (fun a q=>storedH a q.1 q.2.1 q.2.2) acc,F x
 |[],acc,_,h=>h
 |p::ps,acc,hp,h=>by
  rw[cb];refine sE d ps _ (fun x b=>hp x (mC1 _ b)) fun x b=>?_;unfold storedH at b;split at b
  ·obtain⟨y,c,rfl⟩:=ci.mp b;unfold putAt;split
   ·exact d _ _ y.2.2 _ (h y c)
   ·exact h y c
  ·rcases aG.mp b with z|z
   ·exact h x z
   ·simp at z;subst z;exact hp p mS1
theorem Ac{h:dN}{ps:List (tF K)}(hp:∀x∈ps,knd.is h x.1 x.2.1):∀x∈gx ps,knd.is h x.1 x.2.1:=
 sE (F:=fun x=>knd.is h x.1 x.2.1) (fun _ _ _ _ z=>z) ps [] hp fun x a=>by cases a
theorem xl{d l it:dE}{h0:dN}{its:Array dB}{ps:List (tF K)}{R:Result->dD->Prop}(hh:A.handled=none)(hu:knd.room A.in1)(y:its.size=ps.length)(hps:ps.length<=dL)(U:h0.IsList l its)(nd:h0.get? d=none)(ni:h0.get? it=none)(g:d≠it)(f:∀(h:dN) (k:K) (a:dE),(∀c o,h0.get? c=some o->h.get? c=some o)->knd.is h0 k a->knd.is h k a)(W:∀(i:Nat) (q:tF K),ps[i]?=some q -> ∃D:dE,its[i]?=some (Value.ref D)/\h0.IsTuple D #[Value.ref q.2.1,q.2.2]/\knd.is h0 q.1 q.2.1):
  ∀(n i:Nat) (s:dD),its.size-i=n->i<=its.size->(∀c o,h0.get? c=some o->s.heap.get? c=some o)->s.heap.IsListIter it l i->s.heap.DictOfH knd d (gx (ps.take i)) ->
  (∀h' tk,(∀c o,h0.get? c=some o->h'.get? c=some o)->h'.DictOfH knd d (gx ps)->R (.ok (.ret .none)) {s with heap:=h',toks:=tk})->codeAny (model P w) A (.builtin "dict.update.loop" ⟨[.ref d,.ref it,.int i 0,.none],[]⟩) R s:=by
 have C:∀{c:dE} {o:Obj},h0.get? c=some o->c≠d/\c≠it:=fun{c o} e=>⟨fun z=>(by rw[z,nd]at e;cases e),fun z=>(by rw[z,ni]at e;cases e)⟩;have B:∀i,∀x∈gx (ps.take i),knd.is h0 x.1 x.2.1:=fun i=>Ac fun x m=>by
  obtain⟨j,hj⟩:=br (cO m);obtain⟨_,_,_,h⟩:=W j x hj;exact h
 intro n
 induction n with
 |zero=>
  intro i s hk hi keep st I q;have e:i=its.size:=by lia
  subst e;have p:s.heap.IsList l its:=by obtain⟨o,e,r⟩:=U;exact⟨o,keep _ _ e,r⟩
  refine wD1 oY (?_:_);rw[Around.under_plainId jg _];show dM _ A.in1 (pyNext (.ref it) >>= _) _ _ s;refine wB1 (wpAny_pyNext_list_end (by simpa using hh) st p (by simp) fun h' O=>?_);refine wB1 (wP1 (wP1 ?_));refine q h' s.toks (fun c o e=>O c o (C e).2 (keep c o e)) ?_;have u:h'.DictOfH knd d (gx (ps.take its.size)):=by
   obtain⟨o,es,ep,H,F,L,G,X,E⟩:=I;have k2:∀x∈gx (ps.take its.size),knd.is h' x.1 x.2.1:=fun x m=>f _ _ _ (fun c o e=>O c o (C e).2 (keep c o e)) (B _ x m);exact⟨o,es,ep,O d o g H,F,L,G,k2,E⟩
  rw[y,b4]at u;exact u
 |succ n ih=>
  intro i s hk hi keep st I q;have N:i<its.size:=by lia
  have p:s.heap.IsList l its:=by obtain⟨o,e,r⟩:=U;exact⟨o,keep _ _ e,r⟩
  obtain⟨pr,v⟩:∃pr,ps[i]?=some pr:=⟨_,gG1 (by lia)⟩;obtain⟨D,m,⟨op,V,hc,np,hd⟩,J⟩:=W i pr v;refine wD1 oY (?_:_);rw[Around.under_plainId jg _];show dM _ A.in1 (pyNext (.ref it) >>= _) _ _ s;refine wB1 (wpAny_pyNext_list_item st p m fun h' st' S=>?_);have b:∀c o,h0.get? c=some o->h'.get? c=some o:=fun c o e=>by rw[S.2 c (C e).2];exact keep c o e
  have Q:h'.DictOfH knd d (gx (ps.take i)):=by
   obtain⟨o,es,ep,H,F,L,G,X,E⟩:=I;exact⟨o,es,ep,by rw[S.2 d g];exact H,F,L,G,fun x m=>f _ _ _ b (B _ x m),E⟩
  show dM _ A.in1 (holding [Value.ref D] _ >>= _) _ _ _;refine wB1 (wpAny_holding (wB1 (wpAny_tryCatch ?_)));unfold Builtin.Dict.pairItems;refine wB1 (wpAny_typeOf (T:="tuple") ⟨op,b _ _ V,hc⟩ ?_);rw[if_pos (by decide)];refine wB1 (wpAny_seqItems (b _ _ V) hd (wP1 ?_));dsimp only[b9];refine wpAny_holding (wpAny_dictSet_heap (s:={s with heap:=h'}) hu (f _ _ _ b J) Q (fun h2 M t=>?_) ?_)
  ·refine wP1 ⟨plainId_quiet jg _,?_⟩;have Z:=ih (i+1) {s with heap:=h2,toks:=s.toks+knd.draws pr.1} (by lia) N (fun c o e=>by rw [t.2 c (C e).1];exact b c o e) (by
    obtain⟨o,e1,e2⟩:=st';exact⟨o,by rw[t.2 it (Ne.symm g)];exact e1,e2⟩) (by rw[uC v];exact M) fun h3 tk k3 Y=>q h3 tk k3 Y
   exact Z
  ·have:=oT (ps.take i) [];unfold gx;rw[aQ]at this;simp at this;lia
theorem uJ {l:dE}{xs:Array dB}{kl:Nat}{sl:Array (Option dB)}{Q:dB->dD->Prop}(p:A.handled=none)(hx:s.heap.get? l=some {cls:=.type "list",dict:=none,data:=.seq xs kl,slots:=sl})
  (j:∀(i:dG) (h1:dN) (tk:Nat) (it:dE),i.handled=none->i.units<=A.units+2->(∀b o,s.heap.get? b=some o->h1.get? b=some o)->s.heap.get? it=none->s.heap.objs.size≠it->h1.IsListIter it l 0->h1.DictOfH knd s.heap.objs.size [] ->
   ∀R:Result->dD->Prop,(∀s',Q (.ref s.heap.objs.size) s'->R (.ok (.ret .none)) s')->codeAny (model P w) i (.builtin "dict.update.loop" ⟨[.ref s.heap.objs.size,.ref it,.int 0 0,.none],[]⟩) R {s with heap:=h1,toks:=tk}):
  dM (model P w) A (call (.type "dict") [.ref l]) Q E s:=by
 refine callType_codes (Q₁:=fun g c=>g = .ref s.heap.objs.size/\c={s with heap:=s.heap.push {cls:=.type "dict",data:=.dict #[]}}) PySem.F.kt_called_dict (PySem.F.kt_typeCall_dict_1 _) PySem.F.entry_dict_init (kt_code_dict_new _ ⟨rfl,rfl⟩) ?_;rintro g c ⟨rfl,rfl⟩;have f:(s.heap.push {cls:=.type "dict",data:=.dict #[]}).DictOfH knd s.heap.objs.size []:=Heap.DictOfH.new s.heap;have n:Shared.TypeIs {s with heap:=s.heap.push {cls:=.type "dict",data:=.dict #[]}} (.ref s.heap.objs.size) "dict":=f.typeIs;have h:(s.heap.push {cls:=.type "dict",data:=.dict #[]}).get? l=some {cls:=.type "list",dict:=none,data:=.seq xs kl,slots:=sl}:=hP1 _ hx;refine⟨n,PySem.F.args_dict_init_2 _ _,?_⟩;unfold Builtin.«dict.__init__»;refine wB1 ?_;unfold Builtin.Dict.selfAndRest;refine wB1 (wpAny_notOrdered_dict n ?_);show dM _ _ (pure (s.heap.objs.size,[Value.ref l])) _ _ _;refine wP1 ?_;show dM _ _ (Builtin.Dict.updateFrom "dict.__init__" s.heap.objs.size (.ref l) [] .none) _ _ _;unfold Builtin.Dict.updateFrom;refine wB1 (wpAny_typeOf (T:="list") ⟨_,h,rfl⟩ ?_);rw[if_pos (by decide)];refine wB1 (xD (s:={s with heap:=s.heap.push {cls:=.type "dict",data:=.dict #[]}}) h (by simpa using p) fun h1 tk keep=>?_);rw[if_pos (show(none:Option dB).isNone=true from rfl)];have a:∀b o,s.heap.get? b=some o->h1.get? b=some o:=fun b o e=>keep b o (hP1 _ e);have y:h1.IsList l xs:=⟨_,a _ _ hx,rfl,kl,rfl⟩;refine wB1 (wpAny_rule (wB1 (wpAny_pyIter_list (s:={s with heap:=h1,toks:=tk}) y ?_)));obtain⟨B,es,ep,v,t,z,u,C,r⟩:=f;have m:=keep _ _ v;have k:=hL1 m;have d:h1.get? h1.objs.size=none:=Heap.get?_none_of_le (nR1 _);refine wB1 (wP1 (wP1 ⟨plainId_quiet jg _,?_⟩));refine j A.in1 _ tk h1.objs.size (by simpa using p) (aX _) (fun b o e=>hP1 _ (a b o e)) ?_ (nN1 k) ?_ ?_ _ fun s' q=>⟨rfl,q⟩
 ·cases e:s.heap.get? h1.objs.size with
  |none=>rfl
  |some o=>rw[a _ _ e]at d;cases d
 ·exact⟨_,hS1 _ rfl,rfl,rfl⟩
 ·exact⟨B,es,ep,hP1 _ m,t,z,u,(fun x hx=>by cases hx),r⟩
end
def Ju(F:List (TK×D)):Ob:=match F with
 |[]=>.dct []
 |_=>.dcT F
def vn:D->Option (TK×D)
 | .tup [k,v]=>(keyT k).map fun k=>(k,v)
 |_=>none
def iQ:List D->Option (List (TK×D))
 |[]=>some []
 |x::xs=>(vn x).bind fun p=>(iQ xs).map (p :: ·)
def lJ(ps:List (TK×D)):List (TK×D):=ps.foldl (fun F p=>e6 F p.1 p.2) []
def no:G1:=fun d S=>match d5 S d with
 |some (true,xs)=>(iQ xs).bind fun ps=>if xs.length<=100000 then some (.ref S.length,S++[Ju (lJ ps)])else none
 |_=>none
section
variable{X:Cx}{pins:List (dE×Obj)}{σ:L2.St}{H:Hp}{s:dD}{mu:List dE}
theorem y1(I:Inv X pins σ H s){d:D}{v:V}{u:dB}{p:TK×D}(r:eJ X.K H mu d v)(q:d6 v u)(h:vn d=some p):
  ∃w:tF TK,(p.1=w.1/\p.1.dep<=8/\eJ X.K H mu (tkD p.1) (.ref w.2.1) /\ ∃v,d6 v w.2.2/\eJ X.K H mu p.2 v) /\ ∃g:dE,u = .ref g/\s.heap.IsTuple g #[Value.ref w.2.1,w.2.2]/\(fP X.prog X.w).is s.heap w.1 w.2.1:=by
 unfold vn at h;split at h
 ·rename_i k x;obtain⟨z,i,e⟩:=oM1.mp h;subst e;cases r with
  | @tup _ a vs h1 h2=>
   cases q;obtain⟨j,l,t,_⟩:=I.tuple h1;cases h2 with
   |cons y f=>cases f with
    |cons r2 c=>
     cases c;cases l with
     |cons o f=>cases f with
      |cons m c=>
       cases c;obtain⟨b,rfl,rfl,rk,n,hi⟩:=iW I y o i;exact⟨(z,b,_),⟨rfl,n,rk,_,m,r2⟩,_,rfl,t,hi⟩
 ·cases h
theorem oB(I:Inv X pins σ H s):∀ {ds:List D} {vs:List V} {b:List dB} {ps:List (TK×D)},d0 X.K H mu ds vs->ei vs b->iQ ds=some ps ->
  ∃ws:List (tF TK),KT X.K H mu ps ws/\ws.length=b.length /\ ∀(i:Nat) (q:tF TK),ws[i]?=some q -> ∃a:dE,b[i]?=some (Value.ref a)/\s.heap.IsTuple a #[Value.ref q.2.1,q.2.2]/\(fP X.prog X.w).is s.heap q.1 q.2.1
 |[],_,_,ps,.nil,.nil,h=>by cases h;exact⟨[],.nil,rfl,fun i q h=>by simp at h⟩
 |d::ds,_,_,ps,.cons r t,.cons q c,h=>by
  rw[iQ]at h;obtain⟨p,n,h⟩:=oB1.mp h;obtain⟨k,f,h⟩:=oM1.mp h;subst h;obtain⟨w,e,a,m,l,g⟩:=y1 I r q n;obtain⟨ws,h1,h2,j⟩:=oB I t c f;refine⟨w::ws,.cons e h1,by rw[lC1,lC1,h2],fun i q h=>?_⟩;cases i with
  |zero=>simp at h;subst h;exact⟨a,by rw[m];rfl,l,g⟩
  |succ i=>exact j i q (by simpa using h)
theorem KT.fold{K:Fg1}:∀{ps:List (TK×D)} {ws:List (tF TK)} {as:List (TK×D)} {bs:List (tF TK)},KT K H mu ps ws->KT K H mu as bs->KT K H mu (ps.foldl (fun F p=>e6 F p.1 p.2) as) (ws.foldl (fun a q=>storedH a q.1 q.2.1 q.2.2) bs):=by
 intro ps ws as bs h
 induction h generalizing as bs with
 |nil=>exact fun g=>g
 | @cons p q ps ws r t ih=>
  intro g;obtain⟨e,c,rk,v,b,r2⟩:=r;rw[cb,cb,<- e];exact ih (g.put c rk b r2)
theorem xf(ps:List (TK×D)):(lJ ps).length<=ps.length:=by
 have:∀(ps a:List (TK×D)),(ps.foldl (fun F p=>e6 F p.1 p.2) a).length<=a.length+ps.length:=by
  intro ps
  induction ps with
  |nil=>intro a;exact nR1 _
  |cons p ps ih=>
   intro a;rw[cb,lC1];have h1:=ih (e6 a p.1 p.2);have h2:=lH a p.1 p.2;lia
 have:=this ps [];simpa[lJ]using this
theorem mR:∀{ds:List D} {ps:List (TK×D)},iQ ds=some ps->ps.length=ds.length
 |[],ps,h=>by cases h;rfl
 |d::ds,ps,h=>by
  rw[iQ]at h;obtain⟨p,c,h⟩:=oB1.mp h;obtain⟨a,b,h⟩:=oM1.mp h;subst h;rw[lC1,lC1,mR b]
theorem CB{k:Nat}(hr:fN k X.A):fj X (.type "dict") (rN X.K (b1 no)):=by
 intro pins s σ H xs us Q I r h;obtain⟨x,mu,S,d,r',S',rfl,V,v,c,hc⟩:=DO h;unfold no at c;split at c
 ·rename_i ds Z;obtain⟨ps,ep,c⟩:=oB1.mp c;split at c
  ·rename_i hl;cases c;obtain⟨a,vs,rfl,q,t⟩:=ev V v Z;obtain⟨u,rfl,r2⟩:=iJ r;cases r2;obtain⟨C,N,ht,hz⟩:=I.list q;obtain⟨ws,kt,w,hP⟩:=oB I t N ep;have D:C.length=ds.length:=by rw[<- N.length,<- t.length]
   obtain⟨O,n,M,l,A,f⟩:=ht;obtain⟨oc,od,oa,os⟩:=O;dsimp only at l A f
   subst l A f
   have hu:=hr.un;refine uJ (knd:=fP X.prog X.w) hr.hd M fun P h1 tk it L hAu keep ni ne st Y R hR=>?_;have J:ws.length<=100000:=by rw[w,D];exact hl
   have big:ws.length<=dL:=aC J (by decide);refine xl (knd:=fP X.prog X.w) (h0:=s.heap) (its:=C.toArray) (ps:=ws) L (by show P.units+1+8<cLine;lia) (by rw[sT1];exact w.symm) big ⟨_,M,rfl,n,rfl⟩ (Heap.get?_none_of_le (nR1 _)) ni ne
    (fun h k a e z=>⟨z.1.grows e,z.2⟩) (fun i q e=>?_) _ 0 _ rfl (bi _) keep st (by simpa[gx]using Y) fun h' E b g=>hR _ ?_
   ·obtain⟨pa,e1,e2,e3⟩:=hP i q e;exact⟨pa,by rw[cm];exact e1,e2,e3⟩
   ·have B:H s.heap.objs.size=none:=I.fresh;have j:KT X.K H mu (lJ ps) (gx ws):=KT.fold kt .nil;have y:(s.heap.objs.size == sysModules)=false:=beq_eq_false_iff_ne.mpr (Ne.symm (nN1 I.big));have m:(gx ws).length<=dL:=by
     rw[<- j.length];have h1:=xf ps;have h2:=mR ep;exact aC (by lia:(lJ ps).length<=100000) (by decide)
    cases ef:lJ ps with
    |nil=>
     rw[ef]at j hc;generalize gx ws=fw at j g m;cases j;obtain⟨o,es,K,W,T,g3,U,g5,g6⟩:=g;have G:es = #[]:=Array.toList_inj.mp (by simpa using U);subst G;refine⟨.ref s.heap.objs.size,upd H s.heap.objs.size (.dK []),I.laid (t':=E) (o:=.dK []) b (nR1 _) ⟨bi _,y,[],.nil,o,#[],K,W,T,g3,?_,?_,bq⟩,rfl,hc _ _ (mu++[s.heap.objs.size]) (Ext.new_ B) (.ref (fZ v.len _)) (v.new B ⟨[],d3,.nil⟩)⟩
     ·intro e G;simp at G
     ·exact .nil
    |cons p F=>
     rw[ef]at j hc;refine⟨.ref s.heap.objs.size,upd H s.heap.objs.size (.ext (gb s.heap.objs.size (gx ws))),I.laid (t':=E) b (nR1 _) (qv y g),rfl,hc _ _ (mu++[s.heap.objs.size]) (Ext.new_ B) (.ref (fZ v.len _)) (v.new B ⟨_,d3,j.ext (Ext.new_ B),m⟩)⟩
  ·cases c
 ·cases c
end
mutual
def D.mv(h n:Nat):D->D
 | .tup xs=>.tup (D.mvs h n xs)
 | .rol xs=>.rol (D.mvs h n xs)
 | .ref 0=>.ref h
 | .ref (k+1)=>.ref (n+k)
 | .fn x=>.fn x
 | .non=>.non
 | .bl b=>.bl b
 | .int i=>.int i
 | .str x=>.str x
def D.mvs(h n:Nat):List D->List D
 |[]=>[]
 |d::ds=>D.mv h n d::D.mvs h n ds
end
def Ob.mv(h n:Nat):Ob->Ob
 | .lst xs=>.lst (D.mvs h n xs)
 | .dct kvs=>.dct (kvs.map fun p=>(p.1,p.2.mv h n))
 | .dcT kvs=>.dcT (kvs.map fun p=>(p.1,p.2.mv h n))
 | .iset xs=>.iset xs
 | .dcF kvs=>.dcF (kvs.map fun p=>(p.1,p.2.mv h n))
 | .tst ks=>.tst ks
section
variable{K:Fg1}{H:Hp}{mu nu:List dE}{a:dE}{h:Nat}
theorem eJ.mv(ha:mu[h]? = some a):∀ {d:D} {v:V},eJ K H (a::nu) d v->eJ K H (mu++nu) (d.mv h mu.length) v:=fun c=>c.rec (motive_1:=fun d v _=>eJ K H (mu++nu) (d.mv h mu.length) v) (motive_2:=fun ds vs _=>d0 K H (mu++nu) (D.mvs h mu.length ds) vs)
  .non .bl .int .str (fun h _ ih=>.tup h ih) (fun h _ ih=>.rol h ih) (fun{n b} e=>by
   cases n with
   |zero=>
    have:a=b:=by simpa using e
    subst this;exact .ref (by rw[gL1 (gE1.mp ha).1];exact ha)
   |succ k=>exact .ref (by rw[gR1 (bt _ _),bu];simpa using e)) (fun h=>.fn h) .nil (fun _ _ a b=>.cons a b)
theorem d0.mv(ha:mu[h]?=some a):∀{ds:List D} {vs:List V},d0 K H (a::nu) ds vs->d0 K H (mu++nu) (D.mvs h mu.length ds) vs:=fun b=>b.ind (P:=fun ds vs _=>d0 K H (mu++nu) (D.mvs h mu.length ds) vs) .nil fun r _ ih=>.cons (eJ.mv ha r) ih
theorem KR.mv{κ:Type}(ha:mu[h]?=some a):∀{ks:List (κ×D)} {ws:List (κ×V)},KR K H (a::nu) ks ws->KR K H (mu++nu) (ks.map fun p=>(p.1,p.2.mv h mu.length)) ws:=by
 intro ks ws b
 induction b with
 |nil=>exact .nil
 |cons r t ih=>exact .cons ⟨r.1,r.2.mv ha⟩ ih
mutual
theorem CS(h n:Nat):∀k:TK,(tkD k).mv h n=tkD k
 | .non=>rfl
 | .int _=>rfl
 | .tup xs=>by rw[tkD,D.mv,yf h n xs]
theorem yf(h n:Nat):∀ks:List TK,D.mvs h n (hD ks)=hD ks
 |[]=>rfl
 |x::xs=>by rw[hD,D.mvs,CS h n x,yf h n xs]
end
theorem KT.mv(ha:mu[h]?=some a):∀{ks:List (TK×D)} {ws:List (TK×dE×dB)},KT K H (a::nu) ks ws->KT K H (mu++nu) (ks.map fun p=>(p.1,p.2.mv h mu.length)) ws:=by
 intro ks ws c
 induction c with
 |nil=>exact .nil
 |cons r t ih=>
  obtain⟨z,d,k,v,b,r⟩:=r;exact .cons ⟨z,d,by have:=k.mv ha;rw[CS]at this;exact this,v,b,r.mv ha⟩ ih
theorem jH.mv{b:dE}(ha:mu[h]?=some a):∀{o:Ob},jH K H (a::nu) b o->jH K H (mu++nu) b (o.mv h mu.length)
 | .lst _,⟨vs,e,r⟩=>⟨vs,e,r.mv ha⟩
 | .dct _,⟨ws,e,r⟩=>⟨ws,e,KR.mv ha r⟩
 | .dcT _,⟨ws,e,r,l⟩=>⟨ws,e,KT.mv ha r,l⟩
 | .iset _,q=>q
 | .dcF _,⟨ws,e,r,l⟩=>⟨ws,e,KT.mv ha r,l⟩
 | .tst ks,⟨ws,e,r⟩=>⟨ws,e,by have:=KT.mv ha r;rw[bv]at this;exact this⟩
end
def apart(f:FN):FN:=fun ds S=>match ds with
 | .ref h::es=>if D.unds 0 es=true then (S[h]?).bind fun o=>if o.und 0=true then (lR f (.ref 0::es) [o]).bind fun p=>match p.2 with
   |o'::G=>if o'.und 0=true then(if p.1.und 0=true then some (p.1,S.set h o')else some (p.1.mv h S.length,S.set h o'++G.map (Ob.mv h S.length)))else none
   |[]=>none
  else none
  else none
 |_=>none
theorem AE{K:Fg1}{f:FN}{vs:List V}{H:Hp}{Q:VK}(q:rN K (apart f) vs H Q):rN K f vs H Q:=by
 obtain⟨mu,S,ds,d,S',hr,j,g,hc⟩:=q;unfold apart at g;split at g
 ·rename_i h es;split at g
  ·rename_i C;obtain⟨o,F,g⟩:=oB1.mp g;split at g
   ·rename_i T;obtain⟨⟨N,I⟩,e1,g⟩:=oB1.mp g;cases hr with
    | @cons _ v _ vt r0 P=>
    cases r0 with
    | @ref _ a p=>
    have i:∀{m1 m2:List dE} (k:Nat),k<0->m1[k]?=m2[k]?:=fun k hk=>absurd hk (bA _);refine sZ ⟨[a],[o],.ref 0::es,N,I,.cons (.ref rfl) (P.cut (n:=0) i C),⟨rfl,by simp,fun n o2 b h1 h2=>?_⟩,e1,fun v H' mu' x r s=>?_⟩
    ·cases n with
     |zero=>
      have X:o=o2:=by simpa using h1
      have U:a=b:=by simpa using h2
      subst X U;exact(j.ob h o a F p).cut (n:=0) i T
     |succ n=>simp at h1
    ·obtain⟨nu,B⟩:=x.pre;have w:mu'=a::nu:=B.symm;subst w;dsimp only at g;cases I with
     |nil=>cases g
     |cons o' G=>
      dsimp only at g;split at g
      ·rename_i A;have t:Ext mu mu H H':=⟨bn,fun b z e W=>x.old b z e (fun l=>W (by rw [cY.mp l];exact gM1 p)),x.tup,x.frz,fun _ z=>.inl z⟩;have m:∀ (n:Nat) (z:Ob) (b:dE),(S.set h o')[n]? = some z->mu[n]? = some b->jH K H' mu b z:=fun n z b h1 h2=>by
        by_cases e:h=n
        ·subst e;rw[aI (gE1.mp F).1]at h1;cases h1;rw[p]at h2;cases h2;exact(s.ob 0 o' a rfl rfl).cut (n:=0) i A
        ·rw[gS1 e]at h1;refine(j.ob n z b h1 h2).keep t fun u L=>x.old b u L fun l=>?_;have l:=cY.mp l;subst l;exact e ((List.getElem?_inj (gE1.mp p).1 j.nd).mp (p.trans h2.symm))
       split at g
       ·rename_i Z;cases g;exact hc v H' mu t (r.cut (n:=0) i Z) ⟨by rw[aW];exact j.len,j.nd,m⟩
       ·cases g;have snd:=s.nd;rw [aN] at snd;have J:∀ b∈nu,H b=none:=fun b l=>by
         rcases x.new b (mC1 _ l)with z|z
         ·rw[cY.mp z]at l;exact absurd l snd.1
         ·exact z
        have Y:Ext mu (mu++nu) H H':=⟨bw _ _,t.old,t.tup,t.frz,fun b z=>by
         rcases aG.mp z with z|z
         ·exact .inl z
         ·exact .inr (J b z)⟩
        refine hc v H' (mu++nu) Y (by rw[<- j.len];exact r.mv p) ⟨?_,?_,fun n z b h1 h2=>?_⟩
        ·have:=s.len;simp only[lC1]at this;rw[lA1,lA1,lM1,aW,j.len];lia
        ·refine bB.mpr ⟨j.nd,snd.2,fun b l c E z=>?_⟩;subst z;obtain⟨o2,e⟩:=j.here l;rw[J b E]at e;cases e
        ·by_cases D:n<S.length
         ·rw[gL1 (by rw[aW];exact D)]at h1;rw[gL1 (by rw[j.len];exact D)]at h2;exact(m n z b h1 h2).mor nu
         ·have y:=a0 D;rw[gR1 (by rw[aW];exact y),aW]at h1;rw[gR1 (by rw[j.len];exact y),j.len]at h2;rw[gP1]at h1;obtain⟨R,O,M⟩:=oM1.mp h1;subst M;have q:=s.ob (n-S.length+1) R b (by rw[gC1];exact O) (by rw[gC1];exact h2);rw[<- j.len];exact q.mv p
      ·cases g
   ·cases g
  ·cases g
 ·cases g
theorem fO.ap{P:dF}{w:dH}{K:Fg1}{mg:Str->Option dB}{base:dN}{k:Nat}{x:Str}{n:Nat}{m:FN}(h:fO P w K mg base k x n m):fO P w K mg base k x n (apart m):=by
 obtain⟨f,fd,ps,F,b,a,c⟩:=h;exact⟨f,fd,ps,F.imp fun vs H Q E q=>⟨q.1,AE q.2⟩,b,a,c⟩
def W{α:Type}(o:Option α)(Q:α->Prop):Prop:=∃x,o=some x/\Q x
section
variable{α β:Type}{Q:α->Prop}
theorem eB{x:α}:W (some x) Q↔Q x:=⟨fun⟨_,e,h⟩=>(by cases e;exact h),fun h=>⟨x,rfl,h⟩⟩
theorem jG:W (none:Option α) Q↔False:=⟨fun⟨_,e,_⟩=>(by cases e),False.elim⟩
theorem d4{o:Option β}{f:β->Option α}:W (o.bind f) Q↔W o fun x=>W (f x) Q:=by
 cases o with
 |none=>exact⟨fun⟨_,e,_⟩=>(by cases e),fun⟨_,e,_⟩=>(by cases e)⟩
 |some x=>exact⟨fun h=>⟨x,rfl,h⟩,fun⟨_,e,h⟩=>by cases e;exact h⟩
theorem kN{o:Option β}{f:β->α}:W (o.map f) Q↔W o fun x=>Q (f x):=by
 cases o with
 |none=>exact⟨fun⟨_,e,_⟩=>(by cases e),fun⟨_,e,_⟩=>(by cases e)⟩
 |some x=>exact⟨fun⟨_,e,h⟩=>(by cases e;exact⟨x,rfl,h⟩),fun⟨_,e,h⟩=>(by cases e;exact⟨_,rfl,h⟩)⟩
theorem tm{c:Prop}[Decidable c]{a b:Option α}:W (if c then a else b) Q↔if c then W a Q else W b Q:=by split<;>exact Iff.rfl
theorem W.mono{o:Option α}{Q':α->Prop}(h:W o Q)(k:∀x,Q x->Q' x):W o Q':=let ⟨x,e,q⟩:=h;⟨x,e,k x q⟩
theorem W.of{o:Option α}{x:α}(e:o=some x)(h:Q x):W o Q:=⟨x,e,h⟩
end
theorem eF{a b:FS}{r:Ev}{S:Sto}{Q:Fl×Ev×Sto->Prop}(R:Ev->Sto->Prop)(h1:W (a r S) fun p=>p.1 = .nx/\R p.2.1 p.2.2)(h2:∀r S,R r S->W (b r S) Q):W (d8 a b r S) Q:=by
 obtain⟨⟨f,h,g⟩,e,c,d⟩:=h1;dsimp only at c d;subst c;unfold d8;rw[e];exact h2 h g d
theorem nr{n:Nat}{b:FS}{ds:List D}{S:Sto}{Q:D×Sto->Prop}(h:W (b (hE n ds) S) fun p=>match p.1 with
  | .rt d=>Q (d,p.2.2)
  | .nx=>Q (.non,p.2.2)
  |_=>False):W (iC n b ds S) Q:=by
 obtain⟨⟨f,c,a⟩,e,q⟩:=h;unfold iC;rw[e];cases f with
 |rt d=>exact⟨_,rfl,q⟩
 |nx=>exact⟨_,rfl,q⟩
 |bk=>exact q.elim
 |ct=>exact q.elim
theorem lP{n:Nat}{f:FN}{ds:List D}{S:Sto}{Q:D×Sto->Prop}(hn:ds.length=n)(a:D.unds 0 ds=false)(h:W (f ds S) fun p=>Q (gc S.length p)):W (dX n f ds S) Q:=by
 obtain⟨⟨d,b⟩,e,q⟩:=h;exact⟨_,pd e hn a,q⟩
theorem lQ{n:Nat}{f:FN}{ds:List D}{S:Sto}{Q:D×Sto->Prop}(hn:ds.length=n)(b:D.unds 0 ds=true)(h:W (f ds []) fun p=>p.1.und 0=true/\Q (p.1,S)):W (dX n f ds S) Q:=by
 obtain⟨⟨d,g⟩,e,c,a⟩:=h;exact⟨_,xy e hn b c,a⟩
mutual
theorem fr{n:Nat}:∀{d:D},d.und 0=true->d.und n=true
 | .non,_=>rfl
 | .bl _,_=>rfl
 | .int _,_=>rfl
 | .str _,_=>rfl
 | .tup xs,h=>by rw[D.und]at h ⊢;exact hL h
 | .rol xs,h=>by rw[D.und]at h ⊢;exact hL h
 | .fn _,_=>rfl
 | .ref k,h=>by simp[D.und]at h
theorem hL{n:Nat}:∀{ds:List D},D.unds 0 ds=true->D.unds n ds=true
 |[],_=>rfl
 |d::ds,h=>by
  rw[D.unds,bA1]at h ⊢;exact⟨fr h.1,hL h.2⟩
end
theorem wa{n:Nat}{f:FN}{ds:List D}{o:Ob}{T:Sto}{Q:D×Sto->Prop}(hn:ds.length=n)(c:D.unds 0 ds=false)(b:T.all (Ob.und (T.length+1))=true)(h:W (f ds (o::T)) fun p=>∃d o' G,p=(d,o'::(T++G))/\d.und 0=true/\o'.und (T.length+1)=true/\Q (d,o'::T)):W (dX n f ds (o::T)) Q:=by
 refine lP hn c (h.mono ?_);rintro p ⟨d,o',G,rfl,a,g,q⟩;have e:(o'::(T++G)).take (T.length+1)=o'::T:=by simp
 unfold gc;dsimp only[lC1];rw[if_pos (by rw[e,fr a,bR,g,b];rfl),e];exact q
theorem fV{c:List (Nat×List D)}{g:FG}{b:FS}{Q:Fl×Ev×Sto->Prop}(I:Nat->Ev->Sto->Prop):∀ (items:List D) (k:Nat) (r:Ev) (S:Sto),I k r S ->
  (∀i r S,I i r S->oC S c=true) ->
  (∀i d,items[i]?=some d -> ∀r S,I (k+i) r S->W (g d r S) fun p=>W (b p.1 p.2) fun q=>q.1 = .nx/\I (k+i+1) q.2.1 q.2.2) ->
  (∀r S,I (k+items.length) r S->Q (.nx,r,S))->W (kk c g b items r S) Q
 |[],k,r,S,hi,hok,_,hq=>by rw[kk];dsimp only;rw[if_pos (hok _ _ _ hi),eB];exact hq r S (by simpa using hi)
 |d::ds,k,r,S,hi,hok,hs,hq=>by
  rw[kk];dsimp only;rw[if_pos (hok _ _ _ hi),d4];obtain⟨p,o,h1⟩:=hs 0 d rfl r S (by simpa using hi);refine⟨p,o,?_⟩;dsimp only;rw[d4];obtain⟨⟨f,n,m⟩,h,h2,e⟩:=h1;refine⟨_,h,?_⟩;dsimp only at h2 e ⊢;subst h2;refine fV I ds (k+1) n m (by simpa using e) hok (fun i l j r S a=>?_) fun r S a=>hq r S (by rw[lC1,show k+(ds.length+1)=k+1+ds.length by lia];exact a);have:=hs (i+1) l (by simpa using j) r S (by rw[show k+(i+1)=k+1+i by lia];exact a);rw[show k+(i+1)+1=k+1+i+1 by lia]at this;exact this
theorem ji{c:List (Nat×List D)}{g:FG}{t:FT}{e:FE}{Q:List D×Ev×Sto->Prop}(I:Nat->List D->Ev->Sto->Prop):∀ (items:List D) (k:Nat) (acc:List D) (r:Ev) (S:Sto),I k acc r S ->
  (∀i acc r S,I i acc r S->oC S c=true) ->
  (∀i d,items[i]?=some d -> ∀acc r S,I (k+i) acc r S->W (g d r S) fun p=>W (t p.1 p.2) fun b=>if b.1=true then W (e p.1 b.2) fun x=>I (k+i+1) (acc++[x.1]) p.1 x.2 else I (k+i+1) acc p.1 b.2) ->
  (∀xs r S,I (k+items.length) (acc++xs) r S->Q (xs,r,S))->W (fM c g t (eI e) items r S) Q
 |[],k,acc,r,S,hi,hok,_,hq=>by rw[fM];dsimp only;rw[if_pos (hok _ _ _ _ hi),eB];exact hq [] r S (by simpa using hi)
 |d::ds,k,acc,r,S,hi,hok,hs,hq=>by
  rw[fM];dsimp only;rw[if_pos (hok _ _ _ _ hi),d4];obtain⟨p,q,h1⟩:=hs 0 d rfl acc r S (by simpa using hi);refine⟨p,q,?_⟩;dsimp only;rw[d4];obtain⟨⟨b,o⟩,l,h2⟩:=h1;refine⟨_,l,?_⟩;have step:∀i f,ds[i]?=some f -> ∀acc r S,I (k+1+i) acc r S->W (g f r S) fun p=>W (t p.1 p.2) fun b=>if b.1=true then W (e p.1 b.2) fun x=>I (k+1+i+1) (acc++[x.1]) p.1 x.2 else I (k+1+i+1) acc p.1 b.2:=fun i f n acc r S a=>by
   have:=hs (i+1) f (by simpa using n) acc r S (by rw[show k+(i+1)=k+1+i by lia];exact a);rw[show k+(i+1)+1=k+1+i+1 by lia]at this;exact this
  dsimp only at h2 ⊢;cases b with
  |true=>
   rw[if_pos rfl]at h2 ⊢;rw[d4,eI,kN];obtain⟨⟨x,m⟩,j,h⟩:=h2;refine⟨_,j,?_⟩;dsimp only at h ⊢;rw[kN];refine ji I ds (k+1) (acc++[x]) p.1 m (by simpa using h) hok step fun xs r S a=>?_;refine hq _ r S ?_;rw[lC1,show k+(ds.length+1)=k+1+ds.length by lia];simpa using a
  |false=>
   rw[if_neg (by decide)]at h2 ⊢;refine ji I ds (k+1) acc p.1 o (by simpa using h2) hok step fun xs r S a=>?_;refine hq _ r S ?_;rw[lC1,show k+(ds.length+1)=k+1+ds.length by lia];exact a
theorem Du{S:Sto}{b:Bool}:tW S (.bl b)=some b:=rfl
theorem HG{S:Sto}:tW S .non=some false:=rfl
theorem HH{S:Sto}{i:Int}:tW S (.int i)=some (i != 0):=rfl
theorem Co{x y:Int}{S:Sto}:oS (.int x) (.int y) S=some (.bl (x == y),S):=rfl
theorem HS{x y:Int}{S:Sto}:Jr (.int x) (.int y) S=some (.bl (!(x == y)),S):=rfl
theorem Cj{x y:Int}{S:Sto}:xL (.int x) (.int y) S=some (.bl (decide (x<y)),S):=rfl
theorem Cn{x y:Str}{S:Sto}:oS (.str x) (.str y) S=some (.bl (x == y),S):=rfl
theorem HR{x y:Str}{S:Sto}:Jr (.str x) (.str y) S=some (.bl (!(x == y)),S):=rfl
theorem ite_and'{c p:Prop}[Decidable c]:(if c then p else False)↔c/\p:=by split<;>simp[*]
def xN(j:Int):Bool:=decide (-(2^62)<=j)&&decide (j<2^62)
theorem fW{n:Nat}(h:n<2^60):xN n=true:=by
 unfold xN;rw[bA1,decide_eq_true_eq,decide_eq_true_eq];lia
theorem Fn{j:Int}(h: -(2^60)<=j)(h':j<2^60):xN j=true:=by
 unfold xN;rw[bA1,decide_eq_true_eq,decide_eq_true_eq];lia
def Gg(p:List D×Sto)(Q:AM×Sto->Prop):Prop:=match p.1 with
 |[.int j]=>xN j=true/\Q (⟨gB 0 j.toNat,[]⟩,p.2)
 |_=>False
def HJ(p:List D×Sto)(Q:AM×Sto->Prop):Prop:=match p.1 with
 |[.int i,.int j]=>xN i=true/\xN j=true/\Q (⟨gB i (j-i).toNat,[]⟩,p.2)
 |_=>False
theorem Dd{m:FA}{r:Ev}{S:Sto}{Q:AM×Sto->Prop}:W (ux m r S) Q↔W (m r S) fun p=>Gg p Q:=by
 unfold ux;rw[d4];constructor
 ·refine fun h=>h.mono fun p q=>?_;unfold Gg;split at q
  ·rename_i j e
   try rw[e]
   rw[tm]at q;split at q
   ·rename_i hc;exact⟨by unfold xN;rw[bA1,decide_eq_true_eq,decide_eq_true_eq];exact hc,eB.mp q⟩
   ·exact(jG.mp q).elim
  ·exact(jG.mp q).elim
 ·refine fun h=>h.mono fun p q=>?_;unfold Gg at q;split at q
  ·rename_i j e;obtain⟨a,b⟩:=q;unfold xN at a;rw[bA1,decide_eq_true_eq,decide_eq_true_eq]at a
   try rw[e]
   try dsimp only
   rw[if_pos a];exact eB.mpr b
  ·exact q.elim
theorem Hv{m:FA}{r:Ev}{S:Sto}{Q:AM×Sto->Prop}:W (GX m r S) Q↔W (m r S) fun p=>HJ p Q:=by
 unfold GX;rw[d4];constructor
 ·refine fun h=>h.mono fun p q=>?_;unfold HJ;split at q
  ·rename_i i j e
   try rw[e]
   rw[tm]at q;split at q
   ·rename_i hc;refine⟨?_,?_,eB.mp q⟩
    ·unfold xN;rw[bA1,decide_eq_true_eq,decide_eq_true_eq];exact⟨hc.1,hc.2.1⟩
    ·unfold xN;rw[bA1,decide_eq_true_eq,decide_eq_true_eq];exact hc.2.2
   ·exact(jG.mp q).elim
  ·exact(jG.mp q).elim
 ·refine fun h=>h.mono fun p q=>?_;unfold HJ at q;split at q
  ·rename_i i j e;obtain⟨a,b,c⟩:=q;unfold xN at a b;rw[bA1,decide_eq_true_eq,decide_eq_true_eq]at a b
   try rw[e]
   try dsimp only
   rw[if_pos ⟨a.1,a.2,b⟩];exact eB.mpr c
  ·exact q.elim
def fits(n:Nat):Bool:=decide (n<=dL)
theorem d9{n:Nat}(h:n<=100000):fits n=true:=by unfold fits;rw[decide_eq_true_eq];exact aC h (by decide)
theorem sF{n:Nat}:fits n=true↔n<=dL:=by unfold fits;rw[decide_eq_true_eq]
theorem Ki:fits 0=true:=d9 (by decide)
theorem Kh:fits 1=true:=d9 (by decide)
theorem Jt:fits 2=true:=d9 (by decide)
theorem Kg:fits 3=true:=d9 (by decide)
theorem Kf:fits 4=true:=d9 (by decide)
theorem Ke:fits 5=true:=d9 (by decide)
theorem Ko:fits 6=true:=d9 (by decide)
theorem Kd:fits 7=true:=d9 (by decide)
theorem Kn:fits 8=true:=d9 (by decide)
theorem hI{α:Type}{n:Nat}{o:Option α}{Q:α->Prop}:W (if n<=dL then o else none) Q↔fits n=true/\W o Q:=by
 rw[sF,tm];split
 ·rename_i h;exact⟨fun q=>⟨h,q⟩,fun q=>q.2⟩
 ·rename_i h;exact⟨fun q=>(jG.mp q).elim,fun q=>absurd q.1 h⟩
theorem AG{a:FA}{r:Ev}{S:Sto}{Q:D×Sto->Prop}:W (eQ a r S) Q↔W (a r S) fun p=>fits p.1.length=true/\Q (.tup p.1,p.2):=by
 unfold eQ;rw[d4];exact⟨fun h=>h.mono fun p q=>(hI.mp q).imp_right eB.mp,fun h=>h.mono fun p q=>hI.mpr (q.imp_right eB.mpr)⟩
theorem Fv{a:FA}{r:Ev}{S:Sto}{Q:D×Sto->Prop}:W (jC a r S) Q↔W (a r S) fun p=>fits p.1.length=true/\Q (.ref p.2.length,p.2++[.lst p.1]):=by
 unfold jC;rw[d4];exact⟨fun h=>h.mono fun p q=>(hI.mp q).imp_right eB.mp,fun h=>h.mono fun p q=>hI.mpr (q.imp_right eB.mpr)⟩
theorem kP{k:Nat}{keep:List Nat}{m:FI}{g:FG}{t:FT}{b:FV}{r:Ev}{S:Sto}{Q:D×Sto->Prop}:W (e0 k keep m g t b r S) Q↔W (m r S) fun p=>W (fM p.1.chk g t b p.1.items (nS k keep r) p.2) fun q=>fits q.1.length=true/\Q (.ref q.2.2.length,q.2.2++[.lst q.1]):=by
 unfold e0;rw[d4];refine⟨fun h=>h.mono fun p q=>?_,fun h=>h.mono fun p q=>?_⟩
 ·rw[d4]at q;exact q.mono fun z w=>(hI.mp w).imp_right eB.mp
 ·rw[d4];exact q.mono fun z w=>hI.mpr (w.imp_right eB.mpr)
theorem I0{xs ys:List D}{S:Sto}{Q:D×Sto->Prop}:W (fS (.tup xs) (.tup ys) S) Q↔fits (xs.length+ys.length)=true/\Q (.tup (xs++ys),S):=
 ⟨fun q=>(hI.mp q).imp_right eB.mp,fun q=>hI.mpr (q.imp_right eB.mpr)⟩
theorem Fy{x y:Int}{S:Sto}{Q:D×Sto->Prop}:W (fS (.int x) (.int y) S) Q↔Q (.int (x+y),S):=eB
theorem AJ{a b:Nat}{xs ys:List D}{S:Sto}{Q:D×Sto->Prop}(h1:S[a]?=some (.lst xs))(h2:S[b]?=some (.lst ys)):W (fS (.ref a) (.ref b) S) Q↔fits (xs.length+ys.length)=true/\Q (.ref S.length,S++[.lst (xs++ys)]):=by
 rw[fS];simp only[h1,h2];exact⟨fun q=>(hI.mp q).imp_right eB.mp,fun q=>hI.mpr (q.imp_right eB.mpr)⟩
theorem lU{n:Nat}{v:D}{xs:List D}{S:Sto}{Q:D×Sto->Prop}(h:S[n]?=some (.lst xs)):W (jp (.ref n) v S) Q↔fits (xs.length+1)=true/\Q (.non,S.set n (.lst (xs++[v]))):=by
 rw[jp];simp only[h];rw[tm,sF];split
 ·rename_i a;exact⟨fun q=>⟨a,eB.mp q⟩,fun q=>eB.mpr q.2⟩
 ·rename_i a;exact⟨fun q=>(jG.mp q).elim,fun q=>absurd q.1 a⟩
theorem tj{n:Nat}{i:Nat}{xs:List D}{x:D}{S:Sto}{Q:D×Sto->Prop}(h:S[n]?=some (.lst xs))(hx:xs[i]?=some x)(q:Q (x,S)):W (dW (.ref n) (.int i) S) Q:=by
 refine W.of (x:=(x,S)) ?_ q;have a:=(gE1.mp hx).1;simp only[dW,lf,zZ,h,d5,tE,vH,oS1,if_pos (show(0:Int)<=i by lia)];rw[if_pos (by lia)];simp[hx]
theorem gy{i:Nat}{xs:List D}{x:D}{S:Sto}{Q:D×Sto->Prop}(hx:xs[i]?=some x)(q:Q (x,S)):W (dW (.tup xs) (.int i) S) Q:=by
 refine W.of (x:=(x,S)) ?_ q;have a:=(gE1.mp hx).1;simp only[dW,lf,zZ,d5,tE,vH,oS1,if_pos (show(0:Int)<=i by lia)];rw[if_pos (by lia)];simp[hx]
theorem J4:aO 0 (none:Option D)=[]:=rfl
theorem J3:aO 1 (none:Option D)=[none]:=rfl
theorem JQ:aO 2 (none:Option D)=[none,none]:=rfl
theorem JO:aO 3 (none:Option D)=[none,none,none]:=rfl
theorem Km:aO 4 (none:Option D)=[none,none,none,none]:=rfl
theorem JN:aO 5 (none:Option D)=[none,none,none,none,none]:=rfl
theorem Kl:aO 6 (none:Option D)=[none,none,none,none,none,none]:=rfl
theorem JM:aO 7 (none:Option D)=[none,none,none,none,none,none,none]:=rfl
theorem JL:aO 8 (none:Option D)=[none,none,none,none,none,none,none,none]:=rfl
theorem JK:aO 9 (none:Option D)=[none,none,none,none,none,none,none,none,none]:=rfl
theorem Iw:aO 10 (none:Option D)=[none,none,none,none,none,none,none,none,none,none]:=rfl
theorem JZ:aO 11 (none:Option D)=[none,none,none,none,none,none,none,none,none,none,none]:=rfl
theorem JY:aO 12 (none:Option D)=[none,none,none,none,none,none,none,none,none,none,none,none]:=rfl
theorem JX:aO 13 (none:Option D)=[none,none,none,none,none,none,none,none,none,none,none,none,none]:=rfl
theorem JW:aO 14 (none:Option D)=[none,none,none,none,none,none,none,none,none,none,none,none,none,none]:=rfl
theorem JV:aO 15 (none:Option D)=[none,none,none,none,none,none,none,none,none,none,none,none,none,none,none]:=rfl
theorem JU:aO 16 (none:Option D)=[none,none,none,none,none,none,none,none,none,none,none,none,none,none,none,none]:=rfl
theorem JT:aO 17 (none:Option D)=[none,none,none,none,none,none,none,none,none,none,none,none,none,none,none,none,none]:=rfl
theorem JS:aO 18 (none:Option D)=[none,none,none,none,none,none,none,none,none,none,none,none,none,none,none,none,none,none]:=rfl
theorem JR:aO 19 (none:Option D)=[none,none,none,none,none,none,none,none,none,none,none,none,none,none,none,none,none,none,none]:=rfl
theorem JP:aO 20 (none:Option D)=[none,none,none,none,none,none,none,none,none,none,none,none,none,none,none,none,none,none,none,none]:=rfl
theorem g0{α:Type}{T G:List α}{k:Nat}:(T++G)[T.length+k]?=G[k]?:=by rw[gR1 (by lia)];congr 1;lia
theorem ee{α:Type}{T G:List α}:(T++G)[T.length]?=G[0]?:=by rw[gR1 (by lia)];congr 1;lia
mutual
def t5:D->Bool
 | .non=>true
 | .bl _=>true
 | .int i=>decide (i.natAbs<10^6)
 | .str x=>(PyData.str x).leavesShort 13&&decide ((PyData.str x).weight<=20)
 | .tup xs=>nM xs
 | .rol _=>false
 | .fn _=>false
 | .ref _=>false
def nM:List D->Bool
 |[]=>true
 |d::ds=>t5 d&&nM ds
end
mutual
def nX:D->Nat
 | .tup xs=>kH xs
 | .non=>0 | .bl _=>0 | .int _=>0 | .str _=>0 | .rol _=>0 | .fn _=>0 | .ref _=>0
def kH:List D->Nat
 |[]=>0
 |d::ds=>nX d+1+kH ds
end
mutual
def AS:D->Nat
 | .tup xs=>nW xs+1
 | .non=>0 | .bl _=>0 | .int _=>0 | .str _=>0 | .rol _=>0 | .fn _=>0 | .ref _=>0
def nW:List D->Nat
 |[]=>0
 |d::ds=>max (AS d) (nW ds)
end
mutual
theorem Gc:∀{d:D},t5 d=true -> ∃p,pyD d=some p/\p.showable=true/\p.leavesShort 13=true/\p.weight+1<=21*(nX d+1)/\p.depth=AS d
 | .non,_=>⟨.none,by simp only[pyD],by simp only[PyData.showable],by simp only[PyData.leavesShort],by simp only[PyData.weight,nX];lia,by simp only[PyData.depth,AS]⟩
 | .bl b,_=>⟨.bool b,by simp only[pyD],by simp only[PyData.showable],by simp only[PyData.leavesShort],by simp only[PyData.weight,nX];lia,by simp only[PyData.depth,AS]⟩
 | .int i,h=>by
  have h':i.natAbs<10^6:=by simpa only[t5,decide_eq_true_eq]using h
  have c:i.natAbs.log2<20:=by
   by_cases z:i.natAbs=0
   ·rw[z];decide
   ·exact(Nat.log2_lt z).mpr (by lia)
  refine⟨.int i,by simp only[pyD],by simp only[PyData.showable,decide_eq_true_eq];lia,?_,?_,by simp only[PyData.depth,AS]⟩
  ·simp only[PyData.leavesShort,decide_eq_true_eq];exact PyData.shown_int_le (by lia)
  ·simp only[PyData.weight,nX];split<;>lia
 | .str x,h=>by
  have h':(PyData.str x).leavesShort 13=true/\(PyData.str x).weight<=20:=by simpa only[t5,bA1,decide_eq_true_eq]using h
  exact⟨.str x,by simp only[pyD],by simp only[PyData.showable],h'.1,by simp only[nX];have:=h'.2;lia,by simp only[PyData.depth,AS]⟩
 | .tup xs,h=>by
  obtain⟨ps,e,h1,h2,f,a⟩:=t0 (ds:=xs) (by simpa only[t5]using h);exact⟨.tuple ps,by simp only[pyD,e,oP1],by simpa only[PyData.showable]using h1,by simpa only[PyData.leavesShort]using h2,by simp only[PyData.weight,nX];lia,by simp only[PyData.depth,AS,a]⟩
 | .rol _,h=>by simp only[t5]at h;cases h
 | .fn _,h=>by simp only[t5]at h;cases h
 | .ref _,h=>by simp only[t5]at h;cases h
theorem t0:∀{ds:List D},nM ds=true -> ∃ps,pyDs ds=some ps/\PyData.showableAll ps=true/\PyData.leavesShortAll 13 ps=true/\PyData.weightAll ps<=21*kH ds/\PyData.depthAll ps=nW ds
 |[],_=>⟨[],by simp only[pyDs],by simp only[PyData.showableAll],by simp only[PyData.leavesShortAll],by simp only[PyData.weightAll];lia,by simp only[PyData.depthAll,nW]⟩
 |d::ds,h=>by
  simp only[nM,bA1]at h;obtain⟨p,e,h1,h2,j,g⟩:=Gc h.1;obtain⟨ps,i,c,a,f,b⟩:=t0 h.2;refine⟨p::ps,by simp only[pyDs,e,i,oS1,oP1],by simp only[PyData.showableAll,h1,c,df],by simp only[PyData.leavesShortAll,h2,a,df],?_,by simp only[PyData.depthAll,nW,g,b]⟩;simp only[PyData.weightAll,kH];lia
end
theorem Bd{xs:List D}(h:nM xs=true)(hc:kH xs<=40000)(hd:nW xs<=50):∃t,∀S,nl (.tup xs) S=some (.str t,S):=by
 obtain⟨ps,e,h1,h2,c,b⟩:=t0 h;refine⟨(PyData.tuple ps).shown,fun S=>?_⟩;have a:(PyData.tuple ps).showable=true/\(PyData.tuple ps).shown.length<=dL/\(PyData.tuple ps).depth<=60:=
  ⟨by simpa only[PyData.showable]using h1,PyData.shown_fits (B:=13) (by decide) (by decide) (by simpa only[PyData.leavesShort]using h2) (by simp only[PyData.weight];lia),by simp only[PyData.depth];lia⟩
 simp only[nl,e,oS1,if_pos a]
theorem jQ{α:Type}{f:α->D}:∀{l:List α},(∀x∈l,t5 (f x)=true)->nM (l.map f)=true
 |[],_=>by simp only[aZ,nM]
 |x::xs,h=>by simp only[mP1,nM,h x mS1,jQ fun y a=>h y (mC1 _ a),df]
theorem jk{α:Type}{f:α->D}{k:Nat}:∀{l:List α},(∀x∈l,nX (f x)<=k)->kH (l.map f)<=(k+1)*l.length
 |[],_=>by simp only[aZ,kH];lia
 |x::xs,h=>by
  have h1:=h x mS1;have h2:=jk (l:=xs) fun y a=>h y (mC1 _ a);simp only[mP1,kH,lC1,Nat.mul_add];lia
theorem kE{α:Type}{f:α->D}{k:Nat}:∀{l:List α},(∀x∈l,AS (f x)<=k)->nW (l.map f)<=k
 |[],_=>by simp only[aZ,nW];lia
 |x::xs,h=>by
  have h1:=h x mS1;have h2:=kE (l:=xs) fun y a=>h y (mC1 _ a);simp only[mP1,nW];lia
theorem qc:∀(n:Nat) (lo:Int),gB lo n=(List.range n).map fun i:Nat=>D.int (lo+i)
 |0,lo=>rfl
 |n+1,lo=>by
  rw[gB,qc n (lo+1),List.range_succ_eq_map,mP1,bv]
  congr 1
  ·simp
  ·apply dg;intro i _;simp only[Function.comp_apply,Nat.succ_eq_add_one]
   congr 1
   push_cast
   lia
theorem kb(n:Nat):gB 0 n=(List.range n).map fun i:Nat=>D.int i:=by
 rw[qc];apply dg;intro i _;simp
theorem r6{α:Type}{c:List (Nat×List D)}{g:FG}{t:FT}{e:FE}{S:Sto}{f:α->D}{Q:List D×Ev×Sto->Prop}(F:α->D)(P:Ev->Prop)(d:oC S c=true):∀ (xs:List α) (r:Ev),P r ->
  (∀a∈xs,∀r,P r->W (g (f a) r S) fun p=>W (t p.1 p.2) fun b=>b.1=true/\W (e p.1 b.2) fun x=>x.1=F a/\x.2=S/\P p.1) ->
  (∀i,P i->Q (xs.map F,i,S))->W (fM c g t (eI e) (xs.map f) r S) Q
 |[],r,hr,_,h=>by rw[aZ,fM];dsimp only;rw[if_pos d,eB];exact h r hr
 |a::xs,r,hr,hs,h=>by
  rw[mP1,fM];dsimp only;rw[if_pos d,d4];obtain⟨p,u,⟨b,l,s,⟨x,k,o,q,m⟩⟩⟩:=hs a mS1 r hr;refine⟨p,u,?_⟩;dsimp only;rw[d4];refine⟨b,l,?_⟩;dsimp only;rw[if_pos s,d4,eI,kN];refine⟨x,k,?_⟩;dsimp only;rw[q,kN];refine r6 F P d xs p.1 m (fun a n=>hs a (mC1 _ n)) fun i j=>?_;have:=h i j;rw[mP1,<- o]at this;exact this
theorem hA{α:Type}{c:List (Nat×List D)}{g:FG}{t:FT}{e:FE}{S:Sto}{f:α->D}{Q:List D×Ev×Sto->Prop}(k:α->Bool)(F:α->D)(P:Ev->Prop)(d:oC S c=true):∀ (xs:List α) (r:Ev),P r ->
  (∀a∈xs,∀r,P r->W (g (f a) r S) fun p=>W (t p.1 p.2) fun b=>b.1=k a/\b.2=S/\P p.1/\(k a=true->W (e p.1 S) fun x=>x.1=F a/\x.2=S)) ->
  (∀j,P j->Q ((xs.filter k).map F,j,S))->W (fM c g t (eI e) (xs.map f) r S) Q
 |[],r,hr,_,h=>by rw[aZ,fM];dsimp only;rw[if_pos d,eB];exact h r hr
 |a::xs,r,hr,hs,h=>by
  rw[mP1,fM];dsimp only;rw[if_pos d,d4];obtain⟨p,w,⟨b,v,s,q,o,n⟩⟩:=hs a mS1 r hr;refine⟨p,w,?_⟩;dsimp only;rw[d4];refine⟨b,v,?_⟩;dsimp only;cases hk:k a with
  |true=>
   rw[s,hk,if_pos rfl,d4,eI,kN,q];obtain⟨x,u,n,l⟩:=n hk;refine⟨x,u,?_⟩;dsimp only;rw[l,kN];refine hA k F P d xs p.1 o (fun a m=>hs a (mC1 _ m)) fun j i=>?_;have:=h j i;rw[di,hk,if_pos rfl,mP1,<- n]at this;exact this
  |false=>
   rw[s,hk,if_neg (by decide),q];refine hA k F P d xs p.1 o (fun a m=>hs a (mC1 _ m)) fun j i=>?_;have:=h j i;rw[di,hk,if_neg (by decide)]at this;exact this
mutual
theorem Dn{n m:Nat}(h:n<=m):∀{d:D},d.und n=true->d.und m=true
 | .non,_=>rfl
 | .bl _,_=>rfl
 | .int _,_=>rfl
 | .str _,_=>rfl
 | .tup xs,q=>by rw[D.und]at q ⊢;exact im h q
 | .rol xs,q=>by rw[D.und]at q ⊢;exact im h q
 | .fn _,_=>rfl
 | .ref k,q=>by simp[D.und]at q ⊢;lia
theorem im{n m:Nat}(h:n<=m):∀{ds:List D},D.unds n ds=true->D.unds m ds=true
 |[],_=>rfl
 |d::ds,q=>by
  rw[D.unds,bA1]at q ⊢;exact⟨Dn h q.1,im h q.2⟩
end
theorem gJ{n m:Nat}(h:n<=m):∀{o:Ob},o.und n=true->o.und m=true
 | .lst xs,q=>by rw[Ob.und]at q ⊢;exact im h q
 | .dct xs,q=>by rw[Ob.und]at q ⊢;exact im h q
 | .dcT xs,q=>by rw[Ob.und]at q ⊢;exact im h q
 | .dcF xs,q=>by rw[Ob.und]at q ⊢;exact im h q
 | .iset _,_=>rfl
 | .tst _,_=>rfl
theorem eK{α:Type}{n:Nat}{f:α->D}:∀{xs:List α},(∀x∈xs,(f x).und n=true)->D.unds n (xs.map f)=true
 |[],_=>rfl
 |x::xs,h=>by rw[mP1,D.unds,h x mS1,eK fun y a=>h y (mC1 _ a)];rfl
theorem Kk{x:Nat}:x+1+1=x+2:=rfl
theorem Ku{x:Nat}:x+2+1=x+3:=rfl
theorem Kt{x:Nat}:x+3+1=x+4:=rfl
theorem Ks{x:Nat}:x+4+1=x+5:=rfl
theorem Kr{x:Nat}:x+5+1=x+6:=rfl
theorem Kq{x:Nat}:x+6+1=x+7:=rfl
theorem Kj{x:Nat}:x+1+2=x+3:=rfl
theorem gC{xs:List D}{S:Sto}:eS (.tup xs) S=some (.int xs.length,S):=rfl
theorem HQ{xs:List D}{S:Sto}:eS (.rol xs) S=some (.int xs.length,S):=rfl
theorem GQ{S:Sto}:eS (.str "") S=some (.int 0,S):=rfl
theorem u5{xs:List D}{S:Sto}:d5 S (.tup xs)=some (false,xs):=rfl
theorem HI{xs:List D}{S:Sto}:d5 S (.rol xs)=some (true,xs):=rfl
theorem v8{xs:List D}{S:Sto}:i5 S (.tup xs)=[]:=rfl
theorem HW{xs:List D}{S:Sto}:i5 S (.rol xs)=[]:=rfl
theorem gR{n:Nat}{xs:List D}{S:Sto}(h:S[n]?=some (.lst xs)):d5 S (.ref n)=some (true,xs):=by simp only[d5,h]
theorem v9{n:Nat}{xs:List D}{S:Sto}(h:S[n]?=some (.lst xs)):i5 S (.ref n)=[(n,xs)]:=by simp only[i5,h]
def sW(S:Sto)(d:D)(Q:List D×List (Nat×List D)->Prop):Prop:=W (d5 S d) fun q=>Q (q.2,i5 S d)
theorem iO{xs:List D}{S:Sto}{Q:List D×List (Nat×List D)->Prop}:sW S (.tup xs) Q↔Q (xs,[]):=eB
theorem eG{n:Nat}{xs:List D}{S:Sto}{Q:List D×List (Nat×List D)->Prop}(h:S[n]?=some (.lst xs))(q:Q (xs,[(n,xs)])):sW S (.ref n) Q:=by
 unfold sW;rw[gR h,v9 h,eB];exact q
theorem Fx{m:FE}{r:Ev}{S:Sto}{Q:AM×Sto->Prop}:W (iG m r S) Q↔W (m r S) fun p=>sW p.2 p.1 fun q=>Q (⟨q.1,q.2⟩,p.2):=by
 unfold iG;rw[d4];refine⟨fun h=>h.mono fun p q=>?_,fun h=>h.mono fun p q=>?_⟩
 ·rw[d4]at q;exact q.mono fun z w=>eB.mp w
 ·rw[d4];exact W.mono (show W (d5 p.2 p.1) _ from q) fun z w=>eB.mpr w
theorem AH{d:D}{S:Sto}{Q:D×Sto->Prop}:W (Mi.gTup d S) Q↔sW S d fun q=>Q (.tup q.1,S):=by
 unfold Mi.gTup;rw[kN];exact Iff.rfl
theorem Hu{n:Nat}{S:Sto}{Q:D×Sto->Prop}:W (eS (.ref n) S) Q↔sW S (.ref n) fun q=>Q (.int q.1.length,S):=by
 unfold eS sW;rw[kN]
def pD(e:Nat×Nat):D:=.tup [.int e.1,.int e.2]
theorem Fc{S:Sto}{n:Nat}{a b:Nat×Nat}:gr S (n+2) (pD a) (pD b)=some (a == b):=by
 obtain⟨a1,a2⟩:=a;obtain⟨b1,b2⟩:=b;rw[gr];have d:∀x y:Nat,gr S (n+1) (.int x) (.int y)=some ((x:Int) == (y:Int)):=fun x y=>rfl;have c:∀x y:Nat,((x:Int) == (y:Int))=(x == y):=fun x y=>by
  rw[bS,beq_iff_eq,beq_iff_eq];lia
 simp[pD,d5,nK,d,c];rfl
theorem vS{S:Sto}{n:Nat}{e:Nat×Nat}:∀b:List (Nat×Nat),xh (gr S (n+2)) (pD e) (b.map pD)=some (b.map fun a=>a == e)
 |[]=>rfl
 |a::b=>by rw[mP1,xh,Fc,vS b];rfl
theorem Fw{S:Sto}{n j:Nat}{row:List (Nat×Nat)}{e:Nat×Nat}{Q:D×Sto->Prop}(h:S[n]?=some (.lst (row.map pD)))(b:row.length<1000)(a:row.findIdx? (· == e)=some j)(q:Q (.int j,S)):W (z0 (.ref n) (pD e) S) Q:=by
 refine W.of ?_ q;unfold z0 eO;simp only[h,show(60:Nat)=58+2 from rfl,vS,oS1,lM1];rw[if_pos (by lia),List.findIdx?_map];simp[Function.comp_def,a]
theorem Dc{S:Sto}{n k:Nat}{xs:List D}{v:D}{Q:D×Sto->Prop}(h:S[n]?=some (.lst xs))(hk:k<=xs.length)(a:xs.length<1000)(q:Q (.non,S.set n (.lst (xs.take k++v::xs.drop k)))):W (xc (.ref n) (.int k) v S) Q:=by
 refine W.of ?_ q;have hi:qm xs.length k=k:=by
  unfold qm;rw[if_neg (by lia),Int.toNat_natCast];lia
 have b:xs.length<dL:=nL1 a (by decide);simp only[xc,h,hi];rw[if_pos ⟨by lia,by lia,b⟩]
theorem iF{f:FN}{o:FE}{a:FA}{r:Ev}{S:Sto}{Q:D×Sto->Prop}(h:W (o r S) fun p=>∃n xs,p.1 = .ref n/\p.2[n]?=some (.lst xs)/\W (a r p.2) fun q=>W (f (.ref n::q.1) q.2) Q):W (oH f o a r S) Q:=by
 unfold oH;rw[d4];refine h.mono ?_;rintro⟨d,b⟩ ⟨n,xs,rfl,e,q⟩;dsimp only at e q ⊢;rw[e];dsimp only;rw[d4];exact q
def rB(row:List (Nat×Nat)):Ob:=.lst (row.map pD)
structure WS (t m:Nat)(T:Sto)(E:List (List (Nat×Nat)))(P:List (Nat×Nat))(U:Sto):Prop where
 tl:T.length=t
 low:U.take t=T
 el:E.length=m
 row:∀i row,E[i]?=some row->U[t+i]?=some (rB row)
 ends:U[t+m]?=some (.lst (jz (t+1) m))
 prs:U[t+m+1]?=some (.lst (P.map pD))
theorem WS.app{t m:Nat}{T:Sto}{E:List (List (Nat×Nat))}{P:List (Nat×Nat)}{U G:Sto}(w:WS t m T E P U):WS t m T E P (U++G):=by
 have b:t+m+1<U.length:=(gE1.mp w.prs).1;refine⟨w.tl,?_,w.el,fun i a h=>?_,?_,?_⟩
 ·rw[List.take_append_of_le_length (by omega)];exact w.low
 ·have:=w.row i a h;rw[gL1 (gE1.mp this).1];exact this
 ·rw[gL1 (by omega)];exact w.ends
 ·rw[gL1 (by omega)];exact w.prs
theorem WS.setRow{t m i:Nat}{T:Sto}{E:List (List (Nat×Nat))}{P:List (Nat×Nat)}{U:Sto}{row:List (Nat×Nat)}(w:WS t m T E P U)(hi:i<m):WS t m T (E.set i row) P (U.set (t+i) (rB row)):=by
 have b:t+m+1<U.length:=(gE1.mp w.prs).1;refine⟨w.tl,?_,by rw[aW];exact w.el,fun j a h=>?_,?_,?_⟩
 ·rw[List.take_set_of_le (by lia)];exact w.low
 ·by_cases e:i=j
  ·subst e;rw[aI (by rw[w.el];exact hi)]at h;cases h;rw[aI (by lia)]
  ·rw[gS1 e]at h;rw[gS1 (by lia)];exact w.row j a h
 ·rw[gS1 (by lia)];exact w.ends
 ·rw[gS1 (by lia)];exact w.prs
theorem WS.setPrs{t m:Nat}{T:Sto}{E:List (List (Nat×Nat))}{P P':List (Nat×Nat)}{U:Sto}(w:WS t m T E P U):WS t m T E P' (U.set (t+m+1) (.lst (P'.map pD))):=by
 have b:t+m+1<U.length:=(gE1.mp w.prs).1;refine⟨w.tl,?_,w.el,fun j a h=>?_,?_,?_⟩
 ·rw[List.take_set_of_le (by lia)];exact w.low
 ·have c:j<m:=by rw[<- w.el];exact(gE1.mp h).1
  rw[gS1 (by lia)];exact w.row j a h
 ·rw[gS1 (by lia)];exact w.ends
 ·rw[aI (by lia)]
theorem WS.split{t m:Nat}{T:Sto}{E:List (List (Nat×Nat))}{P:List (Nat×Nat)}{U:Sto}(w:WS t m T E P U):U=T++U.drop t:=by
 conv=>lhs;rw[<- cK t U,w.low]
theorem pV:∀{k n i:Nat},i<k->(jz n k)[i]?=some (.ref (n+i))
 |k+1,n,0,_=>rfl
 |k+1,n,i+1,h=>by rw[jz,gC1,pV (Nat.lt_of_succ_lt_succ h),show n+1+i=n+(i+1) by lia]
theorem j5:∀k n:Nat,(jz n k).length=k
 |0,_=>rfl
 |k+1,n=>by rw[jz,lC1,j5]
def tot(E:List (List (Nat×Nat))):Nat:=(E.map List.length).sum
theorem pJ:∀{E:List (List (Nat×Nat))} {i:Nat} {row row':List (Nat×Nat)},E[i]?=some row->tot (E.set i row')+row.length=tot E+row'.length
 |[],i,_,_,h=>by simp at h
 |a::E,0,row,row',h=>by simp at h;subst h;simp[tot];lia
 |a::E,i+1,row,row',h=>by
  have:=pJ (E:=E) (i:=i) (row:=row) (row':=row') (by simpa using h);simp[tot]at this ⊢;lia
theorem yd:∀{E:List (List (Nat×Nat))} {k:Nat},k<=E.length->(∀i b,i<k->E[i]?=some b->4<=b.length)->4*k<=tot E
 |E,0,_,_=>by lia
 |[],k+1,h,_=>by simp at h
 |a::E,k+1,h,q=>by
  have h1:=q 0 a (by lia) rfl;have h2:=yd (E:=E) (k:=k) (by simpa using h) fun i b hi c=>q (i+1) b (by lia) (by simpa using c);simp[tot]at h2 ⊢;lia
def eP(rs:List Nat):List D:=rs.map fun i:Nat=>D.int i
theorem jB(rs:List Nat):(eP rs).length=rs.length:=by simp[eP]
theorem qf(rs:List Nat):D.unds 0 (eP rs)=true:=eK fun _ _=>rfl
abbrev Wk:=Nat×Nat×Nat
def ff(w:Wk):D:=.tup [.int w.1,.int w.2.1,.int w.2.2]
def eA(ws:List Wk):List D:=ws.map ff
theorem je(ws:List Wk):(eA ws).length=ws.length:=by simp[eA]
theorem jM(ws:List Wk):D.unds 0 (eA ws)=true:=eK fun _ _=>rfl
def dZ(ws:List Wk)(cs:List Nat):D:=.tup [.tup (eA ws),.tup (eP cs)]
theorem fR{ws:List Wk}{cs:List Nat}:(dZ ws cs).und 0=true:=by simp[dZ,D.und,D.unds,jM,qf]
def fv(a b c d:Bool):List D:=(if a then[.str "came"]else[])++(if b then[.str "chalk"]else[])++(if c then[.str "doors"]else[])++(if d then[.str "others"]else[])
theorem Ag {xs:List D}(h:xs.Sublist [.str "came",.str "chalk",.str "doors",.str "others"]):∃a b c d,xs=fv a b c d:=by
 have one:∀{x:D} {l ys:List D},ys.Sublist (x::l) -> ∃(a:Bool) (zs:List D),zs.Sublist l/\ys=(if a then[x]else[])++zs:=by
  intro x l ys h;cases h with
  |cons _ h=>exact⟨false,ys,h,rfl⟩
  |cons_cons _ h=>exact⟨true,_,h,rfl⟩
 obtain⟨a,j,h1,rfl⟩:=one h;obtain⟨b,i,h2,rfl⟩:=one h1;obtain⟨c,k,f,rfl⟩:=one h2;obtain⟨d,g,e,rfl⟩:=one f;have:g=[]:=List.eq_nil_of_sublist_nil e;subst this;exact⟨a,b,c,d,by simp[fv]⟩
theorem Ah(a b c d:Bool):(fv a b c d).length<=4:=by cases a<;>cases b<;>cases c<;>cases d<;>decide
theorem kx(a b c d:Bool):D.unds 0 (fv a b c d)=true:=by cases a<;>cases b<;>cases c<;>cases d<;>rfl
theorem Cd{a b c d:Bool}{S:Sto}:i0 (.str "came") (.tup (fv a b c d)) S=some (.bl a,S):=by cases a<;>cases b<;>cases c<;>cases d<;>rfl
theorem zQ{a b c d:Bool}{S:Sto}:i0 (.str "chalk") (.tup (fv a b c d)) S=some (.bl b,S):=by cases a<;>cases b<;>cases c<;>cases d<;>rfl
theorem zP{a b c d:Bool}{S:Sto}:i0 (.str "doors") (.tup (fv a b c d)) S=some (.bl c,S):=by cases a<;>cases b<;>cases c<;>cases d<;>rfl
theorem w8{a b c d:Bool}{S:Sto}:i0 (.str "others") (.tup (fv a b c d)) S=some (.bl d,S):=by cases a<;>cases b<;>cases c<;>cases d<;>rfl
theorem uw{S:Sto}{n:Nat}{x:Nat}:∀a:List Nat,AQ (gr S (n+1)) (.int x) (eP a)=some (a.contains x)
 |[]=>rfl
 |c::a=>by
  have d:gr S (n+1) (.int c) (.int x)=some ((c:Int) == (x:Int)):=rfl;have b:((c:Int) == (x:Int))=(x == c):=by
   rw[bS,beq_iff_eq,beq_iff_eq];lia
  have ih:=uw (S:=S) (n:=n) (x:=x) a;rw[eP,mP1,AQ,d,b];rw[eP]at ih;rw[ih,List.contains_cons];rfl
theorem zO{S:Sto}{x:Nat}{cs:List Nat}:i0 (.int x) (.tup (eP cs)) S=some (.bl (cs.contains x),S):=by
 simp only[i0,uB,FL,d5,oS1,eO,show(60:Nat)=59+1 from rfl,uw,oP1]
def t8(a b c d:Bool)(came chalk doors others:Int):D:=.tup [if a then .int came else .non,if b then .int chalk else .non,if c then .int doors else .non,if d then .int others else .non]
theorem oi{a b c d:Bool}{w x y z:Int}:(t8 a b c d w x y z).und 0=true:=by cases a<;>cases b<;>cases c<;>cases d<;>rfl
theorem zG{κ:Type}[DecidableEq κ]{k:κ}:d2 ([]:List (κ×D)) k=none:=rfl
theorem eV{κ:Type}[DecidableEq κ]{k a:κ}{d:D}{r:List (κ×D)}:d2 ((a,d)::r) k=if a=k then some d else d2 r k:=by
 unfold d2;rw[bc];by_cases h:a=k
 ·simp[h]
 ·simp[h]
theorem sm{κ:Type}[DecidableEq κ]{k:κ}{b:List (κ×D)}:∀{a:List (κ×D)},d2 (a++b) k=(d2 a k).or (d2 b k)
 |[]=>rfl
 |(x,d)::a=>by
  rw[bj,eV,eV,sm (a:=a)];split<;>rfl
theorem k7{κ:Type}[DecidableEq κ]{k:κ}:∀{a:List (κ×D)},(a.any fun p=>decide (p.1=k))=false->d2 a k=none
 |[],_=>rfl
 |(x,d)::a,h=>by
  simp only[bd,Bool.or_eq_false_iff,decide_eq_false_iff_not]at h;rw[eV,if_neg h.1];exact k7 h.2
theorem k6{κ:Type}[DecidableEq κ]{k k':κ}{v:D}:∀{a:List (κ×D)},(a.any fun p=>decide (p.1=k))=true->d2 (a.map fun p=>if p.1=k then(p.1,v)else p) k'=if k'=k then some v else d2 a k'
 |[],h=>by simp at h
 |(x,d)::a,h=>by
  rw[mP1];by_cases f:x=k
  ·subst f;rw[if_pos (show(x,d).1=x from rfl)];rw[eV,eV];by_cases c:k'=x
   ·subst c;simp
   ·rw[if_neg (Ne.symm c),if_neg (Ne.symm c),if_neg c];by_cases g:(a.any fun p=>decide (p.1=x))=true
    ·rw[k6 g,if_neg c]
    ·have:(a.map fun p=>if p.1=x then (p.1,v) else p)=a:=by
      have b:(a.any fun p=>decide (p.1=x))=false:=Bool.eq_false_iff.mpr g;rw[List.any_eq_false]at b
      conv=>rhs;rw[<- List.map_id a]
      apply dg;intro p i;have:=b p i;simp at this;simp[this]
     rw[this]
  ·simp only[bd,decide_eq_false f,Bool.false_or]at h;rw[if_neg (show¬ (x,d).1=k from f)];rw[eV,eV,k6 h];by_cases e:x=k'
   ·subst e;simp[f]
   ·simp[e]
theorem sj{κ:Type}[DecidableEq κ]{k k':κ}{v:D}{a:List (κ×D)}:d2 (e6 a k v) k'=if k'=k then some v else d2 a k':=by
 unfold e6;split
 ·rename_i h;exact k6 h
 ·rename_i h;have h':(a.any fun p=>decide (p.1=k))=false:=Bool.eq_false_iff.mpr h;rw[sm,eV,zG];by_cases b:k'=k
  ·subst b;rw[k7 h',if_pos rfl];rfl
  ·rw[if_neg (Ne.symm b),if_neg b];cases d2 a k'<;>rfl
theorem vc{κ:Type}[DecidableEq κ]{k:κ}{v:D}{a:List (κ×D)}:(e6 a k v).length<=a.length+1:=by
 unfold e6;split
 ·rw[lM1];lia
 ·rw[lA1];simp
theorem DU{κ:Type}[DecidableEq κ]{k:κ}{v:D}{a:List (κ×D)}:e6 a k v≠[]:=by
 unfold e6;split
 ·rename_i h;intro z;cases a with
  |nil=>simp at h
  |cons x xs=>simp at z
 ·simp
def dO(F:List (TK×D)):Ob:=if F=[]then .dct []else .dcT F
theorem Ft{U:Sto}{n i:Nat}{xs:List D}{x:D}{Q:D×Sto->Prop}(h:U[n]?=some (.lst xs))(hx:xs[i]?=some x)(hb:i<1000)(q:Q (x,U.set n (.lst (xs.eraseIdx i)))):W (zY (.ref n) (.int i) U) Q:=by
 have a:=(gE1.mp hx).1;refine W.of ?_ q;simp only[zY,h];rw[if_pos ⟨by lia,by lia⟩];simp only[vH,if_pos (show(0:Int)<=i by lia)];rw[if_pos (by lia)];simp[hx]
theorem zX{d:D}{S G:Sto}(hd:d.und 0=true)(a:S.all (Ob.und S.length)=true):gc S.length (d,S++G)=(d,S):=by
 unfold gc;dsimp only;rw[de,if_pos (by rw[fr hd,a];rfl)]
theorem qr{d:D}{S V:Sto}(hd:d.und 0=true)(a:S.all (Ob.und S.length)=true)(hp:S <+: V):gc S.length (d,V)=(d,S):=by
 obtain⟨G,rfl⟩:=hp;exact zX hd a
theorem qL{m:FA}{r:Ev}{S:Sto}{xs ys:List D}{n:Nat}{Q:AM×Sto->Prop}(hm:m r S=some ([.tup xs,.ref n],S))(hn:S[n]?=some (.lst ys))(q:Q (⟨tH xs ys,[(n,ys)]⟩,S)):W (AR m r S) Q:=by
 refine W.of (x:=(⟨tH xs ys,[(n,ys)]⟩,S)) ?_ q;simp only[AR,hm,oS1,u5,gR hn,v8,v9 hn,c4]
theorem mq{α:Type}{f g:α->D}:∀l:List α,tH (l.map f) (l.map g)=l.map fun x=>D.tup [f x,g x]
 |[]=>rfl
 |a::l=>by rw[mP1,mP1,tH,mq l];rfl
theorem Hw{m:FA}{r:Ev}{S:Sto}{xs:List D}{Q:AM×Sto->Prop}(hm:m r S=some ([.tup xs],S))(q:Q (⟨xM 0 xs,[]⟩,S)):W (FJ m r S) Q:=by
 refine W.of (x:=(⟨xM 0 xs,[]⟩,S)) ?_ q;simp only[FJ,hm,oS1,u5,v8]
theorem An{α:Type}{f:α->D}:∀(l:List α) (k:Nat),xM k (l.map f)=(l.zipIdx k).map fun p=>D.tup [.int (p.2:Nat),f p.1]
 |[],_=>rfl
 |a::l,k=>by rw[mP1,xM,An l (k+1),bM];rfl
theorem wt{α:Type}{l:List α}{p:α×Nat}(h:p∈l.zipIdx):l[p.2]?=some p.1:=by
 have:=List.mem_zipIdx_iff_getElem?.mp h;exact this
theorem tI{α β:Type}(f:α->β)(l:List α):(l.zipIdx.map fun p=>f p.1)=l.map f:=by
 have:(fun p:α×Nat=>f p.1)=f∘Prod.fst:=rfl;rw[this,<- bv,List.zipIdx_map_fst]
mutual
theorem DH{n:Nat}:∀{d:D},d.und 0=true->d.sh n=d
 | .non,_=>rfl
 | .bl _,_=>rfl
 | .int _,_=>rfl
 | .str _,_=>rfl
 | .tup xs,h=>by rw[D.und]at h;rw[D.sh,md h]
 | .rol xs,h=>by rw[D.und]at h;rw[D.sh,md h]
 | .fn _,_=>rfl
 | .ref k,h=>by simp[D.und]at h
theorem md{n:Nat}:∀{ds:List D},D.unds 0 ds=true->D.shs n ds=ds
 |[],_=>rfl
 |d::ds,h=>by
  rw[D.unds,bA1]at h;rw[D.shs,DH h.1,md h.2]
end
theorem Hl{n:Nat}{f:FN}{ds:List D}{S:Sto}{Q:D×Sto->Prop}(hn:ds.length=n)(b:D.unds 0 ds=true)(h:W (f ds []) fun p=>∃xs,p=(.ref 0,[.lst xs])/\D.unds 0 xs=true/\Q (.ref S.length,S++[.lst xs])):W (dX n f ds S) Q:=by
 obtain⟨p,e,xs,rfl,d,q⟩:=h;refine⟨_,sY e hn b rfl,?_⟩;have c:(D.ref 0).sh S.length = .ref S.length:=rfl;have a:[Ob.lst xs].map (Ob.sh S.length)=[Ob.lst xs]:=by rw[mP1,aZ,Ob.sh,md d]
 rw[c,a];exact q
theorem EI{ns:List Int}{k:Int}:k∈ddI ns↔k∈ns:=by
 have key:∀(ns a:List Int),k∈ns.foldl step_dedup a↔k∈a\/k∈ns:=by
  intro ns
  induction ns with
  |nil=>intro a;simp
  |cons n ns ih=>
   intro a;rw[cb,ih];have:k∈step_dedup a n↔k∈a\/k=n:=by
    unfold step_dedup;split
    ·rename_i h;obtain⟨x,b,e⟩:=bT.mp h;have e:=beq_iff_eq.mp e;subst e;constructor
     ·exact .inl
     ·rintro(z|z)
      ·exact z
      ·rw[z];exact b
    ·simp
   rw[this,aF,or_assoc]
 unfold ddI;rw[key];simp
theorem A7{xs:List Nat}{m:Nat}{f:Nat->Bool}(h:∀r,r∈xs↔r<m/\f r=true):jO (ddI (xs.map fun(r:Nat)=>(r:Int)))=((List.range m).filter f).map fun(r:Nat)=>(r:Int):=by
 refine pW ?_ (mD _) ?_
 ·refine(io _).trans ?_;refine(List.perm_ext_iff_of_nodup (sR _ [] bq) ?_).mpr fun k=>?_
  ·refine dj.mpr ((List.nodup_range.filter f).imp fun b z=>b (by lia))
  ·show k∈ddI _↔_;rw[EI,ci,ci];constructor
   ·rintro⟨r,a,rfl⟩;exact⟨r,aA.mpr ⟨aB.mpr ((h r).mp a).1,((h r).mp a).2⟩,rfl⟩
   ·rintro⟨r,a,rfl⟩;obtain⟨h1,h2⟩:=aA.mp a;exact⟨r,(h r).mpr ⟨aB.mp h1,h2⟩,rfl⟩
 ·refine dj.mpr ((List.pairwise_lt_range.sublist List.filter_sublist).imp fun c=>by lia)
theorem Cb(xs:List Nat):m9 (eP xs)=some (xs.map fun(r:Nat)=>(r:Int)):=by
 induction xs with
 |nil=>rfl
 |cons x xs ih=>
  show(m9 (eP xs)).map _=_;rw[ih];rfl
theorem xF{S:Sto}{n:Nat}{xs:List Nat}{m:Nat}{f:Nat->Bool}{Q:D×Sto->Prop}(hn:S[n]?=some (.lst (eP xs)))(h:∀r,r∈xs↔r<m/\f r=true)(a:xs.length<64)(q:Q (.ref S.length,S++[.lst (eP ((List.range m).filter f))])):W (iY (.ref n) S) Q:=by
 refine W.of (x:=(.ref S.length,S++[.lst (eP ((List.range m).filter f))])) ?_ q;simp only[iY,gR hn,Cb,oS1];rw[if_pos (by rw[lM1];exact a),A7 h,bv];rfl
end Mi
end
local macro_rules | `(tactic| walk_at"w") => `(tactic| simp only[Mi.eB, Mi.jG, Mi.ite_and', Mi.d4, Mi.kN, Mi.tm, Mi.d8, Mi.eh, Mi.hH, Mi.fu, Mi.fi, Mi.qT, Mi.mN, Mi.dS, Mi.dU, Mi.m2, Mi.m1, Mi.mV, Mi.mC, Mi.AG, Mi.Fv, Mi.mB, Mi.sd, Mi.FH, Mi.wT, Mi.vy, Mi.gu, Mi.GK, Mi.Du, Mi.gN, Mi.gT, Mi.gCs, Mi.gNl, Mi.gS, Mi.b1, Mi.b2, Mi.b3, Mi.iC, Mi.hE, Mi.kP, Mi.Dd, Mi.Hv, Mi.Gg, Mi.HJ, Mi.iT, Mi.nS, Mi.Fy, Mi.gSub, Mi.iH, Mi.nU, Mi.Co, Mi.Cj, Mi.Cn, Mi.Ki, Mi.Kh, Mi.Jt, Mi.Kg, Mi.Kf, Mi.Ke, Mi.Kd, true_and, Mi.g0, Mi.ee, bI, lA1, dk, gC1, List.getElem?_nil, c7, c9, lC1, bf, mP1, aZ, Mi.J4, Mi.J3, Mi.JQ, Mi.JO, Mi.JN, Mi.JM, Mi.JL, Mi.JK, Mi.Iw, c4, bj, aM, Nat.reduceAdd, Nat.reduceSub, Option.join_some, Option.join_none, oP1, Option.map_none, oS1, Option.bind_none, if_true, if_false, bF1, b7, cp, ite_true, ite_false, reduceIte, decide_true, decide_false, Mi.Kk, Mi.Kj, Mi.gC, Mi.Fx, Mi.AH, Mi.Hu])
noncomputable section
namespace Law
open PySem PySem.Spec PyProof.Rows L2 Mi
def top (i:Nat):dQ:=PySem.Challenge.pw_ringmeet_k29_walks_by_beats.main.body.getD i (.Pass ⟨0,0,0,0⟩)
abbrev BL:List Str:=["dict","enumerate","int","len","list","max","min","range","repr","set","sorted","tuple","zip"]
def mj:D:=(D.tup [(D.tup [(D.str "came"),(D.int 5)]),(D.tup [(D.str "chalk"),(D.int 2)]),(D.tup [(D.str "doors"),(D.int 5)]),(D.tup [(D.str "others"),(D.int 2)])])
section
variable{P:dF}{w:dH}{K:Fg1}{mg:Str->Option dB}{base h:dN}(X:K.In h) (G:h.Ns dI mg) (B:Blt BL mg)
include X G B
abbrev mG:dQ:=top 3
def j8:FT:=(mB (m2 (b2 xL) (mV 2) (mV 3)))
def j7:FS:=(d8 (eh (m2 (b2 nV) (m2 (b2 fS) (mV 2) (mV 3)) (mC (D.int 2))) (gN 4))
  (hH (mB (m2 (b2 xL) (m2 (b2 dW) (m2 (b2 dW) (m2 (b2 dW) (mV 0) (mV 4)) (mC (D.int 0))) (mC (D.int 0))) (mV 1))) (eh (m2 (b2 fS) (mV 4) (mC (D.int 1))) (gN 2)) (eh (mV 4) (gN 3))))
def nE:FS:=(d8 (eh (mC (D.int 0)) (gN 2))
  (d8 (eh (mN (b1 eS) (dS (mV 0) dU)) (gN 3))
  (d8 (qS j8 j7 100000)
  (fu (mV 2)))))
def gL:FN:=iC 5 nE
theorem rM {f:dE}(F:eM K "first_of" mG f):
  fO P w K mg base 1 "first_of" 2 gL:=xq ["rows","mood","low","high","middle"] X G F fun a=>
 (qF (sq qK) (qF (sq (cn fy (a1 xv))) (qF (kT 100000 PassesOwn.never (ct (oq lG) xv xv) (qF (sq (qI vr (qI fT xv xv) qK)) (qG (qV (ct (oq lG) (jq (jq (jq xv xv) qK) qK) xv) (qG (sq (qI fT xv qK))) (qG (sq xv)))))) (qG (qU xv)))))
abbrev u9:dQ:=top 5
def wf:FS:=(d8 (eh (mV 0) (gT 2 (gCs (gN 1) (gCs (gN 2) gNl))))
  (fu (eQ (dS (mN (b1 gTup) (dS (e0 1 [] (iG (mV 1)) (gN 0) gu (eI (eQ (dS (mV 0) (dS (mC (D.int 0)) (dS (mC (D.int 0)) dU)))))) dU)) (dS (mV 2) dU)))))
def kh:FN:=iC 3 wf
theorem ze {f:dE}(F:eM K "begun" u9 f):
  fO P w K mg base 1 "begun" 1 kh:=xq ["standing","rooms","chalk"] X G F fun a=>
 (qF (qR xv (tg2 gq gq)) (qG (qU (ed (a2 (cz e9 (a1 (fk ["room"] (qd xv) ⟨gq,fK,(ed (a3 xv qK qK))⟩))) xv)))))
abbrev mF:dQ:=top 6
def nD:FS:=(d8 (eh (mV 2) (gT 2 (gCs (gN 4) (gCs (gN 5) gNl))))
  (d8 (eh (m2 (b2 dW) (mV 4) (mV 3)) (gT 3 (gCs (gN 6) (gCs (gN 7) (gCs (gN 8) gNl)))))
  (d8 (eh (e0 1 [6] (iG (mV 4)) (gN 0) (mB (m2 (b2 oS) (m2 (b2 dW) (mV 0) (mC (D.int 0))) (mV 1))) (eI (mV 0))) (gN 9))
  (d8 (eh (r9 [((mC (D.str "came")),(mV 7)),((mC (D.str "chalk")),(vy (mB (m2 (b2 i0) (mV 6) (mV 5))) (mC (D.int 1)) (mC (D.int 0)))),((mC (D.str "doors")),(mN (b1 eS) (dS (m2 (b2 dW) (mV 0) (mV 6)) dU))),((mC (D.str "others")),(vy (mB (m2 (b2 (iH fun i j=>decide (j<i))) (mN (b1 eS) (dS (mV 9) dU)) (mC (D.int 1)))) (mC (D.int 1)) (mC (D.int 0))))]) (gN 10))
  (fu (mN (b1 gTup) (dS (e0 2 [1,10] (iG (mC mj)) (gT 2 (gCs (gN 0) (gCs (gN 1) gNl))) gu (eI (vy (mB (m2 (b2 i0) (mV 0) (mV 2))) (m2 (b2 dW) (mV 3) (mV 0)) (mC D.non)))) dU)))))))
def gK:FN:=iC 11 nD
theorem rL {f:dE}(F:eM K "sight_of" mF f)(a:CGl K mg "PARTS" mj):
  fO P w K mg base 1 "sight_of" 4 gK:=xq ["web","eyes","whole","k","walkers","chalk","room","came","mood","here","parts"] X G F fun b=>
 (qF (qR xv (tg2 gq gq)) (qF (qR (jq xv xv) (gQ rfl (d7 gq (d7 gq (d7 gq gj))))) (qF (gE 9 rfl (T:=["other"]) (keep:=[6]) ⟨rfl,by decide+kernel,(kc "room" (cS _))⟩ rfl (qd xv) (fun _ _ _=>⟨gq,(fz (ct (oq k4) (jq xv qK) xv)),xv⟩) (gZ rfl) rfl (by first|exact Or.inl rfl|exact Or.inr rfl)) (qF (sq (ra (gi eE xv (gi eE (pE (ct (oq oD) xv xv (by with_unfolding_all rfl)) qK qK) (gi eE (cn fy (a1 (jq xv xv))) (gi eE (pE (ct zk (cn fy (a1 xv)) qK) qK qK) uS)))))) (qG (qU (cz e9 (a1 (fk ["eye","many"] (qd (xX a rfl)) ⟨(tg2 gq gq),fK,(pE (ct (oq oD) xv xv (by with_unfolding_all rfl)) (jq xv xv) gf)⟩)))))))))
abbrev ol:dQ:=top 10
def px:FS:=(d8 (eh (mV 0) (gT 2 (gCs (gN 2) (gCs (gN 3) gNl))))
  (d8 (eh (e0 2 [] (AR (dS (mV 2) (dS (mV 1) dU))) (gT 2 (gCs (gN 0) (gCs (gN 1) gNl))) (mB (m2 (b2 oS) (m2 (b2 dW) (mV 1) (mC (D.int 1))) (mC (D.str "mark")))) (eI (m2 (b2 dW) (mV 0) (mC (D.int 0))))) (gN 4))
  (d8 (eh (e0 2 [] (AR (dS (mV 2) (dS (mV 1) dU))) (gT 2 (gCs (gN 0) (gCs (gN 1) gNl))) (mB (m2 (b2 oS) (m2 (b2 dW) (mV 1) (mC (D.int 1))) (mC (D.str "wipe")))) (eI (m2 (b2 dW) (mV 0) (mC (D.int 0))))) (gN 5))
  (d8 (eh (e0 1 [5] (iG (mV 3)) (gN 0) (mB (m2 (b2 fG) (mV 0) (mV 1))) (eI (mV 0))) (gN 6))
  (fu (mN (b1 gTup) (dS (mN (b1 iY) (dS (m2 (b2 fS) (mV 6) (mV 4)) dU)) dU)))))))
def ii:FN:=iC 7 px
theorem ui {f:dE}(F:eM K "handled" ol f):
  fO P w K mg base 1 "handled" 2 ii:=xq ["whole","deeds","walkers","chalk","marked","wiped","left"] X G F fun a=>
 (qF (qR xv (tg2 gq gq)) (qF (gE 4 rfl (T:=["walker","deed"]) (keep:=[]) ⟨rfl,by decide+kernel,(cS _)⟩ rfl (jL rfl (bz B) (a2 xv xv)) (fun _ _ _=>⟨(tg2 gq gq),(fz (ct (oq k4) (jq xv qK) eE)),(jq xv qK)⟩) (gZ rfl) rfl (by first|exact Or.inl rfl|exact Or.inr rfl)) (qF (sq (fk ["walker","deed"] (jL rfl (bz B) (a2 xv xv)) ⟨(tg2 gq gq),(fz (ct (oq k4) (jq xv qK) eE)),(jq xv qK)⟩)) (qF (gE 6 rfl (T:=["room"]) (keep:=[5]) ⟨rfl,by decide+kernel,(kc "wiped" (cS _))⟩ rfl (qd xv) (fun _ _ _=>⟨gq,(fz (ct (oq mW) xv xv (by with_unfolding_all rfl))),xv⟩) (gZ rfl) rfl (by first|exact Or.inl rfl|exact Or.inr rfl)) (qG (qU (cz e9 (a1 (wu rfl rfl (bz B) rfl (bz B) (qI fT xv xv))))))))))
abbrev oj:dQ:=top 11
def pu:FS:=(d8 (eh (mV 1) (gT 3 (gCs (gN 3) (gCs (gN 4) (gCs (gN 5) gNl)))))
  (d8 (eh (mV 2) (gT 3 (gCs (gN 6) (gCs (gN 7) (gCs (gN 8) gNl)))))
  (d8 (hH (FH (mB (m2 (b2 Ck) (mV 8) (mC D.non))) (mB (m2 (b2 (iH fun i j=>decide (j<=i))) (mV 8) (mN (b1 eS) (dS (m2 (b2 dW) (mV 0) (mV 3)) dU))))) (fu (eQ (dS (mV 3) (dS (mV 4) (dS (mV 6) dU))))) qT)
  (d8 (eh (m2 (b2 dW) (m2 (b2 dW) (mV 0) (mV 3)) (mV 8)) (gT 2 (gCs (gN 9) (gCs (gN 10) gNl))))
  (fu (eQ (dS (mV 9) (dS (m2 (b2 fS) (mC (D.int 1)) (mV 10)) (dS (mV 6) dU)))))))))
def ig:FN:=iC 11 pu
theorem uh {f:dE}(F:eM K "stepped" oj f):
  fO P w K mg base 1 "stepped" 3 ig:=xq ["web","walker","deed","room","came","past","mood","hand","step","there","back"] X G F fun a=>
 (qF (qR xv (gQ rfl (d7 gq (d7 gq (d7 gq gj))))) (qF (qR xv (gQ rfl (d7 gq (d7 gq (d7 gq gj))))) (qF (qV (lm (tJ (ct Gy xv gf) (pA (ct GB xv (cn fy (a1 (jq xv xv))))))) (qG (qU (ed (a3 xv xv xv)))) qQ) (qF (qR (jq (jq xv xv) xv) (tg2 gq gq)) (qG (qU (ed (a3 xv (qI fT qK xv) xv))))))))
abbrev lr:dQ:=top 15
def i8:FS:=(d8 (eh (mC (D.int 0)) (gN 2))
  (d8 (hH (mB (m2 (b2 xL) (mV 1) (mN (b1 eS) (dS (mV 0) dU)))) (eh (m2 (b2 dW) (mV 0) (mV 1)) (gN 2)) qT)
  (d8 (eh (m2 (b2 jo) (m2 (b2 kw) (mV 2) (m2 (b2 jo) (m2 (b2 uA) (mC (D.int 10)) (mC (D.int 60))) (m2 (b2 uA) (mC (D.int 10)) (mC (D.int 30))))) (mN (b1 nU) (dS (m2 (b2 (iH fun i j=>decide (j<=i))) (mV 2) (m2 (b2 uA) (mC (D.int 10)) (mC (D.int 18)))) dU))) (gN 3))
  (fu (jC (dS (mV 3) (dS (m2 (b2 kw) (m2 (b2 fS) (m2 (b2 fS) (m2 (b2 kw) (mV 2) (mC (D.int 2305843009213693951))) (m2 (b2 jo) (mC (D.int 7919)) (mV 1))) (mC (D.int 3))) (mC (D.int 2305843009213693951))) (dS (mC (D.int 0)) dU))))))))
def fC:FN:=iC 4 i8
theorem p8 {f:dE}(F:eM K "_law_hand" lr f):
  fO P w K mg base 1 "_law_hand" 2 fC:=xq ["_law_script","_law_k","_law_cell","_law_great"] X G F fun a=>
 (qF (sq qK) (qF (qV (ct (oq lG) xv (cn fy (a1 xv))) (qG (sq (jq xv xv))) qQ) (qF (sq (qI ka (qI lF xv (qI ka (qI zh qK qK) (qI zh qK qK))) (cz wb (a1 (ce GB xv (qI zh qK qK)))))) (qG (qU (gz (a3 xv (qI lF (qI fT (qI fT (qI lF xv qK) (qI ka qK xv)) qK) qK) qK)))))))
abbrev lp:dQ:=top 16
def i7:FS:=(d8 (hH (mB (m2 (b2 (iH fun i j=>decide (j<i))) (m2 (b2 dW) (mV 0) (mC (D.int 0))) (mC (D.int 0)))) (d8 (eh (m2 (b2 kw) (m2 (b2 dW) (mV 0) (mC (D.int 0))) (mV 1)) (gN 2))
  (d8 (eh (m2 (b2 nV) (m2 (b2 dW) (mV 0) (mC (D.int 0))) (mV 1)) (gS (b3 iZ) (mV 0) (mC (D.int 0))))
  (fu (mV 2)))) qT)
  (d8 (eh (m2 (b2 fS) (m2 (b2 dW) (mV 0) (mC (D.int 2))) (mC (D.int 1))) (gS (b3 iZ) (mV 0) (mC (D.int 2))))
  (d8 (eh (m2 (b2 kw) (m2 (b2 jo) (m2 (b2 fS) (m2 (b2 fS) (m2 (b2 dW) (mV 0) (mC (D.int 1))) (m2 (b2 jo) (m2 (b2 jo) (mC (D.int 65537)) (m2 (b2 dW) (mV 0) (mC (D.int 2)))) (m2 (b2 dW) (mV 0) (mC (D.int 2))))) (mC (D.int 11))) (mC (D.int 48271))) (mC (D.int 2305843009213693921))) (gN 3))
  (d8 (eh (m2 (b2 kw) (m2 (b2 jo) (mV 3) (m2 (b2 fS) (m2 (b2 kw) (mV 3) (mC (D.int 1000003))) (m2 (b2 jo) (mC (D.int 99991)) (m2 (b2 dW) (mV 0) (mC (D.int 2)))))) (mC (D.int 2305843009213693907))) (gN 3))
  (fu (m2 (b2 kw) (m2 (b2 fS) (m2 (b2 nV) (mV 3) (mC (D.int 97))) (m2 (b2 nV) (mV 3) (mC (D.int 1000033)))) (mV 1)))))))
def dV:FN:=iC 4 i7
theorem p7 {f:dE}(F:eM K "_law_take" lp f):
  fO P w K mg base 1 "_law_take" 2 dV:=xq ["_law_hand_here","_law_many","_law_digit","_law_mixed"] X G F fun a=>
 (qF (qV (ct zk (jq xv qK) qK) (qF (sq (qI lF (jq xv qK) xv)) (qF (qR (qI vr (jq xv qK) xv) (l8 xv qK (pT a.units))) (qG (qU xv)))) qQ) (qF (qR (qI fT (jq xv qK) qK) (l8 xv qK (pT a.units))) (qF (sq (qI lF (qI ka (qI fT (qI fT (jq xv qK) (qI ka (qI ka qK (jq xv qK)) (jq xv qK))) qK) qK) qK)) (qF (sq (qI lF (qI ka xv (qI fT (qI lF xv qK) (qI ka qK (jq xv qK)))) qK)) (qG (qU (qI lF (qI fT (qI vr xv qK) (qI vr xv qK)) xv)))))))
abbrev mJ:dQ:=top 18
def nH:FS:=(d8 (eh (m2 (b2 dW) (m2 (b2 dW) (mV 1) (m2 (b2 dW) (mV 2) (mC (D.int 0)))) (m2 (b2 gSub) (mC (D.int 1)) (m2 (b2 dW) (mV 2) (mC (D.int 1))))) (gN 3))
  (fu (eQ (dS (mV 3) (dS (oH (b2 z0) (m2 (b2 dW) (mV 0) (mV 3)) (dS (eQ (dS (m2 (b2 dW) (mV 2) (mC (D.int 0))) (dS (m2 (b2 gSub) (mC (D.int 1)) (m2 (b2 dW) (mV 2) (mC (D.int 1)))) dU))) dU)) dU)))))
def ga:FN:=iC 4 nH
theorem rQ {f:dE}(F:eM K "_law_far" mJ f):
  fO P w K mg base 1 "_law_far" 3 ga:=xq ["_law_ends","_law_pairs","_law_end","_law_room"] X G F fun a=>
 (qF (sq (jq (jq xv (jq xv qK)) (qI zg qK (jq xv qK)))) (qG (qU (ed (a2 xv (qe PySem.F.slot_list_index PySem.F.type_list_index (FX a.units) (jq xv xv) (a1 (ed (a2 (jq xv qK) (qI zg qK (jq xv qK)))))))))))
abbrev jT:dQ:=top 22
def kI:FS:=(d8 (eh (m2 (b2 dW) (m2 (b2 dW) (mV 2) (mC (D.int 0))) (mV 3)) (gT 3 (gCs (gN 4) (gCs (gN 5) (gCs (gN 6) gNl)))))
  (d8 (eh (mN (b1 eS) (dS (e0 1 [4] (iG (m2 (b2 dW) (mV 2) (mC (D.int 0)))) (gN 0) (mB (m2 (b2 oS) (m2 (b2 dW) (mV 0) (mC (D.int 0))) (mV 1))) (eI (mV 0))) dU)) (gN 7))
  (d8 (eh (r9 [((mC (D.str "came")),(mV 5)),((mC (D.str "chalk")),(mN (b1 nU) (dS (m2 (b2 i0) (mV 4) (m2 (b2 dW) (mV 2) (mC (D.int 1)))) dU))),((mC (D.str "doors")),(mN (b1 eS) (dS (m2 (b2 dW) (mV 0) (mV 4)) dU))),((mC (D.str "others")),(mN (b1 nU) (dS (m2 (b2 (iH fun i j=>decide (j<i))) (mV 7) (mC (D.int 1))) dU)))]) (gN 8))
  (fu (mN (b1 gTup) (dS (e0 1 [1,8] (iG (eQ (dS (mC (D.str "came")) (dS (mC (D.str "chalk")) (dS (mC (D.str "doors")) (dS (mC (D.str "others")) dU)))))) (gN 0) gu (eI (vy (mB (m2 (b2 i0) (mV 0) (mV 1))) (m2 (b2 dW) (mV 2) (mV 0)) (mC D.non)))) dU))))))
def eX:FN:=iC 9 kI
theorem nO {f:dE}(F:eM K "_law_sight" jT f):
  fO P w K mg base 1 "_law_sight" 4 eX:=xq ["_law_web_here","_law_eyes","_law_whole","_law_k","_law_room","_law_came","_law_mood","_law_crowd","_law_parts"] X G F fun a=>
 (qF (qR (jq (jq xv qK) xv) (gQ rfl (d7 gq (d7 gq (d7 gq gj))))) (qF (sq (cn fy (a1 (fk ["_law_walker"] (qd (jq xv qK)) ⟨gq,(fz (ct (oq k4) (jq xv qK) xv)),xv⟩)))) (qF (sq (ra (gi eE xv (gi eE (cz wb (a1 (ce (oq oD) xv (jq xv qK) (by with_unfolding_all rfl)))) (gi eE (cn fy (a1 (jq xv xv))) (gi eE (cz wb (a1 (ce zk xv qK))) uS)))))) (qG (qU (cz e9 (a1 (fk ["_law_eye"] (qd (ed (qA eE (a3 eE eE eE)))) ⟨gq,fK,(pE (ct (oq oD) xv xv (by with_unfolding_all rfl)) (jq xv xv) gf)⟩))))))))
abbrev iN:dQ:=top 23
def ic:FS:=(d8 (eh (e0 2 [4] (AR (dS (m2 (b2 dW) (mV 1) (mC (D.int 0))) (dS (mV 2) dU))) (gT 2 (gCs (gN 0) (gCs (gN 1) gNl))) (mB (m2 (b2 oS) (m2 (b2 dW) (mV 0) (mC (D.int 0))) (mV 2))) (eI (m2 (b2 dW) (mV 1) (mC (D.int 1))))) (gN 5))
  (hH (FH (mB (m2 (b2 i0) (mC (D.str "mark")) (mV 5))) (sd (mB (m2 (b2 i0) (mV 4) (m2 (b2 dW) (mV 1) (mC (D.int 1))))) (mB (m2 (b2 fG) (mC (D.str "wipe")) (mV 5))))) (fi (oH (b2 jp) (mV 3) (dS (mV 4) dU))) qT))
def i9:FS:=(d8 (eh (jC dU) (gN 3))
  (d8 (iT (ux (dS (mN (b1 eS) (dS (mV 0) dU)) dU)) (gN 4) ic)
  (fu (mN (b1 gTup) (dS (mV 3) dU)))))
def fD:FN:=iC 6 i9
theorem lX {f:dE}(F:eM K "_law_chalked" iN f):
  fO P w K mg base 1 "_law_chalked" 3 fD:=xq ["_law_web_here","_law_whole","_law_dealt","_law_found","_law_room","_law_hands"] X G F fun a=>
 (qF (sq (gz qN)) (qF (fo (ir (a1 (cn fy (a1 xv)))) gq (qF (gE 5 rfl (T:=["_law_walker","_law_deed_here"]) (keep:=[4]) ⟨rfl,by decide+kernel,(kc "_law_room" (cS _))⟩ rfl (jL rfl (bz B) (a2 (jq xv qK) xv)) (fun _ _ _=>⟨(tg2 gq gq),(fz (ct (oq k4) (jq xv qK) xv)),(jq xv qK)⟩) (gZ rfl) rfl (by first|exact Or.inl rfl|exact Or.inr rfl)) (qG (qV (lm (tJ (ct (oq oD) eE xv (by with_unfolding_all rfl)) (pA (lm (jJ (ct (oq oD) xv (jq xv qK) (by with_unfolding_all rfl)) (iI (ct (oq mW) eE xv (by with_unfolding_all rfl)))))))) (qG (lq ap xv (a1 xv))) qQ)))) (qG (qU (cz e9 (a1 xv))))))
abbrev om:dQ:=top 2
def lE:FT:=(sd (mB (m2 (b2 xL) (mV 4) (mN (b1 eS) (dS (mV 3) dU)))) (mB (m2 (b2 oS) (m2 (b2 dW) (m2 (b2 dW) (m2 (b2 dW) (mV 3) (mV 4)) (mC (D.int 0))) (mC (D.int 0))) (mV 1))))
def lD:FS:=(d8 (hH (mB (m2 (b2 oS) (m2 (b2 dW) (m2 (b2 dW) (m2 (b2 dW) (mV 3) (mV 4)) (mC (D.int 0))) (mC (D.int 1))) (mV 2))) (fu (m2 (b2 dW) (m2 (b2 dW) (mV 3) (mV 4)) (mC (D.int 1)))) qT)
  (B0 4 (b2 Aa) (mC (D.int 1))))
def py:FS:=(d8 (eh (m2 (b2 dW) (mV 0) (mC (D.int 1))) (gN 3))
  (d8 (eh (mN (dX 2 gL) (dS (mV 3) (dS (mV 1) dU))) (gN 4))
  (d8 (qS lE lD 100000)
  (fu (eQ (dS (mV 1) (dS (mC (D.str "leave")) (dS (mC D.non) dU))))))))
def f0:FN:=iC 5 py
theorem uj {f:dE}(F:eM K "deed_of" om f)(a:fO P w K mg base 1 "first_of" 2 gL):
  fO P w K mg base 2 "deed_of" 3 f0:=xq ["machine","mood","sight","rows","at"] X G F fun b=>
 (qF (sq (jq xv qK)) (qF (sq (wn a (a2 xv xv))) (qF (kT 100000 PassesOwn.never (lm (jJ (ct (oq lG) xv (cn fy (a1 xv))) (iI (ct (oq k4) (jq (jq (jq xv xv) qK) qK) xv)))) (qF (qV (ct (oq k4) (jq (jq (jq xv xv) qK) qK) xv) (qG (qU (jq (jq xv xv) qK))) qQ) (qG (AX 4 (gZ rfl) rfl (by first|exact Or.inl rfl|exact Or.inr rfl) qK B9)))) (qG (qU (ed (a3 xv eE gf)))))))
abbrev u7:dQ:=top 7
def wd:FS:=(fu (e0 2 [0,1,2] (FJ (dS (m2 (b2 dW) (mV 2) (mC (D.int 0))) dU)) (gT 2 (gCs (gN 0) (gCs (gN 1) gNl))) gu (eI (eQ (dS (m2 (b2 dW) (mV 1) (mC (D.int 2))) (dS (mN (dX 4 gK) (dS (mV 2) (dS (mV 3) (dS (mV 4) (dS (mV 0) dU))))) dU))))))
def kf:FN:=iC 3 wd
theorem zb {f:dE}(F:eM K "wants" u7 f)(a:fO P w K mg base 1 "sight_of" 4 gK):
  fO P w K mg base 2 "wants" 3 kf:=xq ["web","eyes","whole"] X G F fun b=>
 (qG (qU (fk ["k","walker"] (ie (a1 (jq xv qK))) ⟨(tg2 gq gq),fK,(ed (a2 (jq xv qK) (wn a (qA xv (a3 xv xv xv)))))⟩)))
abbrev u8:dQ:=top 9
def we:FS:=(d8 (eh (mV 1) (gT 2 (gCs (gN 3) (gCs (gN 4) gNl))))
  (d8 (eh (e0 2 [0] (AR (dS (mV 3) (dS (mV 2) dU))) (gT 2 (gCs (gN 0) (gCs (gN 1) gNl))) gu (eI (mN (dX 3 ig) (dS (mV 2) (dS (mV 0) (dS (mV 1) dU)))))) (gN 5))
  (fu (eQ (dS (mN (b1 gTup) (dS (mV 5) dU)) (dS (mN (dX 2 ii) (dS (mV 1) (dS (mV 2) dU))) dU))))))
def kg:FN:=iC 6 we
theorem zd {f:dE}(F:eM K "moved" u8 f)(b:fO P w K mg base 1 "handled" 2 ii)(a:fO P w K mg base 1 "stepped" 3 ig):
  fO P w K mg base 2 "moved" 3 kg:=xq ["web","whole","deeds","walkers","chalk","behind"] X G F fun c=>
 (qF (qR xv (tg2 gq gq)) (qF (gE 5 rfl (T:=["walker","deed"]) (keep:=[0]) ⟨rfl,by decide+kernel,(kc "web" (cS _))⟩ rfl (jL rfl (bz B) (a2 xv xv)) (fun _ _ _=>⟨(tg2 gq gq),fK,(wn a (a3 xv xv xv))⟩) (gZ rfl) rfl (by first|exact Or.inl rfl|exact Or.inr rfl)) (qG (qU (ed (a2 (cz e9 (a1 xv)) (wn b (a2 xv xv))))))))
abbrev mI:dQ:=top 17
def nG:FS:=(d8 (fi (oH (b3 xc) (m2 (b2 dW) (mV 1) (mV 3)) (dS (mN (dX 2 dV) (dS (mV 0) (dS (m2 (b2 fS) (mN (b1 eS) (dS (m2 (b2 dW) (mV 1) (mV 3)) dU)) (mC (D.int 1))) dU))) (dS (eQ (dS (mN (b1 eS) (dS (mV 2) dU)) (dS (mC (D.int 0)) dU))) dU))))
  (d8 (fi (oH (b3 xc) (m2 (b2 dW) (mV 1) (mV 4)) (dS (mN (dX 2 dV) (dS (mV 0) (dS (m2 (b2 fS) (mN (b1 eS) (dS (m2 (b2 dW) (mV 1) (mV 4)) dU)) (mC (D.int 1))) dU))) (dS (eQ (dS (mN (b1 eS) (dS (mV 2) dU)) (dS (mC (D.int 1)) dU))) dU))))
  (fi (oH (b2 jp) (mV 2) (dS (eQ (dS (mV 3) (dS (mV 4) dU))) dU)))))
def fQ:FN:=iC 5 nG
theorem rP {f:dE}(F:eM K "_law_tie" mI f)(a:fO P w K mg base 1 "_law_take" 2 dV):
  fO P w K mg base 2 "_law_tie" 5 fQ:=xq ["_law_hand_here","_law_ends","_law_pairs","_law_one","_law_other"] X G F (hb:=fun _ _ _ _ _ _ d b=>HP b fun _ _ _ _ _=>rfl) fun c=>
 (qF (lq ⟨PySem.F.slot_list_insert,PySem.F.type_list_insert,CT⟩ (jq xv xv) (a2 (wn a (a2 xv (qI fT (cn fy (a1 (jq xv xv))) qK))) (ed (a2 (cn fy (a1 xv)) qK)))) (qF (lq ⟨PySem.F.slot_list_insert,PySem.F.type_list_insert,CT⟩ (jq xv xv) (a2 (wn a (a2 xv (qI fT (cn fy (a1 (jq xv xv))) qK))) (ed (a2 (cn fy (a1 xv)) qK)))) (qG (lq ap xv (a1 (ed (a2 xv xv)))))))
abbrev iD:dQ:=top 20
def gX:FT:=(mB (m2 (b2 (iH fun i j=>decide (j<i))) (mN (b1 eS) (dS (mV 3) dU)) (m2 (b2 fS) (mC (D.int 1)) (mN (dX 2 dV) (dS (mV 0) (dS (mV 2) dU))))))
def gW:FS:=(fi (oH (b2 zY) (mV 3) (dS (mN (dX 2 dV) (dS (mV 0) (dS (mN (b1 eS) (dS (mV 3) dU)) dU))) dU)))
def iE:FS:=(d8 (eh (zB (dS (mV 1) dU)) (gN 3))
  (d8 (qS gX gW 100000)
  (d8 (eh (mN (dX 2 dV) (dS (mV 0) (dS (mC (D.int 2)) dU))) (gN 4))
  (fu (eQ (dS (mN (b1 gTup) (dS (mV 3) dU)) (dS (mN (b1 gTup) (dS (e0 1 [4,0] (ux (dS (mV 1) dU)) (gN 0) (mB (m2 (b2 oS) (m2 (b2 jo) (mV 1) (mN (dX 2 dV) (dS (mV 2) (dS (mC (D.int 3)) dU)))) (mC (D.int 1)))) (eI (mV 0))) dU)) dU)))))))
def ft:FN:=iC 5 iE
theorem kZ {f:dE}(F:eM K "_law_standing" iD f)(a:fO P w K mg base 1 "_law_take" 2 dV):
  fO P w K mg base 2 "_law_standing" 3 ft:=xq ["_law_hand_here","_law_many","_law_most","_law_rooms","_law_some"] X G F fun b=>
 (qF (sq (tO rfl rfl (bz B) rfl (bz B) (a1 xv))) (qF (kT 100000 PassesOwn.never (ct zk (cn fy (a1 xv)) (qI fT qK (wn a (a2 xv xv)))) (qG (lq ⟨PySem.F.slot_list_pop,PySem.F.type_list_pop,FW⟩ xv (a1 (wn a (a2 xv (cn fy (a1 xv)))))))) (qF (sq (wn a (a2 xv qK))) (qG (qU (ed (a2 (cz e9 (a1 xv)) (cz e9 (a1 (fk ["_law_room"] (ir (a1 xv)) ⟨gq,(fz (ct (oq k4) (qI ka xv (wn a (a2 xv qK))) qK)),xv⟩))))))))))
abbrev hV:dQ:=top 21
def ik:FS:=(fu (mN (b1 gTup) (dS (e0 1 [0] (iG (eQ (dS (mC (D.str "came")) (dS (mC (D.str "chalk")) (dS (mC (D.str "doors")) (dS (mC (D.str "others")) dU)))))) (gN 0) (mB (m2 (b2 oS) (mN (dX 2 dV) (dS (mV 1) (dS (mC (D.int 2)) dU))) (mC (D.int 0)))) (eI (mV 0))) dU)))
def fc:FN:=iC 1 ik
theorem j9 {f:dE}(F:eM K "_law_some_eyes" hV f)(a:fO P w K mg base 1 "_law_take" 2 dV):
  fO P w K mg base 2 "_law_some_eyes" 1 fc:=xq ["_law_hand_here"] X G F fun b=>
 (qG (qU (cz e9 (a1 (fk ["_law_eye"] (qd (ed (qA eE (a3 eE eE eE)))) ⟨gq,(fz (ct (oq k4) (wn a (a2 xv qK)) qK)),xv⟩)))))
abbrev lA:dQ:=top 24
def jw:FS:=(d8 (eh (m2 (b2 dW) (m2 (b2 dW) (m2 (b2 dW) (mV 3) (mC (D.int 0))) (mV 6)) (mC (D.int 2))) (gN 7))
  (fi (oH (b2 jp) (mV 4) (dS (qh (mV 2) (eQ (dS (mV 7) (dS (mN (dX 4 eX) (dS (mV 0) (dS (mV 1) (dS (mV 3) (dS (mV 6) dU))))) dU))) (eQ (dS (mV 7) (dS (mC (D.str "leave")) (dS (mC D.non) dU))))) dU))))
def jv:FS:=(d8 (hH (sd (mB (m2 (b2 g9) (mV 12) (mC D.non))) (mB (m2 (b2 xL) (mV 12) (mN (b1 eS) (dS (m2 (b2 dW) (mV 0) (mV 8)) dU))))) (eh (eQ (dS (m2 (b2 dW) (m2 (b2 dW) (m2 (b2 dW) (mV 0) (mV 8)) (mV 12)) (mC (D.int 0))) (dS (m2 (b2 fS) (mC (D.int 1)) (m2 (b2 dW) (m2 (b2 dW) (m2 (b2 dW) (mV 0) (mV 8)) (mV 12)) (mC (D.int 1)))) dU))) (gT 2 (gCs (gN 8) (gCs (gN 9) gNl)))) qT)
  (fi (oH (b2 jp) (mV 5) (dS (eQ (dS (mV 8) (dS (mV 9) (dS (mV 10) dU)))) dU))))
def lT:FS:=(d8 (eh (eQ (dS (jC dU) (dS (jC dU) dU))) (gT 2 (gCs (gN 4) (gCs (gN 5) gNl))))
  (d8 (iT (ux (dS (mN (b1 eS) (dS (m2 (b2 dW) (mV 3) (mC (D.int 0))) dU)) dU)) (gN 6) jw)
  (d8 (iT (AR (dS (m2 (b2 dW) (mV 3) (mC (D.int 0))) (dS (mV 4) dU))) (gT 2 (gCs (gT 3 (gCs (gN 8) (gCs (gN 9) (gCs (gN 7) gNl)))) (gCs (gT 3 (gCs (gN 10) (gCs (gN 11) (gCs (gN 12) gNl)))) gNl))) jv)
  (fu (eQ (dS (mN (b1 gTup) (dS (mV 5) dU)) (dS (mN (dX 3 fD) (dS (mV 0) (dS (mV 3) (dS (mV 4) dU)))) dU)))))))
def gl:FN:=iC 13 lT
theorem qa {f:dE}(F:eM K "_law_beat" lA f)(a:fO P w K mg base 1 "_law_chalked" 3 fD)(c:fO P w K mg base 1 "_law_sight" 4 eX):
  fO P w K mg base 2 "_law_beat" 4 gl:=xq ["_law_web_here","_law_eyes","_law_rows","_law_whole","_law_dealt","_law_walkers","_law_k","_law_mood","_law_room","_law_came","_law_later","_law_hand_here","_law_step"] X G F fun b=>
 (qF (l7 4 5 rfl (gZ rfl) rfl rfl (by decide) rfl rfl (a2 (gz qN) (gz qN))) (qF (fo (ir (a1 (cn fy (a1 (jq xv qK))))) gq (qF (sq (jq (jq (jq xv qK) xv) qK)) (qG (lq ap xv (a1 (wv b.units xv (ed (a2 xv (wn c (qA xv (a3 xv xv xv))))) (ed (a3 xv eE gf)))))))) (qF (fo (jL rfl (bz B) (a2 (jq xv qK) xv)) (tg2 (gQ rfl (d7 gq (d7 gq (d7 gq gj)))) (gQ rfl (d7 gq (d7 gq (d7 gq gj))))) (qF (qV (lm (jJ (ct mX xv gf) (iI (ct (oq lG) xv (cn fy (a1 (jq xv xv))))))) (qG (l7 8 9 rfl (gZ rfl) rfl rfl (by decide) rfl rfl (a2 (jq (jq (jq xv xv) xv) qK) (qI fT qK (jq (jq (jq xv xv) xv) qK))))) qQ) (qG (lq ap xv (a1 (ed (a3 xv xv xv))))))) (qG (qU (ed (a2 (cz e9 (a1 xv)) (wn a (a3 xv xv xv)))))))))
abbrev lz:dQ:=top 25
def lS:FS:=(d8 (eh (m2 (b2 dW) (eQ (dS (mC D.non) (dS (mC (D.int 0)) (dS (mC (D.int 1)) (dS (mC (D.int 2)) (dS (mC (D.int 3)) (dS (mC (D.int 0)) (dS (mC (D.int 1)) dU)))))))) (mN (dX 2 dV) (dS (mV 0) (dS (mC (D.int 7)) dU)))) (gN 1))
  (fu (eQ (dS (mN (dX 2 dV) (dS (mV 0) (dS (mC (D.int 3)) dU))) (dS (m2 (b2 dW) (eQ (dS (mC (D.str "leave")) (dS (mC (D.str "leave")) (dS (mC (D.str "mark")) (dS (mC (D.str "wipe")) dU))))) (mN (dX 2 dV) (dS (mV 0) (dS (mC (D.int 4)) dU)))) (dS (mV 1) dU))))))
def gk:FN:=iC 2 lS
theorem p9 {f:dE}(F:eM K "_law_deed" lz f)(a:fO P w K mg base 1 "_law_take" 2 dV):
  fO P w K mg base 2 "_law_deed" 1 gk:=xq ["_law_hand_here","_law_step"] X G F fun b=>
 (qF (sq (jq (ed (qA gf (qA qK (qA qK (qA qK (a3 qK qK qK)))))) (wn a (a2 xv qK)))) (qG (qU (ed (a3 (wn a (a2 xv qK)) (jq (ed (qA eE (a3 eE eE eE))) (wn a (a2 xv qK))) xv)))))
abbrev yA:dQ:=top 8
def AD:FS:=(d8 (eh (mN (dX 3 kf) (dS (mV 0) (dS (m2 (b2 dW) (mV 1) (mC (D.int 0))) (dS (mV 2) dU)))) (gN 3))
  (fu (mN (dX 3 kg) (dS (mV 0) (dS (mV 2) (dS (e0 2 [1] (iG (mV 3)) (gT 2 (gCs (gN 0) (gCs (gN 1) gNl))) gu (eI (mN (dX 3 f0) (dS (mV 2) (dS (mV 0) (dS (mV 1) dU)))))) dU))))))
def m3:FN:=iC 4 AD
theorem BD {f:dE}(F:eM K "beat" yA f)(a:fO P w K mg base 2 "deed_of" 3 f0)(c:fO P w K mg base 2 "moved" 3 kg)(b:fO P w K mg base 2 "wants" 3 kf):
  fO P w K mg base 3 "beat" 3 m3:=xq ["web","machine","whole","wanted"] X G F fun d=>
 (qF (sq (wn b (a3 xv (jq xv qK) xv))) (qG (qU (wn c (a3 xv xv (fk ["mood","sight"] (qd xv) ⟨(tg2 gq gq),fK,(wn a (a3 xv xv xv))⟩))))))
abbrev mH:dQ:=top 19
def iw:FS:=(d8 (eh (e0 1 [3] (ux (dS (mV 5) dU)) (gN 0) (mB (m2 (b2 xL) (mN (b1 eS) (dS (m2 (b2 dW) (mV 1) (mV 0)) dU)) (mC (D.int 4)))) (eI (mV 0))) (gN 6))
  (fi (mN (dX 5 fQ) (dS (mV 0) (dS (mV 3) (dS (mV 4) (dS (m2 (b2 dW) (mV 6) (mN (dX 2 dV) (dS (mV 0) (dS (mN (b1 eS) (dS (mV 6) dU)) dU)))) (dS (mV 5) dU))))))))
def iu:FS:=(d8 (eh (eQ (dS (mN (dX 2 dV) (dS (mV 0) (dS (mV 2) dU))) (dS (mN (dX 2 dV) (dS (mV 0) (dS (mV 2) dU))) dU))) (gT 2 (gCs (gN 8) (gCs (gN 9) gNl))))
  (hH (sd (mB (m2 (b2 xL) (mN (b1 eS) (dS (m2 (b2 dW) (mV 3) (mV 8)) dU)) (mC (D.int 4)))) (mB (m2 (b2 xL) (mN (b1 eS) (dS (m2 (b2 dW) (mV 3) (mV 9)) dU)) (m2 (b2 gSub) (mC (D.int 4)) (mN (b1 nU) (dS (m2 (b2 oS) (mV 8) (mV 9)) dU)))))) (fi (mN (dX 5 fQ) (dS (mV 0) (dS (mV 3) (dS (mV 4) (dS (mV 8) (dS (mV 9) dU))))))) qT))
def nF:FS:=(d8 (eh (m2 (b2 fS) (mC (D.int 1)) (mN (dX 2 dV) (dS (mV 0) (dS (mV 1) dU)))) (gN 2))
  (d8 (eh (eQ (dS (e0 1 [] (ux (dS (mV 2) dU)) (gN 0) gu (eI (jC dU))) (dS (jC dU) dU))) (gT 2 (gCs (gN 3) (gCs (gN 4) gNl))))
  (d8 (iT (GX (dS (mC (D.int 1)) (dS (mV 2) dU))) (gN 5) iw)
  (d8 (iT (ux (dS (mN (dX 2 dV) (dS (mV 0) (dS (mC (D.int 7)) dU))) dU)) (gN 7) iu)
  (fu (mN (b1 gTup) (dS (e0 1 [3,4] (iG (mV 3)) (gN 0) gu (eI (mN (b1 gTup) (dS (e0 1 [1,2] (iG (mV 0)) (gN 0) gu (eI (mN (dX 3 ga) (dS (mV 1) (dS (mV 2) (dS (mV 0) dU)))))) dU)))) dU)))))))
def gM:FN:=iC 10 nF
theorem rO {f:dE}(F:eM K "_law_web" mH f)(c:fO P w K mg base 1 "_law_far" 3 ga)(b:fO P w K mg base 1 "_law_take" 2 dV)(a:fO P w K mg base 2 "_law_tie" 5 fQ):
  fO P w K mg base 3 "_law_web" 2 gM:=xq ["_law_hand_here","_law_most","_law_many","_law_ends","_law_pairs","_law_room","_law_some","_law_turn","_law_one","_law_other"] X G F fun d=>
 (qF (sq (qI fT qK (wn b (a2 xv xv)))) (qF (qR (ed (a2 (fk ["_law_room"] (ir (a1 xv)) ⟨gq,fK,(gz qN)⟩) (gz qN))) (tg2 gq gq)) (qF (fo (tK rfl (bz B) (a2 qK xv)) gq (qF (gE 6 rfl (T:=["_law_one"]) (keep:=[3]) ⟨rfl,by decide+kernel,(kc "_law_ends" (cS _))⟩ rfl (ir (a1 xv)) (fun _ _ _=>⟨gq,(fz (ct (oq lG) (cn fy (a1 (jq xv xv))) qK)),xv⟩) (gZ rfl) rfl (by first|exact Or.inl rfl|exact Or.inr rfl)) (qG (jK (wn a (qA xv (qA xv (a3 xv (jq xv (wn b (a2 xv (cn fy (a1 xv))))) xv)))))))) (qF (fo (ir (a1 (wn b (a2 xv qK)))) gq (qF (l7 8 9 rfl (gZ rfl) rfl rfl (by decide) rfl rfl (a2 (wn b (a2 xv xv)) (wn b (a2 xv xv)))) (qG (qV (lm (jJ (ct (oq lG) (cn fy (a1 (jq xv xv))) qK) (iI (ct (oq lG) (cn fy (a1 (jq xv xv))) (qI zg qK (cz wb (a1 (ce (oq k4) xv xv)))))))) (qG (jK (wn a (qA xv (qA xv (a3 xv xv xv)))))) qQ)))) (qG (qU (cz e9 (a1 (fk ["_law_row"] (qd xv) ⟨gq,fK,(cz e9 (a1 (fk ["_law_end"] (qd xv) ⟨gq,fK,(wn c (a3 xv xv xv))⟩)))⟩)))))))))
abbrev jV:dQ:=top 26
def iR:FS:=(d8 (eh (eQ (dS (m2 (b2 dW) (m2 (b2 dW) (m2 (b2 dW) (mV 4) (mC (D.int 0))) (mV 5)) (mC (D.int 2))) (dS (mN (dX 4 eX) (dS (mV 1) (dS (mV 2) (dS (mV 4) (dS (mV 5) dU))))) dU))) (gN 6))
  (hH (mB (m2 (b2 jj) (mV 6) (mV 3))) (d8 (eh (mC D.non) (gS (b3 iZ) (mV 3) (mV 6)))
  (hH (mB (m2 (b2 (iH fun i j=>decide (j<i))) (mN (dX 2 dV) (dS (mV 0) (dS (mC (D.int 12)) dU))) (mC (D.int 0)))) (eh (mN (dX 1 gk) (dS (mV 0) dU)) (gS (b3 iZ) (mV 3) (mV 6))) qT)) qT))
def kK:FS:=(iT (ux (dS (mN (b1 eS) (dS (m2 (b2 dW) (mV 4) (mC (D.int 0))) dU)) dU)) (gN 5) iR)
def fU:FN:=iC 7 kK
theorem nQ {f:dE}(F:eM K "_law_grown" jV f)(a:fO P w K mg base 2 "_law_deed" 1 gk)(c:fO P w K mg base 1 "_law_sight" 4 eX)(e:fO P w K mg base 1 "_law_take" 2 dV):
  fO P w K mg base 3 "_law_grown" 5 fU:=xq ["_law_hand_here","_law_web_here","_law_eyes","_law_rows","_law_whole","_law_k","_law_asked"] X G F (hb:=fun _ _ _ _ _ _ g d=>HP d fun _ _ _ _ _=>rfl) fun b=>
 (qG (fo (ir (a1 (cn fy (a1 (jq xv qK))))) gq (qF (sq (ed (a2 (jq (jq (jq xv qK) xv) qK) (wn c (qA xv (a3 xv xv xv)))))) (qG (qV (ct (oq zi) xv xv (by with_unfolding_all rfl)) (qF (qR gf (l8 xv xv (pT b.units))) (qG (qV (ct zk (wn e (a2 xv qK)) qK) (qG (qR (wn a (a1 xv)) (l8 xv xv (pT b.units)))) qQ))) qQ)))))
abbrev rz:dQ:=top 13
def mT:FS:=(fi (oH (b2 jp) (mV 4) (dS (mN (dX 3 m3) (dS (mV 0) (dS (mV 1) (dS (m2 (b2 dW) (mV 4) (m1 (b1 sD) (mC (D.int 1)))) dU)))) dU)))
def s7:FS:=(d8 (eh (jC (dS (mN (dX 1 kh) (dS (mV 2) dU)) dU)) (gN 4))
  (d8 (iT (ux (dS (mV 3) dU)) (gN 5) mT)
  (fu (mN (b1 gTup) (dS (mV 4) dU)))))
def iS:FN:=iC 6 s7
theorem wK {f:dE}(F:eM K "walked" rz f)(a:fO P w K mg base 3 "beat" 3 m3)(b:fO P w K mg base 1 "begun" 1 kh):
  fO P w K mg base 4 "walked" 4 iS:=xq ["web","machine","standing","beats","wholes","k"] X G F fun c=>
 (qF (sq (gz (a1 (wn b (a1 xv))))) (qF (fo (ir (a1 xv)) gq (qG (lq ap xv (a1 (wn a (a3 xv xv (jq xv (xV C2 qK)))))))) (qG (qU (cz e9 (a1 xv))))))
abbrev gU:dQ:=top 27
def gt:FS:=(d8 (fi (mN (dX 5 fU) (dS (mV 0) (dS (mV 1) (dS (mV 2) (dS (mV 5) (dS (m2 (b2 dW) (mV 6) (mV 7)) dU)))))))
  (d8 (eh (mN (b1 no) (dS (lg 1 [5] (mV 5) (gN 0) (mB (m2 (b2 g9) (m2 (b2 dW) (mV 1) (mV 0)) (mC D.non))) (eI (eQ (dS (mV 0) (dS (m2 (b2 dW) (mV 1) (mV 0)) dU))))) dU)) (gN 8))
  (fi (oH (b2 jp) (mV 6) (dS (mN (dX 4 gl) (dS (mV 1) (dS (mV 2) (dS (mV 8) (dS (m2 (b2 dW) (mV 6) (mV 7)) dU))))) dU)))))
def hC:FS:=(d8 (eh (eQ (dS zC (dS (jC (dS (eQ (dS (mN (b1 gTup) (dS (e0 1 [] (iG (m2 (b2 dW) (mV 3) (mC (D.int 0)))) (gN 0) gu (eI (eQ (dS (mV 0) (dS (mC (D.int 0)) (dS (mC (D.int 0)) dU)))))) dU)) (dS (m2 (b2 dW) (mV 3) (mC (D.int 1))) dU))) dU)) dU))) (gT 2 (gCs (gN 5) (gCs (gN 6) gNl))))
  (d8 (iT (ux (dS (mV 4) dU)) (gN 7) gt)
  (d8 (eh (eQ (dS (mV 2) (dS (mN (b1 gTup) (dS (mN (b1 nk) (dS (lg 1 [5] (mV 5) (gN 0) (mB (m2 (b2 g9) (m2 (b2 dW) (mV 1) (mV 0)) (mC D.non))) (eI (eQ (dS (mV 0) (dS (m2 (b2 dW) (mV 1) (mV 0)) dU))))) dU)) dU)) dU))) (gN 9))
  (fu (eQ (dS (mV 9) (dS (mV 6) dU)))))))
def eH:FN:=iC 10 hC
theorem jA {f:dE}(F:eM K "_law_drawn_walk" gU f)(a:fO P w K mg base 2 "_law_beat" 4 gl)(b:fO P w K mg base 3 "_law_grown" 5 fU):
  fO P w K mg base 4 "_law_drawn_walk" 5 eH:=xq ["_law_hand_here","_law_web_here","_law_eyes","_law_standing_here","_law_beats","_law_rows","_law_wholes","_law_turn","_law_there","_law_machine"] X G F (hb:=fun _ _ _ _ _ _ e d=>HP d fun _ _ _ _ _=>rfl) fun c=>
 (qF (qR (ed (a2 xY (gz (a1 (ed (a2 (cz e9 (a1 (fk ["_law_room"] (qd (jq xv qK)) ⟨gq,fK,(ed (a3 xv qK qK))⟩))) (jq xv qK))))))) (tg2 gq gq)) (qF (fo (ir (a1 xv)) gq (qF (jK (wn b (qA xv (qA xv (a3 xv xv (jq xv xv)))))) (qF (sq (cz (CB c) (a1 (n9 rfl (T:=["_law_asked"]) (keep:=[5]) ⟨rfl,by decide+kernel,(kc "_law_rows" (cS _))⟩ rfl xv (fun _ _ _=>⟨gq,(fz (ct mX (jq xv xv) gf)),(ed (a2 xv (jq xv xv)))⟩))))) (qG (lq ap xv (a1 (wn a (qA xv (a3 xv xv (jq xv xv)))))))))) (qF (sq (ed (a2 xv (cz e9 (a1 (cn (Cz c.units) (a1 (n9 rfl (T:=["_law_asked"]) (keep:=[5]) ⟨rfl,by decide+kernel,(kc "_law_rows" (cS _))⟩ rfl xv (fun _ _ _=>⟨gq,(fz (ct mX (jq xv xv) gf)),(ed (a2 xv (jq xv xv)))⟩))))))))) (qG (qU (ed (a2 xv xv)))))))
abbrev jU:dQ:=top 28
def kJ:FS:=(fu (m2 (b2 oS) (mN (b1 nl) (dS (mN (dX 4 iS) (dS (mV 0) (dS (mV 1) (dS (mV 2) (dS (mV 4) dU))))) dU)) (mN (b1 nl) (dS (mN (b1 gTup) (dS (wS (mV 3) mY (rS (m2 (b2 fS) (mV 4) (mC (D.int 1))))) dU)) dU))))
def fm:FN:=iC 5 kJ
theorem nP {f:dE}(F:eM K "_law_right" jU f)(a:fO P w K mg base 4 "walked" 4 iS):
  fO P w K mg base 5 "_law_right" 5 fm:=xq ["_law_web_here","_law_machine","_law_standing_here","_law_wholes","_law_beats"] X G F (hb:=fun _ _ _ _ _ _ d c=>HP c fun _ _ _ _ _=>rfl) fun b=>
 (qG (qU (ce (oq k4) (cn (Az b) (a1 (wn a (qA xv (a3 xv xv xv))))) (cn (Az b) (a1 (cz e9 (a1 (tN xv xT (xS (qI fT xv qK))))))))))
abbrev rA:dQ:=top 29
def pZ:FS:=(d8 (eh (mN (dX 2 fC) (dS (mV 0) (dS (mV 2) dU))) (gN 3))
  (d8 (eh (eQ (dS (mN (dX 2 (apart gM)) (dS (mV 3) (dS (mC (D.int 8)) dU))) (dS (mN (dX 1 (apart fc)) (dS (mV 3) dU)) dU))) (gT 2 (gCs (gN 4) (gCs (gN 5) gNl))))
  (d8 (eh (mN (dX 3 (apart ft)) (dS (mV 3) (dS (mN (b1 eS) (dS (mV 4) dU)) (dS (mC (D.int 4)) dU)))) (gN 6))
  (d8 (eh (mN (dX 2 (apart dV)) (dS (mV 3) (dS (mC (D.int 31)) dU))) (gN 7))
  (d8 (hH (sd (mB (m2 (b2 oS) (mV 2) (mC (D.int 0)))) (mB (m2 (b2 oS) (mN (dX 2 (apart dV)) (dS (mV 3) (dS (mC (D.int 16)) dU))) (mC (D.int 0))))) (eh (mC (D.int 400)) (gN 7)) qT)
  (d8 (eh (mN (dX 5 (apart eH)) (dS (mV 3) (dS (mV 4) (dS (mV 5) (dS (mV 6) (dS (mV 7) dU)))))) (gT 2 (gCs (gN 8) (gCs (gN 9) gNl))))
  (d8 (hH (wT (GK (mN (dX 5 fm) (dS (mV 4) (dS (mV 8) (dS (mV 6) (dS (mV 9) (dS (mV 7) dU)))))))) (fu (mC (D.bl false))) qT)
  (d8 (fi (oH (b2 jp) (mV 1) (dS (eQ (dS (mV 4) (dS (mV 8) (dS (mV 6) (dS (mV 9) (dS (mN (dX 2 (apart dV)) (dS (mV 3) (dS (m2 (b2 fS) (mV 7) (mC (D.int 1))) dU))) dU)))))) dU)))
  (d8 (eh (eQ (dS (zz (dS (mN (b1 eS) (dS (mV 4) dU)) dU)) (dS (m2 (b2 dW) (mV 6) (mC (D.int 1))) dU))) (gN 6))
  (d8 (eh (mN (dX 5 (apart eH)) (dS (mV 3) (dS (mV 4) (dS (mV 5) (dS (mV 6) (dS (mC (D.int 8)) dU)))))) (gT 2 (gCs (gN 8) (gCs (gN 9) gNl))))
  (fi (oH (b2 jp) (mV 1) (dS (eQ (dS (mV 4) (dS (mV 8) (dS (mV 6) (dS (mV 9) (dS (mC (D.int 8)) dU)))))) dU)))))))))))))
def pY:FS:=(hH (FH (wT (GK (mN (dX 5 fm) (dS (mV 4) (dS (mV 8) (dS (mV 6) (dS (mV 9) (dS (mV 10) dU)))))))) (wT (GK (mN (dX 5 fm) (dS (mV 4) (dS (mV 8) (dS (mV 6) (dS (mV 9) (dS (mC (D.int 0)) dU))))))))) (fu (mC (D.bl false))) qT)
def AC:FS:=(d8 (eh (jC dU) (gN 1))
  (d8 (iT (ux (dS (mN (b2 Ci) (dS (mC (D.int 1)) (dS (mN (b2 Ch) (dS (mC (D.int 4)) (dS (mN (b1 eS) (dS (mV 0) dU)) dU))) dU))) dU)) (gN 2) pZ)
  (d8 (iT (iG (m2 (b2 fS) (mV 1) (oG (mV 1) (m1 (b1 sD) (mC (D.int 1)))))) (gT 5 (gCs (gN 4) (gCs (gN 8) (gCs (gN 6) (gCs (gN 9) (gCs (gN 10) gNl)))))) pY)
  (fu (mC (D.bl true))))))
def m_law:FN:=iC 11 AC
theorem En {f:dE}{fd:dP}(F:xO K "law" "law" rA f fd)(d:fO P w K mg base 4 "_law_drawn_walk" 5 eH)(g:fO P w K mg base 1 "_law_hand" 2 fC)(c:fO P w K mg base 5 "_law_right" 5 fm)(h:fO P w K mg base 2 "_law_some_eyes" 1 fc)(e:fO P w K mg base 2 "_law_standing" 3 ft)(j:fO P w K mg base 1 "_law_take" 2 dV)(i:fO P w K mg base 3 "_law_web" 2 gM):
  js P w K mg base tw 6 f fd ["_law_script"] (AO K 1 m_law):=Di (k:=5) (n:=1) (N:=["_law_script","_law_kept","_law_k","_law_hand_here","_law_web_here","_law_eyes","_law_standing_here","_law_beats","_law_machine","_law_wholes","_law_few"]) (ps:=["_law_script"]) (b:=AC) F sk rfl fun m A l s H E a=>
 (qF (sq (gz qN)) (qF (fo (ir (a1 (cn (Hn rfl) (a2 qK (cn (Hm rfl) (a2 qK (cn fy (a1 xv)))))))) gq (qF (sq (wn g (a2 xv xv))) (qF (l7 4 5 rfl (gZ rfl) rfl rfl (by decide) rfl rfl (a2 (qH i.ap a (by first|decide|omega) rfl (a2 xv qK)) (qH h.ap a (by first|decide|omega) rfl (a1 xv)))) (qF (sq (qH e.ap a (by first|decide|omega) rfl (a3 xv (cn fy (a1 xv)) qK))) (qF (sq (qH j.ap a (by first|decide|omega) rfl (a2 xv qK))) (qF (qV (lm (jJ (ct (oq k4) xv qK) (iI (ct (oq k4) (qH j.ap a (by first|decide|omega) rfl (a2 xv qK)) qK)))) (qG (sq qK)) qQ) (qF (qR (qH d.ap a (by first|decide|omega) rfl (qA xv (qA xv (a3 xv xv xv)))) (tg2 gq gq)) (qF (qV (pC (pB (wn c (qA xv (qA xv (a3 xv xv xv)))))) (qG (qU tP)) qQ) (qF (lq ap xv (a1 (ed (qA xv (qA xv (a3 xv xv (qH j.ap a (by first|decide|omega) rfl (a2 xv (qI fT xv qK))))))))) (qF (sq (ed (a2 (xW rfl rfl (bz B) rfl (bz B) (a1 (cn fy (a1 xv)))) (jq xv qK)))) (qF (qR (qH d.ap a (by first|decide|omega) rfl (qA xv (qA xv (a3 xv xv qK)))) (tg2 gq gq)) (qG (lq ap xv (a1 (ed (qA xv (qA xv (a3 xv xv qK)))))))))))))))))) (qF (fo (qd (qI fT xv (q9 xv (xV C2 qK)))) (gQ rfl (d7 gq (d7 gq (d7 gq (d7 gq (d7 gq gj)))))) (qG (qV (lm (tJ (pC (pB (wn c (qA xv (qA xv (a3 xv xv xv)))))) (pA (pC (pB (wn c (qA xv (qA xv (a3 xv xv qK))))))))) (qG (qU tP)) qQ))) (qG (qU tP)))))
end
theorem all_mk {l:PySem.W.OpenLaw}{w:dH}{K:Fg1}{h:dN}{mg:Str->Option dB}{fa f1 f2 f3 f4 f5 f6 f7 f8 f9 f10 V L H M f15 f16 u f18 E f20 g O k f24 f25:dE}(X:K.In h)(G:h.Ns dI mg)(hfa:mg "law"=some (.ref fa))
  {g1 g2 g5 g8 d:dE}
  {t3 t4 t6 t7 t9 Y t12 m:Tok}
  {o S C c od1:Option dE} {n2 n5 n8 U n1:Nat} {sl2 sl5 D f W:Array (Option dB)}
  (a1:eM K "first_of" mG f1)
  (a2:eM K "begun" u9 f2)
  (a3:eM K "sight_of" mF f3)
  (a4:eM K "handled" ol f4)
  (a5:eM K "stepped" oj f5)
  (a6:eM K "_law_hand" lr f6)
  (a7:eM K "_law_take" lp f7)
  (a8:eM K "_law_far" mJ f8)
  (a9:eM K "_law_sight" jT f9)
  (F:eM K "_law_chalked" iN f10)
  (A:eM K "deed_of" om V)
  (p:eM K "wants" u7 L)
  (a13:eM K "moved" u8 H)
  (Z:eM K "_law_tie" mI M)
  (r:eM K "_law_standing" iD f15)
  (a16:eM K "_law_some_eyes" hV f16)
  (t:eM K "_law_beat" lA u)
  (N:eM K "_law_deed" lz f18)
  (Q:eM K "beat" yA E)
  (J:eM K "_law_web" mH f20)
  (j:eM K "_law_grown" jV g)
  (a22:eM K "walked" rz O)
  (R:eM K "_law_drawn_walk" gU k)
  (I:eM K "_law_right" jU f24)
  (b:eM K "law" rA f25)
  (e_PARTS:wN1 K dI "PARTS"=some (some (Value.ref g1)))
  (h1:K.lookup g1=some ⟨.type "tuple",od1,.seq ([(Value.ref g2),(Value.ref g5),(Value.ref g8),(Value.ref d)]:List dB).toArray n1,W⟩)
  (h2:K.lookup g2=some ⟨.type "tuple",o,.seq ([(Value.str "came" t3),(Value.int (5) t4)]:List dB).toArray n2,sl2⟩)
  (h5:K.lookup g5=some ⟨.type "tuple",S,.seq ([(Value.str "chalk" t6),(Value.int (2) t7)]:List dB).toArray n5,sl5⟩)
  (h8:K.lookup g8=some ⟨.type "tuple",C,.seq ([(Value.str "doors" t9),(Value.int (5) Y)]:List dB).toArray n8,D⟩)
  (n:K.lookup d=some ⟨.type "tuple",c,.seq ([(Value.str "others" t12),(Value.int (2) m)]:List dB).toArray U,f⟩)
  (z:HA K BL):∃fd:dP,(∀(s:dD) (v:dB),BindsTo s fd ⟨[v],[]⟩ [("_law_script",v)]) /\ ∀base:dN,K.In base->base.Ns dI mg->js l.prog w K mg base tw 6 fa fd ["_law_script"] (AO K 1 m_law):=by
 have e:=hfa.symm.trans (wM1 X G b.ns);cases e;have B:Blt BL mg:=z.blt X G;have c0:CGl K mg "PARTS" mj:=Fj (wM1 X G e_PARTS) (nA h1 (by show 4<=dL;decide) (fx (nA h2 (by show 2<=dL;decide) (fx qx (fx qy kG))) (fx (nA h5 (by show 2<=dL;decide) (fx qx (fx qy kG))) (fx (nA h8 (by show 2<=dL;decide) (fx qx (fx qy kG))) (fx (nA n (by show 2<=dL;decide) (fx qx (fx qy kG))) kG)))));obtain⟨_,⟨⟨_,_,kV,dc,pm,an,cd,ct,_,rfl,lL,cL⟩,kL⟩⟩:=b.fn;refine⟨wF1 "law" "law" (hB rA) (fq rA) (ea rA) .none kV dc pm an cd ct,fun s v=>.of_eq rfl,fun base _ _=>?_⟩;have o0:=rM (P:=l.prog) (w:=w) (base:=base) X G B a1;have o14:=ze (P:=l.prog) (w:=w) (base:=base) X G B a2;have o1:=rL (P:=l.prog) (w:=w) (base:=base) X G B a3 c0;have o2:=ui (P:=l.prog) (w:=w) (base:=base) X G B a4;have o3:=uh (P:=l.prog) (w:=w) (base:=base) X G B a5;have o19:=p8 (P:=l.prog) (w:=w) (base:=base) X G B a6;have a:=p7 (P:=l.prog) (w:=w) (base:=base) X G B a7;have o10:=rQ (P:=l.prog) (w:=w) (base:=base) X G B a8;have o6:=nO (P:=l.prog) (w:=w) (base:=base) X G B a9;have o5:=lX (P:=l.prog) (w:=w) (base:=base) X G B F;have o7:=uj X G B A o0;have o9:=zb X G B p o1;have o8:=zd X G B a13 o2 o3;have o11:=rP X G B Z a;have o22:=kZ X G B r a;have i:=j9 X G B a16 a;have y:=qa X G B t o5 o6;have x:=p9 X G B N a;have o13:=BD X G B Q o7 o8 o9;have o23:=rO X G B J o10 a o11;have o16:=nQ X G B j x o6 a;have q:=wK X G B a22 o13 o14;have T:=jA X G B R y o16;have o20:=nP X G B I q;exact En (P:=l.prog) (w:=w) (base:=base) X G B (Ab lL cL kL) T o19 o20 i o22 a o23
def hnd(g m c:Int):Ob:=.lst [.int g,.int m,.int c]
def ED(m c:Int):Int:=(m+65537*c*c+11)*48271%2305843009213693921
def zt(m c:Int):Int:=ED m c*(ED m c%1000003+99991*c)%2305843009213693907
theorem Hq{a b c:D}:tE [a,b,c] 0=some a:=by rfl
theorem IW{a b c:D}:tE [a,b,c] 1=some b:=by rfl
theorem IV{a b c:D}:tE [a,b,c] 2=some c:=by rfl
theorem Dy{T:Sto}{g m c k:Int}(hg:0<g)(hk:0<k)(a:k<1073741824):
  dV [.ref 0,.int k] (hnd g m c::T)=some (.int (g%k),hnd (g/k) m c::T):=by
 simp[dV,iC,hE,i7,d8,hH,mB,m2,b2,iH,mV,mC,dW,lf,zZ,d5,hnd,hg,hk,a,eh,gN,kw,nV,gS,b3,iZ,lI,jE,fu,Hq,vH]
theorem Dx{T:Sto}{g m c k:Int}(hg:¬ 0<g)(hk:0<k)(a:k<1073741824)(hc:0<=c)(d:c<2^60):
  dV [.ref 0,.int k] (hnd g m c::T)=some (.int ((zt m (c+1)/97+zt m (c+1)/1000033)%k),hnd g m (c+1)::T):=by
 have e:eR 65537 (c+1)=true:=oE (by decide) (by decide);have f:eR (65537*(c+1)) (c+1)=true:=vx (by omega) (by omega);have b:eR (m+65537*(c+1)*(c+1)+11) 48271=true:=vx (by decide) (by decide);have h:eR 99991 (c+1)=true:=oE (by decide) (by decide);have q:=Int.emod_lt_of_pos ((m+65537*(c+1)*(c+1)+11)*48271) (show(0:Int)<2305843009213693921 by decide);have j:=Int.emod_nonneg ((m+65537*(c+1)*(c+1)+11)*48271) (show(2305843009213693921:Int)≠0 by decide);have i:eR ((m+65537*(c+1)*(c+1)+11)*48271%2305843009213693921) ((m+65537*(c+1)*(c+1)+11)*48271%2305843009213693921%1000003+99991*(c+1))=true:=oE (by omega) (by omega);simp[dV,iC,hE,i7,d8,hH,mB,m2,b2,iH,mV,mC,dW,lf,zZ,d5,hnd,hg,hk,a,eh,gN,kw,nV,gS,b3,iZ,lI,jE,fu,Hq,IW,IV,vH,qT,fS,jo,e,f,b,h,i,ED,zt]
def fY(o:Ob)(n:Nat):Prop:=∃g m c:Int,o=hnd g m c/\0<=c/\c<=n
theorem fY.und{o:Ob}{n k:Nat}(h:fY o n):o.und k=true:=by
 obtain⟨g,m,c,rfl,_⟩:=h;rfl
theorem fY.more{o:Ob}{n k:Nat}(h:fY o n)(hk:n<=k):fY o k:=by
 obtain⟨g,m,c,e,a,h1⟩:=h;exact⟨g,m,c,e,a,by lia⟩
theorem fA{o:Ob}{n:Nat}{k:Int}{T:Sto}{Q:D×Sto->Prop}(ho:fY o n)(hn:n<=2^50)(hk:0<k)(a:k<1073741824)(h:∀(d:Nat) o',fY o' (n+1)->(d:Int)<k->Q (.int d,o'::T)):W (dX 2 dV [.ref 0,.int k] (o::T)) Q:=by
 obtain⟨g,m,c,rfl,i,h1⟩:=ho;have call:∀d o',dV [.ref 0,.int k] (hnd g m c::T)=some (d,o'::T)->dX 2 dV [.ref 0,.int k] (hnd g m c::T)=some (d,o'::T):=fun d o e=>lj e rfl (by simp[D.unds,D.und]) (by simp);by_cases f:0<g
 ·have b:=Int.emod_nonneg g (show k≠0 by lia);obtain⟨d,e⟩:=Int.eq_ofNat_of_zero_le b;refine⟨_,call _ _ (Dy f hk a),?_⟩;rw[e];exact h d _ ⟨_,_,_,rfl,i,by lia⟩ (by rw[<- e];exact Int.emod_lt_of_pos _ hk)
 ·have b:=Int.emod_nonneg (zt m (c+1)/97+zt m (c+1)/1000033) (show k≠0 by lia);obtain⟨d,e⟩:=Int.eq_ofNat_of_zero_le b;refine⟨_,call _ _ (Dx f hk a i (by lia)),?_⟩;rw[e];exact h d _ ⟨_,_,_,rfl,by lia,by push_cast;lia⟩ (by rw[<- e];exact Int.emod_lt_of_pos _ hk)
theorem zV(ns:List Int)(k:Int)(h0:0<=k)(hk:k<63):∃g m,fC [.rol (ns.map D.int),.int k] []=some (.ref 0,[hnd g m 0]):=by
 have h:eR (10^60) (10^30)=true:=by decide+kernel
 have c:eR 7919 k=true:=oE (by decide) (by decide);have e:eR 0 0=true:=oE (by decide) (by decide);have d:∀(x:Int) (b:Prop) [Decidable b],eR x (if b then 1 else 0)=true:=fun x b _=>by
  split
  ·exact vx (by decide) (by decide)
  ·exact vx (by decide) (by decide)
 have lt:xL (.int k) (.int ns.length) []=some (.bl (decide (k<ns.length)),[]):=by rfl
 by_cases f:k<ns.length
 ·have a:tE (ns.map D.int) k=some (.int (ns[k.toNat]'(by lia))):=by
   unfold tE vH;rw[if_pos h0,if_pos (by simpa using f)];simp[show k.toNat<ns.length by lia]
  generalize i:ns[k.toNat]'(by lia)=x at a
  simp[fC,iC,hE,i8,d8,hH,mB,m2,b2,b1,mN,dS,dU,iH,mV,mC,dW,lf,zZ,eS,d5,eh,gN,kw,jo,fS,uA,nU,fu,jC,lt,f,a,c,d,dL,hnd,qT];simp[show eR 1000000000000000000000000000000000000000000000000000000000000 1000000000000000000000000000000=true from h,c,d]
 ·simp[fC,iC,hE,i8,d8,hH,mB,m2,b2,b1,mN,dS,dU,iH,mV,mC,dW,lf,zZ,eS,d5,eh,gN,kw,jo,fS,uA,nU,fu,jC,lt,f,c,d,dL,hnd,qT];simp[show eR 1000000000000000000000000000000000000000000000000000000000000 1000000000000000000000000000000=true from h,e,c,d]
def ins(k:Nat)(e:Nat×Nat)(row:List (Nat×Nat)):List (Nat×Nat):=row.take k++e::row.drop k
theorem kq{k:Nat}{e:Nat×Nat}{row:List (Nat×Nat)}:(ins k e row).length=row.length+1:=by
 unfold ins;rw[lA1,lC1,aQ,aV];lia
theorem mem_ins{k:Nat}{e x:Nat×Nat}{row:List (Nat×Nat)}:x∈ins k e row↔x=e\/x∈row:=by
 unfold ins;rw[aG,aF]
 conv=>rhs;rhs;rw[<- cK k row,aG]
 constructor
 ·rintro(h|h|h)
  ·exact .inr (.inl h)
  ·exact .inl h
  ·exact .inr (.inr h)
 ·rintro(h|h|h)
  ·exact .inr (.inl h)
  ·exact .inl h
  ·exact .inr (.inr h)
theorem vI{k:Nat}{e:Nat×Nat}{row:List (Nat×Nat)}:(row.map pD).take k++pD e::(row.map pD).drop k=(ins k e row).map pD:=by
 unfold ins;rw[cG,mP1,List.map_take,List.map_drop]
theorem jc{t m i:Nat}{T:Sto}{E:List (List (Nat×Nat))}{P:List (Nat×Nat)}{U:Sto}{o:Ob}{Q:D×Sto->Prop}(w:WS t m T E P U)(hi:i<m)(q:Q (.ref (t+i+1),o::U)):W (dW (.ref (t+m+1)) (.int i) (o::U)) Q:=
 tj (xs:=jz (t+1) m) (x:=.ref (t+i+1)) (by rw[gC1];exact w.ends) (by rw[pV hi];congr 2;lia) q
theorem yk{t m a b n:Nat}{T:Sto}{E:List (List (Nat×Nat))}{P:List (Nat×Nat)}{U:Sto}{o:Ob}{Q:D×Sto->Prop}(w:WS t m T E P U)(ho:fY o n)(hn:n<=2^45)(ha:a<m)(hb:b<m){f:List (Nat×Nat)}(l:E[a]? = some f)(J:f.length<100)(H:∀ rb,E[b]? = some rb->rb.length<100)(L:P.length<500)(h:∀g i rb o' z,fY o' (n+2)->(E.set a (ins g (P.length,0) f))[b]?=some rb->WS t m T ((E.set a (ins g (P.length,0) f)).set b (ins i (P.length,1) rb)) (P++[(a,b)]) z->Q (.non,o'::z)):
  W (dX 5 fQ [.ref 0,.ref (t+m+1),.ref (t+m+2),.int a,.int b] (o::U)) Q:=by
 have key:W (fQ [.ref 0,.ref (t+m+1),.ref (t+m+2),.int a,.int b] (o::U)) fun p=>p.2.length=(o::U).length/\Q p:=by
  unfold fQ;refine nr ?_;unfold nG;refine eF (fun r S=>∃g o',fY o' (n+1)/\r=[some (.ref 0),some (.ref (t+m+1)),some (.ref (t+m+2)),some (.int a),some (.int b)]/\S=o'::U.set (t+a) (rB (ins g (P.length,0) f))) ?_ ?_
  ·walk_at"w";refine iF ?_;walk_at"w";refine jc w ha ?_;refine⟨t+a+1,f.map pD,rfl,by rw[gC1];exact w.row a f l,?_⟩;walk_at"w";refine jc w ha ?_;walk_at"w";refine eG (xs:=f.map pD) (by rw[gC1];exact w.row a f l) ?_;walk_at"w";rw[lM1,show((f.length:Int)+1)=((f.length+1:Nat):Int) by push_cast;rfl];refine fA ho (by lia) (by lia) (by lia) fun g A u I=>?_;walk_at"w";refine eG (xs:=P.map pD) (by rw[gC1];exact w.prs) ?_;walk_at"w";rw[lM1];refine Dc (xs:=f.map pD) (v:=pD (P.length,0)) (k:=g) (by rw[gC1];exact w.row a f l) (by rw[lM1];lia) (by rw[lM1];lia) ?_;refine⟨g,A,u,?_⟩;rw[vI,c9];rfl
  rintro r S ⟨g,A,u,rfl,rfl⟩;have j:=w.setRow (row:=ins g (P.length,0) f) ha;obtain⟨rb,c⟩:∃rb,(E.set a (ins g (P.length,0) f))[b]?=some rb:=by
   have:b<(E.set a (ins g (P.length,0) f)).length:=by rw[j.el];exact hb
   exact⟨_,gG1 this⟩
  have G:rb.length<200:=by
   by_cases e:a=b
   ·subst e;rw[aI (by rw[w.el];exact ha)]at c;cases c;rw[kq];lia
   ·rw[gS1 e]at c;have:=H rb c;lia
  refine eF (fun r S=>∃i o',fY o' (n+2)/\r=[some (.ref 0),some (.ref (t+m+1)),some (.ref (t+m+2)),some (.int a),some (.int b)]/\S=o'::(U.set (t+a) (rB (ins g (P.length,0) f))).set (t+b) (rB (ins i (P.length,1) rb))) ?_ ?_
  ·walk_at"w";refine iF ?_;walk_at"w";refine jc j hb ?_;refine⟨t+b+1,rb.map pD,rfl,by rw[gC1];exact j.row b rb c,?_⟩;walk_at"w";refine jc j hb ?_;walk_at"w";refine eG (xs:=rb.map pD) (by rw[gC1];exact j.row b rb c) ?_;walk_at"w";rw[lM1,show((rb.length:Int)+1)=((rb.length+1:Nat):Int) by push_cast;rfl];refine fA u (by lia) (by lia) (by lia) fun i x s F=>?_;walk_at"w";refine eG (xs:=P.map pD) (by rw[gC1];exact j.prs) ?_;walk_at"w";rw[lM1];refine Dc (xs:=rb.map pD) (v:=pD (P.length,1)) (k:=i) (by rw[gC1];exact j.row b rb c) (by rw[lM1];lia) (by rw[lM1];lia) ?_;refine⟨i,x,s,?_⟩;rw[vI,c9];rfl
  rintro r S ⟨i,x,s,rfl,rfl⟩;have y:=j.setRow (row:=ins i (P.length,1) rb) hb;walk_at"w";refine iF ?_;walk_at"w";refine⟨t+m+2,P.map pD,rfl,by rw[gC1];exact y.prs,?_⟩
  try walk_at"w"
  rw[lU (xs:=P.map pD) (by rw[gC1];exact y.prs)];refine⟨d9 (by rw[lM1];lia),?_,?_⟩
  ·simp
  ·have C:=y.setPrs (P':=P++[(a,b)]);rw[c9];have e:P.map pD++[D.tup [D.int ↑a,D.int ↑b]]=(P++[(a,b)]).map pD:=by simp[pD]
   rw[e];exact h g i rb x _ s c C
 obtain⟨⟨d,K⟩,e,B,q⟩:=key;exact⟨_,lj e rfl rfl B,q⟩
abbrev ew:=List (List (Nat×Nat))
structure WI (m:Nat)(E:ew)(P:List (Nat×Nat)):Prop where
 len:E.length=m
 pr:∀(i:Nat) (p:Nat×Nat),P[i]?=some p->(∃r0,E[p.1]?=some r0/\(i,0)∈r0) /\ ∃r1,E[p.2]?=some r1/\(i,1)∈r1
 en:∀(i:Nat) (row:List (Nat×Nat)),E[i]?=some row -> ∀e∈row,e.1<P.length/\e.2<=1
 le:∀(i:Nat) (row:List (Nat×Nat)),E[i]?=some row->row.length<=4
 tt:tot E=2*P.length
theorem mE{E:ew}{i k:Nat}{e:Nat×Nat}{row:List (Nat×Nat)}(h:E[i]?=some row){j:Nat}{r:List (Nat×Nat)}(a:E[j]?=some r):∃r',(E.set i (ins k e row))[j]?=some r' /\ ∀x∈r,x∈r':=by
 by_cases z:i=j
 ·subst z;rw[h]at a;cases a;exact⟨_,aI (gE1.mp h).1,fun x b=>mem_ins.mpr (.inr b)⟩
 ·exact⟨r,by rw[gS1 z];exact a,fun x b=>b⟩
theorem jS{E:ew}{i k:Nat}{e:Nat×Nat}{row:List (Nat×Nat)}(h:E[i]?=some row){j:Nat}{b:List (Nat×Nat)}(a:(E.set i (ins k e row))[j]?=some b):(i=j/\b=ins k e row)\/(i≠j/\E[j]?=some b):=by
 by_cases z:i=j
 ·subst z;rw[aI (gE1.mp h).1]at a;cases a;exact .inl ⟨rfl,rfl⟩
 ·rw[gS1 z]at a;exact .inr ⟨z,a⟩
theorem WI.tie{m a b h q:Nat}{E:ew}{P:List (Nat×Nat)}{g r:List (Nat×Nat)}(w:WI m E P)(ha:E[a]? = some g)(K:g.length<4)(hb:(E.set a (ins h (P.length,0) g))[b]? = some r)(L:r.length<4):
  WI m ((E.set a (ins h (P.length,0) g)).set b (ins q (P.length,1) r)) (P++[(a,b)]):=by
 have a1:(E.set a (ins h (P.length,0) g))[a]?=some (ins h (P.length,0) g):=aI (gE1.mp ha).1;refine⟨by rw[aW,aW];exact w.len,fun i p n=>?_,fun j c d e f=>?_,fun j c d=>?_,?_⟩
 ·by_cases hi:i<P.length
  ·rw[gL1 hi]at n;obtain⟨⟨M,G,D⟩,J,h1,m1⟩:=w.pr i p n;obtain⟨s,l,z⟩:=mE (k:=h) (e:=(P.length,0)) ha G;obtain⟨t,v,B⟩:=mE (k:=q) (e:=(P.length,1)) hb l;obtain⟨H,A,C⟩:=mE (k:=h) (e:=(P.length,0)) ha h1;obtain⟨u,o,x⟩:=mE (k:=q) (e:=(P.length,1)) hb A;exact⟨⟨t,v,B _ (z _ D)⟩,u,o,x _ (C _ m1)⟩
  ·have y:i=P.length:=by
    have:=(gE1.mp n).1;simp at this;lia
   subst y;rw[List.getElem?_concat_length]at n;cases n;obtain⟨s,l,z⟩:=mE (k:=q) (e:=(P.length,1)) hb a1;exact⟨⟨s,l,z _ (mem_ins.mpr (.inl rfl))⟩,_,aI (gE1.mp hb).1,mem_ins.mpr (.inl rfl)⟩
 ·rw [lA1,aY];have old:∀ (j:Nat) (c:List (Nat×Nat)),(E.set a (ins h (P.length,0) g))[j]? = some c -> ∀ e∈c,e.1<P.length+1/\e.2<=1:=fun j c d e f=>by
   rcases jS ha d with⟨_,rfl⟩|⟨_,d⟩
   ·rcases mem_ins.mp f with rfl|f
    ·exact⟨by simp,by simp⟩
    ·have:=w.en a g ha e f;exact⟨by lia,this.2⟩
   ·have:=w.en j c d e f;exact⟨by lia,this.2⟩
  rcases jS hb d with⟨_,rfl⟩|⟨_,d⟩
  ·rcases mem_ins.mp f with rfl|f
   ·exact⟨by simp,by simp⟩
   ·exact old b r hb e f
  ·exact old j c d e f
 ·rcases jS hb d with⟨_,rfl⟩|⟨_,d⟩
  ·rw[kq];lia
  ·rcases jS ha d with⟨_,rfl⟩|⟨_,d⟩
   ·rw[kq];lia
   ·exact w.le j c d
 ·have F:=pJ (row':=ins h (P.length,0) g) ha;have I:=pJ (row':=ins q (P.length,1) r) hb;have:=w.tt;rw[kq]at F I;rw[lA1,aY];lia
def webD(w:ew):D:=.tup (w.map fun row=>.tup (row.map pD))
structure nI (m:Nat)(w:ew):Prop where
 len:w.length=m
 le:∀row∈w,row.length<=4
 to:∀row∈w,∀e∈row,∃r,w[e.1]?=some r/\e.2<r.length
theorem fL(w:ew):(webD w).und 0=true:=by
 unfold webD;rw[D.und];exact eK fun a _=>by rw[D.und];exact eK fun _ _=>rfl
def uD(E:ew)(P:List (Nat×Nat))(e:Nat×Nat):Nat×Nat:=
 let p:=P.getD e.1 (0,0)
 let room:=if e.2=0 then p.2 else p.1
 (room,((E.getD room []).findIdx? (· == (e.1,1-e.2))).getD 0)
theorem Af{m:Nat}{E:ew}{P:List (Nat×Nat)}(w:WI m E P){i:Nat}{row:List (Nat×Nat)}(hr:E[i]? = some row){e:Nat×Nat}(he:e∈row):
  ∃p a r j,P[e.1]?=some p/\e.2<=1/\a=(if e.2=0 then p.2 else p.1)/\E[a]?=some r/\r.findIdx? (· == (e.1,1-e.2))=some j/\j<r.length/\uD E P e=(a,j):=by
 obtain⟨h1,h2⟩:=w.en i row hr e he;obtain⟨p,c⟩:∃p,P[e.1]?=some p:=⟨_,gG1 h1⟩;obtain⟨⟨n,l,t⟩,o,q,m1⟩:=w.pr _ p c;have b:∀(r:List (Nat×Nat)) (x:Nat×Nat),x∈r -> ∃j,r.findIdx? (· == x)=some j/\j<r.length:=fun r x s=>by
  cases h:r.findIdx? (· == x)with
  |none=>
   rw[List.findIdx?_eq_none_iff]at h;have:=h x s;simp at this
  |some j=>exact⟨j,rfl,(b8.mp h).1⟩
 by_cases g:e.2=0
 ·obtain⟨j,d,k⟩:=b o (e.1,1) m1;refine⟨p,p.2,o,j,c,h2,by rw[if_pos g],q,by rw[g];exact d,k,?_⟩;simp[uD,bL,c,q,g,d]
 ·have f:e.2=1:=by lia
  obtain⟨j,d,k⟩:=b n (e.1,0) t;refine⟨p,p.1,n,j,c,h2,by rw[if_neg g],l,by rw[f];exact d,k,?_⟩;simp[uD,bL,c,l,f,d]
theorem Dm{m:Nat}{E:ew}{P:List (Nat×Nat)}(w:WI m E P):nI m (E.map fun a=>a.map (uD E P)):=by
 refine⟨by rw[lM1];exact w.len,?_,?_⟩
 ·intro a c;obtain⟨r,b,rfl⟩:=ci.mp c;obtain⟨i,hi⟩:=br b;rw[lM1];exact w.le i r hi
 ·intro a c e f;obtain⟨r,b,rfl⟩:=ci.mp c;obtain⟨i,hi⟩:=br b;obtain⟨x,h,rfl⟩:=ci.mp f;obtain⟨p,d,g,j,_,_,_,k,o,l,n⟩:=Af w hi h;rw[n];exact⟨g.map (uD E P),by rw[gP1,k];rfl,by rw[lM1];exact l⟩
theorem ou:∀(k n:Nat),jz n (k+1)=jz n k++[.ref (n+k)]
 |0,n=>rfl
 |k+1,n=>by
  rw[jz,ou k (n+1),jz,bj,show n+1+k=n+(k+1) by lia]
theorem xZ{t m:Nat}{T:Sto}(tl:T.length=t):WS t m T (aO m []) [] (T++(aO m (.lst [])++[.lst (jz (t+1) m),.lst []])):=by
 refine⟨tl,by rw[<- tl,de],by simp,fun i a h=>?_,?_,?_⟩
 ·have hi:i<m:=by have:=(gE1.mp h).1;simpa using this
  rw[aR,if_pos hi]at h;cases h;rw[<- tl,g0,gL1 (by simpa using hi),aR,if_pos hi];rfl
 ·rw[<- tl,g0,gR1 (by simp)];simp
 ·rw[<- tl,bm,g0,gR1 (by simp)];simp
theorem x0(m:Nat):WI m (aO m []) []:=by
 refine⟨by simp,fun i p h=>by simp at h,fun i a h=>?_,fun i a h=>?_,by simp[tot]⟩
 ·rw[aR]at h;split at h
  ·cases h;intro e b;simp at b
  ·cases h
 ·rw[aR]at h;split at h
  ·cases h;simp
  ·cases h
theorem Dw{t m i n:Nat}{T U:Sto}{E:ew}{P:List (Nat×Nat)}{o:Ob}{x6:Option D}{Q:Fl×Ev×Sto->Prop}(w:WS t m T E P U)(v:WI m E P)(ho:fY o n)(hn:n<=2^44)(hP:P.length=i)(hi:i+1<m)(hm:m<=8)(he:∀j row,i+1<=j->E[j]?=some row->row=[])(h:∀J K o' V O,WS t m T J K V->WI m J K->fY o' (n+3)->K.length=i+1->(∀j row,i+2<=j->J[j]?=some row->row=[]) ->
   Q (.nx,[some (.ref 0),some (.int 8),some (.int m),some (.ref (t+m+1)),some (.ref (t+m+2)),some (.int ((i+1:Nat):Int)),O,none,none,none],o'::V)):
  W (iw [some (.ref 0),some (.int 8),some (.int m),some (.ref (t+m+1)),some (.ref (t+m+2)),some (.int ((i+1:Nat):Int)),x6,none,none,none] (o::U)) Q:=by
 have e:∀j,j<m -> ∃row,E[j]?=some row:=fun j f=>⟨_,gG1 (by rw[v.len];exact f)⟩
 let k:Nat->Bool:=fun j=>decide ((E.getD j []).length<4)
 unfold iw;walk_at"w";rw[kb,Int.toNat_natCast];refine⟨fW (by lia),?_⟩;refine hA k (fun j:Nat=>.int j) (fun r=>∃x,r=[x,some (.ref (t+m+1))]) rfl (List.range (i+1)) _ ⟨_,rfl⟩ ?_ ?_
 ·rintro j f r ⟨x,rfl⟩;have p:j<m:=by have:=aB.mp f;lia
  obtain⟨row,c⟩:=e j p;walk_at"w";refine jc w p ?_;walk_at"w";refine eG (xs:=row.map pD) (by rw[gC1];exact w.row j row c) ?_;walk_at"w";refine⟨?_,⟨_,rfl⟩,fun _=>trivial⟩;simp only[k,bL,c,b9,lM1];rw[bS,decide_eq_true_eq,decide_eq_true_eq];lia
 ·rintro r' _;walk_at"w";have B:(List.range (i+1)).filter k≠[]:=by
   intro z;have u:∀j row,j<i+1->E[j]?=some row->4<=row.length:=fun j row f hr=>by
    have:=List.filter_eq_nil_iff.mp z j (aB.mpr f);simp only[k,bL,hr,b9,decide_eq_true_eq]at this;lia
   have:=yd (E:=E) (k:=i+1) (by rw[v.len];lia) u;have:=v.tt;lia
  generalize X:(List.range (i+1)).filter k=L at B;have S:∀j∈L,j<i+1/\k j=true:=fun j f=>by
   rw[<- X,aA]at f;exact⟨aB.mp f.1,f.2⟩
  have hLl:L.length<=8:=by
   rw[<- X];have:=dq k (List.range (i+1));simp at this;lia
  refine⟨d9 (by rw[lM1];lia),?_⟩;refine eG (xs:=L.map fun j:Nat=>D.int j) (by rw[gC1,ee];rfl) ?_;walk_at"w";rw[lM1];have hL0:0<L.length:=da.mpr B;refine fA ho (by lia) (by lia) (by lia) fun d o1 R hd=>?_;have H:d<L.length:=by lia
  refine tj (i:=d) (xs:=L.map fun j:Nat=>D.int j) (x:=.int (L[d]:Nat)) (by rw[gC1,ee];rfl) (by rw[gP1,gG1 H];rfl) ?_;generalize f:L[d]=j;obtain⟨hj1,y⟩:=S j (by rw[<- f];exact bU H);obtain⟨row,c⟩:=e j (by lia);have M:row.length<4:=by
   simp only[k,bL,c,b9,decide_eq_true_eq]at y;exact y
  obtain⟨I,l⟩:=e (i+1) hi;have C:=he (i+1) I (nR1 _) l;subst C;walk_at"w";refine yk (a:=j) (b:=i+1) (w.app (G:=[Ob.lst (L.map fun j:Nat=>D.int j)])) R (by lia) (by lia) hi c (by lia) (fun I Y=>by rw[l]at Y;cases Y;simp) (by lia) fun k1 k2 I o2 U2 N g w2=>?_;have A:j≠i+1:=by lia
  have q:I=[]:=by
   rw[gS1 A,l]at g;cases g;rfl
  walk_at"w";refine h _ _ o2 U2 _ w2 (v.tie c M g (by rw[q];simp)) (N.more (by lia)) (by simp[hP]) fun Z F p s=>?_;rw[gS1 (by lia),gS1 (by lia)]at s;exact he Z F (by lia) s
theorem EC{t m n:Nat}{T U:Sto}{E:ew}{P:List (Nat×Nat)}{o:Ob}{y z F Z V:Option D}{Q:Fl×Ev×Sto->Prop}(w:WS t m T E P U)(v:WI m E P)(ho:fY o n)(hn:n<=2^44)(hP:P.length<100)(R:0<m)(hm:m<=8)(h:∀K A o' L H J,WS t m T K A L->WI m K A->fY o' (n+4)->A.length<=P.length+1 ->
   Q (.nx,[some (.ref 0),some (.int 8),some (.int m),some (.ref (t+m+1)),some (.ref (t+m+2)),y,z,F,H,J],o'::L)):
  W (iu [some (.ref 0),some (.int 8),some (.int m),some (.ref (t+m+1)),some (.ref (t+m+2)),y,z,F,Z,V] (o::U)) Q:=by
 have g:∀j,j<m -> ∃row,E[j]?=some row:=fun j X=>⟨_,gG1 (by rw[v.len];exact X)⟩;unfold iu;walk_at"w";refine fA ho (by lia) (by lia) (by lia) fun a o1 G ha=>?_;walk_at"w";refine fA G (by lia) (by lia) (by lia) fun b M l q=>?_;obtain⟨N,d⟩:=g a (by lia);obtain⟨s,e⟩:=g b (by lia);walk_at"w";refine jc w (by lia) ?_;walk_at"w";refine eG (xs:=N.map pD) (by rw[gC1];exact w.row a N d) ?_;walk_at"w";rw[lM1];have f:Q (.nx,[some (.ref 0),some (.int 8),some (.int m),some (.ref (t+m+1)),some (.ref (t+m+2)),y,z,F,some (.int a),some (.int b)],M::U):=
  h E P M U _ _ w v (l.more (by lia)) (by lia)
 split
 ·rename_i I;rw [decide_eq_true_eq] at I;refine jc w (by lia) ?_;walk_at"w";refine eG (xs:=s.map pD) (by rw [gC1];exact w.row b s e) ?_;walk_at"w";rw [lM1];have Y:((a:Int) == (b:Int))=decide (a=b):=by
   rw[bS,beq_iff_eq,decide_eq_true_eq];lia
  rw[Y];by_cases i:a=b
  ·subst i;rw[d]at e;cases e;walk_at"w";split
   ·rename_i p;simp at p;refine yk w l (by lia) (by lia) (by lia) d (by lia) (fun s q=>by rw [d] at q;cases q;lia) (by lia) fun O S s x u k c C=>?_;have B:s.length<4:=by
     rw[aI (by rw[v.len];lia)]at c;cases c;rw[kq];lia
    exact h _ _ x u _ _ C (v.tie d (by lia) c B) (k.more (by lia)) (by simp)
   ·exact f
  ·simp only[decide_eq_false i];walk_at"w";split
   ·rename_i p;simp at p;refine yk w l (by lia) (by lia) (by lia) d (by lia) (fun r q=>by rw [e] at q;cases q;lia) (by lia) fun O S r x u k c C=>?_;have B:r.length<4:=by
     rw[gS1 i,e]at c;cases c;lia
    exact h _ _ x u _ _ C (v.tie d (by lia) c B) (k.more (by lia)) (by simp)
   ·exact f
 ·try walk_at"w"
  exact f
theorem Ha{t m i:Nat}{T U:Sto}{E:ew}{P:List (Nat×Nat)}{o:Ob}{row:List (Nat×Nat)}{e:Nat×Nat}{Q:D×Sto->Prop}(w:WS t m T E P U)(v:WI m E P)(hr:E[i]? = some row)(he:e∈row)(q:Q (pD (uD E P e),o::U)):
  W (dX 3 ga [.ref (t+m+1),.ref (t+m+2),pD e] (o::U)) Q:=by
 obtain⟨p,a,r,j,h1,h2,y,c,u,A,z⟩:=Af v hr he;have key:W (ga [.ref (t+m+1),.ref (t+m+2),pD e] (o::U)) fun p=>p.2=o::U/\Q p:=by
  unfold ga;refine nr ?_;unfold nH;have b:a<m:=by rw[<- v.len];exact(gE1.mp c).1
  have k:∀Q:D×Sto->Prop,Q (.int e.1,o::U)->W (dW (pD e) (.int 0) (o::U)) Q:=fun Q q=>gy (i:=0) rfl q;have g:∀Q:D×Sto->Prop,Q (.int e.2,o::U)->W (dW (pD e) (.int 1) (o::U)) Q:=fun Q q=>gy (i:=1) rfl q;have l:((1:Int)-(e.2:Int))=((1-e.2:Nat):Int):=by lia
  walk_at"w";refine k _ ?_;refine tj (i:=e.1) (xs:=P.map pD) (x:=pD p) (by rw[gC1];exact w.prs) (by rw[gP1,h1];rfl) ?_;refine g _ ?_;walk_at"w";rw[l];refine gy (i:=1-e.2) (x:=.int a) ?_ ?_
  ·rw[y];by_cases h:e.2=0
   ·rw[h,if_pos rfl];rfl
   ·rw[if_neg h,show e.2=1 by lia];rfl
  walk_at"w";refine iF ?_;walk_at"w";refine jc w b ?_;refine⟨t+a+1,r.map pD,rfl,by rw[gC1];exact w.row a r c,?_⟩;walk_at"w";refine k _ ?_;refine g _ ?_;walk_at"w";rw[l];refine Fw (e:=(e.1,1-e.2)) (row:=r) (j:=j) (by rw[gC1];exact w.row a r c) (by have:=v.le a r c;lia) u ?_;refine⟨rfl,?_⟩;rw[z]at q;exact q
 obtain⟨⟨d,B⟩,n,f,s⟩:=key;dsimp only at f;subst f;exact⟨_,lj n rfl rfl rfl,s⟩
theorem FR{o:Ob}{n:Nat}{T:Sto}{Q:D×Sto->Prop}(ho:fY o n)(hn:n<=2^40)(hT:T.all (Ob.und (T.length+1))=true)(h:∀m w o',0<m->m<=8->nI m w->fY o' (n+100)->Q (webD w,o'::T)):W (dX 2 gM [.ref 0,.int 8] (o::T)) Q:=by
 refine wa rfl rfl hT ?_;unfold gM;refine nr ?_;unfold nF;generalize Z:T.length=t;refine eF (fun r S=>∃(m:Nat) (s:Ob),0<m/\m<=8/\fY s (n+1)/\r=[some (.ref 0),some (.int 8),some (.int m),none,none,none,none,none,none,none]/\S=s::T) ?_ ?_
 ·walk_at"w";refine fA ho (by lia) (by lia) (by lia) fun c s z hc=>?_;walk_at"w";exact⟨c+1,s,by lia,by lia,z,by simp[Int.add_comm],rfl⟩
 rintro r S ⟨m,s,H,O,z,rfl,rfl⟩;refine eF (fun r S=>∃U,WS t m T (aO m []) [] U/\r=[some (.ref 0),some (.int 8),some (.int m),some (.ref (t+m+1)),some (.ref (t+m+2)),none,none,none,none,none]/\S=s::U) ?_ ?_
 ·walk_at"w";refine⟨fW (by lia),?_⟩;rw[Int.toNat_natCast];refine ji (fun i p r S=>p=jz (t+1) i/\S=s::(T++aO i (.lst [])) /\ ∃x,r=[x]) (gB 0 m) 0 [] _ _ ⟨rfl,by simp,_,rfl⟩ (fun _ _ _ _ _=>rfl) ?_ ?_
  ·rintro i d q p r S ⟨rfl,rfl,x,rfl⟩;walk_at"w";rw[bP];refine⟨?_,?_,_,rfl⟩
   ·rw[ou,Z,lR1]
    congr 3
    lia
   ·rw[List.replicate_succ']
  ·rintro xs r S ⟨e,rfl,_⟩;rw[c4,bP,fB]at e;subst e;rw[bP,fB];walk_at"w";rw[j5];refine⟨d9 (by lia),_,xZ Z,?_,rfl⟩;simp[Z]
 rintro r S ⟨U0,w0,rfl,rfl⟩;refine eF (fun r S=>∃E P b U g k,WS t m T E P U/\WI m E P/\P.length<=8/\fY b (n+40)/\r=[some (.ref 0),some (.int 8),some (.int m),some (.ref (t+m+1)),some (.ref (t+m+2)),g,k,none,none,none]/\S=b::U) ?_ ?_
 ·walk_at"w";refine⟨Fn (by decide) (by decide),fW (by lia),?_⟩;refine fV (fun i r S=>i<=m-1 /\ ∃E P b U g k,WS t m T E P U/\WI m E P/\P.length=i/\(∀j row,i+1<=j->E[j]?=some row->row=[])/\fY b (n+1+3*i)/\r=[some (.ref 0),some (.int 8),some (.int m),some (.ref (t+m+1)),some (.ref (t+m+2)),g,k,none,none,none]/\S=b::U) _ 0 _ _ ?_ (fun _ _ _ _=>rfl) ?_ ?_
  ·refine⟨by lia,_,_,s,U0,none,none,w0,x0 m,rfl,fun j row _ L=>?_,z,rfl,rfl⟩;rw[aR]at L;split at L
   ·cases L;rfl
   ·cases L
  ·rintro i d q r S ⟨hi,E,P,b,U,g,k,w,v,J,K,a,rfl,rfl⟩;have l:=(gE1.mp q).1;rw [fB] at l;have hd':d = .int ((i+1:Nat):Int):=by
    rw[qc,gP1,cN l]at q;simp at q;rw[<- q]
    push_cast
    congr 1
    lia
   subst hd';rw[bP]at *
   walk_at"w";refine Dw w v a (by lia) J (by lia) O K fun M V o' N x6' y X u I Y=>?_;exact⟨rfl,by lia,M,V,o',N,_,_,y,X,I,Y,u.more (by lia),rfl,rfl⟩
  ·rintro r S ⟨hi,E,P,b,U,g,k,w,v,J,K,a,rfl,rfl⟩;exact⟨rfl,E,P,b,U,g,k,w,v,by lia,a.more (by lia),rfl,rfl⟩
 rintro r S ⟨E,P,b,U,g,k,w,v,J,a,rfl,rfl⟩;refine eF (fun r S=>∃E P b U g k C F B,WS t m T E P U/\WI m E P/\fY b (n+100)/\r=[some (.ref 0),some (.int 8),some (.int m),some (.ref (t+m+1)),some (.ref (t+m+2)),g,k,C,F,B]/\S=b::U) ?_ ?_
 ·walk_at"w";refine fA a (by lia) (by lia) (by lia) fun c o3 R hc=>?_;walk_at"w";refine⟨fW (by lia),?_⟩;rw[Int.toNat_natCast];refine fV (fun i r S=>i<=c /\ ∃E P b U g k C F B,WS t m T E P U/\WI m E P/\P.length<=8+i/\fY b (n+41+4*i)/\r=[some (.ref 0),some (.int 8),some (.int m),some (.ref (t+m+1)),some (.ref (t+m+2)),g,k,C,F,B]/\S=b::U) _ 0 _ _ ⟨by lia,E,P,o3,U,g,k,none,none,none,w,v,by lia,R,rfl,rfl⟩ (fun _ _ _ _=>rfl) ?_ ?_
  ·rintro i d q r S ⟨hi,E,P,b,U,g,k,C,F,B,w,v,J,a,rfl,rfl⟩;have l:=(gE1.mp q).1;rw[fB]at l;rw[bP]at *
   walk_at"w";refine EC w v a (by lia) (by lia) H O fun M V o' N x8' x9' y X u I=>?_;exact⟨rfl,by lia,M,V,o',N,_,_,_,_,_,y,X,by lia,u.more (by lia),rfl,rfl⟩
  ·rintro r S ⟨hi,E,P,b,U,g,k,C,F,B,w,v,J,a,rfl,rfl⟩;rw[fB,bP]at a;exact⟨rfl,E,P,b,U,_,_,_,_,_,w,v,a.more (by lia),rfl,rfl⟩
 rintro r S ⟨E,P,b,U,g,k,C,F,B,w,v,a,rfl,rfl⟩;walk_at"w";refine eG (S:=b::U) (xs:=jz (t+1) m) (by rw[gC1];exact w.ends) ?_;have A:∀j,j<m -> ∃row,E[j]?=some row:=fun j hj=>⟨_,gG1 (by rw[v.len];exact hj)⟩;refine ji (fun i p r S=>∃G x,S=b::(U++G)/\r=[x,some (.ref (t+m+1)),some (.ref (t+m+2))]/\p=((E.take i).map fun row=>.tup ((row.map (uD E P)).map pD))) (jz (t+1) m) 0 [] _ _ ⟨[],none,by simp,rfl,rfl⟩ ?_ ?_ ?_
 ·rintro i p r S ⟨G,x,rfl,_⟩;exact gY (by rw[gC1];exact(w.app (G:=G)).ends)
 ·rintro i d q p r S ⟨G,x,rfl,rfl,rfl⟩;have hi:=(gE1.mp q).1;rw[j5]at hi;rw[pV hi]at q;cases q;obtain⟨row,f⟩:=A i hi;have y:=w.app (G:=G);walk_at"w";refine eG (S:=b::(U++G)) (xs:=row.map pD) (by rw[show t+1+i=t+i+1 by lia,gC1];exact y.row i row f) ?_;refine r6 (fun e=>pD (uD E P e)) (fun r=>∃x,r=[x,some (.ref (t+m+1)),some (.ref (t+m+2))]) (gY (by rw[show t+1+i=t+i+1 by lia,gC1];exact y.row i row f)) row _ ⟨_,rfl⟩ ?_ ?_
  ·rintro e K r ⟨x,rfl⟩;walk_at"w";refine Ha y v f K ?_;exact⟨rfl,rfl,_,rfl⟩
  ·rintro r' _;walk_at"w";have hl:=v.le i row f;refine⟨d9 (by rw[lM1];lia),?_⟩;refine eG (xs:=row.map fun e=>pD (uD E P e)) (by rw[<- bI,gC1,<- lA1,ee];rfl) ?_;refine⟨G++[Ob.lst (row.map fun e=>pD (uD E P e))],_,rfl,rfl,?_⟩;rw[bP,cH,f];simp[Function.comp_def]
 ·rintro xs r S ⟨G,x,rfl,rfl,e⟩;rw [c4,bP,j5,<- v.len,b4] at e;subst e;walk_at"w";have hlE:=v.len;refine ⟨d9 (by rw [lM1];lia),?_⟩;refine eG (xs:=E.map fun row=>.tup ((row.map (uD E P)).map pD)) (by rw [<- bI,gC1,<- lA1,ee];rfl) ?_;have e:D.tup (E.map fun row=>.tup ((row.map (uD E P)).map pD))=webD (E.map fun row=>row.map (uD E P)):=by
   simp[webD,Function.comp_def]
  refine⟨webD (E.map fun row=>row.map (uD E P)),b,U.drop t++(G++[Ob.lst (E.map fun row=>.tup ((row.map (uD E P)).map pD))]),?_,fL _,a.und,?_⟩
  ·rw[e,<- bI T,<- w.split]
  ·exact h m _ b H O (Dm v) a
theorem D3{items:List D}{k:Int}{n:Nat}{o:Ob}{T:Sto}{j:Option D}{Q:List D×Ev×Sto->Prop}(ho:fY o n)(hn:n+items.length<=2^50)(hk:0<k)(f:k<1073741824)(h:∀xs o' p,fY o' (n+items.length)->xs.Sublist items->Q (xs,[p,some (.ref 0)],o'::T)):
  W (fM [] (gN 0) (mB (m2 (b2 oS) (mN (dX 2 dV) (dS (mV 1) (dS (mC (D.int k)) dU))) (mC (D.int (0))))) (eI (mV 0)) items [j,some (.ref 0)] (o::T)) Q:=by
 refine ji (fun i b r S=>∃o x,S=o::T/\r=[x,some (.ref 0)]/\fY o (n+i)/\i<=items.length/\b.Sublist (items.take i)) items 0 [] _ _ ⟨o,j,rfl,rfl,by simpa using ho,by lia,by simp⟩ (fun _ _ _ _ _=>rfl) ?_ ?_
 ·rintro i d l b r S ⟨o,x,rfl,rfl,ho,hi,a⟩;have m:i<items.length:=(gE1.mp l).1;have g:items.take (i+1)=items.take i++[d]:=by rw[cH,l];rfl
  walk_at"w";refine fA ho (by lia) hk f fun e o' c q=>?_;walk_at"w";split
  ·exact⟨o',some d,rfl,rfl,c.more (by lia),by lia,by rw[bP,g];simp at a;exact a.append (List.Sublist.refl _)⟩
  ·exact⟨o',some d,rfl,rfl,c.more (by lia),by lia,by rw[bP,g];simp at a;exact a.trans (List.sublist_append_left _ _)⟩
 ·rintro xs r S ⟨o,x,rfl,rfl,ho,_,a⟩;refine h _ _ _ (by simpa using ho) (by simpa using a)
theorem Fb{o:Ob}{n:Nat}{T:Sto}{Q:D×Sto->Prop}(ho:fY o n)(hn:n<=2^45)(i:T.all (Ob.und (T.length+1))=true)(h:∀a b c d o',fY o' (n+4)->Q (.tup (fv a b c d),o'::T)):W (dX 1 fc [.ref 0] (o::T)) Q:=by
 refine wa rfl rfl i ?_;unfold fc;refine nr ?_;unfold ik;walk_at"w";rw[iO];refine D3 ho (by simp;lia) (by decide) (by decide) fun xs f k e g=>?_;obtain⟨a,b,c,d,rfl⟩:=Ag g;walk_at"w";have j:=Ah a b c d;refine⟨d9 (by lia),?_⟩;refine eG (xs:=fv a b c d) (by rw[gC1,ee];rfl) ?_;exact⟨_,f,_,rfl,by rw[D.und];exact kx a b c d,e.und,h a b c d f e⟩
theorem wm{w:ew}{i:Nat}{row:List (Nat×Nat)}{S:Sto}{Q:D×Sto->Prop}(h:w[i]?=some row)(q:Q (.tup (row.map pD),S)):W (dW (webD w) (.int i) S) Q:=
 gy (x:=.tup (row.map pD)) (by rw[gP1,h];rfl) q
theorem qj{w:ew}{S:Sto}:eS (webD w) S=some (.int w.length,S):=by simp[webD,eS,d5]
def crowd(ws:List Wk)(rm:Nat):Nat:=(ws.filter fun u=>u.1 == rm).length
def u6(a b c d:Bool)(ws:List Wk)(cs:List Nat)(u:Wk)(row:List (Nat×Nat)):D:=
 t8 a b c d u.2.1 (if cs.contains u.1 then 1 else 0) row.length (if 1<crowd ws u.1 then 1 else 0)
theorem oU{ws:List Wk}{a:Nat}{S:Sto}{c:Option D}{Q:List D×Ev×Sto->Prop}(h:∀ b,Q ((ws.filter fun u=>u.1 == a).map ff,b,S)):
  W (fM [] (gN 0) (mB (m2 (b2 oS) (m2 (b2 dW) (mV 0) (mC (D.int (0)))) (mV 1))) (eI (mV 0)) (eA ws) [c,some (.int a)] S) Q:=by
 refine hA (fun u:Wk=>u.1 == a) ff (fun r=>∃x,r=[x,some (.int a)]) rfl ws _ ⟨_,rfl⟩ ?_ fun b _=>h b;rintro u d r ⟨x,rfl⟩;walk_at"w";refine gy (i:=0) rfl ?_;walk_at"w";refine⟨?_,⟨_,rfl⟩,fun _=>trivial⟩;rw[bS,beq_iff_eq,beq_iff_eq];lia
theorem Db {w x y z:D}{S:Sto}{r:Ev}{m1 m2 a b:FE}{Q:D×Sto->Prop}(h1:m1 r S=some (w,S))(h2:m2 r S=some (x,S))(d:a r S=some (y,S))(c:b r S=some (z,S))
  (q:Q (.ref S.length,S++[.dct [(.inr "came",w),(.inr "chalk",x),(.inr "doors",y),(.inr "others",z)]])):
  W (r9 [(mC (.str "came"),m1),(mC (.str "chalk"),m2),(mC (.str "doors"),a),(mC (.str "others"),b)] r S) Q:=by
 refine W.of ?_ q;simp only[r9,BY,mC,h1,h2,d,c,oS1,oP1,vD,sn];rfl
theorem B7 {w x y z:D}{S:Sto}{n:Nat}(h:S[n]? = some (.dct [(.inr "came",w),(.inr "chalk",x),(.inr "doors",y),(.inr "others",z)])):
  dW (.ref n) (.str "came") S=some (w,S)/\dW (.ref n) (.str "chalk") S=some (x,S)/\dW (.ref n) (.str "doors") S=some (y,S)/\dW (.ref n) (.str "others") S=some (z,S):=by
 refine⟨?_,?_,?_,?_⟩<;>(simp only[dW,h,lf,sn,oS1];rfl)
def qu:Nat->D
 |0=>.str "came" |1=>.str "chalk" |2=>.str "doors" |_=>.str "others"
def C3:Nat->D
 |0=>.int 5|1=>.int 2|2=>.int 5|_=>.int 2
def gI(a b c d:Bool)(w x y z:Int):Nat->D
 |0=>if a then .int w else .non
 |1=>if b then .int x else .non
 |2=>if c then .int y else .non
 |_=>if d then .int z else .non
theorem vk {a b c d:Bool}{w x y z:Int}{S:Sto}{n:Nat}(h:S[n]? = some (.dct [(.inr "came",.int w),(.inr "chalk",.int x),(.inr "doors",.int y),(.inr "others",.int z)])){i:Nat}(hi:i∈[0,1,2,3]){r:Ev}{f j g:Nat}
  (h1:r[f]?=some (some (qu i))) (h2:r[j]?=some (some (.tup (fv a b c d)))) (e:r[g]?=some (some (.ref n))):
  vy (mB (m2 (b2 i0) (mV f) (mV j))) (m2 (b2 dW) (mV g) (mV f)) (mC D.non) r S=some (gI a b c d w x y z i,S):=by
 obtain⟨l,o,m,k⟩:=B7 h;simp only[aF,bN,or_false]at hi;rcases hi with rfl|rfl|rfl|rfl
 ·cases a<;>simp only[vy,mB,m2,b2,mV,h1,h2,e,qu,oS1,Cd,l,gI,mC]<;>rfl
 ·cases b<;>simp only[vy,mB,m2,b2,mV,h1,h2,e,qu,oS1,zQ,o,gI,mC]<;>rfl
 ·cases c<;>simp only[vy,mB,m2,b2,mV,h1,h2,e,qu,oS1,zP,m,gI,mC]<;>rfl
 ·cases d<;>simp only[vy,mB,m2,b2,mV,h1,h2,e,qu,oS1,w8,k,gI,mC]<;>rfl
theorem Ba{w:ew}{ws:List Wk}{cs:List Nat}{a b c d:Bool}{k:Nat}{u:Wk}{row:List (Nat×Nat)}{S:Sto}{Q:D×Sto->Prop}(l:ws[k]? = some u)(hr:w[u.1]? = some row)(o:ws.length<=1000)(q:Q (u6 a b c d ws cs u row,S)):W (dX 4 gK [webD w,.tup (fv a b c d),dZ ws cs,.int k] S) Q:=by
 refine lQ rfl (by simp[D.unds,fL,fR];rw[D.und];exact⟨kx a b c d,rfl⟩) ?_;unfold gK;refine nr ?_;unfold nD;refine eF (fun r S=>S=[]/\r=[some (webD w),some (.tup (fv a b c d)),some (dZ ws cs),some (.int k),some (.tup (eA ws)),some (.tup (eP cs)),none,none,none,none,none]) ?_ ?_
 ·rw[dZ];walk_at"w"
 rintro r S ⟨rfl,rfl⟩;refine eF (fun r S=>S=[]/\r=[some (webD w),some (.tup (fv a b c d)),some (dZ ws cs),some (.int k),some (.tup (eA ws)),some (.tup (eP cs)),some (.int u.1),some (.int u.2.1),some (.int u.2.2),none,none]) ?_ ?_
 ·walk_at"w";refine gy (i:=k) (x:=ff u) (by rw[eA,gP1,l];rfl) ?_;rw[ff];walk_at"w"
 rintro r S ⟨rfl,rfl⟩;refine eF (fun r S=>S=[.lst ((ws.filter fun v=>v.1 == u.1).map ff)]/\r=[some (webD w),some (.tup (fv a b c d)),some (dZ ws cs),some (.int k),some (.tup (eA ws)),some (.tup (eP cs)),some (.int u.1),some (.int u.2.1),some (.int u.2.2),some (.ref 0),none]) ?_ ?_
 ·walk_at"w";rw[iO];refine oU fun j=>?_;walk_at"w";have:=dq (fun v:Wk=>v.1 == u.1) ws;have h2:((ws.filter fun v:Wk=>v.1 == u.1).map ff).length<=100000:=by rw[lM1];lia
  exact⟨d9 h2,trivial⟩
 rintro r S ⟨rfl,rfl⟩;generalize m:[Ob.lst ((ws.filter fun v=>v.1 == u.1).map ff)]=S1;have f:S1[0]?=some (Ob.lst ((ws.filter fun v=>v.1 == u.1).map ff)):=by rw[<- m];rfl
 refine eF (fun r S=>S=S1++[.dct [(.inr "came",.int u.2.1),(.inr "chalk",.int (if cs.contains u.1 then 1 else 0)),(.inr "doors",.int row.length),(.inr "others",.int (if 1<crowd ws u.1 then 1 else 0))]]/\r=[some (webD w),some (.tup (fv a b c d)),some (dZ ws cs),some (.int k),some (.tup (eA ws)),some (.tup (eP cs)),some (.int u.1),some (.int u.2.1),some (.int u.2.2),some (.ref 0),some (.ref S1.length)]) ?_ ?_
 ·unfold eh;rw[d4];have hc:(List.map ff (ws.filter fun v=>v.1 == u.1)).length=crowd ws u.1:=by rw[lM1];rfl
  refine Db (w:=.int u.2.1) (x:=.int (if cs.contains u.1 then 1 else 0)) (y:=.int row.length) (z:=.int (if 1<crowd ws u.1 then 1 else 0)) rfl ?_ ?_ ?_ ?_
  ·simp only[vy,mB,m2,b2,mV,gC1,dk,oS1,zO,mC];split<;>rfl
  ·have:W (dW (webD w) (.int u.1) S1) fun p=>p=(.tup (row.map pD),S1):=wm hr rfl;obtain⟨p,e,rfl⟩:=this;simp only[mN,dS,dU,m2,b1,b2,mV,gC1,dk,oS1,e,gC,lM1]
  ·simp only[vy,mB,mN,dS,dU,m2,b1,b2,mV,mC,gC1,dk,oS1,eS,gR f,oP1,iH,hc];by_cases h1:1<crowd ws u.1
   ·rw[if_pos h1,if_pos (by rw[decide_eq_true_eq];lia)]
   ·rw[if_neg h1,if_neg (by rw[decide_eq_true_eq];lia)]
  ·walk_at"w"
 rintro r S ⟨rfl,rfl⟩;generalize g:S1++[Ob.dct [(.inr "came",.int u.2.1),(.inr "chalk",.int (if cs.contains u.1 then 1 else 0)),(.inr "doors",.int row.length),(.inr "others",.int (if 1<crowd ws u.1 then 1 else 0))]]=S2;have n:S2[S1.length]?=some (Ob.dct [(.inr "came",.int u.2.1),(.inr "chalk",.int (if cs.contains u.1 then 1 else 0)),(.inr "doors",.int row.length),(.inr "others",.int (if 1<crowd ws u.1 then 1 else 0))]):=by rw[<- g,ee];rfl
 walk_at"w";have h:mj = .tup ([0,1,2,3].map fun i:Nat=>D.tup [qu i,C3 i]):=rfl;rw[h,iO];refine r6 (gI a b c d u.2.1 (if cs.contains u.1 then 1 else 0) row.length (if 1<crowd ws u.1 then 1 else 0)) (fun r=>∃x y,r=[x,y,some (.tup (fv a b c d)),some (.ref S1.length)]) rfl _ _ ⟨_,_,rfl⟩ ?_ ?_
 ·rintro i hi r ⟨x,y,rfl⟩;refine⟨([some (qu i),some (C3 i),some (.tup (fv a b c d)),some (.ref S1.length)],S2),rfl,?_⟩;refine⟨(true,S2),rfl,rfl,?_⟩;exact⟨_,vk n hi rfl rfl rfl,rfl,rfl,_,_,rfl⟩
 ·rintro j _;walk_at"w";refine eG (xs:=[gI a b c d u.2.1 (if cs.contains u.1 then 1 else 0) row.length (if 1<crowd ws u.1 then 1 else 0) 0,gI a b c d u.2.1 (if cs.contains u.1 then 1 else 0) row.length (if 1<crowd ws u.1 then 1 else 0) 1,gI a b c d u.2.1 (if cs.contains u.1 then 1 else 0) row.length (if 1<crowd ws u.1 then 1 else 0) 2,gI a b c d u.2.1 (if cs.contains u.1 then 1 else 0) row.length (if 1<crowd ws u.1 then 1 else 0) 3]) (by rw[ee];rfl) ?_;exact⟨oi,q⟩
theorem se{w:ew}{ws:List Wk}{cs:List Nat}{a b c d:Bool}{k:Nat}{u:Wk}{row:List (Nat×Nat)}{S:Sto}{Q:D×Sto->Prop}(n:ws[k]? = some u)(hr:w[u.1]? = some row)(t:ws.length<=1000)(q:Q (u6 a b c d ws cs u row,S)):W (dX 4 eX [webD w,.tup (fv a b c d),dZ ws cs,.int k] S) Q:=by
 refine lQ rfl (by simp[D.unds,fL,fR];rw[D.und];exact⟨kx a b c d,rfl⟩) ?_;unfold eX;refine nr ?_;unfold kI;have g:∀(S:Sto) (Q:D×Sto->Prop),Q (.tup (eA ws),S)->W (dW (dZ ws cs) (.int 0) S) Q:=fun S Q q=>gy (i:=0) rfl q;have o:∀(S:Sto),dW (dZ ws cs) (.int 1) S=some (.tup (eP cs),S):=fun S=>by
  obtain⟨p,e,h⟩:W (dW (dZ ws cs) (.int 1) S) fun p=>p=(.tup (eP cs),S):=gy (i:=1) rfl rfl;rw[e,h]
 refine eF (fun r S=>S=[]/\r=[some (webD w),some (.tup (fv a b c d)),some (dZ ws cs),some (.int k),some (.int u.1),some (.int u.2.1),some (.int u.2.2),none,none]) ?_ ?_
 ·walk_at"w";refine g _ _ ?_;refine gy (i:=k) (x:=ff u) (by rw[eA,gP1,n];rfl) ?_;rw[ff];walk_at"w"
 rintro r S ⟨rfl,rfl⟩;refine eF (fun r S=>r=[some (webD w),some (.tup (fv a b c d)),some (dZ ws cs),some (.int k),some (.int u.1),some (.int u.2.1),some (.int u.2.2),some (.int (crowd ws u.1)),none]) ?_ ?_
 ·walk_at"w";refine g _ _ ?_;rw[iO];refine oU fun m=>?_;walk_at"w";have:=dq (fun v:Wk=>v.1 == u.1) ws;have h2:((ws.filter fun v:Wk=>v.1 == u.1).map ff).length<=100000:=by rw[lM1];lia
  refine⟨d9 h2,?_⟩;refine eG (xs:=(ws.filter fun v:Wk=>v.1 == u.1).map ff) rfl ?_;rw[lM1];rfl
 rintro r f rfl;refine eF (fun r S=>S=f++[.dct [(.inr "came",.int u.2.1),(.inr "chalk",.int (if cs.contains u.1 then 1 else 0)),(.inr "doors",.int row.length),(.inr "others",.int (if 1<crowd ws u.1 then 1 else 0))]]/\r=[some (webD w),some (.tup (fv a b c d)),some (dZ ws cs),some (.int k),some (.int u.1),some (.int u.2.1),some (.int u.2.2),some (.int (crowd ws u.1)),some (.ref f.length)]) ?_ ?_
 ·unfold eh;rw[d4];refine Db (w:=.int u.2.1) (x:=.int (if cs.contains u.1 then 1 else 0)) (y:=.int row.length) (z:=.int (if 1<crowd ws u.1 then 1 else 0)) rfl ?_ ?_ ?_ ?_
  ·simp only[mN,dS,dU,b1,m2,b2,mV,gC1,dk,oS1,o,zO,mC,nU]
  ·obtain⟨p,e,rfl⟩:W (dW (webD w) (.int u.1) f) fun p=>p=(.tup (row.map pD),f):=wm hr rfl;simp only[mN,dS,dU,m2,b1,b2,mV,gC1,dk,oS1,e,gC,lM1]
  ·simp only[mN,dS,dU,m2,b1,b2,mV,mC,gC1,dk,oS1,iH,nU];by_cases h1:1<crowd ws u.1
   ·rw[if_pos h1,if_pos (by rw[decide_eq_true_eq];lia)]
   ·rw[if_neg h1,if_neg (by rw[decide_eq_true_eq];lia)]
  ·walk_at"w"
 rintro r S ⟨rfl,rfl⟩;generalize j:f++[Ob.dct [(.inr "came",.int u.2.1),(.inr "chalk",.int (if cs.contains u.1 then 1 else 0)),(.inr "doors",.int row.length),(.inr "others",.int (if 1<crowd ws u.1 then 1 else 0))]]=S2;have s:S2[f.length]?=some (Ob.dct [(.inr "came",.int u.2.1),(.inr "chalk",.int (if cs.contains u.1 then 1 else 0)),(.inr "doors",.int row.length),(.inr "others",.int (if 1<crowd ws u.1 then 1 else 0))]):=by rw[<- j,ee];rfl
 walk_at"w";have l:([D.str "came",D.str "chalk",D.str "doors",D.str "others"]:List D)=[0,1,2,3].map qu:=rfl;rw[iO,l];refine r6 (gI a b c d u.2.1 (if cs.contains u.1 then 1 else 0) row.length (if 1<crowd ws u.1 then 1 else 0)) (fun r=>∃x,r=[x,some (.tup (fv a b c d)),some (.ref f.length)]) rfl _ _ ⟨_,rfl⟩ ?_ ?_
 ·rintro i hi r ⟨x,rfl⟩;refine⟨([some (qu i),some (.tup (fv a b c d)),some (.ref f.length)],S2),rfl,?_⟩;refine⟨(true,S2),rfl,rfl,?_⟩;exact⟨_,vk s hi rfl rfl rfl,rfl,rfl,_,rfl⟩
 ·rintro m _;walk_at"w";refine eG (xs:=[gI a b c d u.2.1 (if cs.contains u.1 then 1 else 0) row.length (if 1<crowd ws u.1 then 1 else 0) 0,gI a b c d u.2.1 (if cs.contains u.1 then 1 else 0) row.length (if 1<crowd ws u.1 then 1 else 0) 1,gI a b c d u.2.1 (if cs.contains u.1 then 1 else 0) row.length (if 1<crowd ws u.1 then 1 else 0) 2,gI a b c d u.2.1 (if cs.contains u.1 then 1 else 0) row.length (if 1<crowd ws u.1 then 1 else 0) 3]) (by rw[ee];rfl) ?_;exact⟨oi,q⟩
def pt(b:Bool)(x:Nat):D:=if b=true then .int x else .non
def Jg(a b c d:Bool)(x y z w:Nat):D:=.tup [pt a x,pt b y,pt c z,pt d w]
def nj:List D:=[.str "leave",.str "mark",.str "wipe"]
def ln:List D:=[.non,.int 0,.int 1,.int 2,.int 3]
structure ge (x:D):Prop where
 is:∃m h t,x = .tup [.int (m:Nat),h,t]/\m<4000/\h∈nj/\t∈ln
theorem ge.und{x:D}(h:ge x):x.und 0=true:=by
 obtain⟨m,x,t,rfl,_,h1,h2⟩:=h.is;have b:x.und 0=true:=by simp[nj]at h1;rcases h1 with z|z|z<;>subst z<;>rfl
 have a:t.und 0=true:=by simp[ln]at h2;rcases h2 with z|z|z|z|z<;>subst z<;>rfl
 simp[D.und,D.unds,b,a]
def cx(b:Bool)(x:Nat):Nat:=if b=true then x else 0
def i6:List Bool->List Nat->Nat
 |b::bs,x::xs=>cx b x*8^bs.length+i6 bs xs
 |_,_=>0
theorem lh:∀{bs:List Bool} {xs:List Nat},(∀x∈xs,x<=7)->i6 bs xs<8^bs.length
 |[],_,_=>by rw[i6];simp;simp
 |b::bs,[],_=>by
  rw[i6]
  ·exact Nat.pos_of_ne_zero (by simp)
  ·simp
 |b::bs,x::xs,h=>by
  have h1:=lh (bs:=bs) fun y a=>h y (mC1 _ a);have h2:cx b x<=7:=by unfold cx;split;exact h x mS1;lia
  rw[i6,lC1,Nat.pow_succ];have c:cx b x*8^bs.length<=7*8^bs.length:=dr _ h2;lia
theorem He{S:Sto}{n:Nat}{xs ys:List D}:gr S (n+1) (.tup xs) (.tup ys)=nK (gr S n) xs ys:=by
 rw[gr];simp[d5]
theorem IG{S:Sto}{n:Nat}{xs ys:List D}:jI S (n+1) (.tup xs) (.tup ys)=nR (gr S n) (jI S n) xs ys:=by
 rw[jI];simp[HN,d5]
theorem C8{S:Sto}{n:Nat}{b:Bool}{x y:Nat}:gr S (n+1) (pt b x) (pt b y)=some (decide (cx b x=cx b y)):=by
 cases b with
 |false=>rfl
 |true=>
  show some ((x:Int) == (y:Int))=some (decide (x=y))
  congr 1
  rw[bS,beq_iff_eq,decide_eq_true_eq];lia
theorem GP{S:Sto}{n:Nat}{b:Bool}{x y:Nat}(h:cx b x≠cx b y):jI S (n+1) (pt b x) (pt b y)=some (decide (cx b x<cx b y)):=by
 cases b with
 |false=>exact absurd rfl h
 |true=>
  show some (decide ((x:Int)<(y:Int)))=some (decide (x<y))
  congr 1
  rw[bS,decide_eq_true_eq,decide_eq_true_eq];omega
theorem Hg{A B P u v:Nat}(a:u<P)(hv:v<P):(A*P+u=B*P+v↔A=B/\u=v)/\(A*P+u<B*P+v↔A<B\/(A=B/\u<v)):=by
 rcases Nat.lt_trichotomy A B with h|h|h
 ·have:=dr P (show A+1<=B from h);rw[Nat.succ_mul]at this;constructor<;>lia
 ·subst h;constructor<;>lia
 ·have:=dr P (show B+1<=A from h);rw[Nat.succ_mul]at this;constructor<;>lia
theorem qw{S:Sto}{n:Nat}:∀ {bs:List Bool} {xs ys:List Nat},xs.length=bs.length->ys.length=bs.length->(∀ x∈xs,x<=7)->(∀ y∈ys,y<=7) ->
  nK (gr S (n+1)) (dw pt bs xs) (dw pt bs ys)=some (decide (i6 bs xs=i6 bs ys))
 |[],xs,ys,_,_,_,_=>by simp[nK,i6]
 |b::bs,[],ys,h,_,_,_=>by simp at h
 |b::bs,x::xs,[],_,h,_,_=>by simp at h
 |b::bs,x::xs,y::ys,h1,h2,hx,hy=>by
  have ih:=qw (S:=S) (n:=n) (bs:=bs) (xs:=xs) (ys:=ys) (by simpa using h1) (by simpa using h2) (fun z a=>hx z (mC1 _ a)) (fun z a=>hy z (mC1 _ a));have b1:=lh (bs:=bs) (xs:=xs) fun z a=>hx z (mC1 _ a);have b2:=lh (bs:=bs) (xs:=ys) fun z a=>hy z (mC1 _ a);rw[dy,dy,nK,C8,ih,i6,i6];have c:=(Hg (A:=cx b x) (B:=cx b y) b1 b2).1;rw[oS1,oP1]
  congr 1
  rw[bS,bA1,decide_eq_true_eq,decide_eq_true_eq,decide_eq_true_eq];exact c.symm
theorem zD{S:Sto}{n:Nat}:∀ {bs:List Bool} {xs ys:List Nat},xs.length=bs.length->ys.length=bs.length->(∀ x∈xs,x<=7)->(∀ y∈ys,y<=7) ->
  nR (gr S (n+1)) (jI S (n+1)) (dw pt bs xs) (dw pt bs ys)=some (decide (i6 bs xs<i6 bs ys))
 |[],xs,ys,_,_,_,_=>by simp[nR,i6]
 |b::bs,[],ys,h,_,_,_=>by simp at h
 |b::bs,x::xs,[],_,h,_,_=>by simp at h
 |b::bs,x::xs,y::ys,h1,h2,hx,hy=>by
  have ih:=zD (S:=S) (n:=n) (bs:=bs) (xs:=xs) (ys:=ys) (by simpa using h1) (by simpa using h2) (fun z a=>hx z (mC1 _ a)) (fun z a=>hy z (mC1 _ a));have b1:=lh (bs:=bs) (xs:=xs) fun z a=>hx z (mC1 _ a);have b2:=lh (bs:=bs) (xs:=ys) fun z a=>hy z (mC1 _ a);have c:=(Hg (A:=cx b x) (B:=cx b y) b1 b2).2;rw[dy,dy,nR,C8,oS1,i6,i6];by_cases z:cx b x=cx b y
  ·rw[if_pos (decide_eq_true z),ih]
   congr 1
   rw[bS,decide_eq_true_eq,decide_eq_true_eq];lia
  ·rw[if_neg (by rw[decide_eq_true_eq];exact z),GP z]
   congr 1
   rw[bS,decide_eq_true_eq,decide_eq_true_eq];lia
structure Ky where
 m:Nat
 x:Nat
 y:Nat
 z:Nat
 w:Nat
structure Ky.Ok (k:Ky):Prop where
 m:k.m<4000
 x:k.x<=4
 y:k.y<=4
 z:k.z<=4
 w:k.w<=4
abbrev E4:=Bool×Bool×Bool×Bool
def E4.bs(e:E4):List Bool:=[e.1,e.2.1,e.2.2.1,e.2.2.2]
def Ky.xs(k:Ky):List Nat:=[k.x,k.y,k.z,k.w]
def C1(b:Bool)(x:Nat):TK:=if b=true then .int x else .non
def Ky.sg(k:Ky)(e:E4):D:=Jg e.1 e.2.1 e.2.2.1 e.2.2.2 k.x k.y k.z k.w
def Ky.d(k:Ky)(e:E4):D:=.tup [.int k.m,k.sg e]
def Ky.tk(k:Ky)(e:E4):TK:=.tup [.int k.m,.tup [C1 e.1 k.x,C1 e.2.1 k.y,C1 e.2.2.1 k.z,C1 e.2.2.2 k.w]]
def Ky.code(k:Ky)(e:E4):Nat:=k.m*4096+i6 e.bs k.xs
theorem Ky.keyT(k:Ky)(e:E4):Mi.keyT (k.d e)=some (k.tk e):=by
 obtain⟨a,b,c,d⟩:=e;cases a<;>cases b<;>cases c<;>cases d<;>rfl
theorem Ky.tkD(k:Ky)(e:E4):Mi.tkD (k.tk e)=k.d e:=(vE (k.keyT e)).1
theorem Ky.sg_zip(k:Ky)(e:E4):k.sg e = .tup (dw pt e.bs k.xs):=rfl
theorem Ky.Ok.all{k:Ky}(h:k.Ok):∀x∈k.xs,x<=7:=by
 intro x a;have:=h.x;have:=h.y;have:=h.z;have:=h.w
 simp[Ky.xs]at a;lia
theorem gn{k:Ky}(h:k.Ok)(e:E4):i6 e.bs k.xs<4096:=lh (bs:=e.bs) h.all
theorem Ky.eq{k l:Ky}{e:E4}{S:Sto}{n:Nat}(hk:k.Ok)(a:l.Ok):gr S (n+3) (k.d e) (l.d e)=some (decide (k.code e=l.code e)):=by
 have d:gr S (n+2) (.int k.m) (.int l.m)=some ((k.m:Int) == (l.m:Int)):=rfl;have c:gr S (n+2) (k.sg e) (l.sg e)=some (decide (i6 e.bs k.xs=i6 e.bs l.xs)):=by rw[Ky.sg_zip,Ky.sg_zip,He,qw rfl rfl hk.all a.all]
 unfold Ky.d Ky.code;rw[He,nK,d,oS1,nK,c,nK];have b:=(Hg (A:=k.m) (B:=l.m) (gn hk e) (gn a e)).1;show some (((k.m:Int) == (l.m:Int))&&(decide (i6 e.bs k.xs=i6 e.bs l.xs)&&true))=_
 congr 1
 rw[bS,bO,bA1,decide_eq_true_eq,decide_eq_true_eq,beq_iff_eq,b];lia
theorem Ky.lt{k l:Ky}{e:E4}{S:Sto}{n:Nat}(hk:k.Ok)(a:l.Ok):jI S (n+3) (k.d e) (l.d e)=some (decide (k.code e<l.code e)):=by
 have g:gr S (n+2) (.int k.m) (.int l.m)=some ((k.m:Int) == (l.m:Int)):=rfl;have c:jI S (n+2) (.int k.m) (.int l.m)=some (decide ((k.m:Int)<(l.m:Int))):=rfl;have f:gr S (n+2) (k.sg e) (l.sg e)=some (decide (i6 e.bs k.xs=i6 e.bs l.xs)):=by rw[Ky.sg_zip,Ky.sg_zip,He,qw rfl rfl hk.all a.all]
 have d:jI S (n+2) (k.sg e) (l.sg e)=some (decide (i6 e.bs k.xs<i6 e.bs l.xs)):=by rw[Ky.sg_zip,Ky.sg_zip,IG,zD rfl rfl hk.all a.all]
 unfold Ky.d Ky.code;have h:=(Hg (A:=k.m) (B:=l.m) (gn hk e) (gn a e)).2;rw[IG,nR,g,oS1];by_cases z:k.m=l.m
 ·rw[if_pos (by rw[beq_iff_eq];lia),nR,f,oS1];by_cases b:i6 e.bs k.xs=i6 e.bs l.xs
  ·rw[if_pos (decide_eq_true b),nR]
   congr 1
   rw[eq_comm,decide_eq_false_iff_not];lia
  ·rw[if_neg (by rw[decide_eq_true_eq];exact b),d]
   congr 1
   rw[bS,decide_eq_true_eq,decide_eq_true_eq];lia
 ·rw[if_neg (by rw[beq_iff_eq];lia),c]
  congr 1
  rw[bS,decide_eq_true_eq,decide_eq_true_eq];lia
theorem Ky.und(k:Ky)(e:E4)(n:Nat):(k.d e).und n=true:=by
 rw[<- k.tkD e];exact tS _
theorem Ky.sgu(k:Ky)(e:E4)(n:Nat):(k.sg e).und n=true:=by
 have:=k.und e n;unfold Ky.d at this;simp only[D.und,D.unds,bO,Bool.true_and]at this;exact this
def dO(F:List (TK×D)):Ob:=match F with
 |[]=>.dct []
 |_=>.dcT F
theorem Hj{F:List (TK×D)}(h:F≠[]):dO F = .dcT F:=by
 cases F with
 |nil=>exact absurd rfl h
 |cons _ _=>rfl
structure RW (e:E4)(F:List (TK×D)):Prop where
 row:∀p∈F,∃k:Ky,k.Ok/\p.1=k.tk e/\ge p.2
 nd:(F.map (·.1)).Nodup
theorem RW.und{e:E4}{F:List (TK×D)}(h:RW e F)(n:Nat):(dO F).und n=true:=by
 have:D.unds n (F.map (·.2))=true:=Mi.eK fun p a=>by
  obtain⟨_,_,_,b⟩:=h.row p a;exact fr b.und
 cases F with
 |nil=>rfl
 |cons _ _=>exact this
theorem Gd{e:E4}{F:List (TK×D)}{k:Ky}{x:D}{n:Nat}{S:Sto}(b:S[n]?=some (dO F))(c:F.length<=100000):iZ (.ref n) (k.d e) x S=some (.non,S.set n (dO (e6 F (k.tk e) x))):=by
 cases F with
 |nil=>
  have a:S[n]?=some (.dct []):=b;simp only[iZ,a,k.keyT e];rfl
 |cons p F=>
  have a:S[n]?=some (.dcT (p::F)):=b;rw[Hj DU];simp only[iZ,a,k.keyT e,oS1];rw[if_pos (bJ c (by decide))]
abbrev Rw:=Ky×D
def fF(e:E4)(p:Rw):D:=.tup [p.1.d e,p.2]
def nJ(p:Rw):Prop:=p.1.Ok/\ge p.2
theorem RW.list{e:E4}:∀{F:List (TK×D)},(∀p∈F,∃k:Ky,k.Ok/\p.1=k.tk e/\ge p.2) -> ∃L:List Rw,L.map (fun p=>(p.1.tk e,p.2))=F /\ ∀p∈L,nJ p
 |[],_=>⟨[],rfl,fun p a=>by cases a⟩
 |x::F,h=>by
  obtain⟨L,h1,h2⟩:=RW.list (F:=F) fun p a=>h p (mC1 _ a);obtain⟨k,d,b,c⟩:=h x mS1;refine⟨(k,x.2)::L,by rw[mP1,h1,<- b],fun p a=>?_⟩;rcases aF.mp a with z|z
  ·subst z;exact⟨d,c⟩
  ·exact h2 p z
theorem DW(b:Bool)(x:Nat):C1 b x=if b=true then .int (cx b x)else .non:=by unfold C1 cx;cases b<;>rfl
theorem v4{b:Bool}{x y:Nat}(h:C1 b x=C1 b y):cx b x=cx b y:=by
 cases b with
 |false=>rfl
 |true=>
  have h':TK.int (x:Int)=TK.int (y:Int):=h;injection h' with h';exact(by lia:x=y)
theorem Hk(a b c d x y z w:_):i6 [a,b,c,d] [x,y,z,w]=((cx a x*8+cx b y)*8+cx c z)*8+cx d w:=by
 simp only[i6,lC1,bf];lia
theorem uY{k l:Ky}{e:E4}(hk:k.Ok)(f:l.Ok):k.tk e=l.tk e↔k.code e=l.code e:=by
 obtain⟨a,b,c,d⟩:=e;have s:k.code (a,b,c,d)=k.m*4096+(((cx a k.x*8+cx b k.y)*8+cx c k.z)*8+cx d k.w):=by unfold Ky.code;rw[<- Hk];rfl
 have i:l.code (a,b,c,d)=l.m*4096+(((cx a l.x*8+cx b l.y)*8+cx c l.z)*8+cx d l.w):=by unfold Ky.code;rw[<- Hk];rfl
 have le:∀(b:Bool) (x:Nat),x<=4->cx b x<=4:=fun b x h=>by unfold cx;split<;>lia
 rw[s,i];constructor
 ·intro h;unfold Ky.tk at h;injection h with h;injection h with h1 h2;injection h1 with h1;injection h2 with h2 _;injection h2 with h2;injection h2 with g h2;injection h2 with p2 h2;injection h2 with m h2;injection h2 with p _;rw[v4 g,v4 p2,v4 m,v4 p,show k.m=l.m by lia]
 ·intro h;have y:=le a _ hk.x;have u:=le b _ hk.y;have v:=le c _ hk.z;have z:=le d _ hk.w
  have A:=le a _ f.x;have r2:=le b _ f.y;have t:=le c _ f.z;have w:=le d _ f.w
  have n:k.m=l.m:=by lia
  have q:cx a k.x=cx a l.x:=by lia
  have j:cx b k.y=cx b l.y:=by lia
  have r:cx c k.z=cx c l.z:=by lia
  have o:cx d k.w=cx d l.w:=by lia
  unfold Ky.tk;simp only[DW,n,q,j,r,o]
def Dh(e:E4)(L:List Rw):Prop:=L.Pairwise fun p q=>p.1.code e<q.1.code e
theorem nv{α:Type}{p q:α->Bool}:∀{l:List α},(∀x∈l,p x=q x)->l.find? p=l.find? q
 |[],_=>rfl
 |a::l,h=>by
  rw[bc,bc,h a mS1,nv fun x b=>h x (mC1 _ b)]
theorem ij{α:Type}{f:α->Nat}{c:Nat}{a:α}:∀{l:List α},(l.map f).Nodup->((l.find? fun x=>decide (f x=c))=some a↔a∈l/\f a=c)
 |[],_=>by simp
 |b::l,nd=>by
  rw[mP1,aN]at nd;rw[bc];by_cases z:f b=c
  ·rw[decide_eq_true z];constructor
   ·intro h;cases h;exact⟨mS1,z⟩
   ·rintro⟨h1,h2⟩;rcases aF.mp h1 with y|y
    ·rw[y]
    ·exact absurd (ci.mpr ⟨a,y,h2.trans z.symm⟩) nd.1
  ·rw[decide_eq_false z];show(l.find? fun x=>decide (f x=c))=some a↔_;rw[ij nd.2];constructor
   ·rintro⟨h1,h2⟩;exact⟨mC1 _ h1,h2⟩
   ·rintro⟨h1,h2⟩;rcases aF.mp h1 with y|y
    ·rw[y]at h2;exact absurd h2 z
    ·exact⟨y,h2⟩
theorem xg{α:Type}{f:α->Nat}{c:Nat}{l m:List α}(p:l.Perm m)(nd:(m.map f).Nodup):(l.find? fun x=>decide (f x=c))=m.find? fun x=>decide (f x=c):=by
 have b:(l.map f).Nodup:=(p.map f).nodup_iff.mpr nd;apply Option.ext;intro a;rw[ij b,ij nd,p.mem_iff]
theorem Dh.le{e:E4}{L:List Rw}(h:Dh e L)(ok:∀p∈L,nJ p){i j:Nat}{p q:Rw}(hi:L[i]?=some p)(a:L[j]?=some q)(d:i<=j):p.1.m<=q.1.m/\(i<j->p.1.code e<q.1.code e):=by
 have c:=(ok p (gM1 hi)).1;have f:=(ok q (gM1 a)).1;by_cases z:i=j
 ·subst z;rw[hi]at a;cases a;exact⟨nR1 _,fun z=>by lia⟩
 ·obtain⟨h1,g⟩:=gE1.mp hi;obtain⟨h2,b⟩:=gE1.mp a;have:=cw.mp h i j h1 h2 (by lia);rw[g,b]at this;refine⟨?_,fun _=>this⟩;have k:=gn c e;have l:=gn f e;unfold Ky.code at this;lia
theorem IK{e:E4}{L:List Rw}{i:Nat}{p:Rw}{S:Sto}(h:L[i]?=some p):dW (.tup (L.map (fF e))) (.int (i:Nat)) S=some (fF e p,S):=by
 obtain⟨x,b,a⟩:=(gy (i:=i) (xs:=L.map (fF e)) (x:=fF e p) (S:=S) (Q:=fun x=>x=(fF e p,S)) (by rw[gP1,h];rfl) rfl);rw[b,a]
theorem IL{e:E4}{p:Rw}{S:Sto}:dW (fF e p) (.int 0) S=some (p.1.d e,S):=rfl
theorem Ka{e:E4}{p:Rw}{S:Sto}:dW (fF e p) (.int 1) S=some (p.2,S):=rfl
theorem Jq{e:E4}{k:Ky}{S:Sto}:dW (k.d e) (.int 0) S=some (.int k.m,S):=rfl
theorem J9{e:E4}{k:Ky}{S:Sto}:dW (k.d e) (.int 1) S=some (k.sg e,S):=rfl
theorem jW{e:E4}{L:List Rw}(ok:∀p∈L,nJ p)(n:Nat):(D.tup (L.map (fF e))).und n=true:=by
 rw[D.und];refine Mi.eK fun p a=>?_;have h1:=p.1.und e n;have h2:=fr (n:=n) (ok p a).2.und;simp[fF,D.und,D.unds,h1,h2]
theorem EV{e:E4}{L:List Rw}{S:Sto}:eS (.tup (L.map (fF e))) S=some (.int L.length,S):=by simp[eS,d5]
theorem CO{c:FT}{b:FS}{Q:Fl×Ev×Sto->Prop}(I:Nat->Ev->Sto->Prop)(N:Nat)(step:∀k r S,I k r S->W (c r S) fun p=>if p.1=true then k<N/\W (b r p.2) fun q=>q.1 = .nx/\I (k+1) q.2.1 q.2.2 else Q (.nx,r,p.2)):
  ∀(a k:Nat) (r:Ev) (S:Sto),N-k<a->I k r S->W (qS c b a r S) Q
 |0,k,r,S,hf,_=>by lia
 |a+1,k,r,S,hf,hi=>by
  rw[qS];dsimp only;rw[d4];obtain⟨⟨t,n⟩,e,h⟩:=step k r S hi;refine⟨_,e,?_⟩;dsimp only at h ⊢;cases t with
  |true=>
   rw[if_pos rfl]at h ⊢;obtain⟨m,⟨f,l,j⟩,i,d,g⟩:=h;dsimp only at d g;subst d;rw[i,oS1];exact CO I N step a (k+1) l j (by lia) g
  |false=>
   rw[if_neg (by decide)]at h ⊢;exact eB.mpr h
theorem Cq{e:E4}{L:List Rw}{q:Nat}{S:Sto}{Q:D×Sto->Prop}(f:Dh e L)(ok:∀ p∈L,nJ p)(v:L.length<=4000)(h:∀a:Nat,a<=L.length->(∀i p,L[i]?=some p->i<a->p.1.m<q)->(∀i p,L[i]?=some p->a<=i->q<=p.1.m)->Q (.int a,S)):W (dX 2 gL [.tup (L.map (fF e)),.int (q:Nat)] S) Q:=by
 refine lQ rfl (by rw[D.unds,jW ok,D.unds,D.und];rfl) ?_;unfold gL;refine nr ?_;unfold nE;generalize s:D.tup (L.map (fF e))=R;refine eF (fun r S=>S=[]/\r=[some R,some (.int (q:Nat)),some (.int ((0:Nat):Int)),none,none]) ?_ ?_
 ·walk_at"w";rfl
 rintro r l ⟨rfl,rfl⟩;refine eF (fun r S=>S=[]/\r=[some R,some (.int (q:Nat)),some (.int ((0:Nat):Int)),some (.int (L.length:Nat)),none]) ?_ ?_
 ·subst s
  ((try walk_at"w");repeat(simp only[EV];try walk_at"w"))
  rw[lM1]
 rintro r l ⟨rfl,rfl⟩;refine eF (fun r S=>∃(a:Nat) (c:Option D),S=[]/\a<=L.length/\(∀i p,L[i]?=some p->i<a->p.1.m<q)/\(∀i p,L[i]?=some p->a<=i->q<=p.1.m)/\r=[some R,some (.int (q:Nat)),some (.int (a:Nat)),some (.int (a:Nat)),c]) ?_ ?_
 ·refine CO (fun k r S=>∃(a high:Nat) (c:Option D),S=[]/\a<=high/\high<=L.length/\high-a+k<=L.length/\(∀i p,L[i]?=some p->i<a->p.1.m<q)/\(∀i p,L[i]?=some p->high<=i->q<=p.1.m)/\r=[some R,some (.int (q:Nat)),some (.int (a:Nat)),some (.int (high:Nat)),c]) L.length ?_ 100000 0 _ _ (by lia) ⟨0,L.length,_,rfl,by lia,by lia,by lia,fun i p _ z=>by lia,fun i p d z=>?_,rfl⟩
  ·rintro k r S ⟨a,high,c,rfl,h1,h2,o,n,m,rfl⟩;unfold j8;walk_at"w";by_cases z:a<high
   ·rw[if_pos (by rw[decide_eq_true_eq];lia)];refine⟨by lia,?_⟩;unfold j7;have g:(a+high)/2<L.length:=by lia
    obtain⟨p,d⟩:∃p,L[(a+high)/2]?=some p:=⟨_,gG1 g⟩;have j:nV (.int ((a:Int)+(high:Int))) (.int 2) []=some (.int (((a+high)/2:Nat):Int),[]):=by
     simp only[nV];rw[if_pos ⟨by lia,by lia⟩]
     push_cast
     rfl
    subst s
    ((try walk_at"w");repeat(simp only[j,IK d,IL,Jq];try walk_at"w"))
    by_cases t:p.1.m<q
    ·rw[if_pos (by rw[decide_eq_true_eq];lia)];refine⟨(a+high)/2+1,high,_,by lia,h2,by lia,fun i u b hi=>?_,m,by push_cast;rfl⟩;exact bJ (f.le ok b d (by lia)).1 t
    ·rw[if_neg (by rw[decide_eq_true_eq];lia)];refine⟨a,(a+high)/2,_,by lia,by lia,by lia,n,fun i u b hi=>?_,rfl⟩;exact aC (by lia) (f.le ok d b hi).1
   ·rw[if_neg (by rw[decide_eq_true_eq];lia)];have:a=high:=by lia
    subst this;exact⟨a,_,h2,n,m,rfl⟩
  ·have:=(gE1.mp d).1;lia
 rintro r l ⟨a,c,rfl,h1,h2,o,rfl⟩;walk_at"w";exact⟨rfl,h a h1 h2 o⟩
theorem x5{c:FT}{b:FS}{Q:Fl×Ev×Sto->Prop}(I:Nat->Ev->Sto->Prop)(N:Nat)(step:∀k r S,I k r S->W (c r S) fun p=>if p.1=true then k<N/\W (b r p.2) fun q=>(q.1 = .nx/\I (k+1) q.2.1 q.2.2) \/ ∃d,q.1 = .rt d/\Q q else Q (.nx,r,p.2)):
  ∀(a k:Nat) (r:Ev) (S:Sto),N-k<a->I k r S->W (qS c b a r S) Q
 |0,k,r,S,hf,_=>by lia
 |a+1,k,r,S,hf,hi=>by
  rw[qS];dsimp only;rw[d4];obtain⟨⟨t,u⟩,e,h⟩:=step k r S hi;refine⟨_,e,?_⟩;dsimp only at h ⊢;cases t with
  |true=>
   rw[if_pos rfl]at h ⊢;obtain⟨s,⟨f,o,n⟩,l,j⟩:=h;rw[l,oS1];rcases j with⟨g,i⟩|⟨d,g,m⟩
   ·dsimp only at g i;subst g;exact x5 I N step a (k+1) o n (by lia) i
   ·dsimp only at g;subst g;exact eB.mpr m
  |false=>
   rw[if_neg (by decide)]at h ⊢;exact eB.mpr h
theorem Hd{k l:Ky}{e:E4}{S:Sto}(hk:k.Ok)(a:l.Ok):oS (k.sg e) (l.sg e) S=some (.bl (decide (i6 e.bs k.xs=i6 e.bs l.xs)),S):=by
 show(gr S (58+1+1) (k.sg e) (l.sg e)).map _=_;rw[Ky.sg_zip,Ky.sg_zip,He,qw rfl rfl hk.all a.all];rfl
theorem Dh.nd{e:E4}:∀{L:List Rw},Dh e L->(L.map fun p=>p.1.code e).Nodup:=fun h=>
 dj.mpr (List.Pairwise.imp (fun z=>nN1 z) h)
def uF(k:Ky):D:=.tup [.int k.m,.str "leave",.non]
def kC(e:E4)(L:List Rw)(k:Ky):D:=((L.find? fun p=>decide (p.1.code e=k.code e)).map (·.2)).getD (uF k)
theorem Av{e:E4}{L:List Rw}{k:Ky}{E:D}{S:Sto}{Q:D×Sto->Prop}(l:Dh e L)(ok:∀ p∈L,nJ p)(H:L.length<=4000)(hk:k.Ok)(I:E.und 0=true)(q:Q (kC e L k,S)):W (dX 3 f0 [.tup [E,.tup (L.map (fF e))],.int k.m,k.sg e] S) Q:=by
 refine lQ rfl (by
  have C:=jW (e:=e) ok 0;have r2:=k.sgu e 0;rw[D.und]at C;simp[D.unds,D.und,I,C,r2]) ?_
 unfold f0;refine nr ?_;unfold py;generalize F:D.tup [E,.tup (L.map (fF e))]=M;refine eF (fun r S=>S=[]/\r=[some M,some (.int k.m),some (k.sg e),some (.tup (L.map (fF e))),none]) ?_ ?_
 ·subst F;have K:dW (.tup [E,.tup (L.map (fF e))]) (.int 1) []=some (.tup (L.map (fF e)),[]):=rfl
  ((try walk_at"w");repeat(simp only[K];try walk_at"w"))
 rintro r O ⟨rfl,rfl⟩;refine eF (fun r S=>∃a:Nat,S=[]/\a<=L.length/\(∀i p,L[i]?=some p->i<a->p.1.m<k.m)/\(∀i p,L[i]?=some p->a<=i->k.m<=p.1.m)/\r=[some M,some (.int k.m),some (k.sg e),some (.tup (L.map (fF e))),some (.int (a:Nat))]) ?_ ?_
 ·walk_at"w";refine Cq l ok H fun a h1 h2 u=>?_;exact⟨a,rfl,h1,h2,u,rfl⟩
 rintro r O ⟨a,rfl,h1,h2,u,rfl⟩;have hnd:=l.nd;have d:(∀(i:Nat) (p:Rw),L[i]?=some p->p.1.code e≠k.code e)->kC e L k=uF k:=fun h=>by
  unfold kC;rw[List.find?_eq_none.mpr fun p c=>?_]
  ·rfl
  ·obtain⟨i,hi⟩:=br c;rw[decide_eq_true_eq];exact h i p hi
 have o:∀p,p∈L->p.1.m≠k.m->p.1.code e≠k.code e:=fun p c s z=>by
  have:=(Hg (A:=p.1.m) (B:=k.m) (gn (ok p c).1 e) (gn hk e)).1.mp z;exact s this.1
 unfold d8;refine d4.mpr ?_;refine x5 (fun j r S=>S=[]/\a+j<=L.length/\(∀i p,L[i]?=some p->i<a+j->p.1.code e≠k.code e)/\r=[some M,some (.int k.m),some (k.sg e),some (.tup (L.map (fF e))),some (.int ((a+j:Nat):Int))]) L.length ?_ 100000 0 _ _ (by lia) ⟨rfl,by lia,fun i p c hi=>o p (gM1 c) (by have:=h2 i p c (by lia);lia),rfl⟩;rintro j r S ⟨rfl,P,y,rfl⟩;unfold lE;by_cases v:a+j<L.length
 ·obtain⟨p,c⟩:∃p,L[a+j]?=some p:=⟨_,gG1 v⟩;have m:=gM1 c
  ((try walk_at"w");repeat(simp only[EV,IK c,IL,Jq,lM1];try walk_at"w"))
  rw[if_pos (by rw[decide_eq_true_eq];lia)];by_cases G:p.1.m=k.m
  ·rw[if_pos (by rw[beq_iff_eq];lia)];refine⟨by lia,?_⟩;unfold lD
   ((try walk_at"w");repeat(simp only[IK c,IL,J9,Ka,Hd (ok p m).1 hk];try walk_at"w"))
   have g:p.1.code e=k.code e↔i6 e.bs p.1.xs=i6 e.bs k.xs:=by unfold Ky.code;rw[G];lia
   by_cases hc:i6 e.bs p.1.xs=i6 e.bs k.xs
   ·rw[if_pos (decide_eq_true hc)];right;have N:(L.find? fun p=>decide (p.1.code e=k.code e))=some p:=(ij (f:=fun p:Rw=>p.1.code e) hnd).mpr ⟨m,g.mpr hc⟩;have J:kC e L k=p.2:=by unfold kC;rw[N];rfl
    rw[J]at q;exact⟨_,rfl,(ok p m).2.und,q⟩
   ·rw[if_neg (by rw[decide_eq_true_eq];exact hc)];refine W.of (x:=(.nx,[some M,some (.int k.m),some (k.sg e),some (.tup (L.map (fF e))),some (.int (((a+j:Nat):Int)+1))],[])) rfl ?_;left;refine⟨rfl,rfl,by lia,fun i n b hi=>?_,by push_cast;rfl⟩;by_cases w:i=a+j
    ·subst w;rw[c]at b;cases b;exact fun z=>hc (g.mp z)
    ·exact y i n b (by lia)
  ·rw [if_neg (by rw [beq_iff_eq];lia)];have t:kC e L k=uF k:=d fun i n b=>by
    by_cases hi:i<a+j
    ·exact y i n b hi
    ·have b1:=u (a+j) p c (by lia);have b2:=(l.le ok c b (by lia)).1;exact o n (gM1 b) (by lia)
   rw[t]at q;exact⟨rfl,q⟩
 ·((try walk_at"w");repeat(simp only[EV,lM1];try walk_at"w"))
  rw[if_neg (by rw[decide_eq_true_eq];lia)];have t:kC e L k=uF k:=d fun i n b=>by
   have:=(gE1.mp b).1;exact y i n b (by lia)
  rw[t]at q;exact⟨rfl,q⟩
def dm:D->Nat
 | .tup [.int m,_,_]=>m.toNat
 |_=>0
def dh:D->Str
 | .tup [_,.str h,_]=>h
 |_=>""
def dt:D->Option Nat
 | .tup [_,_,.int t]=>some t.toNat
 |_=>none
def tD:Option Nat->D
 |none=>.non
 |some t=>.int (t:Nat)
theorem ge.eta{x:D}(h:ge x):x = .tup [.int (dm x:Nat),.str (dh x),tD (dt x)]/\dm x<4000:=by
 obtain⟨m,y,t,rfl,a,h1,h2⟩:=h.is;simp only[nj,aF,bN,or_false]at h1;simp only[ln,aF,bN,or_false]at h2;rcases h1 with e|e|e<;>subst e<;>rcases h2 with e|e|e|e|e<;>subst e<;>exact⟨rfl,a⟩
def eL(w:ew)(u:Wk)(x:D):Wk:=match dt x with
 |some t=>match (w[u.1]?).bind (·[t]?)with
  |some p=>(p.1,p.2+1,dm x)
  |none=>(u.1,u.2.1,dm x)
 |none=>(u.1,u.2.1,dm x)
theorem zN{t:Nat}{S:Sto}:Ck (.int (t:Nat)) .non S=some (.bl false,S):=rfl
theorem Fa{S:Sto}:Ck .non .non S=some (.bl true,S):=rfl
theorem wC{w:ew}{u:Wk}{row:List (Nat×Nat)}{x:D}{S:Sto}{Q:D×Sto->Prop}(hr:w[u.1]?=some row)(hx:ge x)(q:Q (ff (eL w u x),S)):W (dX 3 ig [webD w,ff u,x] S) Q:=by
 refine lQ rfl (by simp[D.unds,fL,hx.und];rfl) ?_;unfold ig;refine nr ?_;unfold pu;have ex:=hx.eta.1;unfold eL at q;simp only[hr,oS1]at q;generalize n:dm x=m at *
 generalize l:dh x=h at *
 generalize o:dt x=t at *
 refine eF (fun r V=>V=[]/\r=[some (webD w),some (ff u),some x,some (.int u.1),some (.int u.2.1),some (.int u.2.2),none,none,none,none,none]) ?_ ?_
 ·generalize k:ff u=U;have c:U = .tup [.int u.1,.int u.2.1,.int u.2.2]:=k.symm;subst c;walk_at"w"
 rintro r V ⟨rfl,rfl⟩;refine eF (fun r V=>V=[]/\r=[some (webD w),some (ff u),some x,some (.int u.1),some (.int u.2.1),some (.int u.2.2),some (.int (m:Nat)),some (.str h),some (tD t),none,none]) ?_ ?_
 ·subst ex;walk_at"w"
 rintro r V ⟨rfl,rfl⟩;cases t with
 |none=>
  have d:tD none = .non:=rfl;rw[d]
  ((try walk_at"w");repeat(simp only[Fa];try walk_at"w"))
  exact⟨rfl,q⟩
 |some t=>
  have d:tD (some t) = .int (t:Nat):=rfl;rw[d];have b:∀a,dW (webD w) (.int (u.1:Nat)) a=some (.tup (row.map pD),a):=fun a=>by
   obtain⟨p,e,h⟩:W (dW (webD w) (.int (u.1:Nat)) a) fun p=>p=(.tup (row.map pD),a):=wm hr rfl;rw[e,h]
  dsimp only at q;by_cases j:t<row.length
  ·have f:=gG1 j;rw[f]at q;refine eF (fun r V=>V=[]/\r=[some (webD w),some (ff u),some x,some (.int u.1),some (.int u.2.1),some (.int u.2.2),some (.int (m:Nat)),some (.str h),some (.int (t:Nat)),none,none]) ?_ ?_
   ·((try walk_at"w");repeat(simp only[zN,b,gC,lM1];try walk_at"w"))
    rw[if_neg (by rw[decide_eq_true_eq];lia)];trivial
   rintro r V ⟨rfl,rfl⟩;have i:∀a,dW (.tup (row.map pD)) (.int (t:Nat)) a=some (pD row[t],a):=fun a=>by
    obtain⟨p,e,h⟩:W (dW (.tup (row.map pD)) (.int (t:Nat)) a) fun p=>p=(pD row[t],a):=gy (by rw[gP1,f];rfl) rfl;rw[e,h]
   generalize row[t]=p at *
   refine eF (fun r V=>V=[]/\r=[some (webD w),some (ff u),some x,some (.int u.1),some (.int u.2.1),some (.int u.2.2),some (.int (m:Nat)),some (.str h),some (.int (t:Nat)),some (.int p.1),some (.int p.2)]) ?_ ?_
   ·((try walk_at"w");repeat(simp only[b,i,pD];try walk_at"w"))
   rintro r V ⟨rfl,rfl⟩;walk_at"w";have g:(1:Int)+(p.2:Int)=((p.2+1:Nat):Int):=by lia
   rw[g];exact⟨rfl,q⟩
  ·rw[b6 (by lia)]at q
   ((try walk_at"w");repeat(simp only[zN,b,gC,lM1];try walk_at"w"))
   rw[if_pos (by rw[decide_eq_true_eq];lia)];exact⟨rfl,q⟩
theorem wM{S:Sto}{x n:Nat}{cs:List Nat}(h:S[n]?=some (.lst (eP cs))):fG (.int x) (.ref n) S=some (.bl (!cs.contains x),S):=by
 simp only[fG,iB,lc,h,d5,oS1,eO,show(60:Nat)=59+1 from rfl,uw,oP1]
theorem vG{x:D}(h:ge x)(S:Sto):dW x (.int 1) S=some (.str (dh x),S):=by
 have e:=h.eta.1;generalize dm x=a at e;generalize dt x=c at e;generalize dh x=b at *
 subst e;rfl
theorem vF{u:Wk}{S:Sto}:dW (ff u) (.int 0) S=some (.int u.1,S):=rfl
theorem qk{u:Wk}{S:Sto}:dW (ff u) (.int 2) S=some (.int u.2.2,S):=rfl
def gP(ws:List Wk)(dd:Wk->D)(h:Str)(r:Nat):Bool:=ws.any fun u=>u.1 == r&&dh (dd u) == h
def ej(m:Nat)(ws:List Wk)(dd:Wk->D)(cs:List Nat):List Nat:=(List.range m).filter fun r=>gP ws dd "mark" r||(cs.contains r && !gP ws dd "wipe" r)
theorem Er(a b:List Nat):eP a++eP b=eP (a++b):=by simp[eP]
def nL(ws:List Wk)(dd:Wk->D)(h:Str):List Nat:=(ws.filter fun u=>dh (dd u) == h).map (·.1)
theorem wh{ws:List Wk}{dd:Wk->D}{h:Str}{r:Nat}:r∈nL ws dd h↔gP ws dd h r=true:=by
 unfold nL gP;rw[ci,bT];constructor
 ·rintro⟨u,a,rfl⟩;obtain⟨h1,h2⟩:=aA.mp a;exact⟨u,h1,by simp[h2]⟩
 ·rintro⟨u,a,e⟩;rw[bA1,beq_iff_eq]at e;exact⟨u,aA.mpr ⟨a,e.2⟩,e.1⟩
theorem zW{h:Str}{ws:List Wk}{dd:Wk->D}{n:Nat}{S:Sto}{Q:D×Sto->Prop}{m:FA}{r:Ev}(hd:∀ u∈ws,ge (dd u))(c:ws.length<=8)(a:S[n]? = some (.lst (ws.map dd)))(hm:m r S=some ([.tup (eA ws),.ref n],S))(hr:nS 2 [] r=[none,none])(q:Q (.ref S.length,S++[.lst (eP (nL ws dd h))])):W (e0 2 [] (AR m) (gT 2 (gCs (gN 0) (gCs (gN 1) gNl))) (mB (m2 (b2 oS) (m2 (b2 dW) (mV 1) (mC (D.int (1)))) (mC (D.str h)))) (eI (m2 (b2 dW) (mV 0) (mC (D.int (0))))) r S) Q:=by
 rw[kP];refine qL hm a ?_;dsimp only;rw[hr,eA,mq];refine hA (fun u:Wk=>dh (dd u) == h) (fun u:Wk=>D.int u.1) (fun r=>∃x y,r=[x,y]) (gY a) ws _ ⟨_,_,rfl⟩ ?_ fun d _=>?_
 ·rintro u b r ⟨x,y,rfl⟩
  ((try walk_at"w");repeat(simp only[vG (hd u b)];try walk_at"w"))
  refine⟨⟨_,_,rfl⟩,fun _=>?_⟩
  ((try walk_at"w");repeat(simp only[vF];try walk_at"w"))
 ·have e:(ws.filter fun u:Wk=>dh (dd u) == h).map (fun u:Wk=>D.int (u.1:Nat))=eP (nL ws dd h):=by unfold eP nL;rw[bv];rfl
  rw[e];have f:=dq (fun u:Wk=>dh (dd u) == h) ws;refine⟨d9 ?_,q⟩;dsimp only;rw[jB];unfold nL;rw[lM1];lia
theorem xb{m:Nat}{ws:List Wk}{cs:List Nat}{dd:Wk->D}{n:Nat}{S:Sto}{Q:D×Sto->Prop}(hd:∀ u∈ws,ge (dd u))(v:ws.length<=8)(hc:cs.length<=8)(hw:∀ u∈ws,u.1<m)(k:∀ r∈cs,r<m)(j:S[n]? = some (.lst (ws.map dd)))(l:S.all (Ob.und S.length)=true)(q:Q (.tup (eP (ej m ws dd cs)),S)):W (dX 2 ii [dZ ws cs,.ref n] S) Q:=by
 refine lP rfl (by simp[D.unds,D.und]) ?_;unfold ii;refine nr ?_;unfold px;have E:=(gE1.mp j).1;refine eF (fun r V=>V=S/\r=[some (dZ ws cs),some (.ref n),some (.tup (eA ws)),some (.tup (eP cs)),none,none,none]) ?_ ?_
 ·generalize z:dZ ws cs=M;have o:M = .tup [.tup (eA ws),.tup (eP cs)]:=z.symm;subst o;walk_at"w"
 rintro r V ⟨B,rfl⟩;subst B;refine eF (fun r g=>g=V++[.lst (eP (nL ws dd "mark"))]/\r=[some (dZ ws cs),some (.ref n),some (.tup (eA ws)),some (.tup (eP cs)),some (.ref V.length),none,none]) ?_ ?_
 ·unfold eh;refine d4.mpr (zW hd v j rfl rfl ?_);walk_at"w"
 rintro r b ⟨c,rfl⟩;have F:b[n]?=some (.lst (ws.map dd)):=by rw[c,gL1 E];exact j
 have t:b[V.length]?=some (.lst (eP (nL ws dd "mark"))):=by rw[c,ee];rfl
 refine eF (fun r g=>g=b++[.lst (eP (nL ws dd "wipe"))]/\r=[some (dZ ws cs),some (.ref n),some (.tup (eA ws)),some (.tup (eP cs)),some (.ref V.length),some (.ref b.length),none]) ?_ ?_
 ·unfold eh;refine d4.mpr (zW hd v F rfl rfl ?_);walk_at"w"
 rintro r i ⟨a,rfl⟩;have p:i[V.length]?=some (.lst (eP (nL ws dd "mark"))):=by rw[a,gL1 (gE1.mp t).1];exact t
 have C:i[b.length]?=some (.lst (eP (nL ws dd "wipe"))):=by rw[a,ee];rfl
 refine eF (fun r g=>g=i++[.lst (eP (cs.filter fun r=> !(nL ws dd "wipe").contains r))]/\r=[some (dZ ws cs),some (.ref n),some (.tup (eA ws)),some (.tup (eP cs)),some (.ref V.length),some (.ref b.length),some (.ref i.length)]) ?_ ?_
 ·walk_at"w";rw[iO];refine hA (f:=fun r:Nat=>D.int r) (fun r:Nat=> !(nL ws dd "wipe").contains r) (fun r:Nat=>D.int r) (fun r=>∃x,r=[x,some (.ref b.length)]) rfl cs _ ⟨_,rfl⟩ ?_ fun I _=>?_
  ·rintro u w r ⟨x,rfl⟩
   ((try walk_at"w");repeat(simp only[wM C];try walk_at"w"))
   exact⟨⟨_,rfl⟩,fun _=>trivial⟩
  ·walk_at"w";have H:=dq (fun r:Nat=> !(nL ws dd "wipe").contains r) cs;exact⟨d9 (by rw[lM1];lia),rfl,trivial⟩
 rintro r s ⟨d,rfl⟩;have A:s[V.length]?=some (.lst (eP (nL ws dd "mark"))):=by rw[d,gL1 (gE1.mp p).1];exact p
 have y:s[i.length]?=some (.lst (eP (cs.filter fun r=> !(nL ws dd "wipe").contains r))):=by rw[d,ee];rfl
 have H:=dq (fun r:Nat=> !(nL ws dd "wipe").contains r) cs;have J:(nL ws dd "mark").length<=ws.length:=by unfold nL;rw[lM1];exact dq _ _
 walk_at"w";refine(AJ y A).mpr ⟨d9 (by rw[jB,jB];lia),?_⟩;rw[Er];refine xF (xs:=cs.filter (fun r=> !(nL ws dd "wipe").contains r)++nL ws dd "mark") (m:=m) (f:=fun r=>gP ws dd "mark" r||(cs.contains r && !gP ws dd "wipe" r)) (by rw[ee];rfl) (fun r=>?_) (by rw[lA1];lia) ?_
 ·have G:(nL ws dd "wipe").contains r=gP ws dd "wipe" r:=by
   rw[bS,cR,wh]
  rw[aG,aA,wh,G];constructor
  ·rintro(⟨h1,h2⟩|h1)
   ·exact⟨k r h1,by rw[cR.mpr h1,h2];simp⟩
   ·refine⟨?_,by rw[h1];rfl⟩;unfold gP at h1;obtain⟨u,w,e⟩:=bT.mp h1;rw[bA1,beq_iff_eq]at e;rw[<- e.1];exact hw u w
  ·rintro⟨_,h⟩;rw[bQ,bA1]at h;rcases h with h|⟨h1,h2⟩
   ·exact .inr h
   ·exact .inl ⟨cR.mp h1,h2⟩
 ·walk_at"w";refine eG (xs:=eP (ej m ws dd cs)) (by rw[g0];rfl) ?_;rw[qr (by rw[D.und];exact qf _) l (by rw[d,a,c];simp only[bI];exact bw _ _)];exact q
theorem BM{m:Nat}{w:ew}{ws:List Wk}{cs:List Nat}{dd:Wk->D}{n:Nat}{S:Sto}{Q:D×Sto->Prop}(i:w.length=m)(hd:∀ u∈ws,ge (dd u))(t:ws.length<=8)(hc:cs.length<=8)(hw:∀ u∈ws,u.1<m)(g:∀ r∈cs,r<m)(d:S[n]? = some (.lst (ws.map dd)))(b:S.all (Ob.und S.length)=true)(q:Q (dZ (ws.map fun u=>eL w u (dd u)) (ej m ws dd cs),S)):W (dX 3 kg [webD w,dZ ws cs,.ref n] S) Q:=by
 refine lP rfl (by simp[D.unds,D.und]) ?_;unfold kg;refine nr ?_;unfold we;have A:=(gE1.mp d).1;refine eF (fun r V=>V=S/\r=[some (webD w),some (dZ ws cs),some (.ref n),some (.tup (eA ws)),some (.tup (eP cs)),none]) ?_ ?_
 ·generalize l:dZ ws cs=M;have h:M = .tup [.tup (eA ws),.tup (eP cs)]:=l.symm;subst h;walk_at"w"
 rintro r V ⟨s,rfl⟩;subst s;refine eF (fun r B=>B=V++[.lst (eA (ws.map fun u=>eL w u (dd u)))]/\r=[some (webD w),some (dZ ws cs),some (.ref n),some (.tup (eA ws)),some (.tup (eP cs)),some (.ref V.length)]) ?_ ?_
 ·unfold eh;refine d4.mpr ?_;rw[kP];refine qL (xs:=eA ws) (ys:=ws.map dd) (n:=n) rfl d ?_;dsimp only;rw[eA,mq];refine r6 (fun u:Wk=>ff (eL w u (dd u))) (fun r=>∃x y,r=[x,y,some (webD w)]) (gY d) ws _ ⟨_,_,rfl⟩ ?_ fun E _=>?_
  ·rintro u j r ⟨x,y,rfl⟩;obtain⟨row,c⟩:∃row,w[u.1]?=some row:=⟨_,gG1 (by rw[i];exact hw u j)⟩;walk_at"w";refine wC c (hd u j) ?_;exact⟨rfl,rfl,_,_,rfl⟩
  ·have e:ws.map (fun u:Wk=>ff (eL w u (dd u)))=eA (ws.map fun u=>eL w u (dd u)):=by unfold eA;rw[bv];rfl
   rw[e];refine⟨d9 (by dsimp only;rw[je,lM1];lia),?_⟩;walk_at"w"
 rintro r f ⟨a,rfl⟩;have C:f[n]?=some (.lst (ws.map dd)):=by rw[a,gL1 A];exact d
 have p:f[V.length]?=some (.lst (eA (ws.map fun u=>eL w u (dd u)))):=by rw[a,ee];rfl
 have k:f.all (Ob.und f.length)=true:=by
  rw[a,dz,bA1,lA1];rw[bD]at b;refine⟨bD.mpr fun o v=>gJ (bt _ _) (b o v),?_⟩;rw[bR,Ob.und,hL (jM _)];rfl
 walk_at"w";refine eG p ?_;refine xb hd t hc hw g C k ?_;walk_at"w";have z:D.tup [.tup (eA (ws.map fun u=>eL w u (dd u))),.tup (eP (ej m ws dd cs))]=dZ (ws.map fun u=>eL w u (dd u)) (ej m ws dd cs):=rfl;rw[z,qr fR b (by rw[a];exact bw _ _)];exact q
def eyD(e:E4):D:=.tup (fv e.1 e.2.1 e.2.2.1 e.2.2.2)
theorem kA(e:E4):(eyD e).und 0=true:=by unfold eyD;rw[D.und];exact kx _ _ _ _
def mcD(e:E4)(L:List Rw):D:=.tup [eyD e,.tup (L.map (fF e))]
theorem mi{e:E4}{L:List Rw}(ok:∀p∈L,nJ p):(mcD e L).und 0=true:=by
 have h1:=kA e;have h2:=jW (e:=e) ok 0;unfold mcD;rw[D.und,D.unds,D.unds,h1,h2];rfl
theorem Ao{e:E4}{L:List Rw}{k:Ky}(ok:∀p∈L,nJ p)(hk:k.Ok):ge (kC e L k):=by
 unfold kC;cases h:L.find? fun p=>decide (p.1.code e=k.code e)with
 |none=>exact⟨k.m,_,_,rfl,hk.m,by simp[nj],by simp[ln]⟩
 |some p=>exact(ok p (List.mem_of_find?_eq_some h)).2
def ky(w:ew)(ws:List Wk)(cs:List Nat)(u:Wk):Ky:=⟨u.2.2,u.2.1,if cs.contains u.1 then 1 else 0,((w[u.1]?).getD []).length,if 1<crowd ws u.1 then 1 else 0⟩
theorem pS{w:ew}{ws:List Wk}{cs:List Nat}{u:Wk}{row:List (Nat×Nat)}{e:E4}(h:w[u.1]?=some row):u6 e.1 e.2.1 e.2.2.1 e.2.2.2 ws cs u row=(ky w ws cs u).sg e:=by
 have a:∀b:Bool,((if b=true then 1 else 0:Nat):Int)=if b=true then(1:Int)else 0:=fun b=>by cases b<;>rfl
 have c:((if 1<crowd ws u.1 then 1 else 0:Nat):Int)=if 1<crowd ws u.1 then(1:Int)else 0:=by split<;>rfl
 unfold u6 t8 Ky.sg Jg ky pt;rw[h];dsimp only;rw[a,c];rfl
structure ja (m:Nat)(w:ew)(ws:List Wk)(cs:List Nat):Prop where
 web:nI m w
 m8:m<=8
 few:ws.length<=8
 cl:cs.length<=8
 wk:∀u∈ws,∃row,w[u.1]?=some row/\u.2.1<=row.length/\u.2.2<4000
 ch:∀r∈cs,r<m
theorem ja.lt{m:Nat}{w:ew}{ws:List Wk}{cs:List Nat}(h:ja m w ws cs):∀u∈ws,u.1<m:=fun u b=>by
 obtain⟨a,e,_⟩:=h.wk u b;have:=(gE1.mp e).1;rw[h.web.len]at this;exact this
theorem ja.ky{m:Nat}{w:ew}{ws:List Wk}{cs:List Nat}(h:ja m w ws cs):∀u∈ws,(ky w ws cs u).Ok:=fun u b=>by
 obtain⟨a,e,h1,h2⟩:=h.wk u b;have c:=h.web.le a (gM1 e);refine⟨h2,?_,?_,?_,?_⟩
 ·show u.2.1<=4;lia
 ·show(if cs.contains u.1 then 1 else 0)<=4;split<;>lia
 ·show((w[u.1]?).getD []).length<=4;rw[e];exact c
 ·show(if 1<crowd ws u.1 then 1 else 0)<=4;split<;>lia
theorem A3{m:Nat}{w:ew}{ws:List Wk}{cs:List Nat}{e:E4}{S:Sto}{Q:D×Sto->Prop}(h:ja m w ws cs)(q:Q (.ref S.length,S++[.lst (ws.map fun u=>(ky w ws cs u).d e)])):W (dX 3 kf [webD w,eyD e,dZ ws cs] S) Q:=by
 refine Hl rfl (by simp[D.unds,fL,fR,kA]) ?_;unfold kf;refine nr ?_;unfold wd fu;rw[d4,kP];refine Hw (xs:=eA ws) rfl ?_;dsimp only;have g:=h.few;rw[eA,An];refine r6 (fun p:Wk×Nat=>(ky w ws cs p.1).d e) (fun r=>∃x y,r=[x,y,some (webD w),some (eyD e),some (dZ ws cs)]) rfl ws.zipIdx _ ⟨_,_,rfl⟩ ?_ fun i _=>?_
 ·rintro⟨u,k⟩ f r ⟨x,y,rfl⟩;have b:ws[k]?=some u:=wt f;obtain⟨c,a,_⟩:=h.wk u (gM1 b)
  ((try walk_at"w");repeat(simp only[qk];try walk_at"w"))
  refine Ba b a (by lia) ?_;walk_at"w";rw[pS a];exact⟨rfl,_,_,rfl⟩
 ·have d:(ws.zipIdx.map fun p:Wk×Nat=>(ky w ws cs p.1).d e)=ws.map fun u=>(ky w ws cs u).d e:=tI (fun u=>(ky w ws cs u).d e) ws;rw[d];refine⟨d9 (by dsimp only;rw[lM1];lia),?_⟩;walk_at"w";exact⟨_,rfl,Mi.eK fun u _=>Ky.und _ e 0,q⟩
def ddW(w:ew)(ws:List Wk)(cs:List Nat)(e:E4)(L:List Rw)(u:Wk):D:=kC e L (ky w ws cs u)
def pp(m:Nat)(w:ew)(ws:List Wk)(cs:List Nat)(e:E4)(L:List Rw):D:=dZ (ws.map fun u=>eL w u (ddW w ws cs e L u)) (ej m ws (ddW w ws cs e L) cs)
theorem Fp{m:Nat}{w:ew}{ws:List Wk}{cs:List Nat}{e:E4}{L:List Rw}{S:Sto}{Q:D×Sto->Prop}(h:ja m w ws cs)(b:Dh e L)(ok:∀p∈L,nJ p)(g:L.length<=4000)(q:Q (pp m w ws cs e L,S)):W (dX 3 m3 [webD w,mcD e L,dZ ws cs] S) Q:=by
 refine lQ rfl (by simp[D.unds,fL,fR,mi ok]) ?_;unfold m3
 refine nr ?_;unfold AD
 have i:=h.few;have c:∀u∈ws,ge (ddW w ws cs e L u):=fun u a=>Ao ok (h.ky u a);refine eF (fun r V=>V=[.lst (ws.map fun u=>(ky w ws cs u).d e)]/\r=[some (webD w),some (mcD e L),some (dZ ws cs),some (.ref 0)]) ?_ ?_
 ·have d:∀S,dW (mcD e L) (.int 0) S=some (eyD e,S):=fun S=>rfl
  ((try walk_at"w");repeat(simp only[d];try walk_at"w"))
  refine A3 h ?_;walk_at"w"
 rintro r V ⟨rfl,rfl⟩;unfold fu;rw[d4];have key:W (e0 2 [1] (iG (mV 3)) (gT 2 (gCs (gN 0) (gCs (gN 1) gNl))) gu (eI (mN (dX 3 f0) (dS (mV 2) (dS (mV 0) (dS (mV 1) dU))))) [some (webD w),some (mcD e L),some (dZ ws cs),some (.ref 0)] [.lst (ws.map fun u=>(ky w ws cs u).d e)]) fun p=>p=(.ref 1,[.lst (ws.map fun u=>(ky w ws cs u).d e),.lst (ws.map (ddW w ws cs e L))]):=by
  walk_at"w";refine eG (xs:=ws.map fun u=>(ky w ws cs u).d e) rfl ?_;refine r6 (ddW w ws cs e L) (fun r=>∃x y,r=[x,y,some (mcD e L)]) (gY rfl) ws _ ⟨_,_,rfl⟩ ?_ fun j _=>?_
  ·rintro u a r ⟨x,y,rfl⟩;unfold Ky.d;walk_at"w";refine Av b ok g (h.ky u a) (kA e) ?_;exact⟨rfl,rfl,_,_,rfl⟩
  ·refine⟨d9 (by dsimp only;rw[lM1];lia),?_⟩;walk_at"w"
 obtain⟨p,f,rfl⟩:=key;generalize e0 2 [1] (iG (mV 3)) (gT 2 (gCs (gN 0) (gCs (gN 1) gNl))) gu (eI (mN (dX 3 f0) (dS (mV 2) (dS (mV 0) (dS (mV 1) dU)))))=G at *
 ((try walk_at"w");repeat(simp only[f];try walk_at"w"))
 refine BM h.web.len c h.few h.cl h.lt h.ch (dd:=ddW w ws cs e L) rfl ?_ ?_
 ·rw[bR,bR,Ob.und,Ob.und,Mi.eK fun u _=>Ky.und _ e _,Mi.eK fun u a=>fr (c u a).und];rfl
 ·exact⟨fR,q⟩
theorem qp{S:Sto}{n:Nat}{x:Str}:∀a:List Str,AQ (gr S (n+1)) (.str x) (a.map D.str)=some (a.contains x)
 |[]=>rfl
 |c::a=>by
  have d:gr S (n+1) (.str c) (.str x)=some (c == x):=rfl;have b:(c == x)=(x == c):=by rw[bS,beq_iff_eq,beq_iff_eq];exact eq_comm
  rw[mP1,AQ,d,b,qp a,List.contains_cons];rfl
theorem Cc{S:Sto}{x:Str}{n:Nat}{cs:List Str}(h:S[n]?=some (.lst (cs.map D.str))):i0 (.str x) (.ref n) S=some (.bl (cs.contains x),S):=by
 simp only[i0,uB,FL,h,d5,oS1,eO,show(60:Nat)=59+1 from rfl,qp,oP1]
theorem uk{S:Sto}{x:Str}{n:Nat}{cs:List Str}(h:S[n]?=some (.lst (cs.map D.str))):fG (.str x) (.ref n) S=some (.bl (!cs.contains x),S):=by
 simp only[fG,iB,lc,h,d5,oS1,eO,show(60:Nat)=59+1 from rfl,qp,oP1]
def nT(ws:List Wk)(dd:Wk->D)(r:Nat):List Str:=(ws.filter fun u=>u.1 == r).map fun u=>dh (dd u)
theorem Ce{ws:List Wk}{dd:Wk->D}{r:Nat}{h:Str}:(nT ws dd r).contains h=gP ws dd h r:=by
 unfold nT gP;rw[bS,cR,ci,bT];constructor
 ·rintro⟨u,b,e⟩;obtain⟨h1,h2⟩:=aA.mp b;exact⟨u,h1,by rw[h2,e];simp⟩
 ·rintro⟨u,b,e⟩;rw[bA1,beq_iff_eq (a:=dh (dd u))]at e;exact⟨u,aA.mpr ⟨b,e.1⟩,e.2⟩
theorem pH{ws:List Wk}{cs:List Nat}{S:Sto}:dW (dZ ws cs) (.int 0) S=some (.tup (eA ws),S):=rfl
theorem Dk{ws:List Wk}{cs:List Nat}{S:Sto}:dW (dZ ws cs) (.int 1) S=some (.tup (eP cs),S):=rfl
theorem xt{m:Nat}{w:ew}{ws:List Wk}{cs:List Nat}{dd:Wk->D}{n:Nat}{S:Sto}{Q:D×Sto->Prop}(z:w.length=m)(hm:m<=8)(hd:∀ u∈ws,ge (dd u))(X:ws.length<=8)(C:S[n]? = some (.lst (ws.map dd)))(v:S.all (Ob.und S.length)=true)(q:Q (.tup (eP (ej m ws dd cs)),S)):W (dX 3 fD [webD w,dZ ws cs,.ref n] S) Q:=by
 refine lP rfl (by simp[D.unds,D.und]) ?_;unfold fD;refine nr ?_;unfold i9;have N:=(gE1.mp C).1;refine eF (fun r V=>V=S++[.lst (eP [])]/\r=[some (webD w),some (dZ ws cs),some (.ref n),some (.ref S.length),none,none]) ?_ ?_
 ·walk_at"w";exact⟨rfl,trivial⟩
 rintro r V ⟨M,rfl⟩;refine eF (fun r V=>∃G c a,V=S ++ .lst (eP (ej m ws dd cs))::G/\r=[some (webD w),some (dZ ws cs),some (.ref n),some (.ref S.length),c,a]) ?_ ?_
 ·((try walk_at"w");repeat(simp only[qj];try walk_at"w"))
  rw[kb,Int.toNat_natCast,z];refine⟨fW (by lia),?_⟩;refine fV (fun i r V=>∃G c a,i<=m/\V=S ++ .lst (eP (ej i ws dd cs))::G/\r=[some (webD w),some (dZ ws cs),some (.ref n),some (.ref S.length),c,a]) _ 0 _ _ ⟨[],_,_,by lia,M,rfl⟩ (fun _ _ _ _=>rfl) ?_ ?_
  ·rintro i d g r I ⟨G,c,a,hi,rfl,rfl⟩;have s:=(gE1.mp g).1;rw[lM1,dA]at s;rw[bP]at *
   have A:d = .int (i:Nat):=by
    rw[gP1,cN s]at g;exact(Option.some.inj g).symm
   subst A;walk_at"w";unfold ic;have J:(S++Ob.lst (eP (ej i ws dd cs))::G)[n]?=some (.lst (ws.map dd)):=by rw[gL1 N];exact C
   have K:(S++Ob.lst (eP (ej i ws dd cs))::G)[S.length]?=some (.lst (eP (ej i ws dd cs))):=by rw[ee];rfl
   refine eF (fun r V=>V=S ++ .lst (eP (ej i ws dd cs))::G++[.lst ((nT ws dd i).map D.str)]/\r=[some (webD w),some (dZ ws cs),some (.ref n),some (.ref S.length),some (.int (i:Nat)),some (.ref (S++Ob.lst (eP (ej i ws dd cs))::G).length)]) ?_ ?_
   ·unfold eh;rw[d4,kP];refine qL (xs:=eA ws) (ys:=ws.map dd) (n:=n) rfl J ?_;dsimp only;rw[eA,mq];refine hA (fun u:Wk=>u.1 == i) (fun u:Wk=>D.str (dh (dd u))) (fun r=>∃x y,r=[x,y,some (.int (i:Nat))]) (gY J) ws _ ⟨_,_,rfl⟩ ?_ fun T _=>?_
    ·rintro u O r ⟨x,y,rfl⟩
     ((try walk_at"w");repeat(simp only[vF];try walk_at"w"))
     refine⟨?_,⟨_,_,rfl⟩,fun _=>?_⟩
     ·rw[bS,beq_iff_eq,beq_iff_eq];lia
     ·((try walk_at"w");repeat(simp only[vG (hd u O)];try walk_at"w"))
    ·have e:(ws.filter fun u:Wk=>u.1 == i).map (fun u:Wk=>D.str (dh (dd u)))=(nT ws dd i).map D.str:=by unfold nT;rw[bv];rfl
     rw[e];have t:=dq (fun u:Wk=>u.1 == i) ws;refine⟨d9 (by dsimp only;unfold nT;rw[lM1,lM1];lia),?_⟩;walk_at"w"
   rintro r k ⟨j,rfl⟩;have B:k[(S++Ob.lst (eP (ej i ws dd cs))::G).length]?=some (.lst ((nT ws dd i).map D.str)):=by rw[j,ee];rfl
   have H:k[S.length]?=some (.lst (eP (ej i ws dd cs))):=by rw[j,gL1 (gE1.mp K).1];exact K
   have f:k=S++Ob.lst (eP (ej i ws dd cs))::(G++[Ob.lst ((nT ws dd i).map D.str)]):=by rw[j];simp
   have p:k.set S.length (.lst (eP (ej i ws dd cs)++[.int (i:Nat)]))=S++Ob.lst (eP (ej i ws dd cs++[i]))::(G++[Ob.lst ((nT ws dd i).map D.str)]):=by
    rw[f,c6 _ _ (nR1 _),cQ,c7];simp[eP]
   have F:∀b:Bool,(gP ws dd "mark" i||(cs.contains i && !gP ws dd "wipe" i))=b->ej (i+1) ws dd cs=if b=true then ej i ws dd cs++[i]else ej i ws dd cs:=fun b R=>by
    unfold ej;rw[List.range_succ,List.filter_append,di,R];cases b<;>simp
   have L:(ej i ws dd cs).length<=8:=by
    have:=dq (fun r=>gP ws dd "mark" r||(cs.contains r && !gP ws dd "wipe" r)) (List.range i);rw[dA]at this;exact aC this (by lia)
   generalize U:(S++Ob.lst (eP (ej i ws dd cs))::G).length=t at *
   have app:∀ Q':D×Sto->Prop,Q' (.non,S++Ob.lst (eP (ej i ws dd cs++[i]))::(G++[Ob.lst ((nT ws dd i).map D.str)])) ->
     W (oH (b2 jp) (mV 3) (dS (mV 4) dU) [some (webD w),some (dZ ws cs),some (.ref n),some (.ref S.length),some (.int (i:Nat)),some (.ref t)] k) Q':=fun Q' P=>by
    refine iF ?_;walk_at"w";refine⟨S.length,_,rfl,H,?_⟩;refine(lU H).mpr ⟨d9 (by rw[jB];lia),?_⟩;rw[p];exact P
   unfold hH;rw[d4]
   ((try walk_at"w");repeat(simp only[Cc B,uk B,Dk,zO,Ce];try walk_at"w"))
   have l:(gP ws dd "mark" i||(cs.contains i && !gP ws dd "wipe" i))=true->W (oH (b2 jp) (mV 3) (dS (mV 4) dU) [some (webD w),some (dZ ws cs),some (.ref n),some (.ref S.length),some (.int (i:Nat)),some (.ref t)] k) fun x=>∃G c a,i+1<=m/\x.2=S++Ob.lst (eP (ej (i+1) ws dd cs))::G/\[some (webD w),some (dZ ws cs),some (D.ref n),some (.ref S.length),some (.int (i:Nat)),some (.ref t)]=[some (webD w),some (dZ ws cs),some (.ref n),some (.ref S.length),c,a]:=fun h=>by
    have h2:=F true h;rw[if_pos rfl]at h2;exact app _ ⟨_,_,_,by lia,by rw[h2],rfl⟩
   have E:(gP ws dd "mark" i||(cs.contains i && !gP ws dd "wipe" i))=false -> ∃G c a,i+1<=m/\k=S++Ob.lst (eP (ej (i+1) ws dd cs))::G/\[some (webD w),some (dZ ws cs),some (D.ref n),some (.ref S.length),some (.int (i:Nat)),some (.ref t)]=[some (webD w),some (dZ ws cs),some (.ref n),some (.ref S.length),c,a]:=fun h=>by
    have h2:=F false h;rw[if_neg (by decide)]at h2;exact⟨_,_,_,by lia,by rw[h2];exact f,rfl⟩
   generalize gP ws dd "mark" i=b1 at *
   generalize cs.contains i=b2 at *
   generalize gP ws dd "wipe" i=b3 at *
   cases b1
   ·rw[if_neg (by decide)];cases b2
    ·rw[if_neg (by decide)];exact E rfl
    ·rw[if_pos rfl];cases b3
     ·rw[if_pos (by decide)];exact l rfl
     ·rw[if_neg (by decide)];exact E rfl
   ·rw[if_pos rfl];exact l rfl
  ·rintro r I ⟨G,c,a,hi,rfl,rfl⟩;rw[lM1,dA,bP];exact⟨rfl,_,_,_,rfl,rfl⟩
 rintro r I ⟨G,c,a,o,rfl⟩;walk_at"w";refine eG (xs:=eP (ej m ws dd cs)) (by rw[o,ee];rfl) ?_;rw[qr (by rw[D.und];exact qf _) v (by rw[o];exact bw _ _)];exact q
theorem Cu{F:List (TK×D)}{n:Nat}{S:Sto}(h:S[n]?=some (dO F)):xm S n=some F:=by
 unfold xm;rw[h];cases F<;>rfl
structure RL (e:E4)(F:List (TK×D))(L:List Rw):Prop where
 inc:Dh e L
 ok:∀p∈L,nJ p
 len:L.length<=4000
 lk:∀k:Ky,k.Ok->d2 F (k.tk e)=(L.find? fun p=>decide (p.1.code e=k.code e)).map (·.2)
theorem G4{e:E4}{F:List (TK×D)}{L:List Rw}{k:Ky}{n:Nat}{S:Sto}{a b c:FE}{r:Ev}{Q:D×Sto->Prop}(d:RL e F L)(hk:k.Ok)(ha:a r S=some (.ref n,S))(f:S[n]?=some (dO F))(hb:b r S=some (k.d e,S))(hc:c r S=some (uF k,S))(q:Q (kC e L k,S)):W (qh a b c r S) Q:=by
 refine W.of (x:=(kC e L k,S)) ?_ q;simp only[qh,ha,hb,hc,oS1,Cu f,k.keyT e];rw[oP1,d.lk k hk];rfl
theorem B1{m:Nat}{w:ew}{ws:List Wk}{cs:List Nat}{e:E4}{F:List (TK×D)}{L:List Rw}{n:Nat}{S:Sto}{Q:D×Sto->Prop}(h:ja m w ws cs)(rl:RL e F L)(hS:S[n]? = some (dO F))(J:S.all (Ob.und S.length)=true)(q:Q (pp m w ws cs e L,S)):
  W (dX 4 gl [webD w,eyD e,.ref n,dZ ws cs] S) Q:=by
 refine lP rfl (by simp[D.unds,D.und]) ?_;unfold gl
 refine nr ?_;unfold lT
 have hn:=(gE1.mp hS).1;have hf:=h.few;have hd:∀u∈ws,ge (ddW w ws cs e L u):=fun u A=>Ao rl.ok (h.ky u A);have sl:∀a b:Ob,(S++[a,b])[S.length]?=some a:=fun a b=>by rw[ee];rfl
 have G:∀a b:Ob,(S++[a,b])[S.length+1]?=some b:=fun a b=>by rw[g0];rfl
 have st:∀a b c:Ob,(S++[a,b]).set S.length c=S++[c,b]:=fun a b c=>by rw[c6 _ _ (nR1 _),cQ];rfl
 have Y:∀a b c:Ob,(S++[a,b]).set (S.length+1) c=S++[a,c]:=fun a b c=>by rw[c6 _ _ (by lia),show S.length+1-S.length=1 by lia];rfl
 have T:∀a b:Ob,(S++[a,b])[n]?=some (dO F):=fun a b=>by rw[gL1 hn];exact hS
 refine eF (fun r V=>V=S++[.lst [],.lst []]/\r=[some (webD w),some (eyD e),some (.ref n),some (dZ ws cs),some (.ref S.length),some (.ref (S.length+1)),none,none,none,none,none,none,none]) ?_ ?_
 ·walk_at"w"
 rintro r V ⟨rfl,rfl⟩;refine eF (fun r V=>∃j y,V=S++[.lst (ws.map (ddW w ws cs e L)),.lst []]/\r=[some (webD w),some (eyD e),some (.ref n),some (dZ ws cs),some (.ref S.length),some (.ref (S.length+1)),j,y,none,none,none,none,none]) ?_ ?_
 ·((try walk_at"w");repeat(simp only[pH,gC,je];try walk_at"w"))
  rw[kb,Int.toNat_natCast];refine⟨fW (by lia),?_⟩;refine fV (fun i r V=>∃j y,i<=ws.length/\V=S++[.lst ((ws.take i).map (ddW w ws cs e L)),.lst []]/\r=[some (webD w),some (eyD e),some (.ref n),some (dZ ws cs),some (.ref S.length),some (.ref (S.length+1)),j,y,none,none,none,none,none]) _ 0 _ _ ⟨_,_,by lia,rfl,rfl⟩ (fun _ _ _ _=>rfl) ?_ ?_
  ·rintro i d x r O ⟨j,y,hi,rfl,rfl⟩;have z:=(gE1.mp x).1;rw[lM1,dA]at z;rw[bP]at *
   have hd':d = .int (i:Nat):=by
    rw[gP1,cN z]at x;exact(Option.some.inj x).symm
   subst hd';walk_at"w";unfold jw;obtain⟨u,A⟩:∃u,ws[i]?=some u:=⟨_,gG1 z⟩;have B:=gM1 A;obtain⟨g,M,_⟩:=h.wk u B;have P:∀f,dW (.tup (eA ws)) (.int (i:Nat)) f=some (ff u,f):=fun f=>by
    obtain⟨p,e,h⟩:W (dW (.tup (eA ws)) (.int (i:Nat)) f) fun p=>p=(ff u,f):=gy (by rw[eA,gP1,A];rfl) rfl;rw[e,h]
   refine eF (fun r V=>V=S++[.lst ((ws.take i).map (ddW w ws cs e L)),.lst []]/\r=[some (webD w),some (eyD e),some (.ref n),some (dZ ws cs),some (.ref S.length),some (.ref (S.length+1)),some (.int (i:Nat)),some (.int u.2.2),none,none,none,none,none]) ?_ ?_
   ·((try walk_at"w");repeat(simp only[pH,P,qk];try walk_at"w"))
   rintro r O ⟨rfl,rfl⟩;unfold fi;rw[d4];refine iF ?_;walk_at"w";refine⟨S.length,_,rfl,sl _ _,?_⟩;have es:W (eQ (dS (mV 7) (dS (mN (dX 4 eX) (dS (mV 0) (dS (mV 1) (dS (mV 3) (dS (mV 6) dU))))) dU)) [some (webD w),some (eyD e),some (.ref n),some (dZ ws cs),some (.ref S.length),some (.ref (S.length+1)),some (.int (i:Nat)),some (.int u.2.2),none,none,none,none,none] (S++[.lst ((ws.take i).map (ddW w ws cs e L)),.lst []])) fun p=>p=((ky w ws cs u).d e,S++[.lst ((ws.take i).map (ddW w ws cs e L)),.lst []]):=by
    walk_at"w";refine se A M (by lia) ?_;walk_at"w";rw[pS M];rfl
   obtain⟨p,es,rfl⟩:=es;refine G4 (n:=n) (F:=F) (L:=L) (e:=e) (k:=ky w ws cs u) rl (h.ky u B) rfl (T _ _) es rfl ?_;walk_at"w";refine(lU (sl _ _)).mpr ⟨d9 (by rw[lM1,aQ];lia),?_⟩;refine⟨_,_,by lia,?_,rfl⟩;rw[st,cH,A,cG];rfl
  ·rintro r O ⟨j,y,hi,rfl,rfl⟩;rw[lM1,dA,bP,b4];exact⟨rfl,_,_,rfl,rfl⟩
 rintro r V ⟨j,y,rfl,rfl⟩;refine eF (fun r V=>∃j y E C s v l,V=S++[.lst (ws.map (ddW w ws cs e L)),.lst (eA (ws.map fun u=>eL w u (ddW w ws cs e L u)))]/\r=[some (webD w),some (eyD e),some (.ref n),some (dZ ws cs),some (.ref S.length),some (.ref (S.length+1)),j,y,E,C,s,v,l]) ?_ ?_
 ·unfold iT;rw[d4];refine qL (xs:=eA ws) (ys:=ws.map (ddW w ws cs e L)) (n:=S.length) rfl (sl _ _) ?_;dsimp only;have R:tH (eA ws) (ws.map (ddW w ws cs e L))=ws.map fun u=>D.tup [ff u,ddW w ws cs e L u]:=mq ws;rw[R];refine fV (fun i r V=>∃j y E C s v l,i<=ws.length/\V=S++[.lst (ws.map (ddW w ws cs e L)),.lst (eA ((ws.take i).map fun u=>eL w u (ddW w ws cs e L u)))]/\r=[some (webD w),some (eyD e),some (.ref n),some (dZ ws cs),some (.ref S.length),some (.ref (S.length+1)),j,y,E,C,s,v,l]) _ 0 _ _ ⟨_,_,_,_,_,_,_,by lia,rfl,rfl⟩ (fun _ _ V ⟨_,_,_,_,_,_,_,_,hv,_⟩=>by rw[hv];exact gY (sl _ _)) ?_ ?_
  ·rintro i d x r O ⟨j,y,E,C,s,v,l,hi,rfl,rfl⟩;have z:=(gE1.mp x).1;rw[lM1]at z;rw[bP]at *
   obtain ⟨u,A⟩:∃ u,ws[i]? = some u:=⟨_,gG1 z⟩;have B:=gM1 A;obtain ⟨g,M,_⟩:=h.wk u B;rw [gP1,A] at x;obtain rfl:d=D.tup [ff u,ddW w ws cs e L u]:=(Option.some.inj x).symm;have hx:=hd u B;have I:eL w u (ddW w ws cs e L u)=match dt (ddW w ws cs e L u) with
     |some t=>match g[t]? with
      |some p=>(p.1,p.2+1,dm (ddW w ws cs e L u))
      |none=>(u.1,u.2.1,dm (ddW w ws cs e L u))
     |none=>(u.1,u.2.1,dm (ddW w ws cs e L u)):=by
    unfold eL;rw[M];rfl
   have eT:(ws.take (i+1)).map (fun u=>eL w u (ddW w ws cs e L u))=(ws.take i).map (fun u=>eL w u (ddW w ws cs e L u))++[eL w u (ddW w ws cs e L u)]:=by
    rw[cH,A,cG];rfl
   have ex:=hx.eta.1;generalize hX:ddW w ws cs e L u=X at *
   generalize hm:dm X=dmx at *
   generalize hh:dh X=dhx at *
   generalize ht:dt X=dtx at *
   have P:ff u = .tup [.int u.1,.int u.2.1,.int u.2.2]:=rfl;rw[P,ex];walk_at"w";unfold jv;have K:∀f,dW (webD w) (.int (u.1:Nat)) f=some (.tup (g.map pD),f):=fun f=>by
    obtain⟨p,e,h⟩:W (dW (webD w) (.int (u.1:Nat)) f) fun p=>p=(.tup (g.map pD),f):=wm M rfl;rw[e,h]
   have lw:((ws.take i).map fun u=>eL w u (ddW w ws cs e L u)).length<=8:=by rw[lM1,aQ];lia
   have H:∀(a b:Nat) (j:Option D),eL w u X=(a,b,dmx)->W (fi (oH (b2 jp) (mV 5) (dS (eQ (dS (mV 8) (dS (mV 9) (dS (mV 10) dU)))) dU)) [some (webD w),some (eyD e),some (.ref n),some (dZ ws cs),some (.ref S.length),some (.ref (S.length+1)),j,some (.int u.2.2),some (.int (a:Nat)),some (.int (b:Nat)),some (.int (dmx:Nat)),some (.str dhx),some (tD dtx)] (S++[.lst (ws.map (ddW w ws cs e L)),.lst (eA ((ws.take i).map fun u=>eL w u (ddW w ws cs e L u)))])) fun q=>q.1 = .nx /\ ∃j y E C s v l,i+1<=ws.length/\q.2.2=S++[.lst (ws.map (ddW w ws cs e L)),.lst (eA ((ws.take (i+1)).map fun u=>eL w u (ddW w ws cs e L u)))]/\q.2.1=[some (webD w),some (eyD e),some (.ref n),some (dZ ws cs),some (.ref S.length),some (.ref (S.length+1)),j,y,E,C,s,v,l]:=by
    intro a b j U;unfold fi;rw[d4];refine iF ?_;walk_at"w";refine⟨S.length+1,_,rfl,G _ _,?_⟩;refine(lU (G _ _)).mpr ⟨d9 (by rw[je];lia),?_⟩;refine⟨_,_,_,_,_,_,_,by lia,?_,rfl⟩;rw[Y,eT,U];simp[eA,ff]
   cases dtx with
   |none=>
    dsimp only at I;refine eF (fun r V=>V=S++[.lst (ws.map (ddW w ws cs e L)),.lst (eA ((ws.take i).map fun u=>eL w u (ddW w ws cs e L u)))]/\r=[some (webD w),some (eyD e),some (.ref n),some (dZ ws cs),some (.ref S.length),some (.ref (S.length+1)),j,some (.int u.2.2),some (.int u.1),some (.int u.2.1),some (.int (dmx:Nat)),some (.str dhx),some (tD none)]) ?_ ?_
    ·have N:g9 (tD none) .non (S++[.lst (ws.map (ddW w ws cs e L)),.lst (eA ((ws.take i).map fun u=>eL w u (ddW w ws cs e L u)))])=some (.bl false,S++[.lst (ws.map (ddW w ws cs e L)),.lst (eA ((ws.take i).map fun u=>eL w u (ddW w ws cs e L u)))]):=rfl
     ((try walk_at"w");repeat(simp only[N];try walk_at"w"))
    rintro r V ⟨rfl,rfl⟩;exact H u.1 u.2.1 j I
   |some t=>
    dsimp only at I;have N:∀f,g9 (tD (some t)) .non f=some (.bl true,f):=fun f=>rfl;have el:∀f,xL (tD (some t)) (.int (g.length:Nat)) f=some (.bl (decide ((t:Int)<(g.length:Int))),f):=fun f=>rfl;by_cases hl:t<g.length
    ·have eg:=gG1 hl;rw [eg] at I;have Z:∀ f,dW (.tup (g.map pD)) (tD (some t)) f=some (pD g[t],f):=fun f=>by
      obtain⟨p,e,h⟩:W (dW (.tup (g.map pD)) (.int (t:Nat)) f) fun p=>p=(pD g[t],f):=gy (by rw[gP1,eg];rfl) rfl;show dW (.tup (g.map pD)) (.int (t:Nat)) f=_;rw[e,h]
     generalize g[t]=p at *
     refine eF (fun r V=>V=S++[.lst (ws.map (ddW w ws cs e L)),.lst (eA ((ws.take i).map fun u=>eL w u (ddW w ws cs e L u)))]/\r=[some (webD w),some (eyD e),some (.ref n),some (dZ ws cs),some (.ref S.length),some (.ref (S.length+1)),j,some (.int u.2.2),some (.int p.1),some (.int ((p.2+1:Nat):Int)),some (.int (dmx:Nat)),some (.str dhx),some (tD (some t))]) ?_ ?_
     ·have p0:∀f,dW (pD p) (.int 0) f=some (.int p.1,f):=fun f=>rfl;have p1:∀f,dW (pD p) (.int 1) f=some (.int p.2,f):=fun f=>rfl
      ((try walk_at"w");repeat(simp only[N,K,gC,lM1,el];try walk_at"w"))
      rw[if_pos (by rw[decide_eq_true_eq];lia)]
      ((try walk_at"w");repeat(simp only[K,Z,p0,p1];try walk_at"w"))
      rw[show(1:Int)+(p.2:Int)=((p.2+1:Nat):Int) by lia]
     rintro r V ⟨rfl,rfl⟩;exact H p.1 (p.2+1) j I
    ·rw[b6 (by lia)]at I;refine eF (fun r V=>V=S++[.lst (ws.map (ddW w ws cs e L)),.lst (eA ((ws.take i).map fun u=>eL w u (ddW w ws cs e L u)))]/\r=[some (webD w),some (eyD e),some (.ref n),some (dZ ws cs),some (.ref S.length),some (.ref (S.length+1)),j,some (.int u.2.2),some (.int u.1),some (.int u.2.1),some (.int (dmx:Nat)),some (.str dhx),some (tD (some t))]) ?_ ?_
     ·((try walk_at"w");repeat(simp only[N,K,gC,lM1,el];try walk_at"w"))
      rw[if_neg (by rw[decide_eq_true_eq];lia)];trivial
     rintro r V ⟨rfl,rfl⟩;exact H u.1 u.2.1 j I
  ·rintro r O ⟨j,y,E,C,s,v,l,hi,rfl,rfl⟩;rw[lM1,bP,b4];exact⟨rfl,_,_,_,_,_,_,_,rfl,rfl⟩
 rintro r V ⟨j,y,E,C,s,v,l,rfl,rfl⟩;walk_at"w";refine eG (G _ _) ?_;refine xt (dd:=ddW w ws cs e L) h.web.len h.m8 hd h.few (sl _ _) ?_ ?_
 ·rw[dz,bA1,lA1];rw[bD]at J;refine⟨bD.mpr fun o ho=>gJ (bt _ _) (J o ho),?_⟩;rw[bR,bR,Ob.und,Ob.und,hL (jM _),Mi.eK fun u A=>fr (hd u A).und];rfl
 walk_at"w";have Z:D.tup [.tup (eA (ws.map fun u=>eL w u (ddW w ws cs e L u))),.tup (eP (ej m ws (ddW w ws cs e L) cs))]=pp m w ws cs e L:=rfl;rw[Z,qr (d:=pp m w ws cs e L) fR J (bw _ _)];exact q
def pM:List D:=[.non,.int 0,.int 1,.int 2,.int 3,.int 0,.int 1]
def nh:List D:=[.str "leave",.str "leave",.str "mark",.str "wipe"]
theorem wB:∀x∈pM,x∈ln:=by
 intro x a;simp only[pM,aF,bN,or_false]at a;rcases a with e|e|e|e|e|e|e<;>subst e<;>simp[ln]
theorem xa:∀x∈nh,x∈nj:=by
 intro x a;simp only[nh,aF,bN,or_false]at a;rcases a with e|e|e|e<;>subst e<;>simp[nj]
theorem Fh{o:Ob}{n:Nat}{T:Sto}{Q:D×Sto->Prop}(ho:fY o n)(hn:n<=2^45)(h:T.all (Ob.und (T.length+1))=true)(q:∀x o',ge x->fY o' (n+5)->Q (x,o'::T)):W (dX 1 gk [.ref 0] (o::T)) Q:=by
 refine wa rfl rfl h ?_;unfold gk;refine nr ?_;unfold lS;refine eF (fun r S=>∃(t:D) (e:Ob),t∈ln/\fY e (n+1)/\S=e::T/\r=[some (.ref 0),some t]) ?_ ?_
 ·walk_at"w";refine fA ho (by lia) (by lia) (by lia) fun y b a j=>?_;refine gy (i:=y) (xs:=pM) (x:=pM[y]'(by show y<7;lia)) (gG1 _) ?_;exact⟨_,b,wB _ (bU _),a,rfl,rfl⟩
 rintro r S ⟨t,e,g,d,rfl,rfl⟩;walk_at"w";refine fA d (by lia) (by lia) (by lia) fun m k c p=>?_;walk_at"w";refine fA c (by lia) (by lia) (by lia) fun x b a l=>?_;refine gy (i:=x) (xs:=nh) (x:=nh[x]'(by show x<4;lia)) (gG1 _) ?_;walk_at"w";have f:ge (.tup [.int (m:Nat),nh[x]'(by show x<4;lia),t]):=⟨m,_,_,rfl,by lia,xa _ (bU _),g⟩;exact⟨_,b,[],by rw[aM],f.und,a.und,q _ b f (a.more (by lia))⟩
structure RN (e:E4)(F:List (TK×D)):Prop where
 row:∀p∈F,∃k:Ky,k.Ok/\p.1=k.tk e/\(ge p.2\/p.2 = .non)
 nd:(F.map (·.1)).Nodup
theorem RN.nil{e:E4}:RN e []:=⟨fun p a=>(by cases a),bq⟩
theorem RN.vu{e:E4}{F:List (TK×D)}(h:RN e F){p:TK×D}(hp:p∈F)(n:Nat):p.2.und n=true:=by
 obtain⟨_,_,_,a⟩:=h.row p hp;rcases a with a|a
 ·exact fr a.und
 ·rw[a];rfl
theorem RN.und{e:E4}{F:List (TK×D)}(h:RN e F)(n:Nat):(dO F).und n=true:=by
 have:D.unds n (F.map (·.2))=true:=Mi.eK fun p a=>h.vu a n;cases F with
 |nil=>rfl
 |cons _ _=>exact this
theorem RN.put{e:E4}{F:List (TK×D)}{k:Ky}{x:D}(h:RN e F)(hk:k.Ok)(hx:ge x\/x = .non):RN e (e6 F (k.tk e) x):=by
 unfold e6;split
 ·refine⟨fun p c=>?_,?_⟩
  ·obtain⟨g,d,rfl⟩:=ci.mp c;obtain⟨l,h1,h2,m⟩:=h.row g d;by_cases z:g.1=k.tk e
   ·rw[if_pos z];exact⟨l,h1,h2,hx⟩
   ·rw[if_neg z];exact⟨l,h1,h2,m⟩
  ·rw [bv];have:(F.map ((fun p:TK×D=>p.1)∘fun p=>if p.1=k.tk e then (p.1,x) else p))=F.map (·.1):=by
    apply dg;intro p _;simp only[Function.comp];split<;>rfl
   rw[this];exact h.nd
 ·rename_i i;refine⟨fun p c=>?_,?_⟩
  ·rcases aG.mp c with z|z
   ·exact h.row p z
   ·simp at z;subst z;exact⟨k,hk,rfl,hx⟩
  ·rw[cG,bB];refine⟨h.nd,by simp,fun a j b f z=>?_⟩;simp at f;subst f;subst z;obtain⟨p,c,n⟩:=ci.mp j;exact i (bT.mpr ⟨p,c,decide_eq_true n⟩)
theorem Ep{S:Sto}{n:Nat}{F:List (TK×D)}{d:D}{k:TK}(h:S[n]?=some (dO F))(hk:keyT d=some k):jj d (.ref n) S=some (.bl (!(d2 F k).isSome),S):=by
 cases F with
 |nil=>
  have h':S[n]?=some (.dct []):=h;simp only[jj,h',hk];rfl
 |cons p F=>
  have h':S[n]?=some (.dcT (p::F)):=h;simp only[jj,fG,h',hk,oP1]
theorem gc_same{n:Nat}{p:D×Sto}(h:p.2.length=n):gc n p=p:=by
 unfold gc;rw[<- h,b4];split<;>rfl
def Sub(F F':List (TK×D)):Prop:=∀k d,d2 F k=some d->d2 F' k=some d
theorem Sub.refl(F:List (TK×D)):Sub F F:=fun _ _ h=>h
theorem Sub.trans{F G J:List (TK×D)}(a:Sub F G)(b:Sub G J):Sub F J:=fun k d h=>b k d (a k d h)
theorem Sub.put{F a:List (TK×D)}{k:TK}{v:D}(s:Sub F a)(h:(d2 F k).isSome=false):Sub F (e6 a k v):=fun b d e=>by
 rw[sj];split
 ·rename_i z;subst z;rw[e]at h;cases h
 ·exact s b d e
theorem Bh{F:List (TK×D)}{k:TK}{a b:D}:e6 (e6 F k a) k b=e6 F k b:=by
 by_cases h:(F.any fun p=>decide (p.1=k))=true
 ·have h2:((F.map fun p=>if p.1=k then (p.1,a) else p).any fun p=>decide (p.1=k))=true:=by
   obtain⟨p,c,e⟩:=bT.mp h;have e:=of_decide_eq_true e;exact bT.mpr ⟨(p.1,a),ci.mpr ⟨p,c,by rw[if_pos e]⟩,decide_eq_true e⟩
  unfold e6;rw[if_pos h,if_pos h2,if_pos h,bv];apply dg;intro p _;simp only[Function.comp];by_cases z:p.1=k
  ·rw[if_pos z,if_pos z,if_pos z]
  ·rw[if_neg z,if_neg z]
 ·have h2:((F++[(k,a)]).any fun p=>decide (p.1=k))=true:=bT.mpr ⟨(k,a),mA1 _ (cY.mpr rfl),decide_eq_true rfl⟩;unfold e6;rw [if_neg h,if_neg h,if_pos h2,cG];have e:F.map (fun p=>if p.1=k then (p.1,b) else p)=F:=by
   conv=>rhs;rw[<- List.map_id F]
   apply dg;intro p c;rw[if_neg fun z=>h (bT.mpr ⟨p,c,decide_eq_true z⟩)];rfl
  rw[e];simp
theorem Cg{m:Nat}{w:ew}{ws:List Wk}{cs:List Nat}{e:E4}{F:List (TK×D)}{o:Ob}{n:Nat}{T:Sto}{Q:D×Sto->Prop}(h:ja m w ws cs)(R:RN e F)(hT:T.all (Ob.und 0)=true)(ho:fY o n)(hn:n<=2^40)(hl:F.length<=10000)(q:∀l o',RN e l->l.length<=F.length+ws.length->fY o' (n+100)->Sub F l->(∀u∈ws,(d2 l ((ky w ws cs u).tk e)).isSome=true)->Q (.non,o'::dO l::T)):
  W (dX 5 fU [.ref 0,webD w,eyD e,.ref 1,dZ ws cs] (o::dO F::T)) Q:=by
 refine lP rfl rfl ?_;unfold fU;refine nr ?_;unfold kK;have hf:=h.few;have V:∀F,RN e F->(dO F::T).all (Ob.und ((dO F::T).length+1))=true:=fun F R=>by
  rw[bR,R.und,Bool.true_and,bD];exact fun x O=>gJ (bi _) (bD.mp hT x O)
 ((try walk_at"w");repeat(simp only[pH,gC,je];try walk_at"w"))
 rw[kb,Int.toNat_natCast];refine⟨fW (by lia),?_⟩;refine fV (fun i r S=>∃l o' U X,i<=ws.length/\RN e l/\l.length<=F.length+i/\fY o' (n+10*i)/\Sub F l/\(∀j u,j<i->ws[j]?=some u->(d2 l ((ky w ws cs u).tk e)).isSome=true)/\S=o'::dO l::T/\r=[some (.ref 0),some (webD w),some (eyD e),some (.ref 1),some (dZ ws cs),U,X]) _ 0 _ _ ⟨F,o,_,_,by lia,R,by lia,ho,Sub.refl F,fun j u M _=>by lia,rfl,rfl⟩ (fun _ _ _ _=>rfl) ?_ ?_
 ·rintro i d C r S ⟨a,A,U,X,hi,f,H,y,b,s,rfl,rfl⟩;have E:=(gE1.mp C).1;rw[lM1,dA]at E;rw[bP]at *
  have hd':d = .int (i:Nat):=by
   rw[gP1,cN E]at C;exact(Option.some.inj C).symm
  subst hd';walk_at"w";unfold iR;obtain⟨u,G⟩:∃u,ws[i]?=some u:=⟨_,gG1 E⟩;have I:=gM1 G;obtain⟨row,er,_,hmd⟩:=h.wk u I;have hk:=h.ky u I;have eu:∀L,dW (.tup (eA ws)) (.int (i:Nat)) L=some (ff u,L):=fun L=>by
   obtain⟨p,e,h⟩:W (dW (.tup (eA ws)) (.int (i:Nat)) L) fun p=>p=(ff u,L):=gy (by rw[eA,gP1,G];rfl) rfl;rw[e,h]
  refine eF (fun r S=>S=A::dO a::T/\r=[some (.ref 0),some (webD w),some (eyD e),some (.ref 1),some (dZ ws cs),some (.int (i:Nat)),some ((ky w ws cs u).d e)]) ?_ ?_
  ·((try walk_at"w");repeat(simp only[pH,eu,qk];try walk_at"w"))
   refine se G er (by lia) ?_;rw[pS er];walk_at"w";rfl
  rintro r S ⟨rfl,rfl⟩;have Z:∀(N:List (TK×D)),(∀k d,d2 a k=some d->d2 N k=some d)->(d2 N ((ky w ws cs u).tk e)).isSome=true -> ∀j v,j<i+1->ws[j]?=some v->(d2 N ((ky w ws cs v).tk e)).isSome=true:=fun N h1 h2 j v M Y=>by
   by_cases z:j=i
   ·subst z;rw[G]at Y;cases Y;exact h2
   ·obtain⟨d,hd⟩:=aP.mp (s j v (by lia) Y);rw[h1 _ _ hd];rfl
  have B:=Ep (S:=A::dO a::T) (n:=1) (F:=a) rfl ((ky w ws cs u).keyT e);cases hin:(d2 a ((ky w ws cs u).tk e)).isSome with
  |true=>
   rw[hin]at B
   ((try walk_at"w");repeat(simp only[B];try walk_at"w"))
   exact⟨a,A,_,_,by lia,f,by lia,y.more (by lia),b,Z a (fun _ _ h=>h) hin,rfl,rfl⟩
  |false=>
   rw[hin]at B;have s1:=Gd (e:=e) (F:=a) (k:=ky w ws cs u) (x:=.non) (n:=1) (S:=A::dO a::T) rfl (by lia);have K:=f.put hk (x:=.non) (.inr rfl);have l2:(e6 a ((ky w ws cs u).tk e) D.non).length<=a.length+1:=vc;have g:∀x,(d2 (e6 a ((ky w ws cs u).tk e) x) ((ky w ws cs u).tk e)).isSome=true:=fun x=>by rw[sj,if_pos rfl];rfl
   have c:∀x,Sub a (e6 a ((ky w ws cs u).tk e) x):=fun x=>(Sub.refl a).put hin
   ((try walk_at"w");repeat(simp only[B,s1];try walk_at"w"))
   refine fA y (by lia) (by lia) (by lia) fun t o2 J ht=>?_;walk_at"w";split
   ·refine Fh J (by lia) (V _ K) fun x o3 O P=>?_;have s2:=Gd (e:=e) (F:=e6 a ((ky w ws cs u).tk e) .non) (k:=ky w ws cs u) (x:=x) (n:=1) (S:=o3::dO (e6 a ((ky w ws cs u).tk e) .non)::T) rfl (by lia)
    ((try walk_at"w");repeat(simp only[s2];try walk_at"w"))
    have e2:e6 (e6 a ((ky w ws cs u).tk e) .non) ((ky w ws cs u).tk e) x=e6 a ((ky w ws cs u).tk e) x:=Bh;rw[e2];have l3:(e6 a ((ky w ws cs u).tk e) x).length<=a.length+1:=vc;exact⟨_,o3,_,_,by lia,f.put hk (.inl O),by lia,P.more (by lia),b.trans (c x),Z _ (c x) (g x),rfl,rfl⟩
   ·exact⟨_,o2,_,_,by lia,K,by lia,J.more (by lia),b.trans (c .non),Z _ (c .non) (g .non),rfl,rfl⟩
 ·rintro r S ⟨a,A,U,X,hi,f,H,y,b,s,rfl,rfl⟩;rw[lM1,dA,bP]at *
  have e1:gc (T.length+2) (D.non,A::dO a::T)=(D.non,A::dO a::T):=gc_same rfl;show Q (gc (T.length+2) (D.non,A::dO a::T));rw[e1];exact q a A f H (y.more (by lia)) b fun u G=>by
   obtain⟨j,M⟩:=br G;exact s j u (gE1.mp M).1 M
def isT:D->Bool
 | .tup _=>true
 |_=>false
def dv(d:D):Option D:=if isT d=true then some d else none
def fX(F:List (TK×D)):List (TK×D):=F.filter fun p=>isT p.2
def ve(p:TK×D):D:=.tup [Mi.tkD p.1,p.2]
theorem ge.isT{x:D}(h:ge x):isT x=true:=by
 obtain⟨_,_,_,rfl,_⟩:=h.is;rfl
theorem km{e:E4}{F:List (TK×D)}(h:RN e F):RW e (fX F):=by
 refine⟨fun p d=>?_,List.Sublist.nodup (List.Sublist.map _ List.filter_sublist) h.nd⟩;obtain⟨h1,h2⟩:=aA.mp d;obtain⟨k,c,b,a⟩:=h.row p h1;rcases a with a|a
 ·exact⟨k,c,b,a⟩
 ·rw[a]at h2;cases h2
theorem live_len(F:List (TK×D)):(fX F).length<=F.length:=dq _ _
theorem oJ:∀{F:List (TK×D)} (k:TK),(F.map (·.1)).Nodup->d2 (fX F) k=(d2 F k).bind dv
 |[],_,_=>rfl
 |(a,d)::F,k,nd=>by
  rw[mP1,aN]at nd;have ih:=oJ (F:=F) k nd.2;unfold fX at ih ⊢;rw[di,eV];by_cases z:a=k
  ·have b:d2 F k=none:=k7 (by
    rw[Bool.eq_false_iff];intro y;obtain⟨p,c,e⟩:=bT.mp y;exact nd.1 (ci.mpr ⟨p,c,(of_decide_eq_true e).trans z.symm⟩))
   rw[b]at ih;rw[if_pos z];cases hd:isT d with
   |true=>rw[if_pos rfl,eV,if_pos z];simp[dv,hd]
   |false=>rw[if_neg (by simp),ih];simp[dv,hd]
  ·rw[if_neg z];cases hd:isT d with
   |true=>rw[if_pos rfl,eV,if_neg z,ih]
   |false=>rw[if_neg (by simp),ih]
theorem vQ:∀(ps acc:List (TK×D)),((acc++ps).map (·.1)).Nodup->ps.foldl (fun F p=>e6 F p.1 p.2) acc=acc++ps
 |[],acc,_=>by simp
 |p::ps,acc,nd=>by
  have e:e6 acc p.1 p.2=acc++[p]:=by
   unfold e6;rw[if_neg];intro y;obtain⟨q,a,e⟩:=bT.mp y;rw[cG,bB]at nd;exact nd.2.2 _ (ci.mpr ⟨q,a,rfl⟩) _ (ci.mpr ⟨p,mS1,rfl⟩) (of_decide_eq_true e)
  rw[cb,e,vQ ps (acc++[p]) (by rw[bI];exact nd),bI];rfl
theorem oA:∀{F:List (TK×D)},(∀p∈F,Mi.keyT (Mi.tkD p.1)=some p.1)->iQ (F.map ve)=some F
 |[],_=>rfl
 |p::F,h=>by
  rw[mP1,iQ,oA fun q a=>h q (mC1 _ a)];have:=h p mS1;simp only[ve,vn,this,oP1,oS1]
theorem RN.key{e:E4}{F:List (TK×D)}(h:RN e F){p:TK×D}(hp:p∈F):Mi.keyT (Mi.tkD p.1)=some p.1:=by
 obtain⟨k,_,h2,_⟩:=h.row p hp;rw[h2,k.tkD,k.keyT e]
theorem Fi(F:List (TK×D)):Ju F=dO F:=by cases F<;>rfl
theorem Bn{e:E4}{F:List (TK×D)}(h:RN e F)(n:Nat):D.unds n ((fX F).map ve)=true:=Mi.eK fun p a=>by
 have a:=(aA.mp a).1;unfold ve;simp only[D.und,D.unds,h.vu a,tS,df]
theorem vB:∀{F:List (TK×D)},(F.map (·.1)).Nodup -> ∀{p:TK×D},p∈F->d2 F p.1=some p.2
|[],_,_,hp=>by cases hp
|y::F,nd,p,hp=>by
 rw[mP1,aN]at nd;obtain⟨a,b⟩:=y;rw[eV];rcases aF.mp hp with z|z
 ·subst z;rw[if_pos rfl]
 ·rw[if_neg (fun w=>nd.1 (ci.mpr ⟨p,z,w.symm⟩))];exact vB nd.2 z
theorem vm{e:E4}{F:List (TK×D)}{n:Nat}{r:Ev}{S:Sto}{Q:D×Sto->Prop}(g:RN e F)(t:F.length<=10000)(l:S[n]? = some (dO F))(hr:r[5]? = some (some (.ref n)))(q:Q (.ref S.length,S++[.lst ((fX F).map ve)])):W (lg 1 [5] (mV 5) (gN 0) (mB (m2 (b2 g9) (m2 (b2 dW) (mV 1) (mV 0)) (mC D.non))) (eI (eQ (dS (mV 0) (dS (m2 (b2 dW) (mV 1) (mV 0)) dU)))) r S) Q:=by
 have m:=(gE1.mp l).1;have o:mV 5 r S=some (.ref n,S):=by simp[mV,hr]
 have j:nS 1 [5] r=[none,some (.ref n)]:=by simp[nS,hr]
 have b:(S.set n (.dcF F))[n]?=some (.dcF F):=by rw[aI m]
 unfold lg;rw[o,oS1];dsimp only;have v:zK (dO F)=some F:=by cases F<;>rfl
 rw[l,oS1,v,oS1,d4,j];refine hA (f:=fun q:TK×D=>Mi.tkD q.1) (fun p:TK×D=>isT p.2) ve (fun r=>∃z,r=[z,some (.ref n)]) rfl F _ ⟨_,rfl⟩ ?_ fun w _=>?_
 ·rintro p d r ⟨z,rfl⟩;have u:dW (.ref n) (Mi.tkD p.1) (S.set n (.dcF F))=some (p.2,S.set n (.dcF F)):=by
   simp only[dW,b];rw[g.key d,oS1,vB g.nd d];rfl
  have s:g9 p.2 .non (S.set n (.dcF F))=some (.bl (isT p.2),S.set n (.dcF F)):=by
   obtain⟨k,_,_,a⟩:=g.row p d;rcases a with a|a
   ·obtain⟨_,_,_,z,_⟩:=a.is;rw[z];rfl
   ·rw[a];rfl
  ((try walk_at"w");repeat(simp only[u,s];try walk_at"w"))
  exact⟨⟨_,rfl⟩,fun _=>⟨rfl,trivial⟩⟩
 ·dsimp only;have c:=live_len F;rw [if_pos (by rw [lM1];exact aC (aC c t) (by decide)),eB,aW,List.set_set];have:S.set n (dO F)=S:=by
   apply b5;intro i;by_cases h:n=i
   ·subst h;rw[aI m,l]
   ·rw[gS1 h]
  rw[this];exact q
theorem Fd{e:E4}{F:List (TK×D)}{n:Nat}{S:Sto}{Q:D×Sto->Prop}(a:RN e F)(d:F.length<=10000)(c:S[n]?=some (.lst ((fX F).map ve)))(q:Q (.ref S.length,S++[dO (fX F)])):W (no (.ref n) S) Q:=by
 refine W.of ?_ q;unfold no;rw[gR c];dsimp only;rw[oA (F:=fX F) fun p b=>a.key (aA.mp b).1,oS1,lM1,if_pos (aC (live_len F) (by lia))];have:lJ (fX F)=fX F:=by
  unfold lJ;rw[vQ _ _ (by rw[c4];exact(km a).nd),c4]
 rw[this,Fi]
theorem vK{α:Type}{f:α->D}{c:α->Nat}{a:α}:∀ {zs:List α},(∀ b∈zs,jI [] 51 (f a) (f b)=some (decide (c a<c b)))->(∀ b∈zs,c b≠c a)->zs.Pairwise (fun x y=>c x<c y) ->
  ∃ys:List α,w6 (f a) (zs.map f)=ys.map f/\ys.Perm (a::zs)/\ys.Pairwise (fun x y=>c x<c y)
 |[],_,_,_=>⟨[a],rfl,.refl _,by simp⟩
 |b::zs,h,hn,hp=>by
  rw[cf]at hp;rw[mP1,w6];have k:=h b mS1;unfold IH;rw[k];by_cases z:c a<c b
  ·rw[decide_eq_true z,if_pos (show(some true == some true)=true from rfl)];refine⟨a::b::zs,rfl,.refl _,cf.mpr ⟨fun y d=>?_,cf.mpr hp⟩⟩;rcases aF.mp d with rfl|d
   ·exact z
   ·exact bh z (hp.1 y d)
  ·rw[decide_eq_false z,if_neg (by decide)];obtain⟨ys,e,i,j⟩:=vK (fun x g=>h x (mC1 _ g)) (fun x g=>hn x (mC1 _ g)) hp.2;refine⟨b::ys,by rw[e];rfl,(i.cons b).trans (.swap _ _ _),cf.mpr ⟨fun y d=>?_,j⟩⟩;rcases aF.mp (i.mem_iff.mp d)with rfl|d
   ·have:=hn b mS1;lia
   ·exact hp.1 y d
theorem rr{α:Type}{f:α->D}{c:α->Nat}:∀ {ks:List α},(∀ a∈ks,∀ b∈ks,jI [] 51 (f a) (f b)=some (decide (c a<c b)))->(ks.map c).Nodup ->
  ∃zs:List α,jP (ks.map f)=zs.map f/\zs.Perm ks/\zs.Pairwise (fun x y=>c x<c y)/\lB (zs.map f)=true
 |[],_,_=>⟨[],rfl,.refl _,.nil,rfl⟩
 |a::ks,h,hn=>by
  rw[mP1,aN]at hn;obtain⟨zs,e,n,q,_⟩:=rr (ks:=ks) (fun x i y k=>h x (mC1 _ i) y (mC1 _ k)) hn.2;obtain⟨ys,p,l,j⟩:=vK (a:=a) (zs:=zs) (fun b o=>h a mS1 b (mC1 _ (n.mem_iff.mp o))) (fun b o z=>hn.1 (ci.mpr ⟨b,n.mem_iff.mp o,z⟩)) q;have g:ys.Perm (a::ks):=l.trans (n.cons a);refine⟨ys,by rw[mP1,jP,e,p],g,j,?_⟩;have k:∀x∈ys,∀y∈ys,jI [] 51 (f x) (f y)=some (decide (c x<c y)):=fun x i y k=>h x (g.mem_iff.mp i) y (g.mem_iff.mp k);clear p l g
  induction ys with
  |nil=>rfl
  |cons y ys ih=>
   rw[cf]at j;rw[mP1,lB,ih j.2 fun x i z r=>k x (mC1 _ i) z (mC1 _ r),bO,bD];intro d s;obtain⟨x,i,rfl⟩:=ci.mp s;unfold oK;have m:=j.1 x i;rw[k y mS1 x (mC1 _ i),k x (mC1 _ i) y mS1,decide_eq_true m,decide_eq_false (by lia)];rfl
theorem Ct{x:D}{S:Sto}{n:Nat}(h:ge x):gr S (n+3) x x=some true:=by
 have e:=h.eta.1;generalize dm x=a at e;generalize dh x=b at e;generalize dt x=c at e;subst e;have d:∀i:Int,gr S (n+2) (.int i) (.int i)=some true:=fun i=>by show some (i == i)=_;simp
 have g:gr S (n+2) (.str b) (.str b)=some true:=by show some (b == b)=_;simp
 have f:gr S (n+2) (tD c) (tD c)=some true:=by
  cases c with
  |none=>rfl
  |some t=>exact d t
 rw[He,nK,d,oS1,nK,g,oS1,nK,f,oS1,nK];rfl
theorem DN{e:E4}{p q:Rw}(hp:nJ p)(a:nJ q)(h:p.1.code e=q.1.code e->p=q):jI [] 51 (fF e p) (fF e q)=some (decide (p.1.code e<q.1.code e)):=by
 unfold fF;rw[IG,nR,Ky.eq (n:=47) hp.1 a.1,oS1];by_cases z:p.1.code e=q.1.code e
 ·rw[if_pos (decide_eq_true z),nR];have:=h z;subst this;rw[Ct (n:=47) hp.2,oS1,if_pos rfl,nR];simp
 ·rw[if_neg (by rw[decide_eq_true_eq];exact z),Ky.lt (n:=47) hp.1 a.1]
theorem pl_tk:∀k:TK,pl (Mi.tkD k)=true:=fun k=>k.rec (motive_1:=fun k=>pl (Mi.tkD k)=true) (motive_2:=fun ks=>me (Mi.hD ks)=true) rfl (fun _=>rfl) (fun _ ih=>by rw[Mi.tkD,pl];exact ih) rfl (fun _ _ a b=>by rw[Mi.hD,me,a,b];rfl)
theorem Br{x:D}(h:ge x):pl x=true:=by
 have e:=h.eta.1;generalize dm x=a at e;generalize dh x=b at e;generalize dt x=c at e;subst e;cases c<;>rfl
theorem vf{α:Type}{f:α->D}:∀{l:List α},(∀x∈l,pl (f x)=true)->me (l.map f)=true
 |[],_=>rfl
 |x::l,h=>by rw[mP1,me,h x mS1,vf fun y a=>h y (mC1 _ a)];rfl
theorem uy{e:E4}:∀L:List Rw,∃f,ng (L.map (fF e))=some f
 |[]=>⟨_,rfl⟩
 |p::L=>by
  refine⟨false,?_⟩;have a:∀q:Rw,iX (fF e q)=some false:=fun q=>rfl;rw[mP1,ng,a];dsimp only;rw[if_pos];rw[bD];intro d b;obtain⟨q,_,rfl⟩:=ci.mp b;rw[a];rfl
theorem my{e:E4}{F:List (TK×D)}(h:RW e F)(C:F.length<=4000):
  ∃L:List Rw,RL e F L /\ ∀(n:Nat) (S:Sto),S[n]?=some (.lst (F.map ve))->nk (.ref n) S=some (.ref S.length,S++[.lst (L.map (fF e))]):=by
 obtain⟨d,l,ok⟩:=RW.list h.row;have o:∀p∈d,p.1.Ok:=fun p g=>(ok p g).1;have nd:(d.map fun p=>p.1.code e).Nodup:=by
  have:=h.nd;rw[<- l,bv]at this;refine(dj.mpr ((dj.mp this).imp_of_mem fun{a b} i j q z=>?_));exact q ((uY (o a i) (o b j)).mpr z)
 have inj:∀a∈d,∀b∈d,a.1.code e=b.1.code e->a=b:=fun a i b j z=>by
  have u:=(ij (f:=fun p:Rw=>p.1.code e) (c:=b.1.code e) (a:=a) nd).mpr ⟨i,z⟩;have s:=(ij (f:=fun p:Rw=>p.1.code e) (c:=b.1.code e) (a:=b) nd).mpr ⟨j,rfl⟩;rw[u]at s;exact Option.some.inj s
 obtain⟨L,x,m,v,A⟩:=rr (f:=fF e) (c:=fun p:Rw=>p.1.code e) (ks:=d) (fun a i b j=>DN (ok a i) (ok b j) (inj a i b j)) nd;have w:d.length=F.length:=by rw[<- l,lM1]
 have t:∀k:Ky,k.Ok->d2 F (k.tk e)=(L.find? fun p=>decide (p.1.code e=k.code e)).map (·.2):=fun k B=>by
  have a1:d2 F (k.tk e)=(d.find? fun p=>decide (p.1.code e=k.code e)).map (·.2):=by
   rw[<- l];unfold d2;rw[List.find?_map,Option.map_map];have:(d.find? ((fun p:TK×D=>decide (p.1=k.tk e))∘fun p:Rw=>(p.1.tk e,p.2)))=d.find? fun p=>decide (p.1.code e=k.code e):=by
    apply nv;intro p g;simp only[Function.comp];rw[bS,decide_eq_true_eq,decide_eq_true_eq];exact uY (o p g) B
   rw[this];rfl
  rw[a1,xg (f:=fun p:Rw=>p.1.code e) m nd]
 refine⟨L,⟨v,fun p g=>ok p (m.mem_iff.mp g),by rw[m.length_eq];lia,t⟩,fun n S r=>?_⟩;have ep:F.map ve=d.map (fF e):=by
  rw[<- l,bv];apply dg;intro p _;show D.tup [Mi.tkD (p.1.tk e),p.2]=_;rw[p.1.tkD];rfl
 rw[ep]at r;obtain⟨f,y⟩:=uy (e:=e) d;unfold nk;rw[gR r];dsimp only;have g:me (d.map (fF e))=true:=vf fun p g=>by
  unfold fF;rw[pl,me,me,me,Br (ok p g).2,<- p.1.tkD e,pl_tk];rfl
 rw[y,oS1,x,if_pos (by rw[g,A,lM1,decide_eq_true (by lia)];rfl)]
def xk(e:E4)(F:List (TK×D))(k:Ky):D:=((d2 F (k.tk e)).bind dv).getD (uF k)
theorem RL.due{e:E4}{F:List (TK×D)}{L:List Rw}(a:RL e (fX F) L)(b:RN e F){k:Ky}(hk:k.Ok):kC e L k=xk e F k:=by
 unfold kC xk;rw[<- a.lk k hk,oJ _ b.nd]
theorem zI{F:List (TK×D)}{k:TK}{d:D}(h:d2 F k=some d):(k,d)∈F:=by
 unfold d2 at h;obtain⟨p,f,e⟩:=oM1.mp h;have c:=List.find?_some f;have g:=List.mem_of_find?_eq_some f;obtain⟨a,b⟩:=p;have c:=of_decide_eq_true c;dsimp only at e c;subst e;subst c;exact g
theorem Cr{e:E4}{F:List (TK×D)}(c:RN e F){k:Ky}(hk:k.Ok):ge (xk e F k):=by
 have b:ge (uF k):=⟨k.m,_,_,rfl,hk.m,by simp[nj],by simp[ln]⟩;unfold xk;cases h:d2 F (k.tk e)with
 |none=>exact b
 |some d=>
  obtain⟨_,_,_,a⟩:=c.row _ (zI h);rcases a with a|a
  ·rw[oS1,dv,if_pos a.isT];exact a
  ·dsimp only at a;rw[a];exact b
abbrev Wh:=List Wk×List Nat
def gA(a:Wh):D:=dZ a.1 a.2
def Hi(w:ew)(e:E4)(F:List (TK×D))(a:Wh)(u:Wk):D:=xk e F (ky w a.1 a.2 u)
def ju(m:Nat)(w:ew)(e:E4)(F:List (TK×D))(a:Wh):Wh:=(a.1.map fun u=>eL w u (Hi w e F a u),ej m a.1 (Hi w e F a) a.2)
theorem pz{α:Type}{p q:α->Bool}:∀{l:List α},(∀x∈l,p x=q x)->l.any p=l.any q
 |[],_=>rfl
 |x::l,h=>by rw[bd,bd,h x mS1,pz fun y a=>h y (mC1 _ a)]
theorem qz{m:Nat}{ws:List Wk}{f g:Wk->D}{cs:List Nat}(h:∀u∈ws,f u=g u):ej m ws f cs=ej m ws g cs:=by
 have:∀s r,gP ws f s r=gP ws g s r:=fun s r=>pz fun u a=>by rw[h u a]
 unfold ej;simp only[this]
theorem mx{m:Nat}{w:ew}{ws:List Wk}{f g:Wk->D}{cs:List Nat}(h:∀u∈ws,f u=g u):((ws.map fun u=>eL w u (f u),ej m ws f cs):Wh)=(ws.map fun u=>eL w u (g u),ej m ws g cs):=by
 rw[qz h]
 congr 1
 apply dg;intro u a;rw[h u a]
theorem s0{m:Nat}{w:ew}{e:E4}{F:List (TK×D)}{L:List Rw}{a:Wh}(h:ja m w a.1 a.2)(b:RL e (fX F) L)(c:RN e F):pp m w a.1 a.2 e L=gA (ju m w e F a):=by
 have:=mx (m:=m) (w:=w) (ws:=a.1) (cs:=a.2) (f:=ddW w a.1 a.2 e L) (g:=Hi w e F a) fun u d=>b.due c (h.ky u d);unfold pp gA ju;rw[<- this]
theorem wD{m:Nat}{w:ew}{e:E4}{F c:List (TK×D)}{a:Wh}(s:Sub F c)(h:∀u∈a.1,(d2 F ((ky w a.1 a.2 u).tk e)).isSome=true):ju m w e c a=ju m w e F a:=by
 refine mx fun u f=>?_;obtain⟨d,b⟩:=aP.mp (h u f);unfold Hi xk;rw[b,s _ _ b]
theorem xu{m:Nat}{ws:List Wk}{f:Wk->D}{cs:List Nat}(hm:m<=8):(ej m ws f cs).length<=8 /\ ∀r∈ej m ws f cs,r<m:=by
 unfold ej;refine⟨?_,fun r a=>aB.mp (aA.mp a).1⟩;refine aC (dq _ _) ?_;rw[dA];exact hm
theorem yp{m:Nat}{w:ew}{ws:List Wk}{cs:List Nat}(h:ja m w ws cs){u:Wk}(e:u∈ws){x:D}(hx:ge x):∃a,w[(eL w u x).1]?=some a/\(eL w u x).2.1<=a.length/\(eL w u x).2.2<4000:=by
 have c:=hx.eta.2;obtain⟨a,b,h1,h2⟩:=h.wk u e;unfold eL;rw[b];have base:∃a,w[(u.1,u.2.1,dm x).1]?=some a/\(u.1,u.2.1,dm x).2.1<=a.length/\(u.1,u.2.1,dm x).2.2<4000:=⟨a,b,h1,c⟩;cases dt x with
 |none=>exact base
 |some t=>
  dsimp only[oS1];cases ep:a[t]? with
  |none=>exact base
  |some p=>
   obtain⟨r,f,d⟩:=h.web.to a (gM1 b) p (gM1 ep);exact⟨r,f,d,c⟩
theorem ja.step{m:Nat}{w:ew}{e:E4}{F:List (TK×D)}{a:Wh}(h:ja m w a.1 a.2)(d:RN e F):ja m w (ju m w e F a).1 (ju m w e F a).2:=by
 have hc:=xu (m:=m) (ws:=a.1) (f:=Hi w e F a) (cs:=a.2) h.m8;refine⟨h.web,h.m8,by show(a.1.map _).length<=8;rw[lM1];exact h.few,hc.1,fun v c=>?_,hc.2⟩;obtain⟨u,b,rfl⟩:=ci.mp c;exact yp h b (Cr d (h.ky u b))
theorem uT(a:Wh)(n:Nat):(gA a).und n=true:=fr fR
theorem pG(Ws:List Wh)(n:Nat):D.unds n (Ws.map gA)=true:=Mi.eK fun a _=>uT a n
structure l5 (m:Nat)(w:ew)(e:E4)(F:List (TK×D))(k:Nat)(Ws:List Wh):Prop where
 ok:∀a∈Ws,ja m w a.1 a.2/\a.1.length=k
 nx:∀(j:Nat) (a b:Wh),Ws[j]?=some a->Ws[j+1]?=some b->b=ju m w e F a /\ ∀u∈a.1,(d2 F ((ky w a.1 a.2 u).tk e)).isSome=true
theorem l5.more{m:Nat}{w:ew}{e:E4}{F g:List (TK×D)}{k:Nat}{Ws:List Wh}{a:Wh}(h:l5 m w e F k Ws)(s:Sub F g)(i:RN e g)(l:Ws[Ws.length-1]?=some a)(ha:∀u∈a.1,(d2 g ((ky w a.1 a.2 u).tk e)).isSome=true):l5 m w e g k (Ws++[ju m w e g a]):=by
 have o:=(gE1.mp l).1;have n:=gM1 l;refine⟨fun b f=>?_,fun j b c f hc=>?_⟩
 ·rcases aG.mp f with f|f
  ·exact h.ok b f
  ·rw[cY.mp f];exact⟨(h.ok a n).1.step i,by show(a.1.map _).length=k;rw[lM1];exact(h.ok a n).2⟩
 ·by_cases z:j+1<Ws.length
  ·rw[gL1 (by lia)]at f;rw[gL1 z]at hc;obtain⟨h1,h2⟩:=h.nx j b c f hc;refine⟨by rw[wD s h2];exact h1,fun u p=>?_⟩;obtain⟨d,r⟩:=aP.mp (h2 u p);rw[s _ _ r];rfl
  ·have q:j+1=Ws.length:=by
    have:=(gE1.mp hc).1;rw[lA1,aY]at this;lia
   rw[gL1 (by lia),show j=Ws.length-1 by lia,l]at f;rw[gR1 (by lia),q,cQ]at hc;cases f;have:ju m w e g a=c:=by simpa using hc
   exact⟨this.symm,ha⟩
structure n0 (m:Nat)(rs cs:List Nat):Prop where
 few:rs.length<=8
 cl:cs.length<=8
 rs:∀r∈rs,r<m
 cs:∀r∈cs,r<m
def standD(rs cs:List Nat):D:=.tup [.tup (eP rs),.tup (eP cs)]
def fI(rs cs:List Nat):Wh:=(rs.map fun r=>(r,0,0),cs)
theorem CG{m:Nat}{w:ew}{rs cs:List Nat}(hw:nI m w)(hm:m<=8)(h:n0 m rs cs):ja m w (fI rs cs).1 (fI rs cs).2:=by
 refine⟨hw,hm,by show(rs.map _).length<=8;rw[lM1];exact h.few,h.cl,fun u b=>?_,h.cs⟩;obtain⟨r,a,rfl⟩:=ci.mp b;exact⟨_,gG1 (by rw[hw.len];exact h.rs r a),bi _,by show 0<4000;decide⟩
theorem gF(rs cs:List Nat)(n:Nat):(standD rs cs).und n=true:=fr (by simp[standD,D.und,D.unds,qf])
theorem DB{rs cs:List Nat}{S:Sto}:dW (standD rs cs) (.int 0) S=some (.tup (eP rs),S):=rfl
theorem yq{rs cs:List Nat}{S:Sto}:dW (standD rs cs) (.int 1) S=some (.tup (eP cs),S):=rfl
theorem wc{rs:List Nat}{S:Sto}{c:Option D}{Q:List D×Ev×Sto->Prop}(h:∀ b,Q (eA (fI rs []).1,b,S)):
  W (fM [] (gN 0) gu (eI (eQ (dS (mV 0) (dS (mC (D.int 0)) (dS (mC (D.int 0)) dU))))) (eP rs) [c] S) Q:=by
 refine r6 (f:=fun r:Nat=>D.int r) (fun r:Nat=>ff (r,0,0)) (fun r=>∃x,r=[x]) rfl rs _ ⟨_,rfl⟩ ?_ fun b _=>?_
 ·rintro a d r ⟨x,rfl⟩;walk_at"w";exact⟨rfl,_,rfl⟩
 ·have e:(rs.map fun r:Nat=>ff (r,0,0))=eA (fI rs []).1:=by unfold eA fI;rw[bv];rfl
  rw[e];exact h b
theorem CF{rs cs:List Nat}{S:Sto}{Q:D×Sto->Prop}(b:rs.length<=1000)(q:Q (gA (fI rs cs),S)):W (dX 1 kh [standD rs cs] S) Q:=by
 refine lQ rfl (by rw[D.unds,gF];rfl) ?_;unfold kh;refine nr ?_;unfold wf;refine eF (fun r V=>V=[]/\r=[some (standD rs cs),some (.tup (eP rs)),some (.tup (eP cs))]) ?_ ?_
 ·unfold standD;walk_at"w"
 rintro r V ⟨rfl,rfl⟩;walk_at"w";rw[iO];refine wc fun c=>?_;have a:(eA (fI rs []).1).length=rs.length:=by rw[je];exact lM1 _
 walk_at"w";refine⟨d9 (by rw[a];lia),?_⟩;refine eG (xs:=eA (fI rs []).1) rfl ?_;exact⟨uT (fI rs cs) 0,q⟩
theorem Fu{g:G1}{m:FE}{r:Ev}{S:Sto}{Q:D×Sto->Prop}(h:W (m r S) fun p=>W (g p.1 p.2) Q):W (mN (b1 g) (dS m dU) r S) Q:=by
 obtain⟨p,e,h⟩:=h;unfold mN dS dU;rw[e];exact h
theorem AI{a:FE}{b:FA}{r:Ev}{S:Sto}{Q:List D×Sto->Prop}(h:W (a r S) fun p=>W (b r p.2) fun q=>Q (p.1::q.1,q.2)):W (dS a b r S) Q:=by
 obtain⟨p,e,q,c,h⟩:=h;unfold dS;rw[e,oS1,c];exact⟨_,rfl,h⟩
theorem Hs{S:Sto}(h:S.all (Ob.und 0)=true)(n:Nat):S.all (Ob.und n)=true:=by
 rw[bD]at h ⊢;exact fun x a=>gJ (bi _) (h x a)
theorem kY{e:E4}{F:List (TK×D)}(h:RN e F)(n:Nat):(Ob.lst ((fX F).map ve)).und n=true:=by rw[Ob.und];exact Bn h n
theorem Cs{m:Nat}{w:ew}{e:E4}{rs cs:List Nat}{o:Ob}{n b:Nat}{Q:D×Sto->Prop}(hw:nI m w)(hm:m<=8)(hst:n0 m rs cs)(ho:fY o n)(hn:n<=2^35)(hb:b<=400)(hlim:b*rs.length<=3000)(q:∀F L c o' G,RN e F->RL e (fX F) L->l5 m w e F rs.length c->c.length=b+1->c[0]?=some (fI rs cs)->fY o' (n+100*b)->G.all (Ob.und 0)=true->G[2]?=some (.lst (c.map gA))->Q (.tup [mcD e L,.ref 3],o'::G)):
  W (dX 5 eH [.ref 0,webD w,eyD e,standD rs cs,.int b] [o]) Q:=by
 refine lP rfl rfl ?_;unfold eH;refine nr ?_;unfold hC;have Y:(eA (fI rs []).1).length=rs.length:=by rw[je];exact lM1 _
 have hfew:=hst.few;refine eF (fun r S=>r=[some (.ref 0),some (webD w),some (eyD e),some (standD rs cs),some (.int (b:Nat)),some (.ref 1),some (.ref 3),none,none,none]/\S=[o,.dct [],.lst (eA (fI rs []).1),.lst [gA (fI rs cs)]]) ?_ ?_
 ·((try walk_at"w");repeat(simp only[zC,DB,yq];try walk_at"w"))
  rw[iO];refine wc fun r'=>?_;walk_at"w";refine⟨d9 (by rw[Y];lia),?_⟩;refine eG (xs:=eA (fI rs []).1) rfl ?_
  first|rfl|exact⟨rfl,rfl⟩
 rintro r S ⟨rfl,rfl⟩;refine eF (fun r S=>∃F c o' G I v,RN e F/\F.length<=3000/\fY o' (n+100*b)/\l5 m w e F rs.length c/\c.length=b+1/\c[0]?=some (fI rs cs)/\G.all (Ob.und 0)=true/\S=o'::dO F :: .lst (eA (fI rs []).1) :: .lst (c.map gA)::G/\r=[some (.ref 0),some (webD w),some (eyD e),some (standD rs cs),some (.int (b:Nat)),some (.ref 1),some (.ref 3),I,v,none]) ?_ ?_
 ·walk_at"w";rw[kb,Int.toNat_natCast];refine⟨fW (by lia),?_⟩;refine fV (fun i r S=>∃F c o' G I v,i<=b/\RN e F/\F.length<=i*rs.length/\fY o' (n+100*i)/\l5 m w e F rs.length c/\c.length=i+1/\c[0]?=some (fI rs cs)/\G.all (Ob.und 0)=true/\S=o'::dO F :: .lst (eA (fI rs []).1) :: .lst (c.map gA)::G/\r=[some (.ref 0),some (webD w),some (eyD e),some (standD rs cs),some (.int (b:Nat)),some (.ref 1),some (.ref 3),I,v,none]) _ 0 _ _ ?_ (fun _ _ _ _=>rfl) ?_ ?_
  ·refine⟨[],[fI rs cs],o,[],none,none,bi _,RN.nil,bi _,ho,⟨fun a K=>?_,fun j a b K hb=>?_⟩,rfl,rfl,rfl,rfl,rfl⟩
   ·rw[cY.mp K];exact⟨CG hw hm hst,lM1 _⟩
   ·simp at hb
  ·rintro i d y r S ⟨F,c,P,G,I,v,hi,s,N,l,M,k,p,E,rfl,rfl⟩;have X:=(gE1.mp y).1;rw[lM1,dA]at X;rw[bP]at *
   have hd':d = .int (i:Nat):=by
    rw[gP1,cN X]at y;exact(Option.some.inj y).symm
   subst hd';have hmul:(i+1)*rs.length<=b*rs.length:=dr _ (by lia);have hmul2:(i+1)*rs.length=i*rs.length+rs.length:=by rw[Nat.add_mul,Nat.one_mul]
   obtain⟨a,K⟩:∃a,c[i]?=some a:=⟨_,gG1 (by lia)⟩;have ham:=gM1 K;obtain⟨J,hal⟩:=M.ok a ham;have R:(c.map gA)[i]?=some (gA a):=by rw[gP1,K];rfl
   walk_at"w";unfold gt;have hX:(Ob.lst (eA (fI rs []).1)).und 0=true:=by rw[Ob.und];exact jM _
   have hY:(Ob.lst (c.map gA)).und 0=true:=by rw[Ob.und];exact pG _ 0
   refine eF (fun r S=>∃g C,RN e g/\g.length<=F.length+rs.length/\fY C (n+100*i+100)/\Sub F g/\(∀u∈a.1,(d2 g ((ky w a.1 a.2 u).tk e)).isSome=true)/\S=C::dO g :: .lst (eA (fI rs []).1) :: .lst (c.map gA)::G/\r=[some (.ref 0),some (webD w),some (eyD e),some (standD rs cs),some (.int (b:Nat)),some (.ref 1),some (.ref 3),some (.int (i:Nat)),v,none]) ?_ ?_
   ·walk_at"w";refine tj (i:=i) (xs:=c.map gA) (x:=gA a) rfl R ?_;walk_at"w";refine Cg (ws:=a.1) (cs:=a.2) (T:=.lst (eA (fI rs []).1) :: .lst (c.map gA)::G) J s (by rw[bR,bR,hX,hY,E];rfl) l (by lia) (by lia) fun g C f A t z H=>?_;rw[hal]at A;exact⟨g,C,f,A,t,z,H,rfl,trivial⟩
   rintro r S ⟨g,C,f,A,t,z,H,rfl,rfl⟩;obtain⟨L2',U,_⟩:=my (km f) (aC (live_len g) (by lia));generalize h:C::dO g::Ob.lst (eA (fI rs []).1)::Ob.lst (c.map gA)::G=S2;have g1:S2[1]?=some (dO g):=by rw[<- h];rfl
   have c2:S2.all (Ob.und 0)=true:=by rw[<- h,bR,bR,bR,bR,t.und,f.und,hX,hY,E];rfl
   refine eF (fun r S=>S=S2++[.lst ((fX g).map ve),dO (fX g)]/\r=[some (.ref 0),some (webD w),some (eyD e),some (standD rs cs),some (.int (b:Nat)),some (.ref 1),some (.ref 3),some (.int (i:Nat)),some (.ref (S2.length+1)),none]) ?_ ?_
   ·unfold eh;refine d4.mpr (Fu (vm f (by lia) g1 rfl ?_));refine Fd f (by lia) (by rw[ee];rfl) ?_;walk_at"w"
   rintro r S ⟨Z,rfl⟩;have g3:S[S2.length+1]?=some (dO (fX g)):=by rw[Z,g0];rfl
   have g4:S[3]?=some (.lst (c.map gA)):=by rw[Z,<- h];rfl
   have c3:S.all (Ob.und 0)=true:=by
    rw[Z,dz,c2,bR,bR,kY f,(km f).und];rfl
   unfold fi;rw[d4];refine iF ?_;walk_at"w";refine⟨3,c.map gA,rfl,g4,?_⟩
   try walk_at"w"
   refine tj (i:=i) (xs:=c.map gA) (x:=gA a) g4 R ?_
   try walk_at"w"
   refine B1 (ws:=a.1) (cs:=a.2) J U g3 (Hs c3 _) ?_;rw[s0 J U f];walk_at"w";refine(lU g4).mpr ⟨d9 (by rw[lM1];lia),?_⟩;have B:c[c.length-1]?=some a:=by rw[k];exact K
   refine⟨g,c++[ju m w e g a],C,G++[.lst ((fX g).map ve),dO (fX g)],_,_,by lia,f,by lia,t.more (by lia),M.more z f B H,by rw[lA1,k];rfl,?_,?_,?_,rfl⟩
   ·rw[gL1 (by lia)];exact p
   ·rw[dz,E,bR,bR,kY f,(km f).und];rfl
   ·rw[Z,<- h];simp only[bj,c9,c7,cG,mP1,aZ]
  ·rintro r S ⟨F,c,P,G,I,v,hi,s,N,l,M,k,p,E,rfl,rfl⟩;rw[lM1,dA,bP]at *
   exact⟨rfl,F,c,P,G,_,_,s,by lia,l,M,k,p,E,rfl,rfl⟩
 rintro r S ⟨F,c,P,G,I,v,s,N,l,M,k,p,E,rfl,rfl⟩;obtain⟨L,rl,O⟩:=my (km s) (aC (live_len F) (by lia));have hX:(Ob.lst (eA (fI rs []).1)).und 0=true:=by rw[Ob.und];exact jM _
 have hY:(Ob.lst (c.map gA)).und 0=true:=by rw[Ob.und];exact pG _ 0
 generalize h:P::dO F::Ob.lst (eA (fI rs []).1)::Ob.lst (c.map gA)::G=S2;have g1:S2[1]?=some (dO F):=by rw[<- h];rfl
 refine eF (fun r S=>S=S2++[.lst ((fX F).map ve),.lst (L.map (fF e))]/\r=[some (.ref 0),some (webD w),some (eyD e),some (standD rs cs),some (.int (b:Nat)),some (.ref 1),some (.ref 3),I,v,some (mcD e L)]) ?_ ?_
 ·unfold eh;refine d4.mpr (AG.mpr (AI ?_));refine W.of (x:=(eyD e,S2)) rfl ?_;refine AI (Fu (Fu (vm s (by lia) g1 rfl ?_)));dsimp only;refine W.of (O S2.length _ (by rw[ee];rfl)) ?_;dsimp only;refine AH.mpr (eG (xs:=L.map (fF e)) (by rw[ee];rfl) ?_);refine W.of (x:=([],_)) rfl ?_;refine⟨Jt,?_⟩;refine W.of (x:=_) rfl ?_;refine⟨rfl,?_,rfl⟩;simp
 rintro r S ⟨rfl,rfl⟩;have ur:=jW (e:=e) rl.ok 0;simp only[D.und]at ur;have hg:∀V,gc 1 (D.tup [mcD e L,.ref 3],V)=(D.tup [mcD e L,.ref 3],V):=fun V=>by
  unfold gc;rw[if_neg];simp[D.und,D.unds]
 walk_at"w";show Q (gc 1 (D.tup [mcD e L,.ref 3],_));rw[hg,<- h];refine q F L c P (dO F::Ob.lst (eA (fI rs []).1)::Ob.lst (c.map gA)::(G++[.lst ((fX F).map ve),.lst (L.map (fF e))])) s rl M k p l ?_ rfl;rw[bR,bR,bR,dz,s.und,hX,hY,E,bR,bR,kY s,Ob.und,ur];rfl
theorem CK{n k:Nat}{xs:List D}{x:D}{S:Sto}{Q:D×Sto->Prop}(h:S[n]?=some (.lst xs))(b:xs.length=k+1)(hx:xs[k]?=some x)(q:Q (x,S)):W (dW (.ref n) (.int (-1)) S) Q:=by
 refine W.of (x:=(x,S)) ?_ q;simp only[dW,lf,zZ,h,d5,tE,vH,oS1];rw[if_neg (show¬ (0:Int) <= -1 by decide)];have e:((-1:Int)+(xs.length:Int)).toNat=k:=by lia
 have a:((xs.length:Int)+(-1:Int)).toNat=k:=by lia
 rw[if_pos (by lia)]
 first
  |rw[e,oS1,hx];rfl
  |rw[a,oS1,hx];rfl
  |simp[e,a,hx]
theorem x9{m:Nat}{w:ew}{e:E4}{F:List (TK×D)}{L:List Rw}{rs cs:List Nat}{Ws:List Wh}{b k:Nat}{S:Sto}{Q:D×Sto->Prop}(hst:n0 m rs cs)(x:RN e F)(h:RL e (fX F) L)(s:l5 m w e F k Ws)(h0:Ws[0]? = some (fI rs cs))(hb:b<Ws.length)(v:b<=400)(q:Q (.tup ((Ws.take (b+1)).map gA),S)):W (dX 4 iS [webD w,mcD e L,standD rs cs,.int b] S) Q:=by
 refine lQ rfl (by simp[D.unds,fL,mi h.ok,gF];rfl) ?_;unfold iS;refine nr ?_;unfold s7;have t:=hst.few;have z:(Ws.take 1).map gA=[gA (fI rs cs)]:=by
  cases Ws with
  |nil=>cases h0
  |cons a Ws=>simp at h0;subst h0;rfl
 refine eF (fun r V=>V=[.lst ((Ws.take 1).map gA)]/\r=[some (webD w),some (mcD e L),some (standD rs cs),some (.int (b:Nat)),some (.ref 0),none]) ?_ ?_
 ·walk_at"w";refine CF (by lia) ?_;walk_at"w";exact⟨by rw[z],trivial⟩
 rintro r V ⟨rfl,rfl⟩;refine eF (fun r V=>∃g,V=[.lst ((Ws.take (b+1)).map gA)]/\r=[some (webD w),some (mcD e L),some (standD rs cs),some (.int (b:Nat)),some (.ref 0),g]) ?_ ?_
 ·walk_at"w";rw[kb,Int.toNat_natCast];refine⟨fW (by lia),?_⟩;refine fV (fun i r V=>∃g,i<=b/\V=[.lst ((Ws.take (i+1)).map gA)]/\r=[some (webD w),some (mcD e L),some (standD rs cs),some (.int (b:Nat)),some (.ref 0),g]) _ 0 _ _ ⟨_,bi _,rfl,rfl⟩ (fun _ _ _ _=>rfl) ?_ ?_
  ·rintro i d o r V ⟨g,hi,rfl,rfl⟩;have n:=(gE1.mp o).1;rw[lM1,dA]at n;rw[bP]at *
   obtain⟨a,p⟩:∃a,Ws[i]?=some a:=⟨_,gG1 (by lia)⟩;obtain⟨c,hc⟩:∃c,Ws[i+1]?=some c:=⟨_,gG1 (by lia)⟩;obtain⟨j,u⟩:=s.ok a (gM1 p);obtain⟨y,_⟩:=s.nx i a c p hc;have f:((Ws.take (i+1)).map gA).length=i+1:=by rw[lM1,aQ];lia
   have l:((Ws.take (i+1)).map gA)[i]?=some (gA a):=by rw[gP1,aS (by lia),p];rfl
   walk_at"w";unfold mT fi;rw[d4];refine iF ?_;walk_at"w";refine⟨0,_,rfl,rfl,?_⟩
   ((try walk_at"w");repeat(simp only[sD];try walk_at"w"))
   refine CK rfl f l ?_;walk_at"w";refine Fp (ws:=a.1) (cs:=a.2) j h.inc h.ok h.len ?_;rw[s0 j h x,<- y];walk_at"w";refine(lU rfl).mpr ⟨d9 (by rw[f];lia),?_⟩;refine⟨_,by lia,?_,rfl⟩;rw[cH (i:=i+1),hc,cG];rfl
  ·rintro r V ⟨g,hi,rfl,rfl⟩;rw[lM1,dA,bP];exact⟨rfl,_,rfl,rfl⟩
 rintro r V ⟨g,rfl,rfl⟩;walk_at"w";refine eG (xs:=(Ws.take (b+1)).map gA) rfl ?_;exact⟨by rw[D.und];exact pG _ 0,q⟩
theorem tR{m:Nat}{w:ew}{a:Wh}(h:ja m w a.1 a.2):t5 (gA a)=true/\nX (gA a)<=60/\AS (gA a)<=9:=by
 have n:=h.few;have q:=h.m8;have j:=h.cl;have c:∀x:Nat,x<4000->t5 (.int (x:Nat))=true:=fun x o=>by unfold t5;rw[decide_eq_true_eq];lia
 have i:∀u∈a.1,t5 (ff u)=true:=fun u e=>by
  obtain⟨d,g,h1,h2⟩:=h.wk u e;have s:=h.web.le d (gM1 g);have p:=h.lt u e;unfold ff;rw[t5];simp only[nM,bO,bA1];exact⟨c _ (by lia),c _ (by lia),c _ h2⟩
 have a1:=jQ (f:=ff) (l:=a.1) i;have a2:=jk (f:=ff) (k:=3) (l:=a.1) fun v b=>nR1 _;have a3:=kE (f:=ff) (k:=3) (l:=a.1) fun v b=>(by decide:1<=3);have b1:=jQ (f:=fun r:Nat=>D.int r) (l:=a.2) fun v b=>c v (by have:=h.ch v b;lia);have b2:=jk (f:=fun r:Nat=>D.int r) (k:=0) (l:=a.2) fun v b=>nR1 _;have b3:=kE (f:=fun r:Nat=>D.int r) (k:=0) (l:=a.2) fun v b=>nR1 _;unfold gA dZ;refine⟨?_,?_,?_⟩
 ·simp only[nM,t5,eA,eP,a1,b1,df]
 ·simp only[kH,nX,eA,eP];lia
 ·simp only[nW,AS,eA,eP];lia
theorem x3{m:Nat}{w:ew}{Ws:List Wh}(h:∀a∈Ws,ja m w a.1 a.2)(c:Ws.length<=500):∃t,∀S,nl (.tup (Ws.map gA)) S=some (.str t,S):=by
 have a2:=jk (f:=gA) (k:=60) (l:=Ws) fun v b=>(tR (h v b)).2.1;have a3:=kE (f:=gA) (k:=9) (l:=Ws) fun v b=>(tR (h v b)).2.2;exact Bd (jQ fun v b=>(tR (h v b)).1) (by lia) (by lia)
theorem IU(xs:List D)(k:Nat):Mi.sT xs none (some (k:Int))=xs.take k:=by
 unfold Mi.sT;rw[HT.yB,HT.Bb,bZ,Nat.sub_zero];by_cases h:k<=xs.length
 ·rw[bC h]
 ·rw[Nat.min_eq_right (by lia),b4,ca (by lia)]
theorem Ht{m:FE}{hi:FO}{r:Ev}{S:Sto}{n k:Nat}{xs:List D}{Q:D×Sto->Prop}(hm:m r S=some (.ref n,S))(a:hi r S=some (some (k:Int),S))(h:S[n]?=some (.lst xs))(q:Q (.ref S.length,S++[.lst (xs.take k)])):W (wS m mY hi r S) Q:=by
 rw[<- IU]at q;refine W.of ?_ q;unfold wS;rw[hm,oS1];dsimp only;rw[show mY r S=some (none,S)from rfl,oS1];dsimp only;rw[a,oS1];simp only[yv,gR h,oP1,if_true]
theorem pU{m:Nat}{w:ew}{e:E4}{F:List (TK×D)}{L:List Rw}{rs cs:List Nat}{Ws:List Wh}{b k j:Nat}{S:Sto}{Q:D×Sto->Prop}(hst:n0 m rs cs)(n:RN e F)(o:RL e (fX F) L)(g:l5 m w e F k Ws)(h0:Ws[0]? = some (fI rs cs))(hb:b<Ws.length)(c:b<=400)(s:S[j]?=some (.lst (Ws.map gA)))(f:S.all (Ob.und S.length)=true)(q:Q (.bl true,S)):W (dX 5 fm [webD w,mcD e L,standD rs cs,.ref j,.int b] S) Q:=by
 refine lP rfl (by simp[D.unds,D.und]) ?_;unfold fm;refine nr ?_;unfold kJ;obtain⟨t,h⟩:=x3 (m:=m) (w:=w) (Ws:=Ws.take (b+1)) (fun a r=>(g.ok a (cO r)).1) (by rw[aQ];lia);have key:W (wS (mV 3) mY (rS (m2 (b2 fS) (mV 4) (mC (D.int 1)))) [some (webD w),some (mcD e L),some (standD rs cs),some (.ref j),some (.int (b:Nat))] S) fun p=>p=(.ref S.length,S++[.lst ((Ws.take (b+1)).map gA)]):=by
  refine Ht (k:=b+1) rfl ?_ s ?_
  ·rfl
  ·rw[List.map_take]
 obtain⟨p,i,rfl⟩:=key;generalize wS (mV 3) mY (rS (m2 (b2 fS) (mV 4) (mC (D.int 1))))=M at *
 walk_at"w";refine x9 hst n o g h0 hb c ?_
 ((try walk_at"w");repeat(simp only[h,i];try walk_at"w"))
 refine eG (xs:=(Ws.take (b+1)).map gA) (by rw[ee];rfl) ?_
 ((try walk_at"w");repeat(simp only[h];try walk_at"w"))
 have l:(t == t)=true:=by simp
 rw[l,zX (d:=.bl true) rfl f];exact q
theorem Hx{m:FA}{k:Nat}{r:Ev}{S S1:Sto}{Q:D×Sto->Prop}(hm:m r S=some ([.int (k:Nat)],S1))(hk:k<=1000)(q:Q (.ref S1.length,S1++[.lst (gB 0 k)])):W (zB m r S) Q:=by
 refine W.of ?_ q;unfold zB;rw[hm,oS1];dsimp only;rw[if_pos (by
  unfold oo;simp only[bA1,decide_eq_true_eq];lia),Int.toNat_natCast]
theorem x4{c:FT}{b:FS}{Q:Fl×Ev×Sto->Prop}(I:Nat->Ev->Sto->Prop)(step:∀k r S,I k r S->W (c r S) fun p=>if p.1=true then 0<k/\W (b r p.2) fun q=>q.1 = .nx/\I (k-1) q.2.1 q.2.2 else Q (.nx,r,p.2)):
  ∀(a k:Nat) (r:Ev) (S:Sto),k<a->I k r S->W (qS c b a r S) Q
 |0,k,r,S,hf,_=>by lia
 |a+1,k,r,S,hf,hi=>by
  rw[qS];dsimp only;rw[d4];obtain⟨⟨t,n⟩,e,h⟩:=step k r S hi;refine⟨_,e,?_⟩;dsimp only at h ⊢;cases t with
  |true=>
   rw[if_pos rfl]at h ⊢;obtain⟨m,⟨f,l,j⟩,i,d,g⟩:=h;dsimp only at d g;subst d;rw[i,oS1];exact x4 I step a (k-1) l j (by lia) g
  |false=>
   rw[if_neg (by decide)]at h ⊢;exact eB.mpr h
theorem zm(rs:List Nat)(i:Nat):(eP rs).eraseIdx i=eP (rs.eraseIdx i):=by
 unfold eP;simp[cM,List.map_take,List.map_drop]
theorem tY{m most n:Nat}{o:Ob}{T:Sto}{Q:D×Sto->Prop}(R:0<m)(hm:m<=8)(U:0<most)(N:most<=8)(ho:fY o n)(hn:n<=2^40)(Z:T.all (Ob.und (T.length+1))=true)(q:∀rs f o',n0 m rs f->rs≠[]->rs.length<=most->fY o' (n+100)->Q (standD rs f,o'::T)):W (dX 3 ft [.ref 0,.int m,.int most] (o::T)) Q:=by
 refine wa rfl rfl Z ?_;unfold ft;refine nr ?_;unfold iE;have tl:∀(a b:Ob),(a::(T++[b]))[T.length+1]?=some b:=fun a b=>by rw[gC1,ee];rfl
 have Y:∀(a b c:Ob),(a::(T++[b])).set (T.length+1) c=a::(T++[c]):=fun a b c=>by rw[c9,c6 _ _ (nR1 _),cQ];rfl
 refine eF (fun r V=>V=o::(T++[.lst (eP (List.range m))])/\r=[some (.ref 0),some (.int (m:Nat)),some (.int (most:Nat)),some (.ref (T.length+1)),none]) ?_ ?_
 ·unfold eh;rw[d4];refine Hx (k:=m) (S1:=o::T) rfl (by lia) ?_;rw[kb];exact W.of rfl ⟨rfl,rfl,rfl⟩
 rintro r V ⟨rfl,rfl⟩;refine eF (fun r V=>∃rs o',rs≠[]/\rs.length<=most/\rs.length<=m/\(∀x∈rs,x<m)/\fY o' (n+50)/\V=o'::(T++[.lst (eP rs)])/\r=[some (.ref 0),some (.int (m:Nat)),some (.int (most:Nat)),some (.ref (T.length+1)),none]) ?_ ?_
 ·refine x4 (fun k r V=>∃rs o',rs.length=k+1/\k+1<=m/\(∀x∈rs,x<m)/\fY o' (n+2*(m-(k+1)))/\V=o'::(T++[.lst (eP rs)])/\r=[some (.ref 0),some (.int (m:Nat)),some (.int (most:Nat)),some (.ref (T.length+1)),none]) ?_ 100000 (m-1) _ _ (by lia) ⟨List.range m,o,by rw[dA];lia,by lia,fun x H=>aB.mp H,ho.more (by lia),rfl,rfl⟩;rintro k r V ⟨rs,M,E,hkm,l,v,rfl,rfl⟩;unfold gX;walk_at"w";refine eG (tl M (.lst (eP rs))) ?_;walk_at"w";refine fA v (by lia) (by lia) (by lia) fun t B h O=>?_;walk_at"w";rw[jB,E];by_cases z:1+t<k+1
  ·rw[if_pos (by rw[decide_eq_true_eq];push_cast;lia)];refine⟨by lia,?_⟩;unfold gW fi;rw[d4];refine iF ?_;walk_at"w";refine⟨T.length+1,eP rs,rfl,tl _ _,?_⟩
   try walk_at"w"
   refine eG (tl B (.lst (eP rs))) ?_
   try walk_at"w"
   rw[jB,E];refine fA h (by lia) (by push_cast;lia) (by push_cast;lia) fun i p g hi=>?_
   try walk_at"w"
   have F:i<rs.length:=by rw[E];lia
   refine Ft (xs:=eP rs) (x:=.int (rs[i]'hi2:Nat)) (tl _ _) (by unfold eP;rw[gP1,gG1 F];rfl) (by lia) ?_;rw[Y,zm];refine⟨rs.eraseIdx i,p,by rw[cJ F];lia,by lia,fun x H=>l x (List.mem_of_mem_eraseIdx H),g.more (by lia),rfl,trivial⟩
  ·rw[if_neg (by rw[decide_eq_true_eq];push_cast;lia)];exact⟨rs,B,fun z=>(by rw[z]at E;cases E),by lia,by lia,l,h.more (by lia),rfl,trivial⟩
 rintro r V ⟨rs,M,J,w,X,l,v,rfl,rfl⟩;refine eF (fun r V=>∃(a:Nat) (o':Ob),a<2/\fY o' (n+51)/\V=o'::(T++[.lst (eP rs)])/\r=[some (.ref 0),some (.int (m:Nat)),some (.int (most:Nat)),some (.ref (T.length+1)),some (.int (a:Nat))]) ?_ ?_
 ·walk_at"w";refine fA v (by lia) (by lia) (by lia) fun t B h O=>?_;exact⟨t,B,by lia,h,rfl,rfl⟩
 rintro r V ⟨a,B,ha,h,rfl,rfl⟩;walk_at"w";refine eG (tl _ _) ?_;walk_at"w";rw[Int.toNat_natCast];refine⟨fW (by lia),?_⟩;refine ji (fun i C r V=>∃f p x,i<=m/\C=eP f/\f.length<=i/\(∀y∈f,y<m)/\fY p (n+51+i)/\V=p::(T++[.lst (eP rs)])/\r=[x,some (.int (a:Nat)),some (.ref 0)]) _ 0 [] _ _ ⟨[],B,_,bi _,rfl,nR1 _,fun y u=>(by cases u),h,rfl,rfl⟩ (fun _ _ _ _ _=>rfl) ?_ ?_
 ·rintro i d s C r V ⟨f,p,x,hi,rfl,I,j,g,rfl,rfl⟩;have A:=(gE1.mp s).1;rw[fB]at A;rw[bP]at *
  have L:d = .int (i:Nat):=by
   rw[kb,gP1,cN A]at s;exact(Option.some.inj s).symm
  subst L;walk_at"w";refine fA g (by lia) (by lia) (by lia) fun t P G O=>?_;have S:∀K,jo (.int (a:Int)) (.int (t:Int)) K=some (.int ((a:Int)*(t:Int)),K):=fun K=>by
   simp only[jo];rw[if_pos (oE (by lia) (by lia))]
  ((try walk_at"w");repeat(simp only[S];try walk_at"w"))
  split
  ·exact ⟨f++[i],P,_,by lia,by simp [eP],by rw [lA1];simp;lia,fun y u=>by
    rcases aG.mp u with u|u
    ·exact j y u
    ·rw[cY.mp u];exact A,G.more (by lia),rfl,rfl⟩
  ·exact⟨f,P,_,by lia,rfl,by lia,j,G.more (by lia),rfl,rfl⟩
 ·rintro xs r V ⟨f,p,x,hi,e,I,j,g,rfl,rfl⟩;rw[c4]at e;subst e;rw[fB,bP]at *
  walk_at"w";refine⟨d9 (by rw[jB];lia),?_⟩;refine eG (xs:=eP f) (by rw[gC1,g0];rfl) ?_;exact⟨standD rs f,p,[.lst (eP rs),.lst (eP f)],by simp[standD],gF rs f 0,g.und,q rs f p ⟨by lia,by lia,l,j⟩ J w (g.more (by lia))⟩
theorem wj{f:FN}{n h:Nat}{es:List D}{o:Ob}{S:Sto}{Q:D×Sto->Prop}(hn:es.length+1=n)(he:D.unds 0 es=true)(i:S[h]? = some o)(ho:o.und 0=true)(q:W (dX n f (.ref 0::es) [o]) fun p=>∃o' G,p.2=o'::G/\o'.und 0=true/\(if p.1.und 0=true then G=[]/\Q (p.1,S.set h o')else(p.1.mv h S.length).und S.length=false/\Q (p.1.mv h S.length,S.set h o'++G.map (Ob.mv h S.length)))):W (dX n (apart f) (.ref h::es) S) Q:=by
 obtain⟨⟨d,j⟩,e,o',G,g,c,a⟩:=q;dsimp only at g a;subst g;unfold dX at e ⊢;rw[if_pos (by simpa using hn)]at e ⊢;have b:D.unds 0 (.ref h::es)=false:=by simp[D.unds,D.und]
 unfold lR;rw[if_neg (by rw[b];decide)];unfold apart;dsimp only;rw[if_pos he,i,oS1,if_pos ho,e,oS1];dsimp only;rw[if_pos c];cases hd:d.und 0 with
 |true=>
  rw[hd,if_pos rfl]at a;rw[if_pos rfl,oP1,gc_same (by simp)];exact⟨_,rfl,a.2⟩
 |false=>
  rw[hd,if_neg (by decide)]at a;rw[if_neg (by decide),oP1];have:gc S.length (d.mv h S.length,S.set h o'++G.map (Ob.mv h S.length))=(d.mv h S.length,S.set h o'++G.map (Ob.mv h S.length)):=by
   unfold gc;rw[a.1];rfl
  rw[this];exact⟨_,rfl,a.2⟩
mutual
theorem mZ{h n:Nat}:∀{d:D},d.und 0=true->d.mv h n=d
 | .non,_=>rfl
 | .bl _,_=>rfl
 | .int _,_=>rfl
 | .str _,_=>rfl
 | .tup xs,q=>by rw[D.und]at q;rw[D.mv,mh q]
 | .rol xs,q=>by rw[D.und]at q;rw[D.mv,mh q]
 | .fn _,_=>rfl
 | .ref k,q=>by simp[D.und]at q
theorem mh{h n:Nat}:∀{ds:List D},D.unds 0 ds=true->D.mvs h n ds=ds
 |[],_=>rfl
 |d::ds,q=>by
  rw[D.unds,bA1]at q;rw[D.mvs,mZ q.1,mh q.2]
end
theorem zf{h n:Nat}:∀{o:Ob},o.und 0=true->o.mv h n=o
 | .lst xs,q=>by rw[Ob.und]at q;rw[Ob.mv,mh q]
 | .dct xs,q=>by
  rw[Ob.und]at q;rw[Ob.mv]
  congr 1
  induction xs with
  |nil=>rfl
  |cons p xs ih=>rw[mP1,D.unds,bA1]at q;rw[mP1,mZ q.1,ih q.2]
 | .dcT xs,q=>by
  rw[Ob.und]at q;rw[Ob.mv]
  congr 1
  induction xs with
  |nil=>rfl
  |cons p xs ih=>rw[mP1,D.unds,bA1]at q;rw[mP1,mZ q.1,ih q.2]
 | .dcF xs,q=>by
  rw[Ob.und]at q;rw[Ob.mv]
  congr 1
  induction xs with
  |nil=>rfl
  |cons p xs ih=>rw[mP1,D.unds,bA1]at q;rw[mP1,mZ q.1,ih q.2]
 | .iset _,_=>rfl
 | .tst _,_=>rfl
theorem vq{h n:Nat}:∀{G:Sto},G.all (Ob.und 0)=true->G.map (Ob.mv h n)=G
 |[],_=>rfl
 |o::G,q=>by
  rw[bR,bA1]at q;rw[mP1,zf q.1,vq q.2]
structure eZ where
 m:Nat
 w:ew
 e:E4
 F:List (TK×D)
 L:List Rw
 rs:List Nat
 cs:List Nat
 Ws:List Wh
 k:Nat
 j:Nat
 few:Nat
def eZ.d(x:eZ):D:=.tup [webD x.w,mcD x.e x.L,standD x.rs x.cs,.ref x.j,.int x.few]
structure eZ.Ok (x:eZ)(S:Sto):Prop where
 st:n0 x.m x.rs x.cs
 hF:RN x.e x.F
 rl:RL x.e (fX x.F) x.L
 wk:l5 x.m x.w x.e x.F x.k x.Ws
 h0:x.Ws[0]?=some (fI x.rs x.cs)
 lt:x.few<x.Ws.length
 le:x.few<=400
 at_:S[x.j]?=some (.lst (x.Ws.map gA))
theorem eZ.Ok.app{x:eZ}{S G:Sto}(h:x.Ok S):x.Ok (S++G):=⟨h.st,h.hF,h.rl,h.wk,h.h0,h.lt,h.le,by rw[gL1 (gE1.mp h.at_).1];exact h.at_⟩
theorem eZ.Ok.tr{x:eZ}{S S':Sto}(h:x.Ok S)(e:S'[x.j]?=S[x.j]?):x.Ok S':=⟨h.st,h.hF,h.rl,h.wk,h.h0,h.lt,h.le,e.trans h.at_⟩
theorem eZ.und{x:eZ}{S:Sto}(h:x.Ok S){n:Nat}(a:x.j<n):x.d.und n=true:=by
 have h1:=fr (n:=n) (fL x.w);have h2:=fr (n:=n) (mi (e:=x.e) h.rl.ok);have b:=gF x.rs x.cs n;simp[eZ.d,D.und,D.unds,h1,h2,b,a]
theorem yE{n:Nat}{xs:List D}{m:FE}{r:Ev}{S:Sto}(hm:m r S=some (.ref n,S))(h:S[n]?=some (.lst xs)):oG m (m1 (b1 sD) (mC (D.int 1))) r S=some (.ref S.length,S++[.lst xs.reverse]):=by
 unfold oG;rw[hm];have a:m1 (b1 sD) (mC (D.int 1)) r S=some (.int (-1),S):=rfl;simp[a,DP,gR h]
theorem uK{S:Sto}{n k:Nat}(h:S.all (Ob.und n)=true)(hk:n<=k):S.all (Ob.und k)=true:=by
 rw[bD]at h ⊢;exact fun x a=>gJ hk (h x a)
theorem wl{S:Sto}{n i:Nat}{o:Ob}(h:S.all (Ob.und n)=true)(ho:o.und n=true):(S.set i o).all (Ob.und n)=true:=by
 rw[bD]at h ⊢;intro x a;rcases List.mem_or_eq_of_mem_set a with z|z
 ·exact h x z
 ·rw[z];exact ho
def kl(KS:List eZ):Ob:=.lst (KS.map eZ.d)
structure St (V:Sto)(KS:List eZ)(h:Nat)(o:Ob):Prop where
 l0:V[0]?=some (kl KS)
 hd:V[h]?=some o
 pos:0<h
 cl:V.all (Ob.und V.length)=true
 ks:∀x∈KS,x.Ok V/\0<x.j/\x.j≠h/\x.j<V.length
theorem St.hand{V:Sto}{KS:List eZ}{h:Nat}{o o':Ob}(s:St V KS h o)(ho:o'.und 0=true):St (V.set h o') KS h o':=by
 have e:=(gE1.mp s.hd).1;have g:=s.pos;refine⟨by rw[gS1 (by lia)];exact s.l0,aI e,g,by rw[aW];exact wl s.cl (gJ (bi _) ho),fun x f=>?_⟩;obtain⟨a,b,c,d⟩:=s.ks x f;exact⟨a.tr (gS1 (Ne.symm c)),b,c,by rw[aW];exact d⟩
theorem St.more{V G:Sto}{KS:List eZ}{h:Nat}{o:Ob}(s:St V KS h o)(f:G.all (Ob.und 0)=true):St (V++G) KS h o:=by
 have e:=(gE1.mp s.hd).1;have i:=(gE1.mp s.l0).1;refine⟨by rw[gL1 i];exact s.l0,by rw[gL1 e];exact s.hd,s.pos,?_,fun x g=>?_⟩
 ·rw[dz,uK s.cl (by rw[lA1];lia),Hs f];rfl
 ·obtain⟨a,b,c,d⟩:=s.ks x g;exact⟨a.app,b,c,by rw[lA1];lia⟩
theorem St.keep{V:Sto}{KS:List eZ}{h:Nat}{o:Ob}{x:eZ}(s:St V KS h o)(hx:x.Ok V)(h1:0<x.j)(h2:x.j≠h):St (V.set 0 (kl (KS++[x]))) (KS++[x]) h o:=by
 have g:=(gE1.mp s.l0).1;have i:=s.pos;have f:=(gE1.mp hx.at_).1;have all:∀y∈KS++[x],y.Ok V/\0<y.j/\y.j≠h/\y.j<V.length:=fun y e=>by
  rcases aG.mp e with e|e
  ·exact s.ks y e
  ·rw[cY.mp e];exact⟨hx,h1,h2,f⟩
 refine⟨aI g,by rw[gS1 (by lia)];exact s.hd,i,?_,fun y e=>?_⟩
 ·rw[aW];refine wl s.cl ?_;unfold kl;rw[Ob.und];exact Mi.eK fun y e=>eZ.und (all y e).1 (all y e).2.2.2
 ·obtain⟨a,b,c,d⟩:=all y e;exact⟨a.tr (gS1 (by lia)),b,c,by rw[aW];exact d⟩
theorem kM{f:FN}{n h:Nat}{es:List D}{o:Ob}{S:Sto}{Q:D×Sto->Prop}(hn:es.length+1=n)(he:D.unds 0 es=true)(a:S[h]? = some o)(ho:o.und 0=true)(q:W (dX n f (.ref 0::es) [o]) fun p=>∃o',p.2=[o']/\o'.und 0=true/\p.1.und 0=true/\Q (p.1,S.set h o')):W (dX n (apart f) (.ref h::es) S) Q:=
 wj hn he a ho (q.mono fun p ⟨o',e,h1,h2,b⟩=>⟨o',[],e,h1,by rw[if_pos h2];exact⟨rfl,b⟩⟩)
theorem pK{h n:Nat}{k:Int}{o:Ob}{S:Sto}{Q:D×Sto->Prop}(e:S[h]? = some o)(ho:fY o n)(hn:n<=2^50)(hk:0<k)(b:k<1073741824)(q:∀(d:Nat) o',fY o' (n+1)->(d:Int)<k->Q (.int d,S.set h o')):W (dX 2 (apart dV) [.ref h,.int k] S) Q:=by
 refine kM rfl rfl e ho.und ?_;refine fA ho hn hk b fun d o' a c=>?_;exact⟨o',rfl,a.und,rfl,q d o' a c⟩
theorem sM{m:Nat}{w:ew}{e:E4}{rs cs:List Nat}{o:Ob}{n b h:Nat}{KS:List eZ}{V:Sto}{Q:D×Sto->Prop}(s:St V KS h o)(hw:nI m w)(hm:m<=8)(hst:n0 m rs cs)(ho:fY o n)(hn:n<=2^35)(hb:b<=400)(d:b*rs.length<=3000)(q:∀F L c o' f,RN e F->RL e (fX F) L->l5 m w e F rs.length c->c.length=b+1->c[0]?=some (fI rs cs)->fY o' (n+100*b)->St f KS h o'->f[V.length+2]?=some (.lst (c.map gA))->Q (.tup [mcD e L,.ref (V.length+2)],f)):
  W (dX 5 (apart eH) [.ref h,webD w,eyD e,standD rs cs,.int b] V) Q:=by
 refine wj rfl (by simp[D.unds,fL,kA,gF];rfl) s.hd ho.und ?_;refine Cs hw hm hst ho hn hb d fun F L c o' G p j l i g a k h2=>?_;refine⟨o',G,rfl,a.und,?_⟩;have t:(D.tup [mcD e L,.ref 3]).und 0=false:=by simp[D.und,D.unds]
 rw[t,if_neg (by decide)];have u:=(gE1.mp s.hd).1;have r:(D.tup [mcD e L,.ref 3]).mv h V.length = .tup [mcD e L,.ref (V.length+2)]:=by
  rw[D.mv,D.mvs,D.mvs,D.mvs,mZ (mi j.ok)];rfl
 rw[r,vq k];refine⟨by simp[D.und,D.unds],?_⟩;refine q F L c o' (V.set h o'++G) p j l i g a ((s.hand a.und).more k) ?_;rw[gR1 (by rw[aW];lia),aW,show V.length+2-V.length=2 by lia];exact h2
structure tz (V:Sto)(KS:List eZ):Prop where
 l0:V[0]?=some (kl KS)
 cl:V.all (Ob.und V.length)=true
 ks:∀x∈KS,x.Ok V/\0<x.j/\x.j<V.length
theorem St.base{V:Sto}{KS:List eZ}{h:Nat}{o:Ob}(s:St V KS h o):tz V KS:=⟨s.l0,s.cl,fun x a=>⟨(s.ks x a).1,(s.ks x a).2.1,(s.ks x a).2.2.2⟩⟩
theorem tz.hand{V:Sto}{KS:List eZ}{o:Ob}(s:tz V KS)(ho:o.und 0=true):St (V++[o]) KS V.length o:=by
 have e:=(gE1.mp s.l0).1;refine⟨by rw[gL1 e];exact s.l0,by rw[ee];rfl,by lia,?_,fun x d=>?_⟩
 ·rw[dz,uK s.cl (by rw[lA1];lia),bR,gJ (bi _) ho];rfl
 ·obtain⟨a,b,c⟩:=s.ks x d;exact⟨a.app,b,by lia,by rw[lA1];lia⟩
theorem Cf(ns:List Int)(k:Int)(h0:0<=k)(hk:k<63){S:Sto}{Q:D×Sto->Prop}(q:∀o,fY o 0->Q (.ref S.length,S++[o])):W (dX 2 fC [.rol (ns.map D.int),.int k] S) Q:=by
 obtain⟨g,m,e⟩:=zV ns k h0 hk;refine⟨_,sY (n:=2) e rfl (by rw[D.unds,D.und,oe];rfl) (by simp[D.und]),?_⟩;have:=q (hnd g m 0) ⟨_,_,_,rfl,Int.le_refl _,Int.le_refl _⟩;simpa[D.sh,Ob.sh,D.shs,hnd]using this
theorem Fs{m:Nat}(hm:m<=8){rs cs:List Nat}(h:n0 m rs cs):n0 m (List.range m) cs:=⟨by rw[dA];exact hm,h.cl,fun r a=>aB.mp a,h.cs⟩
def rT(N:D)(k:Int)(y3 y4 y5 y6 y7 y8 y9:Option D)(y10:Option D):Ev:=[some N,some (.ref 0),some (.int k),y3,y4,y5,y6,y7,y8,y9,y10]
theorem Dq(ns:List Int)(k:Int)(h0:0<=k)(hk:k<63){S:Sto}{KS:List eZ}{y3 y4 y5 y6 y7 y8 y9 y10:Option D}(s:tz S KS)(hKS:KS.length<=50):
  W (pZ (rT (.rol (ns.map D.int)) k y3 y4 y5 y6 y7 y8 y9 y10) S) fun p=>p.1 = .nx /\ ∃KS' z3 z4 z5 z6 z7 z8 z9,tz p.2.2 KS'/\KS'.length=KS.length+2/\p.2.1=rT (.rol (ns.map D.int)) k z3 z4 z5 z6 z7 z8 z9 y10:=by
 unfold pZ;have hN:=fun{S:Sto} {Q} q=>Cf ns k h0 hk (S:=S) (Q:=Q) q;generalize hNe:D.rol (ns.map D.int)=N at *
 have hlt0:=(gE1.mp s.l0).1;refine eF (fun r V=>∃o,fY o 0/\St V KS S.length o/\r=rT N k (some (.ref S.length)) y4 y5 y6 y7 y8 y9 y10) ?_ ?_
 ·unfold rT;walk_at"w";refine hN fun o i=>?_;exact⟨o,i,s.hand i.und,rfl⟩
 rintro r V ⟨o,i,g,rfl⟩;generalize S.length=h at *
 refine eF (fun r V=>∃(m:Nat) (w:ew) (e:E4) (o:Ob),0<m/\m<=8/\nI m w/\fY o 200/\St V KS h o/\r=rT N k (some (.ref h)) (some (webD w)) (some (eyD e)) y6 y7 y8 y9 y10) ?_ ?_
 ·unfold rT;walk_at"w";refine kM rfl rfl g.hd i.und ?_;refine FR (T:=[]) i (by lia) rfl fun m w y K Y hw f=>?_;refine⟨y,rfl,f.und,fL w,?_⟩;have n:=g.hand f.und;walk_at"w";refine kM rfl rfl n.hd f.und ?_;refine Fb (T:=[]) f (by lia) rfl fun a b c d o3 O=>?_;refine⟨o3,rfl,O.und,kA (a,b,c,d),?_⟩;have z:=n.hand O.und;exact⟨m,w,(a,b,c,d),o3,K,Y,hw,O.more (by lia),z,rfl⟩
 rintro r V ⟨m,w,e,o,K,Y,hw,i,g,rfl⟩;refine eF (fun r V=>∃(rs u:List Nat) (o:Ob),n0 m rs u/\rs≠[]/\rs.length<=4/\fY o 400/\St V KS h o/\r=rT N k (some (.ref h)) (some (webD w)) (some (eyD e)) (some (standD rs u)) y7 y8 y9 y10) ?_ ?_
 ·unfold rT
  ((try walk_at"w");repeat(simp only[qj];try walk_at"w"))
  rw[hw.len];refine kM rfl rfl g.hd i.und ?_;refine tY (T:=[]) (most:=4) K Y (by lia) (by lia) i (by lia) rfl fun rs u y A hne hl f=>?_;refine⟨y,rfl,f.und,gF rs u 0,?_⟩;exact⟨rs,u,y,A,hne,hl,f.more (by lia),g.hand f.und,rfl⟩
 rintro r V ⟨rs,u,o,A,hne,hrl,i,g,rfl⟩;refine eF (fun r V=>∃(b:Nat) (o:Ob),b<=400/\fY o 401/\St V KS h o/\r=rT N k (some (.ref h)) (some (webD w)) (some (eyD e)) (some (standD rs u)) (some (.int (b:Nat))) y8 y9 y10) ?_ ?_
 ·unfold rT;walk_at"w";refine pK g.hd i (by lia) (by lia) (by lia) fun t y f ht=>?_;exact⟨t,y,by lia,f,g.hand f.und,rfl⟩
 rintro r V ⟨b,o,hb,i,g,rfl⟩;refine eF (fun r V=>∃(b:Nat) (o:Ob),b<=400/\fY o 402/\St V KS h o/\r=rT N k (some (.ref h)) (some (webD w)) (some (eyD e)) (some (standD rs u)) (some (.int (b:Nat))) y8 y9 y10) ?_ ?_
 ·unfold rT;walk_at"w";split
  ·refine pK g.hd i (by lia) (by lia) (by lia) fun t y f ht=>?_;walk_at"w";split
   ·exact⟨400,y,by lia,f,g.hand f.und,rfl⟩
   ·exact⟨b,y,hb,f,g.hand f.und,rfl⟩
  ·exact⟨b,o,hb,i.more (by lia),g,rfl⟩
 rintro r V ⟨b,o,hb,i,g,rfl⟩;have hlim:b*rs.length<=3000:=aC (Nat.mul_le_mul hb hrl) (by decide)
 -- the first walk
 refine eF (fun r V=>∃F L l j o,RN e F/\RL e (fX F) L/\l5 m w e F rs.length l/\l.length=b+1/\l[0]?=some (fI rs u)/\fY o 50000/\St V KS h o/\V[j]?=some (.lst (l.map gA))/\0<j/\j≠h/\r=rT N k (some (.ref h)) (some (webD w)) (some (eyD e)) (some (standD rs u)) (some (.int (b:Nat))) (some (mcD e L)) (some (.ref j)) y10) ?_ ?_
 ·unfold rT;walk_at"w";refine sM g hw Y A i (by lia) hb hlim fun F L l y V2 G J I B v f n P=>?_;walk_at"w";have hlt:=(gE1.mp g.hd).1;exact⟨F,L,l,_,y,G,J,I,B,v,f.more (by lia),n,P,by lia,by lia,rfl⟩
 rintro r V ⟨F,L,l,j,o,G,J,I,B,v,i,g,hj,U,E,rfl⟩;refine eF (fun r Z=>Z=V/\r=rT N k (some (.ref h)) (some (webD w)) (some (eyD e)) (some (standD rs u)) (some (.int (b:Nat))) (some (mcD e L)) (some (.ref j)) y10) ?_ ?_
 ·unfold rT;walk_at"w";refine pU A G J I v (by lia) hb hj g.cl ?_;walk_at"w"
 rintro r Z ⟨rfl,rfl⟩;refine eF (fun r V=>∃C o,C.length=KS.length+1/\fY o 50001/\St V C h o/\r=rT N k (some (.ref h)) (some (webD w)) (some (eyD e)) (some (standD rs u)) (some (.int (b:Nat))) (some (mcD e L)) (some (.ref j)) y10) ?_ ?_
 ·unfold rT fi;rw[d4];refine iF ?_;walk_at"w";refine⟨0,_,rfl,g.l0,?_⟩
  try walk_at"w"
  rw[show((b:Int)+1)=((b+1:Nat):Int) by push_cast;rfl];refine pK g.hd i (by lia) (by push_cast;lia) (by push_cast;lia) fun t y f ht=>?_
  try walk_at"w"
  have n:=g.hand f.und;refine(lU n.l0).mpr ⟨d9 (by rw[lM1];lia),?_⟩;have hj2:(Z.set h y)[j]?=some (.lst (l.map gA)):=by rw[gS1 (Ne.symm E)];exact hj
  have z:=n.keep (x:=⟨m,w,e,F,L,rs,u,l,rs.length,j,t⟩) ⟨A,G,J,I,v,by show t<l.length;push_cast at ht;lia,by show t<=400;push_cast at ht;lia,hj2⟩ U E;unfold kl at z;rw[cG]at z;exact⟨_,y,by rw[lA1];rfl,f,z,trivial⟩
 rintro r V ⟨C,o,hK1,i,g,rfl⟩
 -- a walker in each room
 refine eF (fun r Z=>Z=V/\r=rT N k (some (.ref h)) (some (webD w)) (some (eyD e)) (some (standD (List.range m) u)) (some (.int (b:Nat))) (some (mcD e L)) (some (.ref j)) y10) ?_ ?_
 ·have et:∀ r V,zz (dS (mN (b1 eS) (dS (mV 4) dU)) dU) (rT N k (some (.ref h)) (some (webD w)) (some (eyD e)) (some (standD rs u)) (some (.int (b:Nat))) (some (mcD e L)) r y10) V=some (.tup (eP (List.range m)),V):=fun r V=>by
   have e1:dS (mN (b1 eS) (dS (mV 4) dU)) dU (rT N k (some (.ref h)) (some (webD w)) (some (eyD e)) (some (standD rs u)) (some (.int (b:Nat))) (some (mcD e L)) r y10) V=some ([.int (m:Nat)],V):=by
    simp only[rT,dS,dU,mN,mV,b1,gC1,dk,oS1,qj,hw.len]
   unfold zz;rw[e1,oS1];dsimp only;rw[if_pos (by
    unfold oo;simp only[bA1,decide_eq_true_eq];lia),Int.toNat_natCast,kb]
   rfl
  have e2:=et (some (.ref j)) V;unfold rT at e2 ⊢;generalize zz (dS (mN (b1 eS) (dS (mV 4) dU)) dU)=M at *
  ((try walk_at"w");repeat(simp only[e2,yq];try walk_at"w"))
  rfl
 rintro r Z ⟨rfl,rfl⟩;have H:=Fs Y A;have R:8*(List.range m).length<=3000:=by rw[dA];lia
 refine eF (fun r V=>∃F L l j o,RN e F/\RL e (fX F) L/\l5 m w e F (List.range m).length l/\l.length=9/\l[0]?=some (fI (List.range m) u)/\fY o 60000/\St V C h o/\V[j]?=some (.lst (l.map gA))/\0<j/\j≠h/\r=rT N k (some (.ref h)) (some (webD w)) (some (eyD e)) (some (standD (List.range m) u)) (some (.int (b:Nat))) (some (mcD e L)) (some (.ref j)) y10) ?_ ?_
 ·unfold rT;walk_at"w";refine sM (b:=8) g hw Y H i (by lia) (by lia) R fun F L l y V2 G J I B v f n P=>?_;walk_at"w";have hlt:=(gE1.mp g.hd).1;exact⟨F,L,l,_,y,G,J,I,B,v,f.more (by lia),n,P,by lia,by lia,rfl⟩
 rintro r V ⟨F,L,l,j,o,G,J,I,B,v,i,g,hj,U,E,rfl⟩;unfold rT fi;rw[d4];refine iF ?_;walk_at"w";refine⟨0,_,rfl,g.l0,?_⟩
 try walk_at"w"
 refine(lU g.l0).mpr ⟨d9 (by rw[lM1];lia),?_⟩;have z:=g.keep (x:=⟨m,w,e,F,L,List.range m,u,l,(List.range m).length,j,8⟩) ⟨H,G,J,I,v,by show 8<l.length;lia,by show 8<=400;lia,hj⟩ U E;have X:=z.base;unfold kl at X;rw[cG]at X;exact⟨_,_,_,_,_,_,_,_,X,by rw[lA1,hK1];rfl,rfl⟩
theorem eZ.few0{x:eZ}{S:Sto}(h:x.Ok S):0<x.Ws.length:=by
 have:=h.lt;lia
theorem CJ{N:D}{x:eZ}{S:Sto}{c y3 y4 y5 y6 y7 y8 y9 y10:Option D}{Q:Fl×Ev×Sto->Prop}(h:x.Ok S)(a:S.all (Ob.und S.length)=true)(q:Q (.nx,[some N,some (.ref 0),c,y3,some (webD x.w),y5,some (standD x.rs x.cs),y7,some (mcD x.e x.L),some (.ref x.j),some (.int x.few)],S)):
  W (pY [some N,some (.ref 0),c,y3,some (webD x.w),y5,some (standD x.rs x.cs),y7,some (mcD x.e x.L),some (.ref x.j),some (.int x.few)] S) Q:=by
 unfold pY;walk_at"w";refine pU h.st h.hF h.rl h.wk h.h0 h.lt h.le h.at_ a ?_;walk_at"w";refine pU (b:=0) h.st h.hF h.rl h.wk h.h0 (eZ.few0 h) (bi _) h.at_ a ?_;walk_at"w";exact q
theorem truth(ns:List Int)(hl:ns.length<=63):∃S,m_law [.rol (ns.map D.int)] []=some (.bl true,S):=by
 have key:W (m_law [.rol (ns.map D.int)] []) fun p=>p.1 = .bl true:=by
  unfold m_law;refine nr ?_;unfold AC;have ht:=fun k J hk {S KS q n m v u o l z} s H=>Dq ns k J hk (S:=S) (KS:=KS) (y3:=q) (y4:=n) (y5:=m) (y6:=v) (y7:=u) (y8:=o) (y9:=l) (y10:=z) s H;generalize X:D.rol (ns.map D.int)=N at *
  have F:∀S,eS N S=some (.int ns.length,S):=fun S=>by rw[<- X];simp[eS,d5]
  have Z:tz [kl []] []:=⟨rfl,rfl,fun x j=>by cases j⟩;refine eF (fun r S=>S=[kl []]/\r=[some N,some (.ref 0),none,none,none,none,none,none,none,none,none]) ?_ ?_
  ·walk_at"w";exact⟨rfl,trivial⟩
  rintro r S ⟨rfl,rfl⟩;refine eF (fun r S=>∃KS w q n m v u o l,tz S KS/\KS.length<=20/\r=[some N,some (.ref 0),w,q,n,m,v,u,o,l,none]) ?_ ?_
  ·simp only [iT,d4,Dd,dS,mN,mC,mV,dU,b1,b2,Ci,Ch,F,eB,oS1,dk,Gg];have hb:∃ t:Nat,t<=4/\(if (if (ns.length:Int)<4 then (ns.length:Int) else 4)>1 then (if (ns.length:Int)<4 then (ns.length:Int) else 4) else 1)=(t:Int):=by
    by_cases h1:(ns.length:Int)<4
    ·rw[if_pos h1];by_cases h2:(ns.length:Int)>1
     ·rw[if_pos h2];exact⟨ns.length,by lia,rfl⟩
     ·rw[if_neg h2];exact⟨1,by lia,rfl⟩
    ·rw[if_neg h1];exact⟨4,by lia,by decide⟩
   obtain⟨t,t1,te⟩:=hb;rw[te,Int.toNat_natCast];refine⟨fW (by lia),?_⟩;refine fV (fun i r S=>∃KS w q n m v u o l,i<=t/\tz S KS/\KS.length=2*i/\r=[some N,some (.ref 0),w,q,n,m,v,u,o,l,none]) _ 0 _ _ ⟨[],_,_,_,_,_,_,_,_,bi _,Z,rfl,rfl⟩ (fun _ _ _ _=>rfl) ?_ ?_
   ·rintro i d E r S ⟨KS,w,q,n,m,v,u,o,l,hi,y,P,rfl⟩;have O:=(gE1.mp E).1;rw[fB]at O;obtain⟨k,e,k0,k1⟩:=r4 (gM1 E);subst e;simp only[gN,c9,c7,eB];refine(ht k k0 (by lia) y (by lia) (y3:=q) (y4:=n) (y5:=m) (y6:=v) (y7:=u) (y8:=o) (y9:=l) (y10:=none)).mono ?_;rintro⟨f,r2,B⟩ ⟨hf,I,z3,z4,z5,z6,z7,z8,z9,K,U,hr⟩;exact⟨hf,I,_,_,_,_,_,_,_,_,by lia,K,by lia,hr⟩
   ·rintro r S ⟨KS,w,q,n,m,v,u,o,l,hi,y,P,rfl⟩;rw[fB,bP]at P;exact⟨rfl,KS,_,_,_,_,_,_,_,_,y,by lia,rfl⟩
  rintro r S ⟨KS,w,q,n,m,v,u,o,l,y,P,rfl⟩;refine eF (fun r S=>True) ?_ fun r S _=>?_
  ·have C:oG (mV 1) (m1 (b1 sD) (mC (D.int 1))) [some N,some (.ref 0),w,q,n,m,v,u,o,l,none] S=some (.ref S.length,S++[.lst (KS.reverse.map eZ.d)]):=by rw[List.map_reverse];exact yE rfl y.l0
   generalize oG (mV 1) (m1 (b1 sD) (mC (D.int 1)))=M at *
   have J:=(gE1.mp y.l0).1
   ((try walk_at"w");repeat(simp only[C];try walk_at"w"))
   refine(AJ (S:=S++[.lst (KS.reverse.map eZ.d)]) (a:=0) (b:=S.length) (xs:=KS.map eZ.d) (ys:=KS.reverse.map eZ.d) (by rw[gL1 J];exact y.l0) (by rw[ee];rfl)).mpr ⟨d9 (by rw[lM1,lM1,cc];lia),?_⟩;generalize A:S++[Ob.lst (KS.reverse.map eZ.d)]=B;have l2:B.length=S.length+1:=by rw[<- A];simp
   rw[<- cG];refine eG (xs:=(KS++KS.reverse).map eZ.d) (by rw[ee];rfl) ?_;have g:∀x∈KS++KS.reverse,x.Ok S/\x.j<S.length:=fun x j=>by
    have:x∈KS:=by
     rcases aG.mp j with j|j
     ·exact j
     ·exact cZ.mp j
    obtain⟨a,b,c⟩:=y.ks x this;exact⟨a,c⟩
   have L:(B++[Ob.lst ((KS++KS.reverse).map eZ.d)]).all (Ob.und (B++[Ob.lst ((KS++KS.reverse).map eZ.d)]).length)=true:=by
    have Q:(B++[Ob.lst ((KS++KS.reverse).map eZ.d)]).length=S.length+2:=by rw[lA1,l2];rfl
    rw[Q,<- A,dz,dz,uK y.cl (by lia),bR,bR,Ob.und,Ob.und];rw[Mi.eK fun x j=>eZ.und (g x (mA1 _ j)).1 (nL1 (g x (mA1 _ j)).2 (by lia))];rw[Mi.eK fun x j=>eZ.und (g x j).1 (nL1 (g x j).2 (by lia))];rfl
   refine fV (fun _ r V=>V=B++[Ob.lst ((KS++KS.reverse).map eZ.d)] /\ ∃w q n m v u o l z,r=[some N,some (.ref 0),w,q,n,m,v,u,o,l,z]) _ 0 _ _ ⟨rfl,_,_,_,_,_,_,_,_,_,rfl⟩ (fun i r V ⟨Y,_⟩=>by rw[Y];exact gY (by rw[ee];rfl)) ?_ ?_
   ·rintro i d E r V ⟨rfl,w,q,n,m,v,u,o,l,z,rfl⟩;rw [gP1] at E;obtain ⟨x,j,rfl⟩:=oM1.mp E;have T:=gM1 j;have R:x.Ok (B++[Ob.lst ((KS++KS.reverse).map eZ.d)]):=by
     have:=((g x T).1.app (G:=[Ob.lst (KS.reverse.map eZ.d)])).app (G:=[Ob.lst ((KS++KS.reverse).map eZ.d)]);rw[A]at this;exact this
    unfold eZ.d;walk_at"w";refine CJ (N:=N) (x:=x) (y4:=none) (y6:=none) (y8:=none) (y9:=none) (y10:=none) R L ?_;exact⟨rfl,rfl,_,_,_,_,_,_,_,_,_,rfl⟩
   ·rintro r V _;exact⟨rfl,trivial⟩
  ·simp only[fu,mC,oS1,eB]
 obtain⟨⟨d,S⟩,e,h⟩:=key;dsimp only at h;exact⟨S,by rw[e,h]⟩
end Law
end
open PySem PySem.W PyProof.Rows
set_option maxRecDepth 100000 in
set_option maxHeartbeats 0 in
theorem PySem.Challenge.cw_ringmeet_k29_walks_by_beats_holds : PySem.Challenge.rw_ringmeet_k29_walks_by_beats.Holds := by
 w_on;refine PySem.W.holds_law (by decide+kernel) fun d=>?_;k_head;(case hw=>w_witness2)
 k_fill
 refine Mi.walk_m (l:=PySem.Challenge.rw_ringmeet_k29_walks_by_beats) (m:=Law.m_law) (k:=6) (x:="_law_script") rfl rfl ⟨rfl,by decide,by decide,rfl⟩ (fun w h Y=>PySem.W.kIn_of Y) Law.truth ?F
 case F=>
  intro w mg f h e G b;refine' Law.all_mk e G b ?a1 ?a2 ?a3 ?a4 ?a5 ?a6 ?a7 ?a8 ?a9 ?a10 ?a11 ?a12 ?a13 ?a14 ?a15 ?a16 ?a17 ?a18 ?a19 ?a20 ?a21 ?a22 ?a23 ?a24 ?a25 ?e_PARTS ?h1 ?h2 ?h5 ?h8 ?h11 ?z
  all_goals try (refine' Mi.Hb ?a ?l ?c ?k;(case a=>k_is);(case l=>k_is);(case c=>k_is);(case k=>k_is))
  (case e_PARTS=>k_is)
  (case h1=>k_is)
  (case h2=>k_is)
  (case h5=>k_is)
  (case h8=>k_is)
  (case h11=>k_is)
  (case z=>exact ⟨by k_is,by k_is,by k_is,by k_is,by k_is,by k_is,by k_is,by k_is,by k_is,by k_is,by k_is,by k_is,by k_is,trivial⟩)

