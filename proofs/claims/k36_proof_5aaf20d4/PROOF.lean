import PyProof.Rows.All
import Wide.All
import OpenK.AllK
import Wide.FinOn
import Lean
import PyProof.EqAt
import PyProof.EqKinds
import PyProof.TupleCall
import PySem.Challenge.RW_ringmeet_k36_papers_of_any_colouring
set_option Elab.async false
set_option compiler.extract_closed false
set_option linter.all false
set_option maxRecDepth 100000
set_option maxHeartbeats 4000000
open List renaming getElem?_eq_some_iff → gE1, getElem?_append_left → gL1, getElem?_eq_getElem → gG1, mem_of_getElem? → gM1, getElem?_set_ne → gS1, length_append → lA1, length_map → lM1, getElem?_cons_succ → gC1, mem_cons_of_mem → mC1, mem_cons_self → mS1, getElem?_map → gP1, getElem?_append_right → gR1, size_toArray → sT1, map_cons → mP1, length_cons → lC1, length_replicate → lR1, mem_append_right → mA1
open Option renaming bind_eq_some_iff → oB1, map_eq_some_iff → oM1, bind_some → oS1, map_some → oP1
open Nat renaming le_refl → nR1, lt_of_lt_of_le → nL1, ne_of_lt → nN1, ne_of_gt → nG1
open Bool renaming and_eq_true → bA1, false_eq_true → bF1
open Array renaming getElem?_eq_getElem → aG1, getElem?_toList → aT1
open PySem.W renaming Frag → Fg1, nsIn → wN1, keepIn → wK1, codeIn → wC1, fnOf → wF1, mg_of → wM1
open PySem.Heap renaming get?_push_of_some → hP1, get?_push_size → hS1, lt_size → hL1, size_push → hZ1, get?_update_ne → hU1, get?_update_self → hW1
open PySem renaming wpAny_bind → wB1, wpAny_pure → wP1, wpAny_setField_rec → wS1, wpAny_newObj_type → wO1, codeAny_builtin → wD1, wpAny_call_entry → wE1
open List renaming take_nil → aa, drop_nil → ab, mem_filter → ag, mem_range → ah, filterMap_cons → aj, mem_cons → ak, mem_append → am, mem_append_left → ao, getElem?_set_self → ap, mem_filterMap → av, any_eq_false → aw, append_nil → ay, nodup_cons → az, of_mem_zip → aA, replicate → aB, length_take → aD, getElem?_replicate → aE, getElem?_take_of_lt → aF, length_drop → aG, length_set → aH, length_singleton → aJ, map_nil → aL, find?_cons → aM, any_cons → aN, length_nil → aO, cons_append → aS, range' → aU, prefix_rfl → aV, nodup_nil → aW, getElem?_of_mem → aX, map_map → aZ, prefix_append → a0, nodup_append → bb, all_eq_true → bd, mem_replicate → bg, forIn_cons → bh, lookup_cons → bi, append_assoc → bj, getD_eq_getElem?_getD → bo, zipIdx_cons → bp, not_mem_nil → bq, all_cons → bw, any_eq_true → bz, getElem_mem → bA, zip_cons_cons → bB, drop_eq_getElem_cons → bC, cons_prefix_cons → bE, take_length → bF, ext_getElem? → bH, getElem?_eq_none → bI, findIdx?_eq_some_iff_getElem → bK, foldl_cons → bM, contains_cons → bN, pairwise_cons → bO, mem_map → bQ, take_of_length_le → bS, mem_singleton → bU, length_pos_iff → bW, length_range → bY, take_append_drop → bZ, set_cons_succ → b0, map_append → b7, take_succ → b8, map_congr_left → b9, all_append → ca, nil_append → cf, mem_zipIdx_iff_getElem? → cg, getElem?_cons_zero → ci, set_cons_zero → cj, forall_mem_nil → cq, flatten_cons → cr, length_filter_le → cu, set_append_right → cv, getElem?_concat_length → cx, getElem?_zipIdx → cz, getElem?_range → cA, range_succ → cC, set_append_left → cD
open Option renaming some → ae, isSome_iff_exists → aC, isSome_map → aP, getD_some → bL, join_some → cm
open Nat renaming lt_irrefl → af, le_trans → ai, le_succ → aI, lt_trans → aQ, zero_le → aR, add_assoc → aT, le_add_right → aY, not_lt_zero → ba, min_eq_left → bc, lt_succ_self → bf, lt_of_le_of_lt → bm, le_of_succ_le → bn, succ_pos → bt, zero_add → bu, lt_or_ge → bD, lt_succ_of_lt → bV, sub_self → b5, reduceAdd → ck, lt_succ_iff_lt_or_eq → cB
open Array renaming length_toList → aq, toList → ar, forIn_toList → bG, perm_iff_toList_perm → bP, size_map → bR, toArray_toList → bT, getD_eq_getD_getElem? → b4
open Bool renaming false_ne_true → au, and_false → aK, and_true → br, or_eq_true → bv, eq_iff_iff → bx, not_true → bJ, not_false → bX, not_eq_true → b6, eq_false_iff → cc
open PySem renaming Value → cE, Shared → cF, Addr → cG, Program → cH, Around → cI, World → cJ, mainGlobals → cK, starEach → cM, sizeLine → cN, wpAny → cO, Heap → cP, FuncData → cQ, Stmt → cR, Scope → cS
noncomputable section
namespace L2
open PySem PySem.Spec PyProof.Rows
abbrev Key:=Sum Int Str
def px:Key->cE->Bool
 | .inl k,v=>Value.isInt k v
 | .inr x,v=>Value.isStrOf x v
def JE(w:cJ):Key->Int
 | .inl k=>hashInt k
 | .inr x=>hashStr w x
theorem eH:∀{k:Key} {v:cE},px k v=true->(∃i t,k=Sum.inl i/\v=Value.int i t)\/(∃x t,k=Sum.inr x/\v=Value.str x t)
 | .inl i,v,h=>by
  obtain⟨t,e⟩:=Value.isInt_shape (k:=i) (v:=v) h;exact .inl ⟨i,t,rfl,e⟩
 | .inr x,v,h=>by
  obtain⟨t,e⟩:=Value.isStrOf_shape (x:=x) (v:=v) h;exact .inr ⟨x,t,rfl,e⟩
theorem w8(i:Int)(t:Tok):px (.inl i) (.int i t)=true:=by simp[px,Value.isInt]
theorem w6(x:Str)(t:Tok):px (.inr x) (.str x t)=true:=by simp[px,Value.isStrOf]
theorem FQ(a b:Int):decide ((Sum.inl a:Key)=Sum.inl b)=(a == b):=by
 by_cases e:a=b
 ·subst e;simp
 ·have h:¬ (Sum.inl a:Key)=Sum.inl b:=fun q=>e (Sum.inl.inj q);rw[decide_eq_false h];exact(beq_eq_false_iff_ne.mpr e).symm
theorem FL(a b:Str):decide ((Sum.inr a:Key)=Sum.inr b)=decide (a=b):=by
 by_cases e:a=b
 ·subst e;simp
 ·have h:¬ (Sum.inr a:Key)=Sum.inr b:=fun q=>e (Sum.inr.inj q);rw[decide_eq_false h,decide_eq_false e]
theorem FP(a:Int)(b:Str):decide ((Sum.inl a:Key)=Sum.inr b)=false:=decide_eq_false (fun q=>nomatch q)
theorem FM(a:Str)(b:Int):decide ((Sum.inr a:Key)=Sum.inl b)=false:=decide_eq_false (fun q=>nomatch q)
def eF(prog:cH)(w:cJ):PySem.KeyKind prog w Key where
 is:=px
 hash:=JE w
 inj:=fun v a b ha hb=>by
  rcases eH ha with⟨i,t,rfl,rfl⟩|⟨x,t,rfl,rfl⟩
  ·rcases eH hb with⟨j,u,rfl,e⟩|⟨y,u,rfl,e⟩
   ·injection e with e1 _;rw[e1]
   ·exact nomatch e
  ·rcases eH hb with⟨j,u,rfl,e⟩|⟨y,u,rfl,e⟩
   ·exact nomatch e
   ·injection e with e1 _;rw[e1]
 byValue:=fun k v h=>by
  rcases eH h with⟨i,t,rfl,rfl⟩|⟨x,t,rfl,rfl⟩<;>rfl
 pyHash:=fun hv h=>by
  rcases eH hv with⟨i,t,rfl,rfl⟩|⟨x,t,rfl,rfl⟩
  ·exact wpAny_pyHash_int h
  ·exact wpAny_pyHash_str h
 eqBool:=fun hu hv h=>by
  rcases eH hu with⟨i,t,rfl,rfl⟩|⟨x,t,rfl,rfl⟩
  ·rcases eH hv with⟨j,u,rfl,rfl⟩|⟨y,u,rfl,rfl⟩
   ·rw[FQ]at h;exact wpAny_eqBool_int h
   ·rw[FP]at h;exact SeqAt.EqAt.int_str i t y u _ _ _ _ h
  ·rcases eH hv with⟨j,u,rfl,rfl⟩|⟨y,u,rfl,rfl⟩
   ·rw[FM]at h;exact SeqAt.EqAt.str_int x t j u _ _ _ _ h
   ·rw[FL]at h;exact wpAny_eqBool_str h
 «strs» :=fun k x t v h=>by
  rcases eH h with⟨i,u,rfl,e⟩|⟨y,u,rfl,e⟩
  ·exact nomatch e
  ·injection e with e1 _;subst e1;cases v<;>rfl
theorem sL(prog:cH)(w:cJ)(i:Int)(t:Tok):(eF prog w).is (.inl i) (.int i t)=true:=w8 i t
theorem sK(prog:cH)(w:cJ)(x:Str)(t:Tok):(eF prog w).is (.inr x) (.str x t)=true:=w6 x t
end L2
namespace L2
open PySem PySem.Spec PyProof.Rows
inductive V where
 |non|bl (b:Bool)|int (i:Int)|str (x:Str)|byt (b:Array UInt8)|flt (b:UInt64)|ref (a:cG)|ty (n:String)
 deriving DecidableEq
def dn:V->cE->Prop
 | .non,u=>u=Value.none
 | .bl b,u=>u=Value.bool b
 | .int i,u=>∃t,u=Value.int i t
 | .str x,u=>∃t,u=Value.str x t
 | .byt b,u=>∃t,u=Value.bytes b t
 | .flt b,u=>∃t,u=Value.float b t
 | .ref a,u=>u=Value.ref a
 | .ty n,u=>u=Value.type n
abbrev dE:List V->List cE->Prop:=Paired dn
theorem dE.length{xs:List V}{a:List cE}(r:dE xs a):xs.length=a.length:=Paired.length r
theorem dE.get:∀{xs:List V} {a:List cE} {i:Nat} {x:V},dE xs a->xs[i]?=some x -> ∃u,a[i]?=some u/\dn x u:=by
 intro xs a i x h e
 induction h generalizing i with
 |nil=>cases e
 |cons r t ih=>cases i with
  |zero=>cases e;exact⟨_,rfl,r⟩
  |succ i=>exact ih (i:=i) e
theorem dE.set{x:V}{u:cE}(r:dn x u):∀{xs:List V} {a:List cE} (i:Nat),dE xs a->dE (xs.set i x) (a.set i u):=by
 intro xs a i h
 induction h generalizing i with
 |nil=>exact .nil
 |cons q t ih=>cases i with
  |zero=>exact .cons r t
  |succ i=>exact .cons q (ih i)
theorem dE.append:∀{xs ys:List V} {a ws:List cE},dE xs a->dE ys ws->dE (xs++ys) (a++ws):=by
 intro xs ys a ws h s
 induction h with
 |nil=>exact s
 |cons r t ih=>exact .cons r ih
theorem dE.take:∀{xs:List V} {a:List cE} (n:Nat),dE xs a->dE (xs.take n) (a.take n):=by
 intro xs a n h
 induction h generalizing n with
 |nil=>rw[aa,aa];exact .nil
 |cons r t ih=>cases n with
  |zero=>exact .nil
  |succ n=>exact .cons r (ih n)
theorem dE.drop:∀{xs:List V} {a:List cE} (n:Nat),dE xs a->dE (xs.drop n) (a.drop n):=by
 intro xs a n h
 induction h generalizing n with
 |nil=>rw[ab,ab];exact .nil
 |cons r t ih=>cases n with
  |zero=>exact .cons r t
  |succ n=>exact ih n
def mD:Option V->Option cE->Prop
 |some v,some u=>dn v u
 |none,none=>True
 |_,_=>False
def KV{κ:Type}:List (κ×V)->List (κ×cE)->Prop:=Paired fun(p:κ×V) (q:κ×cE)=>p.1=q.1/\dn p.2 q.2
def kV:Key->V
 | .inl i=>.int i
 | .inr x=>.str x
inductive HO where
 /-- a list -/
 |lst (xs:List V)
 /-- a tuple (never changes) -/
 |tup (xs:List V)
 /-- a dict whose keys are ints and texts; one whose keys are tuples of ints and texts (the empty one is both) -/
 |dK (kvs:List (Key×V))|dT (kvs:List (List Key×V))
 /-- a set of ints: its members, its size -/
 |set (S:Int->Bool) (n:Nat)
 /-- an instance of the class at C, its dict at dx, its attributes -/
 |ins (C dx:cG) (fs:List (Str×V))
 /-- the dict of the instance at x -/
 |own (x:cG)
 /-- the dict of an exception -/
 |xd (fs:List (Str×V))
 /-- a bound method, f of x -/
 |met (f x:cG)
 /-- a range object lo, lo + 1, .. below hi -/
 |rng (lo hi:Int)
 /-- a thing that is known to the object (the script; a dict while a loop walks it): read, never written while it is so -/
 |frz (o:Obj) (u:HO)
 /-- a code object's table -/
 |tbl (ps:Array cE)
 /-- any other thing, by what is true of its one object (a def of one's own: SetO a S n := HO.ext fun h => ..) -/
 |ext (φ:cP->Prop)
abbrev Hp:=cG->Option HO
def upd(H:Hp)(a:cG)(o:HO):Hp:=fun b=>if b=a then some o else H b
theorem dw{H:Hp}{a:cG}{o:HO}:upd H a o a=some o:=by unfold upd;rw[if_pos rfl]
theorem dm{H:Hp}{a b:cG}{o:HO}(h:b≠a):upd H a o b=H b:=by unfold upd;rw[if_neg h]
theorem HD{H:Hp}{a b:cG}{o u:HO}(h:H a=some o)(h':H b=some u)(d:o≠u):a≠b:=by
 intro e;subst e;rw[h]at h';exact d (Option.some.inj h')
theorem dJ{H:Hp}{a b:cG}{o:HO}(h:H a=some o)(h':H b=none):a≠b:=by
 intro e;subst e;rw[h]at h';cases h'
section
variable(P:cH) (w:cJ)
def ea(H:Hp)(h:cP)(a:cG):HO->Prop
 | .lst xs=>xs.length<=cN /\ ∃(its:List cE) (n:Nat),dE xs its/\h.get? a=some {cls:=.type "list",data:=.seq its.toArray n}
 | .tup xs=>xs.length<=cN /\ ∃its:List cE,dE xs its/\IsTup h a its.toArray
 | .dK kvs=>kvs.length<=cN/\(a == sysModules)=false /\ ∃vs,KV kvs vs/\h.DictOf (eF P w) a vs
 | .dT kvs=>kvs.length<=cN/\(a == sysModules)=false /\ ∃ xs:List (List Key×cG×cE),
   Paired (fun(p:List Key×V) (q:List Key×cG×cE)=>p.1=q.1/\H q.2.1=some (.tup (p.1.map kV))/\dn p.2 q.2.2) kvs xs /\
   ∃o es ep,h.get? a=some o/\o.ExactDict/\o.data = .dict es ep/\es.toList=xs.map (entryOfKey (tupleKind (eF P w)))/\(xs.map (·.1)).Nodup
 | .set S n=>h.SetOf (intKind P w) a S n
 | .ins C dx fs=>H dx=some (.own a)/\fs.length<=1000/\dx≠a/\h.get? a=some (PySem.W.instObj C dx) /\
   ∃mA,h.Ns1 dx mA/\(∀f,mD (fs.lookup f) (mA f))/\PySem.Within mA (fs.map (·.1))
 | .own _=>∃o,h.get? a=some o
 | .xd fs=>∃mA,h.Ns1 a mA /\ ∀f,mD (fs.lookup f) (mA f)
 | .rng lo hi=>∃t u v,h.get? a=some {cls:=.type "range",data:=.fields #[.int lo t,.int hi u,.int 1 v]}
 | .frz o u=>h.get? a=some o/\ea H h a u
 | .tbl ps=>h.get? a=some {cls:=.none,data:=.fields ps}
 | .met f x=>h.get? a=some (PySem.W.methodObj (.ref f) (.ref x))
 | .ext φ=>φ h/\(∃o,h.get? a=some o) /\ ∀h1 h2:cP,φ h1->(∀o,h1.get? a=some o->h2.get? a=some o)->φ h2
def li(H:Hp)(h:cP):Prop:=∀a o,H a=some o->ea P w H h a o
end
section
variable{P:cH}{w:cJ}{H H':Hp}{h h':cP}{a:cG}{o:HO}
theorem ea.lt(x:ea P w H h a o):a<h.objs.size:=by
 cases o with
 |lst xs=>obtain⟨_,_,_,_,e⟩:=x;exact hL1 e
 |tup xs=>obtain⟨_,_,_,p⟩:=x;exact p.lt
 |dK kvs=>obtain⟨_,_,_,_,o,_,_,e,_⟩:=x;exact hL1 e
 |dT kvs=>obtain⟨_,_,_,_,o,_,_,e,_⟩:=x;exact hL1 e
 |set S n=>obtain⟨o,_,_,_,e,_⟩:=x;exact hL1 e
 |ins C dx fs=>obtain⟨_,_,_,e,_⟩:=x;exact hL1 e
 |own y=>obtain⟨_,e⟩:=x;exact hL1 e
 |xd fs=>obtain⟨_,⟨_,_,_,e,_⟩,_⟩:=x;exact hL1 e
 |rng lo hi=>obtain⟨_,_,_,e⟩:=x;exact hL1 e
 |frz b u=>obtain⟨e,_⟩:=x;exact hL1 e
 |tbl ps=>exact hL1 (show h.get? a=some _ from x)
 |met f y=>exact hL1 (show h.get? a=some _ from x)
 |ext φ=>obtain⟨_,⟨_,e⟩,_⟩:=x;exact hL1 e
theorem Paired.mapP{α β:Type}{F G:α->β->Prop}:∀{c:List α} {l₂:List β},Paired F c l₂->(∀a b,F a b->G a b)->Paired G c l₂:=by
 intro a b h f
 induction h with
 |nil=>exact .nil
 |cons r t ih=>exact .cons (f _ _ r) ih
theorem ea.stay(x:ea P w H h a o)(k:∀ b u,(b=a\/H b=some (.own a))->h.get? b=some u->h'.get? b=some u)(ho:∀b,H b=some (.own a)->H' b=some (.own a))(ht:∀b xs,H b=some (.tup xs)->H' b=some (.tup xs)):ea P w H' h' a o:=by
 induction o with
 |lst xs=>obtain⟨z,i,n,r,e⟩:=x;exact⟨z,i,n,r,k _ _ (.inl rfl) e⟩
 |tup xs=>obtain⟨z,i,r,g,e,c⟩:=x;exact⟨z,i,r,g,k _ _ (.inl rfl) e,c⟩
 |dK kvs=>obtain⟨z,y,vs,r,g,es,ep,e,c⟩:=x;exact⟨z,y,vs,r,g,es,ep,k _ _ (.inl rfl) e,c⟩
 |dT kvs=>
  obtain⟨z,y,xs,r,g,es,ep,e,c⟩:=x;exact⟨z,y,xs,Paired.mapP r fun p q z=>⟨z.1,ht _ _ z.2.1,z.2.2⟩,g,es,ep,k _ _ (.inl rfl) e,c⟩
 |set S n=>obtain⟨g,es,ep,t,e,c⟩:=x;exact⟨g,es,ep,t,k _ _ (.inl rfl) e,c⟩
 |ins C dx fs=>
  obtain⟨d,z,ne,e,mA,⟨j,es,ep,l,c⟩,r⟩:=x;exact⟨ho _ d,z,ne,k _ _ (.inl rfl) e,mA,⟨j,es,ep,k _ _ (.inr d) l,c⟩,r⟩
 |own y=>obtain⟨g,e⟩:=x;exact⟨g,k _ _ (.inl rfl) e⟩
 |xd fs=>obtain⟨mA,⟨j,es,ep,e,c⟩,r⟩:=x;exact⟨mA,⟨j,es,ep,k _ _ (.inl rfl) e,c⟩,r⟩
 |rng lo hi=>obtain⟨t,u,v,e⟩:=x;exact⟨t,u,v,k _ _ (.inl rfl) e⟩
 |frz g u ih=>obtain⟨e,q⟩:=x;exact⟨k _ _ (.inl rfl) e,ih q⟩
 |tbl ps=>
  have e:h.get? a=some {cls:=.none,data:=.fields ps}:=x;show h'.get? a=some {cls:=.none,data:=.fields ps};exact k a _ (.inl rfl) e
 |met f y=>
  have e:h.get? a=some (PySem.W.methodObj (.ref f) (.ref y)):=x;show h'.get? a=some (PySem.W.methodObj (.ref f) (.ref y));exact k a _ (.inl rfl) e
 |ext φ=>obtain⟨p,⟨o,e⟩,st⟩:=x;exact⟨st _ _ p fun o q=>k _ _ (.inl rfl) q,⟨o,k _ _ (.inl rfl) e⟩,st⟩
theorem li.lt(x:li P w H h)(e:H a=some o):a<h.objs.size:=(x a o e).lt
theorem li.fresh(x:li P w H h)(e:h.objs.size<=a):H a=none:=by
 cases q:H a with
 |none=>rfl
 |some u=>exact absurd (nL1 (x.lt q) e) (af _)
theorem li.kept(x:li P w H h)(k:∀b u,h.get? b=some u->h'.get? b=some u):li P w H h':=fun a o e=>
 (x a o e).stay (fun b u _ q=>k b u q) (fun _ q=>q) fun _ _ q=>q
theorem li.laid(x:li P w H h)(k:∀b u,h.get? b=some u->h'.get? b=some u)(hp:h.objs.size<=a)(new:ea P w (upd H a o) h' a o):li P w (upd H a o) h':=fun b u e=>by
 have f:=x.fresh hp;by_cases d:b=a
 ·subst d;rw[dw]at e;cases e;exact new
 ·rw[dm d]at e;exact(x b u e).stay (fun c v _ q=>k c v q) (fun c q=>by rw[dm (dJ q f)];exact q) fun c xs q=>by rw[dm (dJ q f)];exact q
end
def Rd(H:Hp)(a:cG)(u:HO):Prop:=H a=some u \/ ∃o,H a=some (.frz o u)
theorem Rd.ok{P:cH}{w:cJ}{H:Hp}{h:cP}{a:cG}{u:HO}(r:Rd H a u)(x:li P w H h):ea P w H h a u:=by
 rcases r with r|⟨o,r⟩
 ·exact x a u r
 ·obtain⟨_,q⟩:=x a _ r;exact q
def GF:Option HO->Prop
 |some (.lst _)=>True
 |some (.dK _)=>True
 |some (.dT _)=>True
 |some (.set _ _)=>True
 |some (.ins _ _ _)=>True
 |some (.ext _)=>True
 |_=>False
section
variable{P:cH}{w:cJ}{H:Hp}{h h':cP}{x e:cG}{o':HO}
theorem li.write(ok:li P w H h)(mu:GF (H x))(he:e=x\/H e=some (.own x))(k:∀ b u,b≠e->h.get? b=some u->h'.get? b=some u)(i:∃ u,h'.get? e=some u)(new:ea P w (upd H x o') h' x o'):li P w (upd H x o') h':=fun b u q=>by
 have d:∀c y,H c=some (.own y)->c≠x:=fun c y r z=>by subst z;rw[r]at mu;exact mu
 have f:∀c xs,H c=some (.tup xs)->c≠x:=fun c xs r z=>by subst z;rw[r]at mu;exact mu
 by_cases g:b=x
 ·subst g;rw[dw]at q;cases q;exact new
 ·rw[dm g]at q;by_cases a:b=e
  ·have j:H b=some (.own x):=by
    rcases he with z|z
    ·exact absurd (a.trans z) g
    ·rw[a];exact z
   rw[q]at j;cases j;obtain⟨v,l⟩:=i;exact⟨v,by rw[a];exact l⟩
  ·refine(ok b u q).stay (fun c v hc r=>k c v ?_ r) (fun c r=>by rw[dm (d c b r)];exact r) fun c xs r=>by rw[dm (f c xs r)];exact r
   rcases hc with rfl|hc
   ·exact a
   ·rintro rfl;rcases he with z|z
    ·exact d c b hc z
    ·rw[hc]at z;cases z;exact g rfl
end
structure Un (fs ex:List cG)(H H':Hp)(h h':cP):Prop where
 keep:∀b o,h.get? b=some o->H b=none->b∉fs->b∉ex->h'.get? b=some o
 slot:∀b o,h.get? b=some o->H b=none->b∈fs->b∉ex -> ∃sl,h'.get? b=some {o with slots:=sl}
 free:∀b o,h.get? b=some o->H b=none->b∉ex->H' b=none
 there:∀b o,h.get? b=some o->b∉ex -> ∃o',h'.get? b=some o'
 tups:∀b xs,H b=some (.tup xs)->H' b=some (.tup xs)
 frzs:∀b o u,H b=some (.frz o u)->H' b=some (.frz o u)
 tbls:∀b ps,H b=some (.tbl ps) -> ∃more,H' b=some (.tbl (ps++more))
section
variable{fs fs' ex ex':List cG}{H H1 H2:Hp}{h h1 h2 h':cP}{a x e:cG}{o:HO}
theorem Un.any(u:Un fs ex H H1 h h1){b:cG}{a:Obj}(q:h.get? b=some a)(n:H b=none)(hx:b∉ex):∃d,h1.get? b=some {a with slots:=d}:=by
 by_cases c:b∈fs
 ·exact u.slot b a q n c hx
 ·exact⟨a.slots,u.keep b a q n c hx⟩
theorem Un.kept(k:∀b u,h.get? b=some u->h'.get? b=some u):Un fs ex H H h h':=
 ⟨fun b a q _ _ _=>k b a q,fun b a q _ _ _=>⟨a.slots,k b a q⟩,fun _ _ _ n _=>n,fun b a q _=>⟨a,k b a q⟩,fun _ _ q=>q,fun _ _ _ q=>q,fun _ ps q=>⟨#[],by rw[q];simp⟩⟩
theorem Un.refl:Un fs ex H H h h:=Un.kept fun _ _ q=>q
theorem Un.laid(k:∀b u,h.get? b=some u->h'.get? b=some u)(hp:h.objs.size<=a)(hn:H a=none):Un fs ex H (upd H a o) h h' where
 keep:=fun b u q _ _ _=>k b u q
 slot:=fun b u q _ _ _=>⟨u.slots,k b u q⟩
 free:=fun b u q n _=>by rw[dm (nN1 (nL1 (hL1 q) hp))];exact n
 there:=fun b u q _=>⟨u,k b u q⟩
 tups:=fun b xs q=>by rw[dm (dJ q hn)];exact q
 frzs:=fun b u xs q=>by rw[dm (dJ q hn)];exact q
 tbls:=fun b ps q=>⟨#[],by rw[dm (dJ q hn),q];simp⟩
theorem Un.write(mu:GF (H x))(he:e=x\/H e=some (.own x))(k:∀b u,b≠e->h.get? b=some u->h'.get? b=some u)(c:∃u,h'.get? e=some u):Un fs ex H (upd H x o) h h':=by
 have f:∀b,H b=none->b≠x:=fun b n z=>by subst z;rw[n]at mu;exact mu
 have g:∀b,H b=none->b≠e:=fun b n z=>by
  subst z;rcases he with r|r
  ·exact f b n r
  ·rw[n]at r;cases r
 have d:∀b u,H b=some u -> ¬ GF (some u)->b≠x:=fun b u q nm z=>by subst z;rw[q]at mu;exact nm mu
 refine⟨fun b u q n _ _=>k b u (g b n) q,fun b u q n _ _=>⟨u.slots,k b u (g b n) q⟩,fun b u q n _=>by rw[dm (f b n)];exact n,fun b u q _=>?_,
  fun b xs q=>by rw[dm (d b _ q fun z=>z)];exact q,fun b u xs q=>by rw[dm (d b _ q fun z=>z)];exact q,fun b ps q=>⟨#[],by rw[dm (d b _ q fun z=>z),q];simp⟩⟩
 by_cases a:b=e
 ·subst a;exact c
 ·exact⟨u,k b u a q⟩
end
def trk(h:cP)(H:Hp):List cG:=(List.range h.objs.size).filter fun a=>(H a).isSome
def rf(h:cP)(H:Hp):cP:=PySem.W.hideAll h (trk h H)
theorem xb(h:cP)(H:Hp):(rf h H).objs.size=h.objs.size:=PySem.W.hideAll_size _ _
theorem zV{h:cP}{H:Hp}{b:cG}{o:Obj}(e:h.get? b=some o)(n:H b=none):(rf h H).get? b=some o:=
 PySem.W.hideAll_get _ e fun a=>by
  have q:(H b).isSome=true:=(ag.mp a).2;rw[n]at q;simp at q
theorem BV{h:cP}{H:Hp}{b:cG}{o:Obj}(e:(rf h H).get? b=some o):h.get? b=some o/\H b=none:=by
 have a:h.get? b=some o:=PySem.W.of_hideAll (trk h H) e;refine⟨a,?_⟩;cases q:H b with
 |none=>rfl
 |some x=>
  have c:b∈trk h H:=ag.mpr ⟨ah.mpr (hL1 a),by simp[q]⟩;have z:(rf h H).get? b=none:=PySem.W.hideAll_none (trk h H) c;rw[z]at e;cases e
def C2(g h:cP)(L:cG):List (cG×Obj):=(List.range h.objs.size).filterMap fun a=>if a=L\/(g.get? a).isSome=true then none else(h.get? a).map fun o=>(a,o)
def rest(g h:cP)(L d:cG):List (cG×Obj):=(C2 g h L).filter fun p=>decide (p.1≠d)
end L2
namespace L2
open PySem PySem.Spec PyProof.Rows
structure Mod (K:Fg1)(mg:Str->Option cE)(base:cP):Prop where
 kin:K.In base
 glob:base.Ns cK mg
 blt:∃mb,base.Ns builtinsNs mb /\ ∀x:Str,x≠"__name__"->mb x=bootBuiltins x
 nolimit:base.NoLimit
structure Cx where
 prog:cH
 w:cJ
 K:Fg1
 mg:Str->Option cE
 base:cP
 A:cI
 N:List Str
 s₀:cF
 H₀:Hp
 env:Env
 outer:List Env
 stack:List Env
 ex:List cG
 fn:Str->Bool
 calm:Bool
 pn:List (cG×Obj)
 xe:cE->cF->Prop
def frs(l:List Env):List cG:=l.filterMap (·.frame)
abbrev Cx.fs(X:Cx):List cG:=frs X.outer
def IG(sc:cS)(x:Str):Prop:=sc.names.lookup x=some .local\/sc.names.lookup x=some .cell\/sc.names.lookup x=some .free
def xG(sc:cS)(x:Str):Prop:=sc.names.lookup x=some .local\/sc.names.lookup x=some .cell
def J3(env:Env)(h:cP)(m:Str->Option cE)(x:Str)(u:cE):Prop:=
 (env.kindOf x=some .local/\m x=some u)\/((env.kindOf x=some .cell\/env.kindOf x=some .free) /\ ∃c,env.cells.lookup x=some c/\h.IsCell c (some u))
structure Cx.Ok (X:Cx):Prop where
 mod:Mod X.K X.mg X.base
 kind:X.env.scope.kind = .function
 glob:X.env.globals=cK
 blt:X.env.builtins=builtinsNs
 above:X.s₀.heap.objs.size<=X.env.locals
 inj:∀x y c,X.env.cells.lookup x=some c->X.env.cells.lookup y=some c->x=y
 has:∀x,(X.env.kindOf x=some .cell\/X.env.kindOf x=some .free) -> ∃c,X.env.cells.lookup x=some c
 cab:∀x c,X.fn x=true->X.env.cells.lookup x=some c->X.s₀.heap.objs.size<=c
 hd:X.calm=true->X.A.handled=none
 frames:X.A.frames=some X.stack
 stk:X.stack=X.outer\/(X.stack=X.env::X.outer/\X.env.frame=some X.env.locals)
 exf:∀b∈X.ex,b≠X.env.locals /\ ∀x c,X.env.cells.lookup x=some c->c≠b
 bs:∀b o,X.base.get? b=some o->X.s₀.heap.get? b=some o/\X.H₀ b=none
 bsz:X.base.objs.size<=X.s₀.heap.objs.size
 noex:∀b o,X.base.get? b=some o->b∉X.ex
 exfs:∀b∈X.ex,b∉X.fs
 funs:X.s₀.heap.FunFrames X.base X.outer
 frf:∀b∈X.fs,X.H₀ b=none
structure Inv (X:Cx)(pins:List (cG×Obj))(σ:List (Option V))(H:Hp)(s:cF):Prop where
 ok:X.Ok
 os:s.os=X.s₀.os
 bare:AllBare s.gens
 base:Un X.fs X.ex X.H₀ H X.s₀.heap s.heap
 loc:∃m,s.heap.Ns X.env.locals m /\ ∀(i:Nat) (x:Str) (v:V),X.N[i]?=some x->σ[i]?=some (some v)->IG X.env.scope x -> ∃u,dn v u/\J3 X.env s.heap m x u
 cell:∀x c,X.env.cells.lookup x=some c -> ∃v,s.heap.IsCell c v
 free:H X.env.locals=none
 freeC:∀x c,X.env.cells.lookup x=some c->H c=none
 pin:∀p∈X.pn++pins,s.heap.get? p.1=some p.2/\H p.1=none/\p.1≠X.env.locals/\p.1∉X.fs /\ ∀v,p.2.data ≠ .cell v
 hok:li X.prog X.w H s.heap
 len:σ.length=X.N.length
section
variable{X:Cx}{pins:List (cG×Obj)}{σ:List (Option V)}{H H':Hp}{s:cF}{h':cP}
theorem Cx.Ok.nofr(ok:X.Ok){b:cG}{o:Obj}(e:X.base.get? b=some o):b∉X.fs:=fun a=>by
 have:=(ok.funs.mem a).1;rw[e]at this;cases this
theorem Inv.bs(I:Inv X pins σ H s):∀b o,X.base.get? b=some o->s.heap.get? b=some o/\H b=none:=fun b o e=>
 ⟨I.base.keep b o (I.ok.bs b o e).1 (I.ok.bs b o e).2 (I.ok.nofr e) (I.ok.noex b o e),I.base.free b o (I.ok.bs b o e).1 (I.ok.bs b o e).2 (I.ok.noex b o e)⟩
theorem Inv.bk(I:Inv X pins σ H s):∀b o,X.base.get? b=some o->s.heap.get? b=some o:=fun b o e=>(I.bs b o e).1
theorem Inv.mod(I:Inv X pins σ H s):Mod X.K X.mg X.base:=I.ok.mod
theorem Inv.kIn(I:Inv X pins σ H s):X.K.In s.heap:=I.ok.mod.kin.keeps I.bk
theorem Inv.lt(I:Inv X pins σ H s):X.env.locals<s.heap.objs.size:=let ⟨_,hn,_⟩:=I.loc;hn.lt
theorem Inv.sz(I:Inv X pins σ H s):X.s₀.heap.objs.size<=s.heap.objs.size:=ai I.ok.above (Nat.le_of_lt I.lt)
theorem Inv.nofs(I:Inv X pins σ H s){a:cG}(h:s.heap.objs.size<=a):a∉X.fs:=fun b=>by
 obtain⟨_,o,c,_⟩:=I.ok.funs.mem b;exact absurd (nL1 (hL1 c) (ai I.sz h)) (af _)
theorem Inv.cne(I:Inv X pins σ H s):∀x c,X.env.cells.lookup x=some c->c≠X.env.locals:=fun x c e z=>by
 obtain⟨v,o,f,d⟩:=I.cell x c e;obtain⟨m,⟨o',es,ep,b,a,_⟩,_⟩:=I.loc;rw[z,b]at f;cases f;rw[a]at d;cases d
theorem Inv.funs(I:Inv X pins σ H s):s.heap.FunFrames X.base X.outer:=by
 have all:∀(l:List Env),(∀b∈frs l,b∈X.fs)->X.s₀.heap.FunFrames X.base l->s.heap.FunFrames X.base l:=by
  intro l
  induction l with
  |nil=>intro _ _;trivial
  |cons g r ih=>
   intro f k;obtain⟨m,⟨L,o,d,j,n,h⟩,i⟩:=k;have a:L∈X.fs:=f L (by unfold frs;rw[aj,d];exact mS1);obtain⟨p,e⟩:=I.base.slot L o n (I.ok.frf L a) a fun z=>I.ok.exfs L z a;exact⟨m,⟨L,_,d,j,e,h⟩,ih (fun b c=>f b (by unfold frs;rw[aj,d];exact mC1 _ c)) i⟩
 exact all X.outer (fun _ c=>c) I.ok.funs
theorem Inv.stack(I:Inv X pins σ H s):s.heap.FunFrames X.base X.stack:=by
 rcases I.ok.stk with e|⟨e,a⟩
 ·rw[e];exact I.funs
 ·rw[e];obtain⟨m,b,_⟩:=I.loc;refine .cons (by rw[I.ok.kind];decide) a b ?_ I.funs;exact Heap.get?_none_of_le (ai I.ok.bsz I.ok.above)
theorem Inv.stkSub(I:Inv X pins σ H s):∀b∈frs X.stack,b∈X.env.locals::X.fs:=fun b a=>by
 rcases I.ok.stk with e|⟨e,c⟩
 ·rw[e]at a;exact mC1 _ a
 ·rw[e]at a;unfold frs at a;rw[aj,c]at a;exact a
theorem Inv.stkFree(I:Inv X pins σ H s):∀b∈frs X.stack,H b=none:=fun b a=>by
 rcases ak.mp (I.stkSub b a)with e|a
 ·rw[e];exact I.free
 ·obtain⟨_,o,c,_⟩:=I.ok.funs.mem a;exact I.base.free b o c (I.ok.frf b a) fun z=>I.ok.exfs b z a
theorem Inv.step{g':Array GenState}{t':Nat}{d':Drawn}{ch:List cG}(I:Inv X pins σ H s)(j:∀b∈ch,(b∈X.ex\/X.s₀.heap.objs.size<=b)/\b≠X.env.locals/\(∀x c,X.env.cells.lookup x=some c->c≠b) /\ ∀p∈X.pn++pins,p.1≠b)(keep:∀b o,b≠X.env.locals->b∉X.fs->b∉ch->s.heap.get? b=some o->H b=none->h'.get? b=some o)(slot:∀b o,b≠X.env.locals->b∈X.fs->b∉ch->s.heap.get? b=some o->H b=none -> ∃K,h'.get? b=some {o with slots:=K})(f:∀b o,b∉ch->s.heap.get? b=some o->H b=none->H' b=none)(A:∀b o,b∉ch->s.heap.get? b=some o -> ∃o',h'.get? b=some o')(D:∀b xs,H b=some (.tup xs)->H' b=some (.tup xs))(F:∀b o u,H b=some (.frz o u)->H' b=some (.frz o u))(G:∀b ps,H b=some (.tbl ps) -> ∃more,H' b=some (.tbl (ps++more)))(ns:∀m,s.heap.Ns X.env.locals m->h'.Ns X.env.locals m)(M:li X.prog X.w H' h')(hg:AllBare g'):
  Inv X pins σ H' {s with heap:=h',gens:=g',drawn:=d',toks:=t'}:=by
 have C:∀b o,X.s₀.heap.get? b=some o->b≠X.env.locals:=fun b o e=>nN1 (nL1 (hL1 e) I.ok.above);have w:∀b o,X.s₀.heap.get? b=some o->b∉X.ex->b∉ch:=fun b o e a y=>by
  rcases(j b y).1 with z|z
  ·exact a z
  ·exact absurd (nL1 (hL1 e) z) (af _)
 have h:∀x c,X.env.cells.lookup x=some c -> ∀v,s.heap.IsCell c v->h'.IsCell c v:=fun x c e v ⟨o,B,J⟩=>by
  have g:c∉ch:=fun z=>(j c z).2.2.1 x c e rfl;by_cases hc:c∈X.fs
  ·obtain⟨K,q⟩:=slot c o (I.cne x c e) hc g B (I.freeC x c e);exact⟨_,q,J⟩
  ·exact⟨o,keep c o (I.cne x c e) hc g B (I.freeC x c e),J⟩
 refine⟨I.ok,I.os,hg,⟨fun b o e n y a=>?_,fun b o e n y a=>?_,fun b o e n a=>?_,fun b o e a=>?_,fun b xs e=>D b xs (I.base.tups b xs e),fun b o xs e=>F b o xs (I.base.frzs b o xs e),fun b ps e=>?_⟩,?_,fun x c e=>?_,?_,fun x c e=>?_,fun p O=>?_,M,I.len⟩
 ·exact keep b o (C b o e) y (w b o e a) (I.base.keep b o e n y a) (I.base.free b o e n a)
 ·obtain⟨K,t⟩:=I.base.slot b o e n y a;obtain⟨L,E⟩:=slot b _ (C b o e) y (w b o e a) t (I.base.free b o e n a);exact⟨L,E⟩
 ·obtain⟨o',t⟩:=I.base.there b o e a;exact f b o' (w b o e a) t (I.base.free b o e n a)
 ·obtain⟨o',t⟩:=I.base.there b o e a;exact A b o' (w b o e a) t
 ·obtain⟨m1,t⟩:=I.base.tbls b ps e;obtain⟨m2,E⟩:=G b _ t;exact⟨m1++m2,by rw[E,Array.append_assoc]⟩
 ·obtain⟨m,R,Q⟩:=I.loc;refine⟨m,ns m R,fun i x v t E P=>?_⟩;obtain⟨u,r,l⟩:=Q i x v t E P;refine⟨u,r,?_⟩;rcases l with l|⟨k,c,e,z⟩
  ·exact .inl l
  ·exact .inr ⟨k,c,e,h x c e _ z⟩
 ·obtain⟨v,z⟩:=I.cell x c e;exact⟨v,h x c e v z⟩
 ·obtain⟨m,⟨o,_,_,B,_⟩,_⟩:=I.loc;exact f _ o (fun z=>(j _ z).2.1 rfl) B I.free
 ·obtain⟨v,o,B,J⟩:=I.cell x c e;exact f c o (fun z=>(j c z).2.2.1 x c e rfl) B (I.freeC x c e)
 ·obtain⟨e,n,ne,N,d⟩:=I.pin p O;have g:p.1∉ch:=fun z=>(j p.1 z).2.2.2 p O rfl;exact⟨keep p.1 p.2 ne N g e n,f p.1 p.2 g e n,ne,N,d⟩
theorem Inv.un{t':Nat}(I:Inv X pins σ H s)(u:Un X.fs [] H H' s.heap h')(c:li X.prog X.w H' h'):Inv X pins σ H' {s with heap:=h',toks:=t'}:=by
 obtain⟨m,⟨o,es,ep,h,r⟩,_⟩:=id I.loc;obtain⟨l,k⟩:=u.any h I.free (by simp);exact I.step (g':=s.gens) (d':=s.drawn) (ch:=[]) (fun _ z=>nomatch z) (fun b o _ d _ e n=>u.keep b o e n d (by simp)) (fun b o _ d _ e n=>u.slot b o e n d (by simp)) (fun b o _ e n=>u.free b o e n (by simp)) (fun b o _ e=>u.there b o e (by simp)) u.tups u.frzs u.tbls (fun p j=>by
  obtain⟨o',g,f,a,i⟩:=j;rw[h]at a;cases a;exact⟨_,g,f,k,i⟩) c I.bare
theorem Inv.call{g':Array GenState}{t':Nat}{d':Drawn}{ch:List cG}(I:Inv X pins σ H s)(u:Un (frs X.stack) ch H H' s.heap h')(g:li X.prog X.w H' h')(hg:AllBare g')(a:∀b∈ch,(b∈X.ex\/X.s₀.heap.objs.size<=b)/\b≠X.env.locals/\(∀x c,X.env.cells.lookup x=some c->c≠b) /\ ∀p∈X.pn++pins,p.1≠b):
  Inv X pins σ H' {s with heap:=h',gens:=g',drawn:=d',toks:=t'}:=by
 obtain⟨m,⟨o,es,ep,j,r⟩,_⟩:=id I.loc;obtain⟨t,f⟩:=u.any j I.free fun z=>(a _ z).2.1 rfl;exact I.step (ch:=ch) a (fun b o f q hc e n=>u.keep b o e n (fun z=>(ak.mp (I.stkSub b z)).elim f q) hc) (fun b o _ _ hc e n=>u.any e n hc) (fun b o hc e n=>u.free b o e n hc) (fun b o hc e=>u.there b o e hc) u.tups u.frzs u.tbls (fun v l=>by
  obtain⟨o',i,h,d,k⟩:=l;rw[j]at d;cases d;exact⟨_,i,h,f,k⟩) g hg
theorem Inv.turned{t':Nat}{it:cG}(I:Inv X pins σ H s)(k:∀ b o,b≠it->s.heap.get? b=some o->h'.get? b=some o)(hn:H it=none)(d:it≠X.env.locals)(h1:it∈X.ex\/X.s₀.heap.objs.size<=it)(h2:∀x c,X.env.cells.lookup x=some c->c≠it)(f:∀p∈X.pn++pins,p.1≠it):Inv X pins σ H {s with heap:=h',toks:=t'}:=by
 have a:∀b u,H b=some u->b≠it:=fun b u e z=>by rw[z,hn]at e;cases e
 refine I.step (g':=s.gens) (d':=s.drawn) (ch:=[it]) (fun b h=>?_) (fun b o _ _ hc e _=>k b o (fun z=>hc (by simp[z])) e) (fun b o _ _ hc e _=>⟨o.slots,k b o (fun z=>hc (by simp[z])) e⟩) (fun _ _ _ _ n=>n)
  (fun b o hc e=>⟨o,k b o (fun z=>hc (by simp[z])) e⟩) (fun _ _ e=>e) (fun _ _ _ e=>e) (fun b ps e=>⟨#[],by rw[e];simp⟩) (fun m g=>?_) (fun b u e=>?_) I.bare
 ·have e:b=it:=by simpa using h
  subst e;exact⟨h1,d,h2,f⟩
 ·obtain⟨o,es,ep,i,r⟩:=g;exact⟨o,es,ep,k _ o (Ne.symm d) i,r⟩
 ·refine(I.hok b u e).stay (fun c v hc q=>k c v ?_ q) (fun _ q=>q) fun _ _ q=>q;rcases hc with z|z
  ·rw[z];exact a b u e
  ·exact a c _ z
theorem Inv.tok(I:Inv X pins σ H s)(t:Nat):Inv X pins σ H {s with toks:=t}:=I.un (h':=s.heap) (t':=t) Un.refl I.hok
theorem Inv.kept{t':Nat}(I:Inv X pins σ H s)(k:∀b u,s.heap.get? b=some u->h'.get? b=some u):Inv X pins σ H {s with heap:=h',toks:=t'}:=I.un (Un.kept k) (I.hok.kept k)
theorem Inv.laid{a:cG}{o:HO}{t':Nat}(I:Inv X pins σ H s)(k:∀ b u,s.heap.get? b=some u->h'.get? b=some u)(hp:s.heap.objs.size<=a)(new:ea X.prog X.w (upd H a o) h' a o):
  Inv X pins σ (upd H a o) {s with heap:=h',toks:=t'}:=I.un (Un.laid k hp (I.hok.fresh hp)) (I.hok.laid k hp new)
theorem Inv.write{x e:cG}{o:HO}{t':Nat}(I:Inv X pins σ H s)(mu:GF (H x))(he:e=x\/H e=some (.own x))(k:∀ b u,b≠e->s.heap.get? b=some u->h'.get? b=some u)(a:∃ u,h'.get? e=some u)(new:ea X.prog X.w (upd H x o) h' x o):Inv X pins σ (upd H x o) {s with heap:=h',toks:=t'}:=I.un (Un.write mu he k a) (I.hok.write mu he k a new)
theorem Inv.pins_of{a:List (cG×Obj)}(I:Inv X pins σ H s)(h:∀p∈a,s.heap.get? p.1=some p.2/\H p.1=none/\p.1≠X.env.locals/\p.1∉X.fs /\ ∀v,p.2.data ≠ .cell v):Inv X a σ H s:=
 ⟨I.ok,I.os,I.bare,I.base,I.loc,I.cell,I.free,I.freeC,fun p b=>(am.mp b).elim (fun z=>I.pin p (ao _ z)) (h p),I.hok,I.len⟩
theorem sG{N:List Str}(hN:N.Nodup){i j:Nat}{x:Str}(a:N[i]?=some x)(b:N[j]?=some x):i=j:=by
 obtain⟨h1,d⟩:=gE1.mp a;obtain⟨h2,c⟩:=gE1.mp b;exact(List.getElem_inj hN).mp (d.trans c.symm)
theorem wF{M:Model}{A:cI}{E:cE->cF->Prop}{i:Nat}{x:Str}{v:V}{u:cE}{Q:Unit->cF->Prop}(I:Inv X pins σ H s)(hN:X.N.Nodup)(hi:X.N[i]? = some x)(hx:xG X.env.scope x)(r:dn v u)(h:∀s',Inv X pins (σ.set i (some v)) H s'->(∃a,Heap.SameBut a s.heap s'.heap/\(a=X.env.locals\/X.env.cells.lookup x=some a))->Q () s')(hf:X.fn x=true\/X.env.scope.names.lookup x=some .local:=by first|exact .inl rfl|exact .inr rfl|assumption):cO M A (storeName X.env x u) Q E s:=by
 obtain⟨m,hn,hl⟩:=id I.loc;have L:(X.env.scope.kind == .class||(X.env.scope.kind == .module&&X.env.locals != X.env.globals))=false:=by rw[I.ok.kind];rfl
 have w:i<σ.length:=by rw[I.len];exact(gE1.mp hi).1
 have cne:=I.cne;have tracked:∀{a:cG} {h':cP},(∃o,s.heap.get? a=some o/\H a=none)->Heap.SameBut a s.heap h'->li X.prog X.w H h':=fun{a h'} ha f b ob e=>by
  obtain⟨_,_,l⟩:=ha;refine(I.hok b ob e).stay (fun c P hc q=>(f.2 c ?_).trans q) (fun _ q=>q) fun _ _ q=>q;rintro rfl;rcases hc with rfl|hc
  ·rw[l]at e;cases e
  ·rw[l]at hc;cases hc
 rcases hx with B|B
 ·refine wpAny_storeName_local B hn (fun h' hn' f=>?_) L;obtain⟨oL,_,_,R,_⟩:=id hn;refine h _ ⟨I.ok,I.os,I.bare,⟨fun b o e n D hx=>?_,fun b o e n D hx=>?_,I.base.free,fun b o e hx=>?_,I.base.tups,I.base.frzs,I.base.tbls⟩,⟨_,hn',fun j y v' g t T=>?_⟩,fun y c e=>?_,I.free,I.freeC,fun p Y=>?_,tracked ⟨oL,R,I.free⟩ f,by simpa using I.len⟩ ⟨_,f,.inl rfl⟩
  ·exact(f.2 b (nN1 (nL1 (hL1 e) I.ok.above))).trans (I.base.keep b o e n D hx)
  ·obtain⟨W,g⟩:=I.base.slot b o e n D hx;exact⟨W,(f.2 b (nN1 (nL1 (hL1 e) I.ok.above))).trans g⟩
  ·obtain⟨o',g⟩:=I.base.there b o e hx;exact⟨o',(f.2 b (nN1 (nL1 (hL1 e) I.ok.above))).trans g⟩
  ·by_cases C:j=i
   ·subst C;rw[hi]at g;cases g;rw[ap w]at t;cases t;exact⟨u,r,.inl ⟨B,by simp⟩⟩
   ·rw[gS1 (Ne.symm C)]at t;obtain⟨Z,S,q⟩:=hl j y v' g t T;refine⟨Z,S,?_⟩;rcases q with⟨k,e⟩|⟨k,c,e,z⟩
    ·refine .inl ⟨k,?_⟩;have:y≠x:=fun e=>C (sG hN g (e ▸ hi));simp[this,e]
    ·exact .inr ⟨k,c,e,z.sameBut f (cne y c e)⟩
  ·obtain⟨P,z⟩:=I.cell y c e;exact⟨P,z.sameBut f (cne y c e)⟩
  ·obtain⟨e,n,ne,U,d⟩:=I.pin p Y;exact⟨(f.2 p.1 ne).trans e,n,ne,U,d⟩
 ·have F:X.fn x=true:=by
   rcases hf with z|z
   ·exact z
   ·rw[z]at B;cases B
  obtain⟨c,hc⟩:=I.ok.has x (.inl B);obtain⟨P,z⟩:=I.cell x c hc;refine wpAny_storeName_cell I.ok.kind B hc z (fun h' K f=>?_);obtain⟨oc,G,J⟩:=id z;refine h {s with heap:=h'} ⟨I.ok,I.os,I.bare,⟨fun b o e n D hx=>?_,fun b o e n D hx=>?_,I.base.free,fun b o e hx=>?_,I.base.tups,I.base.frzs,I.base.tbls⟩,⟨m,hn.sameBut f (Ne.symm (cne x c hc)),fun j y v' g t T=>?_⟩,fun y O e=>?_,I.free,I.freeC,fun p Y=>?_,tracked ⟨oc,G,I.freeC x c hc⟩ f,by simpa using I.len⟩ ⟨c,f,.inr hc⟩
  ·exact(f.2 b (nN1 (nL1 (hL1 e) (I.ok.cab x c F hc)))).trans (I.base.keep b o e n D hx)
  ·obtain⟨W,g⟩:=I.base.slot b o e n D hx;exact⟨W,(f.2 b (nN1 (nL1 (hL1 e) (I.ok.cab x c F hc)))).trans g⟩
  ·obtain⟨o',g⟩:=I.base.there b o e hx;exact⟨o',(f.2 b (nN1 (nL1 (hL1 e) (I.ok.cab x c F hc)))).trans g⟩
  ·by_cases C:j=i
   ·subst C;rw[hi]at g;cases g;rw[ap w]at t;cases t;exact⟨u,r,.inr ⟨.inl B,c,hc,K⟩⟩
   ·rw[gS1 (Ne.symm C)]at t;obtain⟨Z,S,q⟩:=hl j y v' g t T;refine⟨Z,S,?_⟩;rcases q with q|⟨k,O,e,z'⟩
    ·exact .inl q
    ·refine .inr ⟨k,O,e,z'.sameBut f ?_⟩;rintro rfl;exact C (sG hN g (I.ok.inj _ _ _ e hc ▸ hi))
  ·by_cases N:O=c
   ·subst N;exact⟨_,K⟩
   ·obtain⟨w2,z2⟩:=I.cell y O e;exact⟨w2,z2.sameBut f N⟩
  ·obtain⟨e,n,ne,U,d⟩:=I.pin p Y;refine⟨(f.2 p.1 ?_).trans e,n,ne,U,d⟩;intro q;rw[q,G]at e;have q':oc=p.2:=Option.some.inj e;exact d P (by rw[<- q'];exact J)
theorem lp{M:Model}{A:cI}{E:cE->cF->Prop}{i:Nat}{x:Str}{v:V}{u:cE}{Q:Unit->cF->Prop}(I:Inv X pins σ H s)(hN:X.N.Nodup)(hi:X.N[i]? = some x)(hx:xG X.env.scope x)(r:dn v u)(h:∀s',Inv X pins (σ.set i (some v)) H s'->Q () s')(hf:X.fn x=true\/X.env.scope.names.lookup x=some .local:=by first|exact .inl rfl|exact .inr rfl|assumption):cO M A (storeName X.env x u) Q E s:=
 wF I hN hi hx r (fun s' a _=>h s' a) hf
theorem Inv.call'{s':cF}{ch:List cG}(I:Inv X pins σ H s)(ho:s'.os=s.os)(u:Un (frs X.stack) ch H H' s.heap s'.heap)(a:li X.prog X.w H' s'.heap)(hg:AllBare s'.gens)(d:∀b∈ch,(b∈X.ex\/X.s₀.heap.objs.size<=b)/\b≠X.env.locals/\(∀x c,X.env.cells.lookup x=some c->c≠b) /\ ∀p∈X.pn++pins,p.1≠b):Inv X pins σ H' s':=by
 obtain⟨h',g,f,h,o'⟩:=s';have e:o'=s.os:=ho;subst e;exact I.call (g':=g) (t':=h) (d':=f) u a hg d
end
abbrev XK:=cE->Option cG->Hp->Prop
abbrev St:=List (Option V)
abbrev VK:=V->Hp->Prop
abbrev TE:=St->Hp->VK->Prop
abbrev TT:=St->Hp->(Bool->Hp->Prop)->Prop
abbrev TA:=St->Hp->(List V->Hp->Prop)->Prop
structure j7 where
 nx:St->Hp->Prop
 rt:VK
 bk:St->Hp->Prop:=fun _ _=>False
 ct:St->Hp->Prop:=fun _ _=>False
abbrev TS:=j7->St->Hp->Prop
def EP(X:Cx)(pins:List (cG×Obj))(σ:St)(Q:VK)(u:cE)(s':cF):Prop:=∃v H',Inv X pins σ H' s'/\dn v u/\Q v H'
def TP(X:Cx)(pins:List (cG×Obj))(σ:St)(Q:Bool->Hp->Prop)(b:Bool)(s':cF):Prop:=∃H',Inv X pins σ H' s'/\Q b H'
def AP(X:Cx)(pins:List (cG×Obj))(σ:St)(Q:List V->Hp->Prop)(us:List cE)(s':cF):Prop:=∃vs H',Inv X pins σ H' s'/\dE vs us/\Q vs H'
def SP(X:Cx)(pins:List (cG×Obj))(D:j7)(f:Flow)(s':cF):Prop:=
 match f with
 | .next=>∃ σ' H',Inv X pins σ' H' s'/\D.nx σ' H'
 | .brk=>∃ σ' H',Inv X pins σ' H' s'/\D.bk σ' H'
 | .cont=>∃ σ' H',Inv X pins σ' H' s'/\D.ct σ' H'
 | .ret u=>∃v σ' H',Inv X pins σ' H' s'/\dn v u/\D.rt v H'
def PE(X:Cx)(e:Expr)(t:TE):Prop:=
 ∀(pins:List (cG×Obj)) (s:cF) (σ:St) (H:Hp) (Q:VK),Inv X pins σ H s->t σ H Q->cO (model X.prog X.w) X.A (eval e X.env) (EP X pins σ Q) X.xe s
def PT(X:Cx)(e:Expr)(t:TT):Prop:=
 ∀(pins:List (cG×Obj)) (s:cF) (σ:St) (H:Hp) (Q:Bool->Hp->Prop),Inv X pins σ H s->t σ H Q->cO (model X.prog X.w) X.A (isTrue e X.env (eval e X.env)) (TP X pins σ Q) X.xe s
def PW(X:Cx)(e:Expr)(t:TT):Prop:=
 ∀(whole:Sem cE) (pins:List (cG×Obj)) (s:cF) (σ:St) (H:Hp) (Q:Bool->Hp->Prop),Inv X pins σ H s->t σ H Q->cO (model X.prog X.w) X.A (isTrue e X.env whole) (TP X pins σ Q) X.xe s
theorem PW.pt{X:Cx}{e:Expr}{t:TT}(h:PW X e t):PT X e t:=h _
def PA(X:Cx)(es:List Expr)(t:TA):Prop:=
 ∀(pos:Pos) (pins:List (cG×Obj)) (s:cF) (σ:St) (H:Hp) (Q:List V->Hp->Prop),Inv X pins σ H s->t σ H Q->cO (model X.prog X.w) X.A (spliced (backTo pos (cM es X.env))) (AP X pins σ Q) X.xe s
def PS(X:Cx)(st:cR)(t:TS):Prop:=
 ∀(pins:List (cG×Obj)) (s:cF) (σ:St) (H:Hp) (D:j7),Inv X pins σ H s->t D σ H->cO (model X.prog X.w) X.A (exec st X.env) (SP X pins D) X.xe s
def t4(X:Cx)(st:List cR)(t:TS):Prop:=
 ∀(pins:List (cG×Obj)) (s:cF) (σ:St) (H:Hp) (D:j7),Inv X pins σ H s->t D σ H->cO (model X.prog X.w) X.A (execs st X.env) (SP X pins D) X.xe s
theorem eQ{α:Type}{t:Sem α}{Q b:α->cF->Prop}{M:Model}{A:cI}{E:cE->cF->Prop}{s:cF}(h:cO M A t Q E s)(c:∀a s,Q a s->b a s):cO M A t b E s:=wpAny_mono h c fun _ _ x=>x
end L2
namespace L2
open PySem PySem.Spec PyProof.Rows
section
variable{X:Cx}
theorem K8{a b:Expr}{ta tb:TE}(ha:PE X a ta)(hb:PE X b tb){pins:List (cG×Obj)}{s:cF}{σ:St}{H:Hp}{R:V->V->Hp->Prop}(I:Inv X pins σ H s)(h:ta σ H fun x H1=>tb σ H1 fun y H2=>R x y H2){α:Type}{Q:α->cF->Prop}{f:cE->cE->Sem α}(hf:∀v u e x y H2,Inv X pins σ H2 e->dn x v->dn y u->R x y H2->cO (model X.prog X.w) X.A (f v u) Q X.xe e):
  cO (model X.prog X.w) X.A (eval a X.env) (fun v d=>cO (model X.prog X.w) X.A (eval b X.env) (fun u c=>cO (model X.prog X.w) X.A (f v u) Q X.xe c) X.xe d) X.xe s:=by
 refine eQ (ha pins s σ H _ I h) fun v g ⟨x,H1,i,k,m⟩=>?_;refine eQ (hb pins g σ H1 _ i m) fun u e ⟨y,H2,l,r2,j⟩=>?_;exact hf v u e x y H2 l k r2 j
def I9(i:Nat):TE:=fun σ H Q=>∃v,σ[i]?=some (some v)/\Q v H
def tC(v:V):TE:=fun _ H Q=>Q v H
theorem EA {i:Nat}{x:Str}{pos:Pos}(hN:X.N[i]?=some x)(hv:IG X.env.scope x)(hd:(x == ("__debug__":Str))=false:=by decide)(hcd:(x == ("__classdict__":Str))=false:=by decide):PE X (.Name x pos) (I9 i):=by
 intro pins s σ H Q I h;obtain⟨v,e,h⟩:=h;obtain⟨m,g,j⟩:=I.loc;obtain⟨u,r,l⟩:=j i x v hN e hv;have b:EP X pins σ Q u s:=⟨v,H,I,r,h⟩;rcases l with⟨d,f⟩|⟨d,c,hc,a⟩
 ·exact wpAny_Name (wpAny_loadName_local I.ok.kind d g f b) hd
 ·rcases d with d|d
  ·exact wpAny_Name (wpAny_loadName_cell I.ok.kind d hc a b) hd
  ·exact wpAny_Name (wpAny_loadName_free I.ok.kind d hc a b hcd) hd
theorem EI{i j pos}:PE X (.Constant (.int i) j pos) (tC (.int i)):=fun _ _ _ H _ I h=>wpAny_Constant_int ⟨.int i,H,I.tok _,⟨_,rfl⟩,h⟩
theorem Hs{b j pos}:PE X (.Constant (.bool b) j pos) (tC (.bl b)):=fun _ _ _ H _ I h=>Constant_bool ⟨.bl b,H,I,rfl,h⟩
theorem EG{j pos}:PE X (.Constant .none j pos) (tC .non):=fun _ _ _ H _ I h=>Constant_none ⟨.non,H,I,rfl,h⟩
theorem EC{x j pos}:PE X (.Constant (.str x) j pos) (tC (.str x)):=fun _ _ _ H _ I h=>Calls.Constant_str ⟨.str x,H,I.tok _,⟨_,rfl⟩,h⟩
def Gl(X:Cx)(x:Str):Prop:=X.env.kindOf x=some .globalImplicit
theorem Cr {E:cE->cF->Prop}{pins:List (cG×Obj)}{s:cF}{σ:St}{H:Hp}{x:Str}{u:cE}{pos:Pos}{Q:cE->cF->Prop}(I:Inv X pins σ H s)(hg:Gl X x)(hm:X.mg x=some u)(h:Q u s)
  (hd:(x == ("__debug__":Str))=false:=by decide):cO (model X.prog X.w) X.A (eval (.Name x pos) X.env) Q E s:=
 Calls.Name_function_global I.ok.kind hg (Calls.loadGlobal_global (by rw[I.ok.glob];exact I.mod.glob.keeps I.bk) hm h) hd
theorem jU {E:cE->cF->Prop}{pins:List (cG×Obj)}{s:cF}{σ:St}{H:Hp}{x:Str}{u:cE}{pos:Pos}{Q:cE->cF->Prop}(I:Inv X pins σ H s)(hg:Gl X x)(hm:X.mg x=none)(hv:bootBuiltins x=some u)(h:Q u s)
  (hn:x≠"__name__":=by decide) (hd:(x == ("__debug__":Str))=false:=by decide):cO (model X.prog X.w) X.A (eval (.Name x pos) X.env) Q E s:=by
 obtain⟨a,h1,h2⟩:=I.mod.blt;exact Calls.Name_function_global I.ok.kind hg (Calls.loadGlobal_builtin (by rw[I.ok.glob];exact I.mod.glob.keeps I.bk) hm (by rw[I.ok.blt];exact h1.keeps I.bk) ((h2 x hn).trans hv) h) hd
theorem BQ {x:Str}{v:V}{u:cE}{pos:Pos}(hg:Gl X x)(hm:X.mg x=none)(hv:bootBuiltins x=some u)(r:dn v u)(hn:x≠"__name__":=by decide)(hd:(x == ("__debug__":Str))=false:=by decide):PE X (.Name x pos) (tC v):=
 fun _ _ _ H _ I h=>jU I hg hm hv ⟨v,H,I,r,h⟩ hn hd
variable{a b:Expr}{ta tb:TE}{pos:Pos}
def tB(t:TE):TT:=fun σ H Q=>t σ H fun x H1=>∃c,x = .bl c/\Q c H1
variable{tA tB':TT}{rest:List Expr}
def Jm(t u:TT):TT:=fun σ H Q=>t σ H fun c H1=>if c=true then u σ H1 Q else Q false H1
def Ku(t u:TT):TT:=fun σ H Q=>t σ H fun c H1=>if c=true then Q true H1 else u σ H1 Q
def Je(t:TT):TT:=fun σ H Q=>t σ H fun c H1=>Q (!c) H1
theorem Bv(ha:PT X a tA):PW X (.BoolOp .And [a] pos) tA:=by
 intro d pins s σ H Q I h;refine isTrue_and (eQ (ha pins s σ H Q I h) fun c b e=>?_);cases c with
 |true=>exact isTrue_and_nil e
 |false=>exact e
theorem Ei(ha:PT X a tA):PW X (.BoolOp .Or [a] pos) tA:=by
 intro d pins s σ H Q I h;refine isTrue_or (eQ (ha pins s σ H Q I h) fun c b e=>?_);cases c with
 |false=>exact isTrue_or_nil e
 |true=>exact e
theorem Ej(ha:PT X a tA)(hb:PW X (.BoolOp .And (b::rest) pos) tB'):PW X (.BoolOp .And (a::b::rest) pos) (Jm tA tB'):=by
 intro g pins s σ H Q I h;refine isTrue_and (eQ (ha pins s σ H _ I h) fun c f ⟨H1,e,d⟩=>?_);cases c with
 |true=>exact hb g pins f σ H1 Q e d
 |false=>exact⟨H1,e,d⟩
theorem Hg(ha:PT X a tA)(hb:PW X (.BoolOp .Or (b::rest) pos) tB'):PW X (.BoolOp .Or (a::b::rest) pos) (Ku tA tB'):=by
 intro g pins s σ H Q I h;refine isTrue_or (eQ (ha pins s σ H _ I h) fun c f ⟨H1,e,d⟩=>?_);cases c with
 |true=>exact⟨H1,e,d⟩
 |false=>exact hb g pins f σ H1 Q e d
theorem Em(ha:PT X a tA):PT X (.UnaryOp .Not a pos) (Je tA):=by
 intro pins s σ H Q I h;exact isTrue_not (ha pins s σ H (fun c H1=>Q (!c) H1) I h)
def G6(ta tb:TE):TE:=fun σ H Q=>ta σ H fun x H1=>∃c,x = .bl c/\if c=true then tb σ H1 Q else Q (.bl false) H1
def GV(ta:TE):TE:=fun σ H Q=>ta σ H fun x H1=>∃c,x = .bl c/\Q (.bl (!c)) H1
theorem EE{op}{t:TE}(h:PE X a t):PE X (.BoolOp op [a] pos) t:=fun pins s σ H Q I b=>BoolOp_one (h pins s σ H Q I b)
theorem EK(ha:PE X a ta)(hb:PE X (.BoolOp .And (b::rest) pos) tb):PE X (.BoolOp .And (a::b::rest) pos) (G6 ta tb):=by
 intro pins s σ H Q I h;refine BoolOp_and (eQ (ha pins s σ H _ I h) fun v g ⟨x,H1,e,f,d⟩=>?_);obtain⟨c,rfl,d⟩:=d;cases f;refine wpAny_truthy_bool ?_;cases c with
 |true=>exact hb pins g σ H1 Q e d
 |false=>exact⟨.bl false,H1,e,rfl,d⟩
theorem EF(ha:PE X a ta):PE X (.UnaryOp .Not a pos) (GV ta):=by
 intro pins s σ H Q I h;refine UnaryOp_ (eQ (ha pins s σ H _ I h) fun v f ⟨x,H1,e,d,b⟩=>?_);obtain⟨c,rfl,b⟩:=b;cases d;exact not_of (wpAny_truthy_bool ⟨.bl (!c),H1,e,rfl,b⟩)
def Kw(t:TT)(ta tb:TE):TE:=fun σ H Q=>t σ H fun c H1=>if c=true then ta σ H1 Q else tb σ H1 Q
theorem yU{c:Expr}(hc:PT X c tA)(ha:PE X a ta)(hb:PE X b tb):PE X (.IfExp c a b pos) (Kw tA ta tb):=by
 intro pins s σ H Q I h;refine wpAny_IfExp (eQ (hc pins s σ H _ I h) fun d g ⟨H1,f,e⟩=>?_);cases d with
 |true=>exact ha pins g σ H1 Q f e
 |false=>exact hb pins g σ H1 Q f e
end
end L2
namespace L2
open PySem PySem.Spec PyProof.Rows
def mR(K:Fg1)(H:Hp)(a:cG)(xs:List V):Prop:=
 Rd H a (.lst xs) \/
  ∃(o:Obj) (its:Array cE) (n:Nat),K.lookup a=some o/\o.cls = .type "list"/\o.dict=none/\o.data = .seq its n/\its.size<=cN/\dE xs its.toList
def kB(K:Fg1)(H:Hp)(a:cG)(xs:List V):Prop:=
 Rd H a (.tup xs) \/
  ∃(o:Obj) (its:Array cE) (n:Nat),K.lookup a=some o/\o.cls = .type "tuple"/\o.data = .seq its n/\its.size<=cN/\dE xs its.toList
def JV:cE->Option V
 | .none=>some .non
 | .bool b=>some (.bl b)
 | .int i _=>some (.int i)
 | .str x _=>some (.str x)
 | .bytes b _=>some (.byt b)
 | .float b _=>some (.flt b)
 | .ref a=>some (.ref a)
 | .type n=>some (.ty n)
 |_=>none
theorem dn.abs{x:V}{u:cE}(r:dn x u):JV u=some x:=by
 cases x with
 |non=>cases r;rfl
 |bl _=>cases r;rfl
 |int _=>obtain⟨t,rfl⟩:=r;rfl
 |str _=>obtain⟨t,rfl⟩:=r;rfl
 |byt _=>obtain⟨t,rfl⟩:=r;rfl
 |flt _=>obtain⟨t,rfl⟩:=r;rfl
 |ref _=>cases r;rfl
 |ty _=>cases r;rfl
theorem dn.inj{x y:V}{u:cE}(r:dn x u)(q:dn y u):x=y:=Option.some.inj (r.abs.symm.trans q.abs)
theorem dE.inj:∀{xs ys:List V} {a:List cE},dE xs a->dE ys a->xs=ys:=by
 intro xs ys a h g
 induction h generalizing ys with
 |nil=>cases g;rfl
 |cons r t ih=>cases g with
  |cons c b=>rw[r.inj c,ih b]
section
variable{X:Cx}{pins:List (cG×Obj)}{σ:St}{H:Hp}{s:cF}{a:cG}{xs ys:List V}
theorem mR.of{K:Fg1}(h:H a=some (.lst xs)):mR K H a xs:=.inl (.inl h)
theorem kB.of{K:Fg1}(h:H a=some (.tup xs)):kB K H a xs:=.inl (.inl h)
theorem Inv.list(I:Inv X pins σ H s)(h:mR X.K H a xs):∃b:List cE,dE xs b/\PlainL s.heap a b.toArray/\xs.length<=cN:=by
 rcases h with h|⟨o,b,n,d,hc,c,f,g,r⟩
 ·obtain⟨z,b,n,r,e⟩:=h.ok I.hok;exact⟨b,r,⟨_,n,e,rfl,rfl,rfl⟩,z⟩
 ·refine⟨b.toList,r,⟨o,n,I.kIn a o d,hc,c,by simpa using f⟩,?_⟩;have e:=r.length;simp only[aq]at e;lia
theorem Inv.tuple(I:Inv X pins σ H s)(h:kB X.K H a xs):∃b:List cE,dE xs b/\IsTup s.heap a b.toArray/\xs.length<=cN:=by
 rcases h with h|⟨o,b,n,c,hc,d,f,r⟩
 ·obtain⟨z,b,r,p⟩:=h.ok I.hok;exact⟨b,r,p,z⟩
 ·refine⟨b.toList,r,⟨o,I.kIn a o c,hc,n,by simpa using d⟩,?_⟩;have e:=r.length;simp only[aq]at e;lia
theorem Inv.list_inj(I:Inv X pins σ H s)(h:mR X.K H a xs)(h':mR X.K H a ys):xs=ys:=by
 obtain⟨b,r,⟨o,n,e,_,_,d⟩,_⟩:=I.list h;obtain⟨its',i,⟨o',j,f,_,_,c⟩,_⟩:=I.list h';rw[e]at f;cases f;rw[d]at c;injection c with g _;have:b=its':=by simpa using congrArg ar g
 subst this;exact r.inj i
theorem Inv.tuple_inj(I:Inv X pins σ H s)(h:kB X.K H a xs)(h':kB X.K H a ys):xs=ys:=by
 obtain⟨b,r,⟨o,e,_,n,d⟩,_⟩:=I.tuple h;obtain⟨its',i,⟨o',f,_,j,c⟩,_⟩:=I.tuple h';rw[e]at f;cases f;rw[d]at c;injection c with g _;have:b=its':=by simpa using congrArg ar g
 subst this;exact r.inj i
end
abbrev Cx.wish(X:Cx)(E:cE->cF->Prop):Cx:={X with xe:=E}
abbrev Cx.nox(X:Cx):Cx:=X.wish fun _ _=>False
theorem Cx.Ok.wish{X:Cx}(ok:X.Ok)(E:cE->cF->Prop):(X.wish E).Ok:=
 ⟨ok.mod,ok.kind,ok.glob,ok.blt,ok.above,ok.inj,ok.has,ok.cab,ok.hd,ok.frames,ok.stk,ok.exf,ok.bs,ok.bsz,ok.noex,ok.exfs,ok.funs,ok.frf⟩
theorem Cx.Ok.unwish{X:Cx}{E:cE->cF->Prop}(ok:(X.wish E).Ok):X.Ok:=
 ⟨ok.mod,ok.kind,ok.glob,ok.blt,ok.above,ok.inj,ok.has,ok.cab,ok.hd,ok.frames,ok.stk,ok.exf,ok.bs,ok.bsz,ok.noex,ok.exfs,ok.funs,ok.frf⟩
section
variable{X:Cx}{pins:List (cG×Obj)}{σ:St}{H:Hp}{s:cF}{E:cE->cF->Prop}
theorem Inv.wish(I:Inv X pins σ H s)(E:cE->cF->Prop):Inv (X.wish E) pins σ H s:=⟨I.ok.wish E,I.os,I.bare,I.base,I.loc,I.cell,I.free,I.freeC,I.pin,I.hok,I.len⟩
theorem Inv.unwish(I:Inv (X.wish E) pins σ H s):Inv X pins σ H s:=⟨I.ok.unwish,I.os,I.bare,I.base,I.loc,I.cell,I.free,I.freeC,I.pin,I.hok,I.len⟩
theorem SP.unwish{D:j7}{f:Flow}{s':cF}(h:SP (X.wish E) pins D f s'):SP X pins D f s':=by
 cases f with
 |next=>obtain⟨a,H',I,q⟩:=h;exact⟨a,H',I.unwish,q⟩
 |brk=>obtain⟨a,H',I,q⟩:=h;exact⟨a,H',I.unwish,q⟩
 |cont=>obtain⟨a,H',I,q⟩:=h;exact⟨a,H',I.unwish,q⟩
 |ret u=>obtain⟨v,a,H',I,r,q⟩:=h;exact⟨v,a,H',I.unwish,r,q⟩
theorem t4.nox{st:List cR}{t:TS}(h:t4 X.nox st t):t4 X st t:=fun pins s σ H D I a=>
 wpAny_mono (h pins s σ H D (I.wish _) a) (fun _ _ q=>q.unwish) fun _ _ z=>False.elim z
end
section
variable{X:Cx}{st:cR}{rest:List cR}{t u:TS}{e:Expr}{te:TE}{pos:Pos}
def GW:TS:=fun D σ H=>D.nx σ H
def Jb(t u:TS):TS:=fun D σ H=>t {D with nx:=u D} σ H
theorem Bz:t4 X [] GW:=fun _ _ σ H _ I h=>wpAny_execs_nil ⟨σ,H,I,h⟩
theorem yJ(h1:PS X st t)(h2:t4 X rest u):t4 X (st::rest) (Jb t u):=by
 intro pins s σ H D I h;refine wpAny_execs_cons (eQ (h1 pins s σ H {D with nx:=u D} I h) fun f c q=>?_);cases f with
 |next=>
  obtain⟨a,H',b,q⟩:=q;exact h2 pins c a H' D b q
 |ret v=>exact q
 |brk=>exact q
 |cont=>exact q
theorem By(h1:PS X st t):t4 X [st] t:=by
 intro pins s σ H D I h;refine wpAny_execs_cons (eQ (h1 pins s σ H D I h) fun f a q=>?_);cases f with
 |next=>exact wpAny_execs_nil q
 |ret v=>exact q
 |brk=>exact q
 |cont=>exact q
theorem Inv.quiet{pins:List (cG×Obj)}{σ:St}{H:Hp}{s:cF}(I:Inv X pins σ H s):interactive X.env=false:=by simp[interactive,I.ok.kind]
def GZ(te:TE):TS:=fun D σ H=>te σ H fun _ H1=>D.nx σ H1
theorem BA(he:PE X e te)(hs:swapsWith e none pos.line X.env=pure false:=by rfl):PS X (.Expr e pos) (GZ te):=by
 intro pins s σ H D I h;exact wpAny_Expr_any (eQ (he pins s σ H _ I h) fun v d ⟨x,H1,b,c,a⟩=>⟨σ,H1,b,a⟩) I.quiet hs
def Jc(te:TE):TS:=fun D σ H=>te σ H D.rt
theorem Eo(he:PE X e te):PS X (.Return (some e) pos) (Jc te):=by
 intro pins s σ H D I h;exact wpAny_Return_some (eQ (he pins s σ H _ I h) fun v d ⟨x,H1,c,a,b⟩=>⟨x,σ,H1,c,a,b⟩)
def Jk(c:TT)(t u:TS):TS:=fun D σ H=>c σ H fun b H1=>if b=true then t D σ H1 else u D σ H1
theorem Hi{c:Expr}{a b:List cR}{tc:TT}(hc:PT X c tc)(ha:t4 X a t)(hb:t4 X b u):PS X (.If c a b pos) (Jk tc t u):=by
 intro pins s σ H D I h;refine wpAny_If (eQ (hc pins s σ H _ I h) fun d g ⟨H1,f,e⟩=>?_);cases d with
 |true=>exact ha pins g σ H1 D f e
 |false=>exact hb pins g σ H1 D f e
end
abbrev TG:=V->St->Hp->(St->Hp->Prop)->Prop
abbrev DF:=List V->St->Hp->(St->Hp->Prop)->Prop
def PG(X:Cx)(target:Expr)(t:TG):Prop:=
 ∀(pins:List (cG×Obj)) (s:cF) (σ:St) (H:Hp) (v:V) (u:cE) (Q:St->Hp->Prop),Inv X pins σ H s->dn v u->t v σ H Q ->
  cO (model X.prog X.w) X.A (assign target X.env u) (fun _ s'=>∃ σ' H',Inv X pins σ' H' s'/\Q σ' H') X.xe s
def GD(X:Cx)(ts:List Expr)(t:DF):Prop:=
 ∀(pins:List (cG×Obj)) (s:cF) (σ:St) (H:Hp) (vs:List V) (us:List cE) (Q:St->Hp->Prop),Inv X pins σ H s->dE vs us->t vs σ H Q ->
  cO (model X.prog X.w) X.A (assignInOrder ((assignEach ts X.env).map (·.2)) us) (fun _ s'=>∃ σ' H',Inv X pins σ' H' s'/\Q σ' H') X.xe s
abbrev GC:=V->V->V->Hp->(Hp->Prop)->Prop
def uW(X:Cx)(t:GC):Prop:=
 ∀(pins:List (cG×Obj)) (s:cF) (σ:St) (H:Hp) (o i v:V) (ov iv u:cE) (Q:Hp->Prop),Inv X pins σ H s->dn o ov->dn i iv->dn v u->t o i v H Q ->
  cO (model X.prog X.w) X.A (setItem ov iv u) (fun _ s'=>∃H',Inv X pins σ H' s'/\Q H') X.xe s
section
variable{X:Cx}{pos:Pos}
def vY(i:Nat):TG:=fun v σ H Q=>Q (σ.set i (some v)) H
theorem vn{i:Nat}{x:Str}(hN:X.N.Nodup)(hi:X.N[i]?=some x)(hx:xG X.env.scope x)(hf:X.fn x=true\/X.env.scope.names.lookup x=some .local:=by first|exact .inl rfl|exact .inr rfl|assumption):PG X (.Name x pos) (vY i):=by
 intro pins s σ H v u Q I r h;exact wpAny_assign_Name (lp I hN hi hx r (fun s' a=>⟨_,H,a,h⟩) hf)
def JH:DF:=fun vs σ H Q=>vs=[]/\Q σ H
def Ig(t:TG)(u:DF):DF:=fun vs σ H Q=>∃v r,vs=v::r/\t v σ H fun σ' H'=>u r σ' H' Q
theorem BL:GD X [] JH:=by
 intro pins s σ H vs a Q I r h;obtain⟨e,h⟩:=h;subst e;cases r;exact assignInOrder_nil ⟨σ,H,I,h⟩
theorem yS{e:Expr}{es:List Expr}{t:TG}{u:DF}(h1:PG X e t)(h2:GD X es u)(hs:(assignEach (e::es) X.env).map (·.2)=assign e X.env::(assignEach es X.env).map (·.2):=by rfl):GD X (e::es) (Ig t u):=by
 intro pins s σ H vs j Q I r h;obtain⟨v,i,c,h⟩:=h;subst c;cases r with
 |cons r d=>
  rw[hs];refine assignInOrder_cons (eQ (h1 pins s σ H _ _ _ I r h) fun _ b ⟨a,H1,f,g⟩=>?_);exact h2 pins b a H1 _ _ Q f d g
def gTup(K:Fg1)(n:Nat)(t:DF):TG:=fun v σ H Q=>∃a xs,v = .ref a/\kB K H a xs/\xs.length=n/\t xs σ H Q
theorem Ey{es:List Expr}{k:Nat}{t:DF}{n:Nat}(hc:X.calm=true)(h:GD X es t)(hn:(assignEach es X.env).length=n:=by rfl)(hst:(assignEach es X.env).findIdx? (·.1)=none:=by rfl):PG X (.Tuple es k pos) (gTup X.K n t):=by
 intro pins s σ H v u Q I r c;obtain⟨a,xs,i,p,l,c⟩:=c;subst i;cases r;obtain⟨g,d,f,q⟩:=I.tuple p;refine assign_Tuple_tuple (I.ok.hd hc) f (by simp[hn,<- l,d.length]) hst fun h' j=>?_;have m:Inv X pins σ H {s with heap:=h'}:=I.kept (t':=s.toks) fun b o e=>j b o (nN1 (hL1 e)) e;exact h pins _ σ H xs _ Q m (by simpa using d) c
def gSub(to ti:TE)(t:GC):TG:=fun v σ H Q=>to σ H fun o H1=>ti σ H1 fun i H2=>t o i v H2 fun H3=>Q σ H3
theorem Ez{o i:Expr}{to c:TE}{t:GC}(ho:PE X o to)(hi:PE X i c)(hs:uW X t)(ha:∀v,assign (.Subscript o i pos) X.env v=(do
   let a<-holding [v] (eval o X.env)
   let b<-holding [v,a] (eval i X.env)
   standAt pos
   holding [v,a,b] (setItem a b v)
   release [v,a,b] []):=by intro _;rfl):PG X (.Subscript o i pos) (gSub to c t):=by
 intro pins s σ H v u Q I r h;rw[ha];refine wB1 (wpAny_holding (eQ (ho pins s σ H _ I h) fun a d ⟨x,H1,g,m,p⟩=>?_));refine wB1 (wpAny_holding (eQ (hi pins d σ H1 _ g p) fun b f ⟨y,H2,n,r2,l⟩=>?_));refine wB1 (wpAny_standAt (wB1 (wpAny_holding (eQ (hs pins f σ H2 x y v a b u _ n m r2 r l) fun _ q ⟨e,k,j⟩=>?_))));exact wpAny_release ⟨σ,e,k,j⟩
def yn(te:TE)(g:TG):TS:=fun D σ H=>te σ H fun x H1=>g x σ H1 D.nx
theorem Et{tg e:Expr}{te:TE}{g:TG}(he:PE X e te)(hg:PG X tg g)(hs:swapsWithSole [tg] e pos.line X.env=pure false:=by rfl)(hw:swappedStores [tg] e X.env=pure none:=by rfl)(h1:(assignEach [tg] X.env).map (·.2)=[assign tg X.env]:=by rfl):PS X (.Assign [tg] e pos) (yn te g):=by
 intro pins s σ H D I h;refine wpAny_Assign_stores (eQ (he pins s σ H _ I h) fun v a ⟨x,H1,b,c,d⟩=>?_) hs hw;rw[h1];exact eQ (hg pins a σ H1 x v _ b c d) fun _ f q=>q
theorem En{i:Nat}{x:Str}{e:Expr}{te:TE}{pos':Pos}(hN:X.N.Nodup)(hi:X.N[i]? = some x)(hx:xG X.env.scope x)(he:PE X e te)(hs:swapsWith e (some (.Name x pos')) pos.line X.env=pure false:=by rfl)(hf:X.fn x=true\/X.env.scope.names.lookup x=some .local:=by first | exact .inl rfl | exact .inr rfl | assumption):
  PS X (.Assign [.Name x pos'] e pos) (yn te (vY i)):=by
 intro pins s σ H D I h;refine wpAny_Assign_Name (eQ (he pins s σ H _ I h) fun v f ⟨y,H1,a,b,d⟩=>?_) hs;exact lp a hN hi hx b (fun g c=>⟨_,H1,c,d⟩) hf
def Jd(i j:Nat)(ta:TA):TS:=fun D σ H=>ta σ H fun vs H1=>∃v w,vs=[v,w]/\D.nx ((σ.set i (some v)).set j (some w)) H1
theorem Ep{i j:Nat}{x y:Str}{a b:Expr}{ta:TA}{g k pt:Pos}{kt k2 pt2}(hc:X.calm=true)(hN:X.N.Nodup)(hi:X.N[i]? = some x)(E:X.N[j]? = some y)(f:i≠j)(hx:X.env.scope.names.lookup x=some .local)(hy:X.env.scope.names.lookup y=some .local)(ha:PA X [a,b] ta)(hw:swappedStores [.Tuple [.Name x g,.Name y k] kt pt] (.Tuple [a,b] k2 pt2) X.env=pure (some [x,y]))(hs:swapsWithSole [.Tuple [.Name x g,.Name y k] kt pt] (.Tuple [a,b] k2 pt2) pos.line X.env=pure false:=by rfl):
  PS X (.Assign [.Tuple [.Name x g,.Name y k] kt pt] (.Tuple [a,b] k2 pt2) pos) (Jd i j ta):=by
 intro pins s σ H D I h;rw[exec_Assign_arm];refine wB1 (wpAny_standAt ?_);rw[hs];refine wB1 (wP1 ?_);rw[if_neg (by decide)];refine wB1 (Tuple_ (eQ (ha _ pins s σ H _ I h) fun u d ⟨vs,H1,C,A,m⟩=>?_));obtain⟨v,w,B,m⟩:=m;subst B;obtain⟨c,u2,rfl,t,n⟩:∃c u2,u=[c,u2]/\dn v c/\dn w u2:=by
  cases A with
  |cons p q=>
   cases q with
   |cons z K=>
    cases K;exact⟨_,_,rfl,p,z⟩
 refine wO1 ?_ (by show 2<=cN;decide);have J:Inv X pins σ H1 {d with heap:=d.heap.push {cls:=.type "tuple",data:=.seq [c,u2].toArray}}:=C.kept (t':=d.toks) fun b o e=>hP1 _ e;rw[hw];refine wB1 (wP1 ?_);show cO (model X.prog X.w) X.A (do rule "assign.swapped-stores";let items<-unpackItems (.ref d.heap.objs.size) 2 none;assignInOrder [fun v=>bindName X.env y v,fun v=>bindName X.env x v] items.reverse;pure Flow.next) _ _ _;refine wB1 (wpAny_rule (wB1 (unpackItems_tuple (items:= #[c,u2]) (I.ok.hd hc) (IsTup.new d.heap _) fun h' l=>?_)));have G:=J.kept (h':=h') (t':=d.toks) fun b o e=>l b o (nN1 (hL1 e)) e;show cO _ _ (assignInOrder [fun v=>bindName X.env y v,fun v=>bindName X.env x v] [u2,c] >>= fun _=>pure Flow.next) _ _ _;refine wB1 (assignInOrder_cons (wpAny_bindName (lp G hN E (.inl hy) n (fun M F=>?_) (.inr hy))));refine assignInOrder_cons (wpAny_bindName (lp F hN hi (.inl hx) t (fun L r=>assignInOrder_nil (wP1 ?_)) (.inr hx)));rw[List.set_comm _ _ (Ne.symm f)]at r;exact⟨_,H1,r,m⟩
def yj(c:TT)(tb:TS):TS:=fun D σ H=>∃W:Nat->St->Hp->Prop,(∃m,W m σ H) /\ ∀m σ H,W m σ H ->
 c σ H fun b H1=>if b=true then∃N:St->Hp->Prop,(∀ σ' H',N σ' H' -> ∃m',m'<m/\W m' σ' H')/\tb {D with nx:=N,ct:=N,bk:=D.nx} σ H1 else D.nx σ H1
theorem yK{c:Expr}{e:List cR}{tc:TT}{tb:TS}(hp:PassesOwn (model X.prog X.w) X.A X.env X.xe)(hc:PT X c tc)(hb:t4 X e tb):PS X (.While c e [] pos) (yj tc tb):=by
 intro pins s σ H D I h;obtain⟨W,⟨z,x⟩,j⟩:=h;refine wpAny_While (codeAny_whileLoop (fun n s'=>∃i H',Inv X pins i H' s'/\W n i H') ?_ z ⟨σ,H,I,x⟩);rintro n w ⟨d,H1,A,y⟩;refine wpAny_passesOwn hp (eQ (hc pins w d H1 _ A (j n d H1 y)) fun b B ⟨H2,u,l⟩=>?_);cases b with
 |true=>
  obtain⟨N,t,l⟩:=l;rw[if_pos rfl];refine wpAny_passesOwn hp (eQ (hb pins B d H2 _ u l) fun f C k=>?_);cases f with
  |next=>
   obtain⟨a,g,r,q⟩:=k;obtain⟨p,m,o⟩:=t a g q;exact⟨p,m,a,g,r,o⟩
  |cont=>
   obtain⟨a,g,r,q⟩:=k;obtain⟨p,m,o⟩:=t a g q;exact⟨p,m,a,g,r,o⟩
  |brk=>exact k
  |ret v=>exact k
 |false=>
  rw[if_neg au];exact wpAny_execs_nil ⟨d,H2,u,l⟩
end
structure It where
 go:Nat->Hp->Prop
 yld:Nat->Hp->V->Hp->Prop
 stop:Nat->Hp->Prop
def kC(X:Cx)(pins:List (cG×Obj))(H:Hp)(b:cG):Prop:=
 H b=none/\b≠X.env.locals/\b∉X.fs/\(b∈X.ex\/X.s₀.heap.objs.size<=b)/\(∀x c,X.env.cells.lookup x=some c->c≠b) /\ ∀p∈X.pn++pins,p.1≠b
theorem Inv.fpOk{X:Cx}{pins:List (cG×Obj)}{σ:St}{H H':Hp}{s:cF}{b:cG}(I:Inv X pins σ H s)(hb:s.heap.objs.size<=b)(hn:H' b=none):kC X pins H' b:=by
 refine⟨hn,nG1 (nL1 I.lt hb),I.nofs hb,.inr (ai I.sz hb),fun x c e z=>?_,fun p a z=>?_⟩
 ·obtain⟨v,q⟩:=I.cell x c e;exact absurd (nL1 q.lt (by rw[z];exact hb)) (af _)
 ·exact absurd (nL1 (hL1 (I.pin p a).1) (by rw[z];exact hb)) (af _)
structure uU (P:cH)(w:cJ)(K:Fg1)(tg:Expr)(J:It)(fp:List cG)(it:cG)(tn:Nat->cP->Prop):Prop where
 mem:it∈fp
 obj:∀i h,tn i h -> ∀b∈fp,∃o,h.get? b=some o /\ ∀v,o.data ≠ .cell v
 keep:∀i h h',tn i h->(∀b∈fp,∀o,h.get? b=some o->h'.get? b=some o)->tn i h'
 item:∀(X:Cx),X.prog=P->X.w=w->X.K=K->X.calm=true -> ∀(i:Nat) (pins:List (cG×Obj)) (s:cF) (σ:St) (H:Hp) (E:cE->cF->Prop),Inv X pins σ H s->(∀b∈fp,kC X pins H b)->tn i s.heap->J.go i H ->
  cO (model P w) X.A (pyNext (.ref it)) (fun r s1=>∃u,r=some u /\
   cO (model P w) X.A (letOwnedTupleGo tg (.ref it) u) (fun _ s2=>∃x H',Inv X pins σ H' s2/\dn x u/\J.yld i H x H'/\tn (i+1) s2.heap /\ ∀b∈fp,H' b=none) E s1) E s
 done:∀(X:Cx),X.prog=P->X.w=w->X.K=K->X.calm=true -> ∀(i:Nat) (pins:List (cG×Obj)) (s:cF) (σ:St) (H:Hp) (E:cE->cF->Prop),Inv X pins σ H s->(∀b∈fp,kC X pins H b)->tn i s.heap->J.stop i H ->
  cO (model P w) X.A (pyNext (.ref it)) (fun r s1=>r=none/\Inv X pins σ H s1) E s
 self:∀(A:cI) (i:Nat) (s:cF) (Q:cE->cF->Prop) (E:cE->cF->Prop),tn i s.heap->Q (.ref it) s->cO (model P w) A (pyIter (.ref it)) Q E s
abbrev TI:=St->Hp->(It->Hp->Prop)->Prop
def Km(X:Cx)(pins:List (cG×Obj))(σ:St)(tg:Expr)(R:It->Hp->Prop)(itv:cE)(s2:cF):Prop:=
 ∃(it:cG) (fp:List cG) (tn:Nat->cP->Prop) (J:It) (H':Hp),itv = .ref it/\Inv X pins σ H' s2/\uU X.prog X.w X.K tg J fp it tn/\tn 0 s2.heap/\(∀b∈fp,kC X pins H' b)/\R J H'
def PI(X:Cx)(tg iter:Expr)(wi:TI):Prop:=
 ∀(pins:List (cG×Obj)) (s:cF) (σ:St) (H:Hp) (R:It->Hp->Prop),Inv X pins σ H s->wi σ H R ->
  cO (model X.prog X.w) X.A (eval iter X.env) (fun v s1=>cO (model X.prog X.w) X.A (pyIter v) (Km X pins σ tg R) X.xe s1) X.xe s
theorem zX {M:Model}{A:cI}{E:cE->cF->Prop}{s:cF}{tg:Expr}{it:cG}{u:cE}{o:Obj}{n:String}{vs:Array cE}{Q:Unit->cF->Prop}(ho:s.heap.get? it=some o)(hc:o.cls = .type n)(hd:o.data = .fields vs)
   (hn:["enumerate","zip","dict_itemiterator","dict_reverseitemiterator","odict_iterator","itertools.zip_longest","itertools.pairwise"].contains n=false) (a:Q () s):cO M A (letOwnedTupleGo tg (.ref it) u) Q E s:=by
 unfold letOwnedTupleGo;cases tg <;> first
   |exact wP1 a
   | (cases u<;>first
       |exact wP1 a
       | (refine wB1 (wpAny_load ho ?_)
          rw[hc,hd];show cO M A (if(["enumerate","zip","dict_itemiterator","dict_reverseitemiterator","odict_iterator","itertools.zip_longest","itertools.pairwise"].contains n&&vs[0]? == some (rawInt _))=true then _ else _) Q E s;rw[if_neg (by intro h;rw[hn,Bool.false_and]at h;cases h)];exact wP1 a))
def Kp(K:Fg1)(a:cG):It:=
 ⟨fun i H=>∃xs x,mR K H a xs/\xs[i]?=some x,fun i H x H'=>H'=H /\ ∀xs,mR K H a xs->xs[i]?=some x,fun i H=>∃xs,mR K H a xs/\xs.length<=i⟩
def Ko(K:Fg1)(a:cG):It:=
 ⟨fun i H=>∃xs x,kB K H a xs/\xs[i]?=some x,fun i H x H'=>H'=H /\ ∀xs,kB K H a xs->xs[i]?=some x,fun i H=>∃xs,kB K H a xs/\xs.length<=i⟩
def IJ(lo:Int)(n:Nat):It:=⟨fun i _=>i<n,fun i H x H'=>H'=H/\x = .int (lo+i),fun i _=>n<=i⟩
theorem wD{P:cH}{w:cJ}{K:Fg1}{tg:Expr}(a it:cG):uU P w K tg (Kp K a) [it] it (fun i h=>h.IsListIter it a i) where
 mem:=by simp
 obj:=fun i h st b f=>by
  have e:b=it:=by simpa using f
  subst e;obtain⟨o,e,c,d⟩:=st;exact⟨o,e,fun v z=>by rw[d]at z;cases z⟩
 keep:=fun i h h' st k=>st.at fun o e=>k it (by simp) o e
 item:=by
  intro X C y r hc i pins s σ H E I l st m;subst C y r;obtain⟨xs,x,j,t⟩:=m;obtain⟨A,n,p,N⟩:=I.list j;obtain⟨u,O,S⟩:=n.get t;obtain⟨G,q,J,F,D,B⟩:=l it (by simp);refine wpAny_pyNext_list_item st p.isList (x:=u) (by simpa using O) fun h' g L=>?_;have Q:Inv X pins σ H {s with heap:=h'}:=I.turned (t':=s.toks) (fun b o f e=>(L.2 b f).trans e) G q F D B;obtain⟨o,e,c,d⟩:=id g;exact⟨u,rfl,zX (s:={s with heap:=h'}) e c d (by decide) ⟨x,H,Q,S,⟨rfl,fun ys R=>by rw[I.list_inj R j];exact t⟩,g,fun b f=>(l b f).1⟩⟩
 done:=by
  intro X C y r hc i pins s σ H E I l st m;subst C y r;obtain⟨xs,j,t⟩:=m;obtain⟨A,n,p,N⟩:=I.list j;obtain⟨G,q,J,F,D,B⟩:=l it (by simp);have T:=n.length;exact wpAny_pyNext_list_end (I.ok.hd hc) st p.isList (by simp;lia) fun h' M=>⟨rfl,I.turned (t':=s.toks) (fun b o f e=>M b o f e) G q F D B⟩
 self:=fun _ _ _ _ _ st h=>wpAny_pyIter_listiter st h
theorem t8{P:cH}{w:cJ}{K:Fg1}{tg:Expr}(a it:cG):uU P w K tg (Ko K a) [it] it (fun i h=>h.IsTupleIter it a i) where
 mem:=by simp
 obj:=fun i h st b g=>by
  have e:b=it:=by simpa using g
  subst e;obtain⟨o,e,c,d⟩:=st;exact⟨o,e,fun v z=>by rw[d]at z;cases z⟩
 keep:=fun i h h' st k=>st.at fun o e=>k it (by simp) o e
 item:=by
  intro X C A t hc i pins s σ H E I m st n;subst C A t;obtain⟨xs,x,l,y⟩:=n;obtain⟨f,q,p,N⟩:=I.tuple l;obtain⟨u,O,S⟩:=q.get y;obtain⟨G,r,J,F,D,B⟩:=m it (by simp);refine wpAny_pyNext_tuple_item st (show s.heap.IsTuple a f.toArray from p) (x:=u) (by simpa using O) fun h' j L=>?_;have Q:Inv X pins σ H {s with heap:=h'}:=I.turned (t':=s.toks) (fun b o g e=>(L.2 b g).trans e) G r F D B;obtain⟨o,e,c,d⟩:=id j;exact⟨u,rfl,zX (s:={s with heap:=h'}) e c d (by decide) ⟨x,H,Q,S,⟨rfl,fun ys R=>by rw[I.tuple_inj R l];exact y⟩,j,fun b g=>(m b g).1⟩⟩
 done:=by
  intro X C A t hc i pins s σ H E I m st n;subst C A t;obtain⟨xs,l,y⟩:=n;obtain⟨f,q,p,N⟩:=I.tuple l;obtain⟨G,r,J,F,D,B⟩:=m it (by simp);have T:=q.length;exact wpAny_pyNext_tuple_end (I.ok.hd hc) st (show s.heap.IsTuple a f.toArray from p) (by simp;lia) fun h' M=>⟨rfl,I.turned (t':=s.toks) (fun b o g e=>M b o g e) G r F D B⟩
 self:=fun _ _ _ _ _ st h=>wpAny_pyIter_tupleiter st h
theorem t9{P:cH}{w:cJ}{K:Fg1}{tg:Expr}(it:cG)(lo:Int)(n:Nat):uU P w K tg (IJ lo n) [it] it (fun i h=>IsRangeIter h it (lo+(i:Nat)*1) ((n:Int)-(i:Nat)) 1) where
 mem:=by simp
 obj:=fun i h st b a=>by
  have e:b=it:=by simpa using a
  subst e;exact⟨_,st,fun v z=>by
   have y:Data.fields _=Data.cell v:=z;cases y⟩
 keep:=fun i h h' st k=>k it (by simp) _ st
 item:=by
  intro X j f p hc i pins s σ H E I d st g;subst j f p;obtain⟨u,m,B,q,l,r⟩:=d it (by simp);have W:=Walks.range (prog:=X.prog) (w:=X.w) (I.ok.hd hc) it lo 1 n;refine W.item i s _ _ g st fun v h' tk D c C=>?_;obtain⟨t,rfl⟩:=D;have A:Inv X pins σ H {s with heap:=h',toks:=tk}:=I.turned (fun b o a e=>C b o (by simpa using a) e) u m q l r;refine⟨_,rfl,zX (s:={s with heap:=h',toks:=tk}) (n:="range_iterator") c rfl rfl (by decide) ⟨.int (lo+i),H,A,⟨t,?_⟩,⟨rfl,rfl⟩,c,fun b a=>(d b a).1⟩⟩;rw[Int.mul_one]
 done:=by
  intro X j f p hc i pins s σ H E I d st g;subst j f p;obtain⟨u,m,B,q,l,r⟩:=d it (by simp);exact wpAny_pyNext_range_end (I.ok.hd hc) st (by have:n<=i:=g;lia) fun h' x=>⟨rfl,I.turned (t':=s.toks) (fun b o a e=>x b o a e) u m q l r⟩
 self:=fun _ _ _ _ _ st h=>wpAny_pyIter_rangeiter st h
end L2
namespace L2
open PySem PySem.Spec PyProof.Rows
section
variable{X:Cx}{tg:Expr}
def Ib(K:Fg1)(tl:TE):TI:=fun σ H R=>tl σ H fun x H1=>∃a,x = .ref a/\(∃xs,mR K H1 a xs)/\R (Kp K a) H1
def JG(K:Fg1)(tl:TE):TI:=fun σ H R=>tl σ H fun x H1=>∃a,x = .ref a/\(∃xs,kB K H1 a xs)/\R (Ko K a) H1
theorem BI{l:Expr}{tl:TE}(g:PE X l tl):PI X tg l (Ib X.K tl):=by
 intro pins s σ H R I h;refine eQ (g pins s σ H _ I h) fun v c ⟨x,H1,d,k,m⟩=>?_;obtain⟨a,e,⟨xs,i⟩,q⟩:=m;subst e;cases k;obtain⟨f,r,p,n⟩:=d.list i;refine wpAny_pyIter_list p.isList ?_;refine⟨c.heap.objs.size,[c.heap.objs.size],_,_,H1,rfl,d.kept (t':=c.toks) fun b o e=>hP1 _ e,wD a _,⟨_,hS1 _ rfl,rfl,rfl⟩,fun b j=>?_,q⟩;have e:b=c.heap.objs.size:=by simpa using j
 subst e;exact d.fpOk (nR1 _) (d.hok.fresh (nR1 _))
theorem Ex{l:Expr}{tl:TE}(g:PE X l tl):PI X tg l (JG X.K tl):=by
 intro pins s σ H R I h;refine eQ (g pins s σ H _ I h) fun v c ⟨x,H1,d,k,m⟩=>?_;obtain⟨a,e,⟨xs,i⟩,q⟩:=m;subst e;cases k;obtain⟨f,r,p,n⟩:=d.tuple i;refine wpAny_pyIter_tuple (show c.heap.IsTuple a f.toArray from p) ?_;refine⟨c.heap.objs.size,[c.heap.objs.size],_,_,H1,rfl,d.kept (t':=c.toks) fun b o e=>hP1 _ e,t8 a _,⟨_,hS1 _ rfl,rfl,rfl⟩,fun b j=>?_,q⟩;have e:b=c.heap.objs.size:=by simpa using j
 subst e;exact d.fpOk (nR1 _) (d.hok.fresh (nR1 _))
theorem ss{pins:List (cG×Obj)}{σ:St}{H:Hp}{s:cF}{R:It->Hp->Prop}{E:cE->cF->Prop}{lo hi:Int}{t u v:Tok}{tk:Nat}(I:Inv X pins σ H s)(h1: -(2^62)<=lo)(h2:lo<2^62)(d: -(2^62)<=hi)(h:hi<2^62)(q:R (IJ lo (hi-lo).toNat) H):cO (model X.prog X.w) X.A (pyIter (.ref s.heap.objs.size)) (Km X pins σ tg R) E {s with heap:=s.heap.push {cls:=.type "range",data:=.fields #[.int lo t,.int hi u,.int 1 v]},toks:=tk}:=by
 refine wpAny_pyIter_range (IsRange.new ..) (small_one h1 h2 d h) ?_;have a:Inv X pins σ H {s with heap:=s.heap.push {cls:=.type "range",data:=.fields #[.int lo t,.int hi u,.int 1 v]},toks:=tk}:=I.kept fun b o e=>hP1 _ e;refine⟨(s.heap.push {cls:=.type "range",data:=.fields #[.int lo t,.int hi u,.int 1 v]}).objs.size,[(s.heap.push {cls:=.type "range",data:=.fields #[.int lo t,.int hi u,.int 1 v]}).objs.size],_,_,H,rfl,
  a.kept (t':=tk) fun b o e=>hP1 _ e,t9 _ lo (hi-lo).toNat,?_,fun b g=>?_,q⟩
 ·have f:lo+((0:Nat):Int)*1=lo:=by simp
  have c:(((hi-lo).toNat:Nat):Int)-((0:Nat):Int)=Builtin.Range.rangeSize lo hi 1:=by rw[rangeSize_one];split<;>lia
  show IsRangeIter _ _ (lo+((0:Nat):Int)*1) ((((hi-lo).toNat:Nat):Int)-((0:Nat):Int)) 1;rw[f,c];exact hS1 _ rfl
 ·have e:b=(s.heap.push {cls:=.type "range",data:=.fields #[.int lo t,.int hi u,.int 1 v]}).objs.size:=by simpa using g
  subst e;exact a.fpOk (nR1 _) (a.hok.fresh (nR1 _))
def H9(ta:TA):TI:=fun σ H R=>ta σ H fun vs H1=>∃j:Int,vs=[.int j] /\ -(2^62)<=j/\j<2^62/\R (IJ 0 j.toNat) H1
def H7(ta:TA):TI:=fun σ H R=>ta σ H fun vs H1=>∃i j:Int,vs=[.int i,.int j]/\(-(2^62)<=i/\i<2^62 /\ -(2^62)<=j/\j<2^62)/\R (IJ i (j-i).toNat) H1
theorem wQ {a:Expr}{ta:TA}{p pos:Pos}(hg:Gl X "range")(hm:X.mg "range"=none)(ha:PA X [a] ta)(hs:cM [a] X.env=[(false,eval a X.env)]:=by rfl):PI X tg (.Call (.Name "range" p) [a] [] pos) (H9 ta):=by
 intro pins s σ H R I h;refine Call_ (jU I hg hm boot_range (PyProof.Rows.callWith_type1 (eQ (ha pos pins s σ H _ I h) fun k i ⟨vs,H1,d,g,b⟩=>?_) hs rfl));obtain⟨j,e,b,f,q⟩:=b;subst e;cases g with
 |cons r c=>
  cases c;obtain⟨t,rfl⟩:=r;exact call_range_1 (ss d (by lia) (by lia) b f (by simpa using q))
theorem wP {a b:Expr}{ta:TA}{p pos:Pos}(hg:Gl X "range")(hm:X.mg "range"=none)(ha:PA X [a,b] ta)(hs:cM [a,b] X.env=[(false,eval a X.env),(false,eval b X.env)]:=by rfl)(hs2:cM [b] X.env=[(false,eval b X.env)]:=by rfl):
  PI X tg (.Call (.Name "range" p) [a,b] [] pos) (H7 ta):=by
 intro pins s σ H R I h;refine Call_ (jU I hg hm boot_range (PyProof.Rows.callWith_type1 (eQ (ha pos pins s σ H _ I h) fun u o ⟨vs,H1,k,n,d⟩=>?_) (by rw[hs,hs2]) (by rw[hs2];rfl)));obtain⟨i,j,e,⟨d,m,l,f⟩,q⟩:=d;subst e;cases n with
 |cons r c=>
  cases c with
  |cons g c=>
   cases c;obtain⟨t,rfl⟩:=r;obtain⟨v,rfl⟩:=g;exact call_range_2 (ss k d m l f q)
def GY(wi:TI)(g:TG)(tb:TS):TS:=fun D σ H=>wi σ H fun J H1=>∃W:Nat->Nat->St->Hp->Prop,(∃m,W 0 m σ H1) /\ ∀i m σ H,W i m σ H ->
 (J.stop i H/\D.nx σ H)\/(J.go i H /\ ∃N:St->Hp->Prop,(∀ σ' H',N σ' H' -> ∃m',m'<m/\W (i+1) m' σ' H') /\ ∀x H',J.yld i H x H'->g x σ H' fun σ2 H2=>tb {D with nx:=N,ct:=N,bk:=D.nx} σ2 H2)
def nL(fp:List cG)(h:cP):List (cG×Obj):=fp.filterMap fun b=>(h.get? b).map fun o=>(b,o)
theorem ja{a:List cG}{h:cP}{b:cG}{o:Obj}(hb:b∈a)(e:h.get? b=some o):(b,o)∈nL a h:=av.mpr ⟨b,hb,by rw[e];rfl⟩
theorem wR{a:List cG}{h:cP}{p:cG×Obj}(hp:p∈nL a h):p.1∈a/\h.get? p.1=some p.2:=by
 obtain⟨b,c,e⟩:=av.mp hp;cases q:h.get? b with
 |none=>rw[q]at e;cases e
 |some o=>
  rw[q]at e;have d:(b,o)=p:=Option.some.inj e;subst d;exact⟨c,q⟩
theorem Inv.pinned{pins:List (cG×Obj)}{σ:St}{H:Hp}{s:cF}{a:List cG}(I:Inv X pins σ H s)(hf:∀b∈a,kC X pins H b)(ho:∀b∈a,∃o,s.heap.get? b=some o /\ ∀v,o.data ≠ .cell v):Inv X (pins++nL a s.heap) σ H s:=
 I.pins_of fun p h=>(am.mp h).elim (fun z=>I.pin p (mA1 _ z)) fun z=>by
  obtain⟨c,e⟩:=wR z;obtain⟨j,g,i,_⟩:=hf p.1 c;obtain⟨o,f,d⟩:=ho p.1 c;rw[e]at f;cases f;exact⟨e,j,g,i,d⟩
theorem Inv.unpinned{pins pl:List (cG×Obj)}{σ:St}{H:Hp}{s:cF}(I:Inv X (pins++pl) σ H s):Inv X pins σ H s:=I.pins_of fun p a=>I.pin p (mA1 _ (ao _ a))
theorem Es{iter:Expr}{t:List cR}{R:TI}{g:TG}{tb:TS}{pos:Pos}(hp:PassesOwn (model X.prog X.w) X.A X.env X.xe)(hc:X.calm=true)(hi:PI X tg iter R)(hg:PG X tg g)(hb:t4 X t tb)(hs:∀x,foldedSetIterable iter X.env x=pure x:=by intro _;rfl):PS X (.For tg iter t [] pos) (GY R g tb):=by
 intro pins s σ H D I h;refine wpAny_For (eQ (hi pins s σ H _ I h) fun v s1 h1=>eQ h1 fun itv s2 h2=>?_) hs;obtain⟨it,B,Y,J,H2,e,I2,T,M,Q,W,⟨m0,w0⟩,C⟩:=h2;subst e
 -- what stays true of the iterator's objects through the loop
 have p:∀{H':Hp},(∀b∈B,H' b=none) -> ∀b∈B,kC X pins H' b:=fun hn b hb=>⟨hn b hb,(Q b hb).2⟩;refine codeAny_forLoop_any (fun n s'=>∃i c H',Inv X pins c H' s'/\Y i s'.heap/\(∀b∈B,H' b=none)/\W i n c H') ?_ m0 ⟨0,σ,H2,I2,M,fun b hb=>(Q b hb).1,w0⟩;rintro n V ⟨i,j,F,U,A,y,w3⟩;rcases C i n j F w3 with⟨E,qn⟩|⟨go,N,hN,step⟩
 ·refine wpAny_passesOwn hp (eQ (T.done X rfl rfl rfl hc i pins V j F X.xe U (p y) A E) fun r s4 ⟨K,I4⟩=>?_);subst K;exact wpAny_execs_nil ⟨j,F,I4,qn⟩
 ·refine wpAny_passesOwn hp (eQ (T.item X rfl rfl rfl hc i pins V j F X.xe U (p y) A go) fun r s4 ⟨u,K,h4⟩=>?_);subst K;refine wpAny_passesOwn hp (eQ h4 fun _ S ⟨x,Z,I5,r5,y5,w,O⟩=>?_);have L:=I5.pinned (p O) (T.obj _ _ w);refine wpAny_passesOwn hp (eQ (hg _ S j Z x u _ L r5 (step x Z y5)) fun _ s6 ⟨P,H6,I6,q6⟩=>?_);refine wpAny_passesOwn hp (eQ (hb _ s6 P H6 _ I6 q6) fun f G q=>?_);have again:∀ {a:St} {l:Hp},Inv X (pins++nL B S.heap) a l G->N a l -> ∃ m,m<n /\ ∃ i c H',Inv X pins c H' G/\Y i G.heap/\(∀ b∈B,H' b=none)/\W i m c H':=fun {a l} k z=>by
   obtain⟨m',hm,w7⟩:=hN a l z;refine⟨m',hm,i+1,a,l,k.unpinned,T.keep _ _ _ w fun b hb o e=>(k.pin (b,o) (mA1 _ (mA1 _ (ja hb e)))).1,fun b hb=>?_,w7⟩;obtain⟨o,e,d⟩:=T.obj _ _ w b hb;exact(k.pin (b,o) (mA1 _ (mA1 _ (ja hb e)))).2.1
  cases f with
  |next=>obtain⟨a,l,k,z⟩:=q;exact again k z
  |cont=>obtain⟨a,l,k,z⟩:=q;exact again k z
  |brk=>obtain⟨a,l,k,q⟩:=q;exact⟨a,l,k.unpinned,q⟩
  |ret v=>obtain⟨x7,a,l,k,r7,q⟩:=q;exact⟨x7,a,l,k.unpinned,r7,q⟩
end
end L2
namespace L2
open PySem PySem.Spec PyProof.Rows
abbrev R2:=V->V->Hp->VK->Prop
def gg(X:Cx)(f:cE->cE->Sem cE)(r:R2):Prop:=
 ∀(pins:List (cG×Obj)) (s:cF) (σ:St) (H:Hp) (x y:V) (v u:cE) (Q:VK),Inv X pins σ H s->dn x v->dn y u->r x y H Q ->
  cO (model X.prog X.w) X.A (f v u) (EP X pins σ Q) X.xe s
def GL(X:Cx)(f:cE->Sem cE)(r:V->Hp->VK->Prop):Prop:=
 ∀(pins:List (cG×Obj)) (s:cF) (σ:St) (H:Hp) (x:V) (v:cE) (Q:VK),Inv X pins σ H s->dn x v->r x H Q ->
  cO (model X.prog X.w) X.A (f v) (EP X pins σ Q) X.xe s
def ei(X:Cx)(f:cE)(r:List V->Hp->VK->Prop):Prop:=
 ∀(pins:List (cG×Obj)) (s:cF) (σ:St) (H:Hp) (xs:List V) (us:List cE) (Q:VK),Inv X pins σ H s->dE xs us->r xs H Q ->
  cO (model X.prog X.w) X.A (call f us) (EP X pins σ Q) X.xe s
def JY(X:Cx)(r:V->Hp->(Bool->Hp->Prop)->Prop):Prop:=
 ∀(pins:List (cG×Obj)) (s:cF) (σ:St) (H:Hp) (x:V) (v:cE) (Q:Bool->Hp->Prop),Inv X pins σ H s->dn x v->r x H Q ->
  cO (model X.prog X.w) X.A (truthy v) (TP X pins σ Q) X.xe s
def GU(r:R2)(ta tb:TE):TE:=fun σ H Q=>ta σ H fun x H1=>tb σ H1 fun y H2=>r x y H2 Q
def Kc(r:V->Hp->VK->Prop)(ta:TE):TE:=fun σ H Q=>ta σ H fun x H1=>r x H1 Q
def rI(C:Int->Int->Prop)(g:Int->Int->V):R2:=fun x y H Q=>∃i j,x = .int i/\y = .int j/\C i j/\Q (g i j) H
def Dj(g:Int->Int->V):R2:=fun x y H Q=>∃i j,x = .int i/\y = .int j/\Q (g i j) H
def rU(g:Int->V):V->Hp->VK->Prop:=fun x H Q=>∃i,x = .int i/\Q (g i) H
section
variable{X:Cx}{a b c:Expr}{ta tb tc:TE}{pos:Pos}
theorem Gp(ha:PE X a ta)(hb:PE X b tb){pins:List (cG×Obj)}{s:cF}{σ:St}{H:Hp}{R:V->V->Hp->Prop}(I:Inv X pins σ H s)(h:ta σ H fun x H1=>tb σ H1 fun y H2=>R x y H2){Q:cE->cF->Prop}{f:cE->cE->Sem cE}(hf:∀v u e x y H2,Inv X pins σ H2 e->dn x v->dn y u->R x y H2->cO (model X.prog X.w) X.A (f v u) Q X.xe e):
  cO (model X.prog X.w) X.A (eval a X.env) (fun v d=>cO (model X.prog X.w) X.A (eval b X.env) (fun u c=>cO (model X.prog X.w) X.A (f v u) Q X.xe c) X.xe d) X.xe s:=by
 refine eQ (ha pins s σ H _ I h) fun v g ⟨x,H1,i,k,m⟩=>?_;refine eQ (hb pins g σ H1 _ i m) fun u e ⟨y,H2,l,r2,j⟩=>?_;exact hf v u e x y H2 l k r2 j
theorem Ho{op:Operator}{r:R2}(ho:gg X (binaryOp op) r)(ha:PE X a ta)(hb:PE X b tb):PE X (.BinOp a op b pos) (GU r ta tb):=by
 intro pins s σ H Q I h;exact wpAny_BinOp (Gp ha hb I h fun v u c x y H2 d f e q=>ho pins c σ H2 x y v u Q d f e q)
theorem Hn{op:UnaryOp}{r:V->Hp->VK->Prop}(ho:GL X (unaryOp op) r)(ha:PE X a ta):PE X (.UnaryOp op a pos) (Kc r ta):=by
 intro pins s σ H Q I h;exact UnaryOp_ (eQ (ha pins s σ H _ I h) fun v e ⟨x,H1,d,b,c⟩=>ho pins e σ H1 x v Q d b c)
theorem IU{f:cE->cE->Sem cE}{C:Int->Int->Prop}{g:Int->Int->Int}(a:∀(i j:Int) (t u:Tok) (s:cF) (Q:cE->cF->Prop) (E:cE->cF->Prop),C i j->Q (.int (g i j) s.toks) {s with toks:=s.toks+1}->cO (model X.prog X.w) X.A (f (.int i t) (.int j u)) Q E s):
  gg X f (rI C fun i j=>.int (g i j)):=by
 intro pins s σ H x y v u Q I d c h;obtain⟨i,j,rfl,rfl,hc,q⟩:=h;obtain⟨t,rfl⟩:=d;obtain⟨b,rfl⟩:=c;exact a i j t b s _ _ hc ⟨.int (g i j),H,I.tok _,⟨_,rfl⟩,q⟩
theorem Hx{f:cE->cE->Sem cE}{g:Int->Int->Int}(a:∀(i j:Int) (t u:Tok) (s:cF) (Q:cE->cF->Prop) (E:cE->cF->Prop),Q (.int (g i j) s.toks) {s with toks:=s.toks+1}->cO (model X.prog X.w) X.A (f (.int i t) (.int j u)) Q E s):
  gg X f (Dj fun i j=>.int (g i j)):=by
 intro pins s σ H x y v u Q I d c h;obtain⟨i,j,rfl,rfl,q⟩:=h;obtain⟨t,rfl⟩:=d;obtain⟨b,rfl⟩:=c;exact a i j t b s _ _ ⟨.int (g i j),H,I.tok _,⟨_,rfl⟩,q⟩
theorem EU{f:cE->cE->Sem cE}{g:Int->Int->Bool}(a:∀(i j:Int) (t u:Tok) (s:cF) (Q:cE->cF->Prop) (E:cE->cF->Prop),Q (.bool (g i j)) s->cO (model X.prog X.w) X.A (f (.int i t) (.int j u)) Q E s):
  gg X f (Dj fun i j=>.bl (g i j)):=by
 intro pins s σ H x y v u Q I d c h;obtain⟨i,j,rfl,rfl,q⟩:=h;obtain⟨t,rfl⟩:=d;obtain⟨b,rfl⟩:=c;exact a i j t b s _ _ ⟨.bl (g i j),H,I,rfl,q⟩
def IN(i j:Int):Prop:=0<j/\j<1073741824
def IM(i j:Int):Prop:=0<=j/\j<=1000000/\i.natAbs<2^64
theorem ET:gg X (binaryOp .Add) (Dj fun i j=>.int (i+j)):=Hx fun _ _ _ _ _ _ _ q=>add_int q
theorem EN:gg X (binaryOp .Sub) (Dj fun i j=>.int (i-j)):=Hx fun _ _ _ _ _ _ _ q=>sub_int q
theorem BS:gg X (binaryOp .FloorDiv) (rI IN fun i j=>.int (i/j)):=IU fun i j _ _ _ _ _ hc q=>by
 have h1:(0:Int)<j:=hc.1;have h2:j<1073741824:=hc.2;exact floordiv_int (by lia) (by rw[Int.fdiv_eq_ediv_of_nonneg i (by lia)];exact q) (.inl (PyProof.noPylong_small (by lia)))
theorem EQ:gg X (binaryOp .Mod) (rI (fun _ j=>0<j) fun i j=>.int (i%j)):=IU fun i j _ _ _ _ _ hc q=>by
 have h1:(0:Int)<j:=hc;exact mod_int' (by lia) (by rw[Int.fmod_eq_emod_of_nonneg i (by lia)];exact q)
theorem EO:gg X (binaryOp .Pow) (rI IM fun i j=>.int (i^j.toNat)):=IU fun _ _ _ _ _ _ _ hc q=>pow_int_small hc.1 hc.2.1 hc.2.2 q
theorem Ks{f:cE->Sem cE}{g:Int->Int}(a:∀(i:Int) (t:Tok) (s:cF) (Q:cE->cF->Prop) (E:cE->cF->Prop),Q (.int (g i) s.toks) {s with toks:=s.toks+1}->cO (model X.prog X.w) X.A (f (.int i t)) Q E s):
  GL X f (rU fun i=>.int (g i)):=by
 intro pins s σ H x v Q I b h;obtain⟨i,rfl,q⟩:=h;obtain⟨t,rfl⟩:=b;exact a i t s _ _ ⟨.int (g i),H,I.tok _,⟨_,rfl⟩,q⟩
theorem DR:GL X (unaryOp .USub) (rU fun i=>.int (-i)):=Ks fun _ _ _ _ _ q=>neg_int q
theorem F7{pins:List (cG×Obj)}{σ:St}{H:Hp}{s:cF}{Q:VK}{k k':Bool}(I:Inv X pins σ H s)(q:Q (.bl k) H)(e:k=k'):EP X pins σ Q (.bool k') s:=by
 subst e;exact⟨.bl k,H,I,rfl,q⟩
theorem Hu:gg X (compareOp .LtE) (Dj fun i j=>.bl (decide (i<=j))):=EU fun _ _ _ _ _ _ _ q=>le_int q
theorem Hv:gg X (compareOp .Gt) (Dj fun i j=>.bl (decide (j<i))):=EU fun _ _ _ _ _ _ _ q=>gt_int q
theorem Hw:gg X (compareOp .GtE) (Dj fun i j=>.bl (decide (j<=i))):=EU fun _ _ _ _ _ _ _ q=>ge_int q
theorem ER:gg X (compareOp .Is) (fun x y H Q=>y = .non/\Q (.bl (decide (x = .non))) H):=by
 intro pins s σ H x y v u Q I a b h;obtain⟨rfl,q⟩:=h;cases b;refine is_none_gen (F7 I q ?_);cases x<;>first
  |(cases a;rfl)
  |(obtain⟨t,rfl⟩:=a;rfl)
theorem ze(b:Expr){op:CmpOp}(h:op ≠ .In:=by decide)(h2:op ≠ .NotIn:=by decide):behindInMarks op b=false:=by
 have c:(op == CmpOp.In)=false:=by cases op<;>first|rfl|exact absurd rfl h
 have a:(op == CmpOp.NotIn)=false:=by cases op<;>first|rfl|exact absurd rfl h2
 cases b<;>simp[behindInMarks,c,a]
theorem BO{op:CmpOp}{r:R2}(ho:gg X (compareOp op) r)(ha:PE X a ta)(hb:PE X b tb)(hm:behindInMarks op b=false):PE X (.Compare a [op] [b] pos) (GU r ta tb):=by
 intro pins s σ H Q I h;exact wpAny_Compare1 (Gp ha hb I h fun v u c x y H2 d f e q=>ho pins c σ H2 x y v u Q d f e q) hm
def GR(t:TE):TT:=fun σ H Q=>t σ H fun x H'=>∃k,x = .bl k/\Q k H'
theorem Bx{op:CmpOp}{r:R2}(ho:gg X (compareOp op) r)(ha:PE X a ta)(hb:PE X b tb)(hm:behindInMarks op b=false):PT X (.Compare a [op] [b] pos) (GR (GU r ta tb)):=by
 intro pins s σ H Q I h;refine wpAny_isTrue_Compare1 (eQ (ha pins s σ H _ I h) fun v d ⟨x,H1,i,n,p⟩=>eQ (hb pins d σ H1 _ i p) fun u g ⟨y,H2,o,r2,m⟩=>
  eQ (ho pins g σ H2 x y v u _ o n r2 m) fun c t ⟨z,f,l,q,k,e,j⟩=>?_) hm
 subst e;cases q;exact wpAny_truthy_bool ⟨f,l,j⟩
def ym(r r':R2)(ta tb tc:TE):TE:=fun σ H Q=>ta σ H fun x H1=>tb σ H1 fun y H2=>r x y H2 fun z H3=>∃k,z = .bl k /\
 (if k=true then tc σ H3 fun w' H4=>r' y w' H4 Q else Q (.bl false) H3)
theorem yW{op op':CmpOp}{r f:R2}(ho:gg X (compareOp op) r)(ho':gg X (compareOp op') f)(ha:PE X a ta)(hb:PE X b tb)(hc:PE X c tc)(hm:lastMarks [op,op'] [b,c]=false:=by with_unfolding_all rfl):PE X (.Compare a [op,op'] [b,c] pos) (ym r f ta tb tc):=by
 intro pins s σ H Q I h;refine Compare_chain (eQ (ha pins s σ H _ I h) fun v n ⟨x,H1,t,o,B⟩=>chain_link (eQ (hb pins n σ H1 _ t B) fun u D ⟨y,H2,A,r2,F⟩=>
  eQ (ho pins D σ H2 x y v u _ A o r2 F) fun d C ⟨z,g,j,J,k,e,i⟩=>?_)) hm
 subst e;cases J;refine wpAny_truthy_bool ?_;cases k with
 |false=>exact ite_ff ⟨.bl false,g,j,rfl,i⟩
 |true=>exact ite_tt (chain_last (eQ (hc pins C σ g _ j i) fun G m ⟨E,p,w,q,l⟩=>ho' pins m σ p y E u G Q w r2 q l))
def AL(K:Fg1)(x:V)(H:Hp)(k:Bool):Prop:=
 match x with
 | .non=>k=false
 | .bl b=>k=b
 | .int i=>k=(i != 0)
 | .str y=>y.length<=cN/\k=((y.length:Int) != 0)
 | .byt y=>y.size<=cN/\k=((y.size:Int) != 0)
 | .ref p=>(∃xs,mR K H p xs/\k = !xs.isEmpty)\/(∃xs,kB K H p xs/\k = !xs.isEmpty) \/ ∃kvs,H p=some (.dK kvs)/\k = !kvs.isEmpty
 |_=>False
theorem uy{κ:Type}{kvs:List (κ×V)}{vs:List (κ×cE)}(r:KV kvs vs):(!vs.isEmpty) = !kvs.isEmpty:=by
 cases r<;>rfl
theorem n4{xs:List V}{its:List cE}(r:dE xs its):(!its.toArray.isEmpty) = !xs.isEmpty:=by
 cases r<;>simp
theorem ml:(cN:Nat)<2^63:=by rw[sizeLine_eq];decide
theorem ya:JY X (fun x H Q=>∃k,AL X.K x H k/\Q k H):=by
 intro pins s σ H x v Q I d h;obtain⟨k,e,q⟩:=h;have o:=ml;have u:cN=16777216:=sizeLine_eq;cases x with
 |non=>
  cases d;have a:k=false:=e;subst a;exact truthy_none ⟨H,I,q⟩
 |bl b=>
  cases d;have a:k=b:=e;subst a;exact wpAny_truthy_bool ⟨H,I,q⟩
 |int i=>
  obtain⟨t,rfl⟩:=d;have a:k=(i != 0):=e;subst a;exact PySem.P.truthy_int ⟨H,I,q⟩
 |str y=>
  obtain⟨t,rfl⟩:=d;obtain⟨n,a⟩:y.length<=cN/\k=((y.length:Int) != 0):=e;subst a;exact PySem.P.truthy_str (by lia) ⟨H,I.tok _,q⟩
 |byt y=>
  obtain⟨t,rfl⟩:=d;obtain⟨n,a⟩:y.size<=cN/\k=((y.size:Int) != 0):=e;subst a;exact PySem.W.truthy_bytes (by lia) ⟨H,I.tok _,q⟩
 |ref p=>
  cases d;have a:(∃xs,mR X.K H p xs/\k = !xs.isEmpty)\/(∃xs,kB X.K H p xs/\k = !xs.isEmpty) \/ ∃kvs,H p=some (.dK kvs)/\k = !kvs.isEmpty:=e;rcases a with⟨xs,f,a⟩|⟨xs,f,a⟩|⟨kvs,f,a⟩
  ·subst a;obtain⟨g,r,pl,j⟩:=I.list f;have c:=r.length;exact wpAny_truthy_list pl.isList (by simp only[sT1];lia) ⟨H,I.tok _,by rw[n4 r];exact q⟩
  ·subst a;obtain⟨g,r,pl,j⟩:=I.tuple f;have c:=r.length;exact truthy_tuple pl (by simp only[sT1];lia) ⟨H,I.tok _,by rw[n4 r];exact q⟩
  ·subst a;obtain⟨j,l,vs,r,m⟩:kvs.length<=cN/\(p == sysModules)=false /\ ∃vs,KV kvs vs/\s.heap.DictOf (eF X.prog X.w) p vs:=I.hok p _ f;have c:kvs.length=vs.length:=Paired.length r;exact wpAny_truthy_dict l m (by lia) ⟨H,I.tok _,by rw[uy r];exact q⟩
 |_=>exact(show False from e).elim
theorem yI(ha:PE X a ta)(he:∀ b,isTrue a X.env b=(do let v<-b;standAt a.pos;holding [v] (truthy v))):
  PT X a (fun σ H Q=>ta σ H fun x H'=>∃k,AL X.K x H' k/\Q k H'):=by
 intro pins s σ H Q I h;exact isTrue_plain (eQ (ha pins s σ H _ I h) fun v c ⟨x,H1,d,e,f⟩=>ya pins c σ H1 x v Q d e f) (he _)
theorem um:gg X (binaryOp .Add) (fun x y H Q=>∃i j,x = .str i/\y = .str j/\i.length+j.length<=cN/\Q (.str (i++j)) H):=by
 intro pins s σ H x y v u Q I d c h;obtain⟨i,j,rfl,rfl,a,q⟩:=h;obtain⟨t,rfl⟩:=d;obtain⟨b,rfl⟩:=c;exact add_str (fun b tk=>⟨.str (i++j),H,I.tok _,⟨_,rfl⟩,q⟩) a
theorem hH{x:V}{a:List cE}(r:dE [x] a):∃u,a=[u]/\dn x u:=by
 cases r with
 |cons b r2=>cases r2;exact⟨_,rfl,b⟩
theorem xV{x y:V}{a:List cE}(r:dE [x,y] a):∃u w',a=[u,w']/\dn x u/\dn y w':=by
 cases r with
 |cons b r2=>
  cases r2 with
  |cons c d=>cases d;exact⟨_,_,rfl,b,c⟩
theorem xy(hc:X.calm=true):ei X (.builtin "max") (fun xs H Q=>∃i j,xs=[.int i,.int j]/\Q (.int (if j>i then j else i)) H):=by
 intro pins s σ H xs d Q I r h;obtain⟨i,j,rfl,q⟩:=h;obtain⟨u,b,rfl,⟨t,rfl⟩,⟨c,rfl⟩⟩:=xV r;refine max_two_ints (I.ok.hd hc) fun h' tk k=>⟨_,H,I.kept k,?_,q⟩;by_cases a:j>i
 ·rw[if_pos a,if_pos a];exact⟨_,rfl⟩
 ·rw[if_neg a,if_neg a];exact⟨_,rfl⟩
theorem xw(hc:X.calm=true):ei X (.builtin "min") (fun xs H Q=>∃i j,xs=[.int i,.int j]/\Q (.int (if j<i then j else i)) H):=by
 intro pins s σ H xs d Q I r h;obtain⟨i,j,rfl,q⟩:=h;obtain⟨u,b,rfl,⟨t,rfl⟩,⟨c,rfl⟩⟩:=xV r;refine min_two_ints (I.ok.hd hc) fun h' tk k=>⟨_,H,I.kept k,?_,q⟩;by_cases a:j<i
 ·rw[if_pos a,if_pos a];exact⟨_,rfl⟩
 ·rw[if_neg a,if_neg a];exact⟨_,rfl⟩
theorem pK:ei X (.type "int") (fun xs H Q=>(∃i,xs=[.int i]/\Q (.int i) H) \/ ∃k,xs=[.bl k]/\Q (.int (if k then 1 else 0)) H):=by
 intro pins s σ H xs b Q I r h;rcases h with⟨i,rfl,q⟩|⟨k,rfl,q⟩
 ·obtain⟨u,rfl,t,rfl⟩:=hH r;exact call_int_int ⟨.int i,H,I,⟨_,rfl⟩,q⟩
 ·obtain⟨u,rfl,a⟩:=hH r;cases a;exact call_int_bool ⟨.int (if k then 1 else 0),H,I.tok _,⟨_,rfl⟩,q⟩
end
end L2
namespace L2
open PySem PySem.Spec PyProof.Rows
structure GE (h:cP)(x dx C:cG)(mA:Str->Option cE):Prop where
 obj:h.get? x=some (PySem.W.instObj C dx)
 ns:h.Ns1 dx mA
 ne:dx≠x
theorem w4{h:cP}{dx:cG}{mA:Str->Option cE}(n:h.Ns1 dx mA):∃c,h.get? dx=some c /\ ∀name,PySem.W.lookIn name c=some (mA name):=by
 obtain⟨o,es,ep,j,d,g,_,f⟩:=n;refine⟨o,j,fun name=>?_⟩;have e:=f name;unfold nsFind findBy at e;rw[<- Array.find?_toList]at e;unfold PySem.W.lookIn;rw[d];dsimp only;split
 ·rename_i y q;rw[q]at e;exact congrArg some e
 ·rename_i q;rw [q] at e;have a:es.toList.any (·.refKey)=false:=by
   rw[aw];intro y k;obtain⟨z,t,b⟩:=g y (Array.mem_toList_iff.mp k);simp[DictEntry.refKey,b]
  have i:¬ es.toList.any (·.refKey)=true:=by rw[a];exact au
  rw[if_neg i];exact congrArg some e
theorem GE.look{h:cP}{x dx C:cG}{mA:Str->Option cE}(I:GE h x dx C mA):∃a,PySem.W.InstAt h x (PySem.W.instObj C dx) C (some a) /\ ∀name,PySem.W.lookIn name a=some (mA name):=
 let ⟨a,ho,hl⟩:=w4 I.ns
 ⟨a,⟨I.obj,rfl,rfl,ho⟩,hl⟩
section
variable{prog:cH}{w:cJ}{A:cI}{E:cE->cF->Prop}{s:cF}{K:Fg1}{x dx C f:cG}{mA:Str->Option cE}{name:Str}{v:cE}
end
theorem mD.some_of{v:V}{o:Option cE}(r:mD (some v) o):∃u,o=some u/\dn v u:=by
 cases o with
 |none=>exact(show False from r).elim
 |some u=>exact⟨u,rfl,r⟩
section
variable{P:cH}{w:cJ}{H H':Hp}{h h':cP}{a C dx:cG}{fs fs':List (Str×V)}
theorem CD(b:li P w H h)(e:H a=some (.ins C dx fs)):∃mA,GE h a dx C mA/\(∀f,mD (fs.lookup f) (mA f))/\PySem.Within mA (fs.map (·.1))/\fs.length<=1000/\H dx=some (.own a):=by
 obtain⟨d,z,ne,c,mA,n,r,q⟩:=(show ea P w H h a (.ins C dx fs)from b a _ e);exact⟨mA,⟨c,n,ne⟩,r,q,z,d⟩
end
structure Ka (K:Fg1)(C:cG):Prop where
 pg:PySem.W.plainGet K C Str.empty=true
 hd:PySem.W.hasDictIn K C=true
 po:PySem.W.plainOver K C=true
 sa:PySem.W.findIn K (.ref C) "__setattr__"=some (some (.builtin "object.__setattr__"))
theorem Ka.get{K:Fg1}{C:cG}(c:Ka K C)(f:Str):PySem.W.plainGet K C f=true:=c.pg
section
variable{X:Cx}{pins:List (cG×Obj)}{σ:St}{H:Hp}{s:cF}{a C dx:cG}{fs:List (Str×V)}{f:Str}{v:V}{A:cI}{E:cE->cF->Prop}
end
section
variable{X:Cx}{o e value:Expr}{f:Str}{pos pos' tpos:Pos}{ta tv:TE}
end
section
variable{X:Cx}{pins:List (cG×Obj)}{σ:St}{H:Hp}{s:cF}{A:cI}{E:cE->cF->Prop}{Q:cE->cF->Prop}{c:cE}{b:Bool}
inductive m9 (K:Fg1)(H:Hp):V->cE->Prop where
 |non:m9 K H .non (.type "NoneType")
 |bl (x:Bool):m9 K H (.bl x) (.type "bool")
 |int (i:Int):m9 K H (.int i) (.type "int")
 |str (x:Str):m9 K H (.str x) (.type "str")
 |flt (x:UInt64):m9 K H (.flt x) (.type "float")
 |lst {a:cG} {xs:List V} (e:H a=some (.lst xs)):m9 K H (.ref a) (.type "list")
 |frz {a:cG} {o:Obj} {xs:List V} (e:H a=some (.frz o (.lst xs))):m9 K H (.ref a) (.type "list")
 |tup {a:cG} {xs:List V} (e:H a=some (.tup xs)):m9 K H (.ref a) (.type "tuple")
 |dK {a:cG} {kvs:List (Key×V)} (e:H a=some (.dK kvs)):m9 K H (.ref a) (.type "dict")
 |dT {a:cG} {kvs:List (List Key×V)} (e:H a=some (.dT kvs)):m9 K H (.ref a) (.type "dict")
 | ins {a C dx:cG} {fs:List (Str×V)} (e:H a=some (.ins C dx fs)) (cl:Ka K C) (ha:PySem.W.findIn K (.ref C) "__class__"=some (some (.builtin "object.__class__")))
   (hn:PySem.W.specialIn K (.builtin "object.__class__") "__get__"=some (some (.builtin "getset_descriptor.__get__"))) (htk:PySem.W.takesIn K (.builtin "object.__class__")=some true)
   (hm:PySem.W.mroIn K C (.type "object")=some true):m9 K H (.ref a) (.ref C)
theorem iN{x:V}{u t:cE}(I:Inv X pins σ H s)(f:dn x u)(ty:m9 X.K H x t)(e:PySem.W.kitOne X.K t c=some b)(h:∀ tk,Q (.bool b) {s with toks:=tk}):
  cO (model X.prog X.w) A (call (.builtin "isinstance") [u,c]) Q E s:=by
 cases ty with
 |non=>cases(show u=Value.none from f);exact PySem.W.kia_one PySem.W.kitx_none I.kIn True.intro e (fun z=>nomatch z) h
 |bl y=>cases(show u=Value.bool y from f);exact PySem.W.kia_one PySem.W.kitx_bool I.kIn True.intro e (fun z=>nomatch z) h
 |int i=>obtain⟨t,q⟩:=(show∃t,u=Value.int i t from f);cases q;exact PySem.W.kia_one PySem.W.kitx_int I.kIn True.intro e (fun z=>nomatch z) h
 |str y=>obtain⟨t,q⟩:=(show∃t,u=Value.str y t from f);cases q;exact PySem.W.kia_one PySem.W.kitx_str I.kIn True.intro e (fun z=>nomatch z) h
 |flt y=>obtain⟨t,q⟩:=(show∃t,u=Value.float y t from f);cases q;exact PySem.W.kia_one PySem.W.kitx_float I.kIn True.intro e (fun z=>nomatch z) h
 | @lst a xs d=>
  cases(show u=Value.ref a from f);obtain⟨_,_,n,_,h1⟩:=(show ea X.prog X.w H s.heap a (.lst xs)from I.hok a _ d);exact PySem.W.kia_one PySem.W.kitx_list I.kIn ⟨_,h1,rfl⟩ e (fun z=>nomatch z) h
 | @frz a m xs d=>
  cases(show u=Value.ref a from f);obtain⟨_,_,_,n,_,h1⟩:=(show ea X.prog X.w H s.heap a (.frz m (.lst xs))from I.hok a _ d);exact PySem.W.kia_one PySem.W.kitx_list I.kIn ⟨_,h1,rfl⟩ e (fun z=>nomatch z) h
 | @tup a xs d=>
  cases(show u=Value.ref a from f);obtain⟨_,_,_,p⟩:=(show ea X.prog X.w H s.heap a (.tup xs)from I.hok a _ d);obtain⟨o,h1,h2,_⟩:=p;exact PySem.W.kia_one PySem.W.kitx_tuple I.kIn ⟨o,h1,h2⟩ e (fun z=>nomatch z) h
 | @dK a kvs d=>
  cases(show u=Value.ref a from f);obtain⟨_,_,vs,_,p⟩:=(show ea X.prog X.w H s.heap a (.dK kvs)from I.hok a _ d);obtain⟨o,es,ep,h1,h2,_⟩:=p;exact PySem.W.kia_one PySem.W.kitx_dict I.kIn ⟨o,h1,h2.1⟩ e (fun z=>nomatch z) h
 | @dT a kvs d=>
  cases(show u=Value.ref a from f);obtain⟨_,_,xs,_,o,es,ep,h1,h2,_⟩:=(show ea X.prog X.w H s.heap a (.dT kvs)from I.hok a _ d);exact PySem.W.kia_one PySem.W.kitx_dict I.kIn ⟨o,h1,h2.1⟩ e (fun z=>nomatch z) h
 | @ins a C dx fs d j r l g k=>
  cases(show u=Value.ref a from f);obtain⟨mA,O,_⟩:=CD I.hok d;obtain⟨v,J,_⟩:=O.look;exact PySem.W.kia_one (PySem.W.kitx_own (j.get _) j.hd r l g k) I.kIn J e (fun z=>nomatch z) h
end
end L2
namespace L2
open PySem PySem.Spec PyProof.Rows
structure fR (k:Nat)(A:cI):Prop where
 hd:A.handled=none
 dp:A.depth+3*k+5<recursionLimit
 un:A.units+16*k+200<cLine
 gd:A.guards=some []
theorem fR.mono{j k:Nat}{A:cI}(r:fR k A)(h:j<=k):fR j A:=⟨r.hd,by have:=r.dp;lia,by have:=r.un;lia,r.gd⟩
theorem fR.deeper{k:Nat}{A:cI}(r:fR (k+1) A)(env:Env):fR k (A.deeper env):=
 ⟨r.hd,by have:=r.dp;show A.depth+1+3*k+5<_;lia,by have:=r.un;show A.units+3+16*k+200<_;lia,r.gd⟩
theorem fR.depth{k:Nat}{A:cI}(r:fR k A):A.depth<recursionLimit:=by have:=r.dp;lia
theorem fR.units{k:Nat}{A:cI}(r:fR k A):A.units+64<cLine:=by have:=r.un;lia
def Jf:TA:=fun _ H Q=>Q [] H
def G4(ta:TE)(tr:TA):TA:=fun σ H Q=>ta σ H fun x H1=>tr σ H1 fun xs H2=>Q (x::xs) H2
section
variable{X:Cx}{e:Expr}{es:List Expr}{te:TE}{t:TA}{pos:Pos}
theorem ma:PA X [] Jf:=fun _ _ _ _ H Q I h=>Calls.spliced_nil ⟨[],H,I,.nil,h⟩
theorem i6(ha:PE X e te)(hr:PA X es t)(hs:cM (e::es) X.env=(false,eval e X.env)::cM es X.env:=by rfl):PA X (e::es) (G4 te t):=by
 intro pos pins s σ H Q I h;rw[hs];show cO _ _ (spliced ((false,eval e X.env)::backTo pos (cM es X.env))) _ _ s;refine Calls.spliced_cons (eQ (ha pins s σ H _ I h) fun u a ⟨x,H1,b,d,g⟩=>?_);exact eQ (hr pos pins a σ H1 _ b g) fun j i ⟨xs,H2,f,r2,c⟩=>⟨x::xs,H2,f,.cons d r2,c⟩
def Ja(t:TA):TE:=fun σ H Q=>t σ H fun xs H1=>xs.length<=cN /\ ∀p,H1 p=none->Q (.ref p) (upd H1 p (.tup xs))
def Jj(t:TA):TE:=fun σ H Q=>t σ H fun xs H1=>xs.length<=cN /\ ∀p,H1 p=none->Q (.ref p) (upd H1 p (.lst xs))
theorem EB{x1}(h:PA X es t):PE X (.Tuple es x1 pos) (Ja t):=by
 intro pins s σ H Q I d;refine wpAny_Tuple_spliced (eQ (h pos pins s σ H _ I d) fun f a ⟨xs,H1,c,r,z,q⟩=>⟨by rw[<- r.length];exact z,?_⟩);have g:H1 a.heap.objs.size=none:=c.hok.fresh (nR1 _);refine⟨.ref a.heap.objs.size,upd H1 a.heap.objs.size (.tup xs),c.laid (t':=a.toks) (fun b u e=>hP1 _ e) (nR1 _) ?_,rfl,q _ g⟩;exact⟨z,f,r,⟨_,hS1 _ rfl,rfl,_,rfl⟩⟩
theorem EH(h:PA X es t):PE X (.List es pos) (Jj t):=by
 intro pins s σ H Q I d;refine wpAny_List_spliced (eQ (h pos pins s σ H _ I d) fun f a ⟨xs,H1,c,r,z,q⟩=>⟨by rw[<- r.length];exact z,?_⟩);have g:H1 a.heap.objs.size=none:=c.hok.fresh (nR1 _);refine⟨.ref a.heap.objs.size,upd H1 a.heap.objs.size (.lst xs),c.laid (t':=a.toks) (fun b u e=>hP1 _ e) (nR1 _) ?_,rfl,q _ g⟩;exact⟨z,f,0,r,hS1 _ rfl⟩
end
abbrev Sp:=List V->Hp->VK->XK->Prop
abbrev xI:=List Env->Hp->cF->XK->cE->cF->Prop
structure C9 (P:cH)(w:cJ)(K:Fg1)(mg:Str->Option cE)(base:cP)(A:cI)(outer:List Env)(s:cF)(H:Hp):Prop where
 frames:A.frames=some outer
 mod:Mod K mg base
 bs:∀b o,base.get? b=some o->s.heap.get? b=some o/\H b=none
 bsz:base.objs.size<=s.heap.objs.size
 funs:s.heap.FunFrames base outer
 frf:∀b∈frs outer,H b=none
 hok:li P w H s.heap
 bare:AllBare s.gens
def CE(outer:List Env)(P:cH)(w:cJ)(H:Hp)(s:cF)(Q:VK)(u:cE)(s':cF):Prop:=
 ∃v H',s'.os=s.os/\AllBare s'.gens/\Un (frs outer) [] H H' s.heap s'.heap/\li P w H' s'.heap/\dn v u/\Q v H'
def CR(CX:xI)(outer:List Env)(P:cH)(w:cJ)(H:Hp)(s:cF)(Q:VK)(E:XK)(r:Result)(s':cF):Prop:=
 match r with
 | .ok (.ret u)=>CE outer P w H s Q u s'
 | .ok _=>False
 | .error e=>CX outer H s E e s'
structure mE (P:cH)(w:cJ)(K:Fg1)(mg:Str->Option cE)(base:cP)(CX:xI)(k:Nat)(f:cG)(fd:cQ)(ps:List Str)(sp:Sp):Prop where
 len:∀vs H Q E,sp vs H Q E->vs.length=ps.length
 run:∀(A:cI) (outer:List Env) (s:cF) (H:Hp) (args:Args) (us:List cE) (vs:List V) (Q:VK) (E:XK),fR k A->C9 P w K mg base A outer s H->BindsTo s fd args (ps.zip us)->dE vs us->sp vs H Q E ->
  codeAny (model P w) A (.call (.ref f) args) (CR CX outer P w H s Q E) s
section
variable{X:Cx}{pins:List (cG×Obj)}{σ:St}{H:Hp}{s s':cF}
theorem Inv.env0(I:Inv X pins σ H s):C9 X.prog X.w X.K X.mg X.base X.A X.stack s H:=
 ⟨I.ok.frames,I.ok.mod,I.bs,ai I.ok.bsz I.sz,I.stack,I.stkFree,I.hok,I.bare⟩
theorem Inv.after{Q:VK}{u:cE}(I:Inv X pins σ H s)(h:CE X.stack X.prog X.w H s Q u s'):EP X pins σ Q u s':=by
 obtain⟨v,H',i,a,un,e,r,q⟩:=h;obtain⟨f,g,d,t,c⟩:=s';obtain rfl:c=s.os:=i;exact⟨v,H',I.call (h':=f) (g':=g) (d':=d) (t':=t) (ch:=[]) un e a (fun b z=>absurd z (by simp)),r,q⟩
end
def G5(sp:Sp)(dvs:List V)(E:XK)(t:TA):TE:=fun σ H Q=>t σ H fun vs H1=>sp (vs++dvs) H1 Q E
def lY(K:Fg1)(fd:cQ)(ps:List Str)(ds:List cE):Prop:=
 ∀(s:cF) (us:List cE),K.In s.heap->(us++ds).length=ps.length->BindsTo s fd ⟨us,[]⟩ (ps.zip (us++ds))
theorem lY.all{K:Fg1}{fd:cQ}{ps:List Str}(h:∀a:List cE,a.length=ps.length->bindArgs fd ⟨a,[]⟩=pure (ps.zip a)):lY K fd ps []:=fun s a _ b=>by
 rw[ay]at b ⊢;exact .of_eq (h a b)
def uV(CX:xI)(X:Cx)(E:XK):Prop:=∀(pins:List (cG×Obj)) (σ:St) (H:Hp) (s:cF) (e:cE) (s':cF),Inv X pins σ H s->CX X.stack H s E e s'->X.xe e s'
section
variable{X:Cx}{CX:xI}{k:Nat}{f C:cG}{fd:cQ}{ps:List Str}{sp:Sp}{dvs:List V}{ds:List cE}{E:XK}{x m:Str}{p pos apos:Pos}{e o:Expr}{es:List Expr}{ta:TE}{t:TA}
theorem Ee{pins:List (cG×Obj)}{σ:St}{H:Hp}{s:cF}{Q:VK}{a:List cE}{vs:List V}(F:mE X.prog X.w X.K X.mg X.base CX k f fd ps sp)(hr:fR k X.A)(hb:lY X.K fd ps ds)(hd:dE dvs ds)(hx:uV CX X E)(I:Inv X pins σ H s)(r:dE vs a)(h:sp (vs++dvs) H Q E):cO (model X.prog X.w) X.A (call (.ref f) a) (EP X pins σ Q) X.xe s:=by
 have r2:dE (vs++dvs) (a++ds):=r.append hd;have d:(a++ds).length=ps.length:=by rw[<- r2.length];exact F.len _ _ _ _ h
 refine wpAny_call (codeAny_mono (F.run X.A X.stack s H ⟨a,[]⟩ (a++ds) (vs++dvs) Q E hr I.env0 (hb s a I.kIn d) r2 h) fun r s' b=>?_);cases r with
 |error e=>exact hx pins σ H s e s' I b
 |ok c=>
  cases c with
  |ret u=>exact I.after b
  |next=>exact False.elim b
  |brk=>exact False.elim b
  |cont=>exact False.elim b
theorem BP (F:mE X.prog X.w X.K X.mg X.base CX k f fd ps sp)(hr:fR k X.A)(hg:Gl X x)(hm:X.mg x=some (.ref f))(hk:wK1 X.K (.ref f)=true)(hb:lY X.K fd ps ds)(hd:dE dvs ds)(hx:uV CX X E)
  (ha:PA X (e::es) t) (hdb:(x == ("__debug__":Str))=false:=by decide) (he:cM (e::es) X.env=(false,eval e X.env)::cM es X.env:=by rfl) (hpl:(backTo pos (cM es X.env)).any (·.1)=false:=by rfl):
  PE X (.Call (.Name x p) (e::es) [] pos) (G5 sp dvs E t):=by
 intro pins s σ H Q I h;refine wpAny_Call_Name_kw (Cr I hg hm ?_ hdb);refine PySem.W.callWith_K (h₀:=X.base) I.ok.mod.kin hk (eQ (ha pos pins s σ H _ I h) fun b c ⟨vs,H1,a,r,q⟩=>⟨a.kIn,?_⟩) he hpl;exact Ee F hr hb hd hx a r q
end
section
variable{X:Cx}{CX:xI}{k:Nat}{f C:cG}{fd:cQ}{ps ks:List Str}{sp:Sp}{E:XK}{x m:Str}{p pos apos kpos:Pos}{e o:Expr}{es:List Expr}{kws:List Keyword}{te ta:TE}{t tk:TA}{nm:Option Str}
variable{g:List cE->List cE->List cE}{gV:List V->List V->List V}
end
structure dg (N P:List Str)(sc:cS):Prop where
 kind:sc.kind = .function
 co:sc.isCoroutine=false
 gen:sc.isGenerator=false
 nd:N.Nodup
 pre:N.take P.length=P
 par:∀x∈P,sc.names.lookup x=some .local\/sc.names.lookup x=some .cell
 nofree:∀y∈sc.names,y.2 ≠ .free
theorem pN{kindOf:Str->Option NameKind}{x:Str}:∀{binds:List (Str×cE)} {m:Str->Option cE},(∀v,(x,v)∉binds)->bindL kindOf binds m x=m x
 |[],_,_=>rfl
 |(n,v)::r,m,h=>by
  unfold bindL;rw[pN fun w a=>h w (mC1 _ a)];split
  ·have:x≠n:=by rintro rfl;exact h v mS1
   simp[this]
  ·rfl
theorem pP{kindOf:Str->Option NameKind}{x:Str}:∀{binds:List (Str×cE)} {m:Str->Option cE},(∀v,(x,v)∉binds)->bindC kindOf binds m x=m x
 |[],_,_=>rfl
 |(n,v)::r,m,h=>by
  unfold bindC;rw[pP fun w a=>h w (mC1 _ a)];split
  ·rfl
  ·have:x≠n:=by rintro rfl;exact h v mS1
   simp[this]
theorem pO{kindOf:Str->Option NameKind}{x:Str}{v:cE}:∀ {P:List Str} {vs:List cE} {i:Nat} {m:Str->Option cE},P.Nodup->P[i]? = some x->vs[i]? = some v->kindOf x=some .local ->
  bindL kindOf (P.zip vs) m x=some v
 |[],_,_,_,_,h,_,_=>by simp at h
 |_::_,[],_,_,_,_,h,_=>by simp at h
 |p::P,w::vs,0,m,nd,h1,h2,hk=>by
  simp at h1 h2;subst h1;subst h2;show bindL kindOf ((p,w)::P.zip vs) m p=_;unfold bindL;rw[pN fun v a=>(az.mp nd).1 (aA a).1,if_pos hk];simp
 |p::P,w::vs,i+1,m,nd,h1,h2,hk=>by
  show bindL kindOf ((p,w)::P.zip vs) m x=_;unfold bindL;exact pO (i:=i) (az.mp nd).2 (by simpa using h1) (by simpa using h2) hk
theorem pQ{kindOf:Str->Option NameKind}{x:Str}{v:cE}:∀ {P:List Str} {vs:List cE} {i:Nat} {m:Str->Option cE},P.Nodup->P[i]? = some x->vs[i]? = some v->kindOf x≠some .local ->
  bindC kindOf (P.zip vs) m x=some v
 |[],_,_,_,_,h,_,_=>by simp at h
 |_::_,[],_,_,_,_,h,_=>by simp at h
 |p::P,w::vs,0,m,nd,h1,h2,hk=>by
  simp at h1 h2;subst h1;subst h2;show bindC kindOf ((p,w)::P.zip vs) m p=_;unfold bindC;rw[pP fun v a=>(az.mp nd).1 (aA a).1,if_neg hk];simp
 |p::P,w::vs,i+1,m,nd,h1,h2,hk=>by
  show bindC kindOf ((p,w)::P.zip vs) m x=_;unfold bindC;exact pQ (i:=i) (az.mp nd).2 (by simpa using h1) (by simpa using h2) hk
def js(N:List Str)(vs:List V):St:=vs.map some++aB (N.length-vs.length) none
def om(CX:xI)(P:cH)(w:cJ)(K:Fg1)(mg:Str->Option cE)(base:cP)(N:List Str)(qual:Str)(scope:cS)(f:cG)(cd:cE)(A:cI)(outer:List Env)(s:cF)(H:Hp)(E:XK):Cx where
 prog:=P
 w:=w
 K:=K
 mg:=mg
 base:=base
 A:=A.deeper (envOfC qual scope s.heap.objs.size f cd)
 N:=N
 s₀:=s
 H₀:=H
 env:=envOfC qual scope s.heap.objs.size f cd
 outer:=outer
 stack:=envOfC qual scope s.heap.objs.size f cd::outer
 ex:=[]
 calm:=true
 fn:=fun _=>true
 pn:=[]
 xe:=fun e s'=>cO (model P w) (A.deeper (envOfC qual scope s.heap.objs.size f cd)) (leaving (envOfC qual scope s.heap.objs.size f cd) e) (fun _ s''=>CX outer H s E e s'') (fun e' s''=>CX outer H s E e' s'') s'
theorem tP{a:cS}{n:Nat}{x:Str}(h:a.names.lookup x=some .cell):∃c,(cellsFrom n a.names []).lookup x=some c:=by
 have q:=PySem.W.cellsFrom_some a.names n [] (.inl h);exact aC.mp q
theorem w9{CX:xI}{P:cH}{w:cJ}{K:Fg1}{mg:Str->Option cE}{base:cP}{N ps:List Str}{g:Str}{scope:cS}{f:cG}{t:cE}{A:cI}{d:List Env}{s s1:cF}{H:Hp}{E:XK}{B:List cE}{vs:List V}(S:dg N ps scope)(hd:A.handled=none)(e0:C9 P w K mg base A d s H)(L:vs.length=ps.length)(r:dE vs B)(x:InCallC s s.heap.objs.size (bindL (envOfC g scope s.heap.objs.size f t).kindOf (ps.zip B) fun _=>none) (cellsFrom (s.heap.objs.size+1) scope.names []) (bindC (envOfC g scope s.heap.objs.size f t).kindOf (ps.zip B) fun _=>none) s1):
  Inv (om CX P w K mg base N g scope f t A d s H E) [] (js N vs) H s1:=by
 have F:ps.length<=N.length:=by have:=congrArg List.length S.pre;rw[aD]at this;lia
 obtain⟨h1,tk,rfl,D⟩:=x.done;have l:∀b:cG,b∉(om CX P w K mg base N g scope f t A d s H E).ex:=fun b z=>absurd (show b∈([]:List cG)from z) (by simp);refine⟨⟨e0.mod,S.kind,rfl,rfl,nR1 _,fun y z c h1 h2=>?_,fun y j=>?_,fun y c _ h=>?_,fun _=>hd,Around.frames_deeper e0.frames,.inr ⟨rfl,rfl⟩,fun b z=>absurd z (l b),e0.bs,e0.bsz,fun b _ _=>l b,fun b z=>absurd z (l b),e0.funs,e0.frf⟩,
  rfl,e0.bare,Un.kept D,⟨_,x.toInCall.ns,fun i y v h1 h2 J=>?_⟩,fun y c h=>⟨_,x.cell y c h⟩,e0.hok.fresh (nR1 _),fun y c h=>?_,fun p o=>absurd (show p∈([]:List (cG×Obj))from o) (by simp),e0.hok.kept D,?_⟩
 ·exact name_of_addr x.apart (PySem.mem_of_lookup h1) (PySem.mem_of_lookup h2)
 ·have j:scope.names.lookup y=some .cell\/scope.names.lookup y=some .free:=j;rcases j with j|j
  ·exact tP j
  ·exact absurd rfl (S.nofree _ (PySem.mem_of_lookup j))
 ·exact Nat.le_of_lt (x.above y c (PySem.mem_of_lookup h))
 ·have hi:i<vs.length:=by
   unfold js at h2;by_cases hi:i<vs.length
   ·exact hi
   ·rw[gR1 (by simpa using hi)]at h2;rw[aE]at h2;split at h2<;>cases h2
  have I:vs[i]?=some v:=by
   unfold js at h2;rw[gL1 (by simpa using hi),gP1]at h2;cases e:vs[i]? with
   |none=>rw[e]at h2;cases h2
   |some a=>rw[e]at h2;cases h2;rfl
  obtain⟨u,C,G⟩:=r.get I;have o:ps[i]?=some y:=by
   rw[<- S.pre,aF (by lia)];exact h1
  have m:ps.Nodup:=by rw[<- S.pre];exact S.nd.sublist (List.take_sublist _ _)
  refine⟨u,G,?_⟩;rcases S.par y (gM1 o)with k|k
  ·exact .inl ⟨k,pO m o C k⟩
  ·obtain⟨c,e⟩:=tP (n:=s.heap.objs.size+1) k;refine .inr ⟨.inl k,c,e,?_⟩;have q:=x.cell y c e;rw[pQ m o C (by show scope.names.lookup y≠_;rw[k];decide)]at q;exact q
 ·exact e0.hok.fresh (Nat.le_of_lt (x.above y c (PySem.mem_of_lookup h)))
 ·unfold js;show _=N.length;rw[lA1,lM1,lR1];lia
theorem Ih{CX:xI}{P:cH}{w:cJ}{K:Fg1}{mg:Str->Option cE}{base:cP}{k:Nat}{f:cG}{name c:Str}{params:Arguments}{g:List cR}{scope:cS}{R kV p T d ct oc:cE}{M od:Option cG}{D:Array (Option cE)}{N ps:List Str}{sp:Sp}(lk:K.lookup f=some ⟨oc,od,.func (wF1 name c params g scope R kV p T M d ct),D⟩)(hcd:wC1 K d c=true)(S:dg N ps scope)(C:∀vs H Q E,sp vs H Q E->vs.length=ps.length)(i:∀(A:cI) (a:List Env) (s:cF) (H:Hp) (vs:List V) (Q:VK) (E:XK),fR k (A.deeper (envOfC c scope s.heap.objs.size f d))->sp vs H Q E ->
   ∃t,t4 (om CX P w K mg base N c scope f d A a s H E) g t/\t {nx:=fun _ H'=>Q .non H',rt:=Q} (js N vs) H):
  mE P w K mg base CX (k+1) f (wF1 name c params g scope R kV p T M d ct) ps sp:=by
 refine⟨C,fun A a s H U X vs Q E F m hb r B=>?_⟩;have hl:=C _ _ _ _ B;have O:K.In s.heap:=m.mod.kin.keeps fun b o e=>(m.bs b o e).1;have L:s.heap.NoLimit:=m.mod.nolimit.keeps fun b o e=>(m.bs b o e).1;have j:∀y∈ps.zip X,scope.names.lookup y.1=some .local\/(scope.names.lookup y.1=some .cell/\((cellsFrom (s.heap.objs.size+1) scope.names []).lookup y.1).isSome=true):=fun⟨n,v⟩ hy=>by
  rcases S.par n (aA hy).1 with q|q
  ·exact .inl q
  ·exact .inr ⟨q,PySem.W.cellsFrom_some _ _ _ (.inl q)⟩
 refine codeAny_call_function F.depth (O _ _ lk) rfl S.co S.gen rfl (PySem.W.codeRec_of O hcd) (hb _ _ _ _ ?_);refine wpAny_newFunctionEnv_cells S.kind j fun env W s1 x=>?_;subst W;refine⟨L.keeps x.toInCall.keep,codeAny_func ?_⟩;obtain⟨t,ht,Y⟩:=i A a s H vs Q E (F.deeper _) B;have I:Inv (om CX P w K mg base N c scope f d A a s H E) [] (js N vs) H s1:=w9 S F.hd m hl r x;refine wpAny_mono (ht [] s1 (js N vs) H _ I Y) (fun Z s' l=>?_) fun e s' l=>l;have z:∀{h:St} {H':Hp} {v:V} {u:cE},Inv (om CX P w K mg base N c scope f d A a s H E) [] h H' s'->dn v u->Q v H'->CE a P w H s Q u s':=
  fun{h H' v u} J G q=>⟨v,H',J.os,J.bare,J.base,J.hok,G,q⟩
 cases Z with
 |ret u=>
  obtain⟨v,h,H',J,G,q⟩:=l;exact z J G q
 |next=>
  obtain⟨h,H',J,q⟩:=l;exact z (v:=V.non) (u:=Value.none) J rfl q
 |brk=>
  obtain⟨_,_,_,q⟩:=l;exact False.elim q
 |cont=>
  obtain⟨_,_,_,q⟩:=l;exact False.elim q
end L2
namespace L2
open PySem PySem.Spec PyProof.Rows
section
variable{X:Cx}{x:Str}{p pos:Pos}{e:Expr}{es:List Expr}{t:TA}{id T:String}{r:List V->Hp->VK->Prop}
def Ke(r:List V->Hp->VK->Prop)(t:TA):TE:=fun σ H Q=>t σ H fun vs H1=>r vs H1 Q
theorem nN (hc:ei X (.builtin id) r)(hg:Gl X x)(hm:X.mg x=none)(hv:bootBuiltins x=some (.builtin id))(ha:PA X (e::es) t)(hn:x≠"__name__":=by decide)(hdb:(x == ("__debug__":Str))=false:=by decide)
  (he:cM (e::es) X.env=(false,eval e X.env)::cM es X.env:=by rfl) (hpl:(backTo pos (cM es X.env)).any (·.1)=false:=by rfl):PE X (.Call (.Name x p) (e::es) [] pos) (Ke r t):=by
 intro pins s σ H Q I h;refine wpAny_Call_Name_kw (jU I hg hm hv ?_ hn hdb);exact PyProof.Rows.callWith_builtin1 (eQ (ha pos pins s σ H _ I h) fun c a ⟨vs,H1,b,d,f⟩=>hc pins a σ H1 vs c Q b d f) he hpl
theorem kg (hc:ei X (.type T) r)(hg:Gl X x)(hm:X.mg x=none)(hv:bootBuiltins x=some (.type T))(ha:PA X (e::es) t)(hn:x≠"__name__":=by decide)(hdb:(x == ("__debug__":Str))=false:=by decide)
  (he:cM (e::es) X.env=(false,eval e X.env)::cM es X.env:=by rfl) (hpl:(backTo pos (cM es X.env)).any (·.1)=false:=by rfl):PE X (.Call (.Name x p) (e::es) [] pos) (Ke r t):=by
 intro pins s σ H Q I h;refine wpAny_Call_Name_kw (jU I hg hm hv ?_ hn hdb);exact PyProof.Rows.callWith_type1 (eQ (ha pos pins s σ H _ I h) fun c a ⟨vs,H1,b,d,f⟩=>hc pins a σ H1 vs c Q b d f) he hpl
end
end L2
namespace HT
open PySem PyProof.Rows
section
open PySem.SeqAt
open PySem.AutoSeq1 (wpAny_loadPart')
open PySem.MeetsSeq PySem.MeetsSeq2 PySem.MeetsSeq3
end
section
variable{prog:cH}{w:cJ}{A:cI}{E:cE->cF->Prop}{s:cF}
theorem CW {t b:cG}{vs ws:List cE}{Q:cE->cF->Prop}(ht:IsTup s.heap t vs.toArray)(hb:IsTup s.heap b ws.toArray)(hv:vs≠[])
  (h1:ws=[]->Q (.ref t) s) (h2:ws≠[]->Q (.ref s.heap.objs.size) {s with heap:=s.heap.push {cls:=.type "tuple",data:=.seq (vs++ws).toArray}})
  (hsz:vs.length+ws.length<=cN):cO (model prog w) A (binaryOp .Add (.ref t) (.ref b)) Q E s:=by
 obtain⟨⟨cls,o,data,l⟩,i,hc,n,k⟩:=id ht;obtain⟨⟨p,g,j,f⟩,a,c,m,d⟩:=id hb;simp only at hc k c d;subst hc k c d;have e:vs.toArray++ws.toArray=(vs++ws).toArray:=by simp
 by_cases h:ws=[]
 ·exact concat_meets ⟨_,i,rfl⟩ ⟨_,a,rfl⟩ noFill_tuple_add seq_tuple_add PySem.F.slot_tuple_add PySem.F.entry_tuple_add (PySem.F.args_tuple_add_2 _ _)
   (tuple_addW1 t b vs.toArray ws.toArray n m o g l f (by simpa using hv) (by simp[h])) ⟨i,a,h1 h⟩
 ·refine concat_meets ⟨_,i,rfl⟩ ⟨_,a,rfl⟩ noFill_tuple_add seq_tuple_add PySem.F.slot_tuple_add PySem.F.entry_tuple_add (PySem.F.args_tuple_add_2 _ _)
   (tuple_addW2 t b vs.toArray ws.toArray n m o g l f (by simpa using hv) (by simpa using h) (by rw[sT1,sT1];exact hsz)) ⟨i,a,?_⟩
  rw[e];exact h2 h
def sIx(n d:Nat):Option Int->Nat
 |none=>d
 |some v=>if v<0 then(v+(n:Int)).toNat else min v.toNat n
theorem sf(n d:Nat):sIx n d none=d:=rfl
theorem vg(n d k:Nat):sIx n d (some (k:Int))=min k n:=by
 show(if(k:Int)<0 then((k:Int)+(n:Int)).toNat else min (k:Int).toNat n)=min k n;rw[if_neg (by lia),Int.toNat_natCast]
theorem Ec(n d:Nat)(hd:d<=n)(o:Option Int):sIx n d o<=n:=by
 cases o with
 |none=>exact hd
 |some v=>
  show(if v<0 then(v+(n:Int)).toNat else min v.toNat n)<=n;by_cases a:v<0
  ·rw[if_pos a];lia
  ·rw[if_neg a];exact Nat.min_le_right _ _
theorem wf(v:Int)(n d:Nat):(if v<0 then max (v+(n:Int)) 0 else min v (n:Int))=((sIx n d (some v):Nat):Int):=by
 show(if v<0 then max (v+(n:Int)) 0 else min v (n:Int))=(((if v<0 then(v+(n:Int)).toNat else min v.toNat n):Nat):Int);by_cases a:v<0
 ·simp only[if_pos a];lia
 ·simp only[if_neg a];lia
theorem uQ(lo hi:Option Int)(n:Nat):Builtin.Slice.sliceAdjust lo hi 1 (n:Int)=(((sIx n 0 lo:Nat):Int),((sIx n n hi:Nat):Int)):=by
 have h1:¬ ((1:Int)<0):=by lia
 unfold Builtin.Slice.sliceAdjust;simp only[h1,if_false];refine Prod.ext ?_ ?_
 ·cases lo with
  |none=>rfl
  |some v=>exact wf v n 0
 ·cases hi with
  |none=>rfl
  |some v=>exact wf v n n
theorem ui(i j:Nat):Builtin.Slice.slicePlaces (i:Int) (j:Int) 1=j-i:=by
 unfold Builtin.Slice.slicePlaces;have h1:(1:Int)>0:=by lia
 simp only[h1,if_true,Int.ediv_one];split<;>lia
theorem nD{v:cE}{o:Option Int}{Q:Option Int->cF->Prop}(p:IsPart v o)(h:Q o s):cO (model prog w) A (Builtin.Slice.slicePartIndex v) Q E s:=by
 cases p with
 |none=>exact slicePart_none h
 |int i t=>exact slicePart_int h
theorem iG{e:cG}{d c:cE}{lo hi:Option Int}{n:Nat}{Q:Int×Int×Nat->cF->Prop}(hs:s.heap.IsSliceOf e d c .none)(pl:IsPart d lo)(g:IsPart c hi)(h:Q (((sIx n 0 lo:Nat):Int),1,sIx n n hi-sIx n 0 lo) s):cO (model prog w) A (Builtin.Slice.sliceApplied (.ref e) (pure (n:Int))) Q E s:=by
 obtain⟨i,b,f,a⟩:=id hs;unfold Builtin.Slice.sliceApplied Builtin.Slice.sliceFields;refine wB1 (wB1 (wpAny_field b a (x:=d) rfl (wB1 (wpAny_field b a (x:=c) rfl (wB1 (wpAny_field b a (x:=.none) rfl (wP1 ?_)))))));refine wB1 (slicePart_none ?_);show cO _ _ (if((1:Int) == 0)=true then _ else _) _ _ s;rw[if_neg (by decide)];refine wB1 (nD pl (wB1 (nD g (wB1 (wP1 ?_)))));show cO _ _ (match Builtin.Slice.sliceAdjust lo hi 1 (n:Int)with|(lo,hi)=>pure (lo,(1:Int),Builtin.Slice.slicePlaces lo hi 1)) _ _ s;rw[uQ lo hi n];show cO _ _ (pure (((sIx n 0 lo:Nat):Int),(1:Int),Builtin.Slice.slicePlaces ((sIx n 0 lo:Nat):Int) ((sIx n n hi:Nat):Int) 1)) _ _ s;rw[ui];exact wP1 h
theorem yR(xs:Array cE)(i k:Nat):((List.range k).filterMap fun(m:Nat)=>xs[((i:Int)+(m:Int)*1).toNat]?).toArray=((xs.toList.drop i).take k).toArray:=by
 have e:(fun(m:Nat)=>xs[((i:Int)+(m:Int)*1).toNat]?)=fun m=>xs[i+m]?:=by
  funext m
  have:((i:Int)+(m:Int)*1).toNat=i+m:=by lia
  rw[this]
 rw[e];have:=pick_run xs i k;rw[List.filterMap_map]at this;have a:((fun x=>xs[x]?)∘fun x=>i+x)=fun m=>xs[i+m]?:=rfl;rw[a]at this;rw[this]
theorem lI {t b:cG}{items:Array cE}{g i:cE}{lo hi:Option Int}{Q:cE->cF->Prop}(ht:IsTup s.heap t items)(hs:s.heap.IsSliceOf b g i .none)(pl:IsPart g lo)(k:IsPart i hi)
  (hw:¬ (sIx items.size 0 lo=0/\sIx items.size items.size hi=items.size))
  (h:Q (.ref s.heap.objs.size) {s with heap:=s.heap.push {cls:=.type "tuple",data:=.seq ((items.toList.drop (sIx items.size 0 lo)).take (sIx items.size items.size hi-sIx items.size 0 lo)).toArray}})
  (hsz:items.size<=cN):cO (model prog w) A (getItem (.ref t) (.ref b)) Q E s:=by
 have a:sizeOk (.seq ((items.toList.drop (sIx items.size 0 lo)).take (sIx items.size items.size hi-sIx items.size 0 lo)).toArray):=by
  show((items.toList.drop (sIx items.size 0 lo)).take (sIx items.size items.size hi-sIx items.size 0 lo)).toArray.size<=cN;rw[sT1,aD,aG,aq];omega
 have n:sIx items.size items.size hi<=items.size:=Ec _ _ (nR1 _) hi;obtain⟨l,e,c,j⟩:=id hs;have d:s.TypeIs (.ref b) "slice":=⟨l,e,c⟩;unfold getItem
 try with_reducible refine wpAny_holding ?_
 first|refine wB1 (wP1 ?_)|skip
 refine wB1 (wpAny_sequenceKey ht.typeIs (by decide) ?_);refine wB1 (wpAny_callSpecial?_slot (name:=Str.ofString "__getitem__") ht.typeIs PyProof.Rows.slot_tuple_getitem
  (wE1 PyProof.Rows.slot_tuple_getitem ht.typeIs entry_tuple_getitem ?_ (args_tuple_getitem _ _)))
 show cO _ _ (Builtin.Tuple.tupleItemsOf (.ref t) >>= _) _ _ s;refine wB1 (tupleItemsOf_ ht ?_);refine wB1 (wpAny_typeOf d ?_);rw[if_pos (by decide)];refine wB1 (iG hs pl k ?_);have f:¬ ((((sIx items.size 0 lo:Nat):Int) == 0&&(1:Int) == 1&&(sIx items.size items.size hi-sIx items.size 0 lo) == items.size)=true):=by
  intro q;rw[bA1,bA1]at q;have p:((sIx items.size 0 lo:Nat):Int)=0:=eq_of_beq q.1.1;have o:sIx items.size items.size hi-sIx items.size 0 lo=items.size:=eq_of_beq q.2;exact hw ⟨by omega,by omega⟩
 show cO _ _ (if(((sIx items.size 0 lo:Nat):Int) == 0&&(1:Int) == 1&&(sIx items.size items.size hi-sIx items.size 0 lo) == items.size)=true then _ else _) _ _ s;rw[if_neg f,yR]
 first
  |exact wB1 (m:=Builtin.Tuple.tupleExact _) (wO1 (wP1 ⟨_,rfl,wP1 h⟩) a)
  |exact wB1 (m:=Builtin.Tuple.tupleExact _) (wO1 (wB1 (wP1 (wP1 ⟨_,rfl,wP1 h⟩))) a)
  |exact wB1 (wB1 (m:=Builtin.Tuple.tupleExact _) (wO1 (wP1 (wP1 ⟨_,rfl,wP1 h⟩)) a))
  |exact wB1 (wB1 (m:=Builtin.Tuple.tupleExact _) (wO1 (wP1 ⟨_,rfl,wP1 h⟩) a))
end
end HT
namespace L2
open PySem PySem.Spec PyProof.Rows
abbrev TO:=St->Hp->(Option Int->Hp->Prop)->Prop
def PO(X:Cx)(e:Option Expr)(t:TO):Prop:=
 ∀(pins:List (cG×Obj)) (s:cF) (σ:St) (H:Hp) (Q:Option Int->Hp->Prop),Inv X pins σ H s->t σ H Q ->
  cO (model X.prog X.w) X.A (evalPart e X.env) (fun u s'=>∃o H',Inv X pins σ H' s'/\IsPart u o/\Q o H') X.xe s
def A9:TO:=fun _ H Q=>Q none H
def GT(t:TE):TO:=fun σ H Q=>t σ H fun x H1=>∃i,x = .int i/\Q (some i) H1
section
variable{X:Cx}{e:Expr}{te:TE}{lo hi:Option Expr}{tl th:TO}{pos p2:Pos}
theorem BF:PO X none A9:=by
 intro pins s σ H Q I h;rw[evalPart_none];exact wP1 ⟨none,H,I,.none,h⟩
theorem BE(h:PE X e te):PO X (some e) (GT te):=by
 intro pins s σ H Q I a;rw[evalPart_some];refine eQ (h pins s σ H _ I a) fun u f ⟨x,H1,b,c,d⟩=>?_;obtain⟨i,rfl,q⟩:=d;obtain⟨t,rfl⟩:=c;exact⟨some i,H1,b,.int i t,q⟩
def AS(X:Cx)(r:V->Option Int->Option Int->Hp->VK->Prop):Prop:=
 ∀(pins:List (cG×Obj)) (s:cF) (σ:St) (H:Hp) (x:V) (v vl vu:cE) (lo hi:Option Int) (sl:cG) (Q:VK),Inv X pins σ H s->dn x v->s.heap.IsSliceOf sl vl vu .none->IsPart vl lo->IsPart vu hi->r x lo hi H Q ->
  ∃T id,typeLookup (.type T) "__getitem__"=pure (some (.builtin id))/\s.TypeIs v T/\cO (model X.prog X.w) X.A (getItem v (.ref sl)) (EP X pins σ Q) X.xe s
theorem AS.or{r a:V->Option Int->Option Int->Hp->VK->Prop}(h:AS X r)(h':AS X a):AS X (fun x lo hi H Q=>r x lo hi H Q\/a x lo hi H Q):=by
 intro pins s σ H x v g b lo hi c Q I d f pl e q;rcases q with q|q
 ·exact h pins s σ H x v g b lo hi c Q I d f pl e q
 ·exact h' pins s σ H x v g b lo hi c Q I d f pl e q
def Kt(r:V->Option Int->Option Int->Hp->VK->Prop)(te:TE)(tl th:TO):TE:=fun σ H Q=>te σ H fun x H1=>tl σ H1 fun l H2=>th σ H2 fun u H3=>r x l u H3 Q
theorem yT{r:V->Option Int->Option Int->Hp->VK->Prop}(hr:AS X r)(he:PE X e te)(n:PO X lo tl)(m:PO X hi th):PE X (.Subscript e (.Slice lo hi none p2) pos) (Kt r te tl th):=by
 intro pins s σ H Q I h;refine Subscript_ (eQ (he pins s σ H _ I h) fun v i ⟨x,H1,o,j,z⟩=>?_);refine wpAny_Slice (eQ (n pins i σ H1 _ o z) fun d B ⟨l,H2,y,pl,D⟩=>eQ (m pins B σ H2 _ y D) fun c a ⟨u,f,w,C,p⟩=>?_);rw[evalPart_none];refine wP1 ?_;have t:Inv X pins σ f {a with heap:=a.heap.push {cls:=.type "slice",data:=.fields #[d,c,.none]}}:=w.kept (t':=a.toks) fun b E q=>hP1 _ q;obtain⟨T,id,k,A,g⟩:=hr pins {a with heap:=a.heap.push {cls:=.type "slice",data:=.fields #[d,c,.none]}} σ f x v d c l u a.heap.objs.size Q t j (Heap.IsSliceOf.new ..) pl C p;show cO (model X.prog X.w) X.A (subscriptTail e (.Slice lo hi none p2) v (.ref a.heap.objs.size)) (EP X pins σ Q) X.xe {a with heap:=a.heap.push {cls:=.type "slice",data:=.fields #[d,c,.none]}};exact tail_any (ops:=[.ref a.heap.objs.size,v]) A k g (by with_unfolding_all rfl)
def tK(xs:List V)(lo hi:Option Int):List V:=(xs.drop (HT.sIx xs.length 0 lo)).take (HT.sIx xs.length xs.length hi-HT.sIx xs.length 0 lo)
theorem mM(xs:List V)(lo hi:Option Int):(tK xs lo hi).length<=xs.length:=by
 unfold tK;rw[aD,aG];lia
def Js(K:Fg1):V->Option Int->Option Int->Hp->VK->Prop:=fun x lo hi H Q=>∃a xs,x = .ref a/\kB K H a xs /\
 ¬ (HT.sIx xs.length 0 lo=0/\HT.sIx xs.length xs.length hi=xs.length) /\ ∀p,H p=none->Q (.ref p) (upd H p (.tup (tK xs lo hi)))
theorem D4:AS X (Js X.K):=by
 intro pins s σ H x v t n lo hi m Q I i l pl k h;obtain⟨a,xs,rfl,j,g,q⟩:=h;cases i;obtain⟨d,r,e,f⟩:=I.tuple j;have c:d.toArray.size=xs.length:=by rw[sT1];exact r.length.symm
 refine⟨"tuple",_,PyProof.Rows.slot_tuple_getitem.lookup,e.typeIs,?_⟩;refine HT.lI e l pl k (by rw[c];exact g) ?_ (by rw[c];exact f);rw[c];refine⟨.ref s.heap.objs.size,_,I.laid (t':=s.toks) (o:=.tup (tK xs lo hi)) (fun b p q=>hP1 _ q) (nR1 _) ?_,rfl,q _ (I.hok.fresh (nR1 _))⟩;exact⟨ai (mM xs lo hi) f,_,(r.drop (HT.sIx xs.length 0 lo)).take (HT.sIx xs.length xs.length hi-HT.sIx xs.length 0 lo),IsTup.new _ _⟩
def Hf(K:Fg1):R2:=fun x y H Q=>∃a b xs ys,x = .ref a/\y = .ref b/\kB K H a xs/\kB K H b ys/\xs≠[]/\xs.length+ys.length<=cN /\
 (ys=[]->Q (.ref a) H)/\(ys≠[] -> ∀p,H p=none->Q (.ref p) (upd H p (.tup (xs++ys))))
theorem dE.nil_iff{xs:List V}{a:List cE}(r:dE xs a):a=[]↔xs=[]:=by
 cases r with
 |nil=>simp
 |cons _ _=>simp
theorem BU:gg X (binaryOp .Add) (Hf X.K):=by
 intro pins s σ H x y v u Q I g l h;obtain⟨a,b,xs,ys,rfl,rfl,p,j,i,e,n,k⟩:=h;cases g;cases l;obtain⟨f,c,m,_⟩:=I.tuple p;obtain⟨d,r2,p2,_⟩:=I.tuple j;refine HT.CW m p2 (fun z=>i (c.nil_iff.mp z)) (fun z=>⟨.ref a,H,I,rfl,n (r2.nil_iff.mp z)⟩) (fun z=>?_) (by rw[<- c.length,<- r2.length];exact e);refine⟨.ref s.heap.objs.size,_,I.laid (t':=s.toks) (o:=.tup (xs++ys)) (fun b r q=>hP1 _ q) (nR1 _) ?_,rfl,k (fun w=>z (r2.nil_iff.mpr w)) _ (I.hok.fresh (nR1 _))⟩;exact⟨by rw[lA1];exact e,_,c.append r2,IsTup.new _ _⟩
end
end L2
namespace L2
open PySem PySem.Spec PyProof.Rows
def vN(n:Nat)(i:Int):Option Nat:=if 0<=i then(if i<n then some i.toNat else none)else if-(n:Int)<=i then some (i+n).toNat else none
def uO{α:Type}(xs:List α)(i:Int):Option α:=(vN xs.length i).bind fun j=>xs[j]?
theorem qT{n:Nat}{i:Int}{j:Nat}(h:vN n i=some j):seqIndex? i n=some j/\j<n /\ -(n:Int)<=i/\i<n:=by
 unfold vN at h;by_cases a:0<=i
 ·rw[if_pos a]at h;by_cases h1:i<n
  ·rw[if_pos h1]at h;have e:i.toNat=j:=Option.some.inj h;exact⟨by rw[seqIndex_of a h1,e],by lia,by lia,h1⟩
  ·rw[if_neg h1]at h;cases h
 ·rw[if_neg a]at h;by_cases h1: -(n:Int)<=i
  ·rw[if_pos h1]at h;have e:(i+n).toNat=j:=Option.some.inj h;exact⟨by rw[seqIndex_neg (by lia) h1,e],by lia,h1,by lia⟩
  ·rw[if_neg h1]at h;cases h
theorem wl{α:Type}{xs:List α}{i:Int}{v:α}(h:uO xs i=some v):∃j,seqIndex? i xs.length=some j/\xs[j]?=some v/\j<xs.length /\ -(xs.length:Int)<=i/\i<xs.length:=by
 unfold uO at h;cases e:vN xs.length i with
 |none=>rw[e]at h;cases h
 |some j=>
  rw[e]at h;obtain⟨h1,h2,a,b⟩:=qT e;exact⟨j,h1,h,h2,a,b⟩
def nr(b:Expr):Prop:=∀o i,subscripted b false o i=operate [o,i] (getItem o i)
def DG(X:Cx)(r:R2):Prop:=
 ∀(value slice:Expr) (pins:List (cG×Obj)) (s:cF) (σ:St) (H:Hp) (x y:V) (v u:cE) (Q:VK),Inv X pins σ H s->dn x v->dn y u->r x y H Q ->
  subscripted slice false v u=operate [v,u] (getItem v u)->cO (model X.prog X.w) X.A (subscriptTail value slice v u) (EP X pins σ Q) X.xe s
def GG(X:Cx)(id:String)(r:V->List V->Hp->VK->Prop):Prop:=
 ∀(pins:List (cG×Obj)) (s:cF) (σ:St) (H:Hp) (x:V) (xs:List V) (v:cE) (us:List cE) (Q:VK),Inv X pins σ H s->dn x v->dE xs us->r x xs H Q ->
  cO (model X.prog X.w) X.A (call (.builtin id) (v::us)) (EP X pins σ Q) X.xe s
section
variable{X:Cx}{a b:Expr}{ta tb:TE}{pos:Pos}
theorem Hq{r:R2}(hr:DG X r)(ha:PE X a ta)(hb:PE X b tb)(hs:nr b):PE X (.Subscript a b pos) (GU r ta tb):=by
 intro pins s σ H Q I h;exact Subscript_ (Gp ha hb I h fun v u c x y H2 d f e q=>hr a b pins c σ H2 x y v u Q d f e q (hs _ _))
def Jv(K:Fg1):R2:=fun x y H Q=>∃p xs i v,x = .ref p/\y = .int i/\mR K H p xs/\uO xs i=some v/\Q v H
def Ju(K:Fg1):R2:=fun x y H Q=>∃p xs i v,x = .ref p/\y = .int i/\kB K H p xs/\uO xs i=some v/\Q v H
theorem CB:DG X (Jv X.K):=by
 intro value c pins s σ H x y v u Q I l C h f;obtain⟨p,xs,i,z,rfl,rfl,n,o,q⟩:=h;cases l;obtain⟨t,rfl⟩:=C;obtain⟨b,r,pl,D⟩:=I.list n;obtain⟨j,h1,h2,E,A,B⟩:=wl o;obtain⟨w,k,e⟩:=r.get h2;have m:=r.length;have F:=ml;have a:EP X pins σ Q w s:=⟨z,H,I,e,q⟩;by_cases g:0<=i
 ·have d:i.toNat=j:=by
   rw[seqIndex_of g B]at h1;exact Option.some.inj h1
  exact item_listR pl.isList g (by lia) (by rw[d];simpa using k) a f
 ·have d:(i+(b.toArray.size:Int)).toNat=j:=by
   rw[seqIndex_neg (by lia) A]at h1;rw[sT1,<- m];exact Option.some.inj h1
  exact subscriptTail_builtinR (x:=w) pl.isList.typeIs slot_list_getitem.lookup
   (wpAny_getItem_list_neg (Q:=fun r s'=>r=w/\EP X pins σ Q r s') pl.isList (by lia) (by rw[sT1]<;>lia) (by lia) (by rw[d];simpa using k) ⟨rfl,a⟩) f
theorem FU:DG X (Ju X.K):=by
 intro value a pins s σ H x y v u Q I e m h l;obtain⟨p,xs,i,z,rfl,rfl,g,k,q⟩:=h;cases e;obtain⟨t,rfl⟩:=m;obtain⟨d,r,pl,o⟩:=I.tuple g;obtain⟨j,h1,h2,A,C,D⟩:=wl k;obtain⟨w,n,c⟩:=r.get h2;have f:=r.length;have B:=ml;have b:EP X pins σ Q w s:=⟨z,H,I,c,q⟩;exact subscriptTail_builtinR (x:=w) pl.typeIs slot_tuple_getitem.lookup
  (getItem_tuple (j:=j) (Q:=fun r s'=>r=w/\EP X pins σ Q r s') pl (by lia) (by lia) (by rw[sT1,<- f];exact h1) (by simpa using n) ⟨rfl,b⟩) l
theorem uv(its:List cE)(n j:Nat)(u:cE):Obj.mapSeq (·.setIfInBounds j u) {cls:=.type "list",data:=.seq its.toArray n}={cls:=.type "list",data:=.seq (its.set j u).toArray n}:=by
 simp[Obj.mapSeq]
theorem Inv.lst{pins:List (cG×Obj)}{σ:St}{H:Hp}{s:cF}{p:cG}{xs:List V}(I:Inv X pins σ H s)(h:H p=some (.lst xs)):
  ∃(its:List cE) (n:Nat),dE xs its/\s.heap.get? p=some {cls:=.type "list",data:=.seq its.toArray n}/\xs.length<=cN:=by
 obtain⟨z,its,n,r,e⟩:=I.hok p _ h;exact⟨its,n,r,e,z⟩
theorem Inv.lstUpd {pins:List (cG×Obj)}{σ:St}{H:Hp}{s:cF}{p:cG}{xs ys:List V}{its its':List cE}{n a:Nat}{f:Obj->Obj}(I:Inv X pins σ H s)(h:H p=some (.lst xs))
  (ho:s.heap.get? p=some {cls:=.type "list",data:=.seq its.toArray n}) (hf:f {cls:=.type "list",data:=.seq its.toArray n}={cls:=.type "list",data:=.seq its'.toArray a}) (r:dE ys its') (hz:ys.length<=cN) (t:Nat):
  Inv X pins σ (upd H p (.lst ys)) {s with heap:=s.heap.update p f,toks:=t}:=by
 have e:(s.heap.update p f).get? p=some {cls:=.type "list",data:=.seq its'.toArray a}:=by
  rw[hW1 f ho (by rw[hf]<;>rfl),hf]
 refine I.write (x:=p) (e:=p) (by rw[h];trivial) (.inl rfl) (fun b u c q=>(Heap.get?_update_other _ _ (Ne.symm c)).trans q) ⟨_,e⟩ ?_;exact⟨hz,its',a,r,e⟩
def Hc:V->V->V->Hp->(Hp->Prop)->Prop:=fun o i v H Q=>∃p xs k j,o = .ref p/\i = .int k/\H p=some (.lst xs)/\vN xs.length k=some j/\Q (upd H p (.lst (xs.set j v)))
theorem yB:uW X Hc:=by
 intro pins s σ H o i v D B u Q I A z y h;obtain⟨p,xs,k,j,rfl,rfl,f,x,q⟩:=h;cases A;obtain⟨t,rfl⟩:=z;obtain⟨a,n,r,d,w⟩:=I.lst f;obtain⟨h1,h2,e,m⟩:=qT x;have b:=r.length;have C:=ml;have g:Inv X pins σ (upd H p (.lst (xs.set j v))) {s with heap:=s.heap.update p (Obj.mapSeq (·.setIfInBounds j u))}:=
  I.lstUpd f d (uv a n j u) (r.set y j) (by rw[aH];exact w) s.toks
 by_cases l:0<=k
 ·have c:k.toNat=j:=by
   rw[seqIndex_of l m]at h1;exact Option.some.inj h1
  exact PySem.W.ki_setAt d l (by lia) (by rw[sT1,<- b];exact m) (by rw[c];exact⟨_,g,q⟩)
 ·have c:(k+(a.toArray.size:Int)).toNat=j:=by
   rw[seqIndex_neg (by lia) e]at h1;rw[sT1,<- b];exact Option.some.inj h1
  exact PySem.W.ki_setBack d (by lia) (by rw[sT1,<- b];exact e) (by lia) (by rw[c];exact⟨_,g,q⟩)
theorem p8(lo hi:Option Int)(n:Nat):(sliceBounds lo hi none n).1=((HT.sIx n 0 lo:Nat):Int)/\(sliceBounds lo hi none n).2.1=((HT.sIx n n hi:Nat):Int)/\(sliceBounds lo hi none n).2.2=1:=by
 refine⟨?_,?_,rfl⟩
 ·cases lo with
  |none=>simp[sliceBounds,HT.sIx]
  |some i=>
   simp only[sliceBounds,HT.sIx,Option.getD_none,show(1:Int)>0 by decide,if_true];by_cases h:i<0
   ·simp only[h,if_true]<;>lia
   ·simp only[h,if_false]<;>lia
 ·cases hi with
  |none=>simp[sliceBounds,HT.sIx]
  |some i=>
   simp only[sliceBounds,HT.sIx,Option.getD_none,show(1:Int)>0 by decide,if_true];by_cases h:i<0
   ·simp only[h,if_true]<;>lia
   ·simp only[h,if_false]<;>lia
theorem oF(its:List cE)(lo hi:Option Int):slicePick its.toArray lo hi none=((its.drop (HT.sIx its.length 0 lo)).take (HT.sIx its.length its.length hi-HT.sIx its.length 0 lo)).toArray:=by
 obtain⟨h1,h2,a⟩:=p8 lo hi its.toArray.size;unfold slicePick;rw[h1,h2,a];simp only[sliceRange_one,pick_run,sT1]<;>rfl
def Jt(K:Fg1):V->Option Int->Option Int->Hp->VK->Prop:=fun x lo hi H Q=>∃a xs,x = .ref a/\mR K H a xs /\ ∀p,H p=none->Q (.ref p) (upd H p (.lst (tK xs lo hi)))
theorem Bk:AS X (Jt X.K):=by
 intro pins s σ H x v p m lo hi l Q I g k pl j h;obtain⟨a,xs,rfl,i,q⟩:=h;cases g;obtain⟨f,r,d,e⟩:=I.list i;have c:=r.length;refine⟨"list",_,slot_list_getitem.lookup,d.isList.typeIs,?_⟩;refine wpAny_getItem_list_slice d.isList k pl j .none (by simp) ?_ (by rw[sT1]<;>lia);rw[oF,<- c];refine⟨.ref s.heap.objs.size,_,I.laid (t':=s.toks) (o:=.lst (tK xs lo hi)) (fun b n q=>hP1 _ q) (nR1 _) ?_,rfl,q _ (I.hok.fresh (nR1 _))⟩;exact⟨ai (mM xs lo hi) e,_,0,(r.drop (HT.sIx xs.length 0 lo)).take (HT.sIx xs.length xs.length hi-HT.sIx xs.length 0 lo),hS1 _ rfl⟩
def kK:V->Bool
 | .non=>true
 | .bl _=>true
 | .int _=>true
 | .str _=>true
 |_=>false
def t0:V->V->Bool
 | .non,.non=>true
 | .bl a,.bl b=>a == b
 | .bl a,.int b=>(if a then 1 else 0) == b
 | .int a,.bl b=>a == (if b then 1 else 0)
 | .int a,.int b=>a == b
 | .str a,.str b=>a == b
 |_,_=>false
theorem lb{A:cI}{s:cF}{y x:V}{u v:cE}(e:dn y u)(c:dn x v)(g:kK y=true)(f:kK x=true):SeqAt.EqAt A s u v (t0 y x):=by
 cases y with
 |non=>
  cases e;cases x with
  |non=>cases c;exact SeqAt.EqAt.same _
  |bl b=>cases c;exact SeqAt.EqAt.none_bool b
  |int b=>obtain⟨t,rfl⟩:=c;exact SeqAt.EqAt.none_int b t
  |str b=>obtain⟨t,rfl⟩:=c;exact SeqAt.EqAt.none_str b t
  |_=>exact absurd (show false=true from f) au
 |bl a=>
  cases e;cases x with
  |non=>cases c;exact SeqAt.EqAt.bool_none a
  |bl b=>cases c;exact SeqAt.EqAt.bool_bool a b
  |int b=>obtain⟨t,rfl⟩:=c;exact SeqAt.EqAt.bool_int a b t
  |str b=>obtain⟨t,rfl⟩:=c;exact SeqAt.EqAt.bool_str a b t
  |_=>exact absurd (show false=true from f) au
 |int a=>
  obtain⟨d,rfl⟩:=e;cases x with
  |non=>cases c;exact SeqAt.EqAt.int_none a d
  |bl b=>cases c;exact SeqAt.EqAt.int_bool a d b
  |int b=>obtain⟨t,rfl⟩:=c;exact SeqAt.EqAt.int_int a d b t
  |str b=>obtain⟨t,rfl⟩:=c;exact SeqAt.EqAt.int_str a d b t
  |_=>exact absurd (show false=true from f) au
 |str a=>
  obtain⟨d,rfl⟩:=e;cases x with
  |non=>cases c;exact SeqAt.EqAt.str_none a d
  |bl b=>cases c;exact SeqAt.EqAt.str_bool a d b
  |int b=>obtain⟨t,rfl⟩:=c;exact SeqAt.EqAt.str_int a d b t
  |str b=>obtain⟨t,rfl⟩:=c;exact SeqAt.EqAt.str_str a d b t
  |_=>exact absurd (show false=true from f) au
 |_=>exact absurd (show false=true from g) au
theorem rE:ei X (.builtin "len") (fun xs H Q=>∃p ys,xs=[.ref p]/\(mR X.K H p ys\/kB X.K H p ys)/\Q (.int ys.length) H):=by
 intro pins s σ H xs i Q I r h;obtain⟨p,ys,rfl,b,q⟩:=h;obtain⟨u,rfl,f⟩:=hH r;cases f;have g:=ml;rcases b with b|b
 ·obtain⟨d,c,pl,e⟩:=I.list b;have a:=c.length;exact Calls.call_len_list pl.isList (by simp only[sT1]<;>lia) ⟨.int ys.length,H,I.tok _,⟨s.toks+1,by rw[sT1,a]⟩,q⟩
 ·obtain⟨d,c,pl,e⟩:=I.tuple b;have a:=c.length;exact len_tuple pl (by simp only[sT1]<;>lia) ⟨.int ys.length,H,I.tok _,⟨s.toks+1,by rw[sT1,a]⟩,q⟩
theorem rB:ei X (.builtin "len") (fun xs H Q=>∃z,xs=[.str z]/\z.length<=cN/\Q (.int z.length) H):=by
 intro pins s σ H xs c Q I r h;obtain⟨z,rfl,a,q⟩:=h;obtain⟨u,rfl,t,rfl⟩:=hH r;have b:=ml;exact len_str (by lia) ⟨.int z.length,H,I.tok _,⟨_,rfl⟩,q⟩
theorem rA:ei X (.type "list") (fun xs H Q=>∃p ys,xs=[.ref p]/\(mR X.K H p ys\/kB X.K H p ys) /\ ∀l,H l=none->Q (.ref l) (upd H l (.lst ys))):=by
 intro pins s σ H xs w Q I r h;obtain ⟨p,ys,rfl,i,q⟩:=h;obtain ⟨u,rfl,v⟩:=hH r;cases v;have j:∀ (a:List cE),dE ys a->ys.length<=cN -> ∀ (h':cP) (d:Nat),(∀ b o',s.heap.get? b=some o'->h'.get? b=some o') ->
   h'.get? s.heap.objs.size=some {cls:=.type "list",dict:=none,data:=.seq a.toArray d,slots:= #[]}->EP X pins σ Q (.ref s.heap.objs.size) {s with heap:=h'}:=fun a c f h' d g e=>
  ⟨.ref s.heap.objs.size,_,I.laid (t':=s.toks) g (nR1 _) (show ea X.prog X.w _ h' _ (.lst ys)from⟨f,a,d,c,e⟩),rfl,q _ (I.hok.fresh (nR1 _))⟩
 rcases i with i|i
 ·obtain⟨a,c,pl,f⟩:=I.list i;have k:=c.length;obtain⟨o,t,hc,n,m⟩:=pl.isList;exact call_list_seq p (.inl rfl) t hc m (fun h' d g e=>j a c f h' d g e) (by simp only[sT1]<;>lia)
 ·obtain⟨a,c,pl,f⟩:=I.tuple i;have k:=c.length;obtain⟨o,t,hc,n,m⟩:=pl;exact call_list_seq p (.inr rfl) t hc m (fun h' d g e=>j a c f h' d g e) (by simp only[sT1]<;>lia)
theorem oX:ei X (.type "tuple") (fun xs H Q=>∃p ys,xs=[.ref p]/\((mR X.K H p ys /\ ∀l,H l=none->Q (.ref l) (upd H l (.tup ys)))\/(kB X.K H p ys/\Q (.ref p) H))):=by
 intro pins s σ H xs n Q I r h;obtain⟨p,ys,rfl,h⟩:=h;obtain⟨u,rfl,j⟩:=hH r;cases j;rcases h with⟨d,q⟩|⟨d,q⟩
 ·obtain ⟨a,c,pl,f⟩:=I.list d;have i:=c.length;refine call_tuple_list pl.isList (fun h' k=>?_) (by simp only [sT1]<;>lia);have g:Inv X pins σ H {s with heap:=h'}:=I.kept (t':=s.toks) k;have m:Inv X pins σ (upd H h'.objs.size (.tup ys)) {s with heap:=h'.push {cls:=.type "tuple",data:=.seq a.toArray}}:=
   g.laid (t':=s.toks) (fun b o e=>hP1 _ e) (nR1 _) (show ea X.prog X.w _ _ _ (.tup ys)from⟨f,a,c,IsTup.new _ _⟩)
  exact⟨.ref h'.objs.size,_,m,rfl,q _ (g.hok.fresh (nR1 _))⟩
 ·obtain⟨a,c,pl,f⟩:=I.tuple d;exact call_tuple_same pl ⟨.ref p,H,I,rfl,q⟩
def Kb(K:Fg1)(T:String)(x:V)(H:Hp):Prop:=match x with
 | .str _=>T="str"
 | .int _=>T="int"
 | .ref p=>(T="list" /\ ∃ xs,mR K H p xs)\/(T="tuple" /\ ∃ o,K.lookup p=some o/\o.cls = .type "tuple"/\o.dict=none) \/
   (T="dict"/\((∃kvs,H p=some (.dK kvs)) \/ ∃kvs,H p=some (.dT kvs)))\/(T="set" /\ ∃S n,H p=some (.set S n))
 |_=>False
theorem DS{pins:List (cG×Obj)}{σ:St}{H:Hp}{s:cF}{T:String}{x:V}{v:cE}(I:Inv X pins σ H s)(r:dn x v)(ty:Kb X.K T x H):
  s.TypeIs v T /\ ∀a,v = .ref a -> ∃g,s.heap.get? a=some g/\g.dict=none:=by
 cases x with
 |str z=>
  obtain⟨t,rfl⟩:=r;cases(show T="str" from ty);exact⟨typeIs_str s z t,fun _ e=>nomatch e⟩
 |int i=>
  obtain⟨t,rfl⟩:=r;cases(show T="int" from ty);exact⟨typeIs_int s i t,fun _ e=>nomatch e⟩
 |ref p=>
  cases r;rcases ty with⟨rfl,xs,j⟩|⟨rfl,o,b,hc,f⟩|⟨rfl,b⟩|⟨rfl,S,n,b⟩
  ·obtain⟨h,_,pl,_⟩:=I.list j;refine⟨pl.isList.typeIs,fun a e=>?_⟩;cases e;obtain⟨o,n,e,c,f,_⟩:=pl;exact⟨o,e,f⟩
  ·refine⟨⟨o,I.kIn p o b,hc⟩,fun a e=>?_⟩;cases e;exact⟨o,I.kIn _ o b,f⟩
  ·have z:∃ o,s.heap.get? p=some o/\o.ExactDict:=by
    rcases b with⟨kvs,b⟩|⟨kvs,b⟩
    ·obtain⟨_,_,_,_,o,_,_,e,ex,_⟩:=I.hok p _ b;exact⟨o,e,ex⟩
    ·obtain⟨_,_,_,_,o,_,_,e,ex,_⟩:=I.hok p _ b;exact⟨o,e,ex⟩
   obtain⟨o,e,ex⟩:=z;refine⟨⟨o,e,ex.1⟩,fun a d=>?_⟩;cases d;exact⟨o,e,ex.2.1⟩
  ·obtain⟨o,_,_,_,e,ex,_⟩:=I.hok p _ b;refine⟨⟨o,e,ex.1⟩,fun a d=>?_⟩;cases d;exact⟨o,e,ex.2.1⟩
 |_=>exact False.elim ty
def Kx(K:Fg1)(T:String)(r:V->List V->Hp->VK->Prop)(to:TE)(t:TA):TE:=fun σ H Q=>to σ H fun x H1=>Kb K T x H1/\t σ H1 fun xs H2=>r x xs H2 Q
variable{o e:Expr}{es:List Expr}{to:TE}{t:TA}{name:Str}{apos cpos:Pos}{T id:String}{r:V->List V->Hp->VK->Prop}
theorem Hr (j:PlainAttrs T)(slot:Slot T name id)(hty:typeOf (.builtin id)=pure (.type "method_descriptor"))(hm:GG X id r)(ho:PE X o to)(ha:PA X (e::es) t)
  (hbase:attributeBase o name X.env (eval o X.env)=eval o X.env:=by rfl)
  (hfew:((backTo cpos (cM (e::es) X.env)).all (fun x=> !x.1)&&(backToKw cpos (keywordEach [] X.env)).all (fun x=>x.1.isSome)
   && decide ((e::es).length+([]:List Keyword).length+(if([]:List Keyword).isEmpty then 0 else 1)<30))=true:=by rfl)
  (hline:(apos.endLine == cpos.line)=true:=by rfl) (hs:cM (e::es) X.env=(false,eval e X.env)::cM es X.env:=by rfl) (hplain:(backTo cpos (cM es X.env)).any (·.1)=false:=by rfl):
  PE X (.Call (.Attribute o name apos) (e::es) [] cpos) (Kx X.K T r to t):=by
 intro pins s σ H Q I h;refine wpAny_Call_method_late hbase hfew hline rfl (eQ (ho pins s σ H _ I h) fun v d ⟨x,H1,a,c,ty,l⟩=>?_);obtain⟨h1,h2⟩:=DS a c ty;refine⟨T,id,j,slot,hty,h1,h2,?_⟩;have b:=ha cpos pins d σ H1 _ a l;rw[hs]at b ⊢;refine Calls.callWith_builtin (by show(false||(backTo cpos (cM es X.env)).any (·.1))=false;rw[hplain]<;>rfl) (Calls.evalArgs_plain ?_);exact eQ b fun i f ⟨vs,H2,k,r2,g⟩=>hm pins f σ H2 x vs v i Q k c r2 g
end
end L2
namespace L2
open PySem PySem.Spec PyProof.Rows
def JZ(X:Cx)(id:String)(r:V->List V->Hp->VK->Prop):Prop:=
 ∀(pins:List (cG×Obj)) (s:cF) (σ:St) (H:Hp) (x:V) (xs:List V) (v:cE) (us:List cE) (Q:VK),Inv X pins σ H s->dn x v->dE xs us->r x xs H Q ->
  cO (model X.prog X.w) X.A (call (.builtin id) (v::us)) (EP X pins σ Q) X.xe s
theorem dE.one:∀{x:V} {a:List cE},dE [x] a -> ∃u,a=[u]/\dn x u:=by
 intro x a h;cases h with
 |cons r t=>cases t;exact⟨_,rfl,r⟩
theorem dE.eraseIdx:∀{xs:List V} {a:List cE} (i:Nat),dE xs a->dE (xs.eraseIdx i) (a.eraseIdx i)
 |_,_,_,.nil=>.nil
 |_,_,0,.cons _ t=>t
 |_,_,i+1,.cons r t=>.cons r (dE.eraseIdx i t)
theorem pv{α:Type}:∀(l:List α) (i:Nat),(l.eraseIdx i).length<=l.length
 |[],_=>nR1 _
 |_::_,0=>aI _
 |_::r,i+1=>Nat.succ_le_succ (pv r i)
section
variable{X:Cx}{pins:List (cG×Obj)}{σ:St}{H:Hp}{s:cF}{l b:cG}{xs ys zs:List V}
theorem Inv.lset {its its':List cE}{n:Nat}{f:Array cE->Array cE}{t':Nat}(I:Inv X pins σ H s)(a:H l=some (.lst xs))
  (e:s.heap.get? l=some {cls:=.type "list",data:=.seq its.toArray n}) (hf:f its.toArray=its'.toArray) (hv:dE ys its') (hz:ys.length<=cN):
  Inv X pins σ (upd H l (.lst ys)) {s with heap:=s.heap.update l (Obj.mapSeq f),toks:=t'}:=by
 have q:=PySem.IsL.update e f;rw[hf]at q;refine I.write (x:=l) (e:=l) (by rw[a];exact trivial) (.inl rfl) (fun d u c b=>(Heap.get?_update_other s.heap (Obj.mapSeq f) (Ne.symm c)).trans b) ⟨_,q⟩ ?_;exact⟨hz,its',_,hv,q⟩
theorem Inv.lnew{its:List cE}{t':Nat}(I:Inv X pins σ H s)(hv:dE ys its)(hz:ys.length<=cN):
  Inv X pins σ (upd H s.heap.objs.size (.lst ys)) {s with heap:=s.heap.push {cls:=.type "list",data:=.seq its.toArray},toks:=t'}:=
 I.laid (fun _ _ q=>hP1 _ q) (nR1 _) ⟨hz,its,0,hv,hS1 _ rfl⟩
theorem Inv.fresh(I:Inv X pins σ H s):H s.heap.objs.size=none:=I.hok.fresh (nR1 _)
theorem Inv.lstM(I:Inv X pins σ H s)(a:H l=some (.lst xs)):xs.length<=cN /\ ∃(its:List cE) (n:Nat),dE xs its/\xs.length=its.length/\s.heap.get? l=some {cls:=.type "list",data:=.seq its.toArray n}:=by
 obtain⟨z,its,n,r,e⟩:=I.hok l _ a;exact⟨z,its,n,r,r.length,e⟩
theorem zb{n:Nat}(h:n<=cN):Builtin.List.listTooLong n=false:=by
 unfold Builtin.List.listTooLong;exact decide_eq_false (by lia)
end
section
variable{X:Cx}
def Bu:V->List V->Hp->VK->Prop:=fun x vs H Q=>∃l xs y,x = .ref l/\vs=[y]/\H l=some (.lst xs)/\xs.length<cN/\Q .non (upd H l (.lst (xs++[y])))
theorem pp:JZ X "list.append" Bu:=by
 intro pins s σ H x vs v j Q I c d h;obtain⟨l,xs,y,rfl,rfl,b,g,q⟩:=h;cases c;obtain⟨u,rfl,f⟩:=d.one;obtain⟨z,a,n,r,i,e⟩:=I.lstM b;refine call_meets F.slot_list_append ⟨_,e,rfl⟩ F.entry_list_append (F.args_list_append_2 _ _) (PySem.list_append l a.toArray n u (by rw[sT1];lia)) ⟨e,?_⟩;refine⟨.non,_,I.lset (its':=a++[u]) b e (by simp) (r.append (.cons f .nil)) ?_,rfl,q⟩;rw[lA1,aJ];lia
def Bt:V->List V->Hp->VK->Prop:=fun x vs H Q=>∃l b xs zs,x = .ref l/\vs=[.ref b]/\H l=some (.lst xs)/\H b=some (.lst zs)/\xs.length+zs.length<=cN/\Q .non (upd H l (.lst (xs++zs)))
theorem wT:JZ X "list.extend" Bt:=by
 intro pins s σ H x vs v A Q I j p h;obtain⟨l,b,xs,zs,rfl,rfl,g,k,w,q⟩:=h;cases j;obtain⟨u,rfl,t⟩:=p.one;cases t;obtain⟨z,c,n,r,y,e⟩:=I.lstM g;obtain⟨B,a,o,r2,m,i⟩:=I.lstM k;have f:c.toArray.size+a.toArray.size<=cN:=by rw[sT1,sT1];lia
 have d:¬ (!c.toArray.isEmpty&&Builtin.List.listTooLong (c.toArray.size+a.toArray.size))=true:=by
  rw[zb f,aK];exact au
 refine call_meets F.slot_list_extend ⟨_,e,rfl⟩ F.entry_list_extend (F.args_list_extend_2 _ _)
  (AutoSeq1.list_extend_list_list_0 l c.toArray n b a.toArray o d (by rw[sT1];lia) (by lia)) ⟨e,i,?_⟩
 refine⟨.non,_,I.lset (its':=c++a) g e (by simp) (r.append r2) ?_,rfl,q⟩;rw[lA1];lia
def Eh:V->List V->Hp->VK->Prop:=fun x vs H Q=>∃l xs i k y,x = .ref l/\vs=[.int i]/\H l=some (.lst xs) /\ -(2^63)<=i/\i<2^63/\seqIndex? i xs.length=some k/\xs[k]?=some y/\Q y (upd H l (.lst (xs.eraseIdx k)))
theorem zi:JZ X "list.pop" Eh:=by
 intro pins s σ H x vs v A Q I f j h;obtain⟨l,xs,i,k,y,rfl,rfl,c,h1,h2,m,o,q⟩:=h;cases f;obtain⟨u,rfl,p⟩:=j.one;obtain⟨t,rfl⟩:=p;obtain⟨z,a,n,r,g,e⟩:=I.lstM c;obtain⟨w,d,b⟩:=r.get o;refine call_meets F.slot_list_pop ⟨_,e,rfl⟩ F.entry_list_pop (F.args_list_pop_2 _ _)
  (MeetsSeq.list_pop_at l a.toArray n i t k w (fitsIndex_both h1 h2) (by rw[sT1,<- g];exact m) (by rw[<- aT1];exact d) (by rw[sT1];lia)) ⟨e,?_⟩
 refine⟨y,_,I.lset (its':=a.eraseIdx k) c e ?_ (r.eraseIdx k) ?_,b,q⟩
 ·show a.toArray.eraseIdxIfInBounds k=(a.eraseIdx k).toArray;rw[List.eraseIdxIfInBounds_toArray]
 ·have:=pv xs k;lia
def Jw:R2:=fun x y H Q=>∃l b xs zs,x = .ref l/\y = .ref b/\H l=some (.lst xs)/\H b=some (.lst zs)/\xs.length+zs.length<=cN /\ ∀p,H p=none->Q (.ref p) (upd H p (.lst (xs++zs)))
theorem ES:gg X (binaryOp .Add) Jw:=by
 intro pins s σ H x y v u Q I g m h;obtain⟨l,b,xs,zs,rfl,rfl,k,i,o,q⟩:=h;cases g;cases m;obtain⟨z,c,n,r,p,e⟩:=I.lstM k;obtain⟨w,a,t,r2,j,d⟩:=I.lstM i;refine PySem.P.add_list e d ?_ (by rw[sT1,sT1];lia);have f:c.toArray++a.toArray=(c++a).toArray:=by simp
 rw[f];exact⟨.ref _,_,I.lnew (t':=s.toks) (r.append r2) (by rw[lA1];lia),rfl,q _ I.fresh⟩
end
section
variable{prog:cH}{w:cJ}{A:cI}{E:cE->cF->Prop}{s:cF}
end
section
variable{X:Cx}
end
end L2
namespace Att
open PySem PySem.W PySem.Calls PyProof.Rows
theorem m6{P:Params}{h:cP}:∀(ns:List Int) (vs:List cE),WellAll P h vs (ns.map WData.int)->IntsAre vs ns:=by
 intro ns
 induction ns with
 |nil=>
  intro vs w;rw[aL]at w;cases w;exact .nil
 |cons n ns ih=>
  intro vs w;rw[mP1]at w;cases w with
  |cons a b=>
   cases a;exact .cons _ _ (ih _ b)
theorem wK{l:OpenLaw}{n:Nat}(hn:l.most=some n){P:Params}{h:cP}{args:List WData}{b:List cE}(c:l.row.toRowW.claim.pre args=true)(k:WellAll P h b args):
  ∃a vs ns,b=[Value.ref a]/\args=[WData.list (ns.map WData.int)]/\h.get? a=some {cls:=.type "list",data:=.seq vs.toArray}/\IntsAre vs ns/\ns.length<=n:=by
 have j:WShape.hasAll [] args [.list .int]=true:=(pre_splitW c).1;have hc:l.pre.holds [] {args:=args}=true:=(pre_splitW c).2;obtain⟨d,r,rfl,h1,h2⟩:=hasAllW_cons j;obtain rfl:=hasAllW_nil h2;obtain⟨xs,rfl,m⟩:=hasW_list h1;obtain⟨ns,rfl⟩:=items_int m;have f:ns.length<=n:=by
  unfold OpenLaw.pre at hc;have i:(WTm.not (.lt (.lit (.int (n:Int))) (.len (.arg 0)))).holds [] {args:=[.list (ns.map .int)]}=true:=by
   have i:=(holds_andW hc).1;rw[hn]at i;exact i
  have g:=condW_of i (w_not (w_lt w_lit (w_len_list (w_arg rfl))));rw[lM1]at g;refine Nat.le_of_not_lt fun q=>?_;have o:(n:Int)<((ns.length:Nat):Int):=by omega
  first
   |(rw[decide_eq_true o]at g;exact absurd g (by decide))
   |(simp at g;omega)
 cases k with
 |cons p s=>
  cases s;cases p with
  |list t e=>exact⟨_,_,ns,rfl,rfl,t,m6 ns _ e,f⟩
theorem wO(l:OpenLaw)(args:List WData):l.row.toRowW.claim.post args (.bool true) args=true:=
 postW_of (r:=l.row.toRowW) (X:=(true == true))
  (show WShape.has [] (.bool true) .bool=true by first|rfl|decide|simp[WShape.has,WShape.arms,WShape.armsAll])
  (show(WTm.eq .res (.lit (.bool true))).value [] {args:=args,res:=some (.bool true),after:=args}=some (.bool (true == true))from w_eq_bool (w_res rfl) w_lit) rfl
theorem attach_call {l:OpenLaw}{n:Nat}{q:cH}{c:List Str}{XP:(Str->Option cE)->cP->Prop}{B:cJ->cP->Prop}{d:DefRec}
  (hn:l.most=some n) (y:d.params.defaults=[])
  (call:∀(w:cJ) (e b:cF) (mg u:Str->Option cE) (j:cG) (o:Obj) (x p g:cE) (a:cG) (vs:List cE) (ns:List Int),
   Ground q c [] XP w e mg u b.heap->B w b.heap ->
   b.heap.get? j=some o->o.data = .func (docDef d.name d.params d.body d.scope x p g)->b.heap.CodeRec p d.name->mg d.name=some (.ref j) ->
   b.heap.get? a=some {cls:=.type "list",data:=.seq vs.toArray}->IntsAre vs ns->ns.length<=n->b.gens = #[] ->
   codeAny (model l.prog w) callerA (.call (.ref j) ⟨[.ref a],[]⟩) (fun r s'=>r = .ok (.ret (.bool true))/\OldK b.heap s'.heap/\s'.os=b.os/\AllBare s'.gens) b):
  WalkO q c XP B l.row.toRowW d [] (fun f vs=>PySem.call f vs):=by
 intro w e b mg u G Y j o x p g N kV J E s z t F D A as k C I v L;obtain rfl:N = .none:=Dflts.none z y;obtain rfl:kV = .none:=Dflts.noKw z;obtain⟨a,vs,ns,rfl,rfl,m,h,i⟩:=wK hn k v;refine enter_call (codeAny_mono (call w e b mg u j o x p g a vs ns G Y J (fd_plain E) s t m h i F) fun r s' K=>?_);obtain⟨rfl,h2,M,O⟩:=K;exact⟨.inl ⟨.bool true,.bool true,[],rfl,fun _=>rfl,.bool true,wO l _,fun _=>⟨List.Pairwise.nil,fun _ H=>(nomatch H)⟩⟩,h2,M,O⟩
section
variable{prog:cH}{w:cJ}{A:cI}{E:cE->cF->Prop}{s:cF}{K:Frag}
end
end Att
namespace L2
open PySem PySem.Spec PyProof.Rows
theorem wC:∀{vs:List cE} {ns:List Int},IntsAre vs ns->dE (ns.map V.int) vs:=by
 intro vs ns h
 induction h with
 |nil=>exact .nil
 |cons n t h ih=>exact .cons ⟨t,rfl⟩ ih
def C8(H:Hp):Prop:=∀b,H b=none \/ ∃o xs,H b=some (.frz o (.lst xs))
theorem zK {P:cH}{w:cJ}{K:Fg1}{mg C:Str->Option cE}{CX:xI}{k:Nat}{G a:cG}{fd:cQ}{x:Str}{sp:Sp}{s₁:cF}{vs:List cE}{ns:List Int}
  (O:K.In s₁.heap) (j:s₁.heap.Ns cK mg) (hb:s₁.heap.Ns builtinsNs C) (I:∀x:Str,x≠"__name__"->C x=bootBuiltins x) (y:s₁.heap.NoLimit) (hg:s₁.gens = #[])
  (ha:s₁.heap.get? a=some {cls:=.type "list",data:=.seq vs.toArray}) (hi:IntsAre vs ns) (S:ns.length<=cN) (hr:fR k callerA)
  (F:∀base:cP,K.In base->base.Ns cK mg->mE P w K mg base CX k G fd [x] sp) (g:∀(s:cF) (u:cE),BindsTo s fd ⟨[u],[]⟩ [(x,u)])
  (D:∀H:Hp,C8 H->mR K H a (ns.map V.int)->sp [.ref a] H (fun v _=>v = .bl true) fun _ _ _=>False)
  (J:∀H e s',CX [] H s₁ (fun _ _ _=>False) e s'->False):
  codeAny (model P w) callerA (.call (.ref G) ⟨[.ref a],[]⟩) (fun r s'=>r = .ok (.ret (.bool true))/\OldK s₁.heap s'.heap/\s'.os=s₁.os/\AllBare s'.gens) s₁:=by
 have M:=wC hi;have i:=hi.length
 -- from an abstract heap in which nothing but the script may be tracked
 have f:∀ H:Hp,C8 H->mR K H a (ns.map V.int)->li P w H s₁.heap->(∀ b,H b≠none->b=a)->(H a≠none->K.lookup a=none) ->
   codeAny (model P w) callerA (.call (.ref G) ⟨[.ref a],[]⟩) (fun r s'=>r = .ok (.ret (.bool true))/\OldK s₁.heap s'.heap/\s'.os=s₁.os/\AllBare s'.gens) s₁:=by
  intro H Q Z t N W;have base_of:∀{b:cG} {o:Obj},s₁.heap.get? b=some o->H b=none->(rf s₁.heap H).get? b=some o:=fun e n=>zV e n;have L:∀{b:cG} {o:Obj} {es:Array DictEntry} {ep:Nat},s₁.heap.get? b=some o->o.data = .dict es ep->H b=none:=fun{b o es ep} e d=>by
   cases q:H b with
   |none=>rfl
   |some u=>
    have E:b=a:=N b (by rw[q];simp);subst E;rw[ha]at e;cases e;have d':Data.seq vs.toArray _=Data.dict es ep:=d;cases d'
  have c:∀{b:cG} {m:Str->Option cE},s₁.heap.Ns b m->(rf s₁.heap H).Ns b m:=fun{b m} ⟨o,es,ep,e,d,r⟩=>⟨o,es,ep,base_of e (L e d),d,r⟩;have l:K.In (rf s₁.heap H):=fun b o e=>base_of (O b o e) (by
   cases q:H b with
   |none=>rfl
   |some u=>
    have E:b=a:=N b (by rw[q];simp);subst E;rw[W (by rw[q];simp)]at e;cases e)
  have hM:Mod K mg (rf s₁.heap H):=⟨l,c j,⟨C,c hb,I⟩,let ⟨mc,h1,h2⟩:=y;⟨mc,c h1,h2⟩⟩;have U:C9 P w K mg (rf s₁.heap H) callerA [] s₁ H:=⟨rfl,hM,fun b o e=>BV e,Nat.le_of_eq (xb _ _),trivial,fun b hb=>absurd (show b∈([]:List cG)from hb) (by simp),t,.of_eq hg⟩;refine codeAny_mono ((F _ l (c j)).run callerA [] s₁ H ⟨[.ref a],[]⟩ [.ref a] [.ref a] _ _ hr U (g s₁ (.ref a)) (.cons rfl .nil) (D H Q Z)) fun r s' h=>?_;cases r with
  |error e=>exact(J H e s' h).elim
  |ok fl=>
   cases fl with
   |next=>exact False.elim h
   |brk=>exact False.elim h
   |cont=>exact False.elim h
   |ret u=>
    obtain⟨v,H',X,p,un,A,T,q⟩:=h;have q':v = .bl true:=q;subst q';obtain rfl:u=Value.bool true:=T;refine⟨rfl,OldK.of_keep fun b o e=>?_,X,p⟩;cases q:H b with
    |none=>exact un.keep b o e q (by intro z;exact absurd (show b∈([]:List cG)from z) (by simp)) (by simp)
    |some u=>
     rcases Q b with z|⟨ob,xs,z⟩
     ·rw[q]at z;cases z
     ·have Y:=un.frzs b ob _ z;obtain⟨R,_⟩:=t b _ z;obtain⟨e2,_⟩:=A b _ Y;rw[e]at R;cases R;exact e2
 cases hk:K.lookup a with
 |some o=>
  -- the script is one of the module's own objects
  have e:=O a o hk;rw[ha]at e;cases e;refine f (fun _=>none) (fun _=>.inl rfl) (.inr ⟨_,vs.toArray,_,hk,rfl,rfl,rfl,by rw[sT1,i];exact S,by simpa using M⟩) (fun b u z=>by have B:(none:Option HO)=some u:=z;cases B) (fun b z=>absurd rfl z) fun z=>absurd rfl z
 |none=>
  refine f (fun b=>if b=a then some (.frz {cls:=.type "list",data:=.seq vs.toArray} (.lst (ns.map V.int)))else none) (fun b=>?_) (.inl (.inr ⟨{cls:=.type "list",data:=.seq vs.toArray},if_pos rfl⟩)) (fun b u z=>?_) (fun b z=>?_) fun _=>hk
  ·by_cases hb:b=a
   ·exact .inr ⟨_,_,if_pos hb⟩
   ·exact .inl (if_neg hb)
  ·by_cases hb:b=a
   ·have B:=(if_pos hb).symm.trans z;cases B;subst hb;exact⟨ha,by rw[lM1];exact S,vs,_,M,ha⟩
   ·have B:=(if_neg hb).symm.trans z;cases B
  ·by_cases hb:b=a
   ·exact hb
   ·exact absurd (if_neg hb) z
end L2
namespace L2
open PySem PySem.Spec PyProof.Rows
theorem A3{l:PySem.W.OpenLaw}{n k:Nat}{q:cH}{c:List Str}{XP:(Str->Option cE)->cP->Prop}{C:cJ->cP->Prop}{d:DefRec}{K:Params->Fg1}{CX:cJ->xI}{sp:cJ->Sp}{x:Str}(hn:l.most=some n)(t:n<=cN)(y:d.params.defaults=[])(hr:fR k callerA)(L:∀(w:cJ) (h:cP),C w h->(K w.params).In h)(F:∀(w:cJ) (mg:Str->Option cE) (m:cG) (h:cP),(K w.params).In h->h.Ns cK mg->mg d.name=some (.ref m) ->
   ∃fd:cQ,(∀(s:cF) (u:cE),BindsTo s fd ⟨[u],[]⟩ [(x,u)]) /\
    ∀base:cP,(K w.params).In base->base.Ns cK mg->mE l.prog w (K w.params) mg base (CX w) k m fd [x] (sp w))(r:∀(w:cJ) (H:Hp) (a:cG) (ns:List Int),ns.length<=n->C8 H->mR (K w.params) H a (ns.map V.int)->sp w [.ref a] H (fun v _=>v = .bl true) fun _ _ _=>False)(z:∀(w:cJ) (H:Hp) (s:cF) (e:cE) (s':cF),CX w [] H s (fun _ _ _=>False) e s'->False):
  PySem.W.WalkO q c XP C l.row.toRowW d [] (fun f vs=>PySem.call f vs):=by
 refine Att.attach_call hn y fun w A i mg S m o T Q E a vs ns G Y R P O p j g b D=>?_;have B:=L w _ Y;obtain⟨fd,N,J⟩:=F w mg m _ B G.T.g p;exact zK B G.T.g G.T.b G.T.builtins G.T.nolimit D j g (ai b t) hr J N (fun H M I=>r w H a ns b M I) fun H e s'=>z w H i e s'
end L2
namespace L2
open PySem PySem.Spec PyProof.Rows
def jd(s:cR):Arguments:=match s with
 | .FunctionDef _ a _ _ _ _ _ _ _ _=>a
 |_=>{posonlyargs:=[],args:=[],vararg:=none,kwonlyargs:=[],kw_defaults:=[],kwarg:=none,defaults:=[]}
def fA(s:cR):List cR:=match s with
 | .FunctionDef _ _ b _ _ _ _ _ _ _=>b
 |_=>[]
def c0(s:cR):cS:=match s with
 | .FunctionDef _ _ _ _ _ _ sc _ _ _=>sc
 |_=>{kind:=.function,names:=[],isGenerator:=false,isCoroutine:=false}
abbrev t5:xI:=fun _ _ _ _ _ _=>False
abbrev E0:XK:=fun _ _ _=>False
theorem Ht{X:Cx}:uV t5 X E0:=fun _ _ _ _ _ _ _ h=>h.elim
structure xH (K:Fg1)(x qual:Str)(st:cR)(f:cG)(fd:cQ):Prop where
 ex:∃(oc:cE) (od:Option cG) (kV doc pm:cE) (an:Option cG) (cdv ct:cE) (osl:Array (Option cE)),
  fd=wF1 x qual (jd st) (fA st) (c0 st) .none kV doc pm an cdv ct/\K.lookup f=some ⟨oc,od,.func fd,osl⟩/\wC1 K cdv qual=true
 kp:wK1 K (.ref f)=true
section
variable{P:cH}{w:cJ}{K:Fg1}{mg:Str->Option cE}{base:cP}
theorem xH.ok{x b:Str}{st:cR}{f:cG}{fd:cQ}{N ps:List Str}{k:Nat}{sp:Sp}(F:xH K x b st f fd)(S:dg N ps (c0 st))(i:∀ vs H Q E,sp vs H Q E->vs.length=ps.length)(d:∀(c:cE) (A:cI) (a:List Env) (s:cF) (H:Hp) (vs:List V) (Q:VK) (E:XK),fR k (A.deeper (envOfC b (c0 st) s.heap.objs.size f c))->sp vs H Q E ->
   ∃t,t4 (om t5 P w K mg base N b (c0 st) f c A a s H E).nox (fA st) t/\t {nx:=fun _ H'=>Q .non H',rt:=Q} (js N vs) H):mE P w K mg base t5 (k+1) f fd ps sp:=by
 obtain⟨p,r,kV,n,u,o,c,ct,l,rfl,j,e⟩:=F.ex;refine Ih j e S i fun A a s H vs Q E m g=>?_;obtain⟨t,h,q⟩:=d c A a s H vs Q E m g;exact⟨t,h.nox,q⟩
theorem xH.binds{x a:Str}{st:cR}{f:cG}{fd:cQ}{ps:List Str}(F:xH K x a st f fd)(h:∀(kV b g:cE) (d:Option cG) (c ct:cE) (e:List cE),e.length=ps.length->bindArgs (wF1 x a (jd st) (fA st) (c0 st) .none kV b g d c ct) ⟨e,[]⟩=pure (ps.zip e)):lY K fd ps []:=by
 obtain⟨l,m,kV,b,g,d,c,ct,i,rfl,k,j⟩:=F.ex;exact .all (h kV b g d c ct)
theorem z0{x a:Str}{st:cR}{f:cG}{i:cE}{j g:Option cG}{e:Array (Option cE)}{kV d h b ct:cE}(l:K.lookup f=some ⟨i,j,.func (wF1 x a (jd st) (fA st) (c0 st) .none kV d h g b ct),e⟩)(c:wC1 K b a=true)(k:wK1 K (.ref f)=true):xH K x a st f (wF1 x a (jd st) (fA st) (c0 st) .none kV d h g b ct):=⟨⟨i,j,kV,d,h,g,b,ct,e,rfl,l,c⟩,k⟩
end
section
variable{X:Cx}
end
end L2
namespace L2
open PySem PySem.Spec PyProof.Rows
section
variable{κ:Type} [DecidableEq κ]
def gC(kvs:List (κ×V))(k:κ):Option V:=(kvs.find? fun kv=>decide (kv.1=k)).map (·.2)
def g6(kvs:List (κ×V))(k:κ)(v:V):List (κ×V):=
 if(kvs.any fun kv=>decide (kv.1=k))=true then kvs.map (fun kv=>if kv.1=k then(kv.1,v)else kv)else kvs++[(k,v)]
theorem nu{p:κ×V}{r:List (κ×V)}{k:κ}(e:p.1=k):gC (p::r) k=some p.2:=by simp[gC,aM,e]
theorem nv{p:κ×V}{r:List (κ×V)}{k:κ}(e:¬ p.1=k):gC (p::r) k=gC r k:=by simp[gC,aM,e]
theorem rY(k:κ):∀kvs:List (κ×V),(kvs.any fun a=>decide (a.1=k))=(gC kvs k).isSome
 |[]=>rfl
 |p::r=>by
  rw[aN];by_cases e:p.1=k
  ·simp only[nu e,decide_eq_true e,Bool.true_or,Option.isSome_some]
  ·rw[nv e,decide_eq_false e,Bool.false_or];exact rY k r
theorem ir(kvs:List (κ×V))(k:κ)(v:V):(g6 kvs k v).length<=kvs.length+1:=by
 unfold g6;split
 ·rw[lM1];lia
 ·rw[lA1,lC1,aO];lia
theorem mD.isSome_eq{o:Option V}{u:Option cE}(r:mD o u):o.isSome=u.isSome:=by
 cases o with
 |none=>cases u with
  |none=>rfl
  |some _=>exact(show False from r).elim
 |some _=>cases u with
  |none=>exact(show False from r).elim
  |some _=>rfl
theorem KV.val{kvs:List (κ×V)}{vs:List (κ×cE)}(r:KV kvs vs)(k:κ):mD (gC kvs k) (valueAt vs k):=by
 unfold KV at r
 induction r with
 |nil=>exact True.intro
 | @cons p q ps a h t ih=>
  obtain⟨h1,h2⟩:=h;by_cases e:p.1=k
  ·have c:q.1=k:=h1.symm.trans e;have b:valueAt (q::a) k=some q.2:=by simp[valueAt,aM,c]
   rw[nu e,b];exact h2
  ·have c:¬ q.1=k:=fun z=>e (h1.trans z);have b:valueAt (q::a) k=valueAt a k:=by simp[valueAt,aM,c]
   rw[nv e,b];exact ih
theorem KV.any{kvs:List (κ×V)}{vs:List (κ×cE)}(r:KV kvs vs)(k:κ):(kvs.any fun a=>decide (a.1=k))=vs.any fun a=>decide (a.1=k):=by
 unfold KV at r
 induction r with
 |nil=>rfl
 |cons h t ih=>rw[aN,aN,ih,h.1]
theorem KV.repl{kvs:List (κ×V)}{vs:List (κ×cE)}(r:KV kvs vs)(k:κ){y:V}{u:cE}(b:dn y u):
  KV (kvs.map fun a=>if a.1=k then(a.1,y)else a) (vs.map fun a=>if a.1=k then(a.1,u)else a):=by
 unfold KV at r ⊢
 induction r with
 |nil=>exact .nil
 | @cons p q ps c h t ih=>
  rw[mP1,mP1];refine .cons ?_ ih;obtain⟨h1,h2⟩:=h;by_cases e:p.1=k
  ·rw[if_pos e,if_pos (h1.symm.trans e)];exact⟨h1,b⟩
  ·rw[if_neg e,if_neg (fun z=>e (h1.trans z))];exact⟨h1,h2⟩
theorem KV.put{kvs:List (κ×V)}{vs:List (κ×cE)}(r:KV kvs vs)(k:κ){y:V}{u:cE}(a:dn y u):KV (g6 kvs k y) (stored vs k u):=by
 unfold g6 stored;rw[r.any k];by_cases e:(vs.any fun b=>decide (b.1=k))=true
 ·rw[if_pos e,if_pos e];exact r.repl k a
 ·rw[if_neg e,if_neg e];exact Paired.snoc r ⟨rfl,a⟩
theorem KV.length{kvs:List (κ×V)}{vs:List (κ×cE)}(r:KV kvs vs):kvs.length=vs.length:=Paired.length r
end
theorem n0{P:cH}{w:cJ}{k:Key}{u:cE}(r:dn (kV k) u):(eF P w).is k u=true:=by
 cases k with
 |inl i=>obtain⟨t,e⟩:=(show∃t,u=Value.int i t from r);subst e;exact sL P w i t
 |inr x=>obtain⟨t,e⟩:=(show∃t,u=Value.str x t from r);subst e;exact sK P w x t
theorem py{P:cH}{w:cJ}:∀{ks:List Key} {a:List cE},dE (ks.map kV) a->ItemsAre (eF P w) ks a
 |[],_,r=>by rw[aL]at r;cases r;exact .nil
 |k::ks,_,r=>by
  rw[mP1]at r;cases r with
  |cons h t=>exact .cons (n0 h) (py t)
abbrev KT(H:Hp):List (List Key×V)->List (List Key×cG×cE)->Prop:=Paired fun p q=>p.1=q.1/\H q.2.1=some (.tup (p.1.map kV))/\dn p.2 q.2.2
theorem KT.val{H:Hp}{kvs:List (List Key×V)}{xs:List (List Key×cG×cE)}(r:KT H kvs xs)(k:List Key):mD (gC kvs k) ((atKey xs k).map (·.2)):=by
 induction r with
 |nil=>exact True.intro
 | @cons p q ps a h t ih=>
  obtain⟨h1,_,h2⟩:=h;by_cases e:p.1=k
  ·have c:q.1=k:=h1.symm.trans e;have b:atKey (q::a) k=some q.2:=by simp[atKey,aM,c]
   rw[nu e,b];exact h2
  ·have c:¬ q.1=k:=fun z=>e (h1.trans z);have b:atKey (q::a) k=atKey a k:=by simp[atKey,aM,c]
   rw[nv e,b];exact ih
theorem KT.repl{H:Hp}{kvs:List (List Key×V)}{xs:List (List Key×cG×cE)}(r:KT H kvs xs)(k:List Key){y:V}{u:cE}(c:dn y u):
  KT H (kvs.map fun a=>if a.1=k then(a.1,y)else a) (xs.map (putAt k u)):=by
 induction r with
 |nil=>exact .nil
 | @cons p q ps d h t ih=>
  rw[mP1,mP1];refine .cons ?_ ih;obtain⟨h1,h2,b⟩:=h;unfold putAt;by_cases e:p.1=k
  ·rw[if_pos e,if_pos (h1.symm.trans e)];exact⟨h1,h2,c⟩
  ·rw[if_neg e,if_neg (fun z=>e (h1.trans z))];exact⟨h1,h2,b⟩
theorem KT.put{H:Hp}{kvs:List (List Key×V)}{xs:List (List Key×cG×cE)}(r:KT H kvs xs)(k:List Key){b:cG}{y:V}{u:cE}(hb:H b=some (.tup (k.map kV)))(a:dn y u):
  KT H (g6 kvs k y) (storedH xs k b u):=by
 have e:(kvs.any fun c=>decide (c.1=k))=(atKey xs k).isSome:=by
  rw[rY,(r.val k).isSome_eq,aP]
 unfold g6 storedH;rw[e];by_cases q:(atKey xs k).isSome=true
 ·rw[if_pos q,if_pos q];exact r.repl k a
 ·rw[if_neg q,if_neg q];exact Paired.snoc r ⟨rfl,hb,a⟩
theorem KT.keeps{H H':Hp}{kvs:List (List Key×V)}{xs:List (List Key×cG×cE)}(r:KT H kvs xs)(ht:∀b ys,H b=some (.tup ys)->H' b=some (.tup ys)):KT H' kvs xs:=
 Paired.mapP r fun _ _ z=>⟨z.1,ht _ _ z.2.1,z.2.2⟩
section
variable{P:cH}{w:cJ}{H:Hp}{h:cP}{a:cG}
theorem Di{u:HO}(ok:li P w H h)(e:Rd H a u):ea P w H h a u:=e.ok ok
theorem pG{kvs:List (Key×V)}(ok:li P w H h)(e:Rd H a (.dK kvs)):kvs.length<=cN/\(a == sysModules)=false /\ ∃vs,KV kvs vs/\h.DictOf (eF P w) a vs:=
 show ea P w H h a (.dK kvs)from Di ok e
theorem wa{kvs:List (Key×V)}(ok:li P w H h)(e:H a=some (.dK kvs)):kvs.length<=cN/\(a == sysModules)=false /\ ∃vs,KV kvs vs/\h.DictOf (eF P w) a vs:=pG ok (.inl e)
theorem nY{ks:List Key}(ok:li P w H h)(e:H a=some (.tup (ks.map kV))):(tupleKind (eF P w)).is h ks a:=by
 obtain⟨_,b,r,o,h1,h2,n,c⟩:=(show ea P w H h a (.tup (ks.map kV))from ok a _ e);exact⟨o,b.toArray,n,h1,h2,c,by simpa using py r⟩
theorem pF{kvs:List (List Key×V)}(ok:li P w H h)(e:Rd H a (.dT kvs)):kvs.length<=cN/\(a == sysModules)=false /\
  ∃xs,KT H kvs xs/\h.DictOfH (tupleKind (eF P w)) a xs:=by
 obtain⟨z,y,xs,r,o,es,ep,h1,h2,d,g,f⟩:=(show ea P w H h a (.dT kvs)from Di ok e);refine⟨z,y,xs,r,o,es,ep,h1,h2,d,g,fun x b=>?_,f⟩;have all:∀{l:List (List Key×V)} {m:List (List Key×cG×cE)},KT H l m -> ∀x∈m,(tupleKind (eF P w)).is h x.1 x.2.1:=by
  intro l m q
  induction q with
  |nil=>intro x b;exact nomatch b
  | @cons p q ps i c t ih=>
   intro x b;rcases ak.mp b with e|b
   ·subst e;exact nY ok (by rw[<- c.1];exact c.2.1)
   ·exact ih x b
 exact all r x b
theorem Il{kvs:List (List Key×V)}(ok:li P w H h)(e:H a=some (.dT kvs)):kvs.length<=cN/\(a == sysModules)=false /\
  ∃xs,KT H kvs xs/\h.DictOfH (tupleKind (eF P w)) a xs:=pF ok (.inl e)
end
def oZ(H:Hp)(a:cG)(y:V)(r:Option V):Prop:=
 (∃kvs k,Rd H a (.dK kvs)/\y=kV k/\r=gC kvs k) \/ ∃kvs k b,Rd H a (.dT kvs)/\y = .ref b/\H b=some (.tup (k.map kV))/\r=gC kvs k
def xB(H:Hp)(a:cG)(y v:V)(H':Hp):Prop:=
 (∃kvs k,H a=some (.dK kvs)/\y=kV k/\kvs.length<cN/\H'=upd H a (.dK (g6 kvs k v))) \/
 ∃kvs k b,H a=some (.dT kvs)/\y = .ref b/\H b=some (.tup (k.map kV))/\kvs.length<cN/\H'=upd H a (.dT (g6 kvs k v))
theorem oZ.k{H:Hp}{a:cG}{kvs:List (Key×V)}{k:Key}(e:H a=some (.dK kvs)):oZ H a (kV k) (gC kvs k):=.inl ⟨kvs,k,.inl e,rfl,rfl⟩
theorem oZ.t{H:Hp}{a b:cG}{kvs:List (List Key×V)}{k:List Key}(e:H a=some (.dT kvs))(c:H b=some (.tup (k.map kV))):oZ H a (.ref b) (gC kvs k):=.inr ⟨kvs,k,b,.inl e,rfl,c,rfl⟩
theorem xB.k{H:Hp}{a:cG}{kvs:List (Key×V)}{k:Key}{v:V}(e:H a=some (.dK kvs))(b:kvs.length<cN):xB H a (kV k) v (upd H a (.dK (g6 kvs k v))):=.inl ⟨kvs,k,e,rfl,b,rfl⟩
theorem xB.t{H:Hp}{a b:cG}{kvs:List (List Key×V)}{k:List Key}{v:V}(e:H a=some (.dT kvs))(d:H b=some (.tup (k.map kV)))(c:kvs.length<cN):
  xB H a (.ref b) v (upd H a (.dT (g6 kvs k v))):=.inr ⟨kvs,k,b,e,rfl,d,c,rfl⟩
section
variable{X:Cx}{pins:List (cG×Obj)}{σ:St}{H:Hp}{s:cF}{a:cG}{y v:V}{u r:cE}{o:Option V}{A:cI}{E:cE->cF->Prop}
theorem Inv.big(I:Inv X pins σ H s):sysModules<s.heap.objs.size:=by
 have h:cK<s.heap.objs.size:=(I.mod.glob.keeps I.bk).lt;exact aQ (by decide) h
theorem xm{Q:cE->cF->Prop}(t:A.units+1<cLine)(I:Inv X pins σ H s)(g:oZ H a y (some v))(q:dn y u)(h:∀ f s',Inv X pins σ H s'->dn v f->Q f s'):
  cO (model X.prog X.w) A (getItem (.ref a) u) Q E s:=by
 rcases g with⟨kvs,k,e,m,l⟩|⟨kvs,k,b,e,m,w,l⟩
 ·subst m;obtain⟨z,r,vs,c,n⟩:=pG I.hok e;obtain⟨f,i,d⟩:=mD.some_of (v:=v) (o:=valueAt vs k) (by rw[l];exact c.val k);exact wpAny_getItem_of (n0 q) n.mapOf i (h f _ (I.tok _) d)
 ·subst m;cases(show u=Value.ref b from q);obtain⟨z,r,xs,c,n⟩:=pF I.hok e;obtain⟨f,i,d⟩:=mD.some_of (v:=v) (o:=(atKey xs k).map (·.2)) (by rw[l];exact c.val k);obtain⟨p,x,j⟩:=oM1.mp i;refine wpAny_getItem_heap (tupleKind_room_in1 t) (nY I.hok w) n x ?_;rw[j];exact h f _ (I.tok _) d
theorem JN{Q:cE->cF->Prop}(m:A.units+1<cLine)(I:Inv X pins σ H s)(g:oZ H a y o)(j:dn y u)(h:∀ s',Inv X pins σ H s'->Q (.bool o.isSome) s'):
  cO (model X.prog X.w) A (compareOp .In u (.ref a)) Q E s:=by
 rcases g with⟨kvs,k,e,f,l⟩|⟨kvs,k,b,e,f,n,l⟩
 ·subst f;obtain⟨z,d,vs,c,i⟩:=pG I.hok e;refine wpAny_in_of (n0 j) d i.mapOf ?_;rw[<- (c.val k).isSome_eq,<- l];exact h _ (I.tok _)
 ·subst f;cases(show u=Value.ref b from j);obtain⟨z,d,xs,c,i⟩:=pF I.hok e;refine wpAny_in_heap (tupleKind_room_in1 m) (nY I.hok n) d i ?_;have q:=(c.val k).isSome_eq;rw[aP]at q;rw[<- q,<- l];exact h _ (I.tok _)
theorem CT{Q:cE->cF->Prop}(m:A.units+1<cLine)(I:Inv X pins σ H s)(g:oZ H a y o)(j:dn y u)(h:∀ s',Inv X pins σ H s'->Q (.bool (!o.isSome)) s'):
  cO (model X.prog X.w) A (compareOp .NotIn u (.ref a)) Q E s:=by
 rcases g with⟨kvs,k,e,f,l⟩|⟨kvs,k,b,e,f,n,l⟩
 ·subst f;obtain⟨z,d,vs,c,i⟩:=pG I.hok e;refine wpAny_notIn_of (n0 j) d i.mapOf ?_;rw[<- (c.val k).isSome_eq,<- l];exact h _ (I.tok _)
 ·subst f;cases(show u=Value.ref b from j);obtain⟨z,d,xs,c,i⟩:=pF I.hok e;refine wpAny_notIn_heap (tupleKind_room_in1 m) (nY I.hok n) d i ?_;have q:=(c.val k).isSome_eq;rw[aP]at q;rw[<- q,<- l];exact h _ (I.tok _)
theorem kr{h':cP}{t':Nat}{c:HO}(I:Inv X pins σ H s)(mu:GF (H a))(hs:Heap.SameBut a s.heap h')(he:∃ q,h'.get? a=some q)(new:ea X.prog X.w (upd H a c) h' a c):
  Inv X pins σ (upd H a c) {s with heap:=h',toks:=t'}:=
 I.write (x:=a) (e:=a) mu (.inl rfl) (fun b q d z=>(hs.2 b d).trans z) he new
theorem uI{P:cH}{w:cJ}{H':Hp}{h':cP}{kvs:List (Key×V)}{vs:List (Key×cE)}(z:kvs.length<=cN)(hd:(a == sysModules)=false)(b:KV kvs vs)(c:h'.DictOf (eF P w) a vs):
  ea P w H' h' a (.dK kvs):=⟨z,hd,vs,b,c⟩
theorem xl{H':Hp}{Q:Unit->cF->Prop}(G:A.units+1<cLine)(I:Inv X pins σ H s)(g:xB H a y v H')(C:dn y u)(B:dn v r)(h:∀ s',Inv X pins σ H' s'->Q () s'):
  cO (model X.prog X.w) A (setItem (.ref a) u r) Q E s:=by
 rcases g with⟨kvs,k,e,p,l,t⟩|⟨kvs,k,b,e,p,D,l,t⟩
 ·subst p t;obtain⟨z,j,vs,d,w⟩:=wa I.hok e;have n:vs.length<=cN:=by rw[<- d.length];exact z
  have o:(g6 kvs k v).length<=cN:=by have:=ir kvs k v;lia
  refine wpAny_setItem_pairs (hsz:=n) (n0 C) w fun h' f m=>h _ ?_;have F:∃q,h'.get? a=some q:=let ⟨q,_,_,i,_⟩:=f;⟨q,i⟩
  exact kr I (by rw[e];exact True.intro) m F (uI o j (d.put k B) f)
 ·subst p t;cases(show u=Value.ref b from C);obtain⟨z,j,xs,d,w⟩:=Il I.hok e;have n:xs.length<=cN:=by rw[<- Paired.length d];exact z
  have o:(g6 kvs k v).length<=cN:=by have:=ir kvs k v;lia
  refine wpAny_setItem_heap (hsz:=n) (tupleKind_room_in1 G) (nY I.hok D) w fun h' f m=>h _ ?_;obtain⟨q,es,ep,i,h2,J,L,_,K⟩:=f;refine kr I (by rw[e];exact True.intro) m ⟨q,i⟩ ⟨o,j,_,(d.put k D B).keeps fun c ys x=>?_,q,es,ep,i,h2,J,L,K⟩;rw[dm (HD x e (fun z=>nomatch z))];exact x
end
section
variable{X:Cx}{pins:List (cG×Obj)}{σ:St}{H:Hp}{s:cF}{a:cG}{kvs:List (Key×V)}{k:Key}{u:cE}{A:cI}{E:cE->cF->Prop}
end
theorem tI{X:Cx}{pins:List (cG×Obj)}{σ:St}{H:Hp}{s:cF}{a:cG}{y:V}{o:Option V}(I:Inv X pins σ H s)(g:oZ H a y o):s.TypeIs (.ref a) "dict":=by
 rcases g with⟨kvs,k,e,_,_⟩|⟨kvs,k,b,e,_,_,_⟩
 ·obtain⟨_,_,vs,_,c⟩:=pG I.hok e;exact c.typeIs
 ·obtain⟨_,_,xs,_,c⟩:=pF I.hok e;exact c.typeIs
section
variable{X:Cx}{o i e value:Expr}{pos pos' tpos:Pos}{td ty tv:TE}
end
theorem tH{P:cH}{w:cJ}{H:Hp}(h:cP)(hb:sysModules<h.objs.size):ea P w H (h.push {cls:=.type "dict",data:=.dict #[]}) h.objs.size (.dK []):=
 ⟨aR _,beq_eq_false_iff_ne.mpr (Ne.symm (nN1 hb)),[],.nil,Heap.DictOf.new h⟩
def DZ:TE:=fun _ H Q=>∀p,H p=none->Q (.ref p) (upd H p (.dK []))
section
variable{X:Cx}{pos:Pos}
theorem yV:PE X (.Dict [] [] pos) DZ:=fun pins s σ H Q I h=>
 wpAny_Dict_empty ⟨.ref s.heap.objs.size,_,I.laid (a:=s.heap.objs.size) (o:=.dK []) (t':=s.toks) (fun _ _ q=>hP1 _ q) (nR1 _) (tH s.heap I.big),rfl,h _ (I.hok.fresh (nR1 _))⟩
end
def pY:List (TE×TE)->St->Hp->(List (V×V)->Hp->Prop)->Prop
 |[],_,H,Q=>Q [] H
 |(tk,tv)::r,σ,H,Q=>tk σ H fun x H1=>tv σ H1 fun y H2=>pY r σ H2 fun ps H3=>Q ((x,y)::ps) H3
abbrev VV:List (V×V)->List (cE×cE)->Prop:=Paired fun p q=>dn p.1 q.1/\dn p.2 q.2
def IH(X:Cx)(pos:Pos)(keys:List (Option Expr))(values:List Expr)(trs:List (TE×TE)):Prop:=
 ∀(pins:List (cG×Obj)) (s:cF) (σ:St) (H:Hp) (Q:List (V×V)->Hp->Prop),Inv X pins σ H s->pY trs σ H Q ->
  cO (model X.prog X.w) X.A (evalPairs (pairTrees keys values X.env pos)) (fun vs s'=>∃ps H',Inv X pins σ H' s'/\VV ps vs/\Q ps H') X.xe s
theorem BC{X:Cx}{pos:Pos}:IH X pos [] [] []:=fun pins s σ H Q I h=>pairTrees_nil_walk ⟨[],H,I,.nil,h⟩
theorem yM{X:Cx}{pos:Pos}{k v:Expr}{ks:List (Option Expr)}{vs:List Expr}{tk tv:TE}{trs:List (TE×TE)}(hk:PE X k tk)(hv:PE X v tv)(hr:IH X pos ks vs trs):
  IH X pos (some k::ks) (v::vs) ((tk,tv)::trs):=fun pins s σ H Q I h=>
 pairTrees_cons_walk (eQ (hk pins s σ H _ I h) fun u b ⟨x,H1,f,d,n⟩=>eQ (hv pins b σ H1 _ f n) fun o e ⟨y,H2,m,l,j⟩=>
  eQ (hr pins e σ H2 _ m j) fun ws p ⟨ps,c,i,a,g⟩=>⟨(x,y)::ps,c,i,.cons ⟨d,l⟩ a,g⟩)
def i9(kvs more:List (Key×V)):List (Key×V):=more.foldl (fun acc kv=>g6 acc kv.1 kv.2) kvs
theorem KV.merge:∀{more:List (Key×V)} {rs:List (Key×cE)} {kvs:List (Key×V)} {vs:List (Key×cE)},KV more rs->KV kvs vs->KV (i9 kvs more) (merged vs rs):=by
 intro more rs kvs vs r;unfold KV at r
 induction r generalizing kvs vs with
 |nil=>intro q;exact q
 | @cons p q ps b h t ih=>
  intro a;have e:KV (g6 kvs p.1 p.2) (stored vs q.1 q.2):=by
   have:=a.put p.1 h.2;rw[<- h.1];exact this
  exact ih e
theorem kJ:∀(more kvs:List (Key×V)),(i9 kvs more).length<=kvs.length+more.length
 |[],kvs=>by show kvs.length<=kvs.length+0;lia
 |p::r,kvs=>by
  have h1:=kJ r (g6 kvs p.1 p.2);have h2:=ir kvs p.1 p.2;show(i9 (g6 kvs p.1 p.2) r).length<=_;rw[lC1];lia
theorem oo{P:cH}{w:cJ}:∀{kvs:List (Key×V)} {ws:List (cE×cE)},VV (kvs.map fun e=>(kV e.1,e.2)) ws -> ∃d,Carries (eF P w) ws d/\KV kvs d
 |[],_,r=>by rw[aL]at r;cases r;exact⟨[],True.intro,.nil⟩
 |p::kvs,_,r=>by
  rw[mP1]at r;cases r with
  | @cons a b as bs h t=>
   obtain⟨d,c,q⟩:=oo (P:=P) (w:=w) t;obtain⟨b1,b2⟩:=b;exact⟨(p.1,b2)::d,⟨n0 h.1,rfl,c⟩,.cons ⟨rfl,h.2⟩ q⟩
def G0(trs:List (TE×TE)):TE:=fun σ H Q=>∀p,H p=none->pY trs σ (upd H p (.dK [])) fun ps H2=>H2 p=some (.dK []) /\ ∃kvs:List (Key×V),ps=kvs.map (fun kv=>(kV kv.1,kv.2))/\kvs.length<=15/\Q (.ref p) (upd H2 p (.dK (i9 [] kvs)))
theorem BM{X:Cx}{pos:Pos}{b:List (Option Expr)}{values:List Expr}{trs:List (TE×TE)}(h:IH X pos b values trs)(d:b.all (·.isSome)=true)(u:b.length=values.length)(p:b≠[])(i:b.length<=15):PE X (.Dict b values pos) (G0 trs):=by
 intro pins s σ H Q I q;have y:=I.hok.fresh (nR1 s.heap.objs.size);have v:=I.laid (a:=s.heap.objs.size) (o:=.dK []) (h':=s.heap.push {cls:=.type "dict",data:=.dict #[]}) (t':=s.toks) (fun _ _ q=>hP1 _ q) (nR1 _) (tH s.heap I.big);refine wpAny_Dict_walk (knd:=eF X.prog X.w) d u p i (eQ (h pins _ σ _ _ v (q _ y)) fun ws D ⟨ps,H2,j,g,e,kvs,ep,C,B⟩=>?_);subst ep;obtain⟨A,c,rk⟩:=oo (P:=X.prog) (w:=X.w) g;obtain⟨z,k,t,m,x⟩:=wa j.hok e;cases m;refine⟨A,c,x,fun h' f n=>⟨.ref s.heap.objs.size,_,?_,rfl,B⟩⟩;have r:(i9 [] kvs).length<=cN:=by
  have h1:=kJ kvs [];rw[aO]at h1;rw[sizeLine_eq];lia
 have l:∃q,h'.get? s.heap.objs.size=some q:=let ⟨q,_,_,hq,_⟩:=f;⟨q,hq⟩
 exact kr j (by rw[e];exact True.intro) n l (uI r k (rk.merge .nil) f)
structure M2 (X:Cx)(o:Expr)(m:Str)(apos:Pos)(e f:Expr)(cpos:Pos):Prop where
 base:attributeBase o m X.env (eval o X.env)=eval o X.env
 few:((backTo cpos (cM [e,f] X.env)).all (fun x=> !x.1)&&(backToKw cpos (keywordEach [] X.env)).all (fun x=>x.1.isSome)
  && decide (([e,f]:List Expr).length+([]:List Keyword).length+(if([]:List Keyword).isEmpty then 0 else 1)<30))=true
 line:(apos.endLine == cpos.line)=true
 trees:backTo cpos (cM [e,f] X.env)=[(false,eval e X.env),(false,eval f X.env)]
def J8(H:Hp)(a:cG):Prop:=(∃kvs,Rd H a (.dK kvs)) \/ ∃kvs,Rd H a (.dT kvs)
theorem FY{X:Cx}{pins:List (cG×Obj)}{σ:St}{H:Hp}{s:cF}{a:cG}(I:Inv X pins σ H s)(d:J8 H a):
  s.TypeIs (.ref a) "dict"/\(∀b,Value.ref a = .ref b -> ∃c,s.heap.get? b=some c/\c.dict=none)/\(a == sysModules)=false:=by
 rcases d with⟨kvs,e⟩|⟨kvs,e⟩
 ·obtain⟨_,g,vs,_,f⟩:=pG I.hok e;refine⟨f.typeIs,fun b q=>?_,g⟩;cases q;obtain⟨c,_,_,h1,h2,_⟩:=f;exact⟨c,h1,h2.2.1⟩
 ·obtain⟨_,g,xs,_,f⟩:=pF I.hok e;refine⟨f.typeIs,fun b q=>?_,g⟩;cases q;obtain⟨c,_,_,h1,h2,_⟩:=f;exact⟨c,h1,h2.2.1⟩
section
variable{X:Cx}{pins:List (cG×Obj)}{σ:St}{H:Hp}{s:cF}{a:cG}{y d:V}{u r:cE}{o:Option V}{A:cI}{E:cE->cF->Prop}
end
section
variable{X:Cx}{o e f:Expr}{apos cpos:Pos}{td ty tx:TE}
end
section
variable{X:Cx}{pins:List (cG×Obj)}{σ:St}{H:Hp}{s:cF}{a:cG}{kvs:List (Key×V)}{A:cI}{E:cE->cF->Prop}
end
section
variable{X:Cx}{pins:List (cG×Obj)}{σ:St}{H:Hp}{s:cF}{a:cG}{y:V}{u:cE}{A:cI}{E:cE->cF->Prop}
end
end L2
namespace Mi
open PySem PySem.Spec PyProof.Rows L2
inductive TK where
 |non|int (i:Int)|tup (xs:List TK)
instance:DecidableEq TK:=fun _ _=>Classical.propDecidable _
mutual
def TK.hash:TK->Int
 | .non=>0xFCA86420
 | .int i=>hashInt i
 | .tup xs=>reduceHash (Builtin.Tuple.tupleHashOf (TK.hashes xs))
def TK.hashes:List TK->List Int
 |[]=>[]
 |x::xs=>TK.hash x::TK.hashes xs
end
mutual
def TK.draws:TK->Nat
 | .non=>1
 | .int _=>1
 | .tup xs=>TK.drawsAll xs+1
def TK.drawsAll:List TK->Nat
 |[]=>0
 |x::xs=>TK.draws x+TK.drawsAll xs
end
mutual
def TK.dep:TK->Nat
 | .non=>0
 | .int _=>0
 | .tup xs=>TK.depAll xs+1
def TK.depAll:List TK->Nat
 |[]=>0
 |x::xs=>max (TK.dep x) (TK.depAll xs)
end
theorem TK.dep_mem:∀{xs:List TK} {x:TK},x∈xs->x.dep<=TK.depAll xs
 |y::ys,x,h=>by
  rw[TK.depAll];rcases ak.mp h with e|e
  ·rw[e];exact Nat.le_max_left _ _
  ·exact ai (TK.dep_mem e) (Nat.le_max_right _ _)
theorem TK.hashes_app:∀a b:List TK,TK.hashes (a++b)=TK.hashes a++TK.hashes b
 |[],_=>rfl
 |x::xs,b=>by rw[aS,TK.hashes,TK.hashes,TK.hashes_app xs b];rfl
theorem TK.draws_app:∀a b:List TK,TK.drawsAll (a++b)=TK.drawsAll a+TK.drawsAll b
 |[],_=>by simp[TK.drawsAll]
 |x::xs,b=>by rw[aS,TK.drawsAll,TK.drawsAll,TK.draws_app xs b,aT]
def ww(xs:Array Nat):Prop:=xs.toList.Pairwise (· < ·)
def fO(m:Nat):Nat->Nat->Nat->List Nat
 |0,_,_=>[]
 |n+1,i,b=>aU i (SetTable.runEnd m i-i+1)++fO m n (SetTable.leap m i b).1 (SetTable.leap m i b).2
def wM(m:Nat):Prop:=m=7\/m=31\/m=127
def mU(m:Nat)(h:Int):List Nat:=fO m (SetTable.turns m) (SetTable.bits h%(m+1)) (SetTable.bits h)
def wL(m:Nat)(occ:List Nat)(h:Int)(j:Nat):Prop:=∃pre post,mU m h=pre++j::post /\ ∀y∈pre,y∈occ
structure sTT (es:Array (Int×cE))(t:SetTable):Prop where
 mks:wM t.mask
 up:ww t.place
 du:t.dummies = #[]
 sz:t.place.size=es.size
 le:∀j∈t.place.toList,j<=t.mask
 fl:es.size<=t.mask
 rc:∀z∈t.place.toList.zip es.toList,wL t.mask t.place.toList z.2.1 z.1
def stO(es:Array (Int×cE))(ep:Nat)(t:SetTable):Obj:={cls:=.type "set",dict:=none,data:=.set es ep t,slots:= #[]}
def tX(a:cG)(xs:List (TK×cG×cE))(h:cP):Prop:=(xs.map (·.1)).Nodup /\ ∃es ep t,h.get? a=some (stO es ep t)/\sTT es t/\t.tooFull=false/\(∀e∈es.toList,∃z∈xs,e=(z.1.hash,.ref z.2.1))/\(∀z∈xs,(z.1.hash,Value.ref z.2.1)∈es.toList)/\es.size=xs.length
inductive D where
 |non|bl (b:Bool)|int (i:Int)|str (x:Str)|tup (xs:List D)|rol (xs:List D)|ref (n:Nat)|fn (x:Str)
inductive Ob where
 |lst (xs:List D)|dct (kvs:List (Key×D))|dcT (kvs:List (TK×D))|iset (xs:List Int)|dcF (kvs:List (TK×D))|tst (ks:List TK)
abbrev Sto:=List Ob
abbrev Ev:=List (Option D)
abbrev FE:=Ev->Sto->Option (D×Sto)
abbrev FT:=Ev->Sto->Option (Bool×Sto)
abbrev FA:=Ev->Sto->Option (List D×Sto)
abbrev FN:=List D->Sto->Option (D×Sto)
inductive Fl where
 |nx|rt (d:D)|bk|ct
abbrev FS:=Ev->Sto->Option (Fl×Ev×Sto)
def RoL(K:Fg1)(H:Hp)(a:cG)(xs:List V):Prop:=(∃o,H a=some (.frz o (.lst xs))) \/
 ∃(o:Obj) (its:Array cE) (n:Nat),K.lookup a=some o/\o.cls = .type "list"/\o.dict=none/\o.data = .seq its n/\its.size<=cN/\dE xs its.toList
theorem RoL.sq{K:Fg1}{H:Hp}{a:cG}{xs:List V}(h:RoL K H a xs):mR K H a xs:=h.elim (fun⟨o,q⟩=>.inl (.inr ⟨o,q⟩)) .inr
mutual
inductive eD (K:Fg1)(H:Hp)(mu:List cG):D->V->Prop
 |non:eD K H mu .non .non
 |bl (b:Bool):eD K H mu (.bl b) (.bl b)
 |int (i:Int):eD K H mu (.int i) (.int i)
 |str (x:Str):eD K H mu (.str x) (.str x)
 |tup {ds:List D} {vs:List V} {a:cG} (h:kB K H a vs) (r:dh K H mu ds vs):eD K H mu (.tup ds) (.ref a)
 |rol {ds:List D} {vs:List V} {a:cG} (h:RoL K H a vs) (r:dh K H mu ds vs):eD K H mu (.rol ds) (.ref a)
 |ref {n:Nat} {a:cG} (h:mu[n]?=some a):eD K H mu (.ref n) (.ref a)
 |fn {x:Str} {a:cG} (h:wN1 K cK x=some (some (.ref a))):eD K H mu (.fn x) (.ref a)
inductive dh (K:Fg1)(H:Hp)(mu:List cG):List D->List V->Prop
 |nil:dh K H mu [] []
 |cons {d:D} {v:V} {ds:List D} {vs:List V} (r:eD K H mu d v) (t:dh K H mu ds vs):dh K H mu (d::ds) (v::vs)
end
structure Ext (mu mu':List cG)(H H':Hp):Prop where
 pre:mu <+: mu'
 old:∀a o,H a=some o->a∉mu->H' a=some o
 tup:∀a xs,Rd H a (.tup xs)->Rd H' a (.tup xs)
 frz:∀a o u,H a=some (.frz o u)->H' a=some (.frz o u)
 new:∀a∈mu',a∈mu\/H a=none
theorem Ext.refl(mu:List cG)(H:Hp):Ext mu mu H H:=⟨aV,fun _ _ h _=>h,fun _ _ h=>h,fun _ _ _ h=>h,fun _ h=>.inl h⟩
theorem Ext.trans{mu m1 m2:List cG}{H H1 H2:Hp}(a:Ext mu m1 H H1)(b:Ext m1 m2 H1 H2):Ext mu m2 H H2 where
 pre:=a.pre.trans b.pre
 old:=fun c o h n=>b.old c o (a.old c o h n) fun z=>by
  rcases a.new c z with q|q
  ·exact n q
  ·rw[h]at q;cases q
 tup:=fun c xs h=>b.tup c xs (a.tup c xs h)
 frz:=fun c o u h=>b.frz c o u (a.frz c o u h)
 new:=fun c h=>by
  rcases b.new c h with q|q
  ·exact a.new c q
  ·by_cases z:c∈mu
   ·exact .inl z
   ·right;cases e:H c with
    |none=>rfl
    |some o=>rw[a.old c o e z]at q;cases q
theorem Ext.at{mu mu':List cG}{H H':Hp}(e:Ext mu mu' H H'){n:Nat}{a:cG}(h:mu[n]?=some a):mu'[n]?=some a:=by
 obtain⟨t,rfl⟩:=e.pre;have b:n<mu.length:=(gE1.mp h).1;rw[gL1 b];exact h
theorem Ext.back{mu mu':List cG}{H H':Hp}(e:Ext mu mu' H H'):Ext mu mu H H':=⟨aV,e.old,e.tup,e.frz,fun _ h=>.inl h⟩
structure rT (mu mu':List cG)(H H':Hp):Prop where
 pre:mu <+: mu'
 tup:∀a xs,Rd H a (.tup xs)->Rd H' a (.tup xs)
 frz:∀a o u,H a=some (.frz o u)->H' a=some (.frz o u)
theorem Ext.w{mu mu':List cG}{H H':Hp}(e:Ext mu mu' H H'):rT mu mu' H H':=⟨e.pre,e.tup,e.frz⟩
theorem rT.trans{mu m1 m2:List cG}{H H1 H2:Hp}(a:rT mu m1 H H1)(b:rT m1 m2 H1 H2):rT mu m2 H H2:=⟨a.pre.trans b.pre,fun c xs h=>b.tup c xs (a.tup c xs h),fun c o u h=>b.frz c o u (a.frz c o u h)⟩
theorem rT.at{mu mu':List cG}{H H':Hp}(e:rT mu mu' H H'){n:Nat}{a:cG}(h:mu[n]?=some a):mu'[n]?=some a:=by
 obtain⟨t,rfl⟩:=e.pre;have b:n<mu.length:=(gE1.mp h).1;rw[gL1 b];exact h
structure DH (mu mu':List cG)(H H':Hp):Prop where
 pre:mu <+: mu'
 tup:∀a xs,Rd H a (.tup xs)->Rd H' a (.tup xs)
 frl:∀a o xs,H a=some (.frz o (.lst xs))->H' a=some (.frz o (.lst xs))
theorem rT.v{mu mu':List cG}{H H':Hp}(e:rT mu mu' H H'):DH mu mu' H H':=⟨e.pre,e.tup,fun a o xs h=>e.frz a o _ h⟩
theorem Ext.v{mu mu':List cG}{H H':Hp}(e:Ext mu mu' H H'):DH mu mu' H H':=e.w.v
theorem DH.at{mu mu':List cG}{H H':Hp}(e:DH mu mu' H H'){n:Nat}{a:cG}(h:mu[n]?=some a):mu'[n]?=some a:=by
 obtain⟨t,rfl⟩:=e.pre;have b:n<mu.length:=(gE1.mp h).1;rw[gL1 b];exact h
theorem kB.exv{K:Fg1}{mu mu':List cG}{H H':Hp}{a:cG}{vs:List V}(e:DH mu mu' H H')(h:kB K H a vs):kB K H' a vs:=by
 rcases h with h|h
 ·exact .inl (e.tup a vs h)
 ·exact .inr h
theorem RoL.exv{K:Fg1}{mu mu':List cG}{H H':Hp}{a:cG}{vs:List V}(e:DH mu mu' H H')(h:RoL K H a vs):RoL K H' a vs:=by
 rcases h with⟨o,h⟩|h
 ·exact .inl ⟨o,e.frl a o _ h⟩
 ·exact .inr h
theorem eD.exv{K:Fg1}{mu mu':List cG}{H H':Hp}(e:DH mu mu' H H'):∀ {d:D} {v:V},eD K H mu d v->eD K H' mu' d v:=fun h=>h.rec (motive_1:=fun d v _=>eD K H' mu' d v) (motive_2:=fun ds vs _=>dh K H' mu' ds vs)
  .non .bl .int .str (fun h _ ih=>.tup (kB.exv e h) ih) (fun h _ ih=>.rol (RoL.exv e h) ih) (fun h=>.ref (e.at h)) (fun h=>.fn h) .nil (fun _ _ a b=>.cons a b)
theorem dh.ind{K:Fg1}{mu:List cG}{H:Hp}{P:(ds:List D)->(vs:List V)->dh K H mu ds vs->Prop}(hn:P [] [] .nil)(hc:∀{d v ds vs} (r:eD K H mu d v) (t:dh K H mu ds vs),P ds vs t->P (d::ds) (v::vs) (.cons r t)){ds:List D}{vs:List V}(h:dh K H mu ds vs):P ds vs h:=
 h.rec (motive_1:=fun _ _ _=>True) (motive_2:=P) trivial (fun _=>trivial) (fun _=>trivial) (fun _=>trivial) (fun _ _ _=>trivial) (fun _ _ _=>trivial) (fun _=>trivial) (fun _=>trivial) hn (fun r t _ ih=>hc r t ih)
theorem dh.exv{K:Fg1}{mu mu':List cG}{H H':Hp}(e:DH mu mu' H H'):∀{ds:List D} {vs:List V},dh K H mu ds vs->dh K H' mu' ds vs:=fun h=>h.ind (P:=fun ds vs _=>dh K H' mu' ds vs) .nil fun r _ ih=>.cons (eD.exv e r) ih
section
variable{K:Fg1}{mu mu':List cG}{H H':Hp}{a:cG}{vs:List V}
theorem eD.exw(e:rT mu mu' H H'){d:D}{v:V}(h:eD K H mu d v):eD K H' mu' d v:=h.exv e.v
theorem dh.exw(e:rT mu mu' H H'){ds:List D}(h:dh K H mu ds vs):dh K H' mu' ds vs:=h.exv e.v
theorem eD.ext(e:Ext mu mu' H H'){d:D}{v:V}(h:eD K H mu d v):eD K H' mu' d v:=h.exv e.v
theorem dh.ext(e:Ext mu mu' H H'){ds:List D}(h:dh K H mu ds vs):dh K H' mu' ds vs:=h.exv e.v
end
section
variable{K:Fg1}{H:Hp}{mu:List cG}
theorem dh.length:∀{ds:List D} {vs:List V},dh K H mu ds vs->ds.length=vs.length:=fun h=>h.ind (P:=fun ds vs _=>ds.length=vs.length) rfl fun _ _ ih=>congrArg (· + 1) ih
theorem dh.get:∀{ds:List D} {vs:List V} {i:Nat} {d:D},dh K H mu ds vs->ds[i]?=some d -> ∃v,vs[i]?=some v/\eD K H mu d v:=by
 intro ds vs i d h e
 induction h using dh.ind generalizing i with
 |hn=>cases e
 |hc r t ih=>cases i with
  |zero=>cases e;exact⟨_,rfl,r⟩
  |succ i=>exact ih (i:=i) e
theorem dh.getV:∀{ds:List D} {vs:List V} {i:Nat} {v:V},dh K H mu ds vs->vs[i]?=some v -> ∃d,ds[i]?=some d/\eD K H mu d v:=by
 intro ds vs i d h e
 induction h using dh.ind generalizing i with
 |hn=>cases e
 |hc r t ih=>cases i with
  |zero=>cases e;exact⟨_,rfl,r⟩
  |succ i=>exact ih (i:=i) e
theorem dh.append:∀{ds es:List D} {vs ws:List V},dh K H mu ds vs->dh K H mu es ws->dh K H mu (ds++es) (vs++ws):=fun h s=>h.ind (P:=fun ds vs _=>dh K H mu (ds++_) (vs++_)) s fun r _ ih=>.cons r ih
theorem dh.take:∀{ds:List D} {vs:List V} (n:Nat),dh K H mu ds vs->dh K H mu (ds.take n) (vs.take n):=by
 intro ds vs n h
 induction h using dh.ind generalizing n with
 |hn=>rw[aa,aa];exact .nil
 |hc r t ih=>cases n with
  |zero=>exact .nil
  |succ n=>exact .cons r (ih n)
theorem dh.drop:∀{ds:List D} {vs:List V} (n:Nat),dh K H mu ds vs->dh K H mu (ds.drop n) (vs.drop n):=by
 intro ds vs n h
 induction h using dh.ind generalizing n with
 |hn=>rw[ab,ab];exact .nil
 |hc r t ih=>cases n with
  |zero=>exact .cons r t
  |succ n=>exact ih n
theorem dh.set{d:D}{v:V}(r:eD K H mu d v):∀{ds:List D} {vs:List V} (i:Nat),dh K H mu ds vs->dh K H mu (ds.set i d) (vs.set i v):=by
 intro ds vs i h
 induction h using dh.ind generalizing i with
 |hn=>exact .nil
 |hc q t ih=>cases i with
  |zero=>exact .cons r t
  |succ i=>exact .cons q (ih i)
theorem dh.eraseIdx:∀{ds:List D} {vs:List V} (i:Nat),dh K H mu ds vs->dh K H mu (ds.eraseIdx i) (vs.eraseIdx i):=by
 intro ds vs i h
 induction h using dh.ind generalizing i with
 |hn=>exact .nil
 |hc q t ih=>cases i with
  |zero=>exact t
  |succ i=>exact .cons q (ih i)
end
def KR{κ:Type}(K:Fg1)(H:Hp)(mu:List cG):List (κ×D)->List (κ×V)->Prop:=Paired fun p q=>p.1=q.1/\eD K H mu p.2 q.2
mutual
def o4:TK->D
 | .non=>.non
 | .int i=>.int i
 | .tup xs=>.tup (kW xs)
def kW:List TK->List D
 |[]=>[]
 |x::xs=>o4 x::kW xs
end
def j8(a:cG)(xs:List (TK×cG×cE))(h:cP):Prop:=(a == sysModules)=false/\(xs.map (·.1)).Nodup /\ ∃o es ep,h.get? a=some o/\o.ExactDict/\o.data = .dict es ep/\es.toList=xs.map fun x=>(⟨x.1.hash,.ref x.2.1,x.2.2⟩:DictEntry)
def DL(a:cG)(xs:List (TK×cG×cE))(o:Obj):Prop:=(a == sysModules)=false/\(xs.map (·.1)).Nodup/\o.ExactDict /\ ∃es ep,o.data = .dict es ep/\es.toList=xs.map fun x=>(⟨x.1.hash,.ref x.2.1,x.2.2⟩:DictEntry)
def KT(K:Fg1)(H:Hp)(mu:List cG):List (TK×D)->List (TK×cG×cE)->Prop:=Paired fun p q=>p.1=q.1/\p.1.dep<=8/\eD K H mu (o4 p.1) (.ref q.2.1) /\ ∃v,dn v q.2.2/\eD K H mu p.2 v
def oC(K:Fg1)(H:Hp)(mu:List cG)(a:cG):Ob->Prop
 | .lst ds=>∃vs,H a=some (.lst vs)/\dh K H mu ds vs
 | .dct kvs=>∃ws,H a=some (.dK ws)/\KR K H mu kvs ws
 | .dcT kvs=>∃xs,H a=some (.ext (j8 a xs))/\KT K H mu kvs xs/\xs.length<=cN
 | .iset xs=>H a=some (.set (fun k=>xs.contains k) xs.length)/\xs.Nodup
 | .dcF kvs=>∃xs,(∃o u,H a=some (.frz o u)/\DL a xs o)/\KT K H mu kvs xs/\xs.length<=cN
 | .tst ks=>∃xs,H a=some (.ext (tX a xs))/\KT K H mu (ks.map fun k=>(k,D.non)) xs
structure Sim (K:Fg1)(H:Hp)(mu:List cG)(S:Sto):Prop where
 len:mu.length=S.length
 nd:mu.Nodup
 ob:∀(n:Nat) (o:Ob) (a:cG),S[n]?=some o->mu[n]?=some a->oC K H mu a o
structure fh (K:Fg1)(H:Hp)(mu:List cG)(r:Ev)(σ:L2.St):Prop where
 len:r.length=σ.length
 val:∀(i:Nat) (d:D),r[i]?=some (some d) -> ∃v,σ[i]?=some (some v)/\eD K H mu d v
theorem fh.ext{K:Fg1}{mu mu':List cG}{H H':Hp}{r:Ev}{σ:L2.St}(e:Ext mu mu' H H')(h:fh K H mu r σ):fh K H' mu' r σ:=⟨h.len,fun i d q=>by
 obtain⟨v,b,a⟩:=h.val i d q;exact⟨v,b,a.ext e⟩⟩
theorem KR.ext{κ:Type}{K:Fg1}{mu mu':List cG}{H H':Hp}{ks:List (κ×D)}{ws:List (κ×V)}(e:Ext mu mu' H H')(h:KR K H mu ks ws):KR K H' mu' ks ws:=
 Paired.mapP h fun _ _ z=>⟨z.1,z.2.ext e⟩
theorem KT.ext{K:Fg1}{mu mu':List cG}{H H':Hp}{ks:List (TK×D)}{ws:List (TK×cG×cE)}(e:Ext mu mu' H H')(h:KT K H mu ks ws):KT K H' mu' ks ws:=
 Paired.mapP h fun _ _ ⟨z,d,k,v,a,r⟩=>⟨z,d,k.ext e,v,a,r.ext e⟩
theorem Sim.nil{K:Fg1}{H:Hp}:Sim K H [] []:=⟨rfl,aW,fun n o a h=>by simp at h⟩
theorem Sim.here{K:Fg1}{H:Hp}{mu:List cG}{S:Sto}(s:Sim K H mu S){a:cG}(h:a∈mu):∃o,H a=some o:=by
 obtain⟨n,b⟩:=aX h;have c:n<S.length:=by rw[<- s.len];exact(gE1.mp b).1
 have q:=s.ob n _ a (gG1 c) b;cases e:S[n]with
 |lst ds=>rw[e]at q;obtain⟨vs,z,_⟩:=q;exact⟨_,z⟩
 |dct ks=>rw[e]at q;obtain⟨vs,z,_⟩:=q;exact⟨_,z⟩
 |dcT ks=>rw[e]at q;obtain⟨vs,z,_⟩:=q;exact⟨_,z⟩
 |iset xs=>rw[e]at q;exact⟨_,q.1⟩
 |dcF ks=>rw[e]at q;obtain⟨vs,⟨_,_,z,_⟩,_⟩:=q;exact⟨_,z⟩
 |tst ks=>rw[e]at q;obtain⟨vs,z,_⟩:=q;exact⟨_,z⟩
def rQ(K:Fg1)(mu:List cG)(H:Hp)(d:D)(S':Sto)(Q:VK):Prop:=∀v H' mu',Ext mu mu' H H'->eD K H' mu' d v->Sim K H' mu' S'->Q v H'
inductive tM (K:Fg1)(m:FE)(σ:L2.St)(H:Hp)(Q:VK):Prop
 |mk (r:Ev) (mu:List cG) (S:Sto) (d:D) (S':Sto) (he:fh K H mu r σ) (hs:Sim K H mu S) (hm:m r S=some (d,S')) (hc:rQ K mu H d S' Q)
inductive Ba (K:Fg1)(m:FT)(σ:L2.St)(H:Hp)(Q:Bool->Hp->Prop):Prop
 |mk (r:Ev) (mu:List cG) (S:Sto) (b:Bool) (S':Sto) (he:fh K H mu r σ) (hs:Sim K H mu S) (hm:m r S=some (b,S')) (hc:∀H' mu',Ext mu mu' H H'->Sim K H' mu' S'->Q b H')
inductive Kd (K:Fg1)(m:FA)(σ:L2.St)(H:Hp)(Q:List V->Hp->Prop):Prop
 |mk (r:Ev) (mu:List cG) (S:Sto) (ds:List D) (S':Sto) (he:fh K H mu r σ) (hs:Sim K H mu S) (hm:m r S=some (ds,S')) (hc:∀vs H' mu',Ext mu mu' H H'->dh K H' mu' ds vs->Sim K H' mu' S'->Q vs H')
def Jg(K:Fg1)(mu:List cG)(H:Hp)(r':Ev)(S':Sto)(E:j7)(f:Fl):Prop:=match f with
 | .nx=>∀ σ' H' mu',Ext mu mu' H H'->fh K H' mu' r' σ'->Sim K H' mu' S'->E.nx σ' H'
 | .bk=>∀ σ' H' mu',Ext mu mu' H H'->fh K H' mu' r' σ'->Sim K H' mu' S'->E.bk σ' H'
 | .ct=>∀ σ' H' mu',Ext mu mu' H H'->fh K H' mu' r' σ'->Sim K H' mu' S'->E.ct σ' H'
 | .rt d=>rQ K mu H d S' E.rt
inductive vd (K:Fg1)(m:FS)(E:j7)(σ:L2.St)(H:Hp):Prop
 |mk (r:Ev) (mu:List cG) (S:Sto) (f:Fl) (r':Ev) (S':Sto) (he:fh K H mu r σ) (hs:Sim K H mu S) (hm:m r S=some (f,r',S')) (hc:Jg K mu H r' S' E f)
inductive rN (K:Fg1)(f:FN)(vs:List V)(H:Hp)(Q:VK):Prop
 |mk (mu:List cG) (S:Sto) (ds:List D) (d:D) (S':Sto) (hr:dh K H mu ds vs) (hs:Sim K H mu S) (hm:f ds S=some (d,S')) (hc:rQ K mu H d S' Q)
abbrev ME(X:Cx)(e:Expr)(m:FE):Prop:=PE X e (tM X.K m)
abbrev MT(X:Cx)(e:Expr)(m:FT):Prop:=PT X e (Ba X.K m)
abbrev MW(X:Cx)(e:Expr)(m:FT):Prop:=PW X e (Ba X.K m)
abbrev MA(X:Cx)(es:List Expr)(m:FA):Prop:=PA X es (Kd X.K m)
abbrev MS(X:Cx)(st:cR)(m:FS):Prop:=PS X st (vd X.K m)
abbrev xA(X:Cx)(st:List cR)(m:FS):Prop:=t4 X st (vd X.K m)
section
variable{X:Cx}{e:Expr}{es:List Expr}{st:cR}{sts:List cR}
theorem d8{t t':TE}(h:PE X e t)(i:∀ σ H Q,t' σ H Q->t σ H Q):PE X e t':=fun pins s σ H Q I q=>h pins s σ H Q I (i σ H Q q)
theorem ug{t t':TT}(h:PT X e t)(i:∀ σ H Q,t' σ H Q->t σ H Q):PT X e t':=fun pins s σ H Q I q=>h pins s σ H Q I (i σ H Q q)
theorem yG{t t':TT}(h:PW X e t)(i:∀ σ H Q,t' σ H Q->t σ H Q):PW X e t':=fun a pins s σ H Q I q=>h a pins s σ H Q I (i σ H Q q)
theorem yY{t t':TA}(h:PA X es t)(i:∀ σ H Q,t' σ H Q->t σ H Q):PA X es t':=fun pos pins s σ H Q I q=>h pos pins s σ H Q I (i σ H Q q)
theorem i5{t t':TS}(h:PS X st t)(i:∀E σ H,t' E σ H->t E σ H):PS X st t':=fun pins s σ H E I q=>h pins s σ H E I (i E σ H q)
theorem qm{t t':TS}(h:t4 X sts t)(i:∀E σ H,t' E σ H->t E σ H):t4 X sts t':=fun pins s σ H E I q=>h pins s σ H E I (i E σ H q)
end
def mV(i:Nat):FE:=fun r S=>match r[i]? with
 |some (some d)=>some (d,S)
 |_=>none
def mC(d:D):FE:=fun _ S=>some (d,S)
section
variable{X:Cx}{pos:Pos}
theorem Fi (i:Nat){x:Str}(hN:X.N[i]?=some x)(hv:IG X.env.scope x)(hd:(x == ("__debug__":Str))=false:=by decide)(hcd:(x == ("__classdict__":Str))=false:=by decide):ME X (.Name x pos) (mV i):=
 d8 (EA hN hv hd hcd) <| by
  rintro σ H Q ⟨r,mu,S,d,j,c,f,a,hc⟩;unfold mV at a;split at a
  ·rename_i h e;cases a;obtain⟨v,b,g⟩:=c.val i _ e;exact⟨v,b,hc v H mu (.refl _ _) g f⟩
  ·cases a
theorem Cg{e:Expr}{v:V}(d:D)(h:PE X e (tC v))(hr:∀H mu,eD X.K H mu d v):ME X e (mC d):=
 d8 h <| by
  rintro σ H Q ⟨r,mu,S,c,f,g,b,a,hc⟩;cases a;exact hc v H mu (.refl _ _) (hr H mu) b
theorem Fs{i:Int}{j}:ME X (.Constant (.int i) j pos) (mC (.int i)):=Cg _ EI fun _ _=>.int i
theorem HM{b:Bool}{j}:ME X (.Constant (.bool b) j pos) (mC (.bl b)):=Cg _ Hs fun _ _=>.bl b
theorem Fp{j}:ME X (.Constant .none j pos) (mC .non):=Cg _ EG fun _ _=>.non
theorem Fk{x:Str}{j}:ME X (.Constant (.str x) j pos) (mC (.str x)):=Cg _ EC fun _ _=>.str x
end
def cU:FA:=fun _ S=>some ([],S)
def cT(m:FE)(n:FA):FA:=fun r S=>(m r S).bind fun p=>(n r p.2).bind fun q=>some (p.1::q.1,q.2)
section
variable{X:Cx}{pos:Pos}{e:Expr}{es:List Expr}{m:FE}{n:FA}
theorem Fv:MA X [] cU:=yY ma <| by
 rintro σ H Q ⟨r,mu,S,ds,c,d,b,a,hc⟩;cases a;exact hc [] H mu (.refl _ _) .nil b
theorem Ci(h:ME X e m)(ht:MA X es n)(hs:cM (e::es) X.env=(false,eval e X.env)::cM es X.env:=by rfl):MA X (e::es) (cT m n):=
 yY (i6 h ht hs) <| by
  rintro σ H Q ⟨r,mu,S,ds,s,g,hs,a,hc⟩;unfold cT at a;obtain⟨⟨d,f⟩,o,a⟩:=oB1.mp a;obtain⟨⟨c,t⟩,k,a⟩:=oB1.mp a;cases a;refine⟨r,mu,S,d,f,g,hs,o,fun v H1 mu1 j q l=>?_⟩;refine⟨r,mu1,f,c,_,g.ext j,l,k,fun vs H2 b i r2 p=>?_⟩;exact hc _ H2 b (j.trans i) (.cons (q.ext i) r2) p
end
def m2(f:FN)(a b:FE):FE:=fun r S=>(a r S).bind fun p=>(b r p.2).bind fun q=>f [p.1,q.1] q.2
def m1(f:FN)(a:FE):FE:=fun r S=>(a r S).bind fun p=>f [p.1] p.2
def mN(f:FN)(a:FA):FE:=fun r S=>(a r S).bind fun p=>f p.1 p.2
abbrev r2(K:Fg1)(f:FN):R2:=fun x y H Q=>rN K f [x,y] H Q
section
variable{X:Cx}{K:Fg1}{f:FN}{a b:FE}{σ:L2.St}{H:Hp}{Q:VK}
theorem vE(h:tM K (m2 f a b) σ H Q):GU (r2 K f) (tM K a) (tM K b) σ H Q:=by
 obtain⟨r,mu,S,d,y,j,t,c,hc⟩:=h;obtain⟨⟨i,l⟩,z,c⟩:=oB1.mp c;obtain⟨⟨o,k⟩,x,c⟩:=oB1.mp c;refine⟨r,mu,S,i,l,j,t,z,fun v H1 mu1 n w s=>?_⟩;refine⟨r,mu1,l,o,k,j.ext n,s,x,fun u H2 g m r2 B=>?_⟩;exact⟨g,k,[i,o],d,y,.cons (w.ext m) (.cons r2 .nil),B,c,fun v p e q C A=>hc v p e ((n.trans m).trans q) C A⟩
theorem HR(h:tM K (m1 f a) σ H Q):Kc (fun x H Q=>rN K f [x] H Q) (tM K a) σ H Q:=by
 obtain⟨r,mu,S,d,i,m,o,c,hc⟩:=h;obtain⟨⟨e,g⟩,l,c⟩:=oB1.mp c;refine⟨r,mu,S,e,g,m,o,l,fun v H1 mu1 q p k=>?_⟩;exact⟨mu1,g,[e],d,i,.cons p .nil,k,c,fun v j b n s t=>hc v j b (q.trans n) s t⟩
theorem zv{a:FA}(h:tM K (mN f a) σ H Q):Kd K a σ H fun vs H1=>rN K f vs H1 Q:=by
 obtain⟨r,mu,S,d,i,m,o,c,hc⟩:=h;obtain⟨⟨e,g⟩,l,c⟩:=oB1.mp c;refine⟨r,mu,S,e,g,m,o,l,fun v H1 mu1 q p k=>?_⟩;exact⟨mu1,g,e,d,i,p,k,c,fun v j b n s t=>hc v j b (q.trans n) s t⟩
theorem HJ{op:Operator}{x y:Expr}{pos:Pos}(ho:gg X (binaryOp op) (r2 X.K f))(hx:ME X x a)(hy:ME X y b):ME X (.BinOp x op y pos) (m2 f a b):=d8 (Ho ho hx hy) fun _ _ _=>vE
theorem HI{op:UnaryOp}{x:Expr}{pos:Pos}(ho:GL X (unaryOp op) (fun x H Q=>rN X.K f [x] H Q))(hx:ME X x a):ME X (.UnaryOp op x pos) (m1 f a):=d8 (Hn ho hx) fun _ _ _=>HR
theorem Ft{op:CmpOp}{x y:Expr}{pos:Pos}(ho:gg X (compareOp op) (r2 X.K f))(hx:ME X x a)(hy:ME X y b)(hm:behindInMarks op y=false):ME X (.Compare x [op] [y] pos) (m2 f a b):=d8 (BO ho hx hy hm) fun _ _ _=>vE
theorem HK{x y:Expr}{pos:Pos}(ho:DG X (r2 X.K f))(hx:ME X x a)(hy:ME X y b)(hs:nr y):ME X (.Subscript x y pos) (m2 f a b):=d8 (Hq ho hx hy hs) fun _ _ _=>vE
theorem zr {x:Str}{p pos:Pos}{e:Expr}{es:List Expr}{id:String}{a:FA}(hc:ei X (.builtin id) (rN X.K f))(hg:Gl X x)(hm:X.mg x=none)(hv:bootBuiltins x=some (.builtin id))(ha:MA X (e::es) a)(hn:x≠"__name__":=by decide)(hdb:(x == ("__debug__":Str))=false:=by decide)
  (he:cM (e::es) X.env=(false,eval e X.env)::cM es X.env:=by rfl) (hpl:(backTo pos (cM es X.env)).any (·.1)=false:=by rfl):ME X (.Call (.Name x p) (e::es) [] pos) (mN f a):=
 d8 (nN hc hg hm hv ha hn hdb he hpl) fun _ _ _=>zv
theorem wY {x:Str}{p pos:Pos}{e:Expr}{es:List Expr}{T:String}{a:FA}(hc:ei X (.type T) (rN X.K f))(hg:Gl X x)(hm:X.mg x=none)(hv:bootBuiltins x=some (.type T))(ha:MA X (e::es) a)(hn:x≠"__name__":=by decide)(hdb:(x == ("__debug__":Str))=false:=by decide)
  (he:cM (e::es) X.env=(false,eval e X.env)::cM es X.env:=by rfl) (hpl:(backTo pos (cM es X.env)).any (·.1)=false:=by rfl):ME X (.Call (.Name x p) (e::es) [] pos) (mN f a):=
 d8 (kg hc hg hm hv ha hn hdb he hpl) fun _ _ _=>zv
end
def mB(m:FE):FT:=fun r S=>(m r S).bind fun p=>match p.1 with
 | .bl b=>some (b,p.2)
 |_=>none
theorem HQ{K:Fg1}{m:FE}{σ:L2.St}{H:Hp}{Q:Bool->Hp->Prop}(h:Ba K (mB m) σ H Q):tB (tM K m) σ H Q:=by
 obtain⟨r,mu,S,b,l,f,g,a,hc⟩:=h;obtain⟨⟨c,n⟩,e,a⟩:=oB1.mp a;cases c with
 |bl k=>
  cases a;refine⟨r,mu,S,_,_,f,g,e,fun v H1 mu1 j i d=>?_⟩;cases i;exact⟨_,rfl,hc H1 mu1 j d⟩
 |_=>cases a
def m4(a b:FT):FT:=fun r S=>(a r S).bind fun p=>if p.1=true then b r p.2 else some (false,p.2)
def zu(a b:FT):FT:=fun r S=>(a r S).bind fun p=>if p.1=true then some (true,p.2)else b r p.2
def mZ(a:FT):FT:=fun r S=>(a r S).bind fun p=>some (!p.1,p.2)
def iq(a b:FE):FE:=fun r S=>(a r S).bind fun p=>match p.1 with
 | .bl c=>if c=true then b r p.2 else some (.bl false,p.2)
 |_=>none
def KS(a b:FE):FE:=fun r S=>(a r S).bind fun p=>match p.1 with
 | .bl c=>if c=true then some (.bl true,p.2)else b r p.2
 |_=>none
def pr(a:FE):FE:=fun r S=>(a r S).bind fun p=>match p.1 with
 | .bl c=>some (.bl (!c),p.2)
 |_=>none
def HN(c:FT)(a b:FE):FE:=fun r S=>(c r S).bind fun p=>if p.1=true then a r p.2 else b r p.2
section
variable{X:Cx}{x y c:Expr}{rest:List Expr}{pos:Pos}{a b:FT}{f g:FE}
theorem E5{op:CmpOp}{f:FN}{a b:FE}(ho:gg X (compareOp op) (r2 X.K f))(hx:ME X x a)(hy:ME X y b)(hm:behindInMarks op y=false):MT X (.Compare x [op] [y] pos) (mB (m2 f a b)):=
 ug (Bx ho hx hy hm) fun σ H Q h=>by
  obtain⟨r,mu,S,d,c,g,i,hm,hc⟩:=HQ h;exact vE ⟨r,mu,S,d,c,g,i,hm,fun v H' mu' k j e=>hc v H' mu' k j e⟩
theorem B2(ha:MT X x a):MW X (.BoolOp .And [x] pos) a:=Bv ha
theorem E1(ha:MT X x a):MW X (.BoolOp .Or [x] pos) a:=Ei ha
theorem E2(ha:MT X x a)(hb:MW X (.BoolOp .And (y::rest) pos) b):MW X (.BoolOp .And (x::y::rest) pos) (m4 a b):=
 yG (Ej ha hb) <| by
  rintro σ H Q ⟨r,mu,S,k,i,h,m,c,hc⟩;obtain⟨⟨b1,g⟩,j,c⟩:=oB1.mp c;refine⟨r,mu,S,b1,g,h,m,j,fun H1 mu1 e f=>?_⟩;cases b1 with
  |true=>exact⟨r,mu1,g,k,i,h.ext e,f,c,fun H2 d n l=>hc H2 d (e.trans n) l⟩
  |false=>cases c;exact hc H1 mu1 e f
theorem HF(ha:MT X x a)(hb:MW X (.BoolOp .Or (y::rest) pos) b):MW X (.BoolOp .Or (x::y::rest) pos) (zu a b):=
 yG (Hg ha hb) <| by
  rintro σ H Q ⟨r,mu,S,k,i,h,m,c,hc⟩;obtain⟨⟨b1,g⟩,j,c⟩:=oB1.mp c;refine⟨r,mu,S,b1,g,h,m,j,fun H1 mu1 e f=>?_⟩;cases b1 with
  |false=>exact⟨r,mu1,g,k,i,h.ext e,f,c,fun H2 d n l=>hc H2 d (e.trans n) l⟩
  |true=>cases c;exact hc H1 mu1 e f
theorem JB(h:MW X x a):MT X x a:=PW.pt h
theorem E4(ha:MT X x a):MT X (.UnaryOp .Not x pos) (mZ a):=
 ug (Em ha) <| by
  rintro σ H Q ⟨r,mu,S,k,i,f,g,b,hc⟩;obtain⟨⟨b1,e⟩,d,b⟩:=oB1.mp b;cases b;exact⟨r,mu,S,b1,e,f,g,d,fun H1 mu1 h c=>hc H1 mu1 h c⟩
theorem Fn{op}(h:ME X x f):ME X (.BoolOp op [x] pos) f:=EE h
theorem Fu(ha:ME X x f)(hb:ME X (.BoolOp .And (y::rest) pos) g):ME X (.BoolOp .And (x::y::rest) pos) (iq f g):=
 d8 (EK ha hb) <| by
  rintro σ H Q ⟨r,mu,S,k,j,i,o,a,hc⟩;obtain⟨⟨d,h⟩,l,a⟩:=oB1.mp a;refine⟨r,mu,S,d,h,i,o,l,fun v H1 mu1 c q e=>?_⟩;cases d with
  |bl b1=>
   cases q;refine⟨b1,rfl,?_⟩;cases b1 with
   |true=>exact⟨r,mu1,h,k,j,i.ext c,e,a,fun n H2 b p r2 m=>hc n H2 b (c.trans p) r2 m⟩
   |false=>cases a;exact hc _ H1 mu1 c (.bl false) e
  |_=>cases a
theorem Fo(ha:ME X x f):ME X (.UnaryOp .Not x pos) (pr f):=
 d8 (EF ha) <| by
  rintro σ H Q ⟨r,mu,S,k,l,g,h,a,hc⟩;obtain⟨⟨b,e⟩,d,a⟩:=oB1.mp a;refine⟨r,mu,S,b,e,g,h,d,fun v H1 mu1 j i c=>?_⟩;cases b with
  |bl b1=>
   cases i;cases a;exact⟨b1,rfl,hc _ H1 mu1 j (.bl _) c⟩
  |_=>cases a
theorem HL(hc:MT X c a)(hx:ME X x f)(hy:ME X y g):ME X (.IfExp c x y pos) (HN a f g):=
 d8 (yU hc hx hy) <| by
  rintro σ H Q ⟨r,mu,S,k,n,l,q,d,hc⟩;obtain⟨⟨b1,j⟩,p,d⟩:=oB1.mp d;refine⟨r,mu,S,b1,j,l,q,p,fun H1 mu1 e o=>?_⟩;cases b1 with
  |true=>exact⟨r,mu1,j,k,n,l.ext e,o,d,fun i H2 b m r2 h=>hc i H2 b (e.trans m) r2 h⟩
  |false=>exact⟨r,mu1,j,k,n,l.ext e,o,d,fun i H2 b m r2 h=>hc i H2 b (e.trans m) r2 h⟩
end
def HP(f g:FN)(a b c:FE):FE:=fun r S=>(a r S).bind fun p=>(b r p.2).bind fun q=>(f [p.1,q.1] q.2).bind fun t=>match t.1 with
 | .bl k=>if k=true then(c r t.2).bind fun z=>g [q.1,z.1] z.2 else some (.bl false,t.2)
 |_=>none
section
variable{X:Cx}{x y z:Expr}{pos:Pos}{f g:FN}{a b c:FE}{op op':CmpOp}
theorem Fx{K:Fg1}{σ:L2.St}{H:Hp}{Q:VK}(h:tM K (HP f g a b c) σ H Q):ym (r2 K f) (r2 K g) (tM K a) (tM K b) (tM K c) σ H Q:=by
 obtain⟨r,mu,S,d,N,n,J,e,hc⟩:=h;obtain⟨⟨t,y⟩,P,e⟩:=oB1.mp e;obtain⟨⟨s,x⟩,M,e⟩:=oB1.mp e;obtain⟨⟨B,u⟩,E,e⟩:=oB1.mp e;refine⟨r,mu,S,t,y,n,J,P,fun Z H1 mu1 m L I=>?_⟩;refine⟨r,mu1,y,s,x,n.ext m,I,M,fun v2 H2 p l r2 V=>?_⟩;refine⟨p,x,[t,s],B,u,.cons (L.ext l) (.cons r2 .nil),V,E,fun Y D i j X A=>?_⟩;cases B with
 |bl k=>
  cases X;refine⟨k,rfl,?_⟩;cases k with
  |false=>cases e;exact hc _ D i ((m.trans l).trans j) (.bl false) A
  |true=>
   obtain⟨⟨z,w⟩,W,e⟩:=oB1.mp e;refine⟨r,i,u,z,w,n.ext ((m.trans l).trans j),A,W,fun v4 H4 q v O C=>?_⟩;exact⟨q,w,[s,z],d,N,.cons ((r2.ext j).ext v) (.cons O .nil),C,e,fun R U o G F T=>hc R U o ((((m.trans l).trans j).trans v).trans G) F T⟩
 |_=>cases e
theorem zq(ho:gg X (compareOp op) (r2 X.K f))(ho':gg X (compareOp op') (r2 X.K g))(hx:ME X x a)(hy:ME X y b)(hz:ME X z c)(hm:lastMarks [op,op'] [y,z]=false:=by with_unfolding_all rfl):
  ME X (.Compare x [op,op'] [y,z] pos) (HP f g a b c):=d8 (yW ho ho' hx hy hz hm) fun _ _ _=>Fx
end
mutual
def D.und(n:Nat):D->Bool
 | .tup xs=>D.unds n xs
 | .rol xs=>D.unds n xs
 | .ref k=>decide (k<n)
 | .non=>true
 | .bl _=>true
 | .int _=>true
 | .str _=>true
 | .fn _=>true
def D.unds(n:Nat):List D->Bool
 |[]=>true
 |d::ds=>D.und n d&&D.unds n ds
end
def D.sames(a b:List D):Bool:=@decide (a=b) (Classical.propDecidable _)
theorem D.sames_eq{a b:List D}(h:D.sames a b=true):a=b:=@of_decide_eq_true _ (Classical.propDecidable _) h
theorem D.sames_refl(a:List D):D.sames a a=true:=@decide_eq_true _ (Classical.propDecidable _) rfl
section
variable{K:Fg1}{H:Hp}{mu mu':List cG}
theorem eD.cut{n:Nat}(h:∀ k,k<n->mu[k]? = mu'[k]?):∀ {d:D} {v:V},eD K H mu d v->d.und n=true->eD K H mu' d v:=fun c=>c.rec (motive_1:=fun d v _=>d.und n=true->eD K H mu' d v) (motive_2:=fun ds vs _=>D.unds n ds=true->dh K H mu' ds vs)
  (fun _=>.non) (fun b _=>.bl b) (fun i _=>.int i) (fun x _=>.str x) (fun q _ ih e=>.tup q (ih (by rw[D.und]at e;exact e))) (fun q _ ih e=>.rol q (ih (by rw[D.und]at e;exact e)))
  (fun q e=>.ref (by rw[D.und]at e;rw[<- h _ (of_decide_eq_true e)];exact q)) (fun q _=>.fn q) (fun _=>.nil) (fun _ _ a b e=>by rw[D.unds,bA1]at e;exact .cons (a e.1) (b e.2))
theorem dh.cut{n:Nat}(h:∀k,k<n->mu[k]?=mu'[k]?):∀{ds:List D} {vs:List V},dh K H mu ds vs->D.unds n ds=true->dh K H mu' ds vs:=fun a=>a.ind (P:=fun ds vs _=>D.unds n ds=true->dh K H mu' ds vs) (fun _=>.nil) fun r _ b e=>by rw[D.unds,bA1]at e;exact .cons (eD.cut h r e.1) (b e.2)
end
def Ob.und(n:Nat):Ob->Bool
 | .lst xs=>D.unds n xs
 | .dct kvs=>D.unds n (kvs.map (·.2))
 | .dcT kvs=>D.unds n (kvs.map (·.2))
 | .iset _=>true
 | .dcF kvs=>D.unds n (kvs.map (·.2))
 | .tst _=>true
theorem KR.cut{κ:Type}{K:Fg1}{H:Hp}{mu mu':List cG}{n:Nat}(h:∀k,k<n->mu[k]?=mu'[k]?):∀{ks:List (κ×D)} {ws:List (κ×V)},KR K H mu ks ws->D.unds n (ks.map (·.2))=true->KR K H mu' ks ws:=by
 intro ks ws a e
 induction a with
 |nil=>exact .nil
 |cons r t ih=>
  rw[mP1,D.unds,bA1]at e;exact .cons ⟨r.1,r.2.cut h e.1⟩ (ih e.2)
mutual
theorem yd(n:Nat):∀k:TK,(o4 k).und n=true
 | .non=>rfl
 | .int _=>rfl
 | .tup xs=>by rw[o4,D.und];exact vb n xs
theorem vb(n:Nat):∀ks:List TK,D.unds n (kW ks)=true
 |[]=>rfl
 |x::xs=>by rw[kW,D.unds,yd n x,vb n xs];rfl
end
theorem KT.cut{K:Fg1}{H:Hp}{mu mu':List cG}{n:Nat}(h:∀k,k<n->mu[k]?=mu'[k]?):∀{ks:List (TK×D)} {ws:List (TK×cG×cE)},KT K H mu ks ws->D.unds n (ks.map (·.2))=true->KT K H mu' ks ws:=by
 intro ks ws a e
 induction a with
 |nil=>exact .nil
 |cons r t ih=>
  rw[mP1,D.unds,bA1]at e;obtain⟨z,d,k,v,b,r⟩:=r;exact .cons ⟨z,d,k.cut h (yd n _),v,b,r.cut h e.1⟩ (ih e.2)
theorem vw(n:Nat):∀ks:List TK,D.unds n ((ks.map fun k=>(k,D.non)).map (·.2))=true
 |[]=>rfl
 |_::ks=>by rw[mP1,mP1,D.unds,vw n ks];rfl
theorem oC.cut{K:Fg1}{H:Hp}{mu mu':List cG}{n:Nat}{a:cG}(h:∀k,k<n->mu[k]?=mu'[k]?):∀{o:Ob},oC K H mu a o->o.und n=true->oC K H mu' a o
 | .lst _,⟨vs,e,r⟩,b=>⟨vs,e,r.cut h b⟩
 | .dct _,⟨ws,e,r⟩,b=>⟨ws,e,KR.cut h r b⟩
 | .dcT _,⟨ws,e,r,l⟩,b=>⟨ws,e,KT.cut h r b,l⟩
 | .iset _,q,_=>q
 | .dcF _,⟨ws,e,r,l⟩,b=>⟨ws,e,KT.cut h r b,l⟩
 | .tst ks,⟨ws,e,r⟩,_=>⟨ws,e,KT.cut h r (vw n ks)⟩
def gc(n:Nat)(p:D×Sto):D×Sto:=if p.1.und n&&(p.2.take n).all (Ob.und n)then(p.1,p.2.take n)else p
mutual
def D.sh(n:Nat):D->D
 | .tup xs=>.tup (D.shs n xs)
 | .rol xs=>.rol (D.shs n xs)
 | .ref k=>.ref (n+k)
 | .fn x=>.fn x
 | .non=>.non
 | .bl b=>.bl b
 | .int i=>.int i
 | .str x=>.str x
def D.shs(n:Nat):List D->List D
 |[]=>[]
 |d::ds=>D.sh n d::D.shs n ds
end
def Ob.sh(n:Nat):Ob->Ob
 | .lst xs=>.lst (D.shs n xs)
 | .dct kvs=>.dct (kvs.map fun p=>(p.1,p.2.sh n))
 | .dcT kvs=>.dcT (kvs.map fun p=>(p.1,p.2.sh n))
 | .iset xs=>.iset xs
 | .dcF kvs=>.dcF (kvs.map fun p=>(p.1,p.2.sh n))
 | .tst ks=>.tst ks
theorem eD.sh{K:Fg1}{H:Hp}{mu mu':List cG}:∀ {d:D} {v:V},eD K H mu' d v->eD K H (mu++mu') (d.sh mu.length) v:=fun c=>c.rec (motive_1:=fun d v _=>eD K H (mu++mu') (d.sh mu.length) v) (motive_2:=fun ds vs _=>dh K H (mu++mu') (D.shs mu.length ds) vs)
  .non .bl .int .str (fun h _ ih=>.tup h ih) (fun h _ ih=>.rol h ih) (fun h=>.ref (by rw[gR1 (aY _ _),Nat.add_sub_cancel_left];exact h)) (fun h=>.fn h) .nil (fun _ _ a b=>.cons a b)
theorem dh.sh{K:Fg1}{H:Hp}{mu mu':List cG}:∀{ds:List D} {vs:List V},dh K H mu' ds vs->dh K H (mu++mu') (D.shs mu.length ds) vs:=fun h=>h.ind (P:=fun ds vs _=>dh K H (mu++mu') (D.shs mu.length ds) vs) .nil fun r _ ih=>.cons (eD.sh r) ih
theorem KR.sh{κ:Type}{K:Fg1}{H:Hp}{mu mu':List cG}:∀{ks:List (κ×D)} {ws:List (κ×V)},KR K H mu' ks ws->KR K H (mu++mu') (ks.map fun p=>(p.1,p.2.sh mu.length)) ws:=by
 intro ks ws h
 induction h with
 |nil=>exact .nil
 |cons r t ih=>exact .cons ⟨r.1,r.2.sh⟩ ih
mutual
theorem Da(n:Nat):∀k:TK,(o4 k).sh n=o4 k
 | .non=>rfl
 | .int _=>rfl
 | .tup xs=>by rw[o4,D.sh,yc n xs]
theorem yc(n:Nat):∀ks:List TK,D.shs n (kW ks)=kW ks
 |[]=>rfl
 |x::xs=>by rw[kW,D.shs,Da n x,yc n xs]
end
theorem KT.sh{K:Fg1}{H:Hp}{mu mu':List cG}:∀{ks:List (TK×D)} {ws:List (TK×cG×cE)},KT K H mu' ks ws->KT K H (mu++mu') (ks.map fun p=>(p.1,p.2.sh mu.length)) ws:=by
 intro ks ws h
 induction h with
 |nil=>exact .nil
 |cons r t ih=>
  obtain⟨z,d,k,v,a,r⟩:=r;exact .cons ⟨z,d,by have:=k.sh (mu:=mu);rw[Da]at this;exact this,v,a,r.sh⟩ ih
theorem oC.sh{K:Fg1}{H:Hp}{mu mu':List cG}{a:cG}:∀{o:Ob},oC K H mu' a o->oC K H (mu++mu') a (o.sh mu.length)
 | .lst _,⟨vs,e,r⟩=>⟨vs,e,r.sh⟩
 | .dct _,⟨ws,e,r⟩=>⟨ws,e,KR.sh r⟩
 | .dcT _,⟨ws,e,r,l⟩=>⟨ws,e,KT.sh r,l⟩
 | .iset _,q=>q
 | .dcF _,⟨ws,e,r,l⟩=>⟨ws,e,KT.sh r,l⟩
 | .tst ks,⟨ws,e,r⟩=>⟨ws,e,by have:=KT.sh (mu:=mu) r;rw[aZ]at this;exact this⟩
theorem eD.mor{K:Fg1}{H:Hp}{mu:List cG}(mu':List cG):∀{d:D} {v:V},eD K H mu d v->eD K H (mu++mu') d v:=fun h=>h.exv ⟨a0 _ _,fun _ _ h=>h,fun _ _ _ h=>h⟩
theorem dh.mor{K:Fg1}{H:Hp}{mu:List cG}(mu':List cG):∀{ds:List D} {vs:List V},dh K H mu ds vs->dh K H (mu++mu') ds vs:=fun h=>h.exv ⟨a0 _ _,fun _ _ h=>h,fun _ _ _ h=>h⟩
theorem KR.mor{κ:Type}{K:Fg1}{H:Hp}{mu:List cG}(mu':List cG){ks:List (κ×D)}{ws:List (κ×V)}(h:KR K H mu ks ws):KR K H (mu++mu') ks ws:=Paired.mapP h fun _ _ z=>⟨z.1,z.2.mor mu'⟩
theorem oC.mor{K:Fg1}{H:Hp}{mu:List cG}{a:cG}(mu':List cG):∀{o:Ob},oC K H mu a o->oC K H (mu++mu') a o
 | .lst _,⟨vs,e,r⟩=>⟨vs,e,r.mor mu'⟩
 | .dct _,⟨ws,e,r⟩=>⟨ws,e,KR.mor mu' r⟩
 | .dcT _,⟨ws,e,r,l⟩=>⟨ws,e,Paired.mapP r fun _ _ ⟨z,d,k,v,b,r⟩=>⟨z,d,k.mor mu',v,b,r.mor mu'⟩,l⟩
 | .iset _,q=>q
 | .dcF _,⟨ws,e,r,l⟩=>⟨ws,e,Paired.mapP r fun _ _ ⟨z,d,k,v,b,r⟩=>⟨z,d,k.mor mu',v,b,r.mor mu'⟩,l⟩
 | .tst _,⟨ws,e,r⟩=>⟨ws,e,Paired.mapP r fun _ _ ⟨z,d,k,v,b,r⟩=>⟨z,d,k.mor mu',v,b,r.mor mu'⟩⟩
def pM(f:FN):FN:=fun ds S=>if D.unds 0 ds=true then(f ds []).map fun p=>if p.1.und 0=true then(p.1,S)else(p.1.sh S.length,S++p.2.map (Ob.sh S.length))else(f ds S).map (gc S.length)
theorem oC.keep{K:Fg1}{H H':Hp}{mu:List cG}{a:cG}(e:Ext mu mu H H')(h:∀o,H a=some o->H' a=some o):∀{o:Ob},oC K H mu a o->oC K H' mu a o
 | .lst _,⟨vs,q,r⟩=>⟨vs,h _ q,r.ext e⟩
 | .dct _,⟨ws,q,r⟩=>⟨ws,h _ q,KR.ext e r⟩
 | .dcT _,⟨ws,q,r,l⟩=>⟨ws,h _ q,KT.ext e r,l⟩
 | .iset _,q=>⟨h _ q.1,q.2⟩
 | .dcF _,⟨ws,⟨o,u,c,b⟩,r,l⟩=>⟨ws,⟨o,u,h _ c,b⟩,KT.ext e r,l⟩
 | .tst _,⟨ws,q,r⟩=>⟨ws,h _ q,KT.ext e r⟩
theorem Ao{K:Fg1}{f:FN}{vs:List V}{H:Hp}{Q:VK}(h:rN K (pM f) vs H Q):rN K f vs H Q:=by
 obtain⟨mu,S,ds,d,M,C,c,g,hc⟩:=h;unfold pM at g;split at g
 ·rename_i j;obtain⟨⟨u,p⟩,w,g⟩:=oM1.mp g;refine⟨[],[],ds,u,p,C.cut (n:=0) (fun k i=>absurd i (ba _)) j,.nil,w,fun v H' mu' x r s=>?_⟩;have A:Ext mu mu H H':=⟨aV,fun a o e _=>x.old a o e (by simp),x.tup,x.frz,fun _ z=>.inl z⟩;dsimp only at g;split at g
  ·rename_i F;cases g;refine hc v H' mu A (r.cut (n:=0) (fun k i=>absurd i (ba _)) F) ⟨c.len,c.nd,fun n o a h1 h2=>?_⟩;exact(c.ob n o a h1 h2).keep A fun o e=>x.old a o e (by simp)
  ·cases g;have E:∀ a∈mu',H a=none:=fun a B=>(x.new a B).resolve_left (by simp);have L:Ext mu (mu++mu') H H':=⟨a0 _ _,fun a o e _=>x.old a o e (by simp),x.tup,x.frz,fun a z=>by
    rcases am.mp z with z|z
    ·exact .inl z
    ·exact .inr (E a z)⟩
   refine hc v H' (mu++mu') L (by rw[<- c.len];exact r.sh) ⟨by rw[lA1,lA1,lM1,c.len,s.len],?_,fun n o a h1 h2=>?_⟩
   ·refine bb.mpr ⟨c.nd,s.nd,fun a B b j z=>?_⟩;subst z;obtain⟨o,e⟩:=c.here B;rw[E a j]at e;cases e
   ·by_cases l:n<S.length
    ·rw[gL1 l]at h1;rw[gL1 (by rw[c.len];exact l)]at h2;exact((c.ob n o a h1 h2).keep A fun o e=>x.old a o e (by simp)).mor mu'
    ·have m:=Nat.le_of_not_lt l;rw[gR1 m]at h1;rw[gR1 (by rw[c.len];exact m)]at h2;rw[gP1]at h1;obtain⟨I,G,J⟩:=oM1.mp h1;subst J;have q:=s.ob (n-S.length) I a G (by rw[c.len]at h2;exact h2);rw[<- c.len];exact q.sh
 ·obtain⟨⟨u,p⟩,w,g⟩:=oM1.mp g;refine⟨mu,S,ds,u,p,C,c,w,fun v H' mu' x r s=>?_⟩;unfold gc at g;split at g
  ·rename_i j;cases g;rw [bA1] at j;have i:∀ k,k<S.length->mu'[k]? = mu[k]?:=fun k i=>by
    obtain⟨t,rfl⟩:=x.pre;rw[gL1 (by rw[c.len];exact i)]
   refine hc v H' mu x.back (r.cut i j.1) ⟨?_,c.nd,fun n o a h1 h2=>?_⟩
   ·have:=s.len;have D:=x.pre.length_le;rw[aD,<- s.len];rw[c.len]at D ⊢;exact(bc D).symm
   ·have l:n<S.length:=by rw[<- c.len];exact(gE1.mp h2).1
    have y:p[n]?=some o:=by rw[aF l]at h1;exact h1
    refine(s.ob n o a y ((i n l).trans h2)).cut i ?_;exact bd.mp j.2 o (gM1 h1)
  ·cases g;exact hc v H' mu' x r s
def AN(K:Fg1)(n:Nat)(f:FN):Sp:=fun vs H Q _=>vs.length=n/\rN K f vs H Q
section
variable{X:Cx}{k n:Nat}{f:cG}{fd:cQ}{ps:List Str}{x:Str}{p pos:Pos}{e:Expr}{es:List Expr}{m:FN}{a:FA}
def cY(n:Nat)(f:FN):FN:=fun ds S=>if ds.length=n then pM f ds S else none
theorem Cf (F:mE X.prog X.w X.K X.mg X.base t5 k f fd ps (AN X.K n m))(hr:fR k X.A)(hg:Gl X x)(hm:X.mg x=some (.ref f))(hk:wK1 X.K (.ref f)=true)(hb:lY X.K fd ps [])
  (ha:MA X (e::es) a) (hdb:(x == ("__debug__":Str))=false:=by decide) (he:cM (e::es) X.env=(false,eval e X.env)::cM es X.env:=by rfl) (hpl:(backTo pos (cM es X.env)).any (·.1)=false:=by rfl):
  ME X (.Call (.Name x p) (e::es) [] pos) (mN (cY n m) a):=
 d8 (BP (E:=E0) F hr hg hm hk hb .nil Ht ha hdb he hpl) fun σ H Q h=>by
  obtain⟨r,mu,S,ds,g,he,s,hm,hc⟩:=zv h;refine⟨r,mu,S,ds,g,he,s,hm,fun vs H' mu' u t i=>?_⟩;have q:=hc vs H' mu' u t i;show AN X.K n m (vs++[]) H' Q E0;rw[ay];obtain⟨d,j,c,w,o,h1,h2,b,v⟩:=q;unfold cY at b;split at b
  ·rename_i l;exact⟨by rw[<- h1.length];exact l,Ao ⟨d,j,c,w,o,h1,h2,b,v⟩⟩
  ·cases b
end
def k8:FS:=fun r S=>some (.nx,r,S)
def c9(a b:FS):FS:=fun r S=>(a r S).bind fun p=>match p.1 with
 | .nx=>b p.2.1 p.2.2
 |f=>some (f,p.2.1,p.2.2)
def dW(m:FE):FS:=fun r S=>(m r S).bind fun p=>some (.rt p.1,r,p.2)
def Kf:FS:=fun r S=>some (.rt .non,r,S)
def dX(m:FE):FS:=fun r S=>(m r S).bind fun p=>some (.nx,r,p.2)
def eV(c:FT)(a b:FS):FS:=fun r S=>(c r S).bind fun p=>if p.1=true then a r p.2 else b r p.2
section
variable{X:Cx}{pos:Pos}{e c:Expr}{st:cR}{rest as bs:List cR}{a b:FS}{m:FE}{t:FT}
theorem B4:xA X [] k8:=qm Bz <| by
 rintro E σ H ⟨r,mu,S,f,e,d,b,c,a,hc⟩;cases a;exact hc σ H mu (.refl _ _) b c
theorem zk(h1:MS X st a)(h2:xA X rest b):xA X (st::rest) (c9 a b):=qm (yJ h1 h2) <| by
 rintro E σ H ⟨r,mu,S,f,p,o,t,u,h,hc⟩;obtain⟨⟨m,n,l⟩,q,h⟩:=oB1.mp h;refine⟨r,mu,S,m,n,l,t,u,q,?_⟩;cases m with
 |nx=>
  intro s H1 mu1 i k j;refine⟨n,mu1,l,f,p,o,k,j,h,?_⟩;cases f with
  |nx=>exact fun e H2 c g=>hc e H2 c (i.trans g)
  |bk=>exact fun e H2 c g=>hc e H2 c (i.trans g)
  |ct=>exact fun e H2 c g=>hc e H2 c (i.trans g)
  |rt d=>exact fun v H2 c g=>hc v H2 c (i.trans g)
 |bk=>cases h;exact hc
 |ct=>cases h;exact hc
 |rt d=>cases h;exact hc
theorem B3(h1:MS X st a):xA X [st] a:=By h1
theorem B5(h:ME X e m)(hs:swapsWith e none pos.line X.env=pure false:=by rfl):MS X (.Expr e pos) (dX m):=i5 (BA h hs) <| by
 rintro E σ H ⟨r,mu,S,f,j,i,b,hs,a,hc⟩;obtain⟨⟨d,k⟩,g,a⟩:=oB1.mp a;cases a;exact⟨r,mu,S,d,_,b,hs,g,fun v H' mu' x l c=>hc σ H' mu' x (b.ext x) c⟩
theorem E7(h:ME X e m):MS X (.Return (some e) pos) (dW m):=i5 (Eo h) <| by
 rintro E σ H ⟨r,mu,S,f,j,i,c,g,a,hc⟩;obtain⟨⟨d,k⟩,b,a⟩:=oB1.mp a;cases a;exact⟨r,mu,S,d,_,c,g,b,hc⟩
theorem HG(hc:MT X c t)(ha:xA X as a)(hb:xA X bs b):MS X (.If c as bs pos) (eV t a b):=i5 (Hi hc ha hb) <| by
 rintro E σ H ⟨r,mu,S,f,o,n,p,u,i,hc⟩;obtain⟨⟨k,l⟩,s,i⟩:=oB1.mp i;refine⟨r,mu,S,k,l,p,u,s,fun H1 mu1 j q=>?_⟩;have m:∀c:FS,c r l=some (f,o,n)->vd X.K c E σ H1:=fun c i=>by
  refine⟨r,mu1,l,f,o,n,p.ext j,q,i,?_⟩;cases f with
  |nx=>exact fun g H2 e h=>hc g H2 e (j.trans h)
  |bk=>exact fun g H2 e h=>hc g H2 e (j.trans h)
  |ct=>exact fun g H2 e h=>hc g H2 e (j.trans h)
  |rt d=>exact fun v H2 e h=>hc v H2 e (j.trans h)
 cases k with
 |true=>exact m a i
 |false=>exact m b i
end
abbrev FG:=D->Ev->Sto->Option (Ev×Sto)
abbrev AM:=List D->Ev->Sto->Option (Ev×Sto)
inductive GX (K:Fg1)(g:FG)(v:V)(σ:L2.St)(H:Hp)(Q:L2.St->Hp->Prop):Prop
 |mk (r:Ev) (mu:List cG) (S:Sto) (d:D) (r':Ev) (S':Sto) (he:fh K H mu r σ) (hs:Sim K H mu S) (hr:eD K H mu d v) (hm:g d r S=some (r',S')) (hc:∀ σ' H' mu',Ext mu mu' H H'->fh K H' mu' r' σ'->Sim K H' mu' S'->Q σ' H')
inductive Ji (K:Fg1)(g:AM)(vs:List V)(σ:L2.St)(H:Hp)(Q:L2.St->Hp->Prop):Prop
 |mk (r:Ev) (mu:List cG) (S:Sto) (ds:List D) (r':Ev) (S':Sto) (he:fh K H mu r σ) (hs:Sim K H mu S) (hr:dh K H mu ds vs) (hm:g ds r S=some (r',S')) (hc:∀ σ' H' mu',Ext mu mu' H H'->fh K H' mu' r' σ'->Sim K H' mu' S'->Q σ' H')
abbrev MG(X:Cx)(e:Expr)(g:FG):Prop:=PG X e (GX X.K g)
abbrev II(X:Cx)(es:List Expr)(g:AM):Prop:=GD X es (Ji X.K g)
def gN(i:Nat):FG:=fun d r S=>some (r.set i (some d),S)
def hB:AM:=fun ds r S=>match ds with
 |[]=>some (r,S)
 |_=>none
def eu(g:FG)(gs:AM):AM:=fun ds r S=>match ds with
 |d::ds=>(g d r S).bind fun p=>gs ds p.1 p.2
 |[]=>none
def gT(n:Nat)(gs:AM):FG:=fun d r S=>match d with
 | .tup ds=>if ds.length=n then gs ds r S else none
 |_=>none
theorem fh.set{K:Fg1}{H:Hp}{mu:List cG}{r:Ev}{σ:L2.St}{i:Nat}{d:D}{v:V}(h:fh K H mu r σ)(q:eD K H mu d v):fh K H mu (r.set i (some d)) (σ.set i (some v)):=by
 refine⟨by rw[aH,aH];exact h.len,fun j c e=>?_⟩;by_cases a:i=j
 ·subst a;have b:i<r.length:=by
   have:=(gE1.mp e).1
   rwa [aH]at this
  rw[ap b]at e;cases e;exact⟨v,ap (by rw[<- h.len];exact b),q⟩
 ·rw[gS1 a]at e;obtain⟨g,f,k⟩:=h.val j c e;exact⟨g,by rw[gS1 a];exact f,k⟩
section
variable{X:Cx}{pos:Pos}
theorem uj{e:Expr}{t t':TG}(h:PG X e t)(i:∀v σ H Q,t' v σ H Q->t v σ H Q):PG X e t':=fun pins s σ H v u Q I r q=>h pins s σ H v u Q I r (i v σ H Q q)
theorem vm{e:List Expr}{t t':DF}(h:GD X e t)(i:∀v σ H Q,t' v σ H Q->t v σ H Q):GD X e t':=fun pins s σ H v u Q I r q=>h pins s σ H v u Q I r (i v σ H Q q)
theorem Cc(i:Nat){x:Str}(hN:X.N.Nodup)(hi:X.N[i]?=some x)(hx:xG X.env.scope x)(hf:X.fn x=true\/X.env.scope.names.lookup x=some .local:=by first|exact .inl rfl|exact .inr rfl|assumption):MG X (.Name x pos) (gN i):=
 uj (vn hN hi hx hf) <| by
  rintro v σ H Q ⟨r,mu,S,d,g,f,c,e,b,a,hc⟩;cases a;exact hc _ H mu (.refl _ _) (c.set b) e
theorem Cb:II X [] hB:=vm BL <| by
 rintro vs σ H Q ⟨r,mu,S,ds,f,e,c,d,b,a,hc⟩;unfold hB at a;split at a
 ·cases a;cases b;exact⟨rfl,hc σ H mu (.refl _ _) c d⟩
 ·cases a
theorem zn{e:Expr}{es:List Expr}{g:FG}{f:AM}(h1:MG X e g)(h2:II X es f)(hs:(assignEach (e::es) X.env).map (·.2)=assign e X.env::(assignEach es X.env).map (·.2):=by rfl):II X (e::es) (eu g f):=
 vm (yS h1 h2 hs) <| by
  rintro vs σ H Q ⟨r,mu,S,ds,l,k,s,hs,o,a,hc⟩;unfold eu at a;split at a
  ·obtain⟨⟨i,h⟩,n,a⟩:=oB1.mp a;cases o with
   |cons q t=>
    exact⟨_,_,rfl,r,mu,S,_,i,h,s,hs,q,n,fun p H1 mu1 j c m=>⟨i,mu1,h,_,l,k,c,m,t.ext j,a,fun d H2 b u=>hc d H2 b (j.trans u)⟩⟩
  ·cases a
theorem Ff{es:List Expr}{k:Nat}{b:AM}{n:Nat}(hc:X.calm=true)(h:II X es b)(hn:(assignEach es X.env).length=n:=by rfl)(hst:(assignEach es X.env).findIdx? (·.1)=none:=by rfl):MG X (.Tuple es k pos) (gT n b):=
 uj (Ey hc h hn hst) <| by
  rintro v σ H Q ⟨r,mu,S,d,e,c,i,j,f,a,hc⟩;cases d with
  |tup ds=>
   rw[gT]at a;split at a
   ·rename_i g;cases f with
    |tup q t=>exact⟨_,_,rfl,q,by rw[<- t.length];exact g,r,mu,S,ds,e,c,i,j,t,a,hc⟩
   ·cases a
  |_=>cases a
inductive rU (K:Fg1)(f:FN)(o i v:V)(H:Hp)(Q:Hp->Prop):Prop
 |mk (mu:List cG) (S:Sto) (ds:List D) (d:D) (S':Sto) (hr:dh K H mu ds [o,i,v]) (hs:Sim K H mu S) (hm:f ds S=some (d,S')) (hc:∀H' mu',Ext mu mu' H H'->Sim K H' mu' S'->Q H')
def gS(f:FN)(a b:FE):FG:=fun d r S=>(a r S).bind fun p=>(b r p.2).bind fun q=>(f [p.1,q.1,d] q.2).bind fun t=>some (r,t.2)
theorem Fg{o i:Expr}{a b:FE}{f:FN}(ho:ME X o a)(hi:ME X i b)(hs:uW X (rU X.K f))(ha:∀v,assign (.Subscript o i pos) X.env v=(do
   let ov<-holding [v] (eval o X.env)
   let iv<-holding [v,ov] (eval i X.env)
   standAt pos
   holding [v,ov,iv] (setItem ov iv v)
   release [v,ov,iv] []):=by intro _;rfl):MG X (.Subscript o i pos) (gS f a b):=
 uj (Ez ho hi hs ha) <| by
  rintro v σ H Q ⟨r,mu,S,d,D,G,h,hs,u,c,hc⟩;obtain⟨⟨l,p⟩,z,c⟩:=oB1.mp c;obtain⟨⟨q,n⟩,y,c⟩:=oB1.mp c;obtain⟨⟨C,E⟩,t,c⟩:=oB1.mp c;cases c;refine⟨r,mu,S,l,p,h,hs,z,fun F H1 mu1 g x w=>?_⟩;refine⟨r,mu1,p,q,n,h.ext g,w,y,fun I H2 k e r2 B=>?_⟩;exact⟨k,n,[l,q,d],C,_,.cons (x.ext e) (.cons r2 (.cons ((u.ext g).ext e) .nil)),B,t,fun s j m A=>hc σ s j ((g.trans e).trans m) (((h.ext g).ext e).ext m) A⟩
def dk(m:FE)(g:FG):FS:=fun r S=>(m r S).bind fun p=>(g p.1 r p.2).bind fun q=>some (.nx,q.1,q.2)
theorem qM{K:Fg1}{m:FE}{g:FG}{E:j7}{σ:L2.St}{H:Hp}(h:vd K (dk m g) E σ H):yn (tM K m) (GX K g) E σ H:=by
 obtain⟨r,mu,S,f,t,s,i,o,a,hc⟩:=h;obtain⟨⟨d,e⟩,n,a⟩:=oB1.mp a;obtain⟨⟨r2,u⟩,k,a⟩:=oB1.mp a;cases a;refine⟨r,mu,S,d,e,i,o,n,fun v H1 mu1 j q l=>?_⟩;exact⟨r,mu1,e,d,_,_,i.ext j,l,q,k,fun c H2 b p=>hc c H2 b (j.trans p)⟩
theorem E9{tg e:Expr}{m:FE}{g:FG}(he:ME X e m)(hg:MG X tg g)(hs:swapsWithSole [tg] e pos.line X.env=pure false:=by rfl)(hw:swappedStores [tg] e X.env=pure none:=by rfl)(h1:(assignEach [tg] X.env).map (·.2)=[assign tg X.env]:=by rfl):MS X (.Assign [tg] e pos) (dk m g):=i5 (Et he hg hs hw h1) fun _ _ _=>qM
theorem E6(i:Nat){x:Str}{e:Expr}{m:FE}{pos':Pos}(hN:X.N.Nodup)(hi:X.N[i]? = some x)(hx:xG X.env.scope x)(he:ME X e m)(hs:swapsWith e (some (.Name x pos')) pos.line X.env=pure false:=by rfl)(hf:X.fn x=true\/X.env.scope.names.lookup x=some .local:=by first | exact .inl rfl | exact .inr rfl | assumption):
  MS X (.Assign [.Name x pos'] e pos) (dk m (gN i)):=i5 (En hN hi hx he hs hf) fun E σ H h=>by
 obtain⟨r,mu,S,d,f,h1,h2,c,q⟩:=qM h;refine⟨r,mu,S,d,f,h1,h2,c,fun v H' mu' j o g=>?_⟩;obtain⟨r2,a,s,w,u,t,p,n,l,b,k⟩:=q v H' mu' j o g;cases b;exact k _ H' a (.refl _ _) (p.set l) n
def KU(i:Nat)(f:FN)(m:FE):FS:=fun r S=>match r[i]? with
 |some (some d)=>(m r S).bind fun p=>(f [d,p.1] p.2).bind fun q=>some (.nx,r.set i (some q.1),q.2)
 |_=>none
end
def tY(c:FT)(b:FS):Nat->FS
 |0=>fun _ _=>none
 | n+1=>fun r S=>(c r S).bind fun p=>if p.1=true then (b r p.2).bind fun q=>match q.1 with
   | .nx=>tY c b n q.2.1 q.2.2
   | .ct=>tY c b n q.2.1 q.2.2
   | .bk=>some (.nx,q.2.1,q.2.2)
   | .rt d=>some (.rt d,q.2.1,q.2.2)
  else some (.nx,r,p.2)
theorem DN{K:Fg1}{c:FT}{b:FS}{n:Nat}{E:j7}{σ:L2.St}{H:Hp}(h:vd K (tY c b n) E σ H):yj (Ba K c) (vd K b) E σ H:=by
 refine⟨fun m a H'=>vd K (tY c b m) E a H',⟨n,h⟩,fun m t H1 q=>?_⟩;obtain⟨r,mu,S,f,w,B,u,G,i,hc⟩:=q;cases m with
 |zero=>cases i
 |succ m=>
  obtain⟨⟨k,z⟩,I,i⟩:=oB1.mp i;refine⟨r,mu,S,k,z,u,G,I,fun H2 e o C=>?_⟩;cases k with
  |false=>
   cases i;exact hc t H2 e o (u.ext o) C
  |true=>
   obtain⟨⟨D,p,s⟩,F,i⟩:=oB1.mp i;have A:∀{a H' mu'},Ext e mu' H2 H'->fh K H' mu' p a->Sim K H' mu' s->tY c b m p s=some (f,w,B)->vd K (tY c b m) E a H':=fun{a H' mu'} x g l i=>by
    refine⟨p,mu',s,f,w,B,g,l,i,?_⟩;cases f with
    |nx=>exact fun j H2 e y=>hc j H2 e ((o.trans x).trans y)
    |bk=>exact fun j H2 e y=>hc j H2 e ((o.trans x).trans y)
    |ct=>exact fun j H2 e y=>hc j H2 e ((o.trans x).trans y)
    |rt d=>exact fun v H2 e y=>hc v H2 e ((o.trans x).trans y)
   refine⟨fun a H'=>vd K (tY c b m) E a H',fun a H' q=>⟨m,bf _,q⟩,r,e,z,D,p,s,u.ext o,C,F,?_⟩;cases D with
   |nx=>exact fun a H' mu' x g l=>A x g l i
   |ct=>exact fun a H' mu' x g l=>A x g l i
   |bk=>cases i;exact fun a H' mu' x g l=>hc a H' mu' (o.trans x) g l
   |rt d=>cases i;exact fun v H' mu' x p l=>hc v H' mu' (o.trans x) p l
theorem zl{X:Cx}{pos:Pos}(n:Nat){c:Expr}{a:List cR}{t:FT}{b:FS}(hp:PassesOwn (model X.prog X.w) X.A X.env X.xe)(hc:MT X c t)(hb:xA X a b):MS X (.While c a [] pos) (tY t b n):=
 i5 (yK hp hc hb) fun _ _ _=>DN
structure wx where
 items:List D
 chk:List (Nat×List D)
def oS(S:Sto):List (Nat×List D)->Bool
 |[]=>true
 | (n,xs)::c=>(match S[n]? with
   |some (.lst ys)=>D.sames ys xs
   |_=>false)&&oS S c
def J7(K:Fg1)(j:It)(J:wx)(mu:List cG)(H:Hp):Prop:=∀i H1 mu1 S1,rT mu mu1 H H1->Sim K H1 mu1 S1->oS S1 J.chk=true ->
 (∀d,J.items[i]?=some d->j.go i H1 /\ ∀x H2,j.yld i H1 x H2->Ext mu1 mu1 H1 H2/\Sim K H2 mu1 S1/\eD K H2 mu1 d x)/\(J.items.length<=i->j.stop i H1)
abbrev FI:=Ev->Sto->Option (wx×Sto)
inductive Jh (K:Fg1)(m:FI)(σ:L2.St)(H:Hp)(R:It->Hp->Prop):Prop
 |mk (r:Ev) (mu:List cG) (S:Sto) (J:wx) (S':Sto) (he:fh K H mu r σ) (hs:Sim K H mu S) (hm:m r S=some (J,S')) (hc:∀j H' mu',Ext mu mu' H H'->J7 K j J mu' H'->Sim K H' mu' S'->R j H')
abbrev MI(X:Cx)(tg iter:Expr)(m:FI):Prop:=PI X tg iter (Jh X.K m)
theorem nM{X:Cx}{tg e:Expr}{t t':TI}(h:PI X tg e t)(i:∀ σ H R,t' σ H R->t σ H R):PI X tg e t':=fun pins s σ H R I q=>h pins s σ H R I (i σ H R q)
theorem Hm{X:Cx}{tg e:Expr}{t t':TI}(h:PI X tg e t)(h':PI X tg e t'):PI X tg e (fun σ H R=>t σ H R\/t' σ H R):=fun pins s σ H R I q=>q.elim (h pins s σ H R I) (h' pins s σ H R I)
def ji(c:List (Nat×List D))(g:FG)(b:FS):List D->FS
 |[]=>fun r S=>if oS S c=true then some (.nx,r,S)else none
 | d::ds=>fun r S=>if oS S c=true then (g d r S).bind fun p=>(b p.1 p.2).bind fun q=>match q.1 with
   | .nx=>ji c g b ds q.2.1 q.2.2
   | .ct=>ji c g b ds q.2.1 q.2.2
   | .bk=>some (.nx,q.2.1,q.2.2)
   | .rt v=>some (.rt v,q.2.1,q.2.2)
  else none
def ee(m:FI)(g:FG)(b:FS):FS:=fun r S=>(m r S).bind fun p=>ji p.1.chk g b p.1.items r p.2
theorem mL{α:Type}{l:List α}{i:Nat}{d:α}{ds:List α}(h:l.drop i=d::ds):l[i]?=some d/\l.drop (i+1)=ds:=by
 have h1:l[i]?=some d:=by
  have:=congrArg (·[0]?) h;simpa using this
 refine⟨h1,?_⟩;rw[<- List.drop_drop,h];rfl
inductive J0 (K:Fg1)(mu1:List cG)(H1:Hp)(c:List (Nat×List D))(g:FG)(b:FS)(f:Fl)(r':Ev)(S':Sto)(L:List D)(σ':L2.St)(H':Hp):Prop
 |mk (r2:Ev) (mu2:List cG) (S2:Sto):Ext mu1 mu2 H1 H'->fh K H' mu2 r2 σ'->Sim K H' mu2 S2->ji c g b L r2 S2=some (f,r',S')->J0 K mu1 H1 c g b f r' S' L σ' H'
theorem Ck{K:Fg1}{m:FI}{g:FG}{b:FS}{E:j7}{σ:L2.St}{H:Hp}(h:vd K (ee m g b) E σ H):GY (Jh K m) (GX K g) (vd K b) E σ H:=by
 obtain⟨r,mu,S,f,N,R,P,hs,B,hc⟩:=h;obtain⟨⟨J,Q⟩,e1,B⟩:=oB1.mp B;refine⟨r,mu,S,J,Q,P,hs,e1,fun j H1 mu1 A V s1=>?_⟩;refine⟨fun i k u H'=>k=(J.items.drop i).length/\J0 K mu1 H1 J.chk g b f N R (J.items.drop i) u H',⟨_,rfl,r,mu1,Q,.refl _ _,P.ext A,s1,B⟩,?_⟩;rintro i k D H2 ⟨rfl,r2,l,S2,q,t,G,a⟩;cases hl:J.items.drop i with
 |nil=>
  left;rw[hl]at a;rw[ji]at a;dsimp only at a;split at a
  ·rename_i ok;cases a;refine⟨(V i H2 l _ q.w G ok).2 (List.drop_eq_nil_iff.mp hl),?_⟩;exact hc D H2 l (A.trans q) t G
  ·cases a
 |cons d ds=>
  right;rw[hl]at a;obtain⟨hi,M⟩:=mL hl;rw[ji]at a;dsimp only at a;split at a
  ·rename_i ok;obtain⟨⟨U,O⟩,Y,a⟩:=oB1.mp a;obtain⟨⟨T,F,C⟩,e4,a⟩:=oB1.mp a;obtain⟨go,yl⟩:=(V i H2 l _ q.w G ok).1 d hi;refine⟨go,J0 K mu1 H1 J.chk g b f N R ds,?_,fun x X y=>?_⟩
   ·intro u H' h5;exact⟨ds.length,bf _,(congrArg List.length M).symm,M.symm ▸ h5⟩
   ·obtain⟨s,s3,q3⟩:=yl x X y;refine⟨r2,l,S2,d,U,O,t.ext s,s3,q3,Y,fun σ4 H4 L z I W=>?_⟩;refine⟨U,L,O,T,F,C,I,W,e4,?_⟩;cases T with
    |nx=>exact fun o w c n e p=>⟨F,c,C,(q.trans s).trans (z.trans n),e,p,a⟩
    |ct=>exact fun o w c n e p=>⟨F,c,C,(q.trans s).trans (z.trans n),e,p,a⟩
    |bk=>cases a;exact fun o w c n e p=>hc o w c ((A.trans q).trans (s.trans (z.trans n))) e p
    |rt v=>cases a;exact fun v5 w c n Z p=>hc v5 w c ((A.trans q).trans (s.trans (z.trans n))) Z p
  ·cases a
theorem E8{X:Cx}{pos:Pos}{tg iter:Expr}{a:List cR}{m:FI}{g:FG}{b:FS}(hp:PassesOwn (model X.prog X.w) X.A X.env X.xe)(hc:X.calm=true)(hi:MI X tg iter m)(hg:MG X tg g)(hb:xA X a b)(hs:∀x,foldedSetIterable iter X.env x=pure x:=by intro _;rfl):MS X (.For tg iter a [] pos) (ee m g b):=i5 (Es hp hc hi hg hb hs) fun _ _ _=>Ck
def gE(n:Nat)(ds:List D):Ev:=ds.map some++aB (n-ds.length) none
def im(n:Nat)(b:FS):FN:=fun ds S=>(b (gE n ds) S).bind fun p=>match p.1 with
 | .rt d=>some (d,p.2.2)
 | .nx=>some (.non,p.2.2)
 |_=>none
theorem wH{K:Fg1}{H:Hp}{mu:List cG}{ds:List D}{vs:List V}(N:List Str)(h:dh K H mu ds vs):fh K H mu (gE N.length ds) (L2.js N vs):=by
 refine⟨?_,fun i d e=>?_⟩
 ·unfold gE L2.js;rw[lA1,lA1,lM1,lM1,lR1,lR1,h.length]
 ·unfold gE at e;unfold L2.js;by_cases hi:i<ds.length
  ·rw[gL1 (by rw[lM1];exact hi),gP1]at e;obtain⟨f,c,a⟩:=oM1.mp e;cases a;obtain⟨v,b,r⟩:=h.get c;refine⟨v,?_,r⟩;rw[gL1 (by rw[lM1,<- h.length];exact hi),gP1,b];rfl
  ·rw[gR1 (by rw[lM1];lia)]at e;have:=gM1 e;rw[bg]at this;cases this.2
theorem Ii{P:cH}{w:cJ}{K:Fg1}{mg:Str->Option cE}{base:cP}{x c:Str}{st:cR}{f:cG}{fd:cQ}{N ps:List Str}{k:Nat}{b:FS}(F:xH K x c st f fd)(S:dg N ps (c0 st))(i:∀(e:cE) (A:cI) (a:List Env) (s:cF) (H:Hp) (E:XK),fR k (A.deeper (envOfC c (c0 st) s.heap.objs.size f e)) ->
   xA (om t5 P w K mg base N c (c0 st) f e A a s H E).nox (fA st) b):mE P w K mg base t5 (k+1) f fd ps (AN K ps.length (im N.length b)):=by
 refine xH.ok F S (fun vs H Q E h=>h.1) fun e A a s H vs Q E p j=>⟨_,i e A a s H E p,?_⟩;obtain⟨_,mu,St,ds,d,t,h1,h2,g,m⟩:=j;unfold im at g;obtain⟨⟨l,n,q⟩,o,g⟩:=oB1.mp g;refine⟨_,mu,St,l,n,q,wH N h1,h2,o,?_⟩;cases l with
 |nx=>cases g;exact fun r H' mu' x u s=>m .non H' mu' x .non s
 |rt d=>cases g;exact m
 |bk=>cases g
 |ct=>cases g
def lO(cells:List (Str×cG)):List (Str×NameKind)->List (Str×cG)->Option (List (Str×cG))
 |[],acc=>some acc
 |(n,k)::r,acc=>if k == .free then(cells.lookup n).bind fun c=>lO cells r ((n,c)::acc)else lO cells r acc
theorem uK{env:Env}(f:Str×NameKind->List (Str×cG)->Sem (ForInStep (List (Str×cG))))(hf:∀n k g,f (n,k) g=if k == .free then(do let c<-cellOf env n;pure (.yield ((n,c)::g)))else pure (.yield g)):
  ∀(a:List (Str×NameKind)) (acc b:List (Str×cG)),lO env.cells a acc=some b->forIn a acc f=(pure b:Sem (List (Str×cG)))
 |[],acc,b,h=>by cases h;rfl
 |(n,k)::r,acc,b,h=>by
  rw[bh,hf];unfold lO at h;split at h
  ·rename_i d;rw[if_pos d];obtain⟨c,e,h⟩:=oB1.mp h;have:cellOf env n=pure c:=by unfold cellOf;rw[e]
   rw[this,pure_bind,pure_bind];exact uK f hf r _ b h
  ·rename_i d;rw[if_neg d,pure_bind];exact uK f hf r _ b h
theorem Am{scope:cS}{env:Env}{cl:List (Str×cG)}(h:lO env.cells scope.names []=some cl):closureFor scope env=pure cl:=by
 simp only[closureFor];rw[uK (env:=env) _ (fun n k a=>by cases hk:k == NameKind.free<;>simp[hk]) scope.names [] cl h];rfl
theorem uJ{a:List (Str×cG)}:∀{b:List (Str×NameKind)} {acc d:List (Str×cG)},lO a b acc=some d->(∀x c,acc.lookup x=some c->a.lookup x=some c) -> ∀x c,d.lookup x=some c->a.lookup x=some c
 |[],acc,d,h,ha=>by cases h;exact ha
 |(n,k)::r,acc,d,h,ha=>by
  unfold lO at h;split at h
  ·obtain⟨c,e,h⟩:=oB1.mp h;refine uJ h fun x g q=>?_;rw[bi]at q;split at q
   ·rename_i f;cases q;rw[beq_iff_eq.mp f];exact e
   ·exact ha x g q
  ·exact uJ h ha
theorem nj{b:List (Str×cG)}{x:Str}:∀{a:List (Str×NameKind)} {acc d:List (Str×cG)},lO b a acc=some d->(a.lookup x=some .free\/(acc.lookup x).isSome=true)->(d.lookup x).isSome=true
 |[],acc,d,h,ha=>by
  cases h;rcases ha with q|q
  ·cases q
  ·exact q
 |(n,k)::r,acc,d,h,ha=>by
  unfold lO at h;split at h
  ·obtain⟨c,e,h⟩:=oB1.mp h;refine nj h ?_;rcases ha with q|q
   ·rw[bi]at q;split at q
    ·rename_i f;right;rw[bi,f];rfl
    ·exact .inl q
   ·right;rw[bi];split
    ·rfl
    ·exact q
  ·rename_i g;refine nj h ?_;rcases ha with q|q
   ·rw[bi]at q;split at q
    ·cases q;exact absurd rfl g
    ·exact .inl q
   ·exact .inr q
theorem gv{x:Str}{c:cG}:∀{a:List (Str×NameKind)} {n:Nat} {acc:List (Str×cG)},(cellsFrom n a acc).lookup x=some c->(n<=c/\(x,c)∈cellsFrom n a [])\/acc.lookup x=some c
 |[],_,_,h=>.inr h
 |(y,k)::r,n,acc,h=>by
  unfold cellsFrom at h ⊢;split at h
  ·rename_i b;rw [if_pos b];have app:∀ (a:List (Str×NameKind)) (m:Nat) (acc:List (Str×cG)),cellsFrom m a acc=cellsFrom m a []++acc:=by
    intro a
    induction a with
    |nil=>intro m acc;rfl
    |cons p r ih=>
     obtain⟨z,q⟩:=p;intro m acc;unfold cellsFrom;split
     ·rw[ih _ ((z,m)::acc),ih _ [(z,m)],bj];rfl
     ·exact ih m acc
   rcases gv h with⟨h1,h2⟩|h1
   ·refine .inl ⟨by lia,?_⟩;rw[app];exact ao _ h2
   ·rw[bi]at h1;split at h1
    ·rename_i d;cases h1;refine .inl ⟨nR1 _,?_⟩;rw[app,beq_iff_eq.mp d];exact mA1 _ mS1
    ·exact .inr h1
  ·rename_i b;rw[if_neg b];exact gv h
theorem oW{x:Str}{c:cG}{n:Nat}{acc:List (Str×cG)}{a:List (Str×NameKind)}(hx:a.lookup x=some .cell)(h:(cellsFrom n a acc).lookup x=some c):n<=c:=by
 have app:∀(a:List (Str×NameKind)) (m:Nat) (acc:List (Str×cG)),cellsFrom m a acc=cellsFrom m a []++acc:=by
  intro a
  induction a with
  |nil=>intro m acc;rfl
  |cons p r ih=>
   obtain⟨z,q⟩:=p;intro m acc;unfold cellsFrom;split
   ·rw[ih _ ((z,m)::acc),ih _ [(z,m)],bj];rfl
   ·exact ih m acc
 rw[app,List.lookup_append]at h;have q:=PySem.W.cellsFrom_some a n [] (.inl hx);obtain⟨b,e⟩:=aC.mp q;rw[e]at h;cases h;rcases gv e with⟨h1,_⟩|h1
 ·exact h1
 ·cases h1
theorem kI {M:Model}{A:cI}{E:cE->cF->Prop}{s:cF}{scope:cS}{globals:cG}{c:List (Str×cG)}{qual:Str}{func:Option cG}{code:cE}{env:Env}{b:cG}{Q:Env->cF->Prop}
  (d:Q {scope,locals:=s.heap.objs.size,globals,cells:=cellsFrom (s.heap.objs.size+1) scope.names c,qual,func,code:=env.code,frame:=env.frame,builtins:=env.builtins}
   {s with heap:=pushCells (s.heap.push {cls:=.type "dict",data:=.dict #[]}) scope.names}):
  cO M A (newFunctionEnv scope globals c [] qual func code (some env) b) Q E s:=by
 simp only[newFunctionEnv,Option.isSome_some,if_true];refine wB1 (wpAny_alloc ?_);refine wB1 (wpAny_layCells _ (fun name a cells=>by cases hkc:a == NameKind.cell<;>simp[hkc]) _ _ _ _ ?_);rw[show({s with heap:=s.heap.push {cls:=.type "dict",data:=.dict #[]}}:cF).heap.objs.size=s.heap.objs.size+1 from hZ1 ..];refine wB1 ?_;rw[List.forIn_nil];exact wP1 (wP1 d)
def cxC(X:Cx)(scope:cS)(cl:List (Str×cG))(T:List Str)(keep:List Nat)(s:cF)(H:Hp)(fp:List cG):Cx where
 prog:=X.prog
 w:=X.w
 K:=X.K
 mg:=X.mg
 base:=X.base
 A:=X.A
 N:=T++keep.map fun i=>X.N.getD i (Str.ofString "")
 s₀:=s
 H₀:=H
 env:=compEnvC scope (cellsFrom (s.heap.objs.size+1) scope.names cl) s.heap.objs.size X.env
 outer:=X.stack
 stack:=X.stack
 ex:=fp
 fn:=fun x=>scope.names.lookup x == some .cell
 calm:=X.calm
 pn:=[]
 xe:=fun _ _=>False
def rd(k:Nat)(keep:List Nat)(σ:L2.St):L2.St:=aB k none++keep.map fun i=>(σ[i]?).join
theorem jS{env:Env}{x:Str}:∀ {a:List (Str×NameKind)},
  (a.map fun(n,k)=>if(k == NameKind.free&&env.scope.kind == .function&&env.kindOf n == some .cell)then(n,NameKind.cell)else(n,k)).lookup x =
   (a.lookup x).map fun k=>if(k == NameKind.free&&env.scope.kind == .function&&env.kindOf x == some .cell)then NameKind.cell else k
 |[]=>rfl
 |(n,k)::r=>by
  show List.lookup x ((if(k == NameKind.free&&env.scope.kind == .function&&env.kindOf n == some .cell)=true then(n,NameKind.cell)else(n,k))::_)=_;cases hx:x == n with
  |true=>
   have e:=beq_iff_eq.mp hx;subst e;by_cases hc:(k == NameKind.free&&env.scope.kind == .function&&env.kindOf x == some .cell)=true
   ·rw[if_pos hc,bi,hx,bi,hx];simp only[oP1,if_pos hc]
   ·rw[if_neg hc,bi,hx,bi,hx];simp only[oP1,if_neg hc]
  |false=>
   have ih:=@jS env x r;by_cases hc:(k == NameKind.free&&env.scope.kind == .function&&env.kindOf n == some .cell)=true
   ·rw[if_pos hc,bi,hx,bi,hx];exact ih
   ·rw[if_neg hc,bi,hx,bi,hx];exact ih
structure IL (X:Cx)(scope:cS)(T:List Str)(keep:List Nat):Prop where
 kind:scope.kind = .function
 names:∀x∈scope.names,x.2 = .local->scope.names.lookup x.1=some .local
 free:∀i∈keep,∃x,X.N[i]?=some x/\scope.names.lookup x=some .free/\(X.env.kindOf x=some .cell\/X.env.kindOf x=some .free)/\(x,NameKind.cell)∉scope.names
theorem sY{X:Cx}{pins:List (cG×Obj)}{σ:L2.St}{H:Hp}{s:cF}{scope:cS}{A:List (Str×cG)}{T:List Str}{keep:List Nat}{F:List cG}(I:Inv X pins σ H s)(C:IL X scope T keep)(B:lO X.env.cells scope.names []=some A)(hf:∀b∈F,kC X pins H b)(J:∀b∈F,∃o,s.heap.get? b=some o):
  Inv (cxC X scope A T keep s H F) [] (rd T.length keep σ) H {s with heap:=pushCells (s.heap.push {cls:=.type "dict",data:=.dict #[]}) scope.names}:=by
 have kept:∀b o,s.heap.get? b=some o->(pushCells (s.heap.push {cls:=.type "dict",data:=.dict #[]}) scope.names).get? b=some o:=fun b o e=>pushCells_keeps _ _ b o (hP1 _ e);have D:=cellsFrom_ok scope.names (s.heap.push {cls:=.type "dict",data:=.dict #[]}) (s.heap.objs.size+1) [] ⟨fun _ _ V=>(nomatch V),List.Pairwise.nil⟩ (by rw[hZ1];exact nR1 _);rw[hZ1]at D;have K:=uJ B (fun x c q=>by cases q)
 -- a cell of the block: its own or an elder one
 have d:∀x c,(cellsFrom (s.heap.objs.size+1) scope.names A).lookup x=some c->(s.heap.objs.size+1<=c/\(x,c)∈cellsFrom (s.heap.objs.size+1) scope.names [])\/X.env.cells.lookup x=some c:=fun x c h=>by
  rcases gv h with h1|h1
  ·exact .inl h1
  ·exact .inr (K x c h1)
 have l:∀x c,X.env.cells.lookup x=some c->c<s.heap.objs.size:=fun x c e=>by
  obtain⟨v,z⟩:=I.cell x c e;exact z.lt
 have w:∀b∈F,b<s.heap.objs.size:=fun b t=>by
  obtain⟨o,e⟩:=J b t;exact hL1 e
 have fst:∀b∈F,b∉frs X.stack:=fun b t z=>by
  rcases ak.mp (I.stkSub b z)with q|q
  ·exact(hf b t).2.1 q
  ·exact(hf b t).2.2.1 q
 have kindOf:∀x,(cxC X scope A T keep s H F).env.kindOf x=(scope.names.lookup x).map fun k=>if(k == NameKind.free&&X.env.scope.kind == .function&&X.env.kindOf x == some .cell)then NameKind.cell else k:=fun x=>jS
 refine⟨⟨I.ok.mod,C.kind,I.ok.glob,I.ok.blt,nR1 _,fun x y c h1 h2=>?_,fun x G=>?_,fun x c h1 h2=>?_,I.ok.hd,I.ok.frames,.inl rfl,fun b t=>⟨nN1 (w b t),fun x c h z=>?_⟩,fun b o e=>I.bs b o e,ai I.ok.bsz I.sz,fun b o e t=>?_,fst,I.stack,I.stkFree⟩,
  rfl,I.bare,Un.kept kept,⟨fun _=>none,(Heap.Ns.new s.heap (.type "dict")).keeps (pushCells_keeps _ _),fun i x v h1 h2 h3=>?_⟩,fun x c h=>?_,I.hok.fresh (nR1 _),fun x c h=>?_,fun p hp=>absurd (show p∈([]:List (cG×Obj))from hp) (by simp),I.hok.kept kept,?_⟩
 ·rcases d x c h1 with⟨f,E⟩|f<;>rcases d y c h2 with⟨b1,b2⟩|b1
  ·exact name_of_addr D.apart E b2
  ·exact absurd (bm (bn f) (l y c b1)) (af _)
  ·exact absurd (bm (bn b1) (l x c f)) (af _)
  ·exact I.ok.inj x y c f b1
 ·have O:scope.names.lookup x=some .cell\/scope.names.lookup x=some .free:=by
   rw[kindOf x]at G;cases e:scope.names.lookup x with
   |none=>rw[e]at G;rcases G with z|z<;>cases z
   |some k=>
    rw[e]at G;simp only[oP1]at G;cases k<;>simp_all
  have:((cellsFrom (s.heap.objs.size+1) scope.names A).lookup x).isSome=true:=by
   rcases O with z|z
   ·exact PySem.W.cellsFrom_some _ _ _ (.inl z)
   ·exact PySem.W.cellsFrom_some _ _ _ (.inr (nj B (.inl z)))
  exact aC.mp this
 ·have g:scope.names.lookup x=some .cell:=by simpa[cxC]using h1
  have:=oW g h2;exact ai (aI _) this
 ·subst z;rcases d x c h with⟨f,_⟩|f
  ·exact absurd (bm (bn f) (w c t)) (af _)
  ·exact(hf c t).2.2.2.2.1 x c f rfl
 ·rcases(hf b t).2.2.2.1 with z|z
  ·exact I.ok.noex b o e z
  ·exact absurd (nL1 (hL1 e) (ai I.ok.bsz z)) (af _)
 ·-- a name of the block that has a value:one of the outer text's
  have hi:T.length<=i:=by
   refine Nat.le_of_not_lt fun hi=>?_;unfold rd at h2;rw[gL1 (by rw[lR1];exact hi),aE]at h2;split at h2<;>cases h2
  unfold rd at h2;rw[gR1 (by rw[lR1];exact hi),lR1,gP1]at h2;obtain⟨j,S,h2⟩:=oM1.mp h2;have g:X.N.getD j (Str.ofString "")=x:=by
   have g:(T++keep.map fun i=>X.N.getD i (Str.ofString ""))[i]?=some x:=h1;rw[gR1 hi,gP1,S]at g;exact Option.some.inj g
  obtain⟨y,R,U,P,Z⟩:=C.free j (gM1 S);have M:y=x:=by rw[<- g,bo,R];rfl
  subst M;have N:σ[j]?=some (some v):=by
   cases e:σ[j]? with
   |none=>rw[e]at h2;cases h2
   |some o=>rw[e]at h2;cases h2;rfl
  obtain⟨m,hn,hl⟩:=I.loc;obtain⟨u,ru,Y⟩:=hl j y v R N (by
   rcases P with z|z
   ·exact .inr (.inl z)
   ·exact .inr (.inr z))
  refine⟨u,ru,?_⟩;rcases Y with⟨z,_⟩|⟨_,c,W,zc⟩
  ·rcases P with q|q<;>(rw[z]at q;cases q)
  ·right;refine⟨?_,c,?_,zc.keeps kept⟩
   ·rw[kindOf,U];simp only[oP1];split
    ·exact .inl rfl
    ·exact .inr rfl
   ·obtain⟨c',e'⟩:=aC.mp (PySem.W.cellsFrom_some scope.names (s.heap.objs.size+1) A (.inr (nj B (.inl U))):((cellsFrom (s.heap.objs.size+1) scope.names A).lookup y).isSome=true);have Q:(cellsFrom (s.heap.objs.size+1) scope.names A).lookup y=some c':=e';rcases d y c' Q with⟨f,E⟩|f
    ·-- an own cell of that name:its kind would be cell
     exfalso;have:∀(names:List (Str×NameKind)) (n:Nat),(y,c')∈cellsFrom n names []->(y,NameKind.cell)∈names:=by
      have app:∀(names:List (Str×NameKind)) (m:Nat) (acc:List (Str×cG)),cellsFrom m names acc=cellsFrom m names []++acc:=by
       intro names
       induction names with
       |nil=>intro m acc;rfl
       |cons p r ih=>
        obtain⟨z,q⟩:=p;intro m acc;unfold cellsFrom;split
        ·rw[ih _ ((z,m)::acc),ih _ [(z,m)],bj];rfl
        ·exact ih m acc
      intro names
      induction names with
      |nil=>intro n h;cases h
      |cons p r ih=>
       obtain⟨z,q⟩:=p;intro n h;unfold cellsFrom at h;split at h
       ·rename_i hq;rw[app]at h;rcases am.mp h with h|h
        ·exact mC1 _ (ih _ h)
        ·have:(y,c')=(z,n):=by simpa using h
         cases this;have L:q=NameKind.cell:=by simpa using hq
         subst L;exact mS1
       ·exact mC1 _ (ih _ h)
     exact Z (this _ _ E)
    ·rw[W]at f;cases f;exact Q
 ·rcases d x c h with⟨f,E⟩|f
  ·exact⟨_,(D.empty x c E).1⟩
  ·obtain⟨v,z⟩:=I.cell x c f;exact⟨v,z.keeps kept⟩
 ·rcases d x c h with⟨f,E⟩|f
  ·exact I.hok.fresh (bn f)
  ·exact I.freeC x c f
 ·show(rd T.length keep σ).length=(T++keep.map fun i=>X.N.getD i (Str.ofString "")).length;unfold rd;rw[lA1,lA1,lR1,lM1,lM1]
def r6(p:Pos)(tg:Expr)(ifs:List Expr)(it:cE)(env:Env)(emit:Sem Unit)(c:Code):Sem PySem.Fin:=do
 standAt p
 match<-pyNext it with
 |none=>pure (.done .next)
 |some v=>
  letOwnedTupleGo tg it v
  assign tg env v
  let mut ok:=true
  for c in ifs do
   if ok then ok<-isTrue c env (eval c env)
  if ok then emit
  again c
def tG(elt:Expr)(acc:cE)(env:Env):Sem Unit:=do let _<-call (.builtin "list.append") [acc,<- eval elt env]
theorem xZ(elt tg iter:Expr)(ifs:List Expr)(scope:cS)(pos:Pos)(it acc:cE)(env:Env):
  compTurn (.ListComp elt [⟨tg,iter,ifs,0⟩] scope pos) 0 it acc env=r6 iter.pos tg ifs it env (tG elt acc env) (.compLoop (.ListComp elt [⟨tg,iter,ifs,0⟩] scope pos) 0 it acc env):=by rfl
def oY(X:Cx)(ifs:List Expr)(t:TT):Prop:=
 ∀(pins:List (cG×Obj)) (s:cF) (σ:L2.St) (H:Hp) (Q:Bool->Hp->Prop),Inv X pins σ H s->t σ H Q ->
  cO (model X.prog X.w) X.A (forIn ifs true fun c r=>if r=true then do let ok<-isTrue c X.env (eval c X.env);pure (ForInStep.yield ok)else pure (ForInStep.yield r)) (TP X pins σ Q) X.xe s
theorem yP{X:Cx}:oY X [] (fun σ H Q=>Q true H):=fun pins s σ H Q I h=>wpAny_tests_nil ⟨H,I,h⟩
theorem yO{X:Cx}{c:Expr}{t:TT}(h:PT X c t):oY X [c] t:=fun pins s σ H Q I q=>wpAny_tests_one (h pins s σ H Q I q)
def PU(X:Cx)(m:Sem Unit)(t:TS):Prop:=
 ∀(pins:List (cG×Obj)) (s:cF) (σ:L2.St) (H:Hp) (E:j7),Inv X pins σ H s->t E σ H->cO (model X.prog X.w) X.A m (fun _ s'=>∃ σ' H',Inv X pins σ' H' s'/\E.nx σ' H') X.xe s
theorem pI{X:Cx}(hx:X.xe=fun _ _=>False)(hc:X.calm=true){elt:Expr}{c:List Comprehension}{scope:cS}{pos p:Pos}{d:Nat}{tg:Expr}{ifs:List Expr}{acc:cE}{emit:Sem Unit}{J:It}{y:List cG}{it:cG}{P:Nat->cP->Prop}{g:TG}{ti:TT}{tb:TS}(eq:compTurn (.ListComp elt c scope pos) d (.ref it) acc X.env=r6 p tg ifs (.ref it) X.env emit (.compLoop (.ListComp elt c scope pos) d (.ref it) acc X.env))(T:uU X.prog X.w X.K tg J y it P)(hg:PG X tg g)(hi:oY X ifs ti)(he:PU X emit tb){pins:List (cG×Obj)}{s:cF}{σ:L2.St}{H:Hp}{D:j7}(I:Inv X pins σ H s)(st:P 0 s.heap)(Z:∀b∈y,kC X pins H b)(h:∃W:Nat->Nat->L2.St->Hp->Prop,(∃m,W 0 m σ H) /\ ∀i m σ H,W i m σ H ->
   (J.stop i H/\D.nx σ H)\/(J.go i H /\ ∃N:L2.St->Hp->Prop,(∀a H',N a H' -> ∃O,O<m/\W (i+1) O a H') /\ ∀x H',J.yld i H x H'->g x σ H' fun v H2=>ti v H2 fun b t=>if b=true then tb {D with nx:=N} v t else N v t)):
  codeAny (model X.prog X.w) X.A (.compLoop (.ListComp elt c scope pos) d (.ref it) acc X.env) (fun r s'=>match r with | .ok _=>∃a H',Inv X pins a H' s'/\D.nx a H' | .error _=>False) s:=by
 obtain⟨W,⟨m0,w0⟩,L⟩:=h;have k:∀{H':Hp},(∀b∈y,H' b=none) -> ∀b∈y,kC X pins H' b:=fun hn b l=>⟨hn b l,(Z b l).2⟩;refine codeAny_loop rfl (fun n s'=>∃i a H',Inv X pins a H' s'/\P i s'.heap/\(∀b∈y,H' b=none)/\W i n a H') ?_ m0 ⟨0,σ,H,I,st,fun b l=>(Z b l).1,w0⟩;rintro n V ⟨i,j,t,I3,G,F,w3⟩;show cO _ _ ((compTurn (.ListComp elt c scope pos) d (.ref it) acc X.env).onRaise (fun x=>do noteFrame x X.env;theTreesLotGoes x)) _ _ V;refine wpAny_noted ?_;rw[eq];have B:∀{α:Type} {m:Sem α} {Q:α->cF->Prop} {s:cF} {E:cE->cF->Prop},cO (model X.prog X.w) X.A m Q X.xe s->cO (model X.prog X.w) X.A m Q E s:=fun h=>by
  rw[hx]at h;exact wpAny_mono h (fun _ _ q=>q) fun _ _ q=>q.elim
 unfold r6;refine wB1 (wpAny_standAt (wB1 ?_));rcases L i n j t w3 with⟨M,qn⟩|⟨go,N,hN,step⟩
 ·refine B (eQ (T.done X rfl rfl rfl hc i pins V j t X.xe I3 (k F) G M) fun r s4 ⟨R,I4⟩=>?_);subst R;exact wP1 ⟨j,t,I4,qn⟩
 ·refine B (eQ (T.item X rfl rfl rfl hc i pins V j t X.xe I3 (k F) G go) fun r s4 ⟨u,R,h4⟩=>?_);subst R;refine wB1 (B (eQ h4 fun _ s5 ⟨x,H5,I5,r5,y5,w,U⟩=>?_));have S:=I5.pinned (k U) (T.obj _ _ w);refine wB1 (B (eQ (hg _ s5 j H5 x u _ S r5 (step x H5 y5)) fun _ s6 ⟨K,H6,I6,q6⟩=>?_));refine wB1 (B (eQ (hi _ s6 K H6 _ I6 q6) fun ok A ⟨z,C,Y⟩=>?_));have again':∀ {f:L2.St} {z:Hp} {A:cF},Inv X (pins++nL y s5.heap) f z A->N f z -> ∃ m,m<n /\ ∃ i a H',Inv X pins a H' A/\P i A.heap/\(∀ b∈y,H' b=none)/\W i m a H':=fun {f z A} C n7=>by
   obtain⟨O,hm,w7⟩:=hN f z n7;refine⟨O,hm,i+1,f,z,C.unpinned,T.keep _ _ _ w fun b l o e=>(C.pin (b,o) (mA1 _ (mA1 _ (ja l e)))).1,fun b l=>?_,w7⟩;obtain⟨o,e,d⟩:=T.obj _ _ w b l;exact(C.pin (b,o) (mA1 _ (mA1 _ (ja l e)))).2.1
  cases ok with
  |false=>exact wP1 ⟨rfl,again' C Y⟩
  |true=>exact wB1 (B (eQ (he _ A K z _ C Y) fun _ s8 ⟨σ8,H8,I8,q8⟩=>wP1 ⟨rfl,again' I8 q8⟩))
def ve(p:cG)(te:TE):TS:=fun D σ H=>te σ H fun x H1=>∃xs,H1 p=some (.lst xs)/\xs.length<cN/\D.nx σ (upd H1 p (.lst (xs++[x])))
theorem vk{X:Cx}{elt:Expr}{te:TE}(h:PE X elt te)(p:cG):PU X (tG elt (.ref p) X.env) (ve p te):=by
 intro pins s σ H E I q;unfold tG;refine wB1 (eQ (h pins s σ H _ I q) fun u a ⟨x,H1,d,f,xs,b,c,i⟩=>?_);refine wB1 (eQ (pp pins a σ H1 (.ref p) [x] (.ref p) [u] (fun _ H'=>E.nx σ H') d rfl (.cons f .nil) ⟨p,xs,x,rfl,rfl,b,c,i⟩) fun _ j ⟨_,H2,g,_,e⟩=>?_);exact wP1 ⟨σ,H2,g,e⟩
def Dd(J:It)(g:TG)(ti:TT)(tb:TS):TS:=fun D σ H=>∃W:Nat->Nat->L2.St->Hp->Prop,(∃m,W 0 m σ H) /\ ∀i m σ H,W i m σ H ->
 (J.stop i H/\D.nx σ H)\/(J.go i H /\ ∃N:L2.St->Hp->Prop,(∀ σ' H',N σ' H' -> ∃m',m'<m/\W (i+1) m' σ' H') /\ ∀x H',J.yld i H x H'->g x σ H' fun σ2 H2=>ti σ2 H2 fun b H3=>if b=true then tb {D with nx:=N} σ2 H3 else N σ2 H3)
theorem Un.sameBut{fs ex:List cG}{H H':Hp}{h h1 h2:cP}{c:cG}(u:Un fs ex H H' h h1)(hs:Heap.SameBut c h1 h2)(hc:h.get? c=none):Un fs ex H H' h h2:=by
 have ne:∀{b o},h.get? b=some o->b≠c:=fun e z=>by rw[z,hc]at e;cases e
 refine⟨fun b o e n d a=>(hs.2 b (ne e)).trans (u.keep b o e n d a),fun b o e n d a=>?_,u.free,fun b o e a=>?_,u.tups,u.frzs,u.tbls⟩
 ·obtain⟨f,q⟩:=u.slot b o e n d a;exact⟨f,(hs.2 b (ne e)).trans q⟩
 ·obtain⟨o',q⟩:=u.there b o e a;exact⟨o',(hs.2 b (ne e)).trans q⟩
def yk(k:Nat)(keep:List Nat)(wi:TI)(g:TG)(ti:TT)(tb:cG->TS):TE:=fun σ H Q=>wi σ H fun J H1=>∀p,H1 p=none ->
 Dd J g ti (tb p) {nx:=fun _ H'=>Q (.ref p) H',rt:=fun _ _=>False} (rd k keep σ) (upd H1 p (.lst []))
theorem BN{X:Cx}(hc:X.calm=true){elt tg iter:Expr}{ifs:List Expr}{rest:List Comprehension}{scope:cS}{pos:Pos}{T:List Str}{keep:List Nat}{l:List (Str×cG)}{G:TI}{g:TG}{L:TT}{tb:cG->TS}{emit:cE->Env->Sem Unit}(eq:∀it k i,compTurn (.ListComp elt (⟨tg,iter,ifs,0⟩::rest) scope pos) 0 it k i=r6 iter.pos tg ifs it i (emit k i) (.compLoop (.ListComp elt (⟨tg,iter,ifs,0⟩::rest) scope pos) 0 it k i))(C:IL X scope T keep)(t:lO X.env.cells scope.names []=some l)(hi:PI X tg iter G)(hb:∀s H d p,PG (cxC X scope l T keep s H d) tg g/\oY (cxC X scope l T keep s H d) ifs L/\PU (cxC X scope l T keep s H d) (emit (.ref p) (cxC X scope l T keep s H d).env) (tb p))(hs:∀x,foldedSetIterable iter X.env x=pure x:=by intro _;rfl):
  PE X (.ListComp elt (⟨tg,iter,ifs,0⟩::rest) scope pos) (yk T.length keep G g L tb):=by
 intro pins s σ H Q I h;rw[eval_ListComp];refine wpAny_comprehension_free (use:=none) rfl hs (Am t) C.kind C.names ?_;refine eQ (hi pins s σ H _ I h) fun v s1 h1=>eQ h1 fun V a h2=>?_;obtain⟨it,d,Y,J,H2,rfl,N,TT,u,F,q2⟩:=h2;refine wO1 ?_;have M:Inv X pins σ (upd H2 a.heap.objs.size (.lst [])) {a with heap:=a.heap.push {cls:=.type "list",data:=.seq ([]:List cE).toArray}}:=N.lnew (t':=a.toks) .nil (aR _);have old:∀b∈d,∃o,a.heap.get? b=some o:=fun b hb=>by
  obtain⟨o,e,_⟩:=TT.obj 0 a.heap u b hb;exact⟨o,e⟩
 have D:∀b∈d,b≠a.heap.objs.size:=fun b hb z=>by
  obtain⟨o,e⟩:=old b hb;have:=hL1 e;rw[z]at this;exact af _ this
 have B:∀b∈d,kC X pins (upd H2 a.heap.objs.size (.lst [])) b:=fun b hb=>⟨by rw[dm (D b hb)];exact(F b hb).1,(F b hb).2⟩;have o3:∀b∈d,∃o,({a with heap:=a.heap.push {cls:=.type "list",data:=.seq ([]:List cE).toArray}}:cF).heap.get? b=some o:=fun b hb=>by
  obtain⟨o,e⟩:=old b hb;exact⟨o,hP1 _ e⟩
 have A:=sY M C t B o3;obtain⟨O,R,P⟩:=hb {a with heap:=a.heap.push {cls:=.type "list",data:=.seq ([]:List cE).toArray}} (upd H2 a.heap.objs.size (.lst [])) d a.heap.objs.size;refine kI ?_;have Z:∀b∈d,kC (cxC X scope l T keep {a with heap:=a.heap.push {cls:=.type "list",data:=.seq ([]:List cE).toArray}} (upd H2 a.heap.objs.size (.lst [])) d) [] (upd H2 a.heap.objs.size (.lst [])) b:=fun b hb=>
  ⟨(B b hb).1,(A.ok.exf b hb).1,A.ok.exfs b hb,.inl hb,(A.ok.exf b hb).2,fun p U=>absurd (show p∈([]:List (cG×Obj))from U) (by simp)⟩
 have w:Y 0 (pushCells ((a.heap.push {cls:=.type "list",data:=.seq ([]:List cE).toArray}).push {cls:=.type "dict",data:=.dict #[]}) scope.names):=
  TT.keep 0 a.heap _ u fun b hb o e=>pushCells_keeps scope.names _ b o (hP1 _ (hP1 _ e))
 have j:=pI (X:=cxC X scope l T keep {a with heap:=a.heap.push {cls:=.type "list",data:=.seq ([]:List cE).toArray}} (upd H2 a.heap.objs.size (.lst [])) d) rfl hc (eq (.ref it) (.ref a.heap.objs.size) _) TT O R P A w Z
  (q2 a.heap.objs.size (N.hok.fresh (nR1 _)))
 refine codeAny_mono (codeAny_compStart_list j (TT.self X.A 0 _ _ _ w j)) fun r s' E=>?_;cases r with
 |error e=>exact E.elim
 |ok f=>
  obtain⟨S,H',n,W⟩:=E;obtain⟨m,hn,_⟩:=id n.loc;refine⟨m,hn,fun h' y=>⟨.ref a.heap.objs.size,H',?_,rfl,W⟩⟩;refine M.call' (s':={s' with heap:=h'}) (ch:=d) n.os (Un.sameBut n.base y (Heap.get?_none_of_le (nR1 _))) (fun b ob e=>?_) n.bare fun b hb=>(B b hb).2.2.2 |> fun z=>⟨z.1,(B b hb).2.1,z.2.1,z.2.2⟩
  refine(n.hok b ob e).stay (fun c w' hc q=>(y.2 c ?_).trans q) (fun _ q=>q) fun _ _ q=>q;rintro rfl;have K:=n.free;rcases hc with rfl|hc
  ·exact nomatch K.symm.trans e
  ·exact nomatch K.symm.trans hc
section
variable{K:Fg1}{H:Hp}{mu:List cG}{S:Sto}{p:cG}{u:HO}{o:Ob}{n:Nat}
theorem Rd.ne{a:cG}{x:HO}(h:H p=none)(q:Rd H a x):a≠p:=by
 rintro rfl;rcases q with q|⟨_,q⟩<;>(rw[h]at q;cases q)
theorem Ext.fresh(hp:H p=none):Ext mu mu H (upd H p u) where
 pre:=aV
 old:=fun a o h _=>by rw[dm (dJ h hp)];exact h
 tup:=fun a xs h=>by
  have ne:=Rd.ne hp h;rcases h with h|⟨b,h⟩
  ·exact .inl (by rw[dm ne];exact h)
  ·exact .inr ⟨b,by rw[dm ne];exact h⟩
 frz:=fun a o x h=>by rw[dm (dJ h hp)];exact h
 new:=fun _ h=>.inl h
theorem Ext.new_(hp:H p=none):Ext mu (mu++[p]) H (upd H p u) where
 pre:=a0 _ _
 old:=(Ext.fresh (mu:=mu) hp).old
 tup:=(Ext.fresh (mu:=mu) hp).tup
 frz:=(Ext.fresh (mu:=mu) hp).frz
 new:=fun a h=>by
  rcases am.mp h with h|h
  ·exact .inl h
  ·have:a=p:=by simpa using h
   subst this;exact .inr hp
theorem Sim.fresh(s:Sim K H mu S)(hp:H p=none):Sim K (upd H p u) mu S:=
 ⟨s.len,s.nd,fun k o a h1 h2=>(s.ob k o a h1 h2).keep (Ext.fresh hp) fun b e=>by rw[dm (dJ e hp)];exact e⟩
theorem Sim.notin(s:Sim K H mu S)(hp:H p=none):p∉mu:=fun h=>by
 obtain⟨o,e⟩:=s.here h;rw[hp]at e;cases e
theorem oC.more{a:cG}{mu':List cG}{H':Hp}(e:Ext mu mu' H H')(h:∀o,H a=some o->H' a=some o):∀{o:Ob},oC K H mu a o->oC K H' mu' a o
 | .lst _,⟨vs,q,r⟩=>⟨vs,h _ q,r.ext e⟩
 | .dct _,⟨ws,q,r⟩=>⟨ws,h _ q,KR.ext e r⟩
 | .dcT _,⟨ws,q,r,l⟩=>⟨ws,h _ q,KT.ext e r,l⟩
 | .iset _,q=>⟨h _ q.1,q.2⟩
 | .dcF _,⟨ws,⟨o,u,c,b⟩,r,l⟩=>⟨ws,⟨o,u,h _ c,b⟩,KT.ext e r,l⟩
 | .tst _,⟨ws,q,r⟩=>⟨ws,h _ q,KT.ext e r⟩
theorem Sim.new(s:Sim K H mu S)(hp:H p=none)(ho:oC K (upd H p u) (mu++[p]) p o):Sim K (upd H p u) (mu++[p]) (S++[o]):=by
 refine⟨by rw[lA1,lA1,s.len];rfl,?_,fun k o' a h1 h2=>?_⟩
 ·rw[bb];refine⟨s.nd,by simp,fun a g b f e=>?_⟩;have:b=p:=by simpa using f
  subst this;subst e;exact s.notin hp g
 ·by_cases d:k<S.length
  ·rw[gL1 d]at h1;rw[gL1 (by rw[s.len];exact d)]at h2;exact(s.ob k o' a h1 h2).more (Ext.new_ hp) fun h e=>by rw[dm (dJ e hp)];exact e
  ·have c:k=S.length:=by
    have:=(gE1.mp h1).1;rw[lA1]at this;simp at this;lia
   subst c;rw[gR1 (nR1 _)]at h1;rw[<- s.len,gR1 (nR1 _)]at h2;simp at h1 h2;subst h1;subst h2;exact ho
theorem Ext.put{x:HO}(hp:H p=some x)(hm:GF (some x))(b:p∈mu):Ext mu mu H (upd H p u) where
 pre:=aV
 old:=fun a o h n=>by rw[dm (fun e=>n (by rw[e];exact b))];exact h
 tup:=fun a xs h=>by
  have ne:a≠p:=by
   rintro rfl;rcases h with h|⟨_,h⟩<;>(rw[hp]at h;cases h;exact hm)
  rcases h with h|⟨c,h⟩
  ·exact .inl (by rw[dm ne];exact h)
  ·exact .inr ⟨c,by rw[dm ne];exact h⟩
 frz:=fun a o y h=>by
  rw[dm (fun e=>?_)]
  ·exact h
  ·subst e;rw[hp]at h;cases h;exact hm
 new:=fun _ h=>.inl h
theorem Sim.put(s:Sim K H mu S){x:HO}(hn:mu[n]?=some p)(hp:H p=some x)(hm:GF (some x))(ho:oC K (upd H p u) mu p o):Sim K (upd H p u) mu (S.set n o):=by
 refine⟨by rw[aH];exact s.len,s.nd,fun k o' a h1 h2=>?_⟩;by_cases b:n=k
 ·subst b;have f:n<S.length:=by
   have:=(gE1.mp h1).1
   rwa [aH]at this
  rw[ap f]at h1;cases h1;rw[hn]at h2;cases h2;exact ho
 ·rw [gS1 b] at h1;have ne:a≠p:=fun e=>by
   subst e;obtain⟨h,d⟩:=gE1.mp hn;obtain⟨g,c⟩:=gE1.mp h2;exact b ((List.getElem_inj s.nd).mp (d.trans c.symm))
  exact(s.ob k o' a h1 h2).keep (Ext.put hp hm (gM1 hn)) fun i e=>by rw[dm ne];exact e
theorem Sim.lst(s:Sim K H mu S){ds:List D}{a:cG}(h:S[n]?=some (.lst ds))(hn:mu[n]?=some a):∃vs,H a=some (.lst vs)/\dh K H mu ds vs:=s.ob n _ a h hn
theorem Sim.dcT(s:Sim K H mu S){ks:List (TK×D)}{a:cG}(h:S[n]?=some (.dcT ks))(hn:mu[n]?=some a):∃ws,H a=some (.ext (j8 a ws))/\KT K H mu ks ws/\ws.length<=cN:=s.ob n _ a h hn
theorem Sim.iset(s:Sim K H mu S){xs:List Int}{a:cG}(h:S[n]?=some (.iset xs))(hn:mu[n]?=some a):H a=some (.set (fun k=>xs.contains k) xs.length)/\xs.Nodup:=s.ob n _ a h hn
theorem Sim.dct(s:Sim K H mu S){ks:List (Key×D)}{a:cG}(h:S[n]?=some (.dct ks))(hn:mu[n]?=some a):∃ws,H a=some (.dK ws)/\KR K H mu ks ws:=s.ob n _ a h hn
theorem Sim.newL(s:Sim K H mu S){ds:List D}{vs:List V}(r:dh K H mu ds vs)(hp:H p=none):Sim K (upd H p (.lst vs)) (mu++[p]) (S++[.lst ds]):=s.new hp ⟨vs,dw,r.ext (Ext.new_ hp)⟩
theorem Sim.putL(s:Sim K H mu S){ds:List D}{vs ws:List V}(r:dh K H mu ds vs)(hn:mu[n]?=some p)(hp:H p=some (.lst ws)):Sim K (upd H p (.lst vs)) mu (S.set n (.lst ds)):=
 s.put hn hp trivial ⟨vs,dw,r.ext (Ext.put hp trivial (gM1 hn))⟩
end
theorem gp{mu:List cG}{S:Sto}(h:mu.length=S.length)(p:cG):(mu++[p])[S.length]?=some p:=by
 rw[<- h,gR1 (nR1 _)];simp
def d6(a:FA):FE:=fun r S=>(a r S).bind fun p=>if p.1.length<=cN then some (.tup p.1,p.2)else none
def fy(a:FA):FE:=fun r S=>(a r S).bind fun p=>if p.1.length<=cN then some (.ref p.2.length,p.2++[.lst p.1])else none
section
variable{X:Cx}{es:List Expr}{pos:Pos}{a:FA}
theorem Fj{x1}(h:MA X es a):ME X (.Tuple es x1 pos) (d6 a):=d8 (EB h) <| by
 rintro σ H Q ⟨r,mu,S,d,l,j,k,b,hc⟩;obtain⟨⟨ds,m⟩,g,b⟩:=oB1.mp b;dsimp only at b;split at b
 ·rename_i i;cases b;refine⟨r,mu,S,ds,_,j,k,g,fun vs H1 mu1 x1 e f=>⟨by rw[<- e.length];exact i,fun p c=>?_⟩⟩;exact hc _ _ mu1 (x1.trans (Ext.fresh c)) (.tup (kB.of dw) (e.ext (Ext.fresh c))) (f.fresh c)
 ·cases b
theorem Fq(h:MA X es a):ME X (.List es pos) (fy a):=d8 (EH h) <| by
 rintro σ H Q ⟨r,mu,S,d,m,j,k,b,hc⟩;obtain⟨⟨ds,n⟩,g,b⟩:=oB1.mp b;dsimp only at b;split at b
 ·rename_i i;cases b;refine⟨r,mu,S,ds,_,j,k,g,fun vs H1 mu1 l f c=>⟨by rw[<- f.length];exact i,fun p e=>?_⟩⟩;exact hc _ _ (mu1++[p]) (l.trans (Ext.new_ e)) (.ref (gp c.len p)) (c.newL f e)
 ·cases b
end
def oU(k:Nat)(keep:List Nat)(r:Ev):Ev:=aB k none++keep.map fun i=>(r[i]?).join
def eN:FT:=fun _ S=>some (true,S)
theorem H0{K:Fg1}{H:Hp}{mu:List cG}{r:Ev}{σ:L2.St}(k:Nat)(keep:List Nat)(h:fh K H mu r σ):fh K H mu (oU k keep r) (rd k keep σ):=by
 refine⟨by unfold oU rd;rw[lA1,lA1,lM1,lM1,lR1,lR1],fun i d e=>?_⟩;unfold oU at e;unfold rd;by_cases hi:i<k
 ·rw[gL1 (by rw[lR1];exact hi),aE]at e;split at e<;>cases e
 ·rw [gR1 (by rw [lR1];lia),lR1,gP1] at e;rw [gR1 (by rw [lR1];lia),lR1,gP1];obtain ⟨j,a,e⟩:=oM1.mp e;rw [a];have c:r[j]? = some (some d):=by
   cases q:r[j]? with
   |none=>rw[q]at e;cases e
   |some o=>rw[q]at e;cases e;rfl
  obtain⟨v,b,f⟩:=h.val j d c;exact⟨v,by rw[oP1,b];rfl,f⟩
section
variable{X:Cx}
theorem yQ{ifs:List Expr}{t t':L2.TT}(h:oY X ifs t)(i:∀ σ H Q,t' σ H Q->t σ H Q):oY X ifs t':=fun pins s σ H Q I q=>h pins s σ H Q I (i σ H Q q)
theorem B9:oY X [] (Ba X.K eN):=yQ yP fun σ H Q ⟨r,mu,S,b,d,e,c,a,hc⟩=>by cases a;exact hc H mu (.refl _ _) c
theorem B8{c:Expr}{t:FT}(h:MT X c t):oY X [c] (Ba X.K t):=yO h
end
open PySem.AutoSeq1 (wpAny_loadPart')
def SIt(b:Bool)(h:cP)(it a:cG)(i:Nat):Prop:=match b with
 |true=>h.IsListIter it a i
 |false=>h.IsTupleIter it a i
def SCo(b:Bool)(h:cP)(a:cG)(xs:Array cE):Prop:=match b with
 |true=>h.IsList a xs
 |false=>h.IsTuple a xs
theorem SIt.to{b:Bool}{h h':cP}{it a:cG}{i:Nat}(x:SIt b h it a i)(k:∀o,h.get? it=some o->h'.get? it=some o):SIt b h' it a i:=by
 cases b<;>(obtain⟨o,e,r⟩:=x;exact⟨o,k o e,r⟩)
theorem SIt.rec_{b:Bool}{h:cP}{it a:cG}{i:Nat}(x:SIt b h it a i):∃o,h.get? it=some o /\ ∀v,o.data ≠ .cell v:=by
 cases b<;>(obtain⟨o,e,c,d⟩:=x;exact⟨o,e,fun v z=>by rw[d]at z;cases z⟩)
theorem SCo.to{b:Bool}{h h':cP}{a:cG}{xs:Array cE}(x:SCo b h a xs)(k:∀o,h.get? a=some o->h'.get? a=some o):SCo b h' a xs:=by
 cases b<;>(obtain⟨o,e,r⟩:=x;exact⟨o,k o e,r⟩)
def ft(b:Bool)(a:cG):Obj:=match b with
 |true=>{cls:=.type "list_iterator",data:=.fields #[.ref a,.int 0 0]}
 |false=>{cls:=.type "tuple_iterator",data:=.fields #[.ref a,.int 0 0]}
section
variable{prog:cH}{w:cJ}{A:cI}{E:cE->cF->Prop}{s:cF}
theorem p9{b:Bool}{h:cP}{it a:cG}(e:h.get? it=some (ft b a)):SIt b h it a 0:=by
 cases b<;>exact⟨_,e,rfl,rfl⟩
theorem iH{b:Bool}{a:cG}{xs:Array cE}{Q:cE->cF->Prop}(x:SCo b s.heap a xs)(h:Q (.ref s.heap.objs.size) {s with heap:=s.heap.push (ft b a)}):cO (model prog w) A (pyIter (.ref a)) Q E s:=by
 cases b
 ·exact wpAny_pyIter_tuple x h
 ·exact wpAny_pyIter_list x h
theorem zh{it l:cG}{i:Nat}{xs:Array cE}{x:cE}{Q:cE->cF->Prop}(d:s.heap.IsTupleIter it l i)(tl:s.heap.IsTuple l xs)(hx:xs[i]? = some x)(f:∀h',h'.IsTupleIter it l (i+1)->Heap.SameBut it s.heap h'->Q x {s with heap:=h'}):cO (model prog w) A (Builtin.SmallTypes.nextOf (.ref it)) Q E s:=by
 obtain⟨o,b,hc,a⟩:=id d;obtain⟨h,c,_,g,e⟩:=tl;unfold Builtin.SmallTypes.nextOf;refine wB1 (wpAny_callSpecial?_slot (name:=Str.ofString "__next__") d.typeIs F.slot_tuple_iterator_next (wE1 F.slot_tuple_iterator_next d.typeIs F.entry_tuple_iterator_next ?_ (F.args_tuple_iterator_next_1 _)));show cO _ _ (field (.ref it) 0 >>= _) _ _ s;refine wB1 (wpAny_field b a (x:=.ref l) rfl ?_);show cO _ _ (if(Value.ref l == Value.none)=true then _ else _) _ _ s;rw[if_neg (show¬ ((Value.ref l == Value.none)=true)from au)];show cO _ _ (field (.ref it) 1 >>= _) _ _ s;refine wB1 (wpAny_field b a (x:=.int i 0) rfl ?_);show cO _ _ (seqItems? (.ref l) >>= _) _ _ s;refine wB1 (wpAny_seqItems c e ?_);simp only[Int.toNat_natCast,hx];refine wB1 (wpAny_setField b a (by simp) (wP1 ⟨x,rfl,wP1 (f _ ⟨_,hW1 _ b (Obj.isFreed_of_fields (Obj.data_mapFields a _)),(Obj.cls_mapFields ..).trans hc,by rw[Obj.data_mapFields a];simp[rawInt]⟩ (Heap.SameBut.update ..))⟩))
theorem qB {it l:cG}{i:Nat}{xs:Array cE}{Q:cE->cF->Prop}(h:A.handled=none)(d:s.heap.IsTupleIter it l i)(tl:s.heap.IsTuple l xs)(hx:xs[i]? = none)
  (j:∀h' e,Heap.ExtBut it s.heap h'->(∃o,h'.get? e=some o/\o.cls = .type "StopIteration")->E (.ref e) {s with heap:=h'}):cO (model prog w) A (Builtin.SmallTypes.nextOf (.ref it)) Q E s:=by
 obtain⟨o,f,hc,b⟩:=id d;obtain⟨n,c,_,k,g⟩:=tl;unfold Builtin.SmallTypes.nextOf;refine wB1 (wpAny_callSpecial?_slot (name:=Str.ofString "__next__") d.typeIs F.slot_tuple_iterator_next (wE1 F.slot_tuple_iterator_next d.typeIs F.entry_tuple_iterator_next ?_ (F.args_tuple_iterator_next_1 _)));show cO _ _ (field (.ref it) 0 >>= _) _ _ s;refine wB1 (wpAny_field f b (x:=.ref l) rfl ?_);show cO _ _ (if(Value.ref l == Value.none)=true then _ else _) _ _ s;rw[if_neg (show¬ ((Value.ref l == Value.none)=true)from au)];show cO _ _ (field (.ref it) 1 >>= _) _ _ s;refine wB1 (wpAny_field f b (x:=.int i 0) rfl ?_);show cO _ _ (seqItems? (.ref l) >>= _) _ _ s;refine wB1 (wpAny_seqItems c g ?_);simp only[Int.toNat_natCast,hx];refine wB1 (wpAny_rule (wB1 (wpAny_setField f b (by simp) ?_)));show cO _ _ (newExc (.type "StopIteration") [] >>= _) _ _ _;refine wB1 ?_;simp only[newExc,newTuple];refine wB1 (wO1 ?_ (by size_fits));refine wB1 (m:=firstArgMember _ _) (wpAny_of_eq (a:=Value.none) (by first|rfl|(simp only[firstArgMember];rfl)) ?_);refine wO1 ?_ (by size_fits);simp only[raiseNew];refine wB1 (wpAny_handled ?_)
 first|rw[show A.in1.handled=none from h] | rw[h]
 refine wB1 (wP1 (wpAny_throw ?_));exact j _ _ (((Heap.SameBut.update ..).extBut.push _).push _) ⟨_,hS1 _ rfl,rfl⟩
theorem lC{b:Bool}{it l:cG}{i:Nat}{xs:Array cE}{x:cE}{Q:cE->cF->Prop}(a:SIt b s.heap it l i)(tl:SCo b s.heap l xs)(hx:xs[i]? = some x)(c:∀h',SIt b h' it l (i+1)->Heap.SameBut it s.heap h'->Q x {s with heap:=h'}):cO (model prog w) A (Builtin.SmallTypes.nextOf (.ref it)) Q E s:=by
 cases b
 ·exact zh a tl hx c
 ·exact wpAny_nextOf_list_item a tl hx c
theorem i8 {b:Bool}{it l:cG}{i:Nat}{xs:Array cE}{Q:cE->cF->Prop}(d:A.handled=none)(a:SIt b s.heap it l i)(tl:SCo b s.heap l xs)(hx:xs[i]? = none)
  (c:∀h' e,Heap.ExtBut it s.heap h'->(∃o,h'.get? e=some o/\o.cls = .type "StopIteration")->E (.ref e) {s with heap:=h'}):cO (model prog w) A (Builtin.SmallTypes.nextOf (.ref it)) Q E s:=by
 cases b
 ·exact qB d a tl hx c
 ·exact wpAny_nextOf_list_end d a tl hx c
theorem Ac{b:Bool}(l:cG)(xs:Array cE):
  Meets (Builtin.«enumerate.__new__» ⟨[.type "enumerate",.ref l],[]⟩) (fun _ R s=>SCo b s.heap l xs /\
   R (.ok (.ret (.ref (s.heap.push (ft b l)).objs.size))) {s with heap:=(s.heap.push (ft b l)).push {cls:=.type "enumerate",data:=.fields #[.none,.bool false,.ref s.heap.objs.size,rawInt 0,.none,.none]}}):=
 .of_wp fun prog w A R s h=>by
  obtain⟨i,g,d,tk,k⟩:=s;obtain⟨f,h⟩:=h;have j:=sub_enumerate
  have a:SCo b (Shared.heap ⟨i,g,d,tk,k⟩) l xs:=f;obtain⟨m,el⟩:∃o,i.get? l=some o:=by cases b<;>(obtain⟨o,e,_⟩:=f;exact⟨o,e⟩)
  wp_walk using wpAny_loadPart' el
  refine wpAny_stack_any fun st=>wP1 ?_;split
  ·rename_i c _ _ _ _ _;cases(c == Value.type "enumerate")<;>(wp_walk using wpAny_loadPart' el,iH a;exact⟨_,rfl,h⟩)
  ·wp_walk using wpAny_loadPart' el,iH a
   exact⟨_,rfl,h⟩
theorem xk{b:Bool}{l:cG}{xs:Array cE}{Q:cE->cF->Prop}(f:SCo b s.heap l xs)(h:∀h',IsEnum h' (s.heap.objs.size+1) s.heap.objs.size 0 .none->SIt b h' s.heap.objs.size l 0->h'.objs.size=s.heap.objs.size+2->(∀b o,s.heap.get? b=some o->h'.get? b=some o)->Q (.ref (s.heap.objs.size+1)) {s with heap:=h'}):
  cO (model prog w) A (call (.type "enumerate") [.ref l]) Q E s:=by
 refine callType_new F.called_enumerate (by decide) (F.typeCall_enumerate_1 _) (F.newCall_enumerate_1 _) (fun d=>F.args_object_init_2 d _) F.entry_enumerate_new (Ac (b:=b) l xs) ⟨f,?_⟩;have a:(s.heap.push (ft b l)).objs.size=s.heap.objs.size+1:=hZ1 ..
 show _/\_;rw[a];have e:IsEnum ((s.heap.push (ft b l)).push {cls:=.type "enumerate",data:=.fields #[.none,.bool false,.ref s.heap.objs.size,rawInt 0,.none,.none]}) (s.heap.objs.size+1) s.heap.objs.size 0 .none:=by
  have q:=hS1 (s.heap.push (ft b l)) (o:={cls:=.type "enumerate",data:=.fields #[.none,.bool false,.ref s.heap.objs.size,rawInt 0,.none,.none]}) rfl;rw[a]at q;exact q
 have hi:(s.heap.push (ft b l)).get? s.heap.objs.size=some (ft b l):=hS1 _ (by cases b<;>rfl);refine⟨⟨_,e,rfl⟩,h _ e (p9 (hP1 _ hi)) (by rw[hZ1,a]) fun c o x=>hP1 _ (hP1 _ x)⟩
theorem xj {b:Bool}{e it l:cG}{i:Nat}{xs:Array cE}{x old:cE}{Q:Option cE->cF->Prop}(he:IsEnum s.heap e it i old)(U:SIt b s.heap it l i)(tl:SCo b s.heap l xs)(hx:xs[i]? = some x)(k:e≠it)
  (V:∀h',IsEnumOut h' e it ((i:Int)+1) x s.heap.objs.size->SIt b h' it l (i+1)->h'.get? s.heap.objs.size=some {cls:=.type "tuple",data:=.seq #[.int i s.toks,x]}->h'.objs.size=s.heap.objs.size+1 ->
   (∀b o,b≠e->b≠it->s.heap.get? b=some o->h'.get? b=some o)->Q (some (.ref s.heap.objs.size)) {s with heap:=h',toks:=s.toks+1}):cO (model prog w) A (pyNext (.ref e)) Q E s:=by
 have T:s.TypeIs (.ref e) "enumerate":=⟨_,he,rfl⟩;unfold pyNext;refine wB1 (wpAny_attempt (wpAny_callSpecial?_slot (name:=Str.ofString "__next__") T F.slot_enumerate_next (wE1 F.slot_enumerate_next T F.entry_enumerate_next ?_ (F.args_enumerate_next_1 _))));obtain⟨n,g,d,tk,t⟩:=s;show cO _ _ (field (.ref e) 2 >>= _) _ _ _;refine wB1 (wpAny_field he rfl (x:=.ref it) rfl ?_);refine wB1 (lC U tl hx fun h1 H C=>?_);replace C:Heap.SameBut it n h1:=C;have p:IsEnum h1 e it i old:=(C.2 e k).trans he;show cO _ _ (field (.ref e) 3 >>= _) _ _ ⟨h1,g,d,tk,t⟩;refine wB1 (wpAny_field p rfl (x:=rawInt i) rfl ?_);show cO _ _ (field (.ref e) 4 >>= _) _ _ ⟨h1,g,d,tk,t⟩;refine wB1 (wpAny_field p rfl (x:=.none) rfl ?_);show cO _ _ (mkInt i >>= _) _ _ ⟨h1,g,d,tk,t⟩;refine wB1 (wpAny_mkInt ?_);show cO _ _ (setField (.ref e) 3 (rawInt ((i:Int)+1)) >>= _) _ _ ⟨h1,g,d,tk+1,t⟩;refine wB1 (wS1 p (by simp) fun h2 j G=>?_);replace G:Heap.SameBut e h1 h2:=G;replace j:IsEnum h2 e it ((i:Int)+1) old:=j;show cO _ _ (setField (.ref e) 4 .none >>= _) _ _ ⟨h2,g,d,tk+1,t⟩;refine wB1 (wS1 j (by simp) fun h3 m D=>?_);replace D:Heap.SameBut e h2 h3:=D;replace m:IsEnum h3 e it ((i:Int)+1) old:=m;show cO _ _ (newTuple [.int i tk,x] >>= _) _ _ ⟨h3,g,d,tk+1,t⟩;refine wB1 (wpAny_newTuple ?_);have r:IsEnum (h3.push {cls:=.type "tuple",data:=.seq #[.int i tk,x]}) e it ((i:Int)+1) old:=hP1 _ m;generalize f:h3.push {cls:=.type "tuple",data:=.seq #[.int i tk,x]}=h4 at r;have h:h3.objs.size=n.objs.size:=by rw[D.1,G.1,C.1]
 have P:e<n.objs.size:=hL1 he;have S:h4.get? n.objs.size=some {cls:=.type "tuple",data:=.seq #[.int i tk,x]}:=by rw[<- f,<- h];exact hS1 _ rfl
 have L:h4.objs.size=n.objs.size+1:=by rw[<- f,hZ1,h]
 have N:∀b o,b≠e->b≠it->n.get? b=some o->h4.get? b=some o:=fun b o a v R=>by
  rw[<- f];exact hP1 _ (D.extBut b o a (G.extBut b o a (C.extBut b o v R)))
 have M:SIt b h4 it l (i+1):=H.to fun o q=>by rw[<- f];exact hP1 _ (D.extBut _ _ (Ne.symm k) (G.extBut _ _ (Ne.symm k) q))
 show cO _ _ (Builtin.SmallTypes.ownedTupleIsFree (.ref e) >>= _) _ _ ⟨h4,g,d,tk+1,t⟩;rw[h];clear f m D j G p C H h h3 h2 h1;refine wB1 ?_;unfold Builtin.SmallTypes.ownedTupleIsFree;refine wB1 (wpAny_field r rfl (x:=.none) rfl (wP1 ?_));simp only[if_true];refine wB1 (wpAny_rule ?_);refine wB1 (wpAny_field r rfl (x:=old) rfl ?_);refine wB1 (wS1 r (by simp) fun h5 u J=>?_);replace J:Heap.SameBut e h4 h5:=J;replace u:IsEnum h5 e it ((i:Int)+1) x:=u;show cO _ _ (Builtin.SmallTypes.ownedTupleHandOut (.ref e) (.ref n.objs.size) >>= _) _ _ ⟨h5,g,d,tk+1,t⟩;refine wB1 ?_;unfold Builtin.SmallTypes.ownedTupleHandOut;refine wB1 (wS1 u (by simp) fun h6 B K=>?_);replace K:Heap.SameBut e h5 h6:=K;replace B:IsEnumOut h6 e it ((i:Int)+1) x n.objs.size:=B;refine wS1 B (by simp) fun h7 y I=>?_;replace I:Heap.SameBut e h6 h7:=I;replace y:IsEnumOut h7 e it ((i:Int)+1) x n.objs.size:=y;have O:∀c o,c≠e->h4.get? c=some o->h7.get? c=some o:=fun c o z q=>I.extBut _ _ z (K.extBut _ _ z (J.extBut _ _ z q));refine wB1 (wpAny_letGo (wP1 ⟨_,rfl,wP1 (V h7 y (M.to fun o q=>O _ o (Ne.symm k) q) (O _ _ (nG1 P) S) (by rw[I.1,K.1,J.1,L]) fun c o a v R=>O c o a (N c o a v R))⟩))
theorem Ad{b:Bool}{e it l:cG}{i:Nat}{xs:Array cE}{old:cE}{Q:Option cE->cF->Prop}(f:A.handled=none)(he:IsEnum s.heap e it i old)(g:SIt b s.heap it l i)(tl:SCo b s.heap l xs)(hx:xs[i]? = none)(h:∀h',Heap.ExtBut it s.heap h'->Q none {s with heap:=h'}):cO (model prog w) A (pyNext (.ref e)) Q E s:=by
 have d:s.TypeIs (.ref e) "enumerate":=⟨_,he,rfl⟩;unfold pyNext;refine wB1 (wpAny_attempt (wpAny_callSpecial?_slot (name:=Str.ofString "__next__") d F.slot_enumerate_next (wE1 F.slot_enumerate_next d F.entry_enumerate_next ?_ (F.args_enumerate_next_1 _))));show cO _ _ (field (.ref e) 2 >>= _) _ _ _;refine wB1 (wpAny_field he rfl (x:=.ref it) rfl ?_);refine wB1 (i8 f g tl hx fun h' x a c=>?_);obtain⟨o,j,hc⟩:=c;refine wB1 (wpAny_isInstance (T:="StopIteration") (b:=true) ⟨o,j,hc⟩ isSubtype_stop ?_);exact wP1 (h _ a)
theorem pE{e it:cG}{i:Int}{old:cE}{Q:cE->cF->Prop}(he:IsEnum s.heap e it i old)(h:Q (.ref e) s):cO (model prog w) A (pyIter (.ref e)) Q E s:=by
 have a:s.TypeIs (.ref e) "enumerate":=⟨_,he,rfl⟩;refine wpAny_pyIter_slot a F.slot_enumerate_iter (wE1 F.slot_enumerate_iter a F.entry_enumerate_iter ?_ (F.args_enumerate_iter_1 _));show cO _ _ (ret (.ref e)) _ _ s;exact wP1 ⟨_,rfl,"enumerate",_,a,F.slot_enumerate_next.lookup,h⟩
end
open PySem.AutoSeq1 (wpAny_loadPart')
structure JW (z ti to i1 i2:cG):Prop where
 a1:ti≠z
 a2:to≠z
 a3:i1≠z
 a4:i2≠z
 a5:ti≠to
 a6:ti≠i1
 a7:ti≠i2
 a8:to≠i1
 a9:to≠i2
 a10:i1≠i2
section
variable{prog:cH}{w:cJ}{A:cI}{E:cE->cF->Prop}{s:cF}{b1 b2:Bool}
theorem SCo.ne{b:Bool}{h:cP}{a c:cG}{xs:Array cE}{o:Obj}(x:SCo b h a xs)(e:h.get? c=some o)(n:∀ys k,o.data ≠ .seq ys k):a≠c:=by
 rintro rfl;cases b<;>(obtain⟨o',f,g,k,d⟩:=x;rw[e]at f;cases f;exact n _ _ d)
theorem SCo.ne_it{b f:Bool}{h:cP}{a it l:cG}{xs:Array cE}{i:Nat}(x:SCo b h a xs)(y:SIt f h it l i):a≠it:=by
 cases f<;>(obtain⟨o,e,c,d⟩:=y;exact x.ne e fun ys k z=>by rw[d]at z;cases z)
theorem xJ{z g to i1 l u r:cG}{k1 N:Nat}{xs ys:Array cE}{x y a b:cE}{Q:Option cE->cF->Prop}(D:JW z g to i1 l)(hz:IsZip s.heap z g to .none)(hti:IsPair s.heap g (.ref i1) (.ref l))(T:IsPair s.heap to a b)(n1:u≠to)(n2:r≠to)(h1:SIt b1 s.heap i1 u k1)(h2:SIt b2 s.heap l r N)(c1:SCo b1 s.heap u xs)(c2:SCo b2 s.heap r ys)(hx:xs[k1]?=some x)(hy:ys[N]?=some y)(hQ:∀h',IsZip h' z g to (rawInt s.heap.objs.size)->IsPair h' to x y->SIt b1 h' i1 u (k1+1)->SIt b2 h' l r (N+1)->IsPair h' s.heap.objs.size x y->h'.objs.size=s.heap.objs.size+1 ->
   (∀c o,c≠z->c≠to->c≠i1->c≠l->s.heap.get? c=some o->h'.get? c=some o)->Q (some (.ref s.heap.objs.size)) {s with heap:=h'}):cO (model prog w) A (pyNext (.ref z)) Q E s:=by
 have hT:s.TypeIs (.ref z) "zip":=⟨_,hz,rfl⟩;have l1z:u≠z:=c1.ne hz fun _ _ q=>by cases q
 have X:r≠z:=c2.ne hz fun _ _ q=>by cases q
 have K:r≠i1:=c2.ne_it h1;unfold pyNext;refine wB1 (wpAny_attempt (wpAny_callSpecial?_slot (name:=Str.ofString "__next__") hT F.slot_zip_next (wE1 F.slot_zip_next hT F.entry_zip_next ?_ (F.args_zip_next_1 _))));show cO _ _ (field (.ref z) 2 >>= _) _ _ _;refine wB1 (wpAny_field hz rfl (x:=.bool false) rfl ?_);show cO _ _ (field (.ref z) 3 >>= _) _ _ _;refine wB1 (wpAny_field hz rfl (x:=.ref g) rfl ?_);refine wB1 (wpAny_seqItems hti rfl ?_);show cO _ _ (Builtin.SmallTypes.ownedTupleIsFree (.ref z) >>= _) _ _ _;refine wB1 ?_;unfold Builtin.SmallTypes.ownedTupleIsFree;refine wB1 (wpAny_field hz rfl (x:=.none) rfl (wP1 ?_));simp only[if_true];refine wB1 (wpAny_rule ?_);refine wB1 (wpAny_field hz rfl (x:=.ref to) rfl ?_);refine wB1 (wS1 hz (by simp) fun g1 m n=>?_);replace m:IsZip g1 z g to .ellipsis:=m;refine wB1 ?_;simp only[bp,List.zipIdx_nil,bh,List.forIn_nil];refine wB1 (wB1 (wpAny_onRaise ?_));show cO _ _ (Builtin.SmallTypes.nextOf (.ref i1) >>= _) _ _ _
 refine wB1 (lC (h1.to fun o q=>n.extBut _ _ D.a3 q) (c1.to fun o q=>n.extBut _ _ l1z q) hx fun g2 Y B=>wP1 ?_);have i:IsPair g2 to a b:=B.extBut _ _ D.a8 (n.extBut _ _ D.a2 T);refine wB1 (wpAny_seqItems i rfl ?_);refine wB1 (wpAny_updateSeq_pair i fun g3 f v=>?_);replace f:IsPair g3 to x b:=f;refine wB1 (wpAny_letGo (wP1 ?_));refine wB1 (wB1 (wpAny_onRaise ?_));show cO _ _ (Builtin.SmallTypes.nextOf (.ref l) >>= _) _ _ _
 refine wB1 (lC (h2.to fun o q=>v.extBut _ _ D.a9.symm (B.extBut _ _ D.a10.symm (n.extBut _ _ D.a4 q))) (c2.to fun o q=>v.extBut _ _ n2 (B.extBut _ _ K (n.extBut _ _ X q))) hy fun g4 W C=>wP1 ?_);have j:IsPair g4 to x b:=C.extBut _ _ D.a9 f;refine wB1 (wpAny_seqItems j rfl ?_);refine wB1 (wpAny_updateSeq_pair j fun d e J=>?_);replace e:IsPair d to x y:=e;refine wB1 (wpAny_letGo (wP1 (wP1 ?_)));refine wB1 (wpAny_seqItems e rfl ?_);refine wB1 (wpAny_newTuple ?_);have H:d.objs.size=s.heap.objs.size:=by rw[J.1,C.1,v.1,B.1,n.1]
 have M:IsZip d z g to .ellipsis:=J.extBut _ _ D.a2.symm (C.extBut _ _ D.a4.symm (v.extBut _ _ D.a2.symm (B.extBut _ _ D.a3.symm m)));have U:∀c o,c≠z->c≠to->c≠i1->c≠l->s.heap.get? c=some o->d.get? c=some o:=fun c o p P Z R q=>J.extBut _ _ P (C.extBut _ _ R (v.extBut _ _ P (B.extBut _ _ Z (n.extBut _ _ p q))));have h15:SIt b1 d i1 u (k1+1):=Y.to fun o q=>J.extBut _ _ D.a8.symm (C.extBut _ _ D.a10 (v.extBut _ _ D.a8.symm q));have h25:SIt b2 d l r (N+1):=W.to fun o q=>J.extBut _ _ D.a9.symm q;have k:z<d.objs.size:=hL1 M;show cO _ _ (Builtin.SmallTypes.ownedTupleHandOut (.ref z) (.ref d.objs.size) >>= _) _ _ _;refine wB1 ?_;unfold Builtin.SmallTypes.ownedTupleHandOut;have hz6:IsZip (d.push {cls:=.type "tuple",data:=.seq #[x,y]}) z g to .ellipsis:=hP1 _ M;refine wB1 (wS1 hz6 (by simp) fun g7 t S=>?_);replace t:IsZip g7 z g to (rawInt d.objs.size):=t;refine wS1 t (by simp) fun G h V=>?_;replace h:IsZip G z g to (rawInt d.objs.size):=h;have O:∀c o,c≠z->d.get? c=some o->G.get? c=some o:=fun c o p q=>V.extBut _ _ p (S.extBut _ _ p (hP1 _ q));have I:IsPair G d.objs.size x y:=V.extBut _ _ (nG1 k) (S.extBut _ _ (nG1 k) (hS1 _ rfl));have L:G.objs.size=d.objs.size+1:=by rw[V.1,S.1,hZ1]
 rw[H]at h I L;refine wP1 ⟨_,rfl,wP1 ?_⟩;show Q (some (.ref d.objs.size)) _;rw[H]
 exact hQ G h (O _ _ D.a2 e) (h15.to fun o q=>O _ o D.a3 q) (h25.to fun o q=>O _ o D.a4 q) I L fun c o p P Z R q=>O c o p (U c o p P Z R q)
theorem AV{z m to i1 y G u:cG}{k1 K:Nat}{xs ys:Array cE}{a b:cE}{Q:Option cE->cF->Prop}(Y:A.handled=none)(D:JW z m to i1 y)(hz:IsZip s.heap z m to .none)(O:IsPair s.heap m (.ref i1) (.ref y))(I:IsPair s.heap to a b)(n1:G≠to)(n2:u≠to)(h1:SIt b1 s.heap i1 G k1)(h2:SIt b2 s.heap y u K)(H:SCo b1 s.heap G xs)(R:SCo b2 s.heap u ys)(C:xs[k1]?=none\/ys[K]?=none)(Z:∀h',(∀c o,c≠z->c≠to->c≠i1->c≠y->s.heap.get? c=some o->h'.get? c=some o)->Q none {s with heap:=h'}):cO (model prog w) A (pyNext (.ref z)) Q E s:=by
 have W:s.TypeIs (.ref z) "zip":=⟨_,hz,rfl⟩;have t:G≠z:=H.ne hz fun _ _ q=>by cases q
 have M:u≠z:=R.ne hz fun _ _ q=>by cases q
 have v:u≠i1:=R.ne_it h1;unfold pyNext;refine wB1 (wpAny_attempt (wpAny_callSpecial?_slot (name:=Str.ofString "__next__") W F.slot_zip_next (wE1 F.slot_zip_next W F.entry_zip_next ?_ (F.args_zip_next_1 _))));show cO _ _ (field (.ref z) 2 >>= _) _ _ _;refine wB1 (wpAny_field hz rfl (x:=.bool false) rfl ?_);show cO _ _ (field (.ref z) 3 >>= _) _ _ _;refine wB1 (wpAny_field hz rfl (x:=.ref m) rfl ?_);refine wB1 (wpAny_seqItems O rfl ?_);show cO _ _ (Builtin.SmallTypes.ownedTupleIsFree (.ref z) >>= _) _ _ _;refine wB1 ?_;unfold Builtin.SmallTypes.ownedTupleIsFree;refine wB1 (wpAny_field hz rfl (x:=.none) rfl (wP1 ?_));simp only[if_true];refine wB1 (wpAny_rule ?_);refine wB1 (wpAny_field hz rfl (x:=.ref to) rfl ?_);refine wB1 (wS1 hz (by simp) fun g1 g i=>?_);replace g:IsZip g1 z m to .ellipsis:=g;refine wB1 ?_;simp only[bp,List.zipIdx_nil,bh,List.forIn_nil];refine wB1 (wB1 (wpAny_onRaise ?_));show cO _ _ (Builtin.SmallTypes.nextOf (.ref i1) >>= _) _ _ _
 cases hx:xs[k1]? with
 |none=>
  refine wB1 (i8 Y (h1.to fun o q=>i.extBut _ _ D.a3 q) (H.to fun o q=>i.extBut _ _ t q) hx fun L e k J=>?_);obtain⟨P,d,f⟩:=J;have B:IsZip L z m to .ellipsis:=k _ _ D.a3.symm g;have l:e≠z:=fun q=>by subst q;rw[B]at d;cases d;simp at f
  refine wS1 B (by simp) fun V _ n=>?_;refine wB1 (wpAny_isInstance (T:="StopIteration") (b:=true) ⟨P,n.extBut _ _ l d,f⟩ isSubtype_stop ?_);exact wP1 (Z V fun c o r _ N _ q=>n.extBut _ _ r (k _ _ N (i.extBut _ _ r q)))
 |some x=>
  have hy:ys[K]?=none:=by rcases C with h|h;rw[hx]at h;cases h;exact h
  refine wB1 (lC (h1.to fun o q=>i.extBut _ _ D.a3 q) (H.to fun o q=>i.extBut _ _ t q) hx fun L h12 k=>wP1 ?_);have j:IsPair L to a b:=k.extBut _ _ D.a8 (i.extBut _ _ D.a2 I);refine wB1 (wpAny_seqItems j rfl ?_);refine wB1 (wpAny_updateSeq_pair j fun V U n=>?_);refine wB1 (wpAny_letGo (wP1 ?_));refine wB1 (wB1 (wpAny_onRaise ?_));show cO _ _ (Builtin.SmallTypes.nextOf (.ref y) >>= _) _ _ _
  refine wB1 (i8 Y (h2.to fun o q=>n.extBut _ _ D.a9.symm (k.extBut _ _ D.a10.symm (i.extBut _ _ D.a4 q))) (R.to fun o q=>n.extBut _ _ n2 (k.extBut _ _ v (i.extBut _ _ M q))) hy fun g4 e S J=>?_);obtain⟨P,d,f⟩:=J;have p:IsZip g4 z m to .ellipsis:=S _ _ D.a4.symm (n.extBut _ _ D.a2.symm (k.extBut _ _ D.a3.symm g));have l:e≠z:=fun q=>by subst q;rw[p]at d;cases d;simp at f
  refine wS1 p (by simp) fun g5 _ X=>?_;refine wB1 (wpAny_isInstance (T:="StopIteration") (b:=true) ⟨P,X.extBut _ _ l d,f⟩ isSubtype_stop ?_);exact wP1 (Z g5 fun c o r q2 N q4 q=>X.extBut _ _ r (S _ _ q4 (n.extBut _ _ q2 (k.extBut _ _ N (i.extBut _ _ r q)))))
def zH(b1 b2:Bool)(h:cP)(l1 l2:cG):cP:=((((h.push (ft b1 l1)).push (ft b2 l2)).push {cls:=.type "tuple",data:=.seq #[.ref h.objs.size,.ref (h.objs.size+1)]}).push {cls:=.type "tuple",data:=.seq #[.none,.none]}).push
 {cls:=.type "zip",data:=.fields #[.none,.bool false,.bool false,.ref (h.objs.size+2),.ref (h.objs.size+3)]}
theorem AT(a b:cG)(xs ys:Array cE):Meets (Builtin.«zip.__new__» ⟨[.type "zip",.ref a,.ref b],[]⟩) (fun _ R s=>SCo b1 s.heap a xs/\SCo b2 s.heap b ys/\R (.ok (.ret (.ref (s.heap.objs.size+4)))) {s with heap:=zH b1 b2 s.heap a b}):=
 .of_wp fun prog w A R s h=>by
  obtain⟨c,g,d,tk,f⟩:=s;obtain⟨k,l,h⟩:=h;have e:=sub_zip
  have i:SCo b1 (Shared.heap ⟨c,g,d,tk,f⟩) a xs:=k;have j:SCo b2 (Shared.heap ⟨c.push (ft b1 a),g,d,tk,f⟩) b ys:=l.to fun o q=>hP1 _ q
  wp_walk using iH i,iH j
  refine⟨_,rfl,?_⟩;have m:(c.push (ft b1 a)).objs.size=c.objs.size+1:=hZ1 ..
  simp only[hZ1,zH]at h ⊢;exact h
theorem xK{d b:cG}{xs ys:Array cE}{Q:cE->cF->Prop}(k:SCo b1 s.heap d xs)(r:SCo b2 s.heap b ys)(h:∀h',IsZip h' (s.heap.objs.size+4) (s.heap.objs.size+2) (s.heap.objs.size+3) .none->IsPair h' (s.heap.objs.size+2) (.ref s.heap.objs.size) (.ref (s.heap.objs.size+1))->IsPair h' (s.heap.objs.size+3) .none .none ->
   SIt b1 h' s.heap.objs.size d 0->SIt b2 h' (s.heap.objs.size+1) b 0->h'.objs.size=s.heap.objs.size+5->(∀c o,s.heap.get? c=some o->h'.get? c=some o)->Q (.ref (s.heap.objs.size+4)) {s with heap:=h'}):
  cO (model prog w) A (call (.type "zip") [.ref d,.ref b]) Q E s:=by
 refine callType_new F.called_zip (by decide) (F.typeCall_zip_2 _ _) (F.newCall_zip_2 _ _) (fun g=>F.args_object_init_3 g _ _) F.entry_zip_new (AT (b1:=b1) (b2:=b2) d b xs ys) ⟨k,r,?_⟩;have a:∀{h:cP} {o:Obj} {c:cG} {u:Obj},h.get? c=some u->(h.push o).get? c=some u:=fun q=>hP1 _ q;have at_:∀{h:cP} {o:Obj} {n:Nat},h.objs.size=n->o.isFreed=false->(h.push o).get? n=some o:=fun e f=>by rw[<- e];exact hS1 _ f
 have m:(ft b1 d).isFreed=false:=by cases b1<;>rfl
 have p:(ft b2 b).isFreed=false:=by cases b2<;>rfl
 have j:(zH b1 b2 s.heap d b).get? s.heap.objs.size=some (ft b1 d):=a (a (a (a (at_ rfl m))));have v:(zH b1 b2 s.heap d b).get? (s.heap.objs.size+1)=some (ft b2 b):=a (a (a (at_ (by simp only[hZ1]) p)));have l:IsPair (zH b1 b2 s.heap d b) (s.heap.objs.size+2) (.ref s.heap.objs.size) (.ref (s.heap.objs.size+1)):=a (a (at_ (by simp only[hZ1]) rfl));have t:IsPair (zH b1 b2 s.heap d b) (s.heap.objs.size+3) .none .none:=a (at_ (by simp only[hZ1]) rfl);have i:IsZip (zH b1 b2 s.heap d b) (s.heap.objs.size+4) (s.heap.objs.size+2) (s.heap.objs.size+3) .none:=at_ (by simp only[hZ1]) rfl;exact⟨⟨_,i,rfl⟩,h _ i l t (p9 j) (p9 v) (by simp only[zH,hZ1]) fun c o q=>a (a (a (a (a q))))⟩
end
def rO(K:Fg1)(b:Bool)(H:Hp)(a:cG)(xs:List V):Prop:=match b with
 |true=>mR K H a xs
 |false=>kB K H a xs
section
variable{X:Cx}{pins:List (cG×Obj)}{σ:L2.St}{H:Hp}{s:cF}
theorem ej{b:Bool}{a:cG}{xs:List V}(I:Inv X pins σ H s)(h:rO X.K b H a xs):∃c:List cE,dE xs c/\SCo b s.heap a c.toArray/\xs.length<=cN:=by
 cases b
 ·obtain⟨c,r,p,z⟩:=I.tuple h;exact⟨c,r,p,z⟩
 ·obtain⟨c,r,p,z⟩:=I.list h;exact⟨c,r,p.isList,z⟩
theorem na{b:Bool}{a:cG}{xs ys:List V}(I:Inv X pins σ H s)(h:rO X.K b H a xs)(h':rO X.K b H a ys):xs=ys:=by
 cases b
 ·exact I.tuple_inj h h'
 ·exact I.list_inj h h'
theorem p0{b:Bool}{a c:cG}{xs:List V}(I:Inv X pins σ H s)(h:rO X.K b H a xs)(f:kC X pins H c):a≠c:=by
 rintro rfl;have d:∀{o},X.K.lookup a=some o->False:=fun{o} e=>by
  have g:=I.ok.mod.kin _ _ e;rcases f.2.2.2.1 with z|z
  ·exact I.ok.noex _ _ g z
  ·exact absurd (nL1 (hL1 g) (ai I.ok.bsz z)) (af _)
 cases b
 ·rcases h with(h|⟨_,h⟩)|⟨_,_,_,h,_⟩
  ·rw[f.1]at h;cases h
  ·rw[f.1]at h;cases h
  ·exact d h
 ·rcases h with(h|⟨_,h⟩)|⟨_,_,_,h,_⟩
  ·rw[f.1]at h;cases h
  ·rw[f.1]at h;cases h
  ·exact d h
theorem sX(I:Inv X pins σ H s){fp:List cG}(hf:∀ b∈fp,kC X pins H b){h':cP}{p:cG}{xs:List V}{its:List cE}{t':Nat}(hp:s.heap.objs.size<=p)(f:∀ b o,b∉fp->s.heap.get? b=some o->h'.get? b=some o)(k:IsTup h' p its.toArray)(j:dE xs its)(hz:xs.length<=cN):Inv X pins σ (upd H p (.tup xs)) {s with heap:=h',toks:=t'}:=by
 have d:H p=none:=I.hok.fresh hp;have g:∀{b o},s.heap.get? b=some o->b≠p:=fun e=>nN1 (nL1 (hL1 e) hp);have h:∀{b u},H b=some u->b∉fp:=fun e z=>by rw[(hf _ z).1]at e;cases e
 refine I.step (g':=s.gens) (d':=s.drawn) (ch:=fp) (fun b a=>⟨(hf b a).2.2.2.1,(hf b a).2.1,(hf b a).2.2.2.2.1,(hf b a).2.2.2.2.2⟩) (fun b o _ _ hc e _=>f b o hc e) (fun b o _ _ hc e _=>⟨o.slots,f b o hc e⟩) (fun b o _ e n=>?_)
  (fun b o hc e=>⟨o,f b o hc e⟩) (fun b ys e=>?_) (fun b o u e=>?_) (fun b ps e=>⟨#[],?_⟩) (fun m i=>?_) (fun b u e=>?_) I.bare
 ·rw[dm (g e)];exact n
 ·rw[dm (dJ e d)];exact e
 ·rw[dm (dJ e d)];exact e
 ·rw[dm (dJ e d),e];simp
 ·obtain⟨o,es,ep,l,r⟩:=i;exact⟨o,es,ep,f _ o (fun z=>(hf _ z).2.1 rfl) l,r⟩
 ·by_cases a:b=p
  ·subst a;rw[dw]at e;cases e;exact⟨hz,its,j,k⟩
  ·rw[dm a]at e;refine(I.hok b u e).stay (fun c v hc q=>f c v ?_ q) (fun c q=>by rw[dm (dJ q d)];exact q) fun c ys q=>by rw[dm (dJ q d)];exact q
   rcases hc with z|z
   ·rw[z];exact h e
   ·exact h z
theorem n6(I:Inv X pins σ H s){fp:List cG}(hf:∀b∈fp,kC X pins H b){h':cP}{t':Nat}(a:∀b o,b∉fp->s.heap.get? b=some o->h'.get? b=some o):Inv X pins σ H {s with heap:=h',toks:=t'}:=by
 have f:∀{b u},H b=some u->b∉fp:=fun e z=>by rw[(hf _ z).1]at e;cases e
 refine I.step (g':=s.gens) (d':=s.drawn) (ch:=fp) (fun b d=>⟨(hf b d).2.2.2.1,(hf b d).2.1,(hf b d).2.2.2.2.1,(hf b d).2.2.2.2.2⟩) (fun b o _ _ hc e _=>a b o hc e) (fun b o _ _ hc e _=>⟨o.slots,a b o hc e⟩) (fun b o _ e n=>n)
  (fun b o hc e=>⟨o,a b o hc e⟩) (fun b ys e=>e) (fun b o u e=>e) (fun b ps e=>⟨#[],by rw[e];simp⟩) (fun m g=>?_) (fun b u e=>?_) I.bare
 ·obtain⟨o,es,ep,h,r⟩:=g;exact⟨o,es,ep,a _ o (fun z=>(hf _ z).2.1 rfl) h,r⟩
 ·refine(I.hok b u e).stay (fun c v hc q=>a c v ?_ q) (fun c q=>q) fun c ys q=>q;rcases hc with z|z
  ·rw[z];exact f e
  ·exact f z
end
theorem r0:(2:Nat)<=cN:=by decide
def Kq(K:Fg1)(b:Bool)(a:cG):It:=
 ⟨fun i H=>∃xs x,rO K b H a xs/\xs[i]?=some x,fun i H x H'=>∃p v,H p=none/\x = .ref p/\H'=upd H p (.tup [.int i,v]) /\ ∀xs,rO K b H a xs->xs[i]?=some v,fun i H=>∃xs,rO K b H a xs/\xs.length<=i⟩
theorem wE{P:cH}{w:cJ}{K:Fg1}{elts:List Expr}{k:Nat}{pos:Pos}(b:Bool)(a e it:cG)(ne:e≠it):uU P w K (.Tuple elts k pos) (Kq K b a) [e,it] e (fun i h=>(∃old,IsEnum h e it (i:Nat) old)/\SIt b h it a i) where
 mem:=by simp
 obj:=by
  rintro i h ⟨⟨old,st⟩,J⟩ c hc;rcases ak.mp hc with z|z
  ·subst z;exact⟨_,st,fun v q=>by cases q⟩
  ·have z':c=it:=by simpa using z
   subst z';exact J.rec_
 keep:=fun i h h' ⟨⟨old,st⟩,J⟩ O=>⟨⟨old,O e (by simp) _ st⟩,J.to fun o q=>O it (by simp) o q⟩
 item:=by
  intro X L C t hc i pins s σ H E I j st n;subst L C t;obtain⟨⟨old,g⟩,m⟩:=st;obtain⟨xs,x,l,A⟩:=n;obtain⟨F,r,co,U⟩:=ej I l;obtain⟨u,V,ru⟩:=r.get A;refine xj g m co (x:=u) (by simpa using V) ne fun h1 M p G R B=>?_;refine⟨.ref s.heap.objs.size,rfl,?_⟩;refine wpAny_letOwnedTupleGo_enum M fun h2 y d=>?_;have N:s.heap.objs.size≠e:=nG1 (hL1 g);have D:∀c o,c∉[e,it]->s.heap.get? c=some o->h2.get? c=some o:=fun c o hc q=>by
   have f:c≠e:=fun z=>hc (by simp[z]);have c2:c≠it:=fun z=>hc (by simp[z]);exact d.extBut _ _ f (B c o f c2 q)
  have S:IsTup h2 s.heap.objs.size [.int (i:Nat) s.toks,u].toArray:=⟨_,d.extBut _ _ N G,rfl,_,rfl⟩;have W:=sX I j (t':=s.toks+1) (nR1 _) D S (xs:=[.int i,x]) (.cons ⟨_,rfl⟩ (.cons ru .nil)) r0;have hn:H s.heap.objs.size=none:=I.hok.fresh (nR1 _);refine⟨.ref s.heap.objs.size,_,W,rfl,⟨_,x,hn,rfl,rfl,fun ys Y=>by rw[na I Y l];exact A⟩,⟨⟨u,?_⟩,p.to fun o q=>d.extBut _ _ (Ne.symm ne) q⟩,fun c hc=>?_⟩
  ·have:((i+1:Nat):Int)=(i:Int)+1:=by push_cast;rfl
   rw[this];exact y
  ·have f:c≠s.heap.objs.size:=fun z=>by
    rcases ak.mp hc with q|q
    ·exact N (z.symm.trans q)
    ·have Z:c=it:=by simpa using q
     obtain⟨o,Q,_⟩:=m.rec_;rw[<- Z,z]at Q;exact af _ (hL1 Q)
   rw[dm f];exact(j c hc).1
 done:=by
  intro X L C t hc i pins s σ H E I j st n;subst L C t;obtain⟨⟨old,g⟩,m⟩:=st;obtain⟨xs,l,A⟩:=n;obtain⟨F,r,co,U⟩:=ej I l;have hl:=r.length;refine Ad (I.ok.hd hc) g m co (by simp;lia) fun h' T=>⟨rfl,n6 I (t':=s.toks) j fun c o hc q=>T c o (fun z=>hc (by simp[z])) q⟩
 self:=fun _ _ _ _ _ ⟨⟨_,st⟩,_⟩ h=>pE st h
def Kn(K:Fg1)(b1 b2:Bool)(a1 a2:cG):It:=
 ⟨fun i H=>∃xs ys x y,rO K b1 H a1 xs/\rO K b2 H a2 ys/\xs[i]?=some x/\ys[i]?=some y,fun i H x H'=>∃p v u,H p=none/\x = .ref p/\H'=upd H p (.tup [v,u])/\(∀xs,rO K b1 H a1 xs->xs[i]?=some v) /\ ∀ys,rO K b2 H a2 ys->ys[i]?=some u,
  fun i H=>∃xs ys,rO K b1 H a1 xs/\rO K b2 H a2 ys/\(xs.length<=i\/ys.length<=i)⟩
theorem xY{P:cH}{w:cJ}{K:Fg1}{elts:List Expr}{k:Nat}{pos:Pos}(b1 b2:Bool)(Z a2 z p to t A:cG)(D:JW z p to t A):uU P w K (.Tuple elts k pos) (Kn K b1 b2 Z a2) [z,p,to,t,A] z
  (fun i h=>IsZip h z p to .none/\IsPair h p (.ref t) (.ref A)/\(∃u v,IsPair h to u v)/\SIt b1 h t Z i/\SIt b2 h A a2 i) where
 mem:=by simp
 obj:=by
  rintro i h ⟨l,b,⟨u,v,j⟩,d,g⟩ c hc;simp only[ak,bq,or_false]at hc;rcases hc with rfl|rfl|rfl|rfl|rfl
  ·exact⟨_,l,fun v q=>by cases q⟩
  ·exact⟨_,b,fun v q=>by cases q⟩
  ·exact⟨_,j,fun v q=>by cases q⟩
  ·exact d.rec_
  ·exact g.rec_
 keep:=fun i h h' ⟨l,b,⟨u,v,j⟩,d,g⟩ F=>⟨F z (by simp) _ l,F p (by simp) _ b,⟨u,v,F to (by simp) _ j⟩,d.to fun o q=>F t (by simp) o q,g.to fun o q=>F A (by simp) o q⟩
 item:=by
  intro X V S O hc i pins s σ H E I f st L;subst V S O;obtain⟨l,b,⟨u0,v0,j⟩,d,g⟩:=st;obtain⟨xs,ys,x,y,B,C,ex,ey⟩:=L;obtain⟨U,N,co,hz⟩:=ej I B;obtain⟨J,m,n,W⟩:=ej I C;obtain⟨u,hu,ru⟩:=N.get ex;obtain⟨Q,R,M⟩:=m.get ey;refine xJ D l b j (p0 I B (f to (by simp))) (p0 I C (f to (by simp))) d g co n (x:=u) (y:=Q) (by simpa using hu) (by simpa using R) fun h1 p1 p2 p3 p4 p5 p6 G=>?_;refine⟨.ref s.heap.objs.size,rfl,?_⟩;refine wpAny_letOwnedTupleGo_zip p1 fun h2 z2 a=>?_;have lt:∀c∈[z,p,to,t,A],c≠s.heap.objs.size:=fun c hc e=>by
   obtain⟨o,eo⟩:∃o,s.heap.get? c=some o:=by
    simp only[ak,bq,or_false]at hc;rcases hc with rfl|rfl|rfl|rfl|rfl
    ·exact⟨_,l⟩
    ·exact⟨_,b⟩
    ·exact⟨_,j⟩
    ·obtain⟨o,e,_⟩:=d.rec_;exact⟨o,e⟩
    ·obtain⟨o,e,_⟩:=g.rec_;exact⟨o,e⟩
   rw[e]at eo;exact af _ (hL1 eo)
  have T:∀c o,c∉[z,p,to,t,A]->s.heap.get? c=some o->h2.get? c=some o:=fun c o hc q=>by
   simp only[ak,bq,or_false,not_or]at hc;exact a.extBut _ _ hc.1 (G c o hc.1 hc.2.2.1 hc.2.2.2.1 hc.2.2.2.2 q)
  have tp:IsTup h2 s.heap.objs.size [u,Q].toArray:=⟨_,a.extBut _ _ (Ne.symm (lt z (by simp))) p5,rfl,_,rfl⟩;have I2:=sX I f (t':=s.toks) (nR1 _) T tp (xs:=[x,y]) (.cons ru (.cons M .nil)) r0;have hn:H s.heap.objs.size=none:=I.hok.fresh (nR1 _);refine⟨.ref s.heap.objs.size,_,I2,rfl,⟨_,x,y,hn,rfl,rfl,fun Y r=>by rw[na I r B];exact ex,fun Y r=>by rw[na I r C];exact ey⟩,
   ⟨z2,a.extBut _ _ D.a1 (G _ _ D.a1 D.a5 D.a6 D.a7 b),⟨u,Q,a.extBut _ _ D.a2 p2⟩,p3.to fun o q=>a.extBut _ _ D.a3 q,p4.to fun o q=>a.extBut _ _ D.a4 q⟩,fun c hc=>?_⟩
  rw[dm (lt c hc)];exact(f c hc).1
 done:=by
  intro X V S O hc i pins s σ H E I f st L;subst V S O;obtain⟨l,b,⟨u0,v0,j⟩,d,g⟩:=st;obtain⟨xs,ys,B,C,hl⟩:=L;obtain⟨U,N,co,hz⟩:=ej I B;obtain⟨J,m,n,W⟩:=ej I C;have l1:=N.length;have l2:=m.length;refine AV (I.ok.hd hc) D l b j (p0 I B (f to (by simp))) (p0 I C (f to (by simp))) d g co n (by simp;lia) fun h' eb=>⟨rfl,n6 I (t':=s.toks) f fun c o hc q=>?_⟩;simp only[ak,bq,or_false,not_or]at hc;exact eb c o hc.1 hc.2.2.1 hc.2.2.2.1 hc.2.2.2.2 q
 self:=fun _ _ _ _ _ ⟨st,_⟩ h=>wpAny_pyIter_zip st h
section
variable{X:Cx}{elts:List Expr}{k:Nat}{tpos:Pos}
def Ic(K:Fg1)(ta:TA):TI:=fun σ H R=>ta σ H fun vs H1=>∃a b,vs=[.ref a]/\(∃xs,rO K b H1 a xs)/\R (Kq K b a) H1
theorem BK {a:Expr}{ta:TA}{p pos:Pos}(hg:Gl X "enumerate")(hm:X.mg "enumerate"=none)(ha:PA X [a] ta)(hs:cM [a] X.env=[(false,eval a X.env)]:=by rfl):PI X (.Tuple elts k tpos) (.Call (.Name "enumerate" p) [a] [] pos) (Ic X.K ta):=by
 intro pins s σ H R I h;refine Call_ (jU I hg hm boot_enumerate (PyProof.Rows.callWith_type1 (eQ (ha pos pins s σ H _ I h) fun C f ⟨vs,H1,g,w,y⟩=>?_) hs rfl));obtain⟨c,b,e,⟨xs,t⟩,q⟩:=y;subst e;cases w with
 |cons r m=>
  cases m;cases r;obtain⟨l,B,co,A⟩:=ej g t;refine xk co fun h' i u o v=>pE i ?_;have x:Inv X pins σ H1 {f with heap:=h'}:=g.kept (t':=f.toks) v;refine⟨f.heap.objs.size+1,[f.heap.objs.size+1,f.heap.objs.size],_,_,H1,rfl,x,wE b c _ _ (Nat.succ_ne_self _),⟨⟨.none,i⟩,u⟩,fun d j=>?_,q⟩;rcases ak.mp j with z|z
  ·subst z;exact g.fpOk (aI _) (g.hok.fresh (aI _))
  ·have n:d=f.heap.objs.size:=by simpa using z
   subst n;exact g.fpOk (nR1 _) (g.hok.fresh (nR1 _))
def JF(K:Fg1)(ta:TA):TI:=fun σ H R=>ta σ H fun vs H1=>∃a1 b1 a2 b2,vs=[.ref a1,.ref a2]/\(∃xs,rO K b1 H1 a1 xs)/\(∃xs,rO K b2 H1 a2 xs)/\R (Kn K b1 b2 a1 a2) H1
theorem Ew {a b:Expr}{ta:TA}{p pos:Pos}(hg:Gl X "zip")(hm:X.mg "zip"=none)(ha:PA X [a,b] ta)(hs:cM [a,b] X.env=[(false,eval a X.env),(false,eval b X.env)]:=by rfl)(hs2:cM [b] X.env=[(false,eval b X.env)]:=by rfl):
  PI X (.Tuple elts k tpos) (.Call (.Name "zip" p) [a,b] [] pos) (JF X.K ta):=by
 intro pins s σ H R I h;refine Call_ (jU I hg hm boot_zip (PyProof.Rows.callWith_type1 (eQ (ha pos pins s σ H _ I h) fun M c ⟨vs,H1,g,y,D⟩=>?_) (by rw[hs,hs2]) (by rw[hs2];rfl)));obtain⟨v,b1,K,b2,e,⟨xs,w⟩,⟨ys,E⟩,q⟩:=D;subst e;cases y with
 |cons r j=>
  cases j with
  |cons t j=>
   cases j;cases r;cases t;obtain⟨B,L,co,N⟩:=ej g w;obtain⟨m,u,i,G⟩:=ej g E;refine xK co i fun h' n x C o A O J=>wpAny_pyIter_zip n ?_;have F:Inv X pins σ H1 {c with heap:=h'}:=g.kept (t':=c.toks) J;refine⟨c.heap.objs.size+4,[c.heap.objs.size+4,c.heap.objs.size+2,c.heap.objs.size+3,c.heap.objs.size,c.heap.objs.size+1],_,_,H1,rfl,F,xY b1 b2 v K _ _ _ _ _ ?_,⟨n,x,⟨_,_,C⟩,o,A⟩,fun d l=>?_,q⟩
   ·constructor<;>(intro z;have P:((_:Nat)=_):=z;lia)
   ·have f:c.heap.objs.size<=d:=by
     simp only[ak,bq,or_false]at l;rcases l with rfl|rfl|rfl|rfl|rfl
     ·exact aY _ _
     ·exact aY _ _
     ·exact aY _ _
     ·exact nR1 _
     ·exact aY _ _
    exact g.fpOk f (g.hok.fresh f)
end
def dj(S:Sto):D->Option (Bool×List D)
 | .tup xs=>some (false,xs)
 | .rol xs=>some (true,xs)
 | .ref n=>match S[n]? with
  |some (.lst xs)=>some (true,xs)
  |_=>none
 |_=>none
def j1(S:Sto):D->List (Nat×List D)
 | .ref n=>match S[n]? with
  |some (.lst xs)=>[(n,xs)]
  |_=>[]
 |_=>[]
section
variable{K:Fg1}{H:Hp}{mu:List cG}{S:Sto}
theorem db{d:D}{v:V}{b:Bool}{xs:List D}(r:eD K H mu d v)(s:Sim K H mu S)(h:dj S d=some (b,xs)):∃a vs,v = .ref a/\rO K b H a vs/\dh K H mu xs vs:=by
 cases d with
 |tup ys=>cases h;cases r with|tup q t=>exact⟨_,_,rfl,q,t⟩
 |rol ys=>cases h;cases r with|rol q t=>exact⟨_,_,rfl,q.sq,t⟩
 |ref n=>
  rw[dj]at h;split at h
  ·rename_i ys e;cases h;cases r with
   |ref q=>
    obtain⟨vs,f,c⟩:=s.lst e q;exact⟨_,vs,rfl,mR.of f,c⟩
  ·cases h
 |_=>cases h
theorem iI{d:D}{a:cG}{b:Bool}{xs:List D}(r:eD K H mu d (.ref a))(s:Sim K H mu S)(h:dj S d=some (b,xs)){H1:Hp}{mu1:List cG}{S1:Sto}(x:rT mu mu1 H H1)(g:Sim K H1 mu1 S1)(ok:oS S1 (j1 S d)=true):
  ∃vs,rO K b H1 a vs/\dh K H1 mu1 xs vs:=by
 have c:=r.exw x;have h1:dj S1 d=some (b,xs):=by
  cases d with
  |ref n=>
   rw[dj]at h;split at h
   ·rename_i ys e;cases h;rw[j1,e]at ok;dsimp only[oS]at ok;rw[br]at ok;rw[dj];split at ok
    ·rename_i zs f
     first|rw[f,D.sames_eq ok] | rw[D.sames_eq ok]
    ·cases ok
   ·cases h
  |_=>exact h
 obtain⟨i,vs,e,q,t⟩:=db c g h1;cases e;exact⟨vs,q,t⟩
end
def fC(m:FE):FI:=fun r S=>(m r S).bind fun p=>(dj p.2 p.1).bind fun q=>some (⟨q.2,j1 p.2 p.1⟩,p.2)
def rS:Nat->List D->List D
 |_,[]=>[]
 |n,d::ds=>.tup [.int n,d]::rS (n+1) ds
def mK(m:FA):FI:=fun r S=>(m r S).bind fun p=>match p.1 with
 |[d]=>(dj p.2 d).bind fun q=>some (⟨rS 0 q.2,j1 p.2 d⟩,p.2)
 |_=>none
def rV:List D->List D->List D
 |x::xs,y::ys=>.tup [x,y]::rV xs ys
 |_,_=>[]
def Dv(m:FA):FI:=fun r S=>(m r S).bind fun p=>match p.1 with
 |[d,e]=>(dj p.2 d).bind fun q=>(dj p.2 e).bind fun t=>some (⟨rV q.2 t.2,j1 p.2 d++j1 p.2 e⟩,p.2)
 |_=>none
def gP(lo:Int):Nat->List D
 |0=>[]
 |n+1=>.int lo::gP (lo+1) n
def rR(m:FA):FI:=fun r S=>(m r S).bind fun p=>match p.1 with
 |[.int j]=>if-(2^62)<=j/\j<2^62 then some (⟨gP 0 j.toNat,[]⟩,p.2)else none
 |_=>none
def Ia(m:FA):FI:=fun r S=>(m r S).bind fun p=>match p.1 with
 |[.int i,.int j]=>if-(2^62)<=i/\i<2^62 /\ -(2^62)<=j/\j<2^62 then some (⟨gP i (j-i).toNat,[]⟩,p.2)else none
 |_=>none
theorem fb:∀(ds:List D) (n i:Nat),(rS n ds)[i]?=(ds[i]?).map fun d=>.tup [.int ((n+i:Nat):Int),d]
 |[],n,i=>by simp[rS]
 |d::ds,n,0=>by simp[rS]
 |d::ds,n,i+1=>by
  rw[rS,gC1,fb ds (n+1) i,gC1];rw[show n+1+i=n+(i+1) by lia]
theorem e9:∀(ds:List D) (n:Nat),(rS n ds).length=ds.length
 |[],_=>rfl
 |d::ds,n=>by rw[rS,lC1,e9 ds,lC1]
theorem uZ:∀(xs ys:List D) (i:Nat) (d:D),(rV xs ys)[i]?=some d -> ∃x y,xs[i]?=some x/\ys[i]?=some y/\d = .tup [x,y]
 |[],_,i,d,h=>by simp[rV]at h
 |_::_,[],i,d,h=>by simp[rV]at h
 |x::xs,y::ys,0,d,h=>by simp[rV]at h;exact⟨x,y,rfl,rfl,h.symm⟩
 |x::xs,y::ys,i+1,d,h=>by
  rw[rV,gC1]at h;obtain⟨e,f,c,a,b⟩:=uZ xs ys i d h;exact⟨e,f,by simpa using c,by simpa using a,b⟩
theorem uY:∀(xs ys:List D) (i:Nat),(rV xs ys).length<=i->xs.length<=i\/ys.length<=i
 |[],_,i,_=>.inl (aR _)
 |_::_,[],i,_=>.inr (aR _)
 |x::xs,y::ys,0,h=>by simp[rV]at h
 |x::xs,y::ys,i+1,h=>by
  rcases uY xs ys i (by simpa[rV]using h)with q|q
  ·exact .inl (by simpa using q)
  ·exact .inr (by simpa using q)
theorem nU:∀(n:Nat) (lo:Int) (i:Nat) (d:D),(gP lo n)[i]?=some d->i<n/\d = .int (lo+i)
 |0,lo,i,d,h=>by simp[gP]at h
 |n+1,lo,0,d,h=>by simp[gP]at h;exact⟨bt _,by rw[<- h];simp⟩
 |n+1,lo,i+1,d,h=>by
  rw[gP,gC1]at h;obtain⟨h1,h2⟩:=nU n (lo+1) i d h;refine⟨Nat.succ_lt_succ h1,?_⟩;rw[h2,show lo+1+(i:Int)=lo+((i+1:Nat):Int) by push_cast;lia]
theorem eg:∀(n:Nat) (lo:Int),(gP lo n).length=n
 |0,_=>rfl
 |n+1,lo=>by rw[gP,lC1,eg n]
theorem vt{S:Sto}:∀{c a:List (Nat×List D)},oS S (c++a)=true->oS S c=true/\oS S a=true
 |[],_,h=>⟨rfl,h⟩
 |(n,xs)::c,a,h=>by
  rw[aS,oS,bA1]at h;obtain⟨h1,h2⟩:=vt h.2;exact⟨by rw[oS,bA1];exact⟨h.1,h1⟩,h2⟩
section
variable{X:Cx}{tg:Expr}
theorem sV(K:Fg1)(lo:Int)(n:Nat)(mu:List cG)(H:Hp):J7 K (IJ lo n) ⟨gP lo n,[]⟩ mu H:=by
 intro i H1 mu1 e x s ok;refine⟨fun d b=>?_,fun h=>by rw[eg]at h;exact h⟩;obtain⟨h1,h2⟩:=nU n lo i d b;refine⟨h1,fun y H2 ⟨c,a⟩=>?_⟩;subst c;subst a;subst h2;exact⟨.refl _ _,s,.int _⟩
theorem Fe{e:Expr}{m:FE}(h:ME X e m):MI X tg e (fC m):=nM (Hm (BI h) (Ex h)) <| by
 rintro σ H R ⟨r,mu,S,J,K,C,D,g,hc⟩;obtain⟨⟨d,I⟩,E,g⟩:=oB1.mp g;obtain⟨⟨b,xs⟩,o,g⟩:=oB1.mp g;cases g;cases b with
 |true=>
  left;refine⟨r,mu,S,d,_,C,D,E,fun v H1 mu1 B j c=>?_⟩;obtain⟨a,vs,rfl,q,t⟩:=db j c o;refine⟨a,rfl,⟨vs,q⟩,hc _ H1 mu1 B (fun i H2 x G A n ok=>?_) c⟩;obtain⟨ws,f,l⟩:=iI j c o A n ok;refine⟨fun d p=>?_,fun z=>⟨ws,f,by rw[<- l.length];exact z⟩⟩;obtain⟨v,k,s⟩:=l.get p;refine⟨⟨ws,v,f,k⟩,fun y F ⟨u,w⟩=>?_⟩;subst u;have:=w ws f;rw[k]at this;cases this;exact⟨.refl _ _,n,s⟩
 |false=>
  right;refine⟨r,mu,S,d,_,C,D,E,fun v H1 mu1 B j c=>?_⟩;obtain⟨a,vs,rfl,q,t⟩:=db j c o;refine⟨a,rfl,⟨vs,q⟩,hc _ H1 mu1 B (fun i H2 x G A n ok=>?_) c⟩;obtain⟨ws,f,l⟩:=iI j c o A n ok;refine⟨fun d p=>?_,fun z=>⟨ws,f,by rw[<- l.length];exact z⟩⟩;obtain⟨v,k,s⟩:=l.get p;refine⟨⟨ws,v,f,k⟩,fun y F ⟨u,w⟩=>?_⟩;subst u;have:=w ws f;rw[k]at this;cases this;exact⟨.refl _ _,n,s⟩
theorem lx{K:Fg1}{H:Hp}{mu:List cG}{d:D}{vs:List V}(r:dh K H mu [d] vs):∃v,vs=[v]/\eD K H mu d v:=by
 cases r with|cons r t=>cases t;exact⟨_,rfl,r⟩
theorem sm{K:Fg1}{H:Hp}{mu:List cG}{d e:D}{vs:List V}(r:dh K H mu [d,e] vs):∃v u,vs=[v,u]/\eD K H mu d v/\eD K H mu e u:=by
 cases r with|cons r t=>cases t with|cons q t=>cases t;exact⟨_,_,rfl,r,q⟩
theorem wV {a:Expr}{m:FA}{p pos:Pos}(hg:Gl X "range")(hm:X.mg "range"=none)(ha:MA X [a] m)(hs:cM [a] X.env=[(false,eval a X.env)]:=by rfl):MI X tg (.Call (.Name "range" p) [a] [] pos) (rR m):=
 nM (wQ hg hm ha hs) <| by
  rintro σ H R ⟨r,mu,S,J,i,e,hs,hm,hc⟩;obtain⟨⟨ds,k⟩,d,hm⟩:=oB1.mp hm;dsimp only at hm;split at hm
  ·rename_i j;split at hm
   ·rename_i b;cases hm;refine⟨r,mu,S,_,_,e,hs,d,fun vs H1 mu1 h g c=>?_⟩;obtain⟨v,rfl,f⟩:=lx g;cases f;exact⟨j,rfl,b.1,b.2,hc _ H1 mu1 h (sV _ _ _ _ _) c⟩
   ·cases hm
  ·cases hm
theorem wU {a b:Expr}{m:FA}{p pos:Pos}(hg:Gl X "range")(hm:X.mg "range"=none)(ha:MA X [a,b] m)(hs:cM [a,b] X.env=[(false,eval a X.env),(false,eval b X.env)]:=by rfl)(hs2:cM [b] X.env=[(false,eval b X.env)]:=by rfl):MI X tg (.Call (.Name "range" p) [a,b] [] pos) (Ia m):=
 nM (wP hg hm ha hs hs2) <| by
  rintro σ H R ⟨r,mu,S,J,n,e,hs,hm,hc⟩;obtain⟨⟨ds,o⟩,d,hm⟩:=oB1.mp hm;dsimp only at hm;split at hm
  ·rename_i i j;split at hm
   ·rename_i g;cases hm;refine⟨r,mu,S,_,_,e,hs,d,fun vs H1 mu1 k h c=>?_⟩;obtain⟨v,u,rfl,f,l⟩:=sm h;cases f;cases l;exact⟨i,j,rfl,g,hc _ H1 mu1 k (sV _ _ _ _ _) c⟩
   ·cases hm
  ·cases hm
variable{elts:List Expr}{k:Nat}{tpos:Pos}
theorem Ca {a:Expr}{m:FA}{p pos:Pos}(hg:Gl X "enumerate")(hm:X.mg "enumerate"=none)(ha:MA X [a] m)(hs:cM [a] X.env=[(false,eval a X.env)]:=by rfl):MI X (.Tuple elts k tpos) (.Call (.Name "enumerate" p) [a] [] pos) (mK m):=
 nM (BK hg hm ha hs) <| by
  rintro σ H R ⟨r,mu,S,J,M,w,hs,hm,hc⟩;obtain⟨⟨ds,L⟩,D,hm⟩:=oB1.mp hm;dsimp only at hm;split at hm
  ·rename_i d;obtain⟨⟨b,xs⟩,n,hm⟩:=oB1.mp hm;cases hm;refine⟨r,mu,S,_,_,w,hs,D,fun vs H1 mu1 G C e=>?_⟩;obtain⟨v,rfl,j⟩:=lx C;obtain⟨a,vs,rfl,q,t⟩:=db j e n;refine⟨a,b,rfl,⟨vs,q⟩,hc _ H1 mu1 G (fun i H2 B K F u ok=>?_) e⟩;obtain⟨ws,h,s⟩:=iI j e n F u ok;refine⟨fun d c=>?_,fun o=>⟨ws,h,by rw[e9]at o;rw[<- s.length];exact o⟩⟩;rw[fb]at c;obtain⟨O,A,c⟩:=oM1.mp c;obtain⟨v,l,g⟩:=s.get A;refine⟨⟨ws,v,h,l⟩,fun y I ⟨p,N,f,x,z,E⟩=>?_⟩;have:=E ws h;rw[l]at this;cases this;subst x;subst z;subst c;rw[bu];exact⟨Ext.fresh f,u.fresh f,.tup (kB.of dw) (.cons (.int _) (.cons (g.ext (Ext.fresh f)) .nil))⟩
  ·cases hm
theorem Fd {a b:Expr}{m:FA}{p pos:Pos}(hg:Gl X "zip")(hm:X.mg "zip"=none)(ha:MA X [a,b] m)(hs:cM [a,b] X.env=[(false,eval a X.env),(false,eval b X.env)]:=by rfl)(hs2:cM [b] X.env=[(false,eval b X.env)]:=by rfl):MI X (.Tuple elts k tpos) (.Call (.Name "zip" p) [a,b] [] pos) (Dv m):=
 nM (Ew hg hm ha hs hs2) <| by
  rintro σ H R ⟨r,mu,S,J,S',N,hs,hm,hc⟩;obtain⟨⟨ds,S1⟩,W,hm⟩:=oB1.mp hm;dsimp only at hm;split at hm
  ·rename_i d e;obtain⟨⟨b1,xs⟩,F,hm⟩:=oB1.mp hm;obtain⟨⟨b2,ys⟩,x,hm⟩:=oB1.mp hm;cases hm;refine⟨r,mu,S,_,_,N,hs,W,fun vs H1 mu1 x1 U f=>?_⟩;obtain⟨v,u,rfl,A,L⟩:=sm U;obtain⟨Q,w,rfl,q1,t1⟩:=db A f F;obtain⟨V,o,rfl,q2,t2⟩:=db L f x;refine⟨Q,b1,V,b2,rfl,⟨w,q1⟩,⟨o,q2⟩,hc _ H1 mu1 x1 (fun i H2 T S2 I s ok=>?_) f⟩;obtain⟨j,t⟩:=vt ok;obtain⟨ws,n,C⟩:=iI A f F I s j;obtain⟨c,h,G⟩:=iI L f x I s t;refine⟨fun d M=>?_,fun Y=>⟨ws,c,n,h,?_⟩⟩
   ·obtain⟨x',y',ex,Z,rfl⟩:=uZ xs ys i d M;obtain⟨v,E,q⟩:=C.get ex;obtain⟨u,B,l⟩:=G.get Z;refine⟨⟨ws,c,v,u,n,h,E,B⟩,fun y H3 ⟨p,v',u',g,O,P,z3,z4⟩=>?_⟩;have D:=z3 ws n;have K:=z4 c h;rw[E]at D;cases D;rw[B]at K;cases K;subst O;subst P;exact⟨Ext.fresh g,s.fresh g,.tup (kB.of dw) (.cons (q.ext (Ext.fresh g)) (.cons (l.ext (Ext.fresh g)) .nil))⟩
   ·rcases uY xs ys i Y with z|z
    ·exact .inl (by rw[<- C.length];exact z)
    ·exact .inr (by rw[<- G.length];exact z)
  ·cases hm
end
abbrev G1:=D->Sto->Option (D×Sto)
abbrev G2:=D->D->Sto->Option (D×Sto)
abbrev G3:=D->D->D->Sto->Option (D×Sto)
def b1(f:G1):FN:=fun ds S=>match ds with
 |[a]=>f a S
 |_=>none
def b2(f:G2):FN:=fun ds S=>match ds with
 |[a,b]=>f a b S
 |_=>none
def b3(f:G3):FN:=fun ds S=>match ds with
 |[a,b,c]=>f a b c S
 |_=>none
section
variable{X:Cx}{K:Fg1}{H:Hp}{Q:VK}
theorem sj{f:G2}{x y:V}(h:rN K (b2 f) [x,y] H Q):∃mu S d e r a,eD K H mu d x/\eD K H mu e y/\Sim K H mu S/\f d e S=some (r,a)/\rQ K mu H r a Q:=by
 obtain⟨mu,S,ds,r,a,c,g,b,hc⟩:=h;cases c with
 |cons q t=>cases t with
  |cons i t=>cases t;exact⟨mu,S,_,_,r,a,q,i,g,b,hc⟩
theorem xC{f:G1}{xs:List V}(h:rN K (b1 f) xs H Q):∃x mu S d r a,xs=[x]/\eD K H mu d x/\Sim K H mu S/\f d S=some (r,a)/\rQ K mu H r a Q:=by
 obtain⟨mu,S,ds,r,a,c,e,b,hc⟩:=h;cases c with
 |nil=>cases b
 |cons q t=>cases t with
  |nil=>exact⟨_,mu,S,_,r,a,rfl,q,e,b,hc⟩
  |cons g t=>cases b
theorem wN{f:G2}{xs:List V}(h:rN K (b2 f) xs H Q):∃x y mu S d e r a,xs=[x,y]/\eD K H mu d x/\eD K H mu e y/\Sim K H mu S/\f d e S=some (r,a)/\rQ K mu H r a Q:=by
 obtain⟨mu,S,ds,r,a,c,g,b,hc⟩:=h;cases c with
 |nil=>cases b
 |cons q t=>cases t with
  |nil=>cases b
  |cons i t=>cases t with
   |nil=>exact⟨_,_,mu,S,_,_,r,a,rfl,q,i,g,b,hc⟩
   |cons j t=>cases b
theorem rQ.now{mu:List cG}{S:Sto}{d:D}{v:V}(c:rQ K mu H d S Q)(r:eD K H mu d v)(s:Sim K H mu S):Q v H:=c v H mu (.refl _ _) r s
end
def d9(i j:Int):Bool:=(decide (-(2^64)<i)&&decide (i<2^64))||(decide (-(2^64)<j)&&decide (j<2^64))||(decide (i.natAbs<2^1000)&&decide (j.natAbs<2^1000))
def e6:G2:=fun d e S=>match d,e with
 | .int i,.int j=>some (.int (i+j),S)
 | .tup xs,.tup ys=>if xs.length+ys.length<=cN then some (.tup (xs++ys),S)else none
 | .str x,.str y=>if x.length+y.length<=cN then some (.str (x++y),S)else none
 | .ref a,.ref b=>match S[a]?,S[b]? with
  |some (.lst xs),some (.lst ys)=>if xs.length+ys.length<=cN then some (.ref S.length,S++[.lst (xs++ys)])else none
  |_,_=>none
 |_,_=>none
def gSub:G2:=fun d e S=>match d,e with
 | .int i,.int j=>some (.int (i-j),S)
 |_,_=>none
def jc:G2:=fun d e S=>match d,e with
 | .int i,.int j=>if d9 i j=true then some (.int (i*j),S)else none
 |_,_=>none
def lJ:G2:=fun d e S=>match d,e with
 | .int i,.int j=>if 0<j then some (.int (i%j),S)else none
 |_,_=>none
def rj:G2:=fun d e S=>match d,e with
 | .int i,.int j=>if 0<j/\j<1073741824 then some (.int (i/j),S)else none
 |_,_=>none
def ms:G2:=fun d e S=>match d,e with
 | .int i,.int j=>if 0<=j/\j<=1000000/\i.natAbs<2^64 then some (.int (i^j.toNat),S)else none
 |_,_=>none
def CH:G1:=fun d S=>match d with
 | .int i=>some (.int (-i),S)
 |_=>none
section
variable{X:Cx}
theorem ur{i j:Int}(h:d9 i j=true):IntMulOk i j:=by
 unfold d9 at h;simp only[bv,bA1,decide_eq_true_eq]at h;rcases h with(⟨h1,h2⟩|⟨h1,h2⟩)|⟨h1,h2⟩
 ·exact .of_left (intBits_le_64 h1 h2)
 ·exact .of_right (intBits_le_64 h1 h2)
 ·exact .of_bits (ai (intBits_le h1) (by decide)) (ai (intBits_le h2) (by decide))
theorem nf{f:cE->cE->Sem cE}{g:G2}{c:Int->Int->Prop}{v:Int->Int->D}(hg:∀ d e S r a,g d e S=some (r,a) -> ∃ i j,d = .int i/\e = .int j/\c i j/\r=v i j/\a=S){b:Int->Int->V}(hv:∀i j K H mu,eD K H mu (v i j) (b i j))(ho:gg X f (rI c b)):gg X f (r2 X.K (b2 g)):=by
 intro pins s σ H x y u w Q I k n h;obtain⟨mu,S,d,e,r,a,o,r2,m,l,hc⟩:=sj h;obtain⟨i,j,rfl,rfl,p,rfl,rfl⟩:=hg d e S r a l;cases o;cases r2;exact ho pins s σ H _ _ u w Q I k n ⟨i,j,rfl,rfl,p,hc.now (hv i j _ _ _) m⟩
theorem lA{f:cE->cE->Sem cE}{g:G2}{v:Int->Int->D}(hg:∀ d e S r a,g d e S=some (r,a) -> ∃ i j,d = .int i/\e = .int j/\r=v i j/\a=S){b:Int->Int->V}(hv:∀i j K H mu,eD K H mu (v i j) (b i j))(ho:gg X f (Dj b)):gg X f (r2 X.K (b2 g)):=by
 intro pins s σ H x y u w Q I c m h;obtain⟨mu,S,d,e,r,a,n,r2,l,k,hc⟩:=sj h;obtain⟨i,j,rfl,rfl,rfl,rfl⟩:=hg d e S r a k;cases n;cases r2;exact ho pins s σ H _ _ u w Q I c m ⟨i,j,rfl,rfl,hc.now (hv i j _ _ _) l⟩
theorem Dk:gg X (binaryOp .Sub) (r2 X.K (b2 gSub)):=lA (v:=fun i j=>.int (i-j)) (fun d e S r a h=>by
 unfold gSub at h;split at h
 ·cases h;exact⟨_,_,rfl,rfl,rfl,rfl⟩
 ·cases h) (fun _ _ _ _ _=>.int _) EN
theorem kF:gg X (binaryOp .Mult) (r2 X.K (b2 jc)):=nf (c:=fun i j=>IntMulOk i j) (v:=fun i j=>.int (i*j)) (fun d e S r a h=>by
 unfold jc at h;split at h
 ·split at h
  ·rename_i q;cases h;exact⟨_,_,rfl,rfl,ur q,rfl,rfl⟩
  ·cases h
 ·cases h) (fun _ _ _ _ _=>.int _) (IU fun _ _ _ _ _ _ _ hc q=>mul_int q hc)
theorem mH:gg X (binaryOp .Mod) (r2 X.K (b2 lJ)):=nf (c:=fun _ j=>0<j) (v:=fun i j=>.int (i%j)) (fun d e S r a h=>by
 unfold lJ at h;split at h
 ·split at h
  ·rename_i q;cases h;exact⟨_,_,rfl,rfl,q,rfl,rfl⟩
  ·cases h
 ·cases h) (fun _ _ _ _ _=>.int _) EQ
theorem vv:gg X (binaryOp .FloorDiv) (r2 X.K (b2 rj)):=nf (c:=IN) (v:=fun i j=>.int (i/j)) (fun d e S r a h=>by
 unfold rj at h;split at h
 ·split at h
  ·rename_i q;cases h;exact⟨_,_,rfl,rfl,q,rfl,rfl⟩
  ·cases h
 ·cases h) (fun _ _ _ _ _=>.int _) BS
theorem sD:gg X (binaryOp .Pow) (r2 X.K (b2 ms)):=nf (c:=IM) (v:=fun i j=>.int (i^j.toNat)) (fun d e S r a h=>by
 unfold ms at h;split at h
 ·split at h
  ·rename_i q;cases h;exact⟨_,_,rfl,rfl,q,rfl,rfl⟩
  ·cases h
 ·cases h) (fun _ _ _ _ _=>.int _) EO
theorem Dl:GL X (unaryOp .USub) (fun x H Q=>rN X.K (b1 CH) [x] H Q):=by
 intro pins s σ H x v Q I b h;obtain⟨j,mu,S,d,r,g,e,f,c,a,hc⟩:=xC h;cases e;cases d with
 |int i=>cases a;cases f;exact DR pins s σ H _ v Q I b ⟨i,rfl,hc.now (.int _) c⟩
 |_=>cases a
theorem xq{s:cF}{prog:cH}{w:cJ}{A:cI}{E:cE->cF->Prop}{t b:cG}{ws:List cE}{Q:cE->cF->Prop}(ht:IsTup s.heap t ([]:List cE).toArray)(hb:IsTup s.heap b ws.toArray)(h:Q (.ref b) s):
  cO (model prog w) A (binaryOp .Add (.ref t) (.ref b)) Q E s:=by
 obtain⟨⟨m,q,j,o⟩,k,hc,n,i⟩:=id ht;obtain⟨⟨l,e,g,f⟩,d,a,p,c⟩:=id hb;simp only at hc i a c;subst hc i a c;exact concat_meets ⟨_,k,rfl⟩ ⟨_,d,rfl⟩ noFill_tuple_add seq_tuple_add PySem.F.slot_tuple_add PySem.F.entry_tuple_add (PySem.F.args_tuple_add_2 _ _) (tuple_addW0 t b ([]:List cE).toArray ws.toArray n p q e o f (by simp)) ⟨k,d,h⟩
theorem fk:gg X (binaryOp .Add) (r2 X.K (b2 e6)):=by
 intro pins s σ H x y u w Q I t o h;obtain⟨mu,S,d,e,r,U,v,r2,f,c,hc⟩:=sj h;unfold e6 at c;split at c
 ·cases c;cases v;cases r2;exact ET pins s σ H _ _ u w Q I t o ⟨_,_,rfl,rfl,hc.now (.int _) f⟩
 ·rename_i xs ys;split at c
  ·rename_i q;cases c;cases v with
   |tup B k=>
    cases r2 with
    |tup C m=>
     rename_i g L l E;by_cases D:g=[]
     ·subst D;have:xs=[]:=by cases k;rfl
      subst this;cases t;cases o;obtain⟨A,J,K,_⟩:=I.tuple B;obtain⟨F,G,p2,_⟩:=I.tuple C;have:A=[]:=J.nil_iff.mpr rfl;subst this;exact xq K p2 ⟨.ref E,H,I,rfl,hc.now (.tup C m) f⟩
     ·refine BU pins s σ H _ _ u w Q I t o ⟨L,E,g,l,rfl,rfl,B,C,D,by rw[<- k.length,<- m.length];exact q,fun z=>?_,fun z p n=>?_⟩
      ·subst z;have:ys=[]:=by cases m;rfl
       subst this;rw[ay]at hc;exact hc.now (.tup B k) f
      ·exact hc _ _ mu (Ext.fresh n) (.tup (kB.of dw) ((k.append m).ext (Ext.fresh n))) (f.fresh n)
  ·cases c
 ·rename_i i j;split at c
  ·rename_i q;cases c;cases v;cases r2;exact um pins s σ H _ _ u w Q I t o ⟨i,j,rfl,rfl,q,hc.now (.str _) f⟩
  ·cases c
 ·rename_i a b;split at c
  ·rename_i xs ys M N;split at c
   ·rename_i q;cases c;cases v with
    |ref R=>
     cases r2 with
     |ref T=>
      obtain⟨g,P,k⟩:=f.lst M R;obtain⟨l,O,m⟩:=f.lst N T;refine ES pins s σ H _ _ u w Q I t o ⟨_,_,g,l,rfl,rfl,P,O,by rw[<- k.length,<- m.length];exact q,fun p n=>?_⟩;exact hc _ _ (mu++[p]) (Ext.new_ n) (.ref (gp f.len p)) (f.newL (k.append m) n)
   ·cases c
  ·cases c
 ·cases c
end
def lM(p:Int->Int->Bool):G2:=fun d e S=>match d,e with
 | .int i,.int j=>some (.bl (p i j),S)
 |_,_=>none
section
variable{X:Cx}
theorem rl{p:Int->Int->Bool}(d e:D)(S:Sto)(r:D)(a:Sto)(h:lM p d e S=some (r,a)):∃i j,d = .int i/\e = .int j/\r = .bl (p i j)/\a=S:=by
 unfold lM at h;split at h
 ·cases h;exact⟨_,_,rfl,rfl,rfl,rfl⟩
 ·cases h
theorem Jx:gg X (compareOp .LtE) (r2 X.K (b2 (lM fun i j=>decide (i<=j)))):=lA rl (fun _ _ _ _ _=>.bl _) Hu
theorem Jz:gg X (compareOp .Gt) (r2 X.K (b2 (lM fun i j=>decide (j<i)))):=lA rl (fun _ _ _ _ _=>.bl _) Hv
theorem HB:gg X (compareOp .GtE) (r2 X.K (b2 (lM fun i j=>decide (j<=i)))):=lA rl (fun _ _ _ _ _=>.bl _) Hw
end
def lN:D->Bool
 | .non=>true
 | .bl _=>true
 | .int _=>true
 | .str _=>true
 |_=>false
def IY:D->D->Option Bool
 | .non,.non=>some true
 | .bl a,.bl b=>some (a == b)
 | .bl a,.int b=>some ((if a then 1 else 0) == b)
 | .int a,.bl b=>some (a == (if b then 1 else 0))
 | .int a,.int b=>some (a == b)
 | .str a,.str b=>some (a == b)
 |d,e=>if lN d&&lN e then some false else none
def uH(f:D->D->Option Bool):List D->List D->Option Bool
 |x::xs,y::ys=>(f x y).bind fun b=>(uH f xs ys).map fun c=>b&&c
 |[],[]=>some true
 |_,_=>some false
def eqN(S:Sto):Nat->D->D->Option Bool
 |0,_,_=>none
 |n+1,d,e=>match dj S d,dj S e with
  |some p,some q=>if p.1=q.1 then(if p.1=true/\p.2.length≠q.2.length then some false else uH (eqN S n) p.2 q.2)else some false
  |some _,none=>if lN e=true then some false else none
  |none,some _=>if lN d=true then some false else none
  |none,none=>IY d e
section
variable{X:Cx}{pins:List (cG×Obj)}{σ:L2.St}{H:Hp}{s:cF}{mu:List cG}{S:Sto}
theorem fu{K:Fg1}{d:D}{v:V}(r:eD K H mu d v)(h:lN d=true):kK v=true /\ ∀e w,eD K H mu e w->lN e=true->IY d e=some (t0 v w):=by
 cases d with
 |non=>cases r;refine⟨rfl,fun e w q f=>?_⟩;cases e with
  |non=>cases q;rfl
  |bl _=>cases q;rfl
  |int _=>cases q;rfl
  |str _=>cases q;rfl
  |_=>cases f
 |bl b=>cases r;refine⟨rfl,fun e w q f=>?_⟩;cases e with
  |non=>cases q;rfl
  |bl _=>cases q;rfl
  |int _=>cases q;rfl
  |str _=>cases q;rfl
  |_=>cases f
 |int i=>cases r;refine⟨rfl,fun e w q f=>?_⟩;cases e with
  |non=>cases q;rfl
  |bl _=>cases q;rfl
  |int _=>cases q;rfl
  |str _=>cases q;rfl
  |_=>cases f
 |str x=>cases r;refine⟨rfl,fun e w q f=>?_⟩;cases e with
  |non=>cases q;rfl
  |bl _=>cases q;rfl
  |int _=>cases q;rfl
  |str _=>cases q;rfl
  |_=>cases f
 |_=>cases h
theorem oi{d e:D}{b:Bool}(h:IY d e=some b):lN d=true/\lN e=true:=by
 cases d<;>cases e<;>first|exact⟨rfl,rfl⟩|(cases h;done)|exact nomatch h|(simp[IY,lN]at h)
theorem Ab{v:V}(h:kK v=true):t0 v v=true:=by
 cases v<;>first|rfl|(cases h;done)|exact beq_self_eq_true _|(simp[t0];done)
theorem tD(I:Inv X pins σ H s)(hs:Sim X.K H mu S):∀(n:Nat) {d e:D} {v:V} {b:Bool},eD X.K H mu d v->eD X.K H mu e v->eqN S n d e=some b->b=true
 |0,_,_,_,_,_,_,h=>by cases h
 |n + 1,d,e,v,b,B,l,h=>by
  rw[eqN]at h;have g:∀{xs ys:List D} {vs:List V} {b:Bool},dh X.K H mu xs vs->dh X.K H mu ys vs->uH (eqN S n) xs ys=some b->b=true:=by
   intro xs
   induction xs with
   |nil=>intro ys vs b u z h;cases u;cases z;cases h;rfl
   |cons x xs ih=>
    intro ys vs b u z h;cases u with
    |cons r t=>
     cases z with
     |cons G T=>
      rw[uH]at h;obtain⟨b1,j,h⟩:=oB1.mp h;obtain⟨b2,c,h⟩:=oM1.mp h;subst h;rw[tD I hs n r G j,ih t T c];rfl
  cases hd:dj S d with
  |some p=>
   obtain⟨E,xs⟩:=p;obtain⟨a,vs,rfl,q,t⟩:=db B hs hd;cases he:dj S e with
   |some p2=>
    obtain⟨qb,ys⟩:=p2;obtain⟨N,w,c,A,y⟩:=db l hs he;cases c;rw[hd,he]at h;dsimp only at h;obtain⟨O,U,co,_⟩:=ej I q;obtain⟨C,J,i,_⟩:=ej I A;have P:E=qb:=by
     cases E<;>cases qb
     ·rfl
     ·obtain⟨o,j,m,_⟩:=co;obtain⟨R,c,k,_⟩:=i;rw[j]at c;cases c;rw[m]at k;exact absurd k (by decide)
     ·obtain⟨o,j,m,_⟩:=co;obtain⟨R,c,k,_⟩:=i;rw[j]at c;cases c;rw[m]at k;exact absurd k (by decide)
     ·rfl
    subst P;have Q:=na I q A;subst Q;rw[if_pos rfl,if_neg (by rw[t.length,y.length];simp)]at h;exact g t y h
   |none=>
    rw[hd,he]at h;dsimp only at h;split at h
    ·rename_i f;have:=(fu l f).1;cases this
    ·cases h
  |none=>
   cases he:dj S e with
   |some p2=>
    obtain⟨qb,ys⟩:=p2;obtain⟨N,w,c,A,y⟩:=db l hs he;subst c;rw[hd,he]at h;dsimp only at h;split at h
    ·rename_i f;have:=(fu B f).1;cases this
    ·cases h
   |none=>
    rw[hd,he]at h;dsimp only at h;obtain⟨K,L⟩:=oi h;obtain⟨F,M⟩:=fu B K;rw[M e v l L]at h;cases h;exact Ab F
theorem eW{A:cI}{b:Bool}{a:cG}{its:Array cE}{v:V}{u:cE}(c:SCo b s.heap a its)(r:dn v u)(f:kK v=true)(d:A.units<cLine):
   SeqAt.EqAt A s (.ref a) u false/\SeqAt.EqAt A s u (.ref a) false/\SeqAt.RcAt A s (.ref a) u false/\SeqAt.RcAt A s u (.ref a) false:=by
 cases v with
 | non => cases r;cases b
          · exact⟨.tuple_none c d,.none_tuple c d,.tuple_none c d,.none_tuple c d⟩
          · exact⟨.list_none c d,.none_list c d,.list_none c d,.none_list c d⟩
 | bl k => cases r;cases b
           · exact⟨.tuple_bool k c d,.bool_tuple k c d,.tuple_bool k c d,.bool_tuple k c d⟩
           · exact⟨.list_bool k c d,.bool_list k c d,.list_bool k c d,.bool_list k c d⟩
 | int i => obtain ⟨t,rfl⟩:=r;cases b
            · exact⟨.tuple_int i t c d,.int_tuple i t c d,.tuple_int i t c d,.int_tuple i t c d⟩
            · exact⟨.list_int i t c d,.int_list i t c d,.list_int i t c d,.int_list i t c d⟩
 | str x => obtain ⟨t,rfl⟩:=r;cases b
            · exact⟨.tuple_str x t c d,.str_tuple x t c d,.tuple_str x t c d,.str_tuple x t c d⟩
            · exact⟨.list_str x t c d,.str_list x t c d,.list_str x t c d,.str_list x t c d⟩
 |_=>cases f
theorem Br{A:cI}{x y:V}{u w:cE}(d:dn x u)(a:dn y w)(h:kK x=true)(f:kK y=true):SeqAt.RcAt A s u w (t0 x y):=by
 cases x with
 |non=>cases d;cases y with
  |non=>cases a;exact .none_none
  |bl k=>cases a;exact .none_bool k
  |int i=>obtain⟨t,rfl⟩:=a;exact .none_int i t
  |str z=>obtain⟨t,rfl⟩:=a;exact .none_str z t
  |_=>cases f
 |bl c=>cases d;cases y with
  |non=>cases a;exact .bool_none c
  |bl k=>cases a;exact .bool_bool c k
  |int i=>obtain⟨t,rfl⟩:=a;exact .bool_int c i t
  |str z=>obtain⟨t,rfl⟩:=a;exact .bool_str c z t
  |_=>cases f
 |int g=>obtain⟨b,rfl⟩:=d;cases y with
  |non=>cases a;exact .int_none g b
  |bl k=>cases a;exact .int_bool g b k
  |int i=>obtain⟨t,rfl⟩:=a;exact .int_int g b i t
  |str z=>obtain⟨t,rfl⟩:=a;exact .int_str g b z t
  |_=>cases f
 |str e=>obtain⟨b,rfl⟩:=d;cases y with
  |non=>cases a;exact .str_none e b
  |bl k=>cases a;exact .str_bool e b k
  |int i=>obtain⟨t,rfl⟩:=a;exact .str_int e b i t
  |str z=>obtain⟨t,rfl⟩:=a;exact .str_str e b z t
  |_=>cases f
 |_=>cases h
theorem uG(f:D->D->Option Bool):∀{xs ys:List D} {b:Bool},uH f xs ys=some b -> ∃e:Nat->Bool,(∀j x y,xs[j]?=some x->ys[j]?=some y->f x y=some (e j))/\b=((List.range (min xs.length ys.length)).all e&&xs.length == ys.length)
 |[],[],b,h=>by cases h;exact⟨fun _=>true,fun j x y h=>by simp at h,rfl⟩
 |[],y::ys,b,h=>by cases h;exact⟨fun _=>true,fun j x y h=>by simp at h,by simp⟩
 |x::xs,[],b,h=>by cases h;exact⟨fun _=>true,fun j x y h h'=>by simp at h',by simp⟩
 |x::xs,y::ys,b,h=>by
  rw[uH]at h;obtain⟨b1,g,h⟩:=oB1.mp h;obtain⟨b2,d,h⟩:=oM1.mp h;obtain⟨e,k,l⟩:=uG f d;refine⟨fun j=>match j with|0=>b1|j+1=>e j,fun j i m a c=>?_,?_⟩
  ·cases j with
   |zero=>simp at a c;subst a;subst c;exact g
   |succ j=>exact k j i m (by simpa using a) (by simpa using c)
  ·rw[<- h,l,lC1,lC1,Nat.succ_min_succ,List.range_succ_eq_map,bw,List.all_map];have:((xs.length+1 == ys.length+1):Bool)=(xs.length == ys.length):=by simp
   rw[this,Bool.and_assoc];rfl
theorem mz(I:Inv X pins σ H s)(hs:Sim X.K H mu S):∀(n:Nat) {A:cI} {d e:D} {v w:V} {u z:cE} {b:Bool},A.units+n<cLine->eD X.K H mu d v->eD X.K H mu e w->dn v u->dn w z->eqN S n d e=some b->SeqAt.EqAt A s u z b/\SeqAt.RcAt A s u z b
 |0,_,_,_,_,_,_,_,_,_,_,_,_,_,h=>by cases h
 |n + 1,A,d,e,v,w,u,z,b,hu,R,o,O,B,h=>by
  have g:A.units<cLine:=by lia
  have h0:=h;rw[eqN]at h;cases hd:dj S d with
  |some p=>
   obtain⟨pb,xs⟩:=p;obtain⟨a,vs,rfl,q,t⟩:=db R hs hd;obtain⟨k,N,co,_⟩:=ej I q;cases O;cases he:dj S e with
   |some p2=>
    obtain⟨qb,ys⟩:=p2;obtain⟨F,L,rfl,q2,Q⟩:=db o hs he;obtain⟨c,l,i,_⟩:=ej I q2;cases B;rw[hd,he]at h;dsimp only at h;have m:SeqAt.RcAt A s (.ref a) (.ref F) b->SeqAt.EqAt A s (.ref a) (.ref F) b/\SeqAt.RcAt A s (.ref a) (.ref F) b:=fun rc=>by
     refine⟨?_,rc⟩;by_cases ha:a=F
     ·subst ha;rw[tD I hs (n+1) R o h0];exact .same _
     ·exact .of_refs ha rc
    split at h
    ·rename_i P;have W:pb=qb:=P;subst W;split at h
     ·rename_i Z;cases h;obtain⟨h1,h2⟩:=Z;subst h1;refine m (.lists_lengths co i ?_ g);have l1:=t.length;have l2:=Q.length;have l3:=N.length;have l4:=l.length
      simp only[sT1,bne_iff_ne,ne_eq];lia
     ·rename_i Z;obtain ⟨f,hf,M⟩:=uG _ h;have elts:∀ j (h1:j<k.toArray.size) (h2:j<c.toArray.size),SeqAt.EqAt A.in1 s k.toArray[j] c.toArray[j] (f j):=fun j h1 h2=>by
       have J:j<k.length:=by simpa using h1
       have K:j<c.length:=by simpa using h2
       have k1:j<vs.length:=by rw[N.length];exact J
       have k2:j<L.length:=by rw[l.length];exact K
       obtain⟨x,ex,rx⟩:=t.getV (gG1 k1);obtain⟨y,ey,ry⟩:=Q.getV (gG1 k2);obtain⟨u1,r,U⟩:=N.get (gG1 k1);obtain⟨u2,C,T⟩:=l.get (gG1 k2);have G:k.toArray[j]=u1:=by
        rw[gG1 J]at r;simpa using r
       have Y:c.toArray[j]=u2:=by
        rw[gG1 K]at C;simpa using C
       rw[G,Y];exact(mz I hs n (A:=A.in1) (by show A.units+1+n<cLine;lia) rx ry U T (hf j x y ex ey)).1
      have l1:=t.length;have l2:=Q.length;have l3:=N.length;have l4:=l.length
      cases pb with
      |false=>
       refine m ?_;have:=SeqAt.RcAt.tuples co i g elts;rw[M];have G:k.toArray.size=xs.length:=by simp;lia
       have Y:c.toArray.size=ys.length:=by simp;lia
       rw[G,Y]at this;exact this
      |true=>
       refine m ?_;have E:xs.length=ys.length:=by
        by_cases z:xs.length=ys.length
        ·exact z
        ·exact absurd ⟨rfl,z⟩ Z
       have:=SeqAt.RcAt.lists co i (by simp;lia) g elts;rw[M];have G:k.toArray.size=xs.length:=by simp;lia
       rw[G]at this;rw[E,Nat.min_self,beq_self_eq_true,br,<- E];exact this
    ·rename_i P;cases h;cases pb with
     |true=>
      cases qb with
      |true=>exact absurd rfl P
      |false=>exact⟨.list_tuple co i g,.list_tuple co i g⟩
     |false=>
      cases qb with
      |false=>exact absurd rfl P
      |true=>exact⟨.tuple_list co i g,.tuple_list co i g⟩
   |none=>
    rw[hd,he]at h;dsimp only at h;split at h
    ·rename_i f;cases h;obtain⟨r1,r2,r3,r4⟩:=eW co B (fu o f).1 g;exact⟨r1,r3⟩
    ·cases h
  |none=>
   cases he:dj S e with
   |some p2=>
    obtain⟨qb,ys⟩:=p2;obtain⟨F,L,rfl,q2,Q⟩:=db o hs he;obtain⟨c,l,i,_⟩:=ej I q2;cases B;rw[hd,he]at h;dsimp only at h;split at h
    ·rename_i f;cases h;obtain⟨r1,r2,r3,r4⟩:=eW i O (fu R f).1 g;exact⟨r2,r4⟩
    ·cases h
   |none=>
    rw[hd,he]at h;dsimp only at h;obtain⟨f1,f2⟩:=oi h;obtain⟨g1,g2⟩:=fu R f1;have g3:=(fu o f2).1;rw[g2 e w o f2]at h;cases h;exact⟨lb O B g1 g3,Br O B g1 g3⟩
end
def dr:Nat:=60
def gEq:G2:=fun d e S=>(eqN S dr d e).map fun b=>(.bl b,S)
section
variable{X:Cx}
theorem k7(k:X.A.units+64<cLine):gg X (compareOp .Eq) (r2 X.K (b2 gEq)):=by
 intro pins s σ H x y u w Q I g i h;obtain⟨mu,S,d,e,r,l,j,r2,c,a,hc⟩:=sj h;obtain⟨b,f,a⟩:=oM1.mp a;cases a;exact(mz I c dr (by show _+60<cLine;lia) j r2 g i f).2 X.prog X.w X.xe _ ⟨.bl b,H,I,rfl,hc.now (.bl b) c⟩
end
section
variable{X:Cx}{pins:List (cG×Obj)}{σ:L2.St}{H:Hp}{s:cF}{mu:List cG}{S:Sto}
theorem B0{A:cI}{x y:V}{u w:cE}(d:dn x u)(a:dn y w)(h:kK x=true)(f:kK y=true):SeqAt.RcNeAt A s u w (!t0 x y):=by
 cases x with
 |non=>cases d;cases y with
  |non=>cases a;exact .none_none
  |bl k=>cases a;exact .none_bool k
  |int i=>obtain⟨t,rfl⟩:=a;exact .none_int i t
  |str z=>obtain⟨t,rfl⟩:=a;exact .none_str z t
  |_=>cases f
 |bl c=>cases d;cases y with
  |non=>cases a;exact .bool_none c
  |bl k=>cases a;exact .bool_bool c k
  |int i=>obtain⟨t,rfl⟩:=a;exact .bool_int c i t
  |str z=>obtain⟨t,rfl⟩:=a;exact .bool_str c z t
  |_=>cases f
 |int g=>obtain⟨b,rfl⟩:=d;cases y with
  |non=>cases a;exact .int_none g b
  |bl k=>cases a;exact .int_bool g b k
  |int i=>obtain⟨t,rfl⟩:=a;exact .int_int g b i t
  |str z=>obtain⟨t,rfl⟩:=a;exact .int_str g b z t
  |_=>cases f
 |str e=>obtain⟨b,rfl⟩:=d;cases y with
  |non=>cases a;exact .str_none e b
  |bl k=>cases a;exact .str_bool e b k
  |int i=>obtain⟨t,rfl⟩:=a;exact .str_int e b i t
  |str z=>obtain⟨t,rfl⟩:=a;exact .str_str e b z t
  |_=>cases f
 |_=>cases h
theorem mI{A:cI}{b:Bool}{a:cG}{its:Array cE}{v:V}{u:cE}(c:SCo b s.heap a its)(r:dn v u)(f:kK v=true)(d:A.units<cLine):SeqAt.RcNeAt A s (.ref a) u true/\SeqAt.RcNeAt A s u (.ref a) true:=by
 cases v with
 | non => cases r;cases b
          · exact⟨.tuple_none c d,.none_tuple c d⟩
          · exact⟨.list_none c d,.none_list c d⟩
 | bl k => cases r;cases b
           · exact⟨.tuple_bool k c d,.bool_tuple k c d⟩
           · exact⟨.list_bool k c d,.bool_list k c d⟩
 | int i => obtain ⟨t,rfl⟩:=r;cases b
            · exact⟨.tuple_int i t c d,.int_tuple i t c d⟩
            · exact⟨.list_int i t c d,.int_list i t c d⟩
 | str x => obtain ⟨t,rfl⟩:=r;cases b
            · exact⟨.tuple_str x t c d,.str_tuple x t c d⟩
            · exact⟨.list_str x t c d,.str_list x t c d⟩
 |_=>cases f
theorem EZ(I:Inv X pins σ H s)(hs:Sim X.K H mu S)(n:Nat){A:cI}{d e:D}{v w:V}{u z:cE}{b:Bool}(hu:A.units+n<cLine)(Y:eD X.K H mu d v)(o:eD X.K H mu e w)(Z:dn v u)(K:dn w z)(h:eqN S n d e=some b):SeqAt.RcNeAt A s u z (!b):=by
 cases n with
 |zero=>cases h
 |succ n=>
  have g:A.units<cLine:=by lia
  rw[eqN]at h;cases hd:dj S d with
  |some p=>
   obtain⟨U,xs⟩:=p;obtain⟨a,vs,rfl,q,t⟩:=db Y hs hd;obtain⟨k,N,co,_⟩:=ej I q;cases Z;cases he:dj S e with
   |some p2=>
    obtain⟨qb,ys⟩:=p2;obtain⟨a2,G,rfl,W,T⟩:=db o hs he;obtain⟨c,l,i,_⟩:=ej I W;cases K;rw[hd,he]at h;dsimp only at h;have l1:=t.length;have l2:=T.length;have l3:=N.length;have l4:=l.length
    split at h
    ·rename_i L;have P:U=qb:=L;subst P;split at h
     ·rename_i R;cases h;obtain⟨h1,h2⟩:=R;subst h1;refine .lists_lengths co i ?_ g;simp only[sT1,bne_iff_ne,ne_eq];lia
     ·rename_i R;obtain ⟨f,hf,J⟩:=uG _ h;have elts:∀ j (h1:j<k.toArray.size) (h2:j<c.toArray.size),SeqAt.EqAt A.in1 s k.toArray[j] c.toArray[j] (f j):=fun j h1 h2=>by
       have C:j<k.length:=by simpa using h1
       have F:j<c.length:=by simpa using h2
       have k1:j<vs.length:=by rw[N.length];exact C
       have k2:j<G.length:=by rw[l.length];exact F
       obtain⟨x,ex,rx⟩:=t.getV (gG1 k1);obtain⟨y,ey,ry⟩:=T.getV (gG1 k2);obtain⟨u1,m,O⟩:=N.get (gG1 k1);obtain⟨u2,r,M⟩:=l.get (gG1 k2);have E:k.toArray[j]=u1:=by
        rw[gG1 C]at m;simpa using m
       have Q:c.toArray[j]=u2:=by
        rw[gG1 F]at r;simpa using r
       rw[E,Q];exact(mz I hs n (A:=A.in1) (by show A.units+1+n<cLine;lia) rx ry O M (hf j x y ex ey)).1
      cases U with
      |false=>
       have:=SeqAt.RcNeAt.tuples co i g elts;rw[J];have E:k.toArray.size=xs.length:=by simp;lia
       have Q:c.toArray.size=ys.length:=by simp;lia
       rw[E,Q]at this;exact this
      |true=>
       have B:xs.length=ys.length:=by
        by_cases z:xs.length=ys.length
        ·exact z
        ·exact absurd ⟨rfl,z⟩ R
       have:=SeqAt.RcNeAt.lists co i (by simp;lia) g elts;rw[J];have E:k.toArray.size=xs.length:=by simp;lia
       rw[E]at this;rw[B,Nat.min_self,beq_self_eq_true,br,<- B];exact this
    ·rename_i L;cases h;cases U with
     |true=>
      cases qb with
      |true=>exact absurd rfl L
      |false=>exact .list_tuple co i g
     |false=>
      cases qb with
      |false=>exact absurd rfl L
      |true=>exact .tuple_list co i g
   |none=>
    rw[hd,he]at h;dsimp only at h;split at h
    ·rename_i f;cases h;exact(mI co K (fu o f).1 g).1
    ·cases h
  |none=>
   cases he:dj S e with
   |some p2=>
    obtain⟨qb,ys⟩:=p2;obtain⟨a2,G,rfl,W,T⟩:=db o hs he;obtain⟨c,l,i,_⟩:=ej I W;cases K;rw[hd,he]at h;dsimp only at h;split at h
    ·rename_i f;cases h;exact(mI i Z (fu Y f).1 g).2
    ·cases h
   |none=>
    rw[hd,he]at h;dsimp only at h;obtain⟨f1,f2⟩:=oi h;obtain⟨g1,g2⟩:=fu Y f1;have g3:=(fu o f2).1;rw[g2 e w o f2]at h;cases h;exact B0 Z K g1 g3
end
def s9:G2:=fun d e S=>(eqN S dr d e).map fun b=>(.bl (!b),S)
def xD(f:D->D->Option Bool)(x:D):List D->Option Bool
 |[]=>some false
 |y::ys=>(f y x).bind fun b=>(xD f x ys).map fun c=>b||c
def GJ:G2:=fun d e S=>(dj S e).bind fun p=>(xD (eqN S dr) d p.2).map fun b=>(.bl b,S)
def k9:G2:=fun d e S=>(dj S e).bind fun p=>(xD (eqN S dr) d p.2).map fun b=>(.bl (!b),S)
def vQ:D->Bool
 | .non=>true
 |_=>false
def JI:G2:=fun d e S=>match e with
 | .non=>some (.bl (vQ d),S)
 |_=>none
section
variable{X:Cx}
theorem oT(k:X.A.units+64<cLine):gg X (compareOp .NotEq) (r2 X.K (b2 s9)):=by
 intro pins s σ H x y u w Q I g i h;obtain⟨mu,S,d,e,r,l,j,r2,c,a,hc⟩:=sj h;obtain⟨b,f,a⟩:=oM1.mp a;cases a;exact EZ I c dr (by show _+60<cLine;lia) j r2 g i f X.prog X.w X.xe _ ⟨.bl (!b),H,I,rfl,hc.now (.bl _) c⟩
theorem zQ(f:D->D->Option Bool)(x:D):∀{ys:List D} {b:Bool},xD f x ys=some b -> ∃bs:List Bool,bs.length=ys.length/\(∀(j:Nat) (y:D) (k:Bool),ys[j]?=some y->bs[j]?=some k->f y x=some k)/\b=bs.any id
 |[],b,h=>by cases h;exact⟨[],rfl,fun j y k h=>by simp at h,rfl⟩
 |y::ys,b,h=>by
  rw[xD]at h;obtain⟨b1,g,h⟩:=oB1.mp h;obtain⟨b2,e,h⟩:=oM1.mp h;obtain⟨bs,i,l,a⟩:=zQ f x e;refine⟨b1::bs,by simp[i],fun j m k d c=>?_,?_⟩
  ·cases j with
   |zero=>simp at d c;subst d;subst c;exact g
   |succ j=>exact l j m k (by simpa using d) (by simpa using c)
  ·rw[<- h,a];simp
open Classical in
theorem Du{pins:List (cG×Obj)}{σ:L2.St}{H:Hp}{s:cF}{mu:List cG}{S:Sto}(I:Inv X pins σ H s)(hs:Sim X.K H mu S){A:cI}(J:A.units+61<cLine){x:D}{v:V}{u:cE}(C:eD X.K H mu x v)(F:dn v u){ys:List D}{vs:List V}{a:List cE}{b:Bool}(o:dh X.K H mu ys vs)(m:dE vs a)(h:xD (eqN S dr) x ys=some b):∃e:cE->Bool,(∀w∈a,SeqAt.EqAt A.in1 s w u (e w))/\a.any e=b:=by
 obtain⟨bs,K,B,rfl⟩:=zQ _ x h;have G:=o.length;have L:=m.length;have at_:∀(j:Nat) w k,a[j]?=some w->bs[j]?=some k->SeqAt.EqAt A.in1 s w u k:=fun j w k g f=>by
  have n:j<a.length:=(gE1.mp g).1;obtain⟨y,t,r⟩:=o.getV (i:=j) (v:=vs[j]'(by lia)) (gG1 (by lia));obtain⟨M,p,r2⟩:=m.get (i:=j) (x:=vs[j]'(by lia)) (gG1 (by lia));rw[g]at p;cases p;exact(mz I hs dr (A:=A.in1) (by show A.units+1+60<cLine;lia) r C r2 F (B j y k t f)).1
 refine⟨fun w=>decide (∃j:Nat,a[j]?=some w/\bs[j]?=some true),fun w g=>?_,?_⟩
 ·by_cases z:∃j:Nat,a[j]?=some w/\bs[j]?=some true
  ·dsimp only;rw[decide_eq_true z];obtain⟨j,q,c⟩:=z;exact at_ j w true q c
  ·dsimp only;rw[decide_eq_false z];obtain⟨j,d⟩:=aX g;have n:j<a.length:=(gE1.mp d).1;have l:j<bs.length:=by lia
   have c:=gG1 l;cases f:bs[j]with
   |true=>rw[f]at c;exact absurd ⟨j,d,c⟩ z
   |false=>rw[f]at c;exact at_ j w false d c
 ·rw[bx,bz,bz];constructor
  ·rintro⟨w,g,z⟩;obtain⟨j,q,c⟩:=of_decide_eq_true z;exact⟨true,gM1 c,rfl⟩
  ·rintro⟨k,f,z⟩;obtain⟨j,d⟩:=aX f;have n:j<bs.length:=(gE1.mp d).1;have l:j<a.length:=by lia
   have E:k=true:=z;subst E;exact⟨a[j],bA l,decide_eq_true ⟨j,gG1 l,d⟩⟩
theorem Jy(D:X.A.units+64<cLine):gg X (compareOp .In) (r2 X.K (b2 GJ)):=by
 intro pins s σ H x y u w Q I o B h;obtain⟨mu,S,d,e,r,E,C,r2,j,g,hc⟩:=sj h;obtain⟨⟨z,ys⟩,n,g⟩:=oB1.mp g;obtain⟨b,m,g⟩:=oM1.mp g;cases g;obtain⟨a,vs,rfl,q,t⟩:=db r2 j n;cases B;obtain⟨c,p,co,_⟩:=ej I q;obtain⟨f,l,v⟩:=Du I j (A:=X.A) (by lia) C o t p m;have i:EP X pins σ Q (.bool (c.toArray.any f)) s:=⟨.bl b,H,I,by rw[show c.toArray.any f=c.any f by simp,v];rfl,hc.now (.bl b) j⟩;cases z
 ·exact SeqAt.in_tupleAt f co (fun y k=>l y (by simpa using k)) i
 ·exact SeqAt.in_listAt f co (fun y k=>l y (by simpa using k)) i
theorem BW(D:X.A.units+64<cLine):gg X (compareOp .NotIn) (r2 X.K (b2 k9)):=by
 intro pins s σ H x y u w Q I o B h;obtain⟨mu,S,d,e,r,E,C,r2,j,g,hc⟩:=sj h;obtain⟨⟨z,ys⟩,n,g⟩:=oB1.mp g;obtain⟨b,m,g⟩:=oM1.mp g;cases g;obtain⟨a,vs,rfl,q,t⟩:=db r2 j n;cases B;obtain⟨c,p,co,_⟩:=ej I q;obtain⟨f,l,v⟩:=Du I j (A:=X.A) (by lia) C o t p m;have i:EP X pins σ Q (.bool (!c.toArray.any f)) s:=⟨.bl (!b),H,I,by rw[show c.toArray.any f=c.any f by simp,v];rfl,hc.now (.bl _) j⟩;cases z
 ·exact SeqAt.notIn_tupleAt f co (fun y k=>l y (by simpa using k)) i
 ·exact SeqAt.notIn_listAt f co (fun y k=>l y (by simpa using k)) i
theorem BZ{K:Fg1}{H:Hp}{mu:List cG}{d:D}{v:V}(r:eD K H mu d v):vQ d=decide (v = .non):=by
 cases r<;>simp[vQ]
theorem Hz:gg X (compareOp .Is) (r2 X.K (b2 JI)):=by
 intro pins s σ H x y u w Q I b f h;obtain⟨mu,S,d,e,r,i,g,r2,c,a,hc⟩:=sj h;cases e with
 |non=>
  cases a;cases r2;refine ER pins s σ H _ _ u w Q I b f ⟨rfl,?_⟩;rw[<- BZ g];exact hc.now (.bl _) c
 |_=>cases a
end
def dH:G1:=fun d S=>match d with
 | .str x=>if x.length<=cN then some (.int x.length,S)else none
 |_=>(dj S d).map fun p=>(.int p.2.length,S)
def AR:G2:=fun d e S=>match e with
 | .int i=>(dj S d).bind fun p=>(uO p.2 i).map fun x=>(x,S)
 |_=>none
def gTup:G1:=fun d S=>(dj S d).map fun p=>(.tup p.2,S)
def xf:G1:=fun d S=>(dj S d).map fun p=>(.ref S.length,S++[.lst p.2])
def jZ:G3:=fun o i v S=>match o,i with
 | .ref n,.int k=>match S[n]? with
  |some (.lst xs)=>(vN xs.length k).map fun j=>(.non,S.set n (.lst (xs.set j v)))
  |_=>none
 |_,_=>none
def AA:List D->Option Bool
 |[]=>some true
 | .bl b::r=>(AA r).map fun c=>b&&c
 |_=>none
def Ay:List D->Option Bool
 |[]=>some false
 | .bl b::r=>(Ay r).map fun c=>b||c
 |_=>none
def zZ:G1:=fun d S=>(dj S d).bind fun p=>(AA p.2).map fun b=>(.bl b,S)
def CO:G1:=fun d S=>(dj S d).bind fun p=>(Ay p.2).map fun b=>(.bl b,S)
def oV:G1:=fun d S=>match d with
 | .int i=>some (.int i,S)
 | .bl b=>some (.int (if b then 1 else 0),S)
 |_=>none
def xc:G2:=fun d e S=>match d,e with
 | .int i,.int j=>some (.int (if j>i then j else i),S)
 |_,_=>none
def ri:G2:=fun d e S=>match d,e with
 | .int i,.int j=>some (.int (if j<i then j else i),S)
 |_,_=>none
section
variable{X:Cx}
theorem dR:ei X (.builtin "len") (rN X.K (b1 dH)):=by
 intro pins s σ H xs f Q I r h;obtain⟨x,mu,S,d,l,k,rfl,g,e,c,hc⟩:=xC h;unfold dH at c;split at c
 ·split at c
  ·rename_i z j;cases c;cases g;exact rB pins s σ H _ f Q I r ⟨_,rfl,j,hc.now (.int _) e⟩
  ·cases c
 ·obtain⟨⟨b,ys⟩,i,c⟩:=oM1.mp c;cases c;obtain⟨a,vs,rfl,q,t⟩:=db g e i;refine rE pins s σ H _ f Q I r ⟨a,vs,rfl,?_,?_⟩
  ·cases b
   ·exact .inr q
   ·exact .inl q
  ·rw[<- t.length];exact hc.now (.int _) e
theorem C0{K:Fg1}{H:Hp}{mu:List cG}{ds:List D}{vs:List V}{i:Int}{d:D}(t:dh K H mu ds vs)(h:uO ds i=some d):∃v,uO vs i=some v/\eD K H mu d v:=by
 unfold uO at h ⊢;rw[<- t.length];obtain⟨j,c,h⟩:=oB1.mp h;obtain⟨v,b,a⟩:=t.get h;exact⟨v,by rw[c];exact b,a⟩
theorem I1:DG X (r2 X.K (b2 AR)):=by
 intro value c pins s σ H x y v u Q I k m h g;obtain⟨mu,S,d,e,r,B,A,r2,j,f,hc⟩:=sj h;cases e with
 |int i=>
  obtain⟨⟨b,ys⟩,w,f⟩:=oB1.mp f;obtain⟨z,p,f⟩:=oM1.mp f;cases f;cases r2;obtain⟨a,vs,rfl,q,t⟩:=db A j w;obtain⟨n,o,l⟩:=C0 t p;cases b
  ·exact FU value c pins s σ H _ _ v u Q I k m ⟨a,vs,i,n,rfl,rfl,q,o,hc.now l j⟩ g
  ·exact CB value c pins s σ H _ _ v u Q I k m ⟨a,vs,i,n,rfl,rfl,q,o,hc.now l j⟩ g
 |_=>cases f
theorem eR:ei X (.type "tuple") (rN X.K (b1 gTup)):=by
 intro pins s σ H xs i Q I r h;obtain⟨x,mu,S,d,m,k,rfl,j,f,c,hc⟩:=xC h;obtain⟨⟨b,ys⟩,g,c⟩:=oM1.mp c;cases c;obtain⟨a,vs,rfl,q,t⟩:=db j f g;refine oX pins s σ H _ i Q I r ⟨a,vs,rfl,?_⟩;cases b
 ·exact .inr ⟨q,hc.now (.tup q t) f⟩
 ·exact .inl ⟨q,fun l e=>hc _ _ mu (Ext.fresh e) (.tup (kB.of dw) (t.ext (Ext.fresh e))) (f.fresh e)⟩
theorem Aq:ei X (.type "list") (rN X.K (b1 xf)):=by
 intro pins s σ H xs i Q I r h;obtain⟨x,mu,S,d,m,k,rfl,j,e,c,hc⟩:=xC h;obtain⟨⟨b,ys⟩,g,c⟩:=oM1.mp c;cases c;obtain⟨a,vs,rfl,q,t⟩:=db j e g;refine rA pins s σ H _ i Q I r ⟨a,vs,rfl,?_,fun l f=>hc _ _ (mu++[l]) (Ext.new_ f) (.ref (gp e.len l)) (e.newL t f)⟩;cases b
 ·exact .inr q
 ·exact .inl q
theorem G7:uW X (rU X.K (b3 jZ)):=by
 intro pins s σ H o i v B p u Q I w r l h;obtain⟨mu,S,ds,d,E,g,f,a,hc⟩:=h;cases g with
 |cons A q=>cases q with
  |cons C z=>cases z with
   |cons x m=>
    cases m;rename_i D G F;dsimp only[b3]at a;unfold jZ at a;split at a
    ·rename_i n k;split at a
     ·rename_i xs e;obtain⟨j,y,a⟩:=oM1.mp a;cases a;cases A with
      |ref c=>
       cases C;obtain⟨vs,b,t⟩:=f.lst e c;refine yB pins s σ H _ _ v B p u Q I w r l ⟨_,vs,k,j,rfl,rfl,b,by rw[<- t.length];exact y,?_⟩;exact hc _ mu (Ext.put b trivial (gM1 c)) (f.putL (t.set x j) c b)
     ·cases a
    ·cases a
theorem C3{K:Fg1}{H:Hp}{mu:List cG}:∀{ds:List D} {vs:List V} {a:List cE} {b:Bool},dh K H mu ds vs->dE vs a->AA ds=some b -> ∃bs:List Bool,a=bs.map Value.bool/\b=bs.all id:=by
 intro ds
 induction ds with
 |nil=>intro vs a b r v h;cases r;cases v;cases h;exact⟨[],rfl,rfl⟩
 |cons d ds ih=>
  intro vs a b r v h;cases r with
  |cons j t=>
   cases v with
   |cons r g=>
    cases j
    case bl k=>
     obtain⟨c,e,h⟩:=oM1.mp h;obtain⟨bs,i,f⟩:=ih t g e;cases r;exact⟨k::bs,by rw[i];rfl,by rw[<- h,f];rfl⟩
    all_goals cases h
theorem C1{K:Fg1}{H:Hp}{mu:List cG}:∀{ds:List D} {vs:List V} {a:List cE} {b:Bool},dh K H mu ds vs->dE vs a->Ay ds=some b -> ∃bs:List Bool,a=bs.map Value.bool/\b=bs.any id:=by
 intro ds
 induction ds with
 |nil=>intro vs a b r v h;cases r;cases v;cases h;exact⟨[],rfl,rfl⟩
 |cons d ds ih=>
  intro vs a b r v h;cases r with
  |cons j t=>
   cases v with
   |cons r g=>
    cases j
    case bl k=>
     obtain⟨c,e,h⟩:=oM1.mp h;obtain⟨bs,i,f⟩:=ih t g e;cases r;exact⟨k::bs,by rw[i];rfl,by rw[<- h,f];rfl⟩
    all_goals cases h
theorem pf(bs:List Bool):(List.range bs.length).all (fun i=>bs.getD i true)=bs.all id:=by
 rw[bx,bd,bd];constructor
 ·intro h b c;obtain⟨i,hi,rfl⟩:=List.mem_iff_getElem.mp c;have:=h i (ah.mpr hi);simpa[bo,hi]using this
 ·intro h i hi;have a:=ah.mp hi;have:=h _ (bA a);simpa[bo,a]using this
theorem pe(bs:List Bool):(List.range bs.length).any (fun i=>bs.getD i true)=bs.any id:=by
 rw[bx,bz,bz];constructor
 ·rintro⟨i,hi,h⟩;have a:=ah.mp hi;exact⟨bs[i],bA a,by simpa[bo,a]using h⟩
 ·rintro⟨b,c,h⟩;obtain⟨i,hi,rfl⟩:=List.mem_iff_getElem.mp c;exact⟨i,ah.mpr hi,by simpa[bo,hi]using h⟩
theorem t7{s:cF}{b:Bool}{a:cG}{bs:List Bool}(hc:X.A.handled=none)(co:SCo b s.heap a (bs.map Value.bool).toArray){Q:cE->cF->Prop}(all:∀h' tk,(∀c o,s.heap.get? c=some o->h'.get? c=some o)->Q (.bool (bs.all id)) {s with heap:=h',toks:=tk}):cO (model X.prog X.w) X.A (call (.builtin "all") [.ref a]) Q X.xe s:=by
 refine call_all_walk (iH co ?_);have h:a<s.heap.objs.size:=by cases b<;>(obtain⟨o,e,_⟩:=co;exact hL1 e)
 have ne:a≠s.heap.objs.size:=nN1 h;have j:TruthOf X.prog X.w X.A.in1 (fun i v=>(bs.map Value.bool).toArray[i]?=some v) (fun i=>bs.getD i true):=fun i v s' p n l g=>by
  have d:(bs.map Value.bool)[i]?=some v:=by simpa using l
  rw[gP1]at d;obtain⟨k,m,rfl⟩:=oM1.mp d;dsimp only at g;rw[bo,m]at g;exact wpAny_truthy_bool g
 have keep:∀(h':cP),(∀c o,c∉[s.heap.objs.size]->(s.heap.push (ft b a)).get? c=some o->h'.get? c=some o) -> ∀c o,s.heap.get? c=some o->h'.get? c=some o:=fun h' f c o e=>
  f c o (by simpa using nN1 (hL1 e)) (hP1 _ e)
 have hi:(s.heap.push (ft b a)).get? s.heap.objs.size=some (ft b a):=hS1 _ (by cases b<;>rfl);cases b with
 |true=>
  refine⟨s.heap.objs.size,_,_,_,_,_,_,rfl,Walks.list (A:=X.A.in1) hc s.heap.objs.size a ne (bs.map Value.bool).toArray,⟨⟨_,hi,rfl,rfl⟩,SCo.to (b:=true) co fun o e=>hP1 _ e⟩,j,fun h' tk f=>?_⟩;have e:(bs.map Value.bool).toArray.size=bs.length:=by simp
  rw[e,pf];exact all h' tk (keep h' f)
 |false=>
  refine⟨s.heap.objs.size,_,_,_,_,_,_,rfl,Walks.tuple (A:=X.A.in1) hc s.heap.objs.size a ne (bs.map Value.bool).toArray,⟨⟨_,hi,rfl,rfl⟩,SCo.to (b:=false) co fun o e=>hP1 _ e⟩,j,fun h' tk f=>?_⟩;have e:(bs.map Value.bool).toArray.size=bs.length:=by simp
  rw[e,pf];exact all h' tk (keep h' f)
theorem walk_bools'{s:cF}{b:Bool}{a:cG}{bs:List Bool}(hc:X.A.handled=none)(co:SCo b s.heap a (bs.map Value.bool).toArray){Q:cE->cF->Prop}(all:∀h' tk,(∀c o,s.heap.get? c=some o->h'.get? c=some o)->Q (.bool (bs.any id)) {s with heap:=h',toks:=tk}):cO (model X.prog X.w) X.A (call (.builtin "any") [.ref a]) Q X.xe s:=by
 refine call_any_walk (iH co ?_);have h:a<s.heap.objs.size:=by cases b<;>(obtain⟨o,e,_⟩:=co;exact hL1 e)
 have ne:a≠s.heap.objs.size:=nN1 h;have j:TruthOf X.prog X.w X.A.in1 (fun i v=>(bs.map Value.bool).toArray[i]?=some v) (fun i=>bs.getD i true):=fun i v s' p n l g=>by
  have d:(bs.map Value.bool)[i]?=some v:=by simpa using l
  rw[gP1]at d;obtain⟨k,m,rfl⟩:=oM1.mp d;dsimp only at g;rw[bo,m]at g;exact wpAny_truthy_bool g
 have keep:∀(h':cP),(∀c o,c∉[s.heap.objs.size]->(s.heap.push (ft b a)).get? c=some o->h'.get? c=some o) -> ∀c o,s.heap.get? c=some o->h'.get? c=some o:=fun h' f c o e=>
  f c o (by simpa using nN1 (hL1 e)) (hP1 _ e)
 have hi:(s.heap.push (ft b a)).get? s.heap.objs.size=some (ft b a):=hS1 _ (by cases b<;>rfl);cases b with
 |true=>
  refine⟨s.heap.objs.size,_,_,_,_,_,_,rfl,Walks.list (A:=X.A.in1) hc s.heap.objs.size a ne (bs.map Value.bool).toArray,⟨⟨_,hi,rfl,rfl⟩,SCo.to (b:=true) co fun o e=>hP1 _ e⟩,j,fun h' tk f=>?_⟩;have e:(bs.map Value.bool).toArray.size=bs.length:=by simp
  rw[e,pe];exact all h' tk (keep h' f)
 |false=>
  refine⟨s.heap.objs.size,_,_,_,_,_,_,rfl,Walks.tuple (A:=X.A.in1) hc s.heap.objs.size a ne (bs.map Value.bool).toArray,⟨⟨_,hi,rfl,rfl⟩,SCo.to (b:=false) co fun o e=>hP1 _ e⟩,j,fun h' tk f=>?_⟩;have e:(bs.map Value.bool).toArray.size=bs.length:=by simp
  rw[e,pe];exact all h' tk (keep h' f)
theorem DA(hc:X.calm=true):ei X (.builtin "all") (rN X.K (b1 zZ)):=by
 intro pins s σ H xs w Q I r h;obtain⟨x,mu,S,d,v,p,rfl,n,f,c,e⟩:=xC h;obtain⟨⟨b,ys⟩,j,c⟩:=oB1.mp c;obtain⟨k,g,c⟩:=oM1.mp c;cases c;obtain⟨a,vs,rfl,q,t⟩:=db n f j;obtain⟨u,rfl,o⟩:=hH r;cases o;obtain⟨i,l,co,_⟩:=ej I q;obtain⟨bs,rfl,rfl⟩:=C3 t l g;exact t7 (I.ok.hd hc) co fun h' tk m=>⟨.bl _,H,I.kept m,rfl,e.now (.bl _) f⟩
theorem Iq(hc:X.calm=true):ei X (.builtin "any") (rN X.K (b1 CO)):=by
 intro pins s σ H xs w Q I r h;obtain⟨x,mu,S,d,v,p,rfl,n,f,c,e⟩:=xC h;obtain⟨⟨b,ys⟩,j,c⟩:=oB1.mp c;obtain⟨k,g,c⟩:=oM1.mp c;cases c;obtain⟨a,vs,rfl,q,t⟩:=db n f j;obtain⟨u,rfl,o⟩:=hH r;cases o;obtain⟨i,l,co,_⟩:=ej I q;obtain⟨bs,rfl,rfl⟩:=C1 t l g;exact walk_bools' (I.ok.hd hc) co fun h' tk m=>⟨.bl _,H,I.kept m,rfl,e.now (.bl _) f⟩
theorem tR:ei X (.type "int") (rN X.K (b1 oV)):=by
 intro pins s σ H xs e Q I r h;obtain⟨x,mu,S,d,j,g,rfl,f,c,a,hc⟩:=xC h;cases d with
 |int i=>cases a;cases f;exact pK pins s σ H _ e Q I r (.inl ⟨i,rfl,hc.now (.int _) c⟩)
 |bl b=>cases a;cases f;exact pK pins s σ H _ e Q I r (.inr ⟨b,rfl,hc.now (.int _) c⟩)
 |_=>cases a
theorem Dz(hc:X.calm=true):ei X (.builtin "max") (rN X.K (b2 xc)):=by
 intro pins s σ H xs f Q I r h;obtain⟨x,y,mu,S,d,e,j,i,rfl,g,r2,c,a,b⟩:=wN h;unfold xc at a;split at a
 ·cases a;cases g;cases r2;exact xy hc pins s σ H _ f Q I r ⟨_,_,rfl,b.now (.int _) c⟩
 ·cases a
theorem Ap(hc:X.calm=true):ei X (.builtin "min") (rN X.K (b2 ri)):=by
 intro pins s σ H xs f Q I r h;obtain⟨x,y,mu,S,d,e,j,i,rfl,g,r2,c,a,b⟩:=wN h;unfold ri at a;split at a
 ·cases a;cases g;cases r2;exact xw hc pins s σ H _ f Q I r ⟨_,_,rfl,b.now (.int _) c⟩
 ·cases a
end
open PySem.SeqAt
open PySem.AutoSeq1 (wpAny_loadPart')
open PySem.MeetsSeq PySem.MeetsSeq2 PySem.MeetsSeq3
def C7(A:cI)(s:cF)(y x:cE)(b:Bool):Prop:=∀(prog:cH) (w:cJ) (E:cE->cF->Prop) (Q:cE->cF->Prop),Q (.bool b) s->cO (model prog w) A (richCompare .Lt y x) Q E s
inductive xF (A:cI)(s:cF):List cE->List cE->Bool->Prop
 |nn:xF A s [] [] false
 |nc (y:cE) (ys:List cE):xF A s [] (y::ys) true
 |cn (x:cE) (xs:List cE):xF A s (x::xs) [] false
 |eq {x y:cE} {xs ys:List cE} {k:Bool} (e:EqAt A.in1 s x y true) (t:xF A s xs ys k):xF A s (x::xs) (y::ys) k
 |lt {x y:cE} {xs ys:List cE} {k:Bool} (e:EqAt A.in1 s x y false) (t:C7 A.in1 s x y k):xF A s (x::xs) (y::ys) k
theorem DU(l b:cG)(items items2:Array cE)(n z:Nat)(E q:Option cG)(B o:Array (Option cE))(c:Bool):
  Meets (Builtin.«tuple.__lt__» ⟨[.ref l,.ref b],[]⟩) (fun A R s=>s.heap.get? l=some {cls:=.type "tuple",dict:=E,data:=.seq items n,slots:=B}/\s.heap.get? b=some {cls:=.type "tuple",dict:=q,data:=.seq items2 z,slots:=o} /\
    xF A s items.toList items2.toList c/\R (.ok (.ret (.bool c))) s):=
 .of_wp fun prog w A R s h=>by
  obtain⟨v,g,d,tk,u⟩:=s;obtain⟨D,F,C,h⟩:=h;have I:=AutoSeq1.sub_tuple_tuple
  wp_walk using wpAny_loadPart' D,wpAny_loadPart' F,wpAny_forIn_list _ (fun rest b s'=>b.1=none/\s'=⟨v,g,d,tk,u⟩ /\ ∃vs ws:List cE,rest=vs.zip ws/\xF A ⟨v,g,d,tk,u⟩ vs ws c/\vs.length+items2.size=ws.length+items.size) _
  case turn=>
   rintro⟨y,x⟩ rest b s' ⟨j,rfl,vs,ws,f,m,a⟩;cases m with
   |nn=>cases f
   |nc _ _=>cases f
   |cn _ _=>cases f
   |eq e t=>
    rw[bB]at f;injection f with k i;injection k with r p;subst r p
    simp only[lC1]at a;refine wB1 (e prog w _ _ ?_)
    wp_walk
    exact⟨rfl,rfl,_,_,i,t,by lia⟩
   |lt e t=>
    rw[bB]at f;injection f with k i;injection k with r p;subst r p
    refine wB1 (e prog w _ _ ?_);have H:=t prog w
    wp_walk using H
    exact⟨_,rfl,by simpa using h⟩
  case fin=>
   rintro⟨b1,b2⟩ s' ⟨j,rfl,vs,ws,f,m,a⟩;simp only at j;subst j;have G:c=decide (items.size<items2.size):=by
    cases m with
    |nn=>simp only[aO]at a;exact(decide_eq_false (by lia)).symm
    |nc _ _=>simp only[aO,lC1]at a;exact(decide_eq_true (by lia)).symm
    |cn _ _=>simp only[aO,lC1]at a;exact(decide_eq_false (by lia)).symm
    |eq _ _=>rw[bB]at f;cases f
    |lt _ _=>rw[bB]at f;cases f
   rw[G]at h
   wp_walk
   exact⟨_,rfl,by simpa[Builtin.Tuple.tupleCompareSizes]using h⟩
  case h=>exact⟨rfl,rfl,items.toList,items2.toList,rfl,C,by simp;lia⟩
theorem zz(l b:cG)(items items2:Array cE)(n C:Nat)(H x:Option cG)(E v:Array (Option cE))(c:Bool)(k:Nat):
  ∀i:Nat,items.size-i=k->i<=items.size->i<=items2.size->Meets (Builtin.«list.__eq__.loop» ⟨[.ref l,.ref b,rawInt i,rawInt 0],[]⟩)
   (fun A R s=>s.heap.get? l=some {cls:=.type "list",dict:=H,data:=.seq items n,slots:=E}/\s.heap.get? b=some {cls:=.type "list",dict:=x,data:=.seq items2 C,slots:=v} /\
    xF A s (items.toList.drop i) (items2.toList.drop i) c/\R (.ok (.ret (.bool c))) s):=by
 induction k with
 |zero=>
  intro i J z u prog w A R s h;obtain⟨F,g,d,tk,D⟩:=s;obtain⟨j,m,a,h⟩:=h
  wp_walk using wpAny_loadPart' j,wpAny_loadPart' m
  have p:items[((i:Nat):Int).toNat]?=none:=by simp;lia
  have r:items.toList.drop i=[]:=by simp;lia
  rw[r]at a;rw[p]
  wp_walk using wpAny_loadPart' j,wpAny_loadPart' m
  have I:c=decide (items.size<items2.size):=by
   cases h2:items2.toList.drop i with
   |nil=>
    rw[h2]at a;cases a;have:=congrArg List.length h2;simp at this;exact(decide_eq_false (by lia)).symm
   |cons y ys=>
    rw[h2]at a;cases a;have:=congrArg List.length h2;simp at this;exact(decide_eq_true (by lia)).symm
  show R (.ok (.ret (.bool (decide (items.size<items2.size))))) _;rw[<- I];exact h
 |succ k ih=>
  intro i J z u prog w A R s h;obtain⟨F,g,d,tk,D⟩:=s;obtain⟨j,m,a,h⟩:=h;have o:i<items.size:=by lia
  have r:items.toList.drop i=items[i]::items.toList.drop (i+1):=by simp[bC,o]
  have p:items[((i:Nat):Int).toNat]?=some items[i]:=by simp[o]
  have hc:((i:Int)+1)=((i+1:Nat):Int):=by push_cast;rfl
  rw[r]at a;rcases bD i items2.size with f|G
  ·have B:items2.toList.drop i=items2[i]::items2.toList.drop (i+1):=by simp[bC,f]
   have q:items2[((i:Nat):Int).toNat]?=some items2[i]:=by simp[f]
   rw[B]at a
   wp_walk using wpAny_loadPart' j,wpAny_loadPart' m
   rw[p,q];cases a with
   |eq e t=>
    refine wB1 (e prog w _ _ ?_)
    wp_walk
    rw[hc];exact⟨plainId_quiet plain_eq_loop _,wD1 entry_eq_loop (by rw[Around.under_plainId plain_eq_loop _];exact ih (i+1) (by lia) (by lia) (by lia) prog w A R _ ⟨j,m,t,h⟩)⟩
   |lt e t=>
    refine wB1 (e prog w _ _ ?_);have K:=t prog w
    wp_walk using wpAny_loadPart' j,wpAny_loadPart' m
    rw[p,q]
    wp_walk using K
    simpa using h
  ·have q:items2[((i:Nat):Int).toNat]?=none:=by simp;lia
   have B:items2.toList.drop i=[]:=by simp;lia
   rw[B]at a;cases a
   wp_walk using wpAny_loadPart' j,wpAny_loadPart' m
   rw[p,q]
   wp_walk using wpAny_loadPart' j,wpAny_loadPart' m
   show R (.ok (.ret (.bool (decide (items.size<items2.size))))) _;rw[decide_eq_false (by lia)];exact h
theorem Fz(l b:cG)(items items2:Array cE)(n j:Nat)(k e:Option cG)(f a:Array (Option cE))(c:Bool):
  Meets (Builtin.«list.__lt__» ⟨[.ref l,.ref b],[]⟩) (fun A R s=>s.heap.get? l=some {cls:=.type "list",dict:=k,data:=.seq items n,slots:=f}/\s.heap.get? b=some {cls:=.type "list",dict:=e,data:=.seq items2 j,slots:=a} /\
    xF A s items.toList items2.toList c/\R (.ok (.ret (.bool c))) s):=by
 intro prog w A R s h;obtain⟨p,g,d,tk,r⟩:=s;obtain⟨i,m,o,h⟩:=h;have q:=AutoSeq1.sub_list_list
 wp_walk using wpAny_loadPart' i,wpAny_loadPart' m
 exact⟨plainId_quiet plain_eq_loop _,wD1 entry_eq_loop (by rw[Around.under_plainId plain_eq_loop _];exact zz l b items items2 n j k e f a c _ 0 rfl (aR _) (aR _) prog w A R _ ⟨i,m,by simpa using o,h⟩)⟩
theorem D8{A:cI}{s:cF}{k:Bool}{l b:cG}{xs ys:Array cE}{c:Bool}(z:SCo k s.heap l xs)(B:SCo k s.heap b ys)(y:A.units<cLine)(h:xF A s xs.toList ys.toList c):C7 A s (.ref l) (.ref b) c:=fun prog w E Q q=>by
 cases k
 ·obtain⟨⟨r,v,m,t⟩,o,hc,n,j⟩:=id z;obtain⟨⟨p,g,i,f⟩,e,d,u,a⟩:=id B;simp only at hc j d a;subst hc j d a;exact richCompare_meets_room (op:=.Lt) ⟨_,o,rfl⟩ ⟨_,e,rfl⟩ PySem.F.slot_tuple_lt PySem.F.entry_tuple_lt (PySem.F.args_tuple_lt_2 _ _) (DU l b xs ys n u v g t f c) ⟨o,e,h,show Value.bool c≠Value.notImplemented/\Q (.bool c) s from⟨(fun x=>nomatch x),q⟩⟩ y
 ·obtain⟨⟨r,v,m,t⟩,o,hc,n,j⟩:=id z;obtain⟨⟨p,g,i,f⟩,e,d,u,a⟩:=id B;simp only at hc j d a;subst hc j d a;exact richCompare_meets_room (op:=.Lt) ⟨_,o,rfl⟩ ⟨_,e,rfl⟩ PySem.F.slot_list_lt PySem.F.entry_list_lt (PySem.F.args_list_lt_2 _ _) (Fz l b xs ys n u v g t f c) ⟨o,e,h,show Value.bool c≠Value.notImplemented/\Q (.bool c) s from⟨(fun x=>nomatch x),q⟩⟩ y
def HS(f g:D->D->Option Bool):List D->List D->Option Bool
 |[],[]=>some false
 |[],_::_=>some true
 |_::_,[]=>some false
 |x::xs,y::ys=>(f x y).bind fun b=>if b=true then HS f g xs ys else g x y
def JC:D->D->Option Bool
 | .int i,.int j=>some (decide (i<j))
 | .str x,.str y=>some (decide (x.cps.toList<y.cps.toList))
 |_,_=>none
def Dp(S:Sto):Nat->D->D->Option Bool
 |0,_,_=>none
 |n+1,d,e=>match JC d e with
  |some b=>some b
  |none=>match dj S d,dj S e with
   |some p,some q=>if p.1=q.1 then HS (eqN S n) (Dp S n) p.2 q.2 else none
   |_,_=>none
def gLt:G2:=fun d e S=>(Dp S dr d e).map fun b=>(.bl b,S)
section
variable{X:Cx}{pins:List (cG×Obj)}{σ:L2.St}{H:Hp}{s:cF}{mu:List cG}{S:Sto}
theorem Fy(I:Inv X pins σ H s)(hs:Sim X.K H mu S){n:Nat}{A:cI}(l:A.units+1+n<cLine)(ih:∀ {d e:D} {v w:V} {u z:cE} {b:Bool},eD X.K H mu d v->eD X.K H mu e w->dn v u->dn w z->Dp S n d e=some b->C7 A.in1 s u z b):
  ∀{xs ys:List D} {vs ws:List V} {f zs:List cE} {b:Bool},dh X.K H mu xs vs->dh X.K H mu ys ws->dE vs f->dE ws zs->HS (eqN S n) (Dp S n) xs ys=some b->xF A s f zs b
 :=by
 intro xs
 induction xs with
 |nil=>
  intro ys vs ws f zs b a r2 g c h;cases a;cases g;cases r2 with
  |nil=>cases c;cases h;exact .nn
  |cons _ _=>cases c;cases h;exact .nc _ _
 |cons x xs r=>
  intro ys vs ws f zs b a r2 g c h;cases a with
  |cons a p=>
   cases g with
   |cons j q=>
    cases r2 with
    |nil=>cases c;cases h;exact .cn _ _
    |cons r2 m=>
     cases c with
     |cons i p2=>
      rw[HS]at h;obtain⟨k,o,h⟩:=oB1.mp h;have eq:=(mz I hs n (A:=A.in1) l a r2 j i o).1;cases k with
      |true=>exact .eq eq (r p m q p2 h)
      |false=>exact .lt eq (ih a r2 j i h)
theorem zy(I:Inv X pins σ H s)(hs:Sim X.K H mu S):∀(n:Nat) {A:cI} {d e:D} {v w:V} {u z:cE} {b:Bool},A.units+n<cLine->eD X.K H mu d v->eD X.K H mu e w->dn v u->dn w z->Dp S n d e=some b->C7 A s u z b
 |0,_,_,_,_,_,_,_,_,_,_,_,_,_,h=>by cases h
 |n + 1,A,d,e,v,w,u,z,b,U,o,l,g,j,h=>by
  rw[Dp]at h;split at h
  ·rename_i k c;cases h;unfold JC at c;split at c
   ·cases c;cases o;cases l;obtain⟨t,rfl⟩:=g;obtain⟨r,rfl⟩:=j;exact fun prog w E Q q=>(PyProof.Rows.lt_int q:cO (model prog w) A (compareOp .Lt (.int _ t) (.int _ r)) Q E s)
   ·cases c;cases o;cases l;obtain⟨t,rfl⟩:=g;obtain⟨r,rfl⟩:=j;exact fun prog w E Q q=>(PyProof.Rows.lt_str q:cO (model prog w) A (compareOp .Lt (.str _ t) (.str _ r)) Q E s)
   ·cases c
  ·split at h
   ·rename_i p q y C;split at h
    ·rename_i L;obtain⟨P,xs⟩:=p;obtain⟨qb,ys⟩:=q;have i:P=qb:=L;subst i;obtain⟨a,vs,rfl,O,F⟩:=db o hs y;obtain⟨W,M,rfl,R,N⟩:=db l hs C;cases g;cases j;obtain⟨J,B,co,_⟩:=ej I O;obtain⟨x,f,m,_⟩:=ej I R;refine D8 co m (by lia) ?_;have:=Fy I hs (A:=A) (n:=n) (by lia) (fun G r2 T K h=>zy I hs n (A:=A.in1) (by show A.units+1+n<cLine;lia) G r2 T K h) F N B f h;simpa using this
    ·cases h
   ·cases h
theorem kG(k:X.A.units+64<cLine):gg X (compareOp .Lt) (r2 X.K (b2 gLt)):=by
 intro pins s σ H x y u w Q I g i h;obtain⟨mu,S,d,e,r,l,j,r2,c,a,hc⟩:=sj h;obtain⟨b,f,a⟩:=oM1.mp a;cases a;exact zy I c dr (by show _+60<cLine;lia) j r2 g i f X.prog X.w X.xe _ ⟨.bl b,H,I,rfl,hc.now (.bl b) c⟩
end
inductive Ty where
 |int|bool|str|tuple|list|dict
 deriving DecidableEq
def Ty.nm:Ty->String
 | .int=>"int" | .bool=>"bool" | .str=>"str" | .tuple=>"tuple" | .list=>"list" | .dict=>"dict"
def q9(S:Sto)(T:Ty):D->Option Bool
 | .non=>some false
 | .bl _=>some (decide (T = .bool)||decide (T = .int))
 | .int _=>some (decide (T = .int))
 | .str _=>some (decide (T = .str))
 | .tup _=>some (decide (T = .tuple))
 | .rol _=>some (decide (T = .list))
 | .ref n=>match S[n]? with
  |some (.lst _)=>some (decide (T = .list))
  |some (.dct _)=>some (decide (T = .dict))
  |some (.dcT _)=>some (decide (T = .dict))
  |_=>none
 | .fn _=>none
def m3(T:Ty)(m:FE):FE:=fun r S=>(m r S).bind fun p=>(q9 p.2 T p.1).map fun b=>(.bl b,p.2)
section
variable{X:Cx}{pins:List (cG×Obj)}{σ:L2.St}{H:Hp}{s:cF}{mu:List cG}{S:Sto}{K:Fg1}
theorem Cv(T:Ty):PySem.W.kitOne K (.type "NoneType") (.type T.nm)=some false:=by cases T<;>rfl
theorem FK(T:Ty):PySem.W.kitOne K (.type "bool") (.type T.nm)=some (decide (T = .bool)||decide (T = .int)):=by cases T<;>rfl
theorem Cy(T:Ty):PySem.W.kitOne K (.type "int") (.type T.nm)=some (decide (T = .int)):=by cases T<;>rfl
theorem Cu(T:Ty):PySem.W.kitOne K (.type "str") (.type T.nm)=some (decide (T = .str)):=by cases T<;>rfl
theorem Ct(T:Ty):PySem.W.kitOne K (.type "tuple") (.type T.nm)=some (decide (T = .tuple)):=by cases T<;>rfl
theorem Cw(T:Ty):PySem.W.kitOne K (.type "list") (.type T.nm)=some (decide (T = .list)):=by cases T<;>rfl
theorem vK(T:Ty):PySem.W.kitOne K (.type "dict") (.type T.nm)=some (decide (T = .dict)):=by cases T<;>rfl
theorem CC{T:Ty}{d:D}{v:V}{u:cE}{b:Bool}{Q:cE->cF->Prop}{E:cE->cF->Prop}(I:Inv X pins σ H s)(hs:Sim X.K H mu S)(r:eD X.K H mu d v)(f:dn v u)(h:q9 S T d=some b)(q:∀ tk,Q (.bool b) {s with toks:=tk}):
  cO (model X.prog X.w) X.A (call (.builtin "isinstance") [u,.type T.nm]) Q E s:=by
 have g:∀{k:Bool} {a:cG} {vs:List V},rO X.K k H a vs->b=(match k with|true=>decide (T = .list)|false=>decide (T = .tuple))->cO (model X.prog X.w) X.A (call (.builtin "isinstance") [.ref a,.type T.nm]) Q E s:=fun{k a vs} j p=>by
  obtain⟨y,B,co,_⟩:=ej I j;cases k
  ·obtain⟨o,e,c,_⟩:=co;subst p;exact PySem.W.kia_one PySem.W.kitx_tuple I.kIn ⟨o,e,c⟩ (Ct T) (fun z=>nomatch z) q
  ·obtain⟨o,e,c,_⟩:=co;subst p;exact PySem.W.kia_one PySem.W.kitx_list I.kIn ⟨o,e,c⟩ (Cw T) (fun z=>nomatch z) q
 cases d with
 |non=>cases h;cases r;exact iN I f .non (Cv T) q
 |bl k=>cases h;cases r;exact iN I f (.bl k) (FK T) q
 |int i=>cases h;cases r;exact iN I f (.int i) (Cy T) q
 |str x=>cases h;cases r;exact iN I f (.str x) (Cu T) q
 |tup xs=>
  cases h;obtain⟨a,vs,rfl,j,t⟩:=db (S:=S) r hs rfl;cases f;exact g j rfl
 |fn x=>cases h
 |rol xs=>
  cases h;obtain⟨a,vs,rfl,j,t⟩:=db (S:=S) r hs rfl;cases f;exact g j rfl
 |ref n=>
  rw[q9]at h;split at h
  ·rename_i xs e;cases h;obtain⟨a,vs,rfl,j,t⟩:=db (S:=S) r hs (by rw[dj,e]);cases f;exact g j rfl
  ·rename_i ks e;cases h;cases r with
   |ref l=>
    obtain⟨ws,m,_⟩:=hs.dct e l;exact iN I f (.dK m) (vK T) q
  ·rename_i ks e;cases h;cases r with
   | @ref _ a l=>
    cases(show u=Value.ref a from f);obtain⟨ws,m,_⟩:=hs.dcT e l;obtain⟨⟨_,_,o,_,_,w,A,_⟩,_⟩:=(show ea X.prog X.w H s.heap a (.ext (j8 a ws))from I.hok a _ m);exact PySem.W.kia_one PySem.W.kitx_dict I.kIn ⟨o,w,A.1⟩ (vK T) (fun z=>nomatch z) q
  ·cases h
theorem Ar(T:Ty):ei X (.builtin "isinstance") (fun xs H Q=>∃x mu S d b,xs=[x,.ty T.nm]/\eD X.K H mu d x/\Sim X.K H mu S/\q9 S T d=some b/\Q (.bl b) H):=by
 intro pins s σ H xs g Q I r h;obtain⟨x,mu,S,d,b,rfl,e,c,a,hc⟩:=h;obtain⟨u,i,rfl,f,rt⟩:=xV r;cases rt;exact CC I c e f a fun tk=>⟨.bl b,H,I.tok tk,rfl,hc⟩
theorem wX (T:Ty){e:Expr}{m:FE}{nm:Str}{p p2 pos:Pos}(hg:Gl X "isinstance")(hm:X.mg "isinstance"=none)(hg2:Gl X nm)(hm2:X.mg nm=none)(hv2:bootBuiltins nm=some (.type T.nm))(h:ME X e m)
  (hn:nm≠"__name__":=by decide) (hd:(nm == ("__debug__":Str))=false:=by decide)
  (hs1:cM [e,.Name nm p2] X.env=(false,eval e X.env)::cM [.Name nm p2] X.env:=by rfl) (hs2:cM [.Name nm p2] X.env=(false,eval (.Name nm p2) X.env)::cM [] X.env:=by rfl)
  (hpl:(backTo pos (cM [.Name nm p2] X.env)).any (·.1)=false:=by rfl):ME X (.Call (.Name "isinstance" p) [e,.Name nm p2] [] pos) (m3 T m):=
 d8 (nN (Ar T) hg hm (by decide+kernel) (i6 h (i6 (BQ (v:=.ty T.nm) hg2 hm2 hv2 rfl hn hd) ma hs2) hs1) (by decide) (by decide) hs1 hpl) <| by
  rintro σ H Q ⟨r,mu,S,d,n,i,j,hm,hc⟩;obtain⟨⟨a,o⟩,g,hm⟩:=oB1.mp hm;obtain⟨b,f,hm⟩:=oM1.mp hm;cases hm;refine⟨r,mu,S,a,_,i,j,g,fun v H1 mu1 l k c=>?_⟩;exact⟨v,mu1,_,a,b,rfl,k,c,f,hc _ H1 mu1 l (.bl b) c⟩
end
abbrev FO:=Ev->Sto->Option (Option Int×Sto)
def Kv(K:Fg1)(m:FO):TO:=fun σ H Q=>∃r mu S o S',fh K H mu r σ/\Sim K H mu S/\m r S=some (o,S') /\ ∀H' mu',Ext mu mu' H H'->Sim K H' mu' S'->Q o H'
abbrev MO(X:Cx)(e:Option Expr)(m:FO):Prop:=PO X e (Kv X.K m)
def jh:FO:=fun _ S=>some (none,S)
def gQ(m:FE):FO:=fun r S=>(m r S).bind fun p=>match p.1 with
 | .int i=>some (some i,p.2)
 |_=>none
def m8(xs:List D)(lo hi:Option Int):List D:=(xs.drop (HT.sIx xs.length 0 lo)).take (HT.sIx xs.length xs.length hi-HT.sIx xs.length 0 lo)
section
variable{X:Cx}
theorem B7:MO X none jh:=by
 rintro pins s σ H Q I ⟨r,mu,S,o,c,d,b,a,hc⟩;cases a;exact BF pins s σ H Q I (hc H mu (.refl _ _) b)
theorem B6{e:Expr}{m:FE}(h:ME X e m):MO X (some e) (gQ m):=by
 rintro pins s σ H Q I ⟨r,mu,S,o,l,f,g,a,hc⟩;obtain⟨⟨d,n⟩,c,a⟩:=oB1.mp a;cases d with
 |int i=>
  cases a;refine BE h pins s σ H Q I ⟨r,mu,S,_,_,f,g,c,fun v H1 mu1 k j b=>?_⟩;cases j;exact⟨i,rfl,hc H1 mu1 k b⟩
 |_=>cases a
theorem we{K:Fg1}{H:Hp}{mu:List cG}{ds:List D}{vs:List V}(t:dh K H mu ds vs)(lo hi:Option Int):dh K H mu (m8 ds lo hi) (tK vs lo hi):=by
 unfold m8 tK;rw[<- t.length];exact(t.drop _).take _
def GS(ta:TA):TE:=fun σ H Q=>ta σ H fun vs H1=>∃j:Int,vs=[.int j] /\ ∀p,H1 p=none->Q (.ref p) (upd H1 p (.rng 0 j))
theorem ph {a:Expr}{ta:TA}{p pos:Pos}(hg:Gl X "range")(hm:X.mg "range"=none)(ha:PA X [a] ta)(hs:cM [a] X.env=[(false,eval a X.env)]:=by rfl):PE X (.Call (.Name "range" p) [a] [] pos) (GS ta):=by
 intro pins s σ H Q I h;refine Call_ (jU I hg hm boot_range (PyProof.Rows.callWith_type1 (eQ (ha pos pins s σ H _ I h) fun k d ⟨vs,H1,c,g,i⟩=>?_) hs rfl));obtain⟨j,e,q⟩:=i;subst e;cases g with
 |cons r f=>
  cases f;obtain⟨t,rfl⟩:=r;refine call_range_1 ⟨.ref d.heap.objs.size,_,c.laid (fun b o e=>hP1 _ e) (nR1 _) (o:=.rng 0 j) ?_,rfl,q _ (c.hok.fresh (nR1 _))⟩;exact⟨_,_,_,hS1 _ rfl⟩
def ku(i:Int):Nat->List V
 |0=>[]
 |n+1=>.int i::ku (i+1) n
theorem jE:∀(n:Nat) (i:Int),(ku i n).length=n
 |0,_=>rfl
 |n+1,i=>by rw[ku,lC1,jE n]
theorem nJ:∀(n:Nat) (i:Int) (k:Nat) (v:V),(ku i n)[k]?=some v->v = .int (i+k)
 |0,i,k,v,h=>by simp[ku]at h
 |n+1,i,0,v,h=>by simp[ku]at h;rw[<- h];simp
 |n+1,i,k+1,v,h=>by
  rw[ku,gC1]at h;rw[nJ n (i+1) k v h,show i+1+(k:Int)=i+((k+1:Nat):Int) by push_cast;lia]
theorem nI{K:Fg1}{H:Hp}{mu:List cG}:∀(n:Nat) (i:Int),dh K H mu (gP i n) (ku i n)
 |0,_=>.nil
 |n+1,i=>.cons (.int i) (nI n (i+1))
theorem pV:∀{xs:List V} {a:List cE},xs.length=a.length->(∀(i:Nat) x u,xs[i]?=some x->a[i]?=some u->dn x u)->dE xs a
 |[],[],_,_=>.nil
 |x::xs,u::a,h,f=>.cons (f 0 x u rfl rfl) (pV (by simpa using h) fun i y w h1 h2=>f (i+1) y w (by simpa using h1) (by simpa using h2))
 |[],_::_,h,_=>by simp at h
 |_::_,[],h,_=>by simp at h
theorem CY(hc:X.calm=true):ei X (.type "list") (fun xs H Q=>∃p i j,xs=[.ref p]/\H p=some (.rng i j)/\(-(2^62)<=i/\i<2^62 /\ -(2^62)<=j/\j<2^62)/\(j-i).toNat<=2^20 /\ ∀l,H l=none->Q (.ref l) (upd H l (.lst (ku i (j-i).toNat)))):=by
 intro pins s σ H xs F Q I r h;obtain⟨p,i,j,rfl,B,⟨h1,h2,g,D⟩,f,q⟩:=h;obtain⟨u,rfl,E⟩:=hH r;cases E;obtain⟨t,u,v,e⟩:=I.hok p _ B;have m:(((j-i).toNat:Nat):Int)=Builtin.Range.rangeSize i j 1:=by rw[rangeSize_one];split<;>lia
 refine call_list_range (n:=(j-i).toNat) (I.ok.hd hc) e (small_one h1 h2 g D) m.symm (ai f (by decide)) fun h' tk c z A o hi=>?_;obtain⟨d,b⟩:=hi;have a:dE (ku i (j-i).toNat) c.toList:=pV (by rw[jE];simpa using d.symm) fun k x u y w=>by
  rw[nJ _ _ _ _ y];obtain⟨C,rfl⟩:=b k u (by simpa using w);exact⟨C,by rw[Int.mul_one]⟩
 refine⟨.ref s.heap.objs.size,_,I.laid (t':=tk) A (nR1 _) (show ea X.prog X.w _ h' _ (.lst (ku i (j-i).toNat))from⟨?_,c.toList,z,a,by simpa using o⟩),rfl,q _ (I.hok.fresh (nR1 _))⟩;rw[jE];exact ai f (by decide)
def mG(i j:Int):Bool:=decide (-(2^62)<=i)&&decide (i<2^62)&&decide (-(2^62)<=j)&&decide (j<2^62)&&decide ((j-i).toNat<=2^20)
def w1(m:FA):FE:=fun r S=>(m r S).bind fun p=>match p.1 with
 |[.int j]=>if mG 0 j=true then some (.ref p.2.length,p.2++[.lst (gP 0 j.toNat)])else none
 |_=>none
theorem lv{i j:Int}(h:mG i j=true):(-(2^62)<=i/\i<2^62 /\ -(2^62)<=j/\j<2^62)/\(j-i).toNat<=2^20:=by
 unfold mG at h;simp only[bA1,decide_eq_true_eq]at h;obtain⟨⟨⟨⟨h1,h2⟩,b⟩,c⟩,a⟩:=h;exact⟨⟨h1,h2,b,c⟩,a⟩
theorem FB{K:Fg1}{mu:List cG}{H H1:Hp}{S1:Sto}{i j:Int}{Q:VK}{mu1:List cG}(c:Ext mu mu1 H H1)(b:Sim K H1 mu1 S1)(hc:rQ K mu H (.ref S1.length) (S1++[.lst (gP i (j-i).toNat)]) Q){p l:cG}(hp:H1 p=none)(a:upd H1 p (.rng i j) l=none):
  Q (.ref l) (upd (upd H1 p (.rng i j)) l (.lst (ku i (j-i).toNat))):=
 hc _ _ (mu1++[l]) ((c.trans (Ext.fresh hp)).trans (Ext.new_ a)) (.ref (gp b.len l)) ((b.fresh hp).newL (nI _ _) a)
theorem wW {a:Expr}{m:FA}{f p2 b c:Pos}(hc:X.calm=true)(hg:Gl X "range")(hm:X.mg "range"=none)(hg2:Gl X "list")(hm2:X.mg "list"=none)(ha:MA X [a] m)(hs:cM [a] X.env=[(false,eval a X.env)]:=by rfl)
  (hs2:cM [.Call (.Name "range" f) [a] [] b] X.env=[(false,eval (.Call (.Name "range" f) [a] [] b) X.env)]:=by rfl):ME X (.Call (.Name "list" p2) [.Call (.Name "range" f) [a] [] b] [] c) (w1 m):=
 d8 (kg (CY hc) hg2 hm2 (by decide+kernel) (i6 (ph hg hm ha hs) ma hs2) (by decide) (by decide) hs2) <| by
  rintro σ H Q ⟨r,mu,S,d,u,n,hs,hm,e⟩;obtain⟨⟨ds,w⟩,i,hm⟩:=oB1.mp hm;dsimp only at hm;split at hm
  ·rename_i j;split at hm
   ·rename_i g;cases hm;refine⟨r,mu,S,_,_,n,hs,i,fun vs H1 mu1 t s h=>?_⟩;obtain⟨v,rfl,o⟩:=lx s;cases o;refine⟨j,rfl,fun p q=>⟨p,0,j,rfl,dw,(lv g).1,(lv g).2,fun l k=>FB t h (by rw[Int.sub_zero];exact e) q k⟩⟩
   ·cases hm
  ·cases hm
end
def gr:G2:=fun o v S=>match o with
 | .ref n=>match S[n]? with
  |some (.lst xs)=>if xs.length<cN then some (.non,S.set n (.lst (xs++[v])))else none
  |_=>none
 |_=>none
def uC:G2:=fun o i S=>match o,i with
 | .ref n,.int k=>match S[n]? with
  |some (.lst xs)=>if-(2^63)<=k/\k<2^63 then(vN xs.length k).bind fun j=>(xs[j]?).map fun y=>(y,S.set n (.lst (xs.eraseIdx j)))else none
  |_=>none
 |_,_=>none
def kx(f:FN)(o:FE)(a:FA):FE:=fun r S=>(o r S).bind fun p=>match p.1 with
 | .ref n=>match p.2[n]? with
  |some (.lst _)=>(a r p.2).bind fun q=>f (p.1::q.1) q.2
  |_=>none
 |_=>none
section
variable{X:Cx}
theorem gf:GG X "list.append" (fun x xs H Q=>rN X.K (b2 gr) (x::xs) H Q):=by
 intro pins s σ H x xs v m Q I g k h;obtain⟨r,y,mu,S,d,e,q,p,j,o,r2,f,a,hc⟩:=wN h;cases j;cases d with
 |ref n=>
  rw[gr]at a;split at a
  ·rename_i ys l;split at a
   ·rename_i i;cases a;cases o with
    |ref b=>
     obtain⟨vs,c,t⟩:=f.lst l b;refine pp pins s σ H _ [y] v m Q I g k ⟨_,vs,y,rfl,rfl,c,by rw[<- t.length];exact i,?_⟩;exact hc _ _ mu (Ext.put c trivial (gM1 b)) .non (f.putL (t.append (.cons r2 .nil)) b c)
   ·cases a
  ·cases a
 |_=>cases a
theorem yh:GG X "list.pop" (fun x xs H Q=>rN X.K (b2 uC) (x::xs) H Q):=by
 intro pins s σ H x xs v A Q I l p h;obtain⟨F,y,mu,S,d,e,E,D,o,B,r2,i,a,hc⟩:=wN h;cases o;unfold uC at a;split at a
 ·rename_i n k;split at a
  ·rename_i ys q;split at a
   ·rename_i g;obtain⟨j,r,a⟩:=oB1.mp a;obtain⟨z,m,a⟩:=oM1.mp a;cases a;cases B with
    |ref b=>
     cases r2;obtain⟨vs,f,t⟩:=i.lst q b;obtain⟨w,C,c⟩:=t.get m;refine zi pins s σ H _ [.int k] v A Q I l p ⟨_,vs,k,j,w,rfl,rfl,f,g.1,g.2,?_,C,?_⟩
     ·rw[<- t.length];exact(qT r).1
     ·have x:=Ext.put (u:=.lst (vs.eraseIdx j)) f trivial (gM1 b);exact hc _ _ mu x (c.ext x) (i.putL (t.eraseIdx j) b f)
   ·cases a
  ·cases a
 ·cases a
theorem zp {o e:Expr}{es:List Expr}{m:FE}{a:FA}{f:FN}{name:Str}{apos cpos:Pos}{id:String}(slot:Slot "list" name id)(hty:typeOf (.builtin id)=pure (.type "method_descriptor"))(hm:GG X id (fun x xs H Q=>rN X.K f (x::xs) H Q))(ho:ME X o m)(ha:MA X (e::es) a)
  (hbase:attributeBase o name X.env (eval o X.env)=eval o X.env:=by rfl)
  (hfew:((backTo cpos (cM (e::es) X.env)).all (fun x=> !x.1)&&(backToKw cpos (keywordEach [] X.env)).all (fun x=>x.1.isSome)&&decide ((e::es).length+([]:List Keyword).length+(if([]:List Keyword).isEmpty then 0 else 1)<30))=true:=by rfl)
  (hline:(apos.endLine == cpos.line)=true:=by rfl) (hs:cM (e::es) X.env=(false,eval e X.env)::cM es X.env:=by rfl) (hplain:(backTo cpos (cM es X.env)).any (·.1)=false:=by rfl):
  ME X (.Call (.Attribute o name apos) (e::es) [] cpos) (kx f m a):=
 d8 (Hr PySem.F.plainAttrs_list slot hty hm ho ha hbase hfew hline hs hplain) <| by
  rintro σ H Q ⟨r,mu,S,d,C,h,hs,hm,hc⟩;obtain⟨⟨g,k⟩,D,hm⟩:=oB1.mp hm;refine⟨r,mu,S,g,k,h,hs,D,fun v H1 mu1 q l i=>?_⟩;cases g with
  |ref n=>
   dsimp only at hm;split at hm
   ·rename_i xs u;obtain⟨⟨ds,j⟩,A,hm⟩:=oB1.mp hm;refine⟨?_,r,mu1,k,ds,j,h.ext q,i,A,fun vs H2 c p r2 E=>?_⟩
    ·cases l with
     |ref B=>
      obtain⟨vs,z,t⟩:=i.lst u B;exact .inl ⟨rfl,vs,mR.of z⟩
    ·exact⟨c,j,.ref n::ds,d,C,.cons (l.ext p) r2,E,hm,fun y s b w=>hc y s b ((q.trans p).trans w)⟩
   ·cases hm
  |_=>cases hm
end
theorem BB{X:Cx}(hc:X.calm=true){elt tg iter:Expr}{ifs:List Expr}{rest:List Comprehension}{scope:cS}{pos l O:Pos}{y:Str}{i:Nat}{T:List Str}{keep:List Nat}{A:List (Str×cG)}{wi:TI}{g:TG}{ti:TT}{tb:cG->TS}{emit:cE->Env->Sem Unit}(S:swapsWith (.ListComp elt (⟨tg,iter,ifs,0⟩::rest) scope pos) (some (.Name y O)) l.line X.env=pure true)(eq:∀it t k,compTurn (.ListComp elt (⟨tg,iter,ifs,0⟩::rest) scope pos) 0 it t k=r6 iter.pos tg ifs it k (emit t k) (.compLoop (.ListComp elt (⟨tg,iter,ifs,0⟩::rest) scope pos) 0 it t k))(C:IL X scope T keep)(F:lO X.env.cells scope.names []=some A)(hi:PI X tg iter wi)(hb:∀s H d p,PG (cxC X scope A T keep s H d) tg g/\oY (cxC X scope A T keep s H d) ifs ti/\PU (cxC X scope A T keep s H d) (emit (.ref p) (cxC X scope A T keep s H d).env) (tb p))(hN:X.N.Nodup)(hy:X.N[i]?=some y)(hx:xG X.env.scope y)(hf:X.fn y=true\/X.env.scope.names.lookup y=some .local)(hs:∀x,foldedSetIterable iter X.env x=pure x:=by intro _;rfl):
  PS X (.Assign [.Name y O] (.ListComp elt (⟨tg,iter,ifs,0⟩::rest) scope pos) l) (yn (yk T.length keep wi g ti tb) (vY i)):=by
 intro pins s σ H D I h;rw[exec_Assign_Name_used _ _ _ _ S];refine wB1 (wpAny_standAt (wB1 ?_));show cO _ X.A (do let _<-comprehension (.ListComp elt (⟨tg,iter,ifs,0⟩::rest) scope pos) scope X.env _ (newList []) false (eval iter X.env) (some (assign (.Name y O) X.env))) _ _ s;refine wB1 (wpAny_mono (wpAny_comprehension_free (use:=some (assign (.Name y O) X.env)) (Q:=fun _ s'=>SP X pins D .next s') rfl hs (Am F) C.kind C.names ?_) (fun _ s' hq=>wP1 (wP1 hq)) fun _ _ e=>e);refine eQ (hi pins s σ H _ I h) fun v s1 h1=>eQ h1 fun itv a h2=>?_;obtain⟨it,d,tn,J,H2,rfl,I2,TT,K,f2,q2⟩:=h2;refine wO1 ?_;have u:Inv X pins σ (upd H2 a.heap.objs.size (.lst [])) {a with heap:=a.heap.push {cls:=.type "list",data:=.seq ([]:List cE).toArray}}:=I2.lnew (t':=a.toks) .nil (aR _);have old:∀b∈d,∃o,a.heap.get? b=some o:=fun b hb=>by
  obtain⟨o,e,_⟩:=TT.obj 0 a.heap K b hb;exact⟨o,e⟩
 have Y:∀b∈d,b≠a.heap.objs.size:=fun b hb z=>by
  obtain⟨o,e⟩:=old b hb;have:=hL1 e;rw[z]at this;exact af _ this
 have R:∀b∈d,kC X pins (upd H2 a.heap.objs.size (.lst [])) b:=fun b hb=>⟨by rw[dm (Y b hb)];exact(f2 b hb).1,(f2 b hb).2⟩;have o3:∀b∈d,∃o,({a with heap:=a.heap.push {cls:=.type "list",data:=.seq ([]:List cE).toArray}}:cF).heap.get? b=some o:=fun b hb=>by
  obtain⟨o,e⟩:=old b hb;exact⟨o,hP1 _ e⟩
 have P:=sY u C F R o3;obtain⟨hg,U,he⟩:=hb {a with heap:=a.heap.push {cls:=.type "list",data:=.seq ([]:List cE).toArray}} (upd H2 a.heap.objs.size (.lst [])) d a.heap.objs.size;refine kI ?_;have f4:∀b∈d,kC (cxC X scope A T keep {a with heap:=a.heap.push {cls:=.type "list",data:=.seq ([]:List cE).toArray}} (upd H2 a.heap.objs.size (.lst [])) d) [] (upd H2 a.heap.objs.size (.lst [])) b:=fun b hb=>
  ⟨(R b hb).1,(P.ok.exf b hb).1,P.ok.exfs b hb,.inl hb,(P.ok.exf b hb).2,fun p G=>absurd (show p∈([]:List (cG×Obj))from G) (by simp)⟩
 have M:tn 0 (pushCells ((a.heap.push {cls:=.type "list",data:=.seq ([]:List cE).toArray}).push {cls:=.type "dict",data:=.dict #[]}) scope.names):=
  TT.keep 0 a.heap _ K fun b hb o e=>pushCells_keeps scope.names _ b o (hP1 _ (hP1 _ e))
 have n:=pI (X:=cxC X scope A T keep {a with heap:=a.heap.push {cls:=.type "list",data:=.seq ([]:List cE).toArray}} (upd H2 a.heap.objs.size (.lst [])) d) rfl hc (eq (.ref it) (.ref a.heap.objs.size) _) TT hg U he P M f4
  (q2 a.heap.objs.size (I2.hok.fresh (nR1 _)))
 refine codeAny_mono (codeAny_compStart_list n (TT.self X.A 0 _ _ _ M n)) fun r s' hr=>?_;cases r with
 |error e=>exact hr.elim
 |ok f=>
  obtain⟨σ',H',B,q'⟩:=hr;have J1:Inv X pins σ H' s':=u.call' (s':=s') (ch:=d) B.os B.base B.hok B.bare fun b hb=>(R b hb).2.2.2 |> fun z=>⟨z.1,(R b hb).2.1,z.2.1,z.2.2⟩
  -- the block's own dict is kept aside
  obtain⟨m,hn,_⟩:=id B.loc;obtain⟨N,es,ep,eC,dC,rC⟩:=id hn;have hCz:(a.heap.push {cls:=.type "list",data:=.seq ([]:List cE).toArray}).get? (a.heap.push {cls:=.type "list",data:=.seq ([]:List cE).toArray}).objs.size=none:=Heap.get?_none_of_le (nR1 _);have E:(a.heap.push {cls:=.type "list",data:=.seq ([]:List cE).toArray}).objs.size≠X.env.locals:=fun z=>by
   have:=u.lt;rw[<- z]at this;exact af _ this
  have V:H' (a.heap.push {cls:=.type "list",data:=.seq ([]:List cE).toArray}).objs.size=none:=B.free;have J2:Inv X (pins++[((a.heap.push {cls:=.type "list",data:=.seq ([]:List cE).toArray}).objs.size,N)]) σ H' s':=J1.pins_of fun p G=>by
   rcases am.mp G with z|z
   ·exact J1.pin p (mA1 _ z)
   ·have z':p=((a.heap.push {cls:=.type "list",data:=.seq ([]:List cE).toArray}).objs.size,N):=by simpa using z
    subst z';exact⟨eC,V,E,u.nofs (nR1 _),fun v q=>by rw[dC]at q;cases q⟩
  refine eQ (vn hN hy hx hf _ s' σ H' (.ref a.heap.objs.size) (.ref a.heap.objs.size) D.nx J2 rfl q') fun _ s5 ⟨L,H5,J5,q5⟩=>?_;obtain⟨e5,n5,_⟩:=J5.pin ((a.heap.push {cls:=.type "list",data:=.seq ([]:List cE).toArray}).objs.size,N) (mA1 _ (mA1 _ mS1));refine⟨m,⟨N,es,ep,e5,dC,rC⟩,fun h' Z=>?_⟩;have J6:Inv X pins L H5 s5:=J5.unpinned;refine⟨L,H5,J6.turned (t':=s5.toks) (fun b o hb e=>(Z.2 b hb).trans e) n5 E (.inr ?_) (fun x c w z=>?_) (fun p G z=>?_),q5⟩
  ·exact u.sz
  ·obtain⟨w',zc⟩:=u.cell x c w;have j:=zc.lt;rw[z]at j;exact af _ j
  ·obtain⟨W,_⟩:=u.pin p G;have j:=hL1 W;rw[z]at j;exact af _ j
section
variable{X:Cx}
theorem Gu{K:Fg1}{te:TE}{m:FE}{i:Nat}(hm:∀ σ H Q,tM K m σ H Q->te σ H Q){E:j7}{σ:L2.St}{H:Hp}(h:vd K (dk m (gN i)) E σ H):yn te (vY i) E σ H:=by
 obtain⟨r,mu,S,d,e,h1,h2,c,p⟩:=qM h;refine hm _ _ _ ⟨r,mu,S,d,e,h1,h2,c,fun v H' mu' g n f=>?_⟩;obtain⟨r2,a,q,u,t,s,o,l,k,b,j⟩:=p v H' mu' g n f;cases b;exact j _ H' a (.refl _ _) (o.set k) l
theorem mv (i:Nat){x:Str}{pos:Pos}(hN:X.N[i]? = some x:=by rfl)(hv:IG X.env.scope x:=by first | exact Or.inl rfl | exact Or.inr (Or.inl rfl) | exact Or.inr (Or.inr rfl))(hd:(x == ("__debug__":Str))=false:=by decide)(hcd:(x == ("__classdict__":Str))=false:=by decide):
  ME X (.Name x pos) (mV i):=Fi i hN hv hd hcd
end
def eX(P:cH)(w:cJ)(K:Fg1)(mg:Str->Option cE)(base:cP)(k:Nat)(x:Str)(n:Nat)(m:FN):Prop:=
 ∃(f:cG) (fd:cQ) (ps:List Str),mE P w K mg base t5 k f fd ps (AN K n m)/\lY K fd ps []/\wK1 K (.ref f)=true/\mg x=some (.ref f)
theorem Fm {X:Cx}{k k' n:Nat}{x:Str}{m:FN}{p pos:Pos}{e:Expr}{es:List Expr}{a:FA}(h:eX X.prog X.w X.K X.mg X.base k x n m)(hr:fR k' X.A)(hk:k<=k')(hg:Gl X x)(ha:MA X (e::es) a)(hdb:(x == ("__debug__":Str))=false:=by decide)
  (he:cM (e::es) X.env=(false,eval e X.env)::cM es X.env:=by rfl) (hpl:(backTo pos (cM es X.env)).any (·.1)=false:=by rfl):ME X (.Call (.Name x p) (e::es) [] pos) (mN (cY n m) a):=by
 obtain⟨f,fd,ps,F,b,d,c⟩:=h;exact Cf F (hr.mono hk) hg c d b ha hdb he hpl
theorem EM{P:cH}{w:cJ}{K:Fg1}{mg:Str->Option cE}{base:cP}{x a:Str}{st:cR}{f:cG}{fd:cQ}{N ps:List Str}{k n:Nat}{b:FS}(F:xH K x a st f fd)(hb:lY K fd ps [])(hm:mg x=some (.ref f))(S:dg N ps (c0 st))(hn:ps.length=n)(d:∀(e:cE) (A:cI) (c:List Env) (s:cF) (H:Hp) (E:XK),fR k (A.deeper (envOfC a (c0 st) s.heap.objs.size f e)) ->
   xA (om t5 P w K mg base N a (c0 st) f e A c s H E).nox (fA st) b):eX P w K mg base (k+1) x n (im N.length b):=by
 subst hn;exact⟨f,fd,ps,Ii F S d,hb,F.kp,hm⟩
def fD:List Bool->Ev->Ev
 |true::bs,o::r=>o::fD bs r
 |false::bs,_::r=>none::fD bs r
 |[],_::r=>none::fD [] r
 |_,[]=>[]
def lq:Ev->Bool
 |[]=>true
 |none::r=>lq r
 |some d::r=>d.und 0&&lq r
def pq(ki ko:List Bool)(b:FS):FS:=fun r S=>if lq (fD ki r)=true then
  (b (fD ki r) []).bind fun p=>match p.1 with
   | .rt d=>if d.und 0=true then some (.rt d,[],S)else none
   |f=>if lq (fD ko p.2.1)=true then some (f,fD ko p.2.1,S)else none
 else none
theorem kh:∀(bs:List Bool) (r:Ev),(fD bs r).length=r.length
 |true::bs,o::r=>congrArg (· + 1) (kh bs r)
 |false::bs,o::r=>congrArg (· + 1) (kh bs r)
 |[],o::r=>congrArg (· + 1) (kh [] r)
 |[],[]=>rfl
 |true::_,[]=>rfl
 |false::_,[]=>rfl
theorem kj:∀(bs:List Bool) (r:Ev) (i:Nat) (d:D),(fD bs r)[i]?=some (some d)->r[i]?=some (some d)
 |true::bs,o::r,0,d,h=>h
 |true::bs,o::r,i+1,d,h=>by
  rw[gC1];exact kj bs r i d (by rw[fD,gC1]at h;exact h)
 |false::bs,o::r,0,d,h=>by simp[fD]at h
 |false::bs,o::r,i+1,d,h=>by
  rw[gC1];exact kj bs r i d (by rw[fD,gC1]at h;exact h)
 |[],o::r,0,d,h=>by simp[fD]at h
 |[],o::r,i+1,d,h=>by
  rw[gC1];exact kj [] r i d (by rw[fD,gC1]at h;exact h)
 |[],[],i,d,h=>by simp[fD]at h
 |true::_,[],i,d,h=>by simp[fD]at h
 |false::_,[],i,d,h=>by simp[fD]at h
theorem l7:∀(r:Ev) (i:Nat) (d:D),lq r=true->r[i]?=some (some d)->d.und 0=true
 |none::r,0,d,_,h=>by simp at h
 |none::r,i+1,d,hs,h=>l7 r i d hs (by simpa using h)
 |some e::r,0,d,hs,h=>by
  rw[lq,bA1]at hs;simp at h;subst h;exact hs.1
 |some e::r,i+1,d,hs,h=>by
  rw[lq,bA1]at hs;exact l7 r i d hs.2 (by simpa using h)
theorem fh.mask{K:Fg1}{H:Hp}{mu mu':List cG}{r:Ev}{σ:L2.St}{bs:List Bool}(h:fh K H mu r σ)(hs:lq (fD bs r)=true):fh K H mu' (fD bs r) σ:=
 ⟨by rw[kh];exact h.len,fun i d e=>by
  obtain⟨v,c,a⟩:=h.val i d (kj bs r i d e);exact⟨v,c,a.cut (n:=0) (fun k b=>absurd b (ba _)) (l7 _ i d hs e)⟩⟩
theorem zt{K:Fg1}{l q:List Bool}{b:FS}{E:j7}{σ:L2.St}{H:Hp}(h:vd K (pq l q b) E σ H):vd K b E σ H:=by
 obtain⟨r,mu,S,f,C,B,u,j,c,hc⟩:=h;unfold pq at c;split at c
 ·rename_i w;obtain⟨⟨m,A,t⟩,p,c⟩:=oB1.mp c;refine⟨fD l r,[],[],m,A,t,u.mask w,.nil,p,?_⟩;have back:∀{H':Hp} {mu':List cG},Ext [] mu' H H'->Ext mu mu H H':=fun{H' mu'} x=>⟨aV,fun a o e _=>x.old a o e (by simp),x.tup,x.frz,fun _ z=>.inl z⟩;have keep:∀{H':Hp} {mu':List cG},Ext [] mu' H H'->Sim K H' mu S:=fun{H' mu'} x=>⟨j.len,j.nd,fun n o a h1 h2=>(j.ob n o a h1 h2).keep (back x) fun o e=>x.old a o e (by simp)⟩;cases m with
  |rt d=>
   dsimp only at c;split at c
   ·rename_i i;cases c;exact fun v H' mu' x r s=>hc v H' mu (back x) (r.cut (n:=0) (fun k y=>absurd y (ba _)) i) (keep x)
   ·cases c
  |nx=>
   dsimp only at c;split at c
   ·rename_i i;cases c;exact fun g H' mu' x r s=>hc g H' mu (back x) (r.mask i) (keep x)
   ·cases c
  |bk=>
   dsimp only at c;split at c
   ·rename_i i;cases c;exact fun g H' mu' x r s=>hc g H' mu (back x) (r.mask i) (keep x)
   ·cases c
  |ct=>
   dsimp only at c;split at c
   ·rename_i i;cases c;exact fun g H' mu' x r s=>hc g H' mu (back x) (r.mask i) (keep x)
   ·cases c
 ·cases c
theorem zj{X:Cx}{sts:List cR}{b:FS}(c a:List Bool)(h:xA X sts b):xA X sts (pq c a b):=qm h fun _ _ _=>zt
section
variable{K:Fg1}
end
theorem ke{K:Fg1}{H:Hp}{mu:List cG}:∀ns:List Int,dh K H mu (ns.map D.int) (ns.map V.int)
 |[]=>.nil
 |n::ns=>.cons (.int n) (ke ns)
theorem FF{K:Fg1}{m:FN}(hm:∀ ns:List Int,ns.length<=63 -> ∃ S,m [.rol (ns.map D.int)] []=some (.bl true,S))(H:Hp)(a:cG)(ns:List Int)(b:ns.length<=63)(f:C8 H)(d:mR K H a (ns.map V.int)):
  AN K 1 m [.ref a] H (fun v _=>v = .bl true) fun _ _ _=>False:=by
 refine⟨rfl,?_⟩;obtain⟨S,e⟩:=hm ns b;have c:RoL K H a (ns.map V.int):=by
  rcases d with h|h
  ·rcases h with h|h
   ·rcases f a with z|⟨o,xs,z⟩
    ·rw[h]at z;cases z
    ·rw[h]at z;cases z
   ·exact .inl h
  ·exact .inr h
 refine⟨[],[],[.rol (ns.map D.int)],.bl true,S,.cons (.rol c (ke ns)) .nil,.nil,e,fun v H' mu' x r s=>?_⟩;cases r;rfl
theorem walk_m{l:PySem.W.OpenLaw}{q:cH}{b:List Str}{XP:(Str->Option cE)->cP->Prop}{g:cJ->cP->Prop}{d:DefRec}{K:Params->Fg1}{m:FN}{k:Nat}{x:Str}(hn:l.most=some 63)(c:d.params.defaults=[])(hr:fR k callerA)(p:∀(w:cJ) (h:cP),g w h->(K w.params).In h)(hm:∀ns:List Int,ns.length<=63 -> ∃S,m [.rol (ns.map D.int)] []=some (.bl true,S))(F:∀(w:cJ) (mg:Str->Option cE) (e:cG) (h:cP),(K w.params).In h->h.Ns cK mg->mg d.name=some (.ref e) ->
   ∃fd:cQ,(∀(s:cF) (u:cE),BindsTo s fd ⟨[u],[]⟩ [(x,u)]) /\ ∀base:cP,(K w.params).In base->base.Ns cK mg->mE l.prog w (K w.params) mg base t5 k e fd [x] (AN (K w.params) 1 m)):
  PySem.W.WalkO q b XP g l.row.toRowW d [] (fun f vs=>PySem.call f vs):=
 L2.A3 (n:=63) (k:=k) (x:=x) (CX:=fun _=>t5) (sp:=fun w=>AN (K w.params) 1 m) hn (by decide) c hr p F (fun _ H a ns o j i=>FF hm H a ns o j i) fun _ _ _ _ _ z=>z
structure XE (X:Cx)(e:Expr)(m:FE):Prop where
 h:ME X e m
structure XT (X:Cx)(e:Expr)(m:FT):Prop where
 h:MT X e m
structure XW (X:Cx)(e:Expr)(m:FT):Prop where
 h:MW X e m
structure XA (X:Cx)(e:List Expr)(m:FA):Prop where
 h:MA X e m
structure XS (X:Cx)(e:cR)(m:FS):Prop where
 h:MS X e m
structure xz (X:Cx)(e:List cR)(m:FS):Prop where
 h:xA X e m
structure XI (X:Cx)(tg e:Expr)(m:FI):Prop where
 h:MI X tg e m
structure XG (X:Cx)(e:Expr)(m:FG):Prop where
 h:MG X e m
structure I0 (X:Cx)(e:List Expr)(m:AM):Prop where
 h:II X e m
structure XO (X:Cx)(e:Option Expr)(m:FO):Prop where
 h:MO X e m
structure XF (X:Cx)(K:Fg1)(ifs:List Expr)(t:FT):Prop where
 h:oY X ifs (Ba K t)
theorem dB{X:Cx}:XF X X.K [] eN:=⟨B9⟩
theorem lm{X:Cx}{c:Expr}{t:FT}(h:XT X c t):XF X X.K [c] t:=⟨B8 h.h⟩
theorem wA{X:Cx}{sts:List cR}{b:FS}(c a:List Bool)(h:xz X sts b):xz X sts (pq c a b):=⟨zj c a h.h⟩
section
variable{X:Cx}{pos:Pos}
theorem qK{i:Int}{j}:XE X (.Constant (.int i) j pos) (mC (.int i)):=⟨Fs⟩
theorem eY{b:Bool}{j}:XE X (.Constant (.bool b) j pos) (mC (.bl b)):=⟨HM⟩
theorem pT{j}:XE X (.Constant .none j pos) (mC .non):=⟨Fp⟩
theorem j9{x:Str}{j}:XE X (.Constant (.str x) j pos) (mC (.str x)):=⟨Fk⟩
end
section
variable{X:Cx}{pos:Pos}{e:Expr}{es:List Expr}{m:FE}{n:FA}
theorem qN:XA X [] cU:=⟨Fv⟩
theorem qA(h:XE X e m)(ht:XA X es n)(hs:cM (e::es) X.env=(false,eval e X.env)::cM es X.env:=by rfl):XA X (e::es) (cT m n):=⟨Ci (h:=h.h) (ht:=ht.h) (hs:=hs)⟩
end
section
variable{X:Cx}{K:Fg1}{f:FN}{a b:FE}{σ:L2.St}{H:Hp}{Q:VK}
theorem qI{op:Operator}{x y:Expr}{pos:Pos}(ho:gg X (binaryOp op) (r2 X.K f))(hx:XE X x a)(hy:XE X y b):XE X (.BinOp x op y pos) (m2 f a b):=⟨HJ (ho:=ho) (hx:=hx.h) (hy:=hy.h)⟩
theorem xN{op:UnaryOp}{x:Expr}{pos:Pos}(ho:GL X (unaryOp op) (fun x H Q=>rN X.K f [x] H Q))(hx:XE X x a):XE X (.UnaryOp op x pos) (m1 f a):=⟨HI (ho:=ho) (hx:=hx.h)⟩
theorem A0{op:CmpOp}{x y:Expr}{pos:Pos}(ho:gg X (compareOp op) (r2 X.K f))(hx:XE X x a)(hy:XE X y b)(hm:behindInMarks op y=false):XE X (.Compare x [op] [y] pos) (m2 f a b):=⟨Ft (ho:=ho) (hx:=hx.h) (hy:=hy.h) (hm:=hm)⟩
theorem qJ{x y:Expr}{pos:Pos}(ho:DG X (r2 X.K f))(hx:XE X x a)(hy:XE X y b)(hs:nr y):XE X (.Subscript x y pos) (m2 f a b):=⟨HK (ho:=ho) (hx:=hx.h) (hy:=hy.h) (hs:=hs)⟩
theorem qD {x:Str}{p pos:Pos}{e:Expr}{es:List Expr}{id:String}{a:FA}(hc:ei X (.builtin id) (rN X.K f))(hg:Gl X x)(hm:X.mg x=none)(hv:bootBuiltins x=some (.builtin id))(ha:XA X (e::es) a)(hn:x≠"__name__":=by decide)(hdb:(x == ("__debug__":Str))=false:=by decide)(he:cM (e::es) X.env=(false,eval e X.env)::cM es X.env:=by rfl)(hpl:(backTo pos (cM es X.env)).any (·.1)=false:=by rfl):XE X (.Call (.Name x p) (e::es) [] pos) (mN f a):=⟨zr (hc:=hc) (hg:=hg) (hm:=hm) (hv:=hv) (ha:=ha.h) (hn:=hn) (hdb:=hdb) (he:=he) (hpl:=hpl)⟩
theorem qE {x:Str}{p pos:Pos}{e:Expr}{es:List Expr}{T:String}{a:FA}(hc:ei X (.type T) (rN X.K f))(hg:Gl X x)(hm:X.mg x=none)(hv:bootBuiltins x=some (.type T))(ha:XA X (e::es) a)(hn:x≠"__name__":=by decide)(hdb:(x == ("__debug__":Str))=false:=by decide)(he:cM (e::es) X.env=(false,eval e X.env)::cM es X.env:=by rfl)(hpl:(backTo pos (cM es X.env)).any (·.1)=false:=by rfl):XE X (.Call (.Name x p) (e::es) [] pos) (mN f a):=⟨wY (hc:=hc) (hg:=hg) (hm:=hm) (hv:=hv) (ha:=ha.h) (hn:=hn) (hdb:=hdb) (he:=he) (hpl:=hpl)⟩
end
section
variable{X:Cx}{x y c:Expr}{rest:List Expr}{pos:Pos}{a b:FT}{f g:FE}
theorem qX{op:CmpOp}{f:FN}{a b:FE}(ho:gg X (compareOp op) (r2 X.K f))(hx:XE X x a)(hy:XE X y b)(hm:behindInMarks op y=false):XT X (.Compare x [op] [y] pos) (mB (m2 f a b)):=⟨E5 (ho:=ho) (hx:=hx.h) (hy:=hy.h) (hm:=hm)⟩
theorem lj(ha:XT X x a):XW X (.BoolOp .And [x] pos) a:=⟨B2 (ha:=ha.h)⟩
theorem iP(ha:XT X x a):XW X (.BoolOp .Or [x] pos) a:=⟨E1 (ha:=ha.h)⟩
theorem ll(ha:XT X x a)(hb:XW X (.BoolOp .And (y::rest) pos) b):XW X (.BoolOp .And (x::y::rest) pos) (m4 a b):=⟨E2 (ha:=ha.h) (hb:=hb.h)⟩
theorem jp(ha:XT X x a)(hb:XW X (.BoolOp .Or (y::rest) pos) b):XW X (.BoolOp .Or (x::y::rest) pos) (zu a b):=⟨HF (ha:=ha.h) (hb:=hb.h)⟩
theorem jq(h:XW X x a):XT X x a:=⟨JB (h:=h.h)⟩
theorem gR(ha:XT X x a):XT X (.UnaryOp .Not x pos) (mZ a):=⟨E4 (ha:=ha.h)⟩
theorem fS{op}(h:XE X x f):XE X (.BoolOp op [x] pos) f:=⟨Fn (h:=h.h)⟩
theorem fT(ha:XE X x f)(hb:XE X (.BoolOp .And (y::rest) pos) g):XE X (.BoolOp .And (x::y::rest) pos) (iq f g):=⟨Fu (ha:=ha.h) (hb:=hb.h)⟩
theorem pS(ha:XE X x f):XE X (.UnaryOp .Not x pos) (pr f):=⟨Fo (ha:=ha.h)⟩
theorem xP(hc:XT X c a)(hx:XE X x f)(hy:XE X y g):XE X (.IfExp c x y pos) (HN a f g):=⟨HL (hc:=hc.h) (hx:=hx.h) (hy:=hy.h)⟩
end
section
variable{X:Cx}{x y z:Expr}{pos:Pos}{f g:FN}{a b c:FE}{op op':CmpOp}
theorem wB(ho:gg X (compareOp op) (r2 X.K f))(ho':gg X (compareOp op') (r2 X.K g))(hx:XE X x a)(hy:XE X y b)(hz:XE X z c)(hm:lastMarks [op,op'] [y,z]=false:=by with_unfolding_all rfl):XE X (.Compare x [op,op'] [y,z] pos) (HP f g a b c):=⟨zq (ho:=ho) (ho':=ho') (hx:=hx.h) (hy:=hy.h) (hz:=hz.h) (hm:=hm)⟩
end
section
variable{X:Cx}{pos:Pos}{e c:Expr}{st:cR}{rest as bs:List cR}{a b:FS}{m:FE}{t:FT}
theorem qQ:xz X [] k8:=⟨B4⟩
theorem qF(h1:XS X st a)(h2:xz X rest b):xz X (st::rest) (c9 a b):=⟨zk (h1:=h1.h) (h2:=h2.h)⟩
theorem qG(h1:XS X st a):xz X [st] a:=⟨B3 (h1:=h1.h)⟩
theorem dQ(h:XE X e m)(hs:swapsWith e none pos.line X.env=pure false:=by rfl):XS X (.Expr e pos) (dX m):=⟨B5 (h:=h.h) (hs:=hs)⟩
theorem qU(h:XE X e m):XS X (.Return (some e) pos) (dW m):=⟨E7 (h:=h.h)⟩
theorem qV(hc:XT X c t)(ha:xz X as a)(hb:xz X bs b):XS X (.If c as bs pos) (eV t a b):=⟨HG (hc:=hc.h) (ha:=ha.h) (hb:=hb.h)⟩
end
section
variable{X:Cx}{pos:Pos}
theorem qO(i:Nat){x:Str}(hN:X.N.Nodup)(hi:X.N[i]?=some x)(hx:xG X.env.scope x)(hf:X.fn x=true\/X.env.scope.names.lookup x=some .local:=by first|exact .inl rfl|exact .inr rfl|assumption):XG X (.Name x pos) (gN i):=⟨Cc (i:=i) (hN:=hN) (hi:=hi) (hx:=hx) (hf:=hf)⟩
theorem di:I0 X [] hB:=⟨Cb⟩
theorem cW{e:Expr}{es:List Expr}{g:FG}{a:AM}(h1:XG X e g)(h2:I0 X es a)(hs:(assignEach (e::es) X.env).map (·.2)=assign e X.env::(assignEach es X.env).map (·.2):=by rfl):I0 X (e::es) (eu g a):=⟨zn (h1:=h1.h) (h2:=h2.h) (hs:=hs)⟩
theorem dt{es:List Expr}{k:Nat}{a:AM}{n:Nat}(hc:X.calm=true)(h:I0 X es a)(hn:(assignEach es X.env).length=n:=by rfl)(hst:(assignEach es X.env).findIdx? (·.1)=none:=by rfl):XG X (.Tuple es k pos) (gT n a):=⟨Ff (hc:=hc) (h:=h.h) (hn:=hn) (hst:=hst)⟩
theorem iQ{o i:Expr}{a b:FE}{f:FN}(ho:XE X o a)(hi:XE X i b)(hs:uW X (rU X.K f))(ha:∀ v,assign (.Subscript o i pos) X.env v=(do
   let ov<-holding [v] (eval o X.env)
   let iv<-holding [v,ov] (eval i X.env)
   standAt pos
   holding [v,ov,iv] (setItem ov iv v)
   release [v,ov,iv] []):=by intro _;rfl):XG X (.Subscript o i pos) (gS f a b):=⟨Fg (ho:=ho.h) (hi:=hi.h) (hs:=hs) (ha:=ha)⟩
theorem qR{tg e:Expr}{m:FE}{g:FG}(he:XE X e m)(hg:XG X tg g)(hs:swapsWithSole [tg] e pos.line X.env=pure false:=by rfl)(hw:swappedStores [tg] e X.env=pure none:=by rfl)(h1:(assignEach [tg] X.env).map (·.2)=[assign tg X.env]:=by rfl):XS X (.Assign [tg] e pos) (dk m g):=⟨E9 (he:=he.h) (hg:=hg.h) (hs:=hs) (hw:=hw) (h1:=h1)⟩
theorem qY(i:Nat){x:Str}{e:Expr}{m:FE}{pos':Pos}(hN:X.N.Nodup)(hi:X.N[i]?=some x)(hx:xG X.env.scope x)(he:XE X e m)(hs:swapsWith e (some (.Name x pos')) pos.line X.env=pure false:=by rfl)(hf:X.fn x=true\/X.env.scope.names.lookup x=some .local:=by first|exact .inl rfl|exact .inr rfl|assumption):XS X (.Assign [.Name x pos'] e pos) (dk m (gN i)):=⟨E6 (i:=i) (hN:=hN) (hi:=hi) (hx:=hx) (he:=he.h) (hs:=hs) (hf:=hf)⟩
end
section
theorem l0{X:Cx}{pos:Pos}(n:Nat){c:Expr}{a:List cR}{t:FT}{b:FS}(hp:PassesOwn (model X.prog X.w) X.A X.env X.xe)(hc:XT X c t)(hb:xz X a b):XS X (.While c a [] pos) (tY t b n):=⟨zl (n:=n) (hp:=hp) (hc:=hc.h) (hb:=hb.h)⟩
theorem qW{X:Cx}{pos:Pos}{tg iter:Expr}{a:List cR}{m:FI}{g:FG}{b:FS}(hp:PassesOwn (model X.prog X.w) X.A X.env X.xe)(hc:X.calm=true)(hi:XI X tg iter m)(hg:XG X tg g)(hb:xz X a b)(hs:∀x,foldedSetIterable iter X.env x=pure x:=by intro _;rfl):XS X (.For tg iter a [] pos) (ee m g b):=⟨E8 (hp:=hp) (hc:=hc) (hi:=hi.h) (hg:=hg.h) (hb:=hb.h) (hs:=hs)⟩
end
section
variable{X:Cx}{es:List Expr}{pos:Pos}{a:FA}
theorem dq{x1}(h:XA X es a):XE X (.Tuple es x1 pos) (d6 a):=⟨Fj (h:=h.h)⟩
theorem dM(h:XA X es a):XE X (.List es pos) (fy a):=⟨Fq (h:=h.h)⟩
end
section
variable{X:Cx}{tg:Expr}
theorem qd{e:Expr}{m:FE}(h:XE X e m):XI X tg e (fC m):=⟨Fe (h:=h.h)⟩
theorem dU {a:Expr}{m:FA}{p pos:Pos}(hg:Gl X "range")(hm:X.mg "range"=none)(ha:XA X [a] m)(hs:cM [a] X.env=[(false,eval a X.env)]:=by rfl):XI X tg (.Call (.Name "range" p) [a] [] pos) (rR m):=⟨wV (hg:=hg) (hm:=hm) (ha:=ha.h) (hs:=hs)⟩
theorem t6 {a b:Expr}{m:FA}{p pos:Pos}(hg:Gl X "range")(hm:X.mg "range"=none)(ha:XA X [a,b] m)(hs:cM [a,b] X.env=[(false,eval a X.env),(false,eval b X.env)]:=by rfl)(hs2:cM [b] X.env=[(false,eval b X.env)]:=by rfl):XI X tg (.Call (.Name "range" p) [a,b] [] pos) (Ia m):=⟨wU (hg:=hg) (hm:=hm) (ha:=ha.h) (hs:=hs) (hs2:=hs2)⟩
end
section
variable{X:Cx}{tg:Expr}
variable{elts:List Expr}{k:Nat}{tpos:Pos}
theorem ez {a:Expr}{m:FA}{p pos:Pos}(hg:Gl X "enumerate")(hm:X.mg "enumerate"=none)(ha:XA X [a] m)(hs:cM [a] X.env=[(false,eval a X.env)]:=by rfl):XI X (.Tuple elts k tpos) (.Call (.Name "enumerate" p) [a] [] pos) (mK m):=⟨Ca (hg:=hg) (hm:=hm) (ha:=ha.h) (hs:=hs)⟩
theorem u4 {a b:Expr}{m:FA}{p pos:Pos}(hg:Gl X "zip")(hm:X.mg "zip"=none)(ha:XA X [a,b] m)(hs:cM [a,b] X.env=[(false,eval a X.env),(false,eval b X.env)]:=by rfl)(hs2:cM [b] X.env=[(false,eval b X.env)]:=by rfl):XI X (.Tuple elts k tpos) (.Call (.Name "zip" p) [a,b] [] pos) (Dv m):=⟨Fd (hg:=hg) (hm:=hm) (ha:=ha.h) (hs:=hs) (hs2:=hs2)⟩
end
section
variable{X:Cx}{pins:List (cG×Obj)}{σ:L2.St}{H:Hp}{s:cF}{mu:List cG}{S:Sto}{K:Fg1}
theorem fj (T:Ty){e:Expr}{m:FE}{nm:Str}{p p2 pos:Pos}(hg:Gl X "isinstance")(hm:X.mg "isinstance"=none)(hg2:Gl X nm)(hm2:X.mg nm=none)(hv2:bootBuiltins nm=some (.type T.nm))(h:XE X e m)(hn:nm≠"__name__":=by decide)(hd:(nm == ("__debug__":Str))=false:=by decide)(hs1:cM [e,.Name nm p2] X.env=(false,eval e X.env)::cM [.Name nm p2] X.env:=by rfl)(hs2:cM [.Name nm p2] X.env=(false,eval (.Name nm p2) X.env)::cM [] X.env:=by rfl)(hpl:(backTo pos (cM [.Name nm p2] X.env)).any (·.1)=false:=by rfl):XE X (.Call (.Name "isinstance" p) [e,.Name nm p2] [] pos) (m3 T m):=⟨wX (T:=T) (hg:=hg) (hm:=hm) (hg2:=hg2) (hm2:=hm2) (hv2:=hv2) (h:=h.h) (hn:=hn) (hd:=hd) (hs1:=hs1) (hs2:=hs2) (hpl:=hpl)⟩
end
section
variable{X:Cx}
theorem hE:XO X none jh:=⟨B7⟩
theorem hD{e:Expr}{m:FE}(h:XE X e m):XO X (some e) (gQ m):=⟨B6 (h:=h.h)⟩
theorem nt {a:Expr}{m:FA}{d p2 b c:Pos}(hc:X.calm=true)(hg:Gl X "range")(hm:X.mg "range"=none)(hg2:Gl X "list")(hm2:X.mg "list"=none)(ha:XA X [a] m)(hs:cM [a] X.env=[(false,eval a X.env)]:=by rfl)(hs2:cM [.Call (.Name "range" d) [a] [] b] X.env=[(false,eval (.Call (.Name "range" d) [a] [] b) X.env)]:=by rfl):XE X (.Call (.Name "list" p2) [.Call (.Name "range" d) [a] [] b] [] c) (w1 m):=⟨wW (hc:=hc) (hg:=hg) (hm:=hm) (hg2:=hg2) (hm2:=hm2) (ha:=ha.h) (hs:=hs) (hs2:=hs2)⟩
theorem qe {o e:Expr}{es:List Expr}{m:FE}{a:FA}{f:FN}{name:Str}{apos cpos:Pos}{id:String}(slot:Slot "list" name id)(hty:typeOf (.builtin id)=pure (.type "method_descriptor"))(hm:GG X id (fun x xs H Q=>rN X.K f (x::xs) H Q))(ho:XE X o m)(ha:XA X (e::es) a)(hbase:attributeBase o name X.env (eval o X.env)=eval o X.env:=by rfl)(hfew:((backTo cpos (cM (e::es) X.env)).all (fun x=> !x.1)&&(backToKw cpos (keywordEach [] X.env)).all (fun x=>x.1.isSome)&&decide ((e::es).length+([]:List Keyword).length+(if([]:List Keyword).isEmpty then 0 else 1)<30))=true:=by rfl)(hline:(apos.endLine == cpos.line)=true:=by rfl)(hs:cM (e::es) X.env=(false,eval e X.env)::cM es X.env:=by rfl)(hplain:(backTo cpos (cM es X.env)).any (·.1)=false:=by rfl):XE X (.Call (.Attribute o name apos) (e::es) [] cpos) (kx f m a):=⟨zp (slot:=slot) (hty:=hty) (hm:=hm) (ho:=ho.h) (ha:=ha.h) (hbase:=hbase) (hfew:=hfew) (hline:=hline) (hs:=hs) (hplain:=hplain)⟩
theorem cV (i:Nat){x:Str}{pos:Pos}(hN:X.N[i]?=some x:=by rfl)(hv:IG X.env.scope x:=by first|exact Or.inl rfl|exact Or.inr (Or.inl rfl)|exact Or.inr (Or.inr rfl))(hd:(x == ("__debug__":Str))=false:=by decide)(hcd:(x == ("__classdict__":Str))=false:=by decide):XE X (.Name x pos) (mV i):=⟨mv (i:=i) (hN:=hN) (hv:=hv) (hd:=hd) (hcd:=hcd)⟩
end
section
theorem qH {X:Cx}{k k' n:Nat}{x:Str}{m:FN}{p pos:Pos}{e:Expr}{es:List Expr}{a:FA}(h:eX X.prog X.w X.K X.mg X.base k x n m)(hr:fR k' X.A)(hk:k<=k')(hg:Gl X x)(ha:XA X (e::es) a)(hdb:(x == ("__debug__":Str))=false:=by decide)(he:cM (e::es) X.env=(false,eval e X.env)::cM es X.env:=by rfl)(hpl:(backTo pos (cM es X.env)).any (·.1)=false:=by rfl):XE X (.Call (.Name x p) (e::es) [] pos) (mN (cY n m) a):=⟨Fm (h:=h) (hr:=hr) (hk:=hk) (hg:=hg) (ha:=ha.h) (hdb:=hdb) (he:=he) (hpl:=hpl)⟩
end
section
variable{X:Cx}
structure Kl (X:Cx)(K:Fg1)(tg:Expr)(ifs:List Expr)(elt:Expr)(g:FG)(t:FT)(e:FE):Prop where
 g:XG X tg g
 t:XF X K ifs t
 e:XE X elt e
end
theorem AW{P:cH}{w:cJ}{K:Fg1}{mg:Str->Option cE}{base:cP}{x c:Str}{st:cR}{f:cG}{fd:cQ}{N ps:List Str}{k n:Nat}{b:FS}(F:xH K x c st f fd)(hb:lY K fd ps [])(hm:mg x=some (.ref f))(S:dg N ps (c0 st))(hn:ps.length=n)(e:∀(d:cE) (A:cI) (a:List Env) (s:cF) (H:Hp) (E:XK),fR k (A.deeper (envOfC c (c0 st) s.heap.objs.size f d)) ->
   xz (om t5 P w K mg base N c (c0 st) f d A a s H E).nox (fA st) b):eX P w K mg base (k+1) x n (im N.length b):=
 EM F hb hm S hn fun d A a s H E g=>(e d A a s H E g).h
theorem DM{P:cH}{w:cJ}{K:Fg1}{mg:Str->Option cE}{base:cP}{x c:Str}{st:cR}{f:cG}{fd:cQ}{N ps:List Str}{k n:Nat}{b:FS}(F:xH K x c st f fd)(S:dg N ps (c0 st))(hn:ps.length=n)(e:∀(d:cE) (A:cI) (a:List Env) (s:cF) (H:Hp) (E:XK),fR k (A.deeper (envOfC c (c0 st) s.heap.objs.size f d)) ->
   xz (om t5 P w K mg base N c (c0 st) f d A a s H E).nox (fA st) b):mE P w K mg base t5 (k+1) f fd ps (AN K n (im N.length b)):=by
 subst hn;exact Ii F S fun d A a s H E g=>(e d A a s H E g).h
abbrev FV:=Ev->Sto->Option (List D×Ev×Sto)
def gx(c:List (Nat×List D))(g:FG)(t:FT)(b:FV):List D->FV
 |[]=>fun r S=>if oS S c=true then some ([],r,S)else none
 |d::ds=>fun r S=>if oS S c=true then(g d r S).bind fun p=>(t p.1 p.2).bind fun k=>if k.1=true then(b p.1 k.2).bind fun q=>(gx c g t b ds q.2.1 q.2.2).map fun z=>(q.1++z.1,z.2)else gx c g t b ds p.1 k.2 else none
def dS(m:FE):FV:=fun r S=>(m r S).map fun q=>([q.1],r,q.2)
def dZ(k:Nat)(keep:List Nat)(m:FI)(g:FG)(t:FT)(b:FV):FE:=fun r S=>(m r S).bind fun p=>
 (gx p.1.chk g t b p.1.items (oU k keep r) p.2).bind fun q=>if q.1.length<=cN then some (.ref q.2.2.length,q.2.2++[.lst q.1])else none
section
variable{K:Fg1}{H H' H1:Hp}{mu mu' mu1:List cG}{S:Sto}{a:cG}
theorem Ext.aside(x:Ext mu mu' H H'):Ext (a::mu) (a::mu') H H' where
 pre:=bE.mpr ⟨rfl,x.pre⟩
 old:=fun b o h n=>x.old b o h fun z=>n (mC1 _ z)
 tup:=x.tup
 frz:=x.frz
 new:=fun b h=>by
  rcases ak.mp h with h|h
  ·exact .inl (by rw[h];exact mS1)
  ·rcases x.new b h with q|q
   ·exact .inl (mC1 _ q)
   ·exact .inr q
theorem Ext.inner(x:Ext (a::mu) (a::mu') H H'):rT mu mu' H H':=⟨(bE.mp x.pre).2,x.tup,x.frz⟩
theorem Ext.held{o:HO}(x:Ext mu mu' H H')(ha:H a=some o)(hn:a∉mu):H' a=some o/\a∉mu':=by
 refine⟨x.old a o ha hn,fun z=>?_⟩;rcases x.new a z with q|q
 ·exact hn q
 ·rw[ha]at q;cases q
theorem fh.exw{r:Ev}{σ:L2.St}(e:rT mu mu' H H')(h:fh K H mu r σ):fh K H' mu' r σ:=⟨h.len,fun i d q=>by
 obtain⟨v,b,a⟩:=h.val i d q;exact⟨v,b,a.exw e⟩⟩
theorem oC.exw{b:cG}(e:rT mu mu' H H')(h:∀o,H b=some o->H' b=some o):∀{o:Ob},oC K H mu b o->oC K H' mu' b o
 | .lst _,⟨vs,q,r⟩=>⟨vs,h _ q,r.exw e⟩
 | .dct _,⟨ws,q,r⟩=>⟨ws,h _ q,Paired.mapP r fun _ _ z=>⟨z.1,z.2.exw e⟩⟩
 | .dcT _,⟨ws,q,r,l⟩=>⟨ws,h _ q,Paired.mapP r fun _ _ ⟨z,d,k,v,a,r⟩=>⟨z,d,k.exw e,v,a,r.exw e⟩,l⟩
 | .iset _,q=>⟨h _ q.1,q.2⟩
 | .dcF _,⟨ws,⟨o,u,f,c⟩,r,l⟩=>⟨ws,⟨o,u,h _ f,c⟩,Paired.mapP r fun _ _ ⟨z,d,k,v,a,r⟩=>⟨z,d,k.exw e,v,a,r.exw e⟩,l⟩
 | .tst _,⟨ws,q,r⟩=>⟨ws,h _ q,Paired.mapP r fun _ _ ⟨z,d,k,v,a,r⟩=>⟨z,d,k.exw e,v,a,r.exw e⟩⟩
theorem Sim.aside{u:HO}(s:Sim K H mu S)(e:rT mu mu H (upd H a u))(hn:a∉mu):Sim K (upd H a u) mu S:=
 ⟨s.len,s.nd,fun k o b h1 h2=>(s.ob k o b h1 h2).exw e fun o' q=>by rw[dm (fun z=>hn (by rw[<- z];exact gM1 h2))];exact q⟩
end
inductive IR (K:Fg1)(a:cG)(m:FV)(E:j7)(σ:L2.St)(H:Hp):Prop
 |mk (r:Ev) (mu:List cG) (S:Sto) (acc:List D) (vs:List V) (xs:List D) (r':Ev) (S':Sto):H a=some (.lst vs)->a∉mu->dh K H mu acc vs->fh K H mu r σ->Sim K H mu S->m r S=some (xs,r',S')->vs.length+xs.length<=cN ->
 (∀ σ' H' mu' vs',Ext (a::mu) (a::mu') H H'->H' a=some (.lst vs')->a∉mu'->dh K H' mu' (acc++xs) vs'->fh K H' mu' r' σ'->Sim K H' mu' S'->E.nx σ' H')->IR K a m E σ H
theorem tF{K:Fg1}{a:cG}{m:FE}{E:j7}{σ:L2.St}{H:Hp}(h:IR K a (dS m) E σ H):ve a (tM K m) E σ H:=by
 obtain⟨r,mu,S,t,vs,xs,w,u,p,g,l,i,q,f,n,hc⟩:=h;obtain⟨⟨d,o⟩,k,f⟩:=oM1.mp f;cases f;refine⟨r,mu,S,d,o,i,q,k,fun v H1 mu1 e s j=>?_⟩;obtain⟨c,b⟩:=e.held p g;have put:Ext (a::mu1) (a::mu1) H1 (upd H1 a (.lst (vs++[v]))):=Ext.put c trivial mS1;refine⟨vs,c,n,?_⟩;exact hc σ _ mu1 (vs++[v]) (e.aside.trans put) dw b (((l.ext e).append (.cons s .nil)).exw put.inner) ((i.ext e).exw put.inner) (j.aside put.inner b)
inductive J4 (K:Fg1)(a:cG)(mu2:List cG)(H:Hp)(c:List (Nat×List D))(g:FG)(t:FT)(b:FV)(r':Ev)(S':Sto)(tot:List D)(L:List D)(σ':L2.St)(H':Hp):Prop
 |mk (r3:Ev) (mu3:List cG) (S3:Sto) (acc3:List D) (vs3:List V) (xs3:List D):Ext (a::mu2) (a::mu3) H H'->H' a=some (.lst vs3)->a∉mu3->dh K H' mu3 acc3 vs3->fh K H' mu3 r3 σ'->Sim K H' mu3 S3->gx c g t b L r3 S3=some (xs3,r',S')->acc3++xs3=tot->vs3.length+xs3.length<=cN->J4 K a mu2 H c g t b r' S' tot L σ' H'
theorem zE{K:Fg1}{a:cG}{j:It}{J:wx}{g:FG}{t:FT}{b:FV}{tb:TS}{D:j7}(hb:∀ E σ H,IR K a b E σ H->tb E σ H){mu1 e:List cG}{H1 H:Hp}{r G:Ev}{S N:Sto}{σ:L2.St}{acc xs:List Mi.D}{vs:List V}(hJ:J7 K j J mu1 H1)(x:rT mu1 e H1 H)(ha:H a=some (.lst vs))(hna:a∉e)(hr:dh K H e acc vs)(he:fh K H e r σ)(hs:Sim K H e S)(hm:gx J.chk g t b J.items r S=some (xs,G,N))(hl:vs.length+xs.length<=cN)(hc:∀l H' mu' B,Ext (a::e) (a::mu') H H'->H' a=some (.lst B)->a∉mu'->dh K H' mu' (acc++xs) B->fh K H' mu' G l->Sim K H' mu' N->D.nx l H'):Dd j (GX K g) (Ba K t) tb D σ H:=by
 refine⟨fun i k l H'=>k=(J.items.drop i).length/\J4 K a e H J.chk g t b G N (acc++xs) (J.items.drop i) l H',
  ⟨_,rfl,r,e,S,acc,vs,xs,.refl _ _,ha,hna,hr,he,hs,hm,rfl,hl⟩,?_⟩
 rintro i k σ3 P ⟨rfl,r3,m,S3,f,vs3,xs3,I,s,v,F,u,s3,c,n,h⟩;cases hd0:J.items.drop i with
 |nil=>
  left;rw[hd0,gx]at c;dsimp only at c;split at c
  ·rename_i ok;cases c;refine⟨(hJ i P m _ (x.trans I.inner) s3 ok).2 (List.drop_eq_nil_iff.mp hd0),hc σ3 P m vs3 I s v ?_ u s3⟩;rw[<- n,ay];exact F
  ·cases c
 |cons d ds=>
  right;rw[hd0]at c;obtain⟨hi,hd⟩:=mL hd0;rw[gx]at c;dsimp only at c;split at c
  ·rename_i ok;obtain⟨⟨M,S4⟩,e4,c⟩:=oB1.mp c;obtain⟨⟨k5,Q⟩,e5,c⟩:=oB1.mp c;obtain⟨go,yl⟩:=(hJ i P m _ (x.trans I.inner) s3 ok).1 d hi;refine⟨go,J4 K a e H J.chk g t b G N (acc++xs) ds,?_,fun y H4 yy=>?_⟩
   ·intro l H' h6;exact⟨ds.length,bf _,(congrArg List.length hd).symm,hd.symm ▸ h6⟩
   ·obtain⟨L,s4,q4⟩:=yl y H4 yy;obtain⟨Y,U⟩:=L.held s v;refine⟨r3,m,S3,d,M,S4,u.ext L,s4,q4,e4,fun σ5 H5 X R o s5=>?_⟩;obtain⟨ha5,hn5⟩:=R.held Y U;refine⟨M,X,S4,k5,Q,o,s5,e5,fun H6 q A s6=>?_⟩;obtain⟨w,C⟩:=A.held ha5 hn5;have xx:=((I.trans L.aside).trans R.aside).trans A.aside;have p:dh K H6 q f vs3:=((F.ext L).ext R).ext A;cases k5 with
    |true=>
     obtain⟨⟨q1,r7,S7⟩,e7,c⟩:=oB1.mp c;obtain⟨⟨z1,r8,S8⟩,e8,c⟩:=oM1.mp c;cases c;refine hb _ _ _ ⟨M,q,Q,f,vs3,q1,r7,S7,w,C,p,o.ext A,s6,e7,?_,fun σ8 H8 Z T x8 W O z he8 s8=>⟨r7,Z,S7,f++q1,T,z1,xx.trans x8,W,O,z,he8,s8,e8,?_,?_⟩⟩
     ·rw[lA1]at h;dsimp only at h;lia
     ·rw[<- n,bj]
     ·have:=z.length;have h3:=p.length;rw[lA1]at this h;dsimp only at h;lia
    |false=>exact⟨M,q,Q,f,vs3,xs3,xx,w,C,p,o.ext A,s6,c,n,h⟩
  ·cases c
theorem tL{K:Fg1}{k:Nat}{keep:List Nat}{m:FI}{g:FG}{t:FT}{b:FV}{tb:cG->TS}(hb:∀ a E σ H,IR K a b E σ H->tb a E σ H){σ:L2.St}{H:Hp}{Q:VK}(h:tM K (dZ k keep m g t b) σ H Q):
  yk k keep (Jh K m) (GX K g) (Ba K t) tb σ H Q:=by
 obtain⟨r,mu,S,d,Y,F,T,f,hc⟩:=h;obtain⟨⟨J,P⟩,V,f⟩:=oB1.mp f;obtain⟨⟨xs,r2,I⟩,U,f⟩:=oB1.mp f;dsimp only at f;split at f
 ·rename_i W;cases f;refine ⟨r,mu,S,J,P,F,T,V,fun j H1 mu1 N X G p i=>?_⟩;have w:Ext mu1 mu1 H1 (upd H1 p (.lst [])):=Ext.fresh i;refine zE (hb p) X w.w dw (G.notin i) .nil ((H0 k keep (F.ext N)).ext w) (G.fresh i) U (by simpa using W) fun R H' mu' v s B D x O s'=>?_;have y:Ext mu1 (mu'++[p]) H1 H':=by
   refine⟨((bE.mp s.pre).2).trans (a0 _ _),fun b o e n=>?_,fun b ys e=>s.tup b ys (w.tup b ys e),fun b o u e=>s.frz b o u (w.frz b o u e),fun b A=>?_⟩
   ·have L:b≠p:=dJ e i;exact s.old b o (by rw [dm L];exact e) fun z=>by
     rcases ak.mp z with z|z
     ·exact L z
     ·exact n z
   ·rcases am.mp A with z|z
    ·rcases s.new b (mC1 _ z)with q|q
     ·rcases ak.mp q with q|q
      ·exact .inr (by rw[q];exact i)
      ·exact .inl q
     ·by_cases l:b=p
      ·exact .inr (by rw[l];exact i)
      ·rw[dm l]at q;exact .inr q
    ·have:b=p:=by simpa using z
     exact .inr (by rw[this];exact i)
  refine hc _ H' (mu'++[p]) (N.trans y) (.ref (gp s'.len p)) ⟨by rw[lA1,lA1,s'.len];rfl,?_,fun n o b h1 h2=>?_⟩
  ·rw[bb];refine⟨s'.nd,by simp,fun b hb c hc e=>?_⟩;have:c=p:=by simpa using hc
   subst this;subst e;exact D hb
  ·by_cases M:n<I.length
   ·rw[gL1 M]at h1;rw[gL1 (by rw[s'.len];exact M)]at h2;exact(s'.ob n o b h1 h2).mor [p]
   ·have C:n=I.length:=by
     have:=(gE1.mp h1).1;rw[lA1]at this;simp at this;lia
    subst C;rw[gR1 (nR1 _)]at h1;rw[<- s'.len,gR1 (nR1 _)]at h2;simp at h1 h2;subst h1;subst h2;exact⟨v,B,(by simpa using x:dh K H' mu' xs v).mor [p]⟩
 ·cases f
section
variable{X:Cx}
theorem qZ{elt tg iter:Expr}{ifs:List Expr}{scope:cS}{pos:Pos}{T:List Str}{keep:List Nat}{i:List (Str×cG)}{m:FI}{g:FG}{t:FT}{e:FE}(hc:X.calm=true)(C:IL X scope T keep)(d:lO X.env.cells scope.names []=some i)(hi:XI X tg iter m)(hb:∀s H b,Kl (cxC X scope i T keep s H b) X.K tg ifs elt g t e)(hs:∀x,foldedSetIterable iter X.env x=pure x:=by intro _;rfl):XE X (.ListComp elt [⟨tg,iter,ifs,0⟩] scope pos) (dZ T.length keep m g t (dS e)):=
 ⟨d8 (BN (emit:=tG elt) (tb:=fun p=>ve p (tM X.K e)) hc (fun it f c=>xZ elt tg iter ifs scope pos it f c) C d hi.h (fun s H b p=>⟨(hb s H b).g.h,(hb s H b).t.h,vk (hb s H b).e.h p⟩) hs)
  fun σ H Q h=>tL (fun a E σ H q=>tF q) h⟩
theorem l5{elt tg iter:Expr}{ifs:List Expr}{scope:cS}{pos b l:Pos}{y:Str}(i:Nat){T:List Str}{keep:List Nat}{n:List (Str×cG)}{m:FI}{g:FG}{t:FT}{e:FE}(hc:X.calm=true)(C:IL X scope T keep)(f:lO X.env.cells scope.names []=some n)(hi:XI X tg iter m)(hb:∀s H c,Kl (cxC X scope n T keep s H c) X.K tg ifs elt g t e)(hN:X.N.Nodup)(hy:X.N[i]?=some y)(hx:xG X.env.scope y)(j:swapsWith (.ListComp elt [⟨tg,iter,ifs,0⟩] scope pos) (some (.Name y l)) b.line X.env=pure true:=by rfl)(hf:X.fn y=true\/X.env.scope.names.lookup y=some .local:=by first|exact .inl rfl|exact .inr rfl|assumption)(hs:∀x,foldedSetIterable iter X.env x=pure x:=by intro _;rfl):XS X (.Assign [.Name y l] (.ListComp elt [⟨tg,iter,ifs,0⟩] scope pos) b) (dk (dZ T.length keep m g t (dS e)) (gN i)):=
 ⟨i5 (BB (emit:=tG elt) (tb:=fun p=>ve p (tM X.K e)) hc j (fun it k d=>xZ elt tg iter ifs scope pos it k d) C f hi.h (fun s H c p=>⟨(hb s H c).g.h,(hb s H c).t.h,vk (hb s H c).e.h p⟩) hN hy hx hf hs)
  fun E σ H h=>Gu (fun σ H Q q=>tL (fun a E σ H q=>tF q) q) h⟩
end
def mm:D->Option Key
 | .int i=>some (.inl i)
 | .str x=>some (.inr x)
 |_=>none
def df{κ:Type}[DecidableEq κ](kvs:List (κ×D))(k:κ):Option D:=(kvs.find? fun p=>decide (p.1=k)).map (·.2)
def fW{κ:Type}[DecidableEq κ](kvs:List (κ×D))(k:κ)(d:D):List (κ×D):=
 if(kvs.any fun p=>decide (p.1=k))=true then kvs.map (fun p=>if p.1=k then(p.1,d)else p)else kvs++[(k,d)]
section
variable{K:Fg1}{H:Hp}{mu:List cG}
theorem kl{d:D}{v:V}{k:Key}(r:eD K H mu d v)(h:mm d=some k):v=kV k:=by
 cases r with
 |int i=>cases h;rfl
 |str x=>cases h;rfl
 |_=>cases h
end
section
variable{κ:Type} [DecidableEq κ] {K:Fg1}{H:Hp}{mu:List cG}
theorem KR.length:∀{ks:List (κ×D)} {ws:List (κ×V)},KR K H mu ks ws->ks.length=ws.length:=fun h=>Paired.length h
theorem KR.look{k:κ}:∀ {ks:List (κ×D)} {ws:List (κ×V)},KR K H mu ks ws ->
  (∀d,df ks k=some d -> ∃v,gC ws k=some v/\eD K H mu d v)/\(df ks k=none->gC ws k=none):=by
 intro ks ws h
 induction h with
 |nil=>exact⟨fun d h=>by simp[df]at h,fun _=>rfl⟩
 | @cons p q ks ws r t ih=>
  obtain⟨a,c⟩:=p;obtain⟨j,f⟩:=q;obtain⟨e,r⟩:=r;dsimp only at e r;subst e;obtain⟨h1,h2⟩:=ih;by_cases b:a=k
  ·subst b;refine⟨fun d h=>?_,fun h=>?_⟩
   ·have:c=d:=by simpa[df]using h
    subst this;exact⟨f,by simp[gC],r⟩
   ·simp[df]at h
  ·have i:df ((a,c)::ks) k=df ks k:=by simp[df,aM,b]
   have g:gC ((a,f)::ws) k=gC ws k:=by simp[gC,aM,b]
   rw[i,g];exact⟨h1,h2⟩
theorem KR.any{k:κ}:∀{ks:List (κ×D)} {ws:List (κ×V)},KR K H mu ks ws->(ks.any fun p=>decide (p.1=k))=ws.any fun p=>decide (p.1=k):=by
 intro ks ws h
 induction h with
 |nil=>rfl
 |cons r t ih=>rw[aN,aN,ih,r.1]
theorem KR.repl{k:κ}{d:D}{v:V}(q:eD K H mu d v):∀ {ks:List (κ×D)} {ws:List (κ×V)},KR K H mu ks ws ->
  KR K H mu (ks.map fun p=>if p.1=k then(p.1,d)else p) (ws.map fun p=>if p.1=k then(p.1,v)else p):=by
 intro ks ws h
 induction h with
 |nil=>exact .nil
 | @cons a b ks ws r t ih=>
  refine .cons ?_ ih;obtain⟨e,r⟩:=r;dsimp only;by_cases h:a.1=k
  ·rw[if_pos h,if_pos (e ▸ h)];exact⟨e,q⟩
  ·rw[if_neg h,if_neg (e ▸ h)];exact⟨e,r⟩
theorem KR.snoc{k:κ}{d:D}{v:V}(q:eD K H mu d v):∀{ks:List (κ×D)} {ws:List (κ×V)},KR K H mu ks ws->KR K H mu (ks++[(k,d)]) (ws++[(k,v)]):=by
 intro ks ws h
 induction h with
 |nil=>exact .cons ⟨rfl,q⟩ .nil
 |cons r t ih=>exact .cons r ih
theorem KR.put{k:κ}{d:D}{v:V}(q:eD K H mu d v){ks:List (κ×D)}{ws:List (κ×V)}(h:KR K H mu ks ws):KR K H mu (fW ks k d) (g6 ws k v):=by
 unfold fW g6;rw[h.any];split
 ·exact h.repl q
 ·exact h.snoc q
end
def uD:G2:=fun d e S=>match e with
 | .ref n=>match S[n]? with
  |some (.dct kvs)=>(mm d).map fun k=>(.bl (df kvs k).isSome,S)
  |_=>GJ d e S
 |_=>GJ d e S
def g9:G2:=fun d e S=>match e with
 | .ref n=>match S[n]? with
  |some (.dct kvs)=>(mm d).map fun k=>(.bl (!(df kvs k).isSome),S)
  |_=>k9 d e S
 |_=>k9 d e S
def mw:G2:=fun d e S=>match d with
 | .ref n=>match S[n]? with
  |some (.dct kvs)=>(mm e).bind fun k=>(df kvs k).map fun x=>(x,S)
  |_=>AR d e S
 |_=>AR d e S
def jY:G3:=fun o i v S=>match o with
 | .ref n=>match S[n]? with
  |some (.dct kvs)=>(mm i).bind fun k=>if kvs.length<cN then some (.non,S.set n (.dct (fW kvs k v)))else none
  |_=>jZ o i v S
 |_=>jZ o i v S
section
variable{X:Cx}
theorem nX{K:Fg1}{H:Hp}{mu:List cG}{S:Sto}(hs:Sim K H mu S){n:Nat}{a:cG}{kvs:List (Key×D)}{k:Key}{y:V}(hn:mu[n]? = some a)(he:S[n]? = some (.dct kvs))(hy:y=kV k):
  ∃o:Option V,oZ H a y o/\(∀d,df kvs k=some d -> ∃v,o=some v/\eD K H mu d v)/\(df kvs k=none->o=none)/\o.isSome=(df kvs k).isSome:=by
 obtain⟨ws,c,f⟩:=hs.dct he hn;subst hy;obtain⟨h1,h2⟩:=f.look (k:=k);refine⟨gC ws k,oZ.k c,h1,h2,?_⟩;cases e:df kvs k with
 |none=>rw[h2 e];rfl
 |some d=>obtain⟨v,b,_⟩:=h1 d e;rw[b];rfl
theorem HA(m:X.A.units+64<cLine):gg X (compareOp .In) (r2 X.K (b2 uD)):=by
 intro pins s σ H x y u w Q I i j h;obtain⟨mu,S,d,e,r,f,l,b,c,a,hc⟩:=sj h;have back:GJ d e S=some (r,f)->cO (model X.prog X.w) X.A (compareOp .In u w) (EP X pins σ Q) X.xe s:=fun a=>Jy m pins s σ H x y u w Q I i j ⟨mu,S,[d,e],r,f,.cons l (.cons b .nil),c,a,hc⟩;unfold uD at a;split at a
 ·rename_i n;split at a
  ·rename_i kvs q;obtain⟨k,v,a⟩:=oM1.mp a;cases a;cases b with
   |ref p=>
    cases j;obtain⟨o,g,_,_,hi⟩:=nX c p q (kl l v);exact JN (by lia) I g i fun s' t=>⟨.bl o.isSome,H,t,rfl,by rw[hi];exact hc.now (.bl _) c⟩
  ·exact back a
 ·exact back a
theorem y3(m:X.A.units+64<cLine):gg X (compareOp .NotIn) (r2 X.K (b2 g9)):=by
 intro pins s σ H x y u w Q I i j h;obtain⟨mu,S,d,e,r,f,l,b,c,a,hc⟩:=sj h;have back:k9 d e S=some (r,f)->cO (model X.prog X.w) X.A (compareOp .NotIn u w) (EP X pins σ Q) X.xe s:=fun a=>BW m pins s σ H x y u w Q I i j ⟨mu,S,[d,e],r,f,.cons l (.cons b .nil),c,a,hc⟩;unfold g9 at a;split at a
 ·rename_i n;split at a
  ·rename_i kvs q;obtain⟨k,v,a⟩:=oM1.mp a;cases a;cases b with
   |ref p=>
    cases j;obtain⟨o,g,_,_,hi⟩:=nX c p q (kl l v);exact CT (by lia) I g i fun s' t=>⟨.bl (!o.isSome),H,t,rfl,by rw[hi];exact hc.now (.bl _) c⟩
  ·exact back a
 ·exact back a
theorem GN(P:X.A.units+64<cLine):DG X (r2 X.K (b2 mw)):=by
 intro value b pins s σ H x y v u Q I C t h l;obtain⟨mu,S,d,e,r,B,w,j,p,c,hc⟩:=sj h;have back:AR d e S=some (r,B)->cO (model X.prog X.w) X.A (subscriptTail value b v u) (EP X pins σ Q) X.xe s:=fun c=>I1 value b pins s σ H x y v u Q I C t ⟨mu,S,[d,e],r,B,.cons w (.cons j .nil),p,c,hc⟩ l;unfold mw at c;split at c
 ·rename_i n;split at c
  ·rename_i kvs E;obtain⟨k,K,c⟩:=oB1.mp c;obtain⟨z,M,c⟩:=oM1.mp c;cases c;cases w with
   | @ref _ a N=>
    cases C;obtain⟨o,g,h1,_,_⟩:=nX p N E (kl j K);obtain⟨J,F,D⟩:=h1 _ M;subst F;have A:=tI I g;unfold subscriptTail;refine wB1 ?_;rw[getitemInPython_of_ne A.not_modules];refine wB1 (wpAny_specialOf A PySem.F.slot_dict_getitem.lookup ?_);have i:cO (model X.prog X.w) X.A (subscripted b false (.ref a) u) (fun r f=>cO (model X.prog X.w) X.A (letTemporaryGo value (.ref a) r >>= fun _=>pure r) (EP X pins σ Q) X.xe f) X.xe s:=by
     rw[l];exact wpAny_operating (wpAny_mono (xm (by lia) I g t fun O L G q=>(⟨J,H,G,q,hc.now D p⟩:EP X pins σ Q O L)) (fun r f m=>wB1 (wpAny_letTemporaryGo (wP1 m))) fun _ _ x=>x)
    first
     |exact wP1 (wB1 i)
     |exact wB1 i
     |exact i
  ·exact back c
 ·exact back c
theorem Eb(L:X.A.units+64<cLine):uW X (rU X.K (b3 jY)):=by
 intro pins s σ H o i v t j u Q I m l g h;obtain⟨mu,S,ds,d,p,A,b,a,hc⟩:=id h;cases A with
 |cons r D=>cases D with
  |cons y G=>cases G with
   |cons q C=>
    cases C;rename_i f z x;dsimp only[b3]at a;have back:jZ f z x S=some (d,p)->cO (model X.prog X.w) X.A (setItem t j u) (fun _ s'=>∃H',Inv X pins σ H' s'/\Q H') X.xe s:=fun a=>G7 pins s σ H o i v t j u Q I m l g ⟨mu,S,[f,z,x],d,p,.cons r (.cons y (.cons q .nil)),b,a,hc⟩;unfold jY at a;split at a
    ·rename_i n;split at a
     ·rename_i kvs B;obtain⟨k,J,a⟩:=oB1.mp a;split at a
      ·rename_i E;cases a;cases r with
       |ref e=>
        cases m;obtain⟨ws,c,w⟩:=b.dct B e;have F:=kl y J;subst F;refine xl (by lia) I (xB.k c (by rw[<- w.length];exact E)) l g fun s' K=>⟨_,K,?_⟩;have put:Ext mu mu H (upd H _ (.dK (g6 ws k v))):=Ext.put c trivial (gM1 e);exact hc _ mu put (b.put e c trivial ⟨_,dw,(w.put q).ext put⟩)
      ·cases a
     ·exact back a
    ·exact back a
def F3:G2:=fun d e S=>match e with
 | .non=>some (.bl (vQ d),S)
 | .bl b=>match d with
  | .bl c=>some (.bl (c == b),S)
  |_=>none
 |_=>none
theorem Hy:gg X (compareOp .Is) (r2 X.K (b2 F3)):=by
 intro pins s σ H x y u w Q I g j h;obtain⟨mu,S,d,e,r,l,k,a,i,f,hc⟩:=sj h;cases e with
 |non=>exact Hz pins s σ H x y u w Q I g j ⟨mu,S,[d,.non],r,l,.cons k (.cons a .nil),i,f,hc⟩
 |bl b=>
  cases d with
  |bl c=>
   cases f;cases k;cases a;cases g;cases j;exact is_bool ⟨.bl (c == b),H,I,rfl,hc.now (.bl _) i⟩
  |_=>cases f
 |_=>cases f
def sN:FE:=fun _ S=>some (.ref S.length,S++[.dct []])
theorem rX{pos:Pos}:XE X (.Dict [] [] pos) sN:=⟨d8 yV <| by
 rintro σ H Q ⟨r,mu,S,d,e,f,b,c,hc⟩ p a;cases c;exact hc _ _ (mu++[p]) (Ext.new_ a) (.ref (gp b.len p)) (b.new a ⟨[],dw,.nil⟩)⟩
def Fw:List (FE×FE)->Ev->Sto->Option (List (D×D)×Sto)
 |[],_,S=>some ([],S)
 |(a,b)::l,r,S=>(a r S).bind fun p=>(b r p.2).bind fun q=>(Fw l r q.2).map fun t=>((p.1,q.1)::t.1,t.2)
def zM:List (D×D)->Option (List (Key×D))
 |[]=>some []
 |(k,d)::l=>(mm k).bind fun k=>(zM l).map fun t=>(k,d)::t
def Do(l:List (FE×FE)):FE:=fun r S=>(Fw l r S).bind fun p=>(zM p.1).bind fun kvs=>if kvs.length<=15 then some (.ref p.2.length,p.2++[.dct (kvs.foldl (fun acc kv=>fW acc kv.1 kv.2) [])])else none
structure XP (X:Cx)(pos:Pos)(ks:List (Option Expr))(vs:List Expr)(l:List (FE×FE)):Prop where
 h:IH X pos ks vs (l.map fun p=>(tM X.K p.1,tM X.K p.2))
theorem AX{pos:Pos}:XP X pos [] [] []:=⟨BC⟩
theorem xM{pos:Pos}{k v:Expr}{ks:List (Option Expr)}{vs:List Expr}{a b:FE}{l:List (FE×FE)}(hk:XE X k a)(hv:XE X v b)(t:XP X pos ks vs l):XP X pos (some k::ks) (v::vs) ((a,b)::l):=⟨yM hk.h hv.h t.h⟩
theorem yL{K:Fg1}{σ:L2.St}:∀ {l:List (FE×FE)} {r:Ev} {mu:List cG} {H:Hp} {S e:Sto} {ps:List (D×D)} {Q:List (V×V)->Hp->Prop},fh K H mu r σ->Sim K H mu S->Fw l r S=some (ps,e) ->
  (∀vs H' mu',Ext mu mu' H H'->Paired (fun(p:D×D) (q:V×V)=>eD K H' mu' p.1 q.1/\eD K H' mu' p.2 q.2) ps vs->Sim K H' mu' e->Q vs H')->pY (l.map fun p=>(tM K p.1,tM K p.2)) σ H Q
 |[],r,mu,H,S,e,ps,Q,he,hs,c,hc=>by cases c;exact hc [] H mu (.refl _ _) .nil hs
 |(a,b)::l,r,mu,H,S,e,ps,Q,he,hs,c,hc=>by
  obtain⟨⟨d,j⟩,x,c⟩:=oB1.mp c;obtain⟨⟨B,o⟩,w,c⟩:=oB1.mp c;obtain⟨⟨t,C⟩,m,c⟩:=oM1.mp c;cases c;refine⟨r,mu,S,d,j,he,hs,x,fun v H1 mu1 i u n=>⟨r,mu1,j,B,o,he.ext i,n,w,fun E H2 s h r2 A=>?_⟩⟩;refine yL ((he.ext i).ext h) A m fun vs k g f y z=>hc _ k g ((i.trans h).trans f) (.cons ⟨(u.ext h).ext f,r2.ext f⟩ y) z
theorem zL{K:Fg1}{H:Hp}{mu:List cG}:∀ {ps:List (D×D)} {vs:List (V×V)} {kvs:List (Key×D)},Paired (fun (p:D×D) (q:V×V)=>eD K H mu p.1 q.1/\eD K H mu p.2 q.2) ps vs->zM ps=some kvs ->
  ∃ws:List (Key×V),vs=ws.map (fun c=>(kV c.1,c.2))/\KR K H mu kvs ws:=by
 intro ps vs kvs i h
 induction i generalizing kvs with
 |nil=>cases h;exact⟨[],rfl,.nil⟩
 | @cons a b ps vs q t ih=>
  obtain⟨k,d⟩:=a;obtain⟨m,f⟩:=b;obtain⟨g,l,h⟩:=oB1.mp h;obtain⟨rest,j,h⟩:=oM1.mp h;cases h;obtain⟨ws,e,r⟩:=ih j;have:=kl q.1 l;dsimp only at this;subst this;exact⟨(g,f)::ws,by rw[mP1,<- e],.cons ⟨rfl,q.2⟩ r⟩
theorem zo{K:Fg1}{H:Hp}{mu:List cG}:∀{kvs:List (Key×D)} {ws:List (Key×V)} {acc:List (Key×D)} {acw:List (Key×V)},KR K H mu kvs ws->KR K H mu acc acw->KR K H mu (kvs.foldl (fun acc c=>fW acc c.1 c.2) acc) (i9 acw ws):=by
 intro kvs ws acc acw f h
 induction f generalizing acc acw with
 |nil=>exact h
 | @cons a b kvs ws r t ih=>
  obtain⟨k,d⟩:=a;obtain⟨g,v⟩:=b;obtain⟨e,r⟩:=r;dsimp only at e r;subst e;show KR K H mu (kvs.foldl _ (fW acc k d)) (i9 (g6 acw k v) ws);exact ih (h.put r)
theorem xQ{pos:Pos}{ks:List (Option Expr)}{vs:List Expr}{l:List (FE×FE)}(h:XP X pos ks vs l)(k:ks.all (·.isSome)=true:=by rfl)(N:ks.length=vs.length:=by rfl)(K:ks≠[]:=by(intro z;cases z))(A:ks.length<=15:=by decide):XE X (.Dict ks vs pos) (Do l):=
 ⟨d8 (BM h.h k N K A) <| by
  rintro σ H Q ⟨r,mu,S,d,T,I,E,f,hc⟩ p i;obtain⟨⟨ps,D⟩,M,f⟩:=oB1.mp f;obtain⟨kvs,L,f⟩:=oB1.mp f;dsimp only at f;split at f
  ·rename_i v;cases f;have C:Ext mu mu H (upd H p (.dK [])):=Ext.fresh i;refine yL (I.ext C) (E.fresh i) M fun vs H1 mu1 j P g=>?_;obtain ⟨s,t⟩:=j.held (a:=p) (o:=.dK []) dw (E.notin i);obtain ⟨ws,J,rk⟩:=zL P L;refine ⟨s,ws,J,by rw [<- rk.length];exact v,?_⟩;have put:Ext (p::mu1) (p::mu1) H1 (upd H1 p (.dK (i9 [] ws))):=Ext.put s trivial mS1;have R:=g.aside put.inner t;have y:Ext mu (mu1++[p]) H (upd H1 p (.dK (i9 [] ws))):=by
    refine⟨j.pre.trans (a0 _ _),fun b o e n=>?_,fun b ys e=>put.tup b ys (j.tup b ys (C.tup b ys e)),fun b o u e=>put.frz b o u (j.frz b o u (C.frz b o u e)),fun b w=>?_⟩
    ·have F:b≠p:=dJ e i;rw[dm F];exact j.old b o (by rw[dm F];exact e) n
    ·rcases am.mp w with z|z
     ·rcases j.new b z with q|q
      ·exact .inl q
      ·by_cases m:b=p
       ·exact .inr (by rw[m];exact i)
       ·rw[dm m]at q;exact .inr q
     ·have:b=p:=by simpa using z
      exact .inr (by rw[this];exact i)
   have B:=zo rk (acc:=[]) (acw:=[]) .nil;refine hc _ _ (mu1++[p]) y (.ref (gp g.len p)) ⟨by rw[lA1,lA1,g.len];rfl,?_,fun n o b h1 h2=>?_⟩
   ·rw[bb];refine⟨g.nd,by simp,fun b O c hc e=>?_⟩;have:c=p:=by simpa using hc
    subst this;subst e;exact t O
   ·by_cases G:n<D.length
    ·rw[gL1 G]at h1;rw[gL1 (by rw[g.len];exact G)]at h2;exact(R.ob n o b h1 h2).mor [p]
    ·have x:n=D.length:=by
      have:=(gE1.mp h1).1;rw[lA1]at this;simp at this;lia
     subst x;rw[gR1 (nR1 _)]at h1;rw[<- g.len,gR1 (nR1 _)]at h2;simp at h1 h2;subst h1;subst h2;exact⟨_,dw,KR.mor [p] (Paired.mapP B fun _ _ z=>⟨z.1,z.2.exw put.inner⟩)⟩
  ·cases f⟩
theorem FX{K:Fg1}{H:Hp}{mu:List cG}{S:Sto}(hs:Sim K H mu S){n:Nat}{a:cG}{kvs:List (Key×D)}(hn:mu[n]?=some a)(he:S[n]?=some (.dct kvs)):J8 H a:=by
 obtain⟨ws,b,_⟩:=hs.dct he hn;exact .inl ⟨ws,.inl b⟩
end
section
variable{K:Fg1}{H H':Hp}{mu mu':List cG}{S:Sto}
end
theorem gU{X:Cx}(i j:Nat){x y:Str}{a b:Expr}{m:FA}{l n pt pos:Pos}{kt k2 pt2}(hc:X.calm=true)(hN:X.N.Nodup)(hi:X.N[i]? = some x)(t:X.N[j]? = some y)(k:i≠j)(hx:X.env.scope.names.lookup x=some .local)(hy:X.env.scope.names.lookup y=some .local)(ha:XA X [a,b] m)(hw:swappedStores [.Tuple [.Name x l,.Name y n] kt pt] (.Tuple [a,b] k2 pt2) X.env=pure (some [x,y]):=by rfl)(hs:swapsWithSole [.Tuple [.Name x l,.Name y n] kt pt] (.Tuple [a,b] k2 pt2) pos.line X.env=pure false:=by rfl):
  XS X (.Assign [.Tuple [.Name x l,.Name y n] kt pt] (.Tuple [a,b] k2 pt2) pos) (dk (d6 m) (gT 2 (eu (gN i) (eu (gN j) hB)))):=
 ⟨i5 (Ep hc hN hi t k hx hy ha.h hw hs) <| by
  rintro E σ H ⟨r,mu,S,f,w,C,o,hs,g,hc⟩;obtain⟨⟨d,B⟩,e,g⟩:=oB1.mp g;obtain⟨⟨r2,A⟩,c,g⟩:=oB1.mp g;cases g;obtain⟨⟨ds,z⟩,q,e⟩:=oB1.mp e;dsimp only at e;split at e
  ·cases e;refine⟨r,mu,S,ds,_,o,hs,q,fun vs H1 mu1 p h s=>?_⟩;dsimp only at c;rw[gT]at c;split at c
   ·cases h with
    |nil=>cases c
    |cons u h=>cases h with
     |nil=>cases c
     |cons v h=>cases h with
      |nil=>
       cases c;exact⟨_,_,rfl,hc _ H1 mu1 p (((o.ext p).set u).set v) s⟩
      |cons _ _=>cases c
   ·cases c
  ·cases e⟩
end Mi
namespace HT
open PySem PySem.Spec PyProof.Rows
variable{prog:cH}{w:cJ}{A:cI}{E:cE->cF->Prop}{s:cF}
theorem kz{t b:cG}{items:Array cE}{g f:cE}{lo hi:Option Int}{Q:cE->cF->Prop}(ht:IsTup s.heap t items)(hs:s.heap.IsSliceOf b g f .none)(pl:IsPart g lo)(j:IsPart f hi)(hw:sIx items.size 0 lo=0/\sIx items.size items.size hi=items.size)(h:Q (.ref t) s):cO (model prog w) A (getItem (.ref t) (.ref b)) Q E s:=by
 obtain⟨k,e,c,i⟩:=id hs;have d:s.TypeIs (.ref b) "slice":=⟨k,e,c⟩;unfold getItem
 try with_reducible refine wpAny_holding ?_
 first|refine wB1 (wP1 ?_)|skip
 refine wB1 (wpAny_sequenceKey ht.typeIs (by decide) ?_);refine wB1 (wpAny_callSpecial?_slot (name:=Str.ofString "__getitem__") ht.typeIs PyProof.Rows.slot_tuple_getitem
  (wE1 PyProof.Rows.slot_tuple_getitem ht.typeIs entry_tuple_getitem ?_ (args_tuple_getitem _ _)))
 show cO _ _ (Builtin.Tuple.tupleItemsOf (.ref t) >>= _) _ _ s;refine wB1 (tupleItemsOf_ ht ?_);refine wB1 (wpAny_typeOf d ?_);rw[if_pos (by decide)];refine wB1 (iG hs pl j ?_);have a:((((sIx items.size 0 lo:Nat):Int) == 0&&(1:Int) == 1&&(sIx items.size items.size hi-sIx items.size 0 lo) == items.size)=true):=by
  rw[hw.1,hw.2];simp
 show cO _ _ (if(((sIx items.size 0 lo:Nat):Int) == 0&&(1:Int) == 1&&(sIx items.size items.size hi-sIx items.size 0 lo) == items.size)=true then _ else _) _ _ s;rw[if_pos a];refine wB1 ?_;unfold Builtin.Tuple.tupleIsExact;refine wB1 (wpAny_typeOf ht.typeIs (wP1 ?_));rw[if_pos (by decide)]
 first
  |exact wB1 (wpAny_rule (wP1 ⟨_,rfl,wP1 h⟩))
  |exact wB1 (wpAny_rule (wB1 (wP1 ⟨_,rfl,wP1 h⟩)))
end HT
namespace Mi
open PySem PySem.Spec PyProof.Rows L2
def Jr(K:Fg1):V->Option Int->Option Int->Hp->VK->Prop:=fun x lo hi H Q=>∃a xs,x = .ref a/\kB K H a xs/\(HT.sIx xs.length 0 lo=0/\HT.sIx xs.length xs.length hi=xs.length)/\Q (.ref a) H
section
variable{X:Cx}
theorem Bj:AS X (Jr X.K):=by
 intro pins s σ H x v n m lo hi l Q I f j pl i h;obtain⟨a,xs,rfl,g,e,q⟩:=h;cases f;obtain⟨c,r,d,k⟩:=I.tuple g;have b:c.toArray.size=xs.length:=by rw[sT1];exact r.length.symm
 refine⟨"tuple",_,PyProof.Rows.slot_tuple_getitem.lookup,d.typeIs,?_⟩;exact HT.kz d j pl i (by rw[b];exact e) ⟨.ref a,H,I,rfl,q⟩
def yv(S:Sto)(d:D)(lo hi:Option Int):Option (D×Sto):=(dj S d).map fun p=>if p.1=true then(.ref S.length,S++[.lst (Mi.m8 p.2 lo hi)])else(.tup (Mi.m8 p.2 lo hi),S)
def mh(m:FE)(lo hi:FO):FE:=fun r S=>(m r S).bind fun p=>(lo r p.2).bind fun a=>(hi r a.2).bind fun b=>yv b.2 p.1 a.1 b.1
theorem xn{xs:List D}{lo hi:Option Int}(h:HT.sIx xs.length 0 lo=0/\HT.sIx xs.length xs.length hi=xs.length):Mi.m8 xs lo hi=xs:=by
 unfold Mi.m8;rw[h.1,h.2,List.drop_zero,Nat.sub_zero,bF]
theorem fI{e:Expr}{lo hi:Option Expr}{m:FE}{a b:FO}{pos p2:Pos}(h:XE X e m)(L:XO X lo a)(O:XO X hi b):XE X (.Subscript e (.Slice lo hi none p2) pos) (mh m a b):=
 ⟨d8 (yT (AS.or Bj (AS.or D4 Bk)) h.h L.h O.h) <| by
  rintro σ H Q ⟨r,mu,S,d,R,o,G,f,hc⟩;obtain⟨⟨C,B⟩,K,f⟩:=oB1.mp f;obtain⟨⟨l,A⟩,J,f⟩:=oB1.mp f;obtain⟨⟨n,E⟩,D,f⟩:=oB1.mp f;refine⟨r,mu,S,C,B,o,G,K,fun v H1 mu1 y I F=>?_⟩;refine⟨r,mu1,B,l,A,o.ext y,F,J,fun H2 u x M=>?_⟩;refine⟨r,u,A,n,E,(o.ext y).ext x,M,D,fun P g z j=>?_⟩;obtain⟨⟨k,xs⟩,N,f⟩:=oM1.mp f;have s:=(y.trans x).trans z;obtain⟨c,vs,rfl,q,t⟩:=db ((I.ext x).ext z) j N;cases k with
  |true=>
   cases f;right;right;exact⟨c,vs,rfl,q,fun p i=>hc _ _ (g++[p]) (s.trans (Ext.new_ i)) (.ref (gp j.len p)) (j.newL (we t l n) i)⟩
  |false=>
   simp only[bF1,if_false]at f;cases f;by_cases w:HT.sIx xs.length 0 l=0/\HT.sIx xs.length xs.length n=xs.length
   ·left;rw[xn w]at hc;exact⟨c,vs,rfl,q,by rw[<- t.length];exact w,hc _ _ g s (.tup q t) j⟩
   ·right;left;exact⟨c,vs,rfl,q,by rw[<- t.length];exact w,fun p i=>hc _ _ g (s.trans (Ext.fresh i)) (.tup (kB.of dw) ((we t l n).ext (Ext.fresh i))) (j.fresh i)⟩⟩
end
mutual
inductive eE (h:cP):TK->cE->Prop
 |non:eE h .non .none
 |int (i t):eE h (.int i) (.int i t)
 |tup {a o items n xs}:h.get? a=some o->o.cls = .type "tuple"->o.data = .seq items n->eP h xs items.toList->eE h (.tup xs) (.ref a)
inductive eP (h:cP):List TK->List cE->Prop
 |nil:eP h [] []
 |cons {k v ks vs}:eE h k v->eP h ks vs->eP h (k::ks) (v::vs)
end
section
variable{prog:cH}{w:cJ}{A:cI}{E:cE->cF->Prop}{s:cF}
theorem su{Q:Int->cF->Prop}(h:Q 0xFCA86420 {s with toks:=s.toks+1}):cO (model prog w) A (pyHash .none) Q E s:=by
 have a:s.TypeIs .none "NoneType":=rfl;unfold pyHash
 first|unfold pyHashByItsType|skip
 have b:[Value.none].any Value.onHeap=false:=rfl;refine wB1 ?_;rw[cRoomFor,if_neg (by rw[b];exact au)];refine wP1 ?_;refine wB1 (wpAny_specialOf a F.slot_NoneType_hash.lookup ?_);show cO _ _ (if(some (Value.builtin "NoneType.__hash__") == some Value.none)=true then _ else _) Q E s;rw[if_neg (by rw[beq_builtin_none];exact au)];refine wB1 (wpAny_specialOf a F.slot_NoneType_hash.lookup ?_);show cO _ _ (callSpecialIfBoundUnlessNone? .none "__hash__" _ >>= _) Q E s;refine wB1 (wpAny_callSpecialIfBoundUnlessNone?_slot a F.slot_NoneType_hash (wE1 F.slot_NoneType_hash a F.entry_NoneType_hash (show cO _ _ (retInt 0xFCA86420) _ _ s from wpAny_ret_mkInt ?_) (F.args_NoneType_hash_1 _)));exact wP1 h
def rP(prog:cH)(w:cJ)(k:TK):Prop:=∀{A:cI} {E:cE->cF->Prop} {s:cF} {v:cE} {Q:Int->cF->Prop},A.units+k.dep<cLine->eE s.heap k v->Q k.hash {s with toks:=s.toks+k.draws}->cO (model prog w) A (pyHash v) Q E s
theorem eP.split{h:cP}:∀{ks:List TK} {vs:List cE},eP h ks vs->ks.length=vs.length:=fun a=>a.rec (motive_1:=fun _ _ _=>True) (motive_2:=fun ks vs _=>ks.length=vs.length) trivial (fun _ _=>trivial) (fun _ _ _ _ _=>trivial) rfl (fun _ _ _ ih=>congrArg (· + 1) ih)
theorem zW{xs:List TK}(all:∀k∈xs,rP prog w k):rP prog w (.tup xs):=by
 intro A E s v Q t u h;cases u with
 | @tup a o l n _ q hc r hi=>
  have j:s.TypeIs (.ref a) "tuple":=⟨o,q,hc⟩;rw[TK.dep]at t;unfold pyHash
  first|unfold pyHashByItsType|skip
  first|refine wB1 (wpAny_cRoomFor_or (.inr (by lia)) ?_)|skip
  refine wB1 (wpAny_specialOf j F.slot_tuple_hash.lookup ?_);show cO _ _ (if(some (Value.builtin "tuple.__hash__") == some Value.none)=true then _ else _) Q E s;rw[if_neg (by rw[beq_builtin_none];exact au)];refine wB1 (wpAny_specialOf j F.slot_tuple_hash.lookup ?_);show cO _ _ (callSpecialIfBoundUnlessNone? (.ref a) "__hash__" _ >>= _) Q E s;refine wB1 (wpAny_callSpecialIfBoundUnlessNone?_slot j F.slot_tuple_hash (wE1 F.slot_tuple_hash j F.entry_tuple_hash ?_ (F.args_tuple_hash_1 _)));show cO _ _ (Builtin.Tuple.tupleItemsOf (.ref a) >>= _) _ _ s;refine wB1 (wpAny_tupleItemsOf q r ?_);refine wB1 ?_;rw[<- bG];refine wpAny_forIn_list _
   (fun rest (b:Array Int) s'=>∃done c,xs=done++c/\eP s.heap c rest/\b.toList=TK.hashes done/\s'={s with toks:=s.toks+TK.drawsAll done})
   _ ?_ ?_ _ _ ⟨[],xs,rfl,hi,rfl,rfl⟩
  ·rintro x rest b s' ⟨done,c,e,m,i,rfl⟩;cases m with
   | @cons k _ f _ h1 d=>
    have p:k∈xs:=by rw[e];simp
    refine wB1 (all k p (show A.in1.units+k.dep<cLine by have:=TK.dep_mem p;rw[show A.in1.units=A.units+1 from rfl];lia) h1 ?_)
    first
     |exact wP1 ⟨done++[k],f,by simp[e],d,by rw[TK.hashes_app];simp[i,TK.hashes],by rw[TK.draws_app];simp[TK.drawsAll,aT]⟩
     |exact wB1 (wP1 (wP1 ⟨done++[k],f,by simp[e],d,by rw[TK.hashes_app];simp[i,TK.hashes],by rw[TK.draws_app];simp[TK.drawsAll,aT]⟩))
  ·rintro b s' ⟨done,c,e,m,i,rfl⟩;cases m;rw[ay]at e;subst e;show cO _ _ (retInt (Builtin.Tuple.tupleHashOf b.toList)) _ _ _;rw[i];refine wpAny_ret_mkInt ?_;show cO _ _ (if(decide (-(2:Int)^63<=Builtin.Tuple.tupleHashOf (TK.hashes xs))&&decide (Builtin.Tuple.tupleHashOf (TK.hashes xs)<2^63))=true then _ else _) Q E _;rw[TK.hash,TK.draws]at h;unfold reduceHash at h;by_cases g:(decide (-(2:Int)^63<=Builtin.Tuple.tupleHashOf (TK.hashes xs))&&decide (Builtin.Tuple.tupleHashOf (TK.hashes xs)<2^63))=true
   ·rw[if_pos g];rw[if_pos g]at h;exact wP1 (by simpa[aT]using h)
   ·rw[if_neg g];rw[if_neg g]at h;exact wB1 (wpAny_rule (wP1 (by simpa[aT]using h)))
mutual
theorem rg:∀k:TK,rP prog w k
 | .non=>fun b a h=>by cases a;exact su h
 | .int i=>fun b a h=>by cases a;exact wpAny_pyHash_int h
 | .tup xs=>zW (s7 xs)
theorem s7:∀ks:List TK,∀k∈ks,rP prog w k
 |[],k,h=>by simp at h
 |x::xs,k,h=>by
  by_cases e:k=x
  ·rw[e];exact rg x
  ·exact s7 xs k ((ak.mp h).resolve_left e)
end
end
theorem eE.inj{h:cP}:∀ {k k':TK} {v:cE},eE h k v->eE h k' v->k=k':=fun j=>j.rec (motive_1:=fun k v _=>∀ k',eE h k' v->k=k') (motive_2:=fun k v _=>∀ k',eP h k' v->k=k')
  (fun k' g=>by cases g;rfl) (fun _ _ k' g=>by cases g;rfl)
  (fun f l e m ih k' g=>by
   cases g with
   |tup c n d i=>
    rw[f]at c;cases c;rw[e]at d;cases d;rw[ih _ i])
  (fun k' g=>by cases g;rfl) (fun _ _ a b k' g=>by cases g with|cons r' t'=>rw[a _ r',b _ t']) _
theorem eE.keeps{h h':cP}{d:cG}{o:Obj}{es ep}(ho:h.get? d=some o)(hd:o.data = .dict es ep)(hs:Heap.SameBut d h h'):∀ {k:TK} {v:cE},eE h k v->eE h' k v:=fun g=>g.rec (motive_1:=fun k v _=>eE h' k v) (motive_2:=fun k v _=>eP h' k v) .non .int
  (fun{a} _ _ _ _ e f c _ ih=>.tup ((hs.2 a (fun z=>by subst z;rw[e]at ho;cases ho;rw[c]at hd;cases hd)).trans e) f c ih) .nil (fun _ _ a b=>.cons a b)
theorem eP.at{h:cP}:∀{ks:List TK} {vs:List cE} (j:Nat) (h1:j<ks.length) (h2:j<vs.length),eP h ks vs->eE h ks[j] vs[j]
 |_::_,_::_,0,_,_,.cons r _=>r
 |_::ks,_::vs,j+1,h1,h2,.cons _ t=>eP.at j (by simpa using h1) (by simpa using h2) t
theorem Az{xs ys:List TK}(b:xs.length=ys.length):((List.range (min xs.length ys.length)).all fun j=>decide (xs[j]?=ys[j]?))=decide (xs=ys):=by
 by_cases h:xs=ys
 ·subst h;simp
 ·rw[decide_eq_false h,List.all_eq_false];have:∃j,xs[j]? ≠ ys[j]?:=Classical.byContradiction fun z=>h (bH fun j=>Classical.byContradiction fun q=>z ⟨j,q⟩);obtain⟨j,a⟩:=this;refine⟨j,?_,by simpa using a⟩;rw[ah,b,Nat.min_self];apply Classical.byContradiction;intro c;exact a (by rw[bI (by lia),bI (by lia)])
theorem Dx:∀(n:Nat) {k k':TK} {A:cI} {s:cF} {u v:cE},k.dep<=n->A.units+n<cLine->eE s.heap k u->eE s.heap k' v->SeqAt.EqAt A s u v (decide (k=k')):=by
 intro n
 induction n with
 |zero=>
  intro k k' A s u v C S r g;cases r with
  |tup _ _ _ _=>simp[TK.dep]at C
  |non=>
   cases g with
   |non=>simpa using SeqAt.EqAt.same (A:=A) (s:=s) Value.none
   |int i t=>simpa[t0]using lb (A:=A) (s:=s) (y:=.non) (x:=.int i) rfl ⟨t,rfl⟩ rfl rfl
   |tup e c d t=>simpa using(eW (A:=A) (s:=s) (b:=false) (v:=.non) (u:=.none) ⟨_,e,c,_,d⟩ rfl rfl (by lia)).2.1
  |int i t=>
   cases g with
   |non=>simpa[t0]using lb (A:=A) (s:=s) (y:=.int i) (x:=.non) ⟨t,rfl⟩ rfl rfl rfl
   |int j I=>
    have:=lb (A:=A) (s:=s) (y:=.int i) (x:=.int j) ⟨t,rfl⟩ ⟨I,rfl⟩ rfl rfl;have e:t0 (.int i) (.int j)=decide (TK.int i=TK.int j):=by
     by_cases h:i=j
     ·subst h;simp[t0]
     ·rw[decide_eq_false (fun z=>h (by injection z))];simp[t0,h]
    rw[e]at this;exact this
   |tup e c d q=>simpa using(eW (A:=A) (s:=s) (b:=false) (v:=.int i) (u:=.int i t) ⟨_,e,c,_,d⟩ ⟨t,rfl⟩ rfl (by lia)).2.1
 |succ n ih=>
  intro k k' A s u v C S r g;cases r with
  |non=>
   cases g with
   |non=>simpa using SeqAt.EqAt.same (A:=A) (s:=s) Value.none
   |int i t=>simpa[t0]using lb (A:=A) (s:=s) (y:=.non) (x:=.int i) rfl ⟨t,rfl⟩ rfl rfl
   |tup e c d t=>simpa using(eW (A:=A) (s:=s) (b:=false) (v:=.non) (u:=.none) ⟨_,e,c,_,d⟩ rfl rfl (by lia)).2.1
  |int i t=>
   cases g with
   |non=>simpa[t0]using lb (A:=A) (s:=s) (y:=.int i) (x:=.non) ⟨t,rfl⟩ rfl rfl rfl
   |int j I=>
    have:=lb (A:=A) (s:=s) (y:=.int i) (x:=.int j) ⟨t,rfl⟩ ⟨I,rfl⟩ rfl rfl;have e:t0 (.int i) (.int j)=decide (TK.int i=TK.int j):=by
     by_cases h:i=j
     ·subst h;simp[t0]
     ·rw[decide_eq_false (fun z=>h (by injection z))];simp[t0,h]
    rw[e]at this;exact this
   |tup e c d q=>simpa using(eW (A:=A) (s:=s) (b:=false) (v:=.int i) (u:=.int i t) ⟨_,e,c,_,d⟩ ⟨t,rfl⟩ rfl (by lia)).2.1
  | @tup a o f m xs w p l F=>
   cases g with
   |non=>simpa using(eW (A:=A) (s:=s) (b:=false) (v:=.non) (u:=.none) ⟨_,w,p,_,l⟩ rfl rfl (by lia)).1
   |int i t=>simpa using(eW (A:=A) (s:=s) (b:=false) (v:=.int i) (u:=.int i t) ⟨_,w,p,_,l⟩ ⟨t,rfl⟩ rfl (by lia)).1
   | @tup T V items2 m2 ys L O P H=>
    by_cases M:a=T
    ·subst M;have:TK.tup xs=TK.tup ys:=eE.inj (.tup w p l F) (.tup L O P H);rw[decide_eq_true this];exact .same _
    ·refine .of_refs M ?_;have J:=F.split;have N:=H.split;have G:=SeqAt.RcAt.tuples (A:=A) (s:=s) (e:=fun j=>decide (xs[j]? = ys[j]?)) ⟨o,w,p,m,l⟩ ⟨V,L,O,m2,P⟩ (by lia) (fun j h1 h2=>by
      have D:j<xs.length:=by rw[J];simpa using h1
      have K:j<ys.length:=by rw[N];simpa using h2
      rw[TK.dep]at C;have W:=TK.dep_mem (bA D);have q:=ih (k:=xs[j]) (k':=ys[j]) (A:=A.in1) (s:=s) (by lia) (by show A.units+1+n<cLine;lia) (F.at j D (by simpa using h1)) (H.at j K (by simpa using h2));have e:decide (xs[j]?=ys[j]?)=decide (xs[j]=ys[j]):=by
       rw[gG1 D,gG1 K];simp
      rw[e];simpa using q)
     have Q:f.size=xs.length:=by rw[J];simp
     have R:items2.size=ys.length:=by rw[N];simp
     rw[Q,R]at G;have E:((List.range (min xs.length ys.length)).all (fun j=>decide (xs[j]?=ys[j]?))&&xs.length == ys.length)=decide (TK.tup xs=TK.tup ys):=by
      by_cases B:xs.length=ys.length
      ·rw[Az B,B,beq_self_eq_true,br];by_cases h:xs=ys
       ·subst h;simp
       ·rw[decide_eq_false h,decide_eq_false (fun z=>h (by injection z))]
      ·have U:(xs.length == ys.length)=false:=by simpa using B
       rw[U,aK,decide_eq_false (fun z=>B (by injection z with z;rw[z]))]
     rw[E]at G;exact G
theorem nK{prog:cH}{w:cJ}:∀(n:Nat) {k:TK} {A:cI} {E:cE->cF->Prop} {s:cF} {v:cE} {Q:Bool->cF->Prop},k.dep<=n->eE s.heap k v->Q true s->cO (model prog w) A (eqIsQuiet n v) Q E s:=by
 intro n
 induction n with
 |zero=>
  intro k A E s v Q c r h;cases r with
  |non=>rw[eqIsQuiet_byValue 0 rfl];exact wP1 h
  |int i t=>rw[eqIsQuiet_byValue 0 rfl];exact wP1 h
  |tup _ _ _ _=>simp[TK.dep]at c
 |succ n ih=>
  intro k A E s v Q c r h;cases r with
  |non=>rw[eqIsQuiet_byValue _ rfl];exact wP1 h
  |int i t=>rw[eqIsQuiet_byValue _ rfl];exact wP1 h
  | @tup a o b m xs f l j p=>
   have g:s.TypeIs (.ref a) "tuple":=⟨o,f,l⟩;rw[TK.dep]at c;unfold eqIsQuiet;refine wB1 (wpAny_specialOf g F.slot_tuple_eq.lookup ?_);show cO _ _ (isInstance (.ref a) (.type "tuple") >>= _) _ _ s;refine wB1 (wpAny_isInstance g isSubtype_tuple_tuple ?_);simp only[bJ,bF1,if_false];refine wB1 (wpAny_seqItems f j ?_);refine wB1 ?_;show cO _ _ (forIn b _ _) _ _ s;rw[<- bG];refine wpAny_forIn_list _ (fun rest r s'=>r.1=none/\s'=s /\ ∃ks,eP s.heap ks rest/\TK.depAll ks<=n) _ ?_ ?_ _ _ ⟨rfl,rfl,xs,p,by lia⟩
   ·rintro v rest r s' ⟨d,rfl,ks,x,q⟩;cases x with
    | @cons u _ e _ z y=>
     rw[TK.depAll]at q;refine wB1 (ih (k:=u) (by lia) z ?_);simp only[bJ,bF1,if_false];exact wP1 ⟨rfl,rfl,e,y,by lia⟩
   ·rintro⟨B,r2⟩ s' ⟨d,rfl,_⟩;simp only at d;subst d;exact wP1 h
def jr(prog:cH)(w:cJ):HeapKind prog w TK where
 is:=fun h k a=>eE h k (.ref a)/\k.dep<=8
 hash:=TK.hash
 draws:=TK.draws
 room:=fun A=>A.units+8<cLine
 inj:=fun hx hy=>hx.1.inj hy.1
 keeps:=fun x ho hd hs=>⟨x.1.keeps ho hd hs,x.2⟩
 pyHash:=fun hu hk h=>rg _ (by have:=hk.2;omega) hk.1 h
 eqBool:=fun hu hx hy h=>Dx 8 hx.2 hu hx.1 hy.1 _ _ _ _ h
 quiet:=fun hk h=>nK 8 hk.2 hk.1 h
def xg:G2:=fun o v S=>match o,v with
 | .ref n,.ref b=>match S[n]?,S[b]? with
  |some (.lst xs),some (.lst ys)=>if xs.length+ys.length<=cN then some (.non,S.set n (.lst (xs++ys)))else none
  |_,_=>none
 |_,_=>none
def HZ(n:Nat)(k:Int):Nat:=if k<0 then(k+(n:Int)).toNat else min k.toNat n
def KZ:G3:=fun o i v S=>match o,i with
 | .ref n,.int k=>match S[n]? with
  |some (.lst xs)=>if-(2^63)<=k/\k<2^63/\xs.length<cN then some (.non,S.set n (.lst (xs.take (HZ xs.length k)++v::xs.drop (HZ xs.length k))))else none
  |_=>none
 |_,_=>none
def tz(f:D->D->Option Bool)(x:D):List D->Option (List Bool)
 |[]=>some []
 |y::ys=>(f y x).bind fun b=>(tz f x ys).map (b :: ·)
def oa:G2:=fun o x S=>match o with
 | .ref n=>match S[n]? with
  |some (.lst ys)=>(tz (eqN S dr) x ys).bind fun bs=>if bs.length<2^62 then(bs.findIdx? id).map fun j=>(.int (j:Nat),S)else none
  |_=>none
 |_=>none
theorem rq(f:D->D->Option Bool)(x:D):∀{ys:List D} {bs:List Bool},tz f x ys=some bs->bs.length=ys.length /\ ∀(j:Nat) (y:D) (k:Bool),ys[j]?=some y->bs[j]?=some k->f y x=some k
 |[],bs,h=>by cases h;exact⟨rfl,fun j y k h=>by simp at h⟩
 |y::ys,bs,h=>by
  rw[tz]at h;obtain⟨b,d,h⟩:=oB1.mp h;obtain⟨i,g,h⟩:=oM1.mp h;obtain⟨e,c⟩:=rq f x g;subst h;refine⟨by simp[e],fun j=>?_⟩;cases j with
  |zero=>intro a k h1 h2;simp at h1 h2;subst h1;subst h2;exact d
  |succ j=>intro a k h1 h2;exact c j a k (by simpa using h1) (by simpa using h2)
section
open PySem.MeetsSeq PySem.MeetsSeq2 PySem.MeetsSeq3 PySem.SeqRoads2
theorem sZ{l:cG}{its:Array cE}{n:Nat}{x:cE}{e:Nat->Bool}{top:Int}{j:Nat}(f:j<its.size)(ht:(j:Int)<top)(c:e j=true):∀ (k i:Nat),i+k=j->(∀ m,i<=m->m<j->e m=false) ->
  Meets (Builtin.«list.index.loop» ⟨[.ref l,x,rawInt i,rawInt top],[]⟩)
   (fun A R s=>s.heap.get? l=some {cls:=.type "list",data:=.seq its n}/\(∀m (h:m<its.size),SeqAt.EqAt A.in1 s its[m] x (e m))/\R (.ok (.ret (.int j s.toks))) {s with toks:=s.toks+1})
 |0,i,hk,hno,prog,w,A,R,⟨hp,g,d,tk,os⟩,⟨hl,he,h⟩=>by
  have o:i=j:=by lia
  subst o
  wp_walk using AutoSeq1.wpAny_loadPart' hl
  rw[show(if(i:Int)<top then its[((i:Nat):Int).toNat]? else none)=some its[i] by simp[ht,f]];refine wB1 (he i f prog w _ _ ?_);rw[c]
  wp_walk
  exact h
 |k+1,i,hk,hno,prog,w,A,R,⟨hp,g,d,tk,os⟩,⟨hl,he,h⟩=>by
  have h1:i<its.size:=by lia
  have h2:(i:Int)<top:=by lia
  wp_walk using AutoSeq1.wpAny_loadPart' hl
  rw[show(if(i:Int)<top then its[((i:Nat):Int).toNat]? else none)=some its[i] by simp[h1,h2]];refine wB1 (he i h1 prog w _ _ ?_);rw[hno i (nR1 i) (by lia)]
  wp_walk
  rw[show((i:Int)+1)=((i+1:Nat):Int) by push_cast;rfl];have z:=sZ (l:=l) (n:=n) (x:=x) f ht c k (i+1) (by lia) (fun m a b=>hno m (by lia) b) prog w A R _ ⟨hl,he,h⟩;exact⟨plainId_quiet plain_index_loop _,wD1 entry_index_loop (by rw[Around.under_plainId plain_index_loop _];exact z)⟩
theorem zS{l:cG}{its:Array cE}{n:Nat}{x:cE}{e:Nat->Bool}{j:Nat}(k:j<its.size)(ht:(j:Int)<2^63-1)(c:e j=true)(a:∀ m,m<j->e m=false):
  Meets (Builtin.«list.index» ⟨[.ref l,x],[]⟩)
   (fun A R s=>s.heap.get? l=some {cls:=.type "list",data:=.seq its n}/\(∀m (h:m<its.size),SeqAt.EqAt A.in1 s its[m] x (e m))/\R (.ok (.ret (.int j s.toks))) {s with toks:=s.toks+1}):=by
 intro prog w A R ⟨p,g,d,tk,q⟩ ⟨f,o,h⟩
 wp_walk using AutoSeq1.wpAny_loadPart' f
 rw[show((fun i:Int=>if i<0 then max 0 (i+(its.size:Int))else i) ((none:Option Int).getD 0))=((0:Nat):Int) by simp,show((fun i:Int=>if i<0 then max 0 (i+(its.size:Int))else i) ((none:Option Int).getD (2^63-1)))=2^63-1 by simp];have z:=sZ (l:=l) (n:=n) (x:=x) k ht c j 0 (by lia) (fun m _ b=>a m b) prog w A R _ ⟨f,o,h⟩;exact⟨plainId_quiet plain_index_loop _,wD1 entry_index_loop (by rw[Around.under_plainId plain_index_loop _];exact z)⟩
end
section
variable{X:Cx}
theorem Dc:GG X "list.extend" (fun x xs H Q=>rN X.K (b2 xg) (x::xs) H Q):=by
 intro pins s σ H x xs v q Q I k o h;obtain⟨B,y,mu,S,d,e,A,z,m,r,r2,f,a,hc⟩:=wN h;cases m;unfold xg at a;split at a
 ·rename_i n b;split at a
  ·rename_i ys zs p j;split at a
   ·rename_i l;cases a;cases r with
    |ref c=>cases r2 with
     |ref w=>
      obtain⟨vs,g,t⟩:=f.lst p c;obtain⟨ws,u,i⟩:=f.lst j w;refine wT pins s σ H _ _ v q Q I k o ⟨_,_,vs,ws,rfl,rfl,g,u,by rw[<- t.length,<- i.length];exact l,?_⟩;exact hc _ _ mu (Ext.put g trivial (gM1 c)) .non (f.putL (t.append i) c g)
   ·cases a
  ·cases a
 ·cases a
theorem yi(Z:X.A.units+64<cLine):GG X "list.index" (fun x xs H Q=>rN X.K (b2 oa) (x::xs) H Q):=by
 intro pins s σ H x xs v Y Q I R B h;obtain⟨x',y,mu,S,d,e,V,S',C,K,r2,g,a,hc⟩:=wN h;cases C;unfold oa at a;split at a
 ·rename_i n;split at a
  ·rename_i ys D;obtain⟨bs,G,a⟩:=oB1.mp a;split at a
   ·rename_i q;obtain⟨j,r,a⟩:=oM1.mp a;cases a;cases K with
    |ref M=>
     obtain⟨vs,L,t⟩:=g.lst D M;cases R;obtain⟨u,rfl,U⟩:=B.one;obtain⟨z,b,E,c,hl,e⟩:=I.lstM L;obtain⟨W,k⟩:=rq _ _ G;have l2:=t.length;have l3:=c.length;rw[bK]at r;obtain⟨N,f,l⟩:=r;have o:∀m (a:m<b.toArray.size),SeqAt.EqAt X.A.in1 s b.toArray[m] u (bs[m]?.getD false):=fun m a=>by
      have m1:m<b.length:=by simpa using a
      obtain⟨J,O,P⟩:=t.getV (i:=m) (v:=vs[m]'(by lia)) (gG1 (by lia));obtain⟨w',p,T⟩:=c.get (i:=m) (x:=vs[m]'(by lia)) (gG1 (by lia));have m2:m<bs.length:=by lia
      have w:b.toArray[m]=w':=by
       have:=gG1 m1;rw[this]at p;simpa using p
      rw[w,gG1 m2];exact(mz I g dr (A:=X.A.in1) (by show X.A.units+1+60<cLine;lia) P r2 T U (k m J bs[m] O (gG1 m2))).1
     refine call_meets F.slot_list_index ⟨_,e,rfl⟩ F.entry_list_index (F.args_list_index_2 _ _)
      (zS (n:=E) (e:=fun m=>bs[m]?.getD false) (j:=j) (by simp;lia) (by lia) ?_ ?_) ⟨e,o,?_⟩
     ·simp only[gG1 N,bL];simpa using f
     ·intro m a;have m2:m<bs.length:=by lia
      have:=l m a;simp only[gG1 m2,bL];simpa using this
     ·exact⟨.int j,H,I.tok _,⟨_,rfl⟩,hc.now (.int _) g⟩
   ·cases a
  ·cases a
 ·cases a
end
mutual
def kD:D->Option TK
 | .non=>some .non
 | .int i=>some (.int i)
 | .tup xs=>(CA xs).map .tup
 |_=>none
def CA:List D->Option (List TK)
 |[]=>some []
 |x::xs=>(kD x).bind fun k=>(CA xs).map (k :: ·)
end
def ky:D->Option TK
 | .tup xs=>(CA xs).bind fun ks=>if(TK.tup ks).dep<=8 then some (.tup ks)else none
 |_=>none
mutual
theorem HX:∀{d:D} {k:TK},kD d=some k->o4 k=d
 | .non,k,h=>by cases h;rfl
 | .int i,k,h=>by cases h;rfl
 | .tup xs,k,h=>by
  rw[kD]at h;obtain⟨ks,e,h⟩:=oM1.mp h;subst h;rw[o4,uw e]
 | .bl _,k,h=>by simp[kD]at h
 | .str _,k,h=>by simp[kD]at h
 | .rol _,k,h=>by simp[kD]at h
 | .fn _,k,h=>by simp[kD]at h
 | .ref _,k,h=>by simp[kD]at h
theorem uw:∀{ds:List D} {ks:List TK},CA ds=some ks->kW ks=ds
 |[],ks,h=>by cases h;rfl
 |x::xs,ks,h=>by
  rw[CA]at h;obtain⟨k,b,h⟩:=oB1.mp h;obtain⟨t,a,h⟩:=oM1.mp h;subst h;rw[kW,HX b,uw a]
end
theorem vM{d:D}{k:TK}(h:ky d=some k):o4 k=d/\k.dep<=8 /\ ∃xs,k = .tup xs:=by
 cases d with
 |tup xs=>
  rw[ky]at h;obtain⟨ks,e,h⟩:=oB1.mp h;split at h
  ·rename_i a;cases h;exact⟨by rw[o4,uw e],a,ks,rfl⟩
  ·cases h
 |_=>cases h
section
variable{X:Cx}{pins:List (cG×Obj)}{σ:L2.St}{H:Hp}{s:cF}{mu:List cG}
mutual
theorem vc(I:Inv X pins σ H s):∀(k:TK) {v:V} {u:cE},eD X.K H mu (o4 k) v->dn v u->eE s.heap k u
 | .non,v,u,r,q=>by
  rw[o4]at r;cases r;cases q;exact .non
 | .int i,v,u,r,q=>by
  rw[o4]at r;cases r;obtain⟨t,rfl⟩:=q;exact .int i t
 | .tup xs,v,u,r,q=>by
  rw[o4]at r;cases r with
  |tup h t=>
   cases q;obtain⟨b,e,⟨o,c,a,n,d⟩,_⟩:=I.tuple h;exact .tup c a d (by simpa using uc I xs t e)
theorem uc(I:Inv X pins σ H s):∀(ks:List TK) {vs:List V} {a:List cE},dh X.K H mu (kW ks) vs->dE vs a->eP s.heap ks a
 |[],vs,a,r,q=>by rw[kW]at r;cases r;cases q;exact .nil
 |k::ks,vs,a,r,q=>by
  rw[kW]at r;cases r with
  |cons r t=>cases q with
   |cons q p=>exact .cons (vc I k r q) (uc I ks t p)
end
theorem uk{α β γ δ:Type}{F:α->β->Prop}{G:γ->δ->Prop}{f:α->γ}{g:β->δ}:∀{d:List α} {c:List β},Paired F d c->(∀a b,F a b->G (f a) (g b))->Paired G (d.map f) (c.map g):=by
 intro a b h g
 induction h with
 |nil=>exact .nil
 |cons r t ih=>exact .cons (g _ _ r) ih
theorem ul{α β:Type}{F:α->β->Prop}:∀{j f:List α} {e i:List β},Paired F j e->Paired F f i->Paired F (j++f) (e++i):=by
 intro a b c d h g
 induction h with
 |nil=>exact g
 |cons r t ih=>exact .cons r ih
theorem KT.length{K:Fg1}:∀{ks:List (TK×D)} {ws:List (TK×cG×cE)},KT K H mu ks ws->ks.length=ws.length:=fun h=>Paired.length h
theorem KT.mem{K:Fg1}:∀{ks:List (TK×D)} {ws:List (TK×cG×cE)},KT K H mu ks ws -> ∀x∈ws,x.1.dep<=8/\eD K H mu (o4 x.1) (.ref x.2.1):=by
 intro ks ws a x h
 induction a with
 |nil=>cases h
 |cons r t ih=>
  rcases ak.mp h with e|e
  ·subst e;rw[<- r.1];exact⟨r.2.1,r.2.2.1⟩
  ·exact ih e
theorem KT.look{K:Fg1}{k:TK}:∀ {ks:List (TK×D)} {ws:List (TK×cG×cE)},KT K H mu ks ws ->
  (∀d,df ks k=some d -> ∃p v,atKey ws k=some p/\dn v p.2/\eD K H mu d v)/\(atKey ws k).isSome=(df ks k).isSome:=by
 intro ks ws h
 induction h with
 |nil=>exact⟨fun d h=>by simp[df]at h,rfl⟩
 | @cons p l ks ws r t ih=>
  obtain⟨a,c⟩:=p;obtain⟨m,e,f⟩:=l;obtain⟨z,d,q,v,g,r⟩:=r;dsimp only at z q g r;subst z;obtain⟨h1,h2⟩:=ih;by_cases b:a=k
  ·subst b;refine⟨fun d h=>?_,by simp[atKey,df]⟩;have:c=d:=by simpa[df]using h
   subst this;exact⟨(e,f),v,by simp[atKey],g,r⟩
  ·have j:df ((a,c)::ks) k=df ks k:=by simp[df,aM,b]
   have i:atKey ((a,e,f)::ws) k=atKey ws k:=by simp[atKey,aM,b]
   rw[j,i];exact⟨h1,h2⟩
theorem KT.put{K:Fg1}{k:TK}{d:D}{v:V}{a:cG}{u:cE}(hk:k.dep<=8)(l:eD K H mu (o4 k) (.ref a))(i:dn v u)(q:eD K H mu d v){ks:List (TK×D)}{ws:List (TK×cG×cE)}(h:KT K H mu ks ws):KT K H mu (fW ks k d) (storedH ws k a u):=by
 unfold fW storedH;have e:(ks.any fun p=>decide (p.1=k))=(atKey ws k).isSome:=by
  rw[h.look.2];unfold df;rw[aP,bx,List.find?_isSome,bz]
 rw[e];split
 ·clear e;refine uk h fun p w ⟨z,f,g,m,c,j⟩=>?_;unfold putAt;by_cases b:p.1=k
  ·rw[if_pos b,if_pos (by rw[<- z];exact b)];exact⟨z,f,g,v,i,q⟩
  ·rw[if_neg b,if_neg (by rw[<- z];exact b)];exact⟨z,f,g,m,c,j⟩
 ·exact ul h (.cons ⟨rfl,hk,l,v,i,q⟩ .nil)
theorem wb(I:Inv X pins σ H s){a:cG}{xs:List (TK×cG×cE)}{kvs:List (TK×D)}(e:H a=some (.ext (j8 a xs)))(h:KT X.K H mu kvs xs):(a == sysModules)=false/\s.heap.DictOfH (jr X.prog X.w) a xs:=by
 obtain⟨⟨h1,h2,o,es,ep,d,g,f,c⟩,_⟩:=(show ea X.prog X.w H s.heap a (.ext (j8 a xs))from I.hok a _ e);exact⟨h1,o,es,ep,d,g,f,c,fun x b=>⟨vc I _ (h.mem x b).2 rfl,(h.mem x b).1⟩,h2⟩
theorem v7{h:cP}{a:cG}{xs:List (TK×cG×cE)}(hd:(a == sysModules)=false)(hm:h.DictOfH (jr X.prog X.w) a xs):ea X.prog X.w H h a (.ext (j8 a xs)):=by
 obtain⟨o,es,ep,d,m,k,e,q,j⟩:=hm;refine⟨⟨hd,j,o,es,ep,d,m,k,e⟩,⟨o,d⟩,fun p r ⟨g,f,o',c,b,b3,n,l,i⟩ st=>⟨g,f,o',c,b,st _ b3,n,l,i⟩⟩
end
def m7:G2:=fun d e S=>match e with
 | .ref n=>match S[n]? with
  |some (.dcT kvs)=>(ky d).map fun k=>(.bl (df kvs k).isSome,S)
  |_=>uD d e S
 |_=>uD d e S
def eI:G2:=fun d e S=>match e with
 | .ref n=>match S[n]? with
  |some (.dcT kvs)=>(ky d).map fun k=>(.bl (!(df kvs k).isSome),S)
  |_=>g9 d e S
 |_=>g9 d e S
def c7:G2:=fun d e S=>match d with
 | .ref n=>match S[n]? with
  |some (.dcT kvs)=>(ky e).bind fun k=>(df kvs k).map fun x=>(x,S)
  |some (.dcF kvs)=>(ky e).bind fun k=>(df kvs k).map fun x=>(x,S)
  |_=>mw d e S
 |_=>mw d e S
def gb:G3:=fun o i v S=>match o with
 | .ref n=>match S[n]? with
  |some (.dcT kvs)=>(ky i).bind fun k=>if kvs.length<cN then some (.non,S.set n (.dcT (fW kvs k v)))else none
  |some (.dct [])=>match ky i with
   |some k=>some (.non,S.set n (.dcT [(k,v)]))
   |none=>jY o i v S
  |_=>jY o i v S
 |_=>jY o i v S
section
variable{X:Cx}
theorem sR{κ:Type}[DecidableEq κ](kvs:List (κ×D))(k:κ)(d:D):(fW kvs k d).length<=kvs.length+1:=by
 unfold fW;split
 ·rw[lM1];lia
 ·simp
theorem Af{h:cP}{a:cG}(c:h.DictOf (eF X.prog X.w) a []):h.DictOfH (jr X.prog X.w) a []:=by
 obtain⟨o,es,ep,h1,h2,f,_,b,_⟩:=c;have e:es.toList=[]:=by
  generalize es.toList=l at b;cases b;rfl
 exact⟨o,es,ep,h1,h2,f,e,(fun x d=>by simp at d),aW⟩
theorem lu{A:cI}(a:A.units+64<cLine):(jr X.prog X.w).room A.in1:=by
 show A.units+1+8<cLine;lia
theorem nZ{pins:List (cG×Obj)}{σ:L2.St}{H:Hp}{s:cF}{mu:List cG}(I:Inv X pins σ H s){d:D}{v:V}{u:cE}{k:TK}(r:eD X.K H mu d v)(q:dn v u)(h:ky d=some k):
  ∃a,u = .ref a/\v = .ref a/\eD X.K H mu (o4 k) (.ref a)/\k.dep<=8/\(jr X.prog X.w).is s.heap k a:=by
 obtain⟨e,b,xs,ex⟩:=vM h;subst e;have is:=vc I k r q;subst ex;cases id is with
 | @tup a _ _ _ _ _ _ _ _=>
  rw[o4]at r;cases r with
  |tup h1 h2=>
   cases q;exact⟨a,rfl,rfl,by rw[o4];exact .tup h1 h2,b,is,b⟩
theorem sE(g:X.A.units+64<cLine):gg X (compareOp .In) (r2 X.K (b2 m7)):=by
 intro pins s σ H x y u w Q I j m h;obtain⟨mu,S,d,e,r,i,o,c,f,b,hc⟩:=sj h;have back:uD d e S=some (r,i)->cO (model X.prog X.w) X.A (compareOp .In u w) (EP X pins σ Q) X.xe s:=fun b=>HA g pins s σ H x y u w Q I j m ⟨mu,S,[d,e],r,i,.cons o (.cons c .nil),f,b,hc⟩;unfold m7 at b;split at b
 ·rename_i n;split at b
  ·rename_i kvs z;obtain⟨k,A,b⟩:=oM1.mp b;cases b;cases c with
   |ref t=>
    cases m;obtain⟨xs,q,l,_⟩:=f.dcT z t;obtain⟨p,v⟩:=wb I q l;obtain⟨a,rfl,rfl,_,_,hi⟩:=nZ I o j A;refine wpAny_in_heap (lu g) hi p v ?_;exact⟨.bl (atKey xs k).isSome,H,I.tok _,rfl,by rw[l.look.2];exact hc.now (.bl _) f⟩
  ·exact back b
 ·exact back b
theorem jQ(g:X.A.units+64<cLine):gg X (compareOp .NotIn) (r2 X.K (b2 eI)):=by
 intro pins s σ H x y u w Q I j m h;obtain⟨mu,S,d,e,r,i,o,c,f,b,hc⟩:=sj h;have back:g9 d e S=some (r,i)->cO (model X.prog X.w) X.A (compareOp .NotIn u w) (EP X pins σ Q) X.xe s:=fun b=>y3 g pins s σ H x y u w Q I j m ⟨mu,S,[d,e],r,i,.cons o (.cons c .nil),f,b,hc⟩;unfold eI at b;split at b
 ·rename_i n;split at b
  ·rename_i kvs z;obtain⟨k,A,b⟩:=oM1.mp b;cases b;cases c with
   |ref t=>
    cases m;obtain⟨xs,q,l,_⟩:=f.dcT z t;obtain⟨p,v⟩:=wb I q l;obtain⟨a,rfl,rfl,_,_,hi⟩:=nZ I o j A;refine wpAny_notIn_heap (lu g) hi p v ?_;exact⟨.bl (!(atKey xs k).isSome),H,I.tok _,rfl,by rw[l.look.2];exact hc.now (.bl _) f⟩
  ·exact back b
 ·exact back b
theorem Ga{pins:List (cG×Obj)}{σ:L2.St}{H:Hp}{s:cF}{mu:List cG}(I:Inv X pins σ H s){a:cG}{xs:List (TK×cG×cE)}{kvs:List (TK×D)}(e:∃o u,H a=some (.frz o u)/\DL a xs o)(h:KT X.K H mu kvs xs):(a == sysModules)=false/\s.heap.DictOfH (jr X.prog X.w) a xs:=by
 obtain⟨o,u,e,h1,h2,g,es,ep,f,c⟩:=e;obtain⟨d,_⟩:=(show ea X.prog X.w H s.heap a (.frz o u)from I.hok a _ e);exact⟨h1,o,es,ep,d,g,f,c,fun x b=>⟨vc I _ (h.mem x b).2 rfl,(h.mem x b).1⟩,h2⟩
theorem qP(J:X.A.units+64<cLine):DG X (r2 X.K (b2 c7)):=by
 intro value c pins s σ H x y v u Q I D F h o;obtain⟨mu,S,d,e,r,C,B,m,t,f,hc⟩:=sj h;have back:mw d e S=some (r,C)->cO (model X.prog X.w) X.A (subscriptTail value c v u) (EP X pins σ Q) X.xe s:=fun f=>GN J value c pins s σ H x y v u Q I D F ⟨mu,S,[d,e],r,C,.cons B (.cons m .nil),t,f,hc⟩ o;have i:∀kvs a xs,v = .ref a->KT X.K H mu kvs xs->s.heap.DictOfH (jr X.prog X.w) a xs->((ky e).bind fun k=>(df kvs k).map fun x=>(x,S))=some (r,C)->cO (model X.prog X.w) X.A (subscriptTail value c v u) (EP X pins σ Q) X.xe s:=fun kvs a xs M l K f=>by
  obtain⟨k,O,f⟩:=oB1.mp f;obtain⟨z,P,f⟩:=oM1.mp f;cases f;subst M;obtain⟨b,rfl,rfl,_,_,hi⟩:=nZ I m F O;obtain⟨p,N,ep,L,R⟩:=l.look.1 _ P;have G:=K.typeIs;unfold subscriptTail;refine wB1 ?_;rw[getitemInPython_of_ne G.not_modules];refine wB1 (wpAny_specialOf G PySem.F.slot_dict_getitem.lookup ?_);have j:cO (model X.prog X.w) X.A (subscripted c false (.ref a) (.ref b)) (fun r g=>cO (model X.prog X.w) X.A (letTemporaryGo value (.ref a) r >>= fun _=>pure r) (EP X pins σ Q) X.xe g) X.xe s:=by
   rw[o];exact wpAny_operating (wpAny_mono (wpAny_getItem_heap (lu J) hi K ep (show EP X pins σ Q p.2 _ from⟨N,H,I.tok _,L,hc.now R t⟩)) (fun r g q=>wB1 (wpAny_letTemporaryGo (wP1 q))) fun _ _ x=>x)
  first
   |exact wP1 (wB1 j)
   |exact wB1 j
   |exact j
 unfold c7 at f;split at f
 ·rename_i n;split at f
  ·rename_i kvs w;cases B with
   | @ref _ a E=>
    cases D;obtain⟨xs,A,l,_⟩:=t.dcT w E;exact i kvs a xs rfl l (wb I A l).2 f
  ·rename_i kvs w;cases B with
   | @ref _ a E=>
    cases D;obtain⟨xs,A,l,_⟩:=(show oC X.K H mu a (.dcF kvs)from t.ob n _ a w E);exact i kvs a xs rfl l (Ga I A l).2 f
  ·exact back f
 ·exact back f
theorem kX(E:X.A.units+64<cLine):uW X (rU X.K (b3 gb)):=by
 intro pins s σ H o i v R O u Q I D C p h;obtain⟨mu,S,ds,d,P,U,j,a,hc⟩:=id h;cases U with
 |cons J W=>cases W with
  |cons M Z=>cases Z with
   |cons w V=>
    cases V;rename_i N T L;dsimp only[b3]at a;have back:jY N T L S=some (d,P)->cO (model X.prog X.w) X.A (setItem R O u) (fun _ s'=>∃H',Inv X pins σ H' s'/\Q H') X.xe s:=fun a=>Eb E pins s σ H o i v R O u Q I D C p ⟨mu,S,[N,T,L],d,P,.cons J (.cons M (.cons w .nil)),j,a,hc⟩;unfold gb at a;split at a
    ·rename_i n;split at a
     ·rename_i kvs A;obtain⟨k,K,a⟩:=oB1.mp a;split at a
      ·rename_i hl;cases a;cases J with
       | @ref _ l g=>
        cases D;obtain⟨xs,r,m,Y⟩:=j.dcT A g;obtain⟨y,G⟩:=wb I r m;obtain⟨b,rfl,rfl,rk,x,hi⟩:=nZ I M C K;refine wpAny_setItem_heap (hsz:=Y) (lu E) hi G fun h' e c=>?_;have f:∃q,h'.get? _=some q:=let ⟨q,_,_,f,_⟩:=e;⟨q,f⟩
        have put:Ext mu mu H (upd H l (.ext (j8 l (storedH xs k b u)))):=Ext.put r trivial (gM1 g);refine⟨_,kr I (by rw[r];exact True.intro) c f (v7 y e),hc _ mu put (j.put g r trivial ⟨_,dw,((m.put x rk p w).ext put),?_⟩)⟩;rw[<- (m.put x rk p w).length];have:=sR kvs k L;lia
      ·cases a
     ·rename_i A;split at a
      ·rename_i k K;cases a;cases J with
       | @ref _ l g=>
        cases D;obtain⟨ws,t,m⟩:=j.dct A g;cases m;obtain⟨z,y,vs,B,G⟩:=wa I.hok t;cases B;obtain⟨b,rfl,rfl,rk,x,hi⟩:=nZ I M C K;have F:s.heap.DictOfH (jr X.prog X.w) _ []:=Af G;refine wpAny_setItem_heap (hsz:=aR _) (lu E) hi F fun h' e c=>?_;have f:∃q,h'.get? _=some q:=let ⟨q,_,_,f,_⟩:=e;⟨q,f⟩
        have put:Ext mu mu H (upd H l (.ext (j8 l (storedH [] k b u)))):=Ext.put t trivial (gM1 g);exact⟨_,kr I (by rw[t];exact True.intro) c f (v7 y e),hc _ mu put (j.put g t trivial ⟨_,dw,KT.ext put (.cons ⟨rfl,x,rk,v,p,w⟩ .nil),(show 1<=cN by decide)⟩)⟩
      ·exact back a
     ·exact back a
    ·exact back a
end
def pW(S:Sto)(d:D):Option Bool:=match d with
 | .non=>some false
 | .bl b=>some b
 | .int i=>some (i != 0)
 | .str y=>if y.length<=cN then some ((y.length:Int) != 0)else none
 | .ref n=>match S[n]? with
  |some (.dct kvs)=>some (!kvs.isEmpty)
  |_=>(dj S d).map fun p=> !p.2.isEmpty
 |_=>(dj S d).map fun p=> !p.2.isEmpty
def mTr(m:FE):FT:=fun r S=>(m r S).bind fun p=>(pW p.2 p.1).map fun b=>(b,p.2)
section
variable{K:Fg1}{H:Hp}{mu:List cG}{S:Sto}
theorem qc{d:D}{v:V}{b:Bool}(r:eD K H mu d v)(s:Sim K H mu S)(h:((dj S d).map fun p=> !p.2.isEmpty)=some b):AL K v H b:=by
 obtain⟨⟨k,xs⟩,e,h⟩:=oM1.mp h;obtain⟨a,vs,rfl,q,t⟩:=db r s e;have z:(!xs.isEmpty) = !vs.isEmpty:=by cases t<;>rfl
 dsimp only at h;rw[z]at h;cases k
 ·exact .inr (.inl ⟨vs,q,h.symm⟩)
 ·exact .inl ⟨vs,q,h.symm⟩
theorem yb{d:D}{v:V}{b:Bool}(r:eD K H mu d v)(s:Sim K H mu S)(h:pW S d=some b):AL K v H b:=by
 cases d with
 |non=>cases r;cases h;rfl
 |bl k=>cases r;cases h;rfl
 |int i=>cases r;cases h;rfl
 |str y=>
  rw[pW]at h;split at h
  ·rename_i e;cases r;cases h;exact⟨e,rfl⟩
  ·cases h
 |tup xs=>exact qc r s h
 |rol xs=>exact qc r s h
 |fn x=>cases h
 |ref n=>
  rw[pW]at h;split at h
  ·rename_i kvs f;cases h;cases r with
   |ref c=>
    obtain⟨ws,a,g⟩:=s.dct f c;refine .inr (.inr ⟨ws,a,?_⟩);cases g<;>rfl
  ·exact qc r s h
end
theorem fg{X:Cx}{x:Expr}{f:FE}(h:XE X x f)(he:∀a,isTrue x X.env a=(do let v<-a;standAt x.pos;holding [v] (truthy v)):=by intro _;rfl):XT X x (mTr f):=
 ⟨ug (yI h.h he) <| by
  rintro σ H Q ⟨r,mu,S,b,m,he,i,c,hc⟩;obtain⟨⟨l,n⟩,g,c⟩:=oB1.mp c;obtain⟨b1,e,c⟩:=oM1.mp c;cases c;exact⟨r,mu,S,_,_,he,i,g,fun v H1 mu1 k j d=>⟨_,yb j d e,hc H1 mu1 k d⟩⟩⟩
section
variable{X:Cx}{pins:List (cG×Obj)}{σ:L2.St}{H:Hp}{s:cF}{mu:List cG}
end
section
variable{X:Cx}
def jV:List D->Option (List Int)
 |[]=>some []
 | .int i::ds=>(jV ds).map fun is=>i::is
 |_=>none
def ddI(ns:List Int):List Int:=ns.foldl step_dedup []
theorem oj:∀(ns acc:List Int),acc.Nodup->(ns.foldl step_dedup acc).Nodup
 |[],acc,h=>h
 |n::ns,acc,h=>by
  rw[bM];refine oj ns _ ?_;unfold step_dedup;split
  ·exact h
  ·rename_i f;rw[bb];refine⟨h,by simp,fun a d b c e=>?_⟩;simp at c;apply f;rw[bz];exact⟨a,d,by simp[e,c]⟩
theorem tJ(ns:List Int):firstMet (fun i=>ns.getD i 0) ns.length=ddI ns:=by
 unfold firstMet ddI
 congr 1
 apply List.ext_getElem
 ·simp
 ·intro i h1 h2;simp at h1 ⊢;rw[gG1 (by omega)];rfl
theorem pA{K:Fg1}{H:Hp}{mu:List cG}:∀{ds:List D} {vs:List V} {b:List cE} {ns:List Int},dh K H mu ds vs->dE vs b->jV ds=some ns->IntsAre b ns/\ns.length=ds.length:=by
 intro ds vs b ns j a h
 induction j using dh.ind generalizing b ns with
 |hn=>cases h;cases a;exact⟨.nil,rfl⟩
 | @hc d v ds vs r t ih=>
  cases d with
  |int i=>
   obtain⟨c,e,h⟩:=oM1.mp h;cases h;cases r;cases a with
   |cons r a=>
    obtain⟨g,f⟩:=ih a e;obtain⟨tk,rfl⟩:=r;exact⟨.cons _ _ g,by rw[lC1,lC1,f]⟩
  |_=>cases h
theorem lW(l:List Int):(fun k'=>l.any (· == k'))=fun k'=>l.contains k':=by
 funext k
 induction l with
 |nil=>rfl
 |cons x xs ih=>rw[aN,bN,ih,show(x == k)=(k == x)from Bool.beq_comm]
def rh:G1:=fun d S=>match dj S d with
 |some (true,xs)=>(jV xs).bind fun ns=>if ns.length+1<scanBound then some (.ref S.length,S++[.iset (ddI ns)])else none
 |_=>none
theorem Ip{k:Nat}(hr:fR k X.A):ei X (.type "set") (rN X.K (b1 rh)):=by
 intro pins s σ H xs K Q I r h;obtain⟨x,mu,S,d,J,L,rfl,y,l,c,hc⟩:=xC h;unfold rh at c;split at c
 ·rename_i ys A;obtain⟨ns,e,c⟩:=oB1.mp c;split at c
  ·rename_i B;cases c;obtain⟨a,vs,rfl,q,t⟩:=db y l A;cases r with
   |cons v rt=>
    cases rt;cases v;obtain⟨g,D,⟨o,n,w,j,G,p⟩,_⟩:=I.list q;obtain⟨hi,m⟩:=pA t D e;have f:g.toArray.size=ns.length:=by rw[sT1,hi.length]
    refine PySem.call_set_list (items:=g.toArray) (ns:=ns) hr.hd ⟨o,w,j,⟨n,p⟩⟩ (by simpa using hi) (by rw[f];exact B) fun h' tk i F=>?_;rw[f,tJ]at i;have E:(ddI ns).Nodup:=oj ns [] aW;have C:=lW (ddI ns);rw[C]at i;refine⟨.ref s.heap.objs.size,upd H s.heap.objs.size (.set (fun k=>(ddI ns).contains k) (ddI ns).length),I.laid (fun b u z=>F b u (hL1 z) z) (nR1 _) i,rfl,?_⟩;exact hc _ _ (mu++[s.heap.objs.size]) (Ext.new_ I.fresh) (.ref (gp l.len _)) (l.new I.fresh ⟨dw,E⟩)
  ·cases c
 ·cases c
def lK:G1:=fun d S=>match d with
 | .ref n=>match S[n]? with
  |some (.iset xs)=>some (.int xs.length,S)
  |_=>dH d S
 |_=>dH d S
theorem rG:ei X (.builtin "len") (rN X.K (b1 lK)):=by
 intro pins s σ H xs m Q I r h;obtain⟨x,mu,S,d,l,k,f,i,b,a,hc⟩:=xC h;have y:=a;unfold lK at a;split at a
 ·rename_i n;split at a
  ·rename_i ys e;cases a;subst f;cases i with
   |ref g=>
    obtain⟨u,A⟩:=b.iset e g;cases r with
    |cons q rt=>
     cases rt;cases q;have v:=I.hok _ _ u;obtain⟨o,es,ep,t,w,c,p,_,_,j,z,g⟩:=v;refine PySem.call_len_set w c p z (by unfold scanBound at j;lia) ?_;refine⟨.int es.size,H,I.tok _,⟨_,rfl⟩,?_⟩;rw[g];exact hc.now (.int _) b
  ·exact dR pins s σ H xs m Q I r (by subst f;exact⟨mu,S,[_],l,k,.cons i .nil,b,(show b1 dH [_] S=_ from a),hc⟩)
 ·exact dR pins s σ H xs m Q I r (by subst f;exact⟨mu,S,[_],l,k,.cons i .nil,b,(show b1 dH [_] S=_ from a),hc⟩)
end
@[elab_as_elim] theorem KW {P:List cE->Prop}{us:List cE}(l:us.length=0)(f:P []):P us:=by
 cases us with
 |nil=>exact f
 |cons _ _=>cases l
@[elab_as_elim] theorem Dq {P:List cE->Prop}{us:List cE}(l:us.length=1)(f:∀a,P [a]):P us:=by
 cases us with
 |nil=>cases l
 |cons a us=>exact KW (P:=fun us=>P (a::us)) (Nat.succ.inj l) (f a)
@[elab_as_elim] theorem w5 {P:List cE->Prop}{us:List cE}(l:us.length=2)(f:∀a b,P [a,b]):P us:=by
 cases us with
 |nil=>cases l
 |cons a us=>exact Dq (P:=fun us=>P (a::us)) (Nat.succ.inj l) (f a)
@[elab_as_elim] theorem Co {P:List cE->Prop}{us:List cE}(l:us.length=3)(f:∀a b c,P [a,b,c]):P us:=by
 cases us with
 |nil=>cases l
 |cons a us=>exact w5 (P:=fun us=>P (a::us)) (Nat.succ.inj l) (f a)
@[elab_as_elim] theorem IV {P:List cE->Prop}{us:List cE}(l:us.length=4)(f:∀a b c d,P [a,b,c,d]):P us:=by
 cases us with
 |nil=>cases l
 |cons a us=>exact Co (P:=fun us=>P (a::us)) (Nat.succ.inj l) (f a)
end Mi
namespace HT
open PySem PySem.Spec PyProof.Rows
variable{prog:cH}{w:cJ}{A:cI}{E:cE->cF->Prop}{s:cF}
end HT
namespace Mi
open PySem PySem.Spec PyProof.Rows L2
section
variable{X:Cx}
end
end Mi
namespace HT
open PySem PySem.Spec PyProof.Rows
section
variable{prog:cH}{w:cJ}{A:cI}{R:Result->cF->Prop}{I ax L:cG}{xs:Array cE}
end
section
variable{prog:cH}{w:cJ}{A:cI}{E:cE->cF->Prop}{s:cF}
end
end HT
namespace Mi
open PySem PySem.Spec PyProof.Rows L2
section
variable{X:Cx}
end
section
variable{elt tg iter tg2 iter2 tg3 iter3:Expr}{ifs ifs2 ifs3:List Expr}{scope:cS}{pos:Pos}
end
section
variable{X:Cx}
end
def xa(a:Int):List Int->List Int
 |[]=>[a]
 |b::l=>if a<=b then a::b::l else b::xa a l
def jf:List Int->List Int
 |[]=>[]
 |a::l=>xa a (jf l)
theorem mr(a:Int):∀l:List Int,(xa a l).Perm (a::l)
 |[]=>.refl _
 |b::l=>by
  rw[xa];split
  ·exact .refl _
  ·exact((mr a l).cons b).trans (.swap _ _ _)
theorem gh:∀l:List Int,(jf l).Perm l
 |[]=>.refl _
 |a::l=>(mr a _).trans ((gh l).cons a)
theorem vU{a:Int}:∀{l:List Int},l.Pairwise (· <= ·)->(xa a l).Pairwise (· <= ·)
 |[],_=>List.pairwise_singleton _ _
 |b::l,h=>by
  rw[bO]at h;rw[xa];split
  ·rename_i d;rw [bO,bO];exact ⟨fun x c=>by
    rcases ak.mp c with z|z
    ·lia
    ·have:=h.1 x z;lia,h.1,h.2⟩
  ·rename_i d;rw[bO];refine⟨fun x c=>?_,vU h.2⟩;rcases ak.mp ((mr a l).mem_iff.mp c)with z|z
   ·lia
   ·exact h.1 x z
theorem nC:∀l:List Int,(jf l).Pairwise (· <= ·)
 |[]=>.nil
 |a::l=>vU (nC l)
theorem qk:∀{a b:List Int},a.Perm b->a.Pairwise (· <= ·)->b.Pairwise (· <= ·)->a=b
 |[],b,p,_,_=>(List.nil_perm.mp p).symm
 |x::a,[],p,_,_=>absurd p.length_eq (by simp)
 |x::a,y::b,p,h1,h2=>by
  rw[bO]at h1 h2;have e:x=y:=by
   have d:=p.mem_iff.mp (mS1 (a:=x) (l:=a));have f:=p.mem_iff.mpr (mS1 (a:=y) (l:=b));rcases ak.mp d with z|z
   ·exact z
   ·rcases ak.mp f with c|c
    ·exact c.symm
    ·have:=h2.1 x z;have:=h1.1 y c;lia
  subst e;rw[qk (List.perm_cons x |>.mp p) h1.2 h2.2]
def jW:List D->Option (List Int)
 |[]=>some []
 | .int i::l=>(jW l).map fun t=>i::t
 |_=>none
section
variable{X:Cx}
theorem mq{K:Fg1}{H:Hp}{mu:List cG}:∀{ds:List D} {vs:List V} {a:List cE} {ns:List Int},dh K H mu ds vs->dE vs a->jW ds=some ns->IntsAre a ns:=by
 intro ds
 induction ds with
 |nil=>intro vs a ns r v h;cases r;cases v;cases h;exact .nil
 |cons d ds ih=>
  intro vs a ns r v h;cases r with
  |cons b t=>
   cases v with
   |cons c f=>
    cases b
    case int i=>
     obtain⟨m,e,h⟩:=oM1.mp h;subst h;obtain⟨tk,rfl⟩:=c;exact .cons i tk (ih t f e)
    all_goals cases h
theorem pz:∀{us:List cE} {ns:List Int},IntsAre us ns->dE (ns.map V.int) us:=by
 intro us ns h
 induction h with
 |nil=>exact .nil
 |cons i t _ ih=>exact .cons ⟨t,rfl⟩ ih
theorem pB:∀{ds:List D} {ns:List Int},jW ds=some ns->ns.length=ds.length:=by
 intro ds
 induction ds with
 |nil=>intro ns h;cases h;rfl
 |cons d ds ih=>
  intro ns h;cases d with
  |int i=>
   obtain⟨m,e,h⟩:=oM1.mp h;subst h;rw[lC1,lC1,ih e]
  |_=>cases h
end
end Mi
namespace Mi
open PySem PySem.Spec PyProof.Rows L2
section
variable{X:Cx}
end
theorem l6(n:Nat):∀ns:List Int,D.unds n (ns.map D.int)=true
 |[]=>rfl
 |_::ns=>by rw[mP1,D.unds,l6 n ns];rfl
theorem CG{n:Nat}{d:D}{S:Sto}(h:S.length=n):gc n (d,S)=(d,S):=by
 unfold gc;split
 ·rw[show(d,S).2=S from rfl,<- h,bF]
 ·rfl
theorem xr{n:Nat}{f:FN}{ds:List D}{S S1:Sto}{d:D}(h:f ds []=some (d,S1))(hn:ds.length=n)(a:D.unds 0 ds=true)(hd:d.und 0=true):cY n f ds S=some (d,S):=by
 unfold cY pM;rw[if_pos hn,if_pos a,h,oP1,if_pos hd]
theorem oq{n:Nat}{f:FN}{ds:List D}{S S1:Sto}{d:D}(h:f ds []=some (d,S1))(hn:ds.length=n)(a:D.unds 0 ds=true)(hd:d.und 0=false):cY n f ds S=some (d.sh S.length,S++S1.map (Ob.sh S.length)):=by
 unfold cY pM;rw[if_pos hn,if_pos a,h,oP1,if_neg (by dsimp only;rw[hd];decide)]
theorem pJ{n:Nat}{f:FN}{ds:List D}{S S1:Sto}{d:D}(h:f ds S=some (d,S1))(hn:ds.length=n)(a:D.unds 0 ds=false):cY n f ds S=some (gc S.length (d,S1)):=by
 unfold cY pM;rw[if_pos hn,if_neg (by rw[a];decide),h,oP1]
theorem xv{n:Nat}{f:FN}{ds:List D}{S S1:Sto}{d:D}(h:f ds S=some (d,S1))(hn:ds.length=n)(a:D.unds 0 ds=false)(b:S1.length=S.length):cY n f ds S=some (d,S1):=by
 rw[pJ h hn a,CG b]
theorem sJ{i j:Int}(h1: -(2^64)<i)(h2:i<2^64):d9 i j=true:=by
 unfold d9;simp only[bv,bA1,decide_eq_true_eq];exact .inl (.inl ⟨h1,h2⟩)
theorem vz{i j:Int}(h1: -(2^64)<j)(h2:j<2^64):d9 i j=true:=by
 unfold d9;simp only[bv,bA1,decide_eq_true_eq];exact .inl (.inr ⟨h1,h2⟩)
theorem d3{S:Sto}{n:Nat}{xs:List D}(h:S[n]?=some (.lst xs)):oS S [(n,xs)]=true:=by
 rw[oS,h];simp[D.sames_refl,oS]
def kw(n:Nat):Nat->List D
 |0=>[]
 |k+1=>.ref n::kw (n+1) k
theorem sM:∀{n:Nat} {lo:Int} {d:D},d∈gP lo n -> ∃k:Int,d = .int k/\lo<=k/\k<lo+n
 |0,lo,d,h=>by simp[gP]at h
 |n+1,lo,d,h=>by
  rw[gP]at h;rcases ak.mp h with h|h
  ·exact⟨lo,h,Int.le_refl _,by lia⟩
  ·obtain⟨k,e,h1,h2⟩:=sM h;exact⟨k,e,by lia,by lia⟩
open Classical in
def rkV(ws:List cE)(x:cE):Nat:=ws.findIdx fun y=>decide (y=x)
theorem Eg{ws:List cE}{x:cE}(h:x∈ws):ws[rkV ws x]?=some x:=by
 have a:rkV ws x<ws.length:=List.findIdx_lt_length_of_exists ⟨x,h,by simp⟩;rw[gG1 a];have:=List.findIdx_getElem (w:=a);have e:ws[rkV ws x]=x:=of_decide_eq_true this;rw[e]
def kR(ws:List cE)(xs:Array Keyed)(i:Nat):Nat:=(xs[i]?.map fun p=>rkV ws p.1).getD 0
theorem lH{ws:List cE}{xs ys:Array Keyed}{i j:Nat}(h:xs[i]?=ys[j]?):kR ws xs i=kR ws ys j:=by unfold kR;rw[h]
def Up(ws:List cE)(xs:Array Keyed)(k:Nat):Prop:=∀i j,i<j->j<k->kR ws xs i<kR ws xs j
def Dn(ws:List cE)(xs:Array Keyed)(k:Nat):Prop:=∀i j,i<j->j<k->kR ws xs j<kR ws xs i
structure SoB (κ:SortKind)(a₀:Array Keyed)(st:SortSt):Prop where
 perm:(arrOf st).Perm a₀
 kind:kindOf st=κ
 failed:failedOf st=none
 pend:pendingOf st = #[]
theorem SoB.arr{κ:SortKind}{a₀:Array Keyed}{st:SortSt}(b:SoB κ a₀ st){xs:Array Keyed}(p:xs.Perm (arrOf st)):SoB κ a₀ (setArr st xs):=⟨p.trans b.perm,b.kind,b.failed,b.pend⟩
structure wv (prog:cH)(w:cJ)(A:cI)(s:cF)(κ:SortKind)(ws:List cE)(a₀:Array Keyed):Prop where
 nd:ws.Nodup
 keys:(a₀.toList.map (·.1)).Perm ws
 lt:∀(x y:cE) (i j:Nat),ws[i]?=some x->ws[j]?=some y->i≠j -> ∀(E:cE->cF->Prop) (Q:Bool->cF->Prop),Q (decide (i<j)) s->cO (model prog w) A (keyLt' κ x y) Q E s
section
variable{prog:cH}{w:cJ}{A:cI}{E:cE->cF->Prop}{s:cF}{κ:SortKind}{ws:List cE}{a₀:Array Keyed}
theorem wv.at_(C:wv prog w A s κ ws a₀){xs:Array Keyed}(p:xs.Perm a₀){i:Nat}(hi:i<a₀.size):∃x q,xs[i]?=some (x,q)/\ws[kR ws xs i]?=some x:=by
 have a:i<xs.size:=by rw[p.size_eq];exact hi
 refine⟨xs[i].1,xs[i].2,aG1 a,?_⟩;have b:xs[i]∈a₀.toList:=(bP.mp p).mem_iff.mp (by simp);have:=Eg (C.keys.mem_iff.mp (bQ.mpr ⟨_,b,rfl⟩));unfold kR;rw[aG1 a];exact this
theorem wv.inj(C:wv prog w A s κ ws a₀){xs:Array Keyed}(p:xs.Perm a₀){i j:Nat}(hi:i<a₀.size)(f:j<a₀.size)(h:kR ws xs i=kR ws xs j):i=j:=by
 obtain⟨x,q,e,b⟩:=C.at_ p hi;obtain⟨y,r,c,g⟩:=C.at_ p f;rw[h,g]at b;cases b;have d:(xs.toList.map (·.1)).Nodup:=(((bP.mp p).map (·.1)).trans C.keys).nodup_iff.mpr C.nd;have a:(xs.toList.map (·.1))[i]?=some x:=by rw[gP1,aT1,e];rfl
 have k:(xs.toList.map (·.1))[j]?=some x:=by rw[gP1,aT1,c];rfl
 exact(List.getElem?_inj (gE1.mp a).1 d).mp (a.trans k.symm)
theorem wv.cmp(C:wv prog w A s κ ws a₀){st:SortSt}{i j:Nat}{Q:Option Bool->SortSt->Prop}(b:SoB κ a₀ st)(hi:i<a₀.size)(d:j<a₀.size)(c:i≠j)(h:Q (some (decide (kR ws (arrOf st) i<kR ws (arrOf st) j))) st):wpS (model prog w) A E s (ltAt' i j) Q st:=by
 obtain⟨x,q,f,g⟩:=C.at_ b.perm hi;obtain⟨y,r,e,k⟩:=C.at_ b.perm d;have a:kR ws (arrOf st) i≠kR ws (arrOf st) j:=fun z=>c (C.inj b.perm hi d z);rw[ltAt'_eq];refine wpS_bind (wpS_get ?_);show wpS _ _ _ _ (do let x<-elem' (arrOf st) i;let y<-elem' (arrOf st) j;lt' x y) Q st;rw[elem'_eq,elem'_eq,f,e];refine wpS_bind (wpS_pure (wpS_bind (wpS_pure ?_)));rw[lt'_eq];refine wpS_bind (wpS_get ?_);rw[b.kind];exact wpS_bind (wpS_lift (wpAny_attempt (C.lt x y _ _ g k a _ _ ⟨rfl,wpS_pure h⟩)))
theorem Up.one{xs:Array Keyed}:Up ws xs 1:=fun i j h1 h2=>by lia
theorem Up.snoc{xs:Array Keyed}{n:Nat}(u:Up ws xs n)(h:n=0\/kR ws xs (n-1)<kR ws xs n):Up ws xs (n+1):=fun i j h1 h2=>by
 by_cases z:j<n
 ·exact u i j h1 z
 ·have a:j=n:=by lia
  subst a;rcases h with h|h
  ·lia
  ·by_cases b:i=j-1
   ·rw[b];exact h
   ·exact aQ (u i (j-1) (by lia) (by lia)) h
theorem Dn.snoc{xs:Array Keyed}{n:Nat}(u:Dn ws xs n)(h:kR ws xs n<kR ws xs (n-1)):Dn ws xs (n+1):=fun i j h1 h2=>by
 by_cases z:j<n
 ·exact u i j h1 z
 ·have a:j=n:=by lia
  subst a;by_cases b:i=j-1
  ·rw[b];exact h
  ·exact aQ h (u i (j-1) (by lia) (by lia))
theorem yt(C:wv prog w A s κ ws a₀){st:SortSt}{a d:Nat}{Q:AscSt->SortSt->Prop}(hn:d<=a₀.size)(ha:1<=a)(i:a<=d)(b:SoB κ a₀ st)(u:Up ws (arrOf st) a)(h:∀n,a<=n->n<=d->Up ws (arrOf st) n->(n=d\/kR ws (arrOf st) n<kR ws (arrOf st) (n-1))->Q (none,n) st):wpS (model prog w) A E s (ascLoop a d) Q st:=by
 unfold ascLoop;refine wpS_forRange (fun x c f=>f=st/\c=(none,x)/\Up ws (arrOf st) x) ?_ ?_ ⟨rfl,rfl,u⟩
 ·rintro x c f h1 h2 ⟨rfl,rfl,g⟩;refine wpS_bind (C.cmp b (by lia) (by lia) (by lia) ?_);by_cases z:kR ws (arrOf f) x<kR ws (arrOf f) (x-1)
  ·simp only[z,decide_true,if_true];exact wpS_pure (h x h1 (by lia) g (.inr z))
  ·simp only[z,decide_false,bF1,if_false];have:kR ws (arrOf f) x≠kR ws (arrOf f) (x-1):=fun e=>by have:=C.inj b.perm (by lia) (by lia) e;lia
   exact wpS_pure ⟨rfl,rfl,g.snoc (.inr (by lia))⟩
 ·rintro c f ⟨rfl,rfl,g⟩;rw[Nat.max_eq_right i]at g ⊢;exact h d i (nR1 _) g (.inl rfl)
theorem Bg(C:wv prog w A s κ ws a₀){st:SortSt}{n a:Nat}{Q:Option Nat->SortSt->Prop}(hn:a<=a₀.size)(h1:1<=n)(e:n<=a)(b:SoB κ a₀ st)(d:Dn ws (arrOf st) n)(h:∀m c,SoB κ a₀ c->m<=a->Up ws (arrOf c) m->Q (some m) c):wpS (model prog w) A E s (tail3 n a) Q st:=by
 unfold tail3;have f:n<=(arrOf st).size:=by rw[b.perm.size_eq];lia
 have o:SoB κ a₀ (setArr st (mirror (arrOf st) 0 n ((n-0)/2))):=b.arr (mirror_perm _ _ _ _);refine wpS_bind (wpS_reverse (wpS_bind (yt C hn h1 e o (fun i j p l=>?_) fun m p l u _=>wpS_pure (h m _ o l u))));have g:∀k,k<n->kR ws (mirror (arrOf st) 0 n ((n-0)/2)) k=kR ws (arrOf st) (n-1-k):=fun k q=>lH (by
  rw[getElem?_mirror_all f,if_pos (by lia)]
  congr 1;lia)
 show kR ws (mirror (arrOf st) 0 n ((n-0)/2)) i<kR ws (mirror (arrOf st) 0 n ((n-0)/2)) j;rw[g i (by lia),g j l];exact d _ _ (by lia) (by lia)
theorem Bi(C:wv prog w A s κ ws a₀){st:SortSt}{n f:Nat}{Q:DescSt->SortSt->Prop}(hn:f<=a₀.size)(h1:1<=n)(i:n<=f)(b:SoB κ a₀ st)(d:Dn ws (arrOf st) n)(h:∀m,n<=m->m<=f->Dn ws (arrOf st) m->Q (none,m,0) st):wpS (model prog w) A E s (descLoop n f) Q st:=by
 unfold descLoop;refine wpS_forRange (fun x c a=>a=st/\c=(none,x,0)/\Dn ws (arrOf st) x) ?_ ?_ ⟨rfl,rfl,d⟩
 ·rintro x c a h2 k ⟨rfl,rfl,g⟩;dsimp only;refine wpS_bind (C.cmp b (by lia) (by lia) (by lia) ?_);by_cases z:kR ws (arrOf a) x<kR ws (arrOf a) (x-1)
  ·simp only[z,decide_true,if_true];exact wpS_pure ⟨rfl,rfl,g.snoc z⟩
  ·simp only [z,decide_false,bF1,if_false];have j:kR ws (arrOf a) (x-1)<kR ws (arrOf a) x:=by
    have:kR ws (arrOf a) x≠kR ws (arrOf a) (x-1):=fun e=>by have:=C.inj b.perm (by lia) (by lia) e;lia
    lia
   refine wpS_bind (C.cmp b (by lia) (by lia) (by lia) ?_);simp only[j,decide_true,if_true];exact wpS_pure (h x h2 (by lia) g)
 ·rintro c a ⟨rfl,rfl,g⟩;rw[Nat.max_eq_right i]at g ⊢;exact h f i (nR1 _) g
theorem D0(C:wv prog w A s κ ws a₀){st:SortSt}{a:Nat}{Q:Option Nat->SortSt->Prop}(hn:a<=a₀.size)(h1:1<=a)(b:SoB κ a₀ st)(h:∀m c,SoB κ a₀ c->m<=a->Up ws (arrOf c) m->Q (some m) c):wpS (model prog w) A E s (countRun' 0 a) Q st:=by
 rw[countRun0_eq];refine wpS_bind (yt C hn (nR1 1) h1 b .one fun n h2 f u or=>?_);dsimp only;by_cases z:n=a
 ·rw[if_pos (by simpa using z)];exact wpS_pure (h n st b f u)
 ·rw[if_neg (by simpa using z)];have l:=or.resolve_left z;by_cases k:n>1
  ·rw[if_pos k];have:=u 0 (n-1) (by lia) (by lia);refine wpS_bind (C.cmp b (by lia) (by lia) (by lia) ?_);simp only[this,decide_true,if_true];exact wpS_pure (h n st b f u)
  ·rw[if_neg k];have e:n=1:=by lia
   subst e;unfold descPart;refine wpS_bind (wpS_lift (wpAny_rule ⟨rfl,?_⟩));refine wpS_bind (Bi C hn (by lia) (by lia) b (fun i j q g=>?_) fun m q g d=>?_)
   ·have o:i=0:=by lia
    have p:j=1:=by lia
    subst o;subst p;exact l
   ·dsimp only;rw[if_neg (by lia)];exact Bg C hn (by lia) g b d h
theorem D2(C:wv prog w A s κ ws a₀){st:SortSt}{n ok:Nat}{Q:Bool->SortSt->Prop}(hn:n<=a₀.size)(H:ok<=n)(b:SoB κ a₀ st)(u:Up ws (arrOf st) ok)(h:∀a,SoB κ a₀ a->Up ws (arrOf a) n->Q true a):wpS (model prog w) A E s (binarySort' 0 n ok) Q st:=by
 rw[binarySort'_eq];simp only[bu];refine wpS_bind (wpS_mono (wpS_forRange (fun k c a=>c=(none,())/\SoB κ a₀ a/\Up ws (arrOf a) (min k n)) (Q:=fun c a=>c=(none,())/\SoB κ a₀ a/\Up ws (arrOf a) n) ?_ ?_ ⟨rfl,b,fun i j h1 h2=>?_⟩) ?_)
 ·rintro k c a J G ⟨rfl,m,f⟩;rw[bc (by lia)]at f;have y:k<(arrOf a).size:=by rw[m.perm.size_eq];lia
  refine wpS_bind (wpS_mono (wpS_forRange (fun x c d=>d=a /\ ∃l r,c=(none,l,r)/\l<=r/\r<=k/\r-l<=k-x/\(∀i,i<l->kR ws (arrOf a) i<kR ws (arrOf a) k) /\ ∀i,r<=i->i<k->kR ws (arrOf a) k<kR ws (arrOf a) i)
   (Q:=fun c d=>d=a /\ ∃l r,c=(none,l,r)/\l<=k/\(∀i,i<l->kR ws (arrOf a) i<kR ws (arrOf a) k) /\ ∀i,l<=i->i<k->kR ws (arrOf a) k<kR ws (arrOf a) i) ?_ ?_ ⟨rfl,0,k,rfl,by lia,by lia,by lia,fun i h1=>by lia,fun i h1 h2=>by lia⟩) ?_)
  ·rintro x c d _ K ⟨rfl,l,r,rfl,h1,h2,t,p,q⟩;dsimp only;by_cases z:l>=r
   ·rw[if_pos z];have e:l=r:=by lia
    subst e;exact wpS_pure ⟨rfl,l,l,rfl,h2,p,q⟩
   ·rw[if_neg z];refine wpS_bind (C.cmp m (by lia) (by lia) (by lia) ?_);by_cases o:kR ws (arrOf d) k<kR ws (arrOf d) ((l+r)/2)
    ·simp only[o,decide_true,if_true];refine wpS_pure ⟨rfl,l,(l+r)/2,rfl,by lia,by lia,by lia,p,fun i F I=>?_⟩;by_cases v:(l+r)/2=i
     ·rw[<- v];exact o
     ·exact aQ o (f _ i (by lia) I)
    ·simp only [o,decide_false,bF1,if_false];refine wpS_pure ⟨rfl,(l+r)/2+1,r,rfl,by lia,by lia,by lia,fun i F=>?_,q⟩;have B:kR ws (arrOf d) ((l+r)/2)<kR ws (arrOf d) k:=by
      have:kR ws (arrOf d) k≠kR ws (arrOf d) ((l+r)/2):=fun e=>by have:=C.inj m.perm (by lia) (by lia) e;lia
      lia
     by_cases v:i=(l+r)/2
     ·rw[v];exact B
     ·exact aQ (f i _ (by lia) (by lia)) B
  ·rintro c d ⟨rfl,l,r,rfl,h1,h2,t,p,q⟩;have e:l=r:=by lia
   subst e;exact⟨rfl,l,l,rfl,h2,p,q⟩
  ·rintro c d ⟨rfl,l,r,rfl,h1,h2,t⟩;show wpS _ _ _ _ (do moveDown' k l;pure (ForInStep.yield (none,()))) _ _;rw [moveDown'_eq];refine wpS_bind (wpS_modify (wpS_pure ⟨rfl,m.arr (bubble_perm _ _ _),?_⟩));rw [bc (by lia)];have g:∀ i,kR ws (bubble (arrOf d) k (k-l)) i=if i=l then kR ws (arrOf d) k else if l<i/\i<=k then kR ws (arrOf d) (i-1) else kR ws (arrOf d) i:=fun i=>by
    have e:=getElem?_bubble y (k-l) (by lia) i;rw[show k-(k-l)=l by lia]at e;by_cases D:i=l
    ·rw[if_pos D]at e ⊢;exact lH e
    ·rw[if_neg D]at e ⊢;by_cases o:l<i/\i<=k
     ·rw[if_pos o]at e ⊢;exact lH e
     ·rw[if_neg o]at e ⊢;exact lH e
   intro i j p q;show kR ws (bubble (arrOf d) k (k-l)) i<kR ws (bubble (arrOf d) k (k-l)) j;rw[g,g]
   repeat' split
   all_goals first
    |(exfalso;lia)
    |exact h2 _ (by lia)
    |exact t _ (by lia) (by lia)
    |exact f _ _ (by lia) (by lia)
 ·rintro c a ⟨hc,m,f⟩;refine⟨hc,m,?_⟩
  rwa [show min (max (max ok 1) n) n=n by lia]at f
 ·by_cases z:ok=0
  ·lia
  ·exact u i j h1 (by lia)
 ·rintro c a ⟨rfl,m,f⟩;exact wpS_pure (h a m f)
theorem D3(C:wv prog w A s κ ws a₀){st:SortSt}{Q:Unit->SortSt->Prop}(b:SoB κ a₀ st)(h2:2<=a₀.size)(j:a₀.size<64)(h:∀a,(arrOf a).Perm a₀->failedOf a=none->Up ws (arrOf a) a₀.size->Q () a):wpS (model prog w) A E s sortRuns' Q st:=by
 rw[sortRuns'_eq];refine wpS_bind (wpS_get ?_);dsimp only;have k:minRun' a₀.size a₀.size 0=a₀.size:=by
  generalize u:a₀.size=z at *
  cases z with
  |zero=>lia
  |succ f=>rw[minRun'_succ,if_pos j]
 simp only[b.perm.size_eq,k];have done:∀a,SoB κ a₀ a->Up ws (arrOf a) a₀.size->(arrOf (setPending a ((pendingOf a).push (0,a₀.size,0)))).Perm a₀/\failedOf (setPending a ((pendingOf a).push (0,a₀.size,0)))=none/\pendingOf (setPending a ((pendingOf a).push (0,a₀.size,0))) = #[(0,a₀.size,0)]/\Up ws (arrOf (setPending a ((pendingOf a).push (0,a₀.size,0)))) a₀.size:=fun a g p=>
  ⟨g.perm,g.failed,by show(pendingOf a).push _=_;rw[g.pend];rfl,p⟩
 refine wpS_bind (wpS_mono (wpS_forRange
  (fun x c a=>(x=0/\c=(none,0)/\SoB κ a₀ a)\/(1<=x/\c=(none,a₀.size)/\(arrOf a).Perm a₀/\failedOf a=none/\pendingOf a = #[(0,a₀.size,0)]/\Up ws (arrOf a) a₀.size))
  (Q:=fun c a=>c=(none,a₀.size)/\(arrOf a).Perm a₀/\failedOf a=none/\pendingOf a = #[(0,a₀.size,0)]/\Up ws (arrOf a) a₀.size) ?_ ?_ (.inl ⟨rfl,rfl,b⟩)) ?_)
 ·rintro x c a _ o (⟨rfl,rfl,g⟩|⟨t,rfl,D⟩)
  ·dsimp only;rw[if_neg (by lia)];simp only[Nat.sub_zero,Nat.min_self,bu];refine wpS_bind (D0 C (nR1 _) (by lia) g fun m d b2 n l=>?_);dsimp only;by_cases z:m<a₀.size
   ·rw[if_pos z];refine wpS_bind (wpS_lift (wpAny_rule ⟨rfl,?_⟩));refine wpS_bind (D2 C (nR1 _) n b2 l fun i b3 q=>?_);simp only[bJ,bF1,if_false];refine wpS_bind (wpS_get ?_);rw[b3.pend];exact wpS_bind (wpS_modify (wpS_pure (.inr ⟨by lia,rfl,done i b3 q⟩)))
   ·rw[if_neg z];have e:m=a₀.size:=by lia
    subst e;refine wpS_bind (wpS_get ?_);rw[b2.pend];exact wpS_bind (wpS_modify (wpS_pure (.inr ⟨by lia,rfl,done d b2 l⟩)))
  ·dsimp only;rw[if_pos (nR1 _)];exact wpS_pure ⟨rfl,D⟩
 ·rintro c a (⟨o,_⟩|⟨_,hc,D⟩)
  ·lia
  ·exact⟨hc,D⟩
 ·rintro c a ⟨rfl,D⟩;dsimp only;refine wpS_bind (wpS_mono (wpS_forRange (fun _ c d=>d=a/\c=(none,())) (Q:=fun c d=>d=a/\c=(none,())) ?_ (fun _ _ r=>r) ⟨rfl,rfl⟩) ?_)
  ·rintro x c d _ _ ⟨rfl,rfl⟩;refine wpS_bind (wpS_get ?_);rw[if_pos (by rw[D.2.2.1];exact nR1 1)];exact wpS_pure ⟨rfl,rfl⟩
  ·rintro c d ⟨rfl,rfl⟩;exact wpS_pure (h _ D.1 D.2.1 D.2.2.2)
theorem D1(C:wv prog w A s κ ws (pairsOf vs)){xs:Array Keyed}(p:xs.Perm (pairsOf vs))(u:Up ws xs (pairsOf vs).size):xs.map (·.2)=ws.toArray:=by
 have k:ws.length=(pairsOf vs).size:=by rw[<- C.keys.length_eq,lM1];simp
 have b:∀i,i<(pairsOf vs).size->i<=kR ws xs i:=by
  intro i
  induction i with
  |zero=>intro _;lia
  |succ i ih=>intro h;have:=ih (by lia);have:=u i (i+1) (by lia) h;lia
 have a:∀d i,i+d+1=(pairsOf vs).size->kR ws xs i<=i:=by
  intro d
  induction d with
  |zero=>
   intro i h;obtain⟨x,q,_,f⟩:=C.at_ p (i:=i) (by lia);have:=(gE1.mp f).1;lia
  |succ d ih=>
   intro i h;have:=ih (i+1) (by lia);have:=u i (i+1) (by lia) (by lia);lia
 apply Array.ext
 ·rw[bR,p.size_eq,<- k];simp
 ·intro i h1 h2;rw[bR,p.size_eq]at h1;have m:kR ws xs i=i:=Nat.le_antisymm (a ((pairsOf vs).size-1-i) i (by lia)) (b i h1);obtain⟨x,q,e,f⟩:=C.at_ p h1;rw[m]at f;have g:(x,q)∈(pairsOf vs).toList:=(bP.mp p).mem_iff.mp (Array.mem_toList_iff.mpr (Array.mem_of_getElem? e));rw[pairsOf_toList]at g;have l:x=q:=(mem_zip_self g).1;have c:(xs.map (·.2))[i]?=some q:=by rw[Array.getElem?_map,e];rfl
  have j:ws.toArray[i]?=some x:=by rw[List.getElem?_toArray];exact f
  rw[aG1 (by rw[bR,p.size_eq];exact h1)]at c;rw[aG1 h2]at j;rw[Option.some.inj c,Option.some.inj j,l]
end
section
variable{prog:cH}{w:cJ}{A:cI}{E:cE->cF->Prop}{s:cF}
theorem qS(f:Bool)(x y:cE):keyLt' (tuples' f) x y=(do
  let xs<-Builtin.List.listItems x
  let ys<-Builtin.List.listItems y
  for ((p,q),i) in (xs.toList.zip ys.toList).zipIdx do
   if !(<- eqBool p q)then return<-oneLt' (f&&i == 0) p q
  return decide (xs.size<ys.size)):=rfl
theorem qL{M:Model}{α β:Type}{f:α->Sem β}{P:α->β->Prop}:∀ {l:List α} {Q:List β->cF->Prop},(∀ v∈l,∃ r,P v r /\ ∀ Q:β->cF->Prop,Q r s->cO M A (f v) Q E s) ->
  (∀a,a.length=l.length->(∀r∈a,∃v∈l,P v r)->Q a s)->cO M A (l.mapM f) Q E s
 |[],Q,_,q=>by rw[List.mapM_nil];exact wP1 (q [] rfl fun r b=>by cases b)
 |v::l,Q,h,q=>by
  rw[List.mapM_cons];obtain⟨r,p,b⟩:=h v mS1;refine wB1 (b _ ?_);refine wB1 (qL (fun v i=>h v (mC1 _ i)) fun a e c=>?_);refine wP1 (q (r::a) (by rw[lC1,lC1,e]) fun x d=>?_);rcases ak.mp d with z|z
  ·exact⟨v,mS1,by rw[z];exact p⟩
  ·obtain⟨g,h1,h2⟩:=c x z;exact⟨g,mC1 _ h1,h2⟩
theorem Aa(v:cE):firstOfTuple' v=(do
  if(<- typeOf v) != .type "tuple" then return none
  return (<- Builtin.List.listItems v)[0]?):=rfl
theorem Bh {a:cG}{vs ws:List cE}{n:Nat}{κ:SortKind}{P:Fin->cF->Prop}(ho:s.heap.get? a=some (seqObj "list" vs.toArray n))(k:vs.length<64)(hp:vs.Perm ws)
  (l:∀h',(∀b o,b≠a->s.heap.get? b=some o->h'.get? b=some o)->2<=vs.length->wv prog w A {s with heap:=h'} κ ws (pairsOf vs) /\ ∀Q:SortKind->cF->Prop,Q κ {s with heap:=h'}->cO (model prog w) A (keyKind' vs.toArray) Q E {s with heap:=h'})
  (h:P (.done (.ret .none)) {s with heap:=sortedHeap s.heap a vs ws.toArray}):cO (model prog w) A (Builtin.«list.sort» ⟨[.ref a],[]⟩) P E s:=by
 rw[list_sort_plain];have z:a<s.heap.objs.size:=hL1 ho;refine wB1 (listItems_at ho rfl ?_);refine wB1 (listUpdate_at ho rfl ?_);obtain⟨j,i⟩:∃j,(s.heap.update a (Obj.mapSeq fun _=> #[])).get? a=some (seqObj "list" #[] j):=⟨_,get?_update_seq ho (fun _=> #[])⟩;refine wB1 (seqEpoch_at i rfl (wB1 (wpAny_newTuple (wB1 (wpAny_newList (wpAny_holding ?_))))));have keep:∀b o,b≠a->s.heap.get? b=some o->(((s.heap.update a (Obj.mapSeq fun _=> #[])).push (seqObj "tuple" vs.toArray 0)).push (seqObj "list" #[] 0)).get? b=some o:=fun b o u e=>
  hP1 _ (hP1 _ (by rw[hU1 _ _ _ _ u];exact e))
 have d:(((s.heap.update a (Obj.mapSeq fun _=> #[])).push (seqObj "tuple" vs.toArray 0)).push (seqObj "list" #[] 0)).get? a=some (seqObj "list" #[] j):=hP1 _ (hP1 _ i);show cO (model prog w) A _ P E {s with heap:=((s.heap.update a (Obj.mapSeq fun _=> #[])).push (seqObj "tuple" vs.toArray 0)).push (seqObj "list" #[] 0)};dsimp only;have v:vs.toArray.size=vs.length:=by simp
 have f:=hp.length_eq;have g:∀xs:Array Keyed,xs.map (·.2)=ws.toArray->P (.done (.ret .none)) {s with heap:=sortedHeap s.heap a vs (xs.map (·.2))}:=fun xs e=>by rw[e];exact h
 by_cases h2:vs.toArray.size<2
 ·rw [if_pos h2,if_pos h2];refine wB1 (wP1 ?_);rw [StateT.run_pure];refine wB1 (wP1 (wB1 (seqEpoch_at d rfl ?_)));have e:((vs.toArray.zip vs.toArray).map (·.2):Array cE)=ws.toArray:=by
   have:vs=ws:=by
    match vs,ws,hp,h2 with
    |[],ws,hp,_=>exact(List.nil_perm.mp hp).symm
    |[x],ws,hp,_=>exact(List.singleton_perm.mp hp).symm ▸ rfl
    |_::_::_,_,_,h2=>simp at h2;lia
   subst this;apply Array.ext';simp;exact List.map_snd_zip (nR1 _)
  refine wB1 (listUpdate_at d rfl ?_ (hsz2:=by
   show(Array.map (·.2) (vs.toArray.zip vs.toArray)).size<=_;rw[e,sT1,<- f,sizeLine_eq];lia))
  simp only[bne_self_eq_false,bF1,if_false];exact wP1 (g _ e)
 ·rw [if_neg h2,if_neg h2];obtain ⟨C,K⟩:=l _ keep (by lia);refine wB1 (K _ ?_);refine wB1 (wpAny_mono (D3 C (st:=SortSt.mk' κ (vs.toArray.zip vs.toArray) #[] 7 none)
   (Q:=fun _ c=>(arrOf c).Perm (pairsOf vs)/\failedOf c=none/\Up ws (arrOf c) (pairsOf vs).size) ⟨Array.Perm.refl _,rfl,rfl,rfl⟩ (by rw[pairsOf_size];lia) (by rw[pairsOf_size];exact k) fun c p m t=>⟨p,m,t⟩) ?_ fun _ _ e=>e)
  rintro⟨⟨⟩,c⟩ s' ⟨rfl,r,y,q⟩;have e:=D1 C r q;refine wB1 (seqEpoch_at d rfl ?_);refine wB1 (listUpdate_at d rfl ?_ (hsz2:=by
   show(Array.map (·.2) (arrOf c)).size<=_;rw[e,sT1,<- f,sizeLine_eq];lia))
  rw[y];simp only[bne_self_eq_false,bF1,if_false];exact wP1 (g _ e)
end
section
variable{prog:cH}{w:cJ}{A:cI}{E:cE->cF->Prop}{R:Result->cF->Prop}
end
section
variable{prog:cH}{w:cJ}{A:cI}{E:cE->cF->Prop}{s:cF}
end
section
variable{X:Cx}
end
section
variable{prog:cH}{w:cJ}{A:cI}{E:cE->cF->Prop}{s:cF}
end
section
variable{prog:cH}{w:cJ}{A:cI}{E:cE->cF->Prop}{R:Result->cF->Prop}
end
section
variable{X:Cx}
end
section
variable{X:Cx}{pins:List (cG×Obj)}{σ:L2.St}{H:Hp}{s:cF}{a:cG}{u v:HO}
end
section
variable{K:Fg1}{H H':Hp}{mu mu':List cG}{S:Sto}{n:Nat}{a:cG}{o:Obj}{u:HO}
end
theorem ww.lt{xs:Array Nat}(h:ww xs){a b u v:Nat}(e:a<b)(c:xs[a]?=some u)(d:xs[b]?=some v):u<v:=by
 rw[<- aT1]at c d;obtain⟨f,c⟩:=gE1.mp c;obtain⟨g,d⟩:=gE1.mp d;have:=List.pairwise_iff_getElem.mp h a b f g e;rw[c,d]at this;exact this
structure Bs (xs:Array Nat)(j i:Nat):Prop where
 le:i<=xs.size
 lo:∀k v,xs[k]?=some v->k<i->v<j
 hi:∀k v,xs[k]?=some v->i<=k->j<=v
theorem As{xs:Array Nat}{j:Nat}(hr:ww xs):∀n lo hi:Nat,lo<=hi->hi<=xs.size->hi-lo<=n->(∀k v,xs[k]?=some v->k<lo->v<j)->(∀k v,xs[k]?=some v->hi<=k->j<=v)->Bs xs j (SetTable.below.go xs j n lo hi)
 |0,lo,hi,h1,h2,g,c,a=>by
  have:lo=hi:=by lia
  subst this;exact⟨h2,c,a⟩
 |n + 1,lo,hi,h1,h2,g,c,a=>by
  rw[SetTable.below.go];by_cases f:lo<hi
  ·rw[if_pos f];have d:(lo+hi)/2<xs.size:=by lia
   have b:=aG1 d;have h:xs.getD ((lo+hi)/2) j=xs[(lo+hi)/2]:=by simp[Array.getD,d]
   dsimp only;rw[h];by_cases hc:xs[(lo+hi)/2]<j
   ·rw[if_pos hc];refine As hr n _ _ (by lia) h2 (by lia) (fun k v e i=>?_) a;rcases bD k ((lo+hi)/2)with z|z
    ·have:=hr.lt z e b;lia
    ·have:k=(lo+hi)/2:=by lia
     subst this;rw[b]at e;cases e;exact hc
   ·rw[if_neg hc];refine As hr n _ _ (by lia) (by lia) (by lia) c fun k v e i=>?_;rcases bD ((lo+hi)/2) k with z|z
    ·have:=hr.lt z b e;lia
    ·have:k=(lo+hi)/2:=by lia
     subst this;rw[b]at e;cases e;lia
  ·rw[if_neg f];have:lo=hi:=by lia
   subst this;exact⟨h2,c,a⟩
theorem tS{xs:Array Nat}(hr:ww xs)(j:Nat):Bs xs j (SetTable.below xs j):=
 As hr _ 0 _ (aR _) (nR1 _) (by lia) (fun _ _ _ h=>absurd h (ba _)) fun k v e h=>by
  have:=(Array.getElem?_eq_some_iff.mp e).1;lia
theorem jX{α:Type}(xs:Array α)(p:Nat)(x:α):(SetTable.insertAt xs p x).toList=xs.toList.take p++x::xs.toList.drop p:=by
 unfold SetTable.insertAt;rw[Array.toList_append,Array.toList_push,Array.toList_extract,Array.toList_extract];simp[List.extract_eq_drop_take];rw[bS (by simp)]
theorem Bq{xs:Array Nat}(hr:ww xs){j:Nat}(hn:xs[SetTable.below xs j]? ≠ some j):ww (SetTable.insertAt xs (SetTable.below xs j) j):=by
 have b:=tS hr j;unfold ww;rw[jX,List.pairwise_append,bO];have lo:∀v∈xs.toList.take (SetTable.below xs j),v<j:=fun v g=>by
  obtain⟨k,d⟩:=aX g;rw[List.getElem?_take]at d;split at d
  ·rename_i h;exact b.lo k v (by rw[<- aT1];exact d) h
  ·cases d
 have hi:∀v∈xs.toList.drop (SetTable.below xs j),j<v:=fun v g=>by
  obtain⟨k,d⟩:=aX g;rw[List.getElem?_drop,aT1]at d;have h1:=b.hi _ v d (aY _ _);rcases bD j v with z|z
  ·exact z
  ·exfalso;have f:v=j:=by lia
   subst f;cases k with
   |zero=>exact hn d
   |succ k=>
    have l:SetTable.below xs v<xs.size:=by have:=(Array.getElem?_eq_some_iff.mp d).1;lia
    have e:=aG1 l;have:=b.hi _ _ e (nR1 _);have:=hr.lt (by lia) e d;lia
 refine⟨hr.sublist (List.take_sublist _ _),⟨hi,hr.sublist (List.drop_sublist _ _)⟩,fun a i c hc=>?_⟩;rcases ak.mp hc with z|z
 ·rw[z];exact lo a i
 ·exact aQ (lo a i) (hi c z)
structure TS (l:Bool)(t:SetTable):Prop where
 up:ww t.place
 du:t.dummies = #[]
 ld:t.led=l
theorem sH{t:SetTable}(hd:t.dummies = #[])(j:Nat):SetTable.has t.dummies j=false:=by rw[hd];rfl
theorem rn{α:Type}(f:Nat->Option α):∀l:List Nat,((l.filterMap fun j=>(f j).map (j,·)).map (·.1)).Sublist l
 |[]=>.slnil
 |a::l=>by
  rw[aj];cases f a with
  |none=>exact(rn f l).cons a
  |some x=>exact(rn f l).cons₂ a
def KX(e:Int×cE):Int:=match e.2 with
 | .int k _=>k
 |_=>0
structure Kr (es:Array (Int×cE))(ns:List Int):Prop where
 el:∀e∈es.toList,∃k t,e=(hashInt k,Value.int k t)
 pm:(es.toList.map KX).Perm ns
theorem Kr.size{es:Array (Int×cE)}{ns:List Int}(h:Kr es ns):es.size=ns.length:=by
 have:=h.pm.length_eq;rw[lM1,aq]at this;exact this
section
variable{P:cH}{w:cJ}{A:cI}{E:cE->cF->Prop}{s:cF}{b:Bool}{p:cG}{ns:List Int}
theorem yH{es fs:Array (Int×cE)}{ep:Nat}{t u:SetTable}{h:cP}(e:h.get? p=some (stO es ep t)):(h.update p (Obj.putSet fs u)).get? p=some (stO fs (ep+1) u):=by
 have:=hW1 (Obj.putSet fs u) e (by rw[putSet_of fs u rfl];rfl);rw[putSet_of fs u rfl]at this;exact this
end
section
variable{P:cH}{w:cJ}{A:cI}{E:cE->cF->Prop}{s:cF}
def kM(w:cJ):Bool:=w.params.followText "set-order"
theorem vx(x:cE){G:cE->cF->Prop}(q:G (.ref s.heap.objs.size) {s with heap:=s.heap.push (stO #[] 0 (.fresh 0 0 (!kM w)))}):
  codeAny (model P w) A (.call (.builtin "set.__new__") ⟨[.type "set",x],[]⟩) (wants G E) s:=by
 refine codeAny_of_tree (?_:cO _ A.in1 (do checkBuiltinCall "set.__new__" ⟨[.type "set",x],[]⟩;again (.builtin "set.__new__" ⟨[.type "set",x],[]⟩)) _ _ s);refine wB1 (wpAny_of_eq (PySem.F.newCall_set_1 x) (wP1 ⟨plainId_quiet PySem.F.plain_set_new _,wD1 PySem.F.entry_set_new (?_:_)⟩));rw[Around.under_plainId PySem.F.plain_set_new _];unfold Builtin.«set.__new__» Builtin.Frozenset.newClass;have a:=sub_set_self;obtain⟨b,g,d,tk,c⟩:=s;dsimp only
 wp_walk
 refine wpAny_askSetting (wP1 (?_:_));dsimp only;simp only[newObj];exact wB1 (wpAny_alloc (wP1 (wP1 q)))
set_option maxHeartbeats 3200000 in
theorem uM {l:cG}{its:Array cE}{Q:cE->cF->Prop}(F:s.heap.IsList l its)
  (j:∀f:cI,f.handled=A.handled->f.units<=A.units+2 -> ∀R:Result->cF->Prop,(∀s',Q (.ref s.heap.objs.size) s'->R (.ok (.ret .none)) s') ->
   codeAny (model P w) f (.builtin "set.update.loop" ⟨[.ref s.heap.objs.size,.ref (s.heap.objs.size+1)],[]⟩) R {s with heap:=(s.heap.push (stO #[] 0 (.fresh 0 0 (!kM w)))).push {cls:=.type "list_iterator",data:=.fields #[.ref l,.int 0 0]}}):
  cO (model P w) A (call (.type "set") [.ref l]) Q E s:=by
 obtain⟨U,V,t⟩:=PySem.F.called_set.mro;have i:=PySem.F.called_set.made;have o:=PySem.F.called_set.sub
 refine wpAny_call (codeAny_of_tree (?_:cO _ _ (callAny (.type "set") _) _ _ _));refine wP1 ⟨Code.quiet_builtin _ (by decide+kernel),wD1 PySem.F.entry_type_call (?_:_)⟩;rw[Around.under_plain (weight_type_call_type "set" [.ref l] []) rfl];have W:=PySem.F.called_set.notType;have K:=PySem.F.called_set.canCreate;have S:=PySem.F.typeCall_set_1 (.ref l)
 repeat(any_goals (first|wp_step|assumption))
 refine codeAny_mono (vx (.ref l) (E:=E) (G:=fun x m=>x = .ref s.heap.objs.size/\m={s with heap:=s.heap.push (stO #[] 0 (.fresh 0 0 (!kM w)))}) ⟨rfl,rfl⟩) fun r m d=>?_;cases r with
 |error e=>exact d
 |ok z=>
  cases z with
  |ret x=>
   obtain⟨rfl,rfl⟩:=d;have k:(s.heap.push (stO #[] 0 (.fresh 0 0 (!kM w)))).get? s.heap.objs.size=some (stO #[] 0 (.fresh 0 0 (!kM w))):=hS1 _ rfl;have B:Shared.TypeIs {s with heap:=s.heap.push (stO #[] 0 (.fresh 0 0 (!kM w)))} (.ref s.heap.objs.size) "set":=⟨_,k,rfl⟩;have M:=PySem.F.called_set.init.lookup;have O:=PySem.F.called_set.init.bind (.ref s.heap.objs.size)
   repeat(any_goals (first|wp_step|assumption))
   refine codeAny_mono (codeAny_call_builtin (R:=wants (fun r p=>r = .none/\Q (.ref s.heap.objs.size) p) E) PySem.F.called_set.init.plain PySem.F.entry_set_init (check_set_init_1 B (?_:_))) fun r2 p a=>?_
   ·obtain⟨y,h,b,n,c⟩:=F;obtain⟨X,C,N,v⟩:=y;simp only at b c;subst b;subst c;have H:(s.heap.push (stO #[] 0 (.fresh 0 0 (!kM w)))).get? l=some {cls:=.type "list",dict:=C,data:=.seq its n,slots:=v}:=hP1 _ h;have L:=PySem.F.sub_list_set;have J:=PySem.F.sub_list_frozenset;have T:(Value.type "list" == Value.type "dict")=false:=by decide
    have I:(s.heap.push (stO #[] 0 (.fresh 0 0 (!kM w)))).IsList l its:=⟨_,H,rfl,n,rfl⟩;have D:(s.heap.push (stO #[] 0 (.fresh 0 0 (!kM w)))).get? s.heap.objs.size=some {cls:=.type "set",dict:=none,data:=.set #[] 0 (.fresh 0 0 (!kM w)),slots:= #[]}:=k;unfold Builtin.«set.__init__» noKeywords Builtin.Frozenset.updateFrom;generalize g:pyIter=PI
    wp_walk
    subst g;refine wpAny_pyIter_list I (wB1 (wpAny_runValue (?_:_)));dsimp only;rw[show(s.heap.push (stO #[] 0 (.fresh 0 0 (!kM w)))).objs.size=s.heap.objs.size+1 from by rw[hZ1]];refine j A.in1.in1 (by simp) (nR1 _) _ fun s' q=>?_;exact wP1 (wP1 ⟨rfl,q⟩)
   ·cases r2 with
    |error e=>exact a
    |ok u=>
     cases u with
     |ret r=>
      obtain⟨rfl,q⟩:=a
      repeat(any_goals (first|wp_step|assumption))
     |_=>exact a.elim
  |_=>exact d.elim
end
section
variable{P:cH}{w:cJ}{A:cI}{E:cE->cF->Prop}{b:Bool}
end
section
variable{P:cH}{w:cJ}{A:cI}{E:cE->cF->Prop}{s:cF}{it a:cG}{f:cE}{i ep:Nat}{es:Array (Int×cE)}{t:SetTable}{pl:List cE}
end
section
variable{P:cH}{w:cJ}{A:cI}{E:cE->cF->Prop}
end
section
variable{X:Cx}
end
section
variable{X:Cx}{pins:List (cG×Obj)}{σ:L2.St}{H:Hp}{s:cF}{a:cG}{kvs:List (Key×V)}{k:Key}{v:V}{u r:cE}{A:cI}{E:cE->cF->Prop}
theorem Ge{Q:cE->cF->Prop}(I:Inv X pins σ H s)(e:H a=some (.dK kvs))(l:kvs.length<cN)(x:dn (kV k) u)(p:dn v r)(h1:∀z,gC kvs k=some z -> ∀g s',Inv X pins σ H s'->dn z g->Q g s')(h2:gC kvs k=none -> ∀s',Inv X pins σ (upd H a (.dK (g6 kvs k v))) s'->Q r s'):cO (model X.prog X.w) A (call (.builtin "dict.setdefault") [.ref a,u,r]) Q E s:=by
 obtain⟨z,i,vs,b,m⟩:=wa I.hok e;refine call_meetsIn PySem.F.slot_dict_setdefault m.typeIs PySem.F.entry_dict_setdefault (PySem.F.args_dict_setdefault_3 _ _ _) (kt_meets_setdefault (eF X.prog X.w) a (n0 x) i r) ⟨vs,m,by rw[<- b.length];exact z,fun y c=>?_,fun j h' d w=>?_⟩
 ·cases ev:gC kvs k with
  |none=>
   have:=b.val k;rw[ev,c]at this;cases this
  |some z=>
   obtain⟨g,h,f⟩:=mD.some_of (v:=z) (o:=valueAt vs k) (by rw[<- ev];exact b.val k);rw[h]at c;cases c;exact h1 z ev _ _ (I.tok _) f
 ·cases ev:gC kvs k with
  |some z=>
   obtain⟨g,h,f⟩:=mD.some_of (v:=z) (o:=valueAt vs k) (by rw[<- ev];exact b.val k);rw[h]at j;cases j
  |none=>
   have n:(g6 kvs k v).length<=cN:=by have:=ir kvs k v;lia
   have t:∃q,h'.get? a=some q:=let ⟨q,_,_,hq,_⟩:=d;⟨q,hq⟩
   exact h2 ev _ (kr I (by rw[e];exact True.intro) w t (uI n i (b.put k p) d))
end
def Jl(td ty tx:TE):TE:=fun σ H Q=>td σ H fun x H1=>∃a,x = .ref a/\J8 H1 a/\ty σ H1 fun y H2=>tx σ H2 fun z H3=>∃kvs k,H3 a=some (.dK kvs)/\kvs.length<cN/\y=kV k /\
 (∀v,gC kvs k=some v->Q v H3)/\(gC kvs k=none->Q z (upd H3 a (.dK (g6 kvs k z))))
section
variable{X:Cx}
theorem EJ {o e f:Expr}{apos cpos:Pos}{td ty tx:TE}(ho:PE X o td)(he:PE X e ty)(hf:PE X f tx)(m:M2 X o "setdefault" apos e f cpos):PE X (.Call (.Attribute o "setdefault" apos) [e,f] [] cpos) (Jl td ty tx):=by
 intro pins s σ H Q I h;refine wpAny_Call_method m.base m.few m.line PySem.F.plainAttrs_dict PySem.F.slot_dict_setdefault PySem.F.type_dict_setdefault (eQ (ho pins s σ H _ I h) fun u r ⟨x,H1,g,F,a,ex,d,E⟩=>?_);subst ex;obtain rfl:u=Value.ref a:=F;obtain⟨t,C,_⟩:=FY g d;refine⟨t,C,?_⟩;rw[m.trees];refine Calls.callWith_builtin rfl (Calls.evalArgs_plain (Calls.spliced_cons (eQ (he pins r σ H1 _ g E) fun K G ⟨y,H2,D,p,J⟩=>
  Calls.spliced_cons (eQ (hf pins G σ H2 _ D J) fun L M ⟨z,n,B,c,kvs,k,q,el,w,A,i⟩=>Calls.spliced_nil ?_))))
 subst w;exact Ge B q el p c (fun v l N s' b j=>⟨v,n,b,j,A v l⟩) fun l s' b=>⟨z,_,b,c,i l⟩
def nW(m a b:FE):FE:=fun r S=>(m r S).bind fun p=>match p.1 with
 | .ref n=>match p.2[n]? with
  |some (.dct _)=>(a r p.2).bind fun q=>(b r q.2).bind fun t=>match t.2[n]? with
   |some (.dct kvs)=>(mm q.1).bind fun k=>if kvs.length<cN then some (match df kvs k with|some z=>(z,t.2)|none=>(t.1,t.2.set n (.dct (fW kvs k t.1))))else none
   |_=>none
  |_=>none
 |_=>none
theorem AZ {o e f:Expr} {apos cpos:Pos} {m a b:FE} (ho:XE X o m) (he:XE X e a) (hf:XE X f b) (hm:M2 X o "setdefault" apos e f cpos:=by exact⟨rfl,rfl,rfl,rfl⟩):XE X (.Call (.Attribute o "setdefault" apos) [e,f] [] cpos) (nW m a b):=
 ⟨d8 (EJ ho.h he.h hf.h hm) <| by
  rintro σ H Q ⟨r,mu,S,d,S',he,M,hm,hc⟩;obtain⟨⟨G,D⟩,P,hm⟩:=oB1.mp hm;refine⟨r,mu,S,G,D,he,M,P,fun v1 H1 mu1 p N B=>?_⟩;dsimp only at hm;split at hm
  ·rename_i n;split at hm
   ·rename_i Y s;cases N with
    | @ref _ V E=>
     refine⟨V,rfl,FX B E s,?_⟩;obtain⟨⟨d2,C⟩,O,hm⟩:=oB1.mp hm;obtain⟨⟨Z,J⟩,I,hm⟩:=oB1.mp hm;refine⟨r,mu1,D,d2,C,he.ext p,B,O,fun v2 H2 t l r2 W=>?_⟩;refine⟨r,t,C,Z,J,(he.ext p).ext l,W,I,fun L q g i F w=>?_⟩;dsimp only at hm;split at hm
     ·rename_i kvs K;obtain⟨k,U,hm⟩:=oB1.mp hm;split at hm
      ·rename_i R;have hm:=Option.some.inj hm;have h:=i.at (l.at E);obtain⟨ws,u,y⟩:=w.dct K h;have x:=y.look (k:=k);refine⟨ws,k,u,by rw[<- y.length];exact R,kl (r2.ext i) U,fun v j=>?_,fun j=>?_⟩
       ·cases e:df kvs k with
        |none=>have:=x.2;rw[e]at this;simp[j]at this
        |some z=>
         rw[e]at hm;cases hm;obtain⟨T,c,A⟩:=x.1 _ e;rw[j]at c;cases c;exact hc _ q g ((p.trans l).trans i) A w
       ·cases e:df kvs k with
        |some z=>
         obtain⟨T,c,A⟩:=x.1 _ e;rw[j]at c;cases c
        |none=>
         rw[e]at hm;cases hm;have put:Ext g g q (upd q _ (.dK (g6 ws k L))):=Ext.put u trivial (gM1 h);exact hc _ _ g (((p.trans l).trans i).trans put) (F.ext put) (w.put h u trivial ⟨_,dw,(y.put F).ext put⟩)
      ·cases hm
     ·cases hm
   ·cases hm
  ·cases hm⟩
end
open AutoSeq1 (wpAny_loadPart')
section
variable{prog:cH}{w:cJ}{A:cI}{E:cE->cF->Prop}{s:cF}
theorem tO{Q:List cE->cF->Prop}{r:cG}{a b c:Int}{t u v:Tok}{n:Nat}(C:A.handled=none)(hr:IsRange s.heap r a b c t u v)(hsmall:Builtin.Range.small a b c=true)(hn:Builtin.Range.rangeSize a b c=n)(m:n<=2^24)(D:∀h' tk d,(∀b o',s.heap.get? b=some o'->h'.get? b=some o')->ItemsOf (fun i v=>∃t,v = .int (a+i*c) t) d n->Q d.toList {s with heap:=h',toks:=tk}):
  cO (model prog w) A (collect (.ref r)) Q E s:=by
 unfold collect;refine wB1 (wpAny_runValue (wD1 F.entry_proto_collect (?_:_)));rw [Around.under_plainId F.plain_proto_collect _];show cO _ A.in1 (newList [] >>= fun l=>again (.builtin "list.__iadd__" ⟨[l,.ref r],[]⟩)) _ _ s;refine wB1 (wO1 (?_:_));refine wP1 ⟨plainId_quiet F.plain_list_iadd _,wD1 F.entry_list_iadd (?_:_)⟩;rw [Around.under_plainId F.plain_list_iadd _];show cO _ A.in1 (Builtin.List.listExtendWith (.ref s.heap.objs.size) (.ref r) (.ref s.heap.objs.size)) _ _ _;have z:(s.heap.push {cls:=.type "list",data:=.seq ([]:List cE).toArray}).get? s.heap.objs.size=some {cls:=.type "list",data:=.seq #[] 0}:=hS1 _ rfl;have j:∀ h' tk d g,(∀ b o',s.heap.get? b=some o'->h'.get? b=some o')->h'.get? s.heap.objs.size=some {cls:=.type "list",dict:=none,data:=.seq d g,slots:= #[]}->ItemsOf (fun i v=>∃ t,v = .int (a+i*c) t) d n ->
   cO (model prog w) A (match Value.ref s.heap.objs.size with
   |Value.ref a=>do
    match (<- load a).data with
     |Data.seq xs _=>pure xs.toList
     |_=>unsupported "internal:collect"
   |_=>unsupported "internal:collect") Q E {s with heap:=h',toks:=tk}:=by
  intro h' tk d g y k x;show cO _ A (load s.heap.objs.size >>= _) _ _ _;refine wB1 (wpAny_load k (?_:_));refine wP1 (?_:_);exact D h' tk d y x
 refine wpAny_mono (wpAny_extend_range (A:=A) (R:=fun B s'=>∃h' tk d g,B = .ok (.ret (.ref s.heap.objs.size))/\s'={s with heap:=h',toks:=tk}/\(∀b o',s.heap.get? b=some o'->h'.get? b=some o')/\h'.get? s.heap.objs.size=some {cls:=.type "list",dict:=none,data:=.seq d g,slots:= #[]}/\ItemsOf (fun i v=>∃t,v = .int (a+i*c) t) d n)
  (s:={s with heap:=s.heap.push {cls:=.type "list",data:=.seq ([]:List cE).toArray}}) C (hP1 _ hr) hsmall hn m _ _ 0 z fun h' tk d g y k x=>
   ⟨h',tk,d,g,rfl,rfl,fun b o e=>y b o (nN1 (hL1 e)) (hP1 _ e),k,x⟩) (fun p s' h=>?_) (fun e s' h=>?_)
 ·cases p with
  |done f=>
   obtain⟨h',tk,d,g,e,rfl,q⟩:=h;cases e;exact j h' tk d g q.1 q.2.1 q.2.2
  |again g=>exact⟨h.1,codeAny_mono h.2 fun r G hr=>by obtain⟨h',tk,d,g,rfl,rfl,q⟩:=hr;exact j h' tk d g q.1 q.2.1 q.2.2⟩
 ·obtain⟨_,_,_,_,e,_⟩:=h;cases e
end
theorem ut(r:cG)(a b c:Int)(t u v:Tok)(n:Nat)(hsmall:Builtin.Range.small a b c=true)(hn:Builtin.Range.rangeSize a b c=n)(f:n<=2^20):
  Meets (Builtin.«tuple.__new__» ⟨[.type "tuple",.ref r],[]⟩)
   (fun A R s=>A.handled=none/\IsRange s.heap r a b c t u v /\ ∀(h':cP) (tk:Nat) (acc:Array cE),(∀b o',s.heap.get? b=some o'->h'.get? b=some o')->ItemsOf (fun i v=>∃t,v = .int (a+i*c) t) acc n ->
    R (.ok (.ret (.ref h'.objs.size))) {s with heap:=h'.push {cls:=.type "tuple",data:=.seq acc},toks:=tk}):=
 .of_wp fun prog w A R s h=>by
  obtain⟨z,g,d,j,B⟩:=s;obtain⟨x,k,h⟩:=h;have p:=sub_tuple_self;have m:=init_tuple_lookup;have C:=madeHere_tuple;have D:Shared.TypeIs ⟨z,g,d,j,B⟩ (.ref r) "range":=⟨_,k,rfl⟩;have l:A.in1.handled=none:=x
  wp_walk using wpAny_loadPart' k,wpAny_typeOf D,tO l k hsmall hn (ai f (by decide))
  intro h' tk acc y o;show cO _ _ (Builtin.Tuple.tupleExact acc.toList.toArray >>= fun v=>ret v) _ _ _;unfold Builtin.Tuple.tupleExact;have q:n<=cN:=ai f (by decide);refine wB1 (wO1 (?_:_) (show acc.toList.toArray.size<=cN by simp only[bT];rw[o.1];exact q));refine wP1 ⟨_,rfl,(?_:_)⟩;have e:acc.toList.toArray=acc:=by simp
  rw[e];exact h h' tk acc y o
section
variable{X:Cx}
theorem Gj(hc:X.calm=true):ei X (.type "tuple") (fun xs H Q=>∃p i j,xs=[.ref p]/\H p=some (.rng i j)/\(-(2^62)<=i/\i<2^62 /\ -(2^62)<=j/\j<2^62)/\(j-i).toNat<=2^20 /\ ∀l,H l=none->Q (.ref l) (upd H l (.tup (ku i (j-i).toNat)))):=by
 intro pins s σ H xs K Q I r h;obtain⟨p,i,j,rfl,C,⟨h1,h2,w,G⟩,m,q⟩:=h;obtain⟨u,rfl,J⟩:=hH r;cases J;obtain⟨t,u,v,e⟩:=I.hok p _ C;have y:(((j-i).toNat:Nat):Int)=Builtin.Range.rangeSize i j 1:=by rw[rangeSize_one];split<;>lia
 refine callType_new F.called_tuple (by decide) (F.typeCall_tuple_1 _) (F.newCall_tuple_1 _) (fun f=>F.args_object_init_2 f _) F.entry_tuple_new
  (ut p i j 1 t u v (j-i).toNat (small_one h1 h2 w G) y.symm m) ⟨I.ok.hd hc,e,fun h' tk a B hi=>⟨⟨_,hS1 _ rfl,rfl⟩,(?_:_)⟩⟩
 obtain⟨g,d⟩:=hi;have c:dE (ku i (j-i).toNat) a.toList:=pV (by rw[jE];simpa using g.symm) fun k x u A z=>by
  rw[nJ _ _ _ _ A];obtain⟨E,rfl⟩:=d k u (by simpa using z);exact⟨E,by rw[Int.mul_one]⟩
 have n:Inv X pins σ H {s with heap:=h',toks:=tk}:=I.kept (t':=tk) B;have D:Inv X pins σ (upd H h'.objs.size (.tup (ku i (j-i).toNat))) {s with heap:=h'.push {cls:=.type "tuple",data:=.seq a},toks:=tk}:=
  n.laid (t':=tk) (fun b o e=>hP1 _ e) (nR1 _) (show ea X.prog X.w _ _ _ (.tup _)from⟨by rw[jE];exact ai m (by decide),a.toList,c,by simpa using IsTup.new _ _⟩)
 exact⟨.ref h'.objs.size,_,D,rfl,q _ (n.hok.fresh (nR1 _))⟩
def wZ(m:FA):FE:=fun r S=>(m r S).bind fun p=>match p.1 with
 |[.int j]=>if mG 0 j=true then some (.tup (gP 0 j.toNat),p.2)else none
 |_=>none
theorem rW {a:Expr}{m:FA}{f p2 b c:Pos}(hc:X.calm=true)(hg:Gl X "range")(hm:X.mg "range"=none)(hg2:Gl X "tuple")(hm2:X.mg "tuple"=none)(ha:XA X [a] m)(hs:cM [a] X.env=[(false,eval a X.env)]:=by rfl)
  (hs2:cM [.Call (.Name "range" f) [a] [] b] X.env=[(false,eval (.Call (.Name "range" f) [a] [] b) X.env)]:=by rfl):XE X (.Call (.Name "tuple" p2) [.Call (.Name "range" f) [a] [] b] [] c) (wZ m):=
 ⟨d8 (kg (Gj hc) hg2 hm2 (by decide+kernel) (i6 (ph hg hm ha.h hs) ma hs2) (by decide) (by decide) hs2) <| by
  rintro σ H Q ⟨r,mu,S,d,x,o,hs,hm,e⟩;obtain⟨⟨ds,y⟩,n,hm⟩:=oB1.mp hm;dsimp only at hm;split at hm
  ·rename_i j;split at hm
   ·rename_i i;cases hm;refine⟨r,mu,S,_,_,o,hs,n,fun vs H1 mu1 w t k=>?_⟩;obtain⟨v,rfl,q⟩:=lx t;cases q;refine⟨j,rfl,fun p h=>⟨p,0,j,rfl,dw,(lv i).1,(lv i).2,fun l g=>?_⟩⟩;have s:=(w.trans (Ext.fresh (u:=.rng 0 j) h)).trans (Ext.fresh (u:=.tup (ku 0 (j-0).toNat)) g);exact e _ _ mu1 s (.tup (kB.of dw) (by rw[Int.sub_zero];exact nI _ _)) ((k.fresh h).fresh g)
   ·cases hm
  ·cases hm⟩
end
section
variable{P:cH}{w:cJ}{A:cI}{E:cE->cF->Prop}{s:cF}
set_option maxHeartbeats 3200000 in
theorem xt {l:cG}{its:Array cE}{Q:cE->cF->Prop}(F:s.heap.IsTuple l its)
  (i:∀j:cI,j.handled=A.handled -> ∀R:Result->cF->Prop,(∀s',Q (.ref s.heap.objs.size) s'->R (.ok (.ret .none)) s') ->
   codeAny (model P w) j (.builtin "set.update.loop" ⟨[.ref s.heap.objs.size,.ref (s.heap.objs.size+1)],[]⟩) R {s with heap:=(s.heap.push (stO #[] 0 (.fresh 0 0 (!kM w)))).push {cls:=.type "tuple_iterator",data:=.fields #[.ref l,.int 0 0]}}):
  cO (model P w) A (call (.type "set") [.ref l]) Q E s:=by
 obtain⟨U,V,t⟩:=PySem.F.called_set.mro;have h:=PySem.F.called_set.made;have o:=PySem.F.called_set.sub
 refine wpAny_call (codeAny_of_tree (?_:cO _ _ (callAny (.type "set") _) _ _ _));refine wP1 ⟨Code.quiet_builtin _ (by decide+kernel),wD1 PySem.F.entry_type_call (?_:_)⟩;rw[Around.under_plain (weight_type_call_type "set" [.ref l] []) rfl];have W:=PySem.F.called_set.notType;have K:=PySem.F.called_set.canCreate;have S:=PySem.F.typeCall_set_1 (.ref l)
 repeat(any_goals (first|wp_step|assumption))
 refine codeAny_mono (vx (.ref l) (E:=E) (G:=fun x m=>x = .ref s.heap.objs.size/\m={s with heap:=s.heap.push (stO #[] 0 (.fresh 0 0 (!kM w)))}) ⟨rfl,rfl⟩) fun r m d=>?_;cases r with
 |error e=>exact d
 |ok z=>
  cases z with
  |ret x=>
   obtain⟨rfl,rfl⟩:=d;have k:(s.heap.push (stO #[] 0 (.fresh 0 0 (!kM w)))).get? s.heap.objs.size=some (stO #[] 0 (.fresh 0 0 (!kM w))):=hS1 _ rfl;have B:Shared.TypeIs {s with heap:=s.heap.push (stO #[] 0 (.fresh 0 0 (!kM w)))} (.ref s.heap.objs.size) "set":=⟨_,k,rfl⟩;have M:=PySem.F.called_set.init.lookup;have O:=PySem.F.called_set.init.bind (.ref s.heap.objs.size)
   repeat(any_goals (first|wp_step|assumption))
   refine codeAny_mono (codeAny_call_builtin (R:=wants (fun r p=>r = .none/\Q (.ref s.heap.objs.size) p) E) PySem.F.called_set.init.plain PySem.F.entry_set_init (check_set_init_1 B (?_:_))) fun r2 p a=>?_
   ·obtain⟨y,g,b,n,c⟩:=F;obtain⟨X,C,N,v⟩:=y;simp only at b c;subst b;subst c;have H:(s.heap.push (stO #[] 0 (.fresh 0 0 (!kM w)))).get? l=some {cls:=.type "tuple",dict:=C,data:=.seq its n,slots:=v}:=hP1 _ g;have L:=PySem.F.sub_tuple_set;have J:=PySem.F.sub_tuple_frozenset;have T:(Value.type "tuple" == Value.type "dict")=false:=by decide
    have I:(s.heap.push (stO #[] 0 (.fresh 0 0 (!kM w)))).IsTuple l its:=⟨_,H,rfl,n,rfl⟩;have D:(s.heap.push (stO #[] 0 (.fresh 0 0 (!kM w)))).get? s.heap.objs.size=some {cls:=.type "set",dict:=none,data:=.set #[] 0 (.fresh 0 0 (!kM w)),slots:= #[]}:=k;unfold Builtin.«set.__init__» noKeywords Builtin.Frozenset.updateFrom;generalize f:pyIter=PI
    wp_walk
    subst f;refine wpAny_pyIter_tuple I (wB1 (wpAny_runValue (?_:_)));dsimp only;rw[show(s.heap.push (stO #[] 0 (.fresh 0 0 (!kM w)))).objs.size=s.heap.objs.size+1 from by rw[hZ1]];refine i A.in1.in1 (by simp) _ fun s' q=>?_;exact wP1 (wP1 ⟨rfl,q⟩)
   ·cases r2 with
    |error e=>exact a
    |ok u=>
     cases u with
     |ret r=>
      obtain⟨rfl,q⟩:=a
      repeat(any_goals (first|wp_step|assumption))
     |_=>exact a.elim
  |_=>exact d.elim
theorem uL{l:cG}{its:Array cE}{ns:List Int}{Q:cE->cF->Prop}(J:A.handled=none)(k:s.heap.IsTuple l its)(C:IntsAre its.toList ns)(hb:its.size+1<scanBound)(q:∀h' tk,(∀c o,s.heap.get? c=some o->h'.get? c=some o)->h'.SetOf (intKind P w) s.heap.objs.size (fun B=>(firstMet (fun i=>ns.getD i 0) its.size).any (· == B)) (firstMet (fun i=>ns.getD i 0) its.size).length->Q (.ref s.heap.objs.size) {s with heap:=h',toks:=tk}):cO (model P w) A (call (.type "set") [.ref l]) Q E s:=by
 have a:l<s.heap.objs.size:=by obtain⟨o,e,_⟩:=k;exact hL1 e
 refine xt k fun p z R y=>?_;have u:(s.heap.push (stO #[] 0 (.fresh 0 0 (!kM w)))).objs.size=s.heap.objs.size+1:=by rw[hZ1]
 have n:(s.heap.push (stO #[] 0 (.fresh 0 0 (!kM w)))).get? s.heap.objs.size=some (stO #[] 0 (.fresh 0 0 (!kM w))):=hS1 _ rfl;have b:∀(i:Nat) (v:cE),its[i]?=some v -> ∃t,v = .int ((fun i=>ns.getD i 0) i) t:=fun i v F=>PyProof.Rows.IntsAre.int_at C i v (by rw[aT1];exact F);have m:s.heap.objs.size∉[s.heap.objs.size+1,l]:=by
  simp only[ak,bU,bq,or_false,not_or];exact⟨nN1 (bf _),nG1 a⟩
 have g:p.in1.handled=none:=by simpa using z.trans J
 refine PyProof.Rows.codeAny_set_update_loopS ((Walks.tuple g _ l (nN1 (bV a)) its).toS) s.heap.objs.size m (fun i=>ns.getD i 0) b hb (its.size-0) 0 _ (by lia) (aR _) ⟨?_,?_⟩ ?_ fun s' d j=>?_
 ·refine⟨{cls:=.type "tuple_iterator",data:=.fields #[.ref l,.int 0 0]},?_,rfl,rfl⟩;have this:((s.heap.push (stO #[] 0 (.fresh 0 0 (!kM w)))).push {cls:=.type "tuple_iterator",data:=.fields #[.ref l,.int 0 0]}).get? (s.heap.push (stO #[] 0 (.fresh 0 0 (!kM w)))).objs.size=some {cls:=.type "tuple_iterator",data:=.fields #[.ref l,.int 0 0]}:=hS1 _ rfl;rw[u]at this;exact this
 ·obtain⟨o,e,r⟩:=k;exact⟨o,hP1 _ (hP1 _ e),r⟩
 ·exact PyProof.Rows.SetOf_congr ((PyProof.Rows.setObjOf_fresh (knd:=intKind P w) (!kM w)).setOf (hP1 _ n) (by unfold scanBound;lia)) (fun _=>rfl) rfl
 ·obtain⟨h',H,G,h,f⟩:=s';have I:H=s.gens:=d.gens;have x:G=s.drawn:=d.drawn;have D:f=s.os:=d.os;subst I;subst x;subst D;refine y _ (q h' h (fun c o e=>d.heap c o ?_ (hP1 _ (hP1 _ e))) j);have:=hL1 e;simp only[ak,bU,bq,or_false,not_or];exact⟨nN1 this,nN1 (bV this)⟩
end
section
variable{X:Cx}
def fz:G1:=fun d S=>match dj S d with
 |some (_,xs)=>(jV xs).bind fun ns=>if ns.length+1<scanBound then some (.ref S.length,S++[.iset (ddI ns)])else none
 |_=>none
theorem rF{k:Nat}(hr:fR k X.A):ei X (.type "set") (rN X.K (b1 fz)):=by
 intro pins s σ H xs v Q I r h;have F:=h;obtain⟨x,mu,S,d,o,w,rfl,l,i,c,hc⟩:=xC h;unfold fz at c;split at c
 ·rename_i b ys n;cases b with
  |true=>exact Ip hr pins s σ H _ v Q I r ⟨mu,S,[d],o,w,.cons l .nil,i,(by show rh d S=_;unfold rh;rw[n];exact c),hc⟩
  |false=>
  obtain⟨ns,e,c⟩:=oB1.mp c;split at c
  ·rename_i y;cases c;obtain⟨a,vs,rfl,q,t⟩:=db l i n;cases r with
   |cons p rt=>
    cases rt;cases p;obtain⟨g,B,C,_⟩:=I.tuple q;obtain⟨hi,m⟩:=pA t B e;have f:g.toArray.size=ns.length:=by rw[sT1,hi.length]
    refine uL (its:=g.toArray) (ns:=ns) hr.hd C (by simpa using hi) (by rw[f];exact y) fun h' tk E j=>?_;rw[f,tJ]at j;have D:(ddI ns).Nodup:=oj ns [] aW;have A:=lW (ddI ns);rw[A]at j;refine⟨.ref s.heap.objs.size,upd H s.heap.objs.size (.set (fun k=>(ddI ns).contains k) (ddI ns).length),I.laid (fun b u z=>E b u z) (nR1 _) j,rfl,?_⟩;exact hc _ _ (mu++[s.heap.objs.size]) (Ext.new_ I.fresh) (.ref (gp i.len _)) (i.new I.fresh ⟨dw,D⟩)
  ·cases c
 ·cases c
end
section
variable{X:Cx}{a b:Expr}{rest:List Expr}{pos:Pos}{ta tb:TE}{f g:FE}
theorem ED(ha:PE X a ta)(hb:PE X (.BoolOp .Or (b::rest) pos) tb):PE X (.BoolOp .Or (a::b::rest) pos) (fun σ H Q=>ta σ H fun x H'=>∃k,AL X.K x H' k/\if k=true then Q x H' else tb σ H' Q):=by
 intro pins s σ H Q I h;refine BoolOp_or (eQ (ha pins s σ H _ I h) fun v j ⟨x,H1,m,f,e⟩=>?_);obtain⟨k,tk,e⟩:=e;refine eQ (ya pins j σ H1 x v (fun i H'=>if i=true then Q x H' else tb σ H' Q) m f ⟨k,tk,e⟩) fun c l ⟨H2,g,d⟩=>?_;cases c with
 |false=>rw[if_neg (by decide)]at d ⊢;exact hb pins l σ H2 Q g d
 |true=>rw[if_pos rfl]at d ⊢;exact⟨x,H2,g,f,d⟩
def Cj(a b:FE):FE:=fun r S=>(a r S).bind fun p=>(pW p.2 p.1).bind fun k=>if k=true then some p else b r p.2
theorem AY(ha:XE X a f)(hb:XE X (.BoolOp .Or (b::rest) pos) g):XE X (.BoolOp .Or (a::b::rest) pos) (Cj f g):=
 ⟨d8 (ED ha.h hb.h) <| by
  rintro σ H Q ⟨r,mu,S,d,p,l,u,c,hc⟩;obtain⟨⟨o,j⟩,q,c⟩:=oB1.mp c;obtain⟨k,n,c⟩:=oB1.mp c;refine⟨r,mu,S,o,j,l,u,q,fun v H1 mu1 i m e=>⟨k,yb m e n,?_⟩⟩;cases k with
  |true=>rw[if_pos rfl]at c ⊢;cases c;exact hc _ H1 mu1 i m e
  |false=>rw[if_neg (by decide)]at c ⊢;exact⟨r,mu1,j,d,p,l.ext i,e,c,fun t H2 h w r2 s=>hc t H2 h (i.trans w) r2 s⟩⟩
end
section
variable{X:Cx}
end
section
variable{P:cH}{w:cJ}{A:cI}{E:cE->cF->Prop}{b:Bool}
end
section
variable{X:Cx}
end
theorem uz:∀{b:List cE} {ns:List Int},IntsAre b ns -> ∃xs:Array (Int×Tok),b.toArray=intItems xs/\xs.toList.map (·.1)=ns:=by
 intro b ns h
 induction h with
 |nil=>exact⟨#[],by simp[intItems],rfl⟩
 |cons n t _ ih=>
  obtain⟨xs,d,c⟩:=ih;refine⟨((n,t)::xs.toList).toArray,?_,by rw[mP1,c]⟩;have a:=congrArg ar d;unfold intItems at a ⊢;rw[Array.toList_map]at a;rw[List.map_toArray,mP1]
  congr 1
  rw[<- a]
def uu:List Int->Int
 |[]=>0
 |[x]=>x
 |x::y::l=>let m:=uu (y::l);if x<m then m else x
def lD:List Int->Int
 |[]=>0
 |[x]=>x
 |x::y::l=>let m:=lD (y::l);if m<x then m else x
theorem Ch:∀{l:List Int},l≠[]->uu l∈l /\ ∀a∈l,a<=uu l
 |[],h=>(h rfl).elim
 |[x],_=>⟨by simp[uu],fun a h=>by simp at h;subst h;simp[uu]⟩
 |x::y::l,_=>by
  obtain⟨h1,h2⟩:=Ch (l:=y::l) (by simp);rw[uu];split
  ·refine⟨mC1 _ h1,fun a b=>?_⟩;rcases ak.mp b with rfl|b
   ·lia
   ·exact h2 a b
  ·refine⟨mS1,fun a b=>?_⟩;rcases ak.mp b with rfl|b
   ·exact Int.le_refl _
   ·have:=h2 a b;lia
theorem qC:∀{l:List Int},l≠[]->lD l∈l /\ ∀a∈l,lD l<=a
 |[],h=>(h rfl).elim
 |[x],_=>⟨by simp[lD],fun a h=>by simp at h;subst h;simp[lD]⟩
 |x::y::l,_=>by
  obtain⟨h1,h2⟩:=qC (l:=y::l) (by simp);rw[lD];split
  ·refine⟨mC1 _ h1,fun a b=>?_⟩;rcases ak.mp b with rfl|b
   ·lia
   ·exact h2 a b
  ·refine⟨mS1,fun a b=>?_⟩;rcases ak.mp b with rfl|b
   ·exact Int.le_refl _
   ·have:=h2 a b;lia
theorem BX{xs:Array (Int×Tok)}{ns:List Int}(e:xs.toList.map (·.1)=ns){j:Nat}(a:j<ns.length):numAt xs j∈ns:=by
 rw[numAt_eq,e,bo,gG1 a];exact bA a
theorem Ce{xs:Array (Int×Tok)}{ns:List Int}(e:xs.toList.map (·.1)=ns){a:Int}(h:a∈ns):∃j,j<ns.length/\numAt xs j=a:=by
 obtain⟨j,b,rfl⟩:=List.getElem_of_mem h;exact⟨j,b,by rw[numAt_eq,e,bo,gG1 b];rfl⟩
def Kg:G1:=fun d S=>match dj S d with
 |some (true,xs)=>(jW xs).bind fun ns=>if ns=[]then none else some (.int (uu ns),S)
 |_=>none
def tj:G1:=fun d S=>match dj S d with
 |some (true,xs)=>(jW xs).bind fun ns=>if ns=[]then none else some (.int (lD ns),S)
 |_=>none
section
variable{X:Cx}
theorem Gm(f:X.calm=true):ei X (.builtin "min") (rN X.K (b1 tj)):=by
 intro pins s σ H xs J Q I r h;obtain⟨x,mu,S,d,G,M,rfl,n,g,b,hc⟩:=xC h;unfold tj at b;split at b
 ·rename_i ds m;obtain⟨ns,z,b⟩:=oB1.mp b;split at b
  ·cases b
  ·rename_i c;cases b;obtain⟨a,vs,rfl,q,t⟩:=db n g m;obtain⟨u,rfl,r2⟩:=hH r;cases r2;obtain⟨y,l,E,L⟩:=I.list q;have A:=mq t l z;obtain⟨xs,w,e⟩:=uz A;have k:xs.size=ns.length:=by rw[<- aq,<- e,lM1]
   have K:0<ns.length:=bW.mpr c;refine min_intList (I.ok.hd f) (by rw[<- w];exact E.isList) (by lia) fun v h' tk C keep=>?_;obtain⟨o,rfl⟩:=intItems_at C;obtain⟨F,p⟩:=argBest_lt (numAt xs) (xs.size-1);have D:numAt xs (argBest (fun i j=>decide (numAt xs i<numAt xs j)) (xs.size-1))=lD ns:=by
    obtain⟨m1,m2⟩:=qC c;obtain⟨j,N,B⟩:=Ce e m1;have h1:=p j (by lia);have h2:=m2 _ (BX e (j:=argBest (fun i j=>decide (numAt xs i<numAt xs j)) (xs.size-1)) (by lia));rw[B]at h1;exact Int.le_antisymm h1 h2
   rw[D];exact⟨.int (lD ns),H,I.kept keep,⟨_,rfl⟩,hc.now (.int _) g⟩
 ·cases b
end
section
variable{prog:cH}{w:cJ}{A:cI}{E:cE->cF->Prop}{s:cF}
theorem tN {l:cG}{vs:List cE}{Q:List cE->cF->Prop}(d:s.heap.IsTuple l vs.toArray)
  (h:Q vs {s with heap:=(s.heap.push (seqObj "list" #[] 0)).update s.heap.objs.size (Obj.mapSeq (· ++ vs.toArray))}) (hsz:vs.length<=cN:=by size_fits):
  cO (model prog w) A (collect (.ref l)) Q E s:=by
 obtain⟨o,e,hc,n,c⟩:=id d;unfold collect;refine wB1 (wpAny_runValue (wD1 entry_proto_collect' ?_));show cO _ _ (do again (.builtin "list.__iadd__" ⟨[<- newList [],.ref l],[]⟩)) _ _ s;refine wB1 (wpAny_newList (wP1 ⟨Code.quiet_builtin _ (by decide+kernel),wD1 entry_list_iadd' ?_⟩));show cO _ _ (Builtin.List.listExtendWith (.ref s.heap.objs.size) (.ref l) (.ref s.heap.objs.size)) _ _ {s with heap:=s.heap.push (seqObj "list" #[] 0)};unfold Builtin.List.listExtendWith;have a:(s.heap.push (seqObj "list" #[] 0)).get? l=some o:=hP1 _ e;refine wB1 (wpAny_typeOf (T:="tuple") ⟨o,a,hc⟩ ?_);have b:(Value.type "tuple" == Value.type "tuple")=true:=by rfl
 rw [if_pos (by rw [b];simp)];refine wB1 (listItems_at a c ?_);refine wB1 (listItems_at (xs:= #[]) (n:=0) (hS1 _ rfl) rfl ?_);rw [if_neg (by simp)];refine wB1 (listUpdate_at (xs:= #[]) (n:=0) (hS1 _ rfl) rfl ?_ (aR _) (by show (#[]++vs.toArray).size<=cN+1;simp only [Array.size_append,sT1,aO];omega));refine wP1 ?_;show cO (model prog w) A (do
   let o<-load s.heap.objs.size
   match o.data with
   | .seq xs _=>pure xs.toList
   |_=>unsupported "internal:collect") Q E {s with heap:=(s.heap.push (seqObj "list" #[] 0)).update s.heap.objs.size (Obj.mapSeq (· ++ vs.toArray))}
 refine wB1 (wpAny_load (get?_update_seq (hS1 _ rfl) _) ?_);show cO _ _ (pure ((#[]:Array cE)++vs.toArray).toList) Q E _;rw[show((#[]:Array cE)++vs.toArray).toList=vs by simp];exact wP1 h
theorem nB {l:cG}{vs:List cE}{Q:cE->cF->Prop}(c:s.heap.IsList l vs.toArray\/s.heap.IsTuple l vs.toArray)(i:vs.length<64)
  (h:∀P:PySem.Fin->cF->Prop,(∀a:Array cE,Q (.ref (s.heap.objs.size+1)) {s with heap:=sortedAll s.heap vs a}->P (.done (.ret .none)) {s with heap:=sortedAll s.heap vs a}) ->
   ∀f (h':cP),h'=(((s.heap.push (seqObj "list" #[] 0)).update s.heap.objs.size (Obj.mapSeq (· ++ vs.toArray))).push (seqObj "list" vs.toArray 0))->h'.get? (s.heap.objs.size+1)=some (seqObj "list" vs.toArray 0) ->
   cO (model prog w) A.in1.in1 (Builtin.«list.sort» ⟨[.ref (s.heap.objs.size+1)],[]⟩) P f {s with heap:=h'}):
  cO (model prog w) A (call (.builtin "sorted") [.ref l]) Q E s:=by
 refine Calls.call_function_entry kind_sorted plain_sorted entry_sorted (args_sorted1 _) ?_;unfold Builtin.«sorted»;refine wB1 (m:=checkCount "sorted" 1 1 _) (wP1 ?_);have g:∀(f:cE->cF->Prop) (Q:List cE->cF->Prop),Q vs {s with heap:=(s.heap.push (seqObj "list" #[] 0)).update s.heap.objs.size (Obj.mapSeq (· ++ vs.toArray))}->cO (model prog w) A.in1 (collect (.ref l)) Q f s:=fun f Q e=>by
  rcases c with c|c
  ·exact collect_list c e (by rw[sizeLine_eq];omega)
  ·exact tN c e (by rw[sizeLine_eq];omega)
 refine wB1 (g _ _ ?_);refine wB1 (wpAny_newList ?_ (by rw[sizeLine_eq];omega));have d:((s.heap.push (seqObj "list" #[] 0)).update s.heap.objs.size (Obj.mapSeq (· ++ vs.toArray))).objs.size=s.heap.objs.size+1:=by
  rw[Heap.size_update,size_push']
 have b:(((s.heap.push (seqObj "list" #[] 0)).update s.heap.objs.size (Obj.mapSeq (· ++ vs.toArray))).push (seqObj "list" vs.toArray 0)).get? (s.heap.objs.size+1)=some (seqObj "list" vs.toArray 0):=by
  rw[<- d];exact hS1 _ rfl
 show cO _ _ _ _ _ {s with heap:=((s.heap.push (seqObj "list" #[] 0)).update s.heap.objs.size (Obj.mapSeq (· ++ vs.toArray))).push (seqObj "list" vs.toArray 0)};rw[d];refine wB1 (wpAny_holding (wE1 slot_list_sort ⟨_,b,rfl⟩ entry_list_sort (h _ ?_ _ _ rfl b) (args_list_sort _)));intro a e;exact⟨_,rfl,wP1 ⟨_,rfl,e⟩⟩
theorem sU{vs:List cE}{b:cG}{o:Obj}(q:s.heap.get? b=some o):b≠s.heap.objs.size+1/\(((s.heap.push (seqObj "list" #[] 0)).update s.heap.objs.size (Obj.mapSeq (· ++ vs.toArray))).push (seqObj "list" vs.toArray 0)).get? b=some o:=by
 have a:b<s.heap.objs.size:=hL1 q;have c:((s.heap.push (seqObj "list" #[] 0)).update s.heap.objs.size (Obj.mapSeq (· ++ vs.toArray))).objs.size=s.heap.objs.size+1:=by
  rw[Heap.size_update,size_push']
 refine⟨nN1 (bV a),?_⟩;rw[Heap.get?_push_ne _ _ _ (by rw[c];exact nN1 (bV a)),hU1 _ _ _ _ (nN1 a),Heap.get?_push_ne _ _ _ (nN1 a)];exact q
theorem FH{a b:cG}{k l:Int}{t u:Tok}{g zs:List cE}{Q:Bool->cF->Prop}(ha:IsTup s.heap a (Value.int k t::g).toArray)(hb:IsTup s.heap b (Value.int l u::zs).toArray)(c:k≠l)(h:Q (decide (k<l)) s):
  cO (model prog w) A (keyLt' (tuples' true) (.ref a) (.ref b)) Q E s:=by
 rw[qS];obtain⟨o,f,m,_,e⟩:=ha;obtain⟨j,d,n,_,i⟩:=hb;refine wB1 (listItems_at f e (wB1 (listItems_at d i ?_)));rw[bB,bp,bh];refine wB1 (wB1 ?_);dsimp only;refine wB1 (wpAny_eqBool_int ?_);rw[beq_false_of_ne c];simp only[bX,if_true];exact wB1 (oneLt_int (wP1 (wP1 (wP1 h))))
theorem FJ{vs:List cE}{Q:SortKind->cF->Prop}(j:vs≠[])(h:∀ v∈vs,∃ a k t ps,v = .ref a/\IsTup s.heap a (Value.int k t::ps).toArray)(q:Q (tuples' true) s):
  cO (model prog w) A (keyKind' vs.toArray) Q E s:=by
 rw[keyKind'_eq,List.mapM_toArray,<- bind_pure_comp];refine wB1 (wB1 (qL (P:=fun _ r=>∃k t,r=some (Value.int k t)) (fun v l=>?_) fun d C g=>wP1 ?_))
 ·obtain⟨a,k,t,ps,rfl,⟨o,m,p,_,n⟩⟩:=h v l;refine⟨some (.int k t),⟨k,t,rfl⟩,fun Q q=>?_⟩;rw[Aa];refine wB1 (wpAny_typeOf (T:="tuple") ⟨o,m,p⟩ ?_);rw[if_neg (by decide)];refine wB1 (listItems_at m n (wP1 ?_));simpa using q
 ·have y:d.toArray.all (·.isSome)=true:=by
   rw[List.all_toArray,bd];intro r f;obtain⟨v,_,k,t,e⟩:=g r f;rw[e];rfl
  rw[if_pos y];refine wB1 (wpAny_rule ?_);rw[oneTypeOnly'_eq];have G:d.toArray.filterMap id=(d.filterMap id).toArray:=by simp
  rw[G,List.mapM_toArray,<- bind_pure_comp];refine wB1 (wB1 (wB1 (qL (P:=fun _ t=>t=Value.type "int") (fun v l=>?_) fun c b F=>wP1 ?_)))
  ·obtain⟨r,f,e⟩:=av.mp l;obtain⟨H,_,k,t,B⟩:=g r f;rw[B]at e;cases e;exact⟨_,rfl,fun Q q=>wpAny_typeOf (T:="int") (typeIs_int s k t) q⟩
  ·cases c with
   |nil=>
    exfalso;cases d with
    |nil=>exact j (List.length_eq_zero_iff.mp C.symm)
    |cons r d=>
     obtain⟨_,_,k,t,e⟩:=g r mS1;rw[e]at b;simp at b
   |cons t c=>
    have all:∀x∈t::c,x=Value.type "int":=fun x i=>by obtain⟨_,_,z⟩:=F x i;exact z
    have u:=all t mS1;subst u;have D:((Value.type "int"::c).toArray.all fun x=>x == Value.type "int")=true:=by
     rw[List.all_toArray,bd];intro x i;rw[all x i];rfl
    show cO _ _ (pure (if((Value.type "int"::c).toArray.all fun x=>x == Value.type "int")=true then some (Value.type "int")else none)) _ _ _;rw[if_pos D];exact wP1 (wP1 q)
end
def ik:D->Option Int
 | .tup (.int k::_)=>some k
 |_=>none
def jF:List D->Bool
 |[]=>true
 |x::l=>(match ik x with
  |some a=>l.all fun y=>match ik y with
   |some b=>decide (a<b)
   |none=>false
  |none=>false)&&jF l
theorem sk:∀{l:List D} {i:Nat} {x:D},jF l=true->l[i]?=some x -> ∃k,ik x=some k
 |[],i,x,_,h=>by simp at h
 |y::l,0,x,h,e=>by
  cases e;rw[jF,bA1]at h;cases hy:ik y with
  |some k=>exact⟨k,rfl⟩
  |none=>rw[hy]at h;cases h.1
 |y::l,i+1,x,h,e=>by
  rw[jF,bA1]at h;exact sk h.2 (by simpa using e)
theorem lw:∀{l:List D} {i j:Nat} {x y:D} {a b:Int},jF l=true->l[i]?=some x->l[j]?=some y->i<j->ik x=some a->ik y=some b->a<b
 |[],i,j,x,y,_,_,_,h,_,_,_,_=>by simp at h
 |z::l,0,0,_,_,_,_,_,_,_,h,_,_=>by omega
 |z::l,0,j+1,x,y,a,b,h,e1,e2,_,f1,f2=>by
  cases e1;rw[jF,bA1,f1]at h;have:=bd.mp h.1 y (gM1 (by simpa using e2));rw[f2]at this;exact of_decide_eq_true this
 |z::l,i+1,0,_,_,_,_,_,_,_,h,_,_=>by omega
 |z::l,i+1,j+1,x,y,a,b,h,e1,e2,hij,f1,f2=>by
  rw[jF,bA1]at h;exact lw h.2 (by simpa using e1) (by simpa using e2) (by omega) f1 f2
def gy:G1:=fun d S=>match dj S d with
 |some (true,xs)=>match jW xs with
  |some ns=>if ns.length<64 then some (.ref S.length,S++[.lst ((jf ns).map D.int)])else none
  |none=>if(jF xs&&decide (xs.length<64))=true then some (.ref S.length,S++[.lst xs])else none
 |some (false,xs)=>(jW xs).bind fun ns=>if ns.length<64 then some (.ref S.length,S++[.lst ((jf ns).map D.int)])else none
 |none=>none
section
variable{X:Cx}{pins:List (cG×Obj)}{σ:L2.St}{H:Hp}{s:cF}{mu:List cG}
theorem Ef(I:Inv X pins σ H s):∀{ds:List D} {vs:List V} {its:List cE} {i:Nat} {d:D} {k:Int},dh X.K H mu ds vs->dE vs its->ds[i]?=some d->ik d=some k -> ∃b t ps,its[i]?=some (.ref b)/\IsTup s.heap b (Value.int k t::ps).toArray:=by
 intro ds
 induction ds with
 |nil=>intro vs its i d k _ _ h;simp at h
 |cons x ds ih=>
  intro vs its i d k t l h a;cases t with
  |cons m t=>
   cases l with
   |cons n g=>
    cases i with
    |zero=>
     have:x=d:=by simpa using h
     subst this;unfold ik at a;split at a
     ·rename_i o rest;cases a;cases m with
      |tup q c=>
       obtain⟨is,j,it,_⟩:=I.tuple q;cases c with
       |cons rk p=>
        cases rk;cases j with
        |cons f _=>
         obtain⟨tk,rfl⟩:=f;cases n;exact⟨_,tk,_,rfl,it⟩
     ·cases a
    |succ i=>
     obtain⟨b,tk,ps,e,h⟩:=ih t g (by simpa using h) a;exact⟨b,tk,ps,by simpa using e,h⟩
end
section
variable{X:Cx}
theorem wj:ei X (.builtin "sorted") (rN X.K (b1 gy)):=by
 intro pins s σ H xs us Q I r h;obtain⟨x,mu,S,d,r',S',rfl,r1,A,f,hc⟩:=xC h;unfold gy at f;split at f
 ·rename_i ds en;obtain⟨a,vs,rfl,q,t⟩:=db r1 A en;obtain⟨u,rfl,r2⟩:=hH r;cases r2;obtain⟨its,p,ht,hz⟩:=I.list q;split at f
  ·rename_i ns w;split at f
   ·rename_i hl;cases f;have hI:=mq t p w;have B:its.length=ns.length:=by rw[<- p.length,<- t.length,pB w]
    refine sorted_ints ht.isList hI (by lia) fun out J D hp F=>?_;have G:J=jf ns:=qk (hp.trans (gh ns).symm) F (nC ns);subst G;obtain⟨ep,n⟩:=sortedAll_at s.heap its out;have c:=I.hok.fresh (aI s.heap.objs.size);refine⟨.ref (s.heap.objs.size+1),_,I.laid (t':=s.toks) (o:=.lst ((jf ns).map V.int)) (fun b ob q=>sortedAll_old q) (aI _) ?_,rfl,hc _ _ (mu++[_]) (Ext.new_ c) (.ref (gp A.len _)) (A.newL (ke _) c)⟩;refine⟨?_,out.toList,ep,pz D,by rw[bT];exact n⟩;rw[lM1,(gh ns).length_eq,sizeLine_eq];lia
   ·cases f
  ·split at f
   ·rename_i g;cases f;rw[bA1,decide_eq_true_eq]at g;obtain⟨Z,hl⟩:=g;have B:its.length=ds.length:=by rw[<- p.length,<- t.length]
    have m:∀(i:Nat) (v:cE),its[i]?=some v -> ∃b d k t ps,v = .ref b/\ds[i]?=some d/\ik d=some k/\IsTup s.heap b (Value.int k t::ps).toArray:=fun i v hv=>by
     have hi:=(gE1.mp hv).1;have hd:ds[i]?=some ds[i]:=gG1 (by omega);obtain⟨k,W⟩:=sk Z hd;obtain⟨b,tk,ps,e,it⟩:=Ef I t p hd W;rw[hv]at e;cases e;exact⟨b,_,k,tk,ps,rfl,hd,W,it⟩
    have uq:∀{b:cG} {k l:Int} {t u:Tok} {ps qs:List cE},IsTup s.heap b (Value.int k t::ps).toArray->IsTup s.heap b (Value.int l u::qs).toArray->k=l:=fun h1 h2=>by
     obtain⟨o,w,_,_,Y⟩:=h1;obtain⟨o2,e2,_,_,L⟩:=h2;rw[w]at e2;cases e2;rw[Y]at L;injection L with L _;have:=congrArg ar L;injection this with h1 _;injection h1
    refine nB (.inl ht.isList) (by omega) fun P hP E' h' eh C=>?_;refine Bh (s:={s with heap:=h'}) (κ:=tuples' true) (ws:=its) C (by omega) (List.Perm.refl _) (fun R k2 h2=>?_) ?_
    ·have keep:∀ b o,s.heap.get? b=some o->R.get? b=some o:=fun b o e=>by
      have:=sU (vs:=its) e;rw[<- eh]at this;exact k2 b o this.1 this.2
     have kt:∀{b:cG} {xs:Array cE},IsTup s.heap b xs->IsTup R b xs:=fun h=>h.keeps keep;refine⟨⟨?_,?_,?_⟩,fun Q q=>?_⟩
     ·refine List.pairwise_iff_getElem.mpr fun i j hi hj O e=>?_;obtain⟨b,Y,U,t1,K,w,N,M,T⟩:=m i _ (gG1 hi);obtain⟨b2,L,k3,t2,ps2,e2,f2,g2,i2⟩:=m j _ (gG1 hj);rw[w,e2]at e;cases e;have:=lw Z N f2 O M g2;have:=uq T i2;omega
     ·rw[pairsOf_toList];have:(its.zip its).map (·.1)=its:=List.map_fst_zip (nR1 _);rw[this]
     ·intro x y i j hx hy O E Q q;obtain ⟨b,Y,U,t1,K,rfl,N,M,T⟩:=m i _ hx;obtain ⟨b2,L,k3,t2,ps2,rfl,f2,g2,i2⟩:=m j _ hy;have W:U≠k3/\decide (U<k3)=decide (i<j):=by
       by_cases z:i<j
       ·have:=lw Z N f2 z M g2;exact⟨by omega,by rw[decide_eq_true z,decide_eq_true this]⟩
       ·have:=lw Z f2 N (by omega) g2 M;exact⟨by omega,by rw[decide_eq_false z,decide_eq_false (by omega)]⟩
      exact FH (kt T) (kt i2) W.1 (by rw[W.2];exact q)
     ·refine FJ (fun z=>by rw[z]at h2;simp at h2) (fun v hv=>?_) q;obtain⟨i,hi⟩:=aX hv;obtain⟨b,Y,U,t1,K,rfl,N,M,T⟩:=m i _ hi;exact⟨b,U,t1,K,rfl,kt T⟩
    ·have e0:sortedHeap h' (s.heap.objs.size+1) its its.toArray=sortedAll s.heap its its.toArray:=by rw[eh];rfl
     show P _ {s with heap:=sortedHeap h' (s.heap.objs.size+1) its its.toArray};rw[e0];refine hP its.toArray ?_;obtain⟨ep,n⟩:=sortedAll_at s.heap its its.toArray;have c:=I.hok.fresh (aI s.heap.objs.size);refine⟨.ref (s.heap.objs.size+1),_,I.laid (t':=s.toks) (o:=.lst vs) (fun b ob q=>sortedAll_old q) (aI _) ?_,rfl,hc _ _ (mu++[_]) (Ext.new_ c) (.ref (gp A.len _)) (A.newL t c)⟩;refine⟨?_,its,ep,p,n⟩;rw[p.length,sizeLine_eq];lia
   ·cases f
 ·rename_i ds en;obtain⟨ns,w,f⟩:=oB1.mp f;split at f
  ·rename_i hl;cases f;obtain⟨a,vs,rfl,q,t⟩:=db r1 A en;obtain⟨u,rfl,r2⟩:=hH r;cases r2;obtain⟨its,p,ht,hz⟩:=I.tuple q;have hI:=mq t p w;have B:its.length=ns.length:=by rw[<- p.length,<- t.length,pB w]
   refine nB (.inr ht) (by omega) fun P hP E' h' eh C=>?_;refine list_sort_tree (s:={s with heap:=h'}) C hI (by omega) fun out J D hp F=>?_;have e0:sortedHeap h' (s.heap.objs.size+1) its out=sortedAll s.heap its out:=by rw[eh];rfl
   show P _ {s with heap:=sortedHeap h' (s.heap.objs.size+1) its out};rw[e0];refine hP out ?_;have G:J=jf ns:=qk (hp.trans (gh ns).symm) F (nC ns);subst G;obtain⟨ep,n⟩:=sortedAll_at s.heap its out;have c:=I.hok.fresh (aI s.heap.objs.size);refine⟨.ref (s.heap.objs.size+1),_,I.laid (t':=s.toks) (o:=.lst ((jf ns).map V.int)) (fun b ob q=>sortedAll_old q) (aI _) ?_,rfl,hc _ _ (mu++[_]) (Ext.new_ c) (.ref (gp A.len _)) (A.newL (ke _) c)⟩;refine⟨?_,out.toList,ep,pz D,by rw[bT];exact n⟩;rw[lM1,(gh ns).length_eq,sizeLine_eq];lia
  ·cases f
 ·cases f
end
section
variable{X:Cx}{f:cG}{fd:cQ}{ps:List Str}{k n:Nat}{sp:Sp}{dvs:List V}{ds:List cE}{CX:xI}{E:XK}{t:TA}{e:Expr}{es:List Expr}{p pos:Pos}{i:Nat}{v x:Str}
end
section
variable{prog:cH}{w:cJ}{K:Type} [DecidableEq K] {knd:HeapKind prog w K}{A:cI}{E:cE->cF->Prop}{s:cF}
end
section
variable{X:Cx}
end
theorem Ed(m i:Nat):SetTable.runEnd m i-i<=9:=by unfold SetTable.runEnd;split<;>lia
theorem yE(m i:Nat):i<=SetTable.runEnd m i:=by unfold SetTable.runEnd;split<;>lia
theorem G9{m i:Nat}(h:i<=m):SetTable.runEnd m i<=m:=by unfold SetTable.runEnd;split<;>lia
theorem vJ(m i b:Nat):(SetTable.leap m i b).1<=m:=by
 unfold SetTable.leap;have:=Nat.mod_lt (i*5+1+b/32) (bt m);dsimp only;lia
theorem sw(m:Nat):∀n i b:Nat,(fO m n i b).length<=10*n
 |0,_,_=>by simp[fO]
 |n+1,i,b=>by
  rw[fO,lA1,List.length_range'];have:=sw m n (SetTable.leap m i b).1 (SetTable.leap m i b).2;have:=Ed m i;lia
theorem vo(m:Nat):∀n i b:Nat,i<=m -> ∀x∈fO m n i b,x<=m
 |0,_,_,_,x,h=>by simp[fO]at h
 |n+1,i,b,hi,x,h=>by
  rw[fO,am]at h;rcases h with h|h
  ·rw[List.mem_range'_1]at h;have:=G9 hi;have:=yE m i
   lia
  ·exact vo m n _ _ (vJ m i b) x h
def Bn(m:Nat):Nat->Nat->Nat->Nat×Nat
 |0,i,b=>(i,b)
 |n+1,i,b=>Bn m n (SetTable.leap m i b).1 (SetTable.leap m i b).2
theorem zB(m:Nat):∀n i b:Nat,(Bn m n i b).2=b/32^n
 |0,i,b=>by simp[Bn]
 |n+1,i,b=>by
  rw[Bn,zB m n];show b/32/32^n=_;rw[Nat.div_div_eq_div_mul,Nat.pow_succ,Nat.mul_comm]
theorem zC(m:Nat):∀n i b:Nat,i<=m->(Bn m n i b).1<=m
 |0,i,b,h=>h
 |n+1,i,b,h=>by rw[Bn];exact zC m n _ _ (vJ m i b)
theorem pi(m:Nat):∀n k i b x:Nat,x∈fO m k (Bn m n i b).1 (Bn m n i b).2->x∈fO m (n+k) i b
 |0,k,i,b,x,h=>by rw[bu];exact h
 |n+1,k,i,b,x,h=>by
  rw[Bn]at h;rw[show n+1+k=(n+k)+1 by lia,fO];exact mA1 _ (pi m n k _ _ x h)
def vh(m:Nat):Nat->Nat->Nat
 |0,i=>i
 |n+1,i=>vh m n ((i*5+1)%(m+1))
def yD(m:Nat):Nat->Nat->List Nat
 |0,_=>[]
 |k+1,i=>i::yD m k ((i*5+1)%(m+1))
theorem vO{m j:Nat}:∀{k i:Nat},j∈yD m k i -> ∃n,n<k/\vh m n i=j
 |0,i,h=>by simp[yD]at h
 |k+1,i,h=>by
  rw[yD,ak]at h;rcases h with h|h
  ·exact⟨0,bt k,h.symm⟩
  ·obtain⟨n,a,e⟩:=vO h;exact⟨n+1,Nat.succ_lt_succ a,e⟩
theorem q7(m:Nat):∀a b i:Nat,vh m (a+b) i=vh m b (vh m a i)
 |0,b,i=>by rw[bu];rfl
 |a+1,b,i=>by rw[show a+1+b=(a+b)+1 by lia,vh,vh,q7 m a b]
theorem q0(m:Nat):∀n k i:Nat,n<k->vh m n i∈fO m k i 0
 |0,k+1,i,_=>by rw[vh,fO];exact ao _ (List.mem_range'_1.mpr ⟨nR1 _,by lia⟩)
 |n+1,k+1,i,h=>by
  rw[vh,fO];refine mA1 _ ?_;have e:SetTable.leap m i 0=((i*5+1)%(m+1),0):=rfl;rw[e];exact q0 m n k _ (Nat.lt_of_succ_lt_succ h)
def G8(m:Nat):Bool:=((List.range (m+1)).all fun j=>(yD m (m+1) 0).contains j)&&vh m (m+1) 0 == 0
theorem wM.orb{m:Nat}(h:wM m):G8 m=true:=by
 rcases h with rfl|rfl|rfl
 ·decide+kernel
 ·decide+kernel
 ·decide+kernel
theorem wM.full{m:Nat}(h:wM m){i j:Nat}(hi:i<=m)(k:j<=m):j∈fO m (m+2) i 0:=by
 have f:=h.orb;unfold G8 at f;rw[bA1,bd,beq_iff_eq]at f;have at_:∀x,x<=m -> ∃n,n<m+1/\vh m n 0=x:=fun x g=>vO (by simpa using f.1 x (ah.mpr (Nat.lt_succ_of_le g)));obtain⟨a,o,c⟩:=at_ i hi;obtain⟨b,l,d⟩:=at_ j k;rcases bD b a with z|z
 ·have e:vh m (b+(m+1)-a) i=j:=by
   rw[<- c,<- q7,show a+(b+(m+1)-a)=(m+1)+b by lia,q7,f.2,d]
  rw[<- e];exact q0 m _ _ i (by lia)
 ·have e:vh m (b-a) i=j:=by rw[<- c,<- q7,show a+(b-a)=b by lia,d]
  rw[<- e];exact q0 m _ _ i (by lia)
theorem CZ(h:Int):SetTable.bits h<2^64:=by
 unfold SetTable.bits;have h1:=Int.emod_nonneg h (show(2^64:Int)≠0 by decide);have h2:=Int.emod_lt_of_pos h (show(0:Int)<2^64 by decide);have:((h%(2^64:Int)).toNat:Int)<2^64:=by rw[Int.toNat_of_nonneg h1];exact h2
 exact_mod_cast this
theorem u8{m:Nat}(hm:wM m)(h:Int){j:Nat}(a:j<=m):j∈mU m h:=by
 unfold mU SetTable.turns;rw[show m+15=13+(m+2) by lia];apply pi;rw[zB,Nat.div_eq_of_lt (aQ (CZ h) (by decide))];have hi:=zC m 13 (SetTable.bits h%(m+1)) (SetTable.bits h) (by have:=Nat.mod_lt (SetTable.bits h) (bt m);lia);exact hm.full hi a
theorem u7(m:Nat)(h:Int):(mU m h).length<=10*SetTable.turns m:=sw _ _ _ _
theorem xU{m:Nat}(h:Int):∀x∈mU m h,x<=m:=vo _ _ _ _ (by have:=Nat.mod_lt (SetTable.bits h) (bt m);lia)
def Jp(m:Nat)(p:SetTable.Probe):SetTable.Probe:=SetTable.advance {SetTable.fresh 0 0 true with mask:=m} p
def jD(m:Nat):SetTable.Probe->List Nat->Prop
 |_,[]=>True
 |p,x::L=>p.j=x/\p.dummy=none/\jD m (Jp m p) L
theorem nA(m i b:Nat)(L:List Nat)(h:jD m {j:=(SetTable.leap m i b).1,more:=SetTable.runEnd m (SetTable.leap m i b).1-(SetTable.leap m i b).1,i:=(SetTable.leap m i b).1,perturb:=(SetTable.leap m i b).2,dummy:=none} L):
  ∀more j:Nat,jD m {j,more,i,perturb:=b,dummy:=none} (aU j (more+1)++L)
 |0,j=>by
  refine⟨rfl,rfl,?_⟩;exact h
 |more+1,j=>by
  rw[List.range'_succ];refine⟨rfl,rfl,?_⟩;exact nA m i b L h more (j+1)
theorem nz(m:Nat):∀n i b:Nat,jD m {j:=i,more:=SetTable.runEnd m i-i,i,perturb:=b,dummy:=none} (fO m n i b)
 |0,_,_=>trivial
 |n+1,i,b=>by
  rw[fO];exact nA m i b _ (nz m n _ _) _ _
theorem wG(t:SetTable)(h:Int):jD t.mask (t.probeStart h) (mU t.mask h):=nz _ _ _ _
theorem ot{xs:Array Nat}(hr:ww xs){j:Nat}(f:j∈xs.toList):xs[SetTable.below xs j]?=some j:=by
 have b:=tS hr j;obtain⟨k,a⟩:=aX f;rw[aT1]at a;have c:¬ k<SetTable.below xs j:=fun z=>by have:=b.lo _ _ a z;lia
 have d:SetTable.below xs j<xs.size:=by have:=(Array.getElem?_eq_some_iff.mp a).1;lia
 have e:=aG1 d;have h1:=b.hi _ _ e (nR1 _);rcases bD (SetTable.below xs j) k with z|z
 ·have:=hr.lt z e a;lia
 ·have:k=SetTable.below xs j:=by lia
  rw[<- this];exact a
theorem p7{t:SetTable}(hr:ww t.place){j:Nat}(a:j∈t.place.toList):t.slot j = .live (SetTable.below t.place j):=by
 unfold SetTable.slot;dsimp only;rw[ot hr a];simp
theorem yu{t:SetTable}(hd:t.dummies = #[]){j:Nat}(a:j∉t.place.toList):t.slot j = .empty:=by
 unfold SetTable.slot;have:(t.place[SetTable.below t.place j]? == some j)=false:=by
  rw[beq_eq_false_iff_ne];intro z;rw[<- aT1]at z;exact a (gM1 z)
 dsimp only;rw[this,sH hd];simp
theorem vW{t:SetTable}{f:Nat->Int}{h:Int}(hr:ww t.place)(hd:t.dummies = #[]):∀ (L:List Nat) (p:SetTable.Probe) (n:Nat),jD t.mask p L->L.length<=n->(∃ x∈L,x∉t.place.toList) ->
  ∃b x a,L=b++x::a/\(∀y∈b,y∈t.place.toList/\f (SetTable.below t.place y)≠h) /\
   ((x∉t.place.toList/\SetTable.probe.go t f h n p=some (.empty x none))\/(∃q,x∈t.place.toList/\f (SetTable.below t.place x)=h/\SetTable.probe.go t f h n p=some (.candidate x (SetTable.below t.place x) q)/\jD t.mask q a))
 |[],p,n,_,_,d=>by obtain⟨x,d,_⟩:=d;cases d
 |x::L,p,0,_,hl,_=>by simp at hl
 |x :: L,p,n+1,j,hl,d=>by
  obtain⟨rfl,r,j⟩:=j;rw[SetTable.probe.go];by_cases c:p.j∈t.place.toList
  ·rw[p7 hr c];dsimp only;by_cases i:f (SetTable.below t.place p.j)=h
   ·refine⟨[],p.j,L,rfl,(fun y g=>by cases g),.inr ⟨t.advance p,c,i,?_,j⟩⟩;rw[i];simp
   ·have o:(f (SetTable.below t.place p.j) == h)=false:=beq_eq_false_iff_ne.mpr i;rw [o];obtain ⟨y,g,l⟩:=d;have k:∃ x∈L,x∉t.place.toList:=by
     rcases ak.mp g with e|e
     ·subst e;exact absurd c l
     ·exact⟨y,e,l⟩
    obtain⟨b,x,a,e,h1,h2⟩:=vW hr hd L (t.advance p) n j (by simpa using hl) k;refine⟨p.j::b,x,a,by rw[e];rfl,fun z m=>?_,?_⟩
    ·rcases ak.mp m with e|e
     ·subst e;exact⟨c,i⟩
     ·exact h1 z e
    ·simpa using h2
  ·rw[yu hd c];refine⟨[],p.j,L,rfl,(fun y g=>by cases g),.inl ⟨c,?_⟩⟩;rw[r]
theorem vH{α:Type}[DecidableEq α]:∀(l l':List α),l.Nodup->(∀x∈l,x∈l')->l.length<=l'.length
 |[],_,_,_=>aR _
 |x::l,l',hn,hs=>by
  obtain⟨h1,h2⟩:=az.mp hn;have b:x∈l':=hs x (mS1);have:=vH l (l'.erase x) h2 fun y c=>by
   have a:y≠x:=fun z=>by subst z;exact h1 c
   exact(List.mem_erase_of_ne a).mpr (hs y (mC1 _ c))
  rw[List.length_erase_of_mem b]at this;have:=List.length_pos_of_mem b;rw[lC1];lia
theorem Bp{m:Nat}(occ:List Nat)(b:occ.length<=m):∃j,j<=m/\j∉occ:=by
 apply Classical.byContradiction;intro z;have:=vH (List.range (m+1)) occ List.nodup_range fun x a=>Classical.byContradiction fun q=>z ⟨x,by have:=ah.mp a;lia,q⟩;rw[bY]at this;lia
theorem wL.more{m:Nat}{occ a:List Nat}{h:Int}{j:Nat}(r:wL m occ h j)(k:∀x∈occ,x∈a):wL m a h j:=by
 obtain⟨c,b,e,f⟩:=r;exact⟨c,b,e,fun y d=>k y (f y d)⟩
theorem sTT.fits{es:Array (Int×cE)}{t:SetTable}(h:sTT es t):t.fits es.size=true:=by
 unfold SetTable.fits SetTable.fill;rw[h.du,h.sz];have:=h.fl;simp;exact this
theorem AU{α β:Type}(a:Array α)(b:Array β)(p:Nat)(x:α)(y:β)(c:a.size=b.size):(SetTable.insertAt a p x).toList.zip (SetTable.insertAt b p y).toList=(a.toList.zip b.toList).take p++(x,y)::(a.toList.zip b.toList).drop p:=by
 rw[jX,jX,List.zip_append (by rw[aD,aD];simp[c]),bB];rw[show List.take p (a.toList.zip b.toList)=(a.toList.take p).zip (b.toList.take p) by simp only[List.zip_eq_zipWith,List.take_zipWith]];rw[show List.drop p (a.toList.zip b.toList)=(a.toList.drop p).zip (b.toList.drop p) by simp only[List.zip_eq_zipWith,List.drop_zipWith]]
theorem ng{α:Type}(a:Array α)(p:Nat)(x y:α):y∈(SetTable.insertAt a p x).toList↔y=x\/y∈a.toList:=by
 rw[jX,am,ak];have:=bZ p a.toList;constructor
 ·rintro(h|h|h)
  ·exact .inr (List.mem_of_mem_take h)
  ·exact .inl h
  ·exact .inr (List.mem_of_mem_drop h)
 ·rintro(h|h)
  ·exact .inr (.inl h)
  ·rw[<- this,am]at h;rcases h with h|h
   ·exact .inl h
   ·exact .inr (.inr h)
theorem hK{α:Type}(a:Array α)(p:Nat)(x:α):(SetTable.insertAt a p x).size=a.size+1:=by
 rw[<- aq,jX,lA1,lC1,<- aT,<- lA1,bZ,aq]
theorem sTT.put{es:Array (Int×cE)}{t:SetTable}(h:sTT es t){j:Nat}{e:Int×cE}(g:j<=t.mask)(hn:j∉t.place.toList)(hr:wL t.mask t.place.toList e.1 j)(hs:es.size+1<=t.mask):sTT (SetTable.insertAt es (t.put j).2 e) (t.put j).1:=by
 have f:(t.put j).1.mask=t.mask:=rfl;have d:(t.put j).1.place=SetTable.insertAt t.place (SetTable.below t.place j) j:=rfl;refine⟨h.mks,?_,?_,?_,?_,?_,?_⟩
 ·rw[d];exact Bq h.up fun z=>hn (by rw[<- aT1]at z;exact gM1 z)
 ·show(if SetTable.has t.dummies j=true then _ else t.dummies) = #[];rw[sH h.du,if_neg (by decide)];exact h.du
 ·rw[d,hK,hK,h.sz]
 ·intro x c;rw[d,ng]at c;rcases c with rfl|c
  ·exact g
  ·exact h.le x c
 ·rw[hK,f];exact hs
 ·rw[d,f];show∀z∈(SetTable.insertAt t.place (SetTable.below t.place j) j).toList.zip (SetTable.insertAt es (SetTable.below t.place j) e).toList,_;rw[AU _ _ _ _ _ h.sz];have a:∀x∈t.place.toList,x∈(SetTable.insertAt t.place (SetTable.below t.place j) j).toList:=fun x c=>(ng _ _ _ _).mpr (.inr c);intro z b;rw[am,ak]at b;rcases b with b|rfl|b
  ·exact(h.rc z (List.mem_of_mem_take b)).more a
  ·exact hr.more a
  ·exact(h.rc z (List.mem_of_mem_drop b)).more a
theorem sTT.fresh(l:Bool):sTT #[] (SetTable.fresh 0 0 l):=⟨.inl rfl,.nil,rfl,rfl,(fun j h=>by simp[SetTable.fresh]at h),aR _,fun z h=>by simp[SetTable.fresh]at h⟩
theorem v3(m:Nat)(a:Array (Option Nat)):∀n i b:Nat,SetTable.layClean.free m a n i b=(fO m n i b).find? fun j=>(a.getD j (some 0)).isNone
 |0,i,b=>by rw[SetTable.layClean.free,fO];rfl
 |n+1,i,b=>by
  rw[SetTable.layClean.free,fO,List.find?_append,List.range'_eq_map_range,List.find?_map];rw[show SetTable.runEnd m i+1-i=SetTable.runEnd m i-i+1 by have:=yE m i;lia];show(match List.find? (fun k=>(a.getD (i+k) (some 0)).isNone) (List.range (SetTable.runEnd m i-i+1))with
   |some k=>some (i+k)
   |none=>_)=(Option.map (fun k=>i+k) (List.find? (fun k=>(a.getD (i+k) (some 0)).isNone) (List.range (SetTable.runEnd m i-i+1)))).or _
  cases List.find? (fun k=>(a.getD (i+k) (some 0)).isNone) (List.range (SetTable.runEnd m i-i+1))with
  |some k=>rfl
  |none=>exact v3 m a n _ _
structure sLO (m:Nat)(hs:List Int)(ow:Array (Option Nat)):Prop where
 sz:ow.size=m+1
 ct:ow.toList.countP (·.isSome)=hs.length
 all:∀q:Nat,q<hs.length -> ∃j:Nat,ow[j]?=some (some q)
 rc:∀j q:Nat,ow[j]?=some (some q) -> ∃h,hs[q]?=some h /\ ∃pre post,mU m h=pre++j::post /\ ∀y∈pre,∃q':Nat,ow[y]?=some (some q')
theorem pH(k:Nat):∀(l:List (Option Nat)) (j:Nat),l[j]?=some none->(l.set j (some k)).countP (·.isSome)=l.countP (·.isSome)+1
 |[],j,h=>by simp at h
 |x::l,0,h=>by
  have:x=none:=by simpa using h
  subst this;simp
 |x::l,j+1,h=>by
  rw[b0,List.countP_cons,List.countP_cons,pH k l j (by simpa using h)];lia
theorem Cn{m:Nat}{hs:List Int}{b:Array (Option Nat)}(hm:wM m)(h:sLO m hs b)(J:hs.length<=m)(x:Int):
  ∃j,SetTable.layClean.free m b (SetTable.turns m) (SetTable.bits x%(m+1)) (SetTable.bits x)=some j/\sLO m (hs++[x]) (b.setIfInBounds j (some hs.length)):=by
 rw[v3];show∃j,(mU m x).find? _=some j/\_;have D:∃j:Nat,b[j]?=some none:=by
  apply Classical.byContradiction;intro z;have:b.toList.countP (·.isSome)=b.toList.length:=List.countP_eq_length.mpr fun a G=>by
   obtain⟨j,A⟩:=aX G;cases a with
   |some q=>rfl
   |none=>exact absurd ⟨j,by rw[<- aT1];exact A⟩ z
  rw[h.ct,show b.toList.length=b.size from rfl,h.sz]at this;lia
 obtain⟨u,v⟩:=D;have o:u<=m:=by have:=(Array.getElem?_eq_some_iff.mp v).1;rw[h.sz]at this;lia
 cases hf:(mU m x).find? fun j=>(b.getD j (some 0)).isNone with
 |none=>
  exfalso;have:=List.find?_eq_none.mp hf u (u8 hm x o);rw[b4,v]at this;simp at this
 |some j=>
  obtain⟨r,p,l,e,H⟩:=List.find?_eq_some_iff_append.mp hf;have w:=xU (m:=m) x;have A:j<=m:=w j (by rw[e];simp);have f:j<b.size:=by rw[h.sz];lia
  have at_:∀y,y<=m->(b.getD y (some 0)).isNone=false -> ∃q,b[y]?=some (some q):=fun y g i=>by
   have n:y<b.size:=by rw[h.sz];lia
   rw[b4,aG1 n]at i;rw[aG1 n];cases hc:b[y]with
   |none=>rw[hc]at i;cases i
   |some q=>exact⟨q,rfl⟩
  have C:b[j]?=some none:=by
   rw[b4,aG1 f]at r;rw[aG1 f];cases hc:b[j]with
   |none=>rfl
   |some q=>rw[hc]at r;cases r
  have keep:∀y q,b[y]?=some (some q)->(b.setIfInBounds j (some hs.length))[y]?=some (some q):=fun y q c=>by
   have:j≠y:=fun z=>by subst z;rw[C]at c;cases c
   rw[Array.getElem?_setIfInBounds_ne this];exact c
  have new:(b.setIfInBounds j (some hs.length))[j]?=some (some hs.length):=by
   rw[Array.getElem?_setIfInBounds_self_of_lt f]
  refine⟨j,rfl,?_,?_,?_,?_⟩
  ·rw[Array.size_setIfInBounds];exact h.sz
  ·rw[Array.toList_setIfInBounds,pH _ _ _ (by rw[aT1];exact C),h.ct];simp
  ·intro q i;rw[lA1,aJ]at i;rcases bD q hs.length with z|z
   ·obtain⟨y,c⟩:=h.all q z;exact⟨y,keep y q c⟩
   ·have:q=hs.length:=by lia
    subst this;exact⟨j,new⟩
  ·intro y q c;by_cases g:j=y
   ·subst g;rw[new]at c;cases c;refine⟨x,by simp,p,l,e,fun y g=>?_⟩;obtain⟨q,eq⟩:=at_ y (w y (by rw[e];simp[g])) (by have:=H y g;simpa using this);exact⟨q,keep y q eq⟩
   ·rw[Array.getElem?_setIfInBounds_ne g]at c;obtain⟨h',t,k,d,E,I⟩:=h.rc y q c;refine⟨h',?_,k,d,E,fun z F=>?_⟩
    ·rw[gL1 (gE1.mp t).1];exact t
    ·obtain⟨B,s⟩:=I z F;exact⟨B,keep z B s⟩
def vi(m:Nat)(acc:Option (Array (Option Nat)×Nat))(h:Int):Option (Array (Option Nat)×Nat):=do
 let (owner,k)<-acc
 let j<-SetTable.layClean.free m owner (SetTable.turns m) (SetTable.bits h%(m+1)) (SetTable.bits h)
 pure (owner.setIfInBounds j (some k),k+1)
theorem vG{m:Nat}(hm:wM m):∀(rest hs:List Int) (b:Array (Option Nat)),sLO m hs b->hs.length+rest.length<=m+1 -> ∃a,rest.foldl (vi m) (some (b,hs.length))=some (a,hs.length+rest.length)/\sLO m (hs++rest) a
 |[],hs,b,h,_=>⟨b,rfl,by rw[ay];exact h⟩
 |x::rest,hs,b,h,hl=>by
  rw[lC1]at hl;obtain⟨j,e,h'⟩:=Cn hm h (by lia) x;obtain⟨a,d,c⟩:=vG hm rest (hs++[x]) _ h' (by rw[lA1,aJ];lia);refine⟨a,?_,by rw[bj]at c;exact c⟩;rw[bM];have:vi m (some (b,hs.length)) x=some (b.setIfInBounds j (some hs.length),(hs++[x]).length):=by
   show(SetTable.layClean.free m b (SetTable.turns m) (SetTable.bits x%(m+1)) (SetTable.bits x) >>= fun j=>_)=_;rw[e,lA1,aJ];rfl
  rw[this,d,lA1,aJ,lC1]
  congr 2;lia
theorem FD{m:Nat}(hm:wM m)(hs:Array Int)(d:hs.size<=m+1):∃ow,SetTable.layClean m hs=some ow/\sLO m hs.toList ow:=by
 have b:sLO m [] (Array.replicate (m+1) none):=by
  refine⟨Array.size_replicate,?_,(fun q h=>absurd h (ba _)),fun j q h=>?_⟩
  ·rw[Array.toList_replicate,aO,List.countP_eq_zero];intro a c;rw[(bg.mp c).2];simp
  ·exfalso;rw[Array.getElem?_replicate]at h;split at h<;>simp at h
 obtain⟨ow,e,h⟩:=vG hm hs.toList [] _ b (by simpa using d);refine⟨ow,?_,by simpa using h⟩;unfold SetTable.layClean;rw[<- Array.foldl_toList];show Option.map _ (List.foldl (vi m) (some (Array.replicate (m+1) none,0)) hs.toList)=_;have e:List.foldl (vi m) (some (Array.replicate (m+1) none,0)) hs.toList=_:=e;rw[e];rfl
theorem tm{α β:Type}(f:α->Option β)(g:α->β):∀l:List α,(∀a∈l,f a=some (g a))->l.filterMap f=l.map g
 |[],_=>rfl
 |a::l,h=>by
  rw[aj,h a mS1];dsimp only;rw[mP1,tm f g l fun b c=>h b (mC1 _ c)]
theorem u3{α β γ:Type}(f:α->β)(g:α->γ):∀l:List α,(l.map f).zip (l.map g)=l.map fun a=>(f a,g a)
 |[]=>rfl
 |a::l=>by rw[mP1,mP1,bB,u3 f g l];rfl
theorem la{α β:Type}{f g:α->Option β}:∀l:List α,(∀a∈l,f a=g a)->l.filterMap f=l.filterMap g
 |[],_=>rfl
 |a::l,h=>by rw[aj,aj,h a mS1,la l fun b c=>h b (mC1 _ c)]
theorem sQ:∀(l:List (Option Nat)) (s:Nat),((aU s l.length).filterMap fun j=>(l.getD (j-s) none).map (j,·)).length=l.countP (·.isSome)
 |[],s=>rfl
 |x::l,s=>by
  rw[lC1,List.range'_succ,aj,List.countP_cons];have ih:=sQ l (s+1);have e:(List.filterMap (fun j=>Option.map (fun x=>(j,x)) ((x::l).getD (j-s) none)) (aU (s+1) l.length))=List.filterMap (fun j=>(l.getD (j-(s+1)) none).map (j,·)) (aU (s+1) l.length):=by
   refine la _ fun j a=>?_;rw[List.mem_range'_1]at a;rw[show j-s=(j-(s+1))+1 by lia];rfl
  rw[e,b5];cases x with
  |none=>simpa using ih
  |some q=>simpa using ih
theorem Cs{m fi mo:Nat}{l p:Bool}(hm:wM m){es:Array (Int×cE)}(I:es.size<=m):∃u b,SetTable.laid m fi mo l p (es.map (·.1))=some (u,b)/\(b.filterMap (es[·]?)).size=es.size/\sTT (b.filterMap (es[·]?)) u/\(∀e,e∈(b.filterMap (es[·]?)).toList↔e∈es.toList)/\u.led=l/\u.mask=m:=by
 obtain⟨g,e,h⟩:=FD hm (es.map (·.1)) (by rw[bR];lia);have c:(es.map (·.1)).toList.length=es.size:=by simp
 generalize s:(List.range (m+1)).filterMap (fun j=>(g.getD j none).map (j,·))=a;refine⟨{mask:=m,place:=(a.map (·.1)).toArray,dummies:= #[],finger:=fi,led:=l,moves:=mo,plain:=p},(a.map (·.2)).toArray,?_,?_⟩
 ·unfold SetTable.laid;rw[e,<- s];rfl
 have mem:∀j q,(j,q)∈a↔g[j]?=some (some q):=fun j q=>by
  rw[<- s,av];constructor
  ·rintro⟨J,k,e⟩;obtain⟨C,eq,e⟩:=oM1.mp e;cases e;rw[ah]at k;have n:j<g.size:=by rw[h.sz];exact k
   rw[b4,aG1 n]at eq;rw[aG1 n];have:g[j]=some q:=by simpa using eq
   rw[this]
  ·intro e;have n:=(Array.getElem?_eq_some_iff.mp e).1;refine⟨j,ah.mpr (by rw[h.sz]at n;exact n),?_⟩;rw[b4,e];rfl
 have lt:∀z∈a,z.2<es.size:=fun z f=>by
  obtain⟨h',r,_⟩:=h.rc z.1 z.2 ((mem _ _).mp f);have:=(gE1.mp r).1;rw[c]at this;exact this
 have A:a.length=es.size:=by
  have:=sQ g.toList 0;rw[show g.toList.length=g.size from rfl,h.sz,h.ct,c]at this;rw[<- this,<- s,List.range_eq_range']
  congr 1
  refine la _ fun j _=>?_;simp[b4]
 have i:((a.map (·.2)).toArray.filterMap (es[·]?)).toList=a.map fun z=>(es[z.2]?).getD (0,.none):=by
  rw[Array.toList_filterMap];rw[List.filterMap_map];exact tm _ _ _ fun z f=>by
   show es[z.2]?=_;rw[aG1 (lt z f)];rfl
 have sz:((a.map (·.2)).toArray.filterMap (es[·]?)).size=es.size:=by rw[<- aq,i,lM1,A]
 refine⟨sz,⟨hm,?_,rfl,?_,?_,?_,?_⟩,fun e=>?_,rfl,rfl⟩
 ·unfold ww;rw[<- s];exact List.pairwise_lt_range.sublist (by simpa using rn (fun j=>g.getD j none) (List.range (m+1)))
 ·rw[sz,sT1,lM1,A]
 ·intro j t;simp only[bQ]at t;obtain⟨z,f,rfl⟩:=t;have:=(Array.getElem?_eq_some_iff.mp ((mem z.1 z.2).mp f)).1;rw[h.sz]at this;show _<=m;lia
 ·rw[sz];exact I
 ·rw [i];show ∀ z∈(a.map (·.1)).zip _,wL m (a.map (·.1)) _ _;rw [u3];intro z f;obtain ⟨y,B,rfl⟩:=bQ.mp f;obtain ⟨h',r,v,o,H,G⟩:=h.rc y.1 y.2 ((mem _ _).mp B);have:((es[y.2]?).getD (0,.none)).1=h':=by
   have d:=lt y B;rw[Array.toList_map,gP1,aT1,aG1 d]at r;rw[aG1 d];simpa using r
  rw[this];exact⟨v,o,H,fun x F=>by obtain⟨C,D⟩:=G x F;exact bQ.mpr ⟨(x,C),(mem _ _).mpr D,rfl⟩⟩
 ·rw[i,bQ];constructor
  ·rintro⟨z,f,rfl⟩;rw[aG1 (lt z f)];simp
  ·intro E;obtain⟨q,w⟩:=aX E;rw[aT1]at w;have d:=(Array.getElem?_eq_some_iff.mp w).1;obtain⟨j,t⟩:=h.all q (by rw[c];exact d);exact⟨(j,q),(mem _ _).mpr t,by rw[w];rfl⟩
theorem F0{prog:cH}{w:cJ}:∀(n:Nat) {k:TK} {A:cI} {E:cE->cF->Prop} {s:cF} {v:cE} {Q:Bool->cF->Prop},k.dep<=n->eE s.heap k v->Q true s->cO (model prog w) A (hashByValue n v) Q E s:=by
 intro n
 induction n with
 |zero=>
  intro k A E s v Q c r h;cases r with
  |non=>exact wP1 h
  |int i t=>exact wP1 h
  |tup _ _ _ _=>simp[TK.dep]at c
 |succ n ih=>
  intro k A E s v Q c r h;cases r with
  |non=>exact wP1 h
  |int i t=>exact wP1 h
  | @tup a o b m xs f j g l=>
   have z:s.TypeIs (.ref a) "tuple":=⟨o,f,j⟩;rw[TK.dep]at c;unfold hashByValue;refine wB1 (wpAny_specialOf z F.slot_tuple_hash.lookup ?_);show cO _ _ (seqItems? (.ref a) >>= _) _ _ s;refine wB1 (wpAny_seqItems f g ?_);refine wB1 ?_;show cO _ _ (forIn b _ _) _ _ s;rw[<- bG];refine wpAny_forIn_list _ (fun rest r s'=>r.1=none/\s'=s /\ ∃ks,eP s.heap ks rest/\TK.depAll ks<=n) _ ?_ ?_ _ _ ⟨rfl,rfl,xs,l,by lia⟩
   ·rintro v rest r s' ⟨d,rfl,ks,u,p⟩;cases u with
    | @cons q _ e _ y x=>
     rw[TK.depAll]at p;refine wB1 (ih (k:=q) (by lia) y ?_);simp only[bJ,bF1,if_false];exact wP1 ⟨rfl,rfl,e,x,by lia⟩
   ·rintro⟨B,r2⟩ s' ⟨d,rfl,_⟩;simp only at d;subst d;exact wP1 h
theorem Al{prog:cH}{w:cJ}:∀(n:Nat) {k:TK} {A:cI} {E:cE->cF->Prop} {s:cF} {v:cE} {Q:Bool->cF->Prop},k.dep<=n->eE s.heap k v->Q false s->cO (model prog w) A (ofAClassStatement n v) Q E s:=by
 intro n
 induction n with
 |zero=>
  intro k A E s v Q c r h;cases r with
  |non=>exact wP1 h
  |int i t=>exact wP1 h
  |tup _ _ _ _=>simp[TK.dep]at c
 |succ n ih=>
  intro k A E s v Q c r h;cases r with
  |non=>exact wP1 h
  |int i t=>exact wP1 h
  | @tup a o b m xs f j g l=>
   have z:s.TypeIs (.ref a) "tuple":=⟨o,f,j⟩;rw[TK.dep]at c;unfold ofAClassStatement;refine wB1 (wpAny_typeOf z ?_);show cO _ _ (pure true >>= _) _ _ s;refine wB1 (wP1 ?_);simp only[bJ,bF1,if_false];refine wB1 (wpAny_seqItems f g ?_);refine wB1 ?_;show cO _ _ (forIn b _ _) _ _ s;rw[<- bG];refine wpAny_forIn_list _ (fun rest r s'=>r.1=none/\s'=s /\ ∃ks,eP s.heap ks rest/\TK.depAll ks<=n) _ ?_ ?_ _ _ ⟨rfl,rfl,xs,l,by lia⟩
   ·rintro v rest r s' ⟨d,rfl,ks,u,p⟩;cases u with
    | @cons q _ e _ y x=>
     rw[TK.depAll]at p;refine wB1 (ih (k:=q) (by lia) y ?_);simp only[bF1,if_false];exact wP1 ⟨rfl,rfl,e,x,by lia⟩
   ·rintro⟨B,r2⟩ s' ⟨d,rfl,_⟩;simp only at d;subst d;exact wP1 h
def GI(h:cP)(k:TK)(e:Int×cE):Prop:=∃a,e=(k.hash,.ref a)/\eE h k (.ref a)/\k.dep<=8
section
variable{prog:cH}{w:cJ}{A:cI}{E:cE->cF->Prop}{s:cF}
theorem Bm{k:TK}{x:cG}{Q:Bool->cF->Prop}(hk:eE s.heap k (.ref x))(hd:k.dep<=8)(l:List cE)(he:∀v∈l,∃b a,v = .ref a/\eE s.heap b (.ref a)/\b.dep<=8)(h:Q false s):cO (model prog w) A (searchCouldBeSeen (.ref x) l) Q E s:=by
 unfold searchCouldBeSeen;refine wB1 ?_;refine wpAny_forIn_list _ (fun rest r s'=>r.1=none/\s'=s /\ ∀v∈rest,∃b a,v = .ref a/\eE s.heap b (.ref a)/\b.dep<=8) _ ?_ ?_ _ _ ⟨rfl,rfl,he⟩
 ·rintro v rest r s' ⟨d,rfl,e⟩;obtain⟨b,a,rfl,h1,h2⟩:=e v mS1;have tl:∀v∈rest,∃b a,v=Value.ref a/\eE s'.heap b (.ref a)/\b.dep<=8:=fun v h=>e v (mC1 _ h);dsimp only;by_cases c:(x == a)=true
  ·rw[c];exact wP1 ⟨rfl,rfl,tl⟩
  ·rw[b6]at c;rw[c];show cO _ _ (eqIsQuiet 8 (.ref x) >>= _) _ _ _;refine wB1 (nK 8 hd hk ?_);refine wB1 (nK 8 h2 h1 ?_);refine wB1 (Al 8 hd hk ?_);refine wB1 (Al 8 h2 h1 ?_);exact wP1 ⟨rfl,rfl,tl⟩
 ·rintro⟨f,r2⟩ s' ⟨d,rfl,_⟩;simp only at d;subst d;exact wP1 h
theorem pC{α:Type}{occ:List α}{a c:α}(hc:c∉occ)(ha:a∈occ):∀{b d B D:List α},(∀y∈d,y∈occ)->d++a::B=b++c::D->a∈b
 |[],[],B,D,_,e=>by
  simp at e;obtain⟨rfl,_⟩:=e;exact absurd ha hc
 |[],z::d,B,D,h,e=>by
  simp at e;obtain⟨rfl,_⟩:=e;exact absurd (h z mS1) hc
 |z::b,[],B,D,_,e=>by
  simp at e;obtain⟨rfl,_⟩:=e;exact mS1
 |z::b,z'::d,B,D,h,e=>by
  simp at e;exact mC1 _ (pC hc ha (fun y f=>h y (mC1 _ f)) e.2)
theorem Au{xs:Array Nat}(hr:ww xs){i j:Nat}(h:xs[i]?=some j):SetTable.below xs j=i:=by
 have e:=ot hr (gM1 (by rw[aT1];exact h));rcases Nat.lt_trichotomy (SetTable.below xs j) i with z|z|z
 ·have:=hr.lt z e h;lia
 ·exact z
 ·have:=hr.lt z h e;lia
theorem EW{m:Nat}(h:wM m):(m%2 == 0)=false:=by rcases h with rfl|rfl|rfl<;>rfl
theorem Jo(N:Bool){a:cG}{es:Array (Int×cE)}{ep:Nat}{t:SetTable}{k:TK}{x:cG}(hu:A.units+8<cLine)(ho:s.heap.get? a=some (stO es ep t))(ht:sTT es t)(he:∀ e∈es.toList,∃ k',GI s.heap k' e)(hk:eE s.heap k (.ref x))(hd:k.dep<=8){Q:SetFound->cF->Prop}(q1:(∃e∈es.toList,GI s.heap k e) -> ∀i,Q (.there (if N=true then none else some i)) s)(q2:∀j p m,mU t.mask k.hash=p++j::m->(∀y∈p,y∈t.place.toList)->j∉t.place.toList->(∀e∈es.toList,¬ GI s.heap k e)->Q (.free j false) s):
  ∀(n:Nat) (L c:List Nat) (b:Option SetTable.Probe),mU t.mask k.hash=c++L->jD t.mask (b.getD (t.probeStart k.hash)) L->L.length<n->(∀y∈c,y∈t.place.toList /\ ∀e,es[SetTable.below t.place y]?=some e -> ¬ GI s.heap k e)->cO (model prog w) A (setSearchFrom a (.ref x) k.hash N n b) Q E s:=by
 have hf:=ht.fits;have S:t.place.toList.length<=t.mask:=by rw[aq,ht.sz];exact ht.fl
 intro n
 induction n with
 |zero=>intro L _ _ _ _ h;exact absurd h (ba _)
 |succ n ih=>
  intro L c b R hs hl X;have hx:∃y∈L,y∉t.place.toList:=by
   obtain⟨j,hj,U⟩:=Bp t.place.toList S;have:=u8 ht.mks k.hash hj;rw[R,am]at this;rcases this with z|z
   ·exact absurd (X j z).1 U
   ·exact⟨j,z,U⟩
  have hL:L.length<=10*SetTable.turns t.mask:=by
   have:=u7 t.mask k.hash;rw[R,lA1]at this;lia
  obtain⟨p,y,m,e,h1,h2⟩:=vW (f:=fun i=>(es[i]?.map (·.1)).getD 0) (h:=k.hash) ht.up ht.du L _ _ hs hL hx;unfold setSearchFrom;refine wB1 (wpAny_setState_of ho rfl hf ?_);dsimp only;rw[show t.gaveWay=false from EW ht.mks];simp only[bF1,if_false];rcases h2 with⟨U,hg⟩|⟨q,Z,hh,hg,hq⟩
  ·generalize M:SetTable.probe t _ k.hash (b.getD (t.probeStart k.hash))=met;have M:=M.symm.trans hg;subst M;refine wP1 (q2 y (c++p) m (by rw[R,e,bj]) (fun z T=>?_) U fun e' he' g=>?_)
   ·rcases am.mp T with o|o
    ·exact(X z o).1
    ·exact(h1 z o).1
   ·obtain⟨i,hi⟩:=aX he';have K:es[i]?=some e':=by rw[<- aT1];exact hi
    have I:=(Array.getElem?_eq_some_iff.mp K).1;have hpi:i<t.place.size:=by rw[ht.sz];exact I
    have G:=aG1 hpi;have T:(t.place[i],e')∈t.place.toList.zip es.toList:=by
     refine gM1 (i:=i) ?_;rw[List.getElem?_zip_eq_some];exact⟨by rw[aT1];exact G,hi⟩
    obtain⟨O,P,_⟩:=id g;obtain⟨pre1,post1,H,f1⟩:=ht.rc _ T;dsimp only at H;rw[show e'.1=k.hash from by rw[P],R,e,<- bj]at H;have hm:=pC (occ:=t.place.toList) U (gM1 (by rw[aT1];exact G)) f1 H.symm;have Y:=Au ht.up G;rcases am.mp hm with o|o
    ·exact(X _ o).2 e' (by rw[Y];exact K) g
    ·refine(h1 _ o).2 ?_;rw[Y,K,P];rfl
  ·generalize M:SetTable.probe t _ k.hash (b.getD (t.probeStart k.hash))=met;have M:=M.symm.trans hg;subst M;have Y:=ot ht.up Z;have I:SetTable.below t.place y<es.size:=by rw[<- ht.sz];exact(Array.getElem?_eq_some_iff.mp Y).1
   have d:=aG1 I;generalize es[SetTable.below t.place y]=e0 at d;have J:e0∈es.toList:=gM1 (by rw [aT1];exact d);obtain ⟨k',O,rfl,g,C⟩:=he e0 J;dsimp only;have B:cO (model prog w) A (do
     let equal<-holding [Value.ref O] (eqBool (Value.ref O) (.ref x))
     let (es',_,t')<-setState a
     if(N&&equal)=true then return SetFound.there none
     let some same:=t'.sameMemory t.moves t.mask|unsupported "set.changed-during-lookup:is-the-new-block-at-the-old-address"
     let still<-match (if same=true then t'.slot y else .empty)with
      | .live V=>match es'[V]? with
       |some (_,y')=>do pure (if(<- isSame y' (.ref O))=true then some V else none)
       |none=>pure none
      |_=>pure none
     match still with
     |none=>do rule "set.search.anew";setSearchFrom a (.ref x) k.hash N n none
     |some V=>if equal=true then return .there (some V)else setSearchFrom a (.ref x) k.hash N n (some q)) Q E s:=by
    refine wB1 (wpAny_holding (Dx 8 C hu g hk _ _ _ _ ?_));refine wB1 (wpAny_setState_of ho rfl hf ?_);dsimp only;by_cases D:k'=k
    ·subst D;rw[decide_eq_true rfl];cases N with
     |true=>exact wP1 (q1 ⟨_,J,O,rfl,g,C⟩ 0)
     |false=>
      simp only[Bool.false_and,bF1,if_false];rw[show t.sameMemory t.moves t.mask=some true from by unfold SetTable.sameMemory;simp];dsimp only;rw[if_pos rfl,p7 ht.up Z];dsimp only;rw[d];dsimp only;refine wB1 ?_;refine wpAny_of_eq (a:=true) (by unfold isSame;simp) ?_;rw[if_pos rfl];refine wB1 (wP1 ?_);exact wP1 (q1 ⟨_,J,O,rfl,g,C⟩ _)
    ·rw[decide_eq_false D];simp only[aK,bF1,if_false];rw[show t.sameMemory t.moves t.mask=some true from by unfold SetTable.sameMemory;simp];dsimp only;rw[if_pos rfl,p7 ht.up Z];dsimp only;rw[d];dsimp only;refine wB1 ?_;refine wpAny_of_eq (a:=true) (by unfold isSame;simp) ?_;rw[if_pos rfl];refine wB1 (wP1 ?_);dsimp only;refine ih m (c++p++[y]) (some q) ?_ hq ?_ fun z T=>?_
     ·rw[R,e];simp
     ·rw[e]at hl;simp at hl;lia
     ·rcases am.mp T with o|o
      ·rcases am.mp o with W|W
       ·exact X z W
       ·refine⟨(h1 z W).1,fun H l F=>(h1 z W).2 ?_⟩;obtain⟨a1,rfl,_⟩:=F;rw[l];rfl
      ·have:z=y:=by simpa using o
       subst this;refine⟨Z,fun H l F=>D ?_⟩;rw[d]at l;obtain⟨a1,u,hi1,_⟩:=F;cases l;injection u with _ u;injection u with u;subst u;exact g.inj hi1
   by_cases r:t.led=true
   ·rw[r];simp only[bJ,bF1,if_false];rw[d];exact B
   ·rw[b6]at r;rw[r];simp only[bX,if_true];refine wB1 (Bm hk hd _ (fun v hv=>?_) ?_)
    ·obtain⟨H,l,rfl⟩:=bQ.mp hv;rw[Array.toList_filter]at l;obtain⟨k1,a1,rfl,g1,g2⟩:=he H ((ag.mp l).1);exact⟨k1,a1,rfl,g1,g2⟩
    ·simp only[bF1,if_false];rw[d];exact B
end
theorem eE.keepsS{h h':cP}{p:cG}{es:Array (Int×cE)}{ep:Nat}{t:SetTable}(ho:h.get? p=some (stO es ep t))(hs:∀ a o,a≠p->h.get? a=some o->h'.get? a=some o):∀ {k:TK} {v:cE},eE h k v->eE h' k v:=fun f=>f.rec (motive_1:=fun k v _=>eE h' k v) (motive_2:=fun k v _=>eP h' k v) .non .int
  (fun{a} _ _ _ _ d e c _ ih=>.tup (hs a _ (fun z=>by subst z;rw[d]at ho;cases ho;cases c) d) e c ih) .nil (fun _ _ a b=>.cons a b)
theorem eE.grows{h h':cP}(hs:∀ a o,h.get? a=some o->h'.get? a=some o):∀ {k:TK} {v:cE},eE h k v->eE h' k v:=fun e=>e.rec (motive_1:=fun k v _=>eE h' k v) (motive_2:=fun k v _=>eP h' k v) .non .int
  (fun{a} _ _ _ _ f c d _ ih=>.tup (hs a _ f) c d ih) .nil (fun _ _ a b=>.cons a b)
def kA(ks:List TK)(k:TK):List TK:=if k∈ks then ks else ks++[k]
def ddK(ks:List TK):List TK:=ks.foldl kA []
theorem Ah(ks:List TK)(k:TK):(kA ks k).length<=ks.length+1:=by unfold kA;split<;>simp
theorem mx:∀(ns acc:List TK),(ns.foldl kA acc).length<=acc.length+ns.length
 |[],acc=>by simp
 |n::ns,acc=>by
  rw[bM];have h1:=mx ns (kA acc n);have h2:=Ah acc n;rw[lC1];lia
theorem rm{es:Array (Int×cE)}{t:SetTable}(h:sTT es t):t.tooFull=decide (es.size*5>=t.mask*3):=by
 unfold SetTable.tooFull SetTable.fill;rw[h.du,h.sz];rfl
def uX(h:cP)(xs:List (TK×cG×cE)):Prop:=∀z∈xs,eE h z.1 (.ref z.2.1)/\z.1.dep<=8
theorem uX.el{h:cP}{xs:List (TK×cG×cE)}{es:Array (Int×cE)}(c:uX h xs)(a:∀e∈es.toList,∃z∈xs,e=(z.1.hash,.ref z.2.1)):∀e∈es.toList,∃d,GI h d e:=fun e f=>by
 obtain⟨z,b,rfl⟩:=a e f;exact⟨z.1,z.2.1,rfl,(c z b).1,(c z b).2⟩
theorem uX.found{h:cP}{xs:List (TK×cG×cE)}{es:Array (Int×cE)}{k:TK}(g:uX h xs)(f:∀e∈es.toList,∃z∈xs,e=(z.1.hash,.ref z.2.1))(d:∀z∈xs,(z.1.hash,Value.ref z.2.1)∈es.toList):(∃e∈es.toList,GI h k e)↔k∈xs.map (·.1):=by
 constructor
 ·rintro⟨e,l,a,j,i,_⟩;obtain⟨z,b,c⟩:=f e l;rw[j]at c;injection c with _ c;injection c with c;refine bQ.mpr ⟨z,b,?_⟩;have:=(g z b).1;rw[<- c]at this;exact this.inj i
 ·intro i;obtain⟨z,b,rfl⟩:=bQ.mp i;exact⟨_,d z b,z.2.1,rfl,(g z b).1,(g z b).2⟩
section
variable{P:cH}{w:cJ}{A:cI}{E:cE->cF->Prop}{s:cF}{p:cG}{xs:List (TK×cG×cE)}
theorem xX{m:Nat}(h:wM m):SetTable.turns m<=142:=by unfold SetTable.turns;rcases h with z|z|z<;>rw[z]<;>decide
def lX(xs:List (TK×cG×cE))(k:TK)(x:cG):List (TK×cG×cE):=if k∈xs.map (·.1)then xs else xs++[(k,x,.none)]
theorem JU{k:TK}{x:cG}{Q:Bool->cF->Prop}(hu:A.units+8<cLine)(hS:tX p xs s.heap)(Y:uX s.heap xs)(hb:xs.length<76)(hk:eE s.heap k (.ref x))(hd:k.dep<=8)(q:∀c h',Heap.SameBut p s.heap h'->tX p (lX xs k x) h'->Q c {s with heap:=h'}):cO (model P w) A (setAddHashed p (.ref x) k.hash) Q E s:=by
 obtain⟨nd,es,ep,t,L,F,J,i,B,R⟩:=id hS;have hf:=F.fits;unfold setAddHashed setAddHashedIn;refine wpAny_holding (wB1 (wpAny_setState_of L rfl hf ?_));dsimp only;rw[show byScan (Value.ref x) es=false from rfl];simp only[bF1,if_false];unfold setSearch;refine wB1 (Jo true hu L F (Y.el i) hk hd ?q1 ?q2 100000 (mU t.mask k.hash) [] none rfl (wG t k.hash) ?ln (fun y hy=>by cases hy))
 case q1=>
  intro h _;have V:=(Y.found i B).mp h;have D:lX xs k x=xs:=by unfold lX;rw[if_pos V]
  rw[D]at q;exact wP1 (q _ s.heap (Heap.SameBut.refl p s.heap) hS)
 case q2=>
  intro j T K ew hp hj W;dsimp only;have hn:k∉xs.map (·.1):=fun z=>by obtain⟨e,n,h⟩:=(Y.found i B).mpr z;exact W e n h
  have D:lX xs k x=xs++[(k,x,.none)]:=by unfold lX;rw[if_neg hn]
  rw[D]at q;refine wB1 (wpAny_setState_of L rfl hf ?_);dsimp only;have U:j<=t.mask:=xU k.hash j (by rw[ew];simp);rw[rm F]at J;have J:¬ es.size*5>=t.mask*3:=by simpa using J
  have v:es.size+1<=t.mask:=by rcases F.mks with z|z|z<;>rw[z]at J ⊢ <;> lia
  have C:sTT (SetTable.insertAt es (t.put j).2 (k.hash,.ref x)) (t.put j).1:=F.put U hj ⟨T,K,ew,hp⟩ v;have S:(SetTable.insertAt es (t.put j).2 (k.hash,Value.ref x)).size=(xs++[(k,x,Value.none)]).length:=by rw[hK,R,lA1];rfl
  have o:(SetTable.insertAt es (t.put j).2 (k.hash,Value.ref x)).size<=cN:=by rw[S,lA1,sizeLine_eq];simp;lia
  have sb:=Heap.SameBut.update s.heap p (Obj.putSet (SetTable.insertAt es (t.put j).2 (k.hash,.ref x)) (t.put j).1);have M:=yH (fs:=SetTable.insertAt es (t.put j).2 (k.hash,.ref x)) (u:=(t.put j).1) L;have I:((xs++[(k,x,Value.none)]).map (·.1)).Nodup:=by
   rw[b7,bb];exact⟨nd,by simp,fun a ha b hb e=>by simp at hb;subst hb;subst e;exact hn ha⟩
  have e1:∀e∈(SetTable.insertAt es (t.put j).2 (k.hash,Value.ref x)).toList,∃z∈xs++[(k,x,Value.none)],e=(z.1.hash,.ref z.2.1):=fun e n=>by
   rw[ng]at n;rcases n with rfl|n
   ·exact⟨_,mA1 _ mS1,rfl⟩
   ·obtain⟨z,h1,h2⟩:=i e n;exact⟨z,ao _ h1,h2⟩
  have a1:∀z∈xs++[(k,x,Value.none)],(z.1.hash,Value.ref z.2.1)∈(SetTable.insertAt es (t.put j).2 (k.hash,Value.ref x)).toList:=fun z X=>by
   rw[ng];rcases am.mp X with z'|z'
   ·exact .inr (B z z')
   ·rw[bU.mp z'];exact .inl rfl
  have tail:cO (model P w) A (do
    storeSet p (SetTable.insertAt es (t.put j).2 (k.hash,.ref x)) (t.put j).1
    if (!false&&(t.put j).1.tooFull)=true then do
      setRelay p (SetTable.grown (es.size+1))
      pure true
     else pure true) Q E s:=by
   refine wB1 (wpAny_storeSet_of L rfl ?_ o);by_cases f:(t.put j).1.tooFull=true
   ·rw [f];simp only [bX,br,if_true];refine wB1 ?_;unfold setRelay;refine wB1 (wpAny_setState_of (s:={s with heap:=s.heap.update p _}) M rfl C.fits ?_);dsimp only;have N:=f;rw [rm C,hK] at N;have N:(es.size+1)*5>=t.mask*3:=of_decide_eq_true N;have e4:∃ m,wM m/\SetTable.sizeAbove (SetTable.grown (es.size+1))=m+1/\es.size+1<=m/\(es.size+1)*5<m*3:=by
     rcases F.mks with z|z|z<;>rw[z]at J N
     ·have:es.size=4:=by lia
      rw[this];exact⟨31,.inr (.inl rfl),rfl,by decide,by decide⟩
     ·have:es.size=18:=by lia
      rw[this];exact⟨127,.inr (.inr rfl),rfl,by decide,by decide⟩
     ·lia
    obtain⟨m,hm,em,O,hm2⟩:=e4;rw[if_neg (by rw[em,sizeLine_eq];rcases hm with z|z|z<;>rw[z]<;>decide)];obtain⟨t2,d,er,g,H,r,_,Z⟩:=Cs (m:=m) (fi:=(t.put j).1.finger) (mo:=(t.put j).1.movedTo m) (l:=(t.put j).1.led) (p:=(t.put j).1.plain) hm (es:=SetTable.insertAt es (t.put j).2 (k.hash,.ref x)) (by rw[hK];exact O);refine wB1 ?_;rw[show(t.put j).1.relaid ((SetTable.insertAt es (t.put j).2 (k.hash,Value.ref x)).map (·.1)) (SetTable.grown (es.size+1))=some (t2,d)from by unfold SetTable.relaid;rw[em,Nat.add_sub_cancel];exact er];have z2:(d.filterMap ((SetTable.insertAt es (t.put j).2 (k.hash,Value.ref x))[·]?)).size=(xs++[(k,x,Value.none)]).length:=g.trans S;show cO _ _ (if((d.filterMap ((SetTable.insertAt es (t.put j).2 (k.hash,Value.ref x))[·]?)).size != (SetTable.insertAt es (t.put j).2 (k.hash,Value.ref x)).size)=true then _ else _) _ _ _;rw[g];simp only[bne_self_eq_false,bF1,if_false];refine wP1 ?_;dsimp only;refine wpAny_storeSet_of M rfl ?_ (by rw[g];exact o);refine wP1 (q _ _ (sb.trans (Heap.SameBut.update _ p _)) ⟨I,_,_,_,yH M,H,?_,fun e n=>e1 e ((r e).mp n),fun z X=>(r _).mpr (a1 z X),z2⟩);rw[rm H,Z,g,hK];exact decide_eq_false (by lia)
   ·rw[b6]at f;rw[f];simp only[aK,bF1,if_false];exact wP1 (q _ _ sb ⟨I,_,_,_,M,C,f,e1,a1,S⟩)
  by_cases G:(t.put j).1.plain=true
  ·rw[G];simp only[if_true];refine wB1 (F0 8 hd hk ?_);exact tail
  ·rw[b6]at G;rw[G];simp only[bF1,if_false];refine wB1 (wP1 ?_);exact tail
 case ln=>
  have:=u7 t.mask k.hash;have:=xX F.mks;lia
end
def tW(p:cG)(n:Nat)(h:cP):Prop:=∃es ep t,h.get? p=some (stO es ep t)/\t.fits es.size=true/\es.size=n/\n<=76
theorem eP.mem{h:cP}:∀{ks:List TK} {vs:List cE},eP h ks vs -> ∀(i:Nat) (v:cE),vs[i]?=some v -> ∃k,ks[i]?=some k/\eE h k v
 |_,_,.nil,i,v,e=>by simp at e
 |_,_,.cons r t,0,v,e=>by simp at e;subst e;exact⟨_,rfl,r⟩
 |_,_,.cons r t,i+1,v,e=>eP.mem t i v (by simpa using e)
def ua(k:TK):Bool:=match k with
 | .tup _=>decide (k.dep<=8)
 |_=>false
theorem x2{h:cP}{k:TK}{v:cE}(hk:ua k=true)(h1:eE h k v):k.dep<=8 /\ ∃a,v = .ref a:=by
 cases h1 with
 |non=>cases hk
 |int=>cases hk
 | @tup a=>exact⟨by simpa[ua]using hk,a,rfl⟩
section
variable{P:cH}{w:cJ}{A:cI}{E:cE->cF->Prop}
theorem wJ{p l it:cG}{its:Array cE}{ns:List TK}{R:Result->cF->Prop}(hh:A.handled=none)(hu:A.units+20<cLine)(hT:∀ k∈ns,ua k=true)(hb:ns.length<=76)(n1:p≠l)(L:p≠it)(n3:it≠l):
  ∀(k i:Nat) (s:cF) (xs:List (TK×cG×cE)),its.size-i=k->i<=its.size->s.heap.IsListIter it l i->s.heap.IsList l its->eP s.heap ns its.toList->tX p xs s.heap->uX s.heap xs->xs.map (·.1)=(ns.take i).foldl kA [] ->
  (∀h' tk,(∀c o,c≠p->c≠it->s.heap.get? c=some o->h'.get? c=some o)->tW p (ddK ns).length h'->R (.ok (.ret .none)) {s with heap:=h',toks:=tk})->codeAny (model P w) A (.builtin "set.update.loop" ⟨[.ref p,.ref it],[]⟩) R s:=by
 intro k
 induction k with
 |zero=>
  intro i s xs hk hi st Q H N hX n q;have e:i=its.size:=by lia
  subst e;refine wD1 PyProof.Rows.F.entry_set_update_loop (?_:_);rw[Around.under_plainId PyProof.Rows.F.plain_set_update_loop _];show cO _ A.in1 (pyNext (.ref it) >>= _) _ _ s;refine wB1 (wpAny_pyNext_list_end (by simpa using hh) st Q (by simp) fun h' eb=>wP1 ?_);refine q h' s.toks (fun c o _ hc e=>eb c o hc e) ?_;have D:its.size=ns.length:=by rw[<- aq];exact H.split.symm
  obtain⟨_,es,ep,t,J,tt,_,_,_,y⟩:=N;rw[D,bF]at n;have hz2:xs.length=(ddK ns).length:=by have:=congrArg List.length n;rw[lM1]at this;exact this
  refine⟨es,ep,t,eb p _ L J,tt.fits,y.trans hz2,?_⟩;have:=mx ns [];unfold ddK;simp at this;lia
 |succ k ih=>
  intro i s xs hk hi st Q H N hX n q;have G:i<its.size:=by lia
  have hx:=aG1 G;obtain⟨B,ek,u⟩:=H.mem i _ (by rw[aT1];exact hx);have Z:B∈ns:=gM1 ek;obtain⟨hd,S,ex⟩:=x2 (hT B Z) u;refine wD1 PyProof.Rows.F.entry_set_update_loop (?_:_);rw[Around.under_plainId PyProof.Rows.F.plain_set_update_loop _];show cO _ A.in1 (pyNext (.ref it) >>= _) _ _ s;refine wB1 (wpAny_pyNext_list_item st Q hx fun h' st' M=>?_);rw[ex]at u ⊢;have d:∀{k:TK} {v:cE},eE s.heap k v->eE h' k v:=fun O=>by
   refine O.rec (motive_1:=fun k v _=>eE h' k v) (motive_2:=fun k v _=>eP h' k v) .non .int (fun{a} _ _ _ _ e1 c1 d1 _ ih=>.tup ((M.2 a fun z=>?_).trans e1) c1 d1 ih) .nil (fun _ _ a b=>.cons a b);subst z;obtain⟨o,e2,c2,_⟩:=st;rw[e1]at e2;cases e2;rw[c1]at c2;exact absurd c2 (by decide)
  show cO _ A.in1 (holding [Value.ref S] (setAdd p (.ref S)) >>= _) _ _ _;refine wB1 (wpAny_holding ?_);unfold setAdd;have F:A.in1.units=A.units+1:=rfl;refine wpAny_holding (wB1 (rg B (by rw[F];lia) (d u) ?_));obtain⟨es,ep,t,C⟩:∃es ep t,h'.get? p=some (stO es ep t):=by
   obtain⟨_,es,ep,t,J,_⟩:=N;exact⟨es,ep,t,by rw[M.2 p L];exact J⟩
  have W:tX p xs h':=by
   obtain⟨nd,es,ep,t,J,rr⟩:=N;exact⟨nd,es,ep,t,by rw[M.2 p L];exact J,rr⟩
  have m:uX h' xs:=fun z y=>⟨d (hX z y).1,(hX z y).2⟩;have V:=mx (ns.take i) [];have hxl:xs.length=((ns.take i).foldl kA []).length:=by have:=congrArg List.length n;rw[lM1]at this;exact this
  refine JU (s:={s with heap:=h',toks:=s.toks+B.draws}) (by rw[F];lia) W m (by
   have D:its.size=ns.length:=by rw[<- aq];exact H.split.symm
   rw[hxl];rw[aD,aO]at V;lia) (d u) hd fun c h2 j U=>?_
  have ef:kA ((ns.take i).foldl kA []) B=(ns.take (i+1)).foldl kA []:=by
   rw[b8,ek,List.foldl_append];rfl
  have I:(lX xs B S).map (·.1)=(ns.take (i+1)).foldl kA []:=by
   rw[<- ef,<- n];unfold lX kA;by_cases K:B∈xs.map (·.1)
   ·rw[if_pos K,if_pos K]
   ·rw[if_neg K,if_neg K,b7];rfl
  have kk:∀c o,c≠p->c≠it->s.heap.get? c=some o->h2.get? c=some o:=fun c o h1 X e=>by rw[j.2 c h1];show h'.get? c=_;rw[M.2 c X];exact e
  have keepIt:∀o,h'.get? it=some o->h2.get? it=some o:=fun o e=>by rw[j.2 it (Ne.symm L)];exact e
  have Y:∀{h E:cP} {a:List TK} {b:List cE},(∀{k v},eE h k v->eE E k v)->eP h a b->eP E a b:=fun{h E a b} f O=>by
   induction a generalizing b with
   |nil=>cases O;exact .nil
   |cons k a ih=>cases O with|cons r t=>exact .cons (f r) (ih t)
  refine wP1 ⟨plainId_quiet PyProof.Rows.F.plain_set_update_loop _,ih (i+1) {s with heap:=h2,toks:=s.toks+B.draws} (lX xs B S) (by lia) G (st'.at keepIt) ?_ ?_ U ?_ I fun X tk k3 x3=>?_⟩
  ·obtain⟨o,e,r⟩:=Q;exact⟨o,kk l o (Ne.symm n1) (Ne.symm n3) e,r⟩
  ·exact Y (fun x=>(d x).keepsS C fun a o g e=>by rw[j.2 a g];exact e) H
  ·intro z y;unfold lX at y;split at y
   ·exact⟨(m z y).1.keepsS C fun a o g e=>by rw[j.2 a g];exact e,(m z y).2⟩
   ·rcases am.mp y with T|T
    ·exact⟨(m z T).1.keepsS C fun a o g e=>by rw[j.2 a g];exact e,(m z T).2⟩
    ·rw[bU.mp T];exact⟨(d u).keepsS C fun a o g e=>by rw[j.2 a g];exact e,hd⟩
  ·exact q X tk (fun c o h1 h4 e=>k3 c o h1 h4 (kk c o h1 h4 e)) x3
theorem xu{s:cF}{l:cG}{its:Array cE}{ns:List TK}{Q:cE->cF->Prop}(D:A.handled=none)(J:A.units+24<cLine)(j:s.heap.IsList l its)(y:eP s.heap ns its.toList)(I:∀ k∈ns,ua k=true)(hb:ns.length<=76)(q:∀h' tk,(∀c o,s.heap.get? c=some o->h'.get? c=some o)->tW s.heap.objs.size (ddK ns).length h'->Q (.ref s.heap.objs.size) {s with heap:=h',toks:=tk}):cO (model P w) A (call (.type "set") [.ref l]) Q E s:=by
 have g:l<s.heap.objs.size:=by obtain⟨o,e,_⟩:=j;exact hL1 e
 refine uM j fun K B H R u=>?_;have G:(s.heap.push (stO #[] 0 (.fresh 0 0 (!kM w)))).objs.size=s.heap.objs.size+1:=by rw[hZ1]
 have p:(s.heap.push (stO #[] 0 (.fresh 0 0 (!kM w)))).get? s.heap.objs.size=some (stO #[] 0 (.fresh 0 0 (!kM w))):=hS1 _ rfl;have i:∀{h d:cP} {a:List TK} {b:List cE},(∀{k v},eE h k v->eE d k v)->eP h a b->eP d a b:=fun{h d a b} f m=>by
  induction a generalizing b with
  |nil=>cases m;exact .nil
  |cons k a ih=>cases m with|cons r t=>exact .cons (f r) (ih t)
 refine wJ (its:=its) (ns:=ns) (B.trans D) (by lia) I hb (nG1 g) (nN1 (bf _)) (nG1 (bV g)) _ 0 _ [] rfl (aR _) ?_ ?_ ?_ ?_ (fun z n=>by cases n) rfl fun h' tk k x=>u _ (q h' tk (fun c o e=>k c o (nN1 (hL1 e)) (nN1 (bV (hL1 e))) (hP1 _ (hP1 _ e))) x)
 ·refine⟨{cls:=.type "list_iterator",data:=.fields #[.ref l,.int 0 0]},?_,rfl,rfl⟩;have this:((s.heap.push (stO #[] 0 (.fresh 0 0 (!kM w)))).push {cls:=.type "list_iterator",data:=.fields #[.ref l,.int 0 0]}).get? (s.heap.push (stO #[] 0 (.fresh 0 0 (!kM w)))).objs.size=some {cls:=.type "list_iterator",data:=.fields #[.ref l,.int 0 0]}:=hS1 _ rfl;rw[G]at this;exact this
 ·obtain⟨o,e,r⟩:=j;exact⟨o,hP1 _ (hP1 _ e),r⟩
 ·exact i (fun x=>x.grows fun a o e=>hP1 _ (hP1 _ e)) y
 ·exact⟨aW,#[],0,_,hP1 _ p,sTT.fresh _,rfl,(fun e C=>by simp at C),(fun k F=>by cases F),rfl⟩
end
def pw:List D->Option (List TK)
 |[]=>some []
 |d::ds=>(ky d).bind fun k=>(pw ds).map (k :: ·)
theorem sT:∀{ds:List D} {ks:List TK},pw ds=some ks->kW ks=ds/\(∀k∈ks,ua k=true)/\ks.length=ds.length
 |[],ks,h=>by cases h;exact⟨rfl,(fun k l=>by cases l),rfl⟩
 |d::ds,ks,h=>by
  rw[pw]at h;obtain⟨k,g,h⟩:=oB1.mp h;obtain⟨f,b,h⟩:=oM1.mp h;subst h;obtain⟨h1,h2,xs,c⟩:=vM g;obtain⟨e,m,j⟩:=sT b;refine⟨by rw[kW,h1,e],fun i a=>?_,by simp[j]⟩;rcases ak.mp a with z|z
  ·subst z;subst c;simpa[ua]using h2
  ·exact m i z
def j0:G1:=fun d S=>match dj S d with
 |some (true,xs)=>(pw xs).bind fun ks=>if ks.length<=76 then some (.int (ddK ks).length,S)else none
 |_=>none
section
variable{X:Cx}
def Hd(X:Cx)(vs:List V)(H:Hp)(Q:VK):Prop:=∃a xs ks mu,vs=[.ref a]/\mR X.K H a xs/\dh X.K H mu (kW ks) xs/\(∀k∈ks,ua k=true)/\ks.length<=76 /\ ∀p,H p=none->Q (.ref p) (upd H p (.ext (tW p (ddK ks).length)))
def He(X:Cx)(vs:List V)(H:Hp)(Q:VK):Prop:=∃a n,vs=[.ref a]/\H a=some (.ext (tW a n))/\Q (.int n) H
theorem Gk(hc:X.calm=true)(v:X.A.units+64<cLine):ei X (.type "set") (Hd X):=by
 intro pins s σ H xs w Q I r h;obtain⟨a,vs,ks,mu,rfl,g,l,m,j,q⟩:=h;obtain⟨u,rfl,r2⟩:=hH r;cases r2;obtain⟨d,i,p,n⟩:=I.list g;have f:=uc I ks l i;refine xu (I.ok.hd hc) (by lia) p.isList (by simpa using f) m j fun h' tk keep c=>?_;have b:=I.hok.fresh (nR1 s.heap.objs.size);refine⟨.ref s.heap.objs.size,_,I.laid (t':=tk) (o:=.ext (tW s.heap.objs.size (ddK ks).length)) keep (nR1 _) ⟨c,?_,fun h1 h2 ⟨es,ep,t,e,r⟩ k=>⟨es,ep,t,k _ e,r⟩⟩,rfl,q _ b⟩;obtain⟨es,ep,t,e,_⟩:=c;exact⟨_,e⟩
theorem Gn:ei X (.builtin "len") (He X):=by
 intro pins s σ H xs g Q I r h;obtain⟨a,n,rfl,c,q⟩:=h;obtain⟨u,rfl,r2⟩:=hH r;cases r2;obtain⟨⟨es,ep,t,e,d,b,f⟩,_⟩:=(show ea X.prog X.w H s.heap a (.ext (tW a n))from I.hok a _ c);refine PySem.call_len_set e (by first|exact rfl|exact⟨rfl,rfl,rfl⟩|exact⟨rfl,rfl⟩) rfl d (by lia) ?_;refine⟨.int es.size,H,I.tok _,⟨_,rfl⟩,?_⟩;rw[b];exact q
theorem xO (hc:X.calm=true)(x:X.A.units+64<cLine){o:Expr}{m:FE}{p p2 pos b:Pos}(hg:Gl X "len")(hm:X.mg "len"=none)(hg2:Gl X "set")(hm2:X.mg "set"=none)(ho:XE X o m)
  (he:cM [.Call (.Name "set" p2) [o] [] b] X.env=[(false,eval (.Call (.Name "set" p2) [o] [] b) X.env)]:=by rfl) (c:cM [o] X.env=[(false,eval o X.env)]:=by rfl):XE X (.Call (.Name "len" p) [.Call (.Name "set" p2) [o] [] b] [] pos) (mN (b1 j0) (cT m cU)):=
 ⟨d8 (nN Gn hg hm (by decide+kernel) (i6 (kg (Gk hc x) hg2 hm2 (by decide+kernel) (i6 ho.h ma c) (he:=c)) ma he) (he:=he)) <| by
  rintro σ H Q ⟨r,mu,S,d,F,he,n,hm,f⟩;obtain⟨⟨ds,E⟩,e,hm⟩:=oB1.mp hm;obtain⟨⟨i,D⟩,w,e⟩:=oB1.mp e;cases e;dsimp only[b1,j0]at hm;split at hm
  ·rename_i xs k;obtain⟨ns,z,hm⟩:=oB1.mp hm;split at hm
   ·rename_i y;cases hm;refine⟨r,mu,S,i,_,he,n,w,fun v H1 mu1 C s g=>?_⟩;obtain⟨a,vs,rfl,q,t⟩:=db s g k;obtain⟨B,l,_⟩:=sT z;refine⟨a,vs,ns,mu1,rfl,q,by rw[B];exact t,l,y,fun p h=>?_⟩;refine⟨p,(ddK ns).length,rfl,dw,?_⟩;have j:Ext mu1 mu1 H1 (upd H1 p (.ext (tW p (ddK ns).length))):=Ext.fresh h;have A:=g.fresh (u:=.ext (tW p (ddK ns).length)) h;exact f _ _ mu1 (C.trans j) (.int _) A
   ·cases hm
  ·cases hm⟩
end
section
variable{X:Cx}{pos:Pos}
theorem gn(i:Nat){x:Str}(hN:X.N.Nodup)(hi:X.N[i]?=some x:=by rfl)(hx:xG X.env.scope x:=by first|exact Or.inl rfl|exact Or.inr rfl)(hf:X.fn x=true\/X.env.scope.names.lookup x=some .local:=by first|exact .inl rfl|exact .inr rfl|assumption):XG X (.Name x pos) (gN i):=qO i hN hi hx hf
theorem sn(i:Nat){x:Str}{e:Expr}{m:FE}{pos':Pos}(hN:X.N.Nodup)(he:XE X e m)(hi:X.N[i]?=some x:=by rfl)(hx:xG X.env.scope x:=by first|exact Or.inl rfl|exact Or.inr rfl)(hs:swapsWith e (some (.Name x pos')) pos.line X.env=pure false:=by rfl)(hf:X.fn x=true\/X.env.scope.names.lookup x=some .local:=by first|exact .inl rfl|exact .inr rfl|assumption):XS X (.Assign [.Name x pos'] e pos) (dk m (gN i)):=qY i hN hi hx he hs hf
theorem jx{k:Nat}{x y:Expr}{a b:FE}(hr:fR k X.A)(hx:XE X x a)(hy:XE X y b)(hs:nr y:=by intro _ _;rfl):XE X (.Subscript x y pos) (m2 (b2 c7) a b):=qJ (qP hr.units) hx hy hs
theorem wo {k k' n:Nat}{x:Str}{m:FN}{p:Pos}{e:Expr}{es:List Expr}{a:FA}(h:eX X.prog X.w X.K X.mg X.base k x n m)(hr:fR k' X.A)(ha:XA X (e::es) a)(hk:k<=k':=by first|decide|omega)(hg:Gl X x:=by rfl)(hdb:(x == ("__debug__":Str))=false:=by decide)(he:cM (e::es) X.env=(false,eval e X.env)::cM es X.env:=by rfl)(hpl:(backTo pos (cM es X.env)).any (·.1)=false:=by rfl):XE X (.Call (.Name x p) (e::es) [] pos) (mN (cY n m) a):=qH h hr hk hg ha hdb he hpl
theorem ce{op:CmpOp}{x y:Expr}{f:FN}{a b:FE}(ho:gg X (compareOp op) (r2 X.K f))(hx:XE X x a)(hy:XE X y b)(hm:behindInMarks op y=false:=by exact ze _):XE X (.Compare x [op] [y] pos) (m2 f a b):=A0 ho hx hy hm
theorem ct{op:CmpOp}{x y:Expr}{f:FN}{a b:FE}(ho:gg X (compareOp op) (r2 X.K f))(hx:XE X x a)(hy:XE X y b)(hm:behindInMarks op y=false:=by exact ze _):XT X (.Compare x [op] [y] pos) (mB (m2 f a b)):=qX ho hx hy hm
theorem cb {x:Str}{p:Pos}{e:Expr}{es:List Expr}{id:String}{f:FN}{a:FA}(hc:ei X (.builtin id) (rN X.K f))(hm:X.mg x=none)(ha:XA X (e::es) a)(hg:Gl X x:=by rfl)(hv:bootBuiltins x=some (.builtin id):=by decide+kernel)(hn:x≠"__name__":=by decide)(hdb:(x == ("__debug__":Str))=false:=by decide)(he:cM (e::es) X.env=(false,eval e X.env)::cM es X.env:=by rfl)(hpl:(backTo pos (cM es X.env)).any (·.1)=false:=by rfl):XE X (.Call (.Name x p) (e::es) [] pos) (mN f a):=qD hc hg hm hv ha hn hdb he hpl
theorem cy {x:Str}{p:Pos}{e:Expr}{es:List Expr}{T:String}{f:FN}{a:FA}(hc:ei X (.type T) (rN X.K f))(hm:X.mg x=none)(ha:XA X (e::es) a)(hg:Gl X x:=by rfl)(hv:bootBuiltins x=some (.type T):=by decide+kernel)(hn:x≠"__name__":=by decide)(hdb:(x == ("__debug__":Str))=false:=by decide)(he:cM (e::es) X.env=(false,eval e X.env)::cM es X.env:=by rfl)(hpl:(backTo pos (cM es X.env)).any (·.1)=false:=by rfl):XE X (.Call (.Name x p) (e::es) [] pos) (mN f a):=qE hc hg hm hv ha hn hdb he hpl
theorem kc{a:cS}{i:Nat}{l:List Nat}(x:Str)(r:∀i∈l,∃x,X.N[i]?=some x/\a.names.lookup x=some .free/\(X.env.kindOf x=some .cell\/X.env.kindOf x=some .free)/\(x,NameKind.cell)∉a.names)(h1:X.N[i]?=some x:=by rfl)(h2:a.names.lookup x=some .free:=by rfl)(b:X.env.kindOf x=some .cell\/X.env.kindOf x=some .free:=by first|exact Or.inl rfl|exact Or.inr rfl)(c:(x,NameKind.cell)∉a.names:=by decide+kernel):∀j∈i::l,∃x,X.N[j]?=some x/\a.names.lookup x=some .free/\(X.env.kindOf x=some .cell\/X.env.kindOf x=some .free)/\(x,NameKind.cell)∉a.names:=List.forall_mem_cons.mpr ⟨⟨x,h1,h2,b,c⟩,r⟩
end
structure dL (K:Fg1)(x:Str)(st:cR)(f:cG):Prop where
 ns:wN1 K cK x=some (some (.ref f))
 fn:∃fd,xH K x x st f fd
theorem Ij{K:Fg1}{x:Str}{st:cR}{f:cG}{j:cE}{h g:Option cG}{d:Array (Option cE)}{kV e i b ct:cE}(a:wN1 K cK x=some (some (.ref f)))(l:K.lookup f=some ⟨j,h,.func (wF1 x x (jd st) (fA st) (c0 st) .none kV e i g b ct),d⟩)(c:wC1 K b x=true)(k:wK1 K (.ref f)=true):dL K x st f:=⟨a,_,z0 l c k⟩
theorem xo{P:cH}{w:cJ}{K:Fg1}{mg:Str->Option cE}{base h:cP}{x:Str}{st:cR}{f:cG}{N ps:List Str}{k n:Nat}{b:FS}(X:K.In h)(G:h.Ns cK mg)(F:dL K x st f)(S:dg N ps (c0 st))(hb:∀(kV e l:cE) (j:Option cG) (a ct:cE) (g:List cE),g.length=ps.length->bindArgs (wF1 x x (jd st) (fA st) (c0 st) .none kV e l j a ct) ⟨g,[]⟩=pure (ps.zip g))(d:∀(f:cG) (a:cE) (A:cI) (c:List Env) (s:cF) (H:Hp) (E:XK),fR k (A.deeper (envOfC x (c0 st) s.heap.objs.size f a)) ->
   xz (om t5 P w K mg base N x (c0 st) f a A c s H E).nox (fA st) b)(hn:ps.length=n:=by rfl):eX P w K mg base (k+1) x n (im N.length b):=by
 obtain⟨fd,i⟩:=F.fn;exact AW i (i.binds hb) (wM1 X G F.ns) S hn (d f)
section
variable{X:Cx}{pins:List (cG×Obj)}{σ:L2.St}{H:Hp}{s:cF}{mu:List cG}
end
section
variable{P:cH}{w:cJ}{A:cI}{E:cE->cF->Prop}{s:cF}{a x:cG}{xs:List (TK×cG×cE)}{k:TK}
end
section
variable{X:Cx}
end
section
variable{X:Cx}{o e:Expr}{es:List Expr}{to:TE}{t:TA}{name:Str}{apos cpos:Pos}{id:String}{r:V->List V->Hp->VK->Prop}
end
section
variable{X:Cx}
end
def W{α:Type}(o:Option α)(Q:α->Prop):Prop:=∃x,o=some x/\Q x
section
variable{α β:Type}{Q:α->Prop}
theorem da{x:α}:W (some x) Q↔Q x:=⟨fun⟨_,e,h⟩=>(by cases e;exact h),fun h=>⟨x,rfl,h⟩⟩
theorem lf:W (none:Option α) Q↔False:=⟨fun⟨_,e,_⟩=>(by cases e),False.elim⟩
theorem cX{o:Option β}{f:β->Option α}:W (o.bind f) Q↔W o fun x=>W (f x) Q:=by
 cases o with
 |none=>exact⟨fun⟨_,e,_⟩=>(by cases e),fun⟨_,e,_⟩=>(by cases e)⟩
 |some x=>exact⟨fun h=>⟨x,rfl,h⟩,fun⟨_,e,h⟩=>by cases e;exact h⟩
theorem kS{o:Option β}{f:β->α}:W (o.map f) Q↔W o fun x=>Q (f x):=by
 cases o with
 |none=>exact⟨fun⟨_,e,_⟩=>(by cases e),fun⟨_,e,_⟩=>(by cases e)⟩
 |some x=>exact⟨fun⟨_,e,h⟩=>(by cases e;exact⟨x,rfl,h⟩),fun⟨_,e,h⟩=>(by cases e;exact⟨_,rfl,h⟩)⟩
theorem pR{c:Prop}[Decidable c]{a b:Option α}:W (if c then a else b) Q↔if c then W a Q else W b Q:=by split<;>exact Iff.rfl
theorem W.mono{o:Option α}{Q':α->Prop}(h:W o Q)(k:∀x,Q x->Q' x):W o Q':=let ⟨x,e,q⟩:=h;⟨x,e,k x q⟩
theorem W.of{o:Option α}{x:α}(e:o=some x)(h:Q x):W o Q:=⟨x,e,h⟩
end
theorem dy{a b:FS}{r:Ev}{S:Sto}{Q:Fl×Ev×Sto->Prop}(R:Ev->Sto->Prop)(h1:W (a r S) fun p=>p.1 = .nx/\R p.2.1 p.2.2)(h2:∀r S,R r S->W (b r S) Q):W (c9 a b r S) Q:=by
 obtain⟨⟨f,g,h⟩,e,d,c⟩:=h1;dsimp only at d c;subst d;unfold c9;rw[e];exact h2 g h c
theorem kn{n:Nat}{b:FS}{ds:List D}{S:Sto}{Q:D×Sto->Prop}(h:W (b (gE n ds) S) fun p=>match p.1 with
  | .rt d=>Q (d,p.2.2)
  | .nx=>Q (.non,p.2.2)
  |_=>False):W (im n b ds S) Q:=by
 obtain⟨⟨f,a,c⟩,e,q⟩:=h;unfold im;rw[e];cases f with
 |rt d=>exact⟨_,rfl,q⟩
 |nx=>exact⟨_,rfl,q⟩
 |bk=>exact q.elim
 |ct=>exact q.elim
theorem tQ{n:Nat}{f:FN}{ds:List D}{S:Sto}{Q:D×Sto->Prop}(hn:ds.length=n)(a:D.unds 0 ds=false)(h:W (f ds S) fun p=>Q (gc S.length p)):W (cY n f ds S) Q:=by
 obtain⟨⟨d,b⟩,e,q⟩:=h;exact⟨_,pJ e hn a,q⟩
theorem ge{n:Nat}{f:FN}{ds:List D}{S:Sto}{Q:D×Sto->Prop}(hn:ds.length=n)(b:D.unds 0 ds=true)(h:W (f ds []) fun p=>p.1.und 0=true/\Q (p.1,S)):W (cY n f ds S) Q:=by
 obtain⟨⟨d,g⟩,e,a,c⟩:=h;exact⟨_,xr e hn b a,c⟩
mutual
theorem ny{n:Nat}:∀{d:D},d.und 0=true->d.und n=true
 | .non,_=>rfl
 | .bl _,_=>rfl
 | .int _,_=>rfl
 | .str _,_=>rfl
 | .tup xs,h=>by rw[D.und]at h ⊢;exact kb h
 | .rol xs,h=>by rw[D.und]at h ⊢;exact kb h
 | .fn _,_=>rfl
 | .ref k,h=>by simp[D.und]at h
theorem kb{n:Nat}:∀{ds:List D},D.unds 0 ds=true->D.unds n ds=true
 |[],_=>rfl
 |d::ds,h=>by
  rw[D.unds,bA1]at h ⊢;exact⟨ny h.1,kb h.2⟩
end
theorem pL{n:Nat}{f:FN}{ds:List D}{o:Ob}{T:Sto}{Q:D×Sto->Prop}(hn:ds.length=n)(c:D.unds 0 ds=false)(a:T.all (Ob.und (T.length+1))=true)(h:W (f ds (o::T)) fun p=>∃d o' G,p=(d,o'::(T++G))/\d.und 0=true/\o'.und (T.length+1)=true/\Q (d,o'::T)):W (cY n f ds (o::T)) Q:=by
 refine tQ hn c (h.mono ?_);rintro p ⟨d,o',G,rfl,b,g,q⟩;have e:(o'::(T++G)).take (T.length+1)=o'::T:=by simp
 unfold gc;dsimp only[lC1];rw[if_pos (by rw[e,ny b,bw,g,a];rfl),e];exact q
theorem dP{c:List (Nat×List D)}{g:FG}{b:FS}{Q:Fl×Ev×Sto->Prop}(I:Nat->Ev->Sto->Prop):∀ (items:List D) (k:Nat) (r:Ev) (S:Sto),I k r S ->
  (∀i r S,I i r S->oS S c=true) ->
  (∀i d,items[i]?=some d -> ∀r S,I (k+i) r S->W (g d r S) fun p=>W (b p.1 p.2) fun q=>q.1 = .nx/\I (k+i+1) q.2.1 q.2.2) ->
  (∀r S,I (k+items.length) r S->Q (.nx,r,S))->W (ji c g b items r S) Q
 |[],k,r,S,hi,hok,_,hq=>by rw[ji];dsimp only;rw[if_pos (hok _ _ _ hi),da];exact hq r S (by simpa using hi)
 |d::ds,k,r,S,hi,hok,hs,hq=>by
  rw[ji];dsimp only;rw[if_pos (hok _ _ _ hi),cX];obtain⟨p,m,h1⟩:=hs 0 d rfl r S (by simpa using hi);refine⟨p,m,?_⟩;dsimp only;rw[cX];obtain⟨⟨f,o,n⟩,j,h2,e⟩:=h1;refine⟨_,j,?_⟩;dsimp only at h2 e ⊢;subst h2;refine dP I ds (k+1) o n (by simpa using e) hok (fun i h l r S a=>?_) fun r S a=>hq r S (by rw[lC1,show k+(ds.length+1)=k+1+ds.length by lia];exact a);have:=hs (i+1) h (by simpa using l) r S (by rw[show k+(i+1)=k+1+i by lia];exact a);rw[show k+(i+1)+1=k+1+i+1 by lia]at this;exact this
theorem g8{c:List (Nat×List D)}{g:FG}{t:FT}{e:FE}{Q:List D×Ev×Sto->Prop}(I:Nat->List D->Ev->Sto->Prop):∀ (items:List D) (k:Nat) (acc:List D) (r:Ev) (S:Sto),I k acc r S ->
  (∀i acc r S,I i acc r S->oS S c=true) ->
  (∀i d,items[i]?=some d -> ∀acc r S,I (k+i) acc r S->W (g d r S) fun p=>W (t p.1 p.2) fun b=>if b.1=true then W (e p.1 b.2) fun x=>I (k+i+1) (acc++[x.1]) p.1 x.2 else I (k+i+1) acc p.1 b.2) ->
  (∀xs r S,I (k+items.length) (acc++xs) r S->Q (xs,r,S))->W (gx c g t (dS e) items r S) Q
 |[],k,acc,r,S,hi,hok,_,hq=>by rw[gx];dsimp only;rw[if_pos (hok _ _ _ _ hi),da];exact hq [] r S (by simpa using hi)
 |d::ds,k,acc,r,S,hi,hok,hs,hq=>by
  rw[gx];dsimp only;rw[if_pos (hok _ _ _ _ hi),cX];obtain⟨p,o,h1⟩:=hs 0 d rfl acc r S (by simpa using hi);refine⟨p,o,?_⟩;dsimp only;rw[cX];obtain⟨⟨b,q⟩,j,h2⟩:=h1;refine⟨_,j,?_⟩;have step:∀i f,ds[i]?=some f -> ∀acc r S,I (k+1+i) acc r S->W (g f r S) fun p=>W (t p.1 p.2) fun b=>if b.1=true then W (e p.1 b.2) fun x=>I (k+1+i+1) (acc++[x.1]) p.1 x.2 else I (k+1+i+1) acc p.1 b.2:=fun i f l acc r S a=>by
   have:=hs (i+1) f (by simpa using l) acc r S (by rw[show k+(i+1)=k+1+i by lia];exact a);rw[show k+(i+1)+1=k+1+i+1 by lia]at this;exact this
  dsimp only at h2 ⊢;cases b with
  |true=>
   rw[if_pos rfl]at h2 ⊢;rw[cX,dS,kS];obtain⟨⟨x,m⟩,n,h⟩:=h2;refine⟨_,n,?_⟩;dsimp only at h ⊢;rw[kS];refine g8 I ds (k+1) (acc++[x]) p.1 m (by simpa using h) hok step fun xs r S a=>?_;refine hq _ r S ?_;rw[lC1,show k+(ds.length+1)=k+1+ds.length by lia];simpa using a
  |false=>
   rw[if_neg (by decide)]at h2 ⊢;refine g8 I ds (k+1) acc p.1 q (by simpa using h2) hok step fun xs r S a=>?_;refine hq _ r S ?_;rw[lC1,show k+(ds.length+1)=k+1+ds.length by lia];exact a
theorem DV{S:Sto}{b:Bool}:pW S (.bl b)=some b:=rfl
theorem IP{S:Sto}:pW S .non=some false:=rfl
theorem IQ{S:Sto}{i:Int}:pW S (.int i)=some (i != 0):=rfl
theorem CN{x y:Int}{S:Sto}:gEq (.int x) (.int y) S=some (.bl (x == y),S):=rfl
theorem CK{x y:Int}{S:Sto}:s9 (.int x) (.int y) S=some (.bl (!(x == y)),S):=rfl
theorem CL{x y:Int}{S:Sto}:gLt (.int x) (.int y) S=some (.bl (decide (x<y)),S):=rfl
theorem CM{x y:Str}{S:Sto}:gEq (.str x) (.str y) S=some (.bl (x == y),S):=rfl
theorem IX{x y:Str}{S:Sto}:s9 (.str x) (.str y) S=some (.bl (!(x == y)),S):=rfl
theorem ite_and'{c p:Prop}[Decidable c]:(if c then p else False)↔c/\p:=by split<;>simp[*]
def xE(j:Int):Bool:=decide (-(2^62)<=j)&&decide (j<2^62)
theorem fB{n:Nat}(h:n<2^60):xE n=true:=by
 unfold xE;rw[bA1,decide_eq_true_eq,decide_eq_true_eq];lia
theorem uN{j:Int}(h: -(2^60)<=j)(h':j<2^60):xE j=true:=by
 unfold xE;rw[bA1,decide_eq_true_eq,decide_eq_true_eq];lia
def Hb(p:List D×Sto)(Q:wx×Sto->Prop):Prop:=match p.1 with
 |[.int j]=>xE j=true/\Q (⟨gP 0 j.toNat,[]⟩,p.2)
 |_=>False
def IT(p:List D×Sto)(Q:wx×Sto->Prop):Prop:=match p.1 with
 |[.int i,.int j]=>xE i=true/\xE j=true/\Q (⟨gP i (j-i).toNat,[]⟩,p.2)
 |_=>False
theorem AE{m:FA}{r:Ev}{S:Sto}{Q:wx×Sto->Prop}:W (rR m r S) Q↔W (m r S) fun p=>Hb p Q:=by
 unfold rR;rw[cX];constructor
 ·refine fun h=>h.mono fun p q=>?_;unfold Hb;split at q
  ·rename_i j e
   try rw[e]
   rw[pR]at q;split at q
   ·rename_i hc;exact⟨by unfold xE;rw[bA1,decide_eq_true_eq,decide_eq_true_eq];exact hc,da.mp q⟩
   ·exact(lf.mp q).elim
  ·exact(lf.mp q).elim
 ·refine fun h=>h.mono fun p q=>?_;unfold Hb at q;split at q
  ·rename_i j e;obtain⟨a,b⟩:=q;unfold xE at a;rw[bA1,decide_eq_true_eq,decide_eq_true_eq]at a
   try rw[e]
   try dsimp only
   rw[if_pos a];exact da.mpr b
  ·exact q.elim
theorem IC{m:FA}{r:Ev}{S:Sto}{Q:wx×Sto->Prop}:W (Ia m r S) Q↔W (m r S) fun p=>IT p Q:=by
 unfold Ia;rw[cX];constructor
 ·refine fun h=>h.mono fun p q=>?_;unfold IT;split at q
  ·rename_i i j e
   try rw[e]
   rw[pR]at q;split at q
   ·rename_i hc;refine⟨?_,?_,da.mp q⟩
    ·unfold xE;rw[bA1,decide_eq_true_eq,decide_eq_true_eq];exact⟨hc.1,hc.2.1⟩
    ·unfold xE;rw[bA1,decide_eq_true_eq,decide_eq_true_eq];exact hc.2.2
   ·exact(lf.mp q).elim
  ·exact(lf.mp q).elim
 ·refine fun h=>h.mono fun p q=>?_;unfold IT at q;split at q
  ·rename_i i j e;obtain⟨a,b,c⟩:=q;unfold xE at a b;rw[bA1,decide_eq_true_eq,decide_eq_true_eq]at a b
   try rw[e]
   try dsimp only
   rw[if_pos ⟨a.1,a.2,b⟩];exact da.mpr c
  ·exact q.elim
def fits(n:Nat):Bool:=decide (n<=cN)
theorem c8{n:Nat}(h:n<=100000):fits n=true:=by unfold fits;rw[decide_eq_true_eq];exact ai h (by decide)
theorem tu{n:Nat}:fits n=true↔n<=cN:=by unfold fits;rw[decide_eq_true_eq]
theorem K2:fits 0=true:=c8 (by decide)
theorem Kj:fits 1=true:=c8 (by decide)
theorem Ki:fits 2=true:=c8 (by decide)
theorem JJ:fits 3=true:=c8 (by decide)
theorem Kh:fits 4=true:=c8 (by decide)
theorem K7:fits 5=true:=c8 (by decide)
theorem K1:fits 6=true:=c8 (by decide)
theorem K6:fits 7=true:=c8 (by decide)
theorem K0:fits 8=true:=c8 (by decide)
theorem iF{α:Type}{n:Nat}{o:Option α}{Q:α->Prop}:W (if n<=cN then o else none) Q↔fits n=true/\W o Q:=by
 rw[tu,pR];split
 ·rename_i h;exact⟨fun q=>⟨h,q⟩,fun q=>q.2⟩
 ·rename_i h;exact⟨fun q=>(lf.mp q).elim,fun q=>absurd q.1 h⟩
theorem uS{a:FA}{r:Ev}{S:Sto}{Q:D×Sto->Prop}:W (d6 a r S) Q↔W (a r S) fun p=>fits p.1.length=true/\Q (.tup p.1,p.2):=by
 unfold d6;rw[cX];exact⟨fun h=>h.mono fun p q=>(iF.mp q).imp_right da.mp,fun h=>h.mono fun p q=>iF.mpr (q.imp_right da.mpr)⟩
theorem rK{a:FA}{r:Ev}{S:Sto}{Q:D×Sto->Prop}:W (fy a r S) Q↔W (a r S) fun p=>fits p.1.length=true/\Q (.ref p.2.length,p.2++[.lst p.1]):=by
 unfold fy;rw[cX];exact⟨fun h=>h.mono fun p q=>(iF.mp q).imp_right da.mp,fun h=>h.mono fun p q=>iF.mpr (q.imp_right da.mpr)⟩
theorem rM{k:Nat}{keep:List Nat}{m:FI}{g:FG}{t:FT}{b:FV}{r:Ev}{S:Sto}{Q:D×Sto->Prop}:W (dZ k keep m g t b r S) Q↔W (m r S) fun p=>W (gx p.1.chk g t b p.1.items (oU k keep r) p.2) fun q=>fits q.1.length=true/\Q (.ref q.2.2.length,q.2.2++[.lst q.1]):=by
 unfold dZ;rw[cX];refine⟨fun h=>h.mono fun p q=>?_,fun h=>h.mono fun p q=>?_⟩
 ·rw[cX]at q;exact q.mono fun z w=>(iF.mp w).imp_right da.mp
 ·rw[cX];exact q.mono fun z w=>iF.mpr (w.imp_right da.mpr)
theorem uT{xs ys:List D}{S:Sto}{Q:D×Sto->Prop}:W (e6 (.tup xs) (.tup ys) S) Q↔fits (xs.length+ys.length)=true/\Q (.tup (xs++ys),S):=
 ⟨fun q=>(iF.mp q).imp_right da.mp,fun q=>iF.mpr (q.imp_right da.mpr)⟩
theorem AK{x y:Int}{S:Sto}{Q:D×Sto->Prop}:W (e6 (.int x) (.int y) S) Q↔Q (.int (x+y),S):=da
theorem GB{a b:Nat}{xs ys:List D}{S:Sto}{Q:D×Sto->Prop}(h1:S[a]?=some (.lst xs))(h2:S[b]?=some (.lst ys)):W (e6 (.ref a) (.ref b) S) Q↔fits (xs.length+ys.length)=true/\Q (.ref S.length,S++[.lst (xs++ys)]):=by
 rw[e6];simp only[h1,h2];exact⟨fun q=>(iF.mp q).imp_right da.mp,fun q=>iF.mpr (q.imp_right da.mpr)⟩
theorem iu{n:Nat}{v:D}{xs:List D}{S:Sto}{Q:D×Sto->Prop}(h:S[n]?=some (.lst xs)):W (gr (.ref n) v S) Q↔fits (xs.length+1)=true/\Q (.non,S.set n (.lst (xs++[v]))):=by
 rw[gr];simp only[h];rw[pR,tu];split
 ·rename_i a;exact⟨fun q=>⟨a,da.mp q⟩,fun q=>da.mpr q.2⟩
 ·rename_i a;exact⟨fun q=>(lf.mp q).elim,fun q=>absurd q.1 a⟩
theorem gz{n:Nat}{i:Nat}{xs:List D}{x:D}{S:Sto}{Q:D×Sto->Prop}(h:S[n]?=some (.lst xs))(hx:xs[i]?=some x)(q:Q (x,S)):W (c7 (.ref n) (.int i) S) Q:=by
 refine W.of (x:=(x,S)) ?_ q;have a:=(gE1.mp hx).1;simp only[c7,mw,AR,h,dj,uO,vN,oS1,if_pos (show(0:Int)<=i by lia)];rw[if_pos (by lia)];simp[hx]
theorem jm{i:Nat}{xs:List D}{x:D}{S:Sto}{Q:D×Sto->Prop}(hx:xs[i]?=some x)(q:Q (x,S)):W (c7 (.tup xs) (.int i) S) Q:=by
 refine W.of (x:=(x,S)) ?_ q;have a:=(gE1.mp hx).1;simp only[c7,mw,AR,dj,uO,vN,oS1,if_pos (show(0:Int)<=i by lia)];rw[if_pos (by lia)];simp[hx]
theorem AB{n:Nat}{i:Nat}{xs:List D}{v:D}{S:Sto}{Q:D×Sto->Prop}(h:S[n]?=some (.lst xs))(hx:i<xs.length)(q:Q (.non,S.set n (.lst (xs.set i v)))):W (gb (.ref n) (.int i) v S) Q:=by
 refine W.of (x:=(.non,S.set n (.lst (xs.set i v)))) ?_ q;simp only[gb,jY,jZ,h,vN,if_pos (show(0:Int)<=i by lia)];rw[if_pos (by lia)];simp
theorem KQ:aB 0 (none:Option D)=[]:=rfl
theorem KP:aB 1 (none:Option D)=[none]:=rfl
theorem KF:aB 2 (none:Option D)=[none,none]:=rfl
theorem KD:aB 3 (none:Option D)=[none,none,none]:=rfl
theorem KC:aB 4 (none:Option D)=[none,none,none,none]:=rfl
theorem K5:aB 5 (none:Option D)=[none,none,none,none,none]:=rfl
theorem KB:aB 6 (none:Option D)=[none,none,none,none,none,none]:=rfl
theorem KA:aB 7 (none:Option D)=[none,none,none,none,none,none,none]:=rfl
theorem Kz:aB 8 (none:Option D)=[none,none,none,none,none,none,none,none]:=rfl
theorem K4:aB 9 (none:Option D)=[none,none,none,none,none,none,none,none,none]:=rfl
theorem KO:aB 10 (none:Option D)=[none,none,none,none,none,none,none,none,none,none]:=rfl
theorem KN:aB 11 (none:Option D)=[none,none,none,none,none,none,none,none,none,none,none]:=rfl
theorem Jq:aB 12 (none:Option D)=[none,none,none,none,none,none,none,none,none,none,none,none]:=rfl
theorem KM:aB 13 (none:Option D)=[none,none,none,none,none,none,none,none,none,none,none,none,none]:=rfl
theorem Ha:aB 14 (none:Option D)=[none,none,none,none,none,none,none,none,none,none,none,none,none,none]:=rfl
theorem KL:aB 15 (none:Option D)=[none,none,none,none,none,none,none,none,none,none,none,none,none,none,none]:=rfl
theorem KJ:aB 16 (none:Option D)=[none,none,none,none,none,none,none,none,none,none,none,none,none,none,none,none]:=rfl
theorem KI:aB 17 (none:Option D)=[none,none,none,none,none,none,none,none,none,none,none,none,none,none,none,none,none]:=rfl
theorem KH:aB 18 (none:Option D)=[none,none,none,none,none,none,none,none,none,none,none,none,none,none,none,none,none,none]:=rfl
theorem KG:aB 19 (none:Option D)=[none,none,none,none,none,none,none,none,none,none,none,none,none,none,none,none,none,none,none]:=rfl
theorem KE:aB 20 (none:Option D)=[none,none,none,none,none,none,none,none,none,none,none,none,none,none,none,none,none,none,none,none]:=rfl
theorem dA{α:Type}{T G:List α}{k:Nat}:(T++G)[T.length+k]?=G[k]?:=by rw[gR1 (by lia)];congr 1;lia
theorem c6{α:Type}{T G:List α}:(T++G)[T.length]?=G[0]?:=by rw[gR1 (by lia)];congr 1;lia
theorem vX{S:Sto}{i j:Nat}{xs:List D}(h:S[i]?=some (.lst xs))(h':S[j]?=some (.lst [])):s9 (.ref i) (.ref j) S=some (.bl (!xs.isEmpty),S):=by
 unfold s9 dr;rw[show(60:Nat)=59+1 from rfl,eqN];simp only[dj,h,h'];cases xs with
 |nil=>simp[uH]
 |cons x xs=>simp
theorem qz:∀(n:Nat) (lo:Int),gP lo n=(List.range n).map fun i:Nat=>D.int (lo+i)
 |0,lo=>rfl
 |n+1,lo=>by
  rw[gP,qz n (lo+1),List.range_succ_eq_map,mP1,aZ]
  congr 1
  ·simp
  ·apply b9;intro i _;simp only[Function.comp_apply,Nat.succ_eq_add_one]
   congr 1
   push_cast
   lia
theorem kH(n:Nat):gP 0 n=(List.range n).map fun i:Nat=>D.int i:=by
 rw[qz];apply b9;intro i _;simp
theorem iM{α:Type}{c:List (Nat×List D)}{g:FG}{t:FT}{e:FE}{S:Sto}{f:α->D}{Q:List D×Ev×Sto->Prop}(F:α->D)(P:Ev->Prop)(d:oS S c=true):∀ (xs:List α) (r:Ev),P r ->
  (∀a∈xs,∀r,P r->W (g (f a) r S) fun p=>W (t p.1 p.2) fun b=>b.1=true/\W (e p.1 b.2) fun x=>x.1=F a/\x.2=S/\P p.1) ->
  (∀i,P i->Q (xs.map F,i,S))->W (gx c g t (dS e) (xs.map f) r S) Q
 |[],r,hr,_,h=>by rw[aL,gx];dsimp only;rw[if_pos d,da];exact h r hr
 |a::xs,r,hr,hs,h=>by
  rw[mP1,gx];dsimp only;rw[if_pos d,cX];obtain⟨p,n,⟨b,k,q,⟨x,m,o,l,s⟩⟩⟩:=hs a mS1 r hr;refine⟨p,n,?_⟩;dsimp only;rw[cX];refine⟨b,k,?_⟩;dsimp only;rw[if_pos q,cX,dS,kS];refine⟨x,m,?_⟩;dsimp only;rw[l,kS];refine iM F P d xs p.1 s (fun a u=>hs a (mC1 _ u)) fun i j=>?_;have:=h i j;rw[mP1,<- o]at this;exact this
theorem rp{α:Type}{c:List (Nat×List D)}{g:FG}{t:FT}{e:FE}{S:Sto}{f:α->D}{Q:List D×Ev×Sto->Prop}(k:α->Bool)(F:α->D)(P:Ev->Prop)(d:oS S c=true):∀ (xs:List α) (r:Ev),P r ->
  (∀a∈xs,∀r,P r->W (g (f a) r S) fun p=>W (t p.1 p.2) fun b=>b.1=k a/\b.2=S/\P p.1/\(k a=true->W (e p.1 S) fun x=>x.1=F a/\x.2=S)) ->
  (∀j,P j->Q ((xs.filter k).map F,j,S))->W (gx c g t (dS e) (xs.map f) r S) Q
 |[],r,hr,_,h=>by rw[aL,gx];dsimp only;rw[if_pos d,da];exact h r hr
 |a::xs,r,hr,hs,h=>by
  rw[mP1,gx];dsimp only;rw[if_pos d,cX];obtain⟨p,w,⟨b,u,q,o,s,m⟩⟩:=hs a mS1 r hr;refine⟨p,w,?_⟩;dsimp only;rw[cX];refine⟨b,u,?_⟩;dsimp only;cases hk:k a with
  |true=>
   rw[q,hk,if_pos rfl,cX,dS,kS,o];obtain⟨x,v,m,l⟩:=m hk;refine⟨x,v,?_⟩;dsimp only;rw[l,kS];refine rp k F P d xs p.1 s (fun a n=>hs a (mC1 _ n)) fun j i=>?_;have:=h j i;rw[List.filter_cons,hk,if_pos rfl,mP1,<- m]at this;exact this
  |false=>
   rw[q,hk,if_neg (by decide),o];refine rp k F P d xs p.1 s (fun a n=>hs a (mC1 _ n)) fun j i=>?_;have:=h j i;rw[List.filter_cons,hk,if_neg (by decide)]at this;exact this
theorem tT{α:Type}{f:α->Bool}:∀xs:List α,Mi.AA (xs.map fun x=>D.bl (f x))=some (xs.all f)
 |[]=>rfl
 |x::xs=>by rw[mP1,Mi.AA,tT xs];rfl
mutual
theorem DP{n m:Nat}(h:n<=m):∀{d:D},d.und n=true->d.und m=true
 | .non,_=>rfl
 | .bl _,_=>rfl
 | .int _,_=>rfl
 | .str _,_=>rfl
 | .tup xs,q=>by rw[D.und]at q ⊢;exact iR h q
 | .rol xs,q=>by rw[D.und]at q ⊢;exact iR h q
 | .fn _,_=>rfl
 | .ref k,q=>by simp[D.und]at q ⊢;lia
theorem iR{n m:Nat}(h:n<=m):∀{ds:List D},D.unds n ds=true->D.unds m ds=true
 |[],_=>rfl
 |d::ds,q=>by
  rw[D.unds,bA1]at q ⊢;exact⟨DP h q.1,iR h q.2⟩
end
theorem ig{n m:Nat}(h:n<=m):∀{o:Ob},o.und n=true->o.und m=true
 | .lst xs,q=>by rw[Ob.und]at q ⊢;exact iR h q
 | .dct xs,q=>by rw[Ob.und]at q ⊢;exact iR h q
 | .dcT xs,q=>by rw[Ob.und]at q ⊢;exact iR h q
 | .dcF xs,q=>by rw[Ob.und]at q ⊢;exact iR h q
 | .iset _,_=>rfl
 | .tst _,_=>rfl
theorem JT{k:Nat}{T G:Sto}(h:T.all (Ob.und (T.length+k))=true)(hg:G.all (Ob.und 0)=true):(T++G).all (Ob.und ((T++G).length+k))=true:=by
 rw[ca,bA1];rw[bd]at h hg;refine⟨bd.mpr fun o a=>ig (by rw[lA1];lia) (h o a),bd.mpr fun o a=>ig (aR _) (hg o a)⟩
theorem oA{n:Nat}{xs:List Int}{S:Sto}{Q:D×Sto->Prop}(h:S[n]?=some (.iset xs))(q:Q (.int xs.length,S)):W (lK (.ref n) S) Q:=by
 refine W.of ?_ q;unfold lK;simp only[h]
theorem dG{α:Type}{n:Nat}{f:α->D}:∀{xs:List α},(∀x∈xs,(f x).und n=true)->D.unds n (xs.map f)=true
 |[],_=>rfl
 |x::xs,h=>by rw[mP1,D.unds,h x mS1,dG fun y a=>h y (mC1 _ a)];rfl
theorem Kk{x:Nat}:x+1+1=x+2:=rfl
theorem Ld{x:Nat}:x+2+1=x+3:=rfl
theorem Lc{x:Nat}:x+3+1=x+4:=rfl
theorem Lb{x:Nat}:x+4+1=x+5:=rfl
theorem La{x:Nat}:x+5+1=x+6:=rfl
theorem K9{x:Nat}:x+6+1=x+7:=rfl
theorem K3{x:Nat}:x+1+2=x+3:=rfl
theorem fH{xs:List D}{S:Sto}:dH (.tup xs) S=some (.int xs.length,S):=rfl
theorem IW{xs:List D}{S:Sto}:dH (.rol xs) S=some (.int xs.length,S):=rfl
theorem HU{S:Sto}:dH (.str "") S=some (.int 0,S):=rfl
theorem iS{xs:List D}{S:Sto}:dj S (.tup xs)=some (false,xs):=rfl
theorem IS{xs:List D}{S:Sto}:dj S (.rol xs)=some (true,xs):=rfl
theorem wg{xs:List D}{S:Sto}:j1 S (.tup xs)=[]:=rfl
theorem IZ{xs:List D}{S:Sto}:j1 S (.rol xs)=[]:=rfl
theorem fU{n:Nat}{xs:List D}{S:Sto}(h:S[n]?=some (.lst xs)):dj S (.ref n)=some (true,xs):=by simp only[dj,h]
theorem nk{n:Nat}{xs:List D}{S:Sto}(h:S[n]?=some (.lst xs)):j1 S (.ref n)=[(n,xs)]:=by simp only[j1,h]
def sW(S:Sto)(d:D)(Q:List D×List (Nat×List D)->Prop):Prop:=W (dj S d) fun q=>Q (q.2,j1 S d)
theorem i4{xs:List D}{S:Sto}{Q:List D×List (Nat×List D)->Prop}:sW S (.tup xs) Q↔Q (xs,[]):=da
theorem dz{n:Nat}{xs:List D}{S:Sto}{Q:List D×List (Nat×List D)->Prop}(h:S[n]?=some (.lst xs))(q:Q (xs,[(n,xs)])):sW S (.ref n) Q:=by
 unfold sW;rw[fU h,nk h,da];exact q
theorem rL{m:FE}{r:Ev}{S:Sto}{Q:wx×Sto->Prop}:W (fC m r S) Q↔W (m r S) fun p=>sW p.2 p.1 fun q=>Q (⟨q.1,q.2⟩,p.2):=by
 unfold fC;rw[cX];refine⟨fun h=>h.mono fun p q=>?_,fun h=>h.mono fun p q=>?_⟩
 ·rw[cX]at q;exact q.mono fun z w=>da.mp w
 ·rw[cX];exact W.mono (show W (dj p.2 p.1) _ from q) fun z w=>da.mpr w
theorem AF{d:D}{S:Sto}{Q:D×Sto->Prop}:W (Mi.gTup d S) Q↔sW S d fun q=>Q (.tup q.1,S):=by
 unfold Mi.gTup;rw[kS];exact Iff.rfl
theorem IA{n:Nat}{S:Sto}{Q:D×Sto->Prop}:W (dH (.ref n) S) Q↔sW S (.ref n) fun q=>Q (.int q.1.length,S):=by
 unfold dH sW;rw[kS]
def pD(e:Nat×Nat):D:=.tup [.int e.1,.int e.2]
theorem rv{S:Sto}{n:Nat}{a b:Nat×Nat}:eqN S (n+2) (pD a) (pD b)=some (a == b):=by
 obtain⟨f,e⟩:=a;obtain⟨b1,b2⟩:=b;rw[eqN];have d:∀x y:Nat,eqN S (n+1) (.int x) (.int y)=some ((x:Int) == (y:Int)):=fun x y=>rfl;have c:∀x y:Nat,((x:Int) == (y:Int))=(x == y):=fun x y=>by
  rw[bx,beq_iff_eq,beq_iff_eq];lia
 simp[pD,dj,uH,d,c];rfl
theorem v8{S:Sto}{n:Nat}{e:Nat×Nat}:∀b:List (Nat×Nat),tz (eqN S (n+2)) (pD e) (b.map pD)=some (b.map fun a=>a == e)
 |[]=>rfl
 |a::b=>by rw[mP1,tz,rv,v8 b];rfl
theorem Gz{S:Sto}{n j:Nat}{row:List (Nat×Nat)}{e:Nat×Nat}{Q:D×Sto->Prop}(h:S[n]?=some (.lst (row.map pD)))(b:row.length<1000)(a:row.findIdx? (· == e)=some j)(q:Q (.int j,S)):W (oa (.ref n) (pD e) S) Q:=by
 refine W.of ?_ q;unfold oa dr;simp only[h,show(60:Nat)=58+2 from rfl,v8,oS1,lM1];rw[if_pos (by lia),List.findIdx?_map];simp[Function.comp_def,a]
theorem fv{f:FN}{o:FE}{a:FA}{r:Ev}{S:Sto}{Q:D×Sto->Prop}(h:W (o r S) fun p=>∃n xs,p.1 = .ref n/\p.2[n]?=some (.lst xs)/\W (a r p.2) fun q=>W (f (.ref n::q.1) q.2) Q):W (kx f o a r S) Q:=by
 unfold kx;rw[cX];refine h.mono ?_;rintro⟨d,b⟩ ⟨n,xs,rfl,e,q⟩;dsimp only at e q ⊢;rw[e];dsimp only;rw[cX];exact q
theorem qj:∀{k n i:Nat},i<k->(kw n k)[i]?=some (.ref (n+i))
 |k+1,n,0,_=>rfl
 |k+1,n,i+1,h=>by rw[kw,gC1,qj (Nat.lt_of_succ_lt_succ h),show n+1+i=n+(i+1) by lia]
theorem ly:∀k n:Nat,(kw n k).length=k
 |0,_=>rfl
 |k+1,n=>by rw[kw,lC1,ly]
def tot(E:List (List (Nat×Nat))):Nat:=(E.map List.length).sum
def nmD(rs:List Nat):List D:=rs.map fun i:Nat=>D.int i
theorem dD(rs:List Nat):(nmD rs).length=rs.length:=by simp[nmD]
theorem fL(rs:List Nat):D.unds 0 (nmD rs)=true:=dG fun _ _=>rfl
theorem re{S:Sto}{n:Nat}{x:Nat}:∀a:List Nat,xD (eqN S (n+1)) (.int x) (nmD a)=some (a.contains x)
 |[]=>rfl
 |c::a=>by
  have d:eqN S (n+1) (.int c) (.int x)=some ((c:Int) == (x:Int)):=rfl;have b:((c:Int) == (x:Int))=(x == c):=by
   rw[bx,beq_iff_eq,beq_iff_eq];lia
  have ih:=re (S:=S) (n:=n) (x:=x) a;rw[nmD,mP1,xD,d,b];rw[nmD]at ih;rw[ih,bN];rfl
theorem vV{S:Sto}{x:Nat}{cs:List Nat}:m7 (.int x) (.tup (nmD cs)) S=some (.bl (cs.contains x),S):=by
 simp only[m7,uD,GJ,dj,oS1,dr,show(60:Nat)=59+1 from rfl,re,oP1]
theorem zI{κ:Type}[DecidableEq κ]{k:κ}:df ([]:List (κ×D)) k=none:=rfl
theorem fQ{κ:Type}[DecidableEq κ]{k a:κ}{d:D}{r:List (κ×D)}:df ((a,d)::r) k=if a=k then some d else df r k:=by
 unfold df;rw[aM];by_cases h:a=k
 ·simp[h]
 ·simp[h]
theorem sO{κ:Type}[DecidableEq κ]{k:κ}{b:List (κ×D)}:∀{a:List (κ×D)},df (a++b) k=(df a k).or (df b k)
 |[]=>rfl
 |(x,d)::a=>by
  rw[aS,fQ,fQ,sO (a:=a)];split<;>rfl
theorem pu{κ:Type}[DecidableEq κ]{k:κ}:∀{a:List (κ×D)},(a.any fun p=>decide (p.1=k))=false->df a k=none
 |[],_=>rfl
 |(x,d)::a,h=>by
  simp only[aN,Bool.or_eq_false_iff,decide_eq_false_iff_not]at h;rw[fQ,if_neg h.1];exact pu h.2
theorem mj{κ:Type}[DecidableEq κ]{k k':κ}{v:D}:∀{a:List (κ×D)},(a.any fun p=>decide (p.1=k))=true->df (a.map fun p=>if p.1=k then(p.1,v)else p) k'=if k'=k then some v else df a k'
 |[],h=>by simp at h
 |(x,d)::a,h=>by
  rw[mP1];by_cases f:x=k
  ·subst f;rw[if_pos (show(x,d).1=x from rfl)];rw[fQ,fQ];by_cases e:k'=x
   ·subst e;simp
   ·rw[if_neg (Ne.symm e),if_neg (Ne.symm e),if_neg e];by_cases g:(a.any fun p=>decide (p.1=x))=true
    ·rw[mj g,if_neg e]
    ·have:(a.map fun p=>if p.1=x then (p.1,v) else p)=a:=by
      have b:(a.any fun p=>decide (p.1=x))=false:=cc.mpr g;rw[aw]at b
      conv=>rhs;rw[<- List.map_id a]
      apply b9;intro p i;have:=b p i;simp at this;simp[this]
     rw[this]
  ·simp only[aN,decide_eq_false f,Bool.false_or]at h;rw[if_neg (show¬ (x,d).1=k from f)];rw[fQ,fQ,mj h];by_cases c:x=k'
   ·subst c;simp[f]
   ·simp[c]
theorem jT{κ:Type}[DecidableEq κ]{k k':κ}{v:D}{a:List (κ×D)}:df (fW a k v) k'=if k'=k then some v else df a k':=by
 unfold fW;split
 ·rename_i h;exact mj h
 ·rename_i h;have h':(a.any fun p=>decide (p.1=k))=false:=cc.mpr h;rw[sO,fQ,zI];by_cases b:k'=k
  ·subst b;rw[pu h',if_pos rfl];rfl
  ·rw[if_neg (Ne.symm b),if_neg b];cases df a k'<;>rfl
theorem ql{κ:Type}[DecidableEq κ]{k:κ}{v:D}{a:List (κ×D)}:(fW a k v).length<=a.length+1:=by
 unfold fW;split
 ·rw[lM1];lia
 ·rw[lA1];simp
theorem Ek{κ:Type}[DecidableEq κ]{k:κ}{v:D}{a:List (κ×D)}:fW a k v≠[]:=by
 unfold fW;split
 ·rename_i h;intro z;cases a with
  |nil=>simp at h
  |cons x xs=>simp at z
 ·simp
def dO(F:List (TK×D)):Ob:=if F=[]then .dct []else .dcT F
theorem AC{U:Sto}{n:Nat}{F:List (TK×D)}{key v:D}{k:TK}{Q:D×Sto->Prop}(h:U[n]?=some (dO F))(hk:ky key=some k)(b:F.length<1000)(q:Q (.non,U.set n (dO (fW F k v)))):W (gb (.ref n) key v U) Q:=by
 refine W.of ?_ q;unfold dO at h ⊢;rw[if_neg Ek];by_cases a:F=[]
 ·subst a;rw[if_pos rfl]at h;simp only[gb,h,hk];rfl
 ·rw[if_neg a]at h;simp only[gb,h,hk,oS1];rw[if_pos (nL1 b (by decide))]
theorem GA{U:Sto}{n:Nat}{F:List (TK×D)}{key v:D}{k:TK}{Q:D×Sto->Prop}(h:U[n]?=some (dO F))(hk:ky key=some k)(hv:df F k=some v)(q:Q (v,U)):W (c7 (.ref n) key U) Q:=by
 refine W.of ?_ q;unfold dO at h;by_cases a:F=[]
 ·subst a;cases hv
 ·rw[if_neg a]at h;simp only[c7,h,hk,oS1,hv,oP1]
theorem uR{U:Sto}{n i:Nat}{xs:List D}{x:D}{Q:D×Sto->Prop}(h:U[n]?=some (.lst xs))(hx:xs[i]?=some x)(hb:i<1000)(q:Q (x,U.set n (.lst (xs.eraseIdx i)))):W (uC (.ref n) (.int i) U) Q:=by
 have a:=(gE1.mp hx).1;refine W.of ?_ q;simp only[uC,h];rw[if_pos ⟨by lia,by lia⟩];simp only[vN,if_pos (show(0:Int)<=i by lia)];rw[if_pos (by lia)];simp[hx]
theorem zY{d:D}{S G:Sto}(hd:d.und 0=true)(a:S.all (Ob.und S.length)=true):gc S.length (d,S++G)=(d,S):=by
 unfold gc;dsimp only;rw[List.take_left,if_pos (by rw[ny hd,a];rfl)]
theorem Gx{m:FA}{r:Ev}{S:Sto}{xs ys:List D}{n:Nat}{Q:wx×Sto->Prop}(hm:m r S=some ([.tup xs,.ref n],S))(hn:S[n]?=some (.lst ys))(q:Q (⟨rV xs ys,[(n,ys)]⟩,S)):W (Dv m r S) Q:=by
 refine W.of (x:=(⟨rV xs ys,[(n,ys)]⟩,S)) ?_ q;simp only[Dv,hm,oS1,iS,fU hn,wg,nk hn,cf]
theorem zp_map{α:Type}{f g:α->D}:∀l:List α,rV (l.map f) (l.map g)=l.map fun x=>D.tup [f x,g x]
 |[]=>rfl
 |a::l=>by rw[mP1,mP1,rV,zp_map l];rfl
theorem kT{m:FA}{r:Ev}{S:Sto}{xs:List D}{Q:wx×Sto->Prop}(hm:m r S=some ([.tup xs],S))(q:Q (⟨rS 0 xs,[]⟩,S)):W (mK m r S) Q:=by
 refine W.of (x:=(⟨rS 0 xs,[]⟩,S)) ?_ q;simp only[mK,hm,oS1,iS,wg]
theorem Ae{α:Type}{f:α->D}:∀(l:List α) (k:Nat),rS k (l.map f)=(l.zipIdx k).map fun p=>D.tup [.int (p.2:Nat),f p.1]
 |[],_=>rfl
 |a::l,k=>by rw[mP1,rS,Ae l (k+1),bp];rfl
theorem wz{α:Type}{l:List α}{p:α×Nat}(h:p∈l.zipIdx):l[p.2]?=some p.1:=by
 have:=cg.mp h;exact this
mutual
theorem yz{n:Nat}:∀{d:D},d.und 0=true->d.sh n=d
 | .non,_=>rfl
 | .bl _,_=>rfl
 | .int _,_=>rfl
 | .str _,_=>rfl
 | .tup xs,h=>by rw[D.und]at h;rw[D.sh,lr h]
 | .rol xs,h=>by rw[D.und]at h;rw[D.sh,lr h]
 | .fn _,_=>rfl
 | .ref k,h=>by simp[D.und]at h
theorem lr{n:Nat}:∀{ds:List D},D.unds 0 ds=true->D.shs n ds=ds
 |[],_=>rfl
 |d::ds,h=>by
  rw[D.unds,bA1]at h;rw[D.shs,yz h.1,lr h.2]
end
theorem Io{n:Nat}{f:FN}{ds:List D}{S:Sto}{Q:D×Sto->Prop}(hn:ds.length=n)(c:D.unds 0 ds=true)(h:W (f ds []) fun p=>∃xs,p=(.ref 0,[.lst xs])/\D.unds 0 xs=true/\Q (.ref S.length,S++[.lst xs])):W (cY n f ds S) Q:=by
 obtain⟨p,e,xs,rfl,a,q⟩:=h;refine⟨_,oq e hn c rfl,?_⟩;have d:(D.ref 0).sh S.length = .ref S.length:=rfl;have b:[Ob.lst xs].map (Ob.sh S.length)=[Ob.lst xs]:=by rw[mP1,aL,Ob.sh,lr a]
 rw[d,b];exact q
theorem vT(xs:List Nat):jV (nmD xs)=some (xs.map fun(r:Nat)=>(r:Int)):=by
 induction xs with
 |nil=>rfl
 |cons x xs ih=>
  show(jV (nmD xs)).map _=_;rw[ih];rfl
end Mi
end
local macro_rules | `(tactic| walk_at"w") => `(tactic| simp only[Mi.da, Mi.lf, Mi.ite_and', Mi.cX, Mi.kS, Mi.pR, Mi.c9, Mi.dk, Mi.eV, Mi.dW, Mi.dX, Mi.k8, Mi.mN, Mi.cT, Mi.cU, Mi.m2, Mi.m1, Mi.mV, Mi.mC, Mi.uS, Mi.rK, Mi.mB, Mi.m4, Mi.zu, Mi.mZ, Mi.iq, Mi.pr, Mi.HN, Mi.eN, Mi.mTr, Mi.DV, Mi.gN, Mi.gT, Mi.eu, Mi.hB, Mi.gS, Mi.b1, Mi.b2, Mi.b3, Mi.im, Mi.gE, Mi.rM, Mi.AE, Mi.IC, Mi.Hb, Mi.IT, Mi.ee, Mi.oU, Mi.uT, Mi.AK, Mi.gSub, Mi.lM, Mi.oV, Mi.CN, Mi.CK, Mi.CL, Mi.CM, Mi.K2, Mi.Kj, Mi.Ki, Mi.JJ, Mi.Kh, Mi.K1, Mi.K0, true_and, Mi.dA, Mi.c6, bj, lA1, ci, gC1, List.getElem?_nil, cj, b0, lC1, aO, mP1, aL, Mi.KQ, Mi.KP, Mi.KF, Mi.KD, Mi.KC, Mi.KB, Mi.KA, Mi.Kz, Mi.Jq, Mi.Ha, cf, aS, ay, ck, Nat.reduceSub, cm, Option.join_none, oP1, Option.map_none, oS1, Option.bind_none, if_true, if_false, bF1, bJ, bX, ite_true, ite_false, reduceIte, decide_true, decide_false, Mi.Kk, Mi.K3, Mi.fH, Mi.iS, Mi.rL, Mi.AF, Mi.IA])
noncomputable section
namespace Law
open PySem PySem.Spec PyProof.Rows L2 Mi
def top (i:Nat):cR:=PySem.Challenge.pw_ringmeet_k36_papers_of_any_colouring.main.body.getD i (.Pass ⟨0,0,0,0⟩)
structure Blt (mg:Str->Option cE):Prop where
 z_all:mg "all"=none
 z_any:mg "any"=none
 z_bool:mg "bool"=none
 z_enumerate:mg "enumerate"=none
 z_int:mg "int"=none
 z_isinstance:mg "isinstance"=none
 z_len:mg "len"=none
 z_list:mg "list"=none
 z_max:mg "max"=none
 z_min:mg "min"=none
 z_range:mg "range"=none
 z_set:mg "set"=none
 z_sorted:mg "sorted"=none
 z_str:mg "str"=none
 z_tuple:mg "tuple"=none
 z_zip:mg "zip"=none
section
variable{P:cH}{w:cJ}{K:Fg1}{mg:Str->Option cE}{base h:cP}
abbrev kY:cR:=top 1
def ou:FS:=(dW (iq (m3 .int (mV 0)) (pr (m3 .bool (mV 0)))))
def fM:FN:=im 1 ou
theorem sd:dg ["thing"] ["thing"] (c0 kY):=⟨rfl,rfl,rfl,by decide+kernel,rfl,by decide+kernel,by decide+kernel⟩
theorem sx (X:K.In h)(G:h.Ns cK mg){f:cG}(F:dL K "is_whole" kY f)(B:Blt mg):
  eX P w K mg base 1 "is_whole" 1 fM:=xo X G F sd (fun _ _ _ _ _ _ c a=>Dq a fun _=>rfl) fun _ _ _ _ _ _ _ b=>
 (qG (qU (fT (fj .int rfl B.z_isinstance rfl B.z_int (by decide+kernel) (cV 0)) (fS (pS (fj .bool rfl B.z_isinstance rfl B.z_bool (by decide+kernel) (cV 0)))))))
abbrev iy:cR:=top 3
def iE:FS:=(dW (iq (m3 .tuple (mV 0)) (m2 (b2 gEq) (mN (b1 dH) (cT (mV 0) cU)) (mV 1))))
def d4:FN:=im 2 iE
theorem nG:dg ["thing","many"] ["thing","many"] (c0 iy):=⟨rfl,rfl,rfl,by decide+kernel,rfl,by decide+kernel,by decide+kernel⟩
theorem nQ (X:K.In h)(G:h.Ns cK mg){f:cG}(F:dL K "is_tuple_of" iy f)(B:Blt mg):
  eX P w K mg base 1 "is_tuple_of" 2 d4:=xo X G F nG (fun _ _ _ _ _ _ c b=>w5 b fun _ _=>rfl) fun _ _ _ _ _ _ _ a=>
 (qG (qU (fT (fj .tuple rfl B.z_isinstance rfl B.z_tuple (by decide+kernel) (cV 0)) (fS (ce (k7 a.units) (cb dR B.z_len (qA (cV 0) qN)) (cV 1))))))
abbrev qg:cR:=top 7
def pj:FS:=(c9 (dk (mN (b1 gTup) (cT (dZ 2 [2] (fC (mV 5)) (gT 2 (eu (gN 0) (eu (gN 1) hB))) eN (dS (d6 (cT (m2 (b2 c7) (mV 2) (mV 0)) (cT (mV 1) cU))))) cU)) (gN 6))
  (dX (kx (b2 gr) (mV 3) (cT (d6 (cT (m2 (b2 c7) (mV 2) (mV 4)) (cT (m2 (b2 c7) (mV 1) (mV 4)) (cT (mV 6) cU)))) cU))))
def wk:FS:=(c9 (dk (fy cU) (gN 3))
  (c9 (ee (mK (cT (mV 0) cU)) (gT 2 (eu (gN 4) (eu (gN 5) hB))) pj)
  (dW (mV 3))))
def lE:FN:=im 7 wk
theorem ju:dg ["web","signs","colours","found","room","doors","led_to"] ["web","signs","colours"] (c0 qg):=⟨rfl,rfl,rfl,by decide+kernel,rfl,by decide+kernel,by decide+kernel⟩
theorem yZ (X:K.In h)(G:h.Ns cK mg){f:cG}(F:dL K "looks" qg f)(B:Blt mg):
  eX P w K mg base 1 "looks" 3 lE:=xo X G F ju (fun _ _ _ _ _ _ c b=>Co b fun _ _ _=>rfl) fun _ _ _ _ _ _ _ a=>
 (qF (sn 3 ju.nd (dM qN))
  (qF (qW PassesOwn.never rfl (ez rfl B.z_enumerate (qA (cV 0) qN)) (dt rfl (cW (gn 4 ju.nd) (cW (gn 5 ju.nd) di))) (qF (sn 6 ju.nd (cy eR B.z_tuple (qA (qZ rfl (T:=["there","back"]) (keep:=[2]) ⟨rfl,by decide+kernel,(kc "colours" (cq _))⟩ rfl (qd (cV 5)) (fun _ _ _=>⟨(dt rfl (cW (qO 0 (show List.Nodup (["there","back","colours"]:List Str) by decide+kernel) rfl (by first|exact Or.inl rfl|exact Or.inr rfl)) (cW (qO 1 (show List.Nodup (["there","back","colours"]:List Str) by decide+kernel) rfl (by first|exact Or.inl rfl|exact Or.inr rfl)) di))),dB,(dq (qA (jx a (cV 2) (cV 0)) (qA (cV 1) qN)))⟩)) qN)))
  (qG (dQ (qe PySem.F.slot_list_append PySem.F.type_list_append gf (cV 3) (qA (dq (qA (jx a (cV 2) (cV 4)) (qA (jx a (cV 1) (cV 4)) (qA (cV 6) qN)))) qN))))))
  (qG (qU (cV 3)))))
abbrev iT:cR:=top 8
def je:FS:=(dW (m2 (b2 gEq) (mN (b1 lK) (cT (mN (b1 fz) (cT (mV 0) cU)) cU)) (mN (b1 dH) (cT (mV 0) cU))))
def e3:FN:=im 1 je
theorem oG:dg ["colours"] ["colours"] (c0 iT):=⟨rfl,rfl,rfl,by decide+kernel,rfl,by decide+kernel,by decide+kernel⟩
theorem oJ (X:K.In h)(G:h.Ns cK mg){f:cG}(F:dL K "all_unlike" iT f)(B:Blt mg):
  eX P w K mg base 1 "all_unlike" 1 e3:=xo X G F oG (fun _ _ _ _ _ _ c b=>Dq b fun _=>rfl) fun _ _ _ _ _ _ _ a=>
 (qG (qU (ce (k7 a.units) (cb rG B.z_len (qA (cy (rF a) B.z_set (qA (cV 0) qN)) qN)) (cb dR B.z_len (qA (cV 0) qN)))))
abbrev iz:cR:=top 10
def kO:FS:=(dW (mN (b1 gTup) (cT (dZ 1 [1] (rR (cT (mN (b1 dH) (cT (mV 0) cU)) cU)) (gN 0) eN (dS (HN (mB (m2 (b2 m7) (mV 0) (mV 1))) (mC (D.int (1))) (mC (D.int (0)))))) cU)))
def eK:FN:=im 2 kO
theorem nH:dg ["web","chalk"] ["web","chalk"] (c0 iz):=⟨rfl,rfl,rfl,by decide+kernel,rfl,by decide+kernel,by decide+kernel⟩
theorem nR (X:K.In h)(G:h.Ns cK mg){f:cG}(F:dL K "chalk_signs" iz f)(B:Blt mg):
  eX P w K mg base 1 "chalk_signs" 2 eK:=xo X G F nH (fun _ _ _ _ _ _ c b=>w5 b fun _ _=>rfl) fun _ _ _ _ _ _ _ a=>
 (qG (qU (cy eR B.z_tuple (qA (qZ rfl (T:=["room"]) (keep:=[1]) ⟨rfl,by decide+kernel,(kc "chalk" (cq _))⟩ rfl (dU rfl B.z_range (qA (cb dR B.z_len (qA (cV 0) qN)) qN)) (fun _ _ _=>⟨(qO 0 (show List.Nodup (["room","chalk"]:List Str) by decide+kernel) rfl (by first|exact Or.inl rfl|exact Or.inr rfl)),dB,(xP (ct (sE a.units) (cV 0) (cV 1) (by with_unfolding_all rfl)) qK qK)⟩)) qN))))
abbrev jB:cR:=top 16
def j5:FS:=(c9 (dk (mC (D.int (0))) (gN 2))
  (c9 (eV (mB (m2 (b2 gLt) (mV 1) (mN (b1 dH) (cT (mV 0) cU)))) (dk (m2 (b2 c7) (mV 0) (mV 1)) (gN 2)) k8)
  (c9 (dk (m2 (b2 jc) (m2 (b2 ms) (mC (D.int (10))) (mC (D.int (60)))) (m2 (b2 ms) (mC (D.int (10))) (mC (D.int (30))))) (gN 3))
  (dW (fy (cT (m2 (b2 jc) (m2 (b2 lJ) (mV 2) (mV 3)) (mN (b1 oV) (cT (m2 (b2 (lM fun i j=>decide (j<=i))) (mV 2) (m2 (b2 ms) (mC (D.int (10))) (mC (D.int (18))))) cU))) (cT (m2 (b2 lJ) (m2 (b2 e6) (m2 (b2 e6) (m2 (b2 lJ) (mV 2) (mC (D.int (2305843009213693951)))) (m2 (b2 jc) (mC (D.int (7919))) (mV 1))) (mC (D.int (5)))) (mC (D.int (2305843009213693951)))) (cT (mC (D.int (0))) cU))))))))
def fo:FN:=im 4 j5
theorem g0:dg ["_law_script","_law_k","_law_cell","_law_far"] ["_law_script","_law_k"] (c0 jB):=⟨rfl,rfl,rfl,by decide+kernel,rfl,by decide+kernel,by decide+kernel⟩
theorem qx (X:K.In h)(G:h.Ns cK mg){f:cG}(F:dL K "_law_hand" jB f)(B:Blt mg):
  eX P w K mg base 1 "_law_hand" 2 fo:=xo X G F g0 (fun _ _ _ _ _ _ c b=>w5 b fun _ _=>rfl) fun _ _ _ _ _ _ _ a=>
 (qF (sn 2 g0.nd qK)
  (qF (qV (ct (kG a.units) (cV 1) (cb dR B.z_len (qA (cV 0) qN))) (qG (sn 2 g0.nd (jx a (cV 0) (cV 1)))) qQ)
  (qF (sn 3 g0.nd (qI kF (qI sD qK qK) (qI sD qK qK)))
  (qG (qU (dM (qA (qI kF (qI mH (cV 2) (cV 3)) (cy tR B.z_int (qA (ce HB (cV 2) (qI sD qK qK)) qN))) (qA (qI mH (qI fk (qI fk (qI mH (cV 2) qK) (qI kF qK (cV 1))) qK) qK) (qA qK qN)))))))))
abbrev jA:cR:=top 17
def j3:FS:=(c9 (eV (mB (m2 (b2 (lM fun i j=>decide (j<i))) (m2 (b2 c7) (mV 0) (mC (D.int (0)))) (mC (D.int (0))))) (c9 (dk (m2 (b2 lJ) (m2 (b2 c7) (mV 0) (mC (D.int (0)))) (mV 1)) (gN 2))
  (c9 (dk (m2 (b2 rj) (m2 (b2 c7) (mV 0) (mC (D.int (0)))) (mV 1)) (gS (b3 gb) (mV 0) (mC (D.int (0)))))
  (dW (mV 2)))) k8)
  (c9 (dk (m2 (b2 e6) (m2 (b2 c7) (mV 0) (mC (D.int (2)))) (mC (D.int (1)))) (gS (b3 gb) (mV 0) (mC (D.int (2)))))
  (c9 (dk (m2 (b2 lJ) (m2 (b2 jc) (m2 (b2 e6) (m2 (b2 e6) (m2 (b2 c7) (mV 0) (mC (D.int (1)))) (m2 (b2 jc) (m2 (b2 jc) (mC (D.int (9973))) (m2 (b2 c7) (mV 0) (mC (D.int (2))))) (m2 (b2 c7) (mV 0) (mC (D.int (2)))))) (mC (D.int (17)))) (mC (D.int (69621)))) (mC (D.int (2305843009213693921)))) (gN 3))
  (c9 (dk (m2 (b2 lJ) (m2 (b2 jc) (mV 3) (m2 (b2 e6) (m2 (b2 lJ) (mV 3) (mC (D.int (999983)))) (m2 (b2 jc) (mC (D.int (7919))) (m2 (b2 c7) (mV 0) (mC (D.int (2))))))) (mC (D.int (2305843009213693907)))) (gN 3))
  (dW (m2 (b2 lJ) (m2 (b2 e6) (m2 (b2 rj) (mV 3) (mC (D.int (101)))) (m2 (b2 rj) (mV 3) (mC (D.int (1000003))))) (mV 1)))))))
def cZ:FN:=im 4 j3
theorem gZ:dg ["_law_hand_here","_law_many","_law_digit","_law_mixed"] ["_law_hand_here","_law_many"] (c0 jA):=⟨rfl,rfl,rfl,by decide+kernel,rfl,by decide+kernel,by decide+kernel⟩
theorem qw (X:K.In h)(G:h.Ns cK mg){f:cG}(F:dL K "_law_take" jA f)(B:Blt mg):
  eX P w K mg base 1 "_law_take" 2 cZ:=xo X G F gZ (fun _ _ _ _ _ _ c b=>w5 b fun _ _=>rfl) fun _ _ _ _ _ _ _ a=>
 (qF (qV (ct Jz (jx a (cV 0) qK) qK) (qF (sn 2 gZ.nd (qI mH (jx a (cV 0) qK) (cV 1)))
  (qF (qR (qI vv (jx a (cV 0) qK) (cV 1)) (iQ (cV 0) qK (kX a.units)))
  (qG (qU (cV 2))))) qQ)
  (qF (qR (qI fk (jx a (cV 0) qK) qK) (iQ (cV 0) qK (kX a.units)))
  (qF (sn 3 gZ.nd (qI mH (qI kF (qI fk (qI fk (jx a (cV 0) qK) (qI kF (qI kF qK (jx a (cV 0) qK)) (jx a (cV 0) qK))) qK) qK) qK))
  (qF (sn 3 gZ.nd (qI mH (qI kF (cV 3) (qI fk (qI mH (cV 3) qK) (qI kF qK (jx a (cV 0) qK)))) qK))
  (qG (qU (qI mH (qI fk (qI vv (cV 3) qK) (qI vv (cV 3) qK)) (cV 1))))))))
abbrev iZ:cR:=top 23
def jM:FS:=(eV (mB (m2 (b2 s9) (m2 (b2 c7) (m2 (b2 c7) (mV 0) (m2 (b2 c7) (mV 1) (mV 2))) (mV 4)) (d6 (cT (m2 (b2 c7) (mV 1) (mV 5)) (cT (mV 6) cU))))) (dW (mC (D.bl false))) k8)
def jL:FS:=(c9 (eV (mB (m2 (b2 s9) (mN (b1 dH) (cT (m2 (b2 c7) (mV 0) (m2 (b2 c7) (mV 1) (mV 2))) cU)) (mN (b1 dH) (cT (mV 3) cU)))) (dW (mC (D.bl false))) k8)
  (ee (mK (cT (mV 3) cU)) (gT 2 (eu (gN 4) (eu (gT 2 (eu (gN 5) (eu (gN 6) hB))) hB))) jM))
def lU:FS:=(c9 (ee (mK (cT (mV 0) cU)) (gT 2 (eu (gN 2) (eu (gN 3) hB))) jL)
  (dW (mC (D.bl true))))
def fx:FN:=im 7 lU
theorem fe:dg ["_law_web_here","_law_turn","_law_room","_law_row","_law_door","_law_other","_law_back"] ["_law_web_here","_law_turn"] (c0 iZ):=⟨rfl,rfl,rfl,by decide+kernel,rfl,by decide+kernel,by decide+kernel⟩
theorem oQ (X:K.In h)(G:h.Ns cK mg){f:cG}(F:dL K "_law_keeps" iZ f)(B:Blt mg):
  eX P w K mg base 1 "_law_keeps" 2 fx:=xo X G F fe (fun _ _ _ _ _ _ c b=>w5 b fun _ _=>rfl) fun _ _ _ _ _ _ _ a=>
 (qF (qW PassesOwn.never rfl (ez rfl B.z_enumerate (qA (cV 0) qN)) (dt rfl (cW (gn 2 fe.nd) (cW (gn 3 fe.nd) di))) (qF (qV (ct (oT a.units) (cb dR B.z_len (qA (jx a (cV 0) (jx a (cV 1) (cV 2))) qN)) (cb dR B.z_len (qA (cV 3) qN))) (qG (qU eY)) qQ)
  (qG (qW PassesOwn.never rfl (ez rfl B.z_enumerate (qA (cV 3) qN)) (dt rfl (cW (gn 4 fe.nd) (cW (dt rfl (cW (gn 5 fe.nd) (cW (gn 6 fe.nd) di))) di))) (qG (qV (ct (oT a.units) (jx a (jx a (cV 0) (jx a (cV 1) (cV 2))) (cV 4)) (dq (qA (jx a (cV 1) (cV 5)) (qA (cV 6) qN)))) (qG (qU eY)) qQ))))))
  (qG (qU eY)))
abbrev iV:cR:=top 24
def jJ:FS:=(eV (mB (m2 (b2 eI) (mV 5) (mV 1))) (c9 (dk (m2 (b2 e6) (m2 (b2 c7) (mV 1) (mV 3)) (d6 (cT (mV 4) cU))) (gS (b3 gb) (mV 1) (mV 5)))
  (dX (kx (b2 gr) (mV 2) (cT (mV 5) cU)))) k8)
def jI:FT:=(mB (m2 (b2 s9) (mV 2) (fy cU)))
def jH:FS:=(c9 (dk (kx (b2 uC) (mV 2) (cT (mC (D.int (0))) cU)) (gN 3))
  (ee (mK (cT (m2 (b2 c7) (mV 0) (mV 3)) cU)) (gT 2 (eu (gN 4) (eu (gT 2 (eu (gN 5) (eu (gN 6) hB))) hB))) jJ))
def lQ:FS:=(c9 (dk (d6 (cT (Do [((mC (D.int (0))),(d6 cU))]) (cT (fy (cT (mC (D.int (0))) cU)) cU))) (gT 2 (eu (gN 1) (eu (gN 2) hB))))
  (c9 (tY jI jH 100000)
  (dW (dZ 1 [1] (rR (cT (mN (b1 dH) (cT (mV 0) cU)) cU)) (gN 0) eN (dS (m2 (b2 c7) (mV 1) (mV 0)))))))
def fZ:FN:=im 7 lQ
theorem eJ:dg ["_law_web_here","_law_found","_law_waiting","_law_room","_law_door","_law_other","_law_back"] ["_law_web_here"] (c0 iV):=⟨rfl,rfl,rfl,by decide+kernel,rfl,by decide+kernel,by decide+kernel⟩
theorem oM (X:K.In h)(G:h.Ns cK mg){f:cG}(F:dL K "_law_walks" iV f)(B:Blt mg):
  eX P w K mg base 1 "_law_walks" 1 fZ:=xo X G F eJ (fun _ _ _ _ _ _ c b=>Dq b fun _=>rfl) fun _ _ _ _ _ _ _ a=>
 (qF (qR (dq (qA (xQ (xM qK (dq qN) AX)) (qA (dM (qA qK qN)) qN))) (dt rfl (cW (gn 1 eJ.nd) (cW (gn 2 eJ.nd) di))))
  (qF (l0 100000 PassesOwn.never (ct (oT a.units) (cV 2) (dM qN)) (qF (sn 3 eJ.nd (qe PySem.F.slot_list_pop PySem.F.type_list_pop yh (cV 2) (qA qK qN)))
  (qG (qW PassesOwn.never rfl (ez rfl B.z_enumerate (qA (jx a (cV 0) (cV 3)) qN)) (dt rfl (cW (gn 4 eJ.nd) (cW (dt rfl (cW (gn 5 eJ.nd) (cW (gn 6 eJ.nd) di))) di))) (qG (qV (ct (jQ a.units) (cV 5) (cV 1) (by with_unfolding_all rfl)) (qF (qR (qI fk (jx a (cV 1) (cV 3)) (dq (qA (cV 4) qN))) (iQ (cV 1) (cV 5) (kX a.units)))
  (qG (dQ (qe PySem.F.slot_list_append PySem.F.type_list_append gf (cV 2) (qA (cV 5) qN))))) qQ))))))
  (qG (qU (qZ rfl (T:=["_law_room"]) (keep:=[1]) ⟨rfl,by decide+kernel,(kc "_law_found" (cq _))⟩ rfl (dU rfl B.z_range (qA (cb dR B.z_len (qA (cV 0) qN)) qN)) (fun _ _ _=>⟨(qO 0 (show List.Nodup (["_law_room","_law_found"]:List Str) by decide+kernel) rfl (by first|exact Or.inl rfl|exact Or.inr rfl)),dB,(jx a (cV 1) (cV 0))⟩))))))
abbrev k4:cR:=top 25
def lz:FS:=(c9 (eV (zu (mB (m2 (b2 F3) (mV 1) (mC D.non))) (mB (m2 (b2 (lM fun i j=>decide (j<=i))) (mV 3) (mN (b1 dH) (cT (m2 (b2 c7) (mV 0) (mV 1)) cU))))) (dW (mC D.non)) k8)
  (dk (m2 (b2 c7) (m2 (b2 c7) (m2 (b2 c7) (mV 0) (mV 1)) (mV 3)) (mC (D.int (0)))) (gN 1)))
def oz:FS:=(c9 (ee (fC (mV 2)) (gN 3) lz)
  (dW (mV 1)))
def ij:FN:=im 4 oz
theorem jw:dg ["_law_web_here","_law_room","_law_walk","_law_door"] ["_law_web_here","_law_room","_law_walk"] (c0 k4):=⟨rfl,rfl,rfl,by decide+kernel,rfl,by decide+kernel,by decide+kernel⟩
theorem sB (X:K.In h)(G:h.Ns cK mg){f:cG}(F:dL K "_law_led" k4 f)(B:Blt mg):
  eX P w K mg base 1 "_law_led" 3 ij:=xo X G F jw (fun _ _ _ _ _ _ c b=>Co b fun _ _ _=>rfl) fun _ _ _ _ _ _ _ a=>
 (qF (qW PassesOwn.never rfl (qd (cV 2)) (gn 3 jw.nd) (qF (qV (jq (jp (ct Hy (cV 1) pT) (iP (ct HB (cV 3) (cb dR B.z_len (qA (jx a (cV 0) (cV 1)) qN)))))) (qG (qU pT)) qQ)
  (qG (sn 1 jw.nd (jx a (jx a (jx a (cV 0) (cV 1)) (cV 3)) qK)))))
  (qG (qU (cV 1))))
abbrev iU:cR:=top 27
def lP:FS:=(dW (iq (m3 .int (mV 0)) (pr (m3 .bool (mV 0)))))
def fY:FN:=im 1 lP
theorem oH:dg ["_law_thing"] ["_law_thing"] (c0 iU):=⟨rfl,rfl,rfl,by decide+kernel,rfl,by decide+kernel,by decide+kernel⟩
theorem oK (X:K.In h)(G:h.Ns cK mg){f:cG}(F:dL K "_law_whole" iU f)(B:Blt mg):
  eX P w K mg base 1 "_law_whole" 1 fY:=xo X G F oH (fun _ _ _ _ _ _ c a=>Dq a fun _=>rfl) fun _ _ _ _ _ _ _ b=>
 (qG (qU (fT (fj .int rfl B.z_isinstance rfl B.z_int (by decide+kernel) (cV 0)) (fS (pS (fj .bool rfl B.z_isinstance rfl B.z_bool (by decide+kernel) (cV 0)))))))
abbrev hW:cR:=top 28
def iL:FS:=(dX (kx (b2 gr) (mV 4) (cT (d6 (cT (m2 (b2 c7) (mV 2) (mV 5)) (cT (mN (b1 gTup) (cT (dZ 2 [2] (fC (mV 6)) (gT 2 (eu (gN 0) (eu (gN 1) hB))) eN (dS (d6 (cT (m2 (b2 c7) (mV 2) (mV 0)) (cT (mV 1) cU))))) cU)) cU))) cU)))
def gm:FS:=(c9 (dk (fy cU) (gN 4))
  (c9 (ee (mK (cT (mV 0) cU)) (gT 2 (eu (gN 5) (eu (gN 6) hB))) iL)
  (dk (dZ 1 [4] (fC (mV 4)) (gN 0) eN (dS (kx (b2 oa) (mV 1) (cT (mV 0) cU)))) (gN 2))))
def iK:FS:=(eV (mB (m2 (b2 eI) (mV 8) (mV 7))) (dX (kx (b2 gr) (mV 7) (cT (mV 8) cU))) k8)
def j6:FS:=(c9 (dk (dZ 2 [] (Dv (cT (mV 0) (cT (mV 1) cU))) (gT 2 (eu (gN 0) (eu (gN 1) hB))) eN (dS (d6 (cT (mN (b1 dH) (cT (mV 0) cU)) (cT (mV 1) cU))))) (gN 2))
  (c9 (ee (fC (mV 0)) (gN 3) gm)
  (c9 (dk (fy cU) (gN 7))
  (c9 (ee (fC (mV 2)) (gN 8) iK)
  (dW (mN (b1 gTup) (cT (dZ 1 [7] (fC (mV 2)) (gN 0) eN (dS (kx (b2 oa) (mV 1) (cT (mV 0) cU)))) cU)))))))
def eU:FN:=im 9 j6
theorem dN:dg ["_law_web_here","_law_signs_here","_law_colours_here","_law_turn","_law_views","_law_room","_law_row","_law_firsts","_law_colour"] ["_law_web_here","_law_signs_here"] (c0 hW):=⟨rfl,rfl,rfl,by decide+kernel,rfl,by decide+kernel,by decide+kernel⟩
theorem mY (X:K.In h)(G:h.Ns cK mg){f:cG}(F:dL K "_law_colours" hW f)(B:Blt mg):
  eX P w K mg base 1 "_law_colours" 2 eU:=xo X G F dN (fun _ _ _ _ _ _ c b=>w5 b fun _ _=>rfl) fun _ _ _ _ _ _ _ a=>
 (qF (sn 2 dN.nd (qZ rfl (T:=["_law_row","_law_sign"]) (keep:=[]) ⟨rfl,by decide+kernel,(cq _)⟩ rfl (u4 rfl B.z_zip (qA (cV 0) (qA (cV 1) qN))) (fun _ _ _=>⟨(dt rfl (cW (qO 0 (show List.Nodup (["_law_row","_law_sign"]:List Str) by decide+kernel) rfl (by first|exact Or.inl rfl|exact Or.inr rfl)) (cW (qO 1 (show List.Nodup (["_law_row","_law_sign"]:List Str) by decide+kernel) rfl (by first|exact Or.inl rfl|exact Or.inr rfl)) di))),dB,(dq (qA (cb dR B.z_len (qA (cV 0) qN)) (qA (cV 1) qN)))⟩)))
  (qF (qW PassesOwn.never rfl (qd (cV 0)) (gn 3 dN.nd) (qF (sn 4 dN.nd (dM qN))
  (qF (qW PassesOwn.never rfl (ez rfl B.z_enumerate (qA (cV 0) qN)) (dt rfl (cW (gn 5 dN.nd) (cW (gn 6 dN.nd) di))) (qG (dQ (qe PySem.F.slot_list_append PySem.F.type_list_append gf (cV 4) (qA (dq (qA (jx a (cV 2) (cV 5)) (qA (cy eR B.z_tuple (qA (qZ rfl (T:=["_law_other","_law_back"]) (keep:=[2]) ⟨rfl,by decide+kernel,(kc "_law_colours_here" (cq _))⟩ rfl (qd (cV 6)) (fun _ _ _=>⟨(dt rfl (cW (qO 0 (show List.Nodup (["_law_other","_law_back","_law_colours_here"]:List Str) by decide+kernel) rfl (by first|exact Or.inl rfl|exact Or.inr rfl)) (cW (qO 1 (show List.Nodup (["_law_other","_law_back","_law_colours_here"]:List Str) by decide+kernel) rfl (by first|exact Or.inl rfl|exact Or.inr rfl)) di))),dB,(dq (qA (jx a (cV 2) (cV 0)) (qA (cV 1) qN)))⟩)) qN)) qN))) qN)))))
  (qG (sn 2 dN.nd (qZ rfl (T:=["_law_one"]) (keep:=[4]) ⟨rfl,by decide+kernel,(kc "_law_views" (cq _))⟩ rfl (qd (cV 4)) (fun _ _ _=>⟨(qO 0 (show List.Nodup (["_law_one","_law_views"]:List Str) by decide+kernel) rfl (by first|exact Or.inl rfl|exact Or.inr rfl)),dB,(qe PySem.F.slot_list_index PySem.F.type_list_index (yi a.units) (cV 1) (qA (cV 0) qN))⟩)))))))
  (qF (sn 7 dN.nd (dM qN))
  (qF (qW PassesOwn.never rfl (qd (cV 2)) (gn 8 dN.nd) (qG (qV (ct (jQ a.units) (cV 8) (cV 7) (by with_unfolding_all rfl)) (qG (dQ (qe PySem.F.slot_list_append PySem.F.type_list_append gf (cV 7) (qA (cV 8) qN)))) qQ)))
  (qG (qU (cy eR B.z_tuple (qA (qZ rfl (T:=["_law_colour"]) (keep:=[7]) ⟨rfl,by decide+kernel,(kc "_law_firsts" (cq _))⟩ rfl (qd (cV 2)) (fun _ _ _=>⟨(qO 0 (show List.Nodup (["_law_colour","_law_firsts"]:List Str) by decide+kernel) rfl (by first|exact Or.inl rfl|exact Or.inr rfl)),dB,(qe PySem.F.slot_list_index PySem.F.type_list_index (yi a.units) (cV 1) (qA (cV 0) qN))⟩)) qN))))))))
abbrev iX:cR:=top 31
def lS:FS:=(dW (dZ 1 [1,2] (rR (cT (mN (b1 dH) (cT (mV 0) cU)) cU)) (gN 0) eN (dS (m2 (b2 e6) (mN (b1 oV) (cT (m2 (b2 m7) (mV 0) (m2 (b2 c7) (mV 1) (mC (D.int (1))))) cU)) (m2 (b2 jc) (mC (D.int (2))) (mN (b1 oV) (cT (iq (mV 2) (m2 (b2 m7) (mV 0) (m2 (b2 c7) (mV 1) (mC (D.int (0)))))) cU)))))))
def d5:FN:=im 3 lS
theorem oI:dg ["_law_web_here","_law_standing_here","_law_walkers"] ["_law_web_here","_law_standing_here","_law_walkers"] (c0 iX):=⟨rfl,rfl,rfl,by decide+kernel,rfl,by decide+kernel,by decide+kernel⟩
theorem oO (X:K.In h)(G:h.Ns cK mg){f:cG}(F:dL K "_law_signs" iX f)(B:Blt mg):
  eX P w K mg base 1 "_law_signs" 3 d5:=xo X G F oI (fun _ _ _ _ _ _ c b=>Co b fun _ _ _=>rfl) fun _ _ _ _ _ _ _ a=>
 (qG (qU (qZ rfl (T:=["_law_room"]) (keep:=[1,2]) ⟨rfl,by decide+kernel,(kc "_law_standing_here" (kc "_law_walkers" (cq _)))⟩ rfl (dU rfl B.z_range (qA (cb dR B.z_len (qA (cV 0) qN)) qN)) (fun _ _ _=>⟨(qO 0 (show List.Nodup (["_law_room","_law_standing_here","_law_walkers"]:List Str) by decide+kernel) rfl (by first|exact Or.inl rfl|exact Or.inr rfl)),dB,(qI fk (cy tR B.z_int (qA (ce (sE a.units) (cV 0) (jx a (cV 1) qK) (by with_unfolding_all rfl)) qN)) (qI kF qK (cy tR B.z_int (qA (fT (cV 2) (fS (ce (sE a.units) (cV 0) (jx a (cV 1) qK) (by with_unfolding_all rfl)))) qN))))⟩))))
abbrev kZ:cR:=top 2
def ox:FS:=(dW (iq (mN (cY 1 fM) (cT (mV 0) cU)) (HP (b2 (lM fun i j=>decide (i<=j))) (b2 gLt) (mC (D.int (0))) (mV 0) (mV 1))))
def gq:FN:=im 2 ox
theorem se:dg ["thing","bound"] ["thing","bound"] (c0 kZ):=⟨rfl,rfl,rfl,by decide+kernel,rfl,by decide+kernel,by decide+kernel⟩
theorem sy (X:K.In h)(G:h.Ns cK mg){f:cG}(F:dL K "is_below" kZ f)(B:Blt mg)(b:eX P w K mg base 1 "is_whole" 1 fM):
  eX P w K mg base 2 "is_below" 2 gq:=xo X G F se (fun _ _ _ _ _ _ d c=>w5 c fun _ _=>rfl) fun _ _ _ _ _ _ _ a=>
 (qG (qU (fT (wo b a (qA (cV 0) qN)) (fS (wB Jx (kG a.units) qK (cV 0) (cV 1))))))
abbrev jy:cR:=top 4
def mO:FS:=(dW (iq (mN (cY 2 d4) (cT (mV 0) (cT (mV 2) cU))) (iq (m3 .str (m2 (b2 c7) (mV 0) (mC (D.int (0))))) (m2 (b2 gEq) (m2 (b2 c7) (mV 0) (mC (D.int (0)))) (mV 1)))))
def fP:FN:=im 3 mO
theorem qf:dg ["thing","word","many"] ["thing","word","many"] (c0 jy):=⟨rfl,rfl,rfl,by decide+kernel,rfl,by decide+kernel,by decide+kernel⟩
theorem qu (X:K.In h)(G:h.Ns cK mg){f:cG}(F:dL K "is_headed" jy f)(B:Blt mg)(b:eX P w K mg base 1 "is_tuple_of" 2 d4):
  eX P w K mg base 2 "is_headed" 3 fP:=xo X G F qf (fun _ _ _ _ _ _ d c=>Co c fun _ _ _=>rfl) fun _ _ _ _ _ _ _ a=>
 (qG (qU (fT (wo b a (qA (cV 0) (qA (cV 2) qN))) (fT (fj .str rfl B.z_isinstance rfl B.z_str (by decide+kernel) (jx a (cV 0) qK)) (fS (ce (k7 a.units) (jx a (cV 0) qK) (cV 1)))))))
abbrev hO:cR:=top 6
def j2:FS:=(c9 (eV (zu (mZ (mTr (mN (cY 2 d4) (cT (mV 2) (cT (mN (b1 dH) (cT (mV 0) cU)) cU))))) (mZ (mTr (mN (b1 zZ) (cT (dZ 1 [] (fC (mV 2)) (gN 0) eN (dS (mN (cY 1 fM) (cT (mV 0) cU)))) cU))))) (dW (mC (D.bl false))) k8)
  (dW (m2 (b2 gEq) (mN (b1 j0) (cT (mN (cY 3 lE) (cT (mV 0) (cT (mV 1) (cT (mV 2) cU)))) cU)) (mN (b1 lK) (cT (mN (b1 fz) (cT (mV 2) cU)) cU)))))
def eB:FN:=im 3 j2
theorem mT:dg ["web","signs","thing"] ["web","signs","thing"] (c0 hO):=⟨rfl,rfl,rfl,by decide+kernel,rfl,by decide+kernel,by decide+kernel⟩
theorem mW (X:K.In h)(G:h.Ns cK mg){f:cG}(F:dL K "is_colouring" hO f)(B:Blt mg)(d:eX P w K mg base 1 "is_tuple_of" 2 d4)(e:eX P w K mg base 1 "is_whole" 1 fM)(b:eX P w K mg base 1 "looks" 3 lE):
  eX P w K mg base 2 "is_colouring" 3 eB:=xo X G F mT (fun _ _ _ _ _ _ g c=>Co c fun _ _ _=>rfl) fun _ _ _ _ _ _ _ a=>
 (qF (qV (jq (jp (gR (fg (wo d a (qA (cV 2) (qA (cb dR B.z_len (qA (cV 0) qN)) qN))))) (iP (gR (fg (cb (DA rfl) B.z_all (qA (qZ rfl (T:=["number"]) (keep:=[]) ⟨rfl,by decide+kernel,(cq _)⟩ rfl (qd (cV 2)) (fun _ _ _=>⟨(qO 0 (show List.Nodup (["number"]:List Str) by decide+kernel) rfl (by first|exact Or.inl rfl|exact Or.inr rfl)),dB,(wo e a (qA (cV 0) qN))⟩)) qN))))))) (qG (qU eY)) qQ)
  (qG (qU (ce (k7 a.units) (xO rfl a.units rfl B.z_len rfl B.z_set (wo b a (qA (cV 0) (qA (cV 1) (qA (cV 2) qN))))) (cb rG B.z_len (qA (cy (rF a) B.z_set (qA (cV 2) qN)) qN))))))
abbrev jz:cR:=top 11
def mP:FS:=(c9 (dk (mV 1) (gT 2 (eu (gN 2) (eu (gN 3) hB))))
  (c9 (dk (mN (cY 2 eK) (cT (mV 0) (cT (mV 3) cU))) (gN 4))
  (dW (mN (b1 gTup) (cT (dZ 2 [2] (mK (cT (mV 4) cU)) (gT 2 (eu (gN 0) (eu (gN 1) hB))) eN (dS (HN (mB (m2 (b2 m7) (mV 0) (mV 2))) (m2 (b2 e6) (mV 1) (mC (D.int (2)))) (mV 1)))) cU)))))
def gw:FN:=im 5 mP
theorem gX:dg ["web","standing","rooms","chalk","signs"] ["web","standing"] (c0 jz):=⟨rfl,rfl,rfl,by decide+kernel,rfl,by decide+kernel,by decide+kernel⟩
theorem qv (X:K.In h)(G:h.Ns cK mg){f:cG}(F:dL K "all_signs" jz f)(B:Blt mg)(c:eX P w K mg base 1 "chalk_signs" 2 eK):
  eX P w K mg base 2 "all_signs" 2 gw:=xo X G F gX (fun _ _ _ _ _ _ d b=>w5 b fun _ _=>rfl) fun _ _ _ _ _ _ _ a=>
 (qF (qR (cV 1) (dt rfl (cW (gn 2 gX.nd) (cW (gn 3 gX.nd) di))))
  (qF (sn 4 gX.nd (wo c a (qA (cV 0) (qA (cV 3) qN))))
  (qG (qU (cy eR B.z_tuple (qA (qZ rfl (T:=["room","sign"]) (keep:=[2]) ⟨rfl,by decide+kernel,(kc "rooms" (cq _))⟩ rfl (ez rfl B.z_enumerate (qA (cV 4) qN)) (fun _ _ _=>⟨(dt rfl (cW (qO 0 (show List.Nodup (["room","sign","rooms"]:List Str) by decide+kernel) rfl (by first|exact Or.inl rfl|exact Or.inr rfl)) (cW (qO 1 (show List.Nodup (["room","sign","rooms"]:List Str) by decide+kernel) rfl (by first|exact Or.inl rfl|exact Or.inr rfl)) di))),dB,(xP (ct (sE a.units) (cV 0) (cV 2) (by with_unfolding_all rfl)) (qI fk (cV 1) qK) (cV 1))⟩)) qN))))))
abbrev iB:cR:=top 18
def gO:FT:=(mB (m2 (b2 s9) (mV 4) (fy cU)))
def gM:FS:=(dX (kx (b2 gr) (mV 5) (cT (kx (b2 uC) (mV 4) (cT (mN (cY 2 cZ) (cT (mV 0) (cT (mN (b1 dH) (cT (mV 4) cU)) cU))) cU)) cU)))
def gL:FS:=(c9 (dk (d6 (cT (mN (b1 xf) (cT (mV 3) cU)) (cT (fy cU) cU))) (gT 2 (eu (gN 4) (eu (gN 5) hB))))
  (c9 (tY gO gM 100000)
  (dX (kx (b2 gr) (mV 2) (cT (mV 5) cU)))))
def gK:FS:=(dX (kx (b2 gr) (nW (mV 6) (mV 9) (fy cU)) (cT (d6 (cT (mV 7) (cT (mV 8) cU))) cU)))
def jg:FS:=(ee (mK (cT (mV 5) cU)) (gT 2 (eu (gN 8) (eu (gN 9) hB))) gK)
def kQ:FS:=(c9 (dk (fy cU) (gN 2))
  (c9 (ee (fC (mV 1)) (gN 3) gL)
  (c9 (dk sN (gN 6))
  (c9 (ee (mK (cT (mV 2) cU)) (gT 2 (eu (gN 7) (eu (gN 5) hB))) jg)
  (dW (mN (b1 gTup) (cT (dZ 2 [6] (mK (cT (mV 2) cU)) (gT 2 (eu (gN 0) (eu (gN 1) hB))) eN (dS (mN (b1 gTup) (cT (dZ 2 [2,0] (mK (cT (mV 1) cU)) (gT 2 (eu (gN 0) (eu (gN 1) hB))) eN (dS (m2 (b2 c7) (m2 (b2 c7) (mV 2) (mV 1)) (mN (b1 oV) (cT (m2 (b2 gEq) (m2 (b2 c7) (m2 (b2 c7) (mV 2) (mV 1)) (mC (D.int (0)))) (d6 (cT (mV 3) (cT (mV 0) cU)))) cU))))) cU)))) cU)))))))
def fG:FN:=im 10 kQ
theorem dV:dg ["_law_hand_here","_law_ends","_law_rows","_law_some","_law_left","_law_row","_law_places","_law_room","_law_door","_law_way"] ["_law_hand_here","_law_ends"] (c0 iB):=⟨rfl,rfl,rfl,by decide+kernel,rfl,by decide+kernel,by decide+kernel⟩
theorem nT (X:K.In h)(G:h.Ns cK mg){f:cG}(F:dL K "_law_doored" iB f)(B:Blt mg)(b:eX P w K mg base 1 "_law_take" 2 cZ):
  eX P w K mg base 2 "_law_doored" 2 fG:=xo X G F dV (fun _ _ _ _ _ _ d c=>w5 c fun _ _=>rfl) fun _ _ _ _ _ _ _ a=>
 (qF (sn 2 dV.nd (dM qN))
  (qF (qW PassesOwn.never rfl (qd (cV 1)) (gn 3 dV.nd) (qF (gU 4 5 rfl dV.nd rfl rfl (by decide) rfl rfl (qA (cy Aq B.z_list (qA (cV 3) qN)) (qA (dM qN) qN)))
  (qF (l0 100000 PassesOwn.never (ct (oT a.units) (cV 4) (dM qN)) (qG (dQ (qe PySem.F.slot_list_append PySem.F.type_list_append gf (cV 5) (qA (qe PySem.F.slot_list_pop PySem.F.type_list_pop yh (cV 4) (qA (wo b a (qA (cV 0) (qA (cb dR B.z_len (qA (cV 4) qN)) qN))) qN)) qN)))))
  (qG (dQ (qe PySem.F.slot_list_append PySem.F.type_list_append gf (cV 2) (qA (cV 5) qN)))))))
  (qF (sn 6 dV.nd rX)
  (qF (qW PassesOwn.never rfl (ez rfl B.z_enumerate (qA (cV 2) qN)) (dt rfl (cW (gn 7 dV.nd) (cW (gn 5 dV.nd) di))) (qG (qW PassesOwn.never rfl (ez rfl B.z_enumerate (qA (cV 5) qN)) (dt rfl (cW (gn 8 dV.nd) (cW (gn 9 dV.nd) di))) (qG (dQ (qe PySem.F.slot_list_append PySem.F.type_list_append gf (AZ (cV 6) (cV 9) (dM qN)) (qA (dq (qA (cV 7) (qA (cV 8) qN))) qN)))))))
  (qG (qU (cy eR B.z_tuple (qA (qZ rfl (T:=["_law_room","_law_row"]) (keep:=[6]) ⟨rfl,by decide+kernel,(kc "_law_places" (cq _))⟩ rfl (ez rfl B.z_enumerate (qA (cV 2) qN)) (fun _ _ _=>⟨(dt rfl (cW (qO 0 (show List.Nodup (["_law_room","_law_row","_law_places"]:List Str) by decide+kernel) rfl (by first|exact Or.inl rfl|exact Or.inr rfl)) (cW (qO 1 (show List.Nodup (["_law_room","_law_row","_law_places"]:List Str) by decide+kernel) rfl (by first|exact Or.inl rfl|exact Or.inr rfl)) di))),dB,(cy eR B.z_tuple (qA (qZ rfl (T:=["_law_door","_law_way"]) (keep:=[2,0]) ⟨rfl,by decide+kernel,(kc "_law_places" (kc "_law_room" (cq _)))⟩ rfl (ez rfl B.z_enumerate (qA (cV 1) qN)) (fun _ _ _=>⟨(dt rfl (cW (qO 0 (show List.Nodup (["_law_door","_law_way","_law_places","_law_room"]:List Str) by decide+kernel) rfl (by first|exact Or.inl rfl|exact Or.inr rfl)) (cW (qO 1 (show List.Nodup (["_law_door","_law_way","_law_places","_law_room"]:List Str) by decide+kernel) rfl (by first|exact Or.inl rfl|exact Or.inr rfl)) di))),dB,(jx a (jx a (cV 2) (cV 1)) (cy tR B.z_int (qA (ce (k7 a.units) (jx a (jx a (cV 2) (cV 1)) qK) (dq (qA (cV 3) (qA (cV 0) qN)))) qN)))⟩)) qN))⟩)) qN))))))))
abbrev iY:cR:=top 20
def lT:FS:=(c9 (dk (w1 (cT (mV 1) cU)) (gN 2))
  (dW (dZ 1 [2,0] (rR (cT (mV 1) cU)) (gN 0) eN (dS (kx (b2 uC) (mV 1) (cT (mN (cY 2 cZ) (cT (mV 2) (cT (mN (b1 dH) (cT (mV 1) cU)) cU))) cU))))))
def fw:FN:=im 3 lT
theorem kE:dg ["_law_hand_here","_law_many","_law_left"] ["_law_hand_here","_law_many"] (c0 iY):=⟨rfl,rfl,rfl,by decide+kernel,rfl,by decide+kernel,by decide+kernel⟩
theorem oP (X:K.In h)(G:h.Ns cK mg){f:cG}(F:dL K "_law_order" iY f)(B:Blt mg)(a:eX P w K mg base 1 "_law_take" 2 cZ):
  eX P w K mg base 2 "_law_order" 2 fw:=xo X G F kE (fun _ _ _ _ _ _ d c=>w5 c fun _ _=>rfl) fun _ _ _ _ _ _ _ b=>
 (qF (sn 2 kE.nd (nt rfl rfl B.z_range rfl B.z_list (qA (cV 1) qN)))
  (qG (qU (qZ rfl (T:=["_law_k"]) (keep:=[2,0]) ⟨rfl,by decide+kernel,(kc "_law_left" (kc "_law_hand_here" (cq _)))⟩ rfl (dU rfl B.z_range (qA (cV 1) qN)) (fun _ _ _=>⟨(qO 0 (show List.Nodup (["_law_k","_law_left","_law_hand_here"]:List Str) by decide+kernel) rfl (by first|exact Or.inl rfl|exact Or.inr rfl)),dB,(qe PySem.F.slot_list_pop PySem.F.type_list_pop yh (cV 1) (qA (wo a b (qA (cV 2) (qA (cb dR B.z_len (qA (cV 1) qN)) qN))) qN))⟩)))))
abbrev iW:cR:=top 26
def jK:FS:=(c9 (dk (mN (b1 gTup) (cT (dZ 1 [0,3] (fC (mV 2)) (gN 0) eN (dS (mN (cY 3 ij) (cT (mV 1) (cT (mV 2) (cT (mV 0) cU)))))) cU)) (gN 4))
  (eV (m4 (mB (m2 (b2 eI) (mC D.non) (mV 4))) (m4 (mB (m2 (b2 gEq) (mN (b1 lK) (cT (mN (b1 fz) (cT (mV 4) cU)) cU)) (mN (b1 dH) (cT (mV 4) cU)))) (mTr (mN (cY 2 fx) (cT (mV 0) (cT (mV 4) cU)))))) (dX (kx (b2 gr) (mV 1) (cT (mV 4) cU))) k8))
def lR:FS:=(c9 (dk (d6 (cT (fy cU) (cT (mN (cY 1 fZ) (cT (mV 0) cU)) cU))) (gT 2 (eu (gN 1) (eu (gN 2) hB))))
  (c9 (ee (rR (cT (mN (b1 dH) (cT (mV 0) cU)) cU)) (gN 3) jK)
  (dW (mN (b1 gy) (cT (mV 1) cU)))))
def f0:FN:=im 5 lR
theorem gt:dg ["_law_web_here","_law_found","_law_walks_here","_law_room","_law_turn"] ["_law_web_here"] (c0 iW):=⟨rfl,rfl,rfl,by decide+kernel,rfl,by decide+kernel,by decide+kernel⟩
theorem oN (X:K.In h)(G:h.Ns cK mg){f:cG}(F:dL K "_law_turns" iW f)(B:Blt mg)(d:eX P w K mg base 1 "_law_keeps" 2 fx)(e:eX P w K mg base 1 "_law_led" 3 ij)(b:eX P w K mg base 1 "_law_walks" 1 fZ):
  eX P w K mg base 2 "_law_turns" 1 f0:=xo X G F gt (fun _ _ _ _ _ _ g c=>Dq c fun _=>rfl) fun _ _ _ _ _ _ _ a=>
 (qF (gU 1 2 rfl gt.nd rfl rfl (by decide) rfl rfl (qA (dM qN) (qA (wo b a (qA (cV 0) qN)) qN)))
  (qF (qW PassesOwn.never rfl (dU rfl B.z_range (qA (cb dR B.z_len (qA (cV 0) qN)) qN)) (gn 3 gt.nd) (qF (sn 4 gt.nd (cy eR B.z_tuple (qA (qZ rfl (T:=["_law_walk"]) (keep:=[0,3]) ⟨rfl,by decide+kernel,(kc "_law_web_here" (kc "_law_room" (cq _)))⟩ rfl (qd (cV 2)) (fun _ _ _=>⟨(qO 0 (show List.Nodup (["_law_walk","_law_web_here","_law_room"]:List Str) by decide+kernel) rfl (by first|exact Or.inl rfl|exact Or.inr rfl)),dB,(wo e a (qA (cV 1) (qA (cV 2) (qA (cV 0) qN))))⟩)) qN)))
  (qG (qV (jq (ll (ct (jQ a.units) pT (cV 4) (by with_unfolding_all rfl)) (ll (ct (k7 a.units) (cb rG B.z_len (qA (cy (rF a) B.z_set (qA (cV 4) qN)) qN)) (cb dR B.z_len (qA (cV 4) qN))) (lj (fg (wo d a (qA (cV 0) (qA (cV 4) qN)))))))) (qG (dQ (qe PySem.F.slot_list_append PySem.F.type_list_append gf (cV 1) (qA (cV 4) qN)))) qQ))))
  (qG (qU (cb wj B.z_sorted (qA (cV 1) qN))))))
abbrev jC:cR:=top 29
def iC:FS:=(eV (mB (m2 (b2 gEq) (m2 (b2 c7) (mV 2) (mV 3)) (m2 (b2 c7) (mV 2) (mV 5)))) (c9 (eV (zu (mB (m2 (b2 s9) (mN (b1 dH) (cT (mV 4) cU)) (mN (b1 dH) (cT (mV 6) cU)))) (mB (m2 (b2 s9) (m2 (b2 c7) (mV 1) (mV 3)) (m2 (b2 c7) (mV 1) (mV 5))))) (dW (mC (D.bl false))) k8)
  (eV (mTr (mN (b1 CO) (cT (dZ 2 [2] (Dv (cT (mV 4) (cT (mV 6) cU))) (gT 2 (eu (gN 0) (eu (gN 1) hB))) eN (dS (Cj (m2 (b2 s9) (m2 (b2 c7) (mV 2) (m2 (b2 c7) (mV 0) (mC (D.int (0))))) (m2 (b2 c7) (mV 2) (m2 (b2 c7) (mV 1) (mC (D.int (0)))))) (m2 (b2 s9) (m2 (b2 c7) (mV 0) (mC (D.int (1)))) (m2 (b2 c7) (mV 1) (mC (D.int (1)))))))) cU))) (dW (mC (D.bl false))) k8)) k8)
def gu:FS:=(ee (mK (cT (mV 0) cU)) (gT 2 (eu (gN 5) (eu (gN 6) hB))) iC)
def mQ:FS:=(c9 (eV (zu (mZ (mTr (m3 .tuple (mV 2)))) (zu (mB (m2 (b2 s9) (mN (b1 dH) (cT (mV 2) cU)) (mN (b1 dH) (cT (mV 0) cU)))) (mZ (mTr (mN (b1 zZ) (cT (dZ 1 [] (fC (mV 2)) (gN 0) eN (dS (mN (cY 1 fY) (cT (mV 0) cU)))) cU)))))) (dW (mC (D.bl false))) k8)
  (c9 (ee (mK (cT (mV 0) cU)) (gT 2 (eu (gN 3) (eu (gN 4) hB))) gu)
  (dW (mC (D.bl true)))))
def fq:FN:=im 7 mQ
theorem fV:dg ["_law_web_here","_law_signs_here","_law_thing","_law_one","_law_row","_law_other","_law_its"] ["_law_web_here","_law_signs_here","_law_thing"] (c0 jC):=⟨rfl,rfl,rfl,by decide+kernel,rfl,by decide+kernel,by decide+kernel⟩
theorem qy (X:K.In h)(G:h.Ns cK mg){f:cG}(F:dL K "_law_fits" jC f)(B:Blt mg)(c:eX P w K mg base 1 "_law_whole" 1 fY):
  eX P w K mg base 2 "_law_fits" 3 fq:=xo X G F fV (fun _ _ _ _ _ _ d b=>Co b fun _ _ _=>rfl) fun _ _ _ _ _ _ _ a=>
 (qF (qV (jq (jp (gR (fg (fj .tuple rfl B.z_isinstance rfl B.z_tuple (by decide+kernel) (cV 2)))) (jp (ct (oT a.units) (cb dR B.z_len (qA (cV 2) qN)) (cb dR B.z_len (qA (cV 0) qN))) (iP (gR (fg (cb (DA rfl) B.z_all (qA (qZ rfl (T:=["_law_number"]) (keep:=[]) ⟨rfl,by decide+kernel,(cq _)⟩ rfl (qd (cV 2)) (fun _ _ _=>⟨(qO 0 (show List.Nodup (["_law_number"]:List Str) by decide+kernel) rfl (by first|exact Or.inl rfl|exact Or.inr rfl)),dB,(wo c a (qA (cV 0) qN))⟩)) qN)))))))) (qG (qU eY)) qQ)
  (qF (qW PassesOwn.never rfl (ez rfl B.z_enumerate (qA (cV 0) qN)) (dt rfl (cW (gn 3 fV.nd) (cW (gn 4 fV.nd) di))) (qG (qW PassesOwn.never rfl (ez rfl B.z_enumerate (qA (cV 0) qN)) (dt rfl (cW (gn 5 fV.nd) (cW (gn 6 fV.nd) di))) (qG (qV (ct (k7 a.units) (jx a (cV 2) (cV 3)) (jx a (cV 2) (cV 5))) (qF (qV (jq (jp (ct (oT a.units) (cb dR B.z_len (qA (cV 4) qN)) (cb dR B.z_len (qA (cV 6) qN))) (iP (ct (oT a.units) (jx a (cV 1) (cV 3)) (jx a (cV 1) (cV 5)))))) (qG (qU eY)) qQ)
  (qG (qV (fg (cb (Iq rfl) B.z_any (qA (qZ rfl (T:=["_law_a","_law_b"]) (keep:=[2]) ⟨rfl,by decide+kernel,(kc "_law_thing" (cq _))⟩ rfl (u4 rfl B.z_zip (qA (cV 4) (qA (cV 6) qN))) (fun _ _ _=>⟨(dt rfl (cW (qO 0 (show List.Nodup (["_law_a","_law_b","_law_thing"]:List Str) by decide+kernel) rfl (by first|exact Or.inl rfl|exact Or.inr rfl)) (cW (qO 1 (show List.Nodup (["_law_a","_law_b","_law_thing"]:List Str) by decide+kernel) rfl (by first|exact Or.inl rfl|exact Or.inr rfl)) di))),dB,(AY (ce (oT a.units) (jx a (cV 2) (jx a (cV 0) qK)) (jx a (cV 2) (jx a (cV 1) qK))) (fS (ce (oT a.units) (jx a (cV 0) qK) (jx a (cV 1) qK))))⟩)) qN))) (qG (qU eY)) qQ))) qQ)))))
  (qG (qU eY))))
abbrev gH:cR:=top 30
def fX:FS:=(eV (mB (m2 (b2 gEq) (mN (cY 2 cZ) (cT (mV 0) (cT (mC (D.int (3))) cU))) (mC (D.int (0))))) (dX (kx (b2 gr) (mV 5) (cT (dZ 1 [0] (fC (mV 4)) (gN 0) (mB (m2 (b2 gEq) (mN (cY 2 cZ) (cT (mV 1) (cT (mC (D.int (2))) cU))) (mC (D.int (0))))) (dS (mV 0))) cU))) (c9 (dk (dZ 1 [0] (fC (mV 4)) (gN 0) (mB (m2 (b2 gEq) (mN (cY 2 cZ) (cT (mV 1) (cT (mC (D.int (2))) cU))) (mC (D.int (0))))) (dS (mV 0))) (gN 7))
  (dX (kx (b2 gr) (mV 5) (cT (dZ 1 [2,7] (fC (mV 4)) (gN 0) (mB (m2 (b2 m7) (m2 (b2 c7) (mV 1) (mV 0)) (mV 2))) (dS (mV 0))) cU)))))
def ip:FS:=(eV (m4 (mB (m2 (b2 gLt) (mN (b1 dH) (cT (mV 8) cU)) (mN (b2 ri) (cT (mV 3) (cT (mN (b1 dH) (cT (mV 1) cU)) cU))))) (mB (m2 (b2 eI) (mV 10) (mV 8)))) (dX (kx (b2 gr) (mV 8) (cT (mV 10) cU))) k8)
def jk:FS:=(c9 (dk (w1 (cT (mN (b1 dH) (cT (mV 1) cU)) cU)) (gN 4))
  (c9 (dk (fy cU) (gN 5))
  (c9 (ee (rR (cT (mC (D.int (2))) cU)) (gN 6) fX)
  (c9 (dk (d6 (cT (m2 (b2 c7) (mV 5) (mC (D.int (0)))) (cT (m2 (b2 c7) (fy (cT (m2 (b2 c7) (mV 5) (mC (D.int (1)))) (cT (fy cU) cU))) (mN (cY 2 cZ) (cT (mV 0) (cT (mC (D.int (2))) cU)))) cU))) (gT 2 (eu (gN 8) (eu (gN 9) hB))))
  (c9 (ee (fC (mV 4)) (gN 10) ip)
  (dW (d6 (cT (mN (b1 gTup) (cT (mN (b1 gy) (cT (mV 8) cU)) cU)) (cT (mN (b1 gTup) (cT (mV 9) cU)) cU)))))))))
def fc:FN:=im 11 jk
theorem dY:dg ["_law_hand_here","_law_web_here","_law_copied","_law_least","_law_rooms","_law_some","_law_turn","_law_kept","_law_walkers","_law_chalk","_law_room"] ["_law_hand_here","_law_web_here","_law_copied","_law_least"] (c0 gH):=⟨rfl,rfl,rfl,by decide+kernel,rfl,by decide+kernel,by decide+kernel⟩
theorem md (X:K.In h)(G:h.Ns cK mg){f:cG}(F:dL K "_law_standing" gH f)(B:Blt mg)(b:eX P w K mg base 1 "_law_take" 2 cZ):
  eX P w K mg base 2 "_law_standing" 4 fc:=xo X G F dY (fun _ _ _ _ _ _ d c=>IV c fun _ _ _ _=>rfl) fun _ _ _ _ _ _ _ a=>
 (qF (sn 4 dY.nd (nt rfl rfl B.z_range rfl B.z_list (qA (cb dR B.z_len (qA (cV 1) qN)) qN)))
  (qF (sn 5 dY.nd (dM qN))
  (qF (qW PassesOwn.never rfl (dU rfl B.z_range (qA qK qN)) (gn 6 dY.nd) (qG (qV (ct (k7 a.units) (wo b a (qA (cV 0) (qA qK qN))) qK) (qG (dQ (qe PySem.F.slot_list_append PySem.F.type_list_append gf (cV 5) (qA (qZ rfl (T:=["_law_room"]) (keep:=[0]) ⟨rfl,by decide+kernel,(kc "_law_hand_here" (cq _))⟩ rfl (qd (cV 4)) (fun _ _ _=>⟨(qO 0 (show List.Nodup (["_law_room","_law_hand_here"]:List Str) by decide+kernel) rfl (by first|exact Or.inl rfl|exact Or.inr rfl)),(lm (ct (k7 a.units) (wo b a (qA (cV 1) (qA qK qN))) qK)),(cV 0)⟩)) qN)))) (qF (sn 7 dY.nd (qZ rfl (T:=["_law_room"]) (keep:=[0]) ⟨rfl,by decide+kernel,(kc "_law_hand_here" (cq _))⟩ rfl (qd (cV 4)) (fun _ _ _=>⟨(qO 0 (show List.Nodup (["_law_room","_law_hand_here"]:List Str) by decide+kernel) rfl (by first|exact Or.inl rfl|exact Or.inr rfl)),(lm (ct (k7 a.units) (wo b a (qA (cV 1) (qA qK qN))) qK)),(cV 0)⟩)))
  (qG (dQ (qe PySem.F.slot_list_append PySem.F.type_list_append gf (cV 5) (qA (qZ rfl (T:=["_law_room"]) (keep:=[2,7]) ⟨rfl,by decide+kernel,(kc "_law_copied" (kc "_law_kept" (cq _)))⟩ rfl (qd (cV 4)) (fun _ _ _=>⟨(qO 0 (show List.Nodup (["_law_room","_law_copied","_law_kept"]:List Str) by decide+kernel) rfl (by first|exact Or.inl rfl|exact Or.inr rfl)),(lm (ct (sE a.units) (jx a (cV 1) (cV 0)) (cV 2) (by with_unfolding_all rfl))),(cV 0)⟩)) qN))))))))
  (qF (gU 8 9 rfl dY.nd rfl rfl (by decide) rfl rfl (qA (jx a (cV 5) qK) (qA (jx a (dM (qA (jx a (cV 5) qK) (qA (dM qN) qN))) (wo b a (qA (cV 0) (qA qK qN)))) qN)))
  (qF (qW PassesOwn.never rfl (qd (cV 4)) (gn 10 dY.nd) (qG (qV (jq (ll (ct (kG a.units) (cb dR B.z_len (qA (cV 8) qN)) (cb (Ap rfl) B.z_min (qA (cV 3) (qA (cb dR B.z_len (qA (cV 1) qN)) qN)))) (lj (ct (jQ a.units) (cV 10) (cV 8) (by with_unfolding_all rfl))))) (qG (dQ (qe PySem.F.slot_list_append PySem.F.type_list_append gf (cV 8) (qA (cV 10) qN)))) qQ)))
  (qG (qU (dq (qA (cy eR B.z_tuple (qA (cb wj B.z_sorted (qA (cV 8) qN)) qN)) (qA (cy eR B.z_tuple (qA (cV 9) qN)) qN))))))))))
abbrev hR:cR:=top 33
def j4:FS:=(c9 (dk (m2 (b2 c7) (fy (cT (m2 (b2 gSub) (mN (cY 2 cZ) (cT (mV 0) (cT (mC (D.int (9))) cU))) (mC (D.int (4)))) (cT (m2 (b2 ms) (mC (D.int (10))) (mC (D.int (30)))) (cT (m1 (b1 CH) (mC (D.int (7)))) (cT (mC (D.int (100))) (cT (mC (D.int (0))) (cT (mC (D.int (1))) (cT (mC (D.int (2))) (cT (mC (D.int (3))) cU))))))))) (mN (cY 2 cZ) (cT (mV 0) (cT (mC (D.int (8))) cU)))) (gN 2))
  (c9 (dk (m2 (b2 c7) (fy (cT (mC (D.int (1))) (cT (m1 (b1 CH) (mC (D.int (1)))) (cT (mC (D.int (3))) (cT (m2 (b2 ms) (mC (D.int (10))) (mC (D.int (20)))) cU))))) (mN (cY 2 cZ) (cT (mV 0) (cT (mC (D.int (4))) cU)))) (gN 3))
  (dW (mN (b1 gTup) (cT (dZ 1 [2,3] (fC (mV 1)) (gN 0) eN (dS (m2 (b2 e6) (mV 1) (m2 (b2 jc) (mV 2) (mV 0))))) cU)))))
def fm:FN:=im 4 j4
theorem gF:dg ["_law_hand_here","_law_colours_here","_law_some","_law_step"] ["_law_hand_here","_law_colours_here"] (c0 hR):=⟨rfl,rfl,rfl,by decide+kernel,rfl,by decide+kernel,by decide+kernel⟩
theorem mX (X:K.In h)(G:h.Ns cK mg){f:cG}(F:dL K "_law_numbers" hR f)(B:Blt mg)(b:eX P w K mg base 1 "_law_take" 2 cZ):
  eX P w K mg base 2 "_law_numbers" 2 fm:=xo X G F gF (fun _ _ _ _ _ _ d c=>w5 c fun _ _=>rfl) fun _ _ _ _ _ _ _ a=>
 (qF (sn 2 gF.nd (jx a (dM (qA (qI Dk (wo b a (qA (cV 0) (qA qK qN))) qK) (qA (qI sD qK qK) (qA (xN Dl qK) (qA qK (qA qK (qA qK (qA qK (qA qK qN))))))))) (wo b a (qA (cV 0) (qA qK qN)))))
  (qF (sn 3 gF.nd (jx a (dM (qA qK (qA (xN Dl qK) (qA qK (qA (qI sD qK qK) qN))))) (wo b a (qA (cV 0) (qA qK qN)))))
  (qG (qU (cy eR B.z_tuple (qA (qZ rfl (T:=["_law_colour"]) (keep:=[2,3]) ⟨rfl,by decide+kernel,(kc "_law_some" (kc "_law_step" (cq _)))⟩ rfl (qd (cV 1)) (fun _ _ _=>⟨(qO 0 (show List.Nodup (["_law_colour","_law_some","_law_step"]:List Str) by decide+kernel) rfl (by first|exact Or.inl rfl|exact Or.inr rfl)),dB,(qI fk (cV 1) (qI kF (cV 2) (cV 0)))⟩)) qN))))))
abbrev ix:cR:=top 14
def kN:FS:=(c9 (dk (mV 1) (gT 2 (eu (gN 3) (eu (gN 4) hB))))
  (c9 (dk (mV 2) (gT 4 (eu (gN 5) (eu (gN 6) (eu (gN 7) (eu (gN 8) hB))))))
  (c9 (eV (zu (mZ (mTr (mN (cY 2 gq) (cT (mV 7) (cT (mN (b1 dH) (cT (mV 3) cU)) cU))))) (mZ (mTr (mN (cY 2 gq) (cT (mV 6) (cT (mV 7) cU)))))) (dW (mC (D.bl false))) k8)
  (dW (iq (mN (cY 3 eB) (cT (mV 0) (cT (mN (cY 2 eK) (cT (mV 0) (cT (mV 4) cU))) (cT (mV 8) cU)))) (m2 (b2 gEq) (m2 (b2 c7) (mV 8) (m2 (b2 c7) (mV 3) (mV 6))) (m2 (b2 c7) (mV 8) (m2 (b2 c7) (mV 3) (mV 7)))))))))
def fE:FN:=im 9 kN
theorem eA:dg ["web","standing","paper","rooms","chalk","word","i","j","colours"] ["web","standing","paper"] (c0 ix):=⟨rfl,rfl,rfl,by decide+kernel,rfl,by decide+kernel,by decide+kernel⟩
theorem nP (X:K.In h)(G:h.Ns cK mg){f:cG}(F:dL K "shows_alike" ix f)(B:Blt mg)(e:eX P w K mg base 1 "chalk_signs" 2 eK)(c:eX P w K mg base 2 "is_below" 2 gq)(b:eX P w K mg base 2 "is_colouring" 3 eB):
  eX P w K mg base 3 "shows_alike" 3 fE:=xo X G F eA (fun _ _ _ _ _ _ g d=>Co d fun _ _ _=>rfl) fun _ _ _ _ _ _ _ a=>
 (qF (qR (cV 1) (dt rfl (cW (gn 3 eA.nd) (cW (gn 4 eA.nd) di))))
  (qF (qR (cV 2) (dt rfl (cW (gn 5 eA.nd) (cW (gn 6 eA.nd) (cW (gn 7 eA.nd) (cW (gn 8 eA.nd) di))))))
  (qF (qV (jq (jp (gR (fg (wo c a (qA (cV 7) (qA (cb dR B.z_len (qA (cV 3) qN)) qN))))) (iP (gR (fg (wo c a (qA (cV 6) (qA (cV 7) qN)))))))) (qG (qU eY)) qQ)
  (qG (qU (fT (wo b a (qA (cV 0) (qA (wo e a (qA (cV 0) (qA (cV 4) qN))) (qA (cV 8) qN)))) (fS (ce (k7 a.units) (jx a (cV 8) (jx a (cV 3) (cV 6))) (jx a (cV 8) (jx a (cV 3) (cV 7)))))))))))
abbrev gj:cR:=top 19
def fK:FS:=(c9 (dk (dZ 1 [4] (rR (cT (mV 5) cU)) (gN 0) (mB (m2 (b2 gLt) (mN (b1 dH) (cT (m2 (b2 c7) (mV 1) (mV 0)) cU)) (mC (D.int (4))))) (dS (mV 0))) (gN 6))
  (c9 (dk (m2 (b2 c7) (mV 6) (mN (cY 2 cZ) (cT (mV 0) (cT (mN (b1 dH) (cT (mV 6) cU)) cU)))) (gN 7))
  (c9 (dX (kx (b2 gr) (m2 (b2 c7) (mV 4) (mV 5)) (cT (mV 3) cU)))
  (c9 (dX (kx (b2 gr) (m2 (b2 c7) (mV 4) (mV 7)) (cT (mV 3) cU)))
  (dk (m2 (b2 e6) (mV 3) (mC (D.int (1)))) (gN 3))))))
def fJ:FS:=(c9 (dk (d6 (cT (mN (cY 2 cZ) (cT (mV 0) (cT (mV 2) cU))) (cT (mN (cY 2 cZ) (cT (mV 0) (cT (mV 2) cU))) cU))) (gT 2 (eu (gN 9) (eu (gN 7) hB))))
  (eV (m4 (mB (m2 (b2 gLt) (m2 (b2 e6) (mN (b1 dH) (cT (m2 (b2 c7) (mV 4) (mV 9)) cU)) (mN (b1 oV) (cT (m2 (b2 gEq) (mV 9) (mV 7)) cU))) (mC (D.int (4))))) (mB (m2 (b2 gLt) (mN (b1 dH) (cT (m2 (b2 c7) (mV 4) (mV 7)) cU)) (mC (D.int (4)))))) (c9 (dX (kx (b2 gr) (m2 (b2 c7) (mV 4) (mV 9)) (cT (mV 3) cU)))
  (c9 (dX (kx (b2 gr) (m2 (b2 c7) (mV 4) (mV 7)) (cT (mV 3) cU)))
  (dk (m2 (b2 e6) (mV 3) (mC (D.int (1)))) (gN 3)))) k8))
def iO:FS:=(c9 (dk (d6 (cT (m2 (b2 e6) (mC (D.int (1))) (mN (cY 2 cZ) (cT (mV 0) (cT (mV 1) cU)))) (cT (mC (D.int (0))) cU))) (gT 2 (eu (gN 2) (eu (gN 3) hB))))
  (c9 (dk (dZ 1 [] (rR (cT (mV 2) cU)) (gN 0) eN (dS (fy cU))) (gN 4))
  (c9 (ee (Ia (cT (mC (D.int (1))) (cT (mV 2) cU))) (gN 5) fK)
  (c9 (ee (rR (cT (mN (cY 2 cZ) (cT (mV 0) (cT (mC (D.int (6))) cU))) cU)) (gN 8) fJ)
  (dW (mN (cY 2 fG) (cT (mV 0) (cT (mV 4) cU))))))))
def eT:FN:=im 10 iO
theorem dv:dg ["_law_hand_here","_law_most","_law_rooms","_law_many","_law_ends","_law_room","_law_some","_law_other","_law_turn","_law_one"] ["_law_hand_here","_law_most"] (c0 gj):=⟨rfl,rfl,rfl,by decide+kernel,rfl,by decide+kernel,by decide+kernel⟩
theorem lB (X:K.In h)(G:h.Ns cK mg){f:cG}(F:dL K "_law_plain_web" gj f)(B:Blt mg)(c:eX P w K mg base 2 "_law_doored" 2 fG)(b:eX P w K mg base 1 "_law_take" 2 cZ):
  eX P w K mg base 3 "_law_plain_web" 2 eT:=xo X G F dv (fun _ _ _ _ _ _ e d=>w5 d fun _ _=>rfl) fun _ _ _ _ _ _ _ a=>
 (qF (gU 2 3 rfl dv.nd rfl rfl (by decide) rfl rfl (qA (qI fk qK (wo b a (qA (cV 0) (qA (cV 1) qN)))) (qA qK qN)))
  (qF (sn 4 dv.nd (qZ rfl (T:=["_law_room"]) (keep:=[]) ⟨rfl,by decide+kernel,(cq _)⟩ rfl (dU rfl B.z_range (qA (cV 2) qN)) (fun _ _ _=>⟨(qO 0 (show List.Nodup (["_law_room"]:List Str) by decide+kernel) rfl (by first|exact Or.inl rfl|exact Or.inr rfl)),dB,(dM qN)⟩)))
  (qF (qW PassesOwn.never rfl (t6 rfl B.z_range (qA qK (qA (cV 2) qN))) (gn 5 dv.nd) (qF (l5 6 rfl (T:=["_law_other"]) (keep:=[4]) ⟨rfl,by decide+kernel,(kc "_law_ends" (cq _))⟩ rfl (dU rfl B.z_range (qA (cV 5) qN)) (fun _ _ _=>⟨(qO 0 (show List.Nodup (["_law_other","_law_ends"]:List Str) by decide+kernel) rfl (by first|exact Or.inl rfl|exact Or.inr rfl)),(lm (ct (kG a.units) (cb dR B.z_len (qA (jx a (cV 1) (cV 0)) qN)) qK)),(cV 0)⟩) dv.nd rfl (by first|exact Or.inl rfl|exact Or.inr rfl))
  (qF (sn 7 dv.nd (jx a (cV 6) (wo b a (qA (cV 0) (qA (cb dR B.z_len (qA (cV 6) qN)) qN)))))
  (qF (dQ (qe PySem.F.slot_list_append PySem.F.type_list_append gf (jx a (cV 4) (cV 5)) (qA (cV 3) qN)))
  (qF (dQ (qe PySem.F.slot_list_append PySem.F.type_list_append gf (jx a (cV 4) (cV 7)) (qA (cV 3) qN)))
  (qG (sn 3 dv.nd (qI fk (cV 3) qK))))))))
  (qF (qW PassesOwn.never rfl (dU rfl B.z_range (qA (wo b a (qA (cV 0) (qA qK qN))) qN)) (gn 8 dv.nd) (qF (gU 9 7 rfl dv.nd rfl rfl (by decide) rfl rfl (qA (wo b a (qA (cV 0) (qA (cV 2) qN))) (qA (wo b a (qA (cV 0) (qA (cV 2) qN))) qN)))
  (qG (qV (jq (ll (ct (kG a.units) (qI fk (cb dR B.z_len (qA (jx a (cV 4) (cV 9)) qN)) (cy tR B.z_int (qA (ce (k7 a.units) (cV 9) (cV 7)) qN))) qK) (lj (ct (kG a.units) (cb dR B.z_len (qA (jx a (cV 4) (cV 7)) qN)) qK)))) (qF (dQ (qe PySem.F.slot_list_append PySem.F.type_list_append gf (jx a (cV 4) (cV 9)) (qA (cV 3) qN)))
  (qF (dQ (qe PySem.F.slot_list_append PySem.F.type_list_append gf (jx a (cV 4) (cV 7)) (qA (cV 3) qN)))
  (qG (sn 3 dv.nd (qI fk (cV 3) qK))))) qQ))))
  (qG (qU (wo c a (qA (cV 0) (qA (cV 4) qN)))))))))
abbrev i3:cR:=top 21
def ie:FS:=(c9 (dk (d6 (cT (mV 7) (cT (mV 10) (cT (mV 8) cU)))) (gS (b3 gb) (mV 3) (d6 (cT (mV 4) (cT (mV 9) (cT (mV 6) cU))))))
  (dk (d6 (cT (mV 4) (cT (mV 9) (cT (mV 6) cU)))) (gS (b3 gb) (mV 3) (d6 (cT (mV 7) (cT (mV 10) (cT (mV 8) cU)))))))
def jP:FS:=(eV (mB (m2 (b2 gLt) (d6 (cT (mV 4) (cT (mV 6) cU))) (d6 (cT (mV 7) (cT (mV 8) cU))))) (ee (mK (cT (mN (cY 2 fw) (cT (mV 0) (cT (mV 2) cU))) cU)) (gT 2 (eu (gN 9) (eu (gN 10) hB))) ie) k8)
def ic:FS:=(ee (mK (cT (mV 5) cU)) (gT 2 (eu (gN 6) (eu (gT 2 (eu (gN 7) (eu (gN 8) hB))) hB))) jP)
def jO:FS:=(eV (mB (m2 (b2 eI) (mh (m2 (b2 c7) (mV 3) (d6 (cT (mV 4) (cT (mV 9) (cT (mV 6) cU))))) jh (gQ (mC (D.int (2))))) (mV 11))) (dX (kx (b2 gr) (mV 11) (cT (mh (m2 (b2 c7) (mV 3) (d6 (cT (mV 4) (cT (mV 9) (cT (mV 6) cU))))) jh (gQ (mC (D.int (2))))) cU))) k8)
def ib:FT:=(mB (m2 (b2 gLt) (mV 12) (mN (b1 dH) (cT (mV 11) cU))))
def ia:FS:=(c9 (dk (m2 (b2 c7) (mV 11) (mV 12)) (gT 2 (eu (gN 4) (eu (gN 9) hB))))
  (c9 (ee (rR (cT (mN (b1 dH) (cT (m2 (b2 c7) (mV 1) (mV 4)) cU)) cU)) (gN 6) jO)
  (dk (m2 (b2 e6) (mV 12) (mC (D.int (1)))) (gN 12))))
def jN:FS:=(c9 (dk (dZ 1 [3,4,9] (rR (cT (mN (b1 dH) (cT (m2 (b2 c7) (mV 1) (mV 4)) cU)) cU)) (gN 0) eN (dS (m2 (b2 c7) (mV 1) (d6 (cT (mV 2) (cT (mV 3) (cT (mV 0) cU))))))) (gN 14))
  (dX (kx (b2 gr) (mV 13) (cT (mN (b1 gTup) (cT (dZ 1 [11] (fC (mV 14)) (gN 0) eN (dS (d6 (cT (kx (b2 oa) (mV 1) (cT (mh (mV 0) jh (gQ (mC (D.int (2))))) cU)) (cT (m2 (b2 c7) (mV 0) (mC (D.int (2)))) cU))))) cU)) cU))))
def lV:FS:=(c9 (dk sN (gN 3))
  (c9 (ee (mK (cT (mV 1) cU)) (gT 2 (eu (gN 4) (eu (gN 5) hB))) ic)
  (c9 (dk (d6 (cT (fy (cT (d6 (cT (mC (D.int (0))) (cT (mC (D.int (0))) cU))) cU)) (cT (mC (D.int (0))) cU))) (gT 2 (eu (gN 11) (eu (gN 12) hB))))
  (c9 (tY ib ia 100000)
  (c9 (dk (fy cU) (gN 13))
  (c9 (ee (fC (mV 11)) (gT 2 (eu (gN 4) (eu (gN 9) hB))) jN)
  (dW (d6 (cT (mN (b1 gTup) (cT (mV 13) cU)) (cT (mN (b1 gTup) (cT (dZ 2 [] (fC (mV 11)) (gT 2 (eu (gN 0) (eu (gN 1) hB))) eN (dS (mV 0))) cU)) cU))))))))))
def ga:FN:=im 15 lV
theorem de:dg ["_law_hand_here","_law_web_here","_law_copies","_law_steps","_law_room","_law_row","_law_door","_law_other","_law_back","_law_copy","_law_to","_law_met","_law_at","_law_found","_law_some"] ["_law_hand_here","_law_web_here","_law_copies"] (c0 i3):=⟨rfl,rfl,rfl,by decide+kernel,rfl,by decide+kernel,by decide+kernel⟩
theorem oR (X:K.In h)(G:h.Ns cK mg){f:cG}(F:dL K "_law_cover" i3 f)(B:Blt mg)(b:eX P w K mg base 2 "_law_order" 2 fw):
  eX P w K mg base 3 "_law_cover" 3 ga:=xo X G F de (fun _ _ _ _ _ _ d c=>Co c fun _ _ _=>rfl) fun _ _ _ _ _ _ _ a=>
 (qF (sn 3 de.nd rX)
  (qF (qW PassesOwn.never rfl (ez rfl B.z_enumerate (qA (cV 1) qN)) (dt rfl (cW (gn 4 de.nd) (cW (gn 5 de.nd) di))) (qG (qW PassesOwn.never rfl (ez rfl B.z_enumerate (qA (cV 5) qN)) (dt rfl (cW (gn 6 de.nd) (cW (dt rfl (cW (gn 7 de.nd) (cW (gn 8 de.nd) di))) di))) (qG (qV (ct (kG a.units) (dq (qA (cV 4) (qA (cV 6) qN))) (dq (qA (cV 7) (qA (cV 8) qN)))) (qG (qW PassesOwn.never rfl (ez rfl B.z_enumerate (qA (wo b a (qA (cV 0) (qA (cV 2) qN))) qN)) (dt rfl (cW (gn 9 de.nd) (cW (gn 10 de.nd) di))) (qF (qR (dq (qA (cV 7) (qA (cV 10) (qA (cV 8) qN)))) (iQ (cV 3) (dq (qA (cV 4) (qA (cV 9) (qA (cV 6) qN)))) (kX a.units)))
  (qG (qR (dq (qA (cV 4) (qA (cV 9) (qA (cV 6) qN)))) (iQ (cV 3) (dq (qA (cV 7) (qA (cV 10) (qA (cV 8) qN)))) (kX a.units))))))) qQ)))))
  (qF (qR (dq (qA (dM (qA (dq (qA qK (qA qK qN))) qN)) (qA qK qN))) (dt rfl (cW (gn 11 de.nd) (cW (gn 12 de.nd) di))))
  (qF (l0 100000 PassesOwn.never (ct (kG a.units) (cV 12) (cb dR B.z_len (qA (cV 11) qN))) (qF (qR (jx a (cV 11) (cV 12)) (dt rfl (cW (gn 4 de.nd) (cW (gn 9 de.nd) di))))
  (qF (qW PassesOwn.never rfl (dU rfl B.z_range (qA (cb dR B.z_len (qA (jx a (cV 1) (cV 4)) qN)) qN)) (gn 6 de.nd) (qG (qV (ct (jQ a.units) (fI (jx a (cV 3) (dq (qA (cV 4) (qA (cV 9) (qA (cV 6) qN))))) hE (hD qK)) (cV 11) (by with_unfolding_all rfl)) (qG (dQ (qe PySem.F.slot_list_append PySem.F.type_list_append gf (cV 11) (qA (fI (jx a (cV 3) (dq (qA (cV 4) (qA (cV 9) (qA (cV 6) qN))))) hE (hD qK)) qN)))) qQ)))
  (qG (sn 12 de.nd (qI fk (cV 12) qK))))))
  (qF (sn 13 de.nd (dM qN))
  (qF (qW PassesOwn.never rfl (qd (cV 11)) (dt rfl (cW (gn 4 de.nd) (cW (gn 9 de.nd) di))) (qF (l5 14 rfl (T:=["_law_door"]) (keep:=[3,4,9]) ⟨rfl,by decide+kernel,(kc "_law_steps" (kc "_law_room" (kc "_law_copy" (cq _))))⟩ rfl (dU rfl B.z_range (qA (cb dR B.z_len (qA (jx a (cV 1) (cV 4)) qN)) qN)) (fun _ _ _=>⟨(qO 0 (show List.Nodup (["_law_door","_law_steps","_law_room","_law_copy"]:List Str) by decide+kernel) rfl (by first|exact Or.inl rfl|exact Or.inr rfl)),dB,(jx a (cV 1) (dq (qA (cV 2) (qA (cV 3) (qA (cV 0) qN)))))⟩) de.nd rfl (by first|exact Or.inl rfl|exact Or.inr rfl))
  (qG (dQ (qe PySem.F.slot_list_append PySem.F.type_list_append gf (cV 13) (qA (cy eR B.z_tuple (qA (qZ rfl (T:=["_law_step"]) (keep:=[11]) ⟨rfl,by decide+kernel,(kc "_law_met" (cq _))⟩ rfl (qd (cV 14)) (fun _ _ _=>⟨(qO 0 (show List.Nodup (["_law_step","_law_met"]:List Str) by decide+kernel) rfl (by first|exact Or.inl rfl|exact Or.inr rfl)),dB,(dq (qA (qe PySem.F.slot_list_index PySem.F.type_list_index (yi a.units) (cV 1) (qA (fI (cV 0) hE (hD qK)) qN)) (qA (jx a (cV 0) qK) qN)))⟩)) qN)) qN))))))
  (qG (qU (dq (qA (cy eR B.z_tuple (qA (cV 13) qN)) (qA (cy eR B.z_tuple (qA (qZ rfl (T:=["_law_room","_law_copy"]) (keep:=[]) ⟨rfl,by decide+kernel,(cq _)⟩ rfl (qd (cV 11)) (fun _ _ _=>⟨(dt rfl (cW (qO 0 (show List.Nodup (["_law_room","_law_copy"]:List Str) by decide+kernel) rfl (by first|exact Or.inl rfl|exact Or.inr rfl)) (cW (qO 1 (show List.Nodup (["_law_room","_law_copy"]:List Str) by decide+kernel) rfl (by first|exact Or.inl rfl|exact Or.inr rfl)) di))),dB,(cV 0)⟩)) qN)) qN)))))))))))
abbrev gI:cR:=top 32
def jl:FS:=(c9 (dk (mN (cY 1 f0) (cT (mV 0) cU)) (gN 1))
  (dW (mN (b1 gTup) (cT (dZ 1 [1] (rR (cT (mN (b1 dH) (cT (mV 0) cU)) cU)) (gN 0) eN (dS (mN (b1 tj) (cT (dZ 1 [0] (fC (mV 1)) (gN 0) eN (dS (m2 (b2 c7) (mV 0) (mV 1)))) cU)))) cU))))
def ed:FN:=im 2 jl
theorem iJ:dg ["_law_web_here","_law_every"] ["_law_web_here"] (c0 gI):=⟨rfl,rfl,rfl,by decide+kernel,rfl,by decide+kernel,by decide+kernel⟩
theorem me (X:K.In h)(G:h.Ns cK mg){f:cG}(F:dL K "_law_by_turns" gI f)(B:Blt mg)(a:eX P w K mg base 2 "_law_turns" 1 f0):
  eX P w K mg base 3 "_law_by_turns" 1 ed:=xo X G F iJ (fun _ _ _ _ _ _ d c=>Dq c fun _=>rfl) fun _ _ _ _ _ _ _ b=>
 (qF (sn 1 iJ.nd (wo a b (qA (cV 0) qN)))
  (qG (qU (cy eR B.z_tuple (qA (qZ rfl (T:=["_law_room"]) (keep:=[1]) ⟨rfl,by decide+kernel,(kc "_law_every" (cq _))⟩ rfl (dU rfl B.z_range (qA (cb dR B.z_len (qA (cV 0) qN)) qN)) (fun _ _ _=>⟨(qO 0 (show List.Nodup (["_law_room","_law_every"]:List Str) by decide+kernel) rfl (by first|exact Or.inl rfl|exact Or.inr rfl)),dB,(cb (Gm rfl) B.z_min (qA (qZ rfl (T:=["_law_turn"]) (keep:=[0]) ⟨rfl,by decide+kernel,(kc "_law_room" (cq _))⟩ rfl (qd (cV 1)) (fun _ _ _=>⟨(qO 0 (show List.Nodup (["_law_turn","_law_room"]:List Str) by decide+kernel) rfl (by first|exact Or.inl rfl|exact Or.inr rfl)),dB,(jx b (cV 0) (cV 1))⟩)) qN))⟩)) qN)))))
abbrev k6:cR:=top 35
def lc:FS:=(c9 (eV (mB (m2 (b2 gEq) (m2 (b2 c7) (mV 3) (mC (D.int (0)))) (mC (D.str "colours")))) (dW (iq (mN (cY 3 fq) (cT (mV 0) (cT (mN (cY 3 d5) (cT (mV 0) (cT (mV 1) (cT (mC (D.bl true)) cU)))) (cT (m2 (b2 c7) (mV 3) (mC (D.int (1)))) cU)))) (m2 (b2 gLt) (mN (b1 lK) (cT (mN (b1 fz) (cT (m2 (b2 c7) (mV 3) (mC (D.int (1)))) cU)) cU)) (mN (b1 dH) (cT (mV 0) cU))))) k8)
  (c9 (eV (zu (mZ (mTr (mV 2))) (mZ (mTr (mN (cY 3 fq) (cT (mV 0) (cT (mN (cY 3 d5) (cT (mV 0) (cT (mV 1) (cT (mC (D.bl false)) cU)))) (cT (m2 (b2 c7) (mV 3) (mC (D.int (3)))) cU))))))) (dW (mC (D.bl false))) k8)
  (c9 (dk (d6 (cT (m2 (b2 c7) (m2 (b2 c7) (mV 1) (mC (D.int (0)))) (m2 (b2 c7) (mV 3) (mC (D.int (1))))) (cT (m2 (b2 c7) (m2 (b2 c7) (mV 1) (mC (D.int (0)))) (m2 (b2 c7) (mV 3) (mC (D.int (2))))) cU))) (gT 2 (eu (gN 4) (eu (gN 5) hB))))
  (dW (iq (m2 (b2 gLt) (m2 (b2 c7) (mV 3) (mC (D.int (1)))) (m2 (b2 c7) (mV 3) (mC (D.int (2))))) (m2 (b2 gEq) (m2 (b2 c7) (m2 (b2 c7) (mV 3) (mC (D.int (3)))) (mV 4)) (m2 (b2 c7) (m2 (b2 c7) (mV 3) (mC (D.int (3)))) (mV 5))))))))
def fr:FN:=im 6 lc
theorem mF:dg ["_law_web_here","_law_standing_here","_law_quiet","_law_thing","_law_one","_law_other"] ["_law_web_here","_law_standing_here","_law_quiet","_law_thing"] (c0 k6):=⟨rfl,rfl,rfl,by decide+kernel,rfl,by decide+kernel,by decide+kernel⟩
theorem sC (X:K.In h)(G:h.Ns cK mg){f:cG}(F:dL K "_law_due" k6 f)(B:Blt mg)(c:eX P w K mg base 2 "_law_fits" 3 fq)(b:eX P w K mg base 1 "_law_signs" 3 d5):
  eX P w K mg base 3 "_law_due" 4 fr:=xo X G F mF (fun _ _ _ _ _ _ e d=>IV d fun _ _ _ _=>rfl) fun _ _ _ _ _ _ _ a=>
 (qF (qV (ct (k7 a.units) (jx a (cV 3) qK) j9) (qG (qU (fT (wo c a (qA (cV 0) (qA (wo b a (qA (cV 0) (qA (cV 1) (qA eY qN)))) (qA (jx a (cV 3) qK) qN)))) (fS (ce (kG a.units) (cb rG B.z_len (qA (cy (rF a) B.z_set (qA (jx a (cV 3) qK) qN)) qN)) (cb dR B.z_len (qA (cV 0) qN))))))) qQ)
  (qF (qV (jq (jp (gR (fg (cV 2))) (iP (gR (fg (wo c a (qA (cV 0) (qA (wo b a (qA (cV 0) (qA (cV 1) (qA eY qN)))) (qA (jx a (cV 3) qK) qN))))))))) (qG (qU eY)) qQ)
  (qF (gU 4 5 rfl mF.nd rfl rfl (by decide) rfl rfl (qA (jx a (jx a (cV 1) qK) (jx a (cV 3) qK)) (qA (jx a (jx a (cV 1) qK) (jx a (cV 3) qK)) qN)))
  (qG (qU (fT (ce (kG a.units) (jx a (cV 3) qK) (jx a (cV 3) qK)) (fS (ce (k7 a.units) (jx a (jx a (cV 3) qK) (cV 4)) (jx a (jx a (cV 3) qK) (cV 5))))))))))
abbrev iw:cR:=top 13
def iD:FS:=(c9 (eV (mTr (mN (cY 3 fP) (cT (mV 3) (cT (mC (D.str "colours")) (cT (mC (D.int (2))) cU))))) (dW (iq (mN (cY 3 eB) (cT (mV 0) (cT (mN (cY 2 gw) (cT (mV 0) (cT (mV 1) cU))) (cT (m2 (b2 c7) (mV 3) (mC (D.int (1)))) cU)))) (pr (mN (cY 1 e3) (cT (m2 (b2 c7) (mV 3) (mC (D.int (1)))) cU))))) k8)
  (c9 (eV (m4 (mTr (mV 2)) (mTr (mN (cY 3 fP) (cT (mV 3) (cT (mC (D.str "alike")) (cT (mC (D.int (4))) cU)))))) (dW (mN (cY 3 fE) (cT (mV 0) (cT (mV 1) (cT (mV 3) cU))))) k8)
  (dW (mC (D.bl false)))))
def et:FN:=im 4 iD
theorem nF:dg ["web","standing","quiet","thing"] ["web","standing","quiet","thing"] (c0 iw):=⟨rfl,rfl,rfl,by decide+kernel,rfl,by decide+kernel,by decide+kernel⟩
theorem nO (X:K.In h)(G:h.Ns cK mg){f:cG}(F:dL K "shows_never" iw f)(B:Blt mg)(g:eX P w K mg base 2 "all_signs" 2 gw)(d:eX P w K mg base 1 "all_unlike" 1 e3)(c:eX P w K mg base 2 "is_colouring" 3 eB)(b:eX P w K mg base 2 "is_headed" 3 fP)(e:eX P w K mg base 3 "shows_alike" 3 fE):
  eX P w K mg base 4 "shows_never" 4 et:=xo X G F nF (fun _ _ _ _ _ _ j i=>IV i fun _ _ _ _=>rfl) fun _ _ _ _ _ _ _ a=>
 (qF (qV (fg (wo b a (qA (cV 3) (qA j9 (qA qK qN))))) (qG (qU (fT (wo c a (qA (cV 0) (qA (wo g a (qA (cV 0) (qA (cV 1) qN))) (qA (jx a (cV 3) qK) qN)))) (fS (pS (wo d a (qA (jx a (cV 3) qK) qN))))))) qQ)
  (qF (qV (jq (ll (fg (cV 2)) (lj (fg (wo b a (qA (cV 3) (qA j9 (qA qK qN)))))))) (qG (qU (wo e a (qA (cV 0) (qA (cV 1) (qA (cV 3) qN)))))) qQ)
  (qG (qU eY))))
abbrev k0:cR:=top 22
def oy:FS:=(c9 (dk (m2 (b2 c7) (fy (cT (mC (D.int (1))) (cT (mC (D.int (1))) (cT (mC (D.int (2))) (cT (mC (D.int (2))) (cT (mC (D.int (3))) (cT (mC (D.int (4))) cU))))))) (mN (cY 2 cZ) (cT (mV 0) (cT (mC (D.int (6))) cU)))) (gN 1))
  (c9 (dk (mN (cY 2 eT) (cT (mV 0) (cT (m2 (b2 rj) (mC (D.int (8))) (mV 1)) cU))) (gN 2))
  (c9 (eV (mB (m2 (b2 gEq) (mV 1) (mC (D.int (1))))) (dW (d6 (cT (mV 2) (cT (wZ (cT (mN (b1 dH) (cT (mV 2) cU)) cU)) cU)))) k8)
  (dW (mN (cY 3 ga) (cT (mV 0) (cT (mV 2) (cT (mV 1) cU))))))))
def ii:FN:=im 3 oy
theorem jv:dg ["_law_hand_here","_law_copies","_law_web_here"] ["_law_hand_here"] (c0 k0):=⟨rfl,rfl,rfl,by decide+kernel,rfl,by decide+kernel,by decide+kernel⟩
theorem sA (X:K.In h)(G:h.Ns cK mg){f:cG}(F:dL K "_law_web" k0 f)(B:Blt mg)(b:eX P w K mg base 3 "_law_cover" 3 ga)(c:eX P w K mg base 3 "_law_plain_web" 2 eT)(d:eX P w K mg base 1 "_law_take" 2 cZ):
  eX P w K mg base 4 "_law_web" 1 ii:=xo X G F jv (fun _ _ _ _ _ _ g e=>Dq e fun _=>rfl) fun _ _ _ _ _ _ _ a=>
 (qF (sn 1 jv.nd (jx a (dM (qA qK (qA qK (qA qK (qA qK (qA qK (qA qK qN))))))) (wo d a (qA (cV 0) (qA qK qN)))))
  (qF (sn 2 jv.nd (wo c a (qA (cV 0) (qA (qI vv qK (cV 1)) qN))))
  (qF (qV (ct (k7 a.units) (cV 1) qK) (qG (qU (dq (qA (cV 2) (qA (rW rfl rfl B.z_range rfl B.z_tuple (qA (cb dR B.z_len (qA (cV 2) qN)) qN)) qN))))) qQ)
  (qG (qU (wo b a (qA (cV 0) (qA (cV 2) (qA (cV 1) qN)))))))))
abbrev iA:cR:=top 34
def gJ:FS:=(c9 (dk (d6 (cT (mN (cY 2 fm) (cT (mV 0) (cT (mV 6) cU))) (cT (mN (cY 2 cZ) (cT (mV 0) (cT (mN (b1 dH) (cT (mV 1) cU)) cU))) cU))) (gT 2 (eu (gN 7) (eu (gN 8) hB))))
  (c9 (dk (mN (cY 2 cZ) (cT (mV 0) (cT (mN (b1 dH) (cT (mV 1) cU)) cU))) (gN 9))
  (c9 (dk (mN (b1 xf) (cT (mV 6) cU)) (gN 10))
  (c9 (dk (d6 (cT (m2 (b2 c7) (mV 10) (mV 9)) (cT (m2 (b2 c7) (mV 10) (mV 8)) cU))) (gT 2 (eu (gS (b3 gb) (mV 10) (mV 8)) (eu (gS (b3 gb) (mV 10) (mV 9)) hB))))
  (c9 (dX (kx (b2 xg) (mV 5) (cT (fy (cT (mV 6) (cT (mV 7) (cT (m2 (b2 e6) (m2 (b2 e6) (mh (mV 7) jh (gQ (mV 8))) (d6 (cT (m2 (b2 c7) (mV 7) (mV 9)) cU))) (mh (mV 7) (gQ (m2 (b2 e6) (mV 8) (mC (D.int (1))))) jh)) (cT (mN (b1 gTup) (cT (mV 10) cU)) cU))))) cU)))
  (dX (kx (b2 gr) (mV 5) (cT (m2 (b2 e6) (m2 (b2 e6) (mh (mV 6) jh (gQ (mV 8))) (d6 (cT (m2 (b2 gSub) (mN (cY 2 cZ) (cT (mV 0) (cT (mC (D.int (9))) cU))) (mC (D.int (1)))) cU))) (mh (mV 6) (gQ (m2 (b2 e6) (mV 8) (mC (D.int (1))))) jh)) cU))))))))
def kP:FS:=(c9 (dk (dZ 1 [1,2] (fC (d6 (cT (mC (D.bl true)) (cT (mC (D.bl false)) cU)))) (gN 0) eN (dS (mN (cY 2 eU) (cT (mV 1) (cT (mN (cY 3 d5) (cT (mV 1) (cT (mV 2) (cT (mV 0) cU)))) cU))))) (gN 4))
  (c9 (dk (m2 (b2 e6) (mV 4) (fy (cT (mV 3) (cT (wZ (cT (mN (b1 dH) (cT (mV 1) cU)) cU)) (cT (mN (cY 1 ed) (cT (mV 1) cU)) cU))))) (gN 4))
  (c9 (dk (fy cU) (gN 5))
  (c9 (ee (fC (mV 4)) (gN 6) gJ)
  (dW (mV 5))))))
def fF:FN:=im 11 kP
theorem d7:dg ["_law_hand_here","_law_web_here","_law_standing_here","_law_copied","_law_some","_law_found","_law_colours_here","_law_other","_law_at","_law_to","_law_row"] ["_law_hand_here","_law_web_here","_law_standing_here","_law_copied"] (c0 iA):=⟨rfl,rfl,rfl,by decide+kernel,rfl,by decide+kernel,by decide+kernel⟩
theorem nS (X:K.In h)(G:h.Ns cK mg){f:cG}(F:dL K "_law_papers" iA f)(B:Blt mg)(e:eX P w K mg base 3 "_law_by_turns" 1 ed)(d:eX P w K mg base 1 "_law_colours" 2 eU)(g:eX P w K mg base 2 "_law_numbers" 2 fm)(c:eX P w K mg base 1 "_law_signs" 3 d5)(b:eX P w K mg base 1 "_law_take" 2 cZ):
  eX P w K mg base 4 "_law_papers" 4 fF:=xo X G F d7 (fun _ _ _ _ _ _ j i=>IV i fun _ _ _ _=>rfl) fun _ _ _ _ _ _ _ a=>
 (qF (l5 4 rfl (T:=["_law_counted"]) (keep:=[1,2]) ⟨rfl,by decide+kernel,(kc "_law_web_here" (kc "_law_standing_here" (cq _)))⟩ rfl (qd (dq (qA eY (qA eY qN)))) (fun _ _ _=>⟨(qO 0 (show List.Nodup (["_law_counted","_law_web_here","_law_standing_here"]:List Str) by decide+kernel) rfl (by first|exact Or.inl rfl|exact Or.inr rfl)),dB,(wo d a (qA (cV 1) (qA (wo c a (qA (cV 1) (qA (cV 2) (qA (cV 0) qN)))) qN)))⟩) d7.nd rfl (by first|exact Or.inl rfl|exact Or.inr rfl))
  (qF (sn 4 d7.nd (qI fk (cV 4) (dM (qA (cV 3) (qA (rW rfl rfl B.z_range rfl B.z_tuple (qA (cb dR B.z_len (qA (cV 1) qN)) qN)) (qA (wo e a (qA (cV 1) qN)) qN))))))
  (qF (sn 5 d7.nd (dM qN))
  (qF (qW PassesOwn.never rfl (qd (cV 4)) (gn 6 d7.nd) (qF (gU 7 8 rfl d7.nd rfl rfl (by decide) rfl rfl (qA (wo g a (qA (cV 0) (qA (cV 6) qN))) (qA (wo b a (qA (cV 0) (qA (cb dR B.z_len (qA (cV 1) qN)) qN))) qN)))
  (qF (sn 9 d7.nd (wo b a (qA (cV 0) (qA (cb dR B.z_len (qA (cV 1) qN)) qN))))
  (qF (sn 10 d7.nd (cy Aq B.z_list (qA (cV 6) qN)))
  (qF (qR (dq (qA (jx a (cV 10) (cV 9)) (qA (jx a (cV 10) (cV 8)) qN))) (dt rfl (cW (iQ (cV 10) (cV 8) (kX a.units)) (cW (iQ (cV 10) (cV 9) (kX a.units)) di))))
  (qF (dQ (qe PySem.F.slot_list_extend PySem.F.type_list_extend Dc (cV 5) (qA (dM (qA (cV 6) (qA (cV 7) (qA (qI fk (qI fk (fI (cV 7) hE (hD (cV 8))) (dq (qA (jx a (cV 7) (cV 9)) qN))) (fI (cV 7) (hD (qI fk (cV 8) qK)) hE)) (qA (cy eR B.z_tuple (qA (cV 10) qN)) qN))))) qN)))
  (qG (dQ (qe PySem.F.slot_list_append PySem.F.type_list_append gf (cV 5) (qA (qI fk (qI fk (fI (cV 6) hE (hD (cV 8))) (dq (qA (qI Dk (wo b a (qA (cV 0) (qA qK qN))) qK) qN))) (fI (cV 6) (hD (qI fk (cV 8) qK)) hE)) qN))))))))))
  (qG (qU (cV 5)))))))
abbrev pa:cR:=top 36
def qt:FS:=(c9 (dk (d6 (cT (mN (cY 2 cZ) (cT (mV 2) (cT (mN (b1 dH) (cT (mV 7) cU)) cU))) (cT (mN (cY 2 cZ) (cT (mV 2) (cT (mN (b1 dH) (cT (mV 7) cU)) cU))) cU))) (gT 2 (eu (gN 10) (eu (gN 11) hB))))
  (dX (kx (b2 xg) (mV 8) (cT (fy (cT (d6 (cT (mC (D.str "colours")) (cT (mV 9) cU))) (cT (d6 (cT (mC (D.str "alike")) (cT (mV 10) (cT (mV 11) (cT (mV 9) cU))))) (cT (d6 (cT (mC (D.str "alike")) (cT (mN (b2 ri) (cT (mV 10) (cT (mV 11) cU))) (cT (mN (b2 xc) (cT (mV 10) (cT (mV 11) cU))) (cT (mV 9) cU))))) cU)))) cU))))
def qr:FS:=(c9 (dk (mN (cY 4 et) (cT (mV 4) (cT (mV 6) (cT (mV 13) (cT (mV 12) cU))))) (gN 14))
  (eV (zu (mZ (mTr (m3 .bool (mV 14)))) (mB (m2 (b2 s9) (mV 14) (mN (cY 4 fr) (cT (mV 4) (cT (mV 6) (cT (mV 13) (cT (mV 12) cU)))))))) (dW (mC (D.bl false))) k8))
def qq:FS:=(ee (fC (d6 (cT (mC (D.bl true)) (cT (mC (D.bl false)) cU)))) (gN 13) qr)
def qp:FS:=(c9 (dk (mN (cY 1 ii) (cT (mV 2) cU)) (gT 2 (eu (gN 4) (eu (gN 5) hB))))
  (c9 (dk (mN (cY 4 fc) (cT (mV 2) (cT (mV 4) (cT (mV 5) (cT (mC (D.int (2))) cU))))) (gN 6))
  (c9 (dk (d6 (cT (m2 (b2 c7) (mV 6) (mC (D.int (0)))) (cT (fy cU) cU))) (gT 2 (eu (gN 7) (eu (gN 8) hB))))
  (c9 (ee (fC (mN (cY 4 fF) (cT (mV 2) (cT (mV 4) (cT (mV 6) (cT (mV 5) cU)))))) (gN 9) qt)
  (ee (fC (mV 8)) (gN 12) qq)))))
def qo:FS:=(c9 (dk (mN (cY 2 fo) (cT (mV 0) (cT (mV 1) cU))) (gN 2))
  (ee (rR (cT (mC (D.int (2))) cU)) (gN 3) qp))
def vr:FS:=(pq [true,true,false,false,false,false,false,false,false,false,false,false,false,false,false] [true,false,false,false,false,false,false,false,false,false,false,false,false,false,false] qo)
def Av:FS:=(c9 (ee (rR (cT (mN (b2 xc) (cT (mC (D.int (1))) (cT (mN (b2 ri) (cT (mC (D.int (4))) (cT (mN (b1 dH) (cT (mV 0) cU)) cU))) cU))) cU)) (gN 1) vr)
  (dW (mC (D.bl true))))
def m_law:FN:=im 15 Av
theorem gi:dg ["_law_script","_law_k","_law_hand_here","_law_turn","_law_web_here","_law_copied","_law_standing_here","_law_walkers","_law_some","_law_colours_here","_law_i","_law_j","_law_thing","_law_quiet","_law_told"] ["_law_script"] (c0 pa):=⟨rfl,rfl,rfl,by decide+kernel,rfl,by decide+kernel,by decide+kernel⟩
theorem EV {f:cG}{fd:cQ}(F:xH K "law" "law" pa f fd)(B:Blt mg)(d:eX P w K mg base 3 "_law_due" 4 fr)(g:eX P w K mg base 1 "_law_hand" 2 fo)(i:eX P w K mg base 4 "_law_papers" 4 fF)(j:eX P w K mg base 2 "_law_standing" 4 fc)(l:eX P w K mg base 1 "_law_take" 2 cZ)(c:eX P w K mg base 4 "_law_web" 1 ii)(h:eX P w K mg base 4 "shows_never" 4 et):
  mE P w K mg base t5 5 f fd ["_law_script"] (AN K 1 m_law):=DM (k:=4) (n:=1) (N:=["_law_script","_law_k","_law_hand_here","_law_turn","_law_web_here","_law_copied","_law_standing_here","_law_walkers","_law_some","_law_colours_here","_law_i","_law_j","_law_thing","_law_quiet","_law_told"]) (ps:=["_law_script"]) (b:=Av) F gi rfl fun m A e s H E a=>
 (qF (qW PassesOwn.never rfl (dU rfl B.z_range (qA (cb (Dz rfl) B.z_max (qA qK (qA (cb (Ap rfl) B.z_min (qA qK (qA (cb dR B.z_len (qA (cV 0) qN)) qN))) qN))) qN)) (gn 1 gi.nd) (wA [true,true,false,false,false,false,false,false,false,false,false,false,false,false,false] [true,false,false,false,false,false,false,false,false,false,false,false,false,false,false] (qF (sn 2 gi.nd (wo g a (qA (cV 0) (qA (cV 1) qN))))
  (qG (qW PassesOwn.never rfl (dU rfl B.z_range (qA qK qN)) (gn 3 gi.nd) (qF (qR (wo c a (qA (cV 2) qN)) (dt rfl (cW (gn 4 gi.nd) (cW (gn 5 gi.nd) di))))
  (qF (sn 6 gi.nd (wo j a (qA (cV 2) (qA (cV 4) (qA (cV 5) (qA qK qN))))))
  (qF (gU 7 8 rfl gi.nd rfl rfl (by decide) rfl rfl (qA (jx a (cV 6) qK) (qA (dM qN) qN)))
  (qF (qW PassesOwn.never rfl (qd (wo i a (qA (cV 2) (qA (cV 4) (qA (cV 6) (qA (cV 5) qN)))))) (gn 9 gi.nd) (qF (gU 10 11 rfl gi.nd rfl rfl (by decide) rfl rfl (qA (wo l a (qA (cV 2) (qA (cb dR B.z_len (qA (cV 7) qN)) qN))) (qA (wo l a (qA (cV 2) (qA (cb dR B.z_len (qA (cV 7) qN)) qN))) qN)))
  (qG (dQ (qe PySem.F.slot_list_extend PySem.F.type_list_extend Dc (cV 8) (qA (dM (qA (dq (qA j9 (qA (cV 9) qN))) (qA (dq (qA j9 (qA (cV 10) (qA (cV 11) (qA (cV 9) qN))))) (qA (dq (qA j9 (qA (cb (Ap rfl) B.z_min (qA (cV 10) (qA (cV 11) qN))) (qA (cb (Dz rfl) B.z_max (qA (cV 10) (qA (cV 11) qN))) (qA (cV 9) qN))))) qN)))) qN))))))
  (qG (qW PassesOwn.never rfl (qd (cV 8)) (gn 12 gi.nd) (qG (qW PassesOwn.never rfl (qd (dq (qA eY (qA eY qN)))) (gn 13 gi.nd) (qF (sn 14 gi.nd (wo h a (qA (cV 4) (qA (cV 6) (qA (cV 13) (qA (cV 12) qN))))))
  (qG (qV (jq (jp (gR (fg (fj .bool rfl B.z_isinstance rfl B.z_bool (by decide+kernel) (cV 14)))) (iP (ct (oT a.units) (cV 14) (wo d a (qA (cV 4) (qA (cV 6) (qA (cV 13) (qA (cV 12) qN))))))))) (qG (qU eY)) qQ))))))))))))))))
  (qG (qU eY)))
end
theorem all_mk {l:PySem.W.OpenLaw}{w:cJ}{K:Fg1}{h:cP}{mg:Str->Option cE}{fa f1 f2 f3 f4 f5 f6 f7 f8 f9 S f11 z O Z f15 T U y x f20 D N f23 C f25 f26 f27 I f29 Q f31 f32:cG}(X:K.In h)(G:h.Ns cK mg)(hfa:mg "law"=some (.ref fa))
  (a1:dL K "is_whole" kY f1)
  (a2:dL K "is_tuple_of" iy f2)
  (a3:dL K "looks" qg f3)
  (a4:dL K "all_unlike" iT f4)
  (a5:dL K "chalk_signs" iz f5)
  (a6:dL K "_law_hand" jB f6)
  (a7:dL K "_law_take" jA f7)
  (a8:dL K "_law_keeps" iZ f8)
  (a9:dL K "_law_walks" iV f9)
  (L:dL K "_law_led" k4 S)
  (a11:dL K "_law_whole" iU f11)
  (a12:dL K "_law_colours" hW z)
  (a13:dL K "_law_signs" iX O)
  (r:dL K "is_below" kZ Z)
  (R:dL K "is_headed" jy f15)
  (a16:dL K "is_colouring" hO T)
  (J:dL K "all_signs" jz U)
  (W:dL K "_law_doored" iB y)
  (a19:dL K "_law_order" iY x)
  (a20:dL K "_law_turns" iW f20)
  (t:dL K "_law_fits" jC D)
  (a22:dL K "_law_standing" gH N)
  (a23:dL K "_law_numbers" hR f23)
  (Y:dL K "shows_alike" ix C)
  (V:dL K "_law_plain_web" gj f25)
  (a26:dL K "_law_cover" i3 f26)
  (a27:dL K "_law_by_turns" gI f27)
  (a28:dL K "_law_due" k6 I)
  (a29:dL K "shows_never" iw f29)
  (u:dL K "_law_web" k0 Q)
  (a31:dL K "_law_papers" iA f31)
  (n:dL K "law" pa f32)
  (j:wN1 K cK "all"=some none)
  (m:wN1 K cK "any"=some none)
  (z_bool:wN1 K cK "bool"=some none)
  (z_enumerate:wN1 K cK "enumerate"=some none)
  (i:wN1 K cK "int"=some none)
  (z_isinstance:wN1 K cK "isinstance"=some none)
  (c:wN1 K cK "len"=some none)
  (z_list:wN1 K cK "list"=some none)
  (d:wN1 K cK "max"=some none)
  (g:wN1 K cK "min"=some none)
  (z_range:wN1 K cK "range"=some none)
  (f:wN1 K cK "set"=some none)
  (z_sorted:wN1 K cK "sorted"=some none)
  (b:wN1 K cK "str"=some none)
  (z_tuple:wN1 K cK "tuple"=some none)
  (k:wN1 K cK "zip"=some none)
  :∃fd:cQ,(∀(s:cF) (v:cE),BindsTo s fd ⟨[v],[]⟩ [("_law_script",v)]) /\ ∀base:cP,K.In base->base.Ns cK mg->mE l.prog w K mg base t5 5 fa fd ["_law_script"] (AN K 1 m_law):=by
 have e:=hfa.symm.trans (wM1 X G n.ns);cases e;have B:Blt mg:=⟨PySem.W.mg_none_of X G j,PySem.W.mg_none_of X G m,PySem.W.mg_none_of X G z_bool,PySem.W.mg_none_of X G z_enumerate,PySem.W.mg_none_of X G i,PySem.W.mg_none_of X G z_isinstance,PySem.W.mg_none_of X G c,PySem.W.mg_none_of X G z_list,PySem.W.mg_none_of X G d,PySem.W.mg_none_of X G g,PySem.W.mg_none_of X G z_range,PySem.W.mg_none_of X G f,PySem.W.mg_none_of X G z_sorted,PySem.W.mg_none_of X G b,PySem.W.mg_none_of X G z_tuple,PySem.W.mg_none_of X G k⟩;obtain⟨_,⟨⟨_,_,kV,dc,pm,an,cd,ct,_,rfl,lL,cL⟩,kL⟩⟩:=n.fn;refine⟨wF1 "law" "law" (jd pa) (fA pa) (c0 pa) .none kV dc pm an cd ct,fun s v=>.of_eq rfl,fun base _ _=>?_⟩;have o0:=sx (P:=l.prog) (w:=w) (base:=base) X G a1 B;have o1:=nQ (P:=l.prog) (w:=w) (base:=base) X G a2 B;have o2:=yZ (P:=l.prog) (w:=w) (base:=base) X G a3 B;have o17:=oJ (P:=l.prog) (w:=w) (base:=base) X G a4 B;have o3:=nR (P:=l.prog) (w:=w) (base:=base) X G a5 B;have o26:=qx (P:=l.prog) (w:=w) (base:=base) X G a6 B;have a:=qw (P:=l.prog) (w:=w) (base:=base) X G a7 B;have o5:=oQ (P:=l.prog) (w:=w) (base:=base) X G a8 B;have o7:=oM (P:=l.prog) (w:=w) (base:=base) X G a9 B;have o6:=sB (P:=l.prog) (w:=w) (base:=base) X G L B;have o8:=oK (P:=l.prog) (w:=w) (base:=base) X G a11 B;have o23:=mY (P:=l.prog) (w:=w) (base:=base) X G a12 B;have o:=oO (P:=l.prog) (w:=w) (base:=base) X G a13 B;have o9:=sy X G r B o0;have q:=qu X G R B o1;have p:=mW X G a16 B o1 o0 o2;have E:=qv X G J B o3;have o11:=nT X G W B a;have o12:=oP X G a19 B a;have o13:=oN X G a20 B o5 o6 o7;have o14:=qy X G t B o8;have A:=md X G a22 B a;have F:=mX X G a23 B a;have M:=nP X G Y B o3 o9 p;have o21:=lB X G V B o11 a;have o20:=oR X G a26 B o12;have o22:=me X G a27 B o13;have H:=sC X G a28 B o14 o;have o30:=nO X G a29 B E o17 p q M;have o29:=sA X G u B o20 o21 a;have o27:=nS X G a31 B o22 o23 F o a;exact EV (P:=l.prog) (w:=w) (base:=base) (z0 lL cL kL) B H o26 o27 A a o29 o30
def hnd(g m c:Int):Ob:=.lst [.int g,.int m,.int c]
def Fb(m c:Int):Int:=(m+9973*c*c+17)*69621%2305843009213693921
def zm(m c:Int):Int:=Fb m c*(Fb m c%999983+7919*c)%2305843009213693907
theorem Iu{a b c:D}:uO [a,b,c] 0=some a:=by rfl
theorem JS{a b c:D}:uO [a,b,c] 1=some b:=by rfl
theorem JR{a b c:D}:uO [a,b,c] 2=some c:=by rfl
theorem DY{T:Sto}{g m c k:Int}(hg:0<g)(hk:0<k)(a:k<1073741824):
  cZ [.ref 0,.int k] (hnd g m c::T)=some (.int (g%k),hnd (g/k) m c::T):=by
 simp[cZ,im,gE,j3,c9,eV,mB,m2,b2,lM,mV,mC,c7,mw,AR,dj,hnd,hg,hk,a,dk,gN,lJ,rj,gS,b3,gb,jY,jZ,dW,Iu,vN]
theorem DX{T:Sto}{g m c k:Int}(hg:¬ 0<g)(hk:0<k)(a:k<1073741824)(hc:0<=c)(b:c<2^60):
  cZ [.ref 0,.int k] (hnd g m c::T)=some (.int ((zm m (c+1)/101+zm m (c+1)/1000003)%k),hnd g m (c+1)::T):=by
 have e:d9 9973 (c+1)=true:=sJ (by decide) (by decide);have f:d9 (9973*(c+1)) (c+1)=true:=vz (by omega) (by omega);have h:d9 (m+9973*(c+1)*(c+1)+17) 69621=true:=vz (by decide) (by decide);have d:d9 7919 (c+1)=true:=sJ (by decide) (by decide);have q:=Int.emod_lt_of_pos ((m+9973*(c+1)*(c+1)+17)*69621) (show(0:Int)<2305843009213693921 by decide);have j:=Int.emod_nonneg ((m+9973*(c+1)*(c+1)+17)*69621) (show(2305843009213693921:Int)≠0 by decide);have i:d9 ((m+9973*(c+1)*(c+1)+17)*69621%2305843009213693921) ((m+9973*(c+1)*(c+1)+17)*69621%2305843009213693921%999983+7919*(c+1))=true:=sJ (by omega) (by omega);simp[cZ,im,gE,j3,c9,eV,mB,m2,b2,lM,mV,mC,c7,mw,AR,dj,hnd,hg,hk,a,dk,gN,lJ,rj,gS,b3,gb,jY,jZ,dW,Iu,JS,JR,vN,k8,e6,jc,e,f,h,d,i,Fb,zm]
def Hnd(o:Ob)(n:Nat):Prop:=∃g m c:Int,o=hnd g m c/\0<=c/\c<=n
theorem Hnd.und{o:Ob}{n k:Nat}(h:Hnd o n):o.und k=true:=by
 obtain⟨g,m,c,rfl,_⟩:=h;rfl
theorem Hnd.more{o:Ob}{n k:Nat}(h:Hnd o n)(hk:n<=k):Hnd o k:=by
 obtain⟨g,m,c,e,a,h1⟩:=h;exact⟨g,m,c,e,a,by lia⟩
theorem eZ{o:Ob}{n:Nat}{k:Int}{T:Sto}{Q:D×Sto->Prop}(ho:Hnd o n)(hn:n<=2^50)(hk:0<k)(a:k<1073741824)(h:∀(d:Nat) o',Hnd o' (n+1)->(d:Int)<k->Q (.int d,o'::T)):W (cY 2 cZ [.ref 0,.int k] (o::T)) Q:=by
 obtain⟨g,m,c,rfl,f,h1⟩:=ho;have call:∀d o',cZ [.ref 0,.int k] (hnd g m c::T)=some (d,o'::T)->cY 2 cZ [.ref 0,.int k] (hnd g m c::T)=some (d,o'::T):=fun d o e=>xv e rfl (by simp[D.unds,D.und]) (by simp);by_cases i:0<g
 ·have b:=Int.emod_nonneg g (show k≠0 by lia);obtain⟨d,e⟩:=Int.eq_ofNat_of_zero_le b;refine⟨_,call _ _ (DY i hk a),?_⟩;rw[e];exact h d _ ⟨_,_,_,rfl,f,by lia⟩ (by rw[<- e];exact Int.emod_lt_of_pos _ hk)
 ·have b:=Int.emod_nonneg (zm m (c+1)/101+zm m (c+1)/1000003) (show k≠0 by lia);obtain⟨d,e⟩:=Int.eq_ofNat_of_zero_le b;refine⟨_,call _ _ (DX i hk a f (by lia)),?_⟩;rw[e];exact h d _ ⟨_,_,_,rfl,by lia,by push_cast;lia⟩ (by rw[<- e];exact Int.emod_lt_of_pos _ hk)
theorem CF(ns:List Int)(k:Int)(l:0<=k)(hk:k<63):∃o,cY 2 fo [.rol (ns.map D.int),.int k] []=some (.ref 0,[o])/\Hnd o 0:=by
 have i:∃g m,fo [.rol (ns.map D.int),.int k] []=some (.ref 0,[hnd g m 0]):=by
  have j:d9 (10^60) (10^30)=true:=by decide+kernel
  have f:d9 7919 k=true:=sJ (by decide) (by decide);have a:d9 0 0=true:=sJ (by decide) (by decide);have d:∀(x:Int) (b:Prop) [Decidable b],d9 x (if b then 1 else 0)=true:=fun x b _=>by
   split
   ·exact vz (by decide) (by decide)
   ·exact vz (by decide) (by decide)
  have lt:gLt (.int k) (.int ns.length) []=some (.bl (decide (k<ns.length)),[]):=by rfl
  by_cases h:k<ns.length
  ·have c:uO (ns.map D.int) k=some (.int (ns[k.toNat]'(by lia))):=by
    unfold uO vN;rw[if_pos l,if_pos (by simpa using h)];simp[show k.toNat<ns.length by lia]
   generalize p:ns[k.toNat]'(by lia)=x at c
   simp[fo,im,gE,j5,c9,eV,mB,m2,b2,b1,mN,cT,cU,lM,mV,mC,c7,mw,AR,dH,dj,dk,gN,lJ,jc,e6,ms,oV,dW,fy,lt,h,c,f,d,cN,hnd,k8];simp[show d9 1000000000000000000000000000000000000000000000000000000000000 1000000000000000000000000000000=true from j,a,f,d]
  ·simp[fo,im,gE,j5,c9,eV,mB,m2,b2,b1,mN,cT,cU,lM,mV,mC,c7,mw,AR,dH,dj,dk,gN,lJ,jc,e6,ms,oV,dW,fy,lt,h,f,d,cN,hnd,k8];simp[show d9 1000000000000000000000000000000000000000000000000000000000000 1000000000000000000000000000000=true from j,a,f,d]
 obtain⟨g,m,e⟩:=i;refine⟨hnd g m 0,?_,_,_,_,rfl,Int.le_refl _,Int.le_refl _⟩;rw[oq (n:=2) e rfl (by rw[D.unds,D.und,l6];rfl) (by simp[D.und])];simp[D.sh,Ob.sh,D.shs,hnd]
abbrev jo:=List (List Nat)
structure WN (t m:Nat)(T:Sto)(E:jo)(U:Sto):Prop where
 tl:T.length=t
 low:U.take t=T
 el:E.length=m
 row:∀(i:Nat) (row:List Nat),E[i]?=some row->U[t+i]?=some (.lst (nmD row))
 ends:U[t+m]?=some (.lst (kw (t+1) m))
 cl:∀o∈U,o.und (U.length+1)=true
theorem Dm{n:Nat}{xs:List Nat}:(Ob.lst (nmD xs)).und n=true:=kb (fL xs)
theorem WN.app{t m:Nat}{T:Sto}{E:jo}{U G:Sto}(w:WN t m T E U)(c:∀o∈G,o.und 0=true):WN t m T E (U++G):=by
 have d:t+m<U.length:=(gE1.mp w.ends).1;refine⟨w.tl,?_,w.el,fun i b h=>?_,?_,fun o a=>?_⟩
 ·rw[List.take_append_of_le_length (by lia)];exact w.low
 ·have:=w.row i b h;rw[gL1 (gE1.mp this).1];exact this
 ·rw[gL1 d];exact w.ends
 ·rcases am.mp a with a|a
  ·exact ig (by rw[lA1];lia) (w.cl o a)
  ·exact ig (aR _) (c o a)
theorem WN.setRow{t m i:Nat}{T:Sto}{E:jo}{U:Sto}{row:List Nat}(w:WN t m T E U)(hi:i<m):WN t m T (E.set i row) (U.set (t+i) (.lst (nmD row))):=by
 have b:t+m<U.length:=(gE1.mp w.ends).1;refine⟨w.tl,?_,by rw[aH];exact w.el,fun j r h=>?_,?_,fun o a=>?_⟩
 ·rw[List.take_set_of_le (by lia)];exact w.low
 ·by_cases e:i=j
  ·subst e;rw[ap (by rw[w.el];exact hi)]at h;cases h;rw[ap (by lia)]
  ·rw[gS1 e]at h;rw[gS1 (by lia)];exact w.row j r h
 ·rw[gS1 (by lia)];exact w.ends
 ·rw[aH];rcases List.mem_or_eq_of_mem_set a with a|rfl
  ·exact w.cl o a
  ·exact Dm
theorem WN.split{t m:Nat}{T:Sto}{E:jo}{U:Sto}(w:WN t m T E U):U=T++U.drop t:=by
 conv=>lhs;rw[<- bZ t U,w.low]
theorem pd:∀(k n:Nat),kw n (k+1)=kw n k++[.ref (n+k)]
 |0,n=>rfl
 |k+1,n=>by
  rw[kw,pd k (n+1),kw,aS,show n+1+k=n+(k+1) by lia]
theorem sr:∀(k n N:Nat),n+k<=N->D.unds N (kw n k)=true
 |0,_,_,_=>rfl
 |k+1,n,N,h=>by
  rw[kw,D.unds,sr k (n+1) N (by lia),D.und,br,decide_eq_true_eq];lia
theorem xR{t m:Nat}{T:Sto}(tl:T.length=t)(b:T.all (Ob.und (T.length+1))=true):WN t m T (aB m []) (T++(aB m (.lst [])++[.lst (kw (t+1) m)])):=by
 refine⟨tl,by rw[<- tl,List.take_left],by simp,fun i c h=>?_,?_,fun o a=>?_⟩
 ·have hi:i<m:=by have:=(gE1.mp h).1;simpa using this
  rw[aE,if_pos hi]at h;cases h;rw[<- tl,dA,gL1 (by simpa using hi),aE,if_pos hi];rfl
 ·rw[<- tl,dA,gR1 (by simp)];simp
 ·rw[am,am,bg,bU]at a;rcases a with a|⟨_,rfl⟩|rfl
  ·exact ig (by rw[lA1];lia) (bd.mp b o a)
  ·rfl
  ·rw[Ob.und];exact sr _ _ _ (by simp;lia)
theorem nq{t m i:Nat}{T:Sto}{E:jo}{U:Sto}{o:Ob}{Q:D×Sto->Prop}(w:WN t m T E U)(hi:i<m)(q:Q (.ref (t+i+1),o::U)):W (c7 (.ref (t+m+1)) (.int i) (o::U)) Q:=
 gz (xs:=kw (t+1) m) (x:=.ref (t+i+1)) (by rw[gC1];exact w.ends) (by rw[qj hi];congr 2;lia) q
theorem og{v k:Nat}:∀{E:jo} {i:Nat} {row:List Nat},E[i]?=some row->(E.set i (row++[k])).flatten.count v=E.flatten.count v+if k=v then 1 else 0
 |[],i,row,h=>by simp at h
 |r::E,0,row,h=>by
  rw[ci]at h;cases h;simp only[cj,cr,List.count_append,List.count_cons,List.count_nil,beq_iff_eq];lia
 |r::E,i+1,row,h=>by
  rw[gC1]at h;simp only[b0,cr,List.count_append,og h];lia
theorem oe{k:Nat}:∀{E:jo} {i:Nat} {row:List Nat},E[i]?=some row->(E.set i (row++[k])).flatten.length=E.flatten.length+1
 |[],i,row,h=>by simp at h
 |r::E,0,row,h=>by
  rw[ci]at h;cases h;simp only[cj,cr,lA1,lC1,aO];lia
 |r::E,i+1,row,h=>by
  rw[gC1]at h;simp only[b0,cr,lA1,oe h];lia
theorem v6:∀{E:jo} {k:Nat},k<=E.length->(∀(i:Nat) (row:List Nat),i<k->E[i]?=some row->4<=row.length)->4*k<=E.flatten.length
 |E,0,_,_=>by lia
 |[],k+1,h,_=>by simp at h
 |r::E,k+1,h,a=>by
  have h1:=a 0 r (by lia) rfl;have h2:=v6 (E:=E) (k:=k) (by simpa using h) fun i row hi b=>a (i+1) row (by lia) b;rw[cr,lA1];lia
structure WE (m:Nat)(E:jo)(k i:Nat):Prop where
 len:E.length=m
 le:∀(i:Nat) (row:List Nat),E[i]?=some row->row.length<=4
 fl:E.flatten.length=2*k
 ct:∀v,E.flatten.count v=if v<k then 2 else 0
 jn:∀j,1<=j->j<=i -> ∃a ra rb v,a<j/\E[a]?=some ra/\E[j]?=some rb/\v∈ra/\v∈rb
theorem xT(m:Nat):WE m (aB m []) 0 0:=by
 have e:(aB m ([]:List Nat)).flatten=[]:=by
  rw[List.flatten_eq_nil_iff];intro l a;exact(bg.mp a).2
 refine⟨by simp,fun i b h=>?_,by rw[e];rfl,fun v=>by rw[e,if_neg (by lia)];rfl,fun j h1 h2=>by lia⟩;rw[aE]at h;split at h
 ·cases h;simp
 ·cases h
theorem ls{E:jo}{i k:Nat}{row:List Nat}(h:E[i]?=some row){j:Nat}{r:List Nat}(b:E[j]?=some r):∃r',(E.set i (row++[k]))[j]?=some r' /\ ∀x∈r,x∈r':=by
 by_cases z:i=j
 ·subst z;rw[h]at b;cases b;exact⟨_,ap (gE1.mp h).1,fun x a=>ao _ a⟩
 ·exact⟨r,by rw[gS1 z];exact b,fun x a=>a⟩
theorem WE.tie{m a b k i i':Nat}{E:jo}{ra e:List Nat}(w:WE m E k i)(ha:E[a]? = some ra)(J:ra.length<4)(hb:(E.set a (ra++[k]))[b]? = some e)(L:e.length<4)(hi:i'<=i\/(i'=i+1/\b<a/\a=i')):
  WE m ((E.set a (ra++[k])).set b (e++[k])) (k+1) i':=by
 have x:(E.set a (ra++[k]))[a]?=some (ra++[k]):=ap (gE1.mp ha).1;refine⟨by rw[aH,aH];exact w.len,fun j g d=>?_,?_,fun v=>?_,fun j h1 h2=>?_⟩
 ·by_cases z:b=j
  ·subst z;rw[ap (gE1.mp hb).1]at d;cases d;rw[lA1,aJ];lia
  ·rw[gS1 z]at d;by_cases u:a=j
   ·subst u;rw[x]at d;cases d;rw[lA1,aJ];lia
   ·rw[gS1 u]at d;exact w.le j g d
 ·rw[oe hb,oe ha,w.fl];lia
 ·rw[og hb,og ha,w.ct v];split<;>split<;>split<;>lia
 ·rcases(show j<=i\/(j=a/\b<a) by lia)with s|⟨rfl,f⟩
  ·obtain⟨c,H,G,v,C,I,F,B,A⟩:=w.jn j h1 s;obtain⟨K,D,y⟩:=ls (k:=k) ha I;obtain⟨o,p,t⟩:=ls (k:=k) hb D;obtain⟨r2,q,l⟩:=ls (k:=k) ha F;obtain⟨h,n,r⟩:=ls (k:=k) hb q;exact⟨c,o,h,v,C,p,n,t _ (y _ B),r _ (l _ A)⟩
  ·obtain⟨r2,q,l⟩:=ls (k:=k) hb x;exact⟨b,e++[k],r2,k,f,ap (gE1.mp hb).1,q,by simp,l _ (by simp)⟩
theorem Db{t m a b k:Nat}{T:Sto}{E:jo}{U:Sto}{o:Ob}{ra:List Nat}{r:Ev}{f g:FE}{Q:Fl×Ev×Sto->Prop}(w:WN t m T E U)(ha:a<m)(hb:b<m)(p:E[a]? = some ra)(H:ra.length<100)(C:∀ rb,E[b]? = some rb->rb.length<100)(hf:∀S,f r S=some (.int a,S))(hg:∀S,g r S=some (.int b,S))(G:mV 4 r=fun S=>some (.ref (t+m+1),S))(y:mV 3 r=fun S=>some (.int k,S))(h:∀rb z,(E.set a (ra++[k]))[b]?=some rb->WN t m T ((E.set a (ra++[k])).set b (rb++[k])) z->Q (.nx,r.set 3 (some (.int ((k+1:Nat):Int))),o::z)):
  W (c9 (dX (kx (b2 gr) (m2 (b2 c7) (mV 4) f) (cT (mV 3) cU))) (c9 (dX (kx (b2 gr) (m2 (b2 c7) (mV 4) g) (cT (mV 3) cU))) (dk (m2 (b2 e6) (mV 3) (mC (D.int (1)))) (gN 3))) r (o::U)) Q:=by
 have F:∀(xs:List Nat),nmD xs++[D.int (k:Int)]=nmD (xs++[k]):=fun xs=>by simp[nmD]
 have j:∀ {x:Nat} {d:List Nat} {E:jo} {U:Sto} {e:FE} {P:Fl×Ev×Sto->Prop} (w:WN t m T E U),x<m->E[x]? = some d->d.length<200->(∀ S,e r S=some (.int x,S))->P (.nx,r,o::U.set (t+x) (.lst (nmD (d++[k])))) ->
   W (dX (kx (b2 gr) (m2 (b2 c7) (mV 4) e) (cT (mV 3) cU)) r (o::U)) P:=by
  intro x d E U e P w B n I A q;have v:(o::U)[t+x+1]?=some (.lst (nmD d)):=by rw[gC1];exact w.row x d n
  unfold dX;rw[cX];refine fv ?_;unfold m2;rw[G];simp only[oS1,A,b2];refine nq w B ?_;refine⟨t+x+1,nmD d,rfl,v,?_⟩;unfold cT cU;rw[y];simp only[oS1,oP1];rw[da];refine(iu v).mpr ⟨c8 (by rw[dD];lia),?_⟩;rw[F,b0];exact da.mpr q
 have s:=w.setRow (row:=ra++[k]) ha;obtain⟨rb,c⟩:∃rb,(E.set a (ra++[k]))[b]?=some rb:=⟨_,gG1 (by rw[s.el];exact hb)⟩;have u:rb.length<200:=by
  by_cases e:a=b
  ·subst e;rw[ap (by rw[w.el];exact ha)]at c;cases c;rw[lA1,aJ];lia
  ·rw[gS1 e]at c;have:=C rb c;lia
 refine dy (fun l S=>l=r/\S=o::U.set (t+a) (.lst (nmD (ra++[k])))) (j w ha p (by lia) hf ⟨rfl,rfl,rfl⟩) ?_;rintro l S ⟨rfl,rfl⟩;refine dy (fun i S=>i=l/\S=o::(U.set (t+a) (.lst (nmD (ra++[k])))).set (t+b) (.lst (nmD (rb++[k])))) (j s hb c u hg ⟨rfl,rfl,rfl⟩) ?_;rintro i S ⟨rfl,rfl⟩;unfold dk m2 mC gN;rw[y];simp only[oS1,b2];rw[cX,AK];exact da.mpr (h rb _ c (s.setRow hb))
theorem DW{t m i n:Nat}{T U:Sto}{E:jo}{o:Ob}{N x6 x7 x8 x9:Option D}{Q:Fl×Ev×Sto->Prop}(w:WN t m T E U)(v:WE m E i i)(ho:Hnd o n)(hn:n<=2^44)(hi:i+1<m)(hm:m<=8)(he:∀j row,i+1<=j->E[j]?=some row->row=[])(h:∀Y o' U' O V,WN t m T Y U'->WE m Y (i+1) (i+1)->Hnd o' (n+1)->(∀j row,i+2<=j->Y[j]?=some row->row=[]) ->
   Q (.nx,[some (.ref 0),N,some (.int m),some (.int ((i+1:Nat):Int)),some (.ref (t+m+1)),some (.int ((i+1:Nat):Int)),O,V,x8,x9],o'::U')):
  W (fK [some (.ref 0),N,some (.int m),some (.int (i:Nat)),some (.ref (t+m+1)),some (.int ((i+1:Nat):Int)),x6,x7,x8,x9] (o::U)) Q:=by
 have e:∀j,j<m -> ∃row,E[j]?=some row:=fun j g=>⟨_,gG1 (by rw[v.len];exact g)⟩
 let k:Nat->Bool:=fun j=>decide ((E.getD j []).length<4)
 unfold fK;have F:(List.range (i+1)).filter k≠[]:=by
  intro z;have B:∀j row,j<i+1->E[j]?=some row->4<=row.length:=fun j row g hr=>by
   have:=List.filter_eq_nil_iff.mp z j (ah.mpr g);simp only[k,bo,hr,bL,decide_eq_true_eq]at this;lia
  have:=v6 (E:=E) (k:=i+1) (by rw[v.len];lia) B;have:=v.fl;lia
 generalize P:(List.range (i+1)).filter k=L at F;have X:∀j∈L,j<i+1/\k j=true:=fun j g=>by
  rw[<- P,ag]at g;exact⟨ah.mp g.1,g.2⟩
 have hLl:L.length<=8:=by
  rw[<- P];have:=cu k (List.range (i+1));simp at this;lia
 refine dy (fun r S=>r=[some (.ref 0),N,some (.int m),some (.int (i:Nat)),some (.ref (t+m+1)),some (.int ((i+1:Nat):Int)),some (.ref (U.length+1)),x7,x8,x9]/\S=o::(U++[.lst (nmD L)])) ?_ ?_
 ·walk_at"w";rw[kH,Int.toNat_natCast];refine⟨fB (by lia),?_⟩;refine rp k (fun j:Nat=>.int j) (fun r=>∃x,r=[x,some (.ref (t+m+1))]) rfl (List.range (i+1)) _ ⟨_,rfl⟩ ?_ ?_
  ·rintro j g r ⟨x,rfl⟩;have p:j<m:=by have:=ah.mp g;lia
   obtain⟨row,c⟩:=e j p;walk_at"w";refine nq w p ?_;walk_at"w";refine dz (xs:=nmD row) (by rw[gC1];exact w.row j row c) ?_;walk_at"w";refine⟨?_,⟨_,rfl⟩,fun _=>trivial⟩;simp only[k,bo,c,bL,dD];rw[bx,decide_eq_true_eq,decide_eq_true_eq];lia
  ·rintro r' _;walk_at"w";rw[P];exact⟨c8 (by rw[lM1];lia),rfl⟩
 rintro r S ⟨rfl,rfl⟩;have hL0:0<L.length:=bW.mpr F;have Z:∀o:Ob,(o::(U++[Ob.lst (nmD L)]))[U.length+1]?=some (.lst (nmD L)):=fun o=>by rw[gC1,c6];rfl
 refine dy (fun r S=>∃j u,j<i+1/\k j=true/\Hnd u (n+1)/\r=[some (.ref 0),N,some (.int m),some (.int (i:Nat)),some (.ref (t+m+1)),some (.int ((i+1:Nat):Int)),some (.ref (U.length+1)),some (.int (j:Nat)),x8,x9]/\S=u::(U++[.lst (nmD L)])) ?_ ?_
 ·walk_at"w";refine dz (Z _) ?_;walk_at"w";rw[dD];refine eZ ho (by lia) (by lia) (by lia) fun d u q hd=>?_;have y:d<L.length:=by lia
  refine gz (i:=d) (xs:=nmD L) (x:=.int (L[d]:Nat)) (Z _) (by rw[nmD,gP1,gG1 y];rfl) ?_;obtain⟨J,l⟩:=X L[d] (bA y);exact⟨L[d],u,J,l,q,rfl,rfl⟩
 rintro r S ⟨j,u,J,l,q,rfl,rfl⟩;obtain⟨row,c⟩:=e j (by lia);have R:row.length<4:=by
  simp only[k,bo,c,bL,decide_eq_true_eq]at l;exact l
 obtain⟨M,s⟩:=e (i+1) hi;have A:=he (i+1) M (nR1 _) s;subst A;have w':=w.app (G:=[Ob.lst (nmD L)]) fun o ho=>by rw[bU]at ho;subst ho;exact Dm
 refine Db (a:=i+1) (b:=j) (ra:=[]) w' hi (by lia) s (by simp) (fun M hb=>by rw[c]at hb;cases hb;lia) (fun _=>rfl) (fun _=>rfl) rfl rfl fun M U2 f w2=>?_;have K:i+1≠j:=by lia
 have I:M=row:=by
  rw[gS1 K,c]at f;cases f;rfl
 subst I;refine h _ u U2 _ _ w2 (v.tie s (by simp) f R (.inr ⟨rfl,by lia,rfl⟩)) q fun j' H p C=>?_;rw[gS1 (by lia),gS1 (by lia)]at C;exact he j' H (by lia) C
theorem Fa{t m n k i:Nat}{T U:Sto}{E:jo}{o:Ob}{J x5 x6 x7 x8 x9:Option D}{Q:Fl×Ev×Sto->Prop}(w:WN t m T E U)(v:WE m E k i)(ho:Hnd o n)(hn:n<=2^44)(hm0:0<m)(hm:m<=8)(h:∀E' k' o' U' X N,WN t m T E' U'->WE m E' k' i->Hnd o' (n+2) ->
   Q (.nx,[some (.ref 0),J,some (.int m),some (.int (k':Nat)),some (.ref (t+m+1)),x5,x6,X,x8,N],o'::U')):
  W (fJ [some (.ref 0),J,some (.int m),some (.int (k:Nat)),some (.ref (t+m+1)),x5,x6,x7,x8,x9] (o::U)) Q:=by
 have l:∀j,j<m -> ∃row,E[j]?=some row:=fun j hj=>⟨_,gG1 (by rw[v.len];exact hj)⟩;unfold fJ;refine dy (fun r S=>∃a b g,a<m/\b<m/\Hnd g (n+2)/\r=[some (.ref 0),J,some (.int m),some (.int (k:Nat)),some (.ref (t+m+1)),x5,x6,some (.int (b:Nat)),x8,some (.int (a:Nat))]/\S=g::U) ?_ ?_
 ·walk_at"w";refine eZ ho (by lia) (by lia) (by lia) fun a o1 M G=>?_;walk_at"w";refine eZ M (by lia) (by lia) (by lia) fun b g q L=>?_;walk_at"w";exact⟨a,b,g,by lia,by lia,q,rfl,rfl⟩
 rintro r S ⟨a,b,g,G,L,q,rfl,rfl⟩;obtain⟨Y,s⟩:=l a G;obtain⟨K,u⟩:=l b L;have I:Q (.nx,[some (.ref 0),J,some (.int m),some (.int (k:Nat)),some (.ref (t+m+1)),x5,x6,some (.int (b:Nat)),x8,some (.int (a:Nat))],g::U):=
  h E k g U _ _ w v q
 unfold eV;rw[cX];have F:W (m4 (mB (m2 (b2 gLt) (m2 (b2 e6) (mN (b1 dH) (cT (m2 (b2 c7) (mV 4) (mV 9)) cU)) (mN (b1 oV) (cT (m2 (b2 gEq) (mV 9) (mV 7)) cU))) (mC (D.int (4))))) (mB (m2 (b2 gLt) (mN (b1 dH) (cT (m2 (b2 c7) (mV 4) (mV 7)) cU)) (mC (D.int (4))))) [some (.ref 0),J,some (.int m),some (.int (k:Nat)),some (.ref (t+m+1)),x5,x6,some (.int (b:Nat)),x8,some (.int (a:Nat))] (g::U)) fun p=>p.2=g::U/\(p.1=true->Y.length+(if a=b then 1 else 0)<4/\K.length<4):=by
  walk_at"w";refine nq w G ?_;walk_at"w";refine dz (xs:=nmD Y) (by rw[gC1];exact w.row a Y s) ?_;walk_at"w";rw[dD];have e1:((a:Int) == (b:Int))=decide (a=b):=by
   rw[bx,beq_iff_eq,decide_eq_true_eq];lia
  rw[e1];have rest:W (c7 (D.ref (t+m+1)) (D.int (b:Int)) (g::U)) fun x=>W (dH x.fst x.snd) fun x=>W (gLt x.fst (D.int 4) x.snd) fun x=>W (match x.fst with|D.bl b=>some (b,x.snd)|x=>none) fun p=>p.snd=g::U/\(p.fst=true->K.length<4):=by
   refine nq w L ?_;walk_at"w";refine dz (xs:=nmD K) (by rw[gC1];exact w.row b K u) ?_;walk_at"w";rw[dD];intro V;rw[decide_eq_true_eq]at V;lia
  by_cases f:a=b
  ·rw[decide_eq_true f];walk_at"w";split
   ·rename_i A;rw[decide_eq_true_eq]at A;refine rest.mono fun x O=>O.mono fun y R=>R.mono fun z P=>P.mono fun p C=>⟨C.1,fun e=>⟨by first|lia|(rw[if_pos f];lia),C.2 e⟩⟩
   ·first|(intro z;cases z;done)|(refine⟨_,rfl,?_,fun z=>?_⟩<;>first|rfl|cases z)|walk_at"w"
  ·rw[decide_eq_false f];walk_at"w";split
   ·rename_i A;rw[decide_eq_true_eq]at A;refine rest.mono fun x O=>O.mono fun y R=>R.mono fun z P=>P.mono fun p C=>⟨C.1,fun e=>⟨by first|lia|(rw[if_neg f];lia),C.2 e⟩⟩
   ·first|(intro z;cases z;done)|(refine⟨_,rfl,?_,fun z=>?_⟩<;>first|rfl|cases z)|walk_at"w"
 obtain⟨⟨c,S1⟩,ec,Z,hc⟩:=F;dsimp only at Z hc;subst Z;refine⟨_,ec,?_⟩;dsimp only;cases c with
 |false=>rw[if_neg (by decide)];exact da.mpr I
 |true=>
  rw[if_pos rfl];obtain⟨h1,h2⟩:=hc rfl;refine Db (a:=a) (b:=b) w G L s (by lia) (fun H B=>by rw[u]at B;cases B;lia) (fun _=>rfl) (fun _=>rfl) rfl rfl fun H U2 d w2=>?_;have hl:H.length<4:=by
   by_cases f:a=b
   ·subst f;rw[ap (by rw[v.len];exact G)]at d;cases d;rw[if_pos rfl]at h1;rw[lA1,aJ];lia
   ·rw[gS1 f,u]at d;cases d;exact h2
  exact h _ (k+1) g U2 _ _ w2 (v.tie s (by lia) d hl (.inl (nR1 _))) q
abbrev Pl:=List ((Nat×Nat)×Nat)
def hZ(i:Nat)(row:List Nat):Pl:=row.zipIdx.map fun p=>((i,p.2),p.1)
def eO:Nat->jo->Pl
 |_,[]=>[]
 |i,row::R=>hZ i row++eO (i+1) R
def ps(A:Pl)(v:Nat):List (Nat×Nat):=(A.filter fun x=>x.2 == v).map (·.1)
theorem yN{i j v:Nat}{row:List Nat}(h:row[j]?=some v):hZ i (row.take (j+1))=hZ i (row.take j)++[((i,j),v)]:=by
 have a:=(gE1.mp h).1;unfold hZ;rw[b8,h,Option.toList_some,List.zipIdx_append,b7];simp;lia
theorem my:∀{R:jo} {i k:Nat} {row:List Nat},R[i]?=some row->eO k (R.take (i+1))=eO k (R.take i)++hZ (k+i) row
 |[],i,k,row,h=>by simp at h
 |r::R,0,k,row,h=>by
  rw[ci]at h;cases h;simp[eO]
 |r::R,i+1,k,row,h=>by
  rw[gC1]at h;rw[List.take_succ_cons,List.take_succ_cons,eO,eO,my h,bj,show k+1+i=k+(i+1) by lia]
theorem vB{i:Nat}{row:List Nat}{x:(Nat×Nat)×Nat}:x∈hZ i row↔x.1.1=i/\row[x.1.2]?=some x.2:=by
 obtain⟨⟨a,b⟩,c⟩:=x;unfold hZ;rw[bQ];constructor
 ·rintro⟨⟨v,j⟩,h,e⟩;cases e;exact⟨rfl,cg.mp h⟩
 ·rintro⟨rfl,h⟩;exact⟨(c,b),cg.mpr h,rfl⟩
theorem nV:∀{R:jo} {k:Nat} {x:(Nat×Nat)×Nat},x∈eO k R ↔ ∃i a,x.1.1=k+i/\R[i]?=some a/\a[x.1.2]?=some x.2
 |[],k,x=>by simp[eO]
 |r::R,k,x=>by
  rw[eO,am,vB,nV (R:=R)];constructor
  ·rintro(⟨h1,h2⟩|⟨i,a,h1,h2,b⟩)
   ·exact⟨0,r,by lia,rfl,h2⟩
   ·exact⟨i+1,a,by lia,h2,b⟩
  ·rintro⟨i,a,h1,h2,b⟩;cases i with
   |zero=>cases h2;exact .inl ⟨by lia,b⟩
   |succ i=>exact .inr ⟨i,a,by lia,h2,b⟩
theorem BD{i:Nat}{row:List Nat}:(hZ i row).map (·.2)=row:=by
 unfold hZ;rw[aZ];exact List.zipIdx_map_fst 0 row
theorem tq:∀{R:jo} {k:Nat},(eO k R).map (·.2)=R.flatten
 |[],_=>rfl
 |r::R,k=>by rw[eO,b7,BD,tq (R:=R),cr]
theorem Eu{i:Nat}{row:List Nat}:((hZ i row).map (·.1)).Nodup:=by
 unfold hZ;rw[aZ];have e:(row.zipIdx.map ((fun x:(Nat×Nat)×Nat=>x.1)∘fun p=>((i,p.2),p.1)))=(row.zipIdx.map (·.2)).map fun j=>(i,j):=by rw[aZ];rfl
 rw[e,List.zipIdx_map_snd,<- List.range_eq_range'];exact List.pairwise_map.mpr (List.nodup_range.imp fun h z=>h (Prod.mk.inj z).2)
theorem ro:∀{R:jo} {k:Nat},((eO k R).map (·.1)).Nodup
 |[],_=>aW
 |r::R,k=>by
  rw[eO,b7,bb];refine⟨Eu,ro,fun a g b d e=>?_⟩;obtain⟨x,c,rfl⟩:=bQ.mp g;obtain⟨y,h,rfl⟩:=bQ.mp d;have h1:=(vB.mp c).1;obtain⟨i,f,h2,_⟩:=nV.mp h;rw[e]at h1;lia
theorem Er{A:Pl}{v:Nat}:(ps A v).length=(A.map (·.2)).count v:=by
 unfold ps;rw[lM1,List.count,List.countP_map,List.countP_eq_length_filter];rfl
theorem nb{A:Pl}{p:Nat×Nat}{v u:Nat}:ps (A++[(p,v)]) u=if v=u then ps A u++[p]else ps A u:=by
 unfold ps;rw[List.filter_append,b7];by_cases h:v=u
 ·simp[h]
 ·simp[h]
theorem Fh{A:Pl}{p:Nat×Nat}{v:Nat}:p∈ps A v↔(p,v)∈A:=by
 unfold ps;rw[bQ];constructor
 ·rintro⟨⟨q,u⟩,h,e⟩;obtain⟨h1,h2⟩:=ag.mp h;have h2:u=v:=by simpa using h2
  cases e;cases h2;exact h1
 ·intro h;exact⟨(p,v),ag.mpr ⟨h,by simp⟩,rfl⟩
theorem Hh{A:Pl}{v:Nat}(h:(A.map (·.1)).Nodup):(ps A v).Nodup:=h.sublist (List.filter_sublist.map _)
structure PL (b:Nat)(A:Pl)(kv:List (Key×D))(H:Sto):Prop where
 no:∀v:Nat,ps A v=[]->df kv (Sum.inl (v:Int))=none
 yes:∀v:Nat,ps A v≠[] -> ∃h,df kv (Sum.inl (v:Int))=some (.ref (b+h))/\H[h]?=some (.lst ((ps A v).map pD))
 inj:∀v u h:Nat,df kv (Sum.inl (v:Int))=some (.ref (b+h))->df kv (Sum.inl (u:Int))=some (.ref (b+h))->v=u
 few:kv.length<=A.length
theorem n9{v u:Nat}(h:v≠u):(Sum.inl (v:Int):Key)≠Sum.inl (u:Int):=fun e=>h (by injection e with e;lia)
theorem PL.old{b v h:Nat}{A:Pl}{kv:List (Key×D)}{H:Sto}{p:Nat×Nat}(P:PL b A kv H)(hv:ps A v≠[])(e:df kv (Sum.inl (v:Int))=some (.ref (b+h)))(g:H[h]? = some (.lst ((ps A v).map pD))):
  PL b (A++[(p,v)]) kv ((H++[Ob.lst []]).set h (.lst ((ps A v).map pD++[pD p]))):=by
 have i:=(gE1.mp g).1;refine⟨fun u a=>?_,fun u a=>?_,P.inj,by rw[lA1];have:=P.few;lia⟩
 ·rw[nb]at a;split at a
  ·simp at a
  ·exact P.no u a
 ·rw[nb]at a ⊢;by_cases c:v=u
  ·subst c;rw[if_pos rfl,b7];exact⟨h,e,ap (by rw[lA1];lia)⟩
  ·rw[if_neg c]at a ⊢;obtain⟨h',f,d⟩:=P.yes u a;refine⟨h',f,?_⟩;rw[gS1 (fun z=>c (P.inj v u h e (by rw[z];exact f))),gL1 (gE1.mp d).1];exact d
theorem PL.new{b v:Nat}{A:Pl}{kv:List (Key×D)}{H:Sto}{p:Nat×Nat}(P:PL b A kv H)(hv:ps A v=[]):
  PL b (A++[(p,v)]) (fW kv (Sum.inl (v:Int)) (.ref (b+H.length))) (H++[.lst [pD p]]):=by
 refine⟨fun u f=>?_,fun u f=>?_,fun u j h d c=>?_,by rw[lA1,aJ];have:=P.few;have:=ql (k:=(Sum.inl (v:Int):Key)) (v:=D.ref (b+H.length)) (a:=kv);lia⟩
 ·rw[nb]at f;split at f
  ·simp at f
  ·rename_i l;rw[jT,if_neg (n9 (Ne.symm l))];exact P.no u f
 ·rw[nb]at f ⊢;by_cases g:v=u
  ·subst g;rw[if_pos rfl,hv,jT,if_pos rfl];exact⟨H.length,rfl,by rw[gR1 (nR1 _),b5];rfl⟩
  ·rw[if_neg g]at f ⊢;obtain⟨h',d,c⟩:=P.yes u f;refine⟨h',by rw[jT,if_neg (n9 (Ne.symm g))];exact d,?_⟩;rw[gL1 (gE1.mp c).1];exact c
 ·have old:∀ w:Nat,w≠v->df kv (Sum.inl (w:Int))=some (.ref (b+h))->h<H.length:=fun w o e=>by
   by_cases m:ps A w=[]
   ·rw[P.no w m]at e;cases e
   ·obtain⟨h',i,n⟩:=P.yes w m;rw[e]at i;have:h=h':=by injection i with i;injection i with i;lia
    rw[this];exact(gE1.mp n).1
  rw[jT]at d c;by_cases h1:u=v
  ·by_cases h2:j=v
   ·rw[h1,h2]
   ·rw[if_pos (by rw[h1])]at d;rw[if_neg (n9 h2)]at c;have:=old j h2 c;have:h=H.length:=by injection d with d;injection d with d;lia
    lia
  ·rw[if_neg (n9 h1)]at d;by_cases h2:j=v
   ·rw[if_pos (by rw[h2])]at c;have:=old u h1 d;have:h=H.length:=by injection c with c;injection c with c;lia
    lia
   ·rw[if_neg (n9 h2)]at c;exact P.inj u j h d c
def jG(A:Pl)(v:Nat)(e:Nat×Nat):Nat×Nat:=let l:=ps A v;if l.getD 0 (0,0)=e then l.getD 1 (0,0)else l.getD 0 (0,0)
theorem xW{A:Pl}{v:Nat}(h2:(ps A v).length=2):∃p q,ps A v=[p,q]:=by
 match hp:ps A v,h2 with
 |[p,q],_=>exact⟨p,q,rfl⟩
theorem vp{A:Pl}{v:Nat}{e:Nat×Nat}(h:(A.map (·.1)).Nodup)(h2:(ps A v).length=2)(he:(e,v)∈A):(jG A v e,v)∈A/\jG A v e≠e/\jG A v (jG A v e)=e /\ ∀x,(x,v)∈A->x=e\/x=jG A v e:=by
 obtain⟨p,q,f⟩:=xW h2;have g:=Hh (v:=v) h;rw[f]at g;have a:p≠q:=by simpa using g
 have m:∀x,(x,v)∈A↔x=p\/x=q:=fun x=>by rw[<- Fh,f];simp
 have d:∀x,jG A v x=if p=x then q else p:=fun x=>by simp[jG,f]
 rcases(m e).mp he with rfl|rfl
 ·have b:jG A v e=q:=by rw[d,if_pos rfl]
  rw[b];exact⟨(m q).mpr (.inr rfl),Ne.symm a,by rw[d,if_neg a],fun x c=>(m x).mp c⟩
 ·have b:jG A v e=p:=by rw[d,if_neg a]
  rw[b];exact⟨(m p).mpr (.inl rfl),a,by rw[d,if_pos rfl],fun x c=>((m x).mp c).symm⟩
theorem u6{c:FT}{b:FS}{Q:Fl×Ev×Sto->Prop}(I:Nat->Ev->Sto->Prop)(N:Nat)(step:∀k r S,I k r S->W (c r S) fun p=>if p.1=true then k<N/\W (b r p.2) fun q=>q.1 = .nx/\I (k+1) q.2.1 q.2.2 else Q (.nx,r,p.2)):
  ∀(a k:Nat) (r:Ev) (S:Sto),N-k<a->I k r S->W (tY c b a r S) Q
 |0,k,r,S,hf,_=>by lia
 |a+1,k,r,S,hf,hi=>by
  rw[tY];dsimp only;rw[cX];obtain⟨⟨t,m⟩,e,h⟩:=step k r S hi;refine⟨_,e,?_⟩;dsimp only at h ⊢;cases t with
  |true=>
   rw[if_pos rfl]at h ⊢;obtain⟨n,⟨f,l,j⟩,i,g,d⟩:=h;dsimp only at g d;subst g;rw[i,oS1];exact u6 I N step a (k+1) l j (by lia) d
  |false=>
   rw[if_neg (by decide)]at h ⊢;exact da.mpr h
theorem wt{m:FA}{r:Ev}{S:Sto}{xs:List D}{n:Nat}{Q:wx×Sto->Prop}(hm:m r S=some ([.ref n],S))(hn:S[n]?=some (.lst xs))(q:Q (⟨rS 0 xs,[(n,xs)]⟩,S)):W (mK m r S) Q:=by
 refine W.of (x:=(⟨rS 0 xs,[(n,xs)]⟩,S)) ?_ q;simp only[mK,hm,oS1,fU hn,nk hn]
theorem oh:∀{xs:List Nat} {i:Nat} (h:i<xs.length),(xs[i]::xs.eraseIdx i).Perm xs
 |x::xs,0,h=>.refl _
 |x::xs,i+1,h=>by
  rw[List.eraseIdx_cons_succ,List.getElem_cons_succ];exact(List.Perm.swap x _ _).trans ((oh (by simpa using h)).cons x)
theorem sv{xs rs row:List Nat}{i:Nat}{x:Nat}(h:(rs++xs).Perm row)(hx:xs[i]?=some x):((rs++[x])++xs.eraseIdx i).Perm row:=by
 refine List.Perm.trans ?_ h;rw[bj];refine List.Perm.append_left rs ?_;obtain⟨hi,rfl⟩:=gE1.mp hx;exact oh hi
theorem zg{xs:List Nat}{i x:Nat}(h:xs[i]?=some x):(nmD xs)[i]?=some (.int x):=by rw[nmD,gP1,h];rfl
theorem sI{xs:List Nat}{i:Nat}:(nmD xs).eraseIdx i=nmD (xs.eraseIdx i):=by
 rw[nmD,nmD,List.eraseIdx_eq_take_drop_succ,List.eraseIdx_eq_take_drop_succ,b7,List.map_take,List.map_drop]
theorem i7{xs:List Nat}{x:Nat}:nmD xs++[D.int (x:Int)]=nmD (xs++[x]):=by simp[nmD]
theorem D5{V:Sto}{o:Ob}{n:Nat}{row:List Nat}{p j x3 x6 x7 x8 x9:Option D}{Q:Fl×Ev×Sto->Prop}(ho:Hnd o n)(hn:n<=2^44)(hr:row.length<=4)(q:∀o' a G,Hnd o' (n+4)->a.Perm row->Q (.nx,[some (.ref 0),p,j,x3,some (.ref (V.length+1)),some (.ref (V.length+2)),x6,x7,x8,x9],o'::(V ++ .lst [] :: .lst (nmD a)::G))):
  W (tY gO gM 100000 [some (.ref 0),p,j,x3,some (.ref (V.length+1)),some (.ref (V.length+2)),x6,x7,x8,x9] (o::(V++[.lst (nmD row),.lst []]))) Q:=by
 refine u6 (fun k r S=>∃o' b a G,Hnd o' (n+k)/\(a++b).Perm row/\a.length=k/\S=o'::(V ++ .lst (nmD b) :: .lst (nmD a)::G)/\r=[some (.ref 0),p,j,x3,some (.ref (V.length+1)),some (.ref (V.length+2)),x6,x7,x8,x9]) 4 ?_ 100000 0 _ _ (by lia) ⟨o,row,[],[],ho,.refl _,rfl,rfl,rfl⟩;rintro k r S ⟨o',b,a,G,f,h,v,rfl,rfl⟩;have c:=h.length_eq;rw[lA1]at c;have g:∀(o:Ob) (X:Ob) (Y:Sto),(o::(V++X::Y))[V.length+1]?=some X:=fun o X Y=>by rw[gC1,c6];rfl
 have t:∀(o:Ob) (X Z:Ob) (Y:Sto),(o::(V++X::Z::Y))[V.length+2]?=some Z:=fun o X Z Y=>by rw[gC1,dA];rfl
 refine W.of (x:=(!(nmD b).isEmpty,o'::(V ++ .lst (nmD b) :: .lst (nmD a)::(G++[.lst []])))) ?_ ?_
 ·have e:(o'::(V++Ob.lst (nmD b)::Ob.lst (nmD a)::G))++[Ob.lst []]=o'::(V ++ .lst (nmD b) :: .lst (nmD a)::(G++[.lst []])):=by simp
  unfold gO mB m2 mV fy cU b2;simp only[gC1,ci,cm,oP1,oS1];rw[if_pos (show([]:List D).length<=cN by decide),oS1,e,vX (xs:=nmD b) (g _ _ _) (by rw[<- e,c6];rfl)];rfl
 dsimp only;cases b with
 |nil=>
  rw[show(nmD ([]:List Nat)).isEmpty=true from rfl,if_neg (by decide)];rw[ay]at h;exact q o' a _ (f.more (by simp at c;lia)) h
 |cons l b=>
  rw[show(!(nmD (l::b)).isEmpty)=true from rfl,if_pos rfl];refine⟨by rw[lC1]at c;lia,?_⟩;unfold gM;walk_at"w";refine fv ?_;walk_at"w";refine⟨V.length+2,nmD a,rfl,t _ _ _ _,?_⟩;refine fv ?_;walk_at"w";refine⟨V.length+1,nmD (l::b),rfl,g _ _ _,?_⟩;refine dz (g _ _ _) ?_;walk_at"w";rw[dD];rw[lC1]at c;refine eZ f (by lia) (by rw[lC1];lia) (by rw[lC1];lia) fun d i m u=>?_;obtain⟨x,s⟩:∃x,(l::b)[d]?=some x:=⟨_,gG1 (by lia)⟩;walk_at"w";refine uR (g _ _ _) (zg s) (by rw[lC1]at u;lia) ?_;have es:∀X,(i::(V++Ob.lst (nmD (l::b))::Ob.lst (nmD a)::(G++[Ob.lst []]))).set (V.length+1) X=i::(V++X :: .lst (nmD a)::(G++[.lst []])):=fun X=>by
   rw[b0,cv _ _ (nR1 _),b5];rfl
  rw[es];walk_at"w";refine(iu (t _ _ _ _)).mpr ⟨c8 (by rw[dD];lia),?_⟩;refine⟨i,(l::b).eraseIdx d,a++[x],G++[.lst []],m.more (by lia),sv h s,by rw[lA1,v];rfl,?_,trivial⟩;rw[b0,cv _ _ (by lia),show V.length+1-V.length=1 by lia,i7,sI];rfl
def rk(u:Nat)(ks:List Nat):List D:=ks.map fun k=>D.ref (u+2+k)
structure RS (R:jo)(ks:List Nat)(G:Sto):Prop where
 len:ks.length=R.length
 row:∀(j k:Nat) (row:List Nat),ks[j]?=some k->R[j]?=some row->G[k]?=some (.lst (nmD row))
theorem RS.app{R:jo}{ks:List Nat}{G H:Sto}(r:RS R ks G):RS R ks (G++H):=
 ⟨r.len,fun j k a h1 h2=>by have:=r.row j k a h1 h2;rw[gL1 (gE1.mp this).1];exact this⟩
theorem RS.snoc{R:jo}{ks:List Nat}{G:Sto}{k:Nat}{row:List Nat}(r:RS R ks G)(h:G[k]?=some (.lst (nmD row))):RS (R++[row]) (ks++[k]) G:=by
 refine⟨by rw[lA1,lA1,r.len];rfl,fun j c a h1 h2=>?_⟩;by_cases b:j<ks.length
 ·rw[gL1 b]at h1;rw[gL1 (by rw[<- r.len];exact b)]at h2;exact r.row j c a h1 h2
 ·have:=(gE1.mp h1).1;rw[lA1,aJ]at this;have e:j=ks.length:=by lia
  subst e;rw[cx]at h1;rw[r.len,cx]at h2;cases h1;cases h2;exact h
theorem DT{U G:Sto}{ks:List Nat}{o:Ob}{n e i:Nat}{row:List Nat}{x4 x5 x6 x7 x8 x9:Option D}{Q:Fl×Ev×Sto->Prop}(hi:U[i]? = some (.lst (nmD row)))(ho:Hnd o n)(hn:n<=2^44)(hr:row.length<=4)(hk:ks.length<=100)(q:∀o' a p k f m,Hnd o' (n+4)->a.Perm row->(G++p)[k]?=some (.lst (nmD a))->Q (.nx,[some (.ref 0),some (.ref e),some (.ref (U.length+1)),some (.ref (i+1)),f,m,x6,x7,x8,x9],o'::(U ++ .lst (rk U.length (ks++[k]))::(G++p)))):
  W (gL [some (.ref 0),some (.ref e),some (.ref (U.length+1)),some (.ref (i+1)),x4,x5,x6,x7,x8,x9] (o::(U ++ .lst (rk U.length ks)::G))) Q:=by
 generalize c:U ++ .lst (rk U.length ks)::G=V;have g:V.length=U.length+1+G.length:=by rw[<- c];simp;lia
 have d:V[i]?=some (.lst (nmD row)):=by rw[<- c,gL1 (gE1.mp hi).1];exact hi
 have l:V[U.length]?=some (.lst (rk U.length ks)):=by rw[<- c,c6];rfl
 unfold gL;refine dy (fun r S=>S=o::(V++[.lst (nmD row),.lst []])/\r=[some (.ref 0),some (.ref e),some (.ref (U.length+1)),some (.ref (i+1)),some (.ref (V.length+1)),some (.ref (V.length+2)),x6,x7,x8,x9]) ?_ ?_
 ·have t:∀S:Sto,S[i+1]?=some (.lst (nmD row))->xf (.ref (i+1)) S=some (.ref S.length,S++[.lst (nmD row)]):=fun S h=>by unfold xf;rw[fU h];rfl
  ((try walk_at"w");repeat(simp only[t (o::V) (by rw[gC1];exact d)];try walk_at"w"))
 rintro r S ⟨rfl,rfl⟩;refine dy (fun r S=>∃o' a G2,Hnd o' (n+4)/\a.Perm row/\S=o'::(V ++ .lst [] :: .lst (nmD a)::G2)/\r=[some (.ref 0),some (.ref e),some (.ref (U.length+1)),some (.ref (i+1)),some (.ref (V.length+1)),some (.ref (V.length+2)),x6,x7,x8,x9]) ?_ ?_
 ·refine D5 ho hn hr fun o' a G2 h1 h2=>⟨rfl,o',a,G2,h1,h2,rfl,rfl⟩
 rintro r S ⟨o',a,G2,j,u,rfl,rfl⟩;have b:(o'::(V++Ob.lst []::Ob.lst (nmD a)::G2))[U.length+1]?=some (.lst (rk U.length ks)):=by
  rw[gC1,gL1 (by lia)];exact l
 walk_at"w";refine fv ?_;walk_at"w";refine⟨U.length+1,_,rfl,b,?_⟩;refine(iu b).mpr ⟨c8 (by unfold rk;rw[lM1];lia),?_⟩;have es:(o'::(V++Ob.lst []::Ob.lst (nmD a)::G2)).set (U.length+1) (.lst (rk U.length ks++[.ref (V.length+2)]))=o'::(U ++ .lst (rk U.length (ks++[G.length+1]))::(G++Ob.lst []::Ob.lst (nmD a)::G2)):=by
  have s:rk U.length ks++[.ref (V.length+2)]=rk U.length (ks++[G.length+1]):=by
   unfold rk;rw[b7,g,show U.length+1+G.length+2=U.length+2+(G.length+1) by lia];rfl
  rw[s,<- c,b0,bj,cv _ _ (nR1 _),b5];rfl
 rw[es];exact q o' a _ (G.length+1) _ _ j u (by rw[dA];rfl)
theorem IE{m a b:FE}{r:Ev}{S:Sto}{n v:Nat}{kv:List (Key×D)}{Q:D×Sto->Prop}(hm:m r S=some (.ref n,S))(ha:a r S=some (.int v,S))(hb:b r S=some (.ref S.length,S++[.lst []]))(hn:S[n]? = some (.dct kv))(e:kv.length<1000)(h1:∀z,df kv (Sum.inl (v:Int))=some z->Q (z,S++[.lst []]))(h2:df kv (Sum.inl (v:Int))=none->Q (.ref S.length,(S++[Ob.lst []]).set n (.dct (fW kv (Sum.inl (v:Int)) (.ref S.length))))):W (nW m a b r S) Q:=by
 have c:(S++[Ob.lst []])[n]?=some (.dct kv):=by rw[gL1 (gE1.mp hn).1];exact hn
 have d:kv.length<cN:=nL1 e (by decide);cases hk:df kv (Sum.inl (v:Int))with
 |some z=>
  refine W.of ?_ (h1 z hk);simp only[nW,hm,oS1,hn,ha,hb,c,mm,if_pos d,hk]
 |none=>
  refine W.of ?_ (h2 hk);simp only[nW,hm,oS1,hn,ha,hb,c,mm,if_pos d,hk]
theorem BH{X H:Sto}{o:Ob}{A:Pl}{kv:List (Key×D)}{i j v:Nat}{l r x3 x4 x5:Option D}{Q:Fl×Ev×Sto->Prop}(P:PL (X.length+2) A kv H)(C:A.length<100)(q:∀a H',PL (X.length+2) (A++[((i,j),v)]) a H'->Q (.nx,[some (.ref 0),l,r,x3,x4,x5,some (.ref (X.length+1)),some (.int (i:Nat)),some (.int (j:Nat)),some (.int (v:Nat))],o::(X ++ .dct a::H'))):
  W (gK [some (.ref 0),l,r,x3,x4,x5,some (.ref (X.length+1)),some (.int (i:Nat)),some (.int (j:Nat)),some (.int (v:Nat))] (o::(X ++ .dct kv::H))) Q:=by
 have E:=P.few;have u:∀(o:Ob) (Z:Ob) (Y:Sto),(o::(X++Z::Y))[X.length+1]?=some Z:=fun o Z Y=>by rw[gC1,c6];rfl
 have B:∀(o:Ob) (Z:Ob) (Y:Sto) (h:Nat),(o::(X++Z::Y))[X.length+2+h]?=Y[h]?:=fun o Z Y h=>by rw[show X.length+2+h=X.length+(h+1)+1 by lia,gC1,dA];rfl
 have w:(o::(X++Ob.dct kv::H)).length=X.length+2+H.length:=by simp;lia
 have s:(o::(X++Ob.dct kv::H))++[Ob.lst []]=o::(X ++ .dct kv::(H++[.lst []])):=by simp
 have st:∀(Z:Ob) (Y:Sto) (h:Nat) (V:Ob),(o::(X++Z::Y)).set (X.length+2+h) V=o::(X++Z::Y.set h V):=fun Z Y h V=>by
  rw[show X.length+2+h=X.length+(h+1)+1 by lia,b0,cv _ _ (by lia),show X.length+(h+1)-X.length=h+1 by lia];rfl
 have f:∀ (a:List (Key×D)) (H1:Sto) (h:Nat) (ys:List (Nat×Nat)) (m:Sto),m=o::(X ++ .dct a::H1)->H1[h]? = some (.lst (ys.map pD))->ys.length<200->PL (X.length+2) (A++[((i,j),v)]) a (H1.set h (.lst (ys.map pD++[pD (i,j)]))) ->
   ∃n xs,D.ref (X.length+2+h) = .ref n/\m[n]?=some (.lst xs)/\W (cT (d6 (cT (mV 7) (cT (mV 8) cU))) cU [some (.ref 0),l,r,x3,x4,x5,some (.ref (X.length+1)),some (.int (i:Nat)),some (.int (j:Nat)),some (.int (v:Nat))] m) fun q=>W (b2 gr (.ref n::q.1) q.2) fun p=>W (some (Fl.nx,[some (.ref 0),l,r,x3,x4,x5,some (.ref (X.length+1)),some (.int (i:Nat)),some (.int (j:Nat)),some (.int (v:Nat))],p.2)) Q:=by
  rintro a H1 h ys m rfl e t y;have b:=B o (.dct a) H1 h;rw[e]at b;refine⟨X.length+2+h,_,rfl,b,?_⟩;walk_at"w";refine(iu b).mpr ⟨c8 (by rw[lM1];lia),?_⟩;have:=q a _ y;rw[<- st]at this;exact this
 unfold gK;unfold dX;rw[cX];refine fv ?_;refine IE (n:=X.length+1) (v:=v) (kv:=kv) rfl rfl ?_ (u _ _ _) (by lia) (fun z c=>?_) (fun c=>?_)
 ·unfold fy cU;rw[oS1];rfl
 ·by_cases d:ps A v=[]
  ·rw[P.no v d]at c;cases c
  ·obtain⟨h,k,b⟩:=P.yes v d;rw[k]at c;cases c;have t:=(gE1.mp b).1;refine f kv (H++[.lst []]) h (ps A v) _ s (by rw[gL1 t];exact b) ?_ (P.old d k b);unfold ps;rw[lM1];have:=cu (fun x=>x.2 == v) A;lia
 ·by_cases d:ps A v=[]
  ·have g:=P.new (p:=(i,j)) d;rw[w];refine f (fW kv (Sum.inl (v:Int)) (.ref (X.length+2+H.length))) (H++[.lst []]) H.length [] _ ?_ (by rw[gR1 (nR1 _),b5];rfl) (by simp) ?_
   ·rw[s,b0,cv _ _ (nR1 _),b5];rfl
   ·rw[cv _ _ (nR1 _),b5];exact g
  ·obtain⟨h,k,b⟩:=P.yes v d;rw[k]at c;cases c
abbrev c5:=List (List (Nat×Nat))
def webD(w:c5):D:=.tup (w.map fun row=>.tup (row.map pD))
theorem dI(w:c5):(webD w).und 0=true:=by
 unfold webD;rw[D.und];exact dG fun a _=>by rw[D.und];exact dG fun _ _=>rfl
def uf(A:Pl)(i:Nat)(row:List Nat):List (Nat×Nat):=row.zipIdx.map fun q=>jG A q.1 (i,q.2)
def kU(R:jo):c5:=R.zipIdx.map fun p=>uf (eO 0 R) p.2 p.1
theorem pU{R:jo}{i:Nat}:(kU R)[i]?=(R[i]?).map (uf (eO 0 R) i):=by
 unfold kU;rw[gP1,cz];cases R[i]? <;> simp
structure tV (E R:jo):Prop where
 len:R.length=E.length
 row:∀(i:Nat) (r e:List Nat),R[i]?=some r->E[i]?=some e->r.Perm e
theorem tV.snoc{E R:jo}{i:Nat}{r e:List Nat}(h:tV (E.take i) R)(he:E[i]?=some e)(p:r.Perm e):tV (E.take (i+1)) (R++[r]):=by
 have hi:=(gE1.mp he).1;have a:R.length=i:=by have:=h.len;rw[aD]at this;lia
 refine⟨by rw[lA1,aD,a,aJ];lia,fun j c b h1 h2=>?_⟩;by_cases d:j<i
 ·rw[gL1 (by lia)]at h1;rw[aF (by lia)]at h2;exact h.row j c b h1 (by rw[aF d];exact h2)
 ·have:=(gE1.mp h1).1;rw[lA1,aJ]at this;have e:j=i:=by lia
  subst e;rw[aF (by lia),he]at h2;rw[<- a,cx]at h1;cases h1;cases h2;exact p
theorem l8:∀{E R:jo},tV E R->R.flatten.Perm E.flatten
 |[],[],_=>.refl _
 |[],_::_,h=>by have:=h.len;simp at this
 |_::_,[],h=>by have:=h.len;simp at this
 |e::E,r::R,h=>(h.row 0 r e rfl rfl).append (l8 ⟨by simpa using h.len,fun i a b h1 h2=>h.row (i+1) a b h1 h2⟩)
theorem uh{m k l i j a:Nat}{E R:jo}{row:List Nat}(v:WE m E k l)(sh:tV E R)(hr:R[i]?=some row)(ha:row[j]?=some a):(ps (eO 0 R) a).length=2:=by
 rw[Er,tq,(l8 sh).count_eq,v.ct a];have b:a∈R.flatten:=List.mem_flatten.mpr ⟨row,gM1 hr,gM1 ha⟩;have:=List.count_pos_iff.mpr b;rw[(l8 sh).count_eq,v.ct a]at this;split at this
 ·rename_i h;rw[if_pos h]
 ·lia
theorem Dh{u j k:Nat}{ks:List Nat}(h:ks[j]?=some k):(rk u ks)[j]?=some (.ref (u+2+k)):=by unfold rk;rw[gP1,h];rfl
theorem qi{u:Nat}{ks:List Nat}:(rk u ks).length=ks.length:=by unfold rk;rw[lM1]
theorem vZ{S:Sto}{n v:Nat}{F:List (Key×D)}{d:D}{Q:D×Sto->Prop}(h:S[n]?=some (.dct F))(a:df F (Sum.inl (v:Int))=some d)(q:Q (d,S)):W (c7 (.ref n) (.int (v:Nat)) S) Q:=by
 refine W.of ?_ q;simp only[c7,mw,h,mm,oS1,a,oP1]
theorem Ik{a:Nat×Nat}{i j:Nat}{S:Sto}:gEq (pD a) (.tup [.int i,.int j]) S=some (.bl (a == (i,j)),S):=by
 have:=rv (S:=S) (n:=58) (a:=a) (b:=(i,j));show(eqN S dr (pD a) (pD (i,j))).map _=_;unfold dr;rw[this];rfl
inductive DI (E:jo)(U:Sto)(t m n:Nat):Nat->Ev->Sto->Prop
 |mk (i:Nat) (R:jo) (ks:List Nat) (G:Sto) (o':Ob) (x3 x4 x5:Option D) (hi:i<=m) (sh:tV (E.take i) R) (rs:RS R ks G) (ho:Hnd o' (n+4*i)):DI E U t m n i [some (.ref 0),some (.ref (t+m+1)),some (.ref (U.length+1)),x3,x4,x5,none,none,none,none] (o'::(U ++ .lst (rk U.length ks)::G))
inductive DJ (R:jo)(X:Sto)(o':Ob)(a b:Nat)(x3 x4:Option D)(m:Nat):Nat->Ev->Sto->Prop
 |mk (i:Nat) (kv:List (Key×D)) (H:Sto) (x5 x7 x8 x9:Option D) (hi:i<=m) (P:PL (X.length+2) (eO 0 (R.take i)) kv H):DJ R X o' a b x3 x4 m i [some (.ref 0),some (.ref a),some (.ref b),x3,x4,x5,some (.ref (X.length+1)),x7,x8,x9] (o'::(X ++ .dct kv::H))
inductive DK (R:jo)(X:Sto)(o':Ob)(a b:Nat)(x3 x4:Option D)(x5:Nat)(i:Nat)(row:List Nat):Nat->Ev->Sto->Prop
 |mk (j:Nat) (kv:List (Key×D)) (H:Sto) (x8 x9:Option D) (hj:j<=row.length) (P:PL (X.length+2) (eO 0 (R.take i)++hZ i (row.take j)) kv H):DK R X o' a b x3 x4 x5 i row j [some (.ref 0),some (.ref a),some (.ref b),x3,x4,some (.ref x5),some (.ref (X.length+1)),some (.int (i:Nat)),x8,x9] (o'::(X ++ .dct kv::H))
theorem Ag{t m n k:Nat}{T U:Sto}{E:jo}{o:Ob}{Q:D×Sto->Prop}(w:WN t m T E U)(v:WE m E k (m-1))(ho:Hnd o n)(hn:n<=2^43)(hm:m<=8)(q:∀R o',tV E R->Hnd o' (n+40)->Q (webD (kU R),o'::U)):W (cY 2 fG [.ref 0,.ref (t+m+1)] (o::U)) Q:=by
 refine pL rfl rfl (bd.mpr w.cl) ?_;unfold fG;refine kn ?_;unfold kQ;have hlE:=w.el;refine dy (fun r S=>S=o::(U ++ .lst (rk U.length [])::[])/\r=[some (.ref 0),some (.ref (t+m+1)),some (.ref (U.length+1)),none,none,none,none,none,none,none]) ?_ ?_
 ·walk_at"w";exact⟨rfl,trivial⟩
 rintro r S ⟨rfl,rfl⟩;refine dy (DI E U t m n m) ?_ ?_
 ·have y:∀(o:Ob) (Y:Sto),(o::(U++Y))[t+m+1]?=some (.lst (kw (t+1) m)):=fun o Y=>by rw[gC1,gL1 (gE1.mp w.ends).1];exact w.ends
  walk_at"w";refine dz (y _ _) ?_;refine dP (DI E U t m n) _ 0 _ _ (.mk 0 [] [] [] o none none none (aR _) ⟨rfl,fun i r e h=>by simp at h⟩ ⟨rfl,fun j k row h=>by simp at h⟩ ho) ?_ ?_ ?_
  ·rintro i r S ⟨R,ks,G,o',M,O,N,_,_,_,_⟩;exact d3 (y _ _)
  ·rintro i d g r S ⟨R,ks,G,o',M,O,N,hi,sh,J,F⟩;have c:=(gE1.mp g).1;dsimp only at c g;rw[ly]at c;rw[bu]at *
   rw[qj c]at g;cases g;obtain⟨row,b⟩:∃row,E[i]?=some row:=⟨_,gG1 (by lia)⟩;have hks:ks.length=i:=by rw[J.len,sh.len,aD];lia
   walk_at"w";rw[show t+1+i=t+i+1 by lia];refine DT (i:=t+i) (w.row i row b) F (by lia) (v.le i row b) (by lia) fun o2 rs2 G2 k2 x4' x5' h1 h2 h3=>?_;exact⟨rfl,.mk _ (R++[rs2]) (ks++[k2]) (G++G2) o2 _ _ _ c (sh.snoc b h2) (J.app.snoc h3) (h1.more (nR1 _))⟩
  ·intro r S h;rw[ly,bu]at h;exact⟨rfl,h⟩
 rintro r S ⟨R,ks,G,o',M,O,N,_,sh,J,F⟩;rw[bS (Nat.le_of_eq hlE)]at sh;generalize hX:U ++ .lst (rk U.length ks)::G=X;have C:R.length=m:=by rw[sh.len];exact hlE
 have L:∀(i:Nat) (row:List Nat),R[i]?=some row->row.length<=4:=fun i row h=>by
  obtain⟨e,he⟩:∃e,E[i]?=some e:=⟨_,gG1 (by have:=(gE1.mp h).1;lia)⟩;rw[(sh.row i row e h he).length_eq];exact v.le i e he
 have gk:∀(o:Ob) (Y:Sto),(o::(X++Y))[U.length+1]?=some (.lst (rk U.length ks)):=fun o Y=>by
  rw[<- hX,gC1,bj,c6];rfl
 have s:∀(o:Ob) (Y:Sto) (i k:Nat) (row:List Nat),ks[i]?=some k->R[i]?=some row->(o::(X++Y))[U.length+2+k]?=some (.lst (nmD row)):=fun o Y i k row h1 h2=>by
  have e:=J.row i k row h1 h2;rw[<- hX,show U.length+2+k=U.length+(k+1)+1 by lia,gC1,bj,dA,aS,gC1,gL1 (gE1.mp e).1];exact e
 refine dy (fun r S=>S=o'::(X ++ .dct []::[])/\r=[some (.ref 0),some (.ref (t+m+1)),some (.ref (U.length+1)),M,O,N,some (.ref (X.length+1)),none,none,none]) ?_ ?_
 ·((try walk_at"w");repeat(simp only[sN];try walk_at"w"))
 rintro r S ⟨rfl,rfl⟩;have lenA:∀i,i<=m->(eO 0 (R.take i)).length<=4*i:=by
  intro i
  induction i with
  |zero=>intro _;simp[eO]
  |succ i ih=>
   intro hi;obtain⟨row,b⟩:∃row,R[i]?=some row:=⟨_,gG1 (by lia)⟩;rw[my b,lA1];have:=ih (by lia);have:=L i row b;simp[hZ];lia
 refine dy (DJ R X o' (t+m+1) (U.length+1) M O m m) ?_ ?_
 ·unfold ee;rw[cX];refine wt (n:=U.length+1) rfl (gk _ _) ?_;refine dP (DJ R X o' (t+m+1) (U.length+1) M O m) _ 0 _ _ (.mk 0 [] [] _ _ _ _ (aR _) ⟨fun v _=>rfl,fun v h=>(h rfl).elim,fun v u h e=>by simp[df]at e,by simp⟩) ?_ ?_ ?_
  ·rintro i r S ⟨A,H,N,x7,x8,x9,_,_⟩;exact d3 (gk _ _)
  ·rintro i d g r S ⟨A,H,N,x7,x8,x9,hi,P⟩;dsimp only at g;rw[fb]at g;obtain⟨z,B,rfl⟩:=oM1.mp g;have c:=(gE1.mp B).1;rw[qi]at c;obtain⟨k2,l⟩:∃k2,ks[i]?=some k2:=⟨_,gG1 c⟩;rw[Dh l]at B;cases B;have hil:i<m:=by rw[<- C,<- J.len];exact c
   obtain⟨row,b⟩:∃row,R[i]?=some row:=⟨_,gG1 (by lia)⟩;rw[bu]at *
   walk_at"w";unfold jg ee;rw[cX];refine wt (n:=U.length+2+k2) rfl (s _ _ i k2 row l b) ?_;refine dP (DK R X o' (t+m+1) (U.length+1) M O (U.length+2+k2) i row) _ 0 _ _ (.mk 0 A H _ _ (aR _) (by simpa[hZ]using P)) ?_ ?_ ?_
   ·rintro j r S ⟨A,H,x8,x9,_,_⟩;exact d3 (s _ _ i k2 row l b)
   ·rintro j d g r S ⟨A,H,x8,x9,hj,P⟩;dsimp only at g;rw[fb]at g;obtain⟨z,B,rfl⟩:=oM1.mp g;rw[nmD,gP1]at B;obtain⟨way,I,rfl⟩:=oM1.mp B;have hjl:=(gE1.mp I).1;rw[bu]at *
    have:=lenA i (by lia);have:=L i row b;walk_at"w";refine BH P (by rw[lA1];simp[hZ];lia) fun kv' H' P'=>?_;rw[bj,<- yN I]at P';exact⟨rfl,.mk _ kv' H' _ _ hjl P'⟩
   ·rintro r S ⟨A,H,x8,x9,hj,P⟩;rw[e9,dD,bu,bF]at P;refine⟨rfl,.mk _ A H _ _ _ _ hil ?_⟩;rw[my b,bu];exact P
  ·intro r S h;rw[e9,qi,J.len,bu,C]at h;exact⟨rfl,h⟩
 rintro r S ⟨A,H,N,x7,x8,x9,_,P⟩;rw[bS (Nat.le_of_eq C)]at P;obtain⟨Y,hY⟩:∃Y,Y=Ob.dct A::H:=⟨_,rfl⟩;rw[<- hY];have cnt:∀(i j a:Nat) (row:List Nat),R[i]?=some row->row[j]?=some a -> ∃p V h,ps (eO 0 R) a=[p,V]/\df A (Sum.inl (a:Int))=some (.ref (X.length+2+h))/\H[h]?=some (.lst [pD p,pD V]):=by
  intro i j a row hr ha;have h2:=uh v sh hr ha;obtain⟨p,V,e⟩:=xW h2;obtain⟨h,e1,e2⟩:=P.yes a (by rw[e];simp);rw[e]at e2;exact⟨p,V,h,e,e1,e2⟩
 have gY:∀(o:Ob) (Z:Sto) (h:Nat) (x:Ob),H[h]?=some x->(o::(X++(Y++Z)))[X.length+2+h]?=some x:=fun o Z h x e=>by
  rw[hY,show X.length+2+h=X.length+(h+1)+1 by lia,gC1,dA,aS,gC1,gL1 (gE1.mp e).1];exact e
 have gd:∀(o:Ob) (Z:Sto),(o::(X++(Y++Z)))[X.length+1]?=some (.dct A):=fun o Z=>by rw[hY,gC1,c6];rfl
 walk_at"w";refine wt (n:=U.length+1) rfl (gk _ _) ?_;refine g8 (fun i K r S=>∃Z x0 x1,S=o'::(X++(Y++Z))/\r=[x0,x1,some (.ref (X.length+1))]/\K=(((kU R).take i).map fun row=>.tup (row.map pD))) _ 0 [] _ _ ⟨[],none,none,by rw[ay],rfl,rfl⟩ ?_ ?_ ?_
 ·rintro i K r S ⟨Z,x0,x1,rfl,_⟩;exact d3 (gk _ _)
 ·rintro i d g K r S ⟨Z,x0,x1,rfl,rfl,rfl⟩;dsimp only at g;rw[fb]at g;obtain⟨z,B,rfl⟩:=oM1.mp g;have c:=(gE1.mp B).1;rw[qi]at c;obtain⟨k2,l⟩:∃k2,ks[i]?=some k2:=⟨_,gG1 c⟩;rw[Dh l]at B;cases B;obtain⟨row,b⟩:∃row,R[i]?=some row:=⟨_,gG1 (by rw[<- J.len];exact c)⟩;rw[bu]at *
  have hl:=L i row b;walk_at"w";refine wt (n:=U.length+2+k2) rfl (s _ _ i k2 row l b) ?_;dsimp only;rw[nmD,Ae];refine iM (f:=fun p:Nat×Nat=>D.tup [.int p.2,.int p.1]) (fun p=>pD (jG (eO 0 R) p.1 (i,p.2))) (fun r=>∃x0 x1,r=[x0,x1,some (.ref (X.length+1)),some (.int (i:Nat))]) (d3 (s _ _ i k2 row l b)) row.zipIdx _ ⟨_,_,rfl⟩ ?_ ?_
  ·rintro⟨a,j⟩ ha r ⟨y0,y1,rfl⟩;obtain⟨p,V,h,c1,c2,c3⟩:=cnt i j a row b (wz ha);have c4:=gY o' Z h _ c3;walk_at"w";refine vZ (gd _ _) c2 ?_;refine vZ (gd _ _) c2 ?_;refine gz (i:=0) (x:=pD p) c4 rfl ?_
   ((try walk_at"w");repeat(simp only[Ik];try walk_at"w"))
   by_cases hp:p=(i,j)
   ·rw[show(p == (i,j))=true by rw[hp];simp];walk_at"w";refine gz (i:=1) (x:=pD V) c4 rfl ?_;refine⟨?_,rfl,_,_,rfl⟩;simp[jG,c1,hp]
   ·rw[show(p == (i,j))=false by simp[hp]];walk_at"w";refine gz (i:=0) (x:=pD p) c4 rfl ?_;refine⟨?_,rfl,_,_,rfl⟩;simp[jG,c1,hp]
  ·rintro r' _;walk_at"w";refine⟨c8 (by rw[lM1,List.length_zipIdx];lia),?_⟩;refine dz (xs:=row.zipIdx.map fun p=>pD (jG (eO 0 R) p.1 (i,p.2))) (by rw[gC1];simp only[<- lA1,<- aT,<- bj];rw[c6];rfl) ?_;refine⟨Z++[Ob.lst (row.zipIdx.map fun p=>pD (jG (eO 0 R) p.1 (i,p.2)))],_,_,rfl,rfl,?_⟩;rw[b8,pU,b];simp[uf,Function.comp_def]
 ·rintro xs r S ⟨Z,x0,x1,rfl,rfl,e⟩;dsimp only at e;have hwl:(kU R).length=m:=by unfold kU;simp[C]
  rw[cf,bu,e9,qi,J.len,bS (by lia)]at e;subst e;walk_at"w";refine⟨c8 (by rw[lM1];lia),?_⟩;refine dz (xs:=(kU R).map fun row=>.tup (row.map pD)) (by rw[gC1];simp only[<- lA1,<- aT,<- bj];rw[c6];rfl) ?_;refine⟨webD (kU R),o',(.lst (rk U.length ks)::G)++(Y++(Z++[Ob.lst ((kU R).map fun row=>.tup (row.map pD))])),?_,dI _,F.und,q R o' sh (F.more (by lia))⟩;rw[<- hX];simp only[bj];rfl
def At(w:c5)(r d:Nat)(e:Nat×Nat):Prop:=∃row,w[r]?=some row/\row[d]?=some e
structure WebJ (m:Nat)(w:c5):Prop where
 len:w.length=m
 le:∀(i:Nat) (row:List (Nat×Nat)),w[i]?=some row->row.length<=4
 to:∀(r d:Nat) (e:Nat×Nat),At w r d e->e.1<m
 jn:∀j,1<=j->j<m -> ∃a d e,a<j/\At w a d e/\e.1=j
structure rJ (m:Nat)(w:c5):Prop extends WebJ m w where
 back:∀(r d:Nat) (e:Nat×Nat),At w r d e->At w e.1 e.2 (r,d)/\e≠(r,d)
theorem Gr{R:jo}{i j:Nat}{e:Nat×Nat}:At (kU R) i j e ↔ ∃b a,R[i]?=some b/\b[j]?=some a/\e=jG (eO 0 R) a (i,j):=by
 unfold At;rw[pU];constructor
 ·rintro⟨b,h1,h2⟩;obtain⟨c,d,rfl⟩:=oM1.mp h1;unfold uf at h2;rw[gP1,cz]at h2;obtain⟨x,g,rfl⟩:=oM1.mp h2;obtain⟨a,f,rfl⟩:=oM1.mp g;exact⟨c,a,d,f,by simp⟩
 ·rintro⟨b,a,h1,h2,rfl⟩;refine⟨uf (eO 0 R) i b,by rw[h1];rfl,?_⟩;unfold uf;rw[gP1,cz,h2];simp
theorem ni{R:jo}{i j a:Nat}:((i,j),a)∈eO 0 R ↔ ∃b,R[i]?=some b/\b[j]?=some a:=by
 rw[nV];constructor
 ·rintro⟨d,b,h1,h2,c⟩;rw[bu]at h1;dsimp only at h1;subst h1;exact⟨b,h2,c⟩
 ·rintro⟨b,h2,c⟩;exact⟨i,b,(bu i).symm,h2,c⟩
theorem A1{m k:Nat}{E R:jo}(v:WE m E k (m-1))(sh:tV E R):rJ m (kU R):=by
 have y:R.length=m:=by rw[sh.len];exact v.len
 have D:∀(i:Nat) (b:List Nat),R[i]?=some b -> ∃e,E[i]?=some e/\b.Perm e:=fun i b h=>by
  obtain⟨e,o⟩:∃e,E[i]?=some e:=⟨_,gG1 (by have:=(gE1.mp h).1;rw[v.len];lia)⟩;exact⟨e,o,sh.row i b e h o⟩
 have l:∀(r d:Nat) (e:Nat×Nat),At (kU R) r d e->At (kU R) e.1 e.2 (r,d)/\e≠(r,d)/\e.1<m:=fun r d e h=>by
  obtain⟨b,a,h1,h2,rfl⟩:=Gr.mp h;obtain⟨F,p2,M,_⟩:=vp ro (uh v sh h1 h2) (ni.mpr ⟨b,h1,h2⟩);generalize jG (eO 0 R) a (r,d)=g at *
  obtain⟨c,q,O⟩:=(ni (i:=g.1) (j:=g.2)).mp F;refine⟨Gr.mpr ⟨c,a,q,O,M.symm⟩,p2,?_⟩;have:=(gE1.mp q).1;lia
 refine⟨⟨by unfold kU;simp[y],fun i b h=>?_,fun r d e h=>(l r d e h).2.2,fun j h1 h2=>?_⟩,fun r d e h=>⟨(l r d e h).1,(l r d e h).2.1⟩⟩
 ·rw[pU]at h;obtain⟨c,q,rfl⟩:=oM1.mp h;obtain⟨e,o,p⟩:=D i c q;unfold uf;rw[lM1,List.length_zipIdx,p.length_eq];exact v.le i e o
 ·obtain⟨a,L,I,x,B,H,G,J,N⟩:=v.jn j h1 (by lia);obtain⟨w,f⟩:∃s,R[a]?=some s:=⟨_,gG1 (by lia)⟩;obtain⟨A,n⟩:∃s,R[j]?=some s:=⟨_,gG1 (by lia)⟩;obtain⟨d,u⟩:=aX ((sh.row a w L f H).mem_iff.mpr J);obtain⟨K,t⟩:=aX ((sh.row j A I n G).mem_iff.mpr N);obtain⟨_,_,_,C⟩:=vp ro (uh v sh f u) (ni.mpr ⟨w,f,u⟩);rcases C (j,K) (ni.mpr ⟨A,n,t⟩)with z|z
  ·injection z with P Q;lia
  ·exact⟨a,d,_,B,Gr.mpr ⟨w,x,f,u,rfl⟩,by rw[<- z]⟩
theorem BG{o:Ob}{n a:Nat}{T:Sto}{Q:D×Sto->Prop}(ho:Hnd o n)(hn:n<=2^40)(Y:T.all (Ob.und (T.length+1))=true)(h0:1<=a)(h8:a<=8)(h:∀m w o',0<m->m<=a->rJ m w->Hnd o' (n+100)->Q (webD w,o'::T)):W (cY 2 eT [.ref 0,.int a] (o::T)) Q:=by
 refine pL rfl rfl Y ?_;unfold eT;refine kn ?_;unfold iO;generalize N:T.length=t;refine dy (fun r S=>∃(m:Nat) (u:Ob),0<m/\m<=a/\Hnd u (n+1)/\r=[some (.ref 0),some (.int a),some (.int m),some (.int ((0:Nat):Int)),none,none,none,none,none,none]/\S=u::T) ?_ ?_
 ·walk_at"w";refine eZ ho (by lia) (by lia) (by lia) fun c u A hc=>?_;walk_at"w";exact⟨c+1,u,by lia,by lia,A,by simp[Int.add_comm],rfl⟩
 rintro r S ⟨m,u,G,Z,A,rfl,rfl⟩;refine dy (fun r S=>∃U,WN t m T (aB m []) U/\r=[some (.ref 0),some (.int a),some (.int m),some (.int ((0:Nat):Int)),some (.ref (t+m+1)),none,none,none,none,none]/\S=u::U) ?_ ?_
 ·walk_at"w";refine⟨fB (by lia),?_⟩;rw[Int.toNat_natCast];refine g8 (fun i F r S=>F=kw (t+1) i/\S=u::(T++aB i (.lst [])) /\ ∃x,r=[x]) (gP 0 m) 0 [] _ _ ⟨rfl,by simp,_,rfl⟩ (fun _ _ _ _ _=>rfl) ?_ ?_
  ·rintro i d y F r S ⟨rfl,rfl,x,rfl⟩;walk_at"w";rw[bu];refine⟨?_,?_,_,rfl⟩
   ·rw[pd,N,lR1]
    congr 3
    lia
   ·rw[List.replicate_succ']
  ·rintro xs r S ⟨e,rfl,_⟩;rw[cf,bu,eg]at e;subst e;rw[bu,eg];walk_at"w";rw[ly];refine⟨c8 (by lia),_,xR N Y,?_,rfl⟩;simp[N]
 rintro r S ⟨U0,w0,rfl,rfl⟩;refine dy (fun r S=>∃E k f U l p g,WN t m T E U/\WE m E k (m-1)/\Hnd f (n+20)/\r=[some (.ref 0),some (.int a),some (.int m),some (.int (k:Nat)),some (.ref (t+m+1)),l,p,g,none,none]/\S=f::U) ?_ ?_
 ·walk_at"w";refine⟨uN (by decide) (by decide),fB (by lia),?_⟩;refine dP (fun i r S=>i<=m-1 /\ ∃E f U l p g,WN t m T E U/\WE m E i i/\(∀j z,i+1<=j->E[j]?=some z->z=[])/\Hnd f (n+1+i)/\r=[some (.ref 0),some (.int a),some (.int m),some (.int (i:Nat)),some (.ref (t+m+1)),l,p,g,none,none]/\S=f::U) _ 0 _ _ ?_ (fun _ _ _ _=>rfl) ?_ ?_
  ·refine⟨by lia,_,u,U0,none,none,none,w0,xT m,fun j z _ H=>?_,A,rfl,rfl⟩;rw[aE]at H;split at H
   ·cases H;rfl
   ·cases H
  ·rintro i d y r S ⟨hi,E,f,U,l,p,g,w,v,X,b,rfl,rfl⟩;have q:=(gE1.mp y).1;rw [eg] at q;have I:d = .int ((i+1:Nat):Int):=by
    rw[qz,gP1,cA q]at y;simp at y;rw[<- y]
    push_cast
    congr 1
    lia
   subst I;rw[bu]at *
   walk_at"w";refine DW w v b (by lia) (by lia) (by lia) X fun P o' M x6' O V L s J=>?_;exact⟨rfl,by lia,P,o',M,_,_,_,V,L,J,s.more (by lia),rfl,rfl⟩
  ·rintro r S ⟨hi,E,f,U,l,p,g,w,v,X,b,rfl,rfl⟩;rw[eg,bu]at *
   have e:((m:Int)-1).toNat=m-1:=by lia
   rw[e]at v b ⊢;exact⟨rfl,E,m-1,f,U,l,p,g,w,v,b.more (by lia),rfl,rfl⟩
 rintro r S ⟨E,k,f,U,l,p,g,w,v,b,rfl,rfl⟩;refine dy (fun r S=>∃E k f U l p g C B,WN t m T E U/\WE m E k (m-1)/\Hnd f (n+50)/\r=[some (.ref 0),some (.int a),some (.int m),some (.int (k:Nat)),some (.ref (t+m+1)),l,p,g,C,B]/\S=f::U) ?_ ?_
 ·walk_at"w";refine eZ b (by lia) (by lia) (by lia) fun c o3 K hc=>?_;walk_at"w";refine⟨fB (by lia),?_⟩;rw[Int.toNat_natCast];refine dP (fun i r S=>i<=c /\ ∃E k f U l p g C B,WN t m T E U/\WE m E k (m-1)/\Hnd f (n+21+2*i)/\r=[some (.ref 0),some (.int a),some (.int m),some (.int (k:Nat)),some (.ref (t+m+1)),l,p,g,C,B]/\S=f::U) _ 0 _ _ ⟨by lia,E,k,o3,U,l,p,g,none,none,w,v,K,rfl,rfl⟩ (fun _ _ _ _=>rfl) ?_ ?_
  ·rintro i d y r S ⟨hi,E,k,f,U,l,p,g,C,B,w,v,b,rfl,rfl⟩;have q:=(gE1.mp y).1;rw[eg]at q;rw[bu]at *
   walk_at"w";refine Fa w v b (by lia) G (by lia) fun P k' o' M O x9' V L s=>?_;exact⟨rfl,by lia,P,k',o',M,_,_,_,_,_,V,L,s.more (by lia),rfl,rfl⟩
  ·rintro r S ⟨hi,E,k,f,U,l,p,g,C,B,w,v,b,rfl,rfl⟩;rw[eg,bu]at b;exact⟨rfl,E,k,f,U,_,_,_,_,_,w,v,b.more (by lia),rfl,rfl⟩
 rintro r S ⟨E,k,f,U,l,p,g,C,B,w,v,b,rfl,rfl⟩;walk_at"w";refine Ag w v b (by lia) (by lia) fun R o' sh s=>?_;exact⟨webD (kU R),o',U.drop t,by rw[<- w.split],dI _,s.und,h m _ o' G Z (A1 v sh) (s.more (by lia))⟩
theorem DE{m:FA}{r:Ev}{S S1:Sto}{k:Nat}{Q:D×Sto->Prop}(h:m r S=some ([.int k],S1))(hk:k<=1000)(q:Q (.ref S1.length,S1++[.lst (gP 0 k)])):W (w1 m r S) Q:=by
 refine W.of ?_ q;unfold w1;rw[h,oS1];dsimp only;have:mG 0 (k:Int)=true:=by
  unfold mG;simp only[bA1,decide_eq_true_eq];lia
 rw[if_pos this,Int.toNat_natCast]
theorem BR{o:Ob}{n a:Nat}{T:Sto}{Q:D×Sto->Prop}(ho:Hnd o n)(hn:n<=2^42)(hc:a<=8)(q:∀u o',u.Perm (List.range a)->Hnd o' (n+a)->Q (.ref (T.length+2),o'::(T++[.lst [],.lst (nmD u)]))):W (cY 2 fw [.ref 0,.int a] (o::T)) Q:=by
 refine tQ rfl rfl ?_;unfold fw;refine kn ?_;unfold lT;have l:∀(o:Ob) (X:Ob) (Y:Sto),(o::(T++X::Y))[T.length+1]?=some X:=fun o X Y=>by rw[gC1,c6];rfl
 refine dy (fun r S=>S=o::(T++[.lst (nmD (List.range a))])/\r=[some (.ref 0),some (.int a),some (.ref (T.length+1))]) ?_ ?_
 ·unfold dk;rw[cX];refine DE (k:=a) (S1:=o::T) rfl (by lia) ?_;rw[kH];walk_at"w";exact⟨rfl,trivial⟩
 rintro r S ⟨rfl,rfl⟩;walk_at"w";refine⟨fB (by lia),?_⟩;rw[Int.toNat_natCast];refine g8 (fun i j r S=>∃o' f c x,i<=a/\(f++c).Perm (List.range a)/\f.length=i/\j=nmD f/\Hnd o' (n+i)/\S=o'::(T++[.lst (nmD c)])/\r=[x,some (.ref (T.length+1)),some (.ref 0)]) (gP 0 a) 0 [] _ _ ⟨o,[],List.range a,_,by lia,.refl _,rfl,rfl,ho,rfl,rfl⟩ (fun _ _ _ _ _=>rfl) ?_ ?_
 ·rintro i d s j r S ⟨o',f,c,x,hi,h,t,rfl,g,rfl,rfl⟩;have p:=(gE1.mp s).1;rw[eg]at p;have b:=h.length_eq;rw[lA1,bY]at b;rw[bu]at *
  walk_at"w";refine fv ?_;walk_at"w";refine⟨T.length+1,nmD c,rfl,l _ _ _,?_⟩;refine dz (l _ _ _) ?_;walk_at"w";rw[dD];refine eZ g (by lia) (by lia) (by lia) fun d w m s=>?_;obtain⟨y,v⟩:∃y,c[d]?=some y:=⟨_,gG1 (by lia)⟩;walk_at"w";refine uR (l _ _ _) (zg v) (by lia) ?_;refine⟨w,f++[y],c.eraseIdx d,_,by lia,sv h v,by rw[lA1,t];rfl,i7,m.more (by lia),?_,rfl⟩;rw[b0,cv _ _ (nR1 _),b5,sI];rfl
 ·rintro xs r S ⟨o',f,c,x,hi,h,t,e,g,rfl,rfl⟩;rw[eg,bu]at *
  rw[cf]at e;subst e;have b:=h.length_eq;rw[lA1,bY]at b;have:c=[]:=List.eq_nil_of_length_eq_zero (by lia);subst this;rw[ay]at h;walk_at"w";refine⟨c8 (by rw[dD];lia),?_⟩;unfold gc;rw[if_neg (by simp[D.und])];exact q f o' h g
def tZ(r k d:Nat):TK:=.tup [.int r,.int k,.int d]
def ud(r k d:Nat):D:=.tup [.int r,.int k,.int d]
theorem FR{r k d:Nat}:ky (ud r k d)=some (tZ r k d):=rfl
theorem A5{r k d a k' d':Nat}(h:tZ r k d=tZ a k' d'):r=a/\k=k'/\d=d':=by
 simp[tZ]at h;lia
def mS(w:c5)(cp:Nat)(F:List (TK×D))(r k d:Nat):Prop:=∃e k',At w r d e/\k'<cp/\df F (tZ r k d)=some (ud e.1 k' e.2)
theorem mS.put{w:c5}{c r k d a e b k1:Nat}{e0:Nat×Nat}{F:List (TK×D)}(ha:At w a b e0)(hk:k1<c)(h:mS w c F r k d\/(r=a/\k=e/\d=b)):mS w c (fW F (tZ a e b) (ud e0.1 k1 e0.2)) r k d:=by
 unfold mS;rw[jT];by_cases z:tZ r k d=tZ a e b
 ·obtain⟨rfl,rfl,rfl⟩:=A5 z;exact⟨e0,k1,ha,hk,if_pos rfl⟩
 ·rw[if_neg z];rcases h with h|⟨rfl,rfl,rfl⟩
  ·exact h
  ·exact(z rfl).elim
theorem ID{m:FA}{r:Ev}{S:Sto}{Q:wx×Sto->Prop}(h:W (m r S) fun p=>∃n xs,p.1=[.ref n]/\p.2[n]?=some (.lst xs)/\Q (⟨rS 0 xs,[(n,xs)]⟩,p.2)):W (mK m r S) Q:=by
 obtain⟨⟨a,b⟩,e,n,xs,h1,h2,q⟩:=h;dsimp only at h1 h2 q;subst h1;refine W.of (x:=(⟨rS 0 xs,[(n,xs)]⟩,b)) ?_ q;simp only[mK,e,oS1,fU h2,nk h2]
theorem Bb{T G:Sto}{o:Ob}{n cp r d:Nat}{w:c5}{e:Nat×Nat}{F:List (TK×D)}{C x5 x9 x10 m g p l:Option D}{Q:Fl×Ev×Sto->Prop}(ho:Hnd o n)(hn:n<=2^42)(hc:cp<=4)(ha:At w r d e)(hb:At w e.1 e.2 (r,d))(hF:F.length<900)(q:∀f G' o' E A,Hnd o' (n+4)->(∀a k b,mS w cp F a k b->mS w cp f a k b)->(∀k,k<cp->mS w cp f r k d/\mS w cp f e.1 k e.2)->f.length<=F.length+8 ->
   Q (.nx,[some (.ref 0),C,some (.int cp),some (.ref (T.length+1)),some (.int r),x5,some (.int d),some (.int e.1),some (.int e.2),E,A,m,g,p,l],o'::(T++dO f::G'))):
  W (ee (mK (cT (mN (cY 2 fw) (cT (mV 0) (cT (mV 2) cU))) cU)) (gT 2 (eu (gN 9) (eu (gN 10) hB))) ie [some (.ref 0),C,some (.int cp),some (.ref (T.length+1)),some (.int r),x5,some (.int d),some (.int e.1),some (.int e.2),x9,x10,m,g,p,l] (o::(T++dO F::G))) Q:=by
 unfold ee;rw[cX];refine ID ?_;simp(implicitDefEqProofs:=false) only[cT,mN,mV,ci,gC1,cU,oS1,cX,da];refine BR ho hn (by lia) fun j o' J O=>?_;have z:=J.length_eq;rw[bY]at z;have M:∀c x:Nat,j[c]?=some x->x<cp:=fun c x h=>ah.mp (J.mem_iff.mp (gM1 h));walk_at"w";have eS:o'::(T++dO F::(G++[Ob.lst [],Ob.lst (nmD j)]))=o'::((T++dO F::G)++[Ob.lst [],Ob.lst (nmD j)]):=by simp
 have H:∀(f:List (TK×D)),(o'::(T++dO f::(G++[Ob.lst [],Ob.lst (nmD j)])))[T.length+(G.length+1)+2]?=some (.lst (nmD j)):=fun f=>by
  rw[show T.length+(G.length+1)+2=T.length+(G.length+1+1)+1 by lia,gC1,dA,gC1,dA];rfl
 refine⟨T.length+(G.length+1)+2,nmD j,by first|rfl|(congr 3;lia),by first|exact H F|(rw[<- H F];congr 1;lia),?_⟩;have P:∀(Z:Ob) (Y:Sto),(o'::(T++Z::Y))[T.length+1]?=some Z:=fun Z Y=>by rw[gC1,c6];rfl
 have U:∀(Z V:Ob) (Y:Sto),(o'::(T++Z::Y)).set (T.length+1) V=o'::(T++V::Y):=fun Z V Y=>by
  rw[b0,cv _ _ (nR1 _),b5];rfl
 refine dP (fun i t S=>∃f B s,i<=cp/\(∀a k b,mS w cp F a k b->mS w cp f a k b)/\(∀c,c<i->mS w cp f r c d)/\(∀c x:Nat,c<i->j[c]?=some x->mS w cp f e.1 x e.2)/\f.length<=F.length+2*i/\S=o'::(T++dO f::(G++[Ob.lst [],Ob.lst (nmD j)]))/\t=[some (.ref 0),C,some (.int cp),some (.ref (T.length+1)),some (.int r),x5,some (.int d),some (.int e.1),some (.int e.2),B,s,m,g,p,l]) _ 0 _ _ ⟨F,_,_,by lia,fun _ _ _ h=>h,fun c h=>by lia,fun c x h=>by lia,by lia,rfl,rfl⟩ ?_ ?_ ?_
 ·rintro i t S ⟨f,B,s,_,_,_,_,_,rfl,_⟩;exact d3 (H f)
 ·rintro i dd R t S ⟨f,B,s,hi,mono,L,K,hl,rfl,rfl⟩;rw[fb,nmD,gP1,Option.map_map]at R;obtain⟨x,I,rfl⟩:=oM1.mp R;have X:=(gE1.mp I).1;have u:=M i x I;rw[bu]at *
  unfold Function.comp;walk_at"w";unfold ie;refine dy (fun t S=>S=o'::(T++dO (fW f (tZ r i d) (ud e.1 x e.2))::(G++[Ob.lst [],Ob.lst (nmD j)]))/\t=[some (.ref 0),C,some (.int cp),some (.ref (T.length+1)),some (.int r),x5,some (.int d),some (.int e.1),some (.int e.2),some (.int (i:Nat)),some (.int (x:Nat)),m,g,p,l]) ?_ ?_
  ·walk_at"w";refine AC (key:=ud r i d) (v:=ud e.1 x e.2) (F:=f) (P _ _) FR (by lia) ?_;walk_at"w";exact⟨U _ _ _,trivial⟩
  rintro t S ⟨rfl,rfl⟩;have pl:=ql (k:=tZ r i d) (v:=ud e.1 x e.2) (a:=f);have pl2:=ql (k:=tZ e.1 x e.2) (v:=ud r i d) (a:=fW f (tZ r i d) (ud e.1 x e.2));walk_at"w";refine AC (key:=ud e.1 x e.2) (v:=ud r i d) (F:=fW f (tZ r i d) (ud e.1 x e.2)) (P _ _) FR (by lia) ?_;refine⟨_,_,_,by lia,fun a k b h=>?_,fun c h=>?_,fun c y h N=>?_,by lia,U _ _ _,rfl⟩
  ·exact mS.put (e0:=(r,d)) (k1:=i) hb (by lia) (.inl (mS.put ha u (.inl (mono a k b h))))
  ·refine mS.put (e0:=(r,d)) (k1:=i) hb (by lia) (.inl (mS.put ha u ?_));rcases cB.mp h with h|rfl
   ·exact .inl (L c h)
   ·exact .inr ⟨rfl,rfl,rfl⟩
  ·refine mS.put (e0:=(r,d)) (k1:=i) hb (by lia) ?_;rcases cB.mp h with h|rfl
   ·exact .inl (mS.put ha u (.inl (K c y h N)))
   ·rw[I]at N;cases N;exact .inr ⟨rfl,rfl,rfl⟩
 ·rintro t S ⟨f,B,s,hi,mono,L,K,hl,rfl,rfl⟩;rw[e9,dD,bu]at *
  refine q f _ o' _ _ (O.more (by lia)) mono (fun k hk=>⟨L k (by lia),?_⟩) (by lia);obtain⟨c,hc⟩:=aX (J.mem_iff.mpr (ah.mpr hk));exact K c k (gE1.mp hc).1 hc
def zJ(a b:Nat×Nat):Bool:=decide (a.1<b.1)||(decide (a.1=b.1)&&decide (a.2<b.2))
theorem F2{a b:Nat×Nat}{S:Sto}:gLt (pD a) (pD b) S=some (.bl (zJ a b),S):=by
 have d:∀(n x y:Nat),eqN S (n+1) (.int x) (.int y)=some (decide (x=y)):=fun n x y=>by
  show some ((x:Int) == (y:Int))=_
  congr 1
  rw[bx,beq_iff_eq,decide_eq_true_eq];lia
 have c:∀(n x y:Nat),Dp S (n+1) (.int x) (.int y)=some (decide (x<y)):=fun n x y=>by
  show some (decide ((x:Int)<(y:Int)))=_
  congr 1
  rw[bx,decide_eq_true_eq,decide_eq_true_eq];lia
 unfold gLt dr;rw[show(60:Nat)=58+1+1 from rfl,Dp];simp only[pD,JC,dj,if_true,HS,d,c,oS1];unfold zJ;by_cases h1:a.1=b.1
 ·by_cases h2:a.2=b.2
  ·simp[h1,h2]
  ·simp[h1,h2]
 ·simp[h1]
theorem Cq{a b:Nat×Nat}(h:zJ a b=false)(c:b≠a):zJ b a=true:=by
 unfold zJ at *
 obtain⟨e,d⟩:=a;obtain⟨b1,b2⟩:=b;simp at *
 lia
theorem few:∀{N:Nat} {l:List Nat},l.Nodup->(∀x∈l,x<N)->l.length<=N
 |0,l,_,h=>by
  cases l with
  |nil=>simp
  |cons a l=>have:=h a mS1;lia
 |N+1,l,n,h=>by
  by_cases d:N∈l
  ·have h1:=few (N:=N) (l:=l.erase N) (n.erase N) fun x c=>by
    have b:=(List.Nodup.mem_erase_iff n).mp c;have:=h x b.2;have:=b.1;lia
   have:=List.length_erase_of_mem d;lia
  ·have:=few (N:=N) (l:=l) n fun x c=>by
    have h1:=h x c;have:x≠N:=fun z=>d (z ▸ c);lia
   lia
theorem JK{A B:Nat}{l:List (Nat×Nat)}(n:l.Nodup)(h:∀x∈l,x.1<A/\x.2<B):l.length<=A*B:=by
 have h1:=few (N:=A*B) (l:=l.map fun x=>x.1*B+x.2) ?_ ?_
 ·simpa using h1
 ·rw[List.nodup_iff_pairwise_ne,List.pairwise_map];refine List.Pairwise.imp_of_mem ?_ n;intro x y a g b e;apply b;have h1:=h x a;have h2:=h y g;have ex:x.1=(x.1*B+x.2)/B:=by rw[Nat.mul_comm,Nat.mul_add_div (by lia),Nat.div_eq_of_lt h1.2,Nat.add_zero]
  have f:y.1=(y.1*B+y.2)/B:=by rw[Nat.mul_comm,Nat.mul_add_div (by lia),Nat.div_eq_of_lt h2.2,Nat.add_zero]
  have c:x.1=y.1:=by rw[ex,f,e]
  rw[c]at e;exact Prod.ext c (by lia)
 ·intro z d;obtain⟨x,a,rfl⟩:=bQ.mp d;have h1:=h x a;have:(x.1+1)*B<=A*B:=Nat.mul_le_mul_right B h1.1;rw[Nat.add_mul]at this;lia
theorem xh{α:Type}[BEq α][LawfulBEq α]{l:List α}{x:α}(h:x∈l):∃j,l.findIdx? (· == x)=some j/\l[j]?=some x:=by
 cases e:l.findIdx? (· == x)with
 |none=>
  rw[List.findIdx?_eq_none_iff]at e;have:=e x h;simp at this
 |some j=>
  obtain⟨a,h1,_⟩:=bK.mp e;exact⟨j,rfl,by rw[gG1 a];simp at h1;rw[h1]⟩
theorem zO{S:Sto}{n:Nat}{x:Nat×Nat}:∀a:List (Nat×Nat),xD (eqN S (n+2)) (pD x) (a.map pD)=some (a.contains x)
 |[]=>rfl
 |y::a=>by
  rw[mP1,xD,rv,zO a,bN,show(y == x)=(x == y)from Bool.beq_comm];rfl
theorem C6{S:Sto}{n:Nat}{row:List (Nat×Nat)}{x:Nat×Nat}{Q:D×Sto->Prop}(h:S[n]?=some (.lst (row.map pD)))(q:Q (.bl (!row.contains x),S)):W (eI (pD x) (.ref n) S) Q:=by
 refine W.of ?_ q;simp only[eI,h,g9,k9,fU h,oS1,dr,show(60:Nat)=58+2 from rfl,zO,oP1]
theorem wr{m:FE}{lo hi:FO}{r:Ev}{S:Sto}{xs:List D}{a b:Option Int}{Q:D×Sto->Prop}(hm:m r S=some (.tup xs,S))(c:lo r S=some (a,S))(d:hi r S=some (b,S))(q:Q (.tup (Mi.m8 xs a b),S)):W (mh m lo hi r S) Q:=by
 refine W.of ?_ q;unfold mh;rw[hm,oS1];dsimp only;rw[c,oS1];dsimp only;rw[d,oS1];simp only[yv,iS,oP1,bF1,if_false]
def J9(w:c5)(cp i j:Nat)(F:List (TK×D)):Prop:=∀r d e,At w r d e->zJ (r,d) e=true->(r<i\/(r=i/\d<j)) -> ∀k,k<cp->mS w cp F r k d/\mS w cp F e.1 k e.2
inductive AI (w:c5)(cp m n:Nat)(T:Sto):Nat->Ev->Sto->Prop
 |mk (i:Nat) (F:List (TK×D)) (G:Sto) (o':Ob) (x4 x5 x6 x7 x8 x9 x10:Option D) (hi:i<=m) (don:J9 w cp i 0 F) (hF:F.length<=32*i) (ho:Hnd o' (n+16*i)):AI w cp m n T i [some (.ref 0),some (webD w),some (.int cp),some (.ref (T.length+1)),x4,x5,x6,x7,x8,x9,x10,none,none,none,none] (o'::(T++dO F::G))
inductive AJ (w:c5)(cp n:Nat)(T:Sto)(i:Nat)(row:List (Nat×Nat)):Nat->Ev->Sto->Prop
 |mk (j:Nat) (F:List (TK×D)) (G:Sto) (o':Ob) (x6 x7 x8 x9 x10:Option D) (hj:j<=row.length) (don:J9 w cp i j F) (hF:F.length<=32*i+8*j) (ho:Hnd o' (n+16*i+4*j)):AJ w cp n T i row j [some (.ref 0),some (webD w),some (.int cp),some (.ref (T.length+1)),some (.int (i:Nat)),some (.tup (row.map pD)),x6,x7,x8,x9,x10,none,none,none,none] (o'::(T++dO F::G))
theorem uP{T:Sto}{o:Ob}{n m p:Nat}{w:c5}{Q:Fl×Ev×Sto->Prop}(hw:rJ m w)(hm:m<=8)(hc:p<=4)(ho:Hnd o n)(hn:n<=2^41)(q:∀F G o' O P H y A v s,Hnd o' (n+128)->(∀r d e k,At w r d e->k<p->mS w p F r k d) ->
   Q (.nx,[some (.ref 0),some (webD w),some (.int p),some (.ref (T.length+1)),O,P,H,y,A,v,s,none,none,none,none],o'::(T++dO F::G))):
  W (ee (mK (cT (mV 1) cU)) (gT 2 (eu (gN 4) (eu (gN 5) hB))) ic [some (.ref 0),some (webD w),some (.int p),some (.ref (T.length+1)),none,none,none,none,none,none,none,none,none,none,none] (o::(T++dO []::[]))) Q:=by
 unfold ee;rw[cX];refine kT (xs:=w.map fun l=>.tup (l.map pD)) rfl ?_;refine dP (AI w p m n T) _ 0 _ _ (.mk 0 [] [] o _ _ _ _ _ _ _ (aR _) (fun r d e h1 h2 M=>by lia) (by simp) ho) (fun _ _ _ _=>rfl) ?_ ?_
 ·rintro i dd u r S ⟨F,G,o',O,P,H,y,A,v,s,hi,c,R,g⟩;rw[fb,gP1,Option.map_map]at u;obtain⟨l,f,rfl⟩:=oM1.mp u;have J:=(gE1.mp f).1;rw[hw.len]at J;have Z:=hw.le i l f;rw[bu]at *
  unfold Function.comp;walk_at"w";unfold ic ee;rw[cX];refine kT (xs:=l.map pD) rfl ?_;refine dP (AJ w p n T i l) _ 0 _ _ (.mk 0 F G o' _ _ _ _ _ (aR _) c (by lia) (g.more (by lia))) (fun _ _ _ _=>rfl) ?_ ?_
  ·rintro j dd u r S ⟨F,G,o',H,y,A,v,s,hj,c,R,g⟩;rw[fb,gP1,Option.map_map]at u;obtain⟨e,N,rfl⟩:=oM1.mp u;have B:=(gE1.mp N).1;have V:At w i j e:=⟨l,f,N⟩;have I:=hw.back i j e V;rw[bu]at *
   unfold Function.comp pD;walk_at"w";unfold jP;have el:∀S,gLt (D.tup [D.int (i:Int),D.int (j:Int)]) (D.tup [D.int (e.1:Int),D.int (e.2:Int)]) S=some (.bl (zJ (i,j) e),S):=fun S=>F2 (a:=(i,j)) (b:=e);unfold eV;rw[cX];refine W.of (x:=(zJ (i,j) e,o'::(T++dO F::G))) ?_ ?_
   ·simp only[mB,m2,d6,cT,cU,mV,gC1,ci,cm,oP1,oS1,lC1,aO,b2,el,ck,if_pos (show 2<=cN by decide)]
   dsimp only;have U:∀F',(∀a k b,mS w p F a k b->mS w p F' a k b)->(zJ (i,j) e=true -> ∀k,k<p->mS w p F' i k j/\mS w p F' e.1 k e.2)->J9 w p i (j+1) F':=fun F' mono new r d e' h1 h2 M k K=>by
    by_cases hz:r=i/\d=j
    ·obtain⟨rfl,rfl⟩:=hz;obtain⟨C,t,L⟩:=h1;rw[f]at t;cases t;rw[N]at L;cases L;exact new h2 k K
    ·have:=c r d e' h1 h2 (by lia) k K;exact⟨mono _ _ _ this.1,mono _ _ _ this.2⟩
   cases hl:zJ (i,j) e with
   |false=>
    rw[if_neg (by decide)];exact da.mpr ⟨rfl,.mk _ F G o' _ _ _ _ _ B (U F (fun _ _ _ h=>h) (fun z=>by rw[hl]at z;cases z)) (by lia) (g.more (by lia))⟩
   |true=>
    rw[if_pos rfl];refine Bb (w:=w) g (by lia) hc V I.1 (by lia) fun F' G' o2 Y X h1 h2 M h4=>?_;exact⟨rfl,.mk _ F' G' o2 _ _ _ _ _ B (U F' h2 (fun _=>M)) (by lia) (h1.more (by lia))⟩
  ·rintro r S ⟨F,G,o',H,y,A,v,s,hj,c,R,g⟩;rw[e9,lM1,bu]at *
   refine⟨rfl,.mk _ F G o' _ _ _ _ _ _ _ J (fun r d e h1 h2 M=>c r d e h1 h2 ?_) (by lia) (g.more (by lia))⟩;rcases(show r<i\/r=i by lia)with h|rfl
   ·exact .inl h
   ·obtain⟨C,t,L⟩:=h1;rw[f]at t;cases t;exact .inr ⟨rfl,(gE1.mp L).1⟩
 ·rintro r S ⟨F,G,o',O,P,H,y,A,v,s,hi,c,R,g⟩;rw[e9,lM1,bu,hw.len]at *
  refine q F G o' _ _ _ _ _ _ _ (g.more (by lia)) fun r d e k h K=>?_;have E:∀r d e,At w r d e->r<m:=fun r d e h=>by
   obtain⟨l,t,_⟩:=h;rw[<- hw.len];exact(gE1.mp t).1
  have I:=hw.back r d e h;cases hl:zJ (r,d) e with
  |true=>exact(c r d e h hl (.inl (E r d e h)) k K).1
  |false=>exact(c e.1 e.2 (r,d) I.1 (Cq hl I.2) (.inl (E _ _ _ I.1)) k K).2
def il(F:List (TK×D))(x:Nat×Nat)(d:Nat):(Nat×Nat)×Nat:=match df F (tZ x.1 x.2 d)with
 |some (.tup [.int a,.int b,.int c])=>((a.toNat,b.toNat),c.toNat)
 |_=>((0,0),0)
def oB(w:c5)(r:Nat):Nat:=(w.getD r []).length
def B1(p:(Nat×Nat)×Nat):D:=ud p.1.1 p.1.2 p.2
structure MI (m cp:Nat)(met:List (Nat×Nat)):Prop where
 nd:met.Nodup
 inn:∀x∈met,x.1<m/\x.2<cp
theorem MI.few{m a:Nat}{met:List (Nat×Nat)}(i:MI m a met)(h:m*a<=8):met.length<=8:=ai (JK i.nd i.inn) h
def All(w:c5)(cp:Nat)(F:List (TK×D)):Prop:=∀r d e k,At w r d e->k<cp->mS w cp F r k d
theorem za{w:c5}{m cp d:Nat}{F:List (TK×D)}{x:Nat×Nat}(hw:rJ m w)(all:All w cp F)(hx:x.1<m/\x.2<cp)(hd:d<oB w x.1):
  df F (tZ x.1 x.2 d)=some (B1 (il F x d))/\(il F x d).1.1<m/\(il F x d).1.2<cp:=by
 obtain⟨row,a⟩:∃row,w[x.1]?=some row:=⟨_,gG1 (by rw[hw.len];exact hx.1)⟩;have b:d<row.length:=by
  unfold oB at hd;rw[bo,a,bL]at hd;exact hd
 obtain⟨e,f,h1,h2,c⟩:=all x.1 d row[d] x.2 ⟨row,a,gG1 b⟩ hx.2;have g:il F x d=((e.1,f),e.2):=by
  unfold il;rw[c];simp[ud]
 rw[g];exact⟨c,hw.to x.1 d e h1,h2⟩
def Cl(w:c5)(F:List (TK×D))(met:List (Nat×Nat))(i j:Nat):Prop:=∀a d x,met[a]?=some x->d<oB w x.1->(a<i\/(a=i/\d<j))->(il F x d).1∈met
def Jn(w:c5)(F:List (TK×D))(met:List (Nat×Nat)):Prop:=∀b y,1<=b->met[b]?=some y -> ∃a d x,a<b/\met[a]?=some x/\d<oB w x.1/\(il F x d).1=y
theorem Jn.snoc{w:c5}{F:List (TK×D)}{met:List (Nat×Nat)}{a d:Nat}{x:Nat×Nat}(j:Jn w F met)(ha:met[a]?=some x)(hd:d<oB w x.1):Jn w F (met++[(il F x d).1]):=by
 have c:=(gE1.mp ha).1;intro b y l f;by_cases g:b<met.length
 ·rw[gL1 g]at f;obtain⟨n,h,k,i,p,m,o⟩:=j b y l f;exact⟨n,h,k,i,by rw[gL1 (by lia)];exact p,m,o⟩
 ·have:=(gE1.mp f).1;rw[lA1,aJ]at this;have e:b=met.length:=by lia
  subst e;rw[cx]at f;cases f;exact⟨a,d,x,c,by rw[gL1 c];exact ha,hd,rfl⟩
theorem Ie{S:Sto}{n:Nat}{F:List (TK×D)}{x:Nat×Nat}{d:Nat}(h:S[n]?=some (dO F))(a:df F (tZ x.1 x.2 d)=some (B1 (il F x d))):c7 (.ref n) (ud x.1 x.2 d) S=some (B1 (il F x d),S):=by
 obtain⟨p,e,rfl⟩:=GA (Q:=fun p=>p=(B1 (il F x d),S)) h FR a rfl;exact e
theorem Iz{f:FN}{a b:FE}{r:Ev}{S:Sto}{Q:D×Sto->Prop}(h:W (a r S) fun p=>W (b r p.2) fun q=>W (f [p.1,q.1] q.2) Q):W (m2 f a b r S) Q:=by
 unfold m2;rw[cX];exact h.mono fun p c=>by rw[cX];exact c
theorem JQ{p:(Nat×Nat)×Nat}:D.tup (Mi.m8 [.int p.1.1,.int p.1.2,.int p.2] none (some 2))=pD p.1:=rfl
theorem HH{V:Sto}{o:Ob}{n m s:Nat}{w:c5}{F:List (TK×D)}{x4 x5 x6 x7 x8 x9 x10 v u:Option D}{Q:Fl×Ev×Sto->Prop}(hw:rJ m w)(hm0:0<m)(T:0<s)(h8:m*s<=8)(all:All w s F)(hV:V[n]? = some (dO F))(q:∀met O G N U,MI m s met->0<met.length->Cl w F met met.length 0->Jn w F met->Q (.nx,[some (.ref 0),some (webD w),some (.int s),some (.ref (n+1)),O,x5,G,x7,x8,N,x10,some (.ref (V.length+1)),U,v,u],o::(V++[.lst (met.map pD)]))):
  W (tY ib ia 100000 [some (.ref 0),some (webD w),some (.int s),some (.ref (n+1)),x4,x5,x6,x7,x8,x9,x10,some (.ref (V.length+1)),some (.int ((0:Nat):Int)),v,u] (o::(V++[.lst ([(0,0)].map pD)]))) Q:=by
 have K:∀(X:Ob),(o::(V++[X]))[V.length+1]?=some X:=fun X=>by rw[gC1,c6];rfl
 have gs:∀(Y:Sto),(o::(V++Y))[n+1]?=some (dO F):=fun Y=>by rw[gC1,gL1 (gE1.mp hV).1];exact hV
 refine u6 (fun k r S=>∃met O G N,MI m s met/\k<=met.length/\0<met.length/\Cl w F met k 0/\Jn w F met/\S=o::(V++[.lst (met.map pD)])/\r=[some (.ref 0),some (webD w),some (.int s),some (.ref (n+1)),O,x5,G,x7,x8,N,x10,some (.ref (V.length+1)),some (.int (k:Nat)),v,u]) 8 ?_ 100000 0 _ _ (by lia) ⟨[(0,0)],_,_,_,⟨by simp,fun x I=>by simp at I;subst I;exact⟨hm0,T⟩⟩,by lia,by simp,fun a d x _ _ h=>by lia,fun b y h1 h2=>by have:=(gE1.mp h2).1;simp at this;lia,rfl,rfl⟩;rintro k r S ⟨met,O,G,N,M,hk,hp,cl,jn,rfl,rfl⟩;have hf:=M.few h8;unfold ib;walk_at"w";refine dz (K _) ?_;walk_at"w";rw[lM1];by_cases Z:k<met.length
 ·rw[if_pos (by rw[decide_eq_true_eq];lia)];refine⟨by lia,?_⟩;obtain⟨x,I⟩:∃x,met[k]?=some x:=⟨_,gG1 Z⟩;have L:=M.inn x (gM1 I);obtain⟨row,C⟩:∃row,w[x.1]?=some row:=⟨_,gG1 (by rw[hw.len];exact L.1)⟩;have B:oB w x.1=row.length:=by unfold oB;rw[bo,C];rfl
  have hr4:=hw.le _ row C;unfold ia;refine dy (fun r S=>S=o::(V++[.lst (met.map pD)])/\r=[some (.ref 0),some (webD w),some (.int s),some (.ref (n+1)),some (.int (x.1:Nat)),x5,G,x7,x8,some (.int (x.2:Nat)),x10,some (.ref (V.length+1)),some (.int (k:Nat)),v,u]) ?_ ?_
  ·walk_at"w";refine gz (i:=k) (xs:=met.map pD) (x:=pD x) (K _) (by rw[gP1,I];rfl) ?_;rw[pD];walk_at"w"
  rintro r S ⟨rfl,rfl⟩;refine dy (fun r S=>∃c G,c[k]?=some x/\MI m s c/\Cl w F c k row.length/\Jn w F c/\S=o::(V++[.lst (c.map pD)])/\r=[some (.ref 0),some (webD w),some (.int s),some (.ref (n+1)),some (.int (x.1:Nat)),x5,G,x7,x8,some (.int (x.2:Nat)),x10,some (.ref (V.length+1)),some (.int (k:Nat)),v,u]) ?_ ?_
  ·walk_at"w";unfold webD;refine jm (i:=x.1) (x:=.tup (row.map pD)) (by rw[gP1,C];rfl) ?_;walk_at"w";rw[lM1];refine⟨fB (by lia),?_⟩;rw[kH,Int.toNat_natCast];refine dP (fun j r S=>∃c G,j<=row.length/\c[k]?=some x/\MI m s c/\Cl w F c k j/\Jn w F c/\S=o::(V++[.lst (c.map pD)])/\r=[some (.ref 0),some (webD w),some (.int s),some (.ref (n+1)),some (.int (x.1:Nat)),x5,G,x7,x8,some (.int (x.2:Nat)),x10,some (.ref (V.length+1)),some (.int (k:Nat)),v,u]) _ 0 _ _ ⟨met,_,by lia,I,M,cl,jn,rfl,rfl⟩ (fun _ _ _ _=>rfl) ?_ ?_
   ·rintro j dd R r S ⟨c,z6,hj,f,l,A,t,rfl,rfl⟩;have E:=(gE1.mp R).1;rw[lM1,bY]at E;rw[gP1,cA E]at R;cases R;rw[bu]at *
    have hf':=l.few h8;obtain⟨n1,n2,n3⟩:=za hw all L (d:=j) (by rw[B];exact E);have sl:∀(r:Ev) (S:Sto) (P:D×Sto->Prop),S[n+1]?=some (dO F)->r[3]?=some (some (.ref (n+1)))->r[4]?=some (some (.int (x.1:Nat)))->r[9]?=some (some (.int (x.2:Nat)))->r[6]?=some (some (.int (j:Nat)))->P (pD (il F x j).1,S)->W (mh (m2 (b2 c7) (mV 3) (d6 (cT (mV 4) (cT (mV 9) (cT (mV 6) cU))))) jh (gQ (mC (D.int (2)))) r S) P:=by
     intro r S P hS h3 h4 h9 h6 p;refine wr (xs:=[.int (il F x j).1.1,.int (il F x j).1.2,.int (il F x j).2]) (a:=none) (b:=some 2) ?_ rfl rfl p;have:=Ie hS n1;simp only[m2,d6,cT,cU,mV,h3,h4,h9,h6,cm,oP1,oS1,lC1,aO,b2,ck,if_pos (show 3<=cN by decide)];exact this
    walk_at"w";unfold jO eV mB;rw[cX,cX];refine Iz ?_;refine sl _ _ _ (gs _) rfl rfl rfl rfl ?_;walk_at"w";refine C6 (K _) ?_;walk_at"w";have step:∀g:List (Nat×Nat),(∀a,a<=k->g[a]?=c[a]?)->(∀z∈c,z∈g)->(il F x j).1∈g->Cl w F g k (j+1):=fun g hg hs hm a d y h1 h2 h3=>by
     rw[hg a (by lia)]at h1;by_cases hz:a=k/\d=j
     ·obtain⟨rfl,rfl⟩:=hz;rw[f]at h1;cases h1;exact hm
     ·exact hs _ (A a d y h1 h2 (by lia))
    have hkl:=(gE1.mp f).1;by_cases H:(il F x j).1∈c
    ·rw[if_neg (by simpa using H)];exact⟨c,_,by lia,f,l,step c (fun _ _=>rfl) (fun _ h=>h) H,t,rfl,rfl⟩
    ·rw[if_pos (by simpa using H)];refine fv ?_;walk_at"w";refine⟨V.length+1,c.map pD,rfl,K _,?_⟩;refine sl _ _ _ (gs _) rfl rfl rfl rfl ?_;walk_at"w";refine(iu (K _)).mpr ⟨c8 (by rw[lM1];lia),?_⟩;refine⟨c++[(il F x j).1],_,by lia,by rw[gL1 hkl];exact f,⟨?_,?_⟩,step _ (fun a ha=>gL1 (by lia)) (fun z h=>ao _ h) (by simp),t.snoc f (by rw[B];exact E),?_,rfl⟩
     ·refine bb.mpr ⟨l.nd,by simp,fun a ha b hb e=>?_⟩;rw[bU]at hb;exact H (by rw[<- hb,<- e];exact ha)
     ·intro y J;rcases am.mp J with J|J
      ·exact l.inn y J
      ·rw[bU]at J;subst J;exact⟨n2,n3⟩
     ·rw[b0,cv _ _ (nR1 _),b5,b7];rfl
   ·rintro r S ⟨c,z6,hj,f,l,A,t,rfl,rfl⟩;rw[lM1,bY,bu]at *
    exact⟨rfl,c,_,f,l,A,t,rfl,rfl⟩
  rintro r S ⟨c,z6,f,l,A,t,rfl,rfl⟩;have hlt':=(gE1.mp f).1;walk_at"w";refine⟨c,_,_,_,l,by lia,by lia,fun a d y h1 h2 h3=>A a d y h1 h2 ?_,t,rfl,by push_cast;rfl⟩;rcases(show a<k\/a=k by lia)with h|rfl
  ·exact .inl h
  ·rw[f]at h1;cases h1;exact .inr ⟨rfl,by rw[<- B];exact h2⟩
 ·rw[if_neg (by rw[decide_eq_true_eq];lia)];have e:k=met.length:=by lia
  subst e;exact q met _ _ _ _ M hp cl jn
def AQ(met:List (Nat×Nat))(y:Nat×Nat):Nat:=(met.findIdx? (· == y)).getD 0
def si(w:c5)(F:List (TK×D))(met:List (Nat×Nat))(x:Nat×Nat):List (Nat×Nat):=(List.range (oB w x.1)).map fun d=>(AQ met (il F x d).1,(il F x d).2)
def t3(w:c5)(F:List (TK×D))(met:List (Nat×Nat)):c5:=met.map (si w F met)
theorem uA{met:List (Nat×Nat)}{y:Nat×Nat}(h:y∈met):met.findIdx? (· == y)=some (AQ met y)/\met[AQ met y]?=some y:=by
 obtain⟨j,h1,h2⟩:=xh h;unfold AQ;rw[h1];exact⟨rfl,h2⟩
theorem Ax{w:c5}{F:List (TK×D)}{met:List (Nat×Nat)}{r d:Nat}{e:Nat×Nat}:At (t3 w F met) r d e ↔ ∃x,met[r]?=some x/\d<oB w x.1/\e=(AQ met (il F x d).1,(il F x d).2):=by
 unfold At t3;rw[gP1];constructor
 ·rintro⟨f,h1,h2⟩;obtain⟨x,c,rfl⟩:=oM1.mp h1;unfold si at h2;rw[gP1]at h2;obtain⟨g,b,rfl⟩:=oM1.mp h2;have a:=(gE1.mp b).1;rw[bY]at a;rw[cA a]at b;cases b;exact⟨x,c,a,rfl⟩
 ·rintro⟨x,h1,h2,rfl⟩;refine⟨si w F met x,by rw[h1];rfl,?_⟩;unfold si;rw[gP1,cA h2];rfl
theorem Gb{m:Nat}{w:c5}(hw:rJ m w)(r:Nat):oB w r<=4:=by
 unfold oB;rw[bo];cases h:w[r]? with
 |none=>simp
 |some a=>exact hw.le r a h
theorem xS{m:Nat}{w:c5}{F:List (TK×D)}{met:List (Nat×Nat)}(hw:rJ m w)(g:met.Nodup)(q:Cl w F met met.length 0)(n:Jn w F met):WebJ met.length (t3 w F met):=by
 refine⟨by unfold t3;rw[lM1],fun i p h=>?_,fun r d e h=>?_,fun j h1 h2=>?_⟩
 ·unfold t3 at h;rw[gP1]at h;obtain⟨x,_,rfl⟩:=oM1.mp h;unfold si;rw[lM1,bY];exact Gb hw _
 ·obtain⟨x,h1,h2,rfl⟩:=Ax.mp h;have:=(uA (q r d x h1 h2 (.inl (gE1.mp h1).1))).2;exact(gE1.mp this).1
 ·obtain⟨y,b⟩:∃y,met[j]?=some y:=⟨_,gG1 h2⟩;obtain⟨a,d,x,k,t,o,s⟩:=n j y h1 b;refine⟨a,d,_,k,Ax.mpr ⟨x,t,o,rfl⟩,?_⟩;dsimp only;rw[s];have f:=(uA (gM1 b)).2;obtain⟨v,l⟩:=gE1.mp f;obtain⟨u,c⟩:=gE1.mp b;exact(List.getElem_inj g).mp (by rw[l,c])
theorem vy{o a b X:Ob}{V G:Sto}:(o::(V++a::b::(G++[X])))[V.length+(G.length+2)+1]?=some X:=by
 rw[gC1,dA,gC1,gC1,c6];rfl
inductive CI (w:c5)(cp n:Nat)(T:Sto):Ev->Sto->Prop
 |mk (F:List (TK×D)) (G:Sto) (o':Ob) (x4 x5 x6 x7 x8 x9 x10:Option D) (ho:Hnd o' (n+128)) (all:All w cp F):CI w cp n T [some (.ref 0),some (webD w),some (.int cp),some (.ref (T.length+1)),x4,x5,x6,x7,x8,x9,x10,none,none,none,none] (o'::(T++dO F::G))
inductive CJ (w:c5)(m cp:Nat)(T V:Sto)(F:List (TK×D))(o':Ob)(x5 x7 x8 x10:Option D):Ev->Sto->Prop
 |mk (met:List (Nat×Nat)) (y4 y6 y9 y12:Option D) (mi:MI m cp met) (hp:0<met.length) (cl:Cl w F met met.length 0) (jn:Jn w F met):CJ w m cp T V F o' x5 x7 x8 x10 [some (.ref 0),some (webD w),some (.int cp),some (.ref (T.length+1)),y4,x5,y6,x7,x8,y9,x10,some (.ref (V.length+1)),y12,none,none] (o'::(V++[.lst (met.map pD)]))
theorem CU{o:Ob}{n m g:Nat}{T:Sto}{w:c5}{Q:D×Sto->Prop}(hw:rJ m w)(U:0<m)(E:0<g)(hc:g<=4)(P:m*g<=8)(ho:Hnd o n)(hn:n<=2^40)(hT:T.all (Ob.und (T.length+1))=true)(q:∀N cw rs o',0<N->N<=8->WebJ N cw->rs.length=N->(∀x∈rs,x<8)->Hnd o' (n+128)->Q (.tup [webD cw,.tup (nmD rs)],o'::T)):W (cY 3 ga [.ref 0,webD w,.int g] (o::T)) Q:=by
 have hm8:m<=8:=ai (Nat.le_mul_of_pos_right m E) P;refine pL rfl rfl hT ?_;unfold ga;refine kn ?_;unfold lV;refine dy (fun r S=>S=o::(T++dO []::[])/\r=[some (.ref 0),some (webD w),some (.int g),some (.ref (T.length+1)),none,none,none,none,none,none,none,none,none,none,none]) ?_ ?_
 ·have d0:dO [] = .dct []:=if_pos rfl;rw[d0]
  ((try walk_at"w");repeat(simp only[sN];try walk_at"w"))
 rintro r S ⟨rfl,rfl⟩;refine dy (CI w g n T) ?_ ?_
 ·exact uP hw hm8 hc ho (by lia) fun F G o' x4 t x6 p s x9 c h1 h2=>⟨rfl,.mk F G o' _ _ _ _ _ _ _ h1 h2⟩
 rintro r S ⟨F,G,o',x4,t,x6,p,s,x9,c,K,all⟩;generalize hV:T++dO F::G=V;have z:V[T.length]?=some (dO F):=by rw[<- hV,c6];rfl
 refine dy (fun r S=>S=o'::(V++[.lst ([(0,0)].map pD)])/\r=[some (.ref 0),some (webD w),some (.int g),some (.ref (T.length+1)),x4,t,x6,p,s,x9,c,some (.ref (V.length+1)),some (.int ((0:Nat):Int)),none,none]) ?_ ?_
 ·walk_at"w";exact⟨rfl,rfl⟩
 rintro r S ⟨rfl,rfl⟩;refine dy (CJ w m g T V F o' t p s c) ?_ ?_
 ·exact HH hw U E P all z fun met C J A h h1 h2 h3 h4=>⟨rfl,.mk met _ _ _ _ h1 h2 h3 h4⟩
 rintro r S ⟨met,C,J,A,h,M,hp,cl,jn⟩;have hf:=M.few P;refine dy (fun r S=>S=o'::(V ++ .lst (met.map pD) :: .lst []::[])/\r=[some (.ref 0),some (webD w),some (.int g),some (.ref (T.length+1)),C,t,J,p,s,A,c,some (.ref (V.length+1)),h,some (.ref (V.length+2)),none]) ?_ ?_
 ·walk_at"w"
 rintro r S ⟨rfl,rfl⟩;have B:∀(X:Ob) (Y:Sto),(o'::(V++X::Y))[V.length+1]?=some X:=fun X Y=>by rw[gC1,c6];rfl
 have O:∀(X Z:Ob) (Y:Sto),(o'::(V++X::Z::Y))[V.length+2]?=some Z:=fun X Z Y=>by rw[gC1,dA];rfl
 have gs:∀(Y:Sto),(o'::(V++Y))[T.length+1]?=some (dO F):=fun Y=>by rw[gC1,gL1 (gE1.mp z).1];exact z
 let rD:List (Nat×Nat)->D:=fun row=>.tup (row.map pD)
 refine dy (fun r S=>∃G2 C A u,S=o'::(V ++ .lst (met.map pD) :: .lst ((t3 w F met).map rD)::G2)/\r=[some (.ref 0),some (webD w),some (.int g),some (.ref (T.length+1)),C,t,J,p,s,A,c,some (.ref (V.length+1)),h,some (.ref (V.length+2)),u]) ?_ ?_
 ·walk_at"w";refine dz (B _ _) ?_;refine dP (fun i r S=>∃G2 C A u,i<=met.length/\S=o'::(V ++ .lst (met.map pD) :: .lst (((t3 w F met).take i).map rD)::G2)/\r=[some (.ref 0),some (webD w),some (.int g),some (.ref (T.length+1)),C,t,J,p,s,A,c,some (.ref (V.length+1)),h,some (.ref (V.length+2)),u]) _ 0 _ _ ⟨[],_,_,_,by lia,rfl,rfl⟩ ?_ ?_ ?_
  ·rintro i r S ⟨G2,_,_,_,_,rfl,_⟩;exact d3 (B _ _)
  ·rintro i dd l r S ⟨G2,z4,z9,I,hi,rfl,rfl⟩;dsimp only at l;rw[gP1]at l;obtain⟨x,v,rfl⟩:=oM1.mp l;have hil:=(gE1.mp v).1;have L:=M.inn x (gM1 v);obtain⟨row,k⟩:∃row,w[x.1]?=some row:=⟨_,gG1 (by rw[hw.len];exact L.1)⟩;have H:oB w x.1=row.length:=by unfold oB;rw[bo,k];rfl
   have hr4:=hw.le _ row k;rw[bu]at *
   rw[pD];walk_at"w";unfold jN;refine dy (fun r S=>S=o'::(V ++ .lst (met.map pD) :: .lst (((t3 w F met).take i).map rD)::(G2++[.lst ((List.range (oB w x.1)).map fun d=>B1 (il F x d))]))/\r=[some (.ref 0),some (webD w),some (.int g),some (.ref (T.length+1)),some (.int (x.1:Nat)),t,J,p,s,some (.int (x.2:Nat)),c,some (.ref (V.length+1)),h,some (.ref (V.length+2)),some (.ref (V.length+(G2.length+2)+1))]) ?_ ?_
   ·walk_at"w";rw[show webD w = .tup (w.map fun row=>.tup (row.map pD))from rfl];refine jm (i:=x.1) (x:=.tup (row.map pD)) (by rw[gP1,k];rfl) ?_;walk_at"w";rw[lM1];refine⟨fB (by lia),?_⟩;rw[kH,Int.toNat_natCast,<- H];refine iM (f:=fun j:Nat=>D.int j) (fun d=>B1 (il F x d)) (fun r=>∃y,r=[y,some (.ref (T.length+1)),some (.int (x.1:Nat)),some (.int (x.2:Nat))]) rfl (List.range (oB w x.1)) _ ⟨_,rfl⟩ ?_ ?_
    ·rintro d l r ⟨y,rfl⟩;have n1:=(za hw all L (ah.mp l)).1;walk_at"w";refine W.of (Ie (gs _) n1) ⟨rfl,rfl,_,rfl⟩
    ·rintro r' _;refine⟨c8 (by rw[lM1,bY];lia),?_⟩;walk_at"w"
   rintro r S ⟨rfl,rfl⟩;walk_at"w";refine fv ?_;walk_at"w";refine⟨V.length+2,_,rfl,O _ _ _,?_⟩;refine dz vy ?_;refine iM (f:=fun d=>B1 (il F x d)) (fun d=>pD (AQ met (il F x d).1,(il F x d).2)) (fun r=>∃y,r=[y,some (.ref (V.length+1))]) (d3 vy) (List.range (oB w x.1)) _ ⟨_,rfl⟩ ?_ ?_
   ·rintro d l r ⟨y,rfl⟩;have R:=cl i d x v (ah.mp l) (.inl hil);walk_at"w";refine fv ?_;walk_at"w";refine⟨V.length+1,_,rfl,B _ _,?_⟩;refine wr (xs:=[.int (il F x d).1.1,.int (il F x d).1.2,.int (il F x d).2]) (a:=none) (b:=some 2) rfl rfl rfl ?_;rw[JQ];walk_at"w";refine Gz (e:=(il F x d).1) (B _ _) (by lia) (uA R).1 ?_;refine jm (i:=2) (xs:=[.int (il F x d).1.1,.int (il F x d).1.2,.int (il F x d).2]) (x:=.int (il F x d).2) rfl ?_;walk_at"w";exact⟨rfl,_,rfl⟩
   ·rintro r' _;refine⟨c8 (by rw[lM1,bY];lia),?_⟩;walk_at"w";refine dz (xs:=(List.range (oB w x.1)).map fun d=>pD (AQ met (il F x d).1,(il F x d).2)) ?_ ?_
    ·rw[show∀(a b:Ob),G2++[a,b]=(G2++[a])++[b]from fun a b=>by simp];have:=vy (o:=o') (a:=.lst (met.map pD)) (b:=.lst (((t3 w F met).take i).map rD)) (V:=V) (G:=G2++[.lst ((List.range (oB w x.1)).map fun d=>B1 (il F x d))]) (X:=.lst ((List.range (oB w x.1)).map fun d=>pD (AQ met (il F x d).1,(il F x d).2)));rw[<- this]
     congr 1
     simp
     try lia
    refine(iu (O _ _ _)).mpr ⟨c8 (by rw[lM1,aD];lia),?_⟩;refine⟨G2++[.lst ((List.range (oB w x.1)).map fun d=>B1 (il F x d)),.lst ((List.range (oB w x.1)).map fun d=>pD (AQ met (il F x d).1,(il F x d).2))],_,_,_,by lia,?_,rfl⟩
    ·rw[b0,cv _ _ (by lia),show V.length+1-V.length=1 by lia,b8];rw[show(t3 w F met)[i]?=some (si w F met x) by unfold t3;rw[gP1,v];rfl];rw[Option.toList_some,b7];rw[show[si w F met x].map rD=[.tup ((List.range (oB w x.1)).map fun d=>pD (AQ met (il F x d).1,(il F x d).2))] by simp[rD,si,Function.comp_def]];rfl
  ·rintro r S ⟨G2,z4,z9,I,hi,rfl,rfl⟩;rw[lM1,bu,bS (by unfold t3;rw[lM1];exact nR1 _)];exact⟨rfl,G2,_,_,_,rfl,rfl⟩
 rintro r S ⟨G2,z4,z9,I,rfl,rfl⟩;have hcl:(t3 w F met).length=met.length:=by unfold t3;rw[lM1]
 walk_at"w";refine dz (O _ _ _) ?_;refine dz (B _ _) ?_;refine iM (f:=pD) (fun x:Nat×Nat=>D.int (x.1:Nat)) (fun r=>∃y0 y1,r=[y0,y1]) (d3 (B _ _)) met _ ⟨_,_,rfl⟩ ?_ ?_
 ·rintro x v r ⟨y0,y1,rfl⟩;rw[pD];walk_at"w";exact⟨_,_,rfl⟩
 ·rintro r' _;refine⟨c8 (by rw[lM1];lia),?_⟩;walk_at"w";refine dz (xs:=met.map fun x:Nat×Nat=>D.int (x.1:Nat)) vy ?_;walk_at"w";have e:met.map (fun x:Nat×Nat=>D.int (x.1:Nat))=nmD (met.map (·.1)):=by rw[nmD,aZ];rfl
  rw[e];refine⟨.tup [webD (t3 w F met),.tup (nmD (met.map (·.1)))],o',(dO F::G)++(.lst (met.map pD) :: .lst ((t3 w F met).map rD)::(G2++[.lst (nmD (met.map (·.1)))])),?_,?_,K.und,q met.length _ _ o' hp hf (xS hw M.nd cl jn) (by rw[lM1]) (fun x v=>by obtain⟨y,hy,rfl⟩:=bQ.mp v;have:=(M.inn y hy).1;lia) K⟩
  ·rw[<- hV,bj];rfl
  ·rw[D.und,D.unds,dI,D.unds,D.unds,D.und,fL];rfl
theorem DD{m:FA}{r:Ev}{S S1:Sto}{k:Nat}{Q:D×Sto->Prop}(h:m r S=some ([.int k],S1))(hk:k<=1000)(q:Q (.tup (nmD (List.range k)),S1)):W (wZ m r S) Q:=by
 refine W.of ?_ q;unfold wZ;rw[h,oS1];dsimp only;have:mG 0 (k:Int)=true:=by
  unfold mG;simp only[bA1,decide_eq_true_eq];lia
 rw[if_pos this,Int.toNat_natCast,kH];rfl
theorem JM{a:Nat}{S:Sto}(h1:1<=a)(b:a<=4):rj (.int 8) (.int a) S=some (.int ((8/a:Nat):Int),S):=by
 match a,h1,b with
 |1,_,_=>rfl
 |2,_,_=>rfl
 |3,_,_=>rfl
 |4,_,_=>rfl
theorem jb{w:c5}{S:Sto}:dH (webD w) S=some (.int w.length,S):=by
 unfold webD;rw[fH,lM1]
theorem Ky{d:Nat}(h:d<6):∃a:Nat,([.int 1,.int 1,.int 2,.int 2,.int 3,.int 4]:List D)[d]?=some (.int a)/\1<=a/\a<=4:=by
 match d,h with
 |0,_=>exact⟨1,rfl,by decide,by decide⟩
 |1,_=>exact⟨1,rfl,by decide,by decide⟩
 |2,_=>exact⟨2,rfl,by decide,by decide⟩
 |3,_=>exact⟨2,rfl,by decide,by decide⟩
 |4,_=>exact⟨3,rfl,by decide,by decide⟩
 |5,_=>exact⟨4,rfl,by decide,by decide⟩
theorem JA{m a:Nat}(h:m<=8/a):m*a<=8:=ai (Nat.mul_le_mul_right a h) (Nat.div_mul_le_self 8 a)
theorem GO{o:Ob}{n:Nat}{T:Sto}{Q:D×Sto->Prop}(ho:Hnd o n)(hn:n<=2^39)(F:T.all (Ob.und (T.length+1))=true)(q:∀m w f o',0<m->m<=8->WebJ m w->f.length=m->(∀x∈f,x<8)->Hnd o' (n+300)->Q (.tup [webD w,.tup (nmD f)],o'::T)):W (cY 1 ii [.ref 0] (o::T)) Q:=by
 refine pL rfl rfl F ?_;unfold ii;refine kn ?_;unfold oy;generalize v:T++[Ob.lst [.int 1,.int 1,.int 2,.int 2,.int 3,.int 4]]=X;have j:X.all (Ob.und (X.length+1))=true:=by rw[<- v];exact JT F rfl
 refine dy (fun r S=>∃(cp:Nat) (h:Ob),1<=cp/\cp<=4/\Hnd h (n+1)/\S=h::X/\r=[some (.ref 0),some (.int cp),none]) ?_ ?_
 ·walk_at"w";refine eZ ho (by lia) (by lia) (by lia) fun d h e N=>?_;obtain⟨cp,h1,h2,K⟩:=Ky (d:=d) (by lia);walk_at"w";refine gz (i:=d) (xs:=[.int 1,.int 1,.int 2,.int 2,.int 3,.int 4]) (x:=.int cp) (by rw[gC1,c6];rfl) h1 ?_;exact⟨cp,h,h2,K,e,by rw[v],rfl⟩
 rintro r S ⟨cp,h,h1,G,e,rfl,rfl⟩;refine dy (fun r S=>∃(m:Nat) (w:c5) (b:Ob),0<m/\m<=8/cp/\rJ m w/\Hnd b (n+101)/\S=b::X/\r=[some (.ref 0),some (.int cp),some (webD w)]) ?_ ?_
 ·((try walk_at"w");repeat(simp only[JM h1 G];try walk_at"w"))
  have M:1<=8/cp:=Nat.div_pos (by lia) (by lia);refine BG e (by lia) j M (Nat.div_le_self 8 cp) fun m w b c u p a=>?_;exact⟨m,w,b,c,u,p,a.more (by lia),rfl,rfl⟩
 rintro r S ⟨m,w,b,c,u,p,a,rfl,rfl⟩;have B:m<=8:=ai u (Nat.div_le_self 8 cp);have L:((cp:Int) == 1)=decide (cp=1):=by
  rw[bx,beq_iff_eq,decide_eq_true_eq];lia
 unfold c9 eV;rw[cX];have l:mB (m2 (b2 gEq) (mV 1) (mC (D.int (1)))) [some (.ref 0),some (.int cp),some (webD w)] (b::X)=some (decide (cp=1),b::X):=by
  rw[<- L];rfl
 rw[cX];refine W.of l ?_;dsimp only;by_cases g:cp=1
 ·rw[decide_eq_true g,if_pos rfl];simp(implicitDefEqProofs:=false) only[dW,mN,cT,mV,cU,oS1,cX,da,uS,gC1,ci,lC1,aO,ck,Kk,Ki,true_and];refine DD (k:=m) (S1:=b::X) ?_ (by lia) ?_
  ·simp only[cT,cU,mN,mV,b1,gC1,ci,cm,oP1,oS1,jb,p.len]
  walk_at"w";refine⟨.tup [webD w,.tup (nmD (List.range m))],b,[Ob.lst [.int 1,.int 1,.int 2,.int 2,.int 3,.int 4]],by rw[v],?_,a.und,q m w _ b c B p.toWebJ bY (fun x I=>by have:=ah.mp I;lia) (a.more (by lia))⟩;rw[D.und,D.unds,dI,D.unds,D.unds,D.und,fL];rfl
 ·rw[decide_eq_false g,if_neg (by decide)];walk_at"w";refine CU p c (by lia) G (JA u) a (by lia) j fun J E f H t C A y z s=>?_;refine⟨.tup [webD E,.tup (nmD f)],H,[Ob.lst [.int 1,.int 1,.int 2,.int 2,.int 3,.int 4]],by rw[v],?_,s.und,q J E f H t C A y z (s.more (by lia))⟩;rw[D.und,D.unds,dI,D.unds,D.unds,D.und,fL];rfl
open Classical in
def tf(P:Prop):Bool:=decide P
theorem A8{P:Prop}:tf P=true↔P:=by unfold tf;exact @decide_eq_true_iff P (Classical.propDecidable P)
theorem A7{P:Prop}(h:P):tf P=true:=A8.mpr h
theorem yg{P:Prop}{b:Bool}(h:b=true↔P):b=tf P:=by rw[bx,A8];exact h
theorem yf{P:Prop}(h:¬ P):tf P=false:=(yg ⟨fun z=>(by cases z),fun z=>(h z).elim⟩).symm
theorem I7{P Q:Prop}(h:P↔Q):tf P=tf Q:=yg (A8.trans h)
theorem ol:∀(ns acc:List Int),acc.Nodup->((ns.foldl step_dedup acc).length<=acc.length+ns.length/\((ns.foldl step_dedup acc).length=acc.length+ns.length↔(acc++ns).Nodup))
 |[],acc,h=>by simp[h]
 |n::ns,acc,h=>by
  rw[bM];by_cases c:n∈acc
  ·have e:step_dedup acc n=acc:=by
    unfold step_dedup;rw[if_pos (bz.mpr ⟨n,c,by simp⟩)]
   rw[e];obtain⟨h1,h2⟩:=ol ns acc h;rw[lC1];refine⟨by lia,⟨fun z=>by lia,fun z=>?_⟩⟩;rw[bb]at z;exact(z.2.2 n c n mS1 rfl).elim
  ·have e:step_dedup acc n=acc++[n]:=by
    unfold step_dedup;rw[if_neg (by rw[bz];rintro⟨x,g,d⟩;exact c (by rw[<- beq_iff_eq.mp d];exact g))]
   rw[e];have hnd:(acc++[n]).Nodup:=by
    rw[bb];exact⟨h,by simp,fun a i b f z=>by rw[bU]at f;subst f;subst z;exact c i⟩
   obtain⟨h1,h2⟩:=ol ns (acc++[n]) hnd;rw[lA1,aJ,bj,List.singleton_append]at *
   rw[lC1];refine⟨by lia,?_⟩;rw[<- h2];constructor<;>intro z<;>lia
theorem rZ{rs:List Nat}:(rs.map fun(r:Nat)=>(r:Int)).Nodup↔rs.Nodup:=by
 unfold List.Nodup;rw[List.pairwise_map];exact⟨fun h=>h.imp fun z e=>z (by rw[e]),fun h=>h.imp fun z e=>z (by lia)⟩
theorem GP{rs:List Nat}{S:Sto}{Q:D×Sto->Prop}(a:rs.length<=100)(q:Q (.bl (tf rs.Nodup),S)):W (cY 1 e3 [.tup (nmD rs)] S) Q:=by
 refine ge rfl (by rw[D.unds,D.und,fL];rfl) ?_;unfold e3;refine kn ?_;unfold je;have e:fz (.tup (nmD rs)) []=some (.ref 0,[.iset (ddI (rs.map fun(r:Nat)=>(r:Int)))]):=by
  unfold fz;rw[iS];dsimp only;rw[vT,oS1,if_pos (by rw[lM1];unfold scanBound;lia)];rfl
 ((try walk_at"w");repeat(simp only[e];try walk_at"w"))
 refine oA rfl ?_;walk_at"w";refine⟨rfl,?_⟩;have:((((ddI (rs.map fun(r:Nat)=>(r:Int))).length:Nat):Int) == (((nmD rs).length:Nat):Int))=tf rs.Nodup:=yg (by
  have:=(ol (rs.map fun(r:Nat)=>(r:Int)) [] aW).2;rw[aO,bu,lM1,cf,rZ]at this;rw[beq_iff_eq,dD,<- this];unfold ddI;lia)
 rw[this];exact q
theorem jR{c:List (Nat×List D)}{g:FG}{b:FS}{Q:Fl×Ev×Sto->Prop}(I:Nat->Ev->Sto->Prop):∀ (items:List D) (k:Nat) (r:Ev) (S:Sto),I k r S ->
  (∀i r S,I i r S->oS S c=true) ->
  (∀i d,items[i]?=some d -> ∀r S,I (k+i) r S->W (g d r S) fun p=>W (b p.1 p.2) fun q=>(q.1 = .nx/\I (k+i+1) q.2.1 q.2.2) \/ ∃v,q.1 = .rt v/\Q (.rt v,q.2)) ->
  (∀r S,I (k+items.length) r S->Q (.nx,r,S))->W (ji c g b items r S) Q:=by
 intro items
 induction items with
 |nil=>intro k r S hi a _ j;rw[ji];dsimp only;rw[if_pos (a _ _ _ hi),da];exact j r S (by simpa using hi)
 |cons d ds ih=>
  intro k r S hi a l j;rw[ji];dsimp only;rw[if_pos (a _ _ _ hi),cX];obtain⟨p,o,⟨f,u,s⟩,m,h⟩:=l 0 d rfl r S (by simpa using hi);refine⟨p,o,?_⟩;dsimp only;rw[cX];refine⟨_,m,?_⟩;dsimp only at h ⊢;rcases h with⟨rfl,e⟩|⟨v,rfl,t⟩
  ·exact ih (k+1) u s e a (fun i d n r S e=>by
    have:=l (i+1) d n r S (by rw[show k+(i+1)=k+1+i by lia];exact e);rw[show k+(i+1)+1=k+1+i+1 by lia]at this;exact this) fun r S e=>j r S (by rw[lC1,show k+(ds.length+1)=k+1+ds.length by lia];exact e)
  ·exact da.mpr t
theorem Df{a b:FS}{r:Ev}{S:Sto}{Q:Fl×Ev×Sto->Prop}(h:W (a r S) fun p=>(p.1 = .nx/\W (b p.2.1 p.2.2) Q) \/ ∃v,p.1 = .rt v/\Q (.rt v,p.2)):W (c9 a b r S) Q:=by
 obtain⟨⟨f,c,d⟩,e,h⟩:=h;unfold c9;rw[e];dsimp only at h;rcases h with⟨rfl,h⟩|⟨v,rfl,h⟩
 ·exact h
 ·exact da.mpr h
theorem zR{c:FT}{m:FE}{b:FS}{r:Ev}{S:Sto}{Q:Fl×Ev×Sto->Prop}(C:Bool×Sto->Prop)(h1:W (c r S) C)(h2:∀V,C (true,V)->W (m r V) fun p=>Q (.rt p.1,r,p.2))(d:∀V,C (false,V)->W (b r V) Q):W (c9 (eV c (dW m) k8) b r S) Q:=by
 obtain⟨⟨t,V⟩,e,a⟩:=h1;unfold c9 eV;simp only[e,oS1];cases t with
 |true=>
  rw[if_pos rfl];unfold dW;rw[cX,cX];exact(h2 V a).mono fun p f=>da.mpr (da.mpr f)
 |false=>
  rw[if_neg (by decide)];exact d V a
theorem qh{m:Nat}{w:c5}(hw:WebJ m w){r:Nat}(hr:r<m):∃row,w[r]?=some row:=⟨_,gG1 (by rw[hw.len];exact hr)⟩
theorem tU{w:c5}{r:Nat}{row:List (Nat×Nat)}{S:Sto}{Q:D×Sto->Prop}(h:w[r]?=some row)(q:Q (.tup (row.map pD),S)):W (c7 (webD w) (.int r) S) Q:=
 jm (i:=r) (x:=.tup (row.map pD)) (by rw[gP1,h];rfl) q
theorem AG{rs:List Nat}{i:Nat}{S:Sto}{Q:D×Sto->Prop}(hi:i<rs.length)(q:Q (.int (rs.getD i 0:Nat),S)):W (c7 (.tup (nmD rs)) (.int i) S) Q:=
 jm (i:=i) (x:=.int (rs.getD i 0:Nat)) (by rw[nmD,gP1,bo,gG1 hi];rfl) q
theorem km{m i:Nat}{rs:List Nat}(hm:0<m)(h:∀x∈rs,x<m):rs.getD i 0<m:=by
 rw[bo];cases e:rs[i]? with
 |none=>exact hm
 |some x=>exact h x (gM1 e)
def eG(w:c5)(r:Nat):List (Nat×Nat):=w[r]?.getD []
theorem io{w:c5}{r:Nat}{row:List (Nat×Nat)}(h:w[r]?=some row):eG w r=row:=by unfold eG;rw[h];rfl
def E3(rs:List Nat)(e:Nat×Nat):Nat×Nat:=(rs.getD e.1 0,e.2)
def Car(w:c5)(rs:List Nat)(r:Nat):Prop:=eG w (rs.getD r 0)=(eG w r).map (E3 rs)
theorem F1{a b:Nat×Nat}{S:Sto}:s9 (pD a) (pD b) S=some (.bl (!(a == b)),S):=by
 show(eqN S dr (pD a) (pD b)).map _=_;rw[show dr=58+2 from rfl,rv];rfl
theorem Cz{m:Nat}{w:c5}{rs:List Nat}{S:Sto}{Q:D×Sto->Prop}(hw:WebJ m w)(M:0<m)(Z:rs.length=m)(hr:∀x∈rs,x<m)(q:Q (.bl (tf (∀r,r<m->Car w rs r)),S)):W (cY 2 fx [webD w,.tup (nmD rs)] S) Q:=by
 refine ge rfl (by rw[D.unds,dI,D.unds,D.und,fL];rfl) ?_;unfold fx;refine kn ?_;unfold lU;refine Df ?_;unfold ee;rw[cX];refine kT (xs:=w.map fun f=>.tup (f.map pD)) rfl ?_;refine jR (fun i r V=>(∀j,j<i->Car w rs j)/\V=[] /\ ∃O F v y B,r=[some (webD w),some (.tup (nmD rs)),O,F,v,y,B]) _ 0 _ _ ⟨fun j h=>by lia,rfl,_,_,_,_,_,rfl⟩ (fun _ _ _ _=>rfl) ?_ ?_
 ·rintro i U l r V ⟨g,rfl,O,F,v,y,B,rfl⟩;rw[fb,gP1]at l;obtain⟨z,J,rfl⟩:=oM1.mp l;obtain⟨f,o,rfl⟩:=oM1.mp J;have N:i<m:=by rw[<- hw.len];exact(gE1.mp o).1
  rw[bu]at *
  obtain⟨c,k⟩:=qh hw (km (i:=i) M hr);have E:¬ Car w rs i->Q (.bl false,S):=fun G=>by
   rw[yf (fun h=>G (h i N))]at q;exact q
  have p:Car w rs i↔c=f.map (E3 rs):=by
   unfold Car;rw[io o,io k]
  walk_at"w";unfold jL;refine zR (fun t=>t=(!(c.length == f.length),[])) ?_ (fun X e=>?_) fun X e=>?_
  ·walk_at"w";refine AG (by lia) ?_;refine tU k ?_;walk_at"w";rw [lM1,lM1];have:(((c.length:Nat):Int) == ((f.length:Nat):Int))=(c.length == f.length):=by
    rw[bx,beq_iff_eq,beq_iff_eq];lia
   rw[this]
  ·injection e with C I;subst I;have:¬ Car w rs i:=fun hc=>by
    rw[p.mp hc,lM1,beq_self_eq_true]at C;cases C
   walk_at"w";exact .inr ⟨_,rfl,.inr ⟨_,rfl,rfl,E this⟩⟩
  ·injection e with C I;subst I;have P:c.length=f.length:=by
    have:(c.length == f.length)=true:=by
     cases h:c.length == f.length with
     |true=>rfl
     |false=>rw[h]at C;cases C
    exact beq_iff_eq.mp this
   unfold ee;rw[cX];refine kT (xs:=f.map pD) rfl ?_;refine jR (fun j r V=>(∀d e,d<j->f[d]?=some e->c[d]?=some (E3 rs e))/\V=[] /\ ∃v y B,r=[some (webD w),some (.tup (nmD rs)),some (.int (i:Nat)),some (.tup (f.map pD)),v,y,B]) _ 0 _ _ ⟨fun d e h=>by lia,rfl,_,_,_,rfl⟩ (fun _ _ _ _=>rfl) ?_ ?_
   ·rintro j U l r V ⟨A,rfl,v,y,B,rfl⟩;rw[fb,gP1]at l;obtain⟨z,J,rfl⟩:=oM1.mp l;obtain⟨e,u,rfl⟩:=oM1.mp J;have T:=(gE1.mp u).1;rw[bu]at *
    have R:=hw.to i j e ⟨f,o,u⟩;have n:c[j]?=some c[j]:=gG1 (by lia);generalize c[j]=e' at n;rw[show pD e = .tup [.int (e.1:Nat),.int (e.2:Nat)]from rfl];walk_at"w";unfold jM;walk_at"w";refine AG (by lia) ?_;refine tU k ?_;refine jm (i:=j) (x:=pD e') (by rw[gP1,n];rfl) ?_;refine AG (by lia) ?_;walk_at"w";refine W.of (F1 (a:=e') (b:=E3 rs e)) ?_;walk_at"w";by_cases s:e'=E3 rs e
    ·rw[beq_iff_eq.mpr s];walk_at"w";refine .inl ⟨fun d H Y h=>?_,_,_,_,rfl⟩;by_cases K:d=j
     ·subst K;rw[u]at h;cases h;rw[n,s]
     ·exact A d H (by lia) h
    ·rw [beq_false_of_ne s];walk_at"w";have:¬ Car w rs i:=fun hc=>s (by
      have h2:=p.mp hc;rw[h2,gP1,u]at n;cases n;rfl)
     exact .inr ⟨_,rfl,.inr ⟨_,rfl,.inr ⟨_,rfl,rfl,E this⟩⟩⟩
   ·rintro r V ⟨A,rfl,v,y,B,rfl⟩;refine .inl ⟨rfl,fun j hj=>?_,rfl,_,_,_,_,_,rfl⟩;by_cases L:j=i
    ·subst L;refine p.mpr (bH fun d=>?_);rw[gP1];cases u:f[d]? with
     |none=>
      rw[List.getElem?_eq_none_iff]at u;exact bI (by lia)
     |some e=>
      have:=(gE1.mp u).1;exact A d e (by rw[e9,lM1];lia) u
    ·exact g j (by lia)
 ·rintro r V ⟨g,rfl,O,F,v,y,B,rfl⟩;rw[e9,lM1,bu,hw.len]at g;rw[A7 g]at q;refine .inl ⟨rfl,?_⟩;walk_at"w";exact⟨rfl,q⟩
theorem Aw{w:c5}{r d:Nat}{e e':Nat×Nat}(h:At w r d e)(h':At w r d e'):e=e':=by
 obtain⟨g,c,f⟩:=h;obtain⟨r2,a,b⟩:=h';rw[c]at a;cases a;rw[f]at b;cases b;rfl
theorem EY{a b:List Nat}(h:D.tup (nmD a) = .tup (nmD b)):a=b:=by
 injection h with h;unfold nmD at h;exact(List.map_inj_right fun x y e=>by injection e with e;lia).mp h
def dF(L:List (Nat×List Nat)):List (Key×D):=L.map fun p=>(Sum.inl (p.1:Int),D.tup (nmD p.2))
theorem lF:∀{L:List (Nat×List Nat)} {p:Nat×List Nat},(L.map (·.1)).Nodup->p∈L->df (dF L) (Sum.inl (p.1:Int))=some (.tup (nmD p.2))
 |[],_,_,h=>by cases h
 |x::L,p,nd,h=>by
  rw[mP1,az]at nd;unfold dF df;rw[mP1,aM];rcases ak.mp h with z|z
  ·subst z;simp
  ·have a:x.1≠p.1:=fun e=>nd.1 (by rw[e];exact bQ.mpr ⟨p,z,rfl⟩);have:decide ((Sum.inl (x.1:Int):Key)=Sum.inl (p.1:Int))=false:=decide_eq_false fun e=>a (by injection e with e;lia);dsimp only;rw[this];exact lF (L:=L) nd.2 z
theorem wn{L:List (Nat×List Nat)}{v:Nat}(h:v∉L.map (·.1)):((dF L).any fun p=>decide (p.1=Sum.inl (v:Int)))=false:=by
 rw[cc];intro z;obtain⟨x,a,e⟩:=bz.mp z;obtain⟨p,b,rfl⟩:=bQ.mp a;have e:=of_decide_eq_true e;dsimp only at e;injection e with e;exact h (bQ.mpr ⟨p,b,by lia⟩)
theorem zG{L:List (Nat×List Nat)}{v:Nat}(h:v∉L.map (·.1)):df (dF L) (Sum.inl (v:Int))=none:=by
 unfold df;rw[Option.map_eq_none_iff,List.find?_eq_none];intro x a z;have:=wn h;rw[cc]at this;exact this (bz.mpr ⟨x,a,z⟩)
theorem Bw{L:List (Nat×List Nat)}{v:Nat}{ws:List Nat}(h:v∉L.map (·.1)):fW (dF L) (Sum.inl (v:Int)) (.tup (nmD ws))=dF (L++[(v,ws)]):=by
 unfold fW;rw[wn h,if_neg (by decide)];unfold dF;rw[b7];rfl
theorem zd{S:Sto}{n v:Nat}{F:List (Key×D)}(h:S[n]?=some (.dct F)):eI (.int (v:Nat)) (.ref n) S=some (.bl (!(df F (Sum.inl (v:Int))).isSome),S):=by
 simp only[eI,g9,h,mm,oP1]
theorem Dt{S:Sto}{n v:Nat}{F:List (Key×D)}{d:D}(h:S[n]?=some (.dct F))(a:df F (Sum.inl (v:Int))=some d):c7 (.ref n) (.int (v:Nat)) S=some (d,S):=by
 simp only[c7,mw,h,mm,oS1,a,oP1]
theorem D7{S:Sto}{n v:Nat}{F:List (Key×D)}{d:D}(h:S[n]?=some (.dct F))(a:F≠[])(b:F.length<1000):gb (.ref n) (.int (v:Nat)) d S=some (.non,S.set n (.dct (fW F (Sum.inl (v:Int)) d))):=by
 cases F with
 |nil=>exact absurd rfl a
 |cons x F=>
  have h2:gb (.ref n) (.int (v:Nat)) d S=jY (.ref n) (.int (v:Nat)) d S:=by simp only[gb,h]
  rw[h2];simp only[jY,h,mm,oS1];rw[if_pos (aQ b (by decide))]
def fN(w:c5):Nat->List Nat->Option Nat
 |r,[]=>some r
 |r,d::ds=>((eG w r)[d]?).bind fun e=>fN w e.1 ds
theorem sS{w:c5}:∀{ds:List Nat} {r v d:Nat} {e:Nat×Nat},fN w r ds=some v->(eG w v)[d]?=some e->fN w r (ds++[d])=some e.1
 |[],r,v,d,e,h,he=>by
  rw[fN]at h;cases h;rw[cf,fN,he];rfl
 |x::ds,r,v,d,e,h,he=>by
  rw[fN]at h;rw[aS,fN];cases hx:(eG w r)[x]? with
  |none=>rw[hx]at h;cases h
  |some y=>
   rw[hx]at h;exact sS (ds:=ds) h he
theorem Gq{w:c5}{r d:Nat}{e:Nat×Nat}(h:At w r d e):(eG w r)[d]?=some e:=by
 obtain⟨a,h1,h2⟩:=h;rw[io h1];exact h2
theorem vj{w:c5}{r d:Nat}{e:Nat×Nat}(h:(eG w r)[d]?=some e):At w r d e:=by
 unfold eG at h;cases hr:w[r]? with
 |none=>rw[hr]at h;simp at h
 |some a=>rw[hr]at h;exact⟨a,hr,h⟩
theorem vI{m:Nat}{w:c5}(hw:WebJ m w):∀{ds:List Nat} {r v:Nat},r<m->fN w r ds=some v->v<m
 |[],r,v,hr,h=>by rw[fN]at h;cases h;exact hr
 |d::ds,r,v,hr,h=>by
  rw[fN]at h;cases hx:(eG w r)[d]? with
  |none=>rw[hx]at h;cases h
  |some y=>
   rw[hx]at h;exact vI hw (ds:=ds) (hw.to r d y (vj hx)) h
structure BJ (m:Nat)(w:c5)(L:List (Nat×List Nat))(a j:Nat):Prop where
 nd:(L.map (·.1)).Nodup
 inn:∀p∈L,p.1<m
 hd:L[0]?=some (0,[])
 ok:∀p∈L,fN w 0 p.2=some p.1
 len:∀(i:Nat) (p:Nat×List Nat),L[i]?=some p->p.2.length<=i
 cl:∀(i d:Nat) (p:Nat×List Nat) (e:Nat×Nat),L[i]?=some p->At w p.1 d e->(i<a\/(i=a/\d<j))->e.1∈L.map (·.1)
theorem BJ.few{m a j:Nat}{w:c5}{L:List (Nat×List Nat)}(b:BJ m w L a j):L.length<=m:=by
 have:=Law.few b.nd (N:=m) fun x c=>by
  obtain⟨p,d,rfl⟩:=bQ.mp c;exact b.inn p d
 rwa [lM1]at this
theorem BJ.old{m a j:Nat}{w:c5}{L:List (Nat×List Nat)}{g:Nat×List Nat}{e:Nat×Nat}(b:BJ m w L a j)(l:L[a]?=some g)(f:At w g.1 j e)(c:e.1∈L.map (·.1)):BJ m w L a (j+1):=by
 refine⟨b.nd,b.inn,b.hd,b.ok,b.len,fun i d p k h1 h2 n=>?_⟩;by_cases h:i=a/\d=j
 ·obtain⟨rfl,rfl⟩:=h;rw[l]at h1;cases h1;rw[<- Aw f h2];exact c
 ·exact b.cl i d p k h1 h2 (by lia)
theorem BJ.new{m a j:Nat}{w:c5}{L:List (Nat×List Nat)}{f:Nat×List Nat}{e:Nat×Nat}(b:BJ m w L a j)(k:L[a]?=some f)(g:At w f.1 j e)(hm:e.1<m)(o:e.1∉L.map (·.1)):BJ m w (L++[(e.1,f.2++[j])]) a (j+1):=by
 have s:=(gE1.mp k).1;have n:∀x,x∈L.map (·.1)->x∈(L++[(e.1,f.2++[j])]).map (·.1):=fun x l=>by rw[b7];exact ao _ l
 refine⟨?_,fun p c=>?_,?_,fun p c=>?_,fun i p h=>?_,fun i d p v h1 h2 A=>?_⟩
 ·rw[b7,bb];refine⟨b.nd,by simp,fun x l y u z=>?_⟩;have:y=e.1:=by simpa using u
  exact o (by rw[<- this,<- z];exact l)
 ·rcases am.mp c with c|c
  ·exact b.inn p c
  ·rw[bU]at c;subst c;exact hm
 ·rw[gL1 (by lia)];exact b.hd
 ·rcases am.mp c with c|c
  ·exact b.ok p c
  ·rw[bU]at c;subst c;exact sS (b.ok f (gM1 k)) (Gq g)
 ·by_cases q:i<L.length
  ·rw[gL1 q]at h;exact b.len i p h
  ·have:=(gE1.mp h).1;rw[lA1,aJ]at this;have r:i=L.length:=by lia
   subst r;rw[cx]at h;cases h;have:=b.len a f k;rw[lA1,aJ];lia
 ·rw[gL1 (by lia)]at h1;by_cases t:i=a/\d=j
  ·obtain⟨rfl,rfl⟩:=t;rw[k]at h1;cases h1;rw[<- Aw g h2,b7];exact mA1 _ (by simp)
  ·exact n _ (b.cl i d p v h1 h2 (by lia))
theorem BJ.zero{m a j:Nat}{w:c5}{L:List (Nat×List Nat)}(b:BJ m w L a j):0∈L.map (·.1):=bQ.mpr ⟨_,gM1 b.hd,rfl⟩
theorem BJ.all{m a:Nat}{w:c5}{L:List (Nat×List Nat)}(hw:WebJ m w)(b:BJ m w L a 0)(ha:L.length<=a):∀v,v<m->v∈L.map (·.1):=by
 intro v
 induction v using Nat.strongRecOn with
 |ind v ih=>
  intro j;by_cases h:v=0
  ·subst h;exact b.zero
  ·obtain⟨u,d,e,h1,h2,c⟩:=hw.jn v (by lia) j;obtain⟨p,g,f⟩:=bQ.mp (ih u h1 (by lia));obtain⟨i,hi⟩:=aX g;have:=b.cl i d p e hi (by rw[f];exact h2) (.inl (by have:=(gE1.mp hi).1;lia));rw[c]at this;exact this
structure C4 (m:Nat)(w:c5)(ws:List (List Nat)):Prop where
 len:ws.length=m
 short:∀x∈ws,x.length<=8
 hd:ws[0]?=some []
 to:∀(v:Nat) (x:List Nat),ws[v]?=some x->fN w 0 x=some v
def oE(ws:List (List Nat)):List D:=ws.map fun x=>.tup (nmD x)
def oD:Option Nat->D
 |none=>.non
 |some v=>.int v
theorem EX(o:Option Nat):(oD o).und 0=true:=by cases o<;>rfl
theorem y2{n:Nat}{o:Ob}(h:o.und 0=true):o.sh n=o:=by
 have a:∀{κ:Type} (l:List (κ×D)),D.unds 0 (l.map (·.2))=true->(l.map fun p=>(p.1,p.2.sh n))=l:=fun l=>by
  induction l with
  |nil=>intro _;rfl
  |cons x l ih=>
   intro h;rw[mP1,D.unds,bA1]at h;rw[mP1,ih h.2,yz h.1]
 cases o with
 |lst xs=>rw[Ob.und]at h;rw[Ob.sh,lr h]
 |dct l=>rw[Ob.und]at h;rw[Ob.sh,a l h]
 |dcT l=>rw[Ob.und]at h;rw[Ob.sh,a l h]
 |dcF l=>rw[Ob.und]at h;rw[Ob.sh,a l h]
 |iset l=>rfl
 |tst l=>rfl
theorem yo{n:Nat}{S:Sto}(h:S.all (Ob.und 0)=true):S.map (Ob.sh n)=S:=by
 have:S.map (Ob.sh n)=S.map id:=b9 fun o a=>y2 (bd.mp h o a);rw[this,List.map_id]
theorem An{n:Nat}{f:FN}{ds:List D}{S:Sto}{Q:D×Sto->Prop}(hn:ds.length=n)(c:D.unds 0 ds=true)(h:W (f ds []) fun p=>∃k xs,p.1 = .ref k/\p.2[k]?=some (.lst xs)/\p.2.all (Ob.und 0)=true /\ ∀G j,(S++G)[j]?=some (.lst xs)->G.all (Ob.und 0)=true->S.length<=j->Q (.ref j,S++G)):W (cY n f ds S) Q:=by
 obtain⟨⟨d,G⟩,e,k,xs,rfl,b,a,q⟩:=h;refine⟨_,oq e hn c rfl,?_⟩;dsimp only at b a;rw[yo a];exact q G _ (by rw[dA];exact b) a (aY _ _)
def pZ(L:List (Nat×List Nat))(k:Nat)(G:Sto):Sto:=.dct (dF L) :: .lst (nmD ((L.map (·.1)).drop k))::G
theorem Gf(L:List (Nat×List Nat)):(Ob.dct (dF L)).und 0=true:=by
 rw[Ob.und,dF,aZ];exact dG fun p _=>by show(D.tup (nmD p.2)).und 0=true;rw[D.und];exact fL _
theorem Bd{L:List (Nat×List Nat)}{k:Nat}{G:Sto}(h:G.all (Ob.und 0)=true):(pZ L k G).all (Ob.und 0)=true:=by
 rw[pZ,bw,bw,h,Gf,Ob.und,fL];rfl
theorem A2{m:Nat}{w:c5}(hw:WebJ m w)(J:0<m)(hm:m<=8):W (fZ [webD w] []) fun p=>∃k ws,p.1 = .ref k/\p.2[k]?=some (.lst (oE ws))/\p.2.all (Ob.und 0)=true/\C4 m w ws:=by
 unfold fZ;refine kn ?_;unfold lQ;refine dy (fun g V=>V=pZ [(0,[])] 0 []/\g=[some (webD w),some (.ref 0),some (.ref 1),none,none,none,none]) ?_ ?_
 ·exact W.of (x:=(.nx,[some (webD w),some (.ref 0),some (.ref 1),none,none,none,none],pZ [(0,[])] 0 [])) rfl ⟨rfl,rfl,rfl⟩
 rintro g V ⟨rfl,rfl⟩;refine dy (fun g V=>∃L a G R M K N,BJ m w L a 0/\L.length<=a/\G.all (Ob.und 0)=true/\V=pZ L a G/\g=[some (webD w),some (.ref 0),some (.ref 1),R,M,K,N]) ?_ ?_
 ·refine u6 (fun k g V=>∃L G R M K N,BJ m w L k 0/\G.all (Ob.und 0)=true/\V=pZ L k G/\g=[some (webD w),some (.ref 0),some (.ref 1),R,M,K,N]) 8 ?_ 100000 0 _ _ (by lia) ⟨[(0,[])],[],_,_,_,_,⟨by simp,fun p A=>by simp at A;subst A;exact J,rfl,fun p A=>by simp at A;subst A;rfl,fun i p h=>by cases i with|zero=>cases h;simp|succ i=>simp at h,fun i d p e _ _ h=>by lia⟩,rfl,rfl,rfl⟩;rintro k g V ⟨L,G,R,M,K,N,b,hG,rfl,rfl⟩;have hLf:=b.few;unfold jI;have hne:=vX (S:=pZ L k G++[.lst []]) (i:=1) (j:=(pZ L k G).length) (xs:=nmD ((L.map (·.1)).drop k)) rfl (by rw[c6];rfl)
  ((try walk_at"w");repeat(simp only[hne];try walk_at"w"))
  have T:(G++[Ob.lst []]).all (Ob.und 0)=true:=by rw[ca,hG];rfl
  have hst:pZ L k G++[Ob.lst []]=pZ L k (G++[.lst []]):=rfl;by_cases I:k<L.length
  ·obtain ⟨s,Z⟩:∃ p,L[k]? = some p:=⟨_,gG1 I⟩;have E:(L.map (·.1)).drop k=s.1::(L.map (·.1)).drop (k+1):=by
    rw[bC (by rw[lM1];exact I)]
    congr 1
    rw[List.getElem_map];rw[gG1 I]at Z;cases Z;rfl
   rw[if_pos (by rw[E];rfl)];refine⟨by lia,?_⟩;have hp0:=b.inn s (gM1 Z);obtain⟨r,o⟩:=qh hw hp0;have hr4:=hw.le _ r o;rw[hst];unfold jH;refine dy (fun g V=>V=pZ L (k+1) (G++[.lst []])/\g=[some (webD w),some (.ref 0),some (.ref 1),some (.int (s.1:Nat)),M,K,N]) ?_ ?_
   ·unfold dk;rw[cX];refine fv ?_;walk_at"w";refine⟨1,nmD ((L.map (·.1)).drop k),rfl,rfl,?_⟩;refine uR (n:=1) (i:=0) (xs:=nmD ((L.map (·.1)).drop k)) (x:=.int (s.1:Nat)) rfl (by rw[E];rfl) (by lia) ?_;walk_at"w";rw[E];exact⟨rfl,trivial⟩
   rintro g V ⟨rfl,rfl⟩;unfold ee;rw[cX];refine kT (xs:=r.map pD) ?_ ?_
   ·obtain⟨p,e,rfl⟩:=tU (S:=pZ L (k+1) (G++[.lst []])) (Q:=fun p=>p=(.tup (r.map pD),pZ L (k+1) (G++[.lst []]))) o rfl;simp only[cT,cU,m2,b2,mV,gC1,ci,oS1,e]
   refine dP (fun j g V=>∃l y4 y5 y6,j<=r.length/\BJ m w l k j/\l[k]?=some s/\V=pZ l (k+1) (G++[.lst []])/\g=[some (webD w),some (.ref 0),some (.ref 1),some (.int (s.1:Nat)),y4,y5,y6]) _ 0 _ _ ⟨L,_,_,_,by lia,b,Z,rfl,rfl⟩ (fun _ _ _ _=>rfl) ?_ ?_
   ·rintro j dd P g V ⟨l,y4,y5,y6,hj,q,c,rfl,rfl⟩;rw[fb,gP1]at P;obtain⟨z,hz,rfl⟩:=oM1.mp P;obtain⟨goal,y,rfl⟩:=oM1.mp hz;have hjlt:=(gE1.mp y).1;rw[bu]at *
    have C:At w s.1 j goal:=⟨r,o,y⟩;have hLf':=q.few;have X:=lF q.nd (gM1 c);have Y:l≠[]:=fun z=>by rw[z]at c;simp at c
    unfold pD;walk_at"w";unfold jJ
    ((try walk_at"w");repeat(simp only[zd (S:=pZ l (k+1) (G++[.lst []])) (n:=0) (F:=dF l) rfl];try walk_at"w"))
    by_cases u:goal.1∈l.map (·.1)
    ·obtain⟨p',hp',e'⟩:=bQ.mp u;have t:=lF q.nd hp';rw[e']at t;rw[t,if_neg (by simp)];exact⟨l,_,_,_,by lia,q.old c C u,c,rfl,rfl⟩
    ·rw[zG u,if_pos (by simp)]
     ((try walk_at"w");repeat(simp only[Dt (S:=pZ l (k+1) (G++[.lst []])) (n:=0) (F:=dF l) rfl X];try walk_at"w"))
     have hkl:=(gE1.mp c).1;have hpl:s.2.length<=8:=by
      have h1:=q.len k s c;lia
     refine⟨c8 (by rw[dD];lia),?_⟩;rw[i7]
     ((try walk_at"w");repeat(simp only[D7 (S:=pZ l (k+1) (G++[.lst []])) (n:=0) (v:=goal.1) (F:=dF l) (d:=.tup (nmD (s.2++[j]))) rfl (by unfold dF;simpa using Y) (by unfold dF;rw[lM1];lia)];try walk_at"w"))
     rw[Bw u];refine fv ?_;walk_at"w";refine⟨1,nmD ((l.map (·.1)).drop (k+1)),rfl,rfl,?_⟩;refine(iu (n:=1) (xs:=nmD ((l.map (·.1)).drop (k+1))) rfl).mpr ⟨c8 (by rw[dD,aG,lM1];lia),?_⟩;refine⟨l++[(goal.1,s.2++[j])],_,_,_,by lia,q.new c C (hw.to _ _ _ C) u,by rw[gL1 hkl];exact c,?_,rfl⟩;unfold pZ;rw[b7,List.drop_append_of_le_length (by rw[lM1];lia)];simp[nmD]
   ·rintro g V ⟨l,y4,y5,y6,hj,q,c,rfl,rfl⟩;rw[e9,lM1,bu]at q;refine⟨rfl,l,_,_,_,_,_,⟨q.nd,q.inn,q.hd,q.ok,q.len,fun i d p e h1 h2 h3=>q.cl i d p e h1 h2 ?_⟩,T,rfl,rfl⟩;rcases(show i<k\/i=k by lia)with h|rfl
    ·exact .inl h
    ·rw[c]at h1;cases h1;obtain⟨row',g1,g2⟩:=h2;rw[o]at g1;cases g1;exact .inr ⟨rfl,(gE1.mp g2).1⟩
  ·rw[if_neg (by rw[List.drop_of_length_le (by rw[lM1];lia)];decide)];exact⟨L,k,G++[.lst []],_,_,_,_,b,by lia,T,rfl,rfl⟩
 rintro g V ⟨L,a,G,R,M,K,N,b,ha,hG,rfl,rfl⟩;have U:∀v,∃x:List Nat,v<m->x.length<=8/\fN w 0 x=some v/\df (dF L) (Sum.inl (v:Int))=some (.tup (nmD x))/\(v=0->x=[]):=fun v=>by
  by_cases O:v<m
  ·obtain⟨p,A,e⟩:=bQ.mp (b.all hw ha v O);have h1:=lF b.nd A;have h5:=b.ok p A;rw[e]at h1 h5;obtain⟨i,hi⟩:=aX A;have h2:=b.len i p hi;have h3:=(gE1.mp hi).1;have h4:=b.few;refine⟨p.2,fun _=>⟨by lia,h5,h1,fun z=>?_⟩⟩;subst z;have h6:=lF b.nd (gM1 b.hd);dsimp only at h6;rw[h6]at h1;have h7:D.tup (nmD []) = .tup (nmD p.2):=by simpa using h1
   exact(EY h7).symm
  ·exact⟨[],fun h=>(O h).elim⟩
 obtain⟨f,hf⟩:=Classical.axiomOfChoice U
 ((try walk_at"w");repeat(simp only[jb];try walk_at"w"))
 rw[hw.len];refine⟨fB (by lia),?_⟩;rw[kH,Int.toNat_natCast];refine iM (f:=fun j:Nat=>D.int j) (fun v=>D.tup (nmD (f v))) (fun g=>∃x,g=[x,some (.ref 0)]) rfl (List.range m) _ ⟨_,rfl⟩ ?_ ?_
 ·rintro v O g ⟨x,rfl⟩;walk_at"w";refine W.of (x:=(.tup (nmD (f v)),pZ L a G)) ?_ ⟨rfl,rfl,_,rfl⟩;exact Dt rfl (hf v (ah.mp O)).2.2.1
 ·rintro g ⟨x,rfl⟩;refine⟨c8 (by rw[lM1,bY];lia),?_⟩;walk_at"w";refine⟨_,(List.range m).map f,rfl,?_,?_,⟨by simp,fun x hx=>?_,?_,fun v x h=>?_⟩⟩
  ·first|(rw[c6];show some _=some _;rw[oE,aZ];rfl)|(unfold oE;rw[aZ,c6];rfl)
  ·rw[ca,Bd hG];show(D.unds 0 _&&true)=true;rw[br];exact dG fun v _=>by rw[D.und];exact fL _
  ·obtain⟨v,O,rfl⟩:=bQ.mp hx;exact(hf v (ah.mp O)).1
  ·rw[gP1,cA J,oP1,(hf 0 J).2.2.2 rfl]
  ·rw[gP1]at h;obtain⟨v',H,rfl⟩:=oM1.mp h;have B:=(gE1.mp H).1;rw[bY]at B;rw[cA B]at H;cases H;exact(hf v B).2.1
theorem HV{m r:Nat}{w:c5}{ws:List Nat}{S:Sto}{Q:D×Sto->Prop}(hw:WebJ m w)(hr:r<m)(q:Q (oD (fN w r ws),S)):W (cY 3 ij [webD w,.int r,.tup (nmD ws)] S) Q:=by
 refine ge rfl (by rw[D.unds,dI,D.unds,D.unds,D.und,D.und,fL];rfl) ?_;unfold ij;refine kn ?_;unfold oz;refine Df ?_;walk_at"w";rw[i4];refine jR (fun i o V=>∃(h:Nat) (s:Option D),h<m/\fN w r ws=fN w h (ws.drop i)/\V=[]/\o=[some (webD w),some (.int (h:Nat)),some (.tup (nmD ws)),s]) _ 0 _ _ ⟨r,none,hr,rfl,rfl,rfl⟩ (fun _ _ _ _=>rfl) ?_ ?_
 ·rintro i d l o V ⟨h,s,y,c,rfl,rfl⟩;dsimp only at l;rw[nmD,gP1]at l;obtain⟨x,p,rfl⟩:=oM1.mp l;have j:=(gE1.mp p).1;obtain⟨a,b⟩:=qh hw y;rw[bu]at *
  have v:ws.drop i=x::ws.drop (i+1):=by
   rw[bC j];rw[gG1 j]at p;cases p;rfl
  rw[v,fN,io b]at c;walk_at"w";unfold lz;refine zR (fun t=>t=(decide (a.length<=x),[])) ?_ (fun V e=>?_) fun V e=>?_
  ·have g:∀S:Sto,F3 (.int (h:Nat)) .non S=some (.bl false,S):=fun S=>rfl
   ((try walk_at"w");repeat(simp only[g];try walk_at"w"))
   refine tU b ?_;walk_at"w";rw[lM1]
   congr 1
   rw[bx,decide_eq_true_eq,decide_eq_true_eq];lia
  ·injection e with g n;subst n;have k:a.length<=x:=of_decide_eq_true g.symm;rw[bI k]at c;walk_at"w";rw[c]at q;exact .inr ⟨_,rfl,.inr ⟨_,rfl,rfl,q⟩⟩
  ·injection e with g n;subst n;have u:x<a.length:=by
    have:=of_decide_eq_false g.symm;lia
   have f:a[x]?=some a[x]:=gG1 u;generalize a[x]=e' at f;rw[f]at c;walk_at"w";refine tU b ?_;refine jm (i:=x) (x:=pD e') (by rw[gP1,f];rfl) ?_;refine jm (i:=0) (x:=.int (e'.1:Nat)) rfl ?_;walk_at"w";exact .inl ⟨e'.1,_,hw.to h x e' ⟨a,b,f⟩,c,rfl⟩
 ·rintro o V ⟨h,s,y,c,rfl,rfl⟩;dsimp only at c;rw[dD,bu,List.drop_length,fN]at c;rw[c]at q;refine .inl ⟨rfl,?_⟩;walk_at"w";exact⟨rfl,q⟩
def cnd(w:c5)(ws:List (List Nat))(r:Nat):List Nat:=ws.map fun x=>(fN w r x).getD 0
def Gd(m:Nat)(w:c5)(ws:List (List Nat))(r:Nat):Prop:=(∀x∈ws,(fN w r x).isSome=true)/\(cnd w ws r).Nodup /\ ∀i,i<m->Car w (cnd w ws r) i
def trs(m:Nat)(w:c5)(ws:List (List Nat))(k:Nat):List Nat:=(List.range k).filter fun r=>tf (Gd m w ws r)
def gD(m:Nat)(w:c5)(ws:List (List Nat))(k:Nat):List D:=(trs m w ws k).map fun r=>.tup (nmD (cnd w ws r))
theorem r9{m k:Nat}{w:c5}{ws:List (List Nat)}:gD m w ws (k+1)=gD m w ws k++if tf (Gd m w ws k)=true then[.tup (nmD (cnd w ws k))]else[]:=by
 unfold gD trs;rw[cC,List.filter_append,b7]
 congr 1
 cases h:tf (Gd m w ws k)with
 |true=>rw[List.filter_cons_of_pos (by exact h)];rfl
 |false=>rw[List.filter_cons_of_neg (by rw[h];decide)];rfl
theorem pX{m k:Nat}{w:c5}{ws:List (List Nat)}:(gD m w ws k).length<=k:=by
 unfold gD trs;rw[lM1];exact ai (cu ..) (by rw[bY];exact nR1 _)
theorem va{m k:Nat}{w:c5}{ws:List (List Nat)}:D.unds 0 (gD m w ws k)=true:=dG fun r _=>by rw[D.und];exact fL _
theorem Ak{m r:Nat}{w:c5}{ws:List (List Nat)}(hw:WebJ m w)(a:0<m)(hr:r<m):∀x∈cnd w ws r,x<m:=fun x b=>by
 obtain⟨y,_,rfl⟩:=bQ.mp b;cases h:fN w r y with
 |none=>exact a
 |some v=>exact vI hw hr h
theorem zP{S:Sto}{n:Nat}{α:Type}{g:α->Option Nat}:∀l:List α,xD (eqN S (n+1)) .non (l.map fun x=>oD (g x))=some (l.any fun x=>(g x).isNone)
 |[]=>rfl
 |x::l=>by
  have a:eqN S (n+1) (oD (g x)) .non=some ((g x).isNone):=by cases g x<;>rfl
  rw[mP1,xD,a,oS1,zP l];rfl
theorem sF{S:Sto}{α:Type}{g:α->Option Nat}{l:List α}:eI .non (.tup (l.map fun x=>oD (g x))) S=some (.bl (!l.any fun x=>(g x).isNone),S):=by
 simp only[eI,g9,k9,dj,oS1,dr,show(60:Nat)=59+1 from rfl,zP,oP1]
theorem uo{α:Type}{g:α->Option Nat}:∀{l:List α},(l.any fun x=>(g x).isNone)=false->(l.map fun x=>oD (g x))=nmD (l.map fun x=>(g x).getD 0)
 |[],_=>rfl
 |x::l,h=>by
  rw[aN,Bool.or_eq_false_iff]at h;have ih:=uo h.2;rw[mP1,ih];cases hx:g x with
  |none=>rw[hx]at h;cases h.1
  |some v=>unfold nmD;rw[mP1,mP1,hx];rfl
theorem D6{rs:List Nat}{S:Sto}(a:rs.length<=100):fz (.tup (nmD rs)) S=some (.ref S.length,S++[.iset (ddI (rs.map fun(r:Nat)=>(r:Int)))]):=by
 unfold fz;rw[iS];dsimp only;rw[vT,oS1,if_pos (by rw[lM1];unfold scanBound;lia)]
theorem Gc{rs:List Nat}:((((ddI (rs.map fun(r:Nat)=>(r:Int))).length:Nat):Int) == (((nmD rs).length:Nat):Int))=tf rs.Nodup:=yg (by
 have:=(ol (rs.map fun(r:Nat)=>(r:Int)) [] aW).2;rw[aO,bu,lM1,cf,rZ]at this;rw[beq_iff_eq,dD,<- this];unfold ddI;lia)
theorem pc{α:Type}{f:α->D}{k:α->Int}:∀{l:List α},(∀x∈l,ik (f x)=some (k x))->l.Pairwise (fun a b=>k a<k b)->jF (l.map f)=true
 |[],_,_=>rfl
 |x::l,h,p=>by
  rw[bO]at p;rw[mP1,jF,h x mS1,pc (fun y c=>h y (mC1 _ c)) p.2,br];dsimp only;rw[bd];intro y c;obtain⟨z,d,rfl⟩:=bQ.mp c;rw[h z (mC1 _ d)];exact decide_eq_true (p.1 z d)
theorem xp{m r:Nat}{w:c5}{ws:List (List Nat)}(hk:C4 m w ws):ik (.tup (nmD (cnd w ws r)))=some (r:Int):=by
 have h:=hk.hd;cases ws with
 |nil=>cases h
 |cons x ws=>
  rw[ci]at h;cases h;rfl
theorem yq{m k n:Nat}{w:c5}{ws:List (List Nat)}{S:Sto}(hk:C4 m w ws)(hm:k<=8)(hn:S[n]?=some (.lst (gD m w ws k))):gy (.ref n) S=some (.ref S.length,S++[.lst (gD m w ws k)]):=by
 have b:=pX (m:=m) (k:=k) (w:=w) (ws:=ws);have a:jF (gD m w ws k)=true:=pc (k:=fun r:Nat=>(r:Int)) (fun r _=>xp hk) ((List.pairwise_lt_range.sublist List.filter_sublist).imp fun h=>by lia);unfold gy;rw[fU hn];dsimp only;unfold gD at *
 generalize trs m w ws k=l at *
 cases l with
 |nil=>rfl
 |cons x l=>
  have:jW ((x::l).map fun r=>D.tup (nmD (cnd w ws r)))=none:=rfl;rw[this];dsimp only;rw[a,decide_eq_true (by lia)];rfl
theorem zx{m:Nat}{w:c5}(hw:WebJ m w)(u:0<m)(hm:m<=8):W (f0 [webD w] []) fun p=>∃k ws,p.1 = .ref k/\p.2[k]?=some (.lst (gD m w ws m))/\p.2.all (Ob.und 0)=true/\C4 m w ws:=by
 unfold f0;refine kn ?_;unfold lR;refine dy (fun a V=>∃G j ws,C4 m w ws/\G.all (Ob.und 0)=true/\G[j]?=some (.lst (oE ws))/\V = .lst (gD m w ws 0)::G/\a=[some (webD w),some (.ref 0),some (.ref (j+1)),none,none]) ?_ ?_
 ·walk_at"w";refine An rfl (by rw[D.unds,dI];rfl) ((A2 hw u hm).mono ?_);rintro p ⟨k,ws,h1,h2,Y,Z⟩;refine⟨k,oE ws,h1,h2,Y,fun G j b g M=>?_⟩;walk_at"w";obtain⟨N,rfl⟩:∃N,j=N+1:=⟨j-1,by simp at M;lia⟩;refine⟨G,N,ws,Z,g,b,rfl,rfl⟩
 rintro a V ⟨G,j,ws,L,g,b,rfl,rfl⟩;refine dy (fun a V=>∃G A B,G.all (Ob.und 0)=true/\V = .lst (gD m w ws m)::G/\a=[some (webD w),some (.ref 0),some (.ref (j+1)),A,B]) ?_ ?_
 ·((try walk_at"w");repeat(simp only[jb];try walk_at"w"))
  rw[hw.len];refine⟨fB (by lia),?_⟩;rw[Int.toNat_natCast];refine dP (fun i a V=>∃G A B,i<=m/\G.all (Ob.und 0)=true/\G[j]?=some (.lst (oE ws))/\V = .lst (gD m w ws i)::G/\a=[some (webD w),some (.ref 0),some (.ref (j+1)),A,B]) _ 0 _ _ ⟨G,_,_,by lia,g,b,rfl,rfl⟩ (fun _ _ _ _=>rfl) ?_ ?_
  ·rintro i d s a V ⟨G,A,B,hi,g,b,rfl,rfl⟩;have o:=(gE1.mp s).1;rw[eg]at o;rw[kH,gP1,cA o]at s;cases s;rw[bu]at *
   have O:(cnd w ws i).length=m:=by unfold cnd;rw[lM1];exact L.len
   have P:=Ak (ws:=ws) hw u o;have I:∀X:Ob,(X::G)[j+1]?=some (.lst (oE ws)):=fun X=>by rw[gC1];exact b
   walk_at"w";unfold jK;refine dy (fun a V=>∃c,c.all (Ob.und 0)=true/\c[j]?=some (.lst (oE ws))/\V = .lst (gD m w ws i)::c/\a=[some (webD w),some (.ref 0),some (.ref (j+1)),some (.int (i:Nat)),some (.tup (ws.map fun x=>oD (fN w i x)))]) ?_ ?_
   ·walk_at"w";refine dz (I _) ?_;unfold oE;refine iM (f:=fun x:List Nat=>D.tup (nmD x)) (fun x=>oD (fN w i x)) (fun r=>∃x,r=[x,some (webD w),some (.int (i:Nat))]) (d3 (I _)) ws _ ⟨_,rfl⟩ ?_ ?_
    ·rintro x C r ⟨y,rfl⟩;walk_at"w";refine HV hw o ?_;exact⟨rfl,rfl,_,rfl⟩
    ·rintro a _;refine⟨c8 (by rw[lM1,L.len];lia),?_⟩;walk_at"w";refine dz (by rw[gC1,c6];rfl) ?_;walk_at"w";refine⟨G++[.lst (ws.map fun x=>oD (fN w i x))],?_,?_,rfl,trivial⟩
     ·rw[ca,g];show(D.unds 0 _&&true)=true;rw[br];exact dG fun x _=>EX _
     ·rw[gL1 (gE1.mp b).1];exact b
   rintro a V ⟨G,g,b,rfl,rfl⟩;have H:W (m4 (mB (m2 (b2 eI) (mC D.non) (mV 4))) (m4 (mB (m2 (b2 gEq) (mN (b1 lK) (cT (mN (b1 fz) (cT (mV 4) cU)) cU)) (mN (b1 dH) (cT (mV 4) cU)))) (mTr (mN (cY 2 fx) (cT (mV 0) (cT (mV 4) cU))))) [some (webD w),some (.ref 0),some (.ref (j+1)),some (.int (i:Nat)),some (.tup (ws.map fun x=>oD (fN w i x)))] (Ob.lst (gD m w ws i)::G)) fun p=>p.1=tf (Gd m w ws i) /\ ∃c,c.all (Ob.und 0)=true/\p.2=Ob.lst (gD m w ws i)::(G++c):=by
    cases q:ws.any fun x=>(fN w i x).isNone with
    |true=>
     ((try walk_at"w");repeat(simp only[sF,q];try walk_at"w"))
     refine⟨(yf ?_).symm,[],rfl,by rw[ay]⟩;rintro⟨h,_⟩;obtain⟨x,C,e⟩:=bz.mp q;have:=h x C;rw[Option.isSome_iff_ne_none]at this;exact this (Option.isNone_iff_eq_none.mp e)
    |false=>
     have E:∀x∈ws,(fN w i x).isSome=true:=fun x C=>by
      rw[aw]at q;have:=q x C;cases h:fN w i x with
      |none=>rw[h]at this;exact absurd rfl this
      |some v=>rfl
     ((try walk_at"w");repeat(simp only[sF,q];try walk_at"w"))
     rw[uo q];have F:=D6 (rs:=cnd w ws i) (S:=Ob.lst (gD m w ws i)::G) (by lia);have T:(ws.map fun x=>(fN w i x).getD 0)=cnd w ws i:=rfl;rw[T]
     ((try walk_at"w");repeat(simp only[F];try walk_at"w"))
     refine oA (by rw[gC1,c6];rfl) ?_;walk_at"w";rw[Gc];have l:[Ob.iset (ddI ((cnd w ws i).map fun(r:Nat)=>(r:Int)))].all (Ob.und 0)=true:=rfl;by_cases hnd:(cnd w ws i).Nodup
     ·rw[A7 hnd];walk_at"w";refine Cz hw u O P ?_;walk_at"w";exact⟨I7 ⟨fun h=>⟨E,hnd,h⟩,fun h=>h.2.2⟩,_,l,rfl⟩
     ·rw[yf hnd];walk_at"w";exact⟨(yf fun h=>hnd h.2.1).symm,_,l,rfl⟩
   unfold eV;rw[cX];refine H.mono ?_;rintro⟨t,V⟩ ⟨R,c,l,Q⟩;dsimp only at R Q ⊢;subst R;subst Q;have J:(G++c).all (Ob.und 0)=true:=by rw[ca,g,l];rfl
   have K:(G++c)[j]?=some (.lst (oE ws)):=by rw[gL1 (gE1.mp b).1];exact b
   cases hgd:tf (Gd m w ws i)with
   |true=>
    rw[if_pos rfl];unfold dX;rw[cX];refine fv ?_;walk_at"w";refine⟨0,gD m w ws i,rfl,rfl,?_⟩;have hl:=pX (m:=m) (k:=i) (w:=w) (ws:=ws);refine(iu (n:=0) (xs:=gD m w ws i) rfl).mpr ⟨c8 (by lia),?_⟩;walk_at"w";have q:(ws.any fun x=>(fN w i x).isNone)=false:=by
     rw[aw];intro x C;have:=(A8.mp hgd).1 x C;cases h:fN w i x with
     |none=>rw[h]at this;cases this
     |some v=>intro z;cases z
    rw[uo q];refine⟨G++c,_,_,by lia,J,K,?_,rfl⟩;rw[r9,hgd,if_pos rfl];rfl
   |false=>
    rw[if_neg (by decide)];walk_at"w";refine⟨G++c,_,_,by lia,J,K,?_,rfl⟩;rw[r9,hgd,if_neg (by decide),ay]
  ·rintro a V ⟨G,A,B,hi,g,b,rfl,rfl⟩;rw[eg,bu];exact⟨rfl,G,_,_,g,rfl,rfl⟩
 rintro a V ⟨G,A,B,g,rfl,rfl⟩;have U:=yq (n:=0) (S:=Ob.lst (gD m w ws m)::G) L hm rfl
 ((try walk_at"w");repeat(simp only[U];try walk_at"w"))
 refine⟨_,ws,rfl,by first|(rw[gC1,c6];rfl)|simp,?_,L⟩;rw[bw,ca,g,Ob.und,va];show(true&&(true&&(D.unds 0 _&&true)))=true;rw[va];rfl
def gB(sg:List Int)(r:Nat):Int:=sg.getD r 0
abbrev sgD(sg:List Int):D:=.tup (sg.map D.int)
theorem ff(sg:List Int):(sgD sg).und 0=true:=by rw[D.und];exact Mi.dG fun _ _=>rfl
theorem C5{m r:Nat}{sg:List Int}{S:Sto}{Q:D×Sto->Prop}(a:sg.length=m)(hr:r<m)(q:Q (.int (gB sg r),S)):W (c7 (sgD sg) (.int r) S) Q:=
 jm (i:=r) (x:=.int (gB sg r)) (by rw[gP1,gG1 (by lia)];unfold gB;rw[bo,gG1 (by lia)];rfl) q
theorem Iw{S:Sto}(h:S.all (Ob.und 0)=true):S.all (Ob.und S.length)=true:=by
 rw[bd]at *
 exact fun o a=>ig (aR _) (h o a)
theorem pk{S:Sto}{x n:Nat}{cs:List Nat}(h:S[n]?=some (.lst (nmD cs))):eI (.int x) (.ref n) S=some (.bl (!cs.contains x),S):=by
 simp only[eI,g9,k9,h,dj,oS1,dr,show(60:Nat)=59+1 from rfl,re,oP1]
theorem yF{m:Nat}{w:c5}(hw:WebJ m w):(w.map fun a=>D.tup (a.map pD))=(List.range m).map fun r=>D.tup ((eG w r).map pD):=by
 refine bH fun i=>?_;rw[gP1,gP1];by_cases h:i<m
 ·obtain⟨a,b⟩:=qh hw h;rw[b,cA h,oP1,oP1,io b]
 ·rw[bI (by rw[hw.len];lia),bI (by rw[bY];lia)];rfl
theorem yA{m:Nat}{sg:List Int}(hs:sg.length=m):sg.map D.int=(List.range m).map fun r=>D.int (gB sg r):=by
 refine bH fun i=>?_;rw[gP1,gP1];by_cases h:i<m
 ·rw[cA h,gG1 (by lia)];unfold gB;rw[oP1,oP1,bo,gG1 (by lia)];rfl
 ·rw[bI (by lia),bI (by rw[bY];lia)];rfl
theorem v9{f:D->D->Option Bool}:∀{xs ys:List D},(∀x∈xs,∀y∈ys,∃t,f x y=some t) -> ∃t,uH f xs ys=some t
 |[],[],_=>⟨true,rfl⟩
 |[],_::_,_=>⟨false,rfl⟩
 |_::_,[],_=>⟨false,rfl⟩
 |x::xs,y::ys,h=>by
  obtain⟨a,e⟩:=h x mS1 y mS1;obtain⟨b,c⟩:=v9 (xs:=xs) (ys:=ys) fun u g v d=>h u (mC1 _ g) v (mC1 _ d);exact⟨a&&b,by rw[uH,e,c];rfl⟩
theorem tE{f:D->D->Option Bool}:∀{xs:List D},(∀x∈xs,f x x=some true)->uH f xs xs=some true
 |[],_=>rfl
 |x::xs,h=>by rw[uH,h x mS1,tE fun y a=>h y (mC1 _ a)];rfl
theorem kq{f:D->D->Option Bool}{a b c d:D}{s t:Bool}(h1:f a c=some s)(h2:f b d=some t):uH f [a,b] [c,d]=some (s&&(t&&true)):=by
 rw[uH,h1,uH,h2];rfl
structure Cd (cd:Nat->D):Prop where
 und:∀a,(cd a).und 0=true
 eq:∀S n a b,∃t,eqN S (n+2) (cd a) (cd b)=some t
 self:∀S n a,eqN S (n+2) (cd a) (cd a)=some true
theorem GK{S:Sto}{n:Nat}{i j:Int}:eqN S (n+1) (.int i) (.int j)=some (i == j):=rfl
theorem Gi(c:Nat->Nat):Cd fun r=>.int (c r:Nat):=⟨fun _=>rfl,fun _ _ _ _=>⟨_,rfl⟩,fun S n a=>by show some ((c a:Int) == (c a:Int))=_;rw[beq_self_eq_true]⟩
theorem Gh(f:Nat->Nat)(g:Nat->Int):Cd fun r=>.tup [.int (f r:Nat),.int (g r)]:=⟨fun _=>rfl,fun S n a b=>⟨_,kq (f:=eqN S (n+1)) GK GK⟩,fun S n a=>by
 have:=kq (f:=eqN S (n+1)) (a:=.int (f a:Nat)) (c:=.int (f a:Nat)) (b:=.int (g a)) (d:=.int (g a)) GK GK;rw[beq_self_eq_true,beq_self_eq_true]at this;exact this⟩
def vD(w:c5)(cd:Nat->D)(r:Nat):D:=.tup [cd r,.tup ((eG w r).map fun e=>.tup [cd e.1,.int (e.2:Nat)])]
theorem JL{w:c5}{c:Nat->D}(h:Cd c)(S:Sto)(n a b:Nat):∃t,eqN S (n+5) (vD w c a) (vD w c b)=some t:=by
 obtain⟨s,j⟩:=h.eq S (n+2) a b;obtain⟨t,d⟩:=v9 (f:=eqN S (n+3)) (xs:=(eG w a).map fun e=>.tup [c e.1,.int (e.2:Nat)]) (ys:=(eG w b).map fun e=>.tup [c e.1,.int (e.2:Nat)]) fun x i y l=>by
  obtain⟨e,_,rfl⟩:=bQ.mp i;obtain⟨k,_,rfl⟩:=bQ.mp l;obtain⟨u,g⟩:=h.eq S n e.1 k.1;exact⟨_,kq (f:=eqN S (n+2)) g GK⟩
 exact⟨_,kq (f:=eqN S (n+4)) j d⟩
theorem Ea{w:c5}{c:Nat->D}(h:Cd c)(S:Sto)(n a:Nat):eqN S (n+5) (vD w c a) (vD w c a)=some true:=by
 have i:=tE (f:=eqN S (n+3)) (xs:=(eG w a).map fun e=>D.tup [c e.1,.int (e.2:Nat)]) fun x j=>by
  obtain⟨e,_,rfl⟩:=bQ.mp j;have:=kq (f:=eqN S (n+2)) (b:=.int (e.2:Nat)) (d:=.int (e.2:Nat)) (h.self S n e.1) GK;rw[beq_self_eq_true]at this;exact this
 have g:eqN S (n+4) (.tup ((eG w a).map fun e=>D.tup [c e.1,.int (e.2:Nat)])) (.tup ((eG w a).map fun e=>D.tup [c e.1,.int (e.2:Nat)]))=some true:=i;exact kq (f:=eqN S (n+4)) (h.self S (n+2) a) g
theorem DO{w:c5}{a:Nat->D}(h:Cd a)(r:Nat):(vD w a r).und 0=true:=by
 unfold vD;rw[D.und,D.unds,h.und,D.unds,D.und,dG (fun e _=>by rw[D.und,D.unds,h.und];rfl)];rfl
theorem tw{f:D->D->Option Bool}{x:D}:∀{ys:List D},(∀y∈ys,∃t,f y x=some t) -> ∃bs,tz f x ys=some bs
 |[],_=>⟨[],rfl⟩
 |y::ys,h=>by
  obtain⟨a,e⟩:=h y mS1;obtain⟨b,c⟩:=tw (ys:=ys) fun v d=>h v (mC1 _ d);exact⟨a::b,by rw[tz,e,c];rfl⟩
theorem zU{n:Nat}{ys:List D}{x:D}{S:Sto}(hn:S[n]?=some (.lst ys))(g:ys.length<=100)(hx:x∈ys)(he:∀y∈ys,∃t,eqN S dr y x=some t)(hs:eqN S dr x x=some true):∃j,j<ys.length/\oa (.ref n) x S=some (.int (j:Nat),S):=by
 obtain⟨bs,e⟩:=tw he;obtain⟨h1,h2⟩:=rq _ _ e;obtain⟨r,c⟩:=aX hx;have f:=(gE1.mp c).1;have a:bs[r]?=some bs[r]:=gG1 (by lia);have b:=h2 r x _ c a;rw[hs]at b;obtain⟨j,d⟩:∃j,bs.findIdx? id=some j:=by
  cases h:bs.findIdx? id with
  |some j=>exact⟨j,rfl⟩
  |none=>
   rw[List.findIdx?_eq_none_iff]at h;have:=h _ (gM1 a);rw[<- Option.some.inj b]at this;cases this
 refine⟨j,?_,?_⟩
 ·rw[<- h1];exact(bK.mp d).1
 ·simp only[oa,hn,e,oS1];rw[if_pos (by lia),d];rfl
theorem Hl{m k:Nat}{P:Nat->Nat->Prop}(h:∀r,r<m -> ∃j,j<k/\P r j):∃c:Nat->Nat,∀r,r<m->c r<k/\P r (c r):=
 haveI:=Classical.propDecidable
 ⟨fun r=>if h':r<m then(h r h').choose else 0,fun r a=>by dsimp only;rw[dif_pos a];exact(h r a).choose_spec⟩
theorem A4{m p:Nat}{w:c5}{a:Nat->D}{B:Sto}{h x3 x4 x5 x6:Option D}{Q:Fl×Ev×Sto->Prop}(hw:WebJ m w)(hm:m<=8)(hc:Cd a)(hp:B[p]? = some (.lst ((List.range m).map a)))(q:∀G F (c:Nat->Nat) x4' x5' x6',G.all (Ob.und 0)=true->(B++G)[F]?=some (.lst ((List.range m).map fun r=>D.int (c r:Nat)))->(∀r,r<m->c r<m)->Q (.nx,[some (webD w),h,some (.ref F),x3,x4',x5',x6',none,none],B++G)):
  W (gm [some (webD w),h,some (.ref p),x3,x4,x5,x6,none,none] B) Q:=by
 have A:=(gE1.mp hp).1;have E:∀Y,(B++Y)[p]?=some (.lst ((List.range m).map a)):=fun Y=>by rw[gL1 A];exact hp
 unfold gm;refine dy (fun r V=>V=B++[.lst []]/\r=[some (webD w),h,some (.ref p),x3,some (.ref B.length),x5,x6,none,none]) ?_ ?_
 ·walk_at"w"
 rintro r V ⟨rfl,rfl⟩;refine dy (fun r V=>∃G n l,G.all (Ob.und 0)=true/\V=B ++ .lst ((List.range m).map (vD w a))::G/\r=[some (webD w),h,some (.ref p),x3,some (.ref B.length),n,l,none,none]) ?_ ?_
 ·unfold ee;rw[cX];refine kT (xs:=w.map fun b=>.tup (b.map pD)) rfl ?_;refine dP (fun i r V=>∃G n l,i<=m/\G.all (Ob.und 0)=true/\V=B ++ .lst ((List.range i).map (vD w a))::G/\r=[some (webD w),h,some (.ref p),x3,some (.ref B.length),n,l,none,none]) _ 0 _ _ ⟨[],_,_,by lia,rfl,rfl,rfl⟩ (fun _ _ _ _=>rfl) ?_ ?_
  ·rintro i O o r V ⟨G,n,l,hi,v,rfl,rfl⟩;rw[fb,gP1]at o;obtain⟨z,M,rfl⟩:=oM1.mp o;obtain⟨b,g,rfl⟩:=oM1.mp M;have C:i<m:=by rw[<- hw.len];exact(gE1.mp g).1
   have L:=hw.le i b g;have H:∀r,r<m->((List.range m).map a)[r]?=some (a r):=fun r j=>by rw[gP1,cA j];rfl
   have k:∀(X:Ob) (Y:Sto),(B++X::Y)[B.length]?=some X:=fun X Y=>by rw[c6];rfl
   rw[bu]at *
   walk_at"w";unfold iL dX;rw[cX];refine fv ?_;walk_at"w";refine⟨B.length,(List.range i).map (vD w a),rfl,k _ _,?_⟩;refine gz (E _) (H i C) ?_;walk_at"w";rw[i4];refine iM (f:=pD) (fun e=>.tup [a e.1,.int (e.2:Nat)]) (fun t=>∃I h,t=[I,h,some (.ref p)]) rfl b _ ⟨_,_,rfl⟩ ?_ ?_
   ·rintro e K t ⟨I,h,rfl⟩;obtain⟨d,J⟩:=aX K;have:=hw.to i d e ⟨b,g,J⟩;rw[pD];walk_at"w";refine gz (E _) (H e.1 this) ?_;walk_at"w";exact⟨_,_,rfl⟩
   ·rintro t _;refine⟨c8 (by rw[lM1];lia),?_⟩;walk_at"w";refine dz (xs:=b.map fun e=>D.tup [a e.1,.int (e.2:Nat)]) (by first|(rw[dA,gC1,c6];rfl)|simp) ?_;walk_at"w";refine(iu (k _ _)).mpr ⟨c8 (by rw[lM1,bY];lia),?_⟩;refine⟨G++[.lst (b.map fun e=>.tup [a e.1,.int (e.2:Nat)])],_,_,by lia,?_,?_,rfl⟩
    ·rw[ca,v,bw,Ob.und,dG (fun e _=>by rw[D.und,D.unds,hc.und];rfl)];rfl
    ·have e:vD w a i = .tup [a i,.tup (b.map fun e=>.tup [a e.1,.int (e.2:Nat)])]:=by unfold vD;rw[io g]
     rw[cv _ _ (nR1 _),b5,cj,cC,b7,mP1,e];rfl
  ·rintro r V ⟨G,n,l,hi,v,rfl,rfl⟩;rw[e9,lM1,bu,hw.len];exact⟨rfl,G,_,_,v,rfl,rfl⟩
 rintro r V ⟨G,n,l,v,rfl,rfl⟩;have k:∀(Y:Sto),(B ++ .lst ((List.range m).map (vD w a))::Y)[B.length]?=some (.lst ((List.range m).map (vD w a))):=fun Y=>by rw[c6];rfl
 obtain⟨c,u⟩:∃c:Nat->Nat,∀r,r<m->c r<m/\oa (.ref B.length) (vD w a r) (B ++ .lst ((List.range m).map (vD w a))::G)=some (.int (c r:Nat),B ++ .lst ((List.range m).map (vD w a))::G):=Hl fun r j=>by
  have:=zU (x:=vD w a r) (k G) (by rw[lM1,bY];lia) (bQ.mpr ⟨r,ah.mpr j,rfl⟩) (fun y N=>by
   obtain⟨s,_,rfl⟩:=bQ.mp N;rw[show dr=55+5 from rfl];exact JL hc _ _ _ _) (by rw[show dr=55+5 from rfl];exact Ea hc _ _ _)
  rwa [lM1,bY]at this
 walk_at"w";refine dz (k _) ?_;refine iM (f:=vD w a) (fun r=>.int (c r:Nat)) (fun r=>∃x,r=[x,some (.ref B.length)]) (d3 (k _)) (List.range m) _ ⟨_,rfl⟩ ?_ ?_
 ·rintro r j t ⟨x,rfl⟩;walk_at"w";refine fv ?_;walk_at"w";refine⟨B.length,_,rfl,k _,?_⟩;refine W.of (u r (ah.mp j)).2 ?_;exact⟨rfl,rfl,_,rfl⟩
 ·rintro t _;refine⟨c8 (by rw[lM1,bY];lia),?_⟩;walk_at"w";refine q (.lst ((List.range m).map (vD w a))::(G++[.lst ((List.range m).map fun r=>.int (c r:Nat))])) _ c _ _ _ ?_ ?_ fun r j=>(u r j).1
  ·rw[bw,ca,v,Ob.und,dG (fun r _=>DO hc r),bw,Ob.und,dG (fun _ _=>rfl)];rfl
  ·first|(rw[dA,gC1,c6];rfl)|simp
theorem FC{m n:Nat}{w:c5}{sg:List Int}{U:Sto}{Q:D×Sto->Prop}(hw:WebJ m w)(T:0<m)(hm:m<=8)(hs:sg.length=m)(hU:U.all (Ob.und 0)=true)(hn:U[n]?=some (.lst (sg.map D.int)))(q:∀Z:List Nat,Z.length=m->(∀x∈Z,x<8)->Q (.tup (nmD Z),U)):W (cY 2 eU [webD w,.ref n] U) Q:=by
 refine tQ rfl (by rw[D.unds,dI];rfl) ?_;unfold eU;refine kn ?_;unfold j6;refine dy (fun r V=>∃G p b,G.all (Ob.und 0)=true/\(U++G)[p]?=some (.lst ((List.range m).map b))/\Cd b/\V=U++G/\r=[some (webD w),some (.ref n),some (.ref p),none,none,none,none,none,none]) ?_ ?_
 ·walk_at"w";refine Gx (xs:=w.map fun C=>.tup (C.map pD)) (ys:=sg.map D.int) rfl hn ?_;have K:=d3 hn;rw[yF hw,yA hs,zp_map];rw[yA hs]at K;refine iM (f:=fun r=>D.tup [.tup ((eG w r).map pD),.int (gB sg r)]) (fun r=>.tup [.int ((eG w r).length:Nat),.int (gB sg r)]) (fun r=>∃x0 x1,r=[x0,x1]) K (List.range m) _ ⟨_,_,rfl⟩ ?_ ?_
  ·rintro i hi r ⟨x0,x1,rfl⟩;walk_at"w";rw[lM1];exact⟨rfl,_,_,rfl⟩
  ·rintro r' _;refine⟨c8 (by rw[lM1,bY];lia),?_⟩;walk_at"w";refine⟨[.lst ((List.range m).map fun r=>.tup [.int ((eG w r).length:Nat),.int (gB sg r)])],U.length,_,?_,by rw[c6];rfl,Gh _ _,rfl,rfl⟩;rw[bw,Ob.und,dG (fun _ _=>rfl)];rfl
 rintro r V ⟨G,p,b,v,e,hc,rfl,rfl⟩;refine dy (fun r V=>∃G p c g l o u,G.all (Ob.und 0)=true/\(U++G)[p]?=some (.lst (nmD ((List.range m).map c)))/\(∀r,r<m->c r<m)/\V=U++G/\r=[some (webD w),some (.ref n),some (.ref p),g,l,o,u,none,none]) ?_ ?_
 ·walk_at"w";rw[show webD w = .tup (w.map fun C=>.tup (C.map pD))from rfl,i4];refine dP (fun t r V=>∃G p b g l o u,t<=m/\G.all (Ob.und 0)=true/\(U++G)[p]?=some (.lst ((List.range m).map b))/\Cd b/\(0<t -> ∃c:Nat->Nat,b=(fun r=>.int (c r:Nat)) /\ ∀r,r<m->c r<m)/\V=U++G/\r=[some (webD w),some (.ref n),some (.ref p),g,l,o,u,none,none]) _ 0 _ _ ⟨G,p,b,_,_,_,_,by lia,v,e,hc,(fun h=>by lia),rfl,rfl⟩ (fun _ _ _ _=>rfl) ?_ ?_
  ·rintro t d H r V ⟨G,p,b,g,l,o,u,ht,v,e,hc,_,rfl,rfl⟩;have E:=(gE1.mp H).1;dsimp only at E;rw[lM1,hw.len]at E;rw[bu]at *
   walk_at"w";refine A4 hw hm hc e fun G2 p' c' x4' x5' x6' h1 h2 h3=>?_;exact⟨rfl,G++G2,p',_,_,_,_,_,E,by rw[ca,v,h1];rfl,by rw[<- bj];exact h2,Gi c',fun _=>⟨c',rfl,h3⟩,by rw[bj],rfl⟩
  ·rintro r V ⟨G,p,b,g,l,o,u,ht,v,e,hc,hi,rfl,rfl⟩;dsimp only at hi;rw[lM1,bu,hw.len]at hi;obtain⟨c,rfl,L⟩:=hi T;refine⟨rfl,G,p,c,_,_,_,_,v,?_,L,rfl,rfl⟩;rw[e,nmD,aZ];rfl
 clear e hc v;rintro r V ⟨G,p,c,g,l,o,u,v,e,L,rfl,rfl⟩;obtain⟨B,R⟩:∃B,B=U++G:=⟨_,rfl⟩;rw[<- R]at e ⊢;have hBu:B.all (Ob.und 0)=true:=by rw[R,ca,hU,v];rfl
 have J:∀Y,(B++Y)[p]?=some (.lst (nmD ((List.range m).map c))):=fun Y=>by rw[gL1 (gE1.mp e).1];exact e
 have M:∀(X:Ob) (Y:Sto),(B++X::Y)[B.length]?=some X:=fun X Y=>by rw[c6];rfl
 refine dy (fun r V=>V=B++[.lst (nmD [])]/\r=[some (webD w),some (.ref n),some (.ref p),g,l,o,u,some (.ref B.length),none]) ?_ ?_
 ·walk_at"w"
  first|exact⟨rfl,trivial⟩|rfl|trivial
 rintro r V ⟨rfl,rfl⟩;refine dy (fun r V=>∃I F,F.length<=m/\(∀r,r<m->c r∈F)/\V=B++[.lst (nmD F)]/\r=[some (webD w),some (.ref n),some (.ref p),g,l,o,u,some (.ref B.length),I]) ?_ ?_
 ·walk_at"w";refine dz (J _) ?_;refine dP (fun i r V=>∃I F,i<=m/\F.length<=i/\(∀r,r<i->c r∈F)/\V=B++[.lst (nmD F)]/\r=[some (webD w),some (.ref n),some (.ref p),g,l,o,u,some (.ref B.length),I]) _ 0 _ _ ⟨_,[],by lia,nR1 _,(fun r h=>by lia),rfl,rfl⟩ ?_ ?_ ?_
  ·rintro i r V ⟨_,_,_,_,_,rfl,_⟩;exact d3 (J _)
  ·rintro i d H r V ⟨I,F,hi,O,a,rfl,rfl⟩;dsimp only at H;have N:=(gE1.mp H).1;rw[dD,lM1,bY]at N;rw[nmD,gP1,gP1,cA N]at H;cases H;rw[bu]at *
   walk_at"w";unfold iK
   ((try walk_at"w");repeat(simp only[pk (S:=B++[.lst (nmD F)]) (n:=B.length) (x:=c i) (cs:=F) (M _ _)];try walk_at"w"))
   cases hf:F.contains (c i)with
   |false=>
    rw[if_pos (by decide)];refine fv ?_;walk_at"w";refine⟨B.length,nmD F,rfl,M _ _,?_⟩;refine(iu (M _ _)).mpr ⟨c8 (by rw[dD];lia),?_⟩;refine⟨_,F++[c i],by lia,by rw[lA1];simp;lia,fun r A=>?_,?_,rfl⟩
    ·rcases cB.mp A with z|rfl
     ·exact ao _ (a r z)
     ·exact mA1 _ (bU.mpr rfl)
    ·rw[cv _ _ (nR1 _),b5,cj,i7]
   |true=>
    rw[if_neg (by decide)];refine⟨_,F,by lia,by lia,fun r A=>?_,rfl,rfl⟩;rcases cB.mp A with z|rfl
    ·exact a r z
    ·exact List.contains_iff_mem.mp hf
  ·rintro r V ⟨I,F,hi,O,a,rfl,rfl⟩;rw[dD,lM1,bY,bu]at O a;exact⟨rfl,_,F,O,a,rfl,rfl⟩
 rintro r V ⟨I,F,O,a,rfl,rfl⟩;obtain⟨k,hk⟩:∃k:Nat->Nat,∀r,r<m->k r<8/\oa (.ref B.length) (.int (c r:Nat)) (B++[.lst (nmD F)])=some (.int (k r:Nat),B++[.lst (nmD F)]):=Hl (k:=8) fun r A=>by
  obtain⟨j,h1,h2⟩:=zU (x:=.int (c r:Nat)) (M (.lst (nmD F)) []) (by rw[dD];lia) (bQ.mpr ⟨c r,a r A,rfl⟩) (fun y hy=>by
   obtain⟨s,_,rfl⟩:=bQ.mp hy;exact⟨_,rfl⟩) (by show some ((c r:Int) == (c r:Int))=_;rw[beq_self_eq_true])
  rw[dD]at h1;exact⟨j,by lia,h2⟩
 walk_at"w";refine dz (J _) ?_;rw[show nmD ((List.range m).map c)=(List.range m).map fun r=>D.int (c r:Nat) by rw[nmD,aZ];rfl]at J ⊢;refine iM (f:=fun r=>D.int (c r:Nat)) (fun r=>D.int (k r:Nat)) (fun r=>∃x,r=[x,some (.ref B.length)]) (d3 (J _)) (List.range m) _ ⟨_,rfl⟩ ?_ ?_
 ·rintro i hi r ⟨x,rfl⟩;walk_at"w";refine fv ?_;walk_at"w";refine⟨B.length,nmD F,rfl,M _ _,?_⟩;refine W.of (hk i (ah.mp hi)).2 ?_;exact⟨rfl,rfl,_,rfl⟩
 ·rintro r' _;refine⟨c8 (by rw[lM1,bY];lia),?_⟩;walk_at"w";have en:((List.range m).map fun r=>D.int (k r:Nat))=nmD ((List.range m).map k):=by rw[nmD,aZ];rfl
  rw[en];refine dz (xs:=nmD ((List.range m).map k)) (by first|(rw[dA];rfl)|simp) ?_;have P:=zY (d:=.tup (nmD ((List.range m).map k))) (S:=U) (G:=G++[.lst (nmD F),.lst (nmD ((List.range m).map k))]) (by rw[D.und];exact fL _) (Iw hU);rw[<- bj,<- R]at P;have q':=q ((List.range m).map k) (by rw[lM1,bY]) fun x hx=>by
   obtain⟨r,A,rfl⟩:=bQ.mp hx;exact(hk r (ah.mp A)).1
  first|(rw[P];exact q')|(show Q (gc _ _);rw[P];exact q')
def wI(ws cs:List Nat)(b:Bool)(r:Nat):Int:=(if cs.contains r then 1 else 0)+(if(b&&ws.contains r)=true then 2 else 0)
def l9(m:Nat)(ws cs:List Nat)(b:Bool):List Int:=(List.range m).map (wI ws cs b)
theorem kd{m:Nat}{ws cs:List Nat}{b:Bool}:(l9 m ws cs b).length=m:=by unfold l9;rw[lM1,bY]
def stD(ws cs:List Nat):D:=.tup [.tup (nmD ws),.tup (nmD cs)]
theorem jt{ws cs:List Nat}:(stD ws cs).und 0=true:=by unfold stD;rw[D.und,D.unds,D.unds,D.und,D.und,fL,fL];rfl
theorem wh{m:Nat}{w:c5}{ws cs:List Nat}{S:Sto}{Q:D×Sto->Prop}(hw:WebJ m w)(hm:m<=8)(q:Q (sgD (l9 m ws cs false),S)):W (cY 2 eK [webD w,.tup (nmD cs)] S) Q:=by
 refine ge rfl (by rw[D.unds,dI,D.unds,D.und,fL];rfl) ?_;unfold eK;refine kn ?_;unfold kO
 ((try walk_at"w");repeat(simp only[jb];try walk_at"w"))
 rw[hw.len];refine⟨fB (by lia),?_⟩;rw[kH,Int.toNat_natCast];refine iM (f:=fun i:Nat=>D.int i) (fun r=>D.int (wI ws cs false r)) (fun r=>∃x,r=[x,some (.tup (nmD cs))]) rfl (List.range m) _ ⟨_,rfl⟩ ?_ ?_
 ·rintro r b a ⟨x,rfl⟩
  ((try walk_at"w");repeat(simp only[vV];try walk_at"w"))
  unfold wI;cases cs.contains r with
  |true=>exact⟨rfl,_,rfl⟩
  |false=>exact⟨rfl,_,rfl⟩
 ·rintro a _;refine⟨c8 (by rw[lM1,bY];lia),?_⟩;walk_at"w";have e:((List.range m).map fun r=>D.int (wI ws cs false r))=(l9 m ws cs false).map D.int:=by unfold l9;rw[aZ];rfl
  rw[e];refine dz (xs:=(l9 m ws cs false).map D.int) rfl ?_;exact⟨ff _,q⟩
theorem Gv{m:Nat}{w:c5}{ws cs:List Nat}{S:Sto}{Q:D×Sto->Prop}(hw:WebJ m w)(hm:m<=8)(q:Q (sgD (l9 m ws cs true),S)):W (cY 2 gw [webD w,stD ws cs] S) Q:=by
 refine ge rfl (by rw[D.unds,dI,D.unds,jt];rfl) ?_;unfold gw;refine kn ?_;unfold mP;refine dy (fun r V=>V=[]/\r=[some (webD w),some (stD ws cs),some (.tup (nmD ws)),some (.tup (nmD cs)),none]) ?_ ?_
 ·unfold stD;walk_at"w"
 rintro r V ⟨rfl,rfl⟩;refine dy (fun r V=>V=[]/\r=[some (webD w),some (stD ws cs),some (.tup (nmD ws)),some (.tup (nmD cs)),some (sgD (l9 m ws cs false))]) ?_ ?_
 ·walk_at"w";refine wh (ws:=ws) hw hm ?_
  first|exact⟨rfl,rfl⟩|exact⟨rfl,trivial⟩|rfl
 rintro r V ⟨rfl,rfl⟩;walk_at"w";refine kT (xs:=(l9 m ws cs false).map D.int) rfl ?_;have d:rS 0 ((l9 m ws cs false).map D.int)=(List.range m).map fun r=>D.tup [.int (r:Nat),.int (wI ws cs false r)]:=by
  refine bH fun i=>?_;rw[fb,gP1,gP1];unfold l9;rw[gP1];by_cases h:i<m
  ·rw[cA h,bu];rfl
  ·rw[bI (by rw[bY];lia)];rfl
 rw[d];refine iM (f:=fun r:Nat=>D.tup [.int (r:Nat),.int (wI ws cs false r)]) (fun r=>D.int (wI ws cs true r)) (fun r=>∃a b,r=[a,b,some (.tup (nmD ws))]) rfl (List.range m) _ ⟨_,_,rfl⟩ ?_ ?_
 ·rintro r g c ⟨a,b,rfl⟩
  ((try walk_at"w");repeat(simp only[vV];try walk_at"w"))
  unfold wI;cases ws.contains r with
  |true=>
   cases cs.contains r with
   |true=>exact⟨rfl,_,_,rfl⟩
   |false=>exact⟨rfl,_,_,rfl⟩
  |false=>exact⟨rfl,_,_,rfl⟩
 ·rintro c _;refine⟨c8 (by rw[lM1,bY];lia),?_⟩;walk_at"w";have e:((List.range m).map fun r=>D.int (wI ws cs true r))=(l9 m ws cs true).map D.int:=by unfold l9;rw[aZ];rfl
  rw[e];refine dz (xs:=(l9 m ws cs true).map D.int) rfl ?_;exact⟨ff _,q⟩
theorem zA{m:Nat}{w:c5}{ws cs:List Nat}{b:Bool}(hw:WebJ m w)(hm:m<=8):W (d5 [webD w,stD ws cs,.bl b] []) fun p=>p=(.ref 0,[.lst ((l9 m ws cs b).map D.int)]):=by
 unfold d5;refine kn ?_;unfold lS
 ((try walk_at"w");repeat(simp only[jb];try walk_at"w"))
 rw[hw.len];refine⟨fB (by lia),?_⟩;rw[kH,Int.toNat_natCast];have a:∀(k:Bool) (S:Sto),jc (.int 2) (.int (if k=true then 1 else 0)) S=some (.int (if k=true then 2 else 0),S):=fun k S=>by cases k<;>rfl
 refine iM (f:=fun i:Nat=>D.int i) (fun r=>D.int (wI ws cs b r)) (fun r=>∃x,r=[x,some (stD ws cs),some (.bl b)]) rfl (List.range m) _ ⟨_,rfl⟩ ?_ ?_
 ·rintro r j h ⟨x,rfl⟩;have g:∀S,c7 (stD ws cs) (.int 1) S=some (.tup (nmD cs),S):=fun S=>rfl;have d:∀S,c7 (stD ws cs) (.int 0) S=some (.tup (nmD ws),S):=fun S=>rfl;cases b with
  |true=>
   ((try walk_at"w");repeat(simp only[vV,g,d,a];try walk_at"w"))
   unfold wI;exact⟨rfl,_,rfl⟩
  |false=>
   have c:∀S:Sto,jc (.int 2) (.int 0) S=some (.int 0,S):=fun S=>rfl
   ((try walk_at"w");repeat(simp only[vV,g,d,c];try walk_at"w"))
   unfold wI;exact⟨rfl,_,rfl⟩
 ·rintro h _;refine⟨c8 (by rw[lM1,bY];lia),?_⟩;walk_at"w";have e:((List.range m).map fun r=>D.int (wI ws cs b r))=(l9 m ws cs b).map D.int:=by unfold l9;rw[aZ];rfl
  rw[e]
  try exact⟨rfl,rfl⟩
theorem FZ{S:Sto}{x n:Nat}{cs:List Nat}(h:S[n]?=some (.lst (nmD cs))):m7 (.int x) (.ref n) S=some (.bl (cs.contains x),S):=by
 simp only[m7,uD,GJ,h,dj,oS1,dr,show(60:Nat)=59+1 from rfl,re,oP1]
abbrev Rms(m:Nat)(l:List Nat):Prop:=(∀x∈l,x<m)/\l.length<=m
theorem yr{o:Ob}{n m:Nat}{Z:Sto}{p:Nat}{r:Ev}{Q:D×Sto->Prop}(ho:Hnd o n)(hn:n<=2^40)(hm:m<=8)(hp:Z[p]? = some (.lst (nmD (List.range m))))(z:r[0]? = some (some (.ref 0)))(A:r[4]? = some (some (.ref (p+1))))(q:∀o' l,Hnd o' (n+8)->Rms m l->Q (.ref (Z.length+1),o'::(Z++[.lst (nmD l)]))):W (dZ 1 [0] (fC (mV 4)) (gN 0) (mB (m2 (b2 gEq) (mN (cY 2 cZ) (cT (mV 1) (cT (mC (D.int (2))) cU))) (mC (D.int (0))))) (dS (mV 0)) r (o::Z)) Q:=by
 have y:mV 4 r (o::Z)=some (.ref (p+1),o::Z):=by unfold mV;rw[A]
 have u:∀o:Ob,(o::Z)[p+1]?=some (.lst (nmD (List.range m))):=fun o=>by rw[gC1];exact hp
 rw[rM,rL,y,da];refine dz (u o) ?_;have t:oU 1 [0] r=[none,some (.ref 0)]:=by
  simp[oU,z]
 rw[t];refine g8 (fun i b r S=>∃o' l x,i<=m/\b=nmD l/\(∀x∈l,x<m)/\l.length<=i/\Hnd o' (n+i)/\S=o'::Z/\r=[x,some (.ref 0)]) _ 0 [] _ _ ⟨o,[],_,by lia,rfl,fun x h=>(by cases h),by simp,ho,rfl,rfl⟩ ?_ ?_ ?_
 ·rintro i b r S ⟨o',l,x,_,_,_,_,_,rfl,_⟩;exact d3 (u o')
 ·rintro i d j b r S ⟨o',l,x,hi,rfl,k,s,a,rfl,rfl⟩;dsimp only at j;have f:=(gE1.mp j).1;rw[dD,bY]at f;rw[nmD,gP1,cA f]at j;cases j;rw[bu]at *
  walk_at"w";refine eZ a (by lia) (by lia) (by lia) fun c v g hc=>?_;walk_at"w";split
  ·refine⟨v,l++[i],_,by lia,i7,fun x w=>?_,by rw[lA1];simp;lia,g.more (by lia),rfl,rfl⟩;rcases am.mp w with h|h
   ·exact k x h
   ·rw[bU]at h;subst h;exact f
  ·exact⟨v,l,_,by lia,rfl,k,by lia,g.more (by lia),rfl,rfl⟩
 ·rintro xs r S ⟨o',l,x,hi,e,k,s,a,rfl,rfl⟩;rw[cf]at e;subst e;dsimp only at s hi a;rw[dD,bY,bu]at s hi a;refine⟨c8 (by dsimp only;rw[dD];lia),?_⟩;exact q o' l (a.more (by lia)) ⟨k,s⟩
theorem Aj{o:Ob}{m:Nat}{Z:Sto}{p k:Nat}{kept rs:List Nat}{r:Ev}{Q:D×Sto->Prop}(hm:m<=8)(s:rs.length=m)(hp:Z[p]? = some (.lst (nmD (List.range m))))(hk:Z[k]? = some (.lst (nmD kept)))(h2:r[2]? = some (some (.tup (nmD rs))))(y:r[4]? = some (some (.ref (p+1))))(v:r[7]? = some (some (.ref (k+1))))(q:∀l,Rms m l->Q (.ref (Z.length+1),o::(Z++[.lst (nmD l)]))):W (dZ 1 [2,7] (fC (mV 4)) (gN 0) (mB (m2 (b2 m7) (m2 (b2 c7) (mV 1) (mV 0)) (mV 2))) (dS (mV 0)) r (o::Z)) Q:=by
 have w:mV 4 r (o::Z)=some (.ref (p+1),o::Z):=by unfold mV;rw[y]
 have n:(o::Z)[p+1]?=some (.lst (nmD (List.range m))):=by rw[gC1];exact hp
 have u:(o::Z)[k+1]?=some (.lst (nmD kept)):=by rw[gC1];exact hk
 rw[rM,rL,w,da];refine dz n ?_;have j:oU 1 [2,7] r=[none,some (.tup (nmD rs)),some (.ref (k+1))]:=by
  simp[oU,h2,v]
 rw[j];refine g8 (fun i a r S=>∃l x,i<=m/\a=nmD l/\(∀x∈l,x<m)/\l.length<=i/\S=o::Z/\r=[x,some (.tup (nmD rs)),some (.ref (k+1))]) _ 0 [] _ _ ⟨[],_,by lia,rfl,fun x h=>(by cases h),by simp,rfl,rfl⟩ ?_ ?_ ?_
 ·rintro i a r S ⟨l,x,_,_,_,_,rfl,_⟩;exact d3 n
 ·rintro i d c a r S ⟨l,x,hi,rfl,f,g,rfl,rfl⟩;dsimp only at c;have b:=(gE1.mp c).1;rw[dD,bY]at b;rw[nmD,gP1,cA b]at c;cases c;rw[bu]at *
  walk_at"w";refine jm (i:=i) (x:=.int (rs.getD i 0:Nat)) (by rw[nmD,gP1,bo,gG1 (by lia)];rfl) ?_
  ((try walk_at"w");repeat(simp only[FZ u];try walk_at"w"))
  split
  ·refine⟨l++[i],_,by lia,i7,fun x t=>?_,by rw[lA1];simp;lia,rfl⟩;rcases am.mp t with h|h
   ·exact f x h
   ·rw[bU]at h;subst h;exact b
  ·exact⟨l,_,by lia,rfl,f,by lia,rfl⟩
 ·rintro xs r S ⟨l,x,hi,e,f,g,rfl,rfl⟩;rw[cf]at e;subst e;dsimp only at g hi;rw[dD,bY,bu]at g hi;refine⟨c8 (by dsimp only;rw[dD];lia),?_⟩;exact q l ⟨f,g⟩
structure GM (m N:Nat)(G:Sto)(ks:List Nat):Prop where
 at_:∀k∈ks,∃l,G[k]?=some (.lst (nmD l))/\Rms m l
 up:ks.Pairwise (· < ·)
theorem GM.snoc{m N:Nat}{G g:Sto}{ks:List Nat}{l:List Nat}(h:GM m N G ks)(j:Rms m l):GM m N (G++g++[.lst (nmD l)]) (ks++[(G++g).length]):=by
 refine⟨fun k c=>?_,?_⟩
 ·rcases am.mp c with c|c
  ·obtain⟨i,e,d⟩:=h.at_ k c;have:=(gE1.mp e).1;exact⟨i,by rw[bj,gL1 this];exact e,d⟩
  ·rw[bU]at c;subst c;exact⟨l,by rw[c6];rfl,j⟩
 ·rw[List.pairwise_append];refine⟨h.up,List.pairwise_singleton _ _,fun a n b f=>?_⟩;rw[bU]at f;subst f;obtain⟨i,e,_⟩:=h.at_ a n;have:=(gE1.mp e).1;rw[lA1];lia
theorem yp{m n i:Nat}{w:c5}{rs ks:List Nat}{o:Ob}{T G:Sto}{x3 x6 x7:Option D}{Q:Fl×Ev×Sto->Prop}(hm:m<=8)(B:rs.length=m)(ho:Hnd o n)(hn:n<=2^39)(h2:GM m T.length G ks)(L:ks.length<=2)(q:∀o' a g F,Hnd o' (n+20)->GM m T.length a g->g.length=ks.length+1->Q (.nx,[some (.ref 0),some (webD w),some (.tup (nmD rs)),x3,some (.ref (T.length+1)),some (.ref (T.length+2)),x6,F,none,none,none],o'::(T ++ .lst (nmD (List.range m)) :: .lst (g.map fun k=>D.ref (T.length+3+k))::a))):
  W (fX [some (.ref 0),some (webD w),some (.tup (nmD rs)),x3,some (.ref (T.length+1)),some (.ref (T.length+2)),x6,x7,none,none,none] (o::(T ++ .lst (nmD (List.range m)) :: .lst (ks.map fun k=>D.ref (T.length+3+k))::G))) Q:=by
 generalize J:Ob.lst (nmD (List.range m))=A;have u:∀Y,(T++A::Y)[T.length]?=some (.lst (nmD (List.range m))):=fun Y=>by rw[c6,<- J];rfl
 have C:∀(o X:Ob) (Y:Sto),(o::(T++A::X::Y))[T.length+2]?=some X:=fun o X Y=>by rw[gC1,dA];rfl
 have st:∀(o X E:Ob) (Y:Sto),(o::(T++A::X::Y)).set (T.length+2) E=o::(T++A::E::Y):=fun o X E Y=>by
  rw[b0,cv _ _ (by lia),show T.length+1-T.length=1 by lia];rfl
 generalize I:Ob.lst (ks.map fun k=>D.ref (T.length+3+k))=X at *
 unfold fX eV;rw[cX];have s:W (mB (m2 (b2 gEq) (mN (cY 2 cZ) (cT (mV 0) (cT (mC (D.int (3))) cU))) (mC (D.int (0)))) [some (.ref 0),some (webD w),some (.tup (nmD rs)),x3,some (.ref (T.length+1)),some (.ref (T.length+2)),x6,x7,none,none,none] (o::(T++A::X::G))) fun p=>∃o',Hnd o' (n+1)/\p.2=o'::(T++A::X::G):=by
  walk_at"w";refine eZ ho (by lia) (by lia) (by lia) fun c y d hc=>?_;walk_at"w";exact⟨y,d,rfl⟩
 -- the last step of both
 have j:∀(o':Ob) (a:Sto) (l:List Nat) (v:Option D),Hnd o' (n+20)->Rms m l->W (gr (.ref (T.length+2)) (.ref ((T++A::X::(G++a)).length+1)) (o'::((T++A::X::(G++a))++[.lst (nmD l)]))) fun p=>Q (.nx,[some (.ref 0),some (webD w),some (.tup (nmD rs)),x3,some (.ref (T.length+1)),some (.ref (T.length+2)),x6,v,none,none,none],p.2):=fun o' a l v H h=>by
  have K:o'::((T++A::X::(G++a))++[Ob.lst (nmD l)])=o'::(T++A::X::(G++a++[.lst (nmD l)])):=by simp
  rw[K];refine(iu (xs:=ks.map fun k=>D.ref (T.length+3+k)) (by rw[C,I])).mpr ⟨c8 (by rw[lM1];lia),?_⟩;rw[st];have:=q o' (G++a++[.lst (nmD l)]) (ks++[(G++a).length]) v H (h2.snoc h) (by rw[lA1];rfl);rw[b7]at this;have el:(T++A::X::(G++a)).length+1=T.length+3+(G++a).length:=by simp;lia
  rw[el,<- J];exact this
 refine s.mono ?_;rintro⟨t,N⟩ ⟨y,d,e⟩;dsimp only at e ⊢;subst e;cases t with
 |true=>
  rw[if_pos rfl];unfold dX;rw[cX];refine fv ?_;refine W.of (x:=(.ref (T.length+2),y::(T++A::X::G))) rfl ?_;refine⟨T.length+2,_,rfl,by rw[C,<- I],?_⟩;unfold cT;rw[cX];refine yr (p:=T.length) d (by lia) hm (u _) rfl rfl fun f l b h=>?_;refine W.of rfl ?_;have:=j f [] l x7 (b.more (by lia)) h;rw[ay]at this;exact this.mono fun p z=>da.mpr z
 |false=>
  rw[if_neg (by decide)];refine dy (fun r V=>∃f kept,Hnd f (n+9)/\V=f::(T++A::X::(G++[.lst (nmD kept)]))/\r=[some (.ref 0),some (webD w),some (.tup (nmD rs)),x3,some (.ref (T.length+1)),some (.ref (T.length+2)),x6,some (.ref ((T++A::X::G).length+1)),none,none,none]) ?_ ?_
  ·unfold dk;rw[cX];refine yr (p:=T.length) d (by lia) hm (u _) rfl rfl fun f l b h=>?_;refine W.of rfl ⟨rfl,f,l,b.more (by lia),by simp,rfl⟩
  rintro r V ⟨f,kept,b,rfl,rfl⟩;unfold dX;rw[cX];refine fv ?_;refine W.of (x:=(.ref (T.length+2),f::(T++A::X::(G++[.lst (nmD kept)])))) rfl ?_;refine⟨T.length+2,_,rfl,by rw[C,<- I],?_⟩;unfold cT;rw[cX];have M:(T++A::X::(G++[Ob.lst (nmD kept)]))[(T++A::X::G).length]?=some (.lst (nmD kept)):=by
   have:T++A::X::(G++[Ob.lst (nmD kept)])=(T++A::X::G)++[.lst (nmD kept)]:=by simp
   rw[this,c6];rfl
  refine Aj (p:=T.length) (k:=(T++A::X::G).length) hm B (u _) M rfl rfl rfl fun l h=>?_;refine W.of rfl ?_;exact(j f [.lst (nmD kept)] l _ (b.more (by lia)) h).mono fun p z=>da.mpr z
theorem n8:∀l:List Nat,jW (nmD l)=some (l.map fun(r:Nat)=>(r:Int))
 |[]=>rfl
 |x::l=>by
  show jW (.int x::nmD l)=_;rw[jW,n8 l];rfl
theorem Bf{m n:Nat}{S:Sto}{l:List Nat}(h:S[n]?=some (.lst (nmD l)))(c:l.length<64)(hr:∀x∈l,x<m):∃ws:List Nat,gy (.ref n) S=some (.ref S.length,S++[.lst (nmD ws)])/\(∀x∈ws,x<m)/\ws.length=l.length:=by
 have a:=gh (l.map fun(r:Nat)=>(r:Int));refine⟨(jf (l.map fun(r:Nat)=>(r:Int))).map Int.toNat,?_,fun x b=>?_,by rw[lM1,a.length_eq,lM1]⟩
 ·unfold gy;rw [fU h];dsimp only;rw [n8];dsimp only;rw [if_pos (by rw [lM1];exact c)];have e:(jf (l.map fun (r:Nat)=>(r:Int))).map D.int=nmD ((jf (l.map fun (r:Nat)=>(r:Int))).map Int.toNat):=by
   rw[nmD,aZ];refine b9 fun i hi=>?_;obtain⟨k,_,rfl⟩:=bQ.mp (a.mem_iff.mp hi);rfl
  rw[e]
 ·obtain⟨i,hi,rfl⟩:=bQ.mp b;obtain⟨k,d,rfl⟩:=bQ.mp (a.mem_iff.mp hi);rw[Int.toNat_natCast];exact hr k d
theorem Bc{m n:Nat}{w:c5}{rs:List Nat}{a:Int}{o:Ob}{T:Sto}{Q:D×Sto->Prop}(hw:WebJ m w)(hm0:0<m)(hm:m<=8)(hrs:rs.length=m)(ho:Hnd o n)(hn:n<=2^38)(hle:0<a)(hT:T.all (Ob.und (T.length+1))=true)(q:∀ws cs o',Hnd o' (n+50)->(∀x∈ws,x<m)->0<ws.length->ws.length<=20->cs.length<=8->Q (stD ws cs,o'::T)):W (cY 4 fc [.ref 0,webD w,.tup (nmD rs),.int a] (o::T)) Q:=by
 refine pL rfl rfl hT ?_;unfold fc;refine kn ?_;unfold jk;refine dy (fun r V=>V=o::(T++[.lst (nmD (List.range m))])/\r=[some (.ref 0),some (webD w),some (.tup (nmD rs)),some (.int a),some (.ref (T.length+1)),none,none,none,none,none,none]) ?_ ?_
 ·unfold dk;rw[cX];refine DE (k:=m) (S1:=o::T) ?_ (by lia) ?_
  ·unfold gE;simp only[cT,cU,mN,mV,b1,mP1,aS,gC1,ci,oS1,jb,hw.len]
  rw[kH];exact W.of rfl ⟨rfl,rfl,rfl⟩
 rintro r V ⟨rfl,rfl⟩;refine dy (fun r V=>V=o::(T ++ .lst (nmD (List.range m)) :: .lst (([]:List Nat).map fun k=>D.ref (T.length+3+k))::[])/\r=[some (.ref 0),some (webD w),some (.tup (nmD rs)),some (.int a),some (.ref (T.length+1)),some (.ref (T.length+2)),none,none,none,none,none]) ?_ ?_
 ·walk_at"w"
  try exact⟨rfl,trivial⟩
 rintro r V ⟨rfl,rfl⟩;refine dy (fun r V=>∃o' G b c H O F E,Hnd o' (n+40)/\b<c/\G[b]?=some (.lst (nmD H))/\Rms m H/\G[c]?=some (.lst (nmD O))/\Rms m O/\V=o'::(T ++ .lst (nmD (List.range m)) :: .lst [.ref (T.length+3+b),.ref (T.length+3+c)]::G)/\r=[some (.ref 0),some (webD w),some (.tup (nmD rs)),some (.int a),some (.ref (T.length+1)),some (.ref (T.length+2)),F,E,none,none,none]) ?_ ?_
 ·unfold ee;rw[cX,AE];refine W.of (x:=([.int 2],_)) rfl ?_;refine⟨uN (by decide) (by decide),?_⟩;refine dP (fun i r V=>∃o' G ks F E,i<=2/\Hnd o' (n+20*i)/\GM m T.length G ks/\ks.length=i/\V=o'::(T ++ .lst (nmD (List.range m)) :: .lst (ks.map fun k=>D.ref (T.length+3+k))::G)/\r=[some (.ref 0),some (webD w),some (.tup (nmD rs)),some (.int a),some (.ref (T.length+1)),some (.ref (T.length+2)),F,E,none,none,none]) _ 0 _ _ ⟨o,[],[],_,_,by lia,ho,⟨fun k hk=>(by cases hk),List.Pairwise.nil⟩,rfl,rfl,rfl⟩ (fun _ _ _ _=>rfl) ?_ ?_
  ·rintro i d C r V ⟨o',G,ks,F,E,hi,M,h2,v,rfl,rfl⟩;have u:=(gE1.mp C).1;rw[eg]at u;have u:i<2:=u;rw[bu]at *
   refine W.of rfl ?_;refine yp (i:=0) hm hrs M (by lia) h2 (by lia) fun f G2 ks2 x7' s h22 hk2=>?_;exact⟨rfl,f,G2,ks2,_,_,by lia,s.more (by lia),h22,by lia,rfl,rfl⟩
  ·rintro r V ⟨o',G,ks,F,E,hi,M,h2,v,rfl,rfl⟩;have v:ks.length=2:=v
   match ks,v with
   |[b,c],_=>
    obtain⟨H,e1,r1⟩:=h2.at_ b (by simp);obtain⟨O,e2,r2⟩:=h2.at_ c (by simp);have hup:=h2.up;rw[bO]at hup;exact⟨rfl,o',G,b,c,H,O,_,_,M.more (by rw[eg];show n+20*(0+2)<=n+40;lia),hup.1 c (by simp),e1,r1,e2,r2,rfl,rfl⟩
 rintro r V ⟨o1,G,b,c,H,O,F,E,ho1,R,e1,r1,e2,r2,rfl,rfl⟩;generalize hA:Ob.lst (nmD (List.range m))=A;generalize hX:Ob.lst [D.ref (T.length+3+b),D.ref (T.length+3+c)]=X;have gG:∀(o:Ob) (Y:Sto) (k:Nat) (x:Ob),(G++Y)[k]?=some x->(o::(T++A::X::(G++Y)))[T.length+3+k]?=some x:=fun o Y k x e=>by
  rw[show T.length+3+k=T.length+(k+1+1)+1 by lia,gC1,dA,gC1,gC1];exact e
 have gl:∀{k:Nat} {x:Ob} (Y:Sto),G[k]?=some x->(G++Y)[k]?=some x:=fun{k x} Y e=>by rw[gL1 (gE1.mp e).1];exact e
 have gs:∀(o:Ob) (Y:Sto),(o::(T++A::X::Y))[T.length+2]?=some (.lst [D.ref (T.length+3+b),D.ref (T.length+3+c)]):=fun o Y=>by rw[gC1,dA,<- hX];rfl
 -- walkers and chalk
 refine dy (fun r V=>∃o' kc L,Hnd o' (n+41)/\b<kc/\L.length<=8/\(G++[.lst [],.lst [.ref (T.length+3+c),.ref (T.length+3+G.length)]])[kc]?=some (.lst (nmD L))/\V=o'::(T++A::X::(G++[.lst [],.lst [.ref (T.length+3+c),.ref (T.length+3+G.length)]]))/\r=[some (.ref 0),some (webD w),some (.tup (nmD rs)),some (.int a),some (.ref (T.length+1)),some (.ref (T.length+2)),F,E,some (.ref (T.length+3+b)),some (.ref (T.length+3+kc)),none]) ?_ ?_
 ·have i0:∀ (o:Ob) (Y:Sto),c7 (.ref (T.length+2)) (.int 0) (o::(T++A::X::Y))=some (.ref (T.length+3+b),o::(T++A::X::Y)):=fun o Y=>by
   obtain⟨p,e,rfl⟩:=gz (i:=0) (x:=.ref (T.length+3+b)) (Q:=fun p=>p=(.ref (T.length+3+b),o::(T++A::X::Y))) (gs o Y) rfl rfl;exact e
  have i1:∀(o:Ob) (Y:Sto),c7 (.ref (T.length+2)) (.int 1) (o::(T++A::X::Y))=some (.ref (T.length+3+c),o::(T++A::X::Y)):=fun o Y=>by
   obtain⟨p,e,rfl⟩:=gz (i:=1) (x:=.ref (T.length+3+c)) (Q:=fun p=>p=(.ref (T.length+3+c),o::(T++A::X::Y))) (gs o Y) rfl rfl;exact e
  ((try walk_at"w");repeat(simp only[i0,i1];try walk_at"w"))
  refine eZ ho1 (by lia) (by lia) (by lia) fun d f s C=>?_;have eL:T.length+(G.length+2)+1=T.length+3+G.length:=by lia
  have eM:T.length+(G.length+2)+2=T.length+3+(G.length+1):=by lia
  have hk1:=(gE1.mp e1).1;dsimp only;rw[eL,eM];have g2:=gG f [Ob.lst [],Ob.lst [D.ref (T.length+3+c),D.ref (T.length+3+G.length)]] (G.length+1) _ (by rw[dA];rfl)
  match d,C with
  |0,_=>
   refine gz (i:=0) (x:=.ref (T.length+3+c)) g2 rfl ?_;exact⟨f,c,O,s,R,by have:=r2.2;lia,gl _ e2,rfl,rfl⟩
  |1,_=>
   refine gz (i:=1) (x:=.ref (T.length+3+G.length)) g2 rfl ?_;exact⟨f,G.length,[],s,hk1,by simp,by rw[c6];rfl,rfl,rfl⟩
 rintro r V ⟨f,kc,L,s,hkc,hlc,ec,rfl,rfl⟩;obtain⟨G2,hG2⟩:∃G2,G2=G++[Ob.lst [],.lst [.ref (T.length+3+c),.ref (T.length+3+G.length)]]:=⟨_,rfl⟩;have J:G2[b]?=some (.lst (nmD H)):=by rw[hG2];exact gl _ e1
 rw[<- hG2]at ec ⊢;clear gG gl gs;have gW:∀(l:List Nat) (Y:Sto),(f::(T++A::X::(G2.set b (.lst (nmD l))++Y)))[T.length+3+b]?=some (.lst (nmD l)):=fun l Y=>by
  have K:=(gE1.mp J).1;rw[show T.length+3+b=T.length+(b+1+1)+1 by lia,gC1,dA,gC1,gC1,gL1 (by rw[aH];exact K),ap K]
 have y:∀(l:List Nat),(f::(T++A::X::(G2.set b (.lst (nmD l)))))[T.length+3+b]?=some (.lst (nmD l)):=fun l=>by
  have:=gW l []
  rwa [ay]at this
 have gA:∀(Y:Sto),(f::(T++A::Y))[T.length+1]?=some (.lst (nmD (List.range m))):=fun Y=>by rw[gC1,c6,<- hA];rfl
 have stW:∀(l l':List Nat),(f::(T++A::X::(G2.set b (.lst (nmD l))))).set (T.length+3+b) (.lst (nmD l'))=f::(T++A::X::(G2.set b (.lst (nmD l')))):=fun l l'=>by
  rw[show T.length+3+b=(T.length+(b+1+1))+1 by lia,b0,cv _ _ (by lia),show T.length+(b+1+1)-T.length=b+1+1 by lia,b0,b0,List.set_set]
 have P:G2.set b (.lst (nmD H))=G2:=by
  refine bH fun j=>?_;by_cases h:b=j
  ·subst h;rw[ap (gE1.mp J).1,J]
  ·rw[gS1 h]
 refine dy (fun r V=>∃l g,(∀x∈l,x<m)/\0<l.length/\l.length<=16/\V=f::(T++A::X::(G2.set b (.lst (nmD l))))/\r=[some (.ref 0),some (webD w),some (.tup (nmD rs)),some (.int a),some (.ref (T.length+1)),some (.ref (T.length+2)),F,E,some (.ref (T.length+3+b)),some (.ref (T.length+3+kc)),g]) ?_ ?_
 ·walk_at"w";refine dz (gA _) ?_;refine dP (fun i r V=>∃l g,i<=m/\(∀x∈l,x<m)/\(0<i->0<l.length)/\l.length<=m+i/\V=f::(T++A::X::(G2.set b (.lst (nmD l))))/\r=[some (.ref 0),some (webD w),some (.tup (nmD rs)),some (.int a),some (.ref (T.length+1)),some (.ref (T.length+2)),F,E,some (.ref (T.length+3+b)),some (.ref (T.length+3+kc)),g]) _ 0 _ _ ⟨H,_,by lia,r1.1,by lia,by have:=r1.2;lia,by rw[P],rfl⟩ ?_ ?_ ?_
  ·rintro i r V ⟨l,g,_,_,_,_,rfl,_⟩;exact d3 (gA _)
  ·rintro i d C r V ⟨l,g,hi,N,B,K,rfl,rfl⟩;dsimp only at C;have u:=(gE1.mp C).1;rw[dD,bY]at u;rw[nmD,gP1,cA u]at C;cases C;rw[bu]at *
   have I:∀S,ri (.int a) (.int m) S=some (.int (if(m:Int)<a then(m:Int)else a),S):=fun S=>rfl;refine W.of rfl ?_;unfold ip eV;rw[cX];have U:W (m4 (mB (m2 (b2 gLt) (mN (b1 dH) (cT (mV 8) cU)) (mN (b2 ri) (cT (mV 3) (cT (mN (b1 dH) (cT (mV 1) cU)) cU))))) (mB (m2 (b2 eI) (mV 10) (mV 8))) [some (.ref 0),some (webD w),some (.tup (nmD rs)),some (.int a),some (.ref (T.length+1)),some (.ref (T.length+2)),F,E,some (.ref (T.length+3+b)),some (.ref (T.length+3+kc)),some (.int (i:Nat))] (f::(T++A::X::(G2.set b (.lst (nmD l)))))) fun p=>p.2=f::(T++A::X::(G2.set b (.lst (nmD l))))/\(l=[]->p.1=true):=by
    walk_at"w";refine dz (y l) ?_
    ((try walk_at"w");repeat(simp only[jb];try walk_at"w"))
    rw[hw.len];have Z:(0:Int)<(if(m:Int)<a then(m:Int)else a):=by split<;>lia
    generalize (if(m:Int)<a then(m:Int)else a)=mn at I Z
    ((try walk_at"w");repeat(simp only[I,pk (y l)];try walk_at"w"))
    split
    ·exact fun z=>by rw[z];rfl
    ·rename_i C;exact fun z=>absurd (by rw[z];exact decide_eq_true Z) C
   refine U.mono ?_;rintro⟨t,S1⟩ ⟨e,ht⟩;dsimp only at e ht ⊢;subst e;cases t with
   |true=>
    rw[if_pos rfl];unfold dX;rw[cX];refine fv ?_;walk_at"w";refine⟨T.length+3+b,nmD l,rfl,y l,?_⟩;refine(iu (y l)).mpr ⟨c8 (by rw[dD];lia),?_⟩;rw[i7,stW];refine⟨l++[i],_,by lia,fun x hx=>?_,fun _=>by simp,by rw[lA1];simp;lia,rfl,rfl⟩;rcases am.mp hx with h|h
    ·exact N x h
    ·rw[bU]at h;subst h;exact u
   |false=>
    rw[if_neg (by decide)];exact W.of rfl ⟨rfl,l,_,by lia,N,fun _=>bW.mpr (fun z=>absurd (ht z) (by decide)),by lia,rfl,rfl⟩
  ·rintro r V ⟨l,g,hi,N,B,K,rfl,rfl⟩;dsimp only at K B;rw[dD,bY,bu]at K B;exact⟨rfl,l,_,N,B hm0,by lia,rfl,rfl⟩
 rintro r V ⟨l,g,N,B,K,rfl,rfl⟩;obtain⟨ws,es,hws,hwl⟩:=Bf (m:=m) (y l) (by lia) N;have gc_:∀Y,(f::(T++A::X::(G2.set b (.lst (nmD l))++Y)))[T.length+3+kc]?=some (.lst (nmD L)):=fun Y=>by
  have v:=(gE1.mp ec).1;rw[show T.length+3+kc=T.length+(kc+1+1)+1 by lia,gC1,dA,gC1,gC1,gL1 (by rw[aH];exact v),gS1 (by lia)];exact ec
 ((try walk_at"w");repeat(simp only[es];try walk_at"w"))
 have gws:(f::(T++A::X::(G2.set b (.lst (nmD l))++[Ob.lst (nmD ws)])))[T.length+3+G2.length]?=some (.lst (nmD ws)):=by
  have hgl:(G2.set b (.lst (nmD l))).length=G2.length:=aH ..
  rw[show T.length+3+G2.length=T.length+(G2.length+1+1)+1 by lia,gC1,dA,gC1,gC1,<- hgl,c6];rfl
 refine dz (xs:=nmD ws) (by rw[<- gws];congr 1;simp;try lia) ?_;refine dz (xs:=nmD L) (gc_ _) ?_;walk_at"w";exact⟨stD ws L,f,A::X::(G2.set b (.lst (nmD l))++[.lst (nmD ws)]),rfl,jt,s.und,q ws L f (s.more (by lia)) hws (by lia) (by lia) hlc⟩
theorem Ai(xs:List Int)(x:Int):ddI (xs++[x])=step_dedup (ddI xs) x:=by unfold ddI;rw[List.foldl_append];rfl
theorem wd{y:Int}:∀(xs acc:List Int),y∈xs.foldl step_dedup acc↔y∈acc\/y∈xs
 |[],acc=>by simp
 |x::xs,acc=>by
  rw[bM,wd xs];unfold step_dedup;split
  ·rename_i h;obtain⟨z,a,e⟩:=bz.mp h;have e:=beq_iff_eq.mp e;subst e;rw[ak];exact⟨fun h=>h.elim .inl fun h=>.inr (.inr h),fun h=>h.elim .inl fun h=>h.elim (fun e=>.inl (e ▸ a)) .inr⟩
  ·rw[am,bU,ak,or_assoc]
theorem wc{y:TK}:∀(xs acc:List TK),y∈xs.foldl kA acc↔y∈acc\/y∈xs
 |[],acc=>by simp
 |x::xs,acc=>by
  rw[bM,wc xs];unfold kA;split
  ·rename_i h;rw[ak];exact⟨fun h=>h.elim .inl fun h=>.inr (.inr h),fun q=>q.elim .inl fun q=>q.elim (fun e=>.inl (e ▸ h)) .inr⟩
  ·rw[am,bU,ak,or_assoc]
theorem CS(xs:List Int)(x:Int):(ddI (xs++[x])).length=(ddI xs).length+if x∈xs then 0 else 1:=by
 rw[Ai];unfold step_dedup;have a:x∈ddI xs↔x∈xs:=by unfold ddI;rw[wd];simp
 by_cases h:x∈xs
 ·rw[if_pos h,if_pos (bz.mpr ⟨x,a.mpr h,by simp⟩)];rfl
 ·rw[if_neg h,if_neg fun z=>?_,lA1];rfl;obtain⟨y,b,e⟩:=bz.mp z;have e:=beq_iff_eq.mp e;subst e;exact h (a.mp b)
theorem CQ(xs:List TK)(x:TK):(ddK (xs++[x])).length=(ddK xs).length+if x∈xs then 0 else 1:=by
 have e:ddK (xs++[x])=kA (ddK xs) x:=by unfold ddK;rw[List.foldl_append];rfl
 rw[e];unfold kA;have a:x∈ddK xs↔x∈xs:=by unfold ddK;rw[wc];simp
 by_cases h:x∈xs
 ·rw[if_pos h,if_pos (a.mpr h)];rfl
 ·rw[if_neg h,if_neg fun z=>h (a.mp z),lA1];rfl
theorem mf{α:Type}{f:Nat->α}{x:α}{i:Nat}:x∈(List.range i).map f ↔ ∃j,j<i/\f j=x:=by
 rw[bQ];exact⟨fun⟨j,h,e⟩=>⟨j,ah.mp h,e⟩,fun⟨j,h,e⟩=>⟨j,ah.mpr h,e⟩⟩
theorem wm{f:Nat->TK}{g:Nat->Int}(h:∀ i j,f i=f j->g i=g j):∀ m:Nat,(ddI ((List.range m).map g)).length<=(ddK ((List.range m).map f)).length /\
  ((ddK ((List.range m).map f)).length=(ddI ((List.range m).map g)).length ↔ ∀i,i<m->(∃j,j<i/\g j=g i) -> ∃j,j<i/\f j=f i)
 |0=>⟨nR1 _,fun _ i hi=>absurd hi (ba _),fun _=>rfl⟩
 |m + 1=>by
  obtain⟨h1,h2⟩:=wm h m;rw[cC,b7,b7,List.map_singleton,List.map_singleton,CS,CQ];by_cases b:f m∈(List.range m).map f
  ·have a:g m∈(List.range m).map g:=by
    obtain⟨j,d,e⟩:=mf.mp b;exact mf.mpr ⟨j,d,h _ _ e⟩
   rw[if_pos b,if_pos a];refine⟨h1,h2.trans ⟨fun q i hi c=>?_,fun q i hi=>q i (by lia)⟩⟩;rcases bD i m with z|z
   ·exact q i z c
   ·have:i=m:=by lia
    subst this;exact mf.mp b
  ·rw[if_neg b];by_cases a:g m∈(List.range m).map g
   ·rw[if_pos a];refine⟨by lia,fun q=>absurd q (by lia),fun q=>?_⟩;exact absurd (mf.mpr (q m (bf m) (mf.mp a))) b
   ·rw[if_neg a];refine⟨by lia,⟨fun q i hi c=>?_,fun q=>?_⟩⟩
    ·rcases bD i m with z|z
     ·exact h2.mp (by lia) i z c
     ·have:i=m:=by lia
      subst this;exact absurd (mf.mpr c) a
    ·rw[h2.mpr fun i hi=>q i (by lia)]
theorem uF{α β:Type}{f:Nat->α}{g:Nat->β}{m:Nat}(h:∀i j,f i=f j->g i=g j):(∀i,i<m->(∃j,j<i/\g j=g i) -> ∃j,j<i/\f j=f i) ↔ ∀i j,i<m->j<m->g i=g j->f i=f j:=by
 constructor
 ·intro q;have b:∀ n i,i<n->i<m -> ∀ j,j<i->g j=g i->f j=f i:=by
   intro n
   induction n with
   |zero=>intro i hi;exact absurd hi (ba _)
   |succ n ih=>
    intro i hi d j a e;obtain⟨k,l,c⟩:=q i d ⟨j,a,e⟩;rcases Nat.lt_trichotomy k j with z|z|z
    ·exact(ih j (by lia) (by lia) k z ((h _ _ c).trans e.symm)).symm.trans c
    ·rw[<- z];exact c
    ·exact(ih k (by lia) (by lia) j z (e.trans (h _ _ c).symm)).trans c
  intro i j hi a e;rcases Nat.lt_trichotomy i j with z|z|z
  ·exact b (j+1) j (by lia) a i z e
  ·rw[z]
  ·exact(b (i+1) i (by lia) hi j z e.symm).symm
 ·rintro q i hi ⟨j,a,e⟩;exact⟨j,a,q j i (by lia) hi e⟩
abbrev GH:=Int×Int×List (Int×Nat)
def zD(e:Int×Nat):D:=.tup [.int e.1,.int (e.2:Nat)]
def zT(e:Int×Nat):TK:=.tup [.int e.1,.int (e.2:Nat)]
def AO(ts:List Int)(e:Nat×Nat):Int×Nat:=(gB ts e.1,e.2)
def lZ(w:c5)(sg ts:List Int)(r:Nat):GH:=(gB ts r,gB sg r,(eG w r).map (AO ts))
def lG(x:GH):D:=.tup [.int x.1,.int x.2.1,.tup (x.2.2.map zD)]
def m5(x:GH):TK:=.tup [.int x.1,.int x.2.1,.tup (x.2.2.map zT)]
theorem Cp(x:GH):(lG x).und 0=true:=by
 unfold lG;rw[D.und,D.unds,D.unds,D.unds,D.und,Mi.dG (fun _ _=>rfl)];rfl
theorem Dr:∀l:List (Int×Nat),CA (l.map zD)=some (l.map zT)
 |[]=>rfl
 |e::l=>by rw[mP1,CA,Dr l];rfl
theorem Dy:∀l:List (Int×Nat),TK.depAll (l.map zT)<=2
 |[]=>by decide
 |e::l=>by
  have:=Dy l;rw[mP1,TK.depAll];have:(zT e).dep=1:=rfl;lia
theorem HW(x:GH):ky (lG x)=some (m5 x):=by
 have e:CA [.int x.1,.int x.2.1,.tup (x.2.2.map zD)]=some [.int x.1,.int x.2.1,.tup (x.2.2.map zT)]:=by
  simp only[CA,kD,Dr,oP1,oS1]
 unfold lG;rw[ky,e,oS1,if_pos]
 ·rfl
 ·have:=Dy x.2.2;simp[TK.dep,TK.depAll];lia
theorem xL:∀{a b:List (Int×Nat)},a.map zT=b.map zT->a=b
 |[],[],_=>rfl
 |[],_::_,h=>by cases h
 |_::_,[],h=>by cases h
 |x::a,y::b,h=>by
  rw[mP1,mP1]at h;injection h with h1 h2;unfold zT at h1;injection h1 with h1;injection h1 with c h1;injection h1 with d h1;injection c with c;injection d with d;rw[xL h2,show x=y from Prod.ext c (by lia)]
theorem sP{x y:GH}(h:m5 x=m5 y):x=y:=by
 unfold m5 at h;injection h with h;injection h with b h;injection h with a h;injection h with c h;injection b with b;injection a with a;injection c with c;exact Prod.ext b (Prod.ext a (xL c))
def wy(m:Nat)(w:c5)(sg ts:List Int):Prop:=∀i j,i<m->j<m->gB ts i=gB ts j->lZ w sg ts i=lZ w sg ts j
theorem CP(m:Nat)(w:c5)(sg ts:List Int):(ddK ((List.range m).map fun r=>m5 (lZ w sg ts r))).length=(ddI ((List.range m).map (gB ts))).length↔wy m w sg ts:=by
 have h:∀i j,m5 (lZ w sg ts i)=m5 (lZ w sg ts j)->gB ts i=gB ts j:=fun i j e=>by
  have:=sP e;exact congrArg (·.1) this
 rw[(wm (f:=fun r=>m5 (lZ w sg ts r)) h m).2,uF h];exact⟨fun q i j hi a e=>sP (q i j hi a e),fun q i j hi a e=>congrArg m5 (q i j hi a e)⟩
theorem vL(f:Nat->GH):∀l:List Nat,pw (l.map fun r=>lG (f r))=some (l.map fun r=>m5 (f r))
 |[]=>rfl
 |r::l=>by rw[mP1,pw,HW,oS1,vL f l];rfl
theorem Bl{ts:List Int}{m:Nat}(h:ts.length=m):(List.range m).map (gB ts)=ts:=by
 subst h;apply bH;intro i;rw[gP1];by_cases hi:i<ts.length
 ·rw[cA hi,gG1 hi];unfold gB;rw[oP1,bo,gG1 hi];rfl
 ·rw[bI (by simpa using hi),bI (by lia)];rfl
theorem zF{m:Nat}{w:c5}{sg b:List Int}(hw:WebJ m w)(hm:m<=8)(hs:sg.length=m)(ht:b.length=m):W (lE [webD w,sgD sg,sgD b] []) fun p=>∃k,p.1 = .ref k/\p.2[k]?=some (.lst ((List.range m).map fun r=>lG (lZ w sg b r)))/\p.2.all (Ob.und 0)=true:=by
 unfold lE;refine kn ?_;unfold wk;refine dy (fun r V=>V=[.lst []]/\r=[some (webD w),some (sgD sg),some (sgD b),some (.ref 0),none,none,none]) ?_ ?_
 ·walk_at"w"
  try exact⟨rfl,trivial⟩
 rintro r V ⟨rfl,rfl⟩;refine dy (fun r V=>∃G h j g,G.all (Ob.und 0)=true/\V = .lst ((List.range m).map fun r=>lG (lZ w sg b r))::G/\r=[some (webD w),some (sgD sg),some (sgD b),some (.ref 0),h,j,g]) ?_ ?_
 ·unfold ee;rw[cX];refine kT (xs:=w.map fun a=>.tup (a.map pD)) rfl ?_;refine dP (fun i r V=>∃G h j g,i<=m/\G.all (Ob.und 0)=true/\V = .lst ((List.range i).map fun r=>lG (lZ w sg b r))::G/\r=[some (webD w),some (sgD sg),some (sgD b),some (.ref 0),h,j,g]) _ 0 _ _ ⟨[],_,_,_,by lia,rfl,rfl,rfl⟩ (fun _ _ _ _=>rfl) ?_ ?_
  ·rintro i B l r V ⟨G,h,j,g,hi,o,rfl,rfl⟩;rw[fb,gP1]at l;obtain⟨z,x,rfl⟩:=oM1.mp l;obtain⟨a,c,rfl⟩:=oM1.mp x;have q:i<m:=by rw[<- hw.len];exact(gE1.mp c).1
   have y:=hw.le i a c;rw[bu]at *
   walk_at"w";unfold pj;refine dy (fun r V=>V = .lst ((List.range i).map fun r=>lG (lZ w sg b r))::(G++[.lst (a.map fun e=>zD (AO b e))])/\r=[some (webD w),some (sgD sg),some (sgD b),some (.ref 0),some (.int (i:Nat)),some (.tup (a.map pD)),some (.tup (a.map fun e=>zD (AO b e)))]) ?_ ?_
   ·walk_at"w";rw[i4];refine iM (f:=pD) (fun e=>zD (AO b e)) (fun s=>∃t u,s=[t,u,some (sgD b)]) rfl a _ ⟨_,_,rfl⟩ ?_ ?_
    ·rintro e A s ⟨t,u,rfl⟩;obtain⟨d,v⟩:=aX A;have:=hw.to i d e ⟨a,c,v⟩;rw[pD];walk_at"w";refine C5 ht this ?_;walk_at"w";exact⟨rfl,_,_,rfl⟩
    ·rintro s _;refine⟨c8 (by rw[lM1];lia),?_⟩;walk_at"w";refine dz (xs:=a.map fun e=>zD (AO b e)) (by rw[gC1,c6];rfl) ?_
     first|exact⟨rfl,rfl⟩|exact⟨rfl,trivial⟩|rfl
   rintro r V ⟨rfl,rfl⟩;unfold dX;rw[cX];refine fv ?_;walk_at"w";refine⟨0,(List.range i).map fun r=>lG (lZ w sg b r),rfl,rfl,?_⟩;refine C5 ht q ?_;walk_at"w";refine C5 hs q ?_;walk_at"w";refine(iu (n:=0) (xs:=(List.range i).map fun r=>lG (lZ w sg b r)) rfl).mpr ⟨c8 (by rw[lM1,bY];lia),?_⟩;refine⟨G++[.lst (a.map fun e=>zD (AO b e))],_,_,_,by lia,?_,?_,rfl⟩
   ·rw[ca,o,bw,Ob.und,Mi.dG (fun _ _=>rfl)];rfl
   ·have e:lG (lZ w sg b i)=D.tup [D.int (gB b i),D.int (gB sg i),D.tup (a.map fun e=>zD (AO b e))]:=by
     unfold lZ;rw[io c,lG,aZ];rfl
    rw[cC,b7,mP1,e];rfl
  ·rintro r V ⟨G,h,j,g,hi,o,rfl,rfl⟩;rw[e9,lM1,bu,hw.len];exact⟨rfl,G,_,_,_,o,rfl,rfl⟩
 rintro r V ⟨G,h,j,g,o,rfl,rfl⟩;walk_at"w";refine⟨0,rfl,rfl,?_⟩;rw[bw,o,Ob.und,Mi.dG (fun _ _=>Cp _)];rfl
theorem ux{S:Sto}{T:Ty}{xs:List D}:q9 S T (.tup xs)=some (decide (T = .tuple)):=rfl
theorem zN{S:Sto}{T:Ty}{i:Int}:q9 S T (.int i)=some (decide (T = .int)):=rfl
theorem FW{S:Sto}{T:Ty}{x:Str}:q9 S T (.str x)=some (decide (T = .str)):=rfl
theorem HY{S:Sto}{b:Bool}:q9 S .bool (.bl b)=some true:=rfl
theorem lg{T:Ty}{m:FE}{r:Ev}{S:Sto}{Q:D×Sto->Prop}:W (m3 T m r S) Q↔W (m r S) fun p=>W (q9 p.2 T p.1) fun b=>Q (.bl b,p.2):=by
 unfold m3;rw[cX];simp only[kS]
theorem u9{xs:List D}{m:Nat}{S:Sto}{Q:D×Sto->Prop}(a:D.unds 0 xs=true)(h:xs.length=m)(q:Q (.bl true,S)):W (cY 2 d4 [.tup xs,.int m] S) Q:=by
 refine ge rfl (by rw[D.unds,D.und,a];rfl) ?_;unfold d4;refine kn ?_;unfold iE
 ((try walk_at"w");repeat(simp only[lg,ux,fH];try walk_at"w"))
 rw[h];simp;exact⟨rfl,q⟩
theorem BY{xs:List D}{m:Nat}{S:Sto}{Q:D×Sto->Prop}(a:D.unds 0 xs=true)(h:xs.length≠m)(q:Q (.bl false,S)):W (cY 2 d4 [.tup xs,.int m] S) Q:=by
 refine ge rfl (by rw[D.unds,D.und,a];rfl) ?_;unfold d4;refine kn ?_;unfold iE
 ((try walk_at"w");repeat(simp only[lg,ux,fH];try walk_at"w"))
 have e:((xs.length:Int) == (m:Int))=false:=by simp;lia
 rw[e];exact⟨rfl,q⟩
theorem u5{i:Int}{S:Sto}{Q:D×Sto->Prop}(q:Q (.bl true,S)):W (cY 1 fM [.int i] S) Q:=by
 refine ge rfl rfl ?_;unfold fM;refine kn ?_;unfold ou
 ((try walk_at"w");repeat(simp only[lg,zN];try walk_at"w"))
 simp only[reduceCtorEq,decide_false,decide_true];walk_at"w";exact⟨rfl,q⟩
theorem zw{i:Int}{S:Sto}{Q:D×Sto->Prop}(q:Q (.bl true,S)):W (cY 1 fY [.int i] S) Q:=by
 refine ge rfl rfl ?_;unfold fY;refine kn ?_;unfold lP
 ((try walk_at"w");repeat(simp only[lg,zN];try walk_at"w"))
 simp only[reduceCtorEq,decide_false,decide_true];walk_at"w";exact⟨rfl,q⟩
theorem AH{n:Nat}{xs:List D}{S:Sto}{Q:D×Sto->Prop}(h:S[n]?=some (.lst (xs.map fun _=>D.bl true)))(q:Q (.bl true,S)):W (zZ (.ref n) S) Q:=by
 refine W.of ?_ q;unfold zZ;rw[fU h,oS1];dsimp only;rw[tT (f:=fun _=>true)];simp
theorem vR:∀ns:List Int,jV (ns.map D.int)=some ns
 |[]=>rfl
 |n::ns=>by
  have:=vR ns;rw[mP1];simp only[jV,this];rfl
theorem nE{ns:List Int}{S:Sto}(a:ns.length<=100):fz (sgD ns) S=some (.ref S.length,S++[.iset (ddI ns)]):=by
 unfold fz;rw[iS];dsimp only;rw[vR,oS1,if_pos (by unfold scanBound;lia)]
theorem JD{m n:Nat}{w:c5}{sg a:List Int}{S:Sto}(hm:m<=8)(h:S[n]?=some (.lst ((List.range m).map fun r=>lG (lZ w sg a r)))):j0 (.ref n) S=some (.int ((ddK ((List.range m).map fun r=>m5 (lZ w sg a r))).length:Nat),S):=by
 unfold j0;rw[fU h];dsimp only;rw[vL,oS1,if_pos (by rw[lM1,bY];lia)]
theorem vP{m:Nat}{w:c5}{sg a:List Int}{S:Sto}{Q:D×Sto->Prop}(hw:WebJ m w)(hm:m<=8)(hs:sg.length=m)(ht:a.length=m)(q:Q (.bl (tf (wy m w sg a)),S)):W (cY 3 eB [webD w,sgD sg,sgD a] S) Q:=by
 refine ge rfl (by rw[D.unds,D.unds,D.unds,dI,ff,ff];rfl) ?_;unfold eB;refine kn ?_;unfold j2;refine dy (fun r V=>∃G,V=G/\r=[some (webD w),some (sgD sg),some (sgD a)]) ?_ ?_
 ·have n:dH (webD w) []=some (.int (m:Nat),[]):=by rw[webD,fH,lM1,hw.len]
  ((try walk_at"w");repeat(simp only[n];try walk_at"w"))
  refine u9 (dG fun _ _=>rfl) (by rw[lM1];exact ht) ?_;walk_at"w";rw[i4];refine iM (f:=D.int) (fun _=>D.bl true) (fun r=>∃x,r=[x]) rfl a _ ⟨_,rfl⟩ ?_ ?_
  ·rintro i hi r ⟨x,rfl⟩;walk_at"w";refine u5 ?_;exact⟨rfl,rfl,_,rfl⟩
  ·rintro p _;refine⟨c8 (by rw[lM1];lia),?_⟩;refine AH (xs:=a.map D.int) (by rw[aZ];rfl) ?_;walk_at"w";exact⟨_,rfl,trivial⟩
 rintro r V ⟨G,rfl,rfl⟩;have g:=zF hw hm hs ht;walk_at"w";refine An rfl (by rw[D.unds,D.unds,D.unds,dI,ff,ff];rfl) ?_;refine g.mono ?_;rintro⟨d,V⟩ ⟨k,h1,h2,b⟩;refine⟨k,_,h1,h2,b,fun G j l s o=>?_⟩;have e:=JD hm l
 ((try walk_at"w");repeat(simp only[e];try walk_at"w"))
 rw[nE (by lia),da];dsimp only;refine oA (by rw[c6];rfl) ?_;walk_at"w";refine⟨rfl,?_⟩;have c:((((ddK ((List.range m).map fun r=>m5 (lZ w sg a r))).length:Nat):Int) == (((ddI a).length:Nat):Int))=tf (wy m w sg a):=yg (by
  rw[beq_iff_eq,<- CP,Bl ht];exact⟨fun h=>by exact_mod_cast h,fun h=>by rw[h]⟩)
 rw[c];exact q
theorem Ix{a b:FE}{r:Ev}{S:Sto}{Q:D×Sto->Prop}:W (Cj a b r S) Q↔W (a r S) fun p=>W (pW p.2 p.1) fun k=>if k=true then Q p else W (b r p.2) Q:=by
 unfold Cj;rw[cX];simp only[cX,pR,da]
theorem zp_map:∀a b:List (Nat×Nat),rV (a.map pD) (b.map pD)=(a.zip b).map fun p=>.tup [pD p.1,pD p.2]
 |[],_=>rfl
 |_::_,[]=>rfl
 |x::a,y::b=>by
  have:=zp_map a b;show D.tup [pD x,pD y]::rV (a.map pD) (b.map pD)=_;rw[this];rfl
theorem IB{m:FA}{r:Ev}{S:Sto}{xs ys:List D}{Q:wx×Sto->Prop}(hm:m r S=some ([.tup xs,.tup ys],S))(q:Q (⟨rV xs ys,[]⟩,S)):W (Dv m r S) Q:=by
 refine W.of ?_ q;unfold Dv;rw[hm];rfl
theorem IF{α:Type}{n:Nat}{xs:List α}{f:α->Bool}{S:Sto}{Q:D×Sto->Prop}(h:S[n]?=some (.lst (xs.map fun x=>D.bl (f x))))(q:Q (.bl (xs.any f),S)):W (CO (.ref n) S) Q:=by
 refine W.of ?_ q;unfold CO;rw[fU h,oS1];have:∀l:List α,Mi.Ay (l.map fun x=>D.bl (f x))=some (l.any f):=fun l=>by
  induction l with
  |nil=>rfl
  |cons x l ih=>rw[mP1,Mi.Ay,ih];rfl
 dsimp only;rw[this];rfl
theorem mJ{m r:Nat}{sg:List Int}{S:Sto}(a:sg.length=m)(hr:r<m):c7 (sgD sg) (.int r) S=some (.int (gB sg r),S):=by
 obtain⟨p,e,rfl⟩:=C5 (Q:=fun p=>p=(.int (gB sg r),S)) a hr rfl;exact e
theorem jj{i:Nat}{xs:List D}{x:D}{S:Sto}(hx:xs[i]?=some x):c7 (.tup xs) (.int i) S=some (x,S):=by
 obtain⟨p,e,rfl⟩:=jm (Q:=fun p=>p=(x,S)) hx rfl;exact e
theorem ue{m:Nat}{w:c5}(hw:WebJ m w){r d:Nat}{e:Nat×Nat}(he:(eG w r)[d]?=some e):e.1<m:=hw.to r d e (vj he)
theorem Bo{m:Nat}{w:c5}(hw:WebJ m w)(r:Nat):(eG w r).length<=4:=by
 unfold eG;cases h:w[r]? with
 |none=>simp
 |some a=>exact hw.le r a h
theorem Ds{m r k:Nat}{sg:List Int}{S:Sto}(a:sg.length=m)(hr:r<m)(hk:S[k]?=some (.lst (sg.map D.int))):c7 (.ref k) (.int r) S=some (.int (gB sg r),S):=by
 obtain⟨p,e,rfl⟩:=gz (i:=r) (x:=.int (gB sg r)) (Q:=fun p=>p=(.int (gB sg r),S)) hk (by rw[gP1,gG1 (by lia)];unfold gB;rw[bo,gG1 (by lia)];rfl) rfl;exact e
def El(w:c5)(ts:List Int)(i b:Nat):Prop:=∀p∈(eG w i).zip (eG w b),gB ts p.1.1=gB ts p.2.1/\p.1.2=p.2.2
theorem nh{w:c5}{sg d:List Int}{i b:Nat}:lZ w sg d i=lZ w sg d b↔gB d i=gB d b/\gB sg i=gB sg b/\(eG w i).length=(eG w b).length/\El w d i b:=by
 have e:∀a c:List (Nat×Nat),a.map (AO d)=c.map (AO d)↔a.length=c.length /\ ∀p∈a.zip c,gB d p.1.1=gB d p.2.1/\p.1.2=p.2.2:=fun a=>by
  induction a with
  |nil=>intro c;cases c<;>simp
  |cons x a ih=>
   intro c;cases c with
   |nil=>simp
   |cons y c=>
    rw[mP1,mP1,List.cons.injEq,ih c,bB,lC1,lC1];unfold AO;rw[Prod.mk.injEq];constructor
    ·rintro⟨⟨h1,h2⟩,h,g⟩;refine⟨by lia,fun p f=>?_⟩;rcases ak.mp f with z|z
     ·subst z;exact⟨h1,h2⟩
     ·exact g p z
    ·rintro⟨h1,h2⟩;exact⟨h2 (x,y) mS1,by lia,fun p f=>h2 p (mC1 _ f)⟩
 unfold lZ El;rw[Prod.mk.injEq,Prod.mk.injEq,e]
abbrev Dw(w:c5)(k:Nat)(ts:List Int)(x3 x4 x5 x6:Option D):Ev:=[some (webD w),some (.ref k),some (sgD ts),x3,x4,x5,x6]
theorem F6{m k i j:Nat}{w:c5}{sg c:List Int}{S:Sto}(hw:WebJ m w)(hs:sg.length=m)(ht:c.length=m)(hi:i<m)(t:j<m)(hk:S[k]? = some (.lst (sg.map D.int))):
  W (iC (Dw w k c (some (.int (i:Nat))) (some (.tup ((eG w i).map pD))) (some (.int (j:Nat))) (some (.tup ((eG w j).map pD)))) S) fun p=>(∃G,p.2.2=S++G)/\((p.1 = .nx/\(gB c i=gB c j->lZ w sg c i=lZ w sg c j)/\p.2.1=Dw w k c (some (.int (i:Nat))) (some (.tup ((eG w i).map pD))) (some (.int (j:Nat))) (some (.tup ((eG w j).map pD))))\/(p.1 = .rt (.bl false) /\ ¬ (gB c i=gB c j->lZ w sg c i=lZ w sg c j))):=by
 have C:=(gE1.mp hk).1;unfold iC;have s:=mJ (S:=S) ht hi;have u:=mJ (S:=S) ht t;have v:=Ds (S:=S) hs hi hk;have J:=Ds (S:=S) hs t hk;by_cases e:gB c i=gB c j
 ·((try walk_at"w");repeat(simp only[s,u];try walk_at"w"))
  rw[if_pos (by simp[e])];simp only[lM1];by_cases o:(eG w i).length=(eG w j).length
  ·rw[if_neg (by simp[o])];simp only[v,J,da];walk_at"w";by_cases g:gB sg i=gB sg j
   ·rw[if_neg (by simp[g])];refine IB (xs:=(eG w i).map pD) (ys:=(eG w j).map pD) rfl ?_;rw[zp_map];refine iM (f:=fun p:(Nat×Nat)×(Nat×Nat)=>D.tup [pD p.1,pD p.2]) (fun p=>D.bl (!(gB c p.1.1 == gB c p.2.1&&p.1.2 == p.2.2))) (fun r=>∃x y,r=[x,y,some (sgD c)]) rfl _ _ ⟨_,_,rfl⟩ ?_ ?_
    ·rintro⟨a,b⟩ d r ⟨x,y,rfl⟩;obtain⟨I,F⟩:=aA d;obtain⟨M,q⟩:=aX I;obtain⟨L,n⟩:=aX F;have B:=mJ (S:=S) ht (ue hw q);have H:=mJ (S:=S) ht (ue hw n);have A:∀(p:Nat×Nat) (S:Sto),c7 (pD p) (.int 0) S=some (.int (p.1:Nat),S):=fun p S=>jj (i:=0) rfl;have E:∀(p:Nat×Nat) (S:Sto),c7 (pD p) (.int 1) S=some (.int (p.2:Nat),S):=fun p S=>jj (i:=1) rfl;walk_at"w";refine Ix.mpr ?_;walk_at"w";simp only[A,E,B,H,da];walk_at"w";by_cases h1:gB c a.1=gB c b.1
     ·rw[if_neg (by simp[h1])];refine⟨?_,_,_,rfl⟩;rw[h1,beq_self_eq_true,Bool.true_and]
      congr 2
      rw[bx,beq_iff_eq,beq_iff_eq];lia
     ·rw[if_pos (by simpa using h1)];refine⟨?_,_,_,rfl⟩;rw[beq_eq_false_iff_ne.mpr h1];rfl
    ·rintro K _;refine⟨c8 (by rw[lM1,List.length_zip];have:=Bo hw i;lia),?_⟩;refine IF (xs:=(eG w i).zip (eG w j)) (by rw[c6];rfl) ?_;walk_at"w";by_cases l:El w c i j
     ·rw [if_neg (by
       rw[bz];rintro⟨p,d,h⟩;obtain⟨h1,h2⟩:=l p d;simp[h1,h2]at h)]
      exact⟨⟨_,rfl⟩,.inl ⟨fun _=>nh.mpr ⟨e,g,o,l⟩,trivial⟩⟩
     ·rw [if_pos (by
       rw[bz];refine Classical.byContradiction fun z=>l fun p d=>?_;have:=fun h=>z ⟨p,d,h⟩;simpa using this)]
      exact⟨⟨_,rfl⟩,.inr fun z=>l (nh.mp (z e)).2.2.2⟩
   ·rw[if_pos (by simpa using g)];exact⟨⟨[],(ay _).symm⟩,.inr fun z=>g (nh.mp (z e)).2.1⟩
  ·rw[if_pos (by simp;lia)];exact⟨⟨[],(ay _).symm⟩,.inr fun z=>o (nh.mp (z e)).2.2.1⟩
 ·((try walk_at"w");repeat(simp only[s,u];try walk_at"w"))
  rw[if_neg (by simpa using e)];exact⟨⟨[],(ay _).symm⟩,.inl ⟨fun z=>absurd z e,trivial⟩⟩
theorem Dg{m i:Nat}{w:c5}{d:D}(hw:WebJ m w)(h:(rS 0 (w.map fun b=>D.tup (b.map pD)))[i]?=some d):i<m/\d = .tup [.int (i:Nat),.tup ((eG w i).map pD)]:=by
 rw[fb,gP1]at h;obtain⟨z,c,rfl⟩:=oM1.mp h;obtain⟨b,a,rfl⟩:=oM1.mp c;refine⟨by rw[<- hw.len];exact(gE1.mp a).1,?_⟩;rw[io a,bu]
abbrev IK(m:Nat)(w:c5)(sg ts:List Int)(i:Nat):Prop:=∀b,b<m->gB ts i=gB ts b->lZ w sg ts i=lZ w sg ts b
theorem F5{m k i:Nat}{w:c5}{sg a:List Int}{S:Sto}{x5 x6:Option D}(hw:WebJ m w)(hs:sg.length=m)(ht:a.length=m)(hi:i<m)(hk:S[k]? = some (.lst (sg.map D.int))):
  W (gu (Dw w k a (some (.int (i:Nat))) (some (.tup ((eG w i).map pD))) x5 x6) S) fun p=>(∃G,p.2.2=S++G)/\((p.1 = .nx/\IK m w sg a i /\ ∃x5 x6,p.2.1=Dw w k a (some (.int (i:Nat))) (some (.tup ((eG w i).map pD))) x5 x6)\/(p.1 = .rt (.bl false) /\ ¬ wy m w sg a)):=by
 have f:=(gE1.mp hk).1;unfold gu ee;rw[cX];refine kT (xs:=w.map fun g=>.tup (g.map pD)) rfl ?_;refine jR (fun j r V=>(∃G,V=S++G)/\(∀b,b<j->gB a i=gB a b->lZ w sg a i=lZ w sg a b) /\ ∃x5 x6,r=Dw w k a (some (.int (i:Nat))) (some (.tup ((eG w i).map pD))) x5 x6) _ 0 _ _ ⟨⟨[],(ay _).symm⟩,(fun b h=>absurd h (ba _)),_,_,rfl⟩ (fun _ _ _ _=>rfl) ?_ ?_
 ·rintro j d o r V ⟨⟨G,rfl⟩,c,x5,x6,rfl⟩;obtain⟨l,rfl⟩:=Dg hw o;rw[bu]at *
  walk_at"w";refine(F6 hw hs ht hi l (by rw[gL1 f];exact hk)).mono ?_;rintro⟨s,r,V⟩ ⟨⟨n,e⟩,h⟩;dsimp only at e h ⊢;subst e;rcases h with⟨rfl,h1,rfl⟩|⟨rfl,h1⟩
  ·refine .inl ⟨rfl,⟨G++n,bj ..⟩,fun b q=>?_,_,_,rfl⟩;rcases cB.mp q with z|rfl
   ·exact c b z
   ·exact h1
  ·exact .inr ⟨_,rfl,⟨G++n,bj ..⟩,.inr ⟨rfl,fun z=>h1 (z i j hi l)⟩⟩
 ·rintro r V ⟨⟨G,rfl⟩,c,x5,x6,rfl⟩;rw[e9,lM1,bu,hw.len]at c;exact⟨⟨G,rfl⟩,.inl ⟨rfl,c,_,_,rfl⟩⟩
theorem F4{m k:Nat}{w:c5}{sg c:List Int}{S:Sto}{x3 x4 x5 x6:Option D}(hw:WebJ m w)(hs:sg.length=m)(ht:c.length=m)(hk:S[k]? = some (.lst (sg.map D.int))):
  W (ee (mK (cT (mV 0) cU)) (gT 2 (eu (gN 3) (eu (gN 4) hB))) gu (Dw w k c x3 x4 x5 x6) S) fun p=>(∃G,p.2.2=S++G)/\((p.1 = .nx/\wy m w sg c)\/(p.1 = .rt (.bl false) /\ ¬ wy m w sg c)):=by
 have g:=(gE1.mp hk).1;unfold ee;rw[cX];refine kT (xs:=w.map fun l=>.tup (l.map pD)) rfl ?_;refine jR (fun i r V=>(∃G,V=S++G)/\(∀a,a<i->IK m w sg c a) /\ ∃x3 x4 x5 x6,r=Dw w k c x3 x4 x5 x6) _ 0 _ _ ⟨⟨[],(ay _).symm⟩,(fun b h=>absurd h (ba _)),_,_,_,_,rfl⟩ (fun _ _ _ _=>rfl) ?_ ?_
 ·rintro i d o r V ⟨⟨G,rfl⟩,f,x3,x4,x5,x6,rfl⟩;obtain⟨hi,rfl⟩:=Dg hw o;rw[bu]at *
  walk_at"w";refine(F5 hw hs ht hi (by rw[gL1 g];exact hk)).mono ?_;rintro⟨s,r,V⟩ ⟨⟨n,e⟩,h⟩;dsimp only at e h ⊢;subst e;rcases h with⟨rfl,h1,x5,x6,rfl⟩|⟨rfl,h1⟩
  ·refine .inl ⟨rfl,⟨G++n,bj ..⟩,fun b j=>?_,_,_,_,_,rfl⟩;rcases cB.mp j with z|rfl
   ·exact f b z
   ·exact h1
  ·exact .inr ⟨_,rfl,⟨G++n,bj ..⟩,.inr ⟨rfl,h1⟩⟩
 ·rintro r V ⟨⟨G,rfl⟩,f,x3,x4,x5,x6,rfl⟩;rw[e9,lM1,bu,hw.len]at f;exact⟨⟨G,rfl⟩,.inl ⟨rfl,fun a b q j=>f a q b j⟩⟩
theorem uE{m k:Nat}{w:c5}{sg a:List Int}{S:Sto}{Q:D×Sto->Prop}(hw:WebJ m w)(hm:m<=8)(hs:sg.length=m)(ht:a.length=m)(l:S.all (Ob.und 0)=true)(hk:S[k]? = some (.lst (sg.map D.int)))(q:Q (.bl (tf (wy m w sg a)),S)):W (cY 3 fq [webD w,.ref k,sgD a] S) Q:=by
 have g:W (fq [webD w,.ref k,sgD a] S) fun p=>(∃G,p.2=S++G)/\p.1 = .bl (tf (wy m w sg a)):=by
  have c:=(gE1.mp hk).1;unfold fq;refine kn ?_;unfold mQ;refine dy (fun r V=>(∃G,V=S++G)/\r=Dw w k a none none none none) ?_ ?_
  ·have n:dH (webD w) S=some (.int (m:Nat),S):=by rw[webD,fH,lM1,hw.len]
   ((try walk_at"w");repeat(simp only[lg,ux,n];try walk_at"w"))
   simp only[lM1,ht,decide_true,bJ,beq_self_eq_true,if_false,bF1]
   try rw[i4]
   refine iM (f:=D.int) (fun _=>D.bl true) (fun r=>∃x,r=[x]) rfl a _ ⟨_,rfl⟩ ?_ ?_
   ·rintro i hi r ⟨x,rfl⟩;walk_at"w";refine zw ?_;exact⟨rfl,rfl,_,rfl⟩
   ·rintro o _;refine⟨c8 (by rw[lM1];lia),?_⟩;refine AH (xs:=a.map D.int) (by rw[c6,aZ];rfl) ?_;walk_at"w";exact⟨⟨_,rfl⟩,trivial⟩
  rintro r V ⟨⟨G,rfl⟩,rfl⟩;obtain⟨⟨s,r,U⟩,e,⟨j,b⟩,h⟩:=F4 (k:=k) (S:=S++G) (x3:=none) (x4:=none) (x5:=none) (x6:=none) hw hs ht (by rw[gL1 c];exact hk);dsimp only at b h;unfold c9;rw[e,oS1];subst b;rcases h with⟨rfl,h⟩|⟨rfl,h⟩
  ·rw[A7 h];exact W.of rfl ⟨⟨G++j,bj ..⟩,rfl⟩
  ·rw[yf h];exact W.of rfl ⟨⟨G++j,bj ..⟩,rfl⟩
 refine tQ rfl (by rw[D.unds,dI];rfl) (g.mono ?_);rintro⟨d,V⟩ ⟨⟨G,e⟩,b⟩;dsimp only at e b;subst e;subst b;rw[zY rfl (Iw l)];exact q
def coT(ts:List Int):D:=.tup [.str "colours",sgD ts]
def alT(i j:Nat)(ts:List Int):D:=.tup [.str "alike",.int (i:Nat),.int (j:Nat),sgD ts]
theorem rz{a:List Int}:(coT a).und 0=true:=by unfold coT;rw[D.und,D.unds,D.unds,ff];rfl
theorem np{i j:Nat}{a:List Int}:(alT i j a).und 0=true:=by unfold alT;rw[D.und,D.unds,D.unds,D.unds,D.unds,ff];rfl
def vC(m:Nat)(w:c5)(ws cs:List Nat)(ts:List Int):Bool:=tf (wy m w (l9 m ws cs true) ts)&&decide ((ddI ts).length<m)
def vA(m:Nat)(w:c5)(ws cs:List Nat)(b:Bool)(i j:Nat)(ts:List Int):Bool:=b&&(tf (wy m w (l9 m ws cs false) ts)&&(decide (i<j)&&gB ts (ws.getD i 0) == gB ts (ws.getD j 0)))
theorem GQ{a:List Int}{S:Sto}{Q:D×Sto->Prop}(e:a.length<=100)(q:Q (.bl (!decide ((ddI a).length<a.length)),S)):W (cY 1 e3 [sgD a] S) Q:=by
 refine ge rfl (by rw[D.unds,ff];rfl) ?_;unfold e3;refine kn ?_;unfold je;have d:=nE (ns:=a) (S:=[]) e
 ((try walk_at"w");repeat(simp only[d];try walk_at"w"))
 refine oA rfl ?_;walk_at"w";rw[lM1];refine⟨rfl,?_⟩;have b:=(ol a [] aW).1;have c:((((ddI a).length:Nat):Int) == ((a.length:Nat):Int)) = !decide ((ddI a).length<a.length):=by
  have:(ddI a).length<=a.length:=by simpa[ddI]using b
  rw[bx];simp;lia
 rw[c];exact q
theorem uB{x y:Str}{ds:List D}{n:Nat}{S:Sto}{Q:D×Sto->Prop}(b:D.unds 0 ds=true)(q:Q (.bl (decide (ds.length+1=n/\x=y)),S)):W (cY 3 fP [.tup (.str x::ds),.str y,.int n] S) Q:=by
 have a:D.unds 0 (.str x::ds)=true:=by rw[D.unds,b];rfl
 refine ge rfl (by rw[D.unds,D.und,a];rfl) ?_;unfold fP;refine kn ?_;unfold mO;have c:∀S,c7 (.tup (.str x::ds)) (.int 0) S=some (.str x,S):=fun S=>jj (i:=0) rfl;walk_at"w";by_cases h:ds.length+1=n
 ·refine u9 a (by rw[lC1];exact h) ?_
  ((try walk_at"w");repeat(simp only[lg,c,FW];try walk_at"w"))
  have e:decide (ds.length+1=n/\x=y)=(x == y):=by rw[bx];simp[h]
  rw[e]at q;exact⟨rfl,q⟩
 ·refine BY a (by rw[lC1];exact h) ?_;walk_at"w";have e:decide (ds.length+1=n/\x=y)=false:=by simp[h]
  rw[e]at q;exact⟨rfl,q⟩
theorem yw{m:Nat}{w:c5}{ws cs:List Nat}{b:Bool}{a:List Int}{S:Sto}{Q:D×Sto->Prop}(hw:WebJ m w)(hm:m<=8)(ht:a.length=m)(q:Q (.bl (vC m w ws cs a),S)):W (cY 4 et [webD w,stD ws cs,.bl b,coT a] S) Q:=by
 refine ge rfl (by rw[D.unds,D.unds,D.unds,D.unds,dI,jt,rz];rfl) ?_;unfold et;refine kn ?_;unfold iD;have c:∀S,c7 (coT a) (.int 1) S=some (sgD a,S):=fun S=>jj (i:=1) rfl;walk_at"w";refine uB (x:="colours") (y:="colours") (n:=2) (ds:=[sgD a]) (by rw[D.unds,ff];rfl) ?_;walk_at"w";refine Gv hw hm ?_
 ((try walk_at"w");repeat(simp only[c];try walk_at"w"))
 refine vP hw hm kd ht ?_;unfold vC at q;cases hf:tf (wy m w (l9 m ws cs true) a)with
 |false=>
  rw[hf]at q;walk_at"w";exact⟨rfl,q⟩
 |true=>
  rw[hf]at q
  ((try walk_at"w");repeat(simp only[c];try walk_at"w"))
  refine GQ (by lia) ?_;walk_at"w";rw[ht];refine⟨rfl,?_⟩;simpa using q
theorem nl{i n:Nat}{S:Sto}{Q:D×Sto->Prop}(q:Q (.bl (decide (i<n)),S)):W (cY 2 gq [.int i,.int n] S) Q:=by
 refine ge rfl rfl ?_;unfold gq;refine kn ?_;unfold ox;walk_at"w";refine u5 ?_;walk_at"w";unfold HP;walk_at"w";rw[decide_eq_true (show(0:Int)<=(i:Int) by lia)];walk_at"w";refine⟨rfl,?_⟩;have:decide ((i:Int)<(n:Int))=decide (i<n):=by rw[bx];simp
 rw[this];exact q
theorem wu{rs:List Nat}{i:Nat}{S:Sto}(hi:i<rs.length):c7 (.tup (nmD rs)) (.int i) S=some (.int (rs.getD i 0:Nat),S):=by
 obtain⟨p,e,rfl⟩:=AG (rs:=rs) (Q:=fun p=>p=(.int (rs.getD i 0:Nat),S)) hi rfl;exact e
theorem yC{m i j:Nat}{w:c5}{ws cs:List Nat}{a:List Int}{S:Sto}{Q:D×Sto->Prop}(hw:WebJ m w)(c:0<m)(hm:m<=8)(ht:a.length=m)(d:∀x∈ws,x<m)(hi:i<ws.length)(e:j<ws.length)(q:Q (.bl (vA m w ws cs true i j a),S)):W (cY 3 fE [webD w,stD ws cs,alT i j a] S) Q:=by
 refine ge rfl (by rw[D.unds,D.unds,D.unds,dI,jt,np];rfl) ?_;unfold fE;refine kn ?_;unfold kN;refine dy (fun r V=>V=[]/\r=[some (webD w),some (stD ws cs),some (alT i j a),some (.tup (nmD ws)),some (.tup (nmD cs)),none,none,none,none]) ?_ ?_
 ·unfold stD;walk_at"w"
 rintro r V ⟨rfl,rfl⟩;refine dy (fun r V=>V=[]/\r=[some (webD w),some (stD ws cs),some (alT i j a),some (.tup (nmD ws)),some (.tup (nmD cs)),some (.str "alike"),some (.int (i:Nat)),some (.int (j:Nat)),some (sgD a)]) ?_ ?_
 ·unfold alT;walk_at"w"
 rintro r V ⟨rfl,rfl⟩;have h:∀S,dH (.tup (nmD ws)) S=some (.int (ws.length:Nat),S):=fun S=>by rw[fH,dD]
 unfold vA at q;by_cases b:i<j
 ·refine dy (fun r V=>V=[]/\r=[some (webD w),some (stD ws cs),some (alT i j a),some (.tup (nmD ws)),some (.tup (nmD cs)),some (.str "alike"),some (.int (i:Nat)),some (.int (j:Nat)),some (sgD a)]) ?_ ?_
  ·walk_at"w";rw[dD];refine nl ?_;rw[decide_eq_true e];walk_at"w";refine nl ?_;rw[decide_eq_true b];walk_at"w"
  rintro r V ⟨rfl,rfl⟩;walk_at"w";refine wh (ws:=ws) hw hm ?_;refine vP hw hm kd ht ?_;cases hf:tf (wy m w (l9 m ws cs false) a)with
  |false=>
   rw[hf]at q;walk_at"w";exact⟨rfl,q⟩
  |true=>
   rw[hf,decide_eq_true b]at q;have g:=wu (S:=([]:Sto)) hi;have f:=wu (S:=([]:Sto)) e;have b1:=mJ (S:=([]:Sto)) ht (km (i:=i) c d);have b2:=mJ (S:=([]:Sto)) ht (km (i:=j) c d)
   ((try walk_at"w");repeat(simp only[g,f,b1,b2];try walk_at"w"))
   exact⟨rfl,q⟩
 ·unfold c9;rw[cX];walk_at"w";rw[dD];refine nl ?_;rw[decide_eq_true e];walk_at"w";refine nl ?_;rw[decide_eq_false b]at q ⊢;walk_at"w";refine⟨rfl,?_⟩;simpa using q
theorem yx{m i j:Nat}{w:c5}{ws cs:List Nat}{b:Bool}{a:List Int}{S:Sto}{Q:D×Sto->Prop}(hw:WebJ m w)(d:0<m)(hm:m<=8)(ht:a.length=m)(e:∀x∈ws,x<m)(hi:i<ws.length)(f:j<ws.length)(q:Q (.bl (vA m w ws cs b i j a),S)):W (cY 4 et [webD w,stD ws cs,.bl b,alT i j a] S) Q:=by
 refine ge rfl (by rw[D.unds,D.unds,D.unds,D.unds,dI,jt,np];rfl) ?_;have c:D.unds 0 [.int (i:Nat),.int (j:Nat),sgD a]=true:=by rw[D.unds,D.unds,D.unds,ff];rfl
 unfold et;refine kn ?_;unfold iD;walk_at"w";refine uB (x:="alike") (y:="colours") (n:=2) (ds:=[.int (i:Nat),.int (j:Nat),sgD a]) c ?_;walk_at"w";cases b with
 |false=>
  walk_at"w";exact⟨rfl,q⟩
 |true=>
  walk_at"w";refine uB (x:="alike") (y:="alike") (n:=4) (ds:=[.int (i:Nat),.int (j:Nat),sgD a]) c ?_;walk_at"w";refine yC hw d hm ht e hi f ?_;exact⟨rfl,q⟩
theorem vF{m:Nat}{w:c5}{ws cs:List Nat}{b:Bool}{S:Sto}{Q:D×Sto->Prop}(hw:WebJ m w)(hm:m<=8)(q:Q (.ref S.length,S++[.lst ((l9 m ws cs b).map D.int)])):W (cY 3 d5 [webD w,stD ws cs,.bl b] S) Q:=by
 refine Io rfl (by rw[D.unds,dI,D.unds,jt];rfl) ((zA hw hm).mono ?_);rintro p rfl;exact⟨_,rfl,dG fun _ _=>rfl,q⟩
theorem qa{sg:List Int}:[Ob.lst (sg.map D.int)].all (Ob.und 0)=true:=by
 have:(Ob.lst (sg.map D.int)).und 0=true:=dG fun _ _=>rfl;rw[bw,this];rfl
theorem F8{m:Nat}{w:c5}{ws cs:List Nat}{b:Bool}{a:List Int}{S:Sto}{Q:D×Sto->Prop}(hw:WebJ m w)(hm:m<=8)(ht:a.length=m)(q:Q (.bl (vC m w ws cs a),S)):W (cY 4 fr [webD w,stD ws cs,.bl b,coT a] S) Q:=by
 refine ge rfl (by rw[D.unds,D.unds,D.unds,D.unds,dI,jt,rz];rfl) ?_;unfold fr;refine kn ?_;unfold lc c9;rw[cX];have d:∀S,c7 (coT a) (.int 0) S=some (.str "colours",S):=fun S=>jj (i:=0) rfl;have c:∀S,c7 (coT a) (.int 1) S=some (sgD a,S):=fun S=>jj (i:=1) rfl;have e:∀S,dH (webD w) S=some (.int (m:Nat),S):=fun S=>by rw[webD,fH,lM1,hw.len]
 ((try walk_at"w");repeat(simp only[d];try walk_at"w"))
 refine vF hw hm ?_
 ((try walk_at"w");repeat(simp only[c];try walk_at"w"))
 refine uE (k:=0) hw hm kd ht qa rfl ?_;unfold vC at q;cases hf:tf (wy m w (l9 m ws cs true) a)with
 |false=>
  rw[hf]at q;walk_at"w";exact⟨rfl,q⟩
 |true=>
  rw[hf]at q
  ((try walk_at"w");repeat(simp only[c];try walk_at"w"))
  rw[nE (by lia),da];dsimp only;refine oA rfl ?_
  ((try walk_at"w");repeat(simp only[e];try walk_at"w"))
  refine⟨rfl,?_⟩;have:decide ((((ddI a).length:Nat):Int)<(m:Int))=decide ((ddI a).length<m):=by rw[bx];simp
  rw[this];exact q
theorem F9{m i j:Nat}{w:c5}{ws cs:List Nat}{b:Bool}{a:List Int}{S:Sto}{Q:D×Sto->Prop}(hw:WebJ m w)(c:0<m)(hm:m<=8)(ht:a.length=m)(d:∀x∈ws,x<m)(hi:i<ws.length)(n:j<ws.length)(q:Q (.bl (vA m w ws cs b i j a),S)):W (cY 4 fr [webD w,stD ws cs,.bl b,alT i j a] S) Q:=by
 refine ge rfl (by rw[D.unds,D.unds,D.unds,D.unds,dI,jt,np];rfl) ?_;unfold fr;refine kn ?_;unfold lc;have p:∀S,c7 (alT i j a) (.int 0) S=some (.str "alike",S):=fun S=>jj (i:=0) rfl;have f:∀S,c7 (alT i j a) (.int 1) S=some (.int (i:Nat),S):=fun S=>jj (i:=1) rfl;have g:∀S,c7 (alT i j a) (.int 2) S=some (.int (j:Nat),S):=fun S=>jj (i:=2) rfl;have e:∀S,c7 (alT i j a) (.int 3) S=some (sgD a,S):=fun S=>jj (i:=3) rfl;have o:∀S,c7 (stD ws cs) (.int 0) S=some (.tup (nmD ws),S):=fun S=>jj (i:=0) rfl;refine dy (fun r V=>V=[]/\r=[some (webD w),some (stD ws cs),some (.bl b),some (alT i j a),none,none]) ?_ ?_
 ·((try walk_at"w");repeat(simp only[p];try walk_at"w"))
  rw[if_neg (by decide)];trivial
 rintro r V ⟨rfl,rfl⟩;cases b with
 |false=>
  unfold c9;rw[cX];walk_at"w";exact⟨rfl,q⟩
 |true=>
  unfold vA at q;cases hf:tf (wy m w (l9 m ws cs false) a)with
  |false=>
   unfold c9;rw[cX];walk_at"w";refine vF hw hm ?_
   ((try walk_at"w");repeat(simp only[e];try walk_at"w"))
   refine uE (k:=0) hw hm kd ht qa rfl ?_;rw[hf]at q ⊢;walk_at"w";exact⟨rfl,q⟩
  |true=>
   refine dy (fun r V=>r=[some (webD w),some (stD ws cs),some (.bl true),some (alT i j a),none,none]) ?_ ?_
   ·walk_at"w";refine vF hw hm ?_
    ((try walk_at"w");repeat(simp only[e];try walk_at"w"))
    refine uE (k:=0) hw hm kd ht qa rfl ?_;rw[hf];walk_at"w"
   rintro r V rfl;refine dy (fun r U=>U=V/\r=[some (webD w),some (stD ws cs),some (.bl true),some (alT i j a),some (.int (ws.getD i 0:Nat)),some (.int (ws.getD j 0:Nat))]) ?_ ?_
   ·have l:=wu (S:=V) hi;have h:=wu (S:=V) n
    ((try walk_at"w");repeat(simp only[o,f,g,l,h];try walk_at"w"))
   rintro r U ⟨rfl,rfl⟩;have b1:=mJ (S:=U) ht (km (i:=i) c d);have b2:=mJ (S:=U) ht (km (i:=j) c d);have:decide ((i:Int)<(j:Int))=decide (i<j):=by rw[bx];simp
   rw[hf]at q
   ((try walk_at"w");repeat(simp only[f,g];try walk_at"w"))
   rw[this];cases hij:decide (i<j)with
   |false=>
    rw[hij]at q;walk_at"w";exact⟨rfl,q⟩
   |true=>
    rw[hij]at q
    ((try walk_at"w");repeat(simp only[e,b1,b2];try walk_at"w"))
    exact⟨rfl,q⟩
theorem Im{m:Nat}{w:c5}{ws:List (List Nat)}(hk:C4 m w ws):cnd w ws 0=List.range m:=by
 unfold cnd;refine bH fun i=>?_;rw[gP1];by_cases h:i<ws.length
 ·have e:=gG1 h;rw[e,oP1,hk.to i _ e,cA (by rw[<- hk.len];exact h)];rfl
 ·rw[bI (by lia),bI (by rw[bY,<- hk.len];lia)];rfl
theorem KY{m:Nat}{w:c5}{ws:List (List Nat)}(hw:WebJ m w)(hk:C4 m w ws):Gd m w ws 0:=by
 refine⟨fun x c=>?_,?_,fun i hi=>?_⟩
 ·obtain⟨v,h⟩:=aX c;rw[hk.to v x h];rfl
 ·rw[Im hk];exact List.nodup_range
 ·rw[Im hk];unfold Car;have a:∀j,j<m->(List.range m).getD j 0=j:=fun j f=>by rw[bo,cA f];rfl
  rw[a i hi];have:(eG w i).map (E3 (List.range m))=(eG w i).map id:=b9 fun e g=>by
   obtain⟨d,b⟩:=aX g;unfold E3;rw[a e.1 (ue hw b)];rfl
  rw[this,List.map_id]
theorem CV{m r:Nat}{w:c5}{ws:List (List Nat)}(hk:C4 m w ws):(cnd w ws r).length=m:=by unfold cnd;rw[lM1,hk.len]
theorem Gy{os:List Nat}{S:Sto}{n:Nat}{Q:D×Sto->Prop}(h:S[n]?=some (.lst (nmD os)))(hw:os≠[])(q:Q (.int (lD (os.map fun(r:Nat)=>(r:Int))),S)):W (tj (.ref n) S) Q:=by
 refine W.of (x:=(.int (lD (os.map fun(r:Nat)=>(r:Int))),S)) ?_ q;simp only[tj,dj,h];rw[n8,oS1,if_neg (by simpa using hw)]
theorem Fc{m:Nat}{os:List Nat}(h:∀x∈os,x<m)(hw:os≠[]):0<=lD (os.map fun(r:Nat)=>(r:Int))/\lD (os.map fun(r:Nat)=>(r:Int))<m:=by
 have:=(qC (l:=os.map fun(r:Nat)=>(r:Int)) (by simpa using hw)).1;obtain⟨x,a,e⟩:=bQ.mp this;rw[<- e];have:=h x a;constructor<;>lia
abbrev Sm(zs:List Int):Prop:=∀z∈zs,-100<z/\z<100
theorem Ir{m:Nat}{w:c5}{S:Sto}{Q:D×Sto->Prop}(hw:WebJ m w)(a:0<m)(hm:m<=8)(q:∀zs:List Int,zs.length=m->Sm zs->Q (sgD zs,S)):W (cY 1 ed [webD w] S) Q:=by
 have A:W (ed [webD w] []) fun p=>∃zs:List Int,zs.length=m/\Sm zs/\p.1=sgD zs:=by
  unfold ed;refine kn ?_;unfold jl;refine dy (fun r V=>∃k ws,V[k]?=some (.lst (gD m w ws m))/\C4 m w ws/\r=[some (webD w),some (.ref k)]) ?_ ?_
  ·walk_at"w";refine An rfl (by rw[D.unds,dI];rfl) ((zx hw a hm).mono ?_);rintro p ⟨k,ws,L,K,H,n⟩;refine⟨k,_,L,K,H,fun G j M P _=>?_⟩;exact⟨j,ws,M,n,rfl⟩
  rintro r V ⟨k,ws,E,n,rfl⟩;have u:=(gE1.mp E).1;have I:∀S,dH (webD w) S=some (.int (m:Nat),S):=fun S=>by rw[webD,fH,lM1,hw.len]
  have g:trs m w ws m≠[]:=fun z=>by
   have:0∈trs m w ws m:=by
    unfold trs;rw[ag];exact⟨ah.mpr a,A7 (KY hw n)⟩
   rw[z]at this;cases this
  ((try walk_at"w");repeat(simp only[I];try walk_at"w"))
  refine⟨fB (by lia),?_⟩;rw[Int.toNat_natCast];refine g8 (fun i b r U=>∃(G:Sto) (zs:List Int) (x:Option D),i<=m/\b=zs.map D.int/\zs.length=i/\Sm zs/\U=V++G/\r=[x,some (.ref k)]) _ 0 [] _ _ ⟨[],[],_,by lia,rfl,rfl,(fun z h=>by cases h),(ay _).symm,rfl⟩ (fun _ _ _ _ _=>rfl) ?_ ?_
  ·rintro i d F b r U ⟨G,zs,x,hi,rfl,c,o,rfl,rfl⟩;obtain⟨v,rfl⟩:=nU _ _ _ _ F;rw[bu]at *
   rw[Int.zero_add];have l:(V++G)[k]?=some (.lst (gD m w ws m)):=by rw[gL1 u];exact E
   walk_at"w";refine dz l ?_;unfold gD;refine iM (f:=fun r=>D.tup (nmD (cnd w ws r))) (fun r=>D.int ((cnd w ws r).getD i 0:Nat)) (fun r=>∃y,r=[y,some (.int (i:Nat))]) (d3 l) (trs m w ws m) _ ⟨_,rfl⟩ ?_ ?_
   ·rintro t _ r ⟨y,rfl⟩;walk_at"w";refine AG (by rw[CV n];exact v) ?_;exact⟨rfl,rfl,_,rfl⟩
   ·rintro O _;refine ⟨c8 (by rw [lM1];have:=pX (m:=m) (k:=m) (w:=w) (ws:=ws);unfold gD at this;rw [lM1] at this;lia),?_⟩;have N:=Fc (m:=m) (os:=(trs m w ws m).map fun r=>(cnd w ws r).getD i 0) (fun x J=>by
     obtain⟨t,C,rfl⟩:=bQ.mp J;unfold trs at C;have s:=ah.mp (ag.mp C).1;exact km a (Ak hw a s)) (by simpa using g)
    refine Gy (os:=(trs m w ws m).map fun r=>(cnd w ws r).getD i 0) (by rw[c6,nmD,aZ];rfl) (by simpa using g) ?_;refine⟨G++[.lst ((trs m w ws m).map fun r=>D.int ((cnd w ws r).getD i 0:Nat))],zs++[lD (((trs m w ws m).map fun r=>(cnd w ws r).getD i 0).map fun(r:Nat)=>(r:Int))],_,by lia,?_,?_,?_,bj ..,rfl⟩
    ·rw[b7];rfl
    ·rw[lA1,c];rfl
    ·intro z c;rcases am.mp c with h|h
     ·exact o z h
     ·rw[bU.mp h];constructor<;>lia
  ·rintro b r U ⟨G,zs,x,hi,e,c,o,rfl,rfl⟩;rw[cf]at e;subst e;rw[eg,bu]at c;refine⟨c8 (by rw[lM1];lia),?_⟩;refine dz (xs:=zs.map D.int) (by rw[c6];rfl) ?_;exact⟨zs,c,o,rfl⟩
 refine ge rfl (by rw[D.unds,dI];rfl) (A.mono ?_);rintro⟨d,V⟩ ⟨zs,h1,h2,B⟩;dsimp only at B ⊢;subst B;exact⟨ff _,q zs h1 h2⟩
theorem Hj{S:Sto}:ms (.int 10) (.int 30) S=some (.int (10^30),S):=by
 simp only[ms];rw[if_pos ⟨by decide,by decide,by decide⟩];rfl
theorem Hk{S:Sto}:ms (.int 10) (.int 20) S=some (.int (10^20),S):=by
 simp only[ms];rw[if_pos ⟨by decide,by decide,by decide⟩];rfl
theorem HC{S:Sto}{i:Int}:CH (.int i) S=some (.int (-i),S):=rfl
theorem Iy{i j:Int}{S:Sto}{Q:D×Sto->Prop}(h:d9 i j=true)(q:Q (.int (i*j),S)):W (jc (.int i) (.int j) S) Q:=by
 refine W.of ?_ q;simp only[jc];rw[if_pos h]
theorem DB{n d:Nat}{xs:List Int}{S:Sto}{Q:D×Sto->Prop}(h:S[n]?=some (.lst (xs.map D.int)))(hd:d<xs.length)(q:∀z∈xs,Q (.int z,S)):W (c7 (.ref n) (.int d) S) Q:=
 gz (i:=d) (x:=.int xs[d]) h (by rw[gP1,gG1 hd];rfl) (q _ (bA hd))
theorem wS{n:Nat}{g:List Int}{o:Ob}{T:Sto}{Q:D×Sto->Prop}(ho:Hnd o n)(hn:n<=2^39)(hs:Sm g)(v:g.length<=100)(s:T.all (Ob.und (T.length+1))=true)(q:∀zs o',Hnd o' (n+3)->zs.length=g.length->Q (sgD zs,o'::T)):W (cY 2 fm [.ref 0,sgD g] (o::T)) Q:=by
 refine pL rfl rfl s ?_;unfold fm;refine kn ?_;unfold j4;refine dy (fun r V=>∃j a G,Hnd j (n+2)/\V=j::(T++G)/\r=[some (.ref 0),some (sgD g),some (.int a),none]) ?_ ?_
 ·walk_at"w";refine eZ ho (by lia) (by lia) (by lia) fun d j i t=>?_
  ((try walk_at"w");repeat(simp only[Hj,HC];try walk_at"w"))
  have p:fits 8=true:=c8 (by decide)
  try rw[show fits 8=true from p]
  refine eZ (T:=T++[_]) i (by lia) (by lia) (by lia) fun m h c k=>?_;refine DB (xs:=[(d:Int)-4,10^30,-7,100,0,1,2,3]) (by rw[gC1,c6];rfl) (by simp;lia) fun z _=>?_;exact⟨h,z,_,c,rfl,rfl⟩
 rintro r V ⟨j,a,G,i,rfl,rfl⟩;refine dy (fun r V=>∃h b G,Hnd h (n+3)/\V=h::(T++G)/\r=[some (.ref 0),some (sgD g),some (.int a),some (.int b)]) ?_ ?_
 ·((try walk_at"w");repeat(simp only[Hk,HC];try walk_at"w"))
  refine eZ (T:=T++(G++[_])) i (by lia) (by lia) (by lia) fun m h c k=>?_;refine DB (xs:=[1,-1,3,10^20]) (by rw[gC1,dA,c6];rfl) (by simp;lia) fun z l=>?_;exact⟨h,z,_,c,rfl,rfl⟩
 rintro r V ⟨h,b,G2,c,rfl,rfl⟩;walk_at"w";rw[i4];refine iM (f:=D.int) (fun z=>D.int (a+b*z)) (fun r=>∃x,r=[x,some (.int a),some (.int b)]) rfl g _ ⟨_,rfl⟩ ?_ ?_
 ·rintro z l r ⟨x,rfl⟩;walk_at"w";have h1:=hs z l;refine Iy ?_ ?_
  ·unfold d9;rw[bv,bv];refine .inl (.inr ?_);rw[bA1,decide_eq_true_eq,decide_eq_true_eq];constructor<;>lia
  walk_at"w";exact⟨_,rfl⟩
 ·rintro u _;refine⟨c8 (by rw[lM1];lia),?_⟩;refine dz (xs:=g.map fun z=>D.int (a+b*z)) (by rw[c6];rfl) ?_;have e:(g.map fun z=>D.int (a+b*z))=(g.map fun z=>a+b*z).map D.int:=by rw[aZ];rfl
  rw[e];refine⟨sgD (g.map fun z=>a+b*z),h,G2++[.lst ((g.map fun z=>a+b*z).map D.int)],by show(_,(h::(T++G2))++[_])=_;rw[aS,bj],ff _,c.und,q _ h c (by rw[lM1])⟩
theorem JP(xs:List D)(k:Nat):Mi.m8 xs none (some (k:Int))=xs.take k:=by
 unfold Mi.m8;rw[HT.sf,HT.vg,List.drop_zero,Nat.sub_zero];by_cases h:k<=xs.length
 ·rw[bc h]
 ·rw[Nat.min_eq_right (by lia),bF,bS (by lia)]
theorem JO(xs:List D)(k:Nat):Mi.m8 xs (some (k:Int)) none=xs.drop k:=by
 unfold Mi.m8;rw[HT.sf,HT.vg];by_cases h:k<=xs.length
 ·rw[bc h,bS (by simp)]
 ·rw[Nat.min_eq_right (by lia),List.drop_length,List.drop_of_length_le (by lia)];simp
theorem DC{n k:Nat}{S:Sto}{xs ys:List D}{Q:D×Sto->Prop}(h1:S[n]?=some (.lst xs))(h2:S[k]?=some (.lst ys))(a:xs.length+ys.length<=1000)(q:Q (.non,S.set n (.lst (xs++ys)))):W (xg (.ref n) (.ref k) S) Q:=by
 refine W.of ?_ q;simp only[xg,h1,h2];rw[if_pos (ai a (by decide))]
def Be(zs:List Int)(a:Nat)(z:Int):List Int:=zs.take a++z::zs.drop (a+1)
theorem vf{zs:List Int}{a:Nat}{z:Int}(h:a<zs.length):(Be zs a z).length=zs.length:=by
 unfold Be;rw[lA1,aD,lC1,aG];lia
theorem De{i a:Nat}{zs:List Int}{e:FE}{r:Ev}{S:Sto}{Q:D×Sto->Prop}(hi:r[i]? = some (some (sgD zs)))(h:r[8]? = some (some (.int (a:Nat))))(k:zs.length<=100)(he:W (e r S) fun p=>∃z,p.1 = .int z/\Q (sgD (Be zs a z),p.2)):
  W (m2 (b2 e6) (m2 (b2 e6) (mh (mV i) jh (gQ (mV 8))) (d6 (cT e cU))) (mh (mV i) (gQ (m2 (b2 e6) (mV 8) (mC (D.int (1))))) jh) r S) Q:=by
 have g:∀S,mV i r S=some (sgD zs,S):=fun S=>by unfold mV;rw[hi]
 have c:∀S,mV 8 r S=some (.int (a:Nat),S):=fun S=>by unfold mV;rw[h]
 have j:∀S,gQ (mV 8) r S=some (some (a:Int),S):=fun S=>by unfold gQ;rw[c];rfl
 have b:∀S,gQ (m2 (b2 e6) (mV 8) (mC (D.int (1)))) r S=some (some ((a+1:Nat):Int),S):=fun S=>by unfold gQ m2;rw[c];rfl
 unfold m2;rw[cX,cX];refine wr (g S) rfl (j S) ?_;rw[JP,cX,uS];unfold cT;rw[cX];refine he.mono ?_;rintro⟨d,V⟩ ⟨z,f,q⟩;dsimp only at f q ⊢;subst f;refine cX.mpr (W.of (x:=([],V)) rfl (da.mpr ⟨Kj,?_⟩));dsimp only[b2];rw[uT];refine⟨c8 (by simp;lia),?_⟩;rw[cX];refine wr (g V) (b V) rfl ?_;rw[JO];dsimp only[b2];rw[uT];refine⟨c8 (by simp;lia),?_⟩;have:(List.take a (zs.map D.int)++[D.int z])++List.drop (a+1) (zs.map D.int)=(Be zs a z).map D.int:=by
  unfold Be;rw[b7,mP1,List.map_take,List.map_drop,bj];rfl
 rw[this];exact q
abbrev Ti(m:Nat)(d:D):Prop:=∃zs:List Int,zs.length=m/\d=sgD zs
theorem Gw{G:Sto}{k:Nat}(h:G.all (Ob.und 0)=true):G.all (Ob.und k)=true:=bd.mpr fun o a=>ig (aR _) (bd.mp h o a)
theorem vS{xs:List Int}:(Ob.lst (xs.map D.int)).und 0=true:=dG fun _ _=>rfl
theorem ye{m:Nat}{L:List D}(h:∀d∈L,Ti m d):(Ob.lst L).und 0=true:=by
 have:=dG (n:=0) (f:=fun d:D=>d) (xs:=L) fun x a=>by
  obtain⟨zs,_,rfl⟩:=h x a;exact ff zs
 rwa [List.map_id']at this
abbrev xi(w:c5)(ws cs rs:List Nat)(x4 x5 x6 x7 x8 x9 x10:Option D):Ev:=[some (.ref 0),some (webD w),some (stD ws cs),some (.tup (nmD rs)),x4,x5,x6,x7,x8,x9,x10]
inductive P1 (m n:Nat)(w:c5)(ws cs rs:List Nat)(x4 x6:Option D)(G:Sto)(kf:Nat)(L:List D):Ev->Sto->Prop
 |mk (o':Ob) (G':Sto) (L':List D) (x7 x8 x9 x10:Option D):Hnd o' (n+6)->G'.all (Ob.und 0)=true->(∀d∈L',Ti m d)->L'.length=L.length+5->P1 m n w ws cs rs x4 x6 G kf L (xi w ws cs rs x4 (some (.ref (kf+1))) x6 x7 x8 x9 x10) (o'::(G.set kf (.lst L')++G'))
theorem lh{a:FE}{b:FA}{r:Ev}{S:Sto}{Q:List D×Sto->Prop}(h:W (a r S) fun p=>W (b r p.2) fun q=>Q (p.1::q.1,q.2)):W (cT a b r S) Q:=by
 unfold cT;rw[cX];simp only[cX,da];exact h
theorem AD{r:Ev}{S:Sto}{Q:List D×Sto->Prop}(h:Q ([],S)):W (cU r S) Q:=W.of rfl h
theorem JX{f:G1}{a:FE}{r:Ev}{S:Sto}{Q:D×Sto->Prop}(h:W (a r S) fun p=>W (f p.1 p.2) Q):W (mN (b1 f) (cT a cU) r S) Q:=by
 unfold mN;rw[cX];exact lh (h.mono fun p b=>AD b)
theorem EL{m n g:Nat}{w:c5}{ws cs rs:List Nat}{e:List Int}{o:Ob}{G:Sto}{L:List D}{x4 x7 x8 x9 x10:Option D}(hw:WebJ m w)(U:0<m)(hm:m<=8)(ht:e.length=m)(hs:Sm e)(ho:Hnd o n)(hn:n<=2^38)(hG:G.all (Ob.und 0)=true)(hk:G[g]? = some (.lst L))(Q:∀ d∈L,Ti m d)(hl:L.length<=100):
  W (gJ (xi w ws cs rs x4 (some (.ref (g+1))) (some (sgD e)) x7 x8 x9 x10) (o::G)) fun p=>p.1 = .nx/\P1 m n w ws cs rs x4 (some (sgD e)) G g L p.2.1 p.2.2:=by
 have q:=(gE1.mp hk).1;have N:∀S,dH (webD w) S=some (.int (m:Nat),S):=fun S=>by rw[webD,fH,lM1,hw.len]
 unfold gJ;refine dy (fun r V=>∃z zs a,Hnd z (n+4)/\zs.length=m/\a<m/\V=z::G/\r=xi w ws cs rs x4 (some (.ref (g+1))) (some (sgD e)) (some (sgD zs)) (some (.int (a:Nat))) x9 x10) ?_ ?_
 ·walk_at"w";refine wS ho (by lia) hs (by lia) (Gw hG) fun zs z t A=>?_
  ((try walk_at"w");repeat(simp only[N];try walk_at"w"))
  refine eZ t (by lia) (by lia) (by lia) fun a j l Z=>?_;walk_at"w";exact⟨j,zs,a,l,A.trans ht,by lia,rfl,rfl⟩
 rintro r V ⟨z,zs,a,t,A,Z,rfl,rfl⟩;refine dy (fun r V=>∃j b,Hnd j (n+5)/\b<m/\V=j::G/\r=xi w ws cs rs x4 (some (.ref (g+1))) (some (sgD e)) (some (sgD zs)) (some (.int (a:Nat))) (some (.int (b:Nat))) x10) ?_ ?_
 ·((try walk_at"w");repeat(simp only[N];try walk_at"w"))
  refine eZ t (by lia) (by lia) (by lia) fun b j l T=>?_;exact⟨j,b,l,by lia,rfl,rfl⟩
 rintro r V ⟨j,b,l,T,rfl,rfl⟩;refine dy (fun r V=>V=j::(G++[.lst (e.map D.int)])/\r=xi w ws cs rs x4 (some (.ref (g+1))) (some (sgD e)) (some (sgD zs)) (some (.int (a:Nat))) (some (.int (b:Nat))) (some (.ref (G.length+1)))) ?_ ?_
 ·have R:xf (sgD e) (j::G)=some (.ref (G.length+1),j::(G++[.lst (e.map D.int)])):=rfl
  ((try walk_at"w");repeat(simp only[R];try walk_at"w"))
 rintro r V ⟨rfl,rfl⟩;have v:∀(o:Ob) (X:Ob),(o::(G++[X]))[G.length+1]?=some X:=fun o X=>by rw[gC1,c6];rfl
 have s:∀(o X Y:Ob),(o::(G++[X])).set (G.length+1) Y=o::(G++[Y]):=fun o X Y=>by
  rw[b0,cv _ _ (nR1 _),b5];rfl
 have E:(e.map D.int)[a]?=some (.int (e.getD a 0)):=by rw[gP1,bo,gG1 (by lia)];rfl
 have H:(e.map D.int)[b]?=some (.int (e.getD b 0)):=by rw[gP1,bo,gG1 (by lia)];rfl
 refine dy (fun r V=>∃f:List Int,f.length=m/\V=j::(G++[.lst (f.map D.int)])/\r=xi w ws cs rs x4 (some (.ref (g+1))) (some (sgD e)) (some (sgD zs)) (some (.int (a:Nat))) (some (.int (b:Nat))) (some (.ref (G.length+1)))) ?_ ?_
 ·walk_at"w";refine gz (v _ _) H ?_;refine gz (v _ _) E ?_;walk_at"w";refine AB (v _ _) (by rw[lM1];lia) ?_;rw[s];walk_at"w";refine AB (v _ _) (by rw[aH,lM1];lia) ?_;rw[s];refine⟨(e.set a (e.getD b 0)).set b (e.getD a 0),by rw[aH,aH];exact ht,?_,trivial⟩;rw[List.map_set,List.map_set]
 rintro r V ⟨f,C,rfl,rfl⟩;have P:∀(o:Ob) (Y:Sto),(o::(G++Y))[g+1]?=some (.lst L):=fun o Y=>by rw[gC1,gL1 q];exact hk
 have u:∀(o:Ob) (i:List D) (Y:Sto),(o::(G.set g (.lst i)++Y))[g+1]?=some (.lst i):=fun o i Y=>by rw[gC1,gL1 (by rw[aH];exact q),ap q]
 have M:∀(o:Ob) (i:List D) (Y:Sto),(o::(G++Y)).set (g+1) (.lst i)=o::(G.set g (.lst i)++Y):=fun o i Y=>by rw[b0,cD _ _ q]
 have y:∀(o:Ob) (O i:List D) (Y:Sto),(o::(G.set g (.lst O)++Y)).set (g+1) (.lst i)=o::(G.set g (.lst i)++Y):=fun o O i Y=>by rw[b0,cD _ _ (by rw[aH];exact q),List.set_set]
 have F:(zs.map D.int)[b]?=some (.int (zs.getD b 0)):=by rw[gP1,bo,gG1 (by lia)];rfl
 refine dy (fun r V=>∃i,(∀d∈i,Ti m d)/\i.length=L.length+4/\V=j::(G.set g (.lst i)++[.lst (f.map D.int),.lst [sgD e,sgD zs,sgD (Be zs a (zs.getD b 0)),sgD f]])/\r=xi w ws cs rs x4 (some (.ref (g+1))) (some (sgD e)) (some (sgD zs)) (some (.int (a:Nat))) (some (.int (b:Nat))) (some (.ref (G.length+1)))) ?_ ?_
 ·unfold dX;rw[cX];refine fv ?_;refine W.of (x:=(.ref (g+1),_)) rfl ⟨g+1,L,rfl,P _ _,?_⟩;refine lh (rK.mpr ?_);refine lh (W.of (x:=(sgD e,_)) rfl ?_);refine lh (W.of (x:=(sgD zs,_)) rfl ?_);refine lh (De (zs:=zs) (a:=a) rfl rfl (by lia) ?_);refine Iz (W.of (x:=(sgD zs,_)) rfl (W.of (x:=(.int (b:Nat),_)) rfl ?_));refine jm F ?_;refine⟨_,rfl,?_⟩;refine lh (JX (W.of (x:=(.ref (G.length+1),_)) rfl ?_));refine AF.mpr (dz (v _ _) ?_);refine AD ⟨Kh,AD ?_⟩;dsimp only[b2];have el:(j::(G++[Ob.lst (f.map D.int)])).length=G.length+2:=by simp
  rw[el];refine DC (xs:=L) (ys:=[sgD e,sgD zs,sgD (Be zs a (zs.getD b 0)),sgD f]) (k:=G.length+2) ?_ ?_ (by simp;lia) ?_
  ·rw[aS,bj];exact P _ _
  ·rw[aS,gC1,bj,dA];rfl
  rw[da];refine⟨rfl,L++[sgD e,sgD zs,sgD (Be zs a (zs.getD b 0)),sgD f],fun d B=>?_,by simp,?_,rfl⟩
  ·rcases am.mp B with h|h
   ·exact Q d h
   ·simp only[ak,bq,or_false]at h;rcases h with rfl|rfl|rfl|rfl
    ·exact⟨e,ht,rfl⟩
    ·exact⟨zs,A,rfl⟩
    ·exact⟨_,by rw[vf (by lia)];exact A,rfl⟩
    ·exact⟨f,C,rfl⟩
  ·dsimp only;rw[aS,bj,M];rfl
 rintro r V ⟨i,K,I,rfl,rfl⟩;unfold dX;rw[cX];refine fv ?_;refine W.of (x:=(.ref (g+1),_)) rfl ⟨g+1,i,rfl,u _ _ _,?_⟩;refine lh (De (zs:=e) (a:=a) rfl rfl (by lia) ?_);walk_at"w";refine eZ l (by lia) (by lia) (by lia) fun c o3 J hc=>?_;walk_at"w";refine⟨_,rfl,?_⟩;refine(iu (u _ _ _)).mpr ⟨c8 (by lia),?_⟩;rw[y];refine(.mk o3 _ _ _ _ _ _ J ?_ ?_ ?_)
 ·rw[bw,bw,vS];have:(Ob.lst [sgD e,sgD zs,sgD (Be zs a (zs.getD b 0)),sgD f]).und 0=true:=by rw[Ob.und,D.unds,D.unds,D.unds,D.unds,ff,ff,ff,ff];rfl
  rw[this];rfl
 ·intro d B;rcases am.mp B with h|h
  ·exact K d h
  ·rw[bU.mp h];exact⟨_,by rw[vf (by lia)];exact ht,rfl⟩
 ·rw[lA1,I];rfl
abbrev Tm(m:Nat)(d:D):Prop:=∃zs:List Int,zs.length=m/\Sm zs/\d=sgD zs
theorem ub{m:Nat}{L:List D}(h:∀d∈L,Tm m d):(Ob.lst L).und 0=true:=ye fun d a=>by
 obtain⟨zs,h1,_,h2⟩:=h d a;exact⟨zs,h1,h2⟩
theorem zf{m:Nat}{rs:List Nat}(c:rs.length=m)(h:∀x∈rs,x<8):Tm m (.tup (nmD rs)):=by
 refine⟨rs.map fun(r:Nat)=>(r:Int),by rw[lM1];exact c,fun z b=>?_,by unfold nmD sgD;rw[aZ];rfl⟩;obtain⟨x,a,rfl⟩:=bQ.mp b;have:=h x a;constructor<;>lia
theorem DQ{k n:Nat}(h:n<=k)(S:Sto):gc n (.ref k,S)=(.ref k,S):=by
 unfold gc;rw[show(D.ref k).und n=false by rw[D.und];simpa using h];rfl
theorem hC{G H:Sto}(h:G.all (Ob.und 0)=true)(h':H.all (Ob.und 0)=true):(G++H).all (Ob.und 0)=true:=by rw[ca,h,h'];rfl
theorem rH{o:Ob}(h:o.und 0=true):[o].all (Ob.und 0)=true:=by rw[bw,h];rfl
theorem wp{G:Sto}{k:Nat}{o:Ob}(h:G.all (Ob.und 0)=true)(h':o.und 0=true):(G.set k o).all (Ob.und 0)=true:=by
 rw[bd]at *
 intro x a;rcases List.mem_or_eq_of_mem_set a with z|z
 ·exact h x z
 ·rw[z];exact h'
theorem Gg{m n:Nat}{w:c5}{ws cs rs:List Nat}{o:Ob}{G:Sto}{x4 x5 x6 x7 x8 x9 x10:Option D}(hw:WebJ m w)(l:0<m)(hm:m<=8)(u:rs.length=m)(v:∀ x∈rs,x<8)(ho:Hnd o n)(E:G.all (Ob.und 0)=true):
  W ((c9 (dk (dZ 1 [1,2] (fC (d6 (cT (mC (D.bl true)) (cT (mC (D.bl false)) cU)))) (gN 0) eN (dS (mN (cY 2 eU) (cT (mV 1) (cT (mN (cY 3 d5) (cT (mV 1) (cT (mV 2) (cT (mV 0) cU)))) cU))))) (gN 4))
  (dk (m2 (b2 e6) (mV 4) (fy (cT (mV 3) (cT (wZ (cT (mN (b1 dH) (cT (mV 1) cU)) cU)) (cT (mN (cY 1 ed) (cT (mV 1) cU)) cU))))) (gN 4))) (xi w ws cs rs x4 x5 x6 x7 x8 x9 x10) (o::G)) fun p=>p.1 = .nx /\ ∃G1 B A,(G++G1).all (Ob.und 0)=true/\(G++G1)[B]?=some (.lst A)/\(∀d∈A,Tm m d)/\A.length<=5/\p.2=(xi w ws cs rs (some (.ref (B+1))) x5 x6 x7 x8 x9 x10,o::(G++G1)):=by
 have F:∀S,dH (webD w) S=some (.int (m:Nat),S):=fun S=>by rw[webD,fH,lM1,hw.len]
 refine dy (fun r V=>∃G1 A,G1.all (Ob.und 0)=true/\(∀d∈A,Tm m d)/\A.length=2/\V=o::(G++(G1++[.lst A]))/\r=xi w ws cs rs (some (.ref (G.length+G1.length+1))) x5 x6 x7 x8 x9 x10) ?_ ?_
 ·walk_at"w";rw[i4];refine g8 (fun i e r U=>∃G1 x,(∀d∈e,Tm m d)/\e.length=i/\G1.all (Ob.und 0)=true/\U=o::(G++G1)/\r=[x,some (webD w),some (stD ws cs)]) _ 0 [] _ _ ⟨[],_,(fun d h=>by cases h),rfl,rfl,by rw[ay],rfl⟩ (fun _ _ _ _ _=>rfl) ?_ ?_
  ·rintro i d c e r U ⟨G1,x,f,g,a,rfl,rfl⟩;rw[bu]at *
   obtain⟨b,rfl⟩:∃b,d = .bl b:=by
    match i,c with
    |0,h=>exact⟨true,(Option.some.inj h).symm⟩
    |1,h=>exact⟨false,(Option.some.inj h).symm⟩
   walk_at"w";refine vF hw hm ?_;walk_at"w";have j:(Ob.lst ((l9 m ws cs b).map D.int)).und 0=true:=vS;refine FC (sg:=l9 m ws cs b) hw l hm kd ?_ (by rw[gC1,dA,c6];rfl) fun J t s=>?_
   ·rw[bw,ho.und,hC E (hC a (rH j))];rfl
   refine⟨G1++[.lst ((l9 m ws cs b).map D.int)],_,fun d c=>?_,by simp[g],hC a (rH j),rfl,rfl⟩;rcases am.mp c with z|z
   ·exact f d z
   ·rw[bU.mp z];exact zf t s
  ·rintro xs r U ⟨G1,x,f,g,a,rfl,rfl⟩;rw[cf]at f g;have g:xs.length=2:=g;refine⟨c8 (by lia),?_⟩;refine⟨G1,xs,a,f,g,by rw[aS,bj],?_⟩;simp
 rintro r V ⟨G1,A,a,f,g,rfl,rfl⟩;simp(implicitDefEqProofs:=false) only[dk,m2,mV,mN,cT,cU,mC,b2,gN,cX,da,rK,oS1,ci,gC1,lC1,aO,cj,b0,ck,JJ,true_and];refine DD (k:=m) (S1:=o::(G++(G1++[.lst A]))) ?_ (by lia) ?_
 ·simp only[cT,cU,mN,mV,b1,gC1,ci,oS1,F]
 refine Ir hw l hm fun zs K I=>?_;dsimp only;have q:(o::(G++(G1++[Ob.lst A]))).length=G.length+G1.length+2:=by simp;lia
 rw[q];have y:∀d∈[D.tup (nmD rs),.tup (nmD (List.range m)),sgD zs],Tm m d:=fun d c=>by
  simp only[ak,bq,or_false]at c;rcases c with rfl|rfl|rfl
  ·exact zf u v
  ·exact zf bY fun x H=>by have:=ah.mp H;lia
  ·exact⟨zs,K,I,rfl⟩
 refine(GB (xs:=A) (ys:=[D.tup (nmD rs),.tup (nmD (List.range m)),sgD zs]) ?_ ?_).mpr ⟨c8 (by simp;lia),?_⟩
 ·rw[aS,gC1,bj,dA,bj,c6];rfl
 ·rw[aS,gC1,show G.length+G1.length+1=(G++(G1++[Ob.lst A])).length by simp;lia,c6];rfl
 have C:∀d∈A++[D.tup (nmD rs),.tup (nmD (List.range m)),sgD zs],Tm m d:=fun d c=>by
  rcases am.mp c with z|z
  ·exact f d z
  ·exact y d z
 refine⟨G1++[.lst A,.lst [D.tup (nmD rs),.tup (nmD (List.range m)),sgD zs],.lst (A++[D.tup (nmD rs),.tup (nmD (List.range m)),sgD zs])],G.length+G1.length+2,_,?_,?_,C,by simp;lia,?_⟩
 ·refine hC E (hC a ?_);rw[bw,bw,bw,ub f,ub y,ub C];rfl
 ·rw[aT,dA,dA];rfl
 ·simp
  try lia
theorem D9{a b c:FS}{r:Ev}{S:Sto}{Q:Fl×Ev×Sto->Prop}(h:W (c9 (c9 a b) c r S) Q):W (c9 a (c9 b c) r S) Q:=by
 have:c9 (c9 a b) c r S=c9 a (c9 b c) r S:=by
  unfold c9;cases a r S with
  |none=>rfl
  |some p=>
   obtain⟨f,d,e⟩:=p;cases f<;>rfl
 rwa [this]at h
inductive PQ (m n:Nat)(w:c5)(ws cs rs:List Nat)(G:Sto)(ka kf:Nat)(A:List D)(i:Nat):Ev->Sto->Prop
 |mk (o':Ob) (H:Sto) (L:List D) (x6 x7 x8 x9 x10:Option D):Hnd o' (n+6*i)->(G++H).all (Ob.und 0)=true->(G++H)[ka]?=some (.lst A)->(G++H)[kf]?=some (.lst L)->(∀d∈L,Ti m d)->L.length=5*i->PQ m n w ws cs rs G ka kf A i (xi w ws cs rs (some (.ref (ka+1))) (some (.ref (kf+1))) x6 x7 x8 x9 x10) (o'::(G++H))
theorem yX{m n:Nat}{w:c5}{ws cs rs:List Nat}{o:Ob}{G:Sto}{Q:D×Sto->Prop}(hw:WebJ m w)(s:0<m)(hm:m<=8)(C:rs.length=m)(F:∀ x∈rs,x<8)(ho:Hnd o n)(hn:n<=2^37)(hG:G.all (Ob.und 0)=true)(q:∀o' H J L,Hnd o' (n+30)->(G++H).all (Ob.und 0)=true->(G++H)[J]?=some (.lst L)->G.length<=J->(∀d∈L,Ti m d)->L.length<=25->Q (.ref (J+1),o'::(G++H))):W (cY 4 fF [.ref 0,webD w,stD ws cs,.tup (nmD rs)] (o::G)) Q:=by
 refine tQ rfl rfl ?_;unfold fF;refine kn ?_;unfold kP;refine D9 (dy (fun r V=>∃(G1:Sto) (a:Nat) (A:List D),(G++G1).all (Ob.und 0)=true/\(G++G1)[a]?=some (Ob.lst A)/\(∀d∈A,Tm m d)/\A.length<=5/\(r,V)=(xi w ws cs rs (some (.ref (a+1))) none none none none none none,o::(G++G1))) (Gg (ws:=ws) (cs:=cs) (x4:=none) (x5:=none) (x6:=none) (x7:=none) (x8:=none) (x9:=none) (x10:=none) hw s hm C F ho hG) ?_);rintro r V ⟨G1,a,A,z,j,T,S,e⟩;obtain⟨rfl,rfl⟩:=Prod.mk.inj e;have b:=(gE1.mp j).1;have P:a<G.length+G1.length:=by rw[lA1]at b;exact b
 refine dy (PQ m n w ws cs rs G a (G.length+G1.length) A 0) ?_ ?_
 ·have h1:(G++(G1++[Ob.lst []])).all (Ob.und 0)=true:=by rw[<- bj];exact hC z rfl
  walk_at"w";show PQ m n w ws cs rs G a (G.length+G1.length) A 0 (xi w ws cs rs (some (.ref (a+1))) (some (.ref (G.length+G1.length+1))) none none none none none) (o::(G++(G1++[Ob.lst []])));refine PQ.mk (n:=n) (i:=0) o (G1++[.lst []]) [] _ _ _ _ _ (Hnd.more ho (aY _ _)) h1 ?_ ?_ (fun d h=>by cases h) rfl
  ·rw[<- bj,gL1 b];exact j
  ·rw[dA,c6];rfl
 rintro r V h;refine dy (fun r V=>PQ m n w ws cs rs G a (G.length+G1.length) A A.length r V) ?_ ?_
 ·have y:∀ {r V i},PQ m n w ws cs rs G a (G.length+G1.length) A i r V->W (fC (mV 4) r V) fun p=>p=(⟨A,[(a+1,A)]⟩,V):=fun {r V i} h=>by
   obtain⟨o',H,L,I,u,v,t,c,h1,h2,f,g,l,E⟩:=h;rw[rL];refine W.of (x:=(.ref (a+1),o'::(G++H))) rfl ?_;exact dz (xs:=A) (by rw[gC1];exact f) rfl
  unfold ee;rw[cX];refine(y h).mono ?_;rintro p rfl;dsimp only;refine dP (fun i r V=>i<=A.length/\PQ m n w ws cs rs G a (G.length+G1.length) A i r V) _ 0 _ _ ⟨aR _,h⟩ ?_ ?_ ?_
  ·rintro i r V ⟨_,o',H,L,I,u,v,t,c,h1,h2,f,g,l,E⟩;exact d3 (by rw[gC1];exact f)
  ·rintro i d K r V ⟨hi,o',H,L,I,u,v,t,c,h1,h2,f,g,l,E⟩;rw[bu]at *
   obtain⟨ts,Z,U,rfl⟩:=T d (gM1 K);have Y:=(gE1.mp K).1;have k:=(gE1.mp g).1;walk_at"w";refine(EL (n:=n+6*i) hw s hm Z U h1 (by lia) h2 g l (by lia)).mono ?_;rintro⟨fl,r,V⟩ ⟨N,o2,O,B,y7,y8,y9,y10,R,X,M,g4⟩;dsimp only at N ⊢;refine⟨N,by lia,?_⟩;have es:(G++H).set (G.length+G1.length) (.lst B)++O=G++(H.set G1.length (.lst B)++O):=by
    rw[cv _ _ (by lia),Nat.add_sub_cancel_left,bj]
   rw[es];refine .mk o2 _ B _ _ _ _ _ (R.more (by lia)) ?_ ?_ ?_ M (by lia)
   ·rw[<- es];exact hC (wp h2 (ye M)) X
   ·rw[<- es,gL1 (by rw[aH];exact(gE1.mp f).1),gS1 (by lia)];exact f
   ·rw[<- es,gL1 (by rw[aH];exact k),ap k]
  ·rintro r V ⟨_,h⟩;rw[bu]at h;exact⟨rfl,h⟩
 rintro r V ⟨o',H,L,I,u,v,t,c,h1,h2,f,g,l,E⟩;walk_at"w";rw[DQ (by simp)];exact q o' H _ L (h1.more (by lia)) h2 g (by lia) l (by lia)
inductive Pap (m n:Nat):D->Prop
 |co (ts:List Int):ts.length=m->Pap m n (coT ts)
 |al (i j:Nat) (ts:List Int):ts.length=m->i<n->j<n->Pap m n (alT i j ts)
theorem Pap.und{m n:Nat}{d:D}(h:Pap m n d):d.und 0=true:=by
 cases h with
 |co a _=>exact rz
 |al i j a _ _ _=>exact np
theorem vq{m n:Nat}{L:List D}(h:∀d∈L,Pap m n d):(Ob.lst L).und 0=true:=by
 have:=dG (n:=0) (f:=fun d:D=>d) (xs:=L) fun x a=>(h x a).und
 rwa [List.map_id']at this
abbrev evL(N:D)(k:Int)(x3 x4 x5 x6 x7 x8 x9 x10 x11 x12 x13 x14:Option D):Ev:=[some N,some (.int k),some (.ref 0),x3,x4,x5,x6,x7,x8,x9,x10,x11,x12,x13,x14]
theorem HE{b:Bool}{S:Sto}:s9 (.bl b) (.bl b) S=some (.bl false,S):=by cases b<;>rfl
theorem Iv{m:Nat}{w:c5}{ws cs:List Nat}{b:Bool}{d N:D}{k:Int}{S:Sto}{x3 x5 x7 x8 x9 x10 a x14:Option D}(hw:WebJ m w)(e:0<m)(hm:m<=8)(f:∀ x∈ws,x<m)(h:Pap m ws.length d):
  W (qr (evL N k x3 (some (webD w)) x5 (some (stD ws cs)) x7 x8 x9 x10 a (some d) (some (.bl b)) x14) S) fun p=>p.1 = .nx/\p.2.2=S /\ ∃x14,p.2.1=evL N k x3 (some (webD w)) x5 (some (stD ws cs)) x7 x8 x9 x10 a (some d) (some (.bl b)) x14:=by
 have g:∃v:Bool,(∀(S:Sto) (Q:D×Sto->Prop),Q (.bl v,S)->W (cY 4 et [webD w,stD ws cs,.bl b,d] S) Q) /\ ∀(S:Sto) (Q:D×Sto->Prop),Q (.bl v,S)->W (cY 4 fr [webD w,stD ws cs,.bl b,d] S) Q:=by
  cases h with
  |co n c=>exact⟨_,fun S Q q=>yw hw hm c q,fun S Q q=>F8 hw hm c q⟩
  |al i j n c hi l=>exact⟨_,fun S Q q=>yx hw e hm c f hi l q,fun S Q q=>F9 hw e hm c f hi l q⟩
 obtain⟨v,h1,h2⟩:=g;unfold qr;refine dy (fun r V=>V=S/\r=evL N k x3 (some (webD w)) x5 (some (stD ws cs)) x7 x8 x9 x10 a (some d) (some (.bl b)) (some (.bl v))) ?_ ?_
 ·walk_at"w";refine h1 _ _ ?_;exact⟨rfl,rfl⟩
 rintro r V ⟨rfl,rfl⟩;walk_at"w";refine lg.mpr ?_
 ((try walk_at"w");repeat(simp only[HY];try walk_at"w"))
 refine h2 _ _ ?_
 ((try walk_at"w");repeat(simp only[HE];try walk_at"w"))
 exact⟨_,rfl⟩
theorem Gs{m:Nat}{w:c5}{ws cs:List Nat}{d N:D}{k:Int}{S:Sto}{x3 x5 x7 x8 x9 x10 c a x14:Option D}(hw:WebJ m w)(f:0<m)(hm:m<=8)(g:∀ x∈ws,x<m)(h:Pap m ws.length d):
  W (qq (evL N k x3 (some (webD w)) x5 (some (stD ws cs)) x7 x8 x9 x10 c (some d) a x14) S) fun p=>p.1 = .nx/\p.2.2=S /\ ∃a x14,p.2.1=evL N k x3 (some (webD w)) x5 (some (stD ws cs)) x7 x8 x9 x10 c (some d) a x14:=by
 unfold qq;walk_at"w";rw[i4];refine dP (fun i r V=>V=S /\ ∃a x14,r=evL N k x3 (some (webD w)) x5 (some (stD ws cs)) x7 x8 x9 x10 c (some d) a x14) _ 0 _ _ ⟨rfl,_,_,rfl⟩ (fun _ _ _ _=>rfl) ?_ ?_
 ·rintro i e l r V ⟨rfl,a,x14,rfl⟩;obtain ⟨b,rfl⟩:∃ b,e = .bl b:=by
   match i,l with
   |0,h=>exact⟨true,(Option.some.inj h).symm⟩
   |1,h=>exact⟨false,(Option.some.inj h).symm⟩
  walk_at"w";refine(Iv hw f hm g h).mono ?_;rintro p ⟨n,o,x14,j⟩;exact⟨n,o,_,_,j⟩
 ·rintro r V ⟨rfl,a,x14,rfl⟩;exact⟨rfl,rfl,_,_,rfl⟩
inductive PM (m n nw:Nat)(w:c5)(ws cs:List Nat)(N:D)(k:Int)(x3 x5 x12 x13 x14:Option D)(g kf:Nat)(L:List D)(i:Nat):Ev->Sto->Prop
 |mk (o:Ob) (G:Sto) (M:List D) (x9 x10 x11:Option D):Hnd o (n+2*i)->G.all (Ob.und 0)=true->G[g]?=some (.lst M)->G[kf]?=some (.lst L)->(∀d∈M,Pap m ws.length d)->M.length=3*i->PM m n nw w ws cs N k x3 x5 x12 x13 x14 g kf L i (evL N k x3 (some (webD w)) x5 (some (stD ws cs)) (some (.tup (nmD ws))) (some (.ref (g+1))) x9 x10 x11 x12 x13 x14) (o::G)
theorem A6{m n i g C:Nat}{w:c5}{ws cs:List Nat}{N:D}{k:Int}{c:List Int}{o:Ob}{G:Sto}{L M:List D}{x3 x5 x10 A h q l:Option D}(u:g≠C)(ht:c.length=m)(T:0<ws.length)(J:ws.length<=20)(ho:Hnd o (n+2*i))(hn:n<=2^37)(hi:i<=30)(Q:G.all (Ob.und 0)=true)(hg:G[g]? = some (.lst M))(s:G[C]? = some (.lst L))(K:∀ d∈M,Pap m ws.length d)(P:M.length=3*i):
  W (qt (evL N k x3 (some (webD w)) x5 (some (stD ws cs)) (some (.tup (nmD ws))) (some (.ref (g+1))) (some (sgD c)) x10 A h q l) (o::G)) fun p=>p.1 = .nx/\PM m n 0 w ws cs N k x3 x5 h q l g C L (i+1) p.2.1 p.2.2:=by
 have e:=(gE1.mp hg).1;have R:∀S,dH (.tup (nmD ws)) S=some (.int (ws.length:Nat),S):=fun S=>by rw[fH,dD]
 unfold qt;refine dy (fun r V=>∃f a b,Hnd f (n+2*i+2)/\a<ws.length/\b<ws.length/\V=f::G/\r=evL N k x3 (some (webD w)) x5 (some (stD ws cs)) (some (.tup (nmD ws))) (some (.ref (g+1))) (some (sgD c)) (some (.int (a:Nat))) (some (.int (b:Nat))) h q l) ?_ ?_
 ·walk_at"w";simp only[dD];refine eZ ho (by lia) (by lia) (by lia) fun a f j I=>?_;walk_at"w"
  try simp only[dD]
  refine eZ j (by lia) (by lia) (by lia) fun b O y H=>?_;walk_at"w";exact⟨O,a,b,y,by lia,by lia,rfl,rfl⟩
 rintro r V ⟨f,a,b,j,I,H,rfl,rfl⟩;unfold dX;rw[cX];refine fv ?_;refine W.of (x:=(.ref (g+1),_)) rfl ⟨g+1,M,rfl,by rw[gC1];exact hg,?_⟩;have B:ri (.int (a:Nat)) (.int (b:Nat)) (f::G)=some (.int ((min a b:Nat):Int),f::G):=by
  have:(if((b:Nat):Int)<(a:Nat)then((b:Nat):Int)else(a:Nat))=((min a b:Nat):Int):=by split<;>lia
  show some (D.int _,_)=_;rw[this]
 have v:xc (.int (a:Nat)) (.int (b:Nat)) (f::G)=some (.int ((max a b:Nat):Int),f::G):=by
  have:(if((b:Nat):Int)>(a:Nat)then((b:Nat):Int)else(a:Nat))=((max a b:Nat):Int):=by split<;>lia
  show some (D.int _,_)=_;rw[this]
 ((try walk_at"w");repeat(simp only[B,v];try walk_at"w"))
 have F:∀d∈[coT c,alT a b c,alT (min a b) (max a b) c],Pap m ws.length d:=fun d t=>by
  simp only[ak,bq,or_false]at t;rcases t with rfl|rfl|rfl
  ·exact .co c ht
  ·exact .al a b c ht I H
  ·exact .al _ _ c ht (by lia) (by lia)
 have E:∀d∈M++[coT c,alT a b c,alT (min a b) (max a b) c],Pap m ws.length d:=fun d t=>by
  rcases am.mp t with z|z
  ·exact K d z
  ·exact F d z
 refine DC (xs:=M) (ys:=[coT c,alT a b c,alT (min a b) (max a b) c]) (k:=G.length+1) (by rw[gC1,gL1 e];exact hg) (by rw[gC1,c6];rfl) (by simp;lia) ?_;rw[b0,cD _ _ e];refine .mk f _ (M++[coT c,alT a b c,alT (min a b) (max a b) c]) _ _ _ (j.more (by lia)) ?_ ?_ ?_ E (by simp;lia)
 ·exact hC (wp Q (vq E)) (rH (vq F))
 ·rw[gL1 (by rw[aH];exact e),ap e]
 ·rw[gL1 (by rw[aH];exact(gE1.mp s).1),gS1 u];exact s
theorem Cm{n:Nat}{N:D}{k:Int}{o:Ob}{G:Sto}{x3 x4 x5 x6 x7 x8 x9 x10 e c b a:Option D}(ho:Hnd o n)(hn:n<=2^36)(hG:G.all (Ob.und 0)=true):
  W (qp (evL N k x3 x4 x5 x6 x7 x8 x9 x10 e c b a) (o::G)) fun p=>p.1 = .nx /\ ∃o' G' x4 x5 x6 x7 x8 x9 x10 e c b a,Hnd o' (n+500)/\G'.all (Ob.und 0)=true/\p.2=(evL N k x3 x4 x5 x6 x7 x8 x9 x10 e c b a,o'::G'):=by
 unfold qp;refine dy (fun r V=>∃m w g U,0<m/\m<=8/\WebJ m w/\g.length=m/\(∀x∈g,x<8)/\Hnd U (n+300)/\V=U::G/\r=evL N k x3 (some (webD w)) (some (.tup (nmD g))) x6 x7 x8 x9 x10 e c b a) ?_ ?_
 ·walk_at"w";refine GO ho (by lia) (Gw hG) fun m w g o' f u A j s Z=>?_;walk_at"w";exact⟨m,w,g,o',f,u,A,j,s,Z,rfl,rfl⟩
 rintro r V ⟨m,w,g,U,f,u,A,j,s,P,rfl,rfl⟩;refine dy (fun r V=>∃ws l t,(∀x∈ws,x<m)/\0<ws.length/\ws.length<=20/\Hnd t (n+350)/\V=t::G/\r=evL N k x3 (some (webD w)) (some (.tup (nmD g))) (some (stD ws l)) x7 x8 x9 x10 e c b a) ?_ ?_
 ·simp(implicitDefEqProofs:=false) only[dk,m2,mV,mN,cT,cU,mC,b2,gN,cX,da,rK,oS1,ci,gC1,lC1,aO,cj,b0,ck,JJ,true_and];refine Bc A f u j P (by lia) (by decide) (Gw hG) fun ws l t q h1 h2 z h4=>?_;exact⟨ws,l,t,h1,h2,z,q.more (by lia),rfl,rfl⟩
 rintro r V ⟨ws,l,t,R,hw0,v,q,rfl,rfl⟩;refine dy (fun r V=>V=t::(G++[.lst []])/\r=evL N k x3 (some (webD w)) (some (.tup (nmD g))) (some (stD ws l)) (some (.tup (nmD ws))) (some (.ref (G.length+1))) x9 x10 e c b a) ?_ ?_
 ·have s0:∀S,c7 (stD ws l) (.int 0) S=some (.tup (nmD ws),S):=fun S=>jj (i:=0) rfl
  ((try walk_at"w");repeat(simp only[s0];try walk_at"w"))
 rintro r V ⟨rfl,rfl⟩;refine dy (fun r V=>∃kf L,PM m (n+380) 0 w ws l N k x3 (some (.tup (nmD g))) c b a G.length kf L L.length r V/\L.length<=25) ?_ ?_
 ·walk_at"w";have T:(G++[Ob.lst []]).all (Ob.und 0)=true:=hC hG rfl;have hn':n+350<=2^37:=by lia
  refine yX A f u j s q hn' T fun o3 H kf L X h1 h2 z h4 h5=>?_;have z:G.length+1<=kf:=by rw[lA1]at z;exact z
  refine dz (xs:=L) (by rw[gC1];exact h2) ?_;dsimp only;refine dP (fun i r V=>i<=L.length/\PM m (n+380) 0 w ws l N k x3 (some (.tup (nmD g))) c b a G.length kf L i r V) _ 0 _ _ ⟨aR _,?_⟩ ?_ ?_ ?_
  ·refine PM.mk (n:=n+380) (i:=0) o3 _ [] _ _ _ (Hnd.more X (by lia)) h1 ?_ h2 (fun d h=>by cases h) rfl;rw[bj,c6];rfl
  ·rintro i r V ⟨_,B,F,M,x9,x10,e,E,I,y,J,K,Y⟩;exact d3 (by rw[gC1];exact J)
  ·rintro i d C r V ⟨hi,B,F,M,x9,x10,e,E,I,y,J,K,Y⟩;rw[bu]at *
   obtain⟨ts,ht,rfl⟩:=h4 d (gM1 C);have hil:=(gE1.mp C).1;walk_at"w";refine(A6 (n:=n+380) (by lia) ht hw0 v E (by lia) (by lia) I y J K Y).mono ?_;rintro p ⟨O,Q⟩;exact⟨O,by lia,Q⟩
  ·rintro r V ⟨_,h⟩;rw[bu]at h;exact⟨rfl,kf,L,h,h5⟩
 rintro r V ⟨kf,L,⟨B,F,M,x9,x10,e,E,I,y,J,K,Y⟩,hL⟩;walk_at"w";refine dz (xs:=M) (by rw[gC1];exact y) ?_;refine dP (fun i r V=>V=B::F /\ ∃c b a,r=evL N k x3 (some (webD w)) (some (.tup (nmD g))) (some (stD ws l)) (some (.tup (nmD ws))) (some (.ref (G.length+1))) x9 x10 e c b a) _ 0 _ _ ⟨rfl,_,_,_,rfl⟩ ?_ ?_ ?_
 ·rintro i r V ⟨rfl,_⟩;exact d3 (by rw[gC1];exact y)
 ·rintro i d C r V ⟨rfl,c,b,a,rfl⟩;walk_at"w";refine(Gs A f u R (K d (gM1 C))).mono ?_;rintro p ⟨O,Q,b,a,z3⟩;exact⟨O,Q,_,_,_,z3⟩
 ·rintro r V ⟨rfl,c,b,a,rfl⟩;exact⟨rfl,B,F,_,_,_,_,_,_,_,_,_,_,_,E.more (by lia),I,rfl⟩
theorem Go(ns:List Int)(k:Int)(J:0<=k)(hk:k<63):W (qo [some (.rol (ns.map D.int)),some (.int k),none,none,none,none,none,none,none,none,none,none,none,none,none] []) fun p=>p.1 = .nx /\ ∃x,p.2.1=some (.rol (ns.map D.int))::x/\x.length=14:=by
 unfold qo;generalize I:D.rol (ns.map D.int)=N;refine dy (fun r S=>∃o,Hnd o 0/\S=[o]/\r=evL N k none none none none none none none none none none none none) ?_ ?_
 ·obtain⟨o,e,u⟩:=CF ns k J hk;rw[I]at e
  ((try walk_at"w");repeat(simp only[e];try walk_at"w"))
  exact⟨o,u,rfl,trivial⟩
 rintro r S ⟨o,u,rfl,rfl⟩;walk_at"w";refine⟨uN (by decide) (by decide),?_⟩;refine dP (fun i r S=>∃o' G q s t v m n l b g a h c,i<=2/\Hnd o' (500*i)/\G.all (Ob.und 0)=true/\S=o'::G/\r=evL N k q s t v m n l b g a h c) _ 0 _ _ ⟨o,[],_,_,_,_,_,_,_,_,_,_,_,_,by lia,u,rfl,rfl,rfl⟩ (fun _ _ _ _=>rfl) ?_ ?_
 ·rintro i d B r S ⟨o',G,q,s,t,v,m,n,l,b,g,a,h,c,hi,j,A,rfl,rfl⟩;have f:=(gE1.mp B).1;rw[eg]at f;have f:i<2:=f;rw[bu]at *
  walk_at"w";have w:500*i<=2^36:=by lia
  refine(Cm (N:=N) (k:=k) j w A).mono ?_;rintro⟨R,p⟩ ⟨z,M,G2,V,X,Q,P,U,T,O,F,H,L,E,C,K,y⟩;dsimp only at z y;subst y;exact⟨z,M,G2,_,_,_,_,_,_,_,_,_,_,_,_,by lia,C.more (by lia),K,rfl,rfl⟩
 ·rintro r S ⟨o',G,q,s,t,v,m,n,l,b,g,a,h,c,hi,j,A,rfl,rfl⟩;exact⟨rfl,_,rfl,rfl⟩
theorem truth(ns:List Int)(B:ns.length<=63):∃S,m_law [.rol (ns.map D.int)] []=some (.bl true,S):=by
 have g:W (m_law [.rol (ns.map D.int)] []) fun p=>p.1 = .bl true:=by
  unfold m_law;refine kn ?_;unfold Av;have s:(D.rol (ns.map D.int)).und 0=true:=by simp[D.und,l6]
  have w:=fun k o y=>Go ns k o y;generalize n:D.rol (ns.map D.int)=N at *
  have b:dH N []=some (.int ns.length,[]):=by rw[<- n];simp[dH,dj]
  refine dy (fun r S=>S=[]/\r=[some N,none,none,none,none,none,none,none,none,none,none,none,none,none,none]) ?_ ?_
  ·simp only [gE,mP1,aL,lC1,aO,ck,Nat.reduceSub,Ha,aS,cf,ee,cX,AE,cT,mN,mC,mV,cU,b1,b2,xc,ri,b,da,oS1,ci,Hb];have v:∃ t:Nat,t<=4/\(if (if (ns.length:Int)<4 then (ns.length:Int) else 4)>1 then (if (ns.length:Int)<4 then (ns.length:Int) else 4) else 1)=(t:Int):=by
    by_cases h1:(ns.length:Int)<4
    ·rw[if_pos h1];by_cases h2:(ns.length:Int)>1
     ·rw[if_pos h2];exact⟨ns.length,by lia,rfl⟩
     ·rw[if_neg h2];exact⟨1,by lia,rfl⟩
    ·rw[if_neg h1];exact⟨4,by lia,by decide⟩
   obtain⟨t,A,te⟩:=v;rw[te,Int.toNat_natCast];refine⟨fB (by lia),?_⟩;refine dP (fun _ r S=>S=[]/\r=[some N,none,none,none,none,none,none,none,none,none,none,none,none,none,none]) _ 0 _ _ ⟨rfl,rfl⟩ (fun _ _ _ _=>rfl) ?_ ?_
   ·rintro i d l r S ⟨rfl,rfl⟩;obtain⟨k,e,u,C⟩:=sM (gM1 l);subst e;simp only[gN,b0,cj,da];obtain⟨⟨f,r2,z⟩,q,j,m,a,c⟩:=w k u (by lia);dsimp only at j a;subst j;subst a;refine W.of (x:=(.nx,[some N,none,none,none,none,none,none,none,none,none,none,none,none,none,none],[])) ?_ ⟨rfl,rfl,rfl⟩
    match m,c with
    |[z1,z2,z3,z4,z5,z6,z7,z8,z9,z10,z11,z12,z13,z14],_=>
     unfold vr pq;simp[fD,lq,D.und,s,q]
   ·rintro r S ⟨rfl,rfl⟩;exact⟨rfl,rfl,rfl⟩
  ·rintro r S ⟨rfl,rfl⟩;simp only[dW,mC,oS1,da]
 obtain⟨⟨d,S⟩,e,h⟩:=g;dsimp only at h;exact⟨S,by rw[e,h]⟩
end Law
end
open PySem PySem.W PyProof.Rows
noncomputable def PySem.W.Fast.tw14106324254765391537:=()
noncomputable def PySem.W.Fast.tw17242569209800344937:=()
noncomputable def PySem.W.Fast.tw12135267428544192712:=()
noncomputable def PySem.W.Fast.tw15019559775877197571:=()
noncomputable def PySem.W.Fast.tw8636561180596379179:=()
noncomputable def PySem.W.Fast.tw8063898010629790609:=()
noncomputable def PySem.W.Fast.tw51123375007624835:=()
noncomputable def PySem.W.Fast.tw14716020873033133361:=()
noncomputable def PySem.W.Fast.tw3483169129522751085:=()
noncomputable def PySem.W.Fast.tw17349548498665605546:=()
noncomputable def PySem.W.Fast.tw17410663412467206958:=()
noncomputable def PySem.W.Fast.tw3312561695222288652:=()
noncomputable def PySem.W.Fast.tw1360133893102723850:=()
noncomputable def PySem.W.Fast.tw8643779573121480635:=()
noncomputable def PySem.W.Fast.tw4543357426574600334:=()
noncomputable def PySem.W.Fast.tw12836691503755390943:=()
noncomputable def PySem.W.Fast.tw6972451843553717699:=()
noncomputable def PySem.W.Fast.tw8702472066754633055:=()
noncomputable def PySem.W.Fast.tw4213015350938317963:=()
noncomputable def PySem.W.Fast.tw1940462307079022680:=()
noncomputable def PySem.W.Fast.tw2730669386400151680:=()
noncomputable def PySem.W.Fast.tw13644794343304051595:=()
noncomputable def PySem.W.Fast.tw17892658300996777456:=()
noncomputable def PySem.W.Fast.tw16622314705258706711:=()
noncomputable def PySem.W.Fast.tw13941463583320427788:=()
noncomputable def PySem.W.Fast.tw15254207789015196043:=()
noncomputable def PySem.W.Fast.tw7040922047616013735:=()
noncomputable def PySem.W.Fast.tw13460200036286268812:=()
noncomputable def PySem.W.Fast.tw5006724733119881958:=()
noncomputable def PySem.W.Fast.tw14665323776236135301:=()
noncomputable def PySem.W.Fast.tw16292260972543408723:=()
noncomputable def PySem.W.Fast.tw5622207271905929030:=()
noncomputable def PySem.W.Fast.tw7539859552056008262:=()
noncomputable def PySem.W.Fast.tw5891875066026504791:=()
noncomputable def PySem.W.Fast.tw5331160759835338849:=()
noncomputable def PySem.W.Fast.tw8918291451477835314:=()
noncomputable def PySem.W.Fast.tw8883361382878722904:=()
noncomputable def PySem.W.Fast.tw17485959446334188841:=()
noncomputable def PySem.W.Fast.tw11621542094956124190:=()
noncomputable def PySem.W.Fast.tw11812111902513891914:=()
noncomputable def PySem.W.Fast.tw3243557613369697244:=()
noncomputable def PySem.W.Fast.tw2585645775919535737:=()
noncomputable def PySem.W.Fast.tw2112720523377636253:=()
noncomputable def PySem.W.Fast.tw3306198665674350105:=()
noncomputable def PySem.W.Fast.tw18272805038460364317:=()
noncomputable def PySem.W.Fast.tw10022198033847492847:=()
noncomputable def PySem.W.Fast.tw10865946659320982255:=()
noncomputable def PySem.W.Fast.tw14449094436929841801:=()
noncomputable def PySem.W.Fast.tw9005575848622653193:=()
noncomputable def PySem.W.Fast.tw2919587943112848660:=()
noncomputable def PySem.W.Fast.tw9965872138206732035:=()
noncomputable def PySem.W.Fast.tw737898527282197823:=()
noncomputable def PySem.W.Fast.tw4366595975754126625:=()
noncomputable def PySem.W.Fast.tw14620715748674793639:=()
noncomputable def PySem.W.Fast.tw11047785939978330530:=()
noncomputable def PySem.W.Fast.tw6623112969177537896:=()
noncomputable def PySem.W.Fast.tw4830794626662774358:=()
noncomputable def PySem.W.Fast.tw690010193266718060:=()
noncomputable def PySem.W.Fast.tw11725334860754293808:=()
set_option maxRecDepth 100000 in
set_option maxHeartbeats 0 in
theorem PySem.Challenge.cw_ringmeet_k36_papers_of_any_colouring_holds : PySem.Challenge.rw_ringmeet_k36_papers_of_any_colouring.Holds := by
 w_on;o_law;k_head;(case hw=>w_witness2)
 k_fill
 refine Mi.walk_m (l:=PySem.Challenge.rw_ringmeet_k36_papers_of_any_colouring) (m:=Law.m_law) (k:=5) (x:="_law_script") rfl rfl ⟨rfl,by decide,by decide,rfl⟩ (fun w h Y=>PySem.W.kIn_of Y) Law.truth ?F
 case F=>
  intro w mg e h d G b;refine' Law.all_mk d G b ?a1 ?a2 ?a3 ?a4 ?a5 ?a6 ?a7 ?a8 ?a9 ?a10 ?a11 ?a12 ?a13 ?a14 ?a15 ?a16 ?a17 ?a18 ?a19 ?a20 ?a21 ?a22 ?a23 ?a24 ?a25 ?a26 ?a27 ?a28 ?a29 ?a30 ?a31 ?a32 ?z_all ?z_any ?z_bool ?z_enumerate ?z_int ?z_isinstance ?z_len ?z_list ?z_max ?z_min ?z_range ?z_set ?z_sorted ?z_str ?z_tuple ?z_zip
  all_goals try (refine' Mi.Ij ?a ?l ?c ?k;(case a=>k_is);(case l=>k_is);(case c=>k_is);(case k=>k_is))
  all_goals k_is

